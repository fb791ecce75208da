import PyProof.Rows.All
import Wide.All
import OpenK.AllK
import Wide.FinOn
import Lean
import PyProof.EqAt
import PyProof.EqKinds
import PyProof.TupleCall
import PyProof.Rows.SortKey
import PyProof.StationsW
import KE.KSortAsk
import KE.KSortTup
import KE.KDictSum
import PyProof.TupleIter
import PyProof.EnumStmt
import PyProof.ZipIter
import PyProof.WalksMore
import PyProof.Rows.ZipGen
import PyProof.Rows.FactsT2
import PyProof.TupleKey
import KE.KDictLaws
import PyProof.DictItems
import PyProof.LayNew
import PySem.Challenge.RW_ringkeep_k05_keeps_by_hand
set_option genSizeOf false
set_option Elab.async false
set_option linter.all false
set_option maxRecDepth 100000
abbrev Z1:PySem.Str:={cps:= #[75,101,101,112]}
abbrev Z2:PySem.Str:={cps:= #[107,101,112,116]}
abbrev Z3:PySem.Str:={cps:= #[78,111,72,97,110,100]}
abbrev Z4:PySem.Str:={cps:= #[99,105,114,99,108,101]}
abbrev Z5:PySem.Str:={cps:= #[78,111,75,101,121]}
abbrev Z6:PySem.Str:={cps:= #[103,111]}
abbrev Z7:PySem.Str:={cps:= #[100,114,111,112]}
abbrev Z8:PySem.Str:={cps:= #[115,101,110,100]}
abbrev Z9:PySem.Str:={cps:= #[99,111,112,105,101,115]}
abbrev Za:PySem.Str:={cps:= #[99,111,109,101]}
abbrev Zb:PySem.Str:={cps:= #[109,101,110,100]}
abbrev Zc:PySem.Str:={cps:= #[112,117,116]}
abbrev Zd:PySem.Str:={cps:= #[107,101,101,112,101,114,115]}
abbrev Ze:PySem.Str:={cps:= #[102,97,108,108]}
abbrev Zf:PySem.Str:={cps:= #[82,105,110,103,69,114,114,111,114]}
theorem Vo:type_of% @of_decide_eq_true:=@of_decide_eq_true
theorem VJ:type_of% @congrArg:=@congrArg
theorem VR:type_of% @if_false:=@if_false
theorem Wc:type_of% @decide_eq_true:=@decide_eq_true
theorem Wr:type_of% @decide_eq_false:=@decide_eq_false
theorem Xv:type_of% @decide_true:=@decide_true
noncomputable section
open PySem renaming wpAny_bind→My,Heap.get?_push_of_some→Uv,wpAny_pure→Uw,Heap.get?_push_size→UW,Heap.lt_size→U4,Heap.get?_update_other→Ve,wpAny_field→Vs,mem_of_lookup→Vv,wpAny_holding→VB,wpAny_newObj_type→VF,wpAny_mono→VH,sizeLine_eq→VL,wpAny_setField_rec→VN,wpAny_call_entry→VV,wpAny_callSpecial?_slot→V1,Str.length_append→Wa,Heap.get?_update_self→Wd,F.slot_dict_itemiterator_next→Wo,Obj.data_mapFields→Wv,F.plain_extend_loop→Ww,wpAny_typeOf→Wy,codeAny_builtin→Wz,Around.under_plainId→WF,wpAny_typeNameOfWhole_itemiter→WK,Obj.isFreed_of_fields→WQ,F.slot_tuple_iterator_next→WX,wpAny_setField→W6,F.plain_list_iadd→Xe,wpAny_attempt→Xf,wpAny_pyIter_tuple→Xg,wpAny_rule→Xh,Heap.size_push→Xm,codeAny_mono→Xn,Value→ai,Shared→aE,Addr→ay,Expr→br,Stmt→eL,sizeLine→aT,wpAny→bg,Program→bX,World→ck,Around→cy,Heap→cK,W.Frag→aI,W.nsIn→bS,W.kitOne→dS,W.findIn→eB,W.subIn→eT,W.keepIn→e8,W.emptyDict→ff,W.fnOf→fF,W.exmOne→fy,W.instObj→fE,W.excIn→f7,W.clsIn→gS,W.InstAt→iO,W.codeIn→iP,W.tailIn→iS,W.kitCls→iX,W.mg_of→kB,W.lookIn→lT,W.plainGet→jI,W.isFn→oB,W.typeIn→mh,Within→tw,W.methodObj→mT,W.hasDictIn→ng,W.plainGet_of→kF,W.takerIn→oQ,W.makesIn→oS,W.looks_findIn→jS,F.slot_tuple_add→ia,F.entry_tuple_add→gE,F.args_tuple_add_2→gx,call→xS,W.OpenLaw→pe,W.findObj→pS,F.plainAttrs_dict→gI,W.callWith_K→kQ,W.nsOkIn→qV,W.handedIn→tN,W.plainOver→r6,W.cellsFrom_some→ny,IsL.update→tP,list_append→r8,F.slot_dict_pop→om,W.WalkO→yk,W.mroIn→yv,W.Looks→yT,F.plain_proto_collect→jv,F.plainAttrs_list→mP,W.exm_one→vS,W.kia_one→wc,F.slot_dict_setdefault→i6,F.entry_dict_itemiterator_next→f6,F.args_dict_itemiterator_next_1→fT,F.entry_extend_loop→kH,F.slot_dict_items→mS
open List renaming nil_append→Uu,cons_append→Uy,length_map→UG,mem_cons→UJ,getElem?_eq_some_iff→UL,append_nil→UT,getElem?_append_left→UV,map_cons→U0,length_cons→U5,getElem?_set_ne→U6,length_filter_le→U7,mem_filter→U9,mem_map→Va,getElem?_eq_getElem→Vc,pairwise_cons→Vd,map_nil→Vg,length_append→Vh,mem_append_right→Vi,length_nil→Vj,getElem?_append_right→Vl,size_toArray→Vr,mem_append→Vt,getD_eq_getElem?_getD→Vu,getElem?_map→Vw,nodup_append→Vx,getElem?_set_self→Vy,pairwise_map→VG,mem_singleton→VM,filter_cons_of_neg→V2,filter_cons_of_pos→V3,mem_of_getElem?→V4,find?_cons→V5,take_of_length_le→V7,getElem?_take_of_lt→Wb,nodup_cons→Wf,filter_sublist→Wj,drop_eq_getElem_cons→Wk,length_take→Wl,mem_cons_of_mem→Wm,mem_append_left→Wn,length_singleton→Wu,pairwise_append→WD,map_map→WL,getElem?_replicate→WM,filter_eq_self→WN,length_set→WR,perm_append_comm→WW,append_assoc→WY,filter_congr→W4,mem_iff_getElem→W5,mem_range→W8,length_drop→W9,all_eq_true→Xa,map_congr_left→Xb,mem_map_of_mem→Xc,length_eq_zero_iff→Xd,filter_append→Xi,drop_eq_nil_of_le→Xj,mem_iff_getElem?→Xo,length_replicate→Xp,set_append_right→Xq,map_append→Xu,set→bP,replicate→bE,range→dc,length→e9,any_cons→kC,extract_eq_drop_take→fk,set_set→kT,getElem?_inj→iF,Perm.refl→mw,range'→rq,reverse_perm→iL,getElem_mem→j3,getElem_map→kc,drop_length→kg,all_cons→nS,filter_filter→gX,take_succ_cons→gy,filter_nil→kK,getElem_inj→nV,of_mem_zip→pT,drop_zero→rj,nodup_range→nX,Perm.append_left→i7,mem_of_mem_take→ko,length_pos_of_mem→iA,toList_toArray→kG,Perm.of_eq→pV,forIn_cons→p5,set_getElem_self→i8,filterMap_cons→qA,lookup→zS,take_sublist→r9,filter_cons→tS,Pairwise.nil→se,mem_cons_self→rL,any_toArray→tT,take_length→t9,Perm.swap→xB,range_eq_range'→p9,length_range→zI,take_one→yY,take_reverse→sf,mem_reverse→ua,drop_take→xC,take_take→xD,pairwise_reverse→oq,zipIdx_cons→uu,length_erase_of_mem→kU,getElem_cons_succ→nB,lookup_cons→uS,Perm.append_right→nE,Nodup→AH,Pairwise.imp_of_mem→kX,dropWhile_cons→qB,takeWhile_sublist→nI,dropWhile_sublist→nK,map→A7,all_nil→ze,find?_some→we,mem_of_find?_eq_some→kL,find?_eq_none→rS,cons.inj→y9,any_eq_true→u7,map_id→As,head?_filter→sj
open Option renaming some.inj→Ux,isSome_iff_exists→Vk,bind_eq_some_iff→VD,map_eq_some_iff→Wh,map_some→Ws,isSome_map→Xk,some→af,none→ah,bind_some→n5,getD_none→vc,none→Au,map_none→wm,join_some→ve
open Nat renaming le_refl→Uz,ne_of_lt→Vb,lt_of_lt_of_le→Vf,zero_add→Vm,le_trans→Vp,sub_self→Vz,ne_of_gt→VP,le_succ→Wt,zero_le→Wx,le_of_lt→Xl,lt_irrefl→Xr,reduceAdd→dP,reduceSub→dQ,le_of_not_lt→kq,lt_succ_self→n9,le_of_eq→zh,min_le_right→vj,succ_le_succ→vn,lt_trans→zk,sub_zero→zl,lt_succ_of_lt→sF
open PyProof renaming Rows.wpS_bind→U3,Rows.wpS_pure→U8,Rows.slot_tuple_getitem→V0,Rows.KeyOrd.kle_trans→V6,Rows.wpS_forRange→We,Rows.KeyOrd.kle_of_klt→Wq,Rows.callWith_type1→WP,Rows.KeyOrd.kle_refl→WT,Rows.int_text_len_1921→g9,Rows.IntsAre→qa,Rows.formatField_str→i9,Rows.boot_list→nN
open Bool renaming and_eq_true→Vn,false_eq_true→Vq,true→av,false→aS
open Classical renaming byContradiction→V8
open Array renaming length_toList→V9,perm_iff_toList_perm→Wg,toList_append→Wi,size_map→W7,getD→qf,toList_extract→ku,toList→zo,map_empty→wo,Perm.refl→xh,ext'→AI,size_push→xo,getElem?_push→qE
open Function renaming comp_def→W2
open Int renaming toNat_natCast→iN,emod_nonneg→qh,emod_lt_of_pos→ly,ne_of_lt→vt,le_trans→zv,emod_eq_of_lt→sL,toNat_of_nonneg→qS
namespace L2
open PySem PySem.Spec PyProof.Rows
def bQ{α β:Type}{A B C:α->β->Prop}{G:Prop}(h:∃x y,A x y/\B x y/\C x y)(k:∀x y,A x y->B x y->C x y->G):G:=by grind
abbrev Key:=Sum Int Str
def nH:Key->ai->Bool
 |.inl k,v=>Value.isInt k v|.inr x,v=>Value.isStrOf x v
def SQ(w:ck):Key->Int
 |.inl k=>hashInt k|.inr x=>hashStr w x
theorem gi:∀{k:Key}{v:ai},nH k v=av->(∃i t,k=Sum.inl i/\v=Value.int i t)\/(∃x t,k=Sum.inr x/\v=Value.str x t)
 |.inl i,v,h=>by obtain⟨t,e⟩:=Value.isInt_shape (k:=i) (v:=v) h;exact .inl ⟨i,t,rfl,e⟩
 |.inr x,v,h=>by obtain⟨t,e⟩:=Value.isStrOf_shape (x:=x) (v:=v) h;exact .inr ⟨x,t,rfl,e⟩
def Bs(i:Int)(t:Tok):nH (.inl i) (.int i t)=true:=by simp[nH,Value.isInt]
def Bt(x:Str)(t:Tok):nH (.inr x) (.str x t)=true:=by simp[nH,Value.isStrOf]
def Mm(a b:Int):decide ((Sum.inl a:Key)=Sum.inl b)=(a==b):=by lia
def Mp(a b:Str):decide ((Sum.inr a:Key)=Sum.inr b)=decide (a=b):=by lia
def Mq(a:Int)(b:Str):decide ((Sum.inl a:Key)=Sum.inr b)=false:=Wr (λq=>nomatch q)
def Mr(a:Str)(b:Int):decide ((Sum.inr a:Key)=Sum.inl b)=false:=Wr (λq=>nomatch q)
def aY(prog:bX)(w:ck):PySem.KeyKind prog w Key where
 is:=nH
 hash:=SQ w
 inj:=λv a b ha hb=>by
  rcases gi ha with⟨i,t,rfl,rfl⟩|⟨x,t,rfl,rfl⟩
  ·rcases gi hb with⟨j,u,rfl,e⟩|⟨y,u,rfl,e⟩
   ·lia
   lia
  ·rcases gi hb with⟨j,u,rfl,e⟩|⟨y,u,rfl,e⟩
   ·lia
   lia
 byValue:=λk v h=>by rcases gi h with⟨i,t,rfl,rfl⟩|⟨x,t,rfl,rfl⟩<;>rfl
 pyHash:=λhv h=>by
  rcases gi hv with⟨i,t,rfl,rfl⟩|⟨x,t,rfl,rfl⟩
  ·exact wpAny_pyHash_int h
  ·exact wpAny_pyHash_str h
 eqBool:=λhu hv h=>by
  rcases gi hu with⟨i,t,rfl,rfl⟩|⟨x,t,rfl,rfl⟩
  ·rcases gi hv with⟨j,u,rfl,rfl⟩|⟨y,u,rfl,rfl⟩
   ·rw[Mm]at h;exact wpAny_eqBool_int h
   ·rw[Mq]at h;exact SeqAt.EqAt.int_str i t y u _ _ _ _ h
  ·rcases gi hv with⟨j,u,rfl,rfl⟩|⟨y,u,rfl,rfl⟩
   ·rw[Mr]at h;exact SeqAt.EqAt.str_int x t j u _ _ _ _ h
   ·rw[Mp]at h;exact wpAny_eqBool_str h
 «strs»:=λk x t v h=>by
  rcases gi h with⟨i,u,rfl,e⟩|⟨y,u,rfl,e⟩
  ·lia
  ·injection e with e1 _
   subst e1;cases v<;>rfl
def wH(prog:bX)(w:ck)(i:Int)(t:Tok):(aY prog w).is (.inl i) (.int i t)=true:=Bs i t
def wI(prog:bX)(w:ck)(x:Str)(t:Tok):(aY prog w).is (.inr x) (.str x t)=true:=Bt x t
inductive V where
 |non|bl (b:Bool)|int (i:Int)|str (x:Str)|IM (b:Array UInt8)|flt (b:UInt64)|ref (a:ay)|ty (n:String)
def RelV:V->ai->Prop
 |.non,u=>u=Value.none|.bl b,u=>u=Value.bool b|.int i,u=>∃t,u=Value.int i t|.str x,u=>∃t,u=Value.str x t|.IM b,u=>∃t,u=Value.bytes b t|.flt b,u=>∃t,u=Value.float b t|.ref a,u=>u=Value.ref a|.ty n,u=>u=Value.type n
abbrev Vals:List V->List ai->Prop:=Paired RelV
theorem Vals.length{xs:List V}{us:List ai}(r:Vals xs us):xs.length=us.length:=Paired.length r
theorem Vals.get:∀{xs:List V}{us:List ai}{i:Nat}{x:V},Vals xs us->xs[i]?=af x->∃u,us[i]?=af u/\RelV x u
 |_,_,_,_,.nil,e=>by simp at e|_,_,0,_,.cons r _,e=>by simp_all|_,_,i+1,x,.cons _ t,e=>by
  obtain⟨u,h1,h2⟩:=Vals.get (i:=i) (x:=x) t (by simpa using e)
  simp_all
theorem Vals.set{x:V}{u:ai}(r:RelV x u):∀{xs:List V}{us:List ai}(i:Nat),Vals xs us->Vals (xs.set i x) (us.set i u)
 |_,_,_,.nil=> .nil|_,_,0,.cons _ t=> .cons r t|_,_,i+1,.cons q t=> .cons q (Vals.set r i t)
theorem Vals.append:∀{xs ys:List V}{us ws:List ai},Vals xs us->Vals ys ws->Vals (xs++ys) (us++ws)
 |_,_,_,_,.nil,s=>s|_,_,_,_,.cons r t,s=> .cons r (Vals.append t s)
theorem Vals.take:∀{xs:List V}{us:List ai}(n:Nat),Vals xs us->Vals (xs.take n) (us.take n)
 |_,_,0,_=> .nil|_,_,_+1,.nil=> .nil|_,_,n+1,.cons r t=> .cons r (Vals.take n t)
theorem Vals.drop:∀{xs:List V}{us:List ai}(n:Nat),Vals xs us->Vals (xs.drop n) (us.drop n)
 |_,_,0,r=>r|_,_,_+1,.nil=> .nil|_,_,n+1,.cons _ t=>Vals.drop n t
def fL:Option V->Option ai->Prop
 |some v,af u=>RelV v u|none,ah=>True|_,_=>False
def KV{κ:Type}:List (κ×V)->List (κ×ai)->Prop:=Paired λ(p:κ×V)(q:κ×ai)=>p.1=q.1/\RelV p.2 q.2
def kV:Key->V
 |.inl i=> .int i|.inr x=> .str x
inductive HO where
 |lst (xs:List V)|tup (xs:List V)|dK (kvs:List (Key×V))|dT (kvs:List (List Key×V))|set (S:Int->Bool) (n:Nat)|ins (C dx:ay) (fs:List (Str×V))|own (x:ay)|xd (fs:List (Str×V))|met (f x:ay)|A8 (lo hi:Int)|sP (o:Obj) (u:HO)|FO (ps:Array ai)|ext (φ:cK->Prop)
abbrev Hp:=ay->Option HO
def upd(H:Hp)(a:ay)(o:HO):Hp:=λb=>if b=a then af o else H b
def bj{H:Hp}{a:ay}{o:HO}:upd H a o a=af o:=by unfold upd;lia
def aB{H:Hp}{a b:ay}{o:HO}(h:b≠a):upd H a o b=H b:=by unfold upd;rw[if_neg h]
def dh{H:Hp}{a b:ay}{o u:HO}(h:H a=af o)(h':H b=af u)(d:o≠u):a≠b:=by lia
def aU{H:Hp}{a b:ay}{o:HO}(h:H a=af o)(h':H b=ah):a≠b:=by lia
section
variable(P:bX)(w:ck)
def bG(H:Hp)(h:cK)(a:ay):HO->Prop
 |.lst xs=>xs.length<=aT/\∃(its:List ai)(n:Nat),Vals xs its/\h.get? a=af {cls:= .type "list",data:= .seq its.toArray n}|.tup xs=>xs.length<=aT/\∃its:List ai,Vals xs its/\IsTup h a its.toArray/\∃o,h.get? a=af o/\o.dict=ah/\o.slots= #[]|.dK kvs=>kvs.length<=aT/\(a==sysModules)=aS/\∃vs,KV kvs vs/\h.DictOf (aY P w) a vs|.dT kvs=>kvs.length<=aT/\(a==sysModules)=aS/\∃xs:List (List Key×ay×ai),
   Paired (λ(p:List Key×V)(q:List Key×ay×ai)=>p.1=q.1/\H q.2.1=af (.tup (p.1.map kV))/\RelV p.2 q.2.2) kvs xs/\
   ∃o es ep,h.get? a=af o/\o.ExactDict/\o.data= .dict es ep/\es.toList=xs.map (entryOfKey (tupleKind (aY P w)))/\(xs.map (·.1)).Nodup
 |.set S n=>h.SetOf (intKind P w) a S n|.ins C dx fs=>H dx=af (.own a)/\fs.length<=1000/\dx≠a/\h.get? a=af (fE C dx)/\
   ∃mA,h.Ns1 dx mA/\(∀f,fL (fs.lookup f) (mA f))/\tw mA (fs.map (·.1))
 |.own _=>∃o,h.get? a=af o|.xd fs=>∃mA,h.Ns1 a mA/\∀f,fL (fs.lookup f) (mA f)|.A8 lo hi=>∃t u v,h.get? a=af {cls:= .type "range",data:= .fields #[.int lo t,.int hi u,.int 1 v]}|.sP o u=>h.get? a=af o/\bG H h a u|.FO ps=>h.get? a=af {cls:= .none,data:= .fields ps}|.met f x=>h.get? a=af (mT (.ref f) (.ref x))|.ext φ=>φ h/\(∃o,h.get? a=af o)/\∀h1 h2:cK,φ h1->(∀o,h1.get? a=af o->h2.get? a=af o)->φ h2
def zC(H:Hp)(h:cK):Prop:=∀a o,H a=af o->bG P w H h a o
end
section
variable{P:bX}{w:ck}{H H':Hp}{h h':cK}{a:ay}{o:HO}
theorem bG.lt(x:bG P w H h a o):a<h.objs.size:=by
 cases o with
 |lst xs=>obtain⟨_,_,_,_,e⟩:=x;exact U4 e
 |tup xs=>obtain⟨_,_,_,p,_⟩:=x;exact p.lt
 |dK kvs=>obtain⟨_,_,_,_,o,_,_,e,_⟩:=x;exact U4 e
 |dT kvs=>obtain⟨_,_,_,_,o,_,_,e,_⟩:=x;exact U4 e
 |set S n=>obtain⟨o,_,_,_,e,_⟩:=x;exact U4 e
 |ins C dx fs=>obtain⟨_,_,_,e,_⟩:=x;exact U4 e
 |own y=>obtain⟨_,e⟩:=x;exact U4 e
 |xd fs=>obtain⟨_,⟨_,_,_,e,_⟩,_⟩:=x;exact U4 e
 |A8 lo hi=>obtain⟨_,_,_,e⟩:=x;exact U4 e
 |sP ob u=>obtain⟨e,_⟩:=x;exact U4 e
 |FO ps=>exact U4 (show h.get? a=af _ from x)|met f y=>exact U4 (show h.get? a=af _ from x)|ext φ=>obtain⟨_,⟨_,e⟩,_⟩:=x;exact U4 e
theorem Paired.GL{α β:Type}{F G:α->β->Prop}:∀{l₁:List α}{l₂:List β},Paired F l₁ l₂->(∀a b,F a b->G a b)->Paired G l₁ l₂
 |_,_,.nil,_=> .nil|_,_,.cons r t,f=> .cons (f _ _ r) (Paired.GL t f)
theorem bG.stay(x:bG P w H h a o)(k:∀b u,(b=a\/H b=af (.own a))->h.get? b=af u->h'.get? b=af u)(ho:∀b,H b=af (.own a)->H' b=af (.own a))(ht:∀b xs,H b=af (.tup xs)->H' b=af (.tup xs)):bG P w H' h' a o:=by
 induction o with
 |lst xs=>obtain⟨z,its,n,r,e⟩:=x;exact⟨z,its,n,r,k _ _ (.inl rfl) e⟩
 |tup xs=>obtain⟨z,its,r,⟨ob,e,c⟩,o2,e2,c2⟩:=x;exact⟨z,its,r,⟨ob,k _ _ (.inl rfl) e,c⟩,o2,k _ _ (.inl rfl) e2,c2⟩
 |dK kvs=>obtain⟨z,y,vs,r,ob,es,ep,e,c⟩:=x;exact⟨z,y,vs,r,ob,es,ep,k _ _ (.inl rfl) e,c⟩
 |dT kvs=>obtain⟨z,y,xs,r,ob,es,ep,e,c⟩:=x;exact⟨z,y,xs,Paired.GL r λp q z=>⟨z.1,ht _ _ z.2.1,z.2.2⟩,ob,es,ep,k _ _ (.inl rfl) e,c⟩
 |set S n=>obtain⟨ob,es,ep,t,e,c⟩:=x;exact⟨ob,es,ep,t,k _ _ (.inl rfl) e,c⟩
 |ins C dx fs=>obtain⟨d,z,ne,e,mA,⟨od,es,ep,e2,c⟩,r⟩:=x;exact⟨ho _ d,z,ne,k _ _ (.inl rfl) e,mA,⟨od,es,ep,k _ _ (.inr d) e2,c⟩,r⟩
 |own y=>obtain⟨ob,e⟩:=x;exact⟨ob,k _ _ (.inl rfl) e⟩
 |xd fs=>obtain⟨mA,⟨od,es,ep,e,c⟩,r⟩:=x;exact⟨mA,⟨od,es,ep,k _ _ (.inl rfl) e,c⟩,r⟩
 |A8 lo hi=>obtain⟨t,u,v,e⟩:=x;exact⟨t,u,v,k _ _ (.inl rfl) e⟩
 |sP ob u ih=>obtain⟨e,q⟩:=x;exact⟨k _ _ (.inl rfl) e,ih q⟩
 |FO ps=>have e:h.get? a=af {cls:= .none,data:= .fields ps}:=x;show h'.get? a=af {cls:= .none,data:= .fields ps};exact k a _ (.inl rfl) e|met f y=>have e:h.get? a=af (mT (.ref f) (.ref y)):=x;show h'.get? a=af (mT (.ref f) (.ref y));exact k a _ (.inl rfl) e|ext φ=>obtain⟨p,⟨o,e⟩,st⟩:=x;exact⟨st _ _ p λo q=>k _ _ (.inl rfl) q,⟨o,k _ _ (.inl rfl) e⟩,st⟩
theorem zC.lt(x:zC P w H h)(e:H a=af o):a<h.objs.size:=(x a o e).lt
def zC.fresh(x:zC P w H h)(e:h.objs.size<=a):H a=none:=by
 cases q:H a with|none=>rfl|some u=>exact absurd (Vf (x.lt q) e) (Xr _)
def zC.kept(x:zC P w H h)(k:∀b u,h.get? b=af u->h'.get? b=af u):zC P w H h':=λa o e=>(x a o e).stay (λb u _ q=>k b u q) (λ_ q=>q) λ_ _ q=>q
def zC.laid(x:zC P w H h)(k:∀b u,h.get? b=af u->h'.get? b=af u)(hp:h.objs.size<=a)(new:bG P w (upd H a o) h' a o):zC P w (upd H a o) h':=λb u e=>by
 have hn:=x.fresh hp;by_cases hb:b=a
 ·subst hb;rw[bj]at e;lia
 ·rw[aB hb]at e;exact(x b u e).stay (λc v _ q=>k c v q) (λc q=>by rw[aB (aU q hn)];exact q) λc xs q=>by rw[aB (aU q hn)];exact q
end
def Rd(H:Hp)(a:ay)(u:HO):Prop:=H a=af u\/∃o,H a=af (.sP o u)
def Rd.ok{P:bX}{w:ck}{H:Hp}{h:cK}{a:ay}{u:HO}(r:Rd H a u)(x:zC P w H h):bG P w H h a u:=by
 rcases r with r|⟨o,r⟩
 ·exact x a u r
 ·obtain⟨_,q⟩:=x a _ r;exact q
def KL:Option HO->Prop
 |some (.lst _)=>True|some (.dK _)=>True|some (.dT _)=>True|some (.set _ _)=>True|some (.ins _ _ _)=>True|some (.ext _)=>True|_=>False
section
variable{P:bX}{w:ck}{H:Hp}{h h':cK}{x e:ay}{o':HO}
def zC.write(ok:zC P w H h)(mu:KL (H x))(he:e=x\/H e=af (.own x))(k:∀b u,b≠e->h.get? b=af u->h'.get? b=af u)(heo:∃u,h'.get? e=af u)(new:bG P w (upd H x o') h' x o'):zC P w (upd H x o') h':=λb u q=>by
 have NS:∀c y,H c=af (.own y)->c≠x:=λc y r z=>by subst z;rw[r]at mu;exact mu
 have NU:∀c xs,H c=af (.tup xs)->c≠x:=λc xs r z=>by subst z;rw[r]at mu;exact mu
 by_cases hb:b=x
 ·subst hb;rw[bj]at q;lia
 ·rw[aB hb]at q;by_cases hbe:b=e
  ·have q':H b=af (.own x):=by
    rcases he with z|z
    ·lia
    ·lia
   rw[q]at q';cases q';obtain⟨v,hv⟩:=heo;exact⟨v,by lia⟩
  ·refine(ok b u q).stay (λc v hc r=>k c v ?_ r) (λc r=>by rw[aB (NS c b r)];exact r) λc xs r=>by rw[aB (NU c xs r)];exact r
   grind
end
structure Un(fs ex:List ay)(H H':Hp)(h h':cK):Prop where
 keep:∀b o,h.get? b=af o->H b=ah->b∉fs->b∉ex->h'.get? b=af o
 slot:∀b o,h.get? b=af o->H b=ah->b∈fs->b∉ex->∃sl,h'.get? b=af {o with slots:=sl}
 free:∀b o,h.get? b=af o->H b=ah->b∉ex->H' b=ah
 there:∀b o,h.get? b=af o->b∉ex->∃o',h'.get? b=af o'
 tups:∀b xs,H b=af (.tup xs)->H' b=af (.tup xs)
 qk:∀b o u,H b=af (.sP o u)->H' b=af (.sP o u)
 AR:∀b ps,H b=af (.FO ps)->∃more,H' b=af (.FO (ps++more))
section
variable{fs ex:List ay}{H H1:Hp}{h h1 h':cK}{a x e:ay}{o:HO}
def Un.any(u:Un fs ex H H1 h h1){b:ay}{ob:Obj}(q:h.get? b=af ob)(n:H b=ah)(hx:b∉ex):∃sl,h1.get? b=af {ob with slots:=sl}:=by
 by_cases hb:b∈fs
 ·exact u.slot b ob q n hb hx
 ·exact⟨ob.slots,u.keep b ob q n hb hx⟩
def Un.kept(k:∀b u,h.get? b=af u->h'.get? b=af u):Un fs ex H H h h':=
 ⟨λb ob q _ _ _=>k b ob q,λb ob q _ _ _=>⟨ob.slots,k b ob q⟩,λ_ _ _ n _=>n,λb ob q _=>⟨ob,k b ob q⟩,λ_ _ q=>q,λ_ _ _ q=>q,λ_ ps q=>⟨#[],by rw[q];simp⟩⟩
def Un.refl:Un fs ex H H h h:=Un.kept λ_ _ q=>q
def Un.laid(k:∀b u,h.get? b=af u->h'.get? b=af u)(hp:h.objs.size<=a)(hn:H a=ah):Un fs ex H (upd H a o) h h' where
 keep:=λb u q _ _ _=>k b u q
 slot:=λb u q _ _ _=>⟨u.slots,k b u q⟩
 free:=λb u q n _=>by rw[aB (Vb (Vf (U4 q) hp))];exact n
 there:=λb u q _=>⟨u,k b u q⟩
 tups:=λb xs q=>by rw[aB (aU q hn)];exact q
 qk:=λb u xs q=>by rw[aB (aU q hn)];exact q
 AR:=λb ps q=>⟨#[],by rw[aB (aU q hn),q];simp⟩
def Un.write(mu:KL (H x))(he:e=x\/H e=af (.own x))(k:∀b u,b≠e->h.get? b=af u->h'.get? b=af u)(heo:∃u,h'.get? e=af u):Un fs ex H (upd H x o) h h':=by
 have hx:∀b,H b=ah->b≠x:=λb n z=>by subst z;rw[n]at mu;exact mu
 have hb:∀b,H b=ah->b≠e:=λb n z=>by lia
 have hm:∀b u,H b=af u->¬KL (af u)->b≠x:=λb u q nm z=>by lia
 refine⟨λb u q n _ _=>k b u (hb b n) q,λb u q n _ _=>⟨u.slots,k b u (hb b n) q⟩,λb u q n _=>by rw[aB (hx b n)];exact n,λb u q _=>?_,
  λb xs q=>by rw[aB (hm b _ q λz=>z)];exact q,λb u xs q=>by rw[aB (hm b _ q λz=>z)];exact q,λb ps q=>⟨#[],by rw[aB (hm b _ q λz=>z),q];simp⟩⟩
 grind
end
def MG(h:cK)(H:Hp):List Addr:=(dc h.objs.size).filter λa=>(H a).isSome
def kE(h:cK)(H:Hp):Heap:=PySem.W.hideAll h (MG h H)
def Bu(h:cK)(H:Hp):(kE h H).objs.size=h.objs.size:=PySem.W.hideAll_size _ _
def Gq{h:cK}{H:Hp}{b:ay}{o:Obj}(e:h.get? b=af o)(n:H b=ah):(kE h H).get? b=af o:=
 PySem.W.hideAll_get _ e λhm=>by
  have q:(H b).isSome=true:=(U9.mp hm).2
  simp_all
def Jz{h:cK}{H:Hp}{b:ay}{o:Obj}(e:(kE h H).get? b=af o):h.get? b=af o/\H b=none:=by
 have e':h.get? b=af o:=PySem.W.of_hideAll (MG h H) e;refine⟨e',?_⟩;cases q:H b with|none=>rfl|some x=>have hm:b∈MG h H:=U9.mpr ⟨W8.mpr (U4 e'),by simp[q]⟩;have z:(kE h H).get? b=none:=PySem.W.hideAll_none (MG h H) hm;lia
def JB(g h:cK)(L:ay):List (ay×Obj):=(dc h.objs.size).filterMap λa=>if a=L\/(g.get? a).isSome=av then ah else(h.get? a).map λo=>(a,o)
def rest(g h:cK)(L d:ay):List (ay×Obj):=(JB g h L).filter λp=>decide (p.1≠d)
structure Mod(K:aI)(mg:Str->Option ai)(base:cK):Prop where
 IP:K.In base
 glob:base.Ns mainGlobals mg
 blt:∃mb,base.Ns builtinsNs mb/\∀x:Str,x≠ "__name__" ->mb x=bootBuiltins x
 nolimit:base.NoLimit
structure Cx where
 prog:bX
 w:ck
 K:aI
 mg:Str->Option ai
 base:cK
 A:cy
 N:List Str
 s₀:aE
 H₀:Hp
 env:Env
 outer:List Env
 stack:List Env
 ex:List ay
 fn:Str->Bool
 calm:Bool
 pn:List (ay×Obj)
 xe:ai->aE->Prop
def frs(l:List Env):List Addr:=l.filterMap (·.frame)
abbrev Cx.fs(X:Cx):List Addr:=frs X.outer
def KO(sc:Scope)(x:Str):Prop:=sc.names.lookup x=af .local\/sc.names.lookup x=af .cell\/sc.names.lookup x=af .free
def Loc(sc:Scope)(x:Str):Prop:=sc.names.lookup x=af .local\/sc.names.lookup x=af .cell
def Look(env:Env)(h:cK)(m:Str->Option ai)(x:Str)(u:ai):Prop:=
 (env.kindOf x=af .local/\m x=af u)\/((env.kindOf x=af .cell\/env.kindOf x=af .free)/\∃c,env.cells.lookup x=af c/\h.IsCell c (af u))
structure Cx.Ok(X:Cx):Prop where
 mod:Mod X.K X.mg X.base
 kind:X.env.scope.kind= .function
 glob:X.env.globals=mainGlobals
 blt:X.env.builtins=builtinsNs
 above:X.s₀.heap.objs.size<=X.env.locals
 inj:∀x y c,X.env.cells.lookup x=af c->X.env.cells.lookup y=af c->x=y
 has:∀x,(X.env.kindOf x=af .cell\/X.env.kindOf x=af .free)->∃c,X.env.cells.lookup x=af c
 cab:∀x c,X.fn x=av->X.env.cells.lookup x=af c->X.s₀.heap.objs.size<=c
 hd:X.calm=av->X.A.handled=ah
 frames:X.A.frames=af X.stack
 stk:X.stack=X.outer\/(X.stack=X.env::X.outer/\X.env.frame=af X.env.locals)
 KP:∀b∈X.ex,b≠X.env.locals/\∀x c,X.env.cells.lookup x=af c->c≠b
 bs:∀b o,X.base.get? b=af o->X.s₀.heap.get? b=af o/\X.H₀ b=ah
 ET:X.base.objs.size<=X.s₀.heap.objs.size
 DO:∀b o,X.base.get? b=af o->b∉X.ex
 CI:∀b∈X.ex,b∉X.fs
 AJ:X.s₀.heap.FunFrames X.base X.outer
 FU:∀b∈X.fs,X.H₀ b=ah
structure Inv(X:Cx)(pins:List (ay×Obj))(σ:List (Option V))(H:Hp)(s:aE):Prop where
 ok:X.Ok
 os:s.os=X.s₀.os
 bare:AllBare s.gens
 base:Un X.fs X.ex X.H₀ H X.s₀.heap s.heap
 loc:∃m,s.heap.Ns X.env.locals m/\∀(i:Nat)(x:Str)(v:V),X.N[i]?=af x->σ[i]?=af (af v)->KO X.env.scope x->∃u,RelV v u/\Look X.env s.heap m x u
 cell:∀x c,X.env.cells.lookup x=af c->∃v,s.heap.IsCell c v
 free:H X.env.locals=ah
 rV:∀x c,X.env.cells.lookup x=af c->H c=ah
 pin:∀p∈X.pn++pins,s.heap.get? p.1=af p.2/\H p.1=ah/\p.1≠X.env.locals/\p.1∉X.fs/\∀v,p.2.data≠ .cell v
 hok:zC X.prog X.w H s.heap
 len:σ.length=X.N.length
section
variable{X:Cx}{pins:List (ay×Obj)}{σ:List (Option V)}{H H':Hp}{s:aE}{h':cK}
def Cx.Ok.NV(ok:X.Ok){b:ay}{o:Obj}(e:X.base.get? b=af o):b∉X.fs:=λhb=>by have:=(ok.AJ.mem hb).1;lia
theorem Inv.bs(I:Inv X pins σ H s):∀b o,X.base.get? b=af o->s.heap.get? b=af o/\H b=none:=λb o e=>⟨I.base.keep b o (I.ok.bs b o e).1 (I.ok.bs b o e).2 (I.ok.NV e) (I.ok.DO b o e),I.base.free b o (I.ok.bs b o e).1 (I.ok.bs b o e).2 (I.ok.DO b o e)⟩
def Inv.bk(I:Inv X pins σ H s):∀b o,X.base.get? b=af o->s.heap.get? b=af o:=λb o e=>(I.bs b o e).1
theorem Inv.mod(I:Inv X pins σ H s):Mod X.K X.mg X.base:=I.ok.mod
def Inv.BO(I:Inv X pins σ H s):X.K.In s.heap:=I.ok.mod.IP.keeps I.bk
theorem Inv.lt(I:Inv X pins σ H s):X.env.locals<s.heap.objs.size:=let⟨_,hn,_⟩:=I.loc;hn.lt
def Inv.sz(I:Inv X pins σ H s):X.s₀.heap.objs.size<=s.heap.objs.size:=Vp I.ok.above (Xl I.lt)
def Inv.GN(I:Inv X pins σ H s){a:ay}(h:s.heap.objs.size<=a):a∉X.fs:=λhb=>by obtain⟨_,o,ho,_⟩:=I.ok.AJ.mem hb;exact absurd (Vf (U4 ho) (Vp I.sz h)) (Xr _)
def Inv.FY(I:Inv X pins σ H s):∀x c,X.env.cells.lookup x=af c->c≠X.env.locals:=λx c e z=>by obtain⟨v,o,ho,hd⟩:=I.cell x c e;obtain⟨m,⟨o',es,ep,ho',hd',_⟩,_⟩:=I.loc;lia
theorem Inv.AJ(I:Inv X pins σ H s):s.heap.FunFrames X.base X.outer:=by
 have all:∀(l:List Env),(∀b∈frs l,b∈X.fs)->X.s₀.heap.FunFrames X.base l->s.heap.FunFrames X.base l:=by
  intro l
  induction l with
  |nil=>intro _ _;trivial|cons env r ih=>intro hs hl;obtain⟨hk,⟨L,o,hf,hn,ho,hd⟩,hr⟩:=hl;have hL:L∈X.fs:=hs L (by unfold frs;simp_all);obtain⟨sl,e⟩:=I.base.slot L o ho (I.ok.FU L hL) hL λz=>I.ok.CI L z hL;exact⟨hk,⟨L,_,hf,hn,e,hd⟩,ih (λb hb=>hs b (by unfold frs;rw[qA,hf];exact Wm _ hb)) hr⟩
 exact all X.outer (λ_ hb=>hb) I.ok.AJ
theorem Inv.stack(I:Inv X pins σ H s):s.heap.FunFrames X.base X.stack:=by
 rcases I.ok.stk with e|⟨e,hf⟩
 ·rw[e];exact I.AJ
 ·rw[e];obtain⟨m,hn,_⟩:=I.loc;refine .cons (by rw[I.ok.kind];decide) hf hn ?_ I.AJ;exact Heap.get?_none_of_le (Vp I.ok.ET I.ok.above)
def Inv.AS(I:Inv X pins σ H s):∀b∈frs X.stack,b∈X.env.locals::X.fs:=λb hb=>by
 rcases I.ok.stk with e|⟨e,hf⟩
 ·simp_all
 ·rw[e]at hb;unfold frs at hb;rw[qA,hf]at hb;exact hb
def Inv.BQ(I:Inv X pins σ H s):∀b∈frs X.stack,H b=none:=λb hb=>by
 rcases UJ.mp (I.AS b hb)with e|hb
 ·rw[e];exact I.free
 ·obtain⟨_,o,ho,_⟩:=I.ok.AJ.mem hb;exact I.base.free b o ho (I.ok.FU b hb) λz=>I.ok.CI b z hb
def Inv.step{g':Array GenState}{t':Nat}{d':Drawn}{ch:List ay}(I:Inv X pins σ H s)(hch:∀b∈ch,(b∈X.ex\/X.s₀.heap.objs.size<=b)/\b≠X.env.locals/\(∀x c,X.env.cells.lookup x=af c->c≠b)/\∀p∈X.pn++pins,p.1≠b)(keep:∀b o,b≠X.env.locals->b∉X.fs->b∉ch->s.heap.get? b=af o->H b=ah->h'.get? b=af o)(slot:∀b o,b≠X.env.locals->b∈X.fs->b∉ch->s.heap.get? b=af o->H b=ah->∃sl,h'.get? b=af {o with slots:=sl})(free:∀b o,b∉ch->s.heap.get? b=af o->H b=ah->H' b=ah)(there:∀b o,b∉ch->s.heap.get? b=af o->∃o',h'.get? b=af o')(tups:∀b xs,H b=af (.tup xs)->H' b=af (.tup xs))(qk:∀b o u,H b=af (.sP o u)->H' b=af (.sP o u))(AR:∀b ps,H b=af (.FO ps)->∃more,H' b=af (.FO (ps++more)))(ns:∀m,s.heap.Ns X.env.locals m->h'.Ns X.env.locals m)(hok:zC X.prog X.w H' h')(hg:AllBare g'):
  Inv X pins σ H' {s with heap:=h',gens:=g',drawn:=d',toks:=t'}:=by
 have MH:∀b o,X.s₀.heap.get? b=af o->b≠X.env.locals:=λb o e=>Vb (Vf (U4 e) I.ok.above);have F0:∀b o,X.s₀.heap.get? b=af o->b∉X.ex->b∉ch:=λb o e hx hb=>by
  rcases(hch b hb).1 with z|z
  ·exact hx z
  ·exact absurd (Vf (U4 e) z) (Xr _)
 have cellK:∀x c,X.env.cells.lookup x=af c->∀v,s.heap.IsCell c v->h'.IsCell c v:=λx c e v ⟨o,ho,hd⟩=>by
  have KU:c∉ch:=λz=>(hch c z).2.2.1 x c e rfl;by_cases hc:c∈X.fs
  ·obtain⟨sl,q⟩:=slot c o (I.FY x c e) hc KU ho (I.rV x c e);exact⟨_,q,hd⟩
  ·exact⟨o,keep c o (I.FY x c e) hc KU ho (I.rV x c e),hd⟩
 refine⟨I.ok,I.os,hg,⟨λb o e n hb hx=>?_,λb o e n hb hx=>?_,λb o e n hx=>?_,λb o e hx=>?_,λb xs e=>tups b xs (I.base.tups b xs e),λb o xs e=>qk b o xs (I.base.qk b o xs e),λb ps e=>?_⟩,?_,λx c e=>?_,?_,λx c e=>?_,λp hp=>?_,hok,I.len⟩
 ·exact keep b o (MH b o e) hb (F0 b o e hx) (I.base.keep b o e n hb hx) (I.base.free b o e n hx)
 ·obtain⟨sl,e1⟩:=I.base.slot b o e n hb hx;obtain⟨sl',e2⟩:=slot b _ (MH b o e) hb (F0 b o e hx) e1 (I.base.free b o e n hx)
  grind
 ·obtain⟨o',e1⟩:=I.base.there b o e hx;exact free b o' (F0 b o e hx) e1 (I.base.free b o e n hx)
 ·obtain⟨o',e1⟩:=I.base.there b o e hx;exact there b o' (F0 b o e hx) e1
 ·obtain⟨m1,e1⟩:=I.base.AR b ps e
  grind
 ·obtain⟨m,hn,hl⟩:=I.loc;refine⟨m,ns m hn,λi x v e1 e2 e3=>?_⟩;obtain⟨u,r,l⟩:=hl i x v e1 e2 e3;refine⟨u,r,?_⟩;rcases l with l|⟨k,c,e,z⟩
  ·exact .inl l
  ·exact .inr ⟨k,c,e,cellK x c e _ z⟩
 ·obtain⟨v,z⟩:=I.cell x c e;exact⟨v,cellK x c e v z⟩
 ·obtain⟨m,⟨o,_,_,ho,_⟩,_⟩:=I.loc;exact free _ o (λz=>(hch _ z).2.1 rfl) ho I.free
 ·obtain⟨v,o,ho,hd⟩:=I.cell x c e;exact free c o (λz=>(hch c z).2.2.1 x c e rfl) ho (I.rV x c e)
 ·obtain⟨e,n,ne,nf,d⟩:=I.pin p hp;have KU:p.1∉ch:=λz=>(hch p.1 z).2.2.2 p hp rfl;exact⟨keep p.1 p.2 ne nf KU e n,free p.1 p.2 KU e n,ne,nf,d⟩
def Inv.un{t':Nat}(I:Inv X pins σ H s)(u:Un X.fs [] H H' s.heap h')(hok:zC X.prog X.w H' h'):Inv X pins σ H' {s with heap:=h',toks:=t'}:=by
 obtain⟨m,⟨o,es,ep,ho,r⟩,_⟩:=id I.loc;obtain⟨sl,hL⟩:=u.any ho I.free (by simp);exact I.step (g':=s.gens) (d':=s.drawn) (ch:=[]) (λ_ z=>nomatch z) (λb o _ hb _ e n=>u.keep b o e n hb (by simp)) (λb o _ hb _ e n=>u.slot b o e n hb (by simp)) (λb o _ e n=>u.free b o e n (by simp)) (λb o _ e=>u.there b o e (by simp)) u.tups u.qk u.AR (λm' hm=>by
  obtain⟨o',es',ep',ho',r'⟩:=hm;rw[ho]at ho';cases ho';exact⟨_,es',ep',hL,r'⟩) hok I.bare
def Inv.call{g':Array GenState}{t':Nat}{d':Drawn}{ch:List ay}(I:Inv X pins σ H s)(u:Un (frs X.stack) ch H H' s.heap h')(hok:zC X.prog X.w H' h')(hg:AllBare g')(hch:∀b∈ch,(b∈X.ex\/X.s₀.heap.objs.size<=b)/\b≠X.env.locals/\(∀x c,X.env.cells.lookup x=af c->c≠b)/\∀p∈X.pn++pins,p.1≠b):
  Inv X pins σ H' {s with heap:=h',gens:=g',drawn:=d',toks:=t'}:=by
 obtain⟨m,⟨o,es,ep,ho,r⟩,_⟩:=id I.loc;obtain⟨sl,hL⟩:=u.any ho I.free λz=>(hch _ z).2.1 rfl;exact I.step (ch:=ch) hch (λb o hL hb hc e n=>u.keep b o e n (λz=>(UJ.mp (I.AS b z)).elim hL hb) hc) (λb o _ _ hc e n=>u.any e n hc) (λb o hc e n=>u.free b o e n hc) (λb o hc e=>u.there b o e hc) u.tups u.qk u.AR (λm' hm=>by
  obtain⟨o',es',ep',ho',r'⟩:=hm;rw[ho]at ho';cases ho';exact⟨_,es',ep',hL,r'⟩) hok hg
def Inv.turned{t':Nat}{it:ay}(I:Inv X pins σ H s)(k:∀b o,b≠it->s.heap.get? b=af o->h'.get? b=af o)(hn:H it=ah)(hL:it≠X.env.locals)(h1:it∈X.ex\/X.s₀.heap.objs.size<=it)(h2:∀x c,X.env.cells.lookup x=af c->c≠it)(h3:∀p∈X.pn++pins,p.1≠it):Inv X pins σ H {s with heap:=h',toks:=t'}:=by
 have SH:∀b u,H b=af u->b≠it:=λb u e z=>by lia
 refine I.step (g':=s.gens) (d':=s.drawn) (ch:=[it]) (λb hb=>?_) (λb o _ _ hc e _=>k b o (λz=>hc (by simp[z])) e) (λb o _ _ hc e _=>⟨o.slots,k b o (λz=>hc (by simp[z])) e⟩) (λ_ _ _ _ n=>n)
  (λb o hc e=>⟨o,k b o (λz=>hc (by simp[z])) e⟩) (λ_ _ e=>e) (λ_ _ _ e=>e) (λb ps e=>⟨#[],by rw[e];simp⟩) (λm hm=>?_) (λb u e=>?_) I.bare
 ·have e:b=it:=by simpa using hb
  subst e;exact⟨h1,hL,h2,h3⟩
 ·obtain⟨o,es,ep,ho,r⟩:=hm;exact⟨o,es,ep,k _ o (Ne.symm hL) ho,r⟩
 ·refine(I.hok b u e).stay (λc v hc q=>k c v ?_ q) (λ_ q=>q) λ_ _ q=>q;lia
def Inv.tok(I:Inv X pins σ H s)(t:Nat):Inv X pins σ H {s with toks:=t}:=I.un (h':=s.heap) (t':=t) Un.refl I.hok
theorem Inv.kept{t':Nat}(I:Inv X pins σ H s)(k:∀b u,s.heap.get? b=af u->h'.get? b=af u):Inv X pins σ H {s with heap:=h',toks:=t'}:=I.un (Un.kept k) (I.hok.kept k)
theorem Inv.laid{a:ay}{o:HO}{t':Nat}(I:Inv X pins σ H s)(k:∀b u,s.heap.get? b=af u->h'.get? b=af u)(hp:s.heap.objs.size<=a)(new:bG X.prog X.w (upd H a o) h' a o):
  Inv X pins σ (upd H a o) {s with heap:=h',toks:=t'}:=I.un (Un.laid k hp (I.hok.fresh hp)) (I.hok.laid k hp new)
theorem Inv.write{x e:ay}{o:HO}{t':Nat}(I:Inv X pins σ H s)(mu:KL (H x))(he:e=x\/H e=af (.own x))(k:∀b u,b≠e->s.heap.get? b=af u->h'.get? b=af u)(heo:∃u,h'.get? e=af u)(new:bG X.prog X.w (upd H x o) h' x o):Inv X pins σ (upd H x o) {s with heap:=h',toks:=t'}:=I.un (Un.write mu he k heo) (I.hok.write mu he k heo new)
def Inv.x6{AX:List (ay×Obj)}(I:Inv X pins σ H s)(h:∀p∈AX,s.heap.get? p.1=af p.2/\H p.1=ah/\p.1≠X.env.locals/\p.1∉X.fs/\∀v,p.2.data≠ .cell v):Inv X AX σ H s:=
 ⟨I.ok,I.os,I.bare,I.base,I.loc,I.cell,I.free,I.rV,λp hp=>(Vt.mp hp).elim (λz=>I.pin p (Wn _ z)) (h p),I.hok,I.len⟩
def ug{N:List Str}(hN:N.Nodup){i j:Nat}{x:Str}(a:N[i]?=af x)(b:N[j]?=af x):i=j:=by obtain⟨h1,e1⟩:=UL.mp a;obtain⟨h2,e2⟩:=UL.mp b;exact(nV hN).mp (e1.trans e2.symm)
def Bv{M:Model}{A:cy}{E:ai->aE->Prop}{i:Nat}{x:Str}{v:V}{u:ai}{Q:Unit->aE->Prop}(I:Inv X pins σ H s)(hN:X.N.Nodup)(hi:X.N[i]?=af x)(hx:Loc X.env.scope x)(r:RelV v u)(h:∀s',Inv X pins (σ.set i (af v)) H s'->(∃a,Heap.SameBut a s.heap s'.heap/\(a=X.env.locals\/X.env.cells.lookup x=af a))->Q () s')(hf:X.fn x=av\/X.env.scope.names.lookup x=af .local:=by first|exact .inl rfl|exact .inr rfl|assumption):bg M A (storeName X.env x u) Q E s:=by
 obtain⟨m,hn,hl⟩:=id I.loc;have hcls:(X.env.scope.kind== .class || (X.env.scope.kind== .module && X.env.locals !=X.env.globals))=false:=by rw[I.ok.kind];rfl
 have P4:i<σ.length:=by rw[I.len];exact(UL.mp hi).1
 have FY:=I.FY;have tracked:∀{a:ay}{h':cK},(∃o,s.heap.get? a=af o/\H a=ah)->Heap.SameBut a s.heap h'->zC X.prog X.w H h':=λ{a h'} ha hs b ob e=>by obtain⟨_,_,hfree⟩:=ha;refine(I.hok b ob e).stay (λc w' hc q=>(hs.2 c ?_).trans q) (λ_ q=>q) λ_ _ q=>q;lia
 rcases hx with hk|hk
 ·refine wpAny_storeName_local hk hn (λh' hn' hs=>?_) hcls;obtain⟨oL,_,_,hoL,_⟩:=id hn;refine h _ ⟨I.ok,I.os,I.bare,⟨λb o e n hb hx=>?_,λb o e n hb hx=>?_,I.base.free,λb o e hx=>?_,I.base.tups,I.base.qk,I.base.AR⟩,⟨_,hn',λj y v' e1 e2 e3=>?_⟩,λy c e=>?_,I.free,I.rV,λp hp=>?_,tracked ⟨oL,hoL,I.free⟩ hs,by simpa using I.len⟩ ⟨_,hs,.inl rfl⟩
  ·exact(hs.2 b (Vb (Vf (U4 e) I.ok.above))).trans (I.base.keep b o e n hb hx)
  ·obtain⟨sl,e1⟩:=I.base.slot b o e n hb hx;exact⟨sl,(hs.2 b (Vb (Vf (U4 e) I.ok.above))).trans e1⟩
  ·obtain⟨o',e1⟩:=I.base.there b o e hx;exact⟨o',(hs.2 b (Vb (Vf (U4 e) I.ok.above))).trans e1⟩
  ·by_cases hj:j=i
   ·subst hj;rw[hi]at e1;cases e1;rw[Vy P4]at e2;cases e2;exact⟨u,r,.inl ⟨hk,by simp⟩⟩
   ·rw[U6 (Ne.symm hj)]at e2;obtain⟨u',r',q⟩:=hl j y v' e1 e2 e3;refine⟨u',r',?_⟩;rcases q with⟨k,e⟩|⟨k,c,e,z⟩
    ·refine .inl ⟨k,?_⟩;have:y≠x:=λe=>hj (ug hN e1 (e▸hi));simp[this,e]
    ·exact .inr ⟨k,c,e,z.sameBut hs (FY y c e)⟩
  ·obtain⟨w',z⟩:=I.cell y c e;exact⟨w',z.sameBut hs (FY y c e)⟩
  ·obtain⟨e,n,ne,nf,d⟩:=I.pin p hp;exact⟨(hs.2 p.1 ne).trans e,n,ne,nf,d⟩
 ·have hfn:X.fn x=true:=by
   rcases hf with z|z
   ·exact z
   ·lia
  obtain⟨c,hc⟩:=I.ok.has x (.inl hk);obtain⟨w',z⟩:=I.cell x c hc;refine wpAny_storeName_cell I.ok.kind hk hc z (λh' hc' hs=>?_);obtain⟨oc,hoc,SI⟩:=id z;refine h {s with heap:=h'} ⟨I.ok,I.os,I.bare,⟨λb o e n hb hx=>?_,λb o e n hb hx=>?_,I.base.free,λb o e hx=>?_,I.base.tups,I.base.qk,I.base.AR⟩,⟨m,hn.sameBut hs (Ne.symm (FY x c hc)),λj y v' e1 e2 e3=>?_⟩,λy c' e=>?_,I.free,I.rV,λp hp=>?_,tracked ⟨oc,hoc,I.rV x c hc⟩ hs,by simpa using I.len⟩ ⟨c,hs,.inr hc⟩
  ·exact(hs.2 b (Vb (Vf (U4 e) (I.ok.cab x c hfn hc)))).trans (I.base.keep b o e n hb hx)
  ·obtain⟨sl,e1⟩:=I.base.slot b o e n hb hx;exact⟨sl,(hs.2 b (Vb (Vf (U4 e) (I.ok.cab x c hfn hc)))).trans e1⟩
  ·obtain⟨o',e1⟩:=I.base.there b o e hx;exact⟨o',(hs.2 b (Vb (Vf (U4 e) (I.ok.cab x c hfn hc)))).trans e1⟩
  ·by_cases hj:j=i
   ·subst hj;rw[hi]at e1;cases e1;rw[Vy P4]at e2;cases e2;exact⟨u,r,.inr ⟨.inl hk,c,hc,hc'⟩⟩
   ·rw[U6 (Ne.symm hj)]at e2;obtain⟨u',r',q⟩:=hl j y v' e1 e2 e3;refine⟨u',r',?_⟩;rcases q with q|⟨k,c',e,z'⟩
    ·exact .inl q
    ·refine .inr ⟨k,c',e,z'.sameBut hs ?_⟩;rintro rfl;exact hj (ug hN e1 (I.ok.inj _ _ _ e hc▸hi))
  ·by_cases hcc:c'=c
   ·subst hcc;exact⟨_,hc'⟩
   ·obtain⟨w2,z2⟩:=I.cell y c' e;exact⟨w2,z2.sameBut hs hcc⟩
  ·obtain⟨e,n,ne,nf,d⟩:=I.pin p hp;refine⟨(hs.2 p.1 ?_).trans e,n,ne,nf,d⟩;intro q
   simp_all
def oW{M:Model}{A:cy}{E:ai->aE->Prop}{i:Nat}{x:Str}{v:V}{u:ai}{Q:Unit->aE->Prop}(I:Inv X pins σ H s)(hN:X.N.Nodup)(hi:X.N[i]?=af x)(hx:Loc X.env.scope x)(r:RelV v u)(h:∀s',Inv X pins (σ.set i (af v)) H s'->Q () s')(hf:X.fn x=av\/X.env.scope.names.lookup x=af .local:=by first|exact .inl rfl|exact .inr rfl|assumption):bg M A (storeName X.env x u) Q E s:=
 Bv I hN hi hx r (λs' I' _=>h s' I') hf
def Inv.F4{s':aE}{ch:List ay}(I:Inv X pins σ H s)(ho:s'.os=s.os)(u:Un (frs X.stack) ch H H' s.heap s'.heap)(hok:zC X.prog X.w H' s'.heap)(hg:AllBare s'.gens)(hch:∀b∈ch,(b∈X.ex\/X.s₀.heap.objs.size<=b)/\b≠X.env.locals/\(∀x c,X.env.cells.lookup x=af c->c≠b)/\∀p∈X.pn++pins,p.1≠b):Inv X pins σ H' s':=by obtain⟨h',g',d',t',o'⟩:=s';have e:o'=s.os:=ho;subst e;exact I.call (g':=g') (t':=t') (d':=d') u hok hg hch
end
abbrev XK:=ai->Option ay->Hp->Prop
abbrev St:=List (Option V)
abbrev VK:=V->Hp->Prop
abbrev TE:=St->Hp->VK->Prop
abbrev TT:=St->Hp->(Bool->Hp->Prop)->Prop
abbrev TA:=St->Hp->(List V->Hp->Prop)->Prop
structure Ends where
 nx:St->Hp->Prop
 rt:VK
 bk:St->Hp->Prop:=λ_ _=>False
 ct:St->Hp->Prop:=λ_ _=>False
abbrev TS:=Ends->St->Hp->Prop
def EP(X:Cx)(pins:List (ay×Obj))(σ:St)(Q:VK)(u:ai)(s':aE):Prop:=∃v H',Inv X pins σ H' s'/\RelV v u/\Q v H'
def TP(X:Cx)(pins:List (ay×Obj))(σ:St)(Q:Bool->Hp->Prop)(b:Bool)(s':aE):Prop:=∃H',Inv X pins σ H' s'/\Q b H'
def AP(X:Cx)(pins:List (ay×Obj))(σ:St)(Q:List V->Hp->Prop)(us:List ai)(s':aE):Prop:=∃vs H',Inv X pins σ H' s'/\Vals vs us/\Q vs H'
def SP(X:Cx)(pins:List (ay×Obj))(D:Ends)(f:Flow)(s':aE):Prop:=
 match f with
 |.next=>∃σ' H',Inv X pins σ' H' s'/\D.nx σ' H'|.brk=>∃σ' H',Inv X pins σ' H' s'/\D.bk σ' H'|.cont=>∃σ' H',Inv X pins σ' H' s'/\D.ct σ' H'|.ret u=>∃v σ' H',Inv X pins σ' H' s'/\RelV v u/\D.rt v H'
def PE(X:Cx)(e:br)(t:TE):Prop:=
 ∀(pins:List (ay×Obj))(s:aE)(σ:St)(H:Hp)(Q:VK),Inv X pins σ H s->t σ H Q->bg (model X.prog X.w) X.A (eval e X.env) (EP X pins σ Q) X.xe s
def PT(X:Cx)(e:br)(t:TT):Prop:=
 ∀(pins:List (ay×Obj))(s:aE)(σ:St)(H:Hp)(Q:Bool->Hp->Prop),Inv X pins σ H s->t σ H Q->bg (model X.prog X.w) X.A (isTrue e X.env (eval e X.env)) (TP X pins σ Q) X.xe s
def PW(X:Cx)(e:br)(t:TT):Prop:=
 ∀(whole:Sem ai)(pins:List (ay×Obj))(s:aE)(σ:St)(H:Hp)(Q:Bool->Hp->Prop),Inv X pins σ H s->t σ H Q->bg (model X.prog X.w) X.A (isTrue e X.env whole) (TP X pins σ Q) X.xe s
def PW.pt{X:Cx}{e:br}{t:TT}(h:PW X e t):PT X e t:=h _
def PA(X:Cx)(es:List br)(t:TA):Prop:=
 ∀(pos:Pos)(pins:List (ay×Obj))(s:aE)(σ:St)(H:Hp)(Q:List V->Hp->Prop),Inv X pins σ H s->t σ H Q->bg (model X.prog X.w) X.A (spliced (backTo pos (starEach es X.env))) (AP X pins σ Q) X.xe s
def PS(X:Cx)(st:eL)(t:TS):Prop:=
 ∀(pins:List (ay×Obj))(s:aE)(σ:St)(H:Hp)(D:Ends),Inv X pins σ H s->t D σ H->bg (model X.prog X.w) X.A (exec st X.env) (SP X pins D) X.xe s
def DS(X:Cx)(st:List eL)(t:TS):Prop:=
 ∀(pins:List (ay×Obj))(s:aE)(σ:St)(H:Hp)(D:Ends),Inv X pins σ H s->t D σ H->bg (model X.prog X.w) X.A (execs st X.env) (SP X pins D) X.xe s
def ja{α:Type}{t:Sem α}{Q Q':α->aE->Prop}{M:Model}{A:cy}{E:ai->aE->Prop}{s:aE}(h:bg M A t Q E s)(hQ:∀a s,Q a s->Q' a s):bg M A t Q' E s:=VH h hQ λ_ _ x=>x
section
variable{X:Cx}
def bin{a b:br}{ta tb:TE}(ha:PE X a ta)(hb:PE X b tb){pins:List (ay×Obj)}{s:aE}{σ:St}{H:Hp}{R:V->V->Hp->Prop}(I:Inv X pins σ H s)(h:ta σ H λx H1=>tb σ H1 λy H2=>R x y H2){α:Type}{Q:α->aE->Prop}{f:ai->ai->Sem α}(hf:∀v u s2 x y H2,Inv X pins σ H2 s2->RelV x v->RelV y u->R x y H2->bg (model X.prog X.w) X.A (f v u) Q X.xe s2):
  bg (model X.prog X.w) X.A (eval a X.env) (λv s₁=>bg (model X.prog X.w) X.A (eval b X.env) (λu s₂=>bg (model X.prog X.w) X.A (f v u) Q X.xe s₂) X.xe s₁) X.xe s:=by
 refine ja (ha pins s σ H _ I h) λv s1 zz=>?_;refine bQ zz λx H1 I1 r1 q1=>?_;refine ja (hb pins s1 σ H1 _ I1 q1) λu s2 zz=>?_;refine bQ zz λy H2 I2 r2 q2=>?_;exact hf v u s2 x y H2 I2 r1 r2 q2
def SX(i:Nat):TE:=λσ H Q=>∃v,σ[i]?=af (af v)/\Q v H
def tC(v:V):TE:=λ_ H Q=>Q v H
def Ms{i:Nat}{x:Str}{pos:Pos}(hN:X.N[i]?=af x)(hv:KO X.env.scope x)(hd:(x==("__debug__" :Str))=false:=by decide)(hcd:(x==("__classdict__" :Str))=false:=by decide):PE X (.Name x pos) (SX i):=by
 intro pins s σ H Q I h;obtain⟨v,e,h⟩:=h;obtain⟨m,hn,hl⟩:=I.loc;obtain⟨u,r,l⟩:=hl i x v hN e hv;have fin:EP X pins σ Q u s:=⟨v,H,I,r,h⟩
 rcases l with⟨hk,hm⟩|⟨hk,c,hc,hcell⟩
 ·exact wpAny_Name (wpAny_loadName_local I.ok.kind hk hn hm fin) hd
 ·rcases hk with hk|hk
  ·exact wpAny_Name (wpAny_loadName_cell I.ok.kind hk hc hcell fin) hd
  ·exact wpAny_Name (wpAny_loadName_free I.ok.kind hk hc hcell fin hcd) hd
def Mu{i j pos}:PE X (.Constant (.int i) j pos) (tC (.int i)):=λ_ _ _ H _ I h=>wpAny_Constant_int ⟨.int i,H,I.tok _,⟨_,rfl⟩,h⟩
def QV{b j pos}:PE X (.Constant (.bool b) j pos) (tC (.bl b)):=λ_ _ _ H _ I h=>Constant_bool ⟨.bl b,H,I,rfl,h⟩
def Mw{j pos}:PE X (.Constant .none j pos) (tC .non):=λ_ _ _ H _ I h=>Constant_none ⟨.non,H,I,rfl,h⟩
def Bw{x j pos}:PE X (.Constant (.str x) j pos) (tC (.str x)):=λ_ _ _ H _ I h=>Calls.Constant_str ⟨.str x,H,I.tok _,⟨_,rfl⟩,h⟩
def Gl(X:Cx)(x:Str):Prop:=X.env.kindOf x=af .globalImplicit
def iy{E:ai->aE->Prop}{pins:List (ay×Obj)}{s:aE}{σ:St}{H:Hp}{x:Str}{u:ai}{pos:Pos}{Q:ai->aE->Prop}(I:Inv X pins σ H s)(hg:Gl X x)(hm:X.mg x=af u)(h:Q u s)(hd:(x==("__debug__" :Str))=false:=by decide):bg (model X.prog X.w) X.A (eval (.Name x pos) X.env) Q E s:=
 Calls.Name_function_global I.ok.kind hg (Calls.loadGlobal_global (by rw[I.ok.glob];exact I.mod.glob.keeps I.bk) hm h) hd
def jT{E:ai->aE->Prop}{pins:List (ay×Obj)}{s:aE}{σ:St}{H:Hp}{x:Str}{u:ai}{pos:Pos}{Q:ai->aE->Prop}(I:Inv X pins σ H s)(hg:Gl X x)(hm:X.mg x=ah)(hv:bootBuiltins x=af u)(h:Q u s)(hn:x≠ "__name__" :=by decide)(hd:(x==("__debug__" :Str))=false:=by decide):bg (model X.prog X.w) X.A (eval (.Name x pos) X.env) Q E s:=by obtain⟨mb,h1,h2⟩:=I.mod.blt;exact Calls.Name_function_global I.ok.kind hg (Calls.loadGlobal_builtin (by rw[I.ok.glob];exact I.mod.glob.keeps I.bk) hm (by rw[I.ok.blt];exact h1.keeps I.bk) ((h2 x hn).trans hv) h) hd
def JC{x:Str}{v:V}{u:ai}{pos:Pos}(hg:Gl X x)(hm:X.mg x=af u)(r:RelV v u)(hd:(x==("__debug__" :Str))=false:=by decide):PE X (.Name x pos) (tC v):=
 λ_ _ _ H _ I h=>iy I hg hm ⟨v,H,I,r,h⟩ hd
def JD{x:Str}{v:V}{u:ai}{pos:Pos}(hg:Gl X x)(hm:X.mg x=ah)(hv:bootBuiltins x=af u)(r:RelV v u)(hn:x≠ "__name__" :=by decide)(hd:(x==("__debug__" :Str))=false:=by decide):PE X (.Name x pos) (tC v):=
 λ_ _ _ H _ I h=>jT I hg hm hv ⟨v,H,I,r,h⟩ hn hd
variable{a b:br}{ta tb:TE}{pos:Pos}
variable{tA ML:TT}{rest:List br}
def S6(t u:TT):TT:=λσ H Q=>t σ H λc H1=>if c=av then u σ H1 Q else Q aS H1
def SK(t u:TT):TT:=λσ H Q=>t σ H λc H1=>if c=av then Q av H1 else u σ H1 Q
def S7(t:TT):TT:=λσ H Q=>t σ H λc H1=>Q (!c) H1
def JF(ha:PT X a tA):PW X (.BoolOp .And [a] pos) tA:=by
 intro wh pins s σ H Q I h;refine isTrue_and (ja (ha pins s σ H Q I h) λc s1 e=>?_);cases c with|true=>exact isTrue_and_nil e|false=>exact e
def Mx(ha:PT X a tA):PW X (.BoolOp .Or [a] pos) tA:=by
 intro wh pins s σ H Q I h;refine isTrue_or (ja (ha pins s σ H Q I h) λc s1 e=>?_);cases c with|false=>exact isTrue_or_nil e|true=>exact e
def Mz(ha:PT X a tA)(hb:PW X (.BoolOp .And (b::rest) pos) ML):PW X (.BoolOp .And (a::b::rest) pos) (S6 tA ML):=by
 intro wh pins s σ H Q I h;refine isTrue_and (ja (ha pins s σ H _ I h) λc s1 zz=>?_);obtain⟨H1,I1,q1⟩:=zz;cases c with|true=>exact hb wh pins s1 σ H1 Q I1 q1|false=>exact⟨H1,I1,q1⟩
def QW(ha:PT X a tA)(hb:PW X (.BoolOp .Or (b::rest) pos) ML):PW X (.BoolOp .Or (a::b::rest) pos) (SK tA ML):=by
 intro wh pins s σ H Q I h;refine isTrue_or (ja (ha pins s σ H _ I h) λc s1 zz=>?_);obtain⟨H1,I1,q1⟩:=zz;cases c with|true=>exact⟨H1,I1,q1⟩|false=>exact hb wh pins s1 σ H1 Q I1 q1
def MF(ha:PT X a tA):PT X (.UnaryOp .Not a pos) (S7 tA):=by intro pins s σ H Q I h;exact isTrue_not (ha pins s σ H (λc H1=>Q (!c) H1) I h)
def QX(ta tb:TE):TE:=λσ H Q=>ta σ H λx H1=>∃c,x= .bl c/\if c=av then tb σ H1 Q else Q (.bl aS) H1
def S8(ta tb:TE):TE:=λσ H Q=>ta σ H λx H1=>∃c,x= .bl c/\if c=av then Q (.bl av) H1 else tb σ H1 Q
def MJ{op}{t:TE}(h:PE X a t):PE X (.BoolOp op [a] pos) t:=λpins s σ H Q I hw=>BoolOp_one (h pins s σ H Q I hw)
def MK(ha:PE X a ta)(hb:PE X (.BoolOp .And (b::rest) pos) tb):PE X (.BoolOp .And (a::b::rest) pos) (QX ta tb):=by
 intro pins s σ H Q I h;refine BoolOp_and (ja (ha pins s σ H _ I h) λv s1 zz=>?_);refine bQ zz λx H1 I1 r1 q1=>?_;obtain⟨c,rfl,q1⟩:=q1;cases r1;refine wpAny_truthy_bool ?_;cases c with|true=>exact hb pins s1 σ H1 Q I1 q1|false=>exact⟨.bl aS,H1,I1,rfl,q1⟩
def QZ(ha:PE X a ta)(hb:PE X (.BoolOp .Or (b::rest) pos) tb):PE X (.BoolOp .Or (a::b::rest) pos) (S8 ta tb):=by
 intro pins s σ H Q I h;refine BoolOp_or (ja (ha pins s σ H _ I h) λv s1 zz=>?_);refine bQ zz λx H1 I1 r1 q1=>?_;obtain⟨c,rfl,q1⟩:=q1;cases r1;refine wpAny_truthy_bool ?_;cases c with|false=>exact hb pins s1 σ H1 Q I1 q1|true=>exact⟨.bl av,H1,I1,rfl,q1⟩
def SR(t:TT)(ta tb:TE):TE:=λσ H Q=>t σ H λc H1=>if c=av then ta σ H1 Q else tb σ H1 Q
def Gr{c:br}(hc:PT X c tA)(ha:PE X a ta)(hb:PE X b tb):PE X (.IfExp c a b pos) (SR tA ta tb):=by
 intro pins s σ H Q I h;refine wpAny_IfExp (ja (hc pins s σ H _ I h) λd s1 zz=>?_);obtain⟨H1,I1,q1⟩:=zz;cases d with|true=>exact ha pins s1 σ H1 Q I1 q1|false=>exact hb pins s1 σ H1 Q I1 q1
end
def xy(K:aI)(H:Hp)(a:ay)(xs:List V):Prop:=
 Rd H a (.lst xs)\/
  ∃(o:Obj)(its:Array ai)(n:Nat),K.lookup a=af o/\o.cls= .type "list" /\o.dict=ah/\o.data= .seq its n/\its.size<=aT/\Vals xs its.toList
def sR(K:aI)(H:Hp)(a:ay)(xs:List V):Prop:=
 Rd H a (.tup xs)\/
  ∃(o:Obj)(its:Array ai)(n:Nat),K.lookup a=af o/\o.cls= .type "tuple" /\(o.data= .seq its n/\o.dict=ah/\o.slots= #[])/\its.size<=aT/\Vals xs its.toList
def S9:ai->Option V
 |.none=>af .non|.bool b=>af (.bl b)|.int i _=>af (.int i)|.str x _=>af (.str x)|.bytes b _=>af (.IM b)|.float b _=>af (.flt b)|.ref a=>af (.ref a)|.type n=>af (.ty n)|_=>ah
theorem RelV.abs{x:V}{u:ai}(r:RelV x u):S9 u=af x:=by
 cases x with
 |non=>cases r;rfl|bl _=>cases r;rfl|int _=>obtain⟨t,rfl⟩:=r;rfl
 |str _=>obtain⟨t,rfl⟩:=r;rfl
 |IM _=>obtain⟨t,rfl⟩:=r;rfl
 |flt _=>obtain⟨t,rfl⟩:=r;rfl
 |ref _=>cases r;rfl|ty _=>cases r;rfl
def RelV.inj{x y:V}{u:ai}(r:RelV x u)(q:RelV y u):x=y:=Ux (r.abs.symm.trans q.abs)
theorem Vals.inj:∀{xs ys:List V}{us:List ai},Vals xs us->Vals ys us->xs=ys
 |_,_,_,.nil,.nil=>rfl|_,_,_,.cons r t,.cons r' t'=>by rw[r.inj r',Vals.inj t t']
section
variable{X:Cx}{pins:List (ay×Obj)}{σ:St}{H:Hp}{s:aE}{a:ay}{xs ys:List V}
def xy.of{K:aI}(h:H a=af (.lst xs)):xy K H a xs:= .inl (.inl h)
def sR.of{K:aI}(h:H a=af (.tup xs)):sR K H a xs:= .inl (.inl h)
def Inv.list(I:Inv X pins σ H s)(h:xy X.K H a xs):∃its:List ai,Vals xs its/\PlainL s.heap a its.toArray/\xs.length<=sizeLine:=by
 rcases h with h|⟨o,its,n,hk,hc,hd,hs,hz,r⟩
 ·obtain⟨z,its,n,r,e⟩:=h.ok I.hok;exact⟨its,r,⟨_,n,e,rfl,rfl,rfl⟩,z⟩
 ·refine⟨its.toList,r,⟨o,n,I.BO a o hk,hc,hd,by simpa using hs⟩,?_⟩;have e:=r.length
  simp_all
def Inv.tuple(I:Inv X pins σ H s)(h:sR X.K H a xs):∃its:List ai,Vals xs its/\IsTup s.heap a its.toArray/\xs.length<=sizeLine:=by
 rcases h with h|⟨o,its,n,hk,hc,hs,hz,r⟩
 ·obtain⟨z,its,r,p,_⟩:=h.ok I.hok;exact⟨its,r,p,z⟩
 ·refine⟨its.toList,r,⟨o,I.BO a o hk,hc,n,by simpa using hs.1⟩,?_⟩;have e:=r.length
  simp_all
def Inv.D7(I:Inv X pins σ H s)(h:xy X.K H a xs)(h':xy X.K H a ys):xs=ys:=by
 obtain⟨its,r,⟨o,n,e,_,_,d⟩,_⟩:=I.list h;obtain⟨its',r',⟨o',n',e',_,_,d'⟩,_⟩:=I.list h';rw[e]at e';cases e';rw[d]at d';injection d' with d1 _
 have:its=its':=by simpa using VJ zo d1
 subst this;exact r.inj r'
def Inv.BH(I:Inv X pins σ H s)(h:sR X.K H a xs)(h':sR X.K H a ys):xs=ys:=by
 obtain⟨its,r,⟨o,e,_,n,d⟩,_⟩:=I.tuple h;obtain⟨its',r',⟨o',e',_,n',d'⟩,_⟩:=I.tuple h';rw[e]at e';cases e';rw[d]at d';injection d' with d1 _
 have:its=its':=by simpa using VJ zo d1
 subst this;exact r.inj r'
end
section
variable{X:Cx}{st:eL}{rest:List eL}{t u:TS}{e:br}{te:TE}{pos:Pos}
def zb:TS:=λD σ H=>D.nx σ H
def Tc(t u:TS):TS:=λD σ H=>t {D with nx:=u D} σ H
def JH:DS X [] zb:=λ_ _ σ H _ I h=>wpAny_execs_nil ⟨σ,H,I,h⟩
theorem Gs(h1:PS X st t)(h2:DS X rest u):DS X (st::rest) (Tc t u):=by
 intro pins s σ H D I h;refine wpAny_execs_cons (ja (h1 pins s σ H {D with nx:=u D} I h) λf s1 q=>?_);cases f with
 |next=>obtain⟨σ',H',I',q⟩:=q;exact h2 pins s1 σ' H' D I' q
 |ret v=>exact q|brk=>exact q|cont=>exact q
def MN:TS:=λD σ H=>D.bk σ H
def Q0:TS:=λD σ H=>D.ct σ H
def JK:PS X (.Pass pos) zb:=λ_ _ σ H _ I h=>wpAny_Pass ⟨σ,H,I,h⟩
def Gu:PS X (.Break pos) MN:=λ_ _ σ H _ I h=>wpAny_Break ⟨σ,H,I,h⟩
def wJ:PS X (.Continue pos) Q0:=λ_ _ σ H _ I h=>wpAny_Continue ⟨σ,H,I,h⟩
def Inv.quiet{pins:List (ay×Obj)}{σ:St}{H:Hp}{s:aE}(I:Inv X pins σ H s):interactive X.env=false:=by simp[interactive,I.ok.kind]
def MP{x j pos pos'}:PS X (.Expr (.Constant (.str x) j pos) pos') zb:=λ_ s σ H _ I h=>wpAny_Expr (Calls.Constant_str (show SP X _ _ .next {s with toks:=s.toks+1}from⟨σ,H,I.tok _,h⟩)) I.quiet
def Q3(te:TE):TS:=λD σ H=>te σ H λ_ H1=>D.nx σ H1
def JL(he:PE X e te)(hs:swapsWith e ah pos.line X.env=pure false:=by rfl):PS X (.Expr e pos) (Q3 te):=by intro pins s σ H D I h;exact wpAny_Expr_any (ja (he pins s σ H _ I h) λv s1 z=>bQ z λx H1 I1 r1 q1=>⟨σ,H1,I1,q1⟩) I.quiet hs
def Td(te:TE):TS:=λD σ H=>te σ H D.rt
def MT(he:PE X e te):PS X (.Return (af e) pos) (Td te):=by intro pins s σ H D I h;exact wpAny_Return_some (ja (he pins s σ H _ I h) λv s1 z=>bQ z λx H1 I1 r1 q1=>⟨x,σ,H1,I1,r1,q1⟩)
def Q4:TS:=λD _ H=>D.rt .non H
def JM:PS X (.Return ah pos) Q4:=λ_ _ σ H _ I h=>wpAny_Return_none ⟨.non,σ,H,I,rfl,h⟩
def Te(c:TT)(t u:TS):TS:=λD σ H=>c σ H λb H1=>if b=av then t D σ H1 else u D σ H1
def Q5{c:br}{a b:List eL}{tc:TT}(hc:PT X c tc)(ha:DS X a t)(hb:DS X b u):PS X (.If c a b pos) (Te tc t u):=by
 intro pins s σ H D I h;refine wpAny_If (ja (hc pins s σ H _ I h) λd s1 zz=>?_);obtain⟨H1,I1,q1⟩:=zz;cases d with|true=>exact ha pins s1 σ H1 D I1 q1|false=>exact hb pins s1 σ H1 D I1 q1
end
abbrev TG:=V->St->Hp->(St->Hp->Prop)->Prop
abbrev E4:=List V->St->Hp->(St->Hp->Prop)->Prop
def PG(X:Cx)(target:br)(t:TG):Prop:=
 ∀(pins:List (ay×Obj))(s:aE)(σ:St)(H:Hp)(v:V)(u:ai)(Q:St->Hp->Prop),Inv X pins σ H s->RelV v u->t v σ H Q->
  bg (model X.prog X.w) X.A (assign target X.env u) (λ_ s'=>∃σ' H',Inv X pins σ' H' s'/\Q σ' H') X.xe s
def EU(X:Cx)(ts:List br)(t:E4):Prop:=
 ∀(pins:List (ay×Obj))(s:aE)(σ:St)(H:Hp)(vs:List V)(us:List ai)(Q:St->Hp->Prop),Inv X pins σ H s->Vals vs us->t vs σ H Q->
  bg (model X.prog X.w) X.A (assignInOrder ((assignEach ts X.env).map (·.2)) us) (λ_ s'=>∃σ' H',Inv X pins σ' H' s'/\Q σ' H') X.xe s
abbrev zc:=V->V->V->Hp->(Hp->Prop)->Prop
def M3(X:Cx)(t:zc):Prop:=
 ∀(pins:List (ay×Obj))(s:aE)(σ:St)(H:Hp)(o i v:V)(ov iv u:ai)(Q:Hp->Prop),Inv X pins σ H s->RelV o ov->RelV i iv->RelV v u->t o i v H Q->
  bg (model X.prog X.w) X.A (setItem ov iv u) (λ_ s'=>∃H',Inv X pins σ H' s'/\Q H') X.xe s
section
variable{X:Cx}{pos:Pos}
def Q6(i:Nat):TG:=λv σ H Q=>Q (σ.set i (af v)) H
def JN{i:Nat}{x:Str}(hN:X.N.Nodup)(hi:X.N[i]?=af x)(hx:Loc X.env.scope x)(hf:X.fn x=av\/X.env.scope.names.lookup x=af .local:=by first|exact .inl rfl|exact .inr rfl|assumption):PG X (.Name x pos) (Q6 i):=by intro pins s σ H v u Q I r h;exact wpAny_assign_Name (oW I hN hi hx r (λs' I'=>⟨_,H,I',h⟩) hf)
def Tf:E4:=λvs σ H Q=>vs=[]/\Q σ H
def Q7(t:TG)(u:E4):E4:=λvs σ H Q=>∃v r,vs=v::r/\t v σ H λσ' H'=>u r σ' H' Q
def JP:EU X [] Tf:=by intro pins s σ H vs us Q I r h;obtain⟨e,h⟩:=h;subst e;cases r;exact assignInOrder_nil ⟨σ,H,I,h⟩
theorem Gv{e:br}{es:List br}{t:TG}{u:E4}(h1:PG X e t)(h2:EU X es u)(hs:(assignEach (e::es) X.env).map (·.2)=assign e X.env::(assignEach es X.env).map (·.2):=by rfl):EU X (e::es) (Q7 t u):=by
 intro pins s σ H vs us Q I r h;obtain⟨v,vr,e1,h⟩:=h;subst e1;cases r with
 |cons r rr=>rw[hs];refine assignInOrder_cons (ja (h1 pins s σ H _ _ _ I r h) λ_ s1 zz=>?_);obtain⟨σ1,H1,I1,q1⟩:=zz;exact h2 pins s1 σ1 H1 _ _ Q I1 rr q1
def Th(K:aI)(n:Nat)(t:E4):TG:=λv σ H Q=>∃a xs,v= .ref a/\sR K H a xs/\xs.length=n/\t xs σ H Q
def M4{es:List br}{k:Nat}{t:E4}{n:Nat}(hc:X.calm=av)(h:EU X es t)(hn:(assignEach es X.env).length=n:=by rfl)(hst:(assignEach es X.env).findIdx? (·.1)=none:=by rfl):PG X (.Tuple es k pos) (Th X.K n t):=by intro pins s σ H v u Q I r hw;obtain⟨a,xs,e1,hq,hl,hw⟩:=hw;subst e1;cases r;obtain⟨its,rv,ht,hz⟩:=I.tuple hq;refine assign_Tuple_tuple (I.ok.hd hc) ht (by simp[hn,←hl,rv.length]) hst λh' hx=>?_;have I1:Inv X pins σ H {s with heap:=h'}:=I.kept (t':=s.toks) λb o e=>hx b o (Vb (U4 e)) e;exact h pins _ σ H xs _ Q I1 (by simpa using rv) hw
def Ti(to ti:TE)(t:zc):TG:=λv σ H Q=>to σ H λo H1=>ti σ H1 λi H2=>t o i v H2 λH3=>Q σ H3
def M5{o i:br}{to ti:TE}{t:zc}(ho:PE X o to)(hi:PE X i ti)(hs:M3 X t)(ha:∀v,assign (.Subscript o i pos) X.env v=(do
   let ov ←holding [v] (eval o X.env)
   let iv ←holding [v,ov] (eval i X.env)
   standAt pos
   holding [v,ov,iv] (setItem ov iv v)
   release [v,ov,iv] []):=by intro _;rfl):PG X (.Subscript o i pos) (Ti to ti t):=by
 intro pins s σ H v u Q I r h;rw[ha];refine My (VB (ja (ho pins s σ H _ I h) λov s1 zz=>?_));refine bQ zz λx H1 I1 r1 q1=>?_;refine My (VB (ja (hi pins s1 σ H1 _ I1 q1) λiv s2 zz=>?_));refine bQ zz λy H2 I2 r2 q2=>?_;refine My (wpAny_standAt (My (VB (ja (hs pins s2 σ H2 x y v ov iv u _ I2 r1 r2 r q2) λ_ s3 zz=>?_))));obtain⟨H3,I3,q3⟩:=zz;exact wpAny_release ⟨σ,H3,I3,q3⟩
def Tj(te:TE)(g:TG):TS:=λD σ H=>te σ H λx H1=>g x σ H1 D.nx
def Bx{tg e:br}{te:TE}{g:TG}(he:PE X e te)(hg:PG X tg g)(hs:swapsWithSole [tg] e pos.line X.env=pure false:=by rfl)(hw:swappedStores [tg] e X.env=pure none:=by rfl)(h1:(assignEach [tg] X.env).map (·.2)=[assign tg X.env]:=by rfl):PS X (.Assign [tg] e pos) (Tj te g):=by intro pins s σ H D I h;refine wpAny_Assign_stores (ja (he pins s σ H _ I h) λv s1 zz=>?_) hs hw;refine bQ zz λx H1 I1 r1 q1=>?_;rw[h1];exact ja (hg pins s1 σ H1 x v _ I1 r1 q1) λ_ s2 q=>q
end
structure It where
 go:Nat->Hp->Prop
 MM:Nat->Hp->V->Hp->Prop
 stop:Nat->Hp->Prop
def eO(X:Cx)(pins:List (ay×Obj))(H:Hp)(b:ay):Prop:=
 H b=ah/\b≠X.env.locals/\b∉X.fs/\(b∈X.ex\/X.s₀.heap.objs.size<=b)/\(∀x c,X.env.cells.lookup x=af c->c≠b)/\∀p∈X.pn++pins,p.1≠b
def Inv.BS{X:Cx}{pins:List (ay×Obj)}{σ:St}{H H':Hp}{s:aE}{b:ay}(I:Inv X pins σ H s)(hb:s.heap.objs.size<=b)(hn:H' b=ah):eO X pins H' b:=by
 refine⟨hn,VP (Vf I.lt hb),I.GN hb,.inr (Vp I.sz hb),λx c e z=>?_,λp hp z=>?_⟩
 ·obtain⟨v,q⟩:=I.cell x c e;exact absurd (Vf q.lt (by rw[z];exact hb)) (Xr _)
 ·exact absurd (Vf (U4 (I.pin p hp).1) (by rw[z];exact hb)) (Xr _)
structure Turn(P:bX)(w:ck)(K:aI)(tg:br)(J:It)(fp:List ay)(it:ay)(tn:Nat->cK->Prop):Prop where
 mem:it∈fp
 obj:∀i h,tn i h->∀b∈fp,∃o,h.get? b=af o/\∀v,o.data≠ .cell v
 keep:∀i h h',tn i h->(∀b∈fp,∀o,h.get? b=af o->h'.get? b=af o)->tn i h'
 item:∀(X:Cx),X.prog=P->X.w=w->X.K=K->X.calm=av->∀(i:Nat)(pins:List (ay×Obj))(s:aE)(σ:St)(H:Hp)(E:ai->aE->Prop),Inv X pins σ H s->(∀b∈fp,eO X pins H b)->tn i s.heap->J.go i H->
  bg (model P w) X.A (pyNext (.ref it)) (λr s1=>∃u,r=af u/\
   bg (model P w) X.A (letOwnedTupleGo tg (.ref it) u) (λ_ s2=>∃x H',Inv X pins σ H' s2/\RelV x u/\J.MM i H x H'/\tn (i+1) s2.heap/\∀b∈fp,H' b=ah) E s1) E s
 done:∀(X:Cx),X.prog=P->X.w=w->X.K=K->X.calm=av->∀(i:Nat)(pins:List (ay×Obj))(s:aE)(σ:St)(H:Hp)(E:ai->aE->Prop),Inv X pins σ H s->(∀b∈fp,eO X pins H b)->tn i s.heap->J.stop i H->
  bg (model P w) X.A (pyNext (.ref it)) (λr s1=>r=ah/\Inv X pins σ H s1) E s
 self:∀(A:cy)(i:Nat)(s:aE)(Q:ai->aE->Prop)(E:ai->aE->Prop),tn i s.heap->Q (.ref it) s->bg (model P w) A (pyIter (.ref it)) Q E s
abbrev TI:=St->Hp->(It->Hp->Prop)->Prop
def P5(X:Cx)(pins:List (ay×Obj))(σ:St)(tg:br)(R:It->Hp->Prop)(itv:ai)(s2:aE):Prop:=
 ∃(it:ay)(fp:List ay)(tn:Nat->cK->Prop)(J:It)(H':Hp),itv= .ref it/\Inv X pins σ H' s2/\Turn X.prog X.w X.K tg J fp it tn/\tn 0 s2.heap/\(∀b∈fp,eO X pins H' b)/\R J H'
def PI(X:Cx)(tg iter:br)(wi:TI):Prop:=
 ∀(pins:List (ay×Obj))(s:aE)(σ:St)(H:Hp)(R:It->Hp->Prop),Inv X pins σ H s->wi σ H R->
  bg (model X.prog X.w) X.A (eval iter X.env) (λv s1=>bg (model X.prog X.w) X.A (pyIter v) (P5 X pins σ tg R) X.xe s1) X.xe s
def t7{M:Model}{A:cy}{E:ai->aE->Prop}{s:aE}{tg:br}{it:ay}{u:ai}{o:Obj}{n:String}{vs:Array ai}{Q:Unit->aE->Prop}(ho:s.heap.get? it=af o)(hc:o.cls= .type n)(hd:o.data= .fields vs)(hn:["enumerate", "zip", "dict_itemiterator", "dict_reverseitemiterator", "odict_iterator", "itertools.zip_longest", "itertools.pairwise"].contains n=aS)(hQ:Q () s):bg M A (letOwnedTupleGo tg (.ref it) u) Q E s:=by
  unfold letOwnedTupleGo;cases tg<;>first
    |exact Uw hQ
    | (cases u<;>first
        |exact Uw hQ
        | (refine My (wpAny_load ho ?_)
           rw[hc,hd];show bg M A (if(["enumerate", "zip", "dict_itemiterator", "dict_reverseitemiterator", "odict_iterator", "itertools.zip_longest", "itertools.pairwise"].contains n && vs[0]?==af (rawInt _))=av then _ else _) Q E s;rw[if_neg (by lia)];exact Uw hQ))
def NW(K:aI)(a:ay):It:=
 ⟨λi H=>∃xs x,xy K H a xs/\xs[i]?=af x,λi H x H'=>H'=H/\∀xs,xy K H a xs->xs[i]?=af x,λi H=>∃xs,xy K H a xs/\xs.length<=i⟩
def NX(K:aI)(a:ay):It:=
 ⟨λi H=>∃xs x,sR K H a xs/\xs[i]?=af x,λi H x H'=>H'=H/\∀xs,sR K H a xs->xs[i]?=af x,λi H=>∃xs,sR K H a xs/\xs.length<=i⟩
def MO(lo:Int)(n:Nat):It:=⟨λi _=>i<n,λi H x H'=>H'=H/\x= .int (lo+i),λi _=>n<=i⟩
def By{P:bX}{w:ck}{K:aI}{tg:br}(a it:ay):Turn P w K tg (NW K a) [it] it (λi h=>h.IsListIter it a i)where
 mem:=by simp
 obj:=λi h st b hb=>by
  have e:b=it:=by simpa using hb
  subst e;obtain⟨o,e,c,d⟩:=st
  simp_all
 keep:=λi h h' st k=>st.at λo e=>k it (by simp) o e
 item:=by intro X hP hw hK hc i pins s σ H E I hf st hg;subst hP hw hK;obtain⟨xs,x,hq,hx⟩:=hg;obtain⟨its,rv,p,hz⟩:=I.list hq;obtain⟨u,hu,ru⟩:=rv.get hx;obtain⟨f0,f1,f2,f3,f4,f5⟩:=hf it (by simp);refine wpAny_pyNext_list_item st p.isList (x:=u) (by simpa using hu) λh' st' sb=>?_;have I1:Inv X pins σ H {s with heap:=h'}:=I.turned (t':=s.toks) (λb o hb e=>(sb.2 b hb).trans e) f0 f1 f3 f4 f5;obtain⟨o,e,c,d⟩:=id st';exact⟨u,rfl,t7 (s:={s with heap:=h'}) e c d (by decide) ⟨x,H,I1,ru,⟨rfl,λys hy=>by rw[I.D7 hy hq];exact hx⟩,st',λb hb=>(hf b hb).1⟩⟩
 done:=by intro X hP hw hK hc i pins s σ H E I hf st hg;subst hP hw hK;obtain⟨xs,hq,hx⟩:=hg;obtain⟨its,rv,p,hz⟩:=I.list hq;obtain⟨f0,f1,f2,f3,f4,f5⟩:=hf it (by simp);have hl:=rv.length;exact wpAny_pyNext_list_end (I.ok.hd hc) st p.isList (by simp;lia) λh' eb=>⟨rfl,I.turned (t':=s.toks) (λb o hb e=>eb b o hb e) f0 f1 f3 f4 f5⟩
 self:=λ_ _ _ _ _ st h=>wpAny_pyIter_listiter st h
def zf{P:bX}{w:ck}{K:aI}{tg:br}(a it:ay):Turn P w K tg (NX K a) [it] it (λi h=>h.IsTupleIter it a i)where
 mem:=by simp
 obj:=λi h st b hb=>by
  have e:b=it:=by simpa using hb
  subst e;obtain⟨o,e,c,d⟩:=st
  simp_all
 keep:=λi h h' st k=>st.at λo e=>k it (by simp) o e
 item:=by intro X hP hw hK hc i pins s σ H E I hf st hg;subst hP hw hK;obtain⟨xs,x,hq,hx⟩:=hg;obtain⟨its,rv,p,hz⟩:=I.tuple hq;obtain⟨u,hu,ru⟩:=rv.get hx;obtain⟨f0,f1,f2,f3,f4,f5⟩:=hf it (by simp);refine wpAny_pyNext_tuple_item st (show s.heap.IsTuple a its.toArray from p) (x:=u) (by simpa using hu) λh' st' sb=>?_;have I1:Inv X pins σ H {s with heap:=h'}:=I.turned (t':=s.toks) (λb o hb e=>(sb.2 b hb).trans e) f0 f1 f3 f4 f5;obtain⟨o,e,c,d⟩:=id st';exact⟨u,rfl,t7 (s:={s with heap:=h'}) e c d (by decide) ⟨x,H,I1,ru,⟨rfl,λys hy=>by rw[I.BH hy hq];exact hx⟩,st',λb hb=>(hf b hb).1⟩⟩
 done:=by intro X hP hw hK hc i pins s σ H E I hf st hg;subst hP hw hK;obtain⟨xs,hq,hx⟩:=hg;obtain⟨its,rv,p,hz⟩:=I.tuple hq;obtain⟨f0,f1,f2,f3,f4,f5⟩:=hf it (by simp);have hl:=rv.length;exact wpAny_pyNext_tuple_end (I.ok.hd hc) st (show s.heap.IsTuple a its.toArray from p) (by simp;lia) λh' eb=>⟨rfl,I.turned (t':=s.toks) (λb o hb e=>eb b o hb e) f0 f1 f3 f4 f5⟩
 self:=λ_ _ _ _ _ st h=>wpAny_pyIter_tupleiter st h
def zg{P:bX}{w:ck}{K:aI}{tg:br}(it:ay)(lo:Int)(n:Nat):Turn P w K tg (MO lo n) [it] it (λi h=>IsRangeIter h it (lo+(i:Nat)*1) ((n:Int) - (i:Nat)) 1)where
 mem:=by simp
 obj:=λi h st b hb=>by simp_all
 keep:=λi h h' st k=>k it (by simp) _ st
 item:=by intro X hP hw hK hc i pins s σ H E I hf st hg;subst hP hw hK;obtain⟨f0,f1,f2,f3,f4,f5⟩:=hf it (by simp);have W:=Walks.range (prog:=X.prog) (w:=X.w) (I.ok.hd hc) it lo 1 n;refine W.item i s _ _ hg st λv h' tk hv st' kk=>?_;obtain⟨t,rfl⟩:=hv;have I1:Inv X pins σ H {s with heap:=h',toks:=tk}:=I.turned (λb o hb e=>kk b o (by simpa using hb) e) f0 f1 f3 f4 f5;refine⟨_,rfl,t7 (s:={s with heap:=h',toks:=tk}) (n:= "range_iterator") st' rfl rfl (by decide) ⟨.int (lo+i),H,I1,⟨t,?_⟩,⟨rfl,rfl⟩,st',λb hb=>(hf b hb).1⟩⟩;lia
 done:=by intro X hP hw hK hc i pins s σ H E I hf st hg;subst hP hw hK;obtain⟨f0,f1,f2,f3,f4,f5⟩:=hf it (by simp);exact wpAny_pyNext_range_end (I.ok.hd hc) st (by have:n<=i:=hg;lia) λh' eb=>⟨rfl,I.turned (t':=s.toks) (λb o hb e=>eb b o hb e) f0 f1 f3 f4 f5⟩
 self:=λ_ _ _ _ _ st h=>wpAny_pyIter_rangeiter st h
section
variable{X:Cx}{tg:br}
def Q8(K:aI)(tl:TE):TI:=λσ H R=>tl σ H λx H1=>∃a,x= .ref a/\(∃xs,xy K H1 a xs)/\R (NW K a) H1
def Tp(K:aI)(tl:TE):TI:=λσ H R=>tl σ H λx H1=>∃a,x= .ref a/\(∃xs,sR K H1 a xs)/\R (NX K a) H1
def wY{l:br}{tl:TE}(hl:PE X l tl):PI X tg l (Q8 X.K tl):=by
 intro pins s σ H R I h;refine ja (hl pins s σ H _ I h) λv s1 zz=>?_;refine bQ zz λx H1 I1 r1 q1=>?_;obtain⟨a,e,⟨xs,hq⟩,q⟩:=q1;subst e;cases r1;obtain⟨its,rv,p,hz⟩:=I1.list hq;refine wpAny_pyIter_list p.isList ?_;refine⟨s1.heap.objs.size,[s1.heap.objs.size],_,_,H1,rfl,I1.kept (t':=s1.toks) λb o e=>Uv _ e,By a _,⟨_,UW _ rfl,rfl,rfl⟩,λb hb=>?_,q⟩;have e:b=s1.heap.objs.size:=by simpa using hb
 subst e;exact I1.BS (Uz _) (I1.hok.fresh (Uz _))
def M6{l:br}{tl:TE}(hl:PE X l tl):PI X tg l (Tp X.K tl):=by
 intro pins s σ H R I h;refine ja (hl pins s σ H _ I h) λv s1 zz=>?_;refine bQ zz λx H1 I1 r1 q1=>?_;obtain⟨a,e,⟨xs,hq⟩,q⟩:=q1;subst e;cases r1;obtain⟨its,rv,p,hz⟩:=I1.tuple hq;refine Xg (show s1.heap.IsTuple a its.toArray from p) ?_;refine⟨s1.heap.objs.size,[s1.heap.objs.size],_,_,H1,rfl,I1.kept (t':=s1.toks) λb o e=>Uv _ e,zf a _,⟨_,UW _ rfl,rfl,rfl⟩,λb hb=>?_,q⟩;have e:b=s1.heap.objs.size:=by simpa using hb
 subst e;exact I1.BS (Uz _) (I1.hok.fresh (Uz _))
def Gw{pins:List (ay×Obj)}{σ:St}{H:Hp}{s:aE}{R:It->Hp->Prop}{E:ai->aE->Prop}{lo hi:Int}{t u v:Tok}{tk:Nat}(I:Inv X pins σ H s)(h1: -(2^62)<=lo)(h2:lo<2^62)(h3: -(2^62)<=hi)(h4:hi<2^62)(q:R (MO lo (hi - lo).toNat) H):bg (model X.prog X.w) X.A (pyIter (.ref s.heap.objs.size)) (P5 X pins σ tg R) E {s with heap:=s.heap.push {cls:= .type "range",data:= .fields #[.int lo t,.int hi u,.int 1 v]},toks:=tk}:=by
 refine wpAny_pyIter_range (IsRange.new ..) (small_one h1 h2 h3 h4) ?_;have I1:Inv X pins σ H {s with heap:=s.heap.push {cls:= .type "range",data:= .fields #[.int lo t,.int hi u,.int 1 v]},toks:=tk}:=I.kept λb o e=>Uv _ e;refine⟨(s.heap.push {cls:= .type "range",data:= .fields #[.int lo t,.int hi u,.int 1 v]}).objs.size,[(s.heap.push {cls:= .type "range",data:= .fields #[.int lo t,.int hi u,.int 1 v]}).objs.size],_,_,H,rfl,
  I1.kept (t':=tk) λb o e=>Uv _ e,zg _ lo (hi - lo).toNat,?_,λb hb=>?_,q⟩
 ·have e1:lo+((0:Nat):Int)*1=lo:=by simp
  have e2:(((hi - lo).toNat:Nat):Int) - ((0:Nat):Int)=Builtin.Range.rangeSize lo hi 1:=by rw[rangeSize_one];split<;>lia
  show IsRangeIter _ _ (lo+((0:Nat):Int)*1) ((((hi - lo).toNat:Nat):Int) - ((0:Nat):Int)) 1;rw[e1,e2];exact UW _ rfl
 ·have e:b=(s.heap.push {cls:= .type "range",data:= .fields #[.int lo t,.int hi u,.int 1 v]}).objs.size:=by simpa using hb
  subst e;exact I1.BS (Uz _) (I1.hok.fresh (Uz _))
def Q9(ta:TA):TI:=λσ H R=>ta σ H λvs H1=>∃j:Int,vs=[.int j]/\ -(2^62)<=j/\j<2^62/\R (MO 0 j.toNat) H1
theorem BJ{a:br}{ta:TA}{p pos:Pos}(hg:Gl X "range")(hm:X.mg "range" =ah)(ha:PA X [a] ta)(hs:starEach [a] X.env=[(aS,eval a X.env)]:=by rfl):PI X tg (.Call (.Name "range" p) [a] [] pos) (Q9 ta):=by
 intro pins s σ H R I h;refine Call_ (jT I hg hm boot_range (WP (ja (ha pos pins s σ H _ I h) λus s1 zz=>?_) hs rfl));refine bQ zz λvs H1 I1 r1 q1=>?_;obtain⟨j,e,q1,q2,q⟩:=q1;subst e;cases r1 with
 |cons r rr=>cases rr;obtain⟨t,rfl⟩:=r;exact call_range_1 (Gw I1 (by lia) (by lia) q1 q2 (by simpa using q))
def Tq(wi:TI)(g:TG)(tb:TS):TS:=λD σ H=>wi σ H λJ H1=>∃W:Nat->Nat->St->Hp->Prop,(∃m,W 0 m σ H1)/\∀i m σ H,W i m σ H->
 (J.stop i H/\D.nx σ H)\/(J.go i H/\∃N:St->Hp->Prop,(∀σ' H',N σ' H'->∃m',m'<m/\W (i+1) m' σ' H')/\∀x H',J.MM i H x H'->g x σ H' λσ2 H2=>tb {D with nx:=N,ct:=N,bk:=D.nx} σ2 H2)
def jU(fp:List ay)(h:cK):List (ay×Obj):=fp.filterMap λb=>(h.get? b).map λo=>(b,o)
def jg{fp:List ay}{h:cK}{b:ay}{o:Obj}(hb:b∈fp)(e:h.get? b=af o):(b,o)∈jU fp h:=List.mem_filterMap.mpr ⟨b,hb,by rw[e];rfl⟩
def BK{fp:List ay}{h:cK}{p:ay×Obj}(hp:p∈jU fp h):p.1∈fp/\h.get? p.1=af p.2:=by
 obtain⟨b,hb,e⟩:=List.mem_filterMap.mp hp;cases q:h.get? b with|none=>simp_all|some o=>grind
def Inv.pinned{pins:List (ay×Obj)}{σ:St}{H:Hp}{s:aE}{fp:List ay}(I:Inv X pins σ H s)(hf:∀b∈fp,eO X pins H b)(ho:∀b∈fp,∃o,s.heap.get? b=af o/\∀v,o.data≠ .cell v):Inv X (pins++jU fp s.heap) σ H s:=
 I.x6 λp hp=>(Vt.mp hp).elim (λz=>I.pin p (Vi _ z)) λz=>by obtain⟨hb,e⟩:=BK z;obtain⟨f0,f1,f2,_⟩:=hf p.1 hb;obtain⟨o,e',d⟩:=ho p.1 hb;rw[e]at e';cases e';exact⟨e,f0,f1,f2,d⟩
def Inv.AL{pins pl:List (ay×Obj)}{σ:St}{H:Hp}{s:aE}(I:Inv X (pins++pl) σ H s):Inv X pins σ H s:=I.x6 λp hp=>I.pin p (Vi _ (Wn _ hp))
def BL{iter:br}{body:List eL}{wi:TI}{g:TG}{tb:TS}{pos:Pos}(hp:PassesOwn (model X.prog X.w) X.A X.env X.xe)(hc:X.calm=av)(hi:PI X tg iter wi)(hg:PG X tg g)(hb:DS X body tb)(hs:∀x,foldedSetIterable iter X.env x=pure x:=by intro _;rfl):PS X (.For tg iter body [] pos) (Tq wi g tb):=by
 intro pins s σ H D I h;refine wpAny_For (ja (hi pins s σ H _ I h) λv s1 h1=>ja h1 λitv s2 h2=>?_) hs;obtain⟨it,fp,tn,J,H2,e,I2,T,st2,f2,W,⟨m0,w0⟩,turn⟩:=h2;subst e;have stat:∀{H':Hp},(∀b∈fp,H' b=ah)->∀b∈fp,eO X pins H' b:=λhn b hb=>⟨hn b hb,(f2 b hb).2⟩
 refine codeAny_forLoop_any (λn s'=>∃i σ' H',Inv X pins σ' H' s'/\tn i s'.heap/\(∀b∈fp,H' b=ah)/\W i n σ' H') ?_ m0 ⟨0,σ,H2,I2,st2,λb hb=>(f2 b hb).1,w0⟩;rintro n s3 ⟨i,σ3,H3,I3,st3,P6,w3⟩;rcases turn i n σ3 H3 w3 with⟨stop,qn⟩|⟨go,N,hN,step⟩
 ·refine wpAny_passesOwn hp (ja (T.done X rfl rfl rfl hc i pins s3 σ3 H3 X.xe I3 (stat P6) st3 stop) λr s4 zz=>?_);obtain⟨hr,I4⟩:=zz;subst hr;exact wpAny_execs_nil ⟨σ3,H3,I4,qn⟩
 ·refine wpAny_passesOwn hp (ja (T.item X rfl rfl rfl hc i pins s3 σ3 H3 X.xe I3 (stat P6) st3 go) λr s4 zz=>?_);obtain⟨u,hr,h4⟩:=zz;subst hr;refine wpAny_passesOwn hp (ja h4 λ_ s5 zz=>?_);obtain⟨x,H5,I5,r5,y5,GO,SV⟩:=zz;have SW:=I5.pinned (stat SV) (T.obj _ _ GO);refine wpAny_passesOwn hp (ja (hg _ s5 σ3 H5 x u _ SW r5 (step x H5 y5)) λ_ s6 zz=>?_);obtain⟨σ6,H6,I6,q6⟩:=zz;refine wpAny_passesOwn hp (ja (hb _ s6 σ6 H6 _ I6 q6) λf s7 q7=>?_);have again:∀{σ7:St}{H7:Hp},Inv X (pins++jU fp s5.heap) σ7 H7 s7->N σ7 H7->∃m,m<n/\∃i σ' H',Inv X pins σ' H' s7/\tn i s7.heap/\(∀b∈fp,H' b=ah)/\W i m σ' H':=λ{σ7 H7} I7 n7=>by
   obtain⟨m',hm,w7⟩:=hN σ7 H7 n7;refine⟨m',hm,i+1,σ7,H7,I7.AL,T.keep _ _ _ GO λb hb o e=>(I7.pin (b,o) (Vi _ (Vi _ (jg hb e)))).1,λb hb=>?_,w7⟩;obtain⟨o,e,d⟩:=T.obj _ _ GO b hb;exact(I7.pin (b,o) (Vi _ (Vi _ (jg hb e)))).2.1
  cases f with
  |next=>obtain⟨σ7,H7,I7,n7⟩:=q7;exact again I7 n7
  |cont=>obtain⟨σ7,H7,I7,n7⟩:=q7;exact again I7 n7
  |brk=>obtain⟨σ7,H7,I7,q7⟩:=q7;exact⟨σ7,H7,I7.AL,q7⟩
  |ret v=>obtain⟨x7,σ7,H7,I7,r7,q7⟩:=q7;exact⟨x7,σ7,H7,I7.AL,r7,q7⟩
end
abbrev R2:=V->V->Hp->VK->Prop
def BD(X:Cx)(f:ai->ai->Sem ai)(r:R2):Prop:=
 ∀(pins:List (ay×Obj))(s:aE)(σ:St)(H:Hp)(x y:V)(v u:ai)(Q:VK),Inv X pins σ H s->RelV x v->RelV y u->r x y H Q->
  bg (model X.prog X.w) X.A (f v u) (EP X pins σ Q) X.xe s
def NY(X:Cx)(f:ai->Sem ai)(r:V->Hp->VK->Prop):Prop:=
 ∀(pins:List (ay×Obj))(s:aE)(σ:St)(H:Hp)(x:V)(v:ai)(Q:VK),Inv X pins σ H s->RelV x v->r x H Q->
  bg (model X.prog X.w) X.A (f v) (EP X pins σ Q) X.xe s
def bH(X:Cx)(f:ai)(r:List V->Hp->VK->Prop):Prop:=
 ∀(pins:List (ay×Obj))(s:aE)(σ:St)(H:Hp)(xs:List V)(us:List ai)(Q:VK),Inv X pins σ H s->Vals xs us->r xs H Q->
  bg (model X.prog X.w) X.A (call f us) (EP X pins σ Q) X.xe s
def Tr(X:Cx)(r:V->Hp->(Bool->Hp->Prop)->Prop):Prop:=
 ∀(pins:List (ay×Obj))(s:aE)(σ:St)(H:Hp)(x:V)(v:ai)(Q:Bool->Hp->Prop),Inv X pins σ H s->RelV x v->r x H Q->
  bg (model X.prog X.w) X.A (truthy v) (TP X pins σ Q) X.xe s
def MQ(r:R2)(ta tb:TE):TE:=λσ H Q=>ta σ H λx H1=>tb σ H1 λy H2=>r x y H2 Q
def SY(r:V->Hp->VK->Prop)(ta:TE):TE:=λσ H Q=>ta σ H λx H1=>r x H1 Q
def rI(C:Int->Int->Prop)(g:Int->Int->V):R2:=λx y H Q=>∃i j,x= .int i/\y= .int j/\C i j/\Q (g i j) H
def F5(g:Int->Int->V):R2:=λx y H Q=>∃i j,x= .int i/\y= .int j/\Q (g i j) H
def rU(g:Int->V):V->Hp->VK->Prop:=λx H Q=>∃i,x= .int i/\Q (g i) H
section
variable{X:Cx}{a b:br}{ta tb:TE}{pos:Pos}
def Gx(ha:PE X a ta)(hb:PE X b tb){pins:List (ay×Obj)}{s:aE}{σ:St}{H:Hp}{R:V->V->Hp->Prop}(I:Inv X pins σ H s)(h:ta σ H λx H1=>tb σ H1 λy H2=>R x y H2){Q:ai->aE->Prop}{f:ai->ai->Sem ai}(hf:∀v u s2 x y H2,Inv X pins σ H2 s2->RelV x v->RelV y u->R x y H2->bg (model X.prog X.w) X.A (f v u) Q X.xe s2):
  bg (model X.prog X.w) X.A (eval a X.env) (λv s₁=>bg (model X.prog X.w) X.A (eval b X.env) (λu s₂=>bg (model X.prog X.w) X.A (f v u) Q X.xe s₂) X.xe s₁) X.xe s:=by
 refine ja (ha pins s σ H _ I h) λv s1 zz=>?_;refine bQ zz λx H1 I1 r1 q1=>?_;refine ja (hb pins s1 σ H1 _ I1 q1) λu s2 zz=>?_;refine bQ zz λy H2 I2 r2 q2=>?_;exact hf v u s2 x y H2 I2 r1 r2 q2
def Ra{op:Operator}{r:R2}(ho:BD X (binaryOp op) r)(ha:PE X a ta)(hb:PE X b tb):PE X (.BinOp a op b pos) (MQ r ta tb):=by intro pins s σ H Q I h;exact wpAny_BinOp (Gx ha hb I h λv u s2 x y H2 I2 rx ry q=>ho pins s2 σ H2 x y v u Q I2 rx ry q)
def Rb{op:UnaryOp}{r:V->Hp->VK->Prop}(ho:NY X (unaryOp op) r)(ha:PE X a ta):PE X (.UnaryOp op a pos) (SY r ta):=by intro pins s σ H Q I h;exact UnaryOp_ (ja (ha pins s σ H _ I h) λv s1 z=>bQ z λx H1 I1 r1 q1=>ho pins s1 σ H1 x v Q I1 r1 q1)
def MR{f:ai->ai->Sem ai}{C:Int->Int->Prop}{g:Int->Int->Int}(rule:∀(i j:Int)(t u:Tok)(s:aE)(Q:ai->aE->Prop)(E:ai->aE->Prop),C i j->Q (.int (g i j) s.toks) {s with toks:=s.toks+1}->bg (model X.prog X.w) X.A (f (.int i t) (.int j u)) Q E s):
  BD X f (rI C λi j=> .int (g i j)):=by
 intro pins s σ H x y v u Q I rx ry h;obtain⟨i,j,rfl,rfl,hc,q⟩:=h;obtain⟨t,rfl⟩:=rx;obtain⟨t',rfl⟩:=ry;exact rule i j t t' s _ _ hc ⟨.int (g i j),H,I.tok _,⟨_,rfl⟩,q⟩
def M7{f:ai->ai->Sem ai}{g:Int->Int->Int}(rule:∀(i j:Int)(t u:Tok)(s:aE)(Q:ai->aE->Prop)(E:ai->aE->Prop),Q (.int (g i j) s.toks) {s with toks:=s.toks+1}->bg (model X.prog X.w) X.A (f (.int i t) (.int j u)) Q E s):
  BD X f (F5 λi j=> .int (g i j)):=by
 intro pins s σ H x y v u Q I rx ry h;obtain⟨i,j,rfl,rfl,q⟩:=h;obtain⟨t,rfl⟩:=rx;obtain⟨t',rfl⟩:=ry;exact rule i j t t' s _ _ ⟨.int (g i j),H,I.tok _,⟨_,rfl⟩,q⟩
def zj{f:ai->ai->Sem ai}{g:Int->Int->Bool}(rule:∀(i j:Int)(t u:Tok)(s:aE)(Q:ai->aE->Prop)(E:ai->aE->Prop),Q (.bool (g i j)) s->bg (model X.prog X.w) X.A (f (.int i t) (.int j u)) Q E s):
  BD X f (F5 λi j=> .bl (g i j)):=by
 intro pins s σ H x y v u Q I rx ry h;obtain⟨i,j,rfl,rfl,q⟩:=h;obtain⟨t,rfl⟩:=rx;obtain⟨t',rfl⟩:=ry;exact rule i j t t' s _ _ ⟨.bl (g i j),H,I,rfl,q⟩
def Tt(i j:Int):Prop:=0<j/\j<1073741824
def Tu(i j:Int):Prop:=0<=j/\j<=1000000/\i.natAbs<2^64
def Gy(i j:Int):Prop:=(-(2^64)<i/\i<2^64)\/(-(2^64)<j/\j<2^64)
def Gy.ok{i j:Int}(h:Gy i j):IntMulOk i j:=by
 rcases h with⟨h1,h2⟩|⟨h1,h2⟩
 ·exact .of_left (intBits_le_64 h1 h2)
 ·exact .of_right (intBits_le_64 h1 h2)
def M8:BD X (binaryOp .Add) (F5 λi j=> .int (i+j)):=M7 λ_ _ _ _ _ _ _ q=>add_int q
def M9:BD X (binaryOp .Sub) (F5 λi j=> .int (i - j)):=M7 λ_ _ _ _ _ _ _ q=>sub_int q
def Nb:BD X (binaryOp .Mult) (rI Gy λi j=> .int (i*j)):=MR λ_ _ _ _ _ _ _ hc q=>mul_int q hc.ok
def JQ:BD X (binaryOp .FloorDiv) (rI Tt λi j=> .int (i/j)):=MR λi j _ _ _ _ _ hc q=>by have h1:(0:Int)<j:=hc.1;have h2:j<1073741824:=hc.2;exact floordiv_int (by lia) (by rw[Int.fdiv_eq_ediv_of_nonneg i (by lia)];exact q) (.inl (PyProof.noPylong_small (by lia)))
def Nh:BD X (binaryOp .Mod) (rI (λ_ j=>0<j) λi j=> .int (i % j)):=MR λi j _ _ _ _ _ hc q=>by have h1:(0:Int)<j:=hc;exact mod_int' (by lia) (by rw[Int.fmod_eq_emod_of_nonneg i (by lia)];exact q)
def Ni:BD X (binaryOp .LShift) (rI Tu λi j=> .int (i*2^j.toNat)):=MR λ_ _ _ _ _ _ _ hc q=>lshift_int_small hc.1 hc.2.1 hc.2.2 q
def To{f:ai->Sem ai}{g:Int->Int}(rule:∀(i:Int)(t:Tok)(s:aE)(Q:ai->aE->Prop)(E:ai->aE->Prop),Q (.int (g i) s.toks) {s with toks:=s.toks+1}->bg (model X.prog X.w) X.A (f (.int i t)) Q E s):
  NY X f (rU λi=> .int (g i)):=by
 intro pins s σ H x v Q I rx h;obtain⟨i,rfl,q⟩:=h;obtain⟨t,rfl⟩:=rx;exact rule i t s _ _ ⟨.int (g i),H,I.tok _,⟨_,rfl⟩,q⟩
def Nj:NY X (unaryOp .USub) (rU λi=> .int (-i)):=To λ_ _ _ _ _ q=>neg_int q
end
section
variable{X:Cx}{a b c:br}{ta tb:TE}{pos:Pos}
def Rc:BD X (compareOp .Lt) (F5 λi j=> .bl (decide (i<j))):=zj λ_ _ _ _ _ _ _ q=>lt_int q
def Rf:BD X (compareOp .LtE) (F5 λi j=> .bl (decide (i<=j))):=zj λ_ _ _ _ _ _ _ q=>le_int q
def Rg:BD X (compareOp .Gt) (F5 λi j=> .bl (decide (j<i))):=zj λ_ _ _ _ _ _ _ q=>gt_int q
def Rh:BD X (compareOp .GtE) (F5 λi j=> .bl (decide (j<=i))):=zj λ_ _ _ _ _ _ _ q=>ge_int q
def JR{op:CmpOp}{r:R2}(ho:BD X (compareOp op) r)(ha:PE X a ta)(hb:PE X b tb)(hm:behindInMarks op b=aS):PE X (.Compare a [op] [b] pos) (MQ r ta tb):=by intro pins s σ H Q I h;exact wpAny_Compare1 (Gx ha hb I h λv u s2 x y H2 I2 rx ry q=>ho pins s2 σ H2 x y v u Q I2 rx ry q) hm
def Ri(t:TE):TT:=λσ H Q=>t σ H λx H'=>∃k,x= .bl k/\Q k H'
def JV{op:CmpOp}{r:R2}(ho:BD X (compareOp op) r)(ha:PE X a ta)(hb:PE X b tb)(hm:behindInMarks op b=aS):PT X (.Compare a [op] [b] pos) (Ri (MQ r ta tb)):=by
 intro pins s σ H Q I h;refine wpAny_isTrue_Compare1 (ja (ha pins s σ H _ I h) λv s1 z=>bQ z λx H1 I1 r1 q1=>ja (hb pins s1 σ H1 _ I1 q1) λu s2 z=>bQ z λy H2 I2 r2 q2=>
  ja (ho pins s2 σ H2 x y v u _ I2 r1 r2 q2) λc s3 ⟨z,H3,I3,r3,k,e,q3⟩=>?_) hm
 subst e;cases r3;exact wpAny_truthy_bool ⟨H3,I3,q3⟩
def zm(K:aI)(x:V)(H:Hp)(k:Bool):Prop:=
 match x with
 |.non=>k=aS|.bl b=>k=b|.int i=>k=(i !=0)|.str y=>y.length<=aT/\k=((y.length:Int) !=0)|.IM y=>y.size<=aT/\k=((y.size:Int) !=0)|.ref p=>(∃xs,xy K H p xs/\k=!xs.isEmpty)\/(∃xs,sR K H p xs/\k=!xs.isEmpty)\/∃kvs,H p=af (.dK kvs)/\k=!kvs.isEmpty|_=>False
def zp{κ:Type}{kvs:List (κ×V)}{vs:List (κ×ai)}(r:KV kvs vs):(!vs.isEmpty)=!kvs.isEmpty:=by cases r<;>rfl
def pU{xs:List V}{its:List ai}(r:Vals xs its):(!its.toArray.isEmpty)=!xs.isEmpty:=by cases r<;>simp
def jV:(aT:Nat)<2^63:=by rw[VL];decide
theorem BP:Tr X (λx H Q=>∃k,zm X.K x H k/\Q k H):=by
 intro pins s σ H x v Q I rx h;obtain⟨k,e,q⟩:=h;have hl:=jV;have hs:aT=16777216:=VL;cases x with
 |non=>cases rx;have e':k=false:=e;subst e';exact truthy_none ⟨H,I,q⟩|bl b=>cases rx;have e':k=b:=e;subst e';exact wpAny_truthy_bool ⟨H,I,q⟩|int i=>obtain⟨t,rfl⟩:=rx;have e':k=(i !=0):=e;subst e';exact PySem.P.truthy_int ⟨H,I,q⟩
 |str y=>obtain⟨t,rfl⟩:=rx;obtain⟨hy,e'⟩:y.length<=aT/\k=((y.length:Int) !=0):=e;subst e';exact PySem.P.truthy_str (by lia) ⟨H,I.tok _,q⟩
 |IM y=>obtain⟨t,rfl⟩:=rx;obtain⟨hy,e'⟩:y.size<=aT/\k=((y.size:Int) !=0):=e;subst e';exact PySem.W.truthy_bytes (by lia) ⟨H,I.tok _,q⟩
 |ref p=>
  cases rx;have e':(∃xs,xy X.K H p xs/\k=!xs.isEmpty)\/(∃xs,sR X.K H p xs/\k=!xs.isEmpty)\/∃kvs,H p=af (.dK kvs)/\k=!kvs.isEmpty:=e;rcases e' with⟨xs,hx,e'⟩|⟨xs,hx,e'⟩|⟨kvs,hx,e'⟩
  ·subst e';obtain⟨its,r,pl,hz⟩:=I.list hx;have hlen:=r.length;exact wpAny_truthy_list pl.isList (by simp only[Vr];lia) ⟨H,I.tok _,by rw[pU r];exact q⟩
  ·subst e';obtain⟨its,r,pl,hz⟩:=I.tuple hx;have hlen:=r.length;exact truthy_tuple pl (by simp only[Vr];lia) ⟨H,I.tok _,by rw[pU r];exact q⟩
  ·subst e';obtain⟨hz,hS,vs,r,m⟩:kvs.length<=aT/\(p==sysModules)=aS/\∃vs,KV kvs vs/\s.heap.DictOf (aY X.prog X.w) p vs:=I.hok p _ hx;have hlen:kvs.length=vs.length:=Paired.length r;exact wpAny_truthy_dict hS m (by lia) ⟨H,I.tok _,by rw[zp r];exact q⟩
 |_=>exact(show False from e).elim
def Gz(ha:PE X a ta)(he:∀whole,isTrue a X.env whole=(do let v ←whole;standAt a.pos;holding [v] (truthy v))):
  PT X a (λσ H Q=>ta σ H λx H'=>∃k,zm X.K x H' k/\Q k H'):=by
 intro pins s σ H Q I h;exact isTrue_plain (ja (ha pins s σ H _ I h) λv s1 z=>bQ z λx H1 I1 r1 q1=>BP pins s1 σ H1 x v Q I1 r1 q1) (he _)
def vals1{x:V}{us:List ai}(r:Vals [x] us):∃u,us=[u]/\RelV x u:=by
 cases r with|cons r1 r2=>cases r2;simp_all
theorem vals2{x y:V}{us:List ai}(r:Vals [x,y] us):∃u w',us=[u,w']/\RelV x u/\RelV y w':=by
 cases r with
 |cons r1 r2=>
  cases r2 with|cons r3 r4=>cases r4;exact⟨_,_,rfl,r1,r3⟩
def BR(hc:X.calm=av):bH X (.builtin "max") (λxs H Q=>∃i j,xs=[.int i,.int j]/\Q (.int (if j>i then j else i)) H):=by
 intro pins s σ H xs us Q I r h;obtain⟨i,j,rfl,q⟩:=h;obtain⟨u,w',rfl,⟨t,rfl⟩,⟨t',rfl⟩⟩:=vals2 r;refine max_two_ints (I.ok.hd hc) λh' tk k=>⟨_,H,I.kept k,?_,q⟩
 by_cases hj:j>i
 ·rw[if_pos hj,if_pos hj];exact⟨_,rfl⟩
 ·rw[if_neg hj,if_neg hj];exact⟨_,rfl⟩
def BV(hc:X.calm=av):bH X (.builtin "min") (λxs H Q=>∃i j,xs=[.int i,.int j]/\Q (.int (if j<i then j else i)) H):=by
 intro pins s σ H xs us Q I r h;obtain⟨i,j,rfl,q⟩:=h;obtain⟨u,w',rfl,⟨t,rfl⟩,⟨t',rfl⟩⟩:=vals2 r;refine min_two_ints (I.ok.hd hc) λh' tk k=>⟨_,H,I.kept k,?_,q⟩
 by_cases hj:j<i
 ·rw[if_pos hj,if_pos hj];exact⟨_,rfl⟩
 ·rw[if_neg hj,if_neg hj];exact⟨_,rfl⟩
end
structure CL(h:cK)(x dx C:ay)(mA:Str->Option ai):Prop where
 obj:h.get? x=af (fE C dx)
 ns:h.Ns1 dx mA
 ne:dx≠x
def BW{h:cK}{dx:ay}{mA:Str->Option ai}(n:h.Ns1 dx mA):∃od,h.get? dx=af od/\∀name,lT name od=af (mA name):=by
 obtain⟨o,es,ep,ho,hd,hk,_,hm⟩:=n;refine⟨o,ho,λname=>?_⟩;have e:=hm name;unfold nsFind findBy at e;rw[←Array.find?_toList]at e;unfold lT;rw[hd];dsimp only;split
 ·simp_all
 ·rename_i q;rw[q]at e;have a:es.toList.any (·.refKey)=false:=by
   rw[List.any_eq_false];intro y hy;obtain⟨z,t,hkey⟩:=hk y (Array.mem_toList_iff.mp hy);simp[DictEntry.refKey,hkey]
  simp_all
def CL.look{h:cK}{x dx C:ay}{mA:Str->Option ai}(I:CL h x dx C mA):∃od,iO h x (fE C dx) C (af od)/\∀name,lT name od=af (mA name):=
 let⟨od,ho,hl⟩:=BW I.ns
 ⟨od,⟨I.obj,rfl,rfl,ho⟩,hl⟩
section
variable{prog:bX}{w:ck}{A:cy}{E:ai->aE->Prop}{s:aE}{K:aI}{x dx C f:ay}{mA:Str->Option ai}{name:Str}{v:ai}
def JX{expr:Bool}{Q:ai->aE->Prop}(X:K.In s.heap)(I:CL s.heap x dx C mA)(hg:jI K C name=av)(hh:ng K C=av)(ha:eB K (.ref C) name=af ah)(hv:mA name=af v)(hv':tN v=av)(h:Q v {s with toks:=s.toks+1}):
  bg (model prog w) A (getAttr (.ref x) name expr) Q E s:=by
 obtain⟨od,J,hl⟩:=I.look;exact PySem.W.get_value X J (kF hg).1 (PySem.W.findObj_own hh ha rfl (by rw[hl,hv])) hv' h
def GC{pl:Sem Bool}{Q:ai×List ai->aE->Prop}(X:K.In s.heap)(I:CL s.heap x dx C mA)(hg:jI K C name=av)(hf:eB K (.ref C) name=af (af (.ref f)))(ht:oB K (.ref f)=av)(hv:mA name=ah)(h:Q (.ref f,[.ref x]) s):
  bg (model prog w) A (getMethod (.ref x) name pl) Q E s:=by
 obtain⟨od,J,hl⟩:=I.look;exact PySem.W.method_fn X J (kF hg).1 (kF hg).2 hf (beq_iff_eq.mp ht) (by show(lT name od).map (·.isSome)=af aS;rw[hl,hv];rfl) h
def JZ{ns:List Str}{Q:Unit->aE->Prop}(X:K.In s.heap)(I:CL s.heap x dx C mA)(hs:eB K (.ref C) "__setattr__" =af (af (.builtin "object.__setattr__")))(hp:r6 K C=av)(ht:oQ K C name=af ah)(hh:ng K C=av)(hw:tw mA ns)(hsz:ns.length<=aT)(h:∀h',CL h' x dx C (λy=>if y=name then af v else mA y)->Heap.SameBut dx s.heap h'->Q () {s with heap:=h',toks:=s.toks+2}):
  bg (model prog w) A (setAttr (.ref x) name v) Q E s:=by
 obtain⟨od,J,hl⟩:=I.look;refine PySem.W.set_plain X J hs (PySem.W.osa_open (s:={s with toks:=s.toks+1}) (r:=ah) X J hp ht λb=>?_);obtain⟨cd,hc,hd'⟩:=PySem.W.any_some hh;have hx:s.heap.get? x=af ⟨.ref C,af dx,.plain, #[]⟩:=I.obj;refine My (Uw (My (My (wpAny_loadPart hx (My (PySem.W.Looks.here (s:={s with toks:=s.toks+1}) (PySem.W.looks_clsIn X hc) ?_))))));rw[hd'];refine Uw (a:=af dx) (My (Uw (My ?_)));refine wpAny_nsSet1 (s:={s with toks:=s.toks+1}) I.ns λh' hn2 hs2=>?_;obtain⟨oD,esD,epD,hoD,hdD,hcD⟩:=hn2.count (PySem.Within.cons name v hw);refine My (wpAny_lookBehind hoD (by rw[hdD];exact pastItsLine_dict (Vp hcD (by simp_all))) ?_);exact Uw (h _ ⟨(hs2.2 _ (Ne.symm I.ne)).trans I.obj,hn2,I.ne⟩ hs2)
def GD{R:Result->aE->Prop}{vs:List ai}{kw:List (Str×ai)}(X:K.In s.heap)(hm:oS K C=av)(hi:eB K (.ref C) "__init__" =af (af (.ref f)))(hf:mh K (.ref f)=af (.type "function"))(h:codeAny (model prog w) (A.under (.builtin "type.__call__" ⟨.ref C::vs,kw⟩)) (.call (.ref f) ⟨.ref (s.heap.objs.size+1)::vs,kw⟩) (PySem.W.InitBack (s.heap.objs.size+1) R)
   {s with heap:=(s.heap.push ff).push (fE C s.heap.objs.size)}):
  codeAny (model prog w) A (.call (.ref C) ⟨vs,kw⟩) R s:=by
 obtain⟨hh,g,d,t,os⟩:=s;exact PySem.W.make_core (PySem.W.makes_of X hm) (jS X hi) (λself=>PySem.W.bind_fn X self hf) (.inl rfl) h
end
def eQ(f:Str)(v:V):List (Str×V)->List (Str×V)
 |[]=> [(f,v)]|(g,x)::r=>if g=f then(g,v)::r else(g,x)::eQ f v r
theorem oG(f g:Str)(v:V):∀fs:List (Str×V),(eQ f v fs).lookup g=if g=f then af v else fs.lookup g
 |[]=>by
  show zS g [(f,v)]=_
  grind
 |(k,x)::r=>by
  have ih:=oG f g v r;rw[show eQ f v ((k,x)::r)=(if k=f then(k,v)::r else(k,x)::eQ f v r)from rfl]
  grind
theorem lQ(f:Str)(v:V):∀fs:List (Str×V),f∈(eQ f v fs).map (·.1)/\∀g,g∈fs.map (·.1)->g∈(eQ f v fs).map (·.1)
 |[]=>⟨by simp[eQ],λg h=>by simp at h⟩|(k,x)::r=>by
  obtain⟨i1,i2⟩:=lQ f v r;rw[show eQ f v ((k,x)::r)=(if k=f then(k,v)::r else(k,x)::eQ f v r)from rfl]
  grind
theorem oH(f:Str)(v:V):∀fs:List (Str×V),(eQ f v fs).length<=fs.length+1
 |[]=>by simp[eQ]|(k,x)::r=>by
  have ih:=oH f v r;rw[show eQ f v ((k,x)::r)=(if k=f then(k,v)::r else(k,x)::eQ f v r)from rfl];by_cases hk:k=f
  ·simp_all
  simp_all
def fL.some_of{v:V}{o:Option ai}(r:fL (af v) o):∃u,o=af u/\RelV v u:=by
 cases o with|none=>exact(show False from r).elim|some u=>exact⟨u,rfl,r⟩
def fL.none_of{o:Option ai}(r:fL ah o):o=none:=by
 cases o with|none=>rfl|some u=>exact(show False from r).elim
theorem BX{v:V}{u:ai}(r:RelV v u):tN u=true:=by
 cases v with
 |non=>cases(show u=Value.none from r);rfl|bl b=>cases(show u=Value.bool b from r);rfl|int i=>obtain⟨t,e⟩:=(show ∃t,u=Value.int i t from r);cases e;rfl
 |str x=>obtain⟨t,e⟩:=(show ∃t,u=Value.str x t from r);cases e;rfl
 |IM b=>obtain⟨t,e⟩:=(show ∃t,u=Value.bytes b t from r);cases e;rfl
 |flt b=>obtain⟨t,e⟩:=(show ∃t,u=Value.float b t from r);cases e;rfl
 |ref a=>cases(show u=Value.ref a from r);rfl|ty n=>cases(show u=Value.type n from r);rfl
section
variable{P:bX}{w:ck}{H:Hp}{h:cK}{a C dx:ay}{fs:List (Str×V)}
def qO(hok:zC P w H h)(e:H a=af (.ins C dx fs)):∃mA,CL h a dx C mA/\(∀f,fL (fs.lookup f) (mA f))/\tw mA (fs.map (·.1))/\fs.length<=1000/\H dx=af (.own a):=by
 obtain⟨d,z,ne,ob,mA,n,r,q⟩:=(show bG P w H h a (.ins C dx fs)from hok a _ e)
 exact⟨mA,⟨ob,n,ne⟩,r,q,z,d⟩
end
structure Cf(K:aI)(C:ay):Prop where
 pg:jI K C Str.empty=av
 hd:ng K C=av
 po:r6 K C=av
 sa:eB K (.ref C) "__setattr__" =af (af (.builtin "object.__setattr__"))
def Cf.get{K:aI}{C:ay}(c:Cf K C)(f:Str):jI K C f=true:=c.pg
def fD(K:aI)(C:ay)(f:Str):Prop:=eB K (.ref C) f=af ah
def fD.KW{K:aI}{C:ay}{f:Str}(n:fD K C f):oQ K C f=af none:=by unfold oQ;rw[show eB K (.ref C) f=af ah from n];rfl
structure Meth(K:aI)(C:ay)(m:Str)(f:ay):Prop where
 at_:eB K (.ref C) m=af (af (.ref f))
 fn:oB K (.ref f)=av
 kp:e8 K (.ref f)=av
section
variable{X:Cx}{pins:List (ay×Obj)}{σ:St}{H:Hp}{s:aE}{a C dx:ay}{fs:List (Str×V)}{f:Str}{v:V}{A:cy}{E:ai->aE->Prop}
def zq{b:Bool}{Q:ai->aE->Prop}(I:Inv X pins σ H s)(e:H a=af (.ins C dx fs))(c:Cf X.K C)(n:fD X.K C f)(l:fs.lookup f=af v)(h:∀u s',Inv X pins σ H s'->RelV v u->Q u s'):bg (model X.prog X.w) A (getAttr (.ref a) f b) Q E s:=by obtain⟨mA,O,r,_,_,_⟩:=qO I.hok e;obtain⟨u,hu,ru⟩:=fL.some_of (v:=v) (o:=mA f) (by grind);exact JX I.BO O (c.get f) c.hd n hu (BX ru) (h u _ (I.tok _) ru)
def pW{m:Str}{g:ay}{pl:Sem Bool}{Q:ai×List ai->aE->Prop}(I:Inv X pins σ H s)(e:H a=af (.ins C dx fs))(c:Cf X.K C)(k:Meth X.K C m g)(l:fs.lookup m=ah)(h:Q (.ref g,[.ref a]) s):bg (model X.prog X.w) A (getMethod (.ref a) m pl) Q E s:=by obtain⟨mA,O,r,_,_,_⟩:=qO I.hok e;have hn:mA m=none:=fL.none_of (by grind);exact GC I.BO O (c.get m) k.at_ k.fn hn h
def zr{y:V}{u:ai}{Q:Unit->aE->Prop}(I:Inv X pins σ H s)(e:H a=af (.ins C dx fs))(c:Cf X.K C)(n:fD X.K C f)(hl:fs.length<1000)(ry:RelV y u)(h:∀s',Inv X pins σ (upd H a (.ins C dx (eQ f y fs))) s'->Q () s'):bg (model X.prog X.w) A (setAttr (.ref a) f u) Q E s:=by
 obtain⟨mA,O,r,wi,_,ho⟩:=qO I.hok e;have hz:(fs.map (·.1)).length<=sizeLine:=by rw[UG,VL];lia
 refine JZ I.BO O c.sa c.po n.KW c.hd wi hz λh' O' sb=>h _ ?_;have hd:∃o,h'.get? dx=af o:=let⟨o,_,_,e',_⟩:=O'.ns;⟨o,e'⟩
 refine I.write (x:=a) (e:=dx) (by rw[e];exact True.intro) (.inr ho) (λb q hb z=>(sb.2 b hb).trans z) hd ?_;refine⟨by rw[aB O.ne];exact ho,?_,O.ne,O'.obj,_,O'.ns,λg=>?_,λg hg=>?_⟩
 ·have:=oH f y fs;lia
 ·show fL ((eQ f y fs).lookup g) (if g=f then af u else mA g);rw[oG];by_cases q:g=f
  ·rw[if_pos q,if_pos q];exact ry
  simp_all
 ·by_cases q:g=f
  ·rw[q];exact(lQ f y fs).1
  ·refine(lQ f y fs).2 g (wi g λz=>hg ?_);lia
def Inv.made(I:Inv X pins σ H s):Inv X pins σ (upd (upd H s.heap.objs.size (.own (s.heap.objs.size+1))) (s.heap.objs.size+1) (.ins C s.heap.objs.size []))
  {s with heap:=(s.heap.push ff).push (fE C s.heap.objs.size)}:=by
 have e1:(s.heap.push ff).get? s.heap.objs.size=af PySem.W.emptyDict:=UW s.heap rfl;have e2:((s.heap.push ff).push (fE C s.heap.objs.size)).get? (s.heap.objs.size+1)=af (fE C s.heap.objs.size):=by
  have:=UW (s.heap.push ff) (o:=fE C s.heap.objs.size) rfl
  rwa [Xm]at this
 have e3:(s.heap.push ff).Ns s.heap.objs.size (λ_=>ah):=⟨ff, #[],_,e1,rfl,(λe he=>absurd he (by simp)),λ_=>rfl⟩
 have I1:=I.laid (a:=s.heap.objs.size) (o:= .own (s.heap.objs.size+1)) (h':=s.heap.push ff) (t':=s.toks) (λb u q=>Uv _ q) (Uz _) ⟨_,e1⟩;refine I1.laid (a:=s.heap.objs.size+1) (o:= .ins C s.heap.objs.size []) (t':=s.toks) (λb u q=>Uv _ q) (zh (Xm _ _)) ?_;have ne:s.heap.objs.size≠s.heap.objs.size+1:=Vb (n9 _);refine⟨by rw[aB ne,bj],Wx _,ne,e2,λ_=>ah,(Heap.Ns1.of_empty e3).at λo q=>Uv _ q,λ_=>True.intro,λy hy=>absurd rfl hy⟩
def J1{prog:bX}{w:ck}{env:Env}{e:br}{f:Str}{pos:Pos}{s:aE}{Q:ai->aE->Prop}(hb:attributeBase e f env (eval e env)=eval e env)(h:bg (model prog w) A (eval e env) (λo s₁=>bg (model prog w) A (getAttr o f av) Q E s₁) E s):bg (model prog w) A (eval (.Attribute e f pos) env) Q E s:=
 Attribute_any_ h (by rw[arm_eval_Attribute,hb])
end
def Tv(K:aI)(ta:TE)(f:Str):TE:=λσ H Q=>ta σ H λx H1=>∃a C dx fs v,x= .ref a/\H1 a=af (.ins C dx fs)/\Cf K C/\fD K C f/\fs.lookup f=af v/\Q v H1
def Tw(K:aI)(ta tv:TE)(f:Str):TS:=λD σ H=>tv σ H λy H1=>ta σ H1 λx H2=>∃a C dx fs,x= .ref a/\H2 a=af (.ins C dx fs)/\Cf K C/\fD K C f/\fs.length<1000/\
 D.nx σ (upd H2 a (.ins C dx (eQ f y fs)))
section
variable{X:Cx}{o e value:br}{f:Str}{pos pos':Pos}{ta tv:TE}
def Nk(he:PE X e ta)(hb:attributeBase e f X.env (eval e X.env)=eval e X.env):PE X (.Attribute e f pos) (Tv X.K ta f):=by intro pins s σ H Q I h;refine J1 hb (ja (he pins s σ H _ I h) λu s1 zz=>?_);obtain⟨x,H1,I1,rx,a,C,dx,fs,v,ex,ea,c,n,l,q⟩:=zz;subst ex;obtain rfl:u=Value.ref a:=rx;exact zq I1 ea c n l λu' s2 I2 ru=>⟨v,H1,I2,ru,q⟩
def Nm(ha:PE X o ta)(hv:PE X value tv)(hs:swapsWith value (af (.Attribute o f pos')) pos.line X.env=pure aS):PS X (.Assign [.Attribute o f pos'] value pos) (Tw X.K ta tv f):=by intro pins s σ H D I h;refine plainObj_wpAny_Assign_Attribute (ja (hv pins s σ H _ I h) λu s1 z=>bQ z λy H1 I1 ry q=>ja (ha pins s1 σ H1 _ I1 q) λov s2 zz=>?_) hs;obtain⟨x,H2,I2,rx,a,C,dx,fs,ex,ea,c,n,l,q2⟩:=zz;subst ex;obtain rfl:ov=Value.ref a:=rx;exact zr I2 ea c n l ry λs3 I3=>⟨σ,_,I3,q2⟩
end
structure oz(k:Nat)(A:cy):Prop where
 hd:A.handled=ah
 dp:A.depth+3*k+5<recursionLimit
 un:A.units+16*k+200<cLine
 gd:A.guards=af []
def oz.mono{j k:Nat}{A:cy}(r:oz k A)(h:j<=k):oz j A:=⟨r.hd,by have:=r.dp;lia,by have:=r.un;lia,r.gd⟩
theorem oz.deeper{k:Nat}{A:cy}(r:oz (k+1) A)(env:Env):oz k (A.deeper env):=
 ⟨r.hd,by have:=r.dp;show A.depth+1+3*k+5<_;lia,by have:=r.un;show A.units+3+16*k+200<_;lia,r.gd⟩
def zu{A:cy}{C:ay}{us:List ai}{kw:List (Str×ai)}:(A.under (.builtin "type.__call__" ⟨.ref C::us,kw⟩)).depth=A.depth+1:=by rfl
def zx{A:cy}{C:ay}{us:List ai}{kw:List (Str×ai)}:(A.under (.builtin "type.__call__" ⟨.ref C::us,kw⟩)).units=A.units+1:=by rfl
def oz.make{k:Nat}{A:cy}(r:oz (k+1) A)(C:ay)(us:List ai)(kw:List (Str×ai)):oz k (A.under (.builtin "type.__call__" ⟨.ref C::us,kw⟩)):=
 ⟨r.hd,by have:=r.dp;rw[zu];lia,by have:=r.un;rw[zx];lia,by have:=r.gd;first|exact this|simpa[Around.under,Code.guards,Code.isGuard,guardIds,pushGuards]using this⟩
theorem oz.depth{k:Nat}{A:cy}(r:oz k A):A.depth<recursionLimit:=by have:=r.dp;lia
theorem oz.units{k:Nat}{A:cy}(r:oz k A):A.units+64<cLine:=by have:=r.un;lia
def Tz:TA:=λ_ H Q=>Q [] H
def Rj(ta:TE)(tr:TA):TA:=λσ H Q=>ta σ H λx H1=>tr σ H1 λxs H2=>Q (x::xs) H2
section
variable{X:Cx}{e:br}{es:List br}{te:TE}{t:TA}{pos:Pos}
def gQ:PA X [] Tz:=λ_ _ _ _ H Q I h=>Calls.spliced_nil ⟨[],H,I,.nil,h⟩
def fH(ha:PE X e te)(hr:PA X es t)(hs:starEach (e::es) X.env=(aS,eval e X.env)::starEach es X.env:=by rfl):PA X (e::es) (Rj te t):=by intro pos pins s σ H Q I h;rw[hs];show bg _ _ (spliced ((aS,eval e X.env)::backTo pos (starEach es X.env))) _ _ s;refine Calls.spliced_cons (ja (ha pins s σ H _ I h) λu s1 zz=>?_);refine bQ zz λx H1 I1 r1 q1=>?_;exact ja (hr pos pins s1 σ H1 _ I1 q1) λus s2 z=>bQ z λxs H2 I2 r2 q2=>⟨x::xs,H2,I2,.cons r1 r2,q2⟩
def TF(t:TA):TE:=λσ H Q=>t σ H λxs H1=>xs.length<=aT/\∀p,H1 p=ah->Q (.ref p) (upd H1 p (.tup xs))
def TJ(t:TA):TE:=λσ H Q=>t σ H λxs H1=>xs.length<=aT/\∀p,H1 p=ah->Q (.ref p) (upd H1 p (.lst xs))
def Np{x1}(h:PA X es t):PE X (.Tuple es x1 pos) (TF t):=by intro pins s σ H Q I hq;refine wpAny_Tuple_spliced (ja (h pos pins s σ H _ I hq) λus s1 ⟨xs,H1,I1,r,z,q⟩=>⟨by rw[←r.length];exact z,?_⟩);have hf:H1 s1.heap.objs.size=none:=I1.hok.fresh (Uz _);refine⟨.ref s1.heap.objs.size,upd H1 s1.heap.objs.size (.tup xs),I1.laid (t':=s1.toks) (λb u e=>Uv _ e) (Uz _) ?_,rfl,q _ hf⟩;exact⟨z,us,r,⟨_,UW _ rfl,rfl,_,rfl⟩,_,UW _ rfl,rfl,rfl⟩
def Nq(h:PA X es t):PE X (.List es pos) (TJ t):=by intro pins s σ H Q I hq;refine wpAny_List_spliced (ja (h pos pins s σ H _ I hq) λus s1 ⟨xs,H1,I1,r,z,q⟩=>⟨by rw[←r.length];exact z,?_⟩);have hf:H1 s1.heap.objs.size=none:=I1.hok.fresh (Uz _);refine⟨.ref s1.heap.objs.size,upd H1 s1.heap.objs.size (.lst xs),I1.laid (t':=s1.toks) (λb u e=>Uv _ e) (Uz _) ?_,rfl,q _ hf⟩;exact⟨z,us,0,r,UW _ rfl⟩
end
abbrev Sp:=List V->Hp->VK->XK->Prop
abbrev EV:=List Env->Hp->aE->XK->ai->aE->Prop
structure CM(P:bX)(w:ck)(K:aI)(mg:Str->Option ai)(base:cK)(A:cy)(outer:List Env)(s:aE)(H:Hp):Prop where
 frames:A.frames=af outer
 mod:Mod K mg base
 bs:∀b o,base.get? b=af o->s.heap.get? b=af o/\H b=ah
 ET:base.objs.size<=s.heap.objs.size
 AJ:s.heap.FunFrames base outer
 FU:∀b∈frs outer,H b=ah
 hok:zC P w H s.heap
 bare:AllBare s.gens
def CE(outer:List Env)(P:bX)(w:ck)(H:Hp)(s:aE)(Q:VK)(u:ai)(s':aE):Prop:=
 ∃v H',s'.os=s.os/\AllBare s'.gens/\Un (frs outer) [] H H' s.heap s'.heap/\zC P w H' s'.heap/\RelV v u/\Q v H'
def CR(CX:EV)(outer:List Env)(P:bX)(w:ck)(H:Hp)(s:aE)(Q:VK)(E:XK)(r:Result)(s':aE):Prop:=
 match r with
 |.ok (.ret u)=>CE outer P w H s Q u s'|.ok _=>False|.error e=>CX outer H s E e s'
structure x8(P:bX)(w:ck)(K:aI)(mg:Str->Option ai)(base:cK)(CX:EV)(k:Nat)(f:ay)(fd:FuncData)(ps:List Str)(sp:Sp):Prop where
 len:∀vs H Q E,sp vs H Q E->vs.length=ps.length
 run:∀(A:cy)(outer:List Env)(s:aE)(H:Hp)(args:Args)(us:List ai)(vs:List V)(Q:VK)(E:XK),oz k A->CM P w K mg base A outer s H->BindsTo s fd args (ps.zip us)->Vals vs us->sp vs H Q E->
  codeAny (model P w) A (.call (.ref f) args) (CR CX outer P w H s Q E) s
def CM.make{P:bX}{w:ck}{K:aI}{mg:Str->Option ai}{base:cK}{A:cy}{outer:List Env}{s:aE}{H:Hp}(e:CM P w K mg base A outer s H)(C:ay)(us:List ai)(kw:List (Str×ai)):
  CM P w K mg base (A.under (.builtin "type.__call__" ⟨.ref C::us,kw⟩)) outer s H:=⟨by first|exact e.frames|(simpa[Around.under,Code.envs,Code.isFrame,pushEnvs]using e.frames),e.mod,e.bs,e.ET,e.AJ,e.FU,e.hok,e.bare⟩
section
variable{X:Cx}{pins:List (ay×Obj)}{σ:St}{H:Hp}{s s':aE}
def Inv.GS(I:Inv X pins σ H s):CM X.prog X.w X.K X.mg X.base X.A X.stack s H:=
 ⟨I.ok.frames,I.ok.mod,I.bs,Vp I.ok.ET I.sz,I.stack,I.BQ,I.hok,I.bare⟩
def Inv.after{Q:VK}{u:ai}(I:Inv X pins σ H s)(h:CE X.stack X.prog X.w H s Q u s'):EP X pins σ Q u s':=by obtain⟨v,H',os,bare,un,hok,r,q⟩:=h;obtain⟨hh,g,d,t,os'⟩:=s';obtain rfl:os'=s.os:=os;exact⟨v,H',I.call (h':=hh) (g':=g) (d':=d) (t':=t) (ch:=[]) un hok bare (λb z=>absurd z (by simp)),r,q⟩
end
def Binds(K:aI)(fd:FuncData)(ps:List Str)(ds:List ai):Prop:=
 ∀(s:aE)(us:List ai),K.In s.heap->(us++ds).length=ps.length->BindsTo s fd ⟨us,[]⟩ (ps.zip (us++ds))
def Binds.all{K:aI}{fd:FuncData}{ps:List Str}(h:∀us:List ai,us.length=ps.length->bindArgs fd ⟨us,[]⟩=pure (ps.zip us)):Binds K fd ps []:=λs us _ hl=>by rw[UT]at hl ⊢;exact .of_eq (h us hl)
section
variable{f C:ay}
structure Mk(K:aI)(C f:ay):Prop where
 makes:oS K C=av
 init:eB K (.ref C) "__init__" =af (af (.ref f))
 fn:oB K (.ref f)=av
 kp:e8 K (.ref C)=av
end
structure A2(N P:List Str)(sc:Scope):Prop where
 kind:sc.kind= .function
 co:sc.isCoroutine=aS
 gen:sc.isGenerator=aS
 nd:N.Nodup
 pre:N.take P.length=P
 par:∀x∈P,sc.names.lookup x=af .local\/sc.names.lookup x=af .cell
 GU:∀y∈sc.names,y.2≠ .free
theorem rY{kindOf:Str->Option NameKind}{x:Str}:∀{binds:List (Str×ai)}{m:Str->Option ai},(∀v,(x,v)∉binds)->bindL kindOf binds m x=m x
 |[],_,_=>rfl|(n,v)::r,m,h=>by
  unfold bindL;rw[rY λw hw=>h w (Wm _ hw)];split
  ·grind
  ·rfl
theorem rZ{kindOf:Str->Option NameKind}{x:Str}:∀{binds:List (Str×ai)}{m:Str->Option ai},(∀v,(x,v)∉binds)->bindC kindOf binds m x=m x
 |[],_,_=>rfl|(n,v)::r,m,h=>by
  unfold bindC;rw[rZ λw hw=>h w (Wm _ hw)];split
  ·rfl
  grind
theorem sy{kindOf:Str->Option NameKind}{x:Str}{v:ai}:∀{P:List Str}{vs:List ai}{i:Nat}{m:Str->Option ai},P.Nodup->P[i]?=af x->vs[i]?=af v->kindOf x=af .local->
  bindL kindOf (P.zip vs) m x=af v
 |[],_,_,_,_,h,_,_=>by simp at h|_::_,[],_,_,_,_,h,_=>by simp at h|p::P,w::vs,0,m,nd,h1,h2,hk=>by simp at h1 h2;subst h1;subst h2;show bindL kindOf ((p,w)::P.zip vs) m p=_;unfold bindL;rw[rY λv hv=>(Wf.mp nd).1 (pT hv).1,if_pos hk];simp|p::P,w::vs,i+1,m,nd,h1,h2,hk=>by show bindL kindOf ((p,w)::P.zip vs) m x=_;unfold bindL;exact sy (i:=i) (Wf.mp nd).2 (by simpa using h1) (by simpa using h2) hk
theorem sG{kindOf:Str->Option NameKind}{x:Str}{v:ai}:∀{P:List Str}{vs:List ai}{i:Nat}{m:Str->Option ai},P.Nodup->P[i]?=af x->vs[i]?=af v->kindOf x≠af .local->
  bindC kindOf (P.zip vs) m x=af v
 |[],_,_,_,_,h,_,_=>by simp at h|_::_,[],_,_,_,_,h,_=>by simp at h|p::P,w::vs,0,m,nd,h1,h2,hk=>by simp at h1 h2;subst h1;subst h2;show bindC kindOf ((p,w)::P.zip vs) m p=_;unfold bindC;rw[rZ λv hv=>(Wf.mp nd).1 (pT hv).1,if_neg hk];simp|p::P,w::vs,i+1,m,nd,h1,h2,hk=>by show bindC kindOf ((p,w)::P.zip vs) m x=_;unfold bindC;exact sG (i:=i) (Wf.mp nd).2 (by simpa using h1) (by simpa using h2) hk
def start(N:List Str)(vs:List V):St:=vs.map af++bE (N.length - vs.length) ah
def jo(CX:EV)(P:bX)(w:ck)(K:aI)(mg:Str->Option ai)(base:cK)(N:List Str)(qual:Str)(scope:Scope)(f:ay)(cd:ai)(A:cy)(outer:List Env)(s:aE)(H:Hp)(E:XK):Cx where
 prog:=P
 w:=w
 K:=K
 mg:=mg
 base:=base
 A:=A.deeper (envOfC qual scope s.heap.objs.size f cd)
 N:=N
 s₀:=s
 H₀:=H
 env:=envOfC qual scope s.heap.objs.size f cd
 outer:=outer
 stack:=envOfC qual scope s.heap.objs.size f cd::outer
 ex:=[]
 calm:=av
 fn:=λ_=>av
 pn:=[]
 xe:=λe s'=>bg (model P w) (A.deeper (envOfC qual scope s.heap.objs.size f cd)) (leaving (envOfC qual scope s.heap.objs.size f cd) e) (λ_ s''=>CX outer H s E e s'') (λe' s''=>CX outer H s E e' s'') s'
def uh{sc:Scope}{n:Nat}{x:Str}(h:sc.names.lookup x=af .cell):∃c,(cellsFrom n sc.names []).lookup x=af c:=by have q:=ny sc.names n [] (.inl h);exact Vk.mp q
def BZ{CX:EV}{P:bX}{w:ck}{K:aI}{mg:Str->Option ai}{base:cK}{N ps:List Str}{qual:Str}{scope:Scope}{f:ay}{cd:ai}{A:cy}{outer:List Env}{s s1:aE}{H:Hp}{E:XK}{us:List ai}{vs:List V}(S:A2 N ps scope)(hd:A.handled=ah)(e0:CM P w K mg base A outer s H)(hl:vs.length=ps.length)(r:Vals vs us)(x:InCallC s s.heap.objs.size (bindL (envOfC qual scope s.heap.objs.size f cd).kindOf (ps.zip us) λ_=>ah) (cellsFrom (s.heap.objs.size+1) scope.names []) (bindC (envOfC qual scope s.heap.objs.size f cd).kindOf (ps.zip us) λ_=>ah) s1):
  Inv (jo CX P w K mg base N qual scope f cd A outer s H E) [] (start N vs) H s1:=by
 have hpl:ps.length<=N.length:=by have:=VJ e9 S.pre;rw[Wl]at this;lia
 obtain⟨h1,tk,rfl,hk⟩:=x.done;have Lc:∀b:ay,b∉(jo CX P w K mg base N qual scope f cd A outer s H E).ex:=λb z=>absurd (show b∈([]:List ay)from z) (by simp);refine⟨⟨e0.mod,S.kind,rfl,rfl,Uz _,λy z c h1 h2=>?_,λy hy=>?_,λy c _ h=>?_,λ_=>hd,Around.frames_deeper e0.frames,.inr ⟨rfl,rfl⟩,λb z=>absurd z (Lc b),e0.bs,e0.ET,λb _ _=>Lc b,λb z=>absurd z (Lc b),e0.AJ,e0.FU⟩,
  rfl,e0.bare,Un.kept hk,⟨_,x.toInCall.ns,λi y v h1 h2 h3=>?_⟩,λy c h=>⟨_,x.cell y c h⟩,e0.hok.fresh (Uz _),λy c h=>?_,λp hp=>absurd (show p∈([]:List (ay×Obj))from hp) (by simp),e0.hok.kept hk,?_⟩
 ·exact name_of_addr x.apart (Vv h1) (Vv h2)
 ·have hy:scope.names.lookup y=af .cell\/scope.names.lookup y=af .free:=hy;rcases hy with hy|hy
  ·exact uh hy
  ·exact absurd rfl (S.GU _ (Vv hy))
 ·exact Xl (x.above y c (Vv h))
 ·have hi:i<vs.length:=by
   unfold start at h2;by_cases hi:i<vs.length
   ·exact hi
   ·rw[Vl (by simpa using hi)]at h2;rw[WM]at h2;lia
  have ha:vs[i]?=af v:=by
   unfold start at h2;rw[UV (by simpa using hi),Vw]at h2;cases e:vs[i]? with|none=>simp_all|some a=>simp_all
  obtain⟨u,hu,rv⟩:=r.get ha;have hp:ps[i]?=af y:=by rw[←S.pre,Wb (by lia)];exact h1
  have P7:ps.Nodup:=by rw[←S.pre];exact S.nd.sublist (r9 _ _)
  refine⟨u,rv,?_⟩;rcases S.par y (V4 hp)with k|k
  ·exact .inl ⟨k,sy P7 hp hu k⟩
  ·obtain⟨c,e⟩:=uh (n:=s.heap.objs.size+1) k;refine .inr ⟨.inl k,c,e,?_⟩;have q:=x.cell y c e;rw[sG P7 hp hu (by show scope.names.lookup y≠_;rw[k];decide)]at q;exact q
 ·exact e0.hok.fresh (Xl (x.above y c (Vv h)))
 ·unfold start;show _=N.length
  simp_all
theorem Rk{CX:EV}{P:bX}{w:ck}{K:aI}{mg:Str->Option ai}{base:cK}{k:Nat}{f:ay}{name qual:Str}{params:Arguments}{body:List eL}{scope:Scope}{dV kV doc pm cdv ct oc:ai}{an od:Option ay}{osl:Array (Option ai)}{N ps:List Str}{sp:Sp}(lk:K.lookup f=af ⟨oc,od,.func (fF name qual params body scope dV kV doc pm an cdv ct),osl⟩)(hcd:iP K cdv qual=av)(S:A2 N ps scope)(len:∀vs H Q E,sp vs H Q E->vs.length=ps.length)(hbody:∀(A:cy)(outer:List Env)(s:aE)(H:Hp)(vs:List V)(Q:VK)(E:XK),oz k (A.deeper (envOfC qual scope s.heap.objs.size f cdv))->sp vs H Q E->
   ∃t,DS (jo CX P w K mg base N qual scope f cdv A outer s H E) body t/\t {nx:=λ_ H'=>Q .non H',rt:=Q} (start N vs) H):
  x8 P w K mg base CX (k+1) f (fF name qual params body scope dV kV doc pm an cdv ct) ps sp:=by
 refine⟨len,λA outer s H args us vs Q E hr e0 hb r hsp=>?_⟩;have hl:=len _ _ _ _ hsp;have KX:K.In s.heap:=e0.mod.IP.keeps λb o e=>(e0.bs b o e).1;have lim:s.heap.NoLimit:=e0.mod.nolimit.keeps λb o e=>(e0.bs b o e).1;have hkind:∀y∈ps.zip us,scope.names.lookup y.1=af .local\/(scope.names.lookup y.1=af .cell/\((cellsFrom (s.heap.objs.size+1) scope.names []).lookup y.1).isSome=av):=λ⟨n,v⟩ hy=>by
  rcases S.par n (pT hy).1 with q|q
  ·exact .inl q
  ·exact .inr ⟨q,ny _ _ _ (.inl q)⟩
 refine codeAny_call_function hr.depth (KX _ _ lk) rfl S.co S.gen rfl (PySem.W.codeRec_of KX hcd) (hb _ _ _ _ ?_);refine wpAny_newFunctionEnv_cells S.kind hkind λenv he s1 x=>?_;subst he;refine⟨lim.keeps x.toInCall.keep,codeAny_func ?_⟩;obtain⟨t,ht,hq⟩:=hbody A outer s H vs Q E (hr.deeper _) hsp;have I:Inv (jo CX P w K mg base N qual scope f cdv A outer s H E) [] (start N vs) H s1:=BZ S hr.hd e0 hl r x;refine VH (ht [] s1 (start N vs) H _ I hq) (λfl s' hs=>?_) λe s' hs=>hs;have fin:∀{σ':St}{H':Hp}{v:V}{u:ai},Inv (jo CX P w K mg base N qual scope f cdv A outer s H E) [] σ' H' s'->RelV v u->Q v H'->CE outer P w H s Q u s':=
  λ{σ' H' v u} J rv q=>⟨v,H',J.os,J.bare,J.base,J.hok,rv,q⟩
 cases fl with
 |ret u=>obtain⟨v,σ',H',J,rv,q⟩:=hs;exact fin J rv q
 |next=>obtain⟨σ',H',J,q⟩:=hs;exact fin (v:=V.non) (u:=Value.none) J rfl q
 |brk=>obtain⟨_,_,_,q⟩:=hs;lia
 |cont=>obtain⟨_,_,_,q⟩:=hs;lia
section
variable{X:Cx}{x:Str}{p pos:Pos}{e:br}{es:List br}{t:TA}{id T:String}{r:List V->Hp->VK->Prop}
def P8(r:List V->Hp->VK->Prop)(t:TA):TE:=λσ H Q=>t σ H λvs H1=>r vs H1 Q
def kI(hc:bH X (.builtin id) r)(hg:Gl X x)(hm:X.mg x=ah)(hv:bootBuiltins x=af (.builtin id))(ha:PA X (e::es) t)(hn:x≠ "__name__" :=by decide)(hdb:(x==("__debug__" :Str))=false:=by decide)(he:starEach (e::es) X.env=(aS,eval e X.env)::starEach es X.env:=by rfl)(hpl:(backTo pos (starEach es X.env)).any (·.1)=false:=by rfl):PE X (.Call (.Name x p) (e::es) [] pos) (P8 r t):=by intro pins s σ H Q I h;refine wpAny_Call_Name_kw (jT I hg hm hv ?_ hn hdb);exact PyProof.Rows.callWith_builtin1 (ja (ha pos pins s σ H _ I h) λus s1 z=>bQ z λvs H1 I1 r1 q1=>hc pins s1 σ H1 vs us Q I1 r1 q1) he hpl
def lR(hc:bH X (.type T) r)(hg:Gl X x)(hm:X.mg x=ah)(hv:bootBuiltins x=af (.type T))(ha:PA X (e::es) t)(hn:x≠ "__name__" :=by decide)(hdb:(x==("__debug__" :Str))=false:=by decide)(he:starEach (e::es) X.env=(aS,eval e X.env)::starEach es X.env:=by rfl)(hpl:(backTo pos (starEach es X.env)).any (·.1)=false:=by rfl):PE X (.Call (.Name x p) (e::es) [] pos) (P8 r t):=by intro pins s σ H Q I h;refine wpAny_Call_Name_kw (jT I hg hm hv ?_ hn hdb);exact WP (ja (ha pos pins s σ H _ I h) λus s1 z=>bQ z λvs H1 I1 r1 q1=>hc pins s1 σ H1 vs us Q I1 r1 q1) he hpl
end
end L2
namespace HT
open PySem PyProof.Rows
def lexLt:List Int->List Int->Bool
 |[],[]=>aS|[],_::_=>av|_::_,[]=>aS|x::xs,y::ys=>if x=y then lexLt xs ys else decide (x<y)
section
variable{prog:bX}{w:ck}{A:cy}{E:ai->aE->Prop}{s:aE}
def J2{t b:ay}{vs ws:List ai}{Q:ai->aE->Prop}(ht:IsTup s.heap t vs.toArray)(hb:IsTup s.heap b ws.toArray)(hv:vs≠ [])(h1:ws=[]->Q (.ref t) s)(h2:ws≠ []->Q (.ref s.heap.objs.size) {s with heap:=s.heap.push {cls:= .type "tuple",data:= .seq (vs++ws).toArray}})(hsz:vs.length+ws.length<=aT):bg (model prog w) A (binaryOp .Add (.ref t) (.ref b)) Q E s:=by
 obtain⟨⟨cls,dd,data,sl⟩,ho,hc,n,hd⟩:=id ht;obtain⟨⟨cls2,dd2,data2,sl2⟩,ho2,hc2,n2,hd2⟩:=id hb;simp only at hc hd hc2 hd2;subst hc hd hc2 hd2;have e:vs.toArray++ws.toArray=(vs++ws).toArray:=by simp
 by_cases hw:ws=[]
 ·exact concat_meets ⟨_,ho,rfl⟩ ⟨_,ho2,rfl⟩ noFill_tuple_add seq_tuple_add ia gE (gx _ _)
   (tuple_addW1 t b vs.toArray ws.toArray n n2 dd dd2 sl sl2 (by simpa using hv) (by simp[hw])) ⟨ho,ho2,h1 hw⟩
 ·refine concat_meets ⟨_,ho,rfl⟩ ⟨_,ho2,rfl⟩ noFill_tuple_add seq_tuple_add ia gE (gx _ _)
   (tuple_addW2 t b vs.toArray ws.toArray n n2 dd dd2 sl sl2 (by simpa using hv) (by simpa using hw) (by simp_all)) ⟨ho,ho2,?_⟩
  rw[e];exact h2 hw
def kN(n d:Nat):Option Int->Nat
 |none=>d|some v=>if v<0 then(v+(n:Int)).toNat else min v.toNat n
def ul(n d:Nat):kN n d ah=d:=rfl
theorem Nt(n d:Nat)(hd:d<=n)(o:Option Int):kN n d o<=n:=by
 cases o with
 |none=>exact hd|some v=>
  show(if v<0 then(v+(n:Int)).toNat else min v.toNat n)<=n;by_cases hv:v<0
  ·rw[if_pos hv];lia
  ·rw[if_neg hv];exact vj _ _
def wZ(v:Int)(n d:Nat):(if v<0 then max (v+(n:Int)) 0 else min v (n:Int))=((kN n d (af v):Nat):Int):=by
 show(if v<0 then max (v+(n:Int)) 0 else min v (n:Int))=(((if v<0 then(v+(n:Int)).toNat else min v.toNat n):Nat):Int);by_cases hv:v<0
 ·lia
 ·simp only[if_neg hv];lia
def zy(lo hi:Option Int)(n:Nat):Builtin.Slice.sliceAdjust lo hi 1 (n:Int)=(((kN n 0 lo:Nat):Int),((kN n n hi:Nat):Int)):=by
 have h1:¬((1:Int)<0):=by lia
 unfold Builtin.Slice.sliceAdjust;simp only[h1,VR];refine Prod.ext ?_ ?_
 ·cases lo with|none=>rfl|some v=>exact wZ v n 0
 ·cases hi with|none=>rfl|some v=>exact wZ v n n
def zA(i j:Nat):Builtin.Slice.slicePlaces (i:Int) (j:Int) 1=j - i:=by
 unfold Builtin.Slice.slicePlaces;have h1:(1:Int)>0:=by lia
 simp only[h1,if_true,Int.ediv_one];split<;>lia
def pX{v:ai}{o:Option Int}{Q:Option Int->aE->Prop}(p:IsPart v o)(h:Q o s):bg (model prog w) A (Builtin.Slice.slicePartIndex v) Q E s:=by
 cases p with|none=>exact slicePart_none h|int i t=>exact slicePart_int h
def jq{sl:ay}{vl vu:ai}{lo hi:Option Int}{n:Nat}{Q:Int×Int×Nat->aE->Prop}(hs:s.heap.IsSliceOf sl vl vu .none)(pl:IsPart vl lo)(pu:IsPart vu hi)(h:Q (((kN n 0 lo:Nat):Int),1,kN n n hi - kN n 0 lo) s):bg (model prog w) A (Builtin.Slice.sliceApplied (.ref sl) (pure (n:Int))) Q E s:=by obtain⟨os,hos,hcs,hds⟩:=id hs;unfold Builtin.Slice.sliceApplied Builtin.Slice.sliceFields;refine My (My (Vs hos hds (x:=vl) rfl (My (Vs hos hds (x:=vu) rfl (My (Vs hos hds (x:= .none) rfl (Uw ?_)))))));refine My (slicePart_none ?_);show bg _ _ (if((1:Int)==0)=av then _ else _) _ _ s;rw[if_neg (by decide)];refine My (pX pl (My (pX pu (My (Uw ?_)))));show bg _ _ (match Builtin.Slice.sliceAdjust lo hi 1 (n:Int)with|(lo,hi)=>pure (lo,(1:Int),Builtin.Slice.slicePlaces lo hi 1)) _ _ s;rw[zy lo hi n];show bg _ _ (pure (((kN n 0 lo:Nat):Int),(1:Int),Builtin.Slice.slicePlaces ((kN n 0 lo:Nat):Int) ((kN n n hi:Nat):Int) 1)) _ _ s;rw[zA];exact Uw h
def GF(xs:Array ai)(i k:Nat):((dc k).filterMap λ(m:Nat)=>xs[((i:Int)+(m:Int)*1).toNat]?).toArray=((xs.toList.drop i).take k).toArray:=by
 have e:(λ(m:Nat)=>xs[((i:Int)+(m:Int)*1).toNat]?)=λm=>xs[i+m]?:=by
  funext m;have:((i:Int)+(m:Int)*1).toNat=i+m:=by lia
  rw[this]
 rw[e];have:=pick_run xs i k;rw[List.filterMap_map]at this;have e2:((λx=>xs[x]?) ∘ λx=>i+x)=λm=>xs[i+m]?:=rfl;lia
def oA{t sl:ay}{items:Array ai}{vl vu:ai}{lo hi:Option Int}{Q:ai->aE->Prop}(ht:IsTup s.heap t items)(hs:s.heap.IsSliceOf sl vl vu .none)(pl:IsPart vl lo)(pu:IsPart vu hi)(hw:¬(kN items.size 0 lo=0/\kN items.size items.size hi=items.size))(h:Q (.ref s.heap.objs.size) {s with heap:=s.heap.push {cls:= .type "tuple",data:= .seq ((items.toList.drop (kN items.size 0 lo)).take (kN items.size items.size hi - kN items.size 0 lo)).toArray}})(hsz:items.size<=aT):bg (model prog w) A (getItem (.ref t) (.ref sl)) Q E s:=by
 have C8:sizeOk (.seq ((items.toList.drop (kN items.size 0 lo)).take (kN items.size items.size hi - kN items.size 0 lo)).toArray):=by show((items.toList.drop (kN items.size 0 lo)).take (kN items.size items.size hi - kN items.size 0 lo)).toArray.size<=aT;rw[Vr,Wl,W9,V9];lia
 have hj:kN items.size items.size hi<=items.size:=Nt _ _ (Uz _) hi;obtain⟨os,hos,hcs,hds⟩:=id hs;have hTs:s.TypeIs (.ref sl) "slice" :=⟨os,hos,hcs⟩
 unfold getItem
 try with_reducible refine VB ?_
 first|refine My (Uw ?_)|skip
 refine My (wpAny_sequenceKey ht.typeIs (by decide) ?_);refine My (V1 (name:=Str.ofString "__getitem__") ht.typeIs V0
  (VV V0 ht.typeIs entry_tuple_getitem ?_ (args_tuple_getitem _ _)))
 show bg _ _ (Builtin.Tuple.tupleItemsOf (.ref t)>>=_) _ _ s;refine My (tupleItemsOf_ ht ?_);refine My (Wy hTs ?_);rw[if_pos (by decide)];refine My (jq hs pl pu ?_);have hno:¬((((kN items.size 0 lo:Nat):Int)==0 && (1:Int)==1 && (kN items.size items.size hi - kN items.size 0 lo)==items.size)=av):=by intro q;rw[Vn,Vn]at q;have q1:((kN items.size 0 lo:Nat):Int)=0:=eq_of_beq q.1.1;have q2:kN items.size items.size hi - kN items.size 0 lo=items.size:=eq_of_beq q.2;exact hw ⟨by lia,by lia⟩
 show bg _ _ (if(((kN items.size 0 lo:Nat):Int)==0 && (1:Int)==1 && (kN items.size items.size hi - kN items.size 0 lo)==items.size)=av then _ else _) _ _ s;rw[if_neg hno,GF]
 first
  |exact My (m:=Builtin.Tuple.tupleExact _) (VF (Uw ⟨_,rfl,Uw h⟩) C8)|exact My (m:=Builtin.Tuple.tupleExact _) (VF (My (Uw (Uw ⟨_,rfl,Uw h⟩))) C8)|exact My (My (m:=Builtin.Tuple.tupleExact _) (VF (Uw (Uw ⟨_,rfl,Uw h⟩)) C8))|exact My (My (m:=Builtin.Tuple.tupleExact _) (VF (Uw ⟨_,rfl,Uw h⟩) C8))
end
end HT
namespace L2
open PySem PySem.Spec PyProof.Rows
abbrev TO:=St->Hp->(Option Int->Hp->Prop)->Prop
def PO(X:Cx)(e:Option br)(t:TO):Prop:=
 ∀(pins:List (ay×Obj))(s:aE)(σ:St)(H:Hp)(Q:Option Int->Hp->Prop),Inv X pins σ H s->t σ H Q->
  bg (model X.prog X.w) X.A (evalPart e X.env) (λu s'=>∃o H',Inv X pins σ H' s'/\IsPart u o/\Q o H') X.xe s
def J3:TO:=λ_ H Q=>Q ah H
def Rm(t:TE):TO:=λσ H Q=>t σ H λx H1=>∃i,x= .int i/\Q (af i) H1
theorem intsAre_of{ns:List Int}:∀{us:List ai},Vals (ns.map V.int) us->IntsAre us ns:=by
 induction ns with
 |nil=>intro us r;rw[Vg]at r;cases r;exact .nil|cons n ns ih=>
  intro us r;rw[U0]at r;cases r with
  |cons r1 r2=>obtain⟨t,e⟩:=r1;subst e;exact .cons n t (ih r2)
section
variable{X:Cx}{e:br}{te:TE}{lo hi:Option br}{tl th:TO}{pos p2:Pos}
def xf:PO X ah J3:=by intro pins s σ H Q I h;rw[evalPart_none];exact Uw ⟨ah,H,I,.none,h⟩
def nJ(h:PE X e te):PO X (af e) (Rm te):=by intro pins s σ H Q I hw;rw[evalPart_some];refine ja (h pins s σ H _ I hw) λu s1 zz=>?_;refine bQ zz λx H1 I1 r1 q1=>?_;obtain⟨i,rfl,q⟩:=q1;obtain⟨t,rfl⟩:=r1;exact⟨af i,H1,I1,.int i t,q⟩
def MS(X:Cx)(r:V->Option Int->Option Int->Hp->VK->Prop):Prop:=
 ∀(pins:List (ay×Obj))(s:aE)(σ:St)(H:Hp)(x:V)(v vl vu:ai)(lo hi:Option Int)(sl:ay)(Q:VK),Inv X pins σ H s->RelV x v->s.heap.IsSliceOf sl vl vu .none->IsPart vl lo->IsPart vu hi->r x lo hi H Q->
  ∃T id,typeLookup (.type T) "__getitem__" =pure (af (.builtin id))/\s.TypeIs v T/\bg (model X.prog X.w) X.A (getItem v (.ref sl)) (EP X pins σ Q) X.xe s
def TH(r:V->Option Int->Option Int->Hp->VK->Prop)(te:TE)(tl th:TO):TE:=λσ H Q=>te σ H λx H1=>tl σ H1 λl H2=>th σ H2 λu H3=>r x l u H3 Q
def oX{r:V->Option Int->Option Int->Hp->VK->Prop}(hr:MS X r)(he:PE X e te)(hl:PO X lo tl)(hu:PO X hi th):PE X (.Subscript e (.Slice lo hi ah p2) pos) (TH r te tl th):=by intro pins s σ H Q I h;refine Subscript_ (ja (he pins s σ H _ I h) λv s1 zz=>?_);refine bQ zz λx H1 I1 r1 q1=>?_;refine wpAny_Slice (ja (hl pins s1 σ H1 _ I1 q1) λvl s2 z=>bQ z λl H2 I2 pl q2=>ja (hu pins s2 σ H2 _ I2 q2) λvu s3 zz=>?_);obtain⟨u,H3,I3,pu,q3⟩:=zz;rw[evalPart_none];refine Uw ?_;have I4:Inv X pins σ H3 {s3 with heap:=s3.heap.push {cls:= .type "slice",data:= .fields #[vl,vu,.none]}}:=I3.kept (t':=s3.toks) λb ob q=>Uv _ q;obtain⟨T,id,hT,ht,hg⟩:=hr pins {s3 with heap:=s3.heap.push {cls:= .type "slice",data:= .fields #[vl,vu,.none]}} σ H3 x v vl vu l u s3.heap.objs.size Q I4 r1 (Heap.IsSliceOf.new ..) pl pu q3;show bg (model X.prog X.w) X.A (subscriptTail e (.Slice lo hi ah p2) v (.ref s3.heap.objs.size)) (EP X pins σ Q) X.xe {s3 with heap:=s3.heap.push {cls:= .type "slice",data:= .fields #[vl,vu,.none]}};exact tail_any (ops:=[.ref s3.heap.objs.size,v]) ht hT hg (by rfl)
def lU(xs:List V)(lo hi:Option Int):List V:=(xs.drop (HT.kN xs.length 0 lo)).take (HT.kN xs.length xs.length hi - HT.kN xs.length 0 lo)
def oJ(xs:List V)(lo hi:Option Int):(lU xs lo hi).length<=xs.length:=by unfold lU;rw[Wl,W9];lia
def TQ(K:aI):V->Option Int->Option Int->Hp->VK->Prop:=λx lo hi H Q=>∃a xs,x= .ref a/\sR K H a xs/\
 ¬(HT.kN xs.length 0 lo=0/\HT.kN xs.length xs.length hi=xs.length)/\∀p,H p=ah->Q (.ref p) (upd H p (.tup (lU xs lo hi)))
def Nu:MS X (TQ X.K):=by
 intro pins s σ H x v vl vu lo hi sl Q I rx hs pl pu h;obtain⟨a,xs,rfl,hx,hw,q⟩:=h;cases rx;obtain⟨its,r,ht,hz⟩:=I.tuple hx;have hlen:its.toArray.size=xs.length:=by rw[Vr];exact r.length.symm
 refine⟨"tuple",_,V0.lookup,ht.typeIs,?_⟩;refine HT.oA ht hs pl pu (by rw[hlen];exact hw) ?_ (by rw[hlen];exact hz);rw[hlen];refine⟨.ref s.heap.objs.size,_,I.laid (t':=s.toks) (o:= .tup (lU xs lo hi)) (λb ob q=>Uv _ q) (Uz _) ?_,rfl,q _ (I.hok.fresh (Uz _))⟩;exact⟨Vp (oJ xs lo hi) hz,_,(r.drop (HT.kN xs.length 0 lo)).take (HT.kN xs.length xs.length hi - HT.kN xs.length 0 lo),IsTup.new _ _,_,UW _ rfl,rfl,rfl⟩
def Rn(K:aI):R2:=λx y H Q=>∃a b xs ys,x= .ref a/\y= .ref b/\sR K H a xs/\sR K H b ys/\xs≠ []/\xs.length+ys.length<=aT/\
 (ys=[]->Q (.ref a) H)/\(ys≠ []->∀p,H p=ah->Q (.ref p) (upd H p (.tup (xs++ys))))
def Vals.BU{xs:List V}{us:List ai}(r:Vals xs us):us=[] ↔ xs=[]:=by
 cases r with|nil=>simp|cons _ _=>simp
def J4:BD X (binaryOp .Add) (Rn X.K):=by intro pins s σ H x y v u Q I rx ry h;obtain⟨a,b,xs,ys,rfl,rfl,ha,hb,hx,hz,q1,q2⟩:=h;cases rx;cases ry;obtain⟨its,r1,p1,_⟩:=I.tuple ha;obtain⟨its2,r2,p2,_⟩:=I.tuple hb;refine HT.J2 p1 p2 (λz=>hx (r1.BU.mp z)) (λz=>⟨.ref a,H,I,rfl,q1 (r2.BU.mp z)⟩) (λz=>?_) (by rw[←r1.length,←r2.length];exact hz);refine⟨.ref s.heap.objs.size,_,I.laid (t':=s.toks) (o:= .tup (xs++ys)) (λb ob q=>Uv _ q) (Uz _) ?_,rfl,q2 (λw=>z (r2.BU.mpr w)) _ (I.hok.fresh (Uz _))⟩;exact⟨by simp_all,_,r1.append r2,IsTup.new _ _,_,UW _ rfl,rfl,rfl⟩
end
def C9(n:Nat)(i:Int):Option Nat:=if 0<=i then(if i<n then af i.toNat else ah)else if -(n:Int)<=i then af (i+n).toNat else ah
def BI{α:Type}(xs:List α)(i:Int):Option α:=(C9 xs.length i).bind λj=>xs[j]?
def xg{n:Nat}{i:Int}{j:Nat}(h:C9 n i=af j):seqIndex? i n=af j/\j<n/\ -(n:Int)<=i/\i<n:=by
 unfold C9 at h;by_cases h0:0<=i
 ·rw[if_pos h0]at h;by_cases h1:i<n
  ·rw[if_pos h1]at h;have e:i.toNat=j:=Ux h;exact⟨by rw[seqIndex_of h0 h1,e],by lia,by lia,h1⟩
  simp_all
 ·rw[if_neg h0]at h;by_cases h1: -(n:Int)<=i
  ·rw[if_pos h1]at h;have e:(i+n).toNat=j:=Ux h;exact⟨by rw[seqIndex_neg (by lia) h1,e],by lia,h1,by lia⟩
  simp_all
theorem qP{α:Type}{xs:List α}{i:Int}{v:α}(h:BI xs i=af v):∃j,seqIndex? i xs.length=af j/\xs[j]?=af v/\j<xs.length/\ -(xs.length:Int)<=i/\i<xs.length:=by
 unfold BI at h;cases e:C9 xs.length i with
 |none=>simp_all|some j=>rw[e]at h;obtain⟨h1,h2,h3,h4⟩:=xg e;exact⟨j,h1,h,h2,h3,h4⟩
def xj(b:br):Prop:=∀o i,subscripted b aS o i=operate [o,i] (getItem o i)
def D8(X:Cx)(r:R2):Prop:=
 ∀(value slice:br)(pins:List (ay×Obj))(s:aE)(σ:St)(H:Hp)(x y:V)(v u:ai)(Q:VK),Inv X pins σ H s->RelV x v->RelV y u->r x y H Q->
  subscripted slice aS v u=operate [v,u] (getItem v u)->bg (model X.prog X.w) X.A (subscriptTail value slice v u) (EP X pins σ Q) X.xe s
def D9(X:Cx)(id:String)(r:V->List V->Hp->VK->Prop):Prop:=
 ∀(pins:List (ay×Obj))(s:aE)(σ:St)(H:Hp)(x:V)(xs:List V)(v:ai)(us:List ai)(Q:VK),Inv X pins σ H s->RelV x v->Vals xs us->r x xs H Q->
  bg (model X.prog X.w) X.A (call (.builtin id) (v::us)) (EP X pins σ Q) X.xe s
section
variable{X:Cx}{a b:br}{ta tb:TE}{pos:Pos}
def D8.or{r r':R2}(h:D8 X r)(h':D8 X r'):D8 X (λx y H Q=>r x y H Q\/r' x y H Q):=by
 intro value slice pins s σ H x y v u Q I rx ry q hs;rcases q with q|q
 ·exact h value slice pins s σ H x y v u Q I rx ry q hs
 ·exact h' value slice pins s σ H x y v u Q I rx ry q hs
def Ro{r:R2}(hr:D8 X r)(ha:PE X a ta)(hb:PE X b tb)(hs:xj b):PE X (.Subscript a b pos) (MQ r ta tb):=by intro pins s σ H Q I h;exact Subscript_ (Gx ha hb I h λv u s2 x y H2 I2 rx ry q=>hr a b pins s2 σ H2 x y v u Q I2 rx ry q (hs _ _))
def Nv(K:aI):R2:=λx y H Q=>∃p xs i v,x= .ref p/\y= .int i/\xy K H p xs/\BI xs i=af v/\Q v H
def Ny(K:aI):R2:=λx y H Q=>∃p xs i v,x= .ref p/\y= .int i/\sR K H p xs/\BI xs i=af v/\Q v H
def Nz:R2:=λx y H Q=>∃z i c,x= .str z/\y= .int i/\z.length<=aT/\BI z.cps.toList i=af c/\Q (.str ⟨#[c]⟩) H
def J5:D8 X (Nv X.K):=by
 intro value slice pins s σ H x y v u Q I rx ry h hs;obtain⟨p,xs,i,z,rfl,rfl,hq,he,q⟩:=h;cases rx;obtain⟨t,rfl⟩:=ry;obtain⟨its,r,pl,hz⟩:=I.list hq;obtain⟨j,h1,h2,h3,h4,h5⟩:=qP he;obtain⟨w,ew,rw'⟩:=r.get h2;have hl:=r.length;have hn:=jV;have fin:EP X pins σ Q w s:=⟨z,H,I,rw',q⟩
 by_cases h0:0<=i
 ·have hj:i.toNat=j:=by
   rw[seqIndex_of h0 h5]at h1;exact Ux h1
  exact item_listR pl.isList h0 (by lia) (by rw[hj];simpa using ew) fin hs
 ·have hj:(i+(its.toArray.size:Int)).toNat=j:=by
   rw[seqIndex_neg (by lia) h4]at h1;rw[Vr,←hl];exact Ux h1
  exact subscriptTail_builtinR (x:=w) pl.isList.typeIs slot_list_getitem.lookup
   (wpAny_getItem_list_neg (Q:=λr s'=>r=w/\EP X pins σ Q r s') pl.isList (by lia) (by simp_all) (by lia) (by rw[hj];simpa using ew) ⟨rfl,fin⟩) hs
def NB:D8 X (Ny X.K):=by
 intro value slice pins s σ H x y v u Q I rx ry h hs;obtain⟨p,xs,i,z,rfl,rfl,hq,he,q⟩:=h;cases rx;obtain⟨t,rfl⟩:=ry;obtain⟨its,r,pl,hz⟩:=I.tuple hq;obtain⟨j,h1,h2,h3,h4,h5⟩:=qP he;obtain⟨w,ew,rw'⟩:=r.get h2;have hl:=r.length;have hn:=jV;have fin:EP X pins σ Q w s:=⟨z,H,I,rw',q⟩
 exact subscriptTail_builtinR (x:=w) pl.typeIs slot_tuple_getitem.lookup
  (getItem_tuple (j:=j) (Q:=λr s'=>r=w/\EP X pins σ Q r s') pl (by lia) (by lia) (by simp_all) (by simpa using ew) ⟨rfl,fin⟩) hs
def NK:D8 X Nz:=by
 intro value slice pins s σ H x y v u Q I rx ry h hs;obtain⟨z,i,c,rfl,rfl,hz,he,q⟩:=h;obtain⟨t,rfl⟩:=rx;obtain⟨t',rfl⟩:=ry;obtain⟨j,h1,h2,h3,h4,h5⟩:=qP he;have hl:z.cps.toList.length=z.length:=by simp[Str.length]
 rw[hl]at h1 h4 h5;have hn:=jV;exact tail_any (typeIs_str s z t) slot_str_getitem.lookup (getItem_str (c:=c) (by
  have e1:decide (i< -(2^63:Int))=false:=Wr (by lia);have e2:decide (i>=2^63)=false:=Wr (by lia);rw[e1,e2,Bool.or_false]) (by rw[h1];simpa using h2) ⟨.str ⟨#[c]⟩,H,I.tok _,⟨_,rfl⟩,q⟩) hs
def TL(K:aI):R2:=λx y H Q=>Nv K x y H Q\/Ny K x y H Q\/Nz x y H Q
def NP:D8 X (TL X.K):=J5.or (NB.or NK)
def um(lo hi:Option Int)(n:Nat):(sliceBounds lo hi ah n).1=((HT.kN n 0 lo:Nat):Int)/\(sliceBounds lo hi ah n).2.1=((HT.kN n n hi:Nat):Int)/\(sliceBounds lo hi ah n).2.2=1:=by
 refine⟨?_,?_,rfl⟩
 ·cases lo with
  |none=>rfl|some i=>
   simp only[sliceBounds,HT.kN,vc,show(1:Int)>0 by decide,if_true];by_cases h:i<0
   ·simp only[h,if_true]<;>lia
   ·simp only[h,VR]<;>lia
 ·cases hi with
  |none=>rfl|some i=>
   simp only[sliceBounds,HT.kN,vc,show(1:Int)>0 by decide,if_true];by_cases h:i<0
   ·simp only[h,if_true]<;>lia
   ·simp only[h,VR]<;>lia
def tW(its:List ai)(lo hi:Option Int):slicePick its.toArray lo hi ah=((its.drop (HT.kN its.length 0 lo)).take (HT.kN its.length its.length hi - HT.kN its.length 0 lo)).toArray:=by obtain⟨h1,h2,h3⟩:=um lo hi its.toArray.size;unfold slicePick;rw[h1,h2,h3];simp only[sliceRange_one,pick_run,Vr]<;>rfl
def TV(K:aI):V->Option Int->Option Int->Hp->VK->Prop:=λx lo hi H Q=>∃a xs,x= .ref a/\xy K H a xs/\∀p,H p=ah->Q (.ref p) (upd H p (.lst (lU xs lo hi)))
def qQ:MS X (TV X.K):=by intro pins s σ H x v vl vu lo hi sl Q I rx hs pl pu h;obtain⟨a,xs,rfl,hx,q⟩:=h;cases rx;obtain⟨its,r,ht,hz⟩:=I.list hx;have hlen:=r.length;refine⟨"list",_,slot_list_getitem.lookup,ht.isList.typeIs,?_⟩;refine wpAny_getItem_list_slice ht.isList hs pl pu .none (by simp) ?_ (by simp_all);rw[tW,←hlen];refine⟨.ref s.heap.objs.size,_,I.laid (t':=s.toks) (o:= .lst (lU xs lo hi)) (λb ob q=>Uv _ q) (Uz _) ?_,rfl,q _ (I.hok.fresh (Uz _))⟩;exact⟨Vp (oJ xs lo hi) hz,_,0,(r.drop (HT.kN xs.length 0 lo)).take (HT.kN xs.length xs.length hi - HT.kN xs.length 0 lo),UW _ rfl⟩
def uo:bH X (.builtin "len") (λxs H Q=>∃p ys,xs=[.ref p]/\(xy X.K H p ys\/sR X.K H p ys)/\Q (.int ys.length) H):=by
 intro pins s σ H xs us Q I r h;obtain⟨p,ys,rfl,hq,q⟩:=h;obtain⟨u,rfl,rx⟩:=vals1 r;cases rx;have hn:=jV;rcases hq with hq|hq
 ·obtain⟨its,r',pl,hz⟩:=I.list hq;have hlen:=r'.length;exact Calls.call_len_list pl.isList (by simp only[Vr]<;>lia) ⟨.int ys.length,H,I.tok _,⟨s.toks+1,by simp_all⟩,q⟩
 ·obtain⟨its,r',pl,hz⟩:=I.tuple hq;have hlen:=r'.length;exact len_tuple pl (by simp only[Vr]<;>lia) ⟨.int ys.length,H,I.tok _,⟨s.toks+1,by simp_all⟩,q⟩
def uq:bH X (.builtin "len") (λxs H Q=>∃z,xs=[.str z]/\z.length<=aT/\Q (.int z.length) H):=by intro pins s σ H xs us Q I r h;obtain⟨z,rfl,hz,q⟩:=h;obtain⟨u,rfl,t,rfl⟩:=vals1 r;have hn:=jV;exact len_str (by lia) ⟨.int z.length,H,I.tok _,⟨_,rfl⟩,q⟩
def ur:bH X (.type "list") (λxs H Q=>∃p ys,xs=[.ref p]/\(xy X.K H p ys\/sR X.K H p ys)/\∀l,H l=ah->Q (.ref l) (upd H l (.lst ys))):=by
 intro pins s σ H xs us Q I r h;obtain⟨p,ys,rfl,hq,q⟩:=h;obtain⟨u,rfl,rx⟩:=vals1 r;cases rx;have fin:∀(its:List ai),Vals ys its->ys.length<=aT->∀(h':cK)(c':Nat),(∀b o',s.heap.get? b=af o'->h'.get? b=af o')->
   h'.get? s.heap.objs.size=af {cls:= .type "list",dict:=ah,data:= .seq its.toArray c',slots:= #[]}->EP X pins σ Q (.ref s.heap.objs.size) {s with heap:=h'}:=λits r' hz h' c' kp e=>
  ⟨.ref s.heap.objs.size,_,I.laid (t':=s.toks) kp (Uz _) (show bG X.prog X.w _ h' _ (.lst ys)from⟨hz,its,c',r',e⟩),rfl,q _ (I.hok.fresh (Uz _))⟩
 rcases hq with hq|hq
 ·obtain⟨its,r',pl,hz⟩:=I.list hq;have hlen:=r'.length;obtain⟨o,ho,hc,n,hd⟩:=pl.isList;exact call_list_seq p (.inl rfl) ho hc hd (λh' c' kp e=>fin its r' hz h' c' kp e) (by simp_all)
 ·obtain⟨its,r',pl,hz⟩:=I.tuple hq;have hlen:=r'.length;obtain⟨o,ho,hc,n,hd⟩:=pl;exact call_list_seq p (.inr rfl) ho hc hd (λh' c' kp e=>fin its r' hz h' c' kp e) (by simp_all)
def lM:bH X (.type "tuple") (λxs H Q=>∃p ys,xs=[.ref p]/\((xy X.K H p ys/\∀l,H l=ah->Q (.ref l) (upd H l (.tup ys)))\/(sR X.K H p ys/\Q (.ref p) H))):=by
 intro pins s σ H xs us Q I r h;obtain⟨p,ys,rfl,h⟩:=h;obtain⟨u,rfl,rx⟩:=vals1 r;cases rx;rcases h with⟨hq,q⟩|⟨hq,q⟩
 ·obtain⟨its,r',pl,hz⟩:=I.list hq;have hlen:=r'.length;refine call_tuple_list pl.isList (λh' kp=>?_) (by simp_all);have I1:Inv X pins σ H {s with heap:=h'}:=I.kept (t':=s.toks) kp;have I2:Inv X pins σ (upd H h'.objs.size (.tup ys)) {s with heap:=h'.push {cls:= .type "tuple",data:= .seq its.toArray}}:=
   I1.laid (t':=s.toks) (λb o e=>Uv _ e) (Uz _) (show bG X.prog X.w _ _ _ (.tup ys)from⟨hz,its,r',IsTup.new _ _,_,UW _ rfl,rfl,rfl⟩)
  exact⟨.ref h'.objs.size,_,I2,rfl,q _ (I1.hok.fresh (Uz _))⟩
 ·obtain⟨its,r',pl,hz⟩:=I.tuple hq;exact call_tuple_same pl ⟨.ref p,H,I,rfl,q⟩
def GV(K:aI)(T:String)(x:V)(H:Hp):Prop:=match x with
 |.str _=>T= "str"|.int _=>T= "int"|.ref p=>(T= "list" /\∃xs,xy K H p xs)\/(T= "tuple" /\∃xs,sR K H p xs)\/
   (T= "dict" /\((∃kvs,H p=af (.dK kvs))\/∃kvs,H p=af (.dT kvs)))\/(T= "set" /\∃S n,H p=af (.set S n))
 |_=>False
theorem lV{pins:List (ay×Obj)}{σ:St}{H:Hp}{s:aE}{T:String}{x:V}{v:ai}(I:Inv X pins σ H s)(r:RelV x v)(ty:GV X.K T x H):
  s.TypeIs v T/\∀a,v= .ref a->∃ob,s.heap.get? a=af ob/\ob.dict=none:=by
 cases x with
 |str z=>obtain⟨t,rfl⟩:=r;cases(show T= "str" from ty);exact⟨typeIs_str s z t,λ_ e=>nomatch e⟩
 |int i=>obtain⟨t,rfl⟩:=r;cases(show T= "int" from ty);exact⟨typeIs_int s i t,λ_ e=>nomatch e⟩
 |ref p=>
  cases r;rcases ty with⟨rfl,xs,hq⟩|⟨rfl,xs,hq⟩|⟨rfl,hk⟩|⟨rfl,S,n,hk⟩
  ·obtain⟨its,_,pl,_⟩:=I.list hq;refine⟨pl.isList.typeIs,λa e=>?_⟩;cases e;obtain⟨o,n,e,c,hd,_⟩:=pl;exact⟨o,e,hd⟩
  ·obtain⟨o,w1,w2,w3⟩:∃o,s.heap.get? p=af o/\o.cls= .type "tuple" /\o.dict=none:=by
    rcases hq with hq|⟨o,its,n,hk,hc,hs,hz,r⟩
    ·obtain⟨_,its,_,⟨o,g1,g2,_⟩,o2,g3,g4⟩:=hq.ok I.hok
     simp_all
    ·exact⟨o,I.BO p o hk,hc,hs.2.1⟩
   refine⟨⟨o,w1,w2⟩,λa e=>?_⟩
   simp_all
  ·have z:∃o,s.heap.get? p=af o/\o.ExactDict:=by
    rcases hk with⟨kvs,hk⟩|⟨kvs,hk⟩
    ·obtain⟨_,_,_,_,o,_,_,e,ex,_⟩:=I.hok p _ hk
     simp_all
    ·obtain⟨_,_,_,_,o,_,_,e,ex,_⟩:=I.hok p _ hk
     simp_all
   obtain⟨o,e,ex⟩:=z;refine⟨⟨o,e,ex.1⟩,λa e2=>?_⟩;cases e2;exact⟨o,e,ex.2.1⟩
  ·obtain⟨o,_,_,_,e,ex,_⟩:=I.hok p _ hk;refine⟨⟨o,e,ex.1⟩,λa e2=>?_⟩;cases e2;exact⟨o,e,ex.2.1⟩
 |_=>exact False.elim ty
def TX(K:aI)(T:String)(r:V->List V->Hp->VK->Prop)(to:TE):TE:=λσ H Q=>to σ H λx H1=>GV K T x H1/\r x [] H1 Q
def TM(K:aI)(T:String)(r:V->List V->Hp->VK->Prop)(to:TE)(t:TA):TE:=λσ H Q=>to σ H λx H1=>GV K T x H1/\t σ H1 λxs H2=>r x xs H2 Q
variable{o e:br}{es:List br}{to:TE}{t:TA}{name:Str}{apos cpos:Pos}{T id:String}{r:V->List V->Hp->VK->Prop}
def NQ(pa:PlainAttrs T)(slot:Slot T name id)(hty:typeOf (.builtin id)=pure (.type "method_descriptor"))(hm:D9 X id r)(ho:PE X o to)(hbase:attributeBase o name X.env (eval o X.env)=eval o X.env:=by rfl)(hline:(apos.endLine==cpos.line)=true:=by rfl):PE X (.Call (.Attribute o name apos) [] [] cpos) (TX X.K T r to):=by intro pins s σ H Q I h;refine wpAny_Call_method0_late hbase hline (ja (ho pins s σ H _ I h) λv s1 zz=>?_);obtain⟨x,H1,I1,r1,ty,q1⟩:=zz;obtain⟨h1,h2⟩:=lV I1 r1 ty;exact⟨T,id,pa,slot,hty,h1,h2,Calls.callWith_builtin rfl (PySem.evalArgs_none (hm pins s1 σ H1 x [] v [] Q I1 r1 .nil q1))⟩
def Jf(pa:PlainAttrs T)(slot:Slot T name id)(hty:typeOf (.builtin id)=pure (.type "method_descriptor"))(hm:D9 X id r)(ho:PE X o to)(ha:PA X (e::es) t)(hbase:attributeBase o name X.env (eval o X.env)=eval o X.env:=by rfl)(hfew:((backTo cpos (starEach (e::es) X.env)).all (λx=>!x.1) && (backToKw cpos (keywordEach [] X.env)).all (λx=>x.1.isSome)
   && decide ((e::es).length+([]:List Keyword).length+(if([]:List Keyword).isEmpty then 0 else 1)<30))=true:=by rfl)(hline:(apos.endLine==cpos.line)=true:=by rfl)(hs:starEach (e::es) X.env=(aS,eval e X.env)::starEach es X.env:=by rfl)(hplain:(backTo cpos (starEach es X.env)).any (·.1)=false:=by rfl):
  PE X (.Call (.Attribute o name apos) (e::es) [] cpos) (TM X.K T r to t):=by
 intro pins s σ H Q I h;refine wpAny_Call_method_late hbase hfew hline rfl (ja (ho pins s σ H _ I h) λv s1 zz=>?_);obtain⟨x,H1,I1,r1,ty,q1⟩:=zz;obtain⟨h1,h2⟩:=lV I1 r1 ty;refine⟨T,id,pa,slot,hty,h1,h2,?_⟩;have hA:=ha cpos pins s1 σ H1 _ I1 q1;rw[hs]at hA ⊢;refine Calls.callWith_builtin (by show(aS || (backTo cpos (starEach es X.env)).any (·.1))=aS;lia) (Calls.evalArgs_plain ?_);exact ja hA λus s2 z=>bQ z λvs H2 I2 r2 q2=>hm pins s2 σ H2 x vs v us Q I2 r1 r2 q2
end
def P9(X:Cx)(id:String)(r:V->List V->Hp->VK->Prop):Prop:=
 ∀(pins:List (ay×Obj))(s:aE)(σ:St)(H:Hp)(x:V)(xs:List V)(v:ai)(us:List ai)(Q:VK),Inv X pins σ H s->RelV x v->Vals xs us->r x xs H Q->
  bg (model X.prog X.w) X.A (call (.builtin id) (v::us)) (EP X pins σ Q) X.xe s
theorem Vals.one:∀{x:V}{us:List ai},Vals [x] us->∃u,us=[u]/\RelV x u
 |_,_,.cons r .nil=>⟨_,rfl,r⟩
theorem Vals.eraseIdx:∀{xs:List V}{us:List ai}(i:Nat),Vals xs us->Vals (xs.eraseIdx i) (us.eraseIdx i)
 |_,_,_,.nil=> .nil|_,_,0,.cons _ t=>t|_,_,i+1,.cons r t=> .cons r (Vals.eraseIdx i t)
theorem sH{α:Type}:∀(l:List α)(i:Nat),(l.eraseIdx i).length<=l.length
 |[],_=>Uz _|_::_,0=>Wt _|_::r,i+1=>vn (sH r i)
section
variable{X:Cx}{pins:List (ay×Obj)}{σ:St}{H:Hp}{s:aE}{l:ay}{xs ys:List V}
def Inv.E5{its its':List ai}{n:Nat}{f:Array ai->Array ai}{t':Nat}(I:Inv X pins σ H s)(hH:H l=af (.lst xs))(e:s.heap.get? l=af {cls:= .type "list",data:= .seq its.toArray n})(hf:f its.toArray=its'.toArray)(hv:Vals ys its')(hz:ys.length<=aT):
  Inv X pins σ (upd H l (.lst ys)) {s with heap:=s.heap.update l (Obj.mapSeq f),toks:=t'}:=by
 have q:=tP e f;rw[hf]at q;refine I.write (x:=l) (e:=l) (by rw[hH];exact trivial) (.inl rfl) (λb' u hb hu=>(Ve s.heap (Obj.mapSeq f) (Ne.symm hb)).trans hu) ⟨_,q⟩ ?_;exact⟨hz,its',_,hv,q⟩
def Inv.N1{its:List ai}{t':Nat}(I:Inv X pins σ H s)(hv:Vals ys its)(hz:ys.length<=aT):
  Inv X pins σ (upd H s.heap.objs.size (.lst ys)) {s with heap:=s.heap.push {cls:= .type "list",data:= .seq its.toArray},toks:=t'}:=
 I.laid (λ_ _ q=>Uv _ q) (Uz _) ⟨hz,its,0,hv,UW _ rfl⟩
theorem Inv.fresh(I:Inv X pins σ H s):H s.heap.objs.size=none:=I.hok.fresh (Uz _)
def Inv.CO(I:Inv X pins σ H s)(hH:H l=af (.lst xs)):xs.length<=aT/\∃(its:List ai)(n:Nat),Vals xs its/\xs.length=its.length/\s.heap.get? l=af {cls:= .type "list",data:= .seq its.toArray n}:=by obtain⟨z,its,n,r,e⟩:=I.hok l _ hH;exact⟨z,its,n,r,r.length,e⟩
def ut{n:Nat}(h:n<=aT):Builtin.List.listTooLong n=false:=by
 unfold Builtin.List.listTooLong
 simp_all
end
section
variable{X:Cx}
def J6:V->List V->Hp->VK->Prop:=λx vs H Q=>∃l xs y,x= .ref l/\vs=[y]/\H l=af (.lst xs)/\xs.length<aT/\Q .non (upd H l (.lst (xs++ [y])))
def Ca:P9 X "list.append" J6:=by intro pins s σ H x vs v us Q I rx rv h;obtain⟨l,xs,y,rfl,rfl,hH,hz,q⟩:=h;cases rx;obtain⟨u,rfl,ru⟩:=rv.one;obtain⟨z,its,n,r,hl,e⟩:=I.CO hH;refine call_meets F.slot_list_append ⟨_,e,rfl⟩ F.entry_list_append (F.args_list_append_2 _ _) (r8 l its.toArray n u (by simp_all)) ⟨e,?_⟩;refine⟨.non,_,I.E5 (its':=its++ [u]) hH e (by simp) (r.append (.cons ru .nil)) ?_,rfl,q⟩;rw[Vh,Wu];lia
def NT:V->List V->Hp->VK->Prop:=λx vs H Q=>∃l xs i k y,x= .ref l/\vs=[.int i]/\H l=af (.lst xs)/\ -(2^63)<=i/\i<2^63/\seqIndex? i xs.length=af k/\xs[k]?=af y/\Q y (upd H l (.lst (xs.eraseIdx k)))
def GJ:P9 X "list.pop" NT:=by
 intro pins s σ H x vs v us Q I rx rv h;obtain⟨l,xs,i,k,y,rfl,rfl,hH,h1,h2,hk,hy,q⟩:=h;cases rx;obtain⟨u,rfl,ru⟩:=rv.one;obtain⟨t,rfl⟩:=ru;obtain⟨z,its,n,r,hl,e⟩:=I.CO hH;obtain⟨w,hw,rw'⟩:=r.get hy;refine call_meets F.slot_list_pop ⟨_,e,rfl⟩ F.entry_list_pop (F.args_list_pop_2 _ _)
  (MeetsSeq.list_pop_at l its.toArray n i t k w (fitsIndex_both h1 h2) (by simp_all) (by simp_all) (by simp_all)) ⟨e,?_⟩
 refine⟨y,_,I.E5 (its':=its.eraseIdx k) hH e ?_ (r.eraseIdx k) ?_,rw',q⟩
 ·simp
 ·have:=sH xs k;lia
def TY:R2:=λx y H Q=>∃l b xs zs,x= .ref l/\y= .ref b/\H l=af (.lst xs)/\H b=af (.lst zs)/\xs.length+zs.length<=aT/\∀p,H p=ah->Q (.ref p) (upd H p (.lst (xs++zs)))
def Cd:BD X (binaryOp .Add) TY:=by
 intro pins s σ H x y v u Q I rx ry h;obtain⟨l,b,xs,zs,rfl,rfl,hH,hB,hz,q⟩:=h;cases rx;cases ry;obtain⟨z,its,n,r,hl,e⟩:=I.CO hH;obtain⟨z2,its2,n2,r2,hl2,e2⟩:=I.CO hB;refine PySem.P.add_list e e2 ?_ (by simp_all);have ea:its.toArray++its2.toArray=(its++its2).toArray:=by simp
 rw[ea];exact⟨.ref _,_,I.N1 (t':=s.toks) (r.append r2) (by simp_all),rfl,q _ I.fresh⟩
end
section
variable{κ:Type}[DecidableEq κ]
def dI(kvs:List (κ×V))(k:κ):Option V:=(kvs.find? λkv=>decide (kv.1=k)).map (·.2)
def putK(kvs:List (κ×V))(k:κ)(v:V):List (κ×V):=
 if(kvs.any λkv=>decide (kv.1=k))=av then kvs.map (λkv=>if kv.1=k then(kv.1,v)else kv)else kvs++ [(k,v)]
def kJ(kvs:List (κ×V))(k:κ):List (κ×V):=kvs.filter λkv=>decide (kv.1≠k)
def kO{p:κ×V}{r:List (κ×V)}{k:κ}(e:p.1=k):dI (p::r) k=af p.2:=by simp[dI,V5,e]
def kW{p:κ×V}{r:List (κ×V)}{k:κ}(e:¬p.1=k):dI (p::r) k=dI r k:=by simp[dI,V5,e]
theorem uw(k:κ):∀kvs:List (κ×V),(kvs.any λkv=>decide (kv.1=k))=(dI kvs k).isSome
 |[]=>rfl|p::r=>by
  rw[kC];by_cases e:p.1=k
  ·simp only[kO e,Wc e,Bool.true_or,Option.isSome_some]
  ·rw[kW e,Wr e,Bool.false_or];exact uw k r
def jM(kvs:List (κ×V))(k:κ)(v:V):(putK kvs k v).length<=kvs.length+1:=by
 unfold putK;split
 ·simp
 simp
theorem fL.xE{o:Option V}{u:Option ai}(r:fL o u):o.isSome=u.isSome:=by
 cases o with
 |none=>cases u with|none=>rfl|some _=>exact(show False from r).elim
 |some _=>cases u with|none=>exact(show False from r).elim|some _=>rfl
theorem KV.val{kvs:List (κ×V)}{vs:List (κ×ai)}(r:KV kvs vs)(k:κ):fL (dI kvs k) (valueAt vs k):=by
 unfold KV at r
 induction r with
 |nil=>exact True.intro
 |@cons p q ps qs h t ih=>
  obtain⟨h1,h2⟩:=h;by_cases e:p.1=k
  ·have e':q.1=k:=h1.symm.trans e;have b:valueAt (q::qs) k=af q.2:=by simp[valueAt,V5,e']
   rw[kO e,b];exact h2
  ·have e':¬q.1=k:=λz=>e (h1.trans z);have b:valueAt (q::qs) k=valueAt qs k:=by simp[valueAt,V5,e']
   rw[kW e,b];exact ih
theorem KV.any{kvs:List (κ×V)}{vs:List (κ×ai)}(r:KV kvs vs)(k:κ):(kvs.any λkv=>decide (kv.1=k))=vs.any λkv=>decide (kv.1=k):=by
 unfold KV at r
 induction r with
 |nil=>rfl|cons h t ih=>simp_all
theorem KV.repl{kvs:List (κ×V)}{vs:List (κ×ai)}(r:KV kvs vs)(k:κ){y:V}{u:ai}(ry:RelV y u):
  KV (kvs.map λkv=>if kv.1=k then(kv.1,y)else kv) (vs.map λkv=>if kv.1=k then(kv.1,u)else kv):=by
 unfold KV at r ⊢
 induction r with
 |nil=>exact .nil|@cons p q ps qs h t ih=>rw[U0,U0];refine .cons ?_ ih;lia
def KV.put{kvs:List (κ×V)}{vs:List (κ×ai)}(r:KV kvs vs)(k:κ){y:V}{u:ai}(ry:RelV y u):KV (putK kvs k y) (stored vs k u):=by
 unfold putK stored;rw[r.any k];by_cases e:(vs.any λkv=>decide (kv.1=k))=av
 ·rw[if_pos e,if_pos e];exact r.repl k ry
 ·rw[if_neg e,if_neg e];exact Paired.snoc r ⟨rfl,ry⟩
theorem KV.drop{kvs:List (κ×V)}{vs:List (κ×ai)}(r:KV kvs vs)(k:κ):KV (kJ kvs k) (without vs k):=by
 unfold KV at r ⊢;unfold kJ without
 induction r with
 |nil=>exact .nil|@cons p q ps qs h t ih=>
  obtain⟨h1,h2⟩:=h;rw[tS,tS];by_cases e:p.1=k
  ·lia
  ·have e':¬q.1=k:=λz=>e (h1.trans z);have a:decide (p.1≠k)=true:=by simp[e]
   have b:decide (q.1≠k)=true:=by simp[e']
   rw[if_pos a,if_pos b];exact .cons ⟨h1,h2⟩ ih
theorem KV.keys{kvs:List (κ×V)}{vs:List (κ×ai)}(r:KV kvs vs):kvs.map (·.1)=vs.map (·.1):=by
 unfold KV at r
 induction r with
 |nil=>rfl|cons h t ih=>simp_all
theorem KV.length{kvs:List (κ×V)}{vs:List (κ×ai)}(r:KV kvs vs):kvs.length=vs.length:=Paired.length r
def GK(kvs:List (κ×V))(k:κ):(kJ kvs k).length<=kvs.length:=U7 _ _
end
theorem kY{P:bX}{w:ck}{k:Key}{u:ai}(r:RelV (kV k) u):(aY P w).is k u=true:=by
 cases k with
 |inl i=>obtain⟨t,e⟩:=(show ∃t,u=Value.int i t from r);subst e;exact wH P w i t
 |inr x=>obtain⟨t,e⟩:=(show ∃t,u=Value.str x t from r);subst e;exact wI P w x t
theorem sI{P:bX}{w:ck}:∀{ks:List Key}{us:List ai},Vals (ks.map kV) us->ItemsAre (aY P w) ks us
 |[],_,r=>by rw[Vg]at r;cases r;exact .nil|k::ks,_,r=>by
  rw[U0]at r;cases r with|cons h t=>exact .cons (kY h) (sI t)
abbrev KT(H:Hp):List (List Key×V)->List (List Key×ay×ai)->Prop:=Paired λp q=>p.1=q.1/\H q.2.1=af (.tup (p.1.map kV))/\RelV p.2 q.2.2
theorem KT.val{H:Hp}{kvs:List (List Key×V)}{xs:List (List Key×ay×ai)}(r:KT H kvs xs)(k:List Key):fL (dI kvs k) ((atKey xs k).map (·.2)):=by
 induction r with
 |nil=>exact True.intro
 |@cons p q ps qs h t ih=>
  obtain⟨h1,_,h2⟩:=h;by_cases e:p.1=k
  ·have e':q.1=k:=h1.symm.trans e;have b:atKey (q::qs) k=af q.2:=by simp[atKey,V5,e']
   rw[kO e,b];exact h2
  ·have e':¬q.1=k:=λz=>e (h1.trans z);have b:atKey (q::qs) k=atKey qs k:=by simp[atKey,V5,e']
   rw[kW e,b];exact ih
theorem KT.repl{H:Hp}{kvs:List (List Key×V)}{xs:List (List Key×ay×ai)}(r:KT H kvs xs)(k:List Key){y:V}{u:ai}(ry:RelV y u):
  KT H (kvs.map λkv=>if kv.1=k then(kv.1,y)else kv) (xs.map (putAt k u)):=by
 induction r with
 |nil=>exact .nil|@cons p q ps qs h t ih=>
  rw[U0,U0];refine .cons ?_ ih;obtain⟨h1,h2,h3⟩:=h;unfold putAt;by_cases e:p.1=k
  ·rw[if_pos e,if_pos (h1.symm.trans e)];exact⟨h1,h2,ry⟩
  simp_all
def KT.put{H:Hp}{kvs:List (List Key×V)}{xs:List (List Key×ay×ai)}(r:KT H kvs xs)(k:List Key){b:ay}{y:V}{u:ai}(hb:H b=af (.tup (k.map kV)))(ry:RelV y u):
  KT H (putK kvs k y) (storedH xs k b u):=by
 have e:(kvs.any λkv=>decide (kv.1=k))=(atKey xs k).isSome:=by rw[uw,(r.val k).xE,Xk]
 unfold putK storedH;rw[e];by_cases q:(atKey xs k).isSome=av
 ·rw[if_pos q,if_pos q];exact r.repl k ry
 ·rw[if_neg q,if_neg q];exact Paired.snoc r ⟨rfl,hb,ry⟩
def KT.keeps{H H':Hp}{kvs:List (List Key×V)}{xs:List (List Key×ay×ai)}(r:KT H kvs xs)(ht:∀b ys,H b=af (.tup ys)->H' b=af (.tup ys)):KT H' kvs xs:=
 Paired.GL r λ_ _ z=>⟨z.1,ht _ _ z.2.1,z.2.2⟩
section
variable{P:bX}{w:ck}{H:Hp}{h:cK}{a:ay}
def Jg{u:HO}(ok:zC P w H h)(e:Rd H a u):bG P w H h a u:=e.ok ok
def kZ{kvs:List (Key×V)}(ok:zC P w H h)(e:Rd H a (.dK kvs)):kvs.length<=aT/\(a==sysModules)=aS/\∃vs,KV kvs vs/\h.DictOf (aY P w) a vs:=
 show bG P w H h a (.dK kvs)from Jg ok e
def nM{kvs:List (Key×V)}(ok:zC P w H h)(e:H a=af (.dK kvs)):kvs.length<=aT/\(a==sysModules)=aS/\∃vs,KV kvs vs/\h.DictOf (aY P w) a vs:=kZ ok (.inl e)
def lW{ks:List Key}(ok:zC P w H h)(e:H a=af (.tup (ks.map kV))):(tupleKind (aY P w)).is h ks a:=by
 obtain⟨_,its,r,⟨o,h1,h2,n,h3⟩,_⟩:=(show bG P w H h a (.tup (ks.map kV))from ok a _ e)
 exact⟨o,its.toArray,n,h1,h2,h3,by simpa using sI r⟩
def pY{kvs:List (List Key×V)}(ok:zC P w H h)(e:Rd H a (.dT kvs)):kvs.length<=aT/\(a==sysModules)=aS/\
  ∃xs,KT H kvs xs/\h.DictOfH (tupleKind (aY P w)) a xs:=by
 obtain⟨z,y,xs,r,o,es,ep,h1,h2,h3,h4,h5⟩:=(show bG P w H h a (.dT kvs)from Jg ok e)
 refine⟨z,y,xs,r,o,es,ep,h1,h2,h3,h4,λx hx=>?_,h5⟩;have all:∀{l:List (List Key×V)}{m:List (List Key×ay×ai)},KT H l m->∀x∈m,(tupleKind (aY P w)).is h x.1 x.2.1:=by
  intro l m q
  induction q with
  |nil=>simp|@cons p q ps qs hq t ih=>
   intro x hx;rcases UJ.mp hx with e|hx
   ·subst e;exact lW ok (by lia)
   ·exact ih x hx
 exact all r x hx
def Rp{kvs:List (List Key×V)}(ok:zC P w H h)(e:H a=af (.dT kvs)):kvs.length<=aT/\(a==sysModules)=aS/\
  ∃xs,KT H kvs xs/\h.DictOfH (tupleKind (aY P w)) a xs:=pY ok (.inl e)
end
def qR(H:Hp)(a:ay)(y:V)(r:Option V):Prop:=
 (∃kvs k,Rd H a (.dK kvs)/\y=kV k/\r=dI kvs k)\/∃kvs k b,Rd H a (.dT kvs)/\y= .ref b/\H b=af (.tup (k.map kV))/\r=dI kvs k
def zB(H:Hp)(a:ay)(y v:V)(H':Hp):Prop:=
 (∃kvs k,H a=af (.dK kvs)/\y=kV k/\kvs.length<aT/\H'=upd H a (.dK (putK kvs k v)))\/
 ∃kvs k b,H a=af (.dT kvs)/\y= .ref b/\H b=af (.tup (k.map kV))/\kvs.length<aT/\H'=upd H a (.dT (putK kvs k v))
theorem zB.k{H:Hp}{a:ay}{kvs:List (Key×V)}{k:Key}{v:V}(e:H a=af (.dK kvs))(hl:kvs.length<aT):zB H a (kV k) v (upd H a (.dK (putK kvs k v))):= .inl ⟨kvs,k,e,rfl,hl,rfl⟩
section
variable{X:Cx}{pins:List (ay×Obj)}{σ:St}{H:Hp}{s:aE}{a:ay}{y v:V}{u r:ai}{o:Option V}{A:cy}{E:ai->aE->Prop}
def Inv.big(I:Inv X pins σ H s):sysModules<s.heap.objs.size:=by have h:mainGlobals<s.heap.objs.size:=(I.mod.glob.keeps I.bk).lt;exact zk (by decide) h
def Ce{Q:ai->aE->Prop}(hu:A.units+1<cLine)(I:Inv X pins σ H s)(g:qR H a y (af v))(ry:RelV y u)(h:∀w' s',Inv X pins σ H s'->RelV v w'->Q w' s'):
  bg (model X.prog X.w) A (getItem (.ref a) u) Q E s:=by
 rcases g with⟨kvs,k,e,ey,l⟩|⟨kvs,k,b,e,ey,eb,l⟩
 ·subst ey;obtain⟨z,hd,vs,rel,dd⟩:=kZ I.hok e;obtain⟨w',hw,rw'⟩:=fL.some_of (v:=v) (o:=valueAt vs k) (by rw[l];exact rel.val k);exact wpAny_getItem_of (kY ry) dd.mapOf hw (h w' _ (I.tok _) rw')
 ·subst ey;cases(show u=Value.ref b from ry);obtain⟨z,hd,xs,rel,dd⟩:=pY I.hok e;obtain⟨w',hw,rw'⟩:=fL.some_of (v:=v) (o:=(atKey xs k).map (·.2)) (by rw[l];exact rel.val k);obtain⟨p,hp,hp2⟩:=Wh.mp hw;refine wpAny_getItem_heap (tupleKind_room_in1 hu) (lW I.hok eb) dd hp ?_;rw[hp2];exact h w' _ (I.tok _) rw'
def T3{Q:ai->aE->Prop}(hu:A.units+1<cLine)(I:Inv X pins σ H s)(g:qR H a y o)(ry:RelV y u)(h:∀s',Inv X pins σ H s'->Q (.bool o.isSome) s'):
  bg (model X.prog X.w) A (compareOp .In u (.ref a)) Q E s:=by
 rcases g with⟨kvs,k,e,ey,l⟩|⟨kvs,k,b,e,ey,eb,l⟩
 ·subst ey;obtain⟨z,hd,vs,rel,dd⟩:=kZ I.hok e;refine wpAny_in_of (kY ry) hd dd.mapOf ?_;rw[←(rel.val k).xE,←l];exact h _ (I.tok _)
 ·subst ey;cases(show u=Value.ref b from ry);obtain⟨z,hd,xs,rel,dd⟩:=pY I.hok e;refine wpAny_in_heap (tupleKind_room_in1 hu) (lW I.hok eb) hd dd ?_;have q:=(rel.val k).xE;rw[Xk]at q;rw[←q,←l];exact h _ (I.tok _)
def J7{Q:ai->aE->Prop}(hu:A.units+1<cLine)(I:Inv X pins σ H s)(g:qR H a y o)(ry:RelV y u)(h:∀s',Inv X pins σ H s'->Q (.bool (!o.isSome)) s'):
  bg (model X.prog X.w) A (compareOp .NotIn u (.ref a)) Q E s:=by
 rcases g with⟨kvs,k,e,ey,l⟩|⟨kvs,k,b,e,ey,eb,l⟩
 ·subst ey;obtain⟨z,hd,vs,rel,dd⟩:=kZ I.hok e;refine wpAny_notIn_of (kY ry) hd dd.mapOf ?_;rw[←(rel.val k).xE,←l];exact h _ (I.tok _)
 ·subst ey;cases(show u=Value.ref b from ry);obtain⟨z,hd,xs,rel,dd⟩:=pY I.hok e;refine wpAny_notIn_heap (tupleKind_room_in1 hu) (lW I.hok eb) hd dd ?_;have q:=(rel.val k).xE;rw[Xk]at q;rw[←q,←l];exact h _ (I.tok _)
def nO{h':cK}{t':Nat}{ob:HO}(I:Inv X pins σ H s)(mu:KL (H a))(hs:Heap.SameBut a s.heap h')(he:∃q,h'.get? a=af q)(new:bG X.prog X.w (upd H a ob) h' a ob):
  Inv X pins σ (upd H a ob) {s with heap:=h',toks:=t'}:=
 I.write (x:=a) (e:=a) mu (.inl rfl) (λb q hb z=>(hs.2 b hb).trans z) he new
def ux{P:bX}{w:ck}{H':Hp}{h':cK}{kvs:List (Key×V)}{vs:List (Key×ai)}(z:kvs.length<=aT)(hd:(a==sysModules)=aS)(rel:KV kvs vs)(dd:h'.DictOf (aY P w) a vs):
  bG P w H' h' a (.dK kvs):=⟨z,hd,vs,rel,dd⟩
def Cg{H':Hp}{Q:Unit->aE->Prop}(hu:A.units+1<cLine)(I:Inv X pins σ H s)(g:zB H a y v H')(ry:RelV y u)(rv:RelV v r)(h:∀s',Inv X pins σ H' s'->Q () s'):
  bg (model X.prog X.w) A (setItem (.ref a) u r) Q E s:=by
 rcases g with⟨kvs,k,e,ey,l,eH⟩|⟨kvs,k,b,e,ey,eb,l,eH⟩
 ·subst ey eH;obtain⟨z,hd,vs,rel,dd⟩:=nM I.hok e;have hz:vs.length<=sizeLine:=by rw[←rel.length];exact z
  have hl:(putK kvs k v).length<=sizeLine:=by have:=jM kvs k v;lia
  refine wpAny_setItem_pairs (hsz:=hz) (kY ry) dd λh' EW hs=>h _ ?_;have he:∃q,h'.get? a=af q:=let⟨q,_,_,hq,_⟩:=EW;⟨q,hq⟩
  exact nO I (by rw[e];exact True.intro) hs he (ux hl hd (rel.put k rv) EW)
 ·subst ey eH;cases(show u=Value.ref b from ry);obtain⟨z,hd,xs,rel,dd⟩:=Rp I.hok e;have hz:xs.length<=sizeLine:=by rw[←Paired.length rel];exact z
  have hl:(putK kvs k v).length<=sizeLine:=by have:=jM kvs k v;lia
  refine wpAny_setItem_heap (hsz:=hz) (tupleKind_room_in1 hu) (lW I.hok eb) dd λh' EW hs=>h _ ?_;obtain⟨q,es,ep,hq,h2,h3,h4,_,h5⟩:=EW;refine nO I (by rw[e];exact True.intro) hs ⟨q,hq⟩ ⟨hl,hd,_,(rel.put k eb rv).keeps λc ys ec=>?_,q,es,ep,hq,h2,h3,h4,h5⟩;rw[aB (dh ec e (λz=>nomatch z))];exact ec
end
section
variable{X:Cx}{pins:List (ay×Obj)}{σ:St}{H:Hp}{s:aE}{a:ay}{kvs:List (Key×V)}{k:Key}{u:ai}{A:cy}{E:ai->aE->Prop}
def Rq{v:V}{more:List ai}{Q:ai->aE->Prop}(I:Inv X pins σ H s)(e:H a=af (.dK kvs))(ry:RelV (kV k) u)(l:dI kvs k=af v)(hm:more=[]\/∃x,more=[x])(h:∀w' s',Inv X pins σ (upd H a (.dK (kJ kvs k))) s'->RelV v w'->Q w' s'):bg (model X.prog X.w) A (call (.builtin "dict.pop") (.ref a::u::more)) Q E s:=by
 obtain⟨z,hd,vs,rel,dd⟩:=nM I.hok e;obtain⟨w',hw,rw'⟩:=fL.some_of (v:=v) (o:=valueAt vs k) (by rw[←l];exact rel.val k);have hp:(keyPart u).isSome=true:=by
  cases k with
  |inl i=>obtain⟨t,q⟩:=(show ∃t,u=Value.int i t from ry);subst q;rfl
  |inr x=>obtain⟨t,q⟩:=(show ∃t,u=Value.str x t from ry);subst q;rfl
 have ha:argsOk "dict.pop" ⟨.ref a::u::more,[]⟩:=by
  rcases hm with q|⟨x,q⟩
  ·subst q;rfl
  ·subst q;rfl
 refine call_meetsIn om dd.typeIs PySem.F.entry_dict_pop ha (meets_dict_pop_there (aY X.prog X.w) a (kY ry) more hm hp)
  ⟨vs,w',dd,by rw[←rel.length];exact z,hw,λh' EW hs=>h w' _ ?_ rw'⟩
 have he:∃q,h'.get? a=af q:=let⟨q,_,_,hq,_⟩:=EW;⟨q,hq⟩
 exact nO I (by rw[e];exact True.intro) hs he (ux (Vp (GK kvs k) z) hd (rel.drop k) EW)
def Rr{Q:ai->aE->Prop}(I:Inv X pins σ H s)(e:Rd H a (.dK kvs))(h:∀t s',Inv X pins σ H s'->Q (.int kvs.length t) s'):bg (model X.prog X.w) A (call (.builtin "len") [.ref a]) Q E s:=by obtain⟨z,hd,vs,rel,dd⟩:=kZ I.hok e;refine call_len_dict hd dd (by rw[←rel.length];rw[VL]at z;lia) ?_;rw[←rel.length];exact h _ _ (I.tok _)
end
def wK{X:Cx}{pins:List (ay×Obj)}{σ:St}{H:Hp}{s:aE}{a:ay}{y:V}{o:Option V}(I:Inv X pins σ H s)(g:qR H a y o):s.TypeIs (.ref a) "dict" :=by
 rcases g with⟨kvs,k,e,_,_⟩|⟨kvs,k,b,e,_,_,_⟩
 ·obtain⟨_,_,vs,_,dd⟩:=kZ I.hok e;exact dd.typeIs
 ·obtain⟨_,_,xs,_,dd⟩:=pY I.hok e;exact dd.typeIs
def GP{P:bX}{w:ck}{H:Hp}(h:cK)(hb:sysModules<h.objs.size):bG P w H (h.push {cls:= .type "dict",data:= .dict #[]}) h.objs.size (.dK []):=
 ⟨Wx _,beq_eq_false_iff_ne.mpr (Ne.symm (Vb hb)),[],.nil,Heap.DictOf.new h⟩
def NZ:TE:=λ_ H Q=>∀p,H p=ah->Q (.ref p) (upd H p (.dK []))
section
variable{X:Cx}{pos:Pos}
def GQ:PE X (.Dict [] [] pos) NZ:=λpins s σ H Q I h=>wpAny_Dict_empty ⟨.ref s.heap.objs.size,_,I.laid (a:=s.heap.objs.size) (o:= .dK []) (t':=s.toks) (λ_ _ q=>Uv _ q) (Uz _) (GP s.heap I.big),rfl,h _ (I.hok.fresh (Uz _))⟩
end
end L2
namespace QA
open PySem PySem.W PySem.Calls PyProof.Rows
theorem pZ{P:Params}{h:cK}:∀(ns:List Int)(vs:List ai),WellAll P h vs (ns.map WData.int)->IntsAre vs ns:=by
 intro ns
 induction ns with
 |nil=>intro vs w;rw[Vg]at w;cases w;exact .nil|cons n ns ih=>
  intro vs w;rw[U0]at w;cases w with|cons a b=>cases a;exact .cons _ _ (ih _ b)
theorem Ci{l:OpenLaw}{n:Nat}(hn:l.most=af n){P:Params}{h:cK}{args:List WData}{vals:List ai}(hpre:l.row.toRowW.claim.pre args=av)(hwl:WellAll P h vals args):
  ∃a vs ns,vals=[Value.ref a]/\args=[WData.list (ns.map WData.int)]/\h.get? a=af {cls:= .type "list",data:= .seq vs.toArray}/\IntsAre vs ns/\ns.length<=n:=by
 have hsh:WShape.hasAll [] args [.list .int]=true:=(pre_splitW hpre).1;have hc:l.pre.holds [] {args:=args}=true:=(pre_splitW hpre).2;obtain⟨d,r,rfl,h1,h2⟩:=hasAllW_cons hsh;obtain rfl:=hasAllW_nil h2;obtain⟨xs,rfl,h3⟩:=hasW_list h1;obtain⟨ns,rfl⟩:=items_int h3;have hlen:ns.length<=n:=by
  unfold OpenLaw.pre at hc;have h4:(WTm.not (.lt (.lit (.int (n:Int))) (.len (.arg 0)))).holds [] {args:=[.list (ns.map .int)]}=true:=by have h4:=(holds_andW hc).1;rw[hn]at h4;exact h4
  have h5:=condW_of h4 (w_not (w_lt w_lit (w_len_list (w_arg rfl))));rw[UG]at h5;refine kq λq=>?_;have q':(n:Int)<((ns.length:Nat):Int):=by lia
  first
   |simp_all|(simp at h5;lia)
 cases hwl with
 |cons w1 w2=>
  cases w2;cases w1 with|list ho hall=>exact⟨_,_,ns,rfl,rfl,ho,pZ ns _ hall,hlen⟩
def Cj(l:OpenLaw)(args:List WData):l.row.toRowW.claim.post args (.bool av) args=true:=
 postW_of (r:=l.row.toRowW) (X:=(av==av))
  (show WShape.has [] (.bool av) .bool=av by rfl)
  (show(WTm.eq .res (.lit (.bool av))).value [] {args:=args,res:=af (.bool av),after:=args}=af (.bool (av==av))from w_eq_bool (w_res rfl) w_lit) rfl
def Cn{l:OpenLaw}{n:Nat}{q:bX}{loose:List Str}{XP:(Str->Option ai)->cK->Prop}{YP:ck->cK->Prop}{d:DefRec}(hn:l.most=af n)(hdf:d.params.defaults=[])(call:∀(w:ck)(s₀ s₁:aE)(mg mb:Str->Option ai)(fa:ay)(o:Obj)(pm cd doc:ai)(a:ay)(vs:List ai)(ns:List Int),
   Ground q loose [] XP w s₀ mg mb s₁.heap->YP w s₁.heap->
   s₁.heap.get? fa=af o->o.data= .func (docDef d.name d.params d.body d.scope pm cd doc)->s₁.heap.CodeRec cd d.name->mg d.name=af (.ref fa)->
   s₁.heap.get? a=af {cls:= .type "list",data:= .seq vs.toArray}->IntsAre vs ns->ns.length<=n->s₁.gens= #[]->
   codeAny (model l.prog w) callerA (.call (.ref fa) ⟨[.ref a],[]⟩) (λr s'=>r= .ok (.ret (.bool av))/\OldK s₁.heap s'.heap/\s'.os=s₁.os/\AllBare s'.gens) s₁):
  WalkO q loose XP YP l.row.toRowW d [] (λf vs=>xS f vs):=by
 intro w s₀ s₁ mg mb G Y fa o pm cd doc dV kV ho hd hcd hD hmg hg args vals as hpre hlay hrd hwl hlo;obtain rfl:dV= .none:=Dflts.none hD hdf;obtain rfl:kV= .none:=Dflts.noKw hD;obtain⟨a,vs,ns,rfl,rfl,hobj,hints,hlen⟩:=Ci hn hpre hwl;refine enter_call (Xn (call w s₀ s₁ mg mb fa o pm cd doc a vs ns G Y ho (fd_plain hd) hcd hmg hobj hints hlen hg) λr s' hq=>?_);obtain⟨rfl,h2,h3,h4⟩:=hq;exact⟨.inl ⟨.bool av,.bool av,[],rfl,λ_=>rfl,.bool av,Cj l _,λ_=>⟨se,λ_ hm=>(nomatch hm)⟩⟩,h2,h3,h4⟩
end QA
namespace L2
open PySem PySem.Spec PyProof.Rows
theorem iU:∀{vs:List ai}{ns:List Int},IntsAre vs ns->Vals (ns.map V.int) vs
 |_,_,.nil=> .nil|_,_,.cons n t h=> .cons ⟨t,rfl⟩ (iU h)
def E6(H:Hp):Prop:=∀b,H b=ah\/∃o xs,H b=af (.sP o (.lst xs))
theorem GR{P:bX}{w:ck}{K:aI}{mg mb:Str->Option ai}{CX:EV}{k:Nat}{fa a:ay}{fd:FuncData}{x:Str}{sp:Sp}{s₁:aE}{vs:List ai}{ns:List Int}(KX:K.In s₁.heap)(hns:s₁.heap.Ns mainGlobals mg)(hb:s₁.heap.Ns builtinsNs mb)(hbb:∀x:Str,x≠ "__name__" ->mb x=bootBuiltins x)(hlim:s₁.heap.NoLimit)(hg:s₁.gens= #[])(ha:s₁.heap.get? a=af {cls:= .type "list",data:= .seq vs.toArray})(hi:IntsAre vs ns)(hl:ns.length<=aT)(hr:oz k callerA)(F:∀base:cK,K.In base->base.Ns mainGlobals mg->x8 P w K mg base CX k fa fd [x] sp)(hbind:∀(s:aE)(u:ai),BindsTo s fd ⟨[u],[]⟩ [(x,u)])(hsp:∀H:Hp,E6 H->xy K H a (ns.map V.int)->sp [.ref a] H (λv _=>v= .bl av) λ_ _ _=>False)(N2:∀H e s',CX [] H s₁ (λ_ _ _=>False) e s'->False):
  codeAny (model P w) callerA (.call (.ref fa) ⟨[.ref a],[]⟩) (λr s'=>r= .ok (.ret (.bool av))/\OldK s₁.heap s'.heap/\s'.os=s₁.os/\AllBare s'.gens) s₁:=by
 have rv:=iU hi;have lenV:=hi.length;have core:∀H:Hp,E6 H->xy K H a (ns.map V.int)->zC P w H s₁.heap->(∀b,H b≠ah->b=a)->(H a≠ah->K.lookup a=ah)->
   codeAny (model P w) callerA (.call (.ref fa) ⟨[.ref a],[]⟩) (λr s'=>r= .ok (.ret (.bool av))/\OldK s₁.heap s'.heap/\s'.os=s₁.os/\AllBare s'.gens) s₁:=by
  intro H hO hS hok hA hK;have DA:∀{b:ay}{o:Obj},s₁.heap.get? b=af o->H b=ah->(kE s₁.heap H).get? b=af o:=λe n=>Gq e n;have Lc:∀{b:ay}{o:Obj}{es:Array DictEntry}{ep:Nat},s₁.heap.get? b=af o->o.data= .dict es ep->H b=none:=λ{b o es ep} e d=>by grind
  have MU:∀{b:ay}{m:Str->Option ai},s₁.heap.Ns b m->(kE s₁.heap H).Ns b m:=λ{b m} ⟨o,es,ep,e,d,r⟩=>⟨o,es,ep,DA e (Lc e d),d,r⟩
  have QE:K.In (kE s₁.heap H):=λb o e=>DA (KX b o e) (by
   grind)
  have hM:Mod K mg (kE s₁.heap H):=⟨QE,MU hns,⟨mb,MU hb,hbb⟩,let⟨mc,h1,h2⟩:=hlim;⟨mc,MU h1,h2⟩⟩
  have e0:CM P w K mg (kE s₁.heap H) callerA [] s₁ H:=⟨rfl,hM,λb o e=>Jz e,zh (Bu _ _),trivial,λb hb=>absurd (show b∈([]:List ay)from hb) (by simp),hok,.of_eq hg⟩
  refine Xn ((F _ QE (MU hns)).run callerA [] s₁ H ⟨[.ref a],[]⟩ [.ref a] [.ref a] _ _ hr e0 (hbind s₁ (.ref a)) (.cons rfl .nil) (hsp H hO hS)) λr s' h=>?_;cases r with
  |error e=>exact(N2 H e s' h).elim|ok fl=>
   cases fl with
   |next=>exact False.elim h|brk=>exact False.elim h|cont=>exact False.elim h|ret u=>
    obtain⟨v,H',os,bare,un,hok',r',q⟩:=h;have q':v= .bl true:=q;subst q';obtain rfl:u=Value.bool true:=r';refine⟨rfl,OldK.of_keep λb o e=>?_,os,bare⟩;cases q:H b with
    |none=>exact un.keep b o e q (by intro z;exact absurd (show b∈([]:List ay)from z) (by simp)) (by simp)|some u=>
     rcases hO b with z|⟨ob,xs,z⟩
     ·lia
     ·have z2:=un.qk b ob _ z;obtain⟨e1,_⟩:=hok b _ z;obtain⟨e2,_⟩:=hok' b _ z2;lia
 cases hk:K.lookup a with
 |some o=>have e:=KX a o hk;rw[ha]at e;cases e;refine core (λ_=>ah) (λ_=> .inl rfl) (.inr ⟨_,vs.toArray,_,hk,rfl,rfl,rfl,by simp_all,by simpa using rv⟩) (λb u z=>by lia) (λb z=>absurd rfl z) λz=>absurd rfl z|none=>
  refine core (λb=>if b=a then af (.sP {cls:= .type "list",data:= .seq vs.toArray} (.lst (ns.map V.int)))else ah) (λb=>?_) (.inl (.inr ⟨{cls:= .type "list",data:= .seq vs.toArray},if_pos rfl⟩)) (λb u z=>?_) (λb z=>?_) λ_=>hk
  ·grind
  ·by_cases hb:b=a
   ·have z':=(if_pos hb).symm.trans z;cases z';subst hb;exact⟨ha,by simp_all,vs,_,rv,ha⟩
   lia
  lia
def xn{l:pe}{n k:Nat}{q:bX}{loose:List Str}{XP:(Str->Option ai)->cK->Prop}{YP:ck->cK->Prop}{d:DefRec}{K:Params->aI}{CX:ck->EV}{sp:ck->Sp}{x:Str}(hn:l.most=af n)(hn2:n<=aT)(hdf:d.params.defaults=[])(hr:oz k callerA)(hY:∀(w:ck)(h:cK),YP w h->(K w.params).In h)(F:∀(w:ck)(mg:Str->Option ai)(fa:ay)(h:cK),(K w.params).In h->h.Ns mainGlobals mg->mg d.name=af (.ref fa)->
   ∃fd:FuncData,(∀(s:aE)(u:ai),BindsTo s fd ⟨[u],[]⟩ [(x,u)])/\
    ∀base:cK,(K w.params).In base->base.Ns mainGlobals mg->x8 l.prog w (K w.params) mg base (CX w) k fa fd [x] (sp w))(hsp:∀(w:ck)(H:Hp)(a:ay)(ns:List Int),ns.length<=n->E6 H->xy (K w.params) H a (ns.map V.int)->sp w [.ref a] H (λv _=>v= .bl av) λ_ _ _=>False)(N2:∀(w:ck)(H:Hp)(s:aE)(e:ai)(s':aE),CX w [] H s (λ_ _ _=>False) e s'->False):
  yk q loose XP YP l.row.toRowW d [] (λf vs=>xS f vs):=by
 refine QA.Cn hn hdf λw s₀ s₁ mg mb fa o pm cd doc a vs ns G Y ho hd hcd hmg hobj hints hlen hg=>?_;have KX:=hY w _ Y;obtain⟨fd,hb,hF⟩:=F w mg fa _ KX G.T.g hmg;exact GR KX G.T.g G.T.b G.T.builtins G.T.nolimit hg hobj hints (Vp hlen hn2) hr hF hb (λH hO hS=>hsp w H a ns hlen hO hS) λH e s'=>N2 w H s₁ e s'
def inClass(s:eL)(j:Nat):Stmt:=match s with
 |.ClassDef _ _ _ body _ _ _ _ _ _ _=>body.getD j (.Pass ⟨0,0,0,0⟩)|_=> .Pass ⟨0,0,0,0⟩
def gK(s:eL):Arguments:=match s with
 |.FunctionDef _ a _ _ _ _ _ _ _ _=>a|_=>{posonlyargs:=[],args:=[],vararg:=ah,kwonlyargs:=[],kw_defaults:=[],kwarg:=ah,defaults:=[]}
def fW(s:eL):List Stmt:=match s with
 |.FunctionDef _ _ b _ _ _ _ _ _ _=>b|_=> []
def bV(s:eL):Scope:=match s with
 |.FunctionDef _ _ _ _ _ _ sc _ _ _=>sc|_=>{kind:= .function,names:=[],isGenerator:=aS,isCoroutine:=aS}
structure Ll(K:aI)(x qual:Str)(st:eL)(f:ay)(fd:FuncData):Prop where
 ex:∃(oc:ai)(od:Option ay)(kV doc pm:ai)(an:Option ay)(cdv ct:ai)(osl:Array (Option ai)),
  fd=fF x qual (gK st) (fW st) (bV st) .none kV doc pm an cdv ct/\K.lookup f=af ⟨oc,od,.func fd,osl⟩/\iP K cdv qual=av
 kp:e8 K (.ref f)=av
section
variable{K:aI}
def Ck{x qual:Str}{st:eL}{f:ay}{oc:ai}{od an:Option ay}{osl:Array (Option ai)}{kV doc pm cdv ct:ai}(l:K.lookup f=af ⟨oc,od,.func (fF x qual (gK st) (fW st) (bV st) .none kV doc pm an cdv ct),osl⟩)(c:iP K cdv qual=av)(k:e8 K (.ref f)=av):Ll K x qual st f (fF x qual (gK st) (fW st) (bV st) .none kV doc pm an cdv ct):=⟨⟨oc,od,kV,doc,pm,an,cdv,ct,osl,rfl,l,c⟩,k⟩
end
def EA(H H':Hp):Prop:=∀b o,H b=af o->H' b=af o
end L2
namespace RK
open PyProof.Rows
def lexLt:List Int->List Int->Bool
 |[],[]=>aS|[],_::_=>av|_::_,[]=>aS|x::xs,y::ys=>if x=y then lexLt xs ys else decide (x<y)
theorem p6:∀a,lexLt a a=aS
 |[]=>rfl|x::xs=>by simp[lexLt,p6 xs]
theorem sJ:∀a b c,lexLt a b=av->lexLt b c=av->lexLt a c=av
 |[],[],c,h,_=>by lia|[],y::ys,[],_,h=>by simp[lexLt]at h|[],y::ys,z::zs,_,_=>rfl|x::xs,[],c,h,_=>by simp[lexLt]at h|x::xs,y::ys,[],_,h=>by simp[lexLt]at h|x::xs,y::ys,z::zs,h1,h2=>by
  unfold lexLt at h1 h2 ⊢;by_cases e1:x=y
  ·subst e1;rw[if_pos rfl]at h1;by_cases e2:x=z
   ·subst e2;rw[if_pos rfl]at h2;rw[if_pos rfl];exact sJ xs ys zs h1 h2
   simp_all
  ·rw[if_neg e1]at h1;have h1:=Vo h1;by_cases e2:y=z
   ·simp_all
   ·rw[if_neg e2]at h2;have h2:=Vo h2;rw[if_neg (by lia)];exact Wc (by lia)
theorem xr:∀a b c,lexLt a c=av->lexLt a b=av\/lexLt b c=av
 |[],b,[],h=>by simp[lexLt]at h|[],[],z::zs,_=> .inr rfl|[],y::ys,z::zs,_=> .inl rfl|x::xs,b,[],h=>by simp[lexLt]at h|x::xs,[],z::zs,_=> .inr rfl|x::xs,y::ys,z::zs,h=>by
  unfold lexLt at h ⊢;by_cases e:x=z
  ·subst e;rw[if_pos rfl]at h;by_cases e2:x=y
   ·subst e2;rw[if_pos rfl,if_pos rfl];exact xr xs ys zs h
   ·rw[if_neg e2,if_neg (by lia)];by_cases g:x<y
    ·simp_all
    ·exact .inr (Wc (by lia))
  grind
theorem lX:∀a b,lexLt a b=aS->lexLt b a=aS->a=b
 |[],[],_,_=>rfl|[],_::_,h,_=>by simp[lexLt]at h|_::_,[],_,h=>by simp[lexLt]at h|x::xs,y::ys,h1,h2=>by
  unfold lexLt at h1 h2;by_cases e:x=y
  ·subst e;rw[if_pos rfl]at h1 h2;rw[lX xs ys h1 h2]
  ·rw[if_neg e]at h1;rw[if_neg (Ne.symm e)]at h2;have h1:=of_decide_eq_false h1;have h2:=of_decide_eq_false h2;lia
def jW:KeyOrd:=⟨List Int,lexLt,p6,sJ,xr,lX⟩
def oY(x:List Int):List (List Int)->List (List Int)
 |[]=> [x]|y::r=>if lexLt y x then y::oY x r else x::y::r
def bh:List (List Int)->List (List Int)
 |[]=> []|x::r=>oY x (bh r)
abbrev EB(a b:List Int):Prop:=lexLt b a=aS
theorem lY(x:List Int):∀l,(oY x l).Perm (x::l)
 |[]=> .refl _|y::r=>by
  unfold oY;split
  ·exact((lY x r).cons y).trans (.swap ..)
  rfl
theorem dB:∀l,(bh l).Perm l
 |[]=> .refl _|x::r=>(lY x _).trans ((dB r).cons x)
def Cm{a b c:List Int}(h1:EB a b)(h2:EB b c):EB a c:=V6 (O:=jW) (a:=a) (b:=b) (c:=c) h1 h2
theorem xu(x:List Int):∀l,l.Pairwise EB->(oY x l).Pairwise EB
 |[],_=>by simp[oY]|y::r,h=>by
  have h':=Vd.mp h;unfold oY;split
  ·rename_i hy;refine Vd.mpr ⟨λz hz=>?_,xu x r h'.2⟩;rcases UJ.mp ((lY x r).mem_iff.mp hz)with rfl|hz
   ·exact Wq (O:=jW) hy
   ·exact h'.1 z hz
  ·rename_i hy;have hy:EB x y:=by simpa using hy
   refine Vd.mpr ⟨λz hz=>?_,h⟩;rcases UJ.mp hz with rfl|hz
   ·exact hy
   ·exact Cm hy (h'.1 z hz)
theorem lg:∀l,(bh l).Pairwise EB
 |[]=> .nil|x::r=>xu x _ (lg r)
theorem p7:∀{a b:List (List Int)},a.Perm b->a.Pairwise EB->b.Pairwise EB->a=b
 |[],b,h,_,_=>by simp_all|x::a,b,h,ha,hb=>by
  cases b with
  |nil=>simp_all|cons y b=>
   have ha':=Vd.mp ha;have hb':=Vd.mp hb;have e:x=y:=by
    have hx:x∈y::b:=h.mem_iff.mp (by simp);have hy:y∈x::a:=h.mem_iff.mpr (by simp);rcases UJ.mp hx with e|hx
    ·exact e
    ·rcases UJ.mp hy with e|hy
     ·exact e.symm
     ·exact lX x y (hb'.1 x hx) (ha'.1 y hy)
   subst e;rw[p7 (List.Perm.cons_inv h) ha'.2 hb'.2]
def oZ{a l:List (List Int)}(h:a.Perm l)(hu:a.Pairwise EB):a=bh l:=p7 (h.trans (dB l).symm) hu (lg l)
end RK
namespace RK
open PySem
inductive D where
 |non|bl (b:Bool)|int (i:Int)|str (x:Str)|tup (ds:List D)|lst (ds:List D)|AN (ns:List Int)|ref (k:Nat)|B6 (c:Str)|EC
 deriving Inhabited
inductive SO where
 |lst (ds:List D)|dct (kvs:List (L2.Key×D))|ins (c:Str) (fs:List (Str×D))|x9 (kvs:List (L2.Key×D))
abbrev bq:=List SO
abbrev aC:=List (Option D)
inductive Out(α:Type)where
 |ok (a:α) (S:bq)|exc (c:Str) (S:bq)
abbrev Ev(α:Type):=Option (Out α)
def bnd{α β:Type}(x:Ev α)(f:α->bq->Ev β):Ev β:=match x with
 |none=>ah|some (.exc c S)=>af (.exc c S)|some (.ok a S)=>f a S
@[simp] theorem aN {α β:Type} (a:α) (S:bq) (f:α->bq->Ev β):bnd (af (.ok a S)) f=f a S:=rfl
@[simp] theorem Ut {α β:Type} (c:Str) (S:bq) (f:α->bq->Ev β):bnd (af (.exc c S)) f=af (.exc c S):=rfl
@[simp] theorem T4 {α β:Type} (f:α->bq->Ev β):bnd (ah:Ev α) f=none:=rfl
set_option genInjectivity false
inductive Tg where
 |name (i:Nat)|tup (ts:List Tg)
inductive AU where
 |list (mu:Bool)|tuple|sorted (mu:Bool)|sum
inductive Bi where
 |len|min|max|abs|int
inductive Mt where
 |append|pop|lI|TN|TR|extend
mutual
inductive E where
 |var (i:Nat)|cst (d:D)|bin (o:Operator) (a b:E)|neg (a:E)|nt (a:E)|cmp (c:CmpOp) (a b:E)|and (a b:E)|or (a b:E)|ite (c:T) (a b:E)|call (f:Nat) (as:List E)|bi (f:Bi) (as:List E)|tup (as:List E)|lst (mu:Bool) (as:List E)|ix (a b:E)|GW (a lo:E)|DB (a hi:E)|ED (a lo hi:E)|comp (mu:Bool) (elt:E) (tg:Tg) (it:It) (ifs:List T) (n:Nat) (cap:List Nat)|col (k:AU) (it:It)|meth (m:Mt) (a:E) (as:List E)|dct|EX (a:E) (yes no:List Str)|fmt (as:List E)|fld (c f:Str) (a:E)|kD (c m:Str) (f:Nat) (a:E) (as:List E)|new (c:Str) (f:Nat) (as:List E)|F6 (a:E) (as:List E)|E7 (a:E)
inductive It where
 |seq (e:E)|snap (e:E)|live (e:E)|lP (b:E)|A9 (e:E)
inductive T where
 |val (e:E)|and (a b:T)|or (a b:T)|nt (a:T)
end
inductive C where
 |asg (t:Tg) (e:E)|sub (o i v:E)|ex (e:E)|cond (e:T) (a b:List C)|fr (t:Tg) (it:It) (a:List C)|CB (t:Tg) (e:E) (a:List C)|ret (e:E)|GY|brk|cont|pass|raise (c:Str) (as:List E)|tr (a:List C) (cs:List Str) (nm:Option Nat) (h:List C)|fset (c f:Str) (o v:E)|no
set_option genInjectivity true
inductive Fl where
 |next (r:aC) (S:bq)|brk (r:aC) (S:bq)|cont (r:aC) (S:bq)|ret (d:D) (S:bq)|exc (c:Str) (r:aC) (S:bq)
def bB(S:bq):D->Option (List D)
 |.tup ds=>af ds|.lst ds=>af ds|.AN ns=>af (ns.map .int)|.ref k=>match S[k]? with
  |some (.lst ds)=>af ds|_=>ah
 |_=>ah
def cL(S:bq):D->Option (List (L2.Key×D))
 |.ref k=>match S[k]? with
  |some (.dct kvs)=>af kvs|some (.x9 kvs)=>af kvs|_=>ah
 |_=>ah
def cX:D->Option L2.Key
 |.int i=>af (.inl i)|.str x=>af (.inr x)|_=>ah
def sQ:L2.Key->D
 |.inl i=> .int i|.inr x=> .str x
def bC(kvs:List (L2.Key×D))(k:L2.Key):Option D:=(kvs.find? λkv=>decide (kv.1=k)).map (·.2)
def putD(kvs:List (L2.Key×D))(k:L2.Key)(v:D):List (L2.Key×D):=
 if(kvs.any λkv=>decide (kv.1=k))=av then kvs.map (λkv=>if kv.1=k then(kv.1,v)else kv)else kvs++ [(k,v)]
def truth(S:bq):D->Option Bool
 |.non=>af aS|.bl b=>af b|.int i=>af (i !=0)|.str x=>if x.length<=aT then af ((x.length:Int) !=0)else ah|.tup ds=>af (!ds.isEmpty)|.lst ds=>af (!ds.isEmpty)|.ref k=>match S[k]? with
  |some (.lst ds)=>af (!ds.isEmpty)|_=>ah
 |_=>ah
def fz{α:Type}(a:α)(S:bq):Ev α:=af (.ok a S)
def A3(mu:Bool)(ds:List D)(S:bq):Ev D:=
 if ds.length<=aT then(if mu then fz (.ref S.length) (S++ [.lst ds])else fz (.lst ds) S)else ah
def E8(ds:List D)(S:bq):Ev D:=if ds.length<=aT then fz (.tup ds) S else ah
def N5(o:Operator)(xs:List D)(b:D)(S:bq):Ev D:=match b with
 |.lst ys=>match o with
  |.Add=>if xs.length+ys.length<=aT then fz (.lst (xs++ys)) S else ah|_=>ah
 |_=>ah
def binop(o:Operator)(a b:D)(S:bq):Ev D:=match a with
 |.int i=>match b with
  |.int j=>match o with
   |.Add=>fz (.int (i+j)) S|.Sub=>fz (.int (i - j)) S|.Mult=>if(-(2^64)<i/\i<2^64)\/(-(2^64)<j/\j<2^64)then fz (.int (i*j)) S else ah|.FloorDiv=>if 0<j/\j<1073741824 then fz (.int (i/j)) S else ah|.Mod=>if 0<j then fz (.int (i % j)) S else ah|.LShift=>if 0<=j/\j<=1000000/\i.natAbs<2^64 then fz (.int (i*2^j.toNat)) S else ah|_=>ah
  |_=>ah
 |.tup xs=>match b with
  |.tup ys=>match o with
   |.Add=>if xs.isEmpty=av then fz (.tup ys) S else if xs.length+ys.length<=aT then fz (.tup (xs++ys)) S else ah|_=>ah
  |_=>ah
 |.lst xs=>match b with
  |.lst ys=>match o with
   |.Add=>if xs.length+ys.length<=aT then fz (.lst (xs++ys)) S else ah|_=>ah
  |_=>ah
 |.ref k=>match S[k]? with
  |some (.lst xs)=>N5 o xs b S|_=>ah
 |_=>ah
def zD:D->Option PyData
 |.non=>af .none|.bl b=>af (.bool b)|.int i=>af (.int i)|.str x=>af (.str x)|.tup ds=>(ya ds).map .tuple|.lst ds=>(ya ds).map .list|_=>ah
where ya:List D->Option (List PyData)
 |[]=>af []|d::ds=>match zD d,ya ds with
  |some p,af ps=>af (p::ps)|_,_=>ah
def gF(S:bq)(d:D):Option PyData:=match d with
 |.ref k=>match S[k]? with
  |some (.lst ds)=>zD (.lst ds)|_=>ah
 |d=>zD d
def BC(S:bq)(a b:D):Option Bool:=match gF S a,gF S b with
 |some p,af q=>if SeqAt.shaped p=av/\SeqAt.shaped q=av then af (PyData.eqv p q)else ah|_,_=>ah
def inD(S:bq)(a b:D):Option Bool:=match cL S b with
 |some kvs=>(cX a).map λk=>(bC kvs k).isSome|none=>match gF S a,bB S b with
  |some p,af ds=>match zD.ya ds with
   |some qs=>if SeqAt.shaped p=av/\SeqAt.shaped (.list qs)=av then af (qs.any λq=>PyData.eqv q p)else ah|none=>ah
  |_,_=>ah
def qT(f:Int->Int->Bool)(a b:D)(S:bq):Ev D:=match a with
 |.int i=>match b with
  |.int j=>fz (.bl (f i j)) S|_=>ah
 |_=>ah
def zE(f:Bool->Bool)(a b:D)(S:bq):Ev D:=match a with
 |.bl i=>match b with
  |.bl j=>fz (.bl (f (i==j))) S|_=>ah
 |.non=>match b with
  |.non=>fz (.bl (f av)) S|_=>ah
 |.int _=>match b with
  |.non=>fz (.bl (f aS)) S|_=>ah
 |_=>ah
def D4(o:Option Bool)(f:Bool->Bool)(S:bq):Ev D:=match o with
 |some r=>fz (.bl (f r)) S|none=>ah
def kM(o:CmpOp)(a b:D)(S:bq):Ev D:=match o with
 |.Lt=>qT (λi j=>decide (i<j)) a b S|.LtE=>qT (λi j=>decide (i<=j)) a b S|.Gt=>qT (λi j=>decide (j<i)) a b S|.GtE=>qT (λi j=>decide (j<=i)) a b S|.Eq=>D4 (BC S a b) (λr=>r) S|.NotEq=>D4 (BC S a b) (λr=>!r) S|.In=>D4 (inD S a b) (λr=>r) S|.NotIn=>D4 (inD S a b) (λr=>!r) S|.Is=>zE (λr=>r) a b S|.IsNot=>zE (λr=>!r) a b S
def IQ(a b:D)(S:bq):Ev D:=match cL S a with
 |some kvs=>match cX b with
  |some k=>match bC kvs k with
   |some d=>fz d S|none=>ah
  |none=>ah
 |none=>match bB S a,b with
  |some ds,.int i=>match L2.BI ds i with
   |some d=>fz d S|none=>ah
  |_,_=>ah
def putAt(a b d:D)(S:bq):Option bq:=match a with
 |.ref k=>match S[k]? with
  |some (.dct kvs)=>match cX b with
   |some key=>if kvs.length<aT then af (S.set k (.dct (putD kvs key d)))else ah|none=>ah
  |_=>ah
 |_=>ah
def cutD(ds:List D)(lo hi:Option Int):List D:=(ds.drop (HT.kN ds.length 0 lo)).take (HT.kN ds.length ds.length hi - HT.kN ds.length 0 lo)
def slc(a:D)(lo hi:Option Int)(S:bq):Ev D:=match a with
 |.tup ds=>fz (.tup (cutD ds lo hi)) S|.lst ds=>fz (.lst (cutD ds lo hi)) S|.AN ns=>fz (.lst (cutD (ns.map .int) lo hi)) S|.ref k=>match S[k]? with
  |some (.lst ds)=>fz (.lst (cutD ds lo hi)) S|_=>ah
 |_=>ah
def p8(a:D)(S:bq):Ev D:=match bB S a with
 |some ds=>fz (.int ds.length) S|none=>match cL S a with
  |some kvs=>fz (.int kvs.length) S|none=>match a with
   |.str x=>if x.length<=aT then fz (.int x.length) S else ah|_=>ah
def F7(f:D->bq->Ev D)(as:List D)(S:bq):Ev D:=match as with
 |[]=>ah|a::r=>match r with
  |[]=>f a S|_::_=>ah
def QI(f:Int->Int->Int)(as:List D)(S:bq):Ev D:=match as with
 |[]=>ah|a::r=>match r with
  |[]=>ah|b::r'=>match r' with
   |[]=>match a with
    |.int i=>match b with
     |.int j=>fz (.int (f i j)) S|_=>ah
    |_=>ah
   |_::_=>ah
def insI(x:Int):List Int->List Int
 |[]=> [x]|y::r=>if x<=y then x::y::r else y::insI x r
def sortI:List Int->List Int
 |[]=> []|x::r=>insI x (sortI r)
def bf:List D->Option (List Int)
 |[]=>af []|.int i::r=>(bf r).map (i::·)|_::_=>ah
def dC:List D->Option (List (List Int))
 |[]=>af []|.tup es::r=>match bf es,dC r with
  |some (n::ns),af rs=>af ((n::ns)::rs)|_,_=>ah
 |_::_=>ah
def dm(r:List Int):D:= .tup (r.map .int)
def word(c:Int):Str:=if c=0 then Z7 else Z8
def zF(x:Str):Option Int:=if x=word 0 then af 0 else if x=word 1 then af 1 else ah
def aL(r:List Int):D:=match r with
 |[]=> .tup []|a::s=>match s with
  |[]=> .tup []|c::ns=> .tup (.int a:: .str (word c)::ns.map .int)
def uy(d:D):Option (List Int):=match d with
 |.tup es=>match es with
  |[]=>ah|x::s=>match s with
   |[]=>ah|y::r=>match x with
    |.int a=>match y with
     |.str w=>match zF w with
      |some c=>(bf r).map λns=>a::c::ns|none=>ah
     |_=>ah
    |_=>ah
 |_=>ah
def jD:List D->Option (List (List Int))
 |[]=>af []|d::r=>match uy d with
  |some x=>(jD r).map λrs=>x::rs|none=>ah
def dN(S:bq)(k:Nat):Option (List D):=match S[k]? with
 |none=>ah|some o=>match o with
  |.lst ds=>af ds|.dct _=>ah|.ins _ _=>ah|.x9 _=>ah
def N6(lo:Bool)(f:Int->Int->Int)(as:List D)(S:bq):Ev D:=match as with
 |[]=>ah|a::r=>match r with
  |[]=>ah|b::r'=>QI f (a::b::r') S
def DT(f:Bi)(as:List D)(S:bq):Ev D:=match f with
 |.len=>F7 p8 as S|.min=>N6 av (λi j=>if j<i then j else i) as S|.max=>N6 aS (λi j=>if j>i then j else i) as S|.abs=>ah|.int=>ah
def lZ(rs:List (List Int)):Prop:=rs.Nodup/\rs.length<128/\(64<=rs.length->∀i j,i+7<=j->j<rs.length->lexLt (rs.getD i []) (rs.getD j [])=av)
open Classical in
def eU(ds:List D):Option (List D):=match bf ds with
 |some ns=>if ns.length<64 then af ((sortI ns).map .int)else ah|none=>match dC ds with
  |some rs=>if lZ rs then af ((bh rs).map dm)else ah|none=>match jD ds with
   |some rs=>if lZ rs then af ((bh rs).map aL)else ah|none=>ah
def Ru(ns:List Int):Bool:=ns.all (λn=>decide (-(2^40)<=n/\n<=2^40)) && decide (ns.length<=2^20)
def jN(k:AU)(ds:List D)(S:bq):Ev D:=match k with
 |.list mu=>A3 mu ds S|.tuple=>E8 ds S|.sorted mu=>match eU ds with
  |some es=>A3 mu es S|none=>ah
 |.sum=>match bf ds with
  |some ns=>if Ru ns=av then fz (.int ns.sum) S else ah|none=>ah
def nP(k:Nat)(d:D)(S:bq):Ev D:=match dN S k with
 |none=>ah|some ds=>if ds.length<aT then fz .non (S.set k (.lst (ds++ [d])))else ah
def uz(k:Nat)(d:D)(S:bq):Ev D:=match d with
 |.int i=>match dN S k with
  |none=>ah|some ds=>match L2.C9 ds.length i with
   |none=>ah|some j=>match ds[j]? with
    |none=>ah|some d=>fz d (S.set k (.lst (ds.eraseIdx j)))
 |_=>ah
def qU(k:Nat)(d:D)(S:bq):Ev D:=match d with
 |.tup es=>match dN S k with
  |none=>ah|some ds=>if ds.length+es.length<=aT then fz .non (S.set k (.lst (ds++es)))else ah
 |.lst es=>match dN S k with
  |none=>ah|some ds=>if ds.length+es.length<=aT then fz .non (S.set k (.lst (ds++es)))else ah
 |_=>ah
def jE(m:Mt)(a:D)(as:List D)(S:bq):Ev D:=match a with
 |.ref k=>match m with
  |.append=>F7 (nP k) as S|.lI=>F7 (uz k) as S|.extend=>F7 (qU k) as S|_=>ah
 |_=>ah
def Jh(p:L2.Key×D):Option (List Int):=match p.1 with
 |.inr _=>ah|.inl k=>match p.2 with
  |.int v=>af [k,v]|_=>ah
def iM:List (L2.Key×D)->Option (List (List Int))
 |[]=>af []|p::r=>match Jh p with
  |none=>ah|some q=>match iM r with
   |none=>ah|some t=>af (q::t)
def qW(x:D)(S:bq):Ev D:=match x with
 |.ref n=>match S[n]? with
  |some o=>match o with
   |.dct kvs=>match iM kvs with
    |some rs=>if rs.Nodup/\rs.length<64 then A3 aS ((bh rs).map dm) S else ah|none=>ah
   |_=>ah
  |none=>ah
 |_=>ah
def jh(n:Nat)(ds:List D)(S:bq):Ev D:=match ds with
 |[.int i]=>match S[n]? with
  |some (.dct kvs)=>match bC kvs (.inl i)with
   |some d=>fz d (S.set n (.dct (kvs.filter λkv=>decide (kv.1≠ .inl i))))|none=>ah
  |_=>ah
 |_=>ah
def mj(n:Nat)(ds:List D)(S:bq):Ev D:=match ds with
 |[k,e]=>match S[n]? with
  |some (.dct kvs)=>match cX k with
   |some key=>match bC kvs key with
    |some d=>fz d S|none=>if kvs.length<aT then fz e (S.set n (.dct (putD kvs key e)))else ah
   |none=>ah
  |_=>ah
 |_=>ah
def cA(lo hi:Int):List D:=(dc (hi - lo).toNat).map λ(i:Nat)=>D.int (lo+(i:Int))
mutual
def cz:Tg->D->aC->Option aC
 |.name i,d,r=>af (r.set i (af d))|.tup ts,.tup ds,r=>jF ts ds r|.tup _,_,_=>ah
def jF:List Tg->List D->aC->Option aC
 |[],[],r=>af r|t::ts,d::ds,r=>match cz t d r with
  |some r'=>jF ts ds r'|none=>ah
 |_,_,_=>ah
end
def iQ{α:Type}(x:Ev α):Ev α:=match x with
 |some (.ok a S)=>af (.ok a S)|_=>ah
@[simp] theorem eY {α:Type} (a:α) (S:bq):iQ (af (.ok a S))=af (.ok a S):=rfl
def compLoop(f:aC->bq->Ev D)(g:aC->bq->Ev Bool)(tg:Tg):List D->aC->bq->List D->Ev (List D)
 |[],_,S,acc=>fz acc S|d::ds,r,S,acc=>match cz tg d r with
  |none=>ah|some r'=>bnd (iQ (g r' S)) λb S1=>if b then bnd (iQ (f r' S1)) λx S2=>compLoop f g tg ds r' S2 (acc++ [x])else compLoop f g tg ds r' S1 acc
open Classical in
def QN{α:Type}(S1:bq)(f:aC->bq->Ev α):aC->bq->Ev α:=λr S=>if S=S1 then f r S else ah
open Classical in
def same{α:Type}(S1 S2:bq)(x:Ev α):Ev α:=if S2=S1 then x else ah
@[simp] theorem T5 {α:Type} {S1:bq} {f:aC->bq->Ev α} {r:aC}:QN S1 f r S1=f r S1:=by unfold QN;exact if_pos rfl
@[simp] theorem same_self {α:Type} {S1:bq} {x:Ev α}:same S1 S1 x=x:=by unfold same;exact if_pos rfl
def fM(r:aC)(n:Nat)(cap:List Nat):aC:=bE n ah++cap.map λi=>(r[i]?).join
def zG(b:Option Bool)(S:bq):Ev Bool:=match b with
 |some b=>fz b S|none=>ah
def ji(ds:List D):List D:=(ds.zipIdx).map λp=> .tup [.int p.2,p.1]
def lr(x:D)(yes no:List Str)(S:bq):Ev D:=match x with
 |.B6 c=>if c∈yes then fz (.bl av) S else if c∈no then fz (.bl aS) S else ah|_=>ah
def iV:D->Bool
 |.int i=>decide (i.natAbs<2^1000)|.tup ds=>match bf ds with
  |some ns=>ns.all (λi=>decide (i.natAbs<2^1000)) && decide (ns.length<=100)|none=>aS
 |_=>aS
def zH(ds:List D)(S:bq):Ev D:=if ds.all iV=av then fz .EC S else ah
def cU(S:bq)(c:Str):D->Option (Nat×List (Str×D))
 |.ref k=>match S[k]? with
  |some (.ins c' fs)=>if c'=c then af (k,fs)else ah|_=>ah
 |_=>ah
def cO(f:Str)(v:D):List (Str×D)->List (Str×D)
 |[]=> [(f,v)]|(g,x)::r=>if g=f then(g,v)::r else(g,x)::cO f v r
def zJ(c f:Str)(x:D)(S:bq):Ev D:=match cU S c x with
 |some (_,fs)=>match fs.lookup f with
  |some d=>fz d S|none=>ah
 |none=>ah
def gR(nm:Option Nat)(c:Str)(r:aC):aC:=match nm with
 |some i=>r.set i (af (.B6 c))|none=>r
def jX(nm:Option Nat)(x:Option Fl):Option Fl:=match x with
 |some (.next r S)=>af (.next (match nm with|some i=>r.set i ah|none=>r) S)
 |_=>ah
section
variable(cl:Nat->List D->bq->Ev D)
mutual
def ak:E->aC->bq->Ev D
 |.var i,r,S=>match(r[i]?).join with
  |some d=>fz d S|none=>ah
 |.cst d,_,S=>fz d S|.bin o a b,r,S=>bnd (ak a r S) λx S1=>bnd (ak b r S1) λy S2=>binop o x y S2|.neg a,r,S=>bnd (ak a r S) λx S1=>match x with
  |.int i=>fz (.int (-i)) S1|_=>ah
 |.nt a,r,S=>bnd (ak a r S) λx S1=>match truth S1 x with
  |some b=>fz (.bl (!b)) S1|none=>ah
 |.cmp c a b,r,S=>bnd (ak a r S) λx S1=>bnd (ak b r S1) λy S2=>kM c x y S2|.and a b,r,S=>bnd (ak a r S) λx S1=>match x with
  |.bl av=>ak b r S1|.bl aS=>fz (.bl aS) S1|_=>ah
 |.or a b,r,S=>bnd (ak a r S) λx S1=>match x with
  |.bl av=>fz (.bl av) S1|.bl aS=>ak b r S1|_=>ah
 |.ite c a b,r,S=>bnd (bu c r S) λt S1=>if t then ak a r S1 else ak b r S1|.call f as,r,S=>bnd (aG as r S) λds S1=>cl f ds S1|.bi f as,r,S=>bnd (aG as r S) λds S1=>DT f ds S1|.tup as,r,S=>bnd (aG as r S) λds S1=>E8 ds S1|.lst mu as,r,S=>bnd (aG as r S) λds S1=>A3 mu ds S1|.ix a b,r,S=>bnd (ak a r S) λx S1=>bnd (ak b r S1) λy S2=>IQ x y S2|.GW a lo,r,S=>bnd (ak a r S) λx S1=>bnd (ak lo r S1) λl S2=>match l with
  |.int i=>slc x (af i) ah S2|_=>ah
 |.DB a hi,r,S=>bnd (ak a r S) λx S1=>bnd (ak hi r S1) λh S2=>match h with
  |.int j=>slc x ah (af j) S2|_=>ah
 |.ED a lo hi,r,S=>bnd (ak a r S) λx S1=>bnd (ak lo r S1) λl S2=>match l with
  |.int i=>bnd (ak hi r S2) λh S3=>match h with
   |.int j=>slc x (af i) (af j) S3|_=>ah
  |_=>ah
 |.comp mu elt tg it ifs n cap,r,S=>bnd (bM it r S) λds S1=>bnd (compLoop (λr S=>ak elt r S) (λr S=>bz ifs r S) tg ds (fM r n cap) S1 []) λes S2=>A3 mu es S2|.col k it,r,S=>bnd (bM it r S) λds S1=>jN k ds S1|.meth m a as,r,S=>bnd (ak a r S) λx S1=>match x with
  |.ref n=>match S1[n]? with
   |some (.lst _)=>bnd (aG as r S1) λds S2=>jE m (.ref n) ds S2|some (.dct _)=>match m with
    |.lI=>bnd (aG as r S1) λds S2=>jh n ds S2|_=>ah
   |_=>ah
  |_=>ah
 |.dct,_,S=>fz (.ref S.length) (S++ [.dct []])|.E7 a,r,S=>bnd (ak a r S) λx S1=>qW x S1|.EX a yes no,r,S=>bnd (ak a r S) λx S1=>lr x yes no S1|.fld c f a,r,S=>bnd (ak a r S) λx S1=>zJ c f x S1|.kD c m f a as,r,S=>bnd (ak a r S) λx S1=>match cU S1 c x with
  |some (_,fs)=>if fs.lookup m=ah then bnd (aG as r S1) λds S2=>cl f (x::ds) S2 else ah|none=>ah
 |.new c f as,r,S=>bnd (aG as r S) λds S1=>bnd (cl f (.ref S1.length::ds) (S1++ [.ins c []])) λv S2=>match v with
  |.non=>fz (.ref S1.length) S2|_=>ah
 |.F6 a as,r,S=>bnd (ak a r S) λx S1=>match x with
  |.ref n=>match S1[n]? with
   |some (.dct _)=>bnd (aG as r S1) λds S2=>mj n ds S2|_=>ah
  |_=>ah
 |.fmt as,r,S=>bnd (iQ (aG as r S)) λds S1=>zH ds S1
def aG:List E->aC->bq->Ev (List D)
 |[],_,S=>fz [] S|e::es,r,S=>bnd (ak e r S) λd S1=>bnd (aG es r S1) λds S2=>fz (d::ds) S2
def bz:List T->aC->bq->Ev Bool
 |[],_,S=>fz av S|e::es,r,S=>bnd (bu e r S) λb S2=>if b then bz es r S2 else fz aS S2
def bu:T->aC->bq->Ev Bool
 |.val e,r,S=>bnd (ak e r S) λx S1=>zG (truth S1 x) S1|.and a b,r,S=>bnd (bu a r S) λt S1=>if t then bu b r S1 else fz aS S1|.or a b,r,S=>bnd (bu a r S) λt S1=>if t then fz av S1 else bu b r S1|.nt a,r,S=>bnd (bu a r S) λt S1=>fz (!t) S1
def bM:It->aC->bq->Ev (List D)
 |.seq e,r,S=>bnd (ak e r S) λx S1=>match x with
  |.tup ds=>fz ds S1|.lst ds=>fz ds S1|.AN ns=>fz (ns.map .int) S1|_=>ah
 |.snap e,r,S=>bnd (ak e r S) λx S1=>match bB S1 x with
  |some ds=>fz ds S1|none=>ah
 |.live e,r,S=>bnd (ak e r S) λx S1=>match x with
  |.lst ds=>fz ds S1|.tup ds=>match bf ds with
   |some _=>fz ds S1|none=>ah
  |.ref k=>match S1[k]? with
   |some (.lst ds)=>fz ds S1|some (.dct kvs)=>fz (kvs.map λp=>sQ p.1) S1|_=>ah
  |_=>ah
 |.lP b,r,S=>bnd (ak b r S) λy S1=>match y with
  |.int j=>if -(2^62)<=j/\j<2^62 then fz (cA 0 j) S1 else ah|_=>ah
 |.A9 e,r,S=>bnd (ak e r S) λx S1=>match x with
  |.tup ds=>fz (ji ds) S1|_=>ah
end
def AZ(x:Option Fl)(k:aC->bq->Option Fl):Option Fl:=match x with
 |some (.next r S)=>k r S|x=>x
def BE(x:Option Fl)(k:aC->bq->Option Fl):Option Fl:=match x with
 |some (.next r S)=>k r S|some (.cont r S)=>k r S|some (.brk r S)=>af (.next r S)|x=>x
def forLoop(f:aC->bq->Option Fl)(tg:Tg):List D->aC->bq->Option Fl
 |[],r,S=>af (.next r S)|d::ds,r,S=>match cz tg d r with
  |none=>ah|some r'=>BE (f r' S) λr S=>forLoop f tg ds r S
open Classical in
def eZ(f:aC->bq->Option Fl)(tg:Tg)(k:Nat)(all:List D):List D->aC->bq->Option Fl
 |[],r,S=>af (.next r S)|d::ds,r,S=>match cz tg d r with
  |none=>ah|some r'=>BE (f r' S) λr S=>if S[k]?=af (.lst all)then eZ f tg k all ds r S else ah
def G0(k:Nat)(S:bq):Option bq:=match S[k]? with
 |some (.x9 kvs)=>af (S.set k (.dct kvs))|_=>ah
def gC(k:Nat)(x:Option Fl):Option Fl:=match x with
 |some (.next r S)=>(G0 k S).map λS'=> .next r S'|some (.ret d S)=>(G0 k S).map λS'=> .ret d S'|_=>ah
def fN{α:Type}(x:Ev α)(r:aC)(k:α->bq->Option Fl):Option Fl:=match x with
 |none=>ah|some (.exc c S)=>af (.exc c r S)|some (.ok a S)=>k a S
mutual
def runC:C->aC->bq->Option Fl
 |.asg t e,r,S=>fN (ak cl e r S) r λd S1=>match cz t d r with
  |some r'=>af (.next r' S1)|none=>ah
 |.sub o i v,r,S=>fN (ak cl v r S) r λd S1=>fN (ak cl o r S1) r λa S2=>fN (ak cl i r S2) r λb S3=>match putAt a b d S3 with
  |some S4=>af (.next r S4)|none=>ah
 |.ex e,r,S=>fN (ak cl e r S) r λ_ S1=>af (.next r S1)|.cond e a b,r,S=>fN (bu cl e r S) r λt S1=>if t then eS a r S1 else eS b r S1|.fr t it a,r,S=>fN (bM cl it r S) r λds S1=>forLoop (λr S=>eS a r S) t ds r S1|.CB t e a,r,S=>fN (ak cl e r S) r λx S1=>match x with
  |.ref k=>match S1[k]? with
   |some (.dct kvs)=>gC k (forLoop (λr S=>eS a r S) t (kvs.map λp=>sQ p.1) r (S1.set k (.x9 kvs)))|some (.lst ds)=>eZ (λr S=>eS a r S) t k ds ds r S1|_=>ah
  |_=>ah
 |.ret e,r,S=>fN (ak cl e r S) r λd S1=>af (.ret d S1)|.GY,_,S=>af (.ret .non S)|.brk,r,S=>af (.brk r S)|.cont,r,S=>af (.cont r S)|.pass,r,S=>af (.next r S)|.raise c as,r,S=>fN (aG cl as r S) r λ_ S1=>af (.exc c r S1)|.fset c f o v,r,S=>fN (ak cl v r S) r λd S1=>fN (ak cl o r S1) r λx S2=>match cU S2 c x with
  |some (k,fs)=>if fs.length<1000 then af (.next r (S2.set k (.ins c (cO f d fs))))else ah|none=>ah
 |.no,_,_=>ah|.tr a cs nm h,r,S=>match eS a r S with
  |some (.exc c r1 S1)=>if c∈cs then jX nm (eS h (gR nm c r1) S1)else ah|x=>x
def eS:List C->aC->bq->Option Fl
 |[],r,S=>af (.next r S)|c::cs,r,S=>AZ (runC c r S) λr S=>eS cs r S
end
end
structure xA where
 np:Nat
 nn:Nat
 body:List C
def oj(n:Nat):D->Prop
 |.tup ds=>clos n ds|.lst ds=>clos n ds|.ref k=>k<n|_=>True
where clos (n:Nat):List D->Prop
 |[]=>True|d::ds=>oj n d/\clos n ds
def uA(n:Nat):SO->Prop
 |.lst ds=>oj.clos n ds|.dct kvs=>∀p∈kvs,oj n p.2|.ins _ fs=>∀p∈fs,oj n p.2|.x9 kvs=>∀p∈kvs,oj n p.2
open Classical in
def trim(S:bq)(d:D)(S':bq):Ev D:=
 if S'.take S.length=S/\oj S.length d then af (.ok d S)
 else if(∀o∈S'.take S.length,uA S.length o)/\oj S.length d then af (.ok d (S'.take S.length))
 else match d with
  |.ref k=>match S'[k]? with
   |some (.lst ds)=>if S'.take S.length=S/\S.length<=k/\oj S.length (.lst ds)then af (.ok (.lst ds) S)else af (.ok d S')|_=>af (.ok d S')
  |_=>af (.ok d S')
open Classical in
def fO(S:bq):Option Fl->Ev D
 |some (.ret d S')=>trim S d S'|some (.next _ S')=>trim S .non S'|some (.exc c _ S')=>if S'.take S.length=S then af (.exc c S)else af (.exc c S')|_=>ah
def ao(fns:List xA):Nat->Nat->List D->bq->Ev D
 |0,_,_,_=>ah|k+1,f,as,S=>match fns[f]? with
  |none=>ah|some fs=>if as.length=fs.np then fO S (eS (ao fns k) fs.body (as.map af++bE (fs.nn - as.length) ah) S)else ah
end RK
namespace RK
open PySem
abbrev nQ(l:List Env):List Addr:=l.filterMap (·.frame)
def lu(h:cK)(e:ay)(cls:ai)(t:Option ay):Prop:=∃oe vs,h.get? e=af oe/\oe.cls=cls/\oe.dict=ah/\oe.data= .fields vs/\1<vs.size/\match t with
 |none=>vs[1]?=af .none|some T=>vs[1]?=af (.ref T)/\T≠e/\∃oT ts,h.get? T=af oT/\oT.data= .fields ts/\ts[3]?=af .none
def Cp(o:Obj)(f:Array ai->Array ai):(Obj.mapFields f o).dict=o.dict:=by obtain⟨c,d,dt,sl⟩:=o;cases dt<;>rfl
section
variable{M:Model}{A:cy}{E:ai->aE->Prop}{s:aE}
def entry_all{base:cK}{env:Env}{outer:List Env}{L e:ay}{oe:Obj}{vs:Array ai}{head:ai}{hadNext:Bool}{Q:Unit->aE->Prop}(hfr:A.frames=af (env::outer))(hl:s.heap.FunFrames base (env::outer))(hf:env.frame=af L)(he:s.heap.get? e=af oe)(hdn:oe.dict=ah)(hd:oe.data= .fields vs)(hsz:1<vs.size)(h:∀h' T,s.heap.get? T=ah->lu h' e oe.cls (af T)->(∀b o,s.heap.get? b=af o->b≠e->b∉nQ (env::outer)->h'.get? b=af o)->(∀b o,s.heap.get? b=af o->b∈nQ (env::outer)->∃sl,h'.get? b=af {o with slots:=sl})->Q () {s with heap:=h'}):
  bg M A (do let a ←frameOf env;let pl ←entryPlaceOf L hadNext;let b ←EntryCells.newEntry head a .none (rawInt L) .none pl;setField (.ref e) 1 b) (λ_ s'=>bg M A (setFlight (.ref e) ah) Q E s') E s:=by
 have hne:∀b∈nQ (env::outer),b≠e:=λb hb q=>by
  obtain⟨_,o,ho,hnf⟩:=hl.mem hb
  simp_all
 refine My (wpAny_frameOf_fun hfr hl hf λg1 x1=>My (wpAny_entryPlaceOf λpl hpl=>?_));unfold EntryCells.newEntry newFields;refine My (VF ?_ (hpl.sizeOk5 _ _ _ _ _));have e1:g1.get? e=af oe:=(x1.2.1 e λz=>hne e z rfl).trans he;obtain⟨oT,N3⟩:∃oT:Obj,oT={cls:= .type "traceback",dict:=ah,data:= .fields ([head,.ref L,.none,rawInt L,.none]++(if pl.isEmpty then bE 6 Value.none else pl)).toArray}:=⟨_,rfl⟩
 have hdT:oT.data= .fields ([head,.ref L,.none,rawInt L,.none]++(if pl.isEmpty then bE 6 Value.none else pl)).toArray:=by rw[N3]
 show bg M A (setField (.ref e) 1 (.ref g1.objs.size)) _ _ {s with heap:=g1.push {cls:= .type "traceback",dict:=ah,data:= .fields ([head,.ref L,.none,rawInt L,.none]++(if pl.isEmpty then bE 6 Value.none else pl)).toArray}};rw[←N3];have nT:g1.objs.size≠e:=VP (U4 e1);have e2:(g1.push oT).get? e=af oe:=Uv _ e1;refine W6 e2 hd hsz ?_;have d3:=Wv hd (·.setIfInBounds 1 (Value.ref g1.objs.size));have e3:=Wd (Obj.mapFields (·.setIfInBounds 1 (Value.ref g1.objs.size))) e2 (WQ d3);have t3:((g1.push oT).update e (Obj.mapFields (·.setIfInBounds 1 (Value.ref g1.objs.size)))).get? g1.objs.size=af oT:=
  (Ve _ _ (Ne.symm nT)).trans (UW g1 (by rw[N3];rfl))
 unfold setFlight;refine My (Vs e3 d3 (x:= .ref g1.objs.size) (by simp[hsz]) ?_);rw[if_pos (show(Value.ref g1.objs.size !=Value.none)=av from by simp)];have z3:3<([head,.ref L,.none,rawInt L,.none]++(if pl.isEmpty then bE 6 Value.none else pl)).toArray.size:=by simp only[Vr,Vh,U5,Vj];lia
 refine W6 t3 hdT z3 (h _ g1.objs.size ?_ ?_ (λb o hb hbe hbf=>?_) λb o hb hbf=>?_)
 ·cases q:s.heap.get? g1.objs.size with|none=>rfl|some o=>exact absurd (U4 q) (by rw[x1.1];lia)
 ·refine⟨_,_,(Ve _ _ nT).trans e3,Obj.cls_mapFields _ _,(Cp _ _).trans hdn,d3,by simpa using hsz,by simp[hsz],nT,_,_,Wd _ t3 (WQ (Wv hdT _)),Wv hdT _,?_⟩;rfl
 ·have h1:g1.get? b=af o:=(x1.2.1 b hbf).trans hb;have nb:g1.objs.size≠b:=VP (U4 h1);rw[Ve _ _ nb,Ve _ _ (Ne.symm hbe)];exact Uv _ h1
 ·obtain⟨sl,h1⟩:=x1.2.2 b o hb;have nb:g1.objs.size≠b:=VP (U4 h1);refine⟨sl,?_⟩;rw[Ve _ _ nb,Ve _ _ (Ne.symm (hne b hbf))];exact Uv _ h1
theorem land{base:cK}{env:Env}{outer:List Env}{L e:ay}{cls:ai}{t:Option ay}{Q:Unit->aE->Prop}(hfr:A.frames=af (env::outer))(hl:s.heap.FunFrames base (env::outer))(hf:env.frame=af L)(x:lu s.heap e cls t)(h:∀h' T,s.heap.get? T=ah->lu h' e cls (af T)->(∀b o,s.heap.get? b=af o->b≠e->t≠af b->b∉nQ (env::outer)->h'.get? b=af o)->(∀b o,s.heap.get? b=af o->b∈nQ (env::outer)->∃sl,h'.get? b=af {o with slots:=sl})->Q () {s with heap:=h'}):
  bg M A (noteFrame (.ref e) env) (λ_ s'=>bg M A (setFlight (.ref e) ah) Q E s') E s:=by
 obtain⟨oe,vs,he,hc,hdn,hd,hsz,ht⟩:=x;subst hc;unfold noteFrame;simp only[hf];cases t with
 |none=>refine My (Vs he hd ht ?_);rw[if_neg (by decide)];exact entry_all hfr hl hf he hdn hd hsz λh' T n a k sl=>h h' T n a (λb o hb hbe _ hbf=>k b o hb hbe hbf) sl|some T=>
  obtain⟨h1,nT,oT,ts,hT,hdT,h3⟩:=ht;refine My (Vs he hd h1 ?_);rw[if_pos (show(Value.ref T !=Value.none)=av from by simp)];refine My (Vs hT hdT h3 ?_);rw[if_neg (show ¬((Value.none==rawInt L)=av)from by simp[rawInt])];refine My (W6 hT hdT (Array.getElem?_eq_some_iff.mp h3).1 ?_);have other:∀b,b≠T->(s.heap.update T (Obj.mapFields (·.setIfInBounds 3 Value.none))).get? b=s.heap.get? b:=λb hb=>Ve _ _ (Ne.symm hb);have TU:∀b∈nQ (env::outer),b≠T:=λb hb q=>by
   obtain⟨_,o,ho,hnf⟩:=hl.mem hb
   simp_all
  have hl':(s.heap.update T (Obj.mapFields (·.setIfInBounds 3 Value.none))).FunFrames base (env::outer):=hl.of_keeps λb o hb hnf=>⟨o,(other b λq=>by simp_all).trans hb,rfl⟩
  refine entry_all (s:={s with heap:=s.heap.update T (Obj.mapFields (·.setIfInBounds 3 Value.none))}) hfr hl' hf ((other e (Ne.symm nT)).trans he) hdn hd hsz λh' T' n a k sl=>h h' T' ?_ a (λb o hb hbe hbt hbf=>?_) λb o hb hbf=>?_
  ·by_cases q:T'=T
   ·subst q;have:=Wd (Obj.mapFields (·.setIfInBounds 3 Value.none)) hT (WQ (Wv hdT _));lia
   simp_all
  ·exact k b o ((other b λq=>hbt (by rw[q])).trans hb) hbe hbf
  ·exact sl b o ((other b (TU b hbf)).trans hb) hbf
end
end RK
namespace RK
open PySem L2 PySem.SeqAt PySem.Spec
section
variable{P:bX}{w:ck}{H:Hp}{h:cK}{a:ay}{o:HO}
theorem Rv(x:bG P w H h a o):∃u,h.get? a=af u:=by
 cases o with
 |lst xs=>obtain⟨_,_,_,_,e⟩:=x;exact⟨_,e⟩
 |tup xs=>obtain⟨_,_,_,_,o,e,_⟩:=x;exact⟨o,e⟩
 |dK kvs=>obtain⟨_,_,_,_,o,_,_,e,_⟩:=x;exact⟨_,e⟩
 |dT kvs=>obtain⟨_,_,_,_,o,_,_,e,_⟩:=x;exact⟨_,e⟩
 |set S n=>obtain⟨o,_,_,_,e,_⟩:=x;exact⟨_,e⟩
 |ins C dx fs=>obtain⟨_,_,_,e,_⟩:=x;exact⟨_,e⟩
 |own y=>exact x|xd fs=>obtain⟨_,⟨_,_,_,e,_⟩,_⟩:=x;exact⟨_,e⟩
 |A8 lo hi=>obtain⟨_,_,_,e⟩:=x;exact⟨_,e⟩
 |sP ob u=>obtain⟨e,_⟩:=x;exact⟨_,e⟩
 |FO ps=>exact⟨_,(show h.get? a=af _ from x)⟩|met f y=>exact⟨_,(show h.get? a=af _ from x)⟩|ext φ=>obtain⟨_,e,_⟩:=x;exact e
theorem Cq(x:zC P w H h)(e:h.get? a=ah):H a=none:=by
 cases q:H a with
 |none=>rfl|some u=>obtain⟨v,z⟩:=Rv (x a u q);lia
end
structure Co(X:Cx)(pins:List (ay×Obj))(H:Hp)(b:ay):Prop where
 non:H b=ah
 loc:b≠X.env.locals
 QO:b∉X.fs
 new:b∈X.ex\/X.s₀.heap.get? b=ah
 EZ:∀x c,X.env.cells.lookup x=af c->c≠b
 MV:∀p∈X.pn++pins,p.1≠b
section
variable{X:Cx}{pins:List (ay×Obj)}{σ:St}{H H':Hp}{s s':aE}{h':cK}
def nR(I:Inv X pins σ H s){b:ay}(hb:s.heap.get? b=ah)(hn:H' b=ah):Co X pins H' b where
 non:=hn
 loc:=λz=>by obtain⟨m,⟨o,_,_,e,_⟩,_⟩:=I.loc;lia
 QO:=λz=>by obtain⟨_,o,e,_⟩:=I.AJ.mem z;lia
 new:=by
  by_cases q:b∈X.ex
  ·exact .inl q
  ·refine .inr ?_;cases e:X.s₀.heap.get? b with
   |none=>rfl|some o=>obtain⟨o',e'⟩:=I.base.there b o e q;lia
 EZ:=λx c e z=>by obtain⟨v,o,q,_⟩:=I.cell x c e;lia
 MV:=λp hp z=>by have q:=(I.pin p hp).1;lia
def xx{ch:List ay}(I:Inv X pins σ H s)(hch:∀b∈ch,Co X pins H b)(keep:∀b o,s.heap.get? b=af o->b∉ch->b∉frs X.stack->h'.get? b=af o)(slot:∀b o,s.heap.get? b=af o->b∈frs X.stack->∃sl,h'.get? b=af {o with slots:=sl}):Inv X pins σ H {s with heap:=h'}:=by
 have hok:zC X.prog X.w H h':=λb u e=>(I.hok b u e).stay (λc v hc q=>by
  have hH:H c≠none:=by
   rcases hc with z|z
   ·lia
   ·rw[z];simp
  exact keep c v q (λz=>hH (hch c z).non) λz=>hH (I.BQ c z)) (λ_ q=>q) λ_ _ q=>q
 have any:∀b o,s.heap.get? b=af o->b∉ch->∃sl,h'.get? b=af {o with slots:=sl}:=λb o q hb=>by
  by_cases hf:b∈frs X.stack
  ·exact slot b o q hf
  ·exact⟨o.slots,keep b o q hb hf⟩
 have QU:∀b,b≠X.env.locals->b∉X.fs->b∉frs X.stack:=λb h1 h2 z=>(UJ.mp (I.AS b z)).elim h1 h2;have MH:∀b o,X.s₀.heap.get? b=af o->b≠X.env.locals:=λb o e=>Vb (Vf (U4 e) I.ok.above);have F0:∀b o,X.s₀.heap.get? b=af o->b∉X.ex->b∉ch:=λb o e hx hb=>by
  rcases(hch b hb).new with z|z
  ·exact hx z
  lia
 have EZ:∀x c,X.env.cells.lookup x=af c->∀v,s.heap.IsCell c v->h'.IsCell c v:=λx c e v ⟨o,ho,hd⟩=>by obtain⟨sl,q⟩:=any c o ho λz=>(hch c z).EZ x c e rfl;exact⟨_,q,hd⟩
 refine⟨I.ok,I.os,I.bare,⟨λb o e n hb hx=>?_,λb o e n hb hx=>?_,I.base.free,λb o e hx=>?_,I.base.tups,I.base.qk,I.base.AR⟩,?_,λx c e=>?_,I.free,I.rV,λp hp=>?_,hok,I.len⟩
 ·exact keep b o (I.base.keep b o e n hb hx) (F0 b o e hx) (QU b (MH b o e) hb)
 ·obtain⟨sl,e1⟩:=I.base.slot b o e n hb hx;obtain⟨sl',e2⟩:=any b _ e1 (F0 b o e hx)
  grind
 ·obtain⟨o',e1⟩:=I.base.there b o e hx;obtain⟨sl,e2⟩:=any b o' e1 (F0 b o e hx)
  grind
 ·obtain⟨m,⟨o,es,ep,ho,r⟩,hl⟩:=I.loc;obtain⟨sl,hL⟩:=any _ o ho λz=>(hch _ z).loc rfl;refine⟨m,⟨_,es,ep,hL,r⟩,λi x v e1 e2 e3=>?_⟩;obtain⟨u,r,l⟩:=hl i x v e1 e2 e3;refine⟨u,r,?_⟩;rcases l with l|⟨k,c,e,z⟩
  ·exact .inl l
  ·exact .inr ⟨k,c,e,EZ x c e _ z⟩
 ·obtain⟨v,z⟩:=I.cell x c e;exact⟨v,EZ x c e v z⟩
 ·obtain⟨e,n,ne,nf,d⟩:=I.pin p hp;exact⟨keep p.1 p.2 e (λz=>(hch _ z).MV p hp rfl) (QU _ ne nf),n,ne,nf,d⟩
def bN(X:Cx)(pins:List (ay×Obj))(H:Hp)(o:Option ay)(e:ai)(s:aE):Prop:=
 ∃a t C,e= .ref a/\o=af C/\lu s.heap a (.ref C) t/\Co X pins H a/\∀T,t=af T->Co X pins H T
def landed{M:Model}{E:ai->aE->Prop}{o:Option ay}{e:ai}{Q:Unit->aE->Prop}(I:Inv X pins σ H s)(hs:X.stack=X.env::X.outer)(hf:X.env.frame=af X.env.locals)(x:bN X pins H o e s)(h:∀h',Inv X pins σ H {s with heap:=h'}->bN X pins H o e {s with heap:=h'}->Q () {s with heap:=h'}):
  bg M X.A (noteFrame e X.env) (λ_ s'=>bg M X.A (setFlight e ah) Q E s') E s:=by
 obtain⟨a,t,C,rfl,rfl,al,oa,ot⟩:=x;have hfr:=I.ok.frames;have hst:=I.stack;rw[hs]at hfr hst;refine land hfr hst hf al λh' T n al' keep slot=>h h' (xx I (ch:=a::t.toList) (λb hb=>?_) (λb o hb hc hf=>?_) λb o hb hf=>?_) ⟨a,af T,C,rfl,rfl,al',oa,λT' e=>?_⟩
 ·rcases UJ.mp hb with z|z
  ·exact z▸oa
  simp_all
 ·refine keep b o hb (λz=>hc (by rw[z];simp)) (λz=>hc (by rw[z];simp)) ?_;rw[hs]at hf;exact hf
 ·rw[hs]at hf;exact slot b o hb hf
 ·have e:T=T':=Ux e;subst e;exact nR I n (Cq I.hok n)
end
def A0(P:bX)(w:ck):EV:=λouter H s E e s'=>∃a t C H',e= .ref a/\lu s'.heap a (.ref C) t/\s.heap.get? a=ah/\(∀T,t=af T->s.heap.get? T=ah/\H' T=ah)/\H' a=ah/\
 s'.os=s.os/\PyProof.Rows.AllBare s'.gens/\Un (frs outer) [] H H' s.heap s'.heap/\zC P w H' s'.heap/\E e (af C) H'
section
variable{X:Cx}{pins:List (ay×Obj)}{σ:St}{H H':Hp}{s s':aE}
def mq{E:XK}{e:ai}(I:Inv X pins σ H s)(h:A0 X.prog X.w X.stack H s E e s'):∃o H',Inv X pins σ H' s'/\bN X pins H' o e s'/\E e o H':=by obtain⟨a,t,C,H',rfl,al,na,nt,ha,ho,hg,un,hok,q⟩:=h;exact⟨af C,H',I.F4 (ch:=[]) ho un hok hg (λb z=>nomatch z),⟨a,t,C,rfl,rfl,al,nR I na ha,λT e=>nR I (nt T e).1 (nt T e).2⟩,q⟩
end
def GX{P:bX}{w:ck}{K:aI}{mg:Str->Option ai}{base:cK}{N:List Str}{qual:Str}{scope:Scope}{f:ay}{cd:ai}{A:cy}{outer:List Env}{s s':aE}{H H':Hp}{E:XK}{pins:List (ay×Obj)}{σ:St}{o:Option ay}{e:ai}(I:Inv (jo (A0 P w) P w K mg base N qual scope f cd A outer s H E) pins σ H' s')(x:bN (jo (A0 P w) P w K mg base N qual scope f cd A outer s H E) pins H' o e s')(hE:E e o H'):
  (jo (A0 P w) P w K mg base N qual scope f cd A outer s H E).xe e s':=by
 show bg (model P w) _ (leaving _ e) _ _ s';unfold leaving;refine My (landed I rfl rfl x λh' J y=>?_);obtain⟨a,t,C,rfl,rfl,al,oa,ot⟩:=y;have new:∀b,Co (jo (A0 P w) P w K mg base N qual scope f cd A outer s H E) pins H' b->s.heap.get? b=none:=λb z=>z.new.elim (λq=>absurd (show b∈([]:List ay)from q) (by simp)) λq=>q;exact⟨a,t,C,H',rfl,al,new a oa,λT e=>⟨new T (ot T e),(ot T e).non⟩,oa.non,J.os,J.bare,J.base,J.hok,hE⟩
def fX(a C:ay):cK->Prop:=λh=>∃o vs,h.get? a=af o/\o.cls= .ref C/\o.dict=ah/\o.data= .fields vs
structure xw(K:aI)(C:ay):Prop where
 g1:eB K (.ref C) "__getattribute__" =af (af (.builtin "BaseException.__getattribute__"))
 g2:eB K (.ref C) "__getattr__" =af ah
 g3:eT K (.ref C) (.type "BaseException")=af av
 c2:eB K (.ref C) "__class__" =af (af (.builtin "object.__class__"))
 c3:PySem.W.specialIn K (.builtin "object.__class__") "__get__" =af (af (.builtin "getset_descriptor.__get__"))
 c4:PySem.W.takesIn K (.builtin "object.__class__")=af av
 c5:yv K C (.type "object")=af av
theorem xw.cls{K:aI}{C:ay}(x:xw K C):∃cls dict cd sl,K.lookup C=af ⟨cls,dict,.cls cd,sl⟩:=by
 have h:=x.c5;unfold yv gS at h;cases e:K.lookup C with
 |none=>simp_all|some o=>
  rw[e]at h;obtain⟨c,d,dt,sl⟩:=o;cases dt with|cls cd=>lia|_=>cases h
def fX.inst{a C:ay}{h:cK}(x:fX a C h):∃o,iO h a o C none:=by
 obtain⟨o,vs,h1,h2,h3,h4⟩:=x;refine⟨o,h1,h2,?_,?_⟩
 ·unfold PySem.W.notCls;rw[h4]
 ·rw[h3];trivial
def zK{K:aI}{M:Model}{h:cK}{a C:ay}{o:Obj}(KX:K.In h)(i:iO h a o C ah)(g:eT K (.ref C) (.type "BaseException")=af av):yT M h (isInstance (.ref a) (.type "BaseException")) true:=by intro A Q E s hk q;unfold isInstance;exact My (i.type A _ E s hk (PySem.W.looks_subIn KX g A _ E s hk q))
def Cr{K:aI}{M:Model}{A:cy}{E:ai->aE->Prop}{s:aE}{a C:ay}{o:Obj}{v:ai}{Q:Unit->aE->Prop}(KX:K.In s.heap)(i:iO s.heap a o C ah)(g:eT K (.ref C) (.type "BaseException")=af av)(q:Q () s):bg M A (checkBuiltinCall "BaseException.__getattribute__" {pos:=[.ref a,v]}) Q E s:=by have hk:builtinKind "BaseException.__getattribute__" =af Manifest.AttrKind.slot:=rfl;have hsp:splitId "BaseException.__getattribute__" =af ("BaseException", "__getattribute__"):=rfl;have ha:=F.args_bexc_ga (.ref a) v;have hi:yT M s.heap (isInstance (.ref a) (.type "BaseException")) true:=zK KX i g;exact @PySem.W.check_slot M A E s "BaseException.__getattribute__" "BaseException" "__getattribute__" (.ref a) [v] [] Q hk hsp hi ha q
def uB{K:aI}{a C:ay}{o:Obj}{prog:bX}{w:ck}{A:cy}{E:ai->aE->Prop}{Q:Option ai->aE->Prop}{s:aE}(x:xw K C)(KX:K.In s.heap)(i:iO s.heap a o C ah)(hf:pS K C ah "__class__" =af (Builtin.ObjectAttr.Found.bind (.builtin "getset_descriptor.__get__") (.builtin "object.__class__")))(hq:Q (af (.ref C)) {s with toks:=s.toks+1}):bg (model prog w) A (getAttr? (.ref a) "__class__") Q E s:=by
 unfold getAttr?;refine My (wpAny_mkText ?_);unfold getAttrBy?;refine My (Xf ?_);unfold getAttrBy;refine VB (My (i.type _ _ _ _ (λ_ _ q=>q) ?_));refine My (jS KX x.g1 _ _ _ _ (λ_ _ q=>q) ?_);show bg (model prog w) A (if(onTheHeap (.ref C) && (Value.builtin "BaseException.__getattribute__" ==Value.builtin "object.__getattribute__"))=av then _ else _) _ _ _;rw[if_neg (by lia)];unfold getAttrByItsOwn;refine My ?_;unfold hookBefore;rw[if_pos (by rfl)];refine jS KX x.g2 _ _ _ _ (λ_ _ q=>q) ?_;refine My (Xf (VB ?_));unfold callGetattribute;rw[if_neg (by simp)];unfold boundAndCalled;have hb:bindSpecial (.builtin "BaseException.__getattribute__") (.ref a)=pure (.builtin "BaseException.__getattribute__",[.ref a]):=rfl;rw[hb];refine My (Uw ?_);have hk:builtinKind "BaseException.__getattribute__" =af Manifest.AttrKind.slot:=rfl;have hsp:splitId "BaseException.__getattribute__" =af ("BaseException", "__getattribute__"):=rfl;have hpl:plainId "BaseException.__getattribute__" =true:=by decide+kernel
 refine wpAny_call (codeAny_call_builtin hpl F.entry_bexc_ga (Cr KX i x.g3 ?_));unfold Builtin.«object.__getattribute__»;refine My ?_;show bg (model prog w) A.in1 (pure (Value.ref a,[Value.str "__class__" s.toks])) _ _ _;refine Uw ?_;refine My ?_;show bg (model prog w) A.in1 (pure ("__class__" :Str)) _ _ _;refine Uw ?_;refine My (i.type _ _ _ _ (λ_ _ q=>q) ?_);refine My (PySem.W.looks_find KX i hf _ _ _ _ (λ_ _ q=>q) ?_);show bg (model prog w) A.in1 (Builtin.ObjectAttr.bindTo (.builtin "getset_descriptor.__get__") (.builtin "object.__class__") (.ref a) (.ref C)) _ _ _;unfold Builtin.ObjectAttr.bindTo;show bg (model prog w) A.in1 (do let v ←holding [Value.builtin "object.__class__"] (call (.builtin "getset_descriptor.__get__") [.builtin "object.__class__",.ref a,.ref C]);ret v) _ _ _;refine My (VB (wpAny_call (PySem.W.class_get KX i x.c5 ?_)));refine Uw ?_;show bg (model prog w) A (handedOut (.ref C)) _ _ _;rw[PySem.W.handedOut_of (v:= .ref C) rfl];exact Uw (Uw hq)
def uC{K:aI}{a C:ay}(x:xw K C):PySem.W.KitX K (.ref a) (.ref C) (fX a C)where
 ty:=λM h KX e=>by obtain⟨o,i⟩:=e.inst;exact i.type
 it:=λM h KX e=>by obtain⟨c,d,cd,sl,l⟩:=x.cls;intro A Q E s hk q;obtain⟨sh,sg,sd,st,so⟩:=s;exact ks_wpAny_isType_cls (hk _ _ (KX _ _ l)) rfl q
 ne:=λh tp dd its n sl KX e=>by obtain⟨c,d,cd,sl',l⟩:=x.cls;have q:=KX _ _ l;lia
 ca:=λ{prog w A E Q s} KX e hq=>by
  obtain⟨o,i⟩:=e.inst;have hc:(gS K C).isSome=true:=by obtain⟨c,d,cd,sl,l⟩:=x.cls;unfold gS;rw[l];rfl
  have hf:pS K C ah "__class__" =af (Builtin.ObjectAttr.Found.bind (.builtin "getset_descriptor.__get__") (.builtin "object.__class__")):=by obtain⟨cd,hcd⟩:=Vk.mp hc;unfold pS;rw[hcd,x.c2];simp only[n5,x.c3,x.c4]
  exact uB x KX i hf hq
section
variable{X:Cx}{pins:List (ay×Obj)}{σ:St}{H:Hp}{s:aE}{h':cK}
def Lm{a:ay}{o:HO}(I:Inv X pins σ H s)(x:Co X pins H a)(q:bG X.prog X.w (upd H a o) s.heap a o)(no:∀y,o≠ .own y):Inv X pins σ (upd H a o) s:=by
 have ne:∀b u,H b=af u->b≠a:=λb u e z=>by rw[z,x.non]at e;cases e
 refine⟨I.ok,I.os,I.bare,⟨I.base.keep,I.base.slot,λb ob e n hx=>?_,I.base.there,λb xs e=>?_,λb ob u e=>?_,λb ps e=>?_⟩,I.loc,I.cell,?_,λy c e=>?_,λp hp=>?_,λb u e=>?_,I.len⟩
 ·rw[aB λz=>?_]
  ·exact I.base.free b ob e n hx
  ·rcases x.new with y|y
   ·lia
   lia
 ·have:=I.base.tups b xs e;rw[aB (ne b _ this)];exact this
 ·have:=I.base.qk b ob u e;rw[aB (ne b _ this)];exact this
 ·obtain⟨more,this⟩:=I.base.AR b ps e;exact⟨more,by rw[aB (ne b _ this)];exact this⟩
 ·rw[aB (Ne.symm x.loc)];exact I.free
 ·rw[aB (x.EZ y c e)];exact I.rV y c e
 ·obtain⟨e,n,r⟩:=I.pin p hp;exact⟨e,by rw[aB (x.MV p hp)];exact n,r⟩
 ·by_cases z:b=a
  ·subst z;rw[bj]at e;lia
  ·rw[aB z]at e;exact(I.hok b u e).stay (λ_ _ _ r=>r) (λc r=>by rw[aB (ne c _ r)];exact r) λc xs r=>by rw[aB (ne c _ r)];exact r
theorem xF{M:Model}{A:cy}{E:ai->aE->Prop}{o:Option ay}{e:ai}{Q:Unit->aE->Prop}(I:Inv X pins σ H s)(x:bN X pins H o e s)(h:∀h',Inv X pins σ H {s with heap:=h'}->bN X pins H o e {s with heap:=h'}->Q () {s with heap:=h'}):bg M A (setFlight e ah) Q E s:=by
 obtain⟨a,t,C,rfl,rfl,al,oa,ot⟩:=x;obtain⟨oe,vs,he,hc,hdn,hd,hsz,ht⟩:=id al;unfold setFlight;cases t with
 |none=>refine My (Vs he hd ht ?_);rw[if_neg (by decide)];exact Uw (h s.heap I ⟨a,ah,C,rfl,rfl,al,oa,ot⟩)|some T=>
  obtain⟨h1,nT,oT,ts,hT,hdT,h3⟩:=ht;refine My (Vs he hd h1 ?_);rw[if_pos (show(Value.ref T !=Value.none)=av from by simp)];refine W6 hT hdT (Array.getElem?_eq_some_iff.mp h3).1 ?_;have dT:=Wv hdT (·.setIfInBounds 3 (Value.none));have t3:=Wd (Obj.mapFields (·.setIfInBounds 3 (Value.none))) hT (WQ dT);have other:∀b,b≠T->(s.heap.update T (Obj.mapFields (·.setIfInBounds 3 Value.none))).get? b=s.heap.get? b:=λb hb=>Ve _ _ (Ne.symm hb);refine h _ (xx I (ch:=[T]) (λb hb=>?_) (λb o hb hc _=>?_) λb o hb hf=>?_) ⟨a,af T,C,rfl,rfl,?_,oa,ot⟩
  ·simp_all
  ·simp_all
  ·refine⟨o.slots,(other b λz=>?_).trans hb⟩;obtain⟨_,o',ho',hnf⟩:=I.stack.mem hf
   simp_all
  ·refine⟨oe,vs,(other a (Ne.symm nT)).trans he,hc,hdn,hd,hsz,h1,nT,_,_,t3,dT,?_⟩;rw[Array.getElem?_setIfInBounds_self,if_pos (Array.getElem?_eq_some_iff.mp h3).1]
def N7{M:Model}{A:cy}{E:ai->aE->Prop}{i:Nat}{n:Str}{v:V}{Q:Unit->aE->Prop}(I:Inv X pins σ H s)(hN:X.N.Nodup)(hi:X.N[i]?=af n)(hx:X.env.scope.names.lookup n=af .local)(hv:σ[i]?=af (af v))(h:∀h',Inv X pins (σ.set i ah) H {s with heap:=h'}->Q () {s with heap:=h'}):bg M A (unbindName X.env n) Q E s:=by
 obtain⟨m,hn,hl⟩:=id I.loc;obtain⟨u,r,l⟩:=hl i n v hi hv (.inl hx);have hk:X.env.kindOf n=af .local:=hx;have hm:m n=af u:=by
  rcases l with l|⟨k,_⟩
  ·exact l.2
  ·lia
 refine wpAny_unbindName_local hk hn hm (by rw[I.ok.kind];rfl) λh' w hns same=>h h' ?_;have kp:∀b,b≠X.env.locals->h'.get? b=s.heap.get? b:=same.2;have nL:∀b o,X.s₀.heap.get? b=af o->b≠X.env.locals:=λb o e=>Vb (Vf (U4 e) I.ok.above);have EZ:∀x c,X.env.cells.lookup x=af c->∀v,s.heap.IsCell c v->h'.IsCell c v:=λx c e v ⟨o,ho,hd⟩=>⟨o,(kp c (I.FY x c e)).trans ho,hd⟩
 refine⟨I.ok,I.os,I.bare,⟨λb o e n hb hx=>?_,λb o e n hb hx=>?_,I.base.free,λb o e hx=>?_,I.base.tups,I.base.qk,I.base.AR⟩,⟨_,hns,λj x v' e1 e2 e3=>?_⟩,λx c e=>?_,I.free,I.rV,λp hp=>?_,λb ob e=>?_,by rw[WR];exact I.len⟩
 ·rw[kp b (nL b o e)];exact I.base.keep b o e n hb hx
 ·rw[kp b (nL b o e)];exact I.base.slot b o e n hb hx
 ·rw[kp b (nL b o e)];exact I.base.there b o e hx
 ·have hij:i≠j:=λz=>by
   subst z;have hil:i<σ.length:=(UL.mp hv).1
   simp_all
  rw[U6 hij]at e2;obtain⟨u',r',l'⟩:=hl j x v' e1 e2 e3;have hxn:x≠n:=λz=>hij ((iF (UL.mp hi).1 hN).mp (by rw[hi,e1,z]));refine⟨u',r',?_⟩;rcases l' with l'|⟨k,c,e,z⟩
  ·exact .inl ⟨l'.1,by lia⟩
  ·exact .inr ⟨k,c,e,EZ x c e _ z⟩
 ·obtain⟨v,z⟩:=I.cell x c e;exact⟨v,EZ x c e v z⟩
 ·obtain⟨e,n,ne,nf,d⟩:=I.pin p hp;exact⟨(kp p.1 ne).trans e,n,ne,nf,d⟩
 ·refine(I.hok b ob e).stay (λc v hc q=>(kp c λz=>?_).trans q) (λ_ q=>q) λ_ _ q=>q;rcases hc with y|y
  ·rw[←y,z,I.free]at e;cases e
  ·rw[z,I.free]at y;cases y
end
end RK
namespace RK
open PySem L2
def jG(K:aI)(H:Hp)(a:ay)(xs:List V):Prop:=
 (∃o,H a=af (.sP o (.lst xs)))\/
  ∃(o:Obj)(its:Array ai)(n:Nat),K.lookup a=af o/\o.cls= .type "list" /\o.dict=ah/\o.data= .seq its n/\its.size<=aT/\Vals xs its.toList
def jG.sq{K:aI}{H:Hp}{a:ay}{xs:List V}(h:jG K H a xs):xy K H a xs:=by
 rcases h with h|h
 ·exact .inl (.inr h)
 ·exact .inr h
mutual
def RD(K:aI)(m:List ay)(H:Hp):D->V->Prop
 |.non,v=>v= .non|.bl b,v=>v= .bl b|.int i,v=>v= .int i|.str x,v=>v= .str x|.tup ds,v=>∃a vs,v= .ref a/\sR K H a vs/\fR K m H ds vs|.lst ds,v=>∃a vs,v= .ref a/\H a=af (.lst vs)/\a∉m/\fR K m H ds vs|.AN ns,v=>∃a,v= .ref a/\jG K H a (ns.map V.int)|.ref k,v=>∃a,v= .ref a/\m[k]?=af a|.B6 c,v=>∃a C,v= .ref a/\bS K mainGlobals c=af (af (.ref C))/\H a=af (.ext (fX a C))|.EC,_=>True
def fR(K:aI)(m:List ay)(H:Hp):List D->List V->Prop
 |[],vs=>vs=[]|d::ds,vs=>∃v r,vs=v::r/\RD K m H d v/\fR K m H ds r
end
structure fq(m m':List ay)(H H':Hp):Prop where
 pre:∃t,m'=m++t
 new:∀a o,H a=af o->a∉m->a∉m'
 tups:∀a xs,H a=af (.tup xs)->H' a=af (.tup xs)
 qk:∀a o u,H a=af (.sP o u)->H' a=af (.sP o u)
 BF:∀a xs,H a=af (.lst xs)->a∉m->H' a=af (.lst xs)
 non:∀a,H' a=Au->H a=Au
 exts:∀a φ,H a=af (.ext φ)->H' a=af (.ext φ)
def fq.refl(m:List ay)(H:Hp):fq m m H H:=⟨⟨[],by simp⟩,λ_ _ _ h=>h,λ_ _ h=>h,λ_ _ _ h=>h,λ_ _ h _=>h,λ_ h=>h,λ_ _ h=>h⟩
def fq.trans{m m1 m2:List ay}{H H1 H2:Hp}(a:fq m m1 H H1)(b:fq m1 m2 H1 H2):fq m m2 H H2 where
 pre:=by obtain⟨t,rfl⟩:=a.pre;obtain⟨u,rfl⟩:=b.pre;simp
 new:=λc o h hm=>by
  have h1:=a.new c o h hm;cases q:H1 c with|none=>rw[a.non c q]at h;cases h|some o'=>exact b.new c o' q h1
 tups:=λc xs h=>b.tups c xs (a.tups c xs h)
 qk:=λc o u h=>b.qk c o u (a.qk c o u h)
 BF:=λc xs h hm=>b.BF c xs (a.BF c xs h hm) (a.new c _ h hm)
 non:=λc h=>a.non c (b.non c h)
 exts:=λc φ h=>b.exts c φ (a.exts c φ h)
structure B7(m m':List ay)(H H':Hp):Prop where
 pre:∃t,m'=m++t
 new:∀a o,H a=af o->a∉m->a∉m'
 tups:∀a xs,H a=af (.tup xs)->H' a=af (.tup xs)
 qk:∀a o u,H a=af (.sP o u)->(∀kvs,u≠ .dK kvs)->H' a=af (.sP o u)
 BF:∀a xs,H a=af (.lst xs)->a∉m->H' a=af (.lst xs)
 exts:∀a φ,H a=af (.ext φ)->H' a=af (.ext φ)
def fq.w{m m':List ay}{H H':Hp}(s:fq m m' H H'):B7 m m' H H':=⟨s.pre,s.new,s.tups,λa o u h _=>s.qk a o u h,s.BF,s.exts⟩
section
variable{K:aI}{m m':List ay}{H H':Hp}
def B7.at(s:B7 m m' H H'){k:Nat}{a:ay}(h:m[k]?=af a):m'[k]?=af a:=by obtain⟨t,rfl⟩:=s.pre;have hk:=(UL.mp h).1;rw[UV hk];exact h
def B7.Lo(s:B7 m m' H H'){a:ay}{vs:List V}(h:sR K H a vs):sR K H' a vs:=by
 rcases h with(h|⟨o,h⟩)|h
 ·exact .inl (.inl (s.tups _ _ h))
 ·exact .inl (.inr ⟨o,s.qk _ _ _ h (λ_ z=>by cases z)⟩)
 ·exact .inr h
def B7.DC(s:B7 m m' H H'){a:ay}{vs:List V}(h:jG K H a vs):jG K H' a vs:=by
 rcases h with⟨o,h⟩|h
 ·exact .inl ⟨o,s.qk _ _ _ h (λ_ z=>by cases z)⟩
 ·exact .inr h
mutual
theorem RD.iE(s:B7 m m' H H'):∀{d:D}{v:V},RD K m H d v->RD K m' H' d v
 |.non,_,h=>h|.bl _,_,h=>h|.int _,_,h=>h|.str _,_,h=>h|.tup ds,_,h=>by obtain⟨a,vs,e,q,r⟩:=h;exact⟨a,vs,e,s.Lo q,fR.iE s r⟩
 |.lst ds,_,h=>by obtain⟨a,vs,e,q,n,r⟩:=h;exact⟨a,vs,e,s.BF _ _ q n,s.new _ _ q n,fR.iE s r⟩
 |.AN ns,_,h=>by obtain⟨a,e,q⟩:=h;exact⟨a,e,s.DC q⟩
 |.ref k,_,h=>by obtain⟨a,e,q⟩:=h;exact⟨a,e,s.at q⟩
 |.B6 c,_,h=>by obtain⟨a,C,e,n,q⟩:=h;exact⟨a,C,e,n,s.exts _ _ q⟩
 |.EC,_,h=>h
theorem fR.iE(s:B7 m m' H H'):∀{ds:List D}{vs:List V},fR K m H ds vs->fR K m' H' ds vs
 |[],_,h=>h|d::ds,_,h=>by obtain⟨v,r,e,q,t⟩:=h;exact⟨v,r,e,RD.iE s q,fR.iE s t⟩
end
theorem fq.at(s:fq m m' H H'){k:Nat}{a:ay}(h:m[k]?=af a):m'[k]?=af a:=s.w.at h
theorem fq.Lo(s:fq m m' H H'){a:ay}{vs:List V}(h:sR K H a vs):sR K H' a vs:=s.w.Lo h
theorem fq.DC(s:fq m m' H H'){a:ay}{vs:List V}(h:jG K H a vs):jG K H' a vs:=s.w.DC h
def RD.step(s:fq m m' H H'){d:D}{v:V}(h:RD K m H d v):RD K m' H' d v:=h.iE s.w
def fR.step(s:fq m m' H H'){ds:List D}{vs:List V}(h:fR K m H ds vs):fR K m' H' ds vs:=h.iE s.w
def fR.nil:fR K m H [] []:=rfl
def fR.cons{d:D}{ds:List D}{v:V}{vs:List V}(h:RD K m H d v)(t:fR K m H ds vs):fR K m H (d::ds) (v::vs):=⟨v,vs,rfl,h,t⟩
def fR.nil_of{vs:List V}(h:fR K m H [] vs):vs=[]:=h
def fR.cons_of{d:D}{ds:List D}{vs:List V}(h:fR K m H (d::ds) vs):∃v r,vs=v::r/\RD K m H d v/\fR K m H ds r:=h
theorem fR.length:∀{ds:List D}{vs:List V},fR K m H ds vs->ds.length=vs.length
 |[],vs,h=>by rw[h.nil_of];rfl|d::ds,vs,h=>by obtain⟨v,r,rfl,_,t⟩:=h.cons_of;simp[fR.length t]
theorem fR.get:∀{ds:List D}{vs:List V}{i:Nat}{d:D},fR K m H ds vs->ds[i]?=af d->∃v,vs[i]?=af v/\RD K m H d v
 |[],vs,i,d,h,e=>by simp at e|x::ds,vs,0,d,h,e=>by
  obtain⟨v,r,rfl,q,t⟩:=h.cons_of
  simp_all
 |x::ds,vs,i+1,d,h,e=>by
  obtain⟨v,r,rfl,q,t⟩:=h.cons_of;obtain⟨u,h1,h2⟩:=fR.get (i:=i) t (by simpa using e)
  simp_all
theorem fR.append:∀{ds es:List D}{vs us:List V},fR K m H ds vs->fR K m H es us->fR K m H (ds++es) (vs++us)
 |[],es,vs,us,h,t=>by rw[h.nil_of];exact t|d::ds,es,vs,us,h,t=>by obtain⟨v,r,rfl,q,u⟩:=h.cons_of;exact .cons q (fR.append u t)
theorem fR.take:∀{ds:List D}{vs:List V}(n:Nat),fR K m H ds vs->fR K m H (ds.take n) (vs.take n)
 |_,_,0,_=>by rfl|[],vs,n+1,h=>by rw[h.nil_of];exact .nil|d::ds,vs,n+1,h=>by obtain⟨v,r,rfl,q,u⟩:=h.cons_of;exact .cons q (fR.take n u)
theorem fR.drop:∀{ds:List D}{vs:List V}(n:Nat),fR K m H ds vs->fR K m H (ds.drop n) (vs.drop n)
 |_,_,0,h=>h|[],vs,n+1,h=>by rw[h.nil_of];exact .nil|d::ds,vs,n+1,h=>by obtain⟨v,r,rfl,q,u⟩:=h.cons_of;exact fR.drop n u
theorem fR.eraseIdx:∀{ds:List D}{vs:List V}(n:Nat),fR K m H ds vs->fR K m H (ds.eraseIdx n) (vs.eraseIdx n)
 |[],vs,n,h=>by rw[h.nil_of];exact .nil|d::ds,vs,0,h=>by obtain⟨v,r,rfl,q,u⟩:=h.cons_of;exact u
 |d::ds,vs,n+1,h=>by obtain⟨v,r,rfl,q,u⟩:=h.cons_of;exact .cons q (fR.eraseIdx n u)
end
def rX(K:aI)(m:List ay)(H:Hp):List (Key×D)->List (Key×V)->Prop
 |[],[]=>True|p::ps,q::qs=>p.1=q.1/\RD K m H p.2 q.2/\rX K m H ps qs|_,_=>False
section
variable{K:aI}{m m':List ay}{H H':Hp}
theorem rX.iE(s:B7 m m' H H'):∀{a:List (Key×D)}{b:List (Key×V)},rX K m H a b->rX K m' H' a b
 |[],[],_=>trivial|p::ps,q::qs,h=>⟨h.1,h.2.1.iE s,rX.iE s h.2.2⟩|[],_::_,h=>h.elim|_::_,[],h=>h.elim
def rX.step(s:fq m m' H H'){a:List (Key×D)}{b:List (Key×V)}(h:rX K m H a b):rX K m' H' a b:=h.iE s.w
theorem rX.len:∀{a:List (Key×D)}{b:List (Key×V)},rX K m H a b->a.length=b.length
 |[],[],_=>rfl|p::ps,q::qs,h=>by simp[rX.len h.2.2]|[],_::_,h=>h.elim|_::_,[],h=>h.elim
theorem rX.any(k:Key):∀{a:List (Key×D)}{b:List (Key×V)},rX K m H a b->(a.any λkv=>decide (kv.1=k))=(b.any λkv=>decide (kv.1=k))
 |[],[],_=>rfl|p::ps,q::qs,h=>by rw[kC,kC,h.1,rX.any k h.2.2]|[],_::_,h=>h.elim|_::_,[],h=>h.elim
theorem rX.val(k:Key):∀{a:List (Key×D)}{b:List (Key×V)},rX K m H a b->(bC a k=ah/\dI b k=ah)\/∃d v,bC a k=af d/\dI b k=af v/\RD K m H d v
 |[],[],_=> .inl ⟨rfl,rfl⟩|p::ps,q::qs,h=>by
  by_cases e:q.1=k
  ·right;refine⟨p.2,q.2,?_,kO e,h.2.1⟩;have e':p.1=k:=h.1.trans e;simp[bC,V5,e']
  ·have e':¬p.1=k:=λz=>e (h.1.symm.trans z);rw[kW e,show bC (p::ps) k=bC ps k by simp[bC,V5,e']];exact rX.val k h.2.2
 |[],_::_,h=>h.elim|_::_,[],h=>h.elim
theorem rX.map(k:Key){d:D}{v:V}(rd:RD K m H d v):∀{a:List (Key×D)}{b:List (Key×V)},rX K m H a b->rX K m H (a.map λkv=>if kv.1=k then(kv.1,d)else kv) (b.map λkv=>if kv.1=k then(kv.1,v)else kv)
 |[],[],_=>trivial|p::ps,q::qs,h=>by
  refine⟨?_,?_,rX.map k rd h.2.2⟩
  ·by_cases e:q.1=k
   ·have e':p.1=k:=h.1.trans e;simp[e,e']
   ·have e':¬p.1=k:=λz=>e (h.1.symm.trans z);simp[e,e',h.1]
  ·by_cases e:q.1=k
   ·have e':p.1=k:=h.1.trans e;lia
   ·have e':¬p.1=k:=λz=>e (h.1.symm.trans z);simp only[e,e',VR];exact h.2.1
 |[],_::_,h=>h.elim|_::_,[],h=>h.elim
theorem rX.snoc{k:Key}{d:D}{v:V}(rd:RD K m H d v):∀{a:List (Key×D)}{b:List (Key×V)},rX K m H a b->rX K m H (a++ [(k,d)]) (b++ [(k,v)])
 |[],[],_=>⟨rfl,rd,trivial⟩|p::ps,q::qs,h=>⟨h.1,h.2.1,rX.snoc rd h.2.2⟩|[],_::_,h=>h.elim|_::_,[],h=>h.elim
theorem rX.drop(k:Key):∀{a:List (Key×D)}{b:List (Key×V)},rX K m H a b->rX K m H (a.filter λkv=>decide (kv.1≠k)) (kJ b k)
 |[],[],_=>trivial|p::ps,q::qs,h=>by
  unfold kJ;by_cases e:q.1=k
  ·have e':p.1=k:=h.1.trans e;rw[V2 (by simp[e']),V2 (by simp[e])];exact rX.drop k h.2.2
  ·have e':¬p.1=k:=λz=>e (h.1.symm.trans z);rw[V3 (by simp[e']),V3 (by simp[e])];exact⟨h.1,h.2.1,rX.drop k h.2.2⟩
 |[],_::_,h=>h.elim|_::_,[],h=>h.elim
def rX.put(k:Key){d:D}{v:V}(rd:RD K m H d v){a:List (Key×D)}{b:List (Key×V)}(h:rX K m H a b):rX K m H (putD a k d) (putK b k v):=by
 unfold putD putK;rw[h.any k];split
 ·exact h.map k rd
 ·exact h.snoc rd
end
def AO(K:aI)(m:List ay)(H:Hp):List (Str×D)->List (Str×V)->Prop
 |[],[]=>True|p::ps,q::qs=>p.1=q.1/\RD K m H p.2 q.2/\AO K m H ps qs|_,_=>False
section
variable{K:aI}{m m':List ay}{H H':Hp}
theorem AO.iE(s:B7 m m' H H'):∀{a:List (Str×D)}{b:List (Str×V)},AO K m H a b->AO K m' H' a b
 |[],[],_=>trivial|p::ps,q::qs,h=>⟨h.1,h.2.1.iE s,AO.iE s h.2.2⟩|[],_::_,h=>h.elim|_::_,[],h=>h.elim
def AO.step(s:fq m m' H H'){a:List (Str×D)}{b:List (Str×V)}(h:AO K m H a b):AO K m' H' a b:=h.iE s.w
theorem AO.len:∀{a:List (Str×D)}{b:List (Str×V)},AO K m H a b->a.length=b.length
 |[],[],_=>rfl|p::ps,q::qs,h=>by simp[AO.len h.2.2]|[],_::_,h=>h.elim|_::_,[],h=>h.elim
theorem AO.look(f:Str):∀{a:List (Str×D)}{b:List (Str×V)},AO K m H a b->(a.lookup f=ah/\b.lookup f=ah)\/∃d v,a.lookup f=af d/\b.lookup f=af v/\RD K m H d v
 |[],[],_=> .inl ⟨rfl,rfl⟩|(p,d)::ps,(q,v)::qs,h=>by
  obtain⟨e,r,t⟩:=h;have e:p=q:=e;subst e;by_cases z:(f==p)=av
  ·exact .inr ⟨d,v,by simp_all,by simp_all,r⟩
  ·have z:(f==p)=false:=by simpa using z
   simp only[zS,z];exact AO.look f t
 |[],_::_,h=>h.elim|_::_,[],h=>h.elim
theorem AO.put(f:Str){d:D}{v:V}(rd:RD K m H d v):∀{a:List (Str×D)}{b:List (Str×V)},AO K m H a b->AO K m H (cO f d a) (eQ f v b)
 |[],[],_=>⟨rfl,rd,trivial⟩|(p,d')::ps,(q,v')::qs,h=>by
  obtain⟨e,r,t⟩:=h;have e:p=q:=e;subst e;unfold cO eQ;by_cases z:p=f
  ·rw[if_pos z,if_pos z];exact⟨rfl,rd,t⟩
  ·rw[if_neg z,if_neg z];exact⟨rfl,r,AO.put f rd t⟩
 |[],_::_,h=>h.elim|_::_,[],h=>h.elim
end
def lw(K:aI)(m:List ay)(H:Hp)(a:ay):SO->Prop
 |.lst ds=>∃vs,H a=af (.lst vs)/\fR K m H ds vs|.dct kvs=>∃vs,H a=af (.dK vs)/\rX K m H kvs vs|.ins c fs=>∃C dx vs,bS K mainGlobals c=af (af (.ref C))/\H a=af (.ins C dx vs)/\AO K m H fs vs|.x9 kvs=>∃o vs,H a=af (.sP o (.dK vs))/\rX K m H kvs vs
structure cS(K:aI)(m:List ay)(S:bq)(H:Hp):Prop where
 len:m.length=S.length
 nd:m.Nodup
 obj:∀(k:Nat)(a:ay)(o:SO),m[k]?=af a->S[k]?=af o->lw K m H a o
structure gp(K:aI)(m:List ay)(H:Hp)(r:aC)(σ:St):Prop where
 len:r.length=σ.length
 get:∀(i:Nat)(d:D),r[i]?=af (af d)->∃v,σ[i]?=af (af v)/\RD K m H d v
section
variable{K:aI}{m m':List ay}{H H':Hp}{S:bq}{r:aC}{σ:St}
theorem gp.iE(e:gp K m H r σ)(s:B7 m m' H H'):gp K m' H' r σ:=⟨e.len,λi d h=>by
 obtain⟨v,h1,h2⟩:=e.get i d h;exact⟨v,h1,h2.iE s⟩⟩
def gp.step(e:gp K m H r σ)(s:fq m m' H H'):gp K m' H' r σ:=e.iE s.w
theorem gp.set(e:gp K m H r σ){i:Nat}{d:D}{v:V}(h:RD K m H d v):gp K m H (r.set i (af d)) (σ.set i (af v)):=⟨by simp[e.len],λj d' hj=>by
 by_cases hij:i=j
 ·subst hij;by_cases hi:i<r.length
  ·rw[Vy hi]at hj;have:d=d':=by simpa using hj
   subst this;exact⟨v,by rw[Vy (by rw[←e.len];exact hi)],h⟩
  simp_all
 ·rw[U6 hij]at hj;obtain⟨u,h1,h2⟩:=e.get j d' hj
  simp_all⟩
theorem lw.iE{a:ay}{o:SO}(h:lw K m H a o)(s:B7 m m' H H')(e:H' a=H a):lw K m' H' a o:=by
 cases o with
 |lst ds=>obtain⟨vs,h1,h2⟩:=h;exact⟨vs,by lia,h2.iE s⟩
 |dct kvs=>obtain⟨vs,h1,h2⟩:=h;exact⟨vs,by lia,h2.iE s⟩
 |ins c fs=>obtain⟨C,dx,vs,h0,h1,h2⟩:=h;exact⟨C,dx,vs,h0,by lia,h2.iE s⟩
 |x9 kvs=>obtain⟨ob,vs,h1,h2⟩:=h;exact⟨ob,vs,by lia,h2.iE s⟩
def lw.step{a:ay}{o:SO}(h:lw K m H a o)(s:fq m m' H H')(e:H' a=H a):lw K m' H' a o:=h.iE s.w e
def cS.keep(h:cS K m S H)(s:fq m m H H')(e:∀a∈m,H' a=H a):cS K m S H':=
 ⟨h.len,h.nd,λk a o h1 h2=>(h.obj k a o h1 h2).step s (e a (V4 h1))⟩
theorem cS.there(h:cS K m S H){a:ay}(ha:a∈m):H a≠none:=by
 obtain⟨k,hk⟩:=Xo.mp ha;have hl:k<S.length:=by rw[←h.len];exact(UL.mp hk).1
 have q:=h.obj k a _ hk (Vc hl);cases o:S[k]with
 |lst ds=>rw[o]at q;obtain⟨vs,h1,_⟩:=q;rw[h1];simp
 |dct _=>rw[o]at q;obtain⟨vs,h1,_⟩:=q;rw[h1];simp
 |ins _ _=>rw[o]at q;obtain⟨C,dx,vs,_,h1,_⟩:=q;rw[h1];simp
 |x9 _=>rw[o]at q;obtain⟨ob,vs,h1,_⟩:=q;rw[h1];simp
def cS.fresh(h:cS K m S H){p:ay}(hp:H p=ah):p∉m:=λq=>h.there q hp
def fq.laid(h:cS K m S H){p:ay}(hp:H p=ah)(o:HO):fq m m H (upd H p o):=
 ⟨⟨[],by simp⟩,λ_ _ _ q=>q,λa xs q=>by rw[aB (aU q hp)];exact q,λa ob u q=>by rw[aB (aU q hp)];exact q,
  λa xs q _=>by rw[aB (aU q hp)];exact q,λa q=>by
   by_cases e:a=p
   ·lia
   ·rw[aB e]at q;exact q,λa φ q=>by rw[aB (aU q hp)];exact q⟩
theorem cS.laid(h:cS K m S H){p:ay}(hp:H p=ah)(o:HO):cS K m S (upd H p o):=
 h.keep (fq.laid h hp o) λa ha=>aB λe=>h.there ha (by lia)
def fq.push(h:cS K m S H){p:ay}(hp:H p=ah)(o:HO):fq m (m++ [p]) H (upd H p o):=
 ⟨⟨[p],rfl⟩,λa ob q n=>by
   grind,λa xs q=>by rw[aB (aU q hp)];exact q,λa ob u q=>by rw[aB (aU q hp)];exact q,
  λa xs q _=>by rw[aB (aU q hp)];exact q,λa q=>by
   by_cases e:a=p
   ·lia
   ·rw[aB e]at q;exact q,λa φ q=>by rw[aB (aU q hp)];exact q⟩
def cS.EE(h:cS K m S H){p:ay}(hp:H p=ah){so:SO}{ho:HO}(r:∀m' H',fq m m' H H'->H' p=af ho->lw K m' H' p so):cS K (m++ [p]) (S++ [so]) (upd H p ho):=by
 have st:=fq.push h hp ho;refine⟨by simp[h.len],?_,λk a o h1 h2=>?_⟩
 ·rw[Vx];refine⟨h.nd,by simp,λa ha b hb=>?_⟩;have:b=p:=by simpa using hb
  subst this;exact λe=>h.fresh hp (e▸ha)
 ·by_cases hk:k<m.length
  ·rw[UV hk]at h1;rw[UV (by rw[←h.len];exact hk)]at h2;exact(h.obj k a o h1 h2).step st (aB λe=>h.fresh hp (e▸V4 h1))
  ·have hk':m.length<=k:=kq hk;rw[Vl hk']at h1;rw[Vl (by rw[←h.len];exact hk')]at h2;have e1:k - m.length=0:=by
    by_cases z:k - m.length=0
    ·exact z
    ·simp_all
   rw[e1]at h1;rw[←h.len,e1]at h2;have ea:p=a:=by simpa using h1
   have eo:so=o:=by simpa using h2
   subst ea;subst eo;exact r _ _ st bj
def cS.push(h:cS K m S H){p:ay}(hp:H p=ah){ds:List D}{vs:List V}(r:fR K m H ds vs):cS K (m++ [p]) (S++ [.lst ds]) (upd H p (.lst vs)):=
 h.EE hp λm' H' st e=>⟨vs,e,r.step st⟩
def cS.Lu(h:cS K m S H){p:ay}(hp:H p=ah):cS K (m++ [p]) (S++ [.dct []]) (upd H p (.dK [])):=
 h.EE hp λm' H' st e=>⟨[],e,trivial⟩
def QY:HO->Prop
 |.lst _=>True|.dK _=>True|.ins _ _ _=>True|_=>False
def fq.qo(h:cS K m S H){k:Nat}{a:ay}(ha:m[k]?=af a){o o':HO}(hx:H a=af o)(hc:QY o):fq m m H (upd H a o'):=by
 have am:a∈m:=V4 ha;refine⟨⟨[],by simp⟩,λ_ _ _ q=>q,λb zs q=>?_,λb ob u q=>?_,λb zs q n=>?_,λb q=>?_,λb φ q=>?_⟩
 ·rw[aB (dh q hx (λz=>by rw[←z]at hc;exact hc))];exact q
 ·rw[aB (dh q hx (λz=>by rw[←z]at hc;exact hc))];exact q
 ·rw[aB (λe:b=a=>n (by lia))];exact q
 ·by_cases e:b=a
  ·subst e;rw[bj]at q;cases q
  ·rw[aB e]at q;exact q
 ·rw[aB (dh q hx (λz=>by rw[←z]at hc;exact hc))];exact q
theorem cS.qo(h:cS K m S H){k:Nat}{a:ay}(ha:m[k]?=af a){o o':HO}(hx:H a=af o)(hc:QY o){so:SO}(r:∀H',fq m m H H'->H' a=af o'->lw K m H' a so):cS K m (S.set k so) (upd H a o'):=by
 have st:=fq.qo (o':=o') h ha hx hc;refine⟨by simp[h.len],h.nd,λj b ob h1 h2=>?_⟩;by_cases e:k=j
 ·subst e;rw[ha]at h1;have eb:a=b:=by simpa using h1
  subst eb;have hk:k<S.length:=by rw[←h.len];exact(UL.mp ha).1
  rw[Vy hk]at h2;have eo:so=ob:=by simpa using h2
  subst eo;exact r _ st bj
 ·rw[U6 e]at h2;refine(h.obj j b ob h1 h2).step st (aB λz=>e ?_);subst z;have hk:=(UL.mp ha).1;exact(iF hk h.nd).mp (by rw[ha,h1])
def fq.write(h:cS K m S H){k:Nat}{a:ay}(ha:m[k]?=af a){xs:List V}(hx:H a=af (.lst xs))(ys:List V):fq m m H (upd H a (.lst ys)):=fq.qo h ha hx trivial
def cS.write(h:cS K m S H){k:Nat}{a:ay}(ha:m[k]?=af a){xs ys:List V}(hx:H a=af (.lst xs)){es:List D}(r:fR K m H es ys):cS K m (S.set k (.lst es)) (upd H a (.lst ys)):=
 h.qo ha hx trivial λH' st e=>⟨ys,e,r.step st⟩
theorem cS.dct(h:cS K m S H){k:Nat}{kvs:List (Key×D)}(hs:S[k]?=af (.dct kvs)):∃a vs,m[k]?=af a/\H a=af (.dK vs)/\rX K m H kvs vs:=by
 have hk:k<m.length:=by rw[h.len];exact(UL.mp hs).1
 obtain⟨vs,h1,h2⟩:=h.obj k _ _ (Vc hk) hs;exact⟨_,vs,Vc hk,h1,h2⟩
theorem cS.x9(h:cS K m S H){k:Nat}{kvs:List (Key×D)}(hs:S[k]?=af (.x9 kvs)):∃a o vs,m[k]?=af a/\H a=af (.sP o (.dK vs))/\rX K m H kvs vs:=by
 have hk:k<m.length:=by rw[h.len];exact(UL.mp hs).1
 obtain⟨o,vs,h1,h2⟩:=h.obj k _ _ (Vc hk) hs;exact⟨_,o,vs,Vc hk,h1,h2⟩
theorem cS.ins(h:cS K m S H){k:Nat}{c:Str}{fs:List (Str×D)}(hs:S[k]?=af (.ins c fs)):∃a C dx vs,m[k]?=af a/\bS K mainGlobals c=af (af (.ref C))/\H a=af (.ins C dx vs)/\AO K m H fs vs:=by
 have hk:k<m.length:=by rw[h.len];exact(UL.mp hs).1
 obtain⟨C,dx,vs,h0,h1,h2⟩:=h.obj k _ _ (Vc hk) hs;exact⟨_,C,dx,vs,Vc hk,h0,h1,h2⟩
theorem cS.lst(h:cS K m S H){k:Nat}{ds:List D}(hs:S[k]?=af (.lst ds)):∃a vs,m[k]?=af a/\H a=af (.lst vs)/\fR K m H ds vs:=by
 have hk:k<m.length:=by rw[h.len];exact(UL.mp hs).1
 obtain⟨vs,h1,h2⟩:=h.obj k _ _ (Vc hk) hs;exact⟨_,vs,Vc hk,h1,h2⟩
end
def Rw(X:Cx)(pins:List (ay×Obj))(H:Hp)(c:Str)(e:ai)(s:aE):Prop:=∃C,bS X.K mainGlobals c=af (af (.ref C))/\bN X pins H (af C) e s
def XQ(X:Cx)(m:List ay)(H:Hp)(r:aC)(c:Str)(S':bq):Prop:=
 ∀(pins:List (ay×Obj))(s':aE)(σ':St)(H':Hp)(m':List ay)(e:ai),Inv X pins σ' H' s'->fq m m' H H'->gp X.K m' H' r σ'->cS X.K m' S' H'->Rw X pins H' c e s'->X.xe e s'
abbrev RR(α β:Type):=List ay->Hp->α->β->Prop
def tO{α β:Type}(X:Cx)(R:RR α β)(o:Ev α)(m:List ay)(r:aC)(H:Hp)(Q:β->Hp->Prop):Prop:=match o with
 |none=>False|some (.ok d S')=>∀m' H' v,fq m m' H H'->cS X.K m' S' H'->R m' H' d v->Q v H'|some (.exc c S')=>XQ X m H r c S'
def tM{α β:Type}(X:Cx)(R:RR α β)(f:aC->bq->Ev α):St->Hp->(β->Hp->Prop)->Prop:=λσ H Q=>∃m r S,gp X.K m H r σ/\cS X.K m S H/\tO X R (f r S) m r H Q
def tM.el{α β:Type}{X:Cx}{R:RR α β}{f:aC->bq->Ev α}{σ:St}{H:Hp}{Q:β->Hp->Prop}{P:Prop}(h:tM X R f σ H Q)(k:∀m r S,gp X.K m H r σ->cS X.K m S H->tO X R (f r S) m r H Q->P):P:=by obtain⟨m,r,S,er,sr,h⟩:=h;exact k m r S er sr h
def bW{α β γ:Type}{A B C:α->β->γ->Prop}{G:Prop}(h:∃x y z,A x y z/\B x y z/\C x y z)(k:∀x y z,A x y z->B x y z->C x y z->G):G:=by grind
def aR{α β γ:Type}{A B C D:α->β->γ->Prop}{G:Prop}(h:∃x y z,A x y z/\B x y z/\C x y z/\D x y z)(k:∀x y z,A x y z->B x y z->C x y z->D x y z->G):G:=by grind
abbrev rD(X:Cx):RR D V:=λm H d v=>RD X.K m H d v
abbrev Lv(X:Cx):RR (List D) (List V):=λm H d v=>fR X.K m H d v
abbrev rB:RR Bool Bool:=λ_ _ a b=>a=b
section
variable{X:Cx}{α β α' β':Type}{R:RR α β}{R':RR α' β'}{m m':List ay}{r:aC}{H H':Hp}{S:bq}
def XQ.step{c:Str}(h:XQ X m H r c S)(s:fq m m' H H'):XQ X m' H' r c S:=λpins s' σ' H2 m2 e I st er sr ie=>h pins s' σ' H2 m2 e I (s.trans st) er sr ie
theorem tO.step{o:Ev α}{Q:β->Hp->Prop}(h:tO X R o m r H Q)(s:fq m m' H H'):tO X R o m' r H' Q:=by
 cases o with
 |none=>exact h|some o=>
  cases o with|ok d S'=>exact λm2 H2 v st sr rd=>h m2 H2 v (s.trans st) sr rd|exc c S'=>exact XQ.step h s
theorem tO.mono{o:Ev α}{Q Q':β->Hp->Prop}(h:tO X R o m r H Q)(q:∀v H',Q v H'->Q' v H'):tO X R o m r H Q':=by
 cases o with
 |none=>exact h|some o=>
  cases o with|ok d S'=>exact λm2 H2 v st sr rd=>q _ _ (h m2 H2 v st sr rd)|exc c S'=>exact h
theorem tO.bnd{o:Ev α}{k:α->bq->Ev α'}{Q:β'->Hp->Prop}(h:tO X R' (bnd o k) m r H Q):
  tO X R o m r H λv H1=>∃m1 a S1,fq m m1 H H1/\cS X.K m1 S1 H1/\R m1 H1 a v/\tO X R' (k a S1) m1 r H1 Q:=by
 cases o with
 |none=>exact h|some o=>
  cases o with|ok d S'=>exact λm1 H1 v st sr rd=>⟨m1,d,S',st,sr,rd,tO.step (h:tO X R' (k d S') m r H Q) st⟩|exc c S'=>exact h
def tO.fin{a:α}{v:β}{Q:β->Hp->Prop}(h:tO X R (fz a S) m r H Q)(sr:cS X.K m S H)(q:R m H a v):Q v H:=h m H v (fq.refl _ _) sr q
def tO.fin'{a:α}{v:β}{Q:β->Hp->Prop}(h:tO X R (fz a S) m r H Q)(st:fq m m' H H')(sr:cS X.K m' S H')(q:R m' H' a v):Q v H':=h m' H' v st sr q
end
def PE.imp{X:Cx}{e:br}{t t':TE}(h:PE X e t)(q:∀σ H Q,t' σ H Q->t σ H Q):PE X e t':=λpins s σ H Q I w=>h pins s σ H Q I (q _ _ _ w)
def PT.imp{X:Cx}{e:br}{t t':TT}(h:PT X e t)(q:∀σ H Q,t' σ H Q->t σ H Q):PT X e t':=λpins s σ H Q I w=>h pins s σ H Q I (q _ _ _ w)
def PW.imp{X:Cx}{e:br}{t t':TT}(h:PW X e t)(q:∀σ H Q,t' σ H Q->t σ H Q):PW X e t':=λwh pins s σ H Q I w=>h wh pins s σ H Q I (q _ _ _ w)
def PA.imp{X:Cx}{e:List br}{t t':TA}(h:PA X e t)(q:∀σ H Q,t' σ H Q->t σ H Q):PA X e t':=λpos pins s σ H Q I w=>h pos pins s σ H Q I (q _ _ _ w)
def PS.imp{X:Cx}{e:eL}{t t':TS}(h:PS X e t)(q:∀D σ H,t' D σ H->t D σ H):PS X e t':=λpins s σ H Q I w=>h pins s σ H Q I (q _ _ _ w)
def DS.imp{X:Cx}{e:List eL}{t t':TS}(h:DS X e t)(q:∀D σ H,t' D σ H->t D σ H):DS X e t':=λpins s σ H Q I w=>h pins s σ H Q I (q _ _ _ w)
end RK
namespace RK
open PySem L2 PySem.SeqAt PyProof.Rows
section
variable{X:Cx}
def xG{pins:List (ay×Obj)}{σ:L2.St}{H:Hp}{s:aE}{l:ay}{xs:List V}(I:Inv X pins σ H s)(hq:sR X.K H l xs):∃(its:List ai)(n:Nat)(sl:Array (Option ai)),Vals xs its/\xs.length<=aT/\s.heap.get? l=af {cls:= .type "tuple",dict:=ah,data:= .seq its.toArray n,slots:=sl}:=by obtain⟨its,r,⟨⟨c,d,da,sl⟩,e1,e2,n,e3⟩,hz⟩:=I.tuple hq;obtain⟨_,g⟩:=lV (X:=X) (x:= .ref l) (v:= .ref l) (T:= "tuple") I rfl (.inr (.inl ⟨rfl,xs,hq⟩));obtain⟨ob,g1,g2⟩:=g l rfl;have e:=g1.symm.trans e1;cases e;have e2:c= .type "tuple" :=e2;have e3:da= .seq its.toArray n:=e3;have g2:d=none:=g2;subst e2;subst e3;subst g2;exact⟨its,n,sl,r,hz,e1⟩
def Rx(K:aI):R2:=λx y H Q=>∃a b ys,x= .ref a/\y= .ref b/\sR K H a []/\sR K H b ys/\Q (.ref b) H
def J8:BD X (binaryOp .Add) (Rx X.K):=by intro pins s σ H x y v u Q I rx ry h;obtain⟨a,b,ys,rfl,rfl,ha,hb,q⟩:=h;cases rx;cases ry;obtain⟨its,n,sl,r,_,e⟩:=xG I ha;obtain⟨its2,n2,sl2,r2,_,e2⟩:=xG I hb;cases r;exact concat_meets ⟨_,e,rfl⟩ ⟨_,e2,rfl⟩ noFill_tuple_add seq_tuple_add ia gE (gx _ _) (tuple_addW0 a b _ its2.toArray n n2 _ _ sl sl2 rfl) ⟨e,e2,⟨.ref b,H,I,rfl,q⟩⟩
end
end RK
namespace RK
open PySem L2
section
variable{X:Cx}{m:List ay}{r:aC}{H:Hp}{S:bq}
def AV{v:V}(h:RD X.K m H .non v):v= .non:=by unfold RD at h;exact h
def BA{v:V}{b:Bool}(h:RD X.K m H (.bl b) v):v= .bl b:=by unfold RD at h;exact h
def gc{v:V}{b:Int}(h:RD X.K m H (.int b) v):v= .int b:=by unfold RD at h;exact h
def CS{v:V}{b:Str}(h:RD X.K m H (.str b) v):v= .str b:=by unfold RD at h;exact h
def dD{v:V}{b:List D}(h:RD X.K m H (.tup b) v):∃a vs,v= .ref a/\sR X.K H a vs/\fR X.K m H b vs:=by unfold RD at h;exact h
def gn{v:V}{b:List D}(h:RD X.K m H (.lst b) v):∃a vs,v= .ref a/\H a=af (.lst vs)/\a∉m/\fR X.K m H b vs:=by unfold RD at h;exact h
def uD{v:V}{b:List Int}(h:RD X.K m H (.AN b) v):∃a,v= .ref a/\jG X.K H a (b.map V.int):=by unfold RD at h;exact h
theorem dJ:∀{ns:List Int},fR X.K m H (ns.map D.int) (ns.map V.int)
 |[]=> .nil|n::r=> .cons (by unfold RD;rfl) dJ
def cg{v:V}{k:Nat}(h:RD X.K m H (.ref k) v):∃a,v= .ref a/\m[k]?=af a:=by unfold RD at h;exact h
def jY:RD X.K m H .non .non:=by unfold RD;rfl
def gU{b:Bool}:RD X.K m H (.bl b) (.bl b):=by unfold RD;rfl
def cQ{b:Int}:RD X.K m H (.int b) (.int b):=by unfold RD;rfl
def N8{b:Str}:RD X.K m H (.str b) (.str b):=by unfold RD;rfl
def jr{b:List D}{a:ay}{vs:List V}(h:sR X.K H a vs)(q:fR X.K m H b vs):RD X.K m H (.tup b) (.ref a):=by unfold RD;exact⟨a,vs,rfl,h,q⟩
def Cu{b:List D}{a:ay}{vs:List V}(h:H a=af (.lst vs))(n:a∉m)(q:fR X.K m H b vs):RD X.K m H (.lst b) (.ref a):=by unfold RD;exact⟨a,vs,rfl,h,n,q⟩
def Cv{k:Nat}{a:ay}(h:m[k]?=af a):RD X.K m H (.ref k) (.ref a):=by unfold RD;simp_all
def qX{ds:List D}{xs:List V}{Q:VK}(sr:cS X.K m S H)(rd:fR X.K m H ds xs)(h:tO X (rD X) (fz (.tup ds) S) m r H Q):∀p,H p=ah->Q (.ref p) (upd H p (.tup xs)):=λp hp=>h.fin' (fq.laid sr hp _) (sr.laid hp _) (jr (sR.of bj) (rd.step (fq.laid sr hp _)))
def jl{ds:List D}{xs:List V}{Q:VK}(sr:cS X.K m S H)(rd:fR X.K m H ds xs)(h:tO X (rD X) (fz (.lst ds) S) m r H Q):∀p,H p=ah->Q (.ref p) (upd H p (.lst xs)):=λp hp=>h.fin' (fq.laid sr hp _) (sr.laid hp _) (Cu bj (sr.fresh hp) (rd.step (fq.laid sr hp _)))
def dO{mu:Bool}{ds:List D}{xs:List V}{Q:VK}(sr:cS X.K m S H)(rd:fR X.K m H ds xs)(h:tO X (rD X) (A3 mu ds S) m r H Q):xs.length<=aT/\∀p,H p=ah->Q (.ref p) (upd H p (.lst xs)):=by
 unfold A3 at h;by_cases hz:ds.length<=aT
 ·rw[if_pos hz]at h;refine⟨by rw[←rd.length];exact hz,?_⟩;cases mu with|false=>rw[if_neg (by simp)]at h;exact jl sr rd h|true=>rw[if_pos rfl]at h;intro p hp;exact h.fin' (fq.push sr hp _) (sr.push hp rd) (Cv (by rw[←sr.len];simp))
 ·rw[if_neg hz]at h;exact h.elim
def xH{ds:List D}{xs:List V}{Q:VK}(sr:cS X.K m S H)(rd:fR X.K m H ds xs)(h:tO X (rD X) (E8 ds S) m r H Q):xs.length<=aT/\∀p,H p=ah->Q (.ref p) (upd H p (.tup xs)):=by
 unfold E8 at h;by_cases hz:ds.length<=aT
 ·rw[if_pos hz]at h;exact⟨by rw[←rd.length];exact hz,qX sr rd h⟩
 ·rw[if_neg hz]at h;exact h.elim
theorem my{d:D}{v:V}{ds:List D}(sr:cS X.K m S H)(rd:RD X.K m H d v)(h:bB S d=af ds):∃p xs,v= .ref p/\(xy X.K H p xs\/sR X.K H p xs)/\fR X.K m H ds xs:=by
 cases d with
 |tup es=>
  have e:es=ds:=by simpa[bB]using h
  subst e;obtain⟨a,vs,rfl,q,t⟩:=dD rd;exact⟨a,vs,rfl,.inr q,t⟩
 |lst es=>
  have e:es=ds:=by simpa[bB]using h
  subst e;obtain⟨a,vs,rfl,q,_,t⟩:=gn rd;exact⟨a,vs,rfl,.inl (xy.of q),t⟩
 |AN ns=>
  have e:ns.map D.int=ds:=by simpa[bB]using h
  subst e;obtain⟨a,rfl,q⟩:=uD rd;exact⟨a,_,rfl,.inl q.sq,dJ⟩
 |ref k=>
  obtain⟨a,rfl,hk⟩:=cg rd;simp only[bB]at h;cases e:S[k]? with
  |none=>simp_all|some o=>
   rw[e]at h;cases o with
   |lst es=>
    have e':es=ds:=by simpa using h
    subst e';obtain⟨a',vs,h1,h2,h3⟩:=sr.lst e;rw[hk]at h1;have:a=a':=by simpa using h1
    subst this;exact⟨a,vs,rfl,.inl (xy.of h2),h3⟩
   |dct _=>cases h|ins _ _=>cases h|x9 _=>cases h
 |_=>simp[bB]at h
end
theorem qb{K:aI}{m:List ay}{H:Hp}{d:D}{v:V}{k:Key}(h:cX d=af k)(rd:RD K m H d v):v=kV k:=by
 cases d with
 |int i=>
  have e:Sum.inl i=k:=by simpa[cX]using h
  subst e;unfold RD at rd;exact rd
 |str x=>
  have e:Sum.inr x=k:=by simpa[cX]using h
  subst e;unfold RD at rd;exact rd
 |_=>simp[cX]at h
theorem qd{K:aI}{m:List ay}{H:Hp}{S:bq}{d:D}{v:V}{kvs:List (Key×D)}(sr:cS K m S H)(rd:RD K m H d v)(h:cL S d=af kvs):∃n p vs,d= .ref n/\m[n]?=af p/\v= .ref p/\Rd H p (.dK vs)/\rX K m H kvs vs:=by
 cases d with
 |ref n=>
  simp only[cL]at h;cases e:S[n]? with
  |none=>simp_all|some o=>
   rw[e]at h;cases o with
   |dct es=>
    have ee:es=kvs:=by simpa using h
    subst ee;unfold RD at rd;obtain⟨a,rfl,hk⟩:=rd;obtain⟨a',vs,h1,h2,h3⟩:=sr.dct e;rw[hk]at h1;have ea:a=a':=by simpa using h1
    subst ea;exact⟨n,a,vs,rfl,hk,rfl,.inl h2,h3⟩
   |x9 es=>
    have ee:es=kvs:=by simpa using h
    subst ee;unfold RD at rd;obtain⟨a,rfl,hk⟩:=rd;obtain⟨a',ob,vs,h1,h2,h3⟩:=sr.x9 e;rw[hk]at h1;have ea:a=a':=by simpa using h1
    subst ea;exact⟨n,a,vs,rfl,hk,rfl,.inr ⟨ob,h2⟩,h3⟩
   |lst _=>cases h|ins _ _=>cases h
 |_=>simp[cL]at h
def qY{H:Hp}{a:ay}{kvs:List (Key×V)}{k:Key}(e:Rd H a (.dK kvs)):qR H a (kV k) (dI kvs k):= .inl ⟨kvs,k,e,rfl,rfl⟩
section
variable{X:Cx}
def T6(X:Cx)(o:Operator):R2:=λx y H Q=>∃m r S a b,cS X.K m S H/\RD X.K m H a x/\RD X.K m H b y/\tO X (rD X) (binop o a b S) m r H Q
def tO.ite{c:Prop}[Decidable c]{α β:Type}{R:RR α β}{x:Ev α}{m:List ay}{r:aC}{H:Hp}{Q:β->Hp->Prop}(h:tO X R (if c then x else ah) m r H Q):c/\tO X R x m r H Q:=by
 by_cases hc:c
 ·lia
 ·rw[if_neg hc]at h;exact h.elim
theorem Oa(o:Operator):BD X (binaryOp o) (T6 X o):=by
 intro pins s σ H x y v u Q I rx ry h;obtain⟨m,r,S,a,b,sr,ra,rb,h⟩:=h;cases a with
 |int i=>
  cases b with
  |int j=>
   have e1:=gc ra;have e2:=gc rb;cases o with
   |Add=>exact M8 pins s σ H x y v u Q I rx ry ⟨_,_,e1,e2,tO.fin (X:=X) (R:=rD X) h sr cQ⟩|Sub=>exact M9 pins s σ H x y v u Q I rx ry ⟨_,_,e1,e2,tO.fin (X:=X) (R:=rD X) h sr cQ⟩|Mult=>obtain⟨hc,h⟩:=tO.ite h;exact Nb pins s σ H x y v u Q I rx ry ⟨_,_,e1,e2,hc,h.fin sr cQ⟩
   |FloorDiv=>obtain⟨hc,h⟩:=tO.ite h;exact JQ pins s σ H x y v u Q I rx ry ⟨_,_,e1,e2,hc,h.fin sr cQ⟩
   |Mod=>obtain⟨hc,h⟩:=tO.ite h;exact Nh pins s σ H x y v u Q I rx ry ⟨_,_,e1,e2,hc,h.fin sr cQ⟩
   |LShift=>obtain⟨hc,h⟩:=tO.ite h;exact Ni pins s σ H x y v u Q I rx ry ⟨_,_,e1,e2,hc,h.fin sr cQ⟩
   |_=>exact h.elim
  |_=>exact h.elim
 |tup xs=>
  obtain⟨p,vs,rfl,q1,t1⟩:=dD ra;cases b with
  |tup ys=>
   obtain⟨q,us,rfl,q2,t2⟩:=dD rb;cases o with
   |Add=>
    have h:tO X (rD X) (if xs.isEmpty=av then fz (.tup ys) S else if xs.length+ys.length<=aT then fz (.tup (xs++ys)) S else ah) m r H Q:=h;by_cases he:xs.isEmpty=av
    ·rw[if_pos he]at h;have ex:xs=[]:=by simpa using he
     subst ex;have ev:=t1.nil_of;subst ev;exact J8 pins s σ H _ _ v u Q I rx ry ⟨p,q,us,rfl,rfl,q1,q2,h.fin sr (jr q2 t2)⟩
    rw[if_neg he]at h;obtain⟨hc,h⟩:=tO.ite h;have n1:vs≠ []:=λe=>he (by
     have:xs=[]:=Xd.mp (by rw[t1.length,e];rfl);simp[this])
    refine J4 pins s σ H _ _ v u Q I rx ry ⟨p,q,vs,us,rfl,rfl,q1,q2,n1,by rw[←t1.length,←t2.length];exact hc,λe=>?_,λe=>?_⟩
    ·subst e;have e2:=Xd.mp t2.length;subst e2;rw[UT]at h;exact h.fin sr (jr q1 t1)
    ·exact qX sr (t1.append t2) h
   |_=>exact h.elim
  |_=>exact h.elim
 |lst xs=>
  obtain⟨p,vs,rfl,q1,_,t1⟩:=gn ra;cases b with
  |lst ys=>
   obtain⟨q,us,rfl,q2,_,t2⟩:=gn rb;cases o with
   |Add=>obtain⟨hc,h⟩:=tO.ite h;exact Cd pins s σ H _ _ v u Q I rx ry ⟨p,q,vs,us,rfl,rfl,q1,q2,by rw[←t1.length,←t2.length];exact hc,jl sr (t1.append t2) h⟩
   |_=>exact h.elim
  |_=>exact h.elim
 |ref k=>
  have h:tO X (rD X) (match S[k]? with|some (.lst xs)=>N5 o xs b S|_=>ah) m r H Q:=h;cases e:S[k]? with
  |none=>rw[e]at h;exact h.elim|some so=>
   rw[e]at h;cases so with
   |lst xs=>
    obtain⟨p,vs,hm,hH,t1⟩:=sr.lst e;obtain⟨p',rfl,hm'⟩:=cg ra;have ep:p=p':=by rw[hm]at hm';simpa using hm'
    subst ep;cases b with
    |lst ys=>
     obtain⟨q,us,rfl,q2,_,t2⟩:=gn rb;cases o with
     |Add=>obtain⟨hc,h⟩:=tO.ite h;exact Cd pins s σ H _ _ v u Q I rx ry ⟨p,q,vs,us,rfl,rfl,hH,q2,by rw[←t1.length,←t2.length];exact hc,jl sr (t1.append t2) h⟩
     |_=>exact h.elim
    |_=>exact h.elim
   |_=>exact h.elim
 |_=>exact h.elim
end
end RK
namespace RK
open PySem L2 PySem.SeqAt
section
variable{X:Cx}{m:List ay}{r:aC}{H:Hp}{S:bq}{pins:List (ay×Obj)}{σ:St}{s:aE}
mutual
theorem uE(I:Inv X pins σ H s):∀{d:D}{x:V}{u:ai}{p:PyData},RD X.K m H d x->RelV x u->zD d=af p->∃as,Reads s.heap u p as
 |.non,x,u,p,h,q,e=>by cases AV h;cases q;have e':PyData.none=p:=Ux e;subst e';exact⟨_,.none⟩|.bl b,x,u,p,h,q,e=>by cases BA h;cases q;have e':PyData.bool b=p:=Ux e;subst e';exact⟨_,.bool b⟩|.int i,x,u,p,h,q,e=>by cases gc h;obtain⟨t,rfl⟩:=q;have e':PyData.int i=p:=Ux e;subst e';exact⟨_,.int i t⟩
 |.str i,x,u,p,h,q,e=>by cases CS h;obtain⟨t,rfl⟩:=q;have e':PyData.str i=p:=Ux e;subst e';exact⟨_,.str i t⟩
 |.tup ds,x,u,p,h,q,e=>by
  obtain⟨a,vs,rfl,hq,hr⟩:=dD h;cases q;obtain⟨its,rv,⟨o,h1,h2,n,h3⟩,_⟩:=I.tuple hq;obtain⟨ps,ep,e'⟩:=Wh.mp (show(zD.ya ds).map PyData.tuple=af p from e)
  ·subst e';obtain⟨as,ra⟩:=fJ I hr rv ep;exact⟨as,.tuple h1 h2 h3 (by simpa using ra)⟩
 |.lst ds,x,u,p,h,q,e=>by
  obtain⟨a,vs,rfl,hq,_,hr⟩:=gn h;cases q;obtain⟨its,rv,⟨o,n,h1,h2,_,h3⟩,_⟩:=I.list (xy.of hq);obtain⟨ps,ep,e'⟩:=Wh.mp (show(zD.ya ds).map PyData.list=af p from e)
  ·subst e';obtain⟨as,ra⟩:=fJ I hr rv ep;exact⟨_,.list h1 h2 h3 (by simpa using ra)⟩
 |.AN _,_,_,_,_,_,e=>by cases e|.ref _,_,_,_,_,_,e=>by cases e|.B6 _,_,_,_,_,_,e=>by cases e|.EC,_,_,_,_,_,e=>by cases e
theorem fJ(I:Inv X pins σ H s):∀{ds:List D}{xs:List V}{us:List ai}{ps:List PyData},fR X.K m H ds xs->Vals xs us->zD.ya ds=af ps->∃as,ReadsAll s.heap us ps as
 |[],xs,us,ps,h,q,e=>by cases h.nil_of;cases q;have e':ps=[]:=(Ux e).symm;subst e';exact⟨_,.nil⟩|d::ds,xs,us,ps,h,q,e=>by
  obtain⟨v,r,rfl,h1,h2⟩:=h.cons_of;cases q with
  |cons q1 q2=>
   replace e:(match zD d,zD.ya ds with|some p,af ps=>af (p::ps)|_,_=>ah)=af ps:=e;cases e1:zD d with
   |none=>simp_all|some p=>
    cases e2:zD.ya ds with
    |none=>simp_all|some qs=>
     rw[e1,e2]at e;have e':p::qs=ps:=by simpa using e
     subst e';obtain⟨as,ra⟩:=uE I h1 q1 e1;obtain⟨bs,rb⟩:=fJ I h2 q2 e2;exact⟨_,.cons ra rb⟩
end
theorem mz(I:Inv X pins σ H s)(sr:cS X.K m S H){d:D}{x:V}{u:ai}{p:PyData}(h:RD X.K m H d x)(q:RelV x u)(e:gF S d=af p):∃as,Reads s.heap u p as:=by
 cases d with
 |ref k=>
  obtain⟨a,rfl,hk⟩:=cg h;cases q;replace e:(match S[k]? with|some (.lst ds)=>zD (.lst ds)|_=>ah)=af p:=e;cases es:S[k]? with
  |none=>simp_all|some o=>
   rw[es]at e;cases o with
   |lst ds=>
    obtain⟨a',vs,h1,h2,h3⟩:=sr.lst es;rw[hk]at h1;have:a=a':=by simpa using h1
    subst this;obtain⟨its,rv,⟨o,n,g1,g2,_,g3⟩,_⟩:=I.list (xy.of (K:=X.K) h2);have e1:(zD.ya ds).map PyData.list=af p:=e;cases ep:zD.ya ds with
    |none=>simp_all|some ps=>
     rw[ep]at e1;have e':PyData.list ps=p:=by simpa using e1
     subst e';obtain⟨as,ra⟩:=fJ I h3 rv ep;exact⟨_,.list g1 g2 g3 (by simpa using ra)⟩
   |dct _=>cases e|ins _ _=>cases e|x9 _=>cases e
 |_=>exact uE I h q e
end
section
variable{X:Cx}
theorem readsAll_mem{h:cK}:∀{vs:List ai}{ds:List PyData}{as:List ay},ReadsAll h vs ds as->∀v∈vs,∃d∈ds,∃bs,Reads h v d bs
 |_,_,_,.nil,v,hv=>by simp at hv|_,_,_,.cons r t,v,hv=>by
  rcases UJ.mp hv with rfl|hv
  ·exact⟨_,rL,_,r⟩
  ·obtain⟨d,hd,bs,rd⟩:=readsAll_mem t v hv;exact⟨d,Wm _ hd,bs,rd⟩
theorem zL{qs:List PyData}(h:PyData.canLayAll0 qs=av):∀q∈qs,q.canLay0=true:=by
 induction qs with
 |nil=>simp|cons x r ih=>
  intro q hq;have h':x.canLay0=av/\PyData.canLayAll0 r=true:=by simpa[PyData.canLayAll0]using h
  grind
open Classical in
def jO(h:cK)(p:PyData)(v:ai):Bool:=if h':∃d bs,Reads h v d bs then PyData.eqv h'.choose p else aS
def xJ{h:cK}{p:PyData}{v:ai}{d:PyData}{bs:List ay}(r:Reads h v d bs):jO h p v=PyData.eqv d p:=by
 have h':∃d bs,Reads h v d bs:=⟨d,bs,r⟩
 unfold jO;rw[dif_pos h'];obtain⟨cs,rc⟩:=h'.choose_spec;rw[(Reads.unique r _ _ rc).1]
theorem o6{h:cK}{p:PyData}:∀{vs:List ai}{qs:List PyData}{bs:List ay},ReadsAll h vs qs bs->vs.any (jO h p)=qs.any λq=>PyData.eqv q p
 |_,_,_,.nil=>rfl|_,_,_,.cons r t=>by simp only[kC];rw[xJ r,o6 t]
def xK{A:cy}{s:aE}{u:ai}{p:PyData}{as:List ay}(ra:Reads s.heap u p as)(hp:p.canLay0=av)(hu:A.units+66<cLine)(hd:p.depth<=64){vs:List ai}{qs:List PyData}{bs:List ay}(rs:ReadsAll s.heap vs qs bs)(hc:PyData.canLayAll0 qs=av):∀y∈vs,EqAt A.in1 s y u (jO s.heap p y):=by intro y hy;obtain⟨d,hd1,cs,rd⟩:=readsAll_mem rs y hy;rw[xJ rd];exact eqAt_reads d p A.in1 s y u cs as rd ra (zL hc d hd1) hp (by show A.units+1+_<_;have:=vj d.depth p.depth;lia)
def T7(X:Cx)(o:CmpOp):R2:=λx y H Q=>∃m r S a b,cS X.K m S H/\RD X.K m H a x/\RD X.K m H b y/\tO X (rD X) (kM o a b S) m r H Q
theorem xM{m:List ay}{S:bq}{H:Hp}{pins:List (ay×Obj)}{σ:St}{s:aE}{a b:D}{x y:V}{v u:ai}{k:Bool}{Q:VK}(hu:X.A.units+64<cLine)(I:Inv X pins σ H s)(sr:cS X.K m S H)(ra:RD X.K m H a x)(rb:RD X.K m H b y)(rx:RelV x v)(ry:RelV y u)(h:BC S a b=af k):(Q (.bl k) H->bg (model X.prog X.w) X.A (compareOp .Eq v u) (EP X pins σ Q) X.xe s)/\(Q (.bl (!k)) H->bg (model X.prog X.w) X.A (compareOp .NotEq v u) (EP X pins σ Q) X.xe s):=by
 unfold BC at h;cases e1:gF S a with
 |none=>simp_all|some p=>
  cases e2:gF S b with
  |none=>simp_all|some q=>
   rw[e1,e2]at h;simp only at h;by_cases hc:shaped p=av/\shaped q=av
   ·rw[if_pos hc]at h;have hk:PyData.eqv p q=k:=by simpa using h
    subst hk;obtain⟨as,r1⟩:=mz I sr ra rx e1;obtain⟨bs,r2⟩:=mz I sr rb ry e2;exact⟨λq'=>compareEq_shaped r1 r2 hc.1 hc.2 hu ⟨.bl _,H,I,rfl,q'⟩,λq'=>compareNe_shaped r1 r2 hc.1 hc.2 hu ⟨.bl _,H,I,rfl,q'⟩⟩
   lia
theorem uF{m:List ay}{S:bq}{H:Hp}{pins:List (ay×Obj)}{σ:St}{s:aE}{a b:D}{x y:V}{v u:ai}{k:Bool}{Q:VK}(hu:X.A.units+66<cLine)(I:Inv X pins σ H s)(sr:cS X.K m S H)(ra:RD X.K m H a x)(rb:RD X.K m H b y)(rx:RelV x v)(ry:RelV y u)(h:inD S a b=af k):(Q (.bl k) H->bg (model X.prog X.w) X.A (compareOp .In v u) (EP X pins σ Q) X.xe s)/\(Q (.bl (!k)) H->bg (model X.prog X.w) X.A (compareOp .NotIn v u) (EP X pins σ Q) X.xe s):=by
 unfold inD at h;cases e0:cL S b with
 |some kvs=>
  rw[e0]at h;simp only at h;cases ek:cX a with
  |none=>simp_all|some key=>
   rw[ek]at h;have hk:(bC kvs key).isSome=k:=by simpa using h
   obtain⟨n,p,vs,rfl,_,rfl,hp,hv⟩:=qd sr rb e0;cases ry;have ex:=qb ek ra;subst ex;have hs:(dI vs key).isSome=k:=by
    rw[←hk];rcases hv.val key with⟨h1,h2⟩|⟨d,v,h1,h2,_⟩
    ·rw[h1,h2];rfl
    ·rw[h1,h2];rfl
   refine⟨λq'=>T3 (by lia) I (qY hp) rx λs' I'=>?_,λq'=>J7 (by lia) I (qY hp) rx λs' I'=>?_⟩
   ·rw[hs];exact⟨.bl _,H,I',rfl,q'⟩
   ·rw[hs];exact⟨.bl _,H,I',rfl,q'⟩
 |none=>
 rw[e0]at h;simp only at h;cases e1:gF S a with
 |none=>simp_all|some p=>
  cases e2:bB S b with
  |none=>simp_all|some ds=>
   rw[e1,e2]at h;simp only at h;cases e3:zD.ya ds with
   |none=>simp_all|some qs=>
    rw[e3]at h;simp only at h;by_cases hc:shaped p=av/\shaped (.list qs)=av
    ·rw[if_pos hc]at h;have hk:(qs.any λq=>PyData.eqv q p)=k:=by simpa using h
     subst hk;obtain⟨as,r1⟩:=mz I sr ra rx e1;obtain⟨c,xs,rfl,hq,rs⟩:=my sr rb e2;cases ry;have hcl:PyData.canLayAll0 qs=true:=by have:=canLay_of_shaped hc.2;simpa[PyData.canLay0]using this
     rcases hq with hq|hq
     ·obtain⟨its,rv,pl,_⟩:=I.list hq;obtain⟨bs,r2⟩:=fJ I rs rv e3;have he:=xK (A:=X.A) r1 (canLay_of_shaped hc.1) hu (depth_of_shaped hc.1) r2 hcl;have ha:its.toArray.any (jO s.heap p)=qs.any λq=>PyData.eqv q p:=by rw[tT];exact o6 r2
      exact⟨λq'=>in_listAt (jO s.heap p) pl.isList (λy hy=>he y (by simpa using hy)) (by rw[ha];exact⟨.bl _,H,I,rfl,q'⟩),
       λq'=>notIn_listAt (jO s.heap p) pl.isList (λy hy=>he y (by simpa using hy)) (by rw[ha];exact⟨.bl _,H,I,rfl,q'⟩)⟩
     ·obtain⟨its,rv,pl,_⟩:=I.tuple hq;obtain⟨bs,r2⟩:=fJ I rs rv e3;have he:=xK (A:=X.A) r1 (canLay_of_shaped hc.1) hu (depth_of_shaped hc.1) r2 hcl;have ha:its.toArray.any (jO s.heap p)=qs.any λq=>PyData.eqv q p:=by rw[tT];exact o6 r2
      exact⟨λq'=>in_tupleAt (jO s.heap p) pl (λy hy=>he y (by simpa using hy)) (by rw[ha];exact⟨.bl _,H,I,rfl,q'⟩),
       λq'=>notIn_tupleAt (jO s.heap p) pl (λy hy=>he y (by simpa using hy)) (by rw[ha];exact⟨.bl _,H,I,rfl,q'⟩)⟩
    lia
theorem nU{f:Int->Int->Bool}{a b:D}{S:bq}{m:List ay}{r:aC}{H:Hp}{Q:VK}{x y:V}(sr:cS X.K m S H)(ra:RD X.K m H a x)(rb:RD X.K m H b y)(h:tO X (rD X) (qT f a b S) m r H Q):∃i j,x= .int i/\y= .int j/\Q (.bl (f i j)) H:=by
 cases a with
 |int i=>
  cases b with|int j=>exact⟨i,j,gc ra,gc rb,h.fin sr gU⟩|_=>exact h.elim
 |_=>exact h.elim
def qe{f:Bool->Bool}{o:Option Bool}{S:bq}{m:List ay}{r:aC}{H:Hp}{Q:VK}(sr:cS X.K m S H)(h:tO X (rD X) (D4 o f S) m r H Q):∃b,o=af b/\Q (.bl (f b)) H:=by
 cases o with|none=>exact h.elim|some b=>exact⟨b,rfl,h.fin sr gU⟩
theorem DE{f:Bool->Bool}{a b:D}{S:bq}{m:List ay}{r:aC}{H:Hp}{Q:VK}{x y:V}(sr:cS X.K m S H)(ra:RD X.K m H a x)(rb:RD X.K m H b y)(h:tO X (rD X) (zE f a b S) m r H Q):
  (∃i j,x= .bl i/\y= .bl j/\Q (.bl (f (i==j))) H)\/(x= .non/\y= .non/\Q (.bl (f av)) H)\/∃i,x= .int i/\y= .non/\Q (.bl (f aS)) H:=by
 cases a with
 |bl i=>
  cases b with|bl j=>exact .inl ⟨i,j,BA ra,BA rb,h.fin sr gU⟩|_=>exact h.elim
 |non=>
  cases b with|non=>exact .inr (.inl ⟨AV ra,AV rb,h.fin sr gU⟩)|_=>exact h.elim
 |int i=>
  cases b with|non=>exact .inr (.inr ⟨i,gc ra,AV rb,h.fin sr gU⟩)|_=>exact h.elim
 |_=>exact h.elim
theorem Cw(hu:X.A.units+66<cLine)(o:CmpOp):BD X (compareOp o) (T7 X o):=by
 intro pins s σ H x y v u Q I rx ry h;obtain⟨m,r,S,a,b,sr,ra,rb,h⟩:=h;cases o with
 |Lt=>exact Rc pins s σ H x y v u Q I rx ry (nU sr ra rb h)|LtE=>exact Rf pins s σ H x y v u Q I rx ry (nU sr ra rb h)|Gt=>exact Rg pins s σ H x y v u Q I rx ry (nU sr ra rb h)|GtE=>exact Rh pins s σ H x y v u Q I rx ry (nU sr ra rb h)|Eq=>obtain⟨b,e,h⟩:=qe sr h;exact(xM (by lia) I sr ra rb rx ry e).1 h
 |NotEq=>obtain⟨b,e,h⟩:=qe sr h;exact(xM (by lia) I sr ra rb rx ry e).2 h
 |In=>obtain⟨b,e,h⟩:=qe sr h;exact(uF hu I sr ra rb rx ry e).1 h
 |NotIn=>obtain⟨b,e,h⟩:=qe sr h;exact(uF hu I sr ra rb rx ry e).2 h
 |Is=>
  rcases DE (f:=λr=>r) sr ra rb h with⟨i,j,rfl,rfl,h⟩|⟨rfl,rfl,h⟩|⟨i,rfl,rfl,h⟩
  ·cases rx;cases ry;exact PyProof.Rows.is_bool ⟨.bl _,H,I,rfl,h⟩
  ·cases rx;cases ry;exact PyProof.Rows.is_none_none ⟨.bl _,H,I,rfl,h⟩
  ·obtain⟨t,rfl⟩:=rx;cases ry;exact PyProof.Rows.is_int_none ⟨.bl _,H,I,rfl,h⟩
 |IsNot=>
  rcases DE sr ra rb h with⟨i,j,rfl,rfl,h⟩|⟨rfl,rfl,h⟩|⟨i,rfl,rfl,h⟩
  ·cases rx;cases ry;exact PyProof.Rows.isnot_bool ⟨.bl _,H,I,rfl,h⟩
  ·cases rx;cases ry;exact PyProof.Rows.isnot_none_none ⟨.bl _,H,I,rfl,h⟩
  ·obtain⟨t,rfl⟩:=rx;cases ry;exact PyProof.Rows.isnot_int_none ⟨.bl _,H,I,rfl,h⟩
def zM(x:Ev D):Prop:=x=ah\/∃k S',x=af (.ok (.bl k) S')
def AY{o:CmpOp}{a b:D}{S:bq}:zM (kM o a b S):=by
 have ic:∀f,zM (qT f a b S):=λf=>by
  cases a with
  |int i=>
   cases b with|int j=>exact .inr ⟨_,_,rfl⟩|_=>exact .inl rfl
  |_=>exact .inl rfl
 have ob:∀o f,zM (D4 o f S):=λo f=>by
  cases o with|none=>exact .inl rfl|some b=>exact .inr ⟨_,_,rfl⟩
 have is:∀f,zM (zE f a b S):=λf=>by
  cases a with
  |bl i=>
   cases b with|bl j=>exact .inr ⟨_,_,rfl⟩|_=>exact .inl rfl
  |non=>
   cases b with|non=>exact .inr ⟨_,_,rfl⟩|_=>exact .inl rfl
  |int i=>
   cases b with|non=>exact .inr ⟨_,_,rfl⟩|_=>exact .inl rfl
  |_=>exact .inl rfl
 cases o with|Lt=>exact ic _|LtE=>exact ic _|Gt=>exact ic _|GtE=>exact ic _|Is=>exact is λr=>r|IsNot=>exact is λr=>!r|_=>exact ob _ _
def GZ{o:CmpOp}{a b:D}{S:bq}{d:D}{S':bq}(h:kM o a b S=af (.ok d S')):∃k,d= .bl k:=by
 rcases AY (o:=o) (a:=a) (b:=b) (S:=S)with e|⟨k,S1,e⟩
 ·lia
 grind
def Cy{o:CmpOp}{a b:D}{S:bq}{c:Str}{S':bq}(h:kM o a b S=af (.exc c S')):False:=by
 rcases AY (o:=o) (a:=a) (b:=b) (S:=S)with e|⟨k,S1,e⟩
 ·lia
 lia
def G3{ds:List D}{i:Int}{d:D}(h:BI ds i=af d):∃j,C9 ds.length i=af j/\ds[j]?=af d:=by
 unfold BI at h;cases e:C9 ds.length i with|none=>simp_all|some j=>simp_all
def J9{m:List ay}{H:Hp}{ds:List D}{vs:List V}{i:Int}{d:D}(h:fR X.K m H ds vs)(e:BI ds i=af d):∃v,BI vs i=af v/\RD X.K m H d v:=by obtain⟨j,h1,h2⟩:=G3 e;obtain⟨v,h3,h4⟩:=h.get h2;refine⟨v,?_,h4⟩;unfold BI;rw[←h.length,h1];simpa using h3
def Ry(X:Cx):R2:=λx y H Q=>∃m r S a b,cS X.K m S H/\RD X.K m H a x/\RD X.K m H b y/\tO X (rD X) (IQ a b S) m r H Q
open PySem.Spec PyProof.Rows in
def Ka(hu:X.A.units+1<cLine):D8 X (λx y H Q=>∃a v,x= .ref a/\qR H a y (af v)/\Q v H):=by
 intro value slice pins s σ H x y v u Q I rx ry h hs;obtain⟨a,w,rfl,g,q⟩:=h;cases rx;have hT:=wK I g;have h₂:bg (model X.prog X.w) X.A (getItem (.ref a) u) (EP X pins σ Q) X.xe s:=Ce hu I g ry λw' s3 I3 rw'=>⟨w,H,I3,rw',q⟩
 unfold subscriptTail;refine My ?_;rw[getitemInPython_of_ne hT.not_modules];refine My (wpAny_specialOf hT PySem.F.slot_dict_getitem.lookup ?_);have fin:bg (model X.prog X.w) X.A (subscripted slice aS (.ref a) u) (λr s₃=>bg (model X.prog X.w) X.A (letTemporaryGo value (.ref a) r>>=λ_=>pure r) (EP X pins σ Q) X.xe s₃) X.xe s:=by rw[hs];exact wpAny_operating (VH h₂ (λr s₃ h₃=>My (wpAny_letTemporaryGo (Uw h₃))) λ_ _ x=>x)
 first
  |exact Uw (My fin)|exact My (Uw (My fin))|exact My fin
theorem Kc(hu:X.A.units+1<cLine):D8 X (Ry X):=by
 intro value slice pins s σ H x y v u Q I rx ry h hs;obtain⟨m,r,S,a,b,sr,ra,rb,h⟩:=h;unfold IQ at h;cases e0:cL S a with
 |some kvs=>
  rw[e0]at h;simp only at h;cases ek:cX b with
  |none=>rw[ek]at h;exact h.elim|some key=>
   rw[ek]at h;simp only at h;obtain⟨n,p,vs,rfl,_,rfl,hp,hv⟩:=qd sr ra e0;have ey:=qb ek rb;subst ey;rcases hv.val key with⟨h1,h2⟩|⟨d,w,h1,h2,h3⟩
   ·rw[h1]at h;exact h.elim
   ·rw[h1]at h;refine Ka hu value slice pins s σ H _ _ v u Q I rx ry ⟨p,w,rfl,?_,h.fin sr h3⟩ hs;have:=qY (k:=key) hp;lia
 |none=>
 rw[e0]at h;simp only at h;split at h
 ·rename_i ds i es;split at h
  ·rename_i d ed;obtain⟨p,xs,rfl,hq,rs⟩:=my sr ra es;obtain⟨w,h1,h2⟩:=J9 rs ed;exact NP value slice pins s σ H _ y v u Q I rx ry (by
    rcases hq with hq|hq
    ·exact .inl ⟨p,xs,i,w,rfl,gc rb,hq,h1,h.fin sr h2⟩
    ·exact .inr (.inl ⟨p,xs,i,w,rfl,gc rb,hq,h1,h.fin sr h2⟩)) hs
  ·exact h.elim
 ·exact h.elim
def T8(X:Cx):zc:=λo i v H Q=>∃m S a b d,cS X.K m S H/\RD X.K m H a o/\RD X.K m H b i/\RD X.K m H d v/\∃S',putAt a b d S=af S'/\∀H',fq m m H H'->cS X.K m S' H'->Q H'
def Kd(hu:X.A.units+1<cLine):M3 X (T8 X):=by
 intro pins s σ H o i v ov iv u Q I ro ri rv h;obtain⟨m,S,a,b,d,sr,ra,rb,rd,S',hp,q⟩:=h;unfold putAt at hp;split at hp
 ·rename_i k;obtain⟨p,rfl,hk⟩:=cg ra;split at hp
  ·rename_i kvs e;split at hp
   ·rename_i key ek;split at hp
    ·rename_i hl;have es:=Ux hp;subst es;obtain⟨p',vs,h1,h2,h3⟩:=sr.dct e;rw[hk]at h1;have ep:p=p':=by simpa using h1
     subst ep;cases ro;have ei:=qb ek rb;subst ei;have hl':vs.length<sizeLine:=by rw[←h3.len];exact hl
     exact Cg hu I (zB.k h2 hl') ri rv λs' I'=>⟨_,I',q _ (fq.qo sr hk h2 trivial) (sr.qo hk h2 trivial λH' st e=>⟨_,e,(h3.put key rd).step st⟩)⟩
    ·cases hp
   ·cases hp
  ·cases hp
 ·cases hp
def nW{m:List ay}{H:Hp}{ds:List D}{vs:List V}(h:fR X.K m H ds vs)(lo hi:Option Int):fR X.K m H (cutD ds lo hi) (lU vs lo hi):=by unfold cutD lU;rw[h.length];exact(h.drop _).take _
def Ob(X:Cx):V->Option Int->Option Int->Hp->VK->Prop:=λx lo hi H Q=>∃m r S a,cS X.K m S H/\RD X.K m H a x/\tO X (rD X) (slc a lo hi S) m r H Q
end
end RK
namespace HT
open PySem PySem.Spec PyProof.Rows
section
variable{prog:bX}{w:ck}{A:cy}{E:ai->aE->Prop}{s:aE}
def lO{t sl:ay}{items:Array ai}{vl vu:ai}{lo hi:Option Int}{Q:ai->aE->Prop}(ht:IsTup s.heap t items)(hs:s.heap.IsSliceOf sl vl vu .none)(pl:IsPart vl lo)(pu:IsPart vu hi)(hw:kN items.size 0 lo=0/\kN items.size items.size hi=items.size)(h:Q (.ref t) s):bg (model prog w) A (getItem (.ref t) (.ref sl)) Q E s:=by
 obtain⟨os,hos,hcs,hds⟩:=id hs;have hTs:s.TypeIs (.ref sl) "slice" :=⟨os,hos,hcs⟩
 unfold getItem
 try with_reducible refine VB ?_
 first|refine My (Uw ?_)|skip
 refine My (wpAny_sequenceKey ht.typeIs (by decide) ?_);refine My (V1 (name:=Str.ofString "__getitem__") ht.typeIs V0
  (VV V0 ht.typeIs entry_tuple_getitem ?_ (args_tuple_getitem _ _)))
 show bg _ _ (Builtin.Tuple.tupleItemsOf (.ref t)>>=_) _ _ s;refine My (tupleItemsOf_ ht ?_);refine My (Wy hTs ?_);rw[if_pos (by decide)];refine My (jq hs pl pu ?_);have hyes:(((kN items.size 0 lo:Nat):Int)==0 && (1:Int)==1 && (kN items.size items.size hi - kN items.size 0 lo)==items.size)=true:=by rw[hw.1,hw.2];simp
 show bg _ _ (if(((kN items.size 0 lo:Nat):Int)==0 && (1:Int)==1 && (kN items.size items.size hi - kN items.size 0 lo)==items.size)=av then _ else _) _ _ s;rw[if_pos hyes];refine My ?_;unfold Builtin.Tuple.tupleIsExact;refine My (Wy ht.typeIs (Uw ?_));rw[if_pos (by decide)];exact My (Xh (Uw ⟨_,rfl,Uw h⟩))
end
end HT
namespace RK
open PySem L2 PySem.SeqAt
section
variable{X:Cx}
def Ke{pins:List (ay×Obj)}{s:aE}{σ:St}{H:Hp}{a:ay}{xs:List V}{vl vu:ai}{lo hi:Option Int}{sl:ay}{Q:VK}(I:Inv X pins σ H s)(hs:s.heap.IsSliceOf sl vl vu .none)(pl:IsPart vl lo)(pu:IsPart vu hi)(hx:sR X.K H a xs)(hw:HT.kN xs.length 0 lo=0/\HT.kN xs.length xs.length hi=xs.length)(q:Q (.ref a) H):
  ∃T id,typeLookup (.type T) "__getitem__" =pure (af (.builtin id))/\s.TypeIs (.ref a) T/\bg (model X.prog X.w) X.A (getItem (.ref a) (.ref sl)) (EP X pins σ Q) X.xe s:=by
 obtain⟨its,r,ht,hz⟩:=I.tuple hx;have hlen:its.toArray.size=xs.length:=by rw[Vr];exact r.length.symm
 refine⟨"tuple",_,V0.lookup,ht.typeIs,?_⟩;exact HT.lO ht hs pl pu (by rw[hlen];exact hw) ⟨.ref a,H,I,rfl,q⟩
theorem G4:MS X (Ob X):=by
 intro pins s σ H x v vl vu lo hi sl Q I rx hs pl pu h;obtain⟨m,r,S,a,sr,ra,h⟩:=h;cases a with
 |tup ds=>
  obtain⟨p,vs,rfl,hq,rs⟩:=dD ra;by_cases hw:HT.kN vs.length 0 lo=0/\HT.kN vs.length vs.length hi=vs.length
  ·have e:cutD ds lo hi=ds:=by
    unfold cutD;rw[rs.length,hw.1,hw.2,rj,←rs.length,zl,t9]
   have h':tO X (rD X) (fz (.tup (cutD ds lo hi)) S) m r H Q:=h;rw[e]at h';cases rx;exact Ke I hs pl pu hq hw (h'.fin sr ra)
  ·exact Nu pins s σ H _ _ vl vu lo hi sl Q I rx hs pl pu ⟨p,vs,rfl,hq,hw,qX sr (nW rs lo hi) h⟩
 |lst ds=>obtain⟨p,vs,rfl,hq,hn,rs⟩:=gn ra;exact qQ pins s σ H _ _ vl vu lo hi sl Q I rx hs pl pu ⟨p,vs,rfl,xy.of hq,jl sr (nW rs lo hi) h⟩
 |AN ns=>obtain⟨p,rfl,hq⟩:=uD ra;exact qQ pins s σ H _ _ vl vu lo hi sl Q I rx hs pl pu ⟨p,_,rfl,hq.sq,jl sr (nW dJ lo hi) h⟩
 |ref k=>
  obtain⟨p,rfl,hk⟩:=cg ra;cases e:S[k]? with
  |none=>simp only[slc,e]at h;exact h.elim|some o=>
   cases o with
   |lst ds=>
    simp only[slc,e]at h;obtain⟨p',vs,h1,h2,h3⟩:=sr.lst e;rw[hk]at h1;have:p=p':=by simpa using h1
    subst this;exact qQ pins s σ H _ _ vl vu lo hi sl Q I rx hs pl pu ⟨p,vs,rfl,xy.of h2,jl sr (nW h3 lo hi) h⟩
   |dct _=>simp only[slc,e]at h;exact h.elim|ins _ _=>simp only[slc,e]at h;exact h.elim|x9 _=>simp only[slc,e]at h;exact h.elim
 |_=>exact h.elim
def Cz{X:Cx}:bH X (.builtin "len") (λxs H Q=>∃a kvs,xs=[V.ref a]/\Rd H a (.dK kvs)/\Q (.int kvs.length) H):=by intro pins s σ H xs us Q I r h;obtain⟨a,kvs,rfl,ha,q⟩:=h;obtain⟨u,rfl,ru⟩:=vals1 r;cases ru;exact Rr I ha λt s' I'=>⟨.int kvs.length,H,I',⟨t,rfl⟩,q⟩
def E9(X:Cx)(f:Bi):List V->Hp->VK->Prop:=λxs H Q=>∃m r S ds,cS X.K m S H/\fR X.K m H ds xs/\tO X (rD X) (DT f ds S) m r H Q
def qZ{m:List ay}{H:Hp}{d:D}{xs:List V}(h:fR X.K m H [d] xs):∃x,xs=[x]/\RD X.K m H d x:=by
 obtain⟨v,r,rfl,h1,h2⟩:=h.cons_of;rw[h2.nil_of]
 simp_all
def Oc{m:List ay}{H:Hp}{d e:D}{xs:List V}(h:fR X.K m H [d,e] xs):∃x y,xs=[x,y]/\RD X.K m H d x/\RD X.K m H e y:=by obtain⟨v,r,rfl,h1,h2⟩:=h.cons_of;obtain⟨y,rfl,h3⟩:=qZ h2;exact⟨v,y,rfl,h1,h3⟩
theorem qg{f:D->bq->Ev D}{ds:List D}{S:bq}{m:List ay}{r:aC}{H:Hp}{Q:VK}(h:tO X (rD X) (F7 f ds S) m r H Q):∃a,ds=[a]/\tO X (rD X) (f a S) m r H Q:=by
 cases ds with
 |nil=>exact h.elim|cons a l=>
  cases l with|nil=>exact⟨a,rfl,h⟩|cons _ _=>exact h.elim
theorem CG{f:Int->Int->Int}{ds:List D}{S:bq}{m:List ay}{r:aC}{H:Hp}{Q:VK}{xs:List V}(sr:cS X.K m S H)(rs:fR X.K m H ds xs)(h:tO X (rD X) (QI f ds S) m r H Q):∃i j,xs=[.int i,.int j]/\Q (.int (f i j)) H:=by
 cases ds with
 |nil=>exact h.elim|cons a l=>
  cases l with
  |nil=>exact h.elim|cons b l=>
   cases l with
   |cons _ _=>exact h.elim|nil=>
    obtain⟨x,y,rfl,rx,ry⟩:=Oc rs;cases a with
    |int i=>
     cases b with|int j=>cases gc rx;cases gc ry;exact⟨i,j,rfl,h.fin sr cQ⟩|_=>exact h.elim
    |_=>exact h.elim
theorem Od:bH X (.builtin "len") (E9 X .len):=by
 intro pins s σ H xs us Q I rv h;obtain⟨m,r,S,ds,sr,rs,h⟩:=h;replace h:=qg (f:=p8) h;obtain⟨a,rfl,h⟩:=h;obtain⟨x,rfl,rx⟩:=qZ rs;unfold p8 at h;cases e2:bB S a with
 |some es=>rw[e2]at h;obtain⟨p,ys,rfl,hq,rs'⟩:=my sr rx e2;refine uo pins s σ H _ us Q I rv ⟨p,ys,rfl,hq,?_⟩;rw[←rs'.length];exact h.fin sr cQ
 |none=>
  rw[e2]at h;cases e3:cL S a with
  |some kvs=>simp only[e3]at h;obtain⟨n,p,vs,rfl,_,rfl,hp,hv⟩:=qd sr rx e3;exact Cz pins s σ H _ us Q I rv ⟨p,vs,rfl,hp,by rw[←hv.len];exact h.fin sr cQ⟩
  |none=>
   simp only[e3]at h;cases a with
   |str x=>
    by_cases hz:x.length<=aT
    ·simp only[if_pos hz]at h;cases CS rx;exact uq pins s σ H _ us Q I rv ⟨_,rfl,hz,h.fin sr cQ⟩
    ·simp only[if_neg hz]at h;exact h.elim
   |_=>exact h.elim
def Oe:bH X (.builtin "abs") (E9 X .abs):=by intro pins s σ H xs us Q I rv h;obtain⟨m,r,S,ds,sr,rs,h⟩:=h;exact h.elim
def Og:bH X (.type "int") (E9 X .int):=by intro pins s σ H xs us Q I rv h;obtain⟨m,r,S,ds,sr,rs,h⟩:=h;exact h.elim
end
end RK
namespace RK
open PySem L2 PySem.SeqAt PyProof.Rows
theorem insI_perm(x:Int):∀l:List Int,(insI x l).Perm (x::l)
 |[]=>mw _|y::r=>by
  unfold insI;split
  ·rfl
  ·exact((insI_perm x r).cons y).trans (xB x y r)
theorem sortI_perm:∀l:List Int,(sortI l).Perm l
 |[]=>mw _|x::r=>(insI_perm x _).trans ((sortI_perm r).cons x)
theorem oK(x:Int):∀l:List Int,l.Pairwise (·<=·)->(insI x l).Pairwise (·<=·)
 |[],_=>by simp[insI]|y::r,h=>by
  obtain⟨h1,h2⟩:=Vd.mp h;unfold insI;split
  ·rename_i hx;refine Vd.mpr ⟨λz hz=>?_,h⟩;rcases UJ.mp hz with rfl|hz
   ·exact hx
   ·exact zv hx (h1 z hz)
  ·rename_i hx;refine Vd.mpr ⟨λz hz=>?_,oK x r h2⟩;rcases UJ.mp ((insI_perm x r).mem_iff.mp hz)with rfl|hz
   ·lia
   ·exact h1 z hz
theorem mF:∀l:List Int,(sortI l).Pairwise (·<=·)
 |[]=>se|x::r=>oK x _ (mF r)
def o7{a b:List Int}(hp:a.Perm b)(ha:a.Pairwise (·<=·)):a=sortI b:=PySem.W.ksm_same (hp.trans (sortI_perm b).symm) ha (mF b)
theorem iz:∀{ds:List D}{ns:List Int},bf ds=af ns->ds=ns.map D.int
 |[],ns,h=>by
  have:ns=[]:=by simpa[bf]using h
  subst this;rfl
 |.int i::r,ns,h=>by
  simp only[bf]at h;cases e:bf r with
  |none=>simp_all|some ms=>
   rw[e]at h;have:i::ms=ns:=by simpa using h
   subst this;rw[iz e];rfl
 |.non::_,_,h=>by simp[bf]at h|.bl _::_,_,h=>by simp[bf]at h|.str _::_,_,h=>by simp[bf]at h|.tup _::_,_,h=>by simp[bf]at h|.lst _::_,_,h=>by simp[bf]at h|.AN _::_,_,h=>by simp[bf]at h|.ref _::_,_,h=>by simp[bf]at h|.B6 _::_,_,h=>by simp[bf]at h|.EC::_,_,h=>by simp[bf]at h
section
variable{X:Cx}
theorem gM{m:List ay}{H:Hp}:∀{ns:List Int}{vs:List V},fR X.K m H (ns.map D.int) vs->vs=ns.map V.int
 |[],vs,h=>h.nil_of|n::r,vs,h=>by obtain⟨v,t,rfl,h1,h2⟩:=fR.cons_of (d:=D.int n) (ds:=r.map D.int) h;rw[gc h1,gM h2];rfl
section
variable{prog:bX}{w:ck}{A:cy}{E:ai->aE->Prop}{s:aE}
def zN{a:ay}{xs:List ai}{Q:List ai->aE->Prop}(ht:IsTup s.heap a xs.toArray)(hz:xs.length<=aT)(q:Q xs {s with heap:=(s.heap.push (seqObj "list" #[] 0)).update s.heap.objs.size (Obj.mapSeq (·++xs.toArray))}):bg (model prog w) A (collect (.ref a)) Q E s:=by
 obtain⟨ob,e1,e2,k,e3⟩:=id ht;have e1':=Uv (seqObj "list" #[] 0) e1;have en:(s.heap.push (seqObj "list" #[] 0)).get? s.heap.objs.size=af (seqObj "list" #[] 0):=UW _ rfl;unfold collect;refine My (wpAny_runValue (Wz entry_proto_collect' ?_));refine My (m:=newList []) (wpAny_newList (Uw ⟨Code.quiet_builtin _ (by decide+kernel),Wz entry_list_iadd' ?_⟩));show bg _ _ (Builtin.List.listExtendWith (.ref s.heap.objs.size) (.ref a) (.ref s.heap.objs.size)) _ _ {s with heap:=s.heap.push (seqObj "list" #[] 0)};unfold Builtin.List.listExtendWith;refine My (Wy (T:= "tuple") ⟨ob,e1',e2⟩ ?_);have tt:(Value.type "tuple" ==Value.type "tuple")=true:=rfl;rw[if_pos (by rw[tt];simp)];refine My (listItems_at e1' e3 (My (listItems_at en rfl ?_)));rw[if_neg (by simp)];have hle:(#[]++xs.toArray).size<=aT+1:=by simp;lia
 refine My (listUpdate_at en rfl (Uw ?_) (Wx _) hle);refine My (wpAny_load (get?_update_seq en _) ?_);have e4:(#[]++xs.toArray).toList=xs:=by simp
 show bg (model prog w) A (pure (#[]++xs.toArray).toList) Q E _;rw[e4];exact Uw q
def zO{a:ay}{xs:List ai}{ns:List Int}{Q:ai->aE->Prop}(ht:IsTup s.heap a xs.toArray)(hi:IntsAre xs ns)(h64:xs.length<64)(h:∀(out:Array ai)(ms:List Int),IntsAre out.toList ms->ms.Perm ns->ms.Pairwise (·<=·)->Q (.ref (s.heap.objs.size+1)) {s with heap:=sortedAll s.heap xs out}):
  bg (model prog w) A (call (.builtin "sorted") [.ref a]) Q E s:=by
 have hle:xs.length<=sizeLine:=by rw[VL];lia
 refine Calls.call_function_entry kind_sorted plain_sorted entry_sorted (args_sorted1 _) ?_;unfold Builtin.«sorted»;refine My (m:=checkCount "sorted" 1 1 _) (Uw (My (zN ht hle (My (wpAny_newList ?_ hle)))));obtain⟨g,eg⟩:∃g,g=(s.heap.push (seqObj "list" #[] 0)).update s.heap.objs.size (Obj.mapSeq (·++xs.toArray)):=⟨_,rfl⟩
 have gz:g.objs.size=s.heap.objs.size+1:=by rw[eg];exact(Heap.size_update ..).trans (size_push' ..)
 rw[←eg,gz];have at_:(g.push (seqObj "list" xs.toArray 0)).get? (s.heap.objs.size+1)=af (seqObj "list" xs.toArray 0):=by rw[←gz];exact UW _ rfl
 refine My (VB (VV (s:={s with heap:=g.push (seqObj "list" xs.toArray 0)}) slot_list_sort ⟨_,at_,rfl⟩ entry_list_sort (list_sort_tree at_ hi h64 λout ms a1 a2 a3=>⟨_,rfl,?_⟩) (args_list_sort _)));have q:=h out ms a1 a2 a3;unfold sortedAll at q;rw[←eg]at q;exact Uw ⟨_,rfl,q⟩
end
def o8:bH X (.builtin "sorted") (λxs H Q=>∃p ns,xs=[.ref p]/\xy X.K H p (ns.map V.int)/\ns.length<64/\∀l,H l=ah->Q (.ref l) (upd H l (.lst ((sortI ns).map V.int)))):=by
 intro pins s σ H xs us Q I rv h;obtain⟨p,ns,rfl,hq,h64,q⟩:=h;obtain⟨u,rfl,ru⟩:=vals1 rv;cases ru;obtain⟨its,r',pl,hz⟩:=I.list hq;have hi:IntsAre its ns:=intsAre_of r';refine sorted_ints pl.isList hi (by rw[hi.length];exact h64) λout ns' a1 a2 a3=>?_;obtain⟨e,he⟩:=sortedAll_at s.heap its out;have hs:ns'=sortI ns:=o7 a2 a3;subst hs;have hf:H (s.heap.objs.size+1)=none:=I.hok.fresh (Wt _);refine⟨.ref (s.heap.objs.size+1),_,I.laid (t':=s.toks) (o:= .lst ((sortI ns).map V.int)) (λb o e=>sortedAll_old e) (Wt _) ?_,rfl,q _ hf⟩;refine⟨?_,out.toList,e,iU a1,?_⟩
 ·rw[UG,a2.length_eq,VL];lia
 ·rw[he]
def oE:bH X (.builtin "sorted") (λxs H Q=>∃p ns,xs=[.ref p]/\sR X.K H p (ns.map V.int)/\ns.length<64/\∀l,H l=ah->Q (.ref l) (upd H l (.lst ((sortI ns).map V.int)))):=by
 intro pins s σ H xs us Q I rv h;obtain⟨p,ns,rfl,hq,h64,q⟩:=h;obtain⟨u,rfl,ru⟩:=vals1 rv;cases ru;obtain⟨its,r',pl,hz⟩:=I.tuple hq;have hi:IntsAre its ns:=intsAre_of r';refine zO pl hi (by rw[hi.length];exact h64) λout ms a1 a2 a3=>?_;obtain⟨e,he⟩:=sortedAll_at s.heap its out;have hs:ms=sortI ns:=o7 a2 a3;subst hs;refine⟨.ref (s.heap.objs.size+1),_,I.laid (t':=s.toks) (o:= .lst ((sortI ns).map V.int)) (λb o e=>sortedAll_old e) (Wt _) ?_,rfl,q _ (I.hok.fresh (Wt _))⟩;refine⟨?_,out.toList,e,iU a1,?_⟩
 ·rw[UG,a2.length_eq,VL];lia
 ·rw[he]
def gq(lo hi:Int):List V:=(dc (hi - lo).toNat).map λ(i:Nat)=>V.int (lo+(i:Int))
def CJ{m:List ay}{H:Hp}(lo hi:Int):fR X.K m H (cA lo hi) (gq lo hi):=by
 have e1:cA lo hi=((dc (hi - lo).toNat).map λ(i:Nat)=>lo+(i:Int)).map D.int:=by simp[cA]
 have e2:gq lo hi=((dc (hi - lo).toNat).map λ(i:Nat)=>lo+(i:Int)).map V.int:=by simp[gq]
 rw[e1,e2];exact dJ
def zP{lo hi:Int}{acc:Array ai}(h:ItemsOf (λi v=>∃t,v= .int (lo+i*1) t) acc (hi - lo).toNat):Vals (gq lo hi) acc.toList:=by
 have key:∀(n:Nat)(l:List ai)(k:Nat),l.length=n->(∀(j:Nat) v,l[j]?=af v->∃t,v=Value.int (lo+((k+j:Nat):Int)) t)->Vals ((rq k n).map λ(i:Nat)=>V.int (lo+(i:Int))) l:=by
  intro n
  induction n with
  |zero=>intro l k hl _;have:l=[]:=Xd.mp hl;subst this;exact .nil|succ n ih=>
   intro l k hl hv;cases l with
   |nil=>simp at hl|cons x r=>obtain⟨t,e⟩:=hv 0 x rfl;subst e;refine .cons ⟨t,by simp⟩ (ih r (k+1) (by simpa using hl) λj v hj=>?_);obtain⟨t,e⟩:=hv (j+1) v (by simpa using hj);exact⟨t,by rw[e];congr 2;lia⟩
 have:=key (hi - lo).toNat acc.toList 0 (by rw[V9];exact h.1) (λj v hj=>by
  obtain⟨t,e⟩:=h.2 j v (by simpa using hj)
  simp_all)
 rw[←p9]at this;exact this
def Oh(lo hi:Int):Prop:= -(2^62)<=lo/\lo<2^62/\ -(2^62)<=hi/\hi<2^62
def Rz{lo hi:Int}:Builtin.Range.rangeSize lo hi 1=((hi - lo).toNat:Int):=by rw[rangeSize_one];split<;>lia
def tX(hc:X.calm=av):bH X (.type "list") (λxs H Q=>∃p lo hi,xs=[.ref p]/\H p=af (.A8 lo hi)/\Oh lo hi/\(gq lo hi).length<=aT/\∀l,H l=ah->Q (.ref l) (upd H l (.lst (gq lo hi)))):=by
 intro pins s σ H xs us Q I rv h;obtain⟨p,lo,hi,rfl,hp,⟨b1,b2,b3,b4⟩,hz,q⟩:=h;obtain⟨u,rfl,ru⟩:=vals1 rv;cases ru;obtain⟨t,u,v,e⟩:=(show bG X.prog X.w H s.heap p (.A8 lo hi)from I.hok p _ hp)
 have hz':(hi - lo).toNat<=2^24:=by rw[gq,UG,zI,VL]at hz;exact hz
 refine call_list_range (n:=(hi - lo).toNat) (I.ok.hd hc) (show IsRange s.heap p lo hi 1 t u v from e) (small_one b1 b2 b3 b4) Rz hz' λh' tk acc' c' hk hS hacc=>?_;refine⟨.ref s.heap.objs.size,_,I.laid (t':=tk) (o:= .lst (gq lo hi)) hk (Uz _) ?_,rfl,q _ I.fresh⟩;exact⟨hz,acc'.toList,c',zP hacc,by rw[hS]⟩
theorem CK{a:br}{ta:TA}{p pos:Pos}(hg:Gl X "range")(hm:X.mg "range" =ah)(ha:PA X [a] ta)(hs:starEach [a] X.env=[(aS,eval a X.env)]:=by rfl):
  PE X (.Call (.Name "range" p) [a] [] pos) (λσ H Q=>ta σ H λvs H1=>∃j:Int,vs=[.int j]/\∀l,H1 l=ah->Q (.ref l) (upd H1 l (.A8 0 j))):=by
 intro pins s σ H Q I h;refine Call_ (jT I hg hm boot_range (WP (ja (ha pos pins s σ H _ I h) λus s1 zz=>?_) hs rfl));obtain⟨vs,H1,I1,r1,q1⟩:=zz;obtain⟨j,e,q⟩:=q1;subst e;cases r1 with
 |cons r rr=>cases rr;obtain⟨t,rfl⟩:=r;refine call_range_1 ?_;exact⟨.ref s1.heap.objs.size,_,I1.laid (o:= .A8 0 j) (λb o e=>Uv _ e) (Uz _) ⟨_,_,_,UW _ rfl⟩,rfl,q _ I1.fresh⟩
end
def iW{α β γ:Type}(x:Ev α)(f:α->bq->Ev β)(g:β->bq->Ev γ):bnd (bnd x f) g=bnd x λa S=>bnd (f a S) g:=by
 cases x with|none=>rfl|some o=>cases o<;>rfl
section
variable{X:Cx}{cl:Nat->List D->bq->Ev D}{a b c:br}{a' b' c':E}{t t':T}{es:List br}{es':List E}{pos p:Pos}
abbrev JE(X:Cx)(cl:Nat->List D->bq->Ev D)(e:br)(e':E):Prop:=PE X e (tM X (rD X) (ak cl e'))
abbrev JT(X:Cx)(cl:Nat->List D->bq->Ev D)(e:br)(t:T):Prop:=PT X e (tM X rB (bu cl t))
abbrev JW(X:Cx)(cl:Nat->List D->bq->Ev D)(e:br)(t:T):Prop:=PW X e (tM X rB (bu cl t))
abbrev JA(X:Cx)(cl:Nat->List D->bq->Ev D)(es:List br)(es':List E):Prop:=PA X es (tM X (Lv X) (aG cl es'))
theorem CN{i:Nat}{x:Str}(hN:X.N[i]?=af x)(hv:KO X.env.scope x)(hd:(x==("__debug__" :Str))=aS)(hcd:(x==("__classdict__" :Str))=aS):JE X cl (.Name x pos) (.var i):=by
 refine PE.imp (Ms hN hv hd hcd) λσ H Q h=>?_;refine tM.el h λm r S er sr h=>?_;replace h:tO X (rD X) (match(r[i]?).join with|some d=>fz d S|none=>ah) m r H Q:=h;cases e:(r[i]?).join with
 |none=>rw[e]at h;exact h.elim|some d=>
  rw[e]at h;have e':r[i]?=af (af d):=by
   cases q:r[i]? with|none=>simp_all|some o=>simp_all
  obtain⟨v,h1,h2⟩:=er.get i d e';exact⟨v,h1,h.fin sr h2⟩
def CP{i:Int}{j:Nat}:JE X cl (.Constant (.int i) j pos) (.cst (.int i)):=
 PE.imp Mu λσ H Q z=>bW z λm r S er sr h=>tO.fin (v:=V.int i) (h:tO X (rD X) (fz (.int i) S) m r H Q) sr cQ
def Ji{i:Bool}{j:Nat}:JE X cl (.Constant (.bool i) j pos) (.cst (.bl i)):=
 PE.imp QV λσ H Q z=>bW z λm r S er sr h=>tO.fin (v:=V.bl i) (h:tO X (rD X) (fz (.bl i) S) m r H Q) sr gU
def CQ{j:Nat}:JE X cl (.Constant .none j pos) (.cst .non):=
 PE.imp Mw λσ H Q z=>bW z λm r S er sr h=>tO.fin (v:=V.non) (h:tO X (rD X) (fz .non S) m r H Q) sr jY
def CT{i:Str}{j:Nat}:JE X cl (.Constant (.str i) j pos) (.cst (.str i)):=
 PE.imp Bw λσ H Q z=>bW z λm r S er sr h=>tO.fin (v:=V.str i) (h:tO X (rD X) (fz (.str i) S) m r H Q) sr N8
def G5{x:Str}{i:Int}{u:ai}(hg:Gl X x)(hm:X.mg x=af u)(hu:∃t,u= .int i t)(hd:(x==("__debug__" :Str))=aS):JE X cl (.Name x pos) (.cst (.int i)):=
 PE.imp (JC (v:= .int i) hg hm hu hd) λσ H Q z=>bW z λm r S er sr h=>tO.fin (v:=V.int i) (h:tO X (rD X) (fz (.int i) S) m r H Q) sr cQ
def Oi{o:Operator}(ha:JE X cl a a')(hb:JE X cl b b'):JE X cl (.BinOp a o b pos) (.bin o a' b'):=by refine PE.imp (Ra (Oa o) ha hb) λσ H Q h=>?_;refine tM.el h λm r S er sr h=>?_;have h:tO X (rD X) (bnd (ak cl a' r S) λx S1=>bnd (ak cl b' r S1) λy S2=>binop o x y S2) m r H Q:=h;refine⟨m,r,S,er,sr,h.bnd.mono λv H1 zz=>?_⟩;refine aR zz λm1 x S1 st1 fh rx h1=>?_;refine⟨m1,r,S1,er.step st1,fh,h1.bnd.mono λu H2 zz=>?_⟩;refine aR zz λm2 y S2 st2 ow ry h2=>?_;exact⟨m2,r,S2,x,y,ow,rx.step st2,ry,h2⟩
def Oj(ha:JE X cl a a'):JE X cl (.UnaryOp .USub a pos) (.neg a'):=by
 refine PE.imp (Rb Nj ha) λσ H Q h=>?_;refine tM.el h λm r S er sr h=>?_;have h:tO X (rD X) (bnd (ak cl a' r S) λx S1=>match x with|.int i=>fz (.int (-i)) S1|_=>ah) m r H Q:=h;refine⟨m,r,S,er,sr,h.bnd.mono λv H1 zz=>?_⟩;refine aR zz λm1 x S1 st1 fh rx h1=>?_;cases x with|int i=>exact⟨i,gc rx,h1.fin fh cQ⟩|_=>exact h1.elim
def Ol{o:CmpOp}(hu:X.A.units+66<cLine)(ha:JE X cl a a')(hb:JE X cl b b')(hm:behindInMarks o b=aS):JE X cl (.Compare a [o] [b] pos) (.cmp o a' b'):=by refine PE.imp (JR (Cw hu o) ha hb hm) λσ H Q h=>?_;refine tM.el h λm r S er sr h=>?_;have h:tO X (rD X) (bnd (ak cl a' r S) λx S1=>bnd (ak cl b' r S1) λy S2=>kM o x y S2) m r H Q:=h;refine⟨m,r,S,er,sr,h.bnd.mono λv H1 zz=>?_⟩;refine aR zz λm1 x S1 st1 fh rx h1=>?_;refine⟨m1,r,S1,er.step st1,fh,h1.bnd.mono λu H2 zz=>?_⟩;refine aR zz λm2 y S2 st2 ow ry h2=>?_;exact⟨m2,r,S2,x,y,ow,rx.step st2,ry,h2⟩
theorem RB{α β:Type}{R:RR α β}{o:CmpOp}{x y:D}{S:bq}{m:List ay}{r:aC}{H:Hp}{k:D->bq->Ev α}{Q:β->Hp->Prop}(h:tO X R (bnd (kM o x y S) k) m r H Q):
  tO X (rD X) (kM o x y S) m r H λv H'=>∃c m1 S1,v= .bl c/\fq m m1 H H'/\cS X.K m1 S1 H'/\tO X R (k (.bl c) S1) m1 r H' Q:=by
 cases e:kM o x y S with
 |none=>rw[e]at h;exact h|some oo=>
  rw[e]at h;cases oo with
  |exc c S'=>exact(Cy e).elim|ok d S'=>obtain⟨c,rfl⟩:=GZ e;intro m1 H1 v st sr rd;exact⟨c,m1,S',BA rd,st,sr,tO.step (h:tO X R (k (.bl c) S') m r H Q) st⟩
def Om{o:CmpOp}(hu:X.A.units+66<cLine)(ha:JE X cl a a')(hb:JE X cl b b')(hm:behindInMarks o b=aS):JT X cl (.Compare a [o] [b] pos) (.val (.cmp o a' b')):=by refine PT.imp (JV (Cw hu o) ha hb hm) λσ H Q h=>?_;refine tM.el h λm r S er sr h=>?_;have h:tO X rB (bnd (bnd (ak cl a' r S) λx S1=>bnd (ak cl b' r S1) λy S2=>kM o x y S2) λx S1=>zG (truth S1 x) S1) m r H Q:=h;rw[iW]at h;refine⟨m,r,S,er,sr,h.bnd.mono λv H1 zz=>?_⟩;refine aR zz λm1 x S1 st1 fh rx h1=>?_;rw[iW]at h1;refine⟨m1,r,S1,er.step st1,fh,h1.bnd.mono λu H2 zz=>?_⟩;refine aR zz λm2 y S2 st2 ow ry h2=>?_;refine⟨m2,r,S2,x,y,ow,rx.step st2,ry,(RB h2).mono λw H3 zz=>?_⟩;obtain⟨c,m3,S3,e,st3,EF,h3⟩:=zz;exact⟨c,e,tO.fin (v:=c) (h3:tO X rB (fz c S3) m3 r H3 Q) EF rfl⟩
theorem CV{m:List ay}{S:bq}{H:Hp}{d:D}{v:V}{k:Bool}(sr:cS X.K m S H)(rd:RD X.K m H d v)(h:truth S d=af k):zm X.K v H k:=by
 have N4:∀{ds:List D}{vs:List V},fR X.K m H ds vs->(!ds.isEmpty)=!vs.isEmpty:=λ{ds vs} r=>by
  have:=r.length
  grind
 cases d with
 |non=>cases AV rd;exact(Ux h).symm|bl b=>cases BA rd;exact(Ux h).symm|int i=>cases gc rd;exact(Ux h).symm|str x=>
  cases CS rd;replace h:(if x.length<=aT then af ((x.length:Int) !=0)else ah)=af k:=h;by_cases hz:x.length<=aT
  ·rw[if_pos hz]at h;exact⟨hz,(Ux h).symm⟩
  simp_all
 |tup ds=>obtain⟨a,vs,rfl,hq,rs⟩:=dD rd;have e:(!ds.isEmpty)=k:=Ux h;exact .inr (.inl ⟨vs,hq,by rw[←e,N4 rs]⟩)
 |lst ds=>obtain⟨a,vs,rfl,hq,_,rs⟩:=gn rd;have e:(!ds.isEmpty)=k:=Ux h;exact .inl ⟨vs,xy.of hq,by rw[←e,N4 rs]⟩
 |ref n=>
  obtain⟨a,rfl,hk⟩:=cg rd;replace h:(match S[n]? with|some (.lst ds)=>af (!ds.isEmpty)|_=>ah)=af k:=h;cases e:S[n]? with
  |none=>simp_all|some o=>
   rw[e]at h;cases o with
   |lst ds=>
    obtain⟨a',vs,h1,h2,h3⟩:=sr.lst e;rw[hk]at h1;have ea:a=a':=by simpa using h1
    subst ea;have e':(!ds.isEmpty)=k:=Ux h;exact .inl ⟨vs,xy.of h2,by rw[←e',N4 h3]⟩
   |dct kvs=>cases h|ins _ _=>cases h|x9 _=>cases h
 |_=>cases h
def Kg{ta:TE}(ha:PE X a ta):PE X (.UnaryOp .Not a pos) (λσ H Q=>ta σ H λv H1=>∃k,zm X.K v H1 k/\Q (.bl (!k)) H1):=by intro pins s σ H Q I h;refine UnaryOp_ (ja (ha pins s σ H _ I h) λv s1 zz=>?_);obtain⟨x,H1,I1,r1,k,tv,q1⟩:=zz;refine not_of (VH (BP pins s1 σ H1 x v (λc H2=>Q (.bl (!c)) H2) I1 r1 ⟨k,tv,q1⟩) (λc s' z=>?_) λ_ _ e=>e);obtain⟨H',I',q'⟩:=z;exact⟨.bl (!c),H',I',rfl,q'⟩
def CW(ha:JE X cl a a'):JE X cl (.UnaryOp .Not a pos) (.nt a'):=by
 refine PE.imp (Kg ha) λσ H Q h=>?_;refine tM.el h λm r S er sr h=>?_;have h:tO X (rD X) (bnd (ak cl a' r S) λx S1=>match truth S1 x with|some b=>fz (.bl (!b)) S1|none=>ah) m r H Q:=h;refine⟨m,r,S,er,sr,h.bnd.mono λv H1 zz=>?_⟩;refine aR zz λm1 x S1 st1 fh rx h1=>?_;cases e:truth S1 x with|none=>rw[e]at h1;exact h1.elim|some k=>rw[e]at h1;exact⟨k,CV fh rx e,tO.fin (h1:tO X (rD X) (fz (.bl (!k)) S1) m1 r H1 Q) fh gU⟩
def CZ(ha:JE X cl a a')(he:∀whole,isTrue a X.env whole=(do let v ←whole;standAt a.pos;holding [v] (truthy v))):JT X cl a (.val a'):=by
 refine PT.imp (Gz ha he) λσ H Q h=>?_;refine tM.el h λm r S er sr h=>?_;have h:tO X rB (bnd (ak cl a' r S) λx S1=>zG (truth S1 x) S1) m r H Q:=h;refine⟨m,r,S,er,sr,h.bnd.mono λv H1 zz=>?_⟩;refine aR zz λm1 x S1 st1 fh rx h1=>?_;cases e:truth S1 x with|none=>rw[e]at h1;exact h1.elim|some k=>rw[e]at h1;exact⟨k,CV fh rx e,tO.fin (v:=k) (h1:tO X rB (fz k S1) m1 r H1 Q) fh rfl⟩
def xN(ha:JT X cl a t):JW X cl (.BoolOp .And [a] pos) t:=JF ha
def Oo(ha:JT X cl a t):JW X cl (.BoolOp .Or [a] pos) t:=Mx ha
def Dc(ha:JT X cl a t)(hb:JW X cl (.BoolOp .And (b::es) pos) t'):JW X cl (.BoolOp .And (a::b::es) pos) (.and t t'):=by
 refine PW.imp (Mz ha hb) λσ H Q h=>?_;refine tM.el h λm r S er sr h=>?_;have h:tO X rB (bnd (bu cl t r S) λx S1=>if x then bu cl t' r S1 else fz aS S1) m r H Q:=h;refine⟨m,r,S,er,sr,h.bnd.mono λv H1 zz=>?_⟩;refine aR zz λm1 x S1 st1 fh rx h1=>?_;have rx:x=v:=rx;subst rx;cases x with|true=>rw[if_pos rfl];exact⟨m1,r,S1,er.step st1,fh,h1⟩|false=>rw[if_neg (by simp)];exact tO.fin (v:=aS) (h1:tO X rB (fz aS S1) m1 r H1 Q) fh rfl
def RC(ha:JT X cl a t)(hb:JW X cl (.BoolOp .Or (b::es) pos) t'):JW X cl (.BoolOp .Or (a::b::es) pos) (.or t t'):=by
 refine PW.imp (QW ha hb) λσ H Q h=>?_;refine tM.el h λm r S er sr h=>?_;have h:tO X rB (bnd (bu cl t r S) λx S1=>if x then fz av S1 else bu cl t' r S1) m r H Q:=h;refine⟨m,r,S,er,sr,h.bnd.mono λv H1 zz=>?_⟩;refine aR zz λm1 x S1 st1 fh rx h1=>?_;have rx:x=v:=rx;subst rx;cases x with|false=>rw[if_neg (by simp)];exact⟨m1,r,S1,er.step st1,fh,h1⟩|true=>rw[if_pos rfl];exact tO.fin (v:=av) (h1:tO X rB (fz av S1) m1 r H1 Q) fh rfl
def Dd(ha:JT X cl a t):JT X cl (.UnaryOp .Not a pos) (.nt t):=by refine PT.imp (MF ha) λσ H Q h=>?_;refine tM.el h λm r S er sr h=>?_;have h:tO X rB (bnd (bu cl t r S) λx S1=>fz (!x) S1) m r H Q:=h;refine⟨m,r,S,er,sr,h.bnd.mono λv H1 zz=>?_⟩;refine aR zz λm1 x S1 st1 fh rx h1=>?_;have rx:x=v:=rx;subst rx;exact tO.fin (v:=!x) h1 fh rfl
def De{o:BoolOp}(ha:JE X cl a a'):JE X cl (.BoolOp o [a] pos) a':=MJ ha
theorem Df(ha:JE X cl a a')(hb:JE X cl (.BoolOp .And (b::es) pos) b'):JE X cl (.BoolOp .And (a::b::es) pos) (.and a' b'):=by
 refine PE.imp (MK ha hb) λσ H Q h=>?_;refine tM.el h λm r S er sr h=>?_;have h:tO X (rD X) (bnd (ak cl a' r S) λx S1=>match x with|.bl av=>ak cl b' r S1|.bl aS=>fz (.bl aS) S1|_=>ah) m r H Q:=h;refine⟨m,r,S,er,sr,h.bnd.mono λv H1 zz=>?_⟩;refine aR zz λm1 x S1 st1 fh rx h1=>?_;cases x with
 |bl i=>
  refine⟨i,BA rx,?_⟩;cases i with|true=>rw[if_pos rfl];exact⟨m1,r,S1,er.step st1,fh,h1⟩|false=>rw[if_neg (by simp)];exact tO.fin (v:=V.bl aS) (h1:tO X (rD X) (fz (.bl aS) S1) m1 r H1 Q) fh gU
 |_=>exact h1.elim
theorem RG(ha:JE X cl a a')(hb:JE X cl (.BoolOp .Or (b::es) pos) b'):JE X cl (.BoolOp .Or (a::b::es) pos) (.or a' b'):=by
 refine PE.imp (QZ ha hb) λσ H Q h=>?_;refine tM.el h λm r S er sr h=>?_;have h:tO X (rD X) (bnd (ak cl a' r S) λx S1=>match x with|.bl av=>fz (.bl av) S1|.bl aS=>ak cl b' r S1|_=>ah) m r H Q:=h;refine⟨m,r,S,er,sr,h.bnd.mono λv H1 zz=>?_⟩;refine aR zz λm1 x S1 st1 fh rx h1=>?_;cases x with
 |bl i=>
  refine⟨i,BA rx,?_⟩;cases i with|false=>rw[if_neg (by simp)];exact⟨m1,r,S1,er.step st1,fh,h1⟩|true=>rw[if_pos rfl];exact tO.fin (v:=V.bl av) (h1:tO X (rD X) (fz (.bl av) S1) m1 r H1 Q) fh gU
 |_=>exact h1.elim
def Oq(hc:JT X cl c t)(ha:JE X cl a a')(hb:JE X cl b b'):JE X cl (.IfExp c a b pos) (.ite t a' b'):=by
 refine PE.imp (Gr hc ha hb) λσ H Q h=>?_;refine tM.el h λm r S er sr h=>?_;have h:tO X (rD X) (bnd (bu cl t r S) λx S1=>if x then ak cl a' r S1 else ak cl b' r S1) m r H Q:=h;refine⟨m,r,S,er,sr,h.bnd.mono λv H1 zz=>?_⟩;refine aR zz λm1 x S1 st1 fh rx h1=>?_;have rx:x=v:=rx;subst rx;cases x with|true=>rw[if_pos rfl];exact⟨m1,r,S1,er.step st1,fh,h1⟩|false=>rw[if_neg (by simp)];exact⟨m1,r,S1,er.step st1,fh,h1⟩
def Ot:JA X cl [] []:=
 PA.imp gQ λσ H Q z=>bW z λm r S er sr h=>tO.fin (v:=([]:List V)) (h:tO X (Lv X) (fz [] S) m r H Q) sr fR.nil
def Kh(ha:JE X cl a a')(hr:JA X cl es es')(hs:starEach (a::es) X.env=(aS,eval a X.env)::starEach es X.env):JA X cl (a::es) (a'::es'):=by refine PA.imp (fH ha hr hs) λσ H Q h=>?_;refine tM.el h λm r S er sr h=>?_;have h:tO X (Lv X) (bnd (ak cl a' r S) λd S1=>bnd (aG cl es' r S1) λds S2=>fz (d::ds) S2) m r H Q:=h;refine⟨m,r,S,er,sr,h.bnd.mono λv H1 zz=>?_⟩;refine aR zz λm1 x S1 st1 fh rx h1=>?_;refine⟨m1,r,S1,er.step st1,fh,h1.bnd.mono λu H2 zz=>?_⟩;refine aR zz λm2 y S2 st2 ow ry h2=>?_;exact h2.fin ow (fR.cons (rx.step st2) ry)
def Ou{k:Nat}(h:JA X cl es es'):JE X cl (.Tuple es k pos) (.tup es'):=by refine PE.imp (Np h) λσ H Q h=>?_;refine tM.el h λm r S er sr h=>?_;have h:tO X (rD X) (bnd (aG cl es' r S) λds S1=>E8 ds S1) m r H Q:=h;exact⟨m,r,S,er,sr,h.bnd.mono λv H1 z=>aR z λm1 x S1 st1 fh rx h1=>xH fh rx h1⟩
def Ov{mu:Bool}(h:JA X cl es es'):JE X cl (.List es pos) (.lst mu es'):=by refine PE.imp (Nq h) λσ H Q h=>?_;refine tM.el h λm r S er sr h=>?_;have h:tO X (rD X) (bnd (aG cl es' r S) λds S1=>A3 mu ds S1) m r H Q:=h;exact⟨m,r,S,er,sr,h.bnd.mono λv H1 z=>aR z λm1 x S1 st1 fh rx h1=>dO fh rx h1⟩
def RJ(hu:X.A.units+66<cLine)(ha:JE X cl a a')(hb:JE X cl b b')(hs:xj b):JE X cl (.Subscript a b pos) (.ix a' b'):=by refine PE.imp (Ro (Kc (by lia)) ha hb hs) λσ H Q h=>?_;refine tM.el h λm r S er sr h=>?_;have h:tO X (rD X) (bnd (ak cl a' r S) λx S1=>bnd (ak cl b' r S1) λy S2=>IQ x y S2) m r H Q:=h;refine⟨m,r,S,er,sr,h.bnd.mono λv H1 zz=>?_⟩;refine aR zz λm1 x S1 st1 fh rx h1=>?_;refine⟨m1,r,S1,er.step st1,fh,h1.bnd.mono λu H2 zz=>?_⟩;refine aR zz λm2 y S2 st2 ow ry h2=>?_;exact⟨m2,r,S2,x,y,ow,rx.step st2,ry,h2⟩
def Ow:JE X cl (.Dict [] [] pos) .dct:=by refine PE.imp GQ λσ H Q h=>?_;refine tM.el h λm r S er sr h=>?_;have h:tO X (rD X) (fz (.ref S.length) (S++ [.dct []])) m r H Q:=h;exact λp hp=>h.fin' (fq.push sr hp _) (sr.Lu hp) (Cv (by rw[←sr.len];simp))
def Ox{p2:Pos}(ha:JE X cl a a')(hb:JE X cl b b'):JE X cl (.Subscript a (.Slice (af b) ah ah p2) pos) (.GW a' b'):=by
 refine PE.imp (oX G4 ha (nJ hb) xf) λσ H Q h=>?_;refine tM.el h λm r S er sr h=>?_;have h:tO X (rD X) (bnd (ak cl a' r S) λx S1=>bnd (ak cl b' r S1) λy S2=>match y with|.int i=>slc x (af i) ah S2|_=>ah) m r H Q:=h;refine⟨m,r,S,er,sr,h.bnd.mono λv H1 zz=>?_⟩;refine aR zz λm1 x S1 st1 fh rx h1=>?_;refine⟨m1,r,S1,er.step st1,fh,h1.bnd.mono λu H2 zz=>?_⟩;refine aR zz λm2 y S2 st2 ow ry h2=>?_;cases y with|int i=>exact⟨i,gc ry,m2,r,S2,x,ow,rx.step st2,h2⟩|_=>exact h2.elim
def Oz{p2:Pos}(ha:JE X cl a a')(hb:JE X cl b b'):JE X cl (.Subscript a (.Slice ah (af b) ah p2) pos) (.DB a' b'):=by
 refine PE.imp (oX G4 ha xf (nJ hb)) λσ H Q h=>?_;refine tM.el h λm r S er sr h=>?_;have h:tO X (rD X) (bnd (ak cl a' r S) λx S1=>bnd (ak cl b' r S1) λy S2=>match y with|.int i=>slc x ah (af i) S2|_=>ah) m r H Q:=h;refine⟨m,r,S,er,sr,h.bnd.mono λv H1 zz=>?_⟩;refine aR zz λm1 x S1 st1 fh rx h1=>?_;refine⟨m1,r,S1,er.step st1,fh,h1.bnd.mono λu H2 zz=>?_⟩;refine aR zz λm2 y S2 st2 ow ry h2=>?_;cases y with|int i=>exact⟨i,gc ry,m2,r,S2,x,ow,rx.step st2,h2⟩|_=>exact h2.elim
theorem Kl{p2:Pos}(ha:JE X cl a a')(hb:JE X cl b b')(hc:JE X cl c c'):JE X cl (.Subscript a (.Slice (af b) (af c) ah p2) pos) (.ED a' b' c'):=by
 refine PE.imp (oX G4 ha (nJ hb) (nJ hc)) λσ H Q h=>?_;refine tM.el h λm r S er sr h=>?_;have h:tO X (rD X) (bnd (ak cl a' r S) λx S1=>bnd (ak cl b' r S1) λy S2=>match y with|.int i=>bnd (ak cl c' r S2) λz S3=>(match z with|.int j=>slc x (af i) (af j) S3|_=>ah)|_=>ah) m r H Q:=h;refine⟨m,r,S,er,sr,h.bnd.mono λv H1 zz=>?_⟩;refine aR zz λm1 x S1 st1 fh rx h1=>?_;refine⟨m1,r,S1,er.step st1,fh,h1.bnd.mono λu H2 zz=>?_⟩;refine aR zz λm2 y S2 st2 ow ry h2=>?_;cases y with
 |int i=>
  have h2:tO X (rD X) (bnd (ak cl c' r S2) λz S3=>(match z with|.int j=>slc x (af i) (af j) S3|_=>ah)) m2 r H2 Q:=h2;refine⟨i,gc ry,m2,r,S2,(er.step st1).step st2,ow,h2.bnd.mono λw H3 zz=>?_⟩;refine aR zz λm3 z S3 st3 EF rz h3=>?_;cases z with|int j=>exact⟨j,gc rz,m3,r,S3,x,EF,(rx.step st2).step st3,h3⟩|_=>exact h3.elim
 |_=>exact h2.elim
end
end RK
namespace RK
open PySem PySem.W PyProof.Rows
section
variable{O:KeyOrd}{key:Nat->O.α}{n:Nat}{p:Array Nat}
abbrev aF(key:Nat->O.α)(p:Array Nat)(i:Nat):O.α:=key (p.getD i 0)
abbrev CC(key:Nat->O.α)(i j:Nat):Bool:=O.blt (key i) (key j)
def aX(n:Nat)(p:Array Nat):Prop:=p.Perm (dc n).toArray
def zw(key:Nat->O.α)(p:Array Nat)(a b:Nat):Prop:=∀i j,a<=i->i<=j->j<b->O.kle (aF key p i) (aF key p j)
def IS(key:Nat->O.α)(p:Array Nat)(a b:Nat):Prop:=∀i j,a<=i->i<=j->j<b->O.kle (aF key p j) (aF key p i)
theorem aX.size(h:aX n p):p.size=n:=by have:=h.size_eq;simpa using this
def aX.lt(h:aX n p){i:Nat}(hi:i<n):p.getD i 0<n:=by
 have hs:i<p.size:=by rw[h.size];exact hi
 have e:p.getD i 0=p[i]:=by simp[qf,hs]
 rw[e];have:=(Wg.mp h).mem_iff.mp (show p[i]∈p.toList by simp);simpa using this
def iB{p q:Array Nat}{i j:Nat}(h:p[i]?=q[j]?):p.getD i 0=q.getD j 0:=by simp_all
def Km{i j:Nat}(hj:j<=p.size)(k:Nat):aF key (kas_rev p i j) k=if i<=k/\k<j then aF key p (i+j - 1 - k)else aF key p k:=by
 have e:=getElem?_mirror_all (xs:=p) (i:=i) hj k;unfold kas_rev aF;by_cases h:i<=k/\k<j
 ·rw[if_pos h]at e ⊢;rw[iB e]
 ·rw[if_neg h]at e ⊢;rw[iB e]
def G6{src d:Nat}(hs:src<p.size)(hd:d<=src)(k:Nat):aF key (bubble p src d) k=if k=src - d then aF key p src else if src - d<k/\k<=src then aF key p (k - 1)else aF key p k:=by
 have e:=getElem?_bubble hs d hd k;unfold aF;by_cases h1:k=src - d
 ·rw[if_pos h1]at e ⊢;rw[iB e]
 ·rw[if_neg h1]at e ⊢;by_cases h2:src - d<k/\k<=src
  ·simp_all
  ·rw[if_neg h2]at e ⊢;rw[iB e]
def aX.rev(h:aX n p)(i j:Nat):aX n (kas_rev p i j):=(mirror_perm _ _ _ _).trans h
def aX.down(h:aX n p)(i j:Nat):aX n (bubble p i j):=(bubble_perm _ _ _).trans h
def zw.same{q:Array Nat}{a b:Nat}(h:zw key p a b)(e:∀k,k<b->aF key q k=aF key p k):zw key q a b:=λi j h0 h1 h2=>by rw[e _ (by lia),e _ h2];exact h i j h0 h1 h2
def OD{a:Nat}:zw key p a (a+1):=λi j h0 h1 h2=>by
 have e:i=j:=by lia
 subst e;exact WT _
def Ko{a m:Nat}(hm:1<=m)(h:zw key p a (a+m))(hl:O.kle (aF key p (a+m - 1)) (aF key p (a+m))):zw key p a (a+(m+1)):=λi j h0 h1 h2=>by
 by_cases hj:j<a+m
 ·exact h i j h0 h1 hj
 ·have e:j=a+m:=by lia
  subst e;by_cases hi:i=a+m
  ·subst hi;exact WT _
  ·exact V6 (h i (a+m - 1) h0 (by lia) (by lia)) hl
def xO{a m:Nat}(hm:1<=m)(h:IS key p a (a+m))(hl:O.kle (aF key p (a+m)) (aF key p (a+m - 1))):IS key p a (a+(m+1)):=λi j h0 h1 h2=>by
 by_cases hj:j<a+m
 ·exact h i j h0 h1 hj
 ·have e:j=a+m:=by lia
  subst e;by_cases hi:i=a+m
  ·subst hi;exact WT _
  ·exact V6 hl (h i (a+m - 1) h0 (by lia) (by lia))
end
def zQ(lo a r:Nat):StateT SortSt Sem AscSt:=
 forIn [a:r] ((ah,a):AscSt) λ_ z=>do
  let y ←ltAt' (lo+z.2) (lo+z.2 - 1)
  match y with
  |some b=>if b=av then pure (.done (ah,z.2))else pure (.yield (ah,z.2+1))|_=>pure (.done (af ah,z.2))
def zR(lo m r:Nat):StateT SortSt Sem (Option Nat):=do
 reverseSlice' lo (lo+m)
 let z ←zQ lo m r
 match z.1 with
 |some x=>pure x|none=>pure (af z.2)
def G7(lo a r:Nat):StateT SortSt Sem DescSt:=
 forIn [a:r] ((ah,a,0):DescSt) λ_ z=>do
  let y ←ltAt' (lo+z.2.1) (lo+z.2.1 - 1)
  match y with
  |some b=>
   if b=av then
    if z.2.2>0 then do
     reverseSlice' (lo+z.2.1 - (z.2.2+1)) (lo+z.2.1)
     pure (.yield (ah,z.2.1+1,0))
    else pure (.yield (ah,z.2.1+1,0))
   else do
    let y ←ltAt' (lo+z.2.1 - 1) (lo+z.2.1)
    match y with
    |some b=>if b=av then pure (.done (ah,z.2.1,z.2.2))else pure (.yield (ah,z.2.1+1,z.2.2+1))|_=>pure (.done (af ah,z.2.1,z.2.2))
  |_=>pure (.done (af ah,z.2.1,z.2.2))
def zT(lo m r:Nat):StateT SortSt Sem (Option Nat):=do
 liftM (rule "list.sort.descending-run")
 let z ←G7 lo (m+1) r
 match z.1 with
 |some x=>pure x|none=>
  if z.2.2>0 then do
   reverseSlice' (lo+z.2.1 - (z.2.2+1)) (lo+z.2.1)
   zR lo z.2.1 r
  else zR lo z.2.1 r
local macro_rules| `(tactic|ext Q2)=> `(tactic|(congr 1;funext _;congr 1;(funext z;obtain⟨x,y⟩:=z;cases x<;>rfl)))
local macro_rules| `(tactic| ext dq)=> `(tactic| (congr 1;funext _;congr 1;congr 1;funext z;obtain⟨x,y,u⟩:=z;cases x with
 |some x=>rfl
 |none=>(dsimp only;split;(congr 1;funext _;ext Q2);ext Q2)))
theorem G8(lo r:Nat):countRun' lo r=(do
  let z ←zQ lo 1 r
  match z.1 with
  |some x=>pure x|none=>
   if(z.2==r)=av then pure (af z.2)
   else if z.2>1 then do
    let y ←ltAt' lo (lo+z.2 - 1)
    match y with
    |some b=>if b=av then pure (af z.2)else do
      reverseSlice' lo (lo+z.2)
      zT lo z.2 r
    |_=>pure ah
   else zT lo z.2 r):=by
 rw[countRun'_eq];unfold zT zR G7 zQ;dsimp only;congr 1;funext z;obtain⟨x,m⟩:=z;cases x with
 |some x=>rfl|none=>
  dsimp only;split
  ·rfl
  ·split
   ·congr 1;funext x;cases x with
    |none=>rfl|some b=>
     dsimp only;split
     ·rfl
     ·congr 1;funext _
      ext dq
   ·ext dq
def CU(prog:bX)(w:ck)(A:cy)(s:aE)(κ:SortKind)(it:Array Keyed){O:KeyOrd}(key:Nat->O.α)(n:Nat):Prop:=
 (∀i j (C:Bool->aE->Prop),i<n->j<n->C (CC key i j) s->bg (model prog w) A (keyLt' κ (kas_item it i).1 (kas_item it j).1) C (λ_ _=>False) s)/\∀i j,i<n->j<n->key i=key j->i=j
def EA(p p':Array Nat)(lo m:Nat):Prop:=∀i,i<lo\/lo+m<=i->p'.getD i 0=p.getD i 0
def Kp{p:Array Nat}{i j k:Nat}(hj:j<=p.size)(h:¬(i<=k/\k<j)):(kas_rev p i j).getD k 0=p.getD k 0:=by have e:=getElem?_mirror_all (xs:=p) (i:=i) hj k;rw[if_neg h]at e;exact iB e
def G9{p:Array Nat}{src d k:Nat}(hs:src<p.size)(hd:d<=src)(h:k<src - d\/src<k):(bubble p src d).getD k 0=p.getD k 0:=by have e:=getElem?_bubble hs d hd k;rw[if_neg (by lia),if_neg (by lia)]at e;exact iB e
def aX.inj{n:Nat}{p:Array Nat}(h:aX n p){i j:Nat}(hi:i<n)(hj:j<n)(e:p.getD i 0=p.getD j 0):i=j:=by
 have hs:=h.size;have nd:p.toList.Nodup:=(Wg.mp h).nodup_iff.mpr (by simp[nX]);have e1:∀k (hk:k<n),p.getD k 0=p.toList[k]'(by simp;lia):=λk hk=>by simp_all
 rw[e1 i hi,e1 j hj]at e;exact(nV nd).mp e
abbrev nh(κ:SortKind)(it:Array Keyed)(p:Array Nat)(q:Array (Nat×Nat×Nat))(g:Nat):SortSt:=SortSt.mk' κ (p.map (kas_item it)) q g ah
section
variable{prog:bX}{w:ck}{A:cy}{E:ai->aE->Prop}{s:aE}{κ:SortKind}{it:Array Keyed}{O:KeyOrd}{key:Nat->O.α}{n g lo:Nat}{p:Array Nat}{q:Array (Nat×Nat×Nat)}
def qi{i j:Nat}{Q:Option Bool->SortSt->Prop}(c:CU prog w A s κ it key n)(hi:i<n)(hj:j<n)(h:Q (af (CC key i j)) (nh κ it p q g)):wpS (model prog w) A E s (lt' (kas_item it i) (kas_item it j)) Q (nh κ it p q g):=by rw[lt'_eq];refine U3 (wpS_get (U3 (wpS_lift (Xf (VH (c.1 i j (λb s'=>s'=s/\b=CC key i j) hi hj ⟨rfl,rfl⟩) (λb s' hb=>?_) λ_ _ z=>z.elim)))));obtain⟨rfl,rfl⟩:=hb;exact⟨rfl,U8 h⟩
def cB{u:Array Nat}{i:Nat}{st:SortSt}{Q:Keyed->SortSt->Prop}(hi:i<u.size)(h:Q (kas_item it (u.getD i 0)) st):wpS (model prog w) A E s (elem' (u.map (kas_item it)) i) Q st:=by
 rw[elem'_eq];have e:(u.map (kas_item it))[i]?=af (kas_item it (u.getD i 0)):=by simp[qf,hi]
 rw[e];exact U8 h
def qj{i j:Nat}{Q:Option Bool->SortSt->Prop}(c:CU prog w A s κ it key n)(hp:aX n p)(hi:i<n)(hj:j<n)(h:Q (af (CC key (p.getD i 0) (p.getD j 0))) (nh κ it p q g)):wpS (model prog w) A E s (ltAt' i j) Q (nh κ it p q g):=by rw[ltAt'_eq];have z:=hp.size;exact U3 (wpS_get (U3 (cB (by lia) (U3 (cB (by lia) (qi c (hp.lt hi) (hp.lt hj) h))))))
def OJ{i j:Nat}{Q:Unit->SortSt->Prop}(h:Q () (nh κ it (kas_rev p i j) q g)):wpS (model prog w) A E s (reverseSlice' i j) Q (nh κ it p q g):=by rw[reverseSlice'_eq];refine wpS_modify ?_;rw[show setArr (nh κ it p q g) (mirror (arrOf (nh κ it p q g)) i j ((j - i)/2))=nh κ it (kas_rev p i j) q g from VJ (λz=>SortSt.mk' κ z q g ah) (kas_swaps_map _ _ _ _ _)];exact h
def O3{i j:Nat}{Q:Unit->SortSt->Prop}(h:Q () (nh κ it (bubble p i (i - j)) q g)):wpS (model prog w) A E s (moveDown' i j) Q (nh κ it p q g):=by rw[moveDown'_eq];refine wpS_modify ?_;rw[show setArr (nh κ it p q g) (bubble (arrOf (nh κ it p q g)) i (i - j))=nh κ it (bubble p i (i - j)) q g from VJ (λz=>SortSt.mk' κ z q g ah) (kas_swaps_map _ _ _ _ _)];exact h
def Dg{a r:Nat}{Q:AscSt->SortSt->Prop}(c:CU prog w A s κ it key n)(hp:aX n p)(hz:lo+r<=n)(h1:1<=a)(ha:a<=r)(hu:zw key p lo (lo+a))(h:∀m,a<=m->m<=r->zw key p lo (lo+m)->(m=r\/O.klt (aF key p (lo+m)) (aF key p (lo+m - 1)))->Q (ah,m) (nh κ it p q g)):wpS (model prog w) A E s (zQ lo a r) Q (nh κ it p q g):=by
 refine We (I:=λx z st=>st=nh κ it p q g/\z=(ah,x)/\zw key p lo (lo+x)) ?_ ?_ ⟨rfl,rfl,hu⟩
 ·rintro x z st h2 h3 ⟨rfl,rfl,hu⟩;refine U3 (qj c hp (by dsimp only;lia) (by dsimp only;lia) ?_);dsimp only;cases hl:CC key (p.getD (lo+x) 0) (p.getD (lo+x - 1) 0)with|true=>exact U8 (h x h2 (by lia) hu (.inr hl))|false=>exact U8 ⟨rfl,rfl,Ko (by lia) hu hl⟩
 simp_all
def Rl(c:CU prog w A s κ it key n)(hp:aX n p){i j:Nat}(hi:i<n)(hj:j<n)(hij:i≠j)(h1:O.kle (aF key p i) (aF key p j))(h2:O.kle (aF key p j) (aF key p i)):False:=
 hij (hp.inj hi hj (c.2 _ _ (hp.lt hi) (hp.lt hj) (KeyOrd.kle_antisymm h1 h2)))
def O4{a r:Nat}{Q:DescSt->SortSt->Prop}(c:CU prog w A s κ it key n)(hz:lo+r<=n)(h1:1<=a)(ha:a<=r)(hp:aX n p)(hd:IS key p lo (lo+a))(h:∀m,a<=m->m<=r->IS key p lo (lo+m)->Q (ah,m,0) (nh κ it p q g)):wpS (model prog w) A E s (G7 lo a r) Q (nh κ it p q g):=by
 refine We (I:=λx z st=>st=nh κ it p q g/\z=(ah,x,0)/\IS key p lo (lo+x)) ?_ ?_ ⟨rfl,rfl,hd⟩
 ·rintro x z st h2 h3 ⟨rfl,rfl,hd⟩;refine U3 (qj c hp (by dsimp only;lia) (by dsimp only;lia) ?_);dsimp only;cases hl:CC key (p.getD (lo+x) 0) (p.getD (lo+x - 1) 0)with
  |true=>simp only[if_true];exact U8 ⟨rfl,rfl,xO (by lia) hd (Wq hl)⟩|false=>
   simp only[Vq,VR];refine U3 (qj c hp (by lia) (by lia) ?_);cases hg:CC key (p.getD (lo+x - 1) 0) (p.getD (lo+x) 0)with|true=>exact U8 (h x h2 (by lia) hd)|false=>exact(Rl c hp (i:=lo+x) (j:=lo+x - 1) (by lia) (by lia) (by lia) hg hl).elim
 simp_all
def O5(key:Nat->O.α)(n lo r:Nat)(κ:SortKind)(it:Array Keyed)(q:Array (Nat×Nat×Nat))(g:Nat)(p:Array Nat)(Q:Option Nat->SortSt->Prop):Prop:=
 ∀p' m,aX n p'->EA p p' lo m->1<=m->m<=r->zw key p' lo (lo+m)->Q (af m) (nh κ it p' q g)
def Kq{m r:Nat}{Q:Option Nat->SortSt->Prop}(c:CU prog w A s κ it key n)(hz:lo+r<=n)(hm:m+1<=r)(hp:aX n p)(hd:IS key p lo (lo+(m+1)))(h:O5 key n lo r κ it q g p Q):wpS (model prog w) A E s (zT lo m r) Q (nh κ it p q g):=by refine U3 (wpS_lift (Xh ⟨rfl,U3 (O4 c hz (by lia) hm hp hd λm g1 g2 hd=>?_)⟩));have hs:=hp.size;have k:=Km (key:=key) (p:=p) (i:=lo) (j:=lo+m) (by lia);dsimp only;refine U3 (OJ (U3 (Dg c (hp.rev _ _) hz (by lia) g2 (λi j g0 g1 g2=>?_) λm' g3 g4 g5 _=>U8 (h _ m' (hp.rev _ _) (λi hi=>Kp (by lia) (by lia)) (by lia) g4 g5))));rw[k,k,if_pos (by lia),if_pos (by lia)];exact hd _ _ (by lia) (by lia) (by lia)
def uG{r:Nat}{Q:Option Nat->SortSt->Prop}(c:CU prog w A s κ it key n)(hz:lo+r<=n)(h1:1<=r)(hp:aX n p)(h:O5 key n lo r κ it q g p Q):wpS (model prog w) A E s (countRun' lo r) Q (nh κ it p q g):=by
 have hs:=hp.size;rw[G8];refine U3 (Dg c hp hz (Uz _) h1 OD λm g1 g2 g3 g4=>?_);dsimp only;by_cases hm:m=r
 ·rw[if_pos (by simpa using hm)];exact U8 (h p m hp (λ_ _=>rfl) g1 g2 g3)
 ·rw[if_neg (by simpa using hm)];have hlt:=g4.resolve_left hm;by_cases hgt:m>1
  ·rw[if_pos hgt];refine U3 (qj c hp (by lia) (by lia) ?_);cases hr:CC key (p.getD lo 0) (p.getD (lo+m - 1) 0)with|true=>exact U8 (h p m hp (λ_ _=>rfl) g1 g2 g3)|false=>exact(Rl c hp (i:=lo) (j:=lo+m - 1) (by lia) (by lia) (by lia) (g3 lo (lo+m - 1) (by lia) (by lia) (by lia)) hr).elim
  ·rw[if_neg hgt];have e:m=1:=by lia
   subst e;refine Kq c hz (by lia) hp (xO (Uz 1) (λi j h0 h1 h2=>?_) (Wq hlt)) h;have e:i=j:=by lia
   subst e;exact WT _
def Dh{r ok:Nat}{Q:Bool->SortSt->Prop}(c:CU prog w A s κ it key n)(hz:lo+r<=n)(h1:1<=ok)(hok:ok<=r)(hp:aX n p)(hu:zw key p lo (lo+ok))(h:∀p',aX n p'->EA p p' lo r->zw key p' lo (lo+r)->Q av (nh κ it p' q g)):wpS (model prog w) A E s (binarySort' lo r ok) Q (nh κ it p q g):=by
 rw[binarySort'_eq];refine U3 (wpS_mono (We (I:=λk z st=>∃p',z=(ah,())/\st=nh κ it p' q g/\aX n p'/\EA p p' lo r/\zw key p' lo (lo+k))
  (Q:=λz st=>∃p',z=(ah,())/\st=nh κ it p' q g/\aX n p'/\EA p p' lo r/\zw key p' lo (lo+r)) ?_ ?_ ⟨p,rfl,rfl,hp,λ_ _=>rfl,by simp_all⟩) ?_)
 ·rintro k z st g1 g2 ⟨p,rfl,rfl,hp,hb,hu⟩;have hs:=hp.size;refine U3 (wpS_mono (We (I:=λx z st=>st=nh κ it p q g/\∃l r,z=(ah,l,r)/\l<=r/\r<=k/\r - l<=k - x/\(∀i,i<l->O.kle (aF key p (lo+i)) (aF key p (lo+k)))/\(∀i,r<=i->i<k->O.klt (aF key p (lo+k)) (aF key p (lo+i))))
   (Q:=λz st=>st=nh κ it p q g/\∃l r,z=(ah,l,r)/\l<=k/\(∀i,i<l->O.kle (aF key p (lo+i)) (aF key p (lo+k)))/\(∀i,l<=i->i<k->O.klt (aF key p (lo+k)) (aF key p (lo+i)))) ?_ ?_ ⟨rfl,0,k,rfl,by lia,by lia,by lia,λi hi=>by lia,λi h1 h2=>by lia⟩) ?_)
  ·rintro x z st _ g3 ⟨rfl,l,r,rfl,hlr,hrk,hm,hlo,hhi⟩;dsimp only;by_cases hge:l>=r
   ·rw[if_pos hge];have e:l=r:=by lia
    subst e;exact U8 ⟨rfl,l,l,rfl,hrk,hlo,hhi⟩
   ·rw[if_neg hge];refine U3 (qj c hp (by lia) (by lia) ?_);cases hl:CC key (p.getD (lo+k) 0) (p.getD (lo+(l+r)/2) 0)with|true=>exact U8 ⟨rfl,l,(l+r)/2,rfl,by lia,by lia,by lia,hlo,λi h1 h2=>KeyOrd.klt_of_klt_of_kle hl (hu _ _ (by lia) (by lia) (by lia))⟩|false=>exact U8 ⟨rfl,(l+r)/2+1,r,rfl,by lia,by lia,by lia,λi h1=>V6 (hu (lo+i) (lo+(l+r)/2) (by lia) (by lia) (by lia)) hl,hhi⟩
  ·rintro z st ⟨rfl,l,r,rfl,hlr,hrk,hm,hlo,hhi⟩;have e:l=r:=by lia
   subst e;exact⟨rfl,l,l,rfl,hrk,hlo,hhi⟩
  ·rintro z st ⟨rfl,l,r,rfl,hlk,hlo,hhi⟩;have d:=G6 (key:=key) (p:=p) (src:=lo+k) (d:=lo+k - (lo+l)) (by lia) (by lia);rw[show lo+k - (lo+k - (lo+l))=lo+l by lia]at d;refine U3 (O3 (U8 ⟨_,rfl,rfl,hp.down _ _,λi hi=>?_,λi j h0 h1 h2=>?_⟩))
   ·rw[G9 (by lia) (by lia) (by lia)];exact hb i hi
   ·rw[d,d]
    repeat' split
    all_goals first
     |(exfalso;lia)|exact WT _|(have z:=hlo (i - lo) (by lia);rwa [show lo+(i - lo)=i by lia]at z)|(have z:=hhi (j - 1 - lo) (by lia) (by lia);rw[show lo+(j - 1 - lo)=j - 1 by lia]at z;exact Wq z)|exact hu _ _ (by lia) (by lia) (by lia)
 ·simp_all
 ·rintro z st ⟨p,rfl,rfl,hp,hb,hu⟩;exact U8 (h p hp hb hu)
end
def gO:Bool->Keyed->Array Keyed->Nat->Nat->Nat->StateT SortSt Sem (Option Nat):=sortPriv% PySem.Builtin.gallop
def IT(left:Bool)(ky:Keyed)(arr:Array Keyed)(base i:Nat):StateT SortSt Sem (Option Bool):=do
 let x ←elem' arr (base+i)
 if left then lt' x ky else return (←lt' ky x).map (!·)
def zU(left:Bool)(ky:Keyed)(arr:Array Keyed)(base n hint:Nat):gO left ky arr base n hint=(do
  let mut la:=0
  let mut of:=1
  let mut lo:=0
  let mut hi:=0
  let af rt ←IT left ky arr base hint|return ah
  if rt then
   let mx:=n - hint
   for _ in [0:n]do
    if of>=mx then break
    let af more ←IT left ky arr base (hint+of)|return ah
    if !more then break
    la:=of
    of:=2*of+1
   lo:=hint+la+1
   hi:=hint+min of mx
  else
   let mx:=hint+1
   for _ in [0:n]do
    if of>=mx then break
    let af LA ←IT left ky arr base (hint - of)|return ah
    if LA then break
    la:=of
    of:=2*of+1
   lo:=hint+1 - min of mx
   hi:=hint - la
  for _ in [0:n]do
   if lo>=hi then break
   let m:=lo+(hi - lo)/2
   let af more ←IT left ky arr base m|return ah
   if more then lo:=m+1 else hi:=m
  return af hi):=rfl
section
variable{prog:bX}{w:ck}{A:cy}{E:ai->aE->Prop}{s:aE}{κ:SortKind}{it:Array Keyed}{O:KeyOrd}{key:Nat->O.α}{n g:Nat}{p u:Array Nat}{q:Array (Nat×Nat×Nat)}
def mG(key:Nat->O.α)(left:Bool)(y:Nat)(u:Array Nat)(i:Nat):Bool:=if left then CC key (u.getD i 0) y else !CC key y (u.getD i 0)
def ql{left:Bool}{y base i:Nat}{Q:Option Bool->SortSt->Prop}(c:CU prog w A s κ it key n)(hy:y<n)(hi:base+i<u.size)(hu:∀k,k<u.size->u.getD k 0<n)(h:Q (af (mG key left y u (base+i))) (nh κ it p q g)):wpS (model prog w) A E s (IT left (kas_item it y) (u.map (kas_item it)) base i) Q (nh κ it p q g):=by
 refine U3 (cB hi ?_);cases left with|true=>exact qi c (hu _ hi) hy h|false=>exact U3 (qi c hy (hu _ hi) (U8 h))
def xP{left:Bool}{y base r m:Nat}{Q:Option Nat->SortSt->Prop}(c:CU prog w A s κ it key n)(hy:y<n)(hr:base+r<=u.size)(hu:∀k,k<u.size->u.getD k 0<n)(hm:m<=r)(hB:∀i,i<r->mG key left y u (base+i)=decide (i<m)){lo hi:Nat}(h1:lo<=m)(h2:m<=hi)(h3:hi<=r)(h:Q (af m) (nh κ it p q g)){f:Option (Option Nat)×Nat×Nat->StateT SortSt Sem (Option Nat)}(hf:∀l,f (ah,l,m)=pure (af m)):
  wpS (model prog w) A E s (do
   let z ←forIn [0:r] (ah,lo,hi) λ_ z=>if z.2.1>=z.2.2 then pure (.done (ah,z.2.1,z.2.2))else do
    let y ←IT left (kas_item it y) (u.map (kas_item it)) base (z.2.1+(z.2.2 - z.2.1)/2)
    match y with
    |some b=>if b=av then pure (.yield (ah,z.2.1+(z.2.2 - z.2.1)/2+1,z.2.2))else pure (.yield (ah,z.2.1,z.2.1+(z.2.2 - z.2.1)/2))|_=>pure (.done (af ah,z.2.1,z.2.2))
   f z) Q (nh κ it p q g):=by
 refine U3 (wpS_mono (We (I:=λx z st=>st=nh κ it p q g/\∃l h,z=(ah,l,h)/\l<=m/\m<=h/\h<=r/\h - l<=r - x) (Q:=λz st=>st=nh κ it p q g/\∃l,z=(ah,l,m)) ?_ ?_ ⟨rfl,lo,hi,rfl,h1,h2,h3,by lia⟩) ?_)
 ·rintro x z st _ g1 ⟨rfl,l,v,rfl,g2,g3,g4,g5⟩;dsimp only;split
  ·have e:v=m:=by lia
   subst e;exact U8 ⟨rfl,l,rfl⟩
  ·refine U3 (ql c hy (by lia) hu ?_);rw[hB _ (by lia)];by_cases hd:l+(v - l)/2<m
   ·simp only[hd,Xv,if_true];exact U8 ⟨rfl,_,_,rfl,by lia,g3,g4,by lia⟩
   ·simp only[hd,decide_false,Vq,VR];exact U8 ⟨rfl,_,_,rfl,g2,by lia,by lia,by lia⟩
 ·rintro z st ⟨rfl,l,v,rfl,g2,g3,g4,g5⟩;have e:v=m:=by lia
  simp_all
 ·rintro z st ⟨rfl,l,rfl⟩;rw[hf];exact U8 h
def Di{left:Bool}{y base r hint m:Nat}{Q:Option Nat->SortSt->Prop}(c:CU prog w A s κ it key n)(hy:y<n)(hr:base+r<=u.size)(hu:∀k,k<u.size->u.getD k 0<n)(hh:hint<r)(hm:m<=r)(hB:∀i,i<r->mG key left y u (base+i)=decide (i<m))(h:Q (af m) (nh κ it p q g)):wpS (model prog w) A E s (gO left (kas_item it y) (u.map (kas_item it)) base r hint) Q (nh κ it p q g):=by
 rw[zU];dsimp only;refine U3 (ql c hy (by lia) hu ?_);rw[hB _ hh];by_cases hd:hint<m
 ·simp only[hd,Xv,if_true];refine U3 (wpS_mono (We (I:=λx z st=>st=nh κ it p q g/\∃la of,z=(ah,la,of)/\hint+la<m/\x<of) (Q:=λz st=>st=nh κ it p q g/\∃la of,z=(ah,la,of)/\hint+la<m/\m<=hint+min of (r - hint)) ?_ ?_ ⟨rfl,0,1,rfl,by lia,by lia⟩) ?_)
  ·rintro x z st _ g1 ⟨rfl,la,of,rfl,g2,g3⟩;dsimp only;split
   ·exact U8 ⟨rfl,la,of,rfl,g2,by lia⟩
   ·refine U3 (ql c hy (by lia) hu ?_);rw[hB _ (by lia)];by_cases hd:hint+of<m
    ·simp only[hd,Xv,Bool.not_true,Vq,VR];exact U8 ⟨rfl,_,_,rfl,hd,by lia⟩
    ·simp only[hd,decide_false,Bool.not_false,if_true];exact U8 ⟨rfl,la,of,rfl,g2,by lia⟩
  ·rintro z st ⟨rfl,la,of,rfl,g2,g3⟩;exact⟨rfl,la,of,rfl,g2,by lia⟩
  ·rintro z st ⟨rfl,la,of,rfl,g2,g3⟩;exact xP c hy hr hu hm hB (by dsimp only;lia) g3 (by lia) h λ_=>rfl
 ·simp only[hd,decide_false,Vq,VR];refine U3 (wpS_mono (We (I:=λx z st=>st=nh κ it p q g/\∃la of,z=(ah,la,of)/\m+la<=hint/\x<of) (Q:=λz st=>st=nh κ it p q g/\∃la of,z=(ah,la,of)/\m+la<=hint/\hint+1 - min of (hint+1)<=m) ?_ ?_ ⟨rfl,0,1,rfl,by lia,by lia⟩) ?_)
  ·rintro x z st _ g1 ⟨rfl,la,of,rfl,g2,g3⟩;dsimp only;split
   ·exact U8 ⟨rfl,la,of,rfl,g2,by lia⟩
   ·refine U3 (ql c hy (by lia) hu ?_);rw[hB _ (by lia)];by_cases hd:hint - of<m
    ·simp only[hd,Xv,if_true];exact U8 ⟨rfl,la,of,rfl,g2,by lia⟩
    ·simp only[hd,decide_false,Vq,VR];exact U8 ⟨rfl,_,_,rfl,by lia,by lia⟩
  ·rintro z st ⟨rfl,la,of,rfl,g2,g3⟩;exact⟨rfl,la,of,rfl,g2,by lia⟩
  ·rintro z st ⟨rfl,la,of,rfl,g2,g3⟩;exact xP c hy hr hu hm hB g3 (by dsimp only;lia) (by dsimp only;lia) h λ_=>rfl
end
def MI(R:Nat->Nat->Prop)(T o X Y:List Nat):Prop:=(o++X).Pairwise R/\(o++Y).Pairwise R/\(o++(X++Y)).Perm T
section
variable{R:Nat->Nat->Prop}{T o X Y:List Nat}
def MI.sym(h:MI R T o X Y):MI R T o Y X:=⟨h.2.1,h.1,(i7 _ WW).trans h.2.2⟩
def MI.stp{v:List Nat}(h:MI R T o (v++X) Y)(hv:∀a∈v,∀b∈Y,R a b):MI R T (o++v) X Y:=by
 obtain⟨h1,h2,h3⟩:=h;refine⟨by simp_all,?_,by simp_all⟩
 grind
def MI.fin(h:MI R T o [] Y):(o++Y).Pairwise R/\(o++Y).Perm T:=⟨h.2.1,h.2.2⟩
def MI.all(h:MI R T o X Y)(hv:∀a∈X,∀b∈Y,R a b):(o++X++Y).Pairwise R/\(o++X++Y).Perm T:=(MI.stp (v:=X) (X:=[]) (by simp_all) hv).fin
def MI.tk(tr:∀a b c,R a b->R b c->R a c){y:Nat}{Z:List Nat}(e:Y=y::Z)(h:MI R T o X Y)(m:Nat)(hx:∀x∈X.take m,R x y):MI R T (o++X.take m) (X.drop m) Y:=by
 refine MI.stp (by simp_all) λa ha b hb=>?_;subst e;have:=(WD.mp h.2.1).2.1;rcases UJ.mp hb with rfl|hb
 ·exact hx a ha
 ·exact tr _ _ _ (hx a ha) ((Vd.mp this).1 b hb)
end
theorem Dk{B:Nat->Bool}:∀{r:Nat},(∀i j,i<=j->j<r->B j=av->B i=av)->∃m,m<=r/\∀i,i<r->B i=decide (i<m)
 |0,_=>⟨0,by lia,λi h=>by lia⟩|r+1,h=>by
  obtain⟨m,h1,h2⟩:=Dk (r:=r) λi j a b=>h i j a (by lia);cases hb:B r with
  |true=>exact⟨r+1,by lia,λi hi=>by rw[h i r (by lia) (by lia) hb,Wc hi]⟩|false=>
   refine⟨m,by lia,λi hi=>?_⟩;by_cases e:i=r
   ·simp_all
   ·exact h2 i (by lia)
section
variable{O:KeyOrd}{key:Nat->O.α}{u v t:Array Nat}{T:List Nat}
abbrev kR(key:Nat->O.α)(i j:Nat):Prop:=O.kle (key i) (key j)
def gD{i:Nat}(h:i<u.size):u.getD i 0=u.toList[i]'h:=by simp_all
def Jj{left:Bool}{y base r:Nat}(hu:zw key u base (base+r)):∃m,m<=r/\∀i,i<r->mG key left y u (base+i)=decide (i<m):=by
 refine Dk λi j h1 h2 h3=>?_;have z:=hu (base+i) (base+j) (by lia) (by lia) (by lia);cases left with|true=>exact KeyOrd.klt_of_kle_of_klt z h3|false=>exact(Bool.not_eq_true' _).mpr (V6 z ((Bool.not_eq_true' _).mp h3))
def Dl{left:Bool}{y i:Nat}(h:mG key left y u i=av):O.kle (aF key u i) (key y):=by
 cases left with|true=>exact Wq h|false=>exact(Bool.not_eq_true' _).mp h
def Dm{left:Bool}{y i:Nat}(h:mG key left y u i=aS):O.kle (key y) (aF key u i):=by
 cases left with|true=>exact h|false=>exact Wq ((Bool.not_eq_false' _).mp h)
def nY{a b:Nat}(hb:b<=u.size):zw key u a b ↔ ((u.toList.take b).drop a).Pairwise (kR key):=by
 rw[List.pairwise_iff_getElem];constructor
 ·intro h i j hi hj hij;simp only[W9,Wl,V9]at hi hj;have:=h (a+i) (a+j) (by lia) (by lia) (by lia);rw[aF,aF,gD (by lia),gD (by lia)]at this;simpa using this
 ·intro h i j h0 h1 h2;by_cases e:i=j
  ·subst e;exact WT _
  ·have:=h (i - a) (j - a) (by simp;lia) (by simp;lia) (by lia);rw[aF,aF,gD (by lia),gD (by lia)];simpa[show a+(i - a)=i by lia,show a+(j - a)=j by lia]using this
def uH{i j m:Nat}(h:MI (kR key) T t.toList (u.toList.drop i) (v.toList.drop j))(hj:j<v.size)(hm:i+m<=u.size)(hx:∀k,k<m->O.kle (aF key u (i+k)) (aF key v j)):
  MI (kR key) T (t++u.extract i (i+m)).toList (u.toList.drop (i+m)) (v.toList.drop j):=by
 have z:=MI.tk (λ_ _ _=>V6) (Wk (i:=j) (by simpa using hj)) h m λx hx'=>by obtain⟨k,hk,rfl⟩:=W5.mp hx';simp only[Wl,W9,V9]at hk;have:=hx k (by lia);rw[aF,aF,gD (by lia),gD hj]at this;simpa using this
 simp_all
def MW{α:Type}{f:Nat->α}{i:Nat}(h:i<u.size):(t.map f).push (f (u.getD i 0))=(t++u.extract i (i+1)).map f:=by
 apply Array.toList_inj.mp;rw[gD h];simp[fk,yY,List.head?_drop]
 simp_all
end
def o9:Array Keyed->Array Keyed->StateT SortSt Sem (Array Keyed):=sortPriv% PySem.Builtin.mergeLo
abbrev AK:=Array Keyed
def ldn(a b o:AK)(i j:Nat):AK:=o++a.extract i a.size++b.extract j b.size
def IU(a b o:AK)(i j:Nat):AK:=o++b.extract j b.size++a.extract i a.size
def wL(a b:AK):o9 a b=(do
  rule "list.sort.merge-lo"
  let mut o:AK:= #[←elem' b 0]
  let mut i:=0
  let mut j:=1
  if j==b.size then return ldn a b o i j
  if i+1==a.size then return IU a b o i j
  let mut mg:=gallopOf (←get)
  for _ in [0:a.size+b.size]do
   let mut ac:=0
   let mut bc:=0
   for _ in [0:a.size+b.size]do
    let af bw ←lt' (←elem' b j) (←elem' a i)|return ldn a b o i j
    if bw then
     o:=o.push (←elem' b j);j:=j+1;bc:=bc+1;ac:=0
     if j==b.size then return ldn a b o i j
     if bc>=mg then break
    else
     o:=o.push (←elem' a i);i:=i+1;ac:=ac+1;bc:=0
     if i+1==a.size then return IU a b o i j
     if ac>=mg then break
   rule "list.sort.gallop"
   mg:=mg+1
   for _ in [0:a.size+b.size]do
    if mg>1 then mg:=mg - 1
    modify λs=>SortSt.mk' (kindOf s) (arrOf s) (pendingOf s) mg (failedOf s)
    let af k ←gO aS (←elem' b j) a i (a.size - i) 0|return ldn a b o i j
    ac:=k
    if k>0 then
     o:=o++a.extract i (i+k);i:=i+k
     if i+1==a.size then return IU a b o i j
     if i==a.size then return ldn a b o i j
    o:=o.push (←elem' b j);j:=j+1
    if j==b.size then return ldn a b o i j
    let af k ←gO av (←elem' a i) b j (b.size - j) 0|return ldn a b o i j
    bc:=k
    if k>0 then
     o:=o++b.extract j (j+k);j:=j+k
     if j==b.size then return ldn a b o i j
    o:=o.push (←elem' a i);i:=i+1
    if i+1==a.size then return IU a b o i j
    if ac<7 && bc<7 then break
   mg:=mg+1
   modify λs=>SortSt.mk' (kindOf s) (arrOf s) (pendingOf s) mg (failedOf s)
  (unsupported "internal:list.sort.merge-bound" :StateT SortSt Sem AK)):=rfl
section
variable{prog:bX}{w:ck}{A:cy}{E:ai->aE->Prop}{s:aE}{κ:SortKind}{it:Array Keyed}{O:KeyOrd}{key:Nat->O.α}{n g:Nat}{p u v t:Array Nat}{q:Array (Nat×Nat×Nat)}{T:List Nat}
def cM{σ α:Type}{M:Model}{st:σ}{c:Prop}[Decidable c]{f f':StateT σ Sem α}{Q:α->σ->Prop}(h1:c->wpS M A E s f Q st)(h2:¬c->wpS M A E s f' Q st):wpS M A E s (if c then f else f') Q st:=by lia
def jt(it:Array Keyed)(key:Nat->O.α)(T:List Nat)(r:AK):Prop:=∃t:Array Nat,r=t.map (kas_item it)/\t.toList.Pairwise (kR key)/\t.toList.Perm T
structure TZ(key:Nat->O.α)(u v:Array Nat)(T:List Nat)(c:Nat)(t:Array Nat)(i j:Nat):Prop where
 mi:MI (kR key) T t.toList (u.toList.drop i) (v.toList.drop j)
 hi:i+1<u.size
 hj:j<v.size
 hc:c<=i+j
structure UA(key:Nat->O.α)(n:Nat)(u v:Array Nat):Prop where
 uN:∀k,k<u.size->u.getD k 0<n
 vN:∀k,k<v.size->v.getD k 0<n
 uU:zw key u 0 u.size
 vU:zw key v 0 v.size
 la:∀k,k<v.size->O.kle (aF key v k) (aF key u (u.size - 1))
def zV{i:Nat}:(u.extract i u.size).toList=u.toList.drop i:=by rw[ku,fk,V7 (by simp)]
def Dn{i j:Nat}(h:MI (kR key) T t.toList (u.toList.drop i) (v.toList.drop j))(e:i=u.size\/j=v.size):jt it key T (ldn (u.map (kas_item it)) (v.map (kas_item it)) (t.map (kas_item it)) i j):=by
 refine⟨t++u.extract i u.size++v.extract j v.size,by simp[ldn],?_⟩;have z:=h.all λa ha b hb=>by
  rcases e with rfl|rfl
  ·rw[Xj (by simp)]at ha;cases ha
  ·rw[Xj (by simp)]at hb;cases hb
 rw[Wi,Wi,zV,zV];exact z
def Do{i j:Nat}(hu:∀k,k<v.size->O.kle (aF key v k) (aF key u (u.size - 1)))(h:MI (kR key) T t.toList (u.toList.drop i) (v.toList.drop j))(e:i+1=u.size):jt it key T (IU (u.map (kas_item it)) (v.map (kas_item it)) (t.map (kas_item it)) i j):=by
 refine⟨t++v.extract j v.size++u.extract i u.size,by simp[IU],?_⟩;have z:=h.sym.all λa ha b hb=>by rw[Wk (by simp;lia),Xj (by simp;lia),VM]at hb;obtain⟨k,hk,rfl⟩:=W5.mp (List.mem_of_mem_drop ha);have:=hu k (by simpa using hk);rw[aF,aF,gD (by simpa using hk),gD (by lia)]at this;subst hb;simpa[show u.size - 1=i by lia]using this
 rw[Wi,Wi,zV,zV];exact z
def O6{Q:AK->SortSt->Prop}(hq:CU prog w A s κ it key n)(hC:UA key n u v)(hu:0<u.size)(hv:0<v.size)(u6:u.size<=6)(v6:v.size<=6)(hg:7<=g)(h0:O.kle (aF key v 0) (aF key u 0))(h:∀r,jt it key (u.toList++v.toList) r->Q r (nh κ it p q g)):
  wpS (model prog w) A E s (o9 (u.map (kas_item it)) (v.map (kas_item it))) Q (nh κ it p q g):=by
 have i0:MI (kR key) (u.toList++v.toList) (#[]:Array Nat).toList (u.toList.drop 0) (v.toList.drop 0):=by
  refine⟨?_,?_,mw _⟩
  ·have:=(nY (Uz _)).mp hC.uU;simpa[V7]using this
  ·have:=(nY (Uz _)).mp hC.vU;simpa[V7]using this
 have z:=(uH (m:=1) i0.sym hu (by lia) λk hk=>by simp_all).sym;rw[wL];refine U3 (wpS_lift (Xh ⟨rfl,U3 (cB hv ?_)⟩));have e1:(#[kas_item it (v.getD 0 0)]:AK)=(#[]++v.extract 0 (0+1)).map (kas_item it):=by rw[←MW hv,wo];rfl
 dsimp only;rw[e1];generalize(#[]++v.extract 0 (0+1):Array Nat)=t at z;have su:(u.map (kas_item it)).size=u.size:=W7;have sv:(v.map (kas_item it)).size=v.size:=W7;refine cM (λe=>U8 (h _ (Dn z (.inr (by simpa using e))))) λe=>cM (λe=>U8 (h _ (Do hC.la z (by simpa using e)))) λe'=>?_;have e:1≠v.size:=by simpa using e
 have e':0+1≠u.size:=by simpa using e'
 refine U3 (wpS_get (U3 (wpS_mono (We (I:=λx z st=>x=0/\st=nh κ it p q g/\z=(ah,t.map (kas_item it),0,1,g)) (Q:=λz st=>st=nh κ it p q g/\∃r y,z=(af r,y)/\jt it key (u.toList++v.toList) r) ?_ (λz st hz=>by lia) ⟨rfl,rfl,rfl⟩) ?_)))
 ·rintro x z1 st _ g1 ⟨rfl,rfl,rfl⟩;refine U3 (wpS_mono (We (I:=λy z st=>st=nh κ it p q g/\∃t i j ac bc,z=(ah,t.map (kas_item it),i,j,ac,bc)/\TZ key u v (u.toList++v.toList) y t i j/\ac<=i/\bc<=j)
   (Q:=λz st=>st=nh κ it p q g/\∃r y,z=(af r,y)/\jt it key (u.toList++v.toList) r) ?_ ?_ ⟨rfl,t,0,1,0,0,rfl,⟨z,by lia,by lia,by lia⟩,by lia,by lia⟩) ?_)
  ·rintro y z st _ g2 ⟨rfl,t,i,j,ac,bc,rfl,⟨h,hi,hj,hc⟩,ha,hb⟩;refine U3 (cB hj (U3 (cB (by dsimp only;lia) (U3 (qi hq (hC.vN _ hj) (hC.uN _ (by dsimp only;lia)) ?_)))));dsimp only;cases hl:CC key (v.getD j 0) (u.getD i 0)with
   |true=>
    refine U3 (cB hj ?_);have z:=(uH (m:=1) h.sym (by lia) (by lia) λk hk=>by rw[show k=0 by lia];exact Wq hl).sym;rw[MW hj];refine cM (λe=>U8 ⟨rfl,_,_,rfl,Dn z (.inr (by simpa using e))⟩) λe=>?_;have e:j+1≠v.size:=by simpa using e
    exact cM (λe=>absurd (show g<=bc+1 from e) (by lia)) λ_=>U8 ⟨rfl,_,_,_,_,_,rfl,⟨z,hi,by lia,by lia⟩,by lia,by lia⟩
   |false=>
    refine U3 (cB (by lia) ?_);have z:=uH (m:=1) h hj (by lia) λk hk=>by rw[show k=0 by lia];exact hl
    rw[MW (by lia)];refine cM (λe=>U8 ⟨rfl,_,_,rfl,Do hC.la z (by simpa using e)⟩) λe=>?_;have e:i+1+1≠u.size:=by simpa using e
    exact cM (λe=>absurd (show g<=ac+1 from e) (by lia)) λ_=>U8 ⟨rfl,_,_,_,_,_,rfl,⟨z,by lia,hj,by lia⟩,by lia,by lia⟩
  ·rintro z st ⟨rfl,t,i,j,ac,bc,rfl,⟨_,h1,h2,h3⟩,_,_⟩;exfalso;lia
  ·rintro z st ⟨rfl,r,y,rfl,hF⟩;exact U8 ⟨rfl,r,_,rfl,hF⟩
 ·rintro z st ⟨rfl,r,y,rfl,hF⟩;exact U8 (h r hF)
end
def ph:Array Keyed->Array Keyed->StateT SortSt Sem (Array Keyed):=sortPriv% PySem.Builtin.mergeHi
def hdn(a b o:AK)(i j:Nat):AK:=a.extract 0 i++b.extract 0 j++o.reverse
def IX(a b o:AK)(i j:Nat):AK:=b.extract 0 j++a.extract 0 i++o.reverse
def wM(a b:AK):ph a b=(do
  rule "list.sort.merge-hi"
  let mut i:=a.size - 1
  let mut j:=b.size
  let mut o:AK:= #[←elem' a i]
  if i==0 then return hdn a b o i j
  if j==1 then return IX a b o i j
  let mut mg:=gallopOf (←get)
  for _ in [0:a.size+b.size]do
   let mut ac:=0
   let mut bc:=0
   for _ in [0:a.size+b.size]do
    let af aw ←lt' (←elem' b (j - 1)) (←elem' a (i - 1))|return hdn a b o i j
    if aw then
     i:=i - 1;o:=o.push (←elem' a i);ac:=ac+1;bc:=0
     if i==0 then return hdn a b o i j
     if ac>=mg then break
    else
     j:=j - 1;o:=o.push (←elem' b j);bc:=bc+1;ac:=0
     if j==1 then return IX a b o i j
     if bc>=mg then break
   rule "list.sort.gallop"
   mg:=mg+1
   for _ in [0:a.size+b.size]do
    if mg>1 then mg:=mg - 1
    modify λs=>SortSt.mk' (kindOf s) (arrOf s) (pendingOf s) mg (failedOf s)
    let af x ←gO aS (←elem' b (j - 1)) a 0 i (i - 1)|return hdn a b o i j
    let k:=i - x
    ac:=k
    if k>0 then
     o:=o++(a.extract x i).reverse;i:=x
     if i==0 then return hdn a b o i j
    j:=j - 1;o:=o.push (←elem' b j)
    if j==1 then return IX a b o i j
    let af x ←gO av (←elem' a (i - 1)) b 0 j (j - 1)|return hdn a b o i j
    let k:=j - x
    bc:=k
    if k>0 then
     o:=o++(b.extract x j).reverse;j:=x
     if j==1 then return IX a b o i j
     if j==0 then return hdn a b o i j
    i:=i - 1;o:=o.push (←elem' a i)
    if i==0 then return hdn a b o i j
    if ac<7 && bc<7 then break
   mg:=mg+1
   modify λs=>SortSt.mk' (kindOf s) (arrOf s) (pendingOf s) mg (failedOf s)
  (unsupported "internal:list.sort.merge-bound" :StateT SortSt Sem AK)):=rfl
section
variable{prog:bX}{w:ck}{A:cy}{E:ai->aE->Prop}{s:aE}{κ:SortKind}{it:Array Keyed}{O:KeyOrd}{key:Nat->O.α}{n g:Nat}{p u v t:Array Nat}{q:Array (Nat×Nat×Nat)}{T:List Nat}
abbrev rK(key:Nat->O.α)(i j:Nat):Prop:=O.kle (key j) (key i)
abbrev A4(u:Array Nat)(i:Nat):List Nat:=(u.toList.take i).reverse
structure UB(key:Nat->O.α)(u v:Array Nat)(T:List Nat)(c:Nat)(t:Array Nat)(i j:Nat):Prop where
 mi:MI (rK key) T t.toList (A4 u i) (A4 v j)
 i0:0<i
 hi:i<=u.size
 j0:1<j
 hj:j<=v.size
 hc:c+i+j<=u.size+v.size
structure UC(key:Nat->O.α)(n:Nat)(u v:Array Nat):Prop where
 uN:∀k,k<u.size->u.getD k 0<n
 vN:∀k,k<v.size->v.getD k 0<n
 uU:zw key u 0 u.size
 vU:zw key v 0 v.size
 fb:∀k,k<u.size->O.kle (aF key v 0) (aF key u k)
def uI{i j m:Nat}(h:MI (rK key) T t.toList (A4 u i) (A4 v j))(j0:0<j)(hj:j<=v.size)(hm:m<=i)(hi:i<=u.size)(hx:∀k,m<=k->k<i->O.kle (aF key v (j - 1)) (aF key u k)):
  MI (rK key) T (t++(u.extract m i).reverse).toList (A4 u m) (A4 v j):=by
 have e:A4 v j=v.toList[j - 1]'(by simp;lia)::A4 v (j - 1):=by
  unfold A4;have:v.toList.take j=v.toList.take (j - 1)++ [v.toList[j - 1]'(by simp;lia)]:=by rw[List.take_append_getElem (by simp;lia),show j - 1+1=j by lia]
  rw[this,List.reverse_append];rfl
 have z:=MI.tk (R:=rK key) (λ_ _ _ a b=>V6 b a) e h (i - m) λx hx'=>by rw[sf,ua]at hx';obtain⟨k,hk,rfl⟩:=W5.mp hx';simp only[Wl,W9,V9]at hk;have:=hx (m+k) (by lia) (by lia);rw[aF,aF,gD (by lia),gD (by lia)]at this;simpa[show min i u.size - (i - m)=m by lia]using this
 have e1:(A4 u i).take (i - m)=(u.extract m i).reverse.toList:=by rw[sf];simp[xC,show min i u.size - (i - m)=m by lia]
 have e2:(A4 u i).drop (i - m)=A4 u m:=by rw[List.drop_reverse,xD];simp[show min i u.size - (i - m)=m by lia,show min m i=m by lia]
 simp_all
def Ha{α:Type}{f:Nat->α}{i:Nat}(i0:0<i)(h:i<=u.size):(t.map f).push (f (u.getD (i - 1) 0))=(t++(u.extract (i - 1) i).reverse).map f:=by
 rw[MW (by lia),show i - 1+1=i by lia];have e:(u.extract (i - 1) i).reverse=u.extract (i - 1) i:=by
  apply Array.toList_inj.mp;have:(u.extract (i - 1) i).toList.length=1:=by simp;lia
  rw[Array.toList_reverse]
  match h:(u.extract (i - 1) i).toList,this with
  |[x],_=>rfl
 rw[e]
def xQ{i j:Nat}(h:MI (rK key) T t.toList (A4 u i) (A4 v j))(e:i=0\/j=0):jt it key T (hdn (u.map (kas_item it)) (v.map (kas_item it)) (t.map (kas_item it)) i j):=by
 refine⟨u.extract 0 i++v.extract 0 j++t.reverse,by simp[hdn],?_⟩;have z:=h.sym.all λa ha b hb=>by grind
 rw[show(u.extract 0 i++v.extract 0 j++t.reverse).toList=(t.toList++A4 v j++A4 u i).reverse by simp,oq];exact⟨z.1,(iL _).trans z.2⟩
def xR{i j:Nat}(hu:∀k,k<u.size->O.kle (aF key v 0) (aF key u k))(hv:0<v.size)(h:MI (rK key) T t.toList (A4 u i) (A4 v j))(e:j=1):jt it key T (IX (u.map (kas_item it)) (v.map (kas_item it)) (t.map (kas_item it)) i j):=by
 subst e;refine⟨v.extract 0 1++u.extract 0 i++t.reverse,by simp[IX],?_⟩;have z:=h.all λa ha b hb=>by
  rw[A4,ua]at ha hb;rw[yY,List.head?_eq_getElem?,Vc (by simpa using hv)]at hb;obtain⟨k,hk,rfl⟩:=W5.mp (ko ha);have:=hu k (by simpa using hk);rw[aF,aF,gD hv,gD (by simpa using hk)]at this
  simp_all
 rw[show(v.extract 0 1++u.extract 0 i++t.reverse).toList=(t.toList++A4 u i++A4 v 1).reverse by simp,oq];exact⟨z.1,(iL _).trans z.2⟩
def O7{Q:AK->SortSt->Prop}(hq:CU prog w A s κ it key n)(hC:UC key n u v)(hu:0<u.size)(hv:0<v.size)(u6:u.size<=6)(v6:v.size<=6)(hg:7<=g)(h0:O.kle (aF key v (v.size - 1)) (aF key u (u.size - 1)))(h:∀r,jt it key (u.toList++v.toList) r->Q r (nh κ it p q g)):
  wpS (model prog w) A E s (ph (u.map (kas_item it)) (v.map (kas_item it))) Q (nh κ it p q g):=by
 have su:(u.map (kas_item it)).size=u.size:=W7;have sv:(v.map (kas_item it)).size=v.size:=W7;have i0:MI (rK key) (u.toList++v.toList) (#[]:Array Nat).toList (A4 u u.size) (A4 v v.size):=by
  have e:∀x:Array Nat,x.toList.take x.size=x.toList:=λx=>V7 (by simp);unfold A4;rw[e,e];refine⟨List.pairwise_reverse.mpr ?_,List.pairwise_reverse.mpr ?_,(iL _).append (iL _)⟩
  ·have:=(nY (Uz _)).mp hC.uU
   simp_all
  ·have:=(nY (Uz _)).mp hC.vU
   simp_all
 have z:=uI (m:=u.size - 1) i0 hv (Uz _) (by lia) (Uz _) λk h1 h2=>by rw[show k=u.size - 1 by lia];exact h0
 rw[wM];refine U3 (wpS_lift (Xh ⟨rfl,U3 ?_⟩));dsimp only;rw[su,sv];refine cB (by lia) ?_;have e1:(#[kas_item it (u.getD (u.size - 1) 0)]:AK)=(#[]++(u.extract (u.size - 1) u.size).reverse).map (kas_item it):=by rw[←Ha hu (Uz _),wo];rfl
 rw[e1];generalize(#[]++(u.extract (u.size - 1) u.size).reverse:Array Nat)=t at z;refine cM (λe=>U8 (h _ (xQ z (.inl (by simpa using e))))) λe=>cM (λe=>U8 (h _ (xR hC.fb hv z (by simpa using e)))) λe'=>?_;have e:u.size - 1≠0:=by simpa using e
 have e':v.size≠1:=by simpa using e'
 refine U3 (wpS_get (U3 (wpS_mono (We (I:=λx z st=>x=0/\st=nh κ it p q g/\z=(ah,u.size - 1,v.size,t.map (kas_item it),g)) (Q:=λz st=>st=nh κ it p q g/\∃r y,z=(af r,y)/\jt it key (u.toList++v.toList) r) ?_ (λz st hz=>by lia) ⟨rfl,rfl,rfl⟩) ?_)))
 ·rintro x z1 st _ g1 ⟨rfl,rfl,rfl⟩;refine U3 (wpS_mono (We (I:=λy z st=>st=nh κ it p q g/\∃t i j ac bc,z=(ah,i,j,t.map (kas_item it),ac,bc)/\UB key u v (u.toList++v.toList) y t i j/\ac+i<=u.size/\bc+j<=v.size)
   (Q:=λz st=>st=nh κ it p q g/\∃r y,z=(af r,y)/\jt it key (u.toList++v.toList) r) ?_ ?_ ⟨rfl,t,u.size - 1,v.size,0,0,rfl,⟨z,by lia,by lia,by lia,by lia,by lia⟩,by lia,by lia⟩) ?_)
  ·rintro y z st _ g2 ⟨rfl,t,i,j,ac,bc,rfl,⟨h,i0,hi,j0,hj,hc⟩,ha,hb⟩;dsimp only;refine U3 (cB (by lia) (U3 (cB (by lia) (U3 (qi hq (hC.vN _ (by lia)) (hC.uN _ (by lia)) ?_)))));cases hl:CC key (v.getD (j - 1) 0) (u.getD (i - 1) 0)with
   |true=>
    refine U3 (cB (by lia) ?_);have z:=uI (m:=i - 1) h (by lia) hj (by lia) hi λk h1 h2=>by rw[show k=i - 1 by lia];exact Wq hl
    rw[Ha i0 hi];refine cM (λe=>U8 ⟨rfl,_,_,rfl,xQ z (.inl (by simpa using e))⟩) λe=>?_;have e:i - 1≠0:=by simpa using e
    exact cM (λe=>absurd (show g<=ac+1 from e) (by lia)) λ_=>U8 ⟨rfl,_,_,_,_,_,rfl,⟨z,by lia,by lia,j0,hj,by lia⟩,by lia,by lia⟩
   |false=>
    refine U3 (cB (by lia) ?_);have z:=(uI (m:=j - 1) h.sym i0 hi (by lia) hj λk h1 h2=>by rw[show k=j - 1 by lia];exact hl).sym;rw[Ha (by lia) hj];refine cM (λe=>U8 ⟨rfl,_,_,rfl,xR hC.fb hv z (by simpa using e)⟩) λe=>?_;have e:j - 1≠1:=by simpa using e
    exact cM (λe=>absurd (show g<=bc+1 from e) (by lia)) λ_=>U8 ⟨rfl,_,_,_,_,_,rfl,⟨z,i0,hi,by lia,by lia,by lia⟩,by lia,by lia⟩
  ·rintro z st ⟨rfl,t,i,j,ac,bc,rfl,⟨h,i0,hi,j0,hj,hc⟩,_,_⟩;exfalso;lia
  ·rintro z st ⟨rfl,r,y,rfl,hF⟩;exact U8 ⟨rfl,r,_,rfl,hF⟩
 ·rintro z st ⟨rfl,r,y,rfl,hF⟩;exact U8 (h r hF)
end
def wN(i:Nat):mergeAt' i=(do
  let z ←get
  let(af (x,l,pw),af (y,m,_)):=((pendingOf z)[i]?,(pendingOf z)[i+1]?)|unsupported "internal:list.sort.pending"
  set (setPending z (((pendingOf z).setIfInBounds i (x,l+m,pw)).eraseIdxIfInBounds (i+1)))
  let af k ←gO aS (←elem' (arrOf z) y) (arrOf z) x l 0|return aS
  let(x,l):=(x+k,l - k)
  if l==0 then return av
  let af m ←gO av (←elem' (arrOf z) (x+l - 1)) (arrOf z) y m (m - 1)|return aS
  if m==0 then return av
  let a:=(arrOf z).extract x y
  let b:=(arrOf z).extract y (y+m)
  let r ←if l<=m then o9 a b else ph a b
  modify λs=>setArr s (r.toList.zipIdx.foldl (λa (p,j)=>a.setIfInBounds (x+j) p) (arrOf s))
  return (failedOf (←get)).isNone):=rfl
theorem Jk{α:Type}{x:Nat}:∀(l:List α)(c:Nat)(a:Array α),x+c+l.length<=a.size->(l.zipIdx c).foldl (λa (p,j)=>a.setIfInBounds (x+j) p) a=(a.toList.take (x+c)++l++a.toList.drop (x+c+l.length)).toArray
 |[],c,a,h=>by simp|y::l,c,a,h=>by
  rw[uu,List.foldl_cons,Jk l (c+1) _ (by simp at h ⊢;lia)];have h:x+c+(l.length+1)<=a.size:=by simpa using h
  rw[Array.toList_setIfInBounds,List.drop_set,if_pos (by lia),show x+(c+1)+l.length=x+c+(l.length+1) by lia,show x+(c+1)=x+c+1 by lia,List.take_succ_eq_append_getElem (by simp;lia),List.take_set_of_le (Uz _)];simp
section
variable{prog:bX}{w:ck}{A:cy}{E:ai->aE->Prop}{s:aE}{κ:SortKind}{it:Array Keyed}{O:KeyOrd}{key:Nat->O.α}{n g:Nat}{p u t:Array Nat}{q:Array (Nat×Nat×Nat)}
def Kr{σ:Type}{M:Model}{st st':σ}{Q:PUnit->σ->Prop}(h:Q ⟨⟩ st'):wpS M A E s (set st':StateT σ Sem PUnit) Q st:=by unfold wpS;rw[StateT.run_set];exact Uw ⟨rfl,h⟩
def uJ{a b i:Nat}(h:i<b - a)(hb:b<=p.size):(p.extract a b).getD i 0=p.getD (a+i) 0:=by
 apply iB
 simp_all
def mH{a b x:Nat}(hb:b<=p.size)(h:x∈(p.extract a b).toList):∃i,a<=i/\i<b/\x=p.getD i 0:=by
 obtain⟨i,hi,rfl⟩:=W5.mp h;have hi:i<b - a:=by simp at hi;lia
 exact⟨a+i,by lia,by lia,by rw[←uJ hi hb,gD (by simp;lia)]⟩
def xT{l:Nat}(h1:zw key p 0 l)(h2:zw key p l n)(h:∀i,i<l->O.kle (aF key p i) (aF key p l)):zw key p 0 n:=λi j _ h4 h5=>by
 by_cases hj:j<l
 ·exact h1 i j (by lia) h4 hj
 ·by_cases hi:i<l
  ·exact V6 (h i hi) (h2 l j (by lia) (by lia) h5)
  ·exact h2 i j (by lia) h4 h5
theorem few{l:List Nat}{a b:Nat}(nd:l.Nodup)(h:∀x∈l,a<=x/\x<b):l.length<=b - a:=by
 induction b generalizing l with
 |zero=>
  cases l with|nil=>simp|cons x r=>have:=h x (by simp);lia
 |succ b ih=>
  by_cases hb:b∈l
  ·have:=ih (l:=l.erase b) (nd.erase b) λx hx=>by
    have:=nd.mem_erase_iff.mp hx;have:=h x this.2;lia
   rw[kU hb]at this;have:=h b hb;have:=iA hb;lia
  ·have:=ih (l:=l) nd λx hx=>by
    have:=h x hx;have:x≠b:=λz=>hb (z▸hx);lia
   lia
def O8{l pw:Nat}{Q:Bool->SortSt->Prop}(hq:CU prog w A s κ it key n)(hp:aX n p)(l0:0<l)(hl:l<n)(h1:zw key p 0 l)(h2:zw key p l n)(hg:7<=g)(hl1:∀i,i<l->p.getD i 0<l)(RE:∀i j,i+7<=j->j<n->O.klt (key i) (key j))(h:∀p q g,aX n p->zw key p 0 n->q.size<=1->Q av (nh κ it p q g)):wpS (model prog w) A E s (mergeAt' 0) Q (nh κ it p #[(0,l,pw),(l,n - l,0)] g):=by
 have hs:=hp.size;have hN:∀k,k<p.size->p.getD k 0<n:=λk hk=>hp.lt (by omega);rw[wN];have q1:((#[(0,l,pw),(l,n - l,0)].setIfInBounds 0 (0,l+(n - l),pw)).eraseIdxIfInBounds (0+1)).size<=1:=by simp[Array.eraseIdxIfInBounds]
 refine U3 (wpS_get (U3 (Kr (U3 (cB (by omega) ?_)))));obtain⟨k,hk,hB⟩:=Jj (left:=aS) (y:=p.getD l 0) (key:=key) (u:=p) (base:=0) (r:=l) λa b h0 h3 h4=>h1 a b h0 h3 (by omega);refine U3 (Di hq (hN l (by omega)) (by omega) hN (by omega) hk hB ?_);simp only[Vm]at hB;have a1:∀i,i<k->O.kle (aF key p i) (aF key p l):=λi hi=>Dl (by rw[hB i (by omega),Wc hi]);have a2:∀i,k<=i->i<l->O.kle (aF key p l) (aF key p i):=λi h3 h4=>Dm (by rw[hB i h4,Wr (by omega)]);dsimp only;refine cM (λe=>U8 (h p _ g hp (xT h1 h2 λi hi=>a1 i (by have e:l - k=0:=(by simpa using e);omega)) q1)) λe=>?_;have e:l - k≠0:=by simpa using e
 refine U3 (cB (by omega) ?_);rw[show 0+k+(l - k) - 1=l - 1 by omega];obtain⟨m,hm,hB⟩:=Jj (left:=av) (y:=p.getD (l - 1) 0) (key:=key) (u:=p) (base:=l) (r:=n - l) λa b h0 h3 h4=>h2 a b h0 h3 (by omega);refine U3 (Di hq (hN (l - 1) (by omega)) (by omega) hN (by omega) hm hB ?_);have b1:∀i,l<=i->i<l+m->O.kle (aF key p i) (aF key p (l - 1)):=λi h3 h4=>by
  have z:=Dl (show mG key av (p.getD (l - 1) 0) p (l+(i - l))=av by rw[hB (i - l) (by omega),Wc (by omega)])
  rwa [show l+(i - l)=i by omega]at z
 have b2:∀i,l+m<=i->i<n->O.kle (aF key p (l - 1)) (aF key p i):=λi h3 h4=>by
  have z:=Dm (show mG key av (p.getD (l - 1) 0) p (l+(i - l))=aS by rw[hB (i - l) (by omega),Wr (by omega)])
  rwa [show l+(i - l)=i by omega]at z
 dsimp only;refine cM (λe=>U8 (h p _ g hp (xT h1 h2 λi hi=>V6 (h1 i (l - 1) (by omega) (by omega) (by omega)) (b2 l (by simp_all) hl)) q1)) λe'=>?_;have e':m≠0:=by simpa using e'
 have hl2:∀i,l<=i->i<n->l<=p.getD i 0:=λi c1 c2=>by
  refine V8 λz=>?_;have nd:((dc l).map λi=>p.getD i 0).Nodup:=VG.mpr (List.nodup_range.imp_of_mem λ{a c} ha hc z e=>z (hp.inj (by have:=W8.mp ha;omega) (by have:=W8.mp hc;omega) e));have:=few (l:=p.getD i 0::(dc l).map λi=>p.getD i 0) (a:=0) (b:=l) (Wf.mpr ⟨λz=>?_,nd⟩) λx hx=>?_
  ·simp at this;omega
  ·obtain⟨c,hc,e⟩:=Va.mp z;have hc:=W8.mp hc;have:=hp.inj (i:=c) (j:=i) (by omega) c2 e;omega
  ·rcases UJ.mp hx with rfl|hx
   ·omega
   ·obtain⟨c,hc,rfl⟩:=Va.mp hx
    simp_all
 have LB:∀a c b,c<=n->(∀i,a<=i->i<c->b<=p.getD i 0/\p.getD i 0<b+6)->c - a<=6:=λa c b hc hb=>by
  have:=few (l:=(rq a (c - a)).map λi=>p.getD i 0) (a:=b) (b:=b+6) (VG.mpr ((List.nodup_range' ..).imp_of_mem λ{x y} hx hy z e=>z (hp.inj (by have:=List.mem_range'_1.mp hx;omega) (by have:=List.mem_range'_1.mp hy;omega) e))) λx hx=>by obtain⟨i,hi,rfl⟩:=Va.mp hx;have:=List.mem_range'_1.mp hi;exact hb i (by omega) (by omega)
  simp_all
 have k6:l - k<=6:=by have hb0:=hl2 l (Uz _) hl;refine LB k l (p.getD l 0 - 6) (by omega) λi c1 c2=>?_;have:=hl1 i c2;refine⟨V8 λz=>?_,by omega⟩;have h7:=RE (p.getD i 0) (p.getD l 0) (by omega) (hp.lt hl);exact absurd (h7.symm.trans (a2 i c1 c2)) (by simp)
 have m6:m<=6:=by
  have ha0:=hl1 (l - 1) (by omega);have:=LB l (l+m) (p.getD (l - 1) 0+1) (by omega) λi c1 c2=>⟨by have:=hl2 i c1 (by omega);omega,V8 λz=>by
   have h7:=RE (p.getD (l - 1) 0) (p.getD i 0) (by omega) (hp.lt (by omega));exact absurd (h7.symm.trans (b1 i c1 c2)) (by simp)⟩
  omega
 have x1:∀a b,(p.map (kas_item it)).extract a b=(p.extract a b).map (kas_item it):=λa b=>by simp
 have s1:(p.extract (0+k) l).size=l - k:=by simp;omega
 have s2:(p.extract l (l+m)).size=m:=by simp;omega
 have gu:∀i,i<l - k->(p.extract (0+k) l).getD i 0=p.getD (k+i) 0:=λi hi=>by rw[uJ (by omega) (by omega),Vm]
 have gv:∀i,i<m->(p.extract l (l+m)).getD i 0=p.getD (l+i) 0:=λi hi=>uJ (by omega) (by omega);rw[x1,x1];have fin:∀(r:AK)(q:Array (Nat×Nat×Nat))(g:Nat),jt it key ((p.extract (0+k) l).toList++(p.extract l (l+m)).toList) r->q.size<=1->wpS (model prog w) A E s (do
   modify λs=>setArr s (r.toList.zipIdx.foldl (λa (p,j)=>a.setIfInBounds (0+k+j) p) (arrOf s))
   return (failedOf (←get)).isNone) Q (nh κ it p q g):=by
  rintro r q g ⟨t,rfl,t1,t2⟩ hq1;have st:t.size=l - k+m:=by have:=t2.length_eq;simp only[Vh,V9,s1,s2]at this;exact this
  refine U3 (wpS_modify (U3 (wpS_get (U8 ?_))));have e:((t.map (kas_item it)).toList.zipIdx 0).foldl (λa (p,j)=>a.setIfInBounds (0+k+j) p) (p.map (kas_item it))=(p.extract 0 k++t++p.extract (l+m) n).map (kas_item it):=by rw[Jk _ _ _ (by simp;omega)];apply Array.toList_inj.mp;simp[hs,st,show k+(l - k+m)=l+m by omega,fk];exact(V7 (by simp;omega)).symm
  rw[show setArr (nh κ it p q g) (((t.map (kas_item it)).toList.zipIdx 0).foldl (λa (p,j)=>a.setIfInBounds (0+k+j) p) (p.map (kas_item it)))=nh κ it (p.extract 0 k++t++p.extract (l+m) n) q g from VJ (λz=>SortSt.mk' κ z q g ah) e];have ep:p.toList=(p.extract 0 k).toList++((p.extract (0+k) l).toList++(p.extract l (l+m)).toList)++(p.extract (l+m) n).toList:=by
   have sp:∀a b,a<=b->p.toList.drop a=(p.extract a b).toList++p.toList.drop b:=λa b h=>by rw[ku,fk,show p.toList.drop b=(p.toList.drop a).drop (b - a) by simp_all,List.take_append_drop]
   have z:=sp 0 k (by omega);rw[sp k l hk,sp l (l+m) (by omega),sp (l+m) n (by omega),Xj (i:=n) (by simp;omega)]at z;simpa using z
  have pm:(p.extract 0 k++t++p.extract (l+m) n).toList.Perm p.toList:=by rw[Wi,Wi,ep];exact(i7 _ t2).append_right _
  have hp':aX n (p.extract 0 k++t++p.extract (l+m) n):=(Wg.mpr pm).trans hp;refine h _ q g hp' ((nY (by rw[hp'.size];simp)).mpr ?_) hq1;rw[V7 (by rw[V9,hp'.size];simp),rj,Wi,Wi,WD,WD];have mt:∀x∈t.toList,∃i,k<=i/\i<l+m/\x=p.getD i 0:=λx hx=>by
   rcases Vt.mp (t2.mem_iff.mp hx)with hx|hx
   ·obtain⟨i,c1,c2,c3⟩:=mH (by omega) hx;exact⟨i,by omega,by omega,c3⟩
   ·obtain⟨i,c1,c2,c3⟩:=mH (by omega) hx;exact⟨i,by omega,by omega,c3⟩
  have pw:∀a b,a<=b->b<=n->zw key p a b->(p.extract a b).toList.Pairwise (kR key):=λa b _ hb hu=>by have z:=(nY (by omega)).mp hu;rw[ku,fk,←xC];exact z
  refine⟨⟨pw 0 k (by omega) (by omega) λi j c1 c2 c3=>h1 i j c1 c2 (by omega),t1,λx hx y hy=>?_⟩,pw _ _ (by omega) (Uz _) λi j c1 c2 c3=>h2 i j (by omega) c2 c3,λx hx y hy=>?_⟩
  ·obtain⟨i,c1,c2,rfl⟩:=mH (by omega) hx;obtain⟨j,d1,d2,rfl⟩:=mt y hy;by_cases hj:j<l
   ·exact h1 i j (by omega) (by omega) hj
   ·exact V6 (a1 i c2) (h2 l j (by omega) (by omega) (by omega))
  ·obtain⟨j,d1,d2,rfl⟩:=mH (by omega) hy;have hi:∃i,i<l+m/\x=p.getD i 0:=by
    rcases Vt.mp hx with hx|hx
    ·obtain⟨i,c1,c2,c3⟩:=mH (by omega) hx;exact⟨i,by omega,c3⟩
    ·obtain⟨i,c1,c2,c3⟩:=mt x hx;exact⟨i,c2,c3⟩
   obtain⟨i,c1,rfl⟩:=hi;by_cases hi:i<l
   ·exact V6 (h1 i (l - 1) (by omega) (by omega) (by omega)) (b2 j d1 d2)
   ·exact h2 i j (by omega) (by omega) d2
 have uN:∀i,i<(p.extract (0+k) l).size->(p.extract (0+k) l).getD i 0<n:=λi hi=>by rw[gu i (by omega)];exact hN _ (by omega)
 have vN:∀i,i<(p.extract l (l+m)).size->(p.extract l (l+m)).getD i 0<n:=λi hi=>by rw[gv i (by omega)];exact hN _ (by omega)
 have uU:zw key (p.extract (0+k) l) 0 (p.extract (0+k) l).size:=λi j c1 c2 c3=>by rw[aF,aF,gu i (by omega),gu j (by omega)];exact h1 _ _ (by omega) (by omega) (by omega)
 have vU:zw key (p.extract l (l+m)) 0 (p.extract l (l+m)).size:=λi j c1 c2 c3=>by rw[aF,aF,gv i (by omega),gv j (by omega)];exact h2 _ _ (by omega) (by omega) (by omega)
 refine cM (λc=>U3 (O6 hq ⟨uN,vN,uU,vU,λi hi=>?_⟩ (by omega) (by omega) (by omega) (by omega) hg ?_ λr hr=>fin r _ g hr q1)) λc=>U3 (O7 hq ⟨uN,vN,uU,vU,λi hi=>?_⟩ (by omega) (by omega) (by omega) (by omega) hg ?_ λr hr=>fin r _ g hr q1)
 ·rw[aF,aF,gv i (by omega),gu _ (by omega),s1,show k+(l - k - 1)=l - 1 by omega];exact b1 _ (by omega) (by omega)
 ·rw[aF,aF,gv 0 (by omega),gu _ (by omega)];exact a2 _ (by omega) (by omega)
 ·rw[aF,aF,gv 0 (by omega),gu _ (by omega)];exact a2 _ (by omega) (by omega)
 ·rw[aF,aF,gv _ (by omega),gu _ (by omega),s1,show k+(l - k - 1)=l - 1 by omega];exact b1 _ (by omega) (by omega)
end
def RL{n:Nat}(h2:2<=n)(h:n<128):minRun' n n 0<=n/\n<=2*minRun' n n 0/\(n<64->minRun' n n 0=n):=by
 obtain⟨f,rfl⟩:∃f,n=f+2:=⟨n - 2,by lia⟩
 rw[show minRun' (f+2) (f+2) 0=if f+2<64 then f+2+0 else if(f+2)/2<64 then(f+2)/2+max 0 ((f+2) % 2)else minRun' f ((f+2)/2/2) (max (max 0 ((f+2) % 2)) ((f+2)/2 % 2))from rfl];split
 ·lia
 ·rw[if_pos (by lia)];lia
section
variable{prog:bX}{w:ck}{A:cy}{E:ai->aE->Prop}{s:aE}{κ:SortKind}{it:Array Keyed}{O:KeyOrd}{key:Nat->O.α}{n g:Nat}{p:Array Nat}
def N9(κ:SortKind)(it:Array Keyed)(key:Nat->O.α)(n:Nat)(st:SortSt):Prop:=∃p l pw,st=nh κ it p #[(0,l,pw),(l,n - l,0)] 7/\aX n p/\0<l/\l<n/\zw key p 0 l/\zw key p l n/\64<=n/\∀i,i<l->p.getD i 0<l
def One(κ:SortKind)(it:Array Keyed)(key:Nat->O.α)(n:Nat)(st:SortSt):Prop:=∃p g q,st=nh κ it p q g/\aX n p/\zw key p 0 n/\q.size<=1
def Ks{Q:Unit->SortSt->Prop}(hq:CU prog w A s κ it key n)(hp:aX n p)(hid:∀i,i<n->p.getD i 0=i)(h2:2<=n)(Of:n<128)(hN:64<=n->∀i j,i+7<=j->j<n->O.klt (key i) (key j))(h:∀p q g,aX n p->zw key p 0 n->Q () (nh κ it p q g)):
  wpS (model prog w) A E s sortRuns' Q (nh κ it p #[] 7):=by
 obtain⟨m1,m2,m3⟩:=RL h2 Of;rw[sortRuns'_eq];refine U3 (wpS_get ?_);dsimp only;rw[show(p.map (kas_item it)).size=n by rw[W7,hp.size]];generalize minRun' n n 0=mr at m1 m2 m3;refine U3 (wpS_mono (We (I:=λx c st=>(x=0/\c=(ah,0)/\st=nh κ it p #[] 7)\/(x=1/\∃l p,c=(ah,l)/\st=nh κ it p #[(0,l,0)] 7/\aX n p/\0<l/\l<=n/\mr<=l/\zw key p 0 l/\∀i,i<l->p.getD i 0<l)\/(x=2/\c=(ah,n)/\N9 κ it key n st))
  (Q:=λc st=>c=(ah,n)/\(One κ it key n st\/N9 κ it key n st)) ?_ ?_ (.inl ⟨rfl,rfl,rfl⟩)) ?_)
 ·rintro x c st _ hx (⟨rfl,rfl,rfl⟩|⟨rfl,l,p,rfl,rfl,hp,l0,hl,hm,hu,hlow⟩|⟨rfl,rfl,h⟩)
  ·dsimp only;rw[if_neg (by lia)];have low:∀p' m,aX n p'->(∀i,m<=i->i<n->p'.getD i 0=i)->∀i,i<m->i<n->p'.getD i 0<m:=λp' m hp' hs i c1 c2=>V8 λz=>by
    have:=hp'.lt c2;have:=hp'.inj (i:=i) (j:=p'.getD i 0) c2 this (hs _ (by lia) this).symm;lia
   refine U3 (uG hq (by lia) (by lia) hp λp1 m hp1 hb c1 c2 c3=>cM (λe=>U3 (wpS_lift (Xh ⟨rfl,U3 (Dh hq (by lia) c1 (by lia) hp1 c3 λp2 hp2 hb2 c3=>?_)⟩))) λe=>?_)
   ·generalize em:min (n - 0) mr=m at*;refine U3 (wpS_get (U3 (wpS_modify (U8 (.inr (.inl ⟨rfl,m,p2,by rw[Vm],rfl,hp2,by lia,by lia,by lia,by rw[Vm]at c3;exact c3,λi hi=>low p2 m hp2 (λi c1 c2=>by rw[hb2 i (by lia),hb i (by lia),hid i c2]) i hi (by lia)⟩))))))
   ·refine U3 (wpS_get (U3 (wpS_modify (U8 (.inr (.inl ⟨rfl,m,p1,by rw[Vm],rfl,hp1,by lia,by lia,by lia,by rw[Vm]at c3;exact c3,λi hi=>low p1 m hp1 (λi c1 c2=>by rw[hb i (by lia),hid i c2]) i hi (by lia)⟩))))))
  ·dsimp only;by_cases e:l>=n
   ·rw[if_pos e];have e:l=n:=by lia
    subst e;exact U8 ⟨rfl,.inl ⟨p,7,_,rfl,hp,hu,Uz 1⟩⟩
   ·rw[if_neg e];refine U3 (uG hq (by lia) (by lia) hp λp1 m hp1 hb c1 c2 c3=>cM (λe=>U3 (wpS_lift (Xh ⟨rfl,U3 (Dh hq (by lia) c1 (by lia) hp1 c3 λp2 hp2 hb2 c3=>?_)⟩))) λe=>?_)
    all_goals
     rename Array Nat=>pz
     rename aX n pz=>hpz
     have hs:∀i,i<l->pz.getD i 0=p.getD i 0:=by first|exact λi hi=>(hb2 i (.inl hi)).trans (hb i (.inl hi))|exact λi hi=>hb i (.inl hi)
     first|(have em:min (n - l) mr=n - l:=(by lia);rw[em]at c3 ⊢)|(have em:m=n - l:=(by lia);subst em)
     have hu1:zw key pz 0 l:=hu.same λk hk=>by rw[aF,aF,hs k hk]
     have LD:∀i,i<l->pz.getD i 0<l:=λi hi=>by rw[hs i hi];exact hlow i hi
     rw[show l+(n - l)=n by lia]at c3;refine U3 (wpS_get (U3 (wpS_mono (We (I:=λ_ c st=>c=(ah,())/\st=nh κ it pz #[(0,l,0)] 7) (Q:=λc st=>c=(ah,())/\st=nh κ it pz #[(0,l,0)] 7) ?_ (λ_ _ z=>z) ⟨rfl,rfl⟩) ?_)))
     ·rintro x c st _ _ ⟨rfl,rfl⟩;exact U3 (wpS_get (U8 ⟨rfl,rfl⟩))
     ·rintro c st ⟨rfl,rfl⟩;refine U3 (wpS_modify (U3 (wpS_modify (U8 (.inr (.inr ⟨rfl,by rw[show l+(n - l)=n by lia],pz,l,power' n (2*0+l) (2*0+l+l+(n - l)) n,?_,hpz,l0,by lia,hu1,c3,V8 λz=>by have:=m3 (by lia);lia,LD⟩))))));refine VJ (λz=>SortSt.mk' κ (pz.map (kas_item it)) z 7 ah) ?_;simp[Array.modify,Array.modifyM];rfl
  ·dsimp only;rw[if_pos (Uz _)];exact U8 ⟨rfl,.inr h⟩
 ·rintro c st (⟨e,_⟩|⟨e,_⟩|⟨e,rfl,h⟩)
  ·lia
  ·lia
  ·exact⟨rfl,.inr h⟩
 ·rintro c st ⟨rfl,hO⟩;refine U3 (wpS_mono (We (I:=λx c st=>c=(ah,())/\(One κ it key n st\/x=0/\N9 κ it key n st)) (Q:=λc st=>c=(ah,())/\One κ it key n st) ?_ ?_ ⟨rfl,hO.imp id λh=>⟨rfl,h⟩⟩) ?_)
  ·rintro x c st _ _ ⟨rfl,⟨p,g,q,rfl,hp,hu,hz⟩|⟨rfl,p,l,pw,rfl,hp,l0,hl,h1,h2,h64,hlow⟩⟩
   ·refine U3 (wpS_get ?_);rw[if_pos hz];exact U8 ⟨rfl,p,g,q,rfl,hp,hu,hz⟩
   ·refine U3 (wpS_get (U3 (O8 hq hp l0 hl h1 h2 (Uz _) hlow (hN h64) λp q g c1 c2 c3=>U8 ⟨rfl,.inl ⟨p,g,q,rfl,c1,c2,c3⟩⟩)))
  ·rintro c st ⟨rfl,h|⟨e,_⟩⟩
   ·exact⟨rfl,h⟩
   ·lia
  ·rintro c st ⟨rfl,p,g,q,rfl,hp,hu,_⟩;exact U8 (h p q g hp hu)
end
section
variable{prog:bX}{w:ck}{A:cy}{E:ai->aE->Prop}{s:aE}{O:KeyOrd}{key:Nat->O.α}
def Up(key:Nat->O.α)(p:Array Nat)(m:Nat):Prop:=∀i j,i<=j->j<m->O.kle (aF key p i) (aF key p j)
def Keeps(h h':cK):Prop:=∀b o,h.get? b=af o->h'.get? b=af o
def uK{a:ay}{vs:List ai}{n:Nat}{κ:SortKind}{P:PySem.Fin->aE->Prop}{h0:cK}(hk0:Keeps h0 s.heap)(ha0:h0.get? a=ah)(ho:s.heap.get? a=af (seqObj "list" vs.toArray n))(h64:vs.length<128)(hinj:∀i j,i<vs.length->j<vs.length->key i=key j->i=j)(hN:64<=vs.length->∀i j,i+7<=j->j<vs.length->O.klt (key i) (key j))(hkind:2<=vs.length->∀h' (Q:SortKind->aE->Prop),Keeps h0 h'->Q κ {s with heap:=h'}->bg (model prog w) A (keyKind' vs.toArray) Q E {s with heap:=h'})(hlt:∀h' i j (C:Bool->aE->Prop),Keeps h0 h'->i<vs.length->j<vs.length->C (CC key i j) {s with heap:=h'}->bg (model prog w) A (keyLt' κ (vs.getD i .none) (vs.getD j .none)) C (λ_ _=>False) {s with heap:=h'})(h:∀p:Array Nat,aX vs.length p->Up key p vs.length->P (.done (.ret .none)) {s with heap:=sortedHeap s.heap a vs (p.map λi=>vs.getD i .none)}):bg (model prog w) A (Builtin.«list.sort» ⟨[.ref a],[]⟩) P E s:=by
 have hal:a<s.heap.objs.size:=U4 ho;have hle:vs.toArray.size<=sizeLine:=by rw[VL,Vr];lia
 rw[list_sort_plain];refine My (listItems_at ho rfl (My (listUpdate_at ho rfl ?_ hle (by simp))));obtain⟨c,hc⟩:∃c,(s.heap.update a (Obj.mapSeq λ_=> #[])).get? a=af (seqObj "list" #[] c):=⟨_,get?_update_seq ho λ_=> #[]⟩
 refine My (seqEpoch_at hc rfl (My (wpAny_newTuple (My (wpAny_newList (VB ?_))) (by rw[VL];simpa using Xl (zk h64 (by decide))))));obtain⟨hh,Fc⟩:∃hh,hh=((s.heap.update a (Obj.mapSeq λ_=>(#[]:Array ai))).push (seqObj "tuple" vs.toArray 0)).push (seqObj "list" #[] 0):=⟨_,rfl⟩
 have hc2:hh.get? a=af (seqObj "list" #[] c):=by rw[Fc];exact Uv _ (Uv _ hc)
 have keep:Keeps h0 hh:=λb o e=>by
  have hb:b≠a:=λz=>by rw[z,ha0]at e;cases e
  rw[Fc];refine Uv _ (Uv _ ?_);rw[Heap.get?_update_ne _ _ _ _ hb];exact hk0 b o e
 show bg (model prog w) A _ P E {s with heap:=((s.heap.update a (Obj.mapSeq λ_=>(#[]:Array ai))).push (seqObj "tuple" vs.toArray 0)).push (seqObj "list" #[] 0)};rw[←Fc];dsimp only;have done:∀(p:Array Nat)(arr:Array Keyed),aX vs.length p->Up key p vs.length->arr=p.map (kas_item (pairsOf vs))->P (.done (.ret .none)) {s with heap:=hh.update a (Obj.mapSeq λ_=>arr.map (·.2))}:=by
  intro p arr h1 h2 e;have e2:arr.map (·.2)=p.map λi=>vs.getD i .none:=by rw[e,Array.map_map];congr 1;funext i;exact VJ Prod.snd (kas_item_eq vs i)
  rw[e2,Fc];exact h p h1 h2
 have fits:∀(p:Array Nat)(arr:Array Keyed),aX vs.length p->arr=p.map (kas_item (pairsOf vs))->(arr.map (·.2)).size<=aT+1:=by intro p arr h1 e;rw[e,W7,W7,h1.size,VL];lia
 have hpz:=pairsOf_size vs;have start:(dc vs.length).toArray.map (kas_item (pairsOf vs))=pairsOf vs:=by rw[←hpz];exact kas_range _
 by_cases h2:vs.toArray.size<2
 ·rw[if_pos h2,if_pos h2];refine My (Uw ?_);rw[StateT.run_pure];refine My (Uw ?_);dsimp only;have hP:aX vs.length (dc vs.length).toArray:=xh _;have e3:vs.toArray.zip vs.toArray=(dc vs.length).toArray.map (kas_item (pairsOf vs)):=start.symm;refine My (seqEpoch_at hc2 rfl (My (listUpdate_at hc2 rfl ?_ (Wx _) (fits _ _ hP e3))));simp only[bne_self_eq_false,Vq,VR];refine Uw (done _ _ hP (λi j hij hj=>?_) e3);have:i=j:=by rw[Vr]at h2;lia
  subst this;exact WT _
 ·rw[if_neg h2,if_neg h2];rw[Vr]at h2;refine My (hkind (by lia) hh _ keep ?_);have run:=Ks (prog:=prog) (w:=w) (A:=A) (E:=E) (s:={s with heap:=hh}) (κ:=κ) (it:=pairsOf vs) (key:=key) (n:=vs.length) (p:=(dc vs.length).toArray) (Q:=λ_ st=>failedOf st=ah/\∃p,arrOf st=p.map (kas_item (pairsOf vs))/\aX vs.length p/\Up key p vs.length)
   ⟨λi j C hi hj hC=>by
    rw[kas_item_eq,kas_item_eq];exact hlt hh i j C keep hi hj hC,hinj⟩ (xh _) (λi hi=>by simp[qf,hi]) (by lia) h64 hN λp q g h1 h2=>⟨rfl,p,rfl,h1,λi j=>h2 i j (Wx _)⟩
  unfold wpS nh at run;rw[start]at run;refine My (VH run (λr s' hr=>?_) λ_ _ e=>e);obtain⟨⟨⟩,st'⟩:=r;obtain⟨rfl,hf,p,e,hP,hU⟩:=hr;dsimp only;refine My (seqEpoch_at hc2 rfl (My (listUpdate_at hc2 rfl ?_ (Wx _) (fits p _ hP e))));rw[hf];simp only[bne_self_eq_false,Vq,VR];exact Uw (done p _ hP hU e)
def zW{l:ay}{vs:List ai}{κ:SortKind}{Q:ai->aE->Prop}(hl:s.heap.IsList l vs.toArray)(h64:vs.length<128)(hinj:∀i j,i<vs.length->j<vs.length->key i=key j->i=j)(hN:64<=vs.length->∀i j,i+7<=j->j<vs.length->O.klt (key i) (key j))(hkind:2<=vs.length->∀(A:cy)(E:ai->aE->Prop) h' (Q:SortKind->aE->Prop),Keeps s.heap h'->Q κ {s with heap:=h'}->bg (model prog w) A (keyKind' vs.toArray) Q E {s with heap:=h'})(hlt:∀h' i j (C:Bool->aE->Prop),Keeps s.heap h'->i<vs.length->j<vs.length->C (CC key i j) {s with heap:=h'}->bg (model prog w) A.in1.in1 (keyLt' κ (vs.getD i .none) (vs.getD j .none)) C (λ_ _=>False) {s with heap:=h'})(h:∀p:Array Nat,aX vs.length p->Up key p vs.length->Q (.ref (s.heap.objs.size+1)) {s with heap:=sortedAll s.heap vs (p.map λi=>vs.getD i .none)}):bg (model prog w) A (call (.builtin "sorted") [.ref l]) Q E s:=by
 have hle:vs.length<=sizeLine:=by rw[VL];lia
 refine Calls.call_function_entry kind_sorted plain_sorted entry_sorted (args_sorted1 _) ?_;unfold Builtin.«sorted»;refine My (m:=checkCount "sorted" 1 1 _) (Uw (My (collect_list hl (My (wpAny_newList ?_ hle)) hle)));have hz:((s.heap.push (seqObj "list" #[] 0)).update s.heap.objs.size (Obj.mapSeq (·++vs.toArray))).objs.size=s.heap.objs.size+1:=(Heap.size_update ..).trans (size_push' ..);obtain⟨hh,Fc⟩:∃hh,hh=((s.heap.push (seqObj "list" #[] 0)).update s.heap.objs.size (Obj.mapSeq (·++vs.toArray))).push (seqObj "list" vs.toArray 0):=⟨_,rfl⟩
 have hat:hh.get? (s.heap.objs.size+1)=af (seqObj "list" vs.toArray 0):=by rw[Fc,←hz];exact UW _ rfl
 have keep:Keeps s.heap hh:=λb o e=>by have hb:b<s.heap.objs.size:=U4 e;rw[Fc];refine Uv _ ?_;rw[Heap.get?_update_ne _ _ _ _ (Vb hb)];exact Uv _ e
 show bg _ _ _ _ _ {s with heap:=((s.heap.push (seqObj "list" #[] 0)).update s.heap.objs.size (Obj.mapSeq (·++vs.toArray))).push (seqObj "list" vs.toArray 0)};rw[hz,←Fc];refine My (VB (VV slot_list_sort ⟨_,hat,rfl⟩ entry_list_sort ?body (args_list_sort _)));refine uK (s:={s with heap:=hh}) (κ:=κ) (key:=key) (h0:=s.heap) keep (Heap.get?_none_of_le (Wt _)) hat h64 hinj hN (λh2 h' Q' k q=>hkind h2 _ _ h' Q' k q) (λh' i j C k hi hj hC=>hlt h' i j C k hi hj hC) λp h1 h2=>⟨_,rfl,?_⟩
 have q:=h p h1 h2;unfold sortedAll at q;rw[←Fc]at q;exact Uw ⟨_,rfl,q⟩
end
end RK
namespace RK
open PySem L2 PySem.SeqAt PyProof.Rows PySem.W
section
variable{prog:bX}{w:ck}{A:cy}{s:aE}{Q:Bool->aE->Prop}
theorem pq{b:Bool}:∀(us vs:List ai)(ns ms:List Int)(i:Nat)(fin:Bool),IntsAre us ns->IntsAre vs ms->fin=decide (ns.length<ms.length)->Q (lexLt ns ms) s->KatLex prog w A b fin Q (us.zip vs) i s
 |[],[],ns,ms,i,fin,h1,h2,hf,q=>by cases h1;cases h2;rw[hf];exact q|[],v::vs,ns,ms,i,fin,h1,h2,hf,q=>by cases h1;cases h2;rw[hf];exact q|u::us,[],ns,ms,i,fin,h1,h2,hf,q=>by cases h2;cases h1;rw[hf];exact q|u::us,v::vs,ns,ms,i,fin,h1,h2,hf,q=>by
  cases h1 with
  |cons n t r1=>
   cases h2 with
   |cons m t' r2=>
    rename_i ns' ms';refine kat_cons (wpAny_eqBool_int ?_);unfold lexLt at q;by_cases e:n=m
    ·subst e;rw[if_pos rfl]at q;rw[show(n==n)=av by simp];refine kat_yes (pq us vs ns' ms' (i+1) fin r1 r2 ?_ q);rw[hf];simp
    ·rw[if_neg e]at q;rw[show(n==m)=aS by simpa using e];refine kat_no ?_;cases hb:(b && i==0)with|true=>exact oneLt_int q|false=>exact kat_one _ _ (lt_int q)
end
def CellsAre:Bool->List ai->List Int->Prop
 |false,us,ns=>IntsAre us ns|true,us,ns=>∃a t c u r ms,us= .int a t:: .str (word c) u::r/\ns=a::c::ms/\(c=0\/c=1)/\IntsAre r ms
def LF(mx:Bool)(r:List Int):Prop:=mx=av->∃a c ms,r=a::c::ms/\(c=0\/c=1)
def BB(mx:Bool)(r:List Int):List V:=match mx with
 |false=>r.map V.int|true=>match r with
  |[]=> []|a::s=>match s with
   |[]=> []|c::ns=> .int a:: .str (word c)::ns.map V.int
theorem CellsAre.len:∀{mx:Bool}{us:List ai}{ns:List Int},CellsAre mx us ns->us.length=ns.length
 |false,us,ns,h=>IntsAre.length h|true,us,ns,h=>by obtain⟨a,t,c,u,r,ms,rfl,rfl,_,h⟩:=h;simp[IntsAre.length h]
theorem CellsAre.first:∀{mx:Bool}{us:List ai}{z:Int}{zs:List Int},CellsAre mx us (z::zs)->∃t r,us= .int z t::r
 |false,us,z,zs,h=>by
  cases us with
  |nil=>cases h|cons u us=>cases h with|cons _ t _=>lia
 |true,us,z,zs,h=>by
  obtain⟨a,t,c,u,r,ms,rfl,e,_,h⟩:=h
  simp_all
theorem Hb:∀{mx:Bool}{ns:List Int}{us:List ai},LF mx ns->Vals (BB mx ns) us->CellsAre mx us ns
 |false,ns,us,_,h=>intsAre_of h|true,ns,us,o,h=>by
  obtain⟨a,c,ms,rfl,hc⟩:=o rfl;cases h with
  |cons h1 h=>
   cases h with
   |cons h2 h=>obtain⟨t,rfl⟩:=h1;obtain⟨u,rfl⟩:=h2;exact⟨a,t,c,u,_,ms,rfl,rfl,hc,intsAre_of h⟩
theorem Dp{prog:bX}{w:ck}{A:cy}{s:aE}{Q:Bool->aE->Prop}{b:Bool}:∀{mx:Bool}{us vs:List ai}{ns ms:List Int}{fin:Bool},CellsAre mx us ns->CellsAre mx vs ms->fin=decide (ns.length<ms.length)->Q (lexLt ns ms) s->KatLex prog w A b fin Q (us.zip vs) 0 s
 |false,us,vs,ns,ms,fin,h1,h2,hf,q=>pq us vs ns ms 0 fin h1 h2 hf q|true,us,vs,ns,ms,fin,h1,h2,hf,q=>by
  obtain⟨a,t,c,u,r,ns,rfl,rfl,hc,h1⟩:=h1;obtain⟨a',t',c',u',r',ms,rfl,rfl,hc',h2⟩:=h2;refine kat_cons (wpAny_eqBool_int ?_);unfold lexLt at q;by_cases e:a=a'
  ·subst e;rw[if_pos rfl]at q;rw[show(a==a)=av by simp];refine kat_yes (kat_cons (wpAny_eqBool_str ?_));unfold lexLt at q;by_cases ec:c=c'
   ·subst ec;rw[if_pos rfl]at q;rw[Wc rfl];exact kat_yes (pq r r' ns ms 2 fin h1 h2 (by rw[hf];simp) q)
   ·rw[if_neg ec]at q;have ew:word c≠word c':=by
     rcases hc with rfl|rfl<;>rcases hc' with rfl|rfl<;>first|exact absurd rfl ec|decide
    rw[Wr ew];refine kat_no ?_;rw[show(b && 0+1==0)=aS by lia];refine kat_one _ _ (lt_str ?_);have el:decide ((word c).cps.toList<(word c').cps.toList)=decide (c<c'):=by rcases hc with rfl|rfl<;>rcases hc' with rfl|rfl<;>first|rfl|decide
    rw[el];exact q
  ·rw[if_neg e]at q;rw[show(a==a')=aS by simpa using e];refine kat_no ?_;cases hb:(b && 0==0)with|true=>exact oneLt_int q|false=>exact kat_one _ _ (lt_int q)
def fc(K:aI)(H:Hp)(mx:Bool):List V->List (List Int)->Prop
 |[],[]=>True|v::vs,r::rs=>(∃a,v= .ref a/\sR K H a (BB mx r)/\LF mx r)/\fc K H mx vs rs|_,_=>False
section
variable{K:aI}{H:Hp}{m:List ay}{mx:Bool}
theorem fc.len:∀{vs:List V}{rs:List (List Int)},fc K H mx vs rs->vs.length=rs.length
 |[],[],_=>rfl|v::vs,r::rs,h=>by simp[fc.len h.2]|[],_::_,h=>h.elim|_::_,[],h=>h.elim
theorem fc.get:∀{vs:List V}{rs:List (List Int)}{i:Nat}(h:fc K H mx vs rs)(h1:i<vs.length)(h2:i<rs.length),∃a,vs[i]= .ref a/\sR K H a (BB mx rs[i])/\LF mx rs[i]
 |v::vs,r::rs,0,h,_,_=>h.1|v::vs,r::rs,i+1,h,h1,h2=>by simp only[nB];exact fc.get h.2 (by simpa using h1) (by simpa using h2)|[],[],i,h,h1,h2=>by simp at h1|[],_::_,_,h,_,_=>h.elim|_::_,[],_,h,_,_=>h.elim
theorem pA:∀{vs:List V}{rs:List (List Int)},vs.length=rs.length->(∀i (h1:i<vs.length) (h2:i<rs.length),∃a,vs[i]= .ref a/\sR K H a (BB mx rs[i])/\LF mx rs[i])->fc K H mx vs rs
 |[],[],_,_=>trivial
 |v::vs,r::rs,hl,h=>⟨h 0 (by simp) (by simp),pA (by simpa using hl) λi h1 h2=>by
   have:=h (i+1) (by simpa using h1) (by simpa using h2);simpa using this⟩
 |[],_::_,hl,_=>by simp at hl|_::_,[],hl,_=>by simp at hl
theorem uL{X:Cx}:∀{ds:List D}{vs:List V}{rs:List (List Int)},fR X.K m H ds vs->dC ds=af rs->fc X.K H aS vs rs
 |[],vs,rs,h,e=>by
  have:rs=[]:=by simpa[dC]using e
  subst this;rw[h.nil_of];trivial
 |d::ds,vs,rs,h,e=>by
  obtain⟨v,r,rfl,h1,h2⟩:=h.cons_of;cases d with
  |tup es=>
   simp only[dC]at e;cases e1:bf es with
   |none=>simp_all|some ns=>
    cases e2:dC ds with
    |none=>simp_all|some rs'=>
     rw[e1,e2]at e;cases ns with
     |nil=>simp at e|cons n ns=>
      have e3:(n::ns)::rs'=rs:=by simpa using e
      subst e3;obtain⟨a,us,rfl,hq,rd⟩:=dD h1;have e4:=iz e1;subst e4;have e5:=gM (X:=X) rd;subst e5;exact⟨⟨a,rfl,hq,λz=>by cases z⟩,uL h2 e2⟩
  |_=>simp[dC]at e
theorem uM:∀{ds:List D}{rs:List (List Int)},dC ds=af rs->∀r∈rs,r≠ []
 |[],rs,e,r,hr=>by
  have:rs=[]:=by simpa[dC]using e
  simp_all
 |d::ds,rs,e,r,hr=>by
  cases d with
  |tup es=>
   simp only[dC]at e;cases e1:bf es with
   |none=>simp_all|some ns=>
    cases e2:dC ds with
    |none=>simp_all|some rs'=>
     rw[e1,e2]at e;cases ns with
     |nil=>simp at e|cons n ns=>
      have e3:(n::ns)::rs'=rs:=by simpa using e
      subst e3;rcases UJ.mp hr with rfl|hr
      ·simp
      ·exact uM e2 r hr
  |_=>simp[dC]at e
theorem mJ{X:Cx}:∀{vs:List V}{rs:List (List Int)},fc X.K H aS vs rs->fR X.K m H (rs.map dm) vs
 |[],[],_=> .nil|v::vs,r::rs,h=>by obtain⟨a,rfl,hq,_⟩:=h.1;exact .cons (jr hq dJ) (mJ h.2)
 |[],_::_,h=>h.elim|_::_,[],h=>h.elim
def Ku{d:D}{r:List Int}(h:uy d=af r):∃a c ns,r=a::c::ns/\(c=0\/c=1)/\d= .tup (.int a:: .str (word c)::ns.map .int):=by
 unfold uy at h;split at h
 ·rename_i es;split at h
  ·cases h
  ·rename_i x s;split at h
   ·cases h
   ·rename_i y r';split at h
    ·rename_i a;split at h
     ·rename_i w;cases ec:zF w with
      |none=>simp_all|some c=>rw[ec]at h;obtain⟨ns,e1,e2⟩:=Wh.mp h;subst e2;have e4:=iz e1;subst e4;unfold zF at ec;lia
     ·cases h
    ·cases h
 ·cases h
theorem sO{X:Cx}:∀{ds:List D}{vs:List V}{rs:List (List Int)},fR X.K m H ds vs->jD ds=af rs->fc X.K H av vs rs/\∀r∈rs,r≠ []
 |[],vs,rs,h,e=>by
  have:rs=[]:=by simpa[jD]using e
  subst this;rw[h.nil_of];exact⟨trivial,λr hr=>by cases hr⟩
 |d::ds,vs,rs,h,e=>by
  obtain⟨v,r,rfl,h1,h2⟩:=h.cons_of;simp only[jD]at e;cases e1:uy d with
  |none=>simp_all|some x=>
   rw[e1]at e;obtain⟨rs',e2,e3⟩:=Wh.mp e;subst e3;obtain⟨a,c,ns,rfl,hc,rfl⟩:=Ku e1;obtain⟨p,us,rfl,hq,rd⟩:=dD h1;obtain⟨w1,r1,rfl,g1,UD⟩:=rd.cons_of;obtain⟨w2,r2,rfl,g2,UE⟩:=UD.cons_of;cases gc g1;have g2:w2= .str (word c):=g2;subst g2;have e5:=gM (X:=X) UE;subst e5;obtain⟨q1,q2⟩:=sO h2 e2;exact⟨⟨⟨p,rfl,hq,λ_=>⟨a,c,ns,rfl,hc⟩⟩,q1⟩,λr hr=>by
    grind⟩
theorem sS{X:Cx}:∀{vs:List V}{rs:List (List Int)},fc X.K H av vs rs->fR X.K m H (rs.map aL) vs
 |[],[],_=> .nil|v::vs,r::rs,h=>by obtain⟨a,rfl,hq,o⟩:=h.1;obtain⟨x,c,ms,rfl,_⟩:=o rfl;exact .cons (jr hq (.cons cQ (.cons (show RD X.K m H (.str _) _ from rfl) dJ))) (sS h.2)
 |[],_::_,h=>h.elim|_::_,[],h=>h.elim
end
theorem sU{h:cK}:∀{us fs:List ai}{rs:List (List Int)},(∀i (h1:i<us.length),∃a o xs n,us[i]= .ref a/\h.get? a=af o/\o.cls= .type "tuple" /\o.data= .seq xs n/\∃f,fs[i]?=af f/\xs[0]?=af f)->us.length=fs.length->KatTups h us fs
 |[],[],rs,_,_=> .nil|u::us,f::fs,rs,hh,hl=>by
  obtain⟨a,o,xs,n,e,h1,h2,h3,f',h4,h5⟩:=hh 0 (by simp);have ef:f=f':=by simpa using h4
  subst ef;have eu:u= .ref a:=by simpa using e
  subst eu;refine .cons h1 h2 h3 h5 (sU (rs:=rs) (λi hi=>?_) (by simpa using hl));have:=hh (i+1) (by simpa using hi);simpa using this
 |[],_::_,_,_,hl=>by simp at hl|_::_,[],_,_,hl=>by simp at hl
def uO(mx:Bool)(h0:cK)(its:List ai)(rs:List (List Int)):Prop:=∀i,i<its.length->∃a o us n,its[i]?=af (.ref a)/\h0.get? a=af o/\o.cls= .type "tuple" /\o.data= .seq us n/\CellsAre mx us.toList (rs.getD i [])
section
variable{prog:bX}{w:ck}{h0:cK}{its:List ai}{rs:List (List Int)}{s:aE}{mx:Bool}
def sV(at_:uO mx h0 its rs)(hne:∀r∈rs,r≠ [])(hlr:its.length=rs.length)(h64:its.length<128){A':cy}{E':ai->aE->Prop}{h':cK}{Q':SortKind->aE->Prop}(k:Keeps h0 h')(qq:Q' (tuples' av) {s with heap:=h'})(h2:2<=its.length):
  bg (model prog w) A' (keyKind' its.toArray) Q' E' {s with heap:=h'}:=by
 have hfs:∃fs:List ai,fs.length=its.length/\∀i (h1:i<its.length),∃a o xs n,its[i]= .ref a/\h0.get? a=af o/\o.cls= .type "tuple" /\o.data= .seq xs n/\∃f,fs[i]?=af f/\xs[0]?=af f/\∃z t,f= .int z t:=by
  refine⟨(dc its.length).map λi=>match its.getD i .none with|.ref a=>(match h0.get? a with|some o=>(match o.data with|.seq xs _=>xs.getD 0 .none|_=> .none)|none=> .none)|_=> .none,by simp,λi h1=>?_⟩;obtain⟨a,o,xs,n,e,ho,hc,hd,hi⟩:=at_ i h1;have hr:rs.getD i []≠ []:=by
   have h2:i<rs.length:=by lia
   have eg:rs.getD i []=rs[i]:=by simp[h2]
   rw[eg];exact hne _ (j3 h2)
  obtain⟨z,zs,ez⟩:∃z zs,rs.getD i []=z::zs:=by
   cases e:rs.getD i []with|nil=>lia|cons z zs=>lia
  rw[ez]at hi;obtain⟨t,r,ex⟩:=hi.first;have e0:xs[0]?=af (.int z t):=by rw[←Array.getElem?_toList,ex];rfl
  refine⟨a,o,xs,n,?_,ho,hc,hd,.int z t,?_,e0,z,t,rfl⟩
  ·rw[Vc h1]at e;simpa using e
  ·simp_all
 obtain⟨fs,hl,hfs⟩:=hfs;refine kat_kind (T:= .type "int") (fs:=fs) (sU (rs:=rs) (λi h1=>?_) hl.symm) (by lia) (λv hv=>?_) rfl qq
 ·obtain⟨a,o,xs,n,e1,e2,e3,e4,f,e5,e6,_⟩:=hfs i h1;exact⟨a,o,xs,n,e1,k _ _ e2,e3,e4,f,e5,e6⟩
 ·obtain⟨i,hi⟩:=Xo.mp hv;have hil:i<its.length:=by rw[←hl];exact(UL.mp hi).1
  obtain⟨a,o,xs,n,e1,e2,e3,e4,f,e5,e6,z,t,rfl⟩:=hfs i hil;rw[hi]at e5;have:v= .int z t:=by simpa using e5
  subst this;exact .now
def xU(at_:uO mx h0 its rs){A':cy}{E':ai->aE->Prop}{h':cK}{i j:Nat}{C:Bool->aE->Prop}(k:Keeps h0 h')(hi:i<its.length)(hj:j<its.length)(hC:C (CC (O:=jW) (λi=>rs.getD i []) i j) {s with heap:=h'}):
  bg (model prog w) A' (keyLt' (tuples' av) (its.getD i .none) (its.getD j .none)) C E' {s with heap:=h'}:=by
 obtain⟨a,o,xs,n,e1,h1,_,h3,h4⟩:=at_ i hi;obtain⟨b,o',ys,n',e2,g1,_,g3,g4⟩:=at_ j hj;rw[show its.getD i .none= .ref a by simp_all,show its.getD j .none= .ref b by simp_all];refine kat_lt (k _ _ h1) h3 (k _ _ g1) g3 (Dp h4 g4 ?_ hC);have z1:=h4.len;have z2:=g4.len
 simp_all
def oM{pm:Array Nat}(hlr:its.length=rs.length)(hp:aX its.length pm)(hu:Up (O:=jW) (λi=>rs.getD i []) pm its.length):pm.toList.map (λi=>rs.getD i [])=bh rs:=by
 have hsz:=hp.size;have hperm:=Wg.mp hp;simp only[kG]at hperm;refine oZ ?_ ?_
 ·have h1:=hperm.map (λi=>rs.getD i []);refine h1.trans (pV ?_);refine List.ext_getElem (by simp;lia) λi h2 h3=>?_;simp[h3]
 ·refine List.pairwise_iff_getElem.mpr λi j h1 h2 hij=>?_;simp only[kc];have hj:j<its.length:=by simpa[hsz]using h2
  have:=hu i j (Xl hij) hj;unfold aF at this;have e1:pm.getD i 0=pm.toList[i]'(by simpa using h1):=by
   have:i<pm.size:=by lia
   simp[qf,this]
  have e2:pm.getD j 0=pm.toList[j]'(by simpa using h2):=by
   have:j<pm.size:=by lia
   simp[qf,this]
  rw[e1,e2]at this;exact this
end
def uP{rs:List (List Int)}{m:Nat}(hm:m=rs.length)(hn:rs.Nodup):∀i j,i<m->j<m->rs.getD i []=rs.getD j []->i=j:=λi j hi hj e=>by
 have e1:∀k (hk:k<rs.length),rs.getD k []=rs[k]:=λk hk=>by simp[hk]
 rw[e1 i (by lia),e1 j (by lia)]at e;exact(nV hn).mp e
section
variable{X:Cx}
def ju{mx:Bool}:bH X (.builtin "sorted") (λxs H Q=>∃p vs rs,xs=[.ref p]/\xy X.K H p vs/\fc X.K H mx vs rs/\(∀r∈rs,r≠ [])/\lZ rs/\∀l ws,H l=ah->fc X.K H mx ws (bh rs)->Q (.ref l) (upd H l (.lst ws))):=by
 intro pins s σ H xs us Q I rv h;obtain⟨p,vs,rs,rfl,hq,hR,hne,h64,q⟩:=h;obtain⟨u,rfl,ru⟩:=vals1 rv;cases ru;obtain⟨its,r',pl,hz⟩:=I.list hq;have X4:its.length=vs.length:=r'.length.symm;have hlr:=hR.len;have hlt:=h64.2.1;have at_:∀i,i<its.length->∃a o us n,its[i]?=af (.ref a)/\s.heap.get? a=af o/\o.cls= .type "tuple" /\o.data= .seq us n/\CellsAre mx us.toList (rs.getD i [])/\vs[i]?=af (.ref a)/\sR X.K H a (BB mx (rs.getD i []))/\LF mx (rs.getD i []):=by
  intro i hi;have h1:i<vs.length:=by lia
  have h2:i<rs.length:=by lia
  obtain⟨a,e,hs,hok⟩:=hR.get h1 h2;have ev:vs[i]?=af (.ref a):=by rw[Vc h1,e]
  obtain⟨u,hu,ru⟩:=r'.get ev;cases ru;obtain⟨its2,r2,⟨o,ho,hc,n,hd⟩,_⟩:=I.tuple hs;have eg:rs.getD i []=rs[i]:=by simp[h2]
  rw[eg];exact⟨a,o,_,n,hu,ho,hc,hd,Hb hok (by simpa using r2),ev,hs,hok⟩
 have RH:∀i,i<its.length->∃a,its.getD i .none= .ref a/\its[i]?=af (.ref a):=by intro i hi;obtain⟨a,_,_,_,e,_⟩:=at_ i hi;exact⟨a,by rw[Vu,e];rfl,e⟩
 refine zW (O:=jW) (key:=λi=>rs.getD i []) (κ:=tuples' av) pl.isList (by lia) (uP (by lia) h64.1) (λh1 i j hij hj=>h64.2.2 (by lia) i j hij (by lia)) (λh2 A' E' h' Q' k qq=>?_) (λh' i j C k hi hj hC=>?_) λpm hp hu=>?_
 ·exact sV (mx:=mx) (rs:=rs) (λi hi=>by obtain⟨a,o,us,n,e1,e2,e3,e4,e5,_⟩:=at_ i hi;exact⟨a,o,us,n,e1,e2,e3,e4,e5⟩) hne (by lia) (by lia) k qq h2
 ·exact xU (mx:=mx) (rs:=rs) (λi hi=>by obtain⟨a,o,us,n,e1,e2,e3,e4,e5,_⟩:=at_ i hi;exact⟨a,o,us,n,e1,e2,e3,e4,e5⟩) k hi hj hC
 ·-- the end
  have hsz:=hp.size;have hperm:=Wg.mp hp;simp only[kG]at hperm;have hpl:pm.toList.length=its.length:=by simp[hsz]
  obtain⟨e,he⟩:=sortedAll_at s.heap its (pm.map λi=>its.getD i .none);have hf:H (s.heap.objs.size+1)=none:=I.hok.fresh (Wt _);have hmem:∀i∈pm.toList,i<its.length:=λi hi=>by simpa using hperm.mem_iff.mp hi
  have LG:pm.toList.map (λi=>rs.getD i [])=bh rs:=oM (by lia) hp hu;refine⟨.ref (s.heap.objs.size+1),_,I.laid (t':=s.toks) (o:= .lst (pm.toList.map λi=>vs.getD i .non)) (λb o e=>sortedAll_old e) (Wt _) ?_,rfl,q _ _ hf ?_⟩
  ·refine⟨by simp_all,pm.toList.map λi=>its.getD i .none,e,?_,?_⟩
   ·have key:∀l:List Nat,(∀i∈l,i<its.length)->Vals (l.map λi=>vs.getD i .non) (l.map λi=>its.getD i .none):=by
     intro l
     induction l with
     |nil=>intro _;exact .nil|cons i l ih=>intro hl;obtain⟨a,_,_,_,e1,_,_,_,_,e2,_⟩:=at_ i (hl i (by simp));refine .cons ?_ (ih λj hj=>hl j (by simp[hj]));show RelV (vs.getD i .non) (its.getD i .none);rw[Vu,Vu,e1,e2];rfl
    exact key _ hmem
   ·rw[he];congr 2;apply AI;simp
  ·rw[←LG];refine pA (by simp) λi h1 h2=>?_;simp only[kc];have hil:i<pm.toList.length:=by simpa using h1
   obtain⟨a,_,_,_,_,_,_,_,_,e2,hs⟩:=at_ (pm.toList[i]) (hmem _ (j3 hil));exact⟨a,by rw[Vu,e2];rfl,hs⟩
end
end RK
namespace RK
open PySem L2 PySem.SeqAt PyProof.Rows
theorem qm{prog:bX}{w:ck}{vs:List (Key×ai)}{P:Nat->ai->Prop}(hP:∀i v,P i v->∃k x,vs[i]?=af (k,x)/\(aY prog w).is k v=av):
  ∀{us:List ai}{ns:List Int}{j:Nat},us.length=ns.length->(∀i v,us[i]?=af v->P (j+i) v)->(∀i n,ns[i]?=af n->∃x,vs[j+i]?=af (Sum.inl n,x))->IntsAre us ns
 |[],[],_,_,_,_=> .nil|[],_::_,_,h,_,_=>by cases h|_::_,[],_,h,_,_=>by cases h|u::us,n::ns,j,h,h1,h2=>by
  obtain⟨k,x,e,hk⟩:=hP _ _ (h1 0 u rfl);obtain⟨x',e'⟩:=h2 0 n rfl;rw[e]at e';have e'':k=Sum.inl n:=(Prod.mk.inj (Ux e')).1;subst e'';obtain⟨t,rfl⟩:=Value.isInt_shape (k:=n) (v:=u) hk;refine .cons n t (qm hP (j:=j+1) (by simpa using h) (λi v q=>?_) λi m q=>?_)
  ·have:=h1 (i+1) v (by simpa using q);lia
  ·have:=h2 (i+1) m (by simpa using q)
   rwa [show j+(i+1)=j+1+i by lia]at this
section
variable{prog:bX}{w:ck}{A:cy}{E:ai->aE->Prop}{s:aE}
theorem zX{T:String}{r d:ay}{n:Nat}{P:Nat->ai->Prop}{OK:cK->Prop}{R:List ai->aE->Prop}(K:PySem.W.KdlSrc prog w T r d n P OK)(hh:A.handled=ah)(hok:OK s.heap)(hn:n<=aT)(h:∀(g:cK)(tk:Nat)(acc:Array ai),(∀b o,s.heap.get? b=af o->g.get? b=af o)->s.heap.objs.size<=g.objs.size->ItemsOf P acc n->R acc.toList {s with heap:=g,toks:=tk}):bg (model prog w) A (collect (.ref r)) R E s:=by
 have hlt:=K.there _ hok;unfold collect;refine My (wpAny_runValue (Wz entry_proto_collect' ?_));rw[WF jv _];refine My (m:=newList []) (VF (Uw ⟨plainId_quiet Xe _,Wz entry_list_iadd' ?_⟩));rw[WF Xe _];obtain⟨h1,e1⟩:∃h1,h1=s.heap.push (seqObj "list" #[] 0):=⟨_,rfl⟩
 have hS:h1.get? s.heap.objs.size=af (seqObj "list" #[] 0):=by rw[e1];exact UW _ rfl
 have k1:∀b o,s.heap.get? b=af o->h1.get? b=af o:=λb o q=>by rw[e1];exact Uv _ q
 have key:=PySem.W.kdl_extend (A:=A) (s:={s with heap:=h1}) (R:=λ(q:Result)(s':aE)=>∃g tk acc c,q= .ok (.ret (.ref s.heap.objs.size))/\s'={s with heap:=g,toks:=tk}/\(∀b o,s.heap.get? b=af o->g.get? b=af o)/\g.get? s.heap.objs.size=af (seqObj "list" acc c)/\ItemsOf P acc n)
  K hh (K.keep _ _ hok λb _ o e=>k1 b o e) s.heap.objs.size (VP hlt.1) (VP hlt.2) (.ref s.heap.objs.size) 0 hS (λg tk acc c hk hS' ha=>⟨g,tk,acc,c,rfl,rfl,λb o q=>hk b o (Vb (U4 q)) (k1 b o q),hS',ha⟩) hn
 rw[e1]at key;refine VH key (λf s' x=>?_) λe s' x=>by lia
 cases f with
 |done f=>obtain⟨g,tk,acc,c,q,rfl,hk,hS',ha⟩:=x;cases q;show bg _ A (load s.heap.objs.size>>=_) _ _ _;exact My (wpAny_load hS' (Uw (h g tk acc hk (Xl (U4 hS')) ha)))
 |again c₁=>refine⟨x.1,Xn x.2 λq s₂ y=>?_⟩;obtain⟨g,tk,acc,c,rfl,rfl,hk,hS',ha⟩:=y;show bg _ A (load s.heap.objs.size>>=_) _ _ _;exact My (wpAny_load hS' (Uw (h g tk acc hk (Xl (U4 hS')) ha)))
def zY{a:ay}{vs:List (Key×ai)}{ns:List Int}{Q:ai->aE->Prop}(hh:A.handled=ah)(lo:(a==sysModules)=aS)(dd:s.heap.DictOf (aY prog w) a vs)(hk:vs.map (·.1)=ns.map Sum.inl)(h64:ns.length<64)(h:∀(h':cK)(tk:Nat)(b:ay)(out:Array ai)(ms:List Int)(e:Nat),(∀c o,s.heap.get? c=af o->h'.get? c=af o)->s.heap.objs.size<=b->h'.get? b=af (seqObj "list" out e)->IntsAre out.toList ms->ms.Perm ns->ms.Pairwise (·<=·)->Q (.ref b) {s with heap:=h',toks:=tk}):
  bg (model prog w) A (call (.builtin "sorted") [.ref a]) Q E s:=by
 obtain⟨ep,hat⟩:=dd.dictAt;have hvl:vs.length=ns.length:=by simpa using VJ e9 hk
 have hn:vs.length<=sizeLine:=by rw[VL];lia
 refine Calls.call_function_entry kind_sorted plain_sorted entry_sorted (args_sorted1 _) ?_;unfold Builtin.«sorted»;refine My (m:=checkCount "sorted" 1 1 _) (Uw ?_);refine My (zX (A:=A.in1) (PySem.W.kdl_dict (knd:=aY prog w) (kvs:=vs) (ep:=ep) lo) hh hat hn λg tk acc hk' ho hacc=>?_);have hal:acc.toList.length=ns.length:=by rw[V9,hacc.1,hvl]
 have hi:IntsAre acc.toList ns:=by
  refine qm (prog:=prog) (w:=w) (vs:=vs) (P:=λi v=>∃k x,vs[i]?=af (k,x)/\(aY prog w).is k v=av) (λ_ _ q=>q) (j:=0) hal (λi v q=>?_) λi n q=>?_
  ·rw[Vm];exact hacc.2 i v (by simp_all)
  ·rw[Vm];have e:(vs.map (·.1))[i]?=af (Sum.inl n):=by rw[hk,Vw,q];rfl
   rw[Vw]at e
   simp_all
 have hle:acc.toList.length<=sizeLine:=by rw[hal,←hvl];exact hn
 refine My (wpAny_newList ?_ hle);have at_:(g.push (seqObj "list" acc.toList.toArray 0)).get? g.objs.size=af (seqObj "list" acc.toList.toArray 0):=UW _ rfl;refine My (VB (VV (s:={s with heap:=g.push (seqObj "list" acc.toList.toArray 0),toks:=tk}) slot_list_sort ⟨_,at_,rfl⟩ entry_list_sort (list_sort_tree at_ hi (by rw[hal];exact h64) λout ms a1 a2 a3=>⟨_,rfl,?_⟩) (args_list_sort _)));obtain⟨e,he⟩:=sortedHeap_at (out:=out) at_;refine Uw ⟨_,rfl,h _ tk _ out ms e (λc o q=>?_) ho he a1 a2 a3⟩;have q1:=hk' c o q;have hlt:=U4 q1;rw[sortedHeap_old (Vb hlt) (by rw[size_push'];exact sF hlt)];exact Uv _ q1
end
section
variable{X:Cx}
def qp(hc:X.calm=av):bH X (.builtin "sorted") (λxs H Q=>∃p kvs ns,xs=[.ref p]/\Rd H p (.dK kvs)/\kvs.map (·.1)=ns.map Sum.inl/\ns.length<64/\∀l,H l=ah->Q (.ref l) (upd H l (.lst ((sortI ns).map V.int)))):=by
 intro pins s σ H xs us Q I rv h;obtain⟨p,kvs,ns,rfl,hq,hk,h64,q⟩:=h;obtain⟨u,rfl,ru⟩:=vals1 rv;cases ru;obtain⟨hz,hs,vs,r,dd⟩:=kZ I.hok hq;have hk2:vs.map (·.1)=ns.map Sum.inl:=by rw[←hk];exact r.keys.symm
 refine zY (I.ok.hd hc) hs dd hk2 h64 λh' tk b out ms e hkp hb hat a1 a2 a3=>?_;have e1:ms=sortI ns:=o7 a2 a3;subst e1;refine⟨.ref b,_,I.laid (t':=tk) (o:= .lst ((sortI ns).map V.int)) hkp hb ?_,rfl,q _ (I.hok.fresh hb)⟩;refine⟨?_,out.toList,e,iU a1,?_⟩
 ·rw[UG,a2.length_eq,VL];lia
 ·rw[hat]
end
section
variable{X:Cx}{cl:Nat->List D->bq->Ev D}{a b:br}{a' b':E}{t:T}{es:List br}{es':List E}{pos p:Pos}
def RM{f:Bi}{x:Str}{id:String}(hc:bH X (.builtin id) (E9 X f))(hg:Gl X x)(hm:X.mg x=ah)(hv:bootBuiltins x=af (.builtin id))(ha:JA X cl (a::es) (a'::es'))(hn:x≠ "__name__")(hdb:(x==("__debug__" :Str))=aS)(he:starEach (a::es) X.env=(aS,eval a X.env)::starEach es X.env)(hpl:(backTo pos (starEach es X.env)).any (·.1)=aS):JE X cl (.Call (.Name x p) (a::es) [] pos) (.bi f (a'::es')):=by refine PE.imp (kI hc hg hm hv ha hn hdb he hpl) λσ H Q h=>?_;refine tM.el h λm r S er sr h=>?_;have h:tO X (rD X) (bnd (aG cl (a'::es') r S) λds S1=>DT f ds S1) m r H Q:=h;exact⟨m,r,S,er,sr,h.bnd.mono λv H1 z=>aR z λm1 x S1 st1 fh rx h1=>⟨m1,r,S1,x,fh,rx,h1⟩⟩
def O9{f:Bi}{x:Str}{T:String}(hc:bH X (.type T) (E9 X f))(hg:Gl X x)(hm:X.mg x=ah)(hv:bootBuiltins x=af (.type T))(ha:JA X cl (a::es) (a'::es'))(hn:x≠ "__name__")(hdb:(x==("__debug__" :Str))=aS)(he:starEach (a::es) X.env=(aS,eval a X.env)::starEach es X.env)(hpl:(backTo pos (starEach es X.env)).any (·.1)=aS):JE X cl (.Call (.Name x p) (a::es) [] pos) (.bi f (a'::es')):=by refine PE.imp (lR hc hg hm hv ha hn hdb he hpl) λσ H Q h=>?_;refine tM.el h λm r S er sr h=>?_;have h:tO X (rD X) (bnd (aG cl (a'::es') r S) λds S1=>DT f ds S1) m r H Q:=h;exact⟨m,r,S,er,sr,h.bnd.mono λv H1 z=>aR z λm1 x S1 st1 fh rx h1=>⟨m1,r,S1,x,fh,rx,h1⟩⟩
def Hc(X:Cx)(k:AU):List V->Hp->VK->Prop:=λxs H Q=>∃m r S d ds x,xs=[x]/\cS X.K m S H/\RD X.K m H d x/\bB S d=af ds/\tO X (rD X) (jN k ds S) m r H Q
def Hd{mu:Bool}:bH X (.type "list") (Hc X (.list mu)):=by intro pins s σ H xs us Q I rv h;obtain⟨m,r,S,d,ds,x,rfl,sr,rd,es,h⟩:=h;obtain⟨p,ys,rfl,hq,rs⟩:=my sr rd es;exact ur pins s σ H _ us Q I rv ⟨p,ys,rfl,hq,(dO sr rs h).2⟩
def Dq:bH X (.type "tuple") (Hc X .tuple):=by
 intro pins s σ H xs us Q I rv h;obtain⟨m,r,S,d,ds,x,rfl,sr,rd,es,h⟩:=h;obtain⟨p,ys,rfl,hq,rs⟩:=my sr rd es;rcases hq with hq|hq
 ·exact lM pins s σ H _ us Q I rv ⟨p,ys,rfl,.inl ⟨hq,(xH sr rs h).2⟩⟩
 ·refine lM pins s σ H _ us Q I rv ⟨p,ys,rfl,.inr ⟨hq,?_⟩⟩;have h:tO X (rD X) (E8 ds S) m r H Q:=h;unfold E8 at h;by_cases hz:ds.length<=aT
  ·rw[if_pos hz]at h;exact h.fin sr (jr hq rs)
  ·rw[if_neg hz]at h;exact h.elim
def T9(X:Cx)(mu:Bool):List V->Hp->VK->Prop:=λxs H Q=>∃m r S d ds x,xs=[x]/\cS X.K m S H/\RD X.K m H d x/\((∃es,(d= .lst es\/∃k,d= .ref k)\/d= .tup es/\∃ns,bf es=af ns)/\bB S d=af ds\/∃kvs,cL S d=af kvs/\ds=kvs.map λp=>sQ p.1)/\tO X (rD X) (jN (.sorted mu) ds S) m r H Q
theorem Dr{kvs:List (Key×D)}:∀{ns:List Int},bf (kvs.map λp=>sQ p.1)=af ns->kvs.map (·.1)=ns.map Sum.inl:=by
 induction kvs with
 |nil=>intro ns h;have e:[]=ns:=Ux h;subst e;rfl|cons p t ih=>
  intro ns h;obtain⟨k,d⟩:=p;cases k with
  |inr x=>cases h|inl i=>
   replace h:(bf (t.map λp=>sQ p.1)).map (i::·)=af ns:=h;cases e:bf (t.map λp=>sQ p.1)with|none=>simp_all|some ms=>grind
theorem uQ{m:List ay}{H:Hp}:∀{kvs:List (Key×D)}{vs:List (Key×V)},rX X.K m H kvs vs->vs.map (·.1)=kvs.map (·.1)
 |[],[],_=>rfl|p::ps,q::qs,h=>by rw[U0,U0,h.1,uQ h.2.2]|[],_::_,h=>h.elim|_::_,[],h=>h.elim
def Kv{m:List ay}{H:Hp}{S:bq}{d:D}{v:V}{ds:List D}(sr:cS X.K m S H)(rd:RD X.K m H d v)(hd:∃es,d= .lst es\/∃k,d= .ref k)(h:bB S d=af ds):∃p xs,v= .ref p/\xy X.K H p xs/\fR X.K m H ds xs:=by
 obtain⟨es,rfl|⟨k,rfl⟩⟩:=hd
 ·have e:es=ds:=by simpa[bB]using h
  subst e;obtain⟨a,vs,rfl,q,_,t⟩:=gn rd;exact⟨a,vs,rfl,xy.of q,t⟩
 ·obtain⟨a,rfl,hk⟩:=cg rd;simp only[bB]at h;cases e:S[k]? with
  |none=>simp_all|some o=>
   rw[e]at h;cases o with
   |lst es=>
    have e':es=ds:=by simpa using h
    subst e';obtain⟨a',vs,h1,h2,h3⟩:=sr.lst e;rw[hk]at h1;have:a=a':=by simpa using h1
    subst this;exact⟨a,vs,rfl,xy.of h2,h3⟩
   |dct _=>cases h|ins _ _=>cases h|x9 _=>cases h
theorem zZ{mu:Bool}(hc:X.calm=av):bH X (.builtin "sorted") (T9 X mu):=by
 intro pins s σ H xs us Q I rv h;obtain⟨m,r,S,d,ds,x,rfl,sr,rd,hd0,h⟩:=h;rcases hd0 with⟨⟨fs,hd⟩,es⟩|⟨kvs,hk,rfl⟩
 rotate_left
 ·obtain⟨n,p,vs,rfl,e2,rfl,e3,kr⟩:=qd sr rd hk;replace h:tO X (rD X) (match eU (kvs.map λp=>sQ p.1)with|some es=>A3 mu es S|none=>ah) m r H Q:=h;unfold eU at h;cases e:bf (kvs.map λp=>sQ p.1)with
  |some ns=>
   rw[e]at h;simp only at h;by_cases h64:ns.length<64
   ·rw[if_pos h64]at h;exact qp hc pins s σ H _ us Q I rv ⟨p,vs,ns,rfl,e3,by rw[uQ kr];exact Dr e,h64,(dO sr dJ h).2⟩
   ·rw[if_neg h64]at h;exact h.elim
  |none=>
   rw[e]at h;simp only at h;cases e2:dC (kvs.map λp=>sQ p.1)with
   |none=>
    rw[e2]at h;cases kvs with
    |nil=>cases e|cons q t=>obtain⟨k,d⟩:=q;cases k<;>exact h.elim
   |some rs=>
    cases kvs with
    |nil=>cases e|cons q t=>obtain⟨k,d⟩:=q;cases k<;>cases e2
 rcases hd with hd|⟨rfl,ns,en⟩
 rotate_left
 ·have e0:fs=ds:=by simpa[bB]using es
  subst e0;obtain⟨p,ys,rfl,hq,rs⟩:=dD rd;replace h:tO X (rD X) (match eU fs with|some es=>A3 mu es S|none=>ah) m r H Q:=h;unfold eU at h;rw[en]at h;simp only at h;by_cases h64:ns.length<64
  ·rw[if_pos h64]at h;have e1:=iz en;subst e1;have e2:=gM rs;subst e2;exact oE pins s σ H _ us Q I rv ⟨p,ns,rfl,hq,h64,(dO sr dJ h).2⟩
  ·rw[if_neg h64]at h;exact h.elim
 obtain⟨p,ys,rfl,hq,rs⟩:=Kv sr rd ⟨fs,hd⟩ es;replace h:tO X (rD X) (match eU ds with|some es=>A3 mu es S|none=>ah) m r H Q:=h;unfold eU at h;cases e:bf ds with
 |none=>
  rw[e]at h;simp only at h;cases e2:dC ds with
  |none=>
   rw[e2]at h;simp only at h;cases e3:jD ds with
   |none=>rw[e3]at h;exact h.elim|some rw_=>
    rw[e3]at h;simp only at h;obtain⟨hR,hne⟩:=sO (X:=X) rs e3;by_cases h64:lZ rw_
    ·rw[if_pos h64]at h;refine ju (mx:=av) pins s σ H _ us Q I rv ⟨p,ys,rw_,rfl,hq,hR,hne,h64,λl ws hl hw=>?_⟩;exact(dO sr (sS hw) h).2 l hl
    ·rw[if_neg h64]at h;exact h.elim
  |some rw_=>
   rw[e2]at h;simp only at h;have hR:=uL (X:=X) rs e2;by_cases h64:lZ rw_
   ·rw[if_pos h64]at h;refine ju (mx:=aS) pins s σ H _ us Q I rv ⟨p,ys,rw_,rfl,hq,hR,uM e2,h64,λl ws hl hw=>?_⟩;exact(dO sr (mJ hw) h).2 l hl
   ·rw[if_neg h64]at h;exact h.elim
 |some ns=>
  rw[e]at h;simp only at h;by_cases h64:ns.length<64
  ·rw[if_pos h64]at h;have e1:=iz e;subst e1;have e2:=gM rs;subst e2;exact o8 pins s σ H _ us Q I rv ⟨p,ns,rfl,hq,h64,(dO sr dJ h).2⟩
  ·rw[if_neg h64]at h;exact h.elim
def uR{k:AU}{x:Str}{T:String}(hc:bH X (.type T) (Hc X k))(hg:Gl X x)(hm:X.mg x=ah)(hv:bootBuiltins x=af (.type T))(ha:JE X cl a a')(hn:x≠ "__name__")(hdb:(x==("__debug__" :Str))=aS)(he:starEach [a] X.env=[(aS,eval a X.env)]):JE X cl (.Call (.Name x p) [a] [] pos) (.col k (.snap a')):=by
 refine PE.imp (lR hc hg hm hv (fH ha gQ he) hn hdb he rfl) λσ H Q h=>?_;refine tM.el h λm r S er sr h=>?_;have h:tO X (rD X) (bnd (bnd (ak cl a' r S) λx S1=>match bB S1 x with|some ds=>fz ds S1|none=>ah) λds S1=>jN k ds S1) m r H Q:=h;rw[iW]at h;refine⟨m,r,S,er,sr,h.bnd.mono λv H1 zz=>?_⟩;refine aR zz λm1 x S1 st1 fh rx h1=>?_;cases e:bB S1 x with|none=>rw[e]at h1;exact h1.elim|some ds=>rw[e]at h1;exact⟨m1,r,S1,x,ds,v,rfl,fh,rx,e,h1⟩
theorem Ds{mu:Bool}(hc:X.calm=av)(hg:Gl X "sorted")(hm:X.mg "sorted" =ah)(ha:JE X cl a a')(he:starEach [a] X.env=[(aS,eval a X.env)]):JE X cl (.Call (.Name "sorted" p) [a] [] pos) (.col (.sorted mu) (.live a')):=by
 refine PE.imp (kI (zZ (mu:=mu) hc) hg hm boot_sorted (fH ha gQ he) (by decide) (by decide) he rfl) λσ H Q h=>?_;refine tM.el h λm r S er sr h=>?_;have h:tO X (rD X) (bnd (bnd (ak cl a' r S) λx S1=>match x with|.lst ds=>fz ds S1|.tup ds=>(match bf ds with|some _=>fz ds S1|none=>ah)|.ref k=>(match S1[k]? with|some (.lst ds)=>fz ds S1|some (.dct kvs)=>fz (kvs.map λp=>sQ p.1) S1|_=>ah)|_=>ah) λds S1=>jN (.sorted mu) ds S1) m r H Q:=h;rw[iW]at h;refine⟨m,r,S,er,sr,h.bnd.mono λv H1 zz=>?_⟩;refine aR zz λm1 x S1 st1 fh rx h1=>?_;cases x with
 |lst ds=>exact⟨m1,r,S1,.lst ds,ds,v,rfl,fh,rx,.inl ⟨⟨ds,.inl (.inl rfl)⟩,rfl⟩,h1⟩|tup ds=>
  cases e:bf ds with|none=>simp only[e]at h1;exact h1.elim|some ns=>simp only[e]at h1;exact⟨m1,r,S1,.tup ds,ds,v,rfl,fh,rx,.inl ⟨⟨ds,.inr ⟨rfl,ns,e⟩⟩,rfl⟩,h1⟩
 |ref k=>
  cases e:S1[k]? with
  |none=>simp only[e]at h1;exact h1.elim|some o=>
   cases o with|lst ds=>simp only[e]at h1;exact⟨m1,r,S1,.ref k,ds,v,rfl,fh,rx,.inl ⟨⟨ds,.inl (.inr ⟨k,rfl⟩)⟩,by simp[bB,e]⟩,h1⟩|dct kvs=>simp only[e]at h1;exact⟨m1,r,S1,.ref k,_,v,rfl,fh,rx,.inr ⟨kvs,by simp[cL,e],rfl⟩,h1⟩|ins _ _=>simp only[e]at h1;exact h1.elim|x9 _=>simp only[e]at h1;exact h1.elim
 |_=>exact h1.elim
def Kw{mu:Bool}{m:List ay}{r:aC}{H:Hp}{S:bq}{lo hi:Int}{p:ay}{Q:VK}(sr:cS X.K m S H)(hp:H p=ah)(h:tO X (rD X) (A3 mu (cA lo hi) S) m r H Q):
  (gq lo hi).length<=aT/\∀l,(upd H p (.A8 lo hi)) l=ah->Q (.ref l) (upd (upd H p (.A8 lo hi)) l (.lst (gq lo hi))):=
 dO (sr.laid hp (.A8 lo hi)) (CJ lo hi) (h.step (fq.laid sr hp (.A8 lo hi)))
def Jl(X:Cx)(k:AU):List V->Hp->VK->Prop:=λxs H Q=>∃p lo hi H0 m r S,xs=[.ref p]/\H0 p=ah/\H=upd H0 p (.A8 lo hi)/\Oh lo hi/\cS X.K m S H0/\tO X (rD X) (jN k (cA lo hi) S) m r H0 Q
def Dt{mu:Bool}(hc:X.calm=av):bH X (.type "list") (Jl X (.list mu)):=by intro pins s σ H xs us Q I rv h;obtain⟨p,lo,hi,H0,m,r,S,rfl,hp,rfl,hb,sr,h⟩:=h;obtain⟨h1,h2⟩:=Kw (mu:=mu) sr hp h;exact tX hc pins s σ _ _ us Q I rv ⟨p,lo,hi,rfl,bj,hb,h1,h2⟩
theorem Ky{k:AU}{x:Str}{T:String}{p2 p3:Pos}(UH:bH X (.type T) (Jl X k))(hg:Gl X x)(hm:X.mg x=ah)(hv:bootBuiltins x=af (.type T))(hn:x≠ "__name__")(hdb:(x==("__debug__" :Str))=aS)(hgr:Gl X "range")(hmr:X.mg "range" =ah)(ha:JE X cl a a')(hs:starEach [a] X.env=[(aS,eval a X.env)]):
  JE X cl (.Call (.Name x p) [.Call (.Name "range" p2) [a] [] p3] [] pos) (.col k (.lP a')):=by
 have hR:=CK (p:=p2) (pos:=p3) hgr hmr (fH ha gQ hs) hs;refine PE.imp (lR UH hg hm hv (fH hR gQ rfl) hn hdb rfl rfl) λσ H Q h=>?_;refine tM.el h λm r S er sr h=>?_;have h:tO X (rD X) (bnd (bnd (ak cl a' r S) λy S1=>match y with|.int j=>(if -(2^62)<=j/\j<2^62 then fz (cA 0 j) S1 else ah)|_=>ah) λds S1=>jN k ds S1) m r H Q:=h;rw[iW]at h;refine⟨m,r,S,er,sr,h.bnd.mono λv H1 zz=>?_⟩;refine aR zz λm1 y S1 st1 fh ry h1=>?_;cases y with
 |int j=>
  simp only at h1;by_cases hb: -(2^62)<=j/\j<2^62
  ·rw[if_pos hb]at h1;refine⟨j,by rw[gc ry],λl hl=>?_⟩;exact⟨l,0,j,H1,m1,r,S1,rfl,hl,rfl,⟨by decide,by decide,hb.1,hb.2⟩,fh,h1⟩
  ·rw[if_neg hb]at h1;exact h1.elim
 |_=>exact h1.elim
def MX(X:Cx)(k:Mt):V->List V->Hp->VK->Prop:=λx xs H Q=>∃m r S d ds,cS X.K m S H/\RD X.K m H d x/\fR X.K m H ds xs/\tO X (rD X) (jE k d ds S) m r H Q
theorem lz{S:bq}{k:Nat}{ds:List D}(h:dN S k=af ds):S[k]?=af (.lst ds):=by
 unfold dN at h;cases e:S[k]? with
 |none=>simp_all|some o=>
  rw[e]at h;cases o with|lst es=>cases h;rfl|dct _=>cases h|ins _ _=>cases h|x9 _=>cases h
theorem Pa:D9 X "list.append" (MX X .append):=by
 intro pins s σ H x xs v us Q I rx rv h;obtain⟨m,r,S,d,ds,sr,rd,rs,h⟩:=h;cases d with
 |ref k=>
  replace h:=qg (f:=nP k) h;obtain⟨d',rfl,h⟩:=h;obtain⟨a,rfl,hk⟩:=cg rd;obtain⟨y,rfl,ry⟩:=qZ rs;unfold nP at h;cases e2:dN S k with
  |none=>rw[e2]at h;exact h.elim|some es=>rw[e2]at h;obtain⟨a',vs,h1,h2,h3⟩:=sr.lst (lz e2);rw[hk]at h1;have:=Ux h1;subst this;obtain⟨hz,h⟩:=tO.ite h;have rs':=h3.append (fR.cons ry fR.nil);exact Ca pins s σ H _ _ v us Q I rx rv ⟨a,vs,y,rfl,rfl,h2,by rw[←h3.length];exact hz,h.fin' (fq.write sr hk h2 _) (sr.write hk h2 rs') jY⟩
 |_=>exact h.elim
def Du{pins:List (ay×Obj)}{s:aE}{σ:L2.St}{H:Hp}{a:ay}{xs:List V}(I:Inv X pins σ H s)(h:sR X.K H a xs):∃(its:List ai)(n:Nat),Vals xs its/\xs.length=its.length/\s.heap.get? a=af {cls:= .type "tuple",dict:=ah,data:= .seq its.toArray n,slots:= #[]}:=by
 rcases h with h|⟨o,its,n,hk,hc,hs,hz,r⟩
 ·obtain⟨z,its,r,⟨o,g1,g2,n,g3⟩,o2,g4,g5,g6⟩:=h.ok I.hok;rw[g1]at g4;cases g4;refine⟨its,n,r,r.length,?_⟩;obtain⟨oc,od,oda,os⟩:=o;lia
 ·refine⟨its.toList,n,r,r.length,?_⟩;obtain⟨oc,od,oda,os⟩:=o;simp only at hc hs;rw[I.BO a _ hk,hc,hs.1,hs.2.1,hs.2.2]
theorem Pb:D9 X "list.extend" (MX X .extend):=by
 intro pins s σ H x xs v us Q I rx rv h;obtain⟨m,r,S,d,ds,sr,rd,rs,h⟩:=h;cases d with
 |ref k=>
  replace h:=qg (f:=qU k) h;obtain⟨d',rfl,h⟩:=h;obtain⟨a,rfl,hk⟩:=cg rd;obtain⟨y,rfl,ry⟩:=qZ rs;cases d' with
  |tup es=>
   obtain⟨b,zs,rfl,hq,rz⟩:=dD ry;replace h:tO X (rD X) (match dN S k with|none=>ah|some ds=>if ds.length+es.length<=aT then fz .non (S.set k (.lst (ds++es)))else ah) m r H Q:=h;cases e2:dN S k with
   |none=>rw[e2]at h;exact h.elim|some fs=>
    rw[e2]at h;obtain⟨a',vs,h1,h2,h3⟩:=sr.lst (lz e2);rw[hk]at h1;have:=Ux h1;subst this;obtain⟨hz,h⟩:=tO.ite h;cases rx;obtain⟨u,rfl,ru⟩:=vals1 rv;cases ru;obtain⟨z,its,n,r1,l1,g⟩:=I.CO h2;obtain⟨jts,n2,r2,l2,g2⟩:=Du I hq;have hl3:=h3.length;have UI:=rz.length;have hsz:its.toArray.size+jts.toArray.size<=sizeLine:=by simp only[Vr];lia
    refine call_meets F.slot_list_extend ⟨_,g,rfl⟩ F.entry_list_extend (F.args_list_extend_2 _ _) (AutoSeq1.list_extend_list_tuple_0 a its.toArray n b jts.toArray n2 (by rw[ut hsz,Bool.and_false];lia) (by simp_all) (by lia)) ⟨g,g2,?_⟩;refine⟨.non,_,I.E5 (its':=its++jts) h2 g (by simp) (r1.append r2) (by simp_all),rfl,?_⟩;exact h.fin' (fq.write sr hk h2 _) (sr.write hk h2 (h3.append rz)) jY
  |lst es=>
   obtain⟨b,zs,rfl,hq,hnm,rz⟩:=gn ry;replace h:tO X (rD X) (match dN S k with|none=>ah|some ds=>if ds.length+es.length<=aT then fz .non (S.set k (.lst (ds++es)))else ah) m r H Q:=h;cases e2:dN S k with
   |none=>rw[e2]at h;exact h.elim|some fs=>
    rw[e2]at h;obtain⟨a',vs,h1,h2,h3⟩:=sr.lst (lz e2);rw[hk]at h1;have:=Ux h1;subst this;obtain⟨hz,h⟩:=tO.ite h;cases rx;obtain⟨u,rfl,ru⟩:=vals1 rv;cases ru;obtain⟨z,its,n,r1,l1,g⟩:=I.CO h2;obtain⟨z2,jts,n2,r2,l2,g2⟩:=I.CO hq;have hl3:=h3.length;have UI:=rz.length;have hsz:its.toArray.size+jts.toArray.size<=sizeLine:=by simp only[Vr];lia
    refine call_meets F.slot_list_extend ⟨_,g,rfl⟩ F.entry_list_extend (F.args_list_extend_2 _ _) (AutoSeq1.list_extend_list_list_0 a its.toArray n b jts.toArray n2 (by rw[ut hsz,Bool.and_false];lia) (by simp_all) (by lia)) ⟨g,g2,?_⟩;refine⟨.non,_,I.E5 (its':=its++jts) h2 g (by simp) (r1.append r2) (by simp_all),rfl,?_⟩;exact h.fin' (fq.write sr hk h2 _) (sr.write hk h2 (h3.append rz)) jY
  |_=>exact h.elim
 |_=>exact h.elim
theorem Kz:D9 X "list.pop" (MX X .lI):=by
 intro pins s σ H x xs v us Q I rx rv h;obtain⟨m,r,S,d,ds,sr,rd,rs,h⟩:=h;cases d with
 |ref k=>
  replace h:=qg (f:=uz k) h;obtain⟨d',rfl,h⟩:=h;obtain⟨a,rfl,hk⟩:=cg rd;obtain⟨y,rfl,ry⟩:=qZ rs;cases d' with
  |int i=>
   cases gc ry;replace h:tO X (rD X) (match dN S k with|none=>ah|some ds=>match L2.C9 ds.length i with|none=>ah|some j=>match ds[j]? with|none=>ah|some d=>fz d (S.set k (.lst (ds.eraseIdx j)))) m r H Q:=h;cases e2:dN S k with
   |none=>rw[e2]at h;exact h.elim|some es=>
    rw[e2]at h;obtain⟨a',vs,h1,h2,h3⟩:=sr.lst (lz e2);rw[hk]at h1;have:=Ux h1;subst this;cases e3:L2.C9 es.length i with
    |none=>simp only[e3]at h;exact h.elim|some j=>
     simp only[e3]at h;cases e4:es[j]? with
     |none=>simp only[e4]at h;exact h.elim|some d'=>
      simp only[e4]at h;obtain⟨w,h4,h5⟩:=h3.get e4;obtain⟨g1,g2,g3,g4⟩:=xg e3;have hl:es.length<=sizeLine:=by
       obtain⟨z,_⟩:=(show bG X.prog X.w H s.heap a (.lst vs)from I.hok a _ h2)
       rw[h3.length];exact z
      have hs:aT=16777216:=VL;exact GJ pins s σ H _ _ v us Q I rx rv ⟨a,vs,i,j,w,rfl,rfl,h2,by lia,by lia,by rw[←h3.length];exact g1,h4,
       h.fin' (fq.write sr hk h2 _) (sr.write hk h2 (h3.eraseIdx j)) (h5.step (fq.write sr hk h2 _))⟩
  |_=>exact h.elim
 |_=>exact h.elim
def UK(X:Cx):V->List V->Hp->VK->Prop:=λx xs H Q=>∃m r S n ds,cS X.K m S H/\RD X.K m H (.ref n) x/\fR X.K m H ds xs/\tO X (rD X) (jh n ds S) m r H Q
def KC:D9 X "dict.pop" (UK X):=by
 intro pins s σ H x xs v us Q I rx rv h;obtain⟨m,r,S,n,ds,sr,rd,rs,h⟩:=h;unfold jh at h;split at h
 ·rename_i i;obtain⟨a,rfl,hk⟩:=cg rd;obtain⟨y,rfl,ry⟩:=qZ rs;cases gc ry;split at h
  ·rename_i kvs e2;obtain⟨a',vs,h1,h2,h3⟩:=sr.dct e2;rw[hk]at h1;have:a=a':=by simpa using h1
   subst this;split at h
   ·rename_i d e3;cases rx;obtain⟨u,rfl,ru⟩:=vals1 rv;rcases h3.val (.inl i)with⟨z,_⟩|⟨d',w',z,z2,MY⟩
    ·lia
    ·rw[z]at e3;have:d'=d:=by simpa using e3
     subst this;have st:fq m m H (upd H a (.dK (kJ vs (.inl i)))):=fq.qo sr hk h2 trivial;exact Rq I h2 (k:= .inl i) ru z2 (.inl rfl) λw2 s' I' rw'=>⟨w',_,I',rw',h.fin' st (sr.qo hk h2 trivial λH' st' e=>⟨_,e,(h3.drop _).step st'⟩) (MY.step st)⟩
   ·exact h.elim
  ·exact h.elim
 ·exact h.elim
def ty_dict{m:List ay}{H:Hp}{S:bq}{n:Nat}{v:V}{kvs:List (Key×D)}(sr:cS X.K m S H)(rd:RD X.K m H (.ref n) v)(e:S[n]?=af (.dct kvs)):GV X.K "dict" v H:=by
 obtain⟨a,rfl,hk⟩:=cg rd;obtain⟨a',vs,h1,h2,h3⟩:=sr.dct e;rw[hk]at h1;have:a=a':=by simpa using h1
 subst this;exact .inr (.inr (.inl ⟨rfl,.inl ⟨_,h2⟩⟩))
def Pg{T₁ T₂ id₁ id₂:String}{r₁ r₂:V->List V->Hp->VK->Prop}{name:Str}{apos:Pos}{to:TE}{ta:TA}(p₁:PlainAttrs T₁)(p₂:PlainAttrs T₂)(s₁:Slot T₁ name id₁)(s₂:Slot T₂ name id₂)(y₁:typeOf (.builtin id₁)=pure (.type "method_descriptor"))(y₂:typeOf (.builtin id₂)=pure (.type "method_descriptor"))(m₁:D9 X id₁ r₁)(m₂:D9 X id₂ r₂)(ho:PE X a to)(ha:PA X (b::es) ta)(hbase:attributeBase a name X.env (eval a X.env)=eval a X.env)(hfew:((backTo pos (starEach (b::es) X.env)).all (λx=>!x.1) && (backToKw pos (keywordEach [] X.env)).all (λx=>x.1.isSome)
   && decide ((b::es).length+([]:List Keyword).length+(if([]:List Keyword).isEmpty then 0 else 1)<30))=av)(hline:(apos.endLine==pos.line)=av)(hs:starEach (b::es) X.env=(aS,eval b X.env)::starEach es X.env)(hplain:(backTo pos (starEach es X.env)).any (·.1)=aS):
  PE X (.Call (.Attribute a name apos) (b::es) [] pos) λσ H Q=>to σ H λx H1=>(GV X.K T₁ x H1/\ta σ H1 λxs H2=>r₁ x xs H2 Q)\/(GV X.K T₂ x H1/\ta σ H1 λxs H2=>r₂ x xs H2 Q):=by
 intro pins s σ H Q I h;refine wpAny_Call_method_late hbase hfew hline rfl (ja (ho pins s σ H _ I h) λv s1 zz=>?_);obtain⟨x,H1,I1,r1,k⟩:=zz;rcases k with⟨ty,q1⟩|⟨ty,q1⟩
 ·obtain⟨g1,g2⟩:=lV I1 r1 ty;refine⟨T₁,id₁,p₁,s₁,y₁,g1,g2,?_⟩;have hA:=ha pos pins s1 σ H1 _ I1 q1;rw[hs]at hA ⊢;refine Calls.callWith_builtin (by show(aS || (backTo pos (starEach es X.env)).any (·.1))=aS;lia) (Calls.evalArgs_plain ?_);exact ja hA λus s2 z=>bQ z λvs H2 I2 r2 q2=>m₁ pins s2 σ H2 x vs v us Q I2 r1 r2 q2
 ·obtain⟨g1,g2⟩:=lV I1 r1 ty;refine⟨T₂,id₂,p₂,s₂,y₂,g1,g2,?_⟩;have hA:=ha pos pins s1 σ H1 _ I1 q1;rw[hs]at hA ⊢;refine Calls.callWith_builtin (by show(aS || (backTo pos (starEach es X.env)).any (·.1))=aS;lia) (Calls.evalArgs_plain ?_);exact ja hA λus s2 z=>bQ z λvs H2 I2 r2 q2=>m₂ pins s2 σ H2 x vs v us Q I2 r1 r2 q2
def ty_list{m:List ay}{H:Hp}{S:bq}{k:Mt}{d:D}{v:V}{ds:List D}{r:aC}{Q:VK}(sr:cS X.K m S H)(rd:RD X.K m H d v)(hd:∃n,d= .ref n)(hs:∃n es,d= .ref n/\S[n]?=af (.lst es)):GV X.K "list" v H:=by
 obtain⟨n,es,rfl,e⟩:=hs;obtain⟨a,rfl,hk⟩:=cg rd;obtain⟨a',vs,h1,h2,h3⟩:=sr.lst e;rw[hk]at h1;have:a=a':=by simpa using h1
 subst this;exact .inl ⟨rfl,_,xy.of h2⟩
theorem xV{k:Mt}{name:Str}(hpk:k≠ .lI){id:String}{apos:Pos}(slot:Slot "list" name id)(hty:typeOf (.builtin id)=pure (.type "method_descriptor"))(hm:D9 X id (MX X k))(ho:JE X cl a a')(ha:JA X cl (b::es) (b'::es'))(hbase:attributeBase a name X.env (eval a X.env)=eval a X.env)(hfew:((backTo pos (starEach (b::es) X.env)).all (λx=>!x.1) && (backToKw pos (keywordEach [] X.env)).all (λx=>x.1.isSome)
   && decide ((b::es).length+([]:List Keyword).length+(if([]:List Keyword).isEmpty then 0 else 1)<30))=av)(hline:(apos.endLine==pos.line)=av)(hs:starEach (b::es) X.env=(aS,eval b X.env)::starEach es X.env)(hplain:(backTo pos (starEach es X.env)).any (·.1)=aS):
  JE X cl (.Call (.Attribute a name apos) (b::es) [] pos) (.meth k a' (b'::es')):=by
 refine PE.imp (Jf mP slot hty hm ho ha hbase hfew hline hs hplain) λσ H Q h=>?_;refine tM.el h λm r S er sr h=>?_;have h:tO X (rD X) (bnd (ak cl a' r S) λx S1=>match x with
  |.ref n=>(match S1[n]? with|some (.lst _)=>bnd (aG cl (b'::es') r S1) λds S2=>jE k (.ref n) ds S2|some (.dct _)=>(match(generalizing:=false) k with|.lI=>bnd (aG cl (b'::es') r S1) λds S2=>jh n ds S2|_=>ah)|_=>ah)|_=>ah) m r H Q:=h
 refine⟨m,r,S,er,sr,h.bnd.mono λv H1 zz=>?_⟩;refine aR zz λm1 x S1 st1 fh rx h1=>?_;cases x with
 |ref n=>
  cases e:S1[n]? with
  |none=>simp only[e]at h1;exact h1.elim|some o=>
   cases o with
   |lst l=>simp only[e]at h1;refine⟨ty_list (k:=k) (ds:=[]) (r:=r) (Q:=Q) fh rx ⟨n,rfl⟩ ⟨n,l,rfl,e⟩,m1,r,S1,er.step st1,fh,h1.bnd.mono λw H2 zz=>?_⟩;refine aR zz λm2 ds S2 st2 ow rs h2=>?_;exact⟨m2,r,S2,.ref n,ds,ow,rx.step st2,rs,h2⟩|dct _=>simp only[e]at h1;cases k<;>first|exact h1.elim|exact absurd rfl hpk
   |ins _ _=>simp only[e]at h1;exact h1.elim|x9 _=>simp only[e]at h1;exact h1.elim
 |_=>exact h1.elim
theorem Ph{apos:Pos}(ho:JE X cl a a')(ha:JA X cl (b::es) (b'::es'))(hbase:attributeBase a "pop" X.env (eval a X.env)=eval a X.env)(hfew:((backTo pos (starEach (b::es) X.env)).all (λx=>!x.1) && (backToKw pos (keywordEach [] X.env)).all (λx=>x.1.isSome)
   && decide ((b::es).length+([]:List Keyword).length+(if([]:List Keyword).isEmpty then 0 else 1)<30))=av)(hline:(apos.endLine==pos.line)=av)(hs:starEach (b::es) X.env=(aS,eval b X.env)::starEach es X.env)(hplain:(backTo pos (starEach es X.env)).any (·.1)=aS):
  JE X cl (.Call (.Attribute a "pop" apos) (b::es) [] pos) (.meth .lI a' (b'::es')):=by
 refine PE.imp (Pg mP gI PySem.F.slot_list_pop om PySem.F.type_list_pop PySem.F.type_dict_pop Kz KC ho ha hbase hfew hline hs hplain) λσ H Q h=>?_;refine tM.el h λm r S er sr h=>?_;have h:tO X (rD X) (bnd (ak cl a' r S) λx S1=>match x with
  |.ref n=>(match S1[n]? with|some (.lst _)=>bnd (aG cl (b'::es') r S1) λds S2=>jE .lI (.ref n) ds S2|some (.dct _)=>(bnd (aG cl (b'::es') r S1) λds S2=>jh n ds S2)|_=>ah)|_=>ah) m r H Q:=h
 refine⟨m,r,S,er,sr,h.bnd.mono λv H1 zz=>?_⟩;refine aR zz λm1 x S1 st1 fh rx h1=>?_;cases x with
 |ref n=>
  cases e:S1[n]? with
  |none=>simp only[e]at h1;exact h1.elim|some o=>
   cases o with|lst l=>simp only[e]at h1;refine .inl ⟨ty_list (k:= .lI) (ds:=[]) (r:=r) (Q:=Q) fh rx ⟨n,rfl⟩ ⟨n,l,rfl,e⟩,m1,r,S1,er.step st1,fh,h1.bnd.mono λw H2 zz=>?_⟩;refine aR zz λm2 ds S2 st2 ow rs h2=>?_;exact⟨m2,r,S2,.ref n,ds,ow,rx.step st2,rs,h2⟩|dct kvs=>simp only[e]at h1;refine .inr ⟨ty_dict fh rx e,m1,r,S1,er.step st1,fh,h1.bnd.mono λw H2 zz=>?_⟩;refine aR zz λm2 ds S2 st2 ow rs h2=>?_;exact⟨m2,r,S2,n,ds,ow,rx.step st2,rs,h2⟩|ins _ _=>simp only[e]at h1;exact h1.elim|x9 _=>simp only[e]at h1;exact h1.elim
 |_=>exact h1.elim
end
end RK
namespace RK
open PySem L2 PySem.SeqAt
section
variable{X:Cx}{cl:Nat->List D->bq->Ev D}{a b c:br}{a' b':E}{t:T}{es:List br}{pos p:Pos}
def gT(X:Cx)(t:Tg):TG:=λv σ H Q=>∃m r d r',gp X.K m H r σ/\RD X.K m H d v/\cz t d r=af r'/\∀σ',gp X.K m H r' σ'->Q σ' H
def UM(X:Cx)(t:List Tg):E4:=λvs σ H Q=>∃m r ds r',gp X.K m H r σ/\fR X.K m H ds vs/\jF t ds r=af r'/\∀σ',gp X.K m H r' σ'->Q σ' H
def PG.imp{tg:br}{g g':TG}(h:PG X tg g)(q:∀v σ H Q,g' v σ H Q->g v σ H Q):PG X tg g':=λpins s σ H v u Q I r w=>h pins s σ H v u Q I r (q _ _ _ _ w)
def EU.imp{tg:List br}{g g':E4}(h:EU X tg g)(q:∀v σ H Q,g' v σ H Q->g v σ H Q):EU X tg g':=λpins s σ H v u Q I r w=>h pins s σ H v u Q I r (q _ _ _ _ w)
abbrev JG(X:Cx)(tg:br)(t:Tg):Prop:=PG X tg (gT X t)
abbrev LH(X:Cx)(tg:List br)(t:List Tg):Prop:=EU X tg (UM X t)
def q8{i:Nat}{x:Str}(hN:X.N.Nodup)(hi:X.N[i]?=af x)(hx:Loc X.env.scope x)(hf:X.fn x=av\/X.env.scope.names.lookup x=af .local):JG X (.Name x pos) (.name i):=by refine PG.imp (JN hN hi hx hf) λv σ H Q h=>?_;obtain⟨m,r,d,r',er,rd,e,q⟩:=h;have e':r.set i (af d)=r':=Ux e;subst e';exact q _ (er.set rd)
def KD:LH X [] []:=by
 refine EU.imp JP λv σ H Q h=>?_;obtain⟨m,r,ds,r',er,rd,e,q⟩:=h;cases ds with|nil=>have e':r=r':=Ux e;subst e';exact⟨rd.nil_of,q _ er⟩|cons d ds=>cases e
theorem Hf{e:br}{es:List br}{t:Tg}{ts:List Tg}(h1:JG X e t)(h2:LH X es ts)(hs:(assignEach (e::es) X.env).map (·.2)=assign e X.env::(assignEach es X.env).map (·.2)):LH X (e::es) (t::ts):=by
 refine EU.imp (Gv h1 h2 hs) λvs σ H Q h=>?_;obtain⟨m,r,ds,r',er,rd,e,q⟩:=h;cases ds with
 |nil=>cases e|cons d ds=>
  obtain⟨v,vr,rfl,rv,rvs⟩:=rd.cons_of;replace e:(match cz t d r with|some r1=>jF ts ds r1|none=>ah)=af r':=e;cases e1:cz t d r with|none=>simp_all|some r1=>rw[e1]at e;exact⟨v,vr,rfl,m,r,d,r1,er,rv,e1,λσ1 DU=>⟨m,r1,ds,r',DU,rvs,e,q⟩⟩
theorem sX:∀{ts:List Tg}{ds:List D}{r r':aC},jF ts ds r=af r'->ds.length=ts.length
 |[],[],_,_,_=>rfl|[],_::_,_,_,h=>by cases h|_::_,[],_,_,h=>by cases h|t::ts,d::ds,r,r',h=>by
  replace h:(match cz t d r with|some r1=>jF ts ds r1|none=>ah)=af r':=h;cases e1:cz t d r with|none=>simp_all|some r1=>rw[e1]at h;simp[sX h]
theorem Pj{es:List br}{k:Nat}{ts:List Tg}(hc:X.calm=av)(h:LH X es ts)(hn:(assignEach es X.env).length=ts.length)(hst:(assignEach es X.env).findIdx? (·.1)=ah):JG X (.Tuple es k pos) (.tup ts):=by
 refine PG.imp (M4 hc h hn hst) λv σ H Q h=>?_;obtain⟨m,r,d,r',er,rd,e,q⟩:=h;cases d with
 |tup ds=>obtain⟨a,vs,rfl,hq,rs⟩:=dD rd;replace e:jF ts ds r=af r':=e;exact⟨a,vs,rfl,hq,by rw[←rs.length];exact sX e,m,r,ds,r',er,rs,e,q⟩
 |_=>cases e
def tF(X:Cx)(o:Option Fl)(m:List ay)(H:Hp)(N:Ends):Prop:=match o with
 |none=>False|some (.next r S)=>∀m' H' σ',fq m m' H H'->gp X.K m' H' r σ'->cS X.K m' S H'->N.nx σ' H'|some (.brk r S)=>∀m' H' σ',fq m m' H H'->gp X.K m' H' r σ'->cS X.K m' S H'->N.bk σ' H'|some (.cont r S)=>∀m' H' σ',fq m m' H H'->gp X.K m' H' r σ'->cS X.K m' S H'->N.ct σ' H'|some (.ret d S)=>∀m' H' v,fq m m' H H'->cS X.K m' S H'->RD X.K m' H' d v->N.rt v H'|some (.exc c r S)=>XQ X m H r c S
def tC(X:Cx)(f:aC->bq->Option Fl):TS:=λN σ H=>∃m r S,gp X.K m H r σ/\cS X.K m S H/\tF X (f r S) m H N
abbrev JS(X:Cx)(cl:Nat->List D->bq->Ev D)(st:eL)(c:C):Prop:=PS X st (tC X (runC cl c))
abbrev CD(X:Cx)(cl:Nat->List D->bq->Ev D)(st:List eL)(c:List C):Prop:=DS X st (tC X (eS cl c))
theorem tF.step{o:Option Fl}{m m':List ay}{H H':Hp}{N:Ends}(h:tF X o m H N)(s:fq m m' H H'):tF X o m' H' N:=by
 cases o with
 |none=>exact h|some o=>
  cases o with|next r S=>exact λm2 H2 σ st er sr=>h m2 H2 σ (s.trans st) er sr|brk r S=>exact λm2 H2 σ st er sr=>h m2 H2 σ (s.trans st) er sr|cont r S=>exact λm2 H2 σ st er sr=>h m2 H2 σ (s.trans st) er sr|ret d S=>exact λm2 H2 v st sr rd=>h m2 H2 v (s.trans st) sr rd|exc c r S=>exact XQ.step h s
theorem tF.fN{α β:Type}{R:RR α β}{o:Ev α}{r:aC}{k:α->bq->Option Fl}{m:List ay}{H:Hp}{N:Ends}(h:tF X (fN o r k) m H N):
  tO X R o m r H λv H1=>∃m1 a S1,fq m m1 H H1/\cS X.K m1 S1 H1/\R m1 H1 a v/\tF X (k a S1) m1 H1 N:=by
 cases o with
 |none=>exact h|some o=>
  cases o with|ok d S'=>exact λm1 H1 v st sr rd=>⟨m1,d,S',st,sr,rd,tF.step (h:tF X (k d S') m H N) st⟩|exc c S'=>exact h
theorem tF.AZ{o:Option Fl}{k:aC->bq->Option Fl}{m:List ay}{H:Hp}{N:Ends}(h:tF X (AZ o k) m H N):tF X o m H {N with nx:=tC X k N}:=by
 cases o with
 |none=>exact h|some o=>
  cases o with|next r S=>exact λm2 H2 σ st er sr=>⟨m2,r,S,er,sr,tF.step (h:tF X (k r S) m H N) st⟩|brk r S=>exact h|cont r S=>exact h|ret d S=>exact h|exc c r S=>exact h
theorem tF.BE{o:Option Fl}{k:aC->bq->Option Fl}{m:List ay}{H:Hp}{N:Ends}{W:L2.St->Hp->Prop}(h:tF X (BE o k) m H N)(hw:∀m' H' σ' r S,fq m m' H H'->gp X.K m' H' r σ'->cS X.K m' S H'->tF X (k r S) m' H' N->W σ' H'):tF X o m H {N with nx:=W,ct:=W,bk:=N.nx}:=by
 cases o with
 |none=>exact h|some o=>
  cases o with|next r S=>exact λm2 H2 σ st er sr=>hw m2 H2 σ r S st er sr (tF.step (h:tF X (k r S) m H N) st)|cont r S=>exact λm2 H2 σ st er sr=>hw m2 H2 σ r S st er sr (tF.step (h:tF X (k r S) m H N) st)|brk r S=>exact h|ret d S=>exact h|exc c r S=>exact h
def xW:CD X cl [] []:=DS.imp JH λN σ H z=>bW z λm r S er sr h=>h m H σ (fq.refl _ _) er sr
def uT{st:eL}{rest:List eL}{c:C}{cs:List C}(h1:JS X cl st c)(h2:CD X cl rest cs):CD X cl (st::rest) (c::cs):=by refine DS.imp (Gs h1 h2) λN σ H h=>?_;refine bW h λm r S er sr h=>?_;have h:tF X (AZ (runC cl c r S) λr S=>eS cl cs r S) m H N:=h;exact⟨m,r,S,er,sr,h.AZ⟩
def qt{tg e:br}{e':E}{t:Tg}(he:JE X cl e e')(hg:JG X tg t)(hs:swapsWithSole [tg] e pos.line X.env=pure aS)(hw:swappedStores [tg] e X.env=pure ah)(h1:(assignEach [tg] X.env).map (·.2)=[assign tg X.env]):
  JS X cl (.Assign [tg] e pos) (.asg t e'):=by
 refine PS.imp (Bx he hg hs hw h1) λN σ H h=>?_;refine bW h λm r S er sr h=>?_;have h:tF X (fN (ak cl e' r S) r λd S1=>match cz t d r with|some r'=>af (.next r' S1)|none=>ah) m H N:=h;refine⟨m,r,S,er,sr,h.fN.mono λv H1 zz=>?_⟩;refine aR zz λm1 d S1 st1 fh rd h1=>?_;cases e1:cz t d r with|none=>rw[e1]at h1;exact h1.elim|some r'=>rw[e1]at h1;exact⟨m1,r,d,r',er.step st1,rd,e1,λσ' FA=>h1 m1 H1 σ' (fq.refl _ _) FA fh⟩
def Pk{o i e:br}{o' i' e':E}{sp:Pos}(hu:X.A.units+66<cLine)(ho:JE X cl o o')(hi:JE X cl i i')(he:JE X cl e e')(hs:swapsWithSole [.Subscript o i sp] e pos.line X.env=pure aS)(hw:swappedStores [.Subscript o i sp] e X.env=pure ah)(ha:∀v,assign (.Subscript o i sp) X.env v=(do
   let ov ←holding [v] (eval o X.env)
   let iv ←holding [v,ov] (eval i X.env)
   standAt sp
   holding [v,ov,iv] (setItem ov iv v)
   release [v,ov,iv] [])):JS X cl (.Assign [.Subscript o i sp] e pos) (.sub o' i' e'):=by
 refine PS.imp (Bx he (M5 ho hi (Kd (by lia)) ha) hs hw rfl) λN σ H h=>?_;refine bW h λm r S er sr h=>?_;have h:tF X (fN (ak cl e' r S) r λd S1=>fN (ak cl o' r S1) r λa S2=>fN (ak cl i' r S2) r λb S3=>match putAt a b d S3 with|some S4=>af (.next r S4)|none=>ah) m H N:=h;refine⟨m,r,S,er,sr,h.fN.mono λv H1 zz=>?_⟩;refine aR zz λm1 d S1 st1 fh rd h1=>?_;refine⟨m1,r,S1,er.step st1,fh,h1.fN.mono λx H2 zz=>?_⟩;refine aR zz λm2 a S2 st2 ow ra h2=>?_;refine⟨m2,r,S2,(er.step st1).step st2,ow,h2.fN.mono λy H3 zz=>?_⟩;refine aR zz λm3 b S3 st3 EF rb h3=>?_;cases ep:putAt a b d S3 with|none=>rw[ep]at h3;exact h3.elim|some S4=>rw[ep]at h3;refine⟨m3,S3,a,b,d,EF,ra.step st3,rb,(rd.step st2).step st3,S4,ep,λH' st AA=>?_⟩;exact h3 m3 H' σ st (((er.step st1).step st2).step (st3.trans st)) AA
def RN{e:br}{e':E}(he:JE X cl e e')(hs:swapsWith e ah pos.line X.env=pure aS):JS X cl (.Expr e pos) (.ex e'):=by refine PS.imp (JL he hs) λN σ H h=>?_;refine bW h λm r S er sr h=>?_;have h:tF X (fN (ak cl e' r S) r λd S1=>af (.next r S1)) m H N:=h;exact⟨m,r,S,er,sr,h.fN.mono λv H1 z=>aR z λm1 d S1 st1 fh rd h1=>h1 m1 H1 σ (fq.refl _ _) (er.step st1) fh⟩
def Pn{x:Str}{j:Nat}{pos':Pos}:JS X cl (.Expr (.Constant (.str x) j pos) pos') .pass:=
 PS.imp MP λN σ H z=>bW z λm r S er sr h=>h m H σ (fq.refl _ _) er sr
def xX:JS X cl (.Pass pos) .pass:=PS.imp JK λN σ H z=>bW z λm r S er sr h=>h m H σ (fq.refl _ _) er sr
def Pq:JS X cl (.Break pos) .brk:=PS.imp Gu λN σ H z=>bW z λm r S er sr h=>h m H σ (fq.refl _ _) er sr
def KH:JS X cl (.Continue pos) .cont:=PS.imp wJ λN σ H z=>bW z λm r S er sr h=>h m H σ (fq.refl _ _) er sr
def Pr{e:br}{e':E}(he:JE X cl e e'):JS X cl (.Return (af e) pos) (.ret e'):=by refine PS.imp (MT he) λN σ H h=>?_;refine bW h λm r S er sr h=>?_;have h:tF X (fN (ak cl e' r S) r λd S1=>af (.ret d S1)) m H N:=h;exact⟨m,r,S,er,sr,h.fN.mono λv H1 z=>aR z λm1 d S1 st1 fh rd h1=>h1 m1 H1 v (fq.refl _ _) fh rd⟩
def KJ:JS X cl (.Return ah pos) .GY:=PS.imp JM λN σ H z=>bW z λm r S er sr h=>h m H _ (fq.refl _ _) sr jY
def Jm{e:br}{st st':List eL}{cs cs':List C}(hc:JT X cl e t)(ha:CD X cl st cs)(hb:CD X cl st' cs'):JS X cl (.If e st st' pos) (.cond t cs cs'):=by
 refine PS.imp (Q5 hc ha hb) λN σ H h=>?_;refine bW h λm r S er sr h=>?_;have h:tF X (fN (bu cl t r S) r λx S1=>if x then eS cl cs r S1 else eS cl cs' r S1) m H N:=h;refine⟨m,r,S,er,sr,h.fN.mono λv H1 zz=>?_⟩;refine aR zz λm1 x S1 st1 fh rx h1=>?_;have rx:x=v:=rx;subst rx;cases x with|true=>rw[if_pos rfl];exact⟨m1,r,S1,er.step st1,fh,h1⟩|false=>rw[if_neg (by simp)];exact⟨m1,r,S1,er.step st1,fh,h1⟩
def jw(X:Cx)(m:List ay)(H:Hp)(ds:List D)(J:L2.It):Prop:=∀m' H',fq m m' H H'->(∀a∈m',H' a≠ah)->J.stop ds.length H'/\∀(i:Nat)(d:D),ds[i]?=af d->
 J.go i H'/\∀x CY,J.MM i H' x CY->fq m' m' H' CY/\(∀a∈m',CY a=H' a)/\RD X.K m' CY d x
abbrev rI(X:Cx):RR (List D) L2.It:=λm H ds J=>jw X m H ds J
abbrev JI(X:Cx)(cl:Nat->List D->bq->Ev D)(tg iter:br)(i:It):Prop:=PI X tg iter (tM X (rI X) (bM cl i))
def PI.imp{tg iter:br}{w w':TI}(h:PI X tg iter w)(q:∀σ H R,w' σ H R->w σ H R):PI X tg iter w':=λpins s σ H R I z=>h pins s σ H R I (q _ _ _ z)
def PI.or{tg iter:br}{w w':TI}(h:PI X tg iter w)(h':PI X tg iter w'):PI X tg iter (λσ H R=>w σ H R\/w' σ H R):=λpins s σ H R I z=>by
 rcases z with z|z
 ·exact h pins s σ H R I z
 ·exact h' pins s σ H R I z
def z6{m:List ay}{H:Hp}{a:ay}{ds:List D}{vs:List V}(hq:sR X.K H a vs)(rs:fR X.K m H ds vs)(inj:∀H' ys,sR X.K H' a vs->sR X.K H' a ys->True):jw X m H ds (NX X.K a):=by
 intro m' H' st _;have hq':=st.Lo hq;have rs':=rs.step st;refine⟨⟨vs,hq',by rw[rs.length];lia⟩,λi d hd=>?_⟩;obtain⟨v,h1,h2⟩:=rs'.get hd;refine⟨⟨vs,v,hq',h1⟩,λx CY y=>?_⟩;obtain⟨rfl,y⟩:=y;have e:=y vs hq';rw[h1]at e;have ev:v=x:=by simpa using e
 subst ev;exact⟨fq.refl _ _,λ_ _=>rfl,h2⟩
def sY{m:List ay}{H:Hp}{a:ay}{ds:List D}{vs:List V}(hq:∀m' H',fq m m' H H'->xy X.K H' a vs)(rs:fR X.K m H ds vs):jw X m H ds (NW X.K a):=by
 intro m' H' st _;have hq':=hq m' H' st;have rs':=rs.step st;refine⟨⟨vs,hq',by rw[rs.length];lia⟩,λi d hd=>?_⟩;obtain⟨v,h1,h2⟩:=rs'.get hd;refine⟨⟨vs,v,hq',h1⟩,λx CY y=>?_⟩;obtain⟨rfl,y⟩:=y;have e:=y vs hq';rw[h1]at e;have ev:v=x:=by simpa using e
 subst ev;exact⟨fq.refl _ _,λ_ _=>rfl,h2⟩
def uV{m:List ay}{H:Hp}{lo hi:Int}{n:Nat}(hn:n=(hi - lo).toNat):jw X m H (cA lo hi) (MO lo n):=by
 subst hn;intro m' H' st _;refine⟨show(hi - lo).toNat<=(cA lo hi).length by simp[cA],λi d hd=>?_⟩;simp only[cA,Vw]at hd;have hi':i<(hi - lo).toNat:=by
  by_cases h:i<(hi - lo).toNat
  ·exact h
  ·simp_all
 rw[List.getElem?_range hi']at hd;have ed:D.int (lo+(i:Int))=d:=by simpa using hd
 subst ed;refine⟨hi',λx CY y=>?_⟩;obtain⟨rfl,rfl⟩:=y;exact⟨fq.refl _ _,λ_ _=>rfl,cQ⟩
theorem Pu{tg:br}(ha:JE X cl a a'):JI X cl tg a (.seq a'):=by
 refine PI.imp (PI.or (wY ha) (M6 ha)) λσ H R h=>?_;refine bW h λm r S er sr h=>?_;have h:tO X (rI X) (bnd (ak cl a' r S) λx S1=>match x with|.tup ds=>fz ds S1|.lst ds=>fz ds S1|.AN ns=>fz (ns.map .int) S1|_=>ah) m r H R:=h;cases e:ak cl a' r S with
 |none=>rw[e]at h;exact h.elim|some o=>
  cases o with
  |exc c S1=>rw[e]at h;exact .inl ⟨m,r,S,er,sr,by rw[e];exact h⟩|ok x S1=>
   rw[e,aN]at h;cases x with
   |tup ds=>refine .inr ⟨m,r,S,er,sr,?_⟩;rw[e];intro m1 H1 v st1 fh rd;obtain⟨p,vs,rfl,hq,rs⟩:=dD rd;exact⟨p,rfl,⟨vs,hq⟩,h m1 H1 _ st1 fh (z6 hq rs λ_ _ _ _=>trivial)⟩
   |lst ds=>refine .inl ⟨m,r,S,er,sr,?_⟩;rw[e];intro m1 H1 v st1 fh rd;obtain⟨p,vs,rfl,hq,hn,rs⟩:=gn rd;exact⟨p,rfl,⟨vs,xy.of hq⟩,h m1 H1 _ st1 fh (sY (λm' H' st=>xy.of (st.BF _ _ hq hn)) rs)⟩
   |AN ns=>refine .inl ⟨m,r,S,er,sr,?_⟩;rw[e];intro m1 H1 v st1 fh rd;obtain⟨p,rfl,hq⟩:=uD rd;exact⟨p,rfl,⟨_,hq.sq⟩,h m1 H1 _ st1 fh (sY (λm' H' st=>(st.DC hq).sq) dJ)⟩
   |_=>exact h.elim
theorem Dv{tg:br}{p2:Pos}(hg:Gl X "range")(hm:X.mg "range" =ah)(hb:JE X cl b b')(hs:starEach [b] X.env=[(aS,eval b X.env)]):JI X cl tg (.Call (.Name "range" p2) [b] [] pos) (.lP b'):=by
 refine PI.imp (BJ hg hm (fH hb gQ hs) hs) λσ H R h=>?_;refine bW h λm r S er sr h=>?_;have h:tO X (rI X) (bnd (ak cl b' r S) λy S1=>match y with|.int j=>(if -(2^62)<=j/\j<2^62 then fz (cA 0 j) S1 else ah)|_=>ah) m r H R:=h;refine⟨m,r,S,er,sr,h.bnd.mono λv H1 zz=>?_⟩;refine aR zz λm1 y S1 st1 fh ry h1=>?_;cases y with
 |int j=>
  simp only at h1;by_cases hb: -(2^62)<=j/\j<2^62
  ·rw[if_pos hb]at h1;exact⟨j,by rw[gc ry],hb.1,hb.2,h1.fin fh (uV (by simp))⟩
  ·rw[if_neg hb]at h1;exact h1.elim
 |_=>exact h1.elim
def Dw{tg iter:br}{i:It}{tt:Tg}{st:List eL}{cs:List C}(hp:PassesOwn (model X.prog X.w) X.A X.env X.xe)(hc:X.calm=av)(hi:JI X cl tg iter i)(hg:JG X tg tt)(hb:CD X cl st cs)(hs:∀x,foldedSetIterable iter X.env x=pure x):
  JS X cl (.For tg iter st [] pos) (.fr tt i cs):=by
 refine PS.imp (BL hp hc hi hg hb hs) λN σ H h=>?_;refine bW h λm r S er sr h=>?_;have h:tF X (fN (bM cl i r S) r λds S1=>forLoop (λr S=>eS cl cs r S) tt ds r S1) m H N:=h;refine⟨m,r,S,er,sr,h.fN.mono λJ H0 zz=>?_⟩;obtain⟨m0,ds,S0,st0,UN,Y,h0⟩:=zz;have Y:jw X m0 H0 ds J:=Y;refine⟨λi k σ H=>k=ds.length - i/\i<=ds.length/\∃m1 r1 S1,fq m0 m1 H0 H/\gp X.K m1 H r1 σ/\cS X.K m1 S1 H/\tF X (forLoop (λr S=>eS cl cs r S) tt (ds.drop i) r1 S1) m1 H N,
  ⟨ds.length,by simp,Wx _,m0,r,S0,fq.refl _ _,er.step st0,UN,by simpa using h0⟩,?_⟩
 rintro i k σ1 H1 ⟨rfl,hi,m1,r1,S1,st1,DU,fh,h1⟩;obtain⟨EG,UO⟩:=Y m1 H1 st1 (λa ha=>fh.there ha);by_cases hlt:i<ds.length
 ·right;have ed:ds[i]?=af ds[i]:=Vc hlt;obtain⟨go,yl⟩:=UO i _ ed;refine⟨go,λσ' H'=>i+1<=ds.length/\∃m1 r1 S1,fq m0 m1 H0 H'/\gp X.K m1 H' r1 σ'/\cS X.K m1 S1 H'/\tF X (forLoop (λr S=>eS cl cs r S) tt (ds.drop (i+1)) r1 S1) m1 H' N,
   λσ' H' q=>⟨ds.length - (i+1),by lia,rfl,q.1,q.2⟩,λx H2 y=>?_⟩
  obtain⟨st2,same,rx⟩:=yl x H2 y;have HA:ds.drop i=ds[i]::ds.drop (i+1):=Wk hlt;rw[HA]at h1;simp only[forLoop]at h1;cases es:cz tt ds[i] r1 with|none=>rw[es]at h1;exact h1.elim|some r2=>rw[es]at h1;have h1:tF X (BE (eS cl cs r2 S1) λr S=>forLoop (λr S=>eS cl cs r S) tt (ds.drop (i+1)) r S) m1 H1 N:=h1;have ow:=fh.keep st2 same;refine⟨m1,r1,ds[i],r2,DU.step st2,rx,es,λσ2 B8=>⟨m1,r2,S1,B8,ow,?_⟩⟩;exact(h1.step st2).BE λm' H' σ' r' S' st er sr h=>⟨hlt,m',r',S',(st1.trans st2).trans st,er,sr,h⟩
 ·left;have ei:i=ds.length:=by lia
  subst ei;refine⟨EG,?_⟩;rw[kg]at h1;exact h1 m1 H1 σ1 (fq.refl _ _) DU fh
end
end RK
namespace RK
open PySem L2 PySem.SeqAt PySem.Spec
section
variable{K:aI}{m t:List ay}{H H':Hp}
mutual
theorem uW:∀{d:D}{v:V},RD K m H d v->oj m.length d
 |.non,_,_=>trivial|.bl _,_,_=>trivial|.int _,_,_=>trivial|.str _,_,_=>trivial|.tup ds,v,h=>by unfold RD at h;obtain⟨a,vs,_,_,r⟩:=h;exact nZ r
 |.lst ds,v,h=>by unfold RD at h;obtain⟨a,vs,_,_,_,r⟩:=h;exact nZ r
 |.AN _,_,_=>trivial|.ref k,v,h=>by unfold RD at h;obtain⟨a,_,q⟩:=h;exact(UL.mp q).1
 |.B6 _,_,h=>trivial|.EC,_,_=>trivial
theorem nZ:∀{ds:List D}{vs:List V},fR K m H ds vs->oj.clos m.length ds
 |[],_,_=>trivial|d::ds,vs,h=>by obtain⟨v,r,_,h1,h2⟩:=h.cons_of;exact⟨uW h1,nZ h2⟩
end
mutual
theorem RD.less:∀{d:D}{v:V},RD K (m++t) H d v->oj m.length d->RD K m H d v
 |.non,_,h,_=>h|.bl _,_,h,_=>h|.int _,_,h,_=>h|.str _,_,h,_=>h|.tup ds,v,h,c=>by unfold RD at h ⊢;obtain⟨a,vs,e,q,r⟩:=h;exact⟨a,vs,e,q,fR.less r c⟩
 |.lst ds,v,h,c=>by unfold RD at h ⊢;obtain⟨a,vs,e,q,n,r⟩:=h;exact⟨a,vs,e,q,λz=>n (Wn _ z),fR.less r c⟩
 |.AN _,_,h,_=>h|.ref k,v,h,c=>by unfold RD at h ⊢;obtain⟨a,e,q⟩:=h;exact⟨a,e,by rw[UV (show k<m.length from c)]at q;exact q⟩
 |.B6 _,_,h,_=>h|.EC,_,_,_=>trivial
theorem fR.less:∀{ds:List D}{vs:List V},fR K (m++t) H ds vs->oj.clos m.length ds->fR K m H ds vs
 |[],_,h,_=>h|d::ds,vs,h,c=>by obtain⟨v,r,rfl,h1,h2⟩:=h.cons_of;exact .cons (RD.less h1 c.1) (fR.less h2 c.2)
end
theorem rX.closed:∀{a:List (Key×D)}{b:List (Key×V)},rX K m H a b->∀p∈a,oj m.length p.2
 |[],[],_,p,hp=>by cases hp|x::ps,q::qs,h,p,hp=>by
  rcases UJ.mp hp with rfl|hp
  ·exact uW h.2.1
  ·exact rX.closed h.2.2 p hp
 |[],_::_,h,_,_=>h.elim|_::_,[],h,_,_=>h.elim
theorem rX.less:∀{a:List (Key×D)}{b:List (Key×V)},rX K (m++t) H a b->(∀p∈a,oj m.length p.2)->rX K m H a b
 |[],[],_,_=>trivial|p::ps,q::qs,h,c=>⟨h.1,RD.less h.2.1 (c p (by simp)),rX.less h.2.2 λx hx=>c x (by simp[hx])⟩|[],_::_,h,_=>h.elim|_::_,[],h,_=>h.elim
theorem AO.closed:∀{a:List (Str×D)}{b:List (Str×V)},AO K m H a b->∀p∈a,oj m.length p.2
 |[],[],_,p,hp=>by cases hp|x::ps,q::qs,h,p,hp=>by
  rcases UJ.mp hp with rfl|hp
  ·exact uW h.2.1
  ·exact AO.closed h.2.2 p hp
 |[],_::_,h,_,_=>h.elim|_::_,[],h,_,_=>h.elim
theorem AO.less:∀{a:List (Str×D)}{b:List (Str×V)},AO K (m++t) H a b->(∀p∈a,oj m.length p.2)->AO K m H a b
 |[],[],_,_=>trivial|p::ps,q::qs,h,c=>⟨h.1,RD.less h.2.1 (c p (by simp)),AO.less h.2.2 λx hx=>c x (by simp[hx])⟩|[],_::_,h,_=>h.elim|_::_,[],h,_=>h.elim
theorem cS.LI{S':bq}(nd:m.Nodup)(h':cS K (m++t) S' H')(c:∀o∈S'.take m.length,uA m.length o):cS K m (S'.take m.length) H':=by
 have hl:m.length<=S'.length:=by rw[←h'.len,Vh];lia
 refine⟨by simp_all,nd,λk a o h1 h2=>?_⟩;have hk:k<m.length:=(UL.mp h1).1;have h2':=h2;rw[Wb hk]at h2';have q:=h'.obj k a o (by grind) h2';have cl:=c o (V4 h2);cases o with
 |lst ds=>obtain⟨vs,g1,g2⟩:=q;exact⟨vs,g1,g2.less cl⟩
 |dct kvs=>obtain⟨vs,g1,g2⟩:=q;exact⟨vs,g1,g2.less cl⟩
 |ins c fs=>obtain⟨C,dx,vs,g0,g1,g2⟩:=q;exact⟨C,dx,vs,g0,g1,g2.less cl⟩
 |x9 kvs=>obtain⟨ob,vs,g1,g2⟩:=q;exact⟨ob,vs,g1,g2.less cl⟩
def fq.less{m':List ay}(s:fq m m' H H'):fq m m H H':=⟨⟨[],by simp⟩,λ_ _ _ n=>n,s.tups,s.qk,s.BF,s.non,s.exts⟩
theorem cS.less{S S':bq}(h:cS K m S H)(h':cS K (m++t) S' H')(e:S'.take S.length=S):cS K m S H':=by
 refine⟨h.len,h.nd,λk a o h1 h2=>?_⟩;have hk:k<S.length:=(UL.mp h2).1;have hm:k<m.length:=by rw[h.len];exact hk
 have e2:S'[k]?=af o:=by rw[←e,Wb hk]at h2;exact h2
 have q:=h'.obj k a o (by grind) e2;have q0:=h.obj k a o h1 h2;cases o with
 |lst ds=>obtain⟨vs,g1,g2⟩:=q;obtain⟨OA,g3,g4⟩:=q0;exact⟨vs,g1,g2.less (nZ g4)⟩
 |dct kvs=>obtain⟨vs,g1,g2⟩:=q;obtain⟨OA,g3,g4⟩:=q0;exact⟨vs,g1,g2.less g4.closed⟩
 |ins c fs=>obtain⟨C,dx,vs,g0,g1,g2⟩:=q;obtain⟨C0,X5,OA,_,g3,g4⟩:=q0;exact⟨C,dx,vs,g0,g1,g2.less g4.closed⟩
 |x9 kvs=>obtain⟨ob,vs,g1,g2⟩:=q;obtain⟨X6,OA,g3,g4⟩:=q0;exact⟨ob,vs,g1,g2.less g4.closed⟩
end
def DF(K:aI)(fns:List xA)(np:Nat)(k f:Nat):Sp:=λvs H Q E=>vs.length=np/\∃m S ds,cS K m S H/\fR K m H ds vs/\match ao fns k f ds S with
 |none=>False|some (.ok d S')=>∀m' H' v,fq m m' H H'->cS K m' S' H'->RD K m' H' d v->Q v H'|some (.exc c S')=>∀m' H' e C,fq m m' H H'->cS K m' S' H'->bS K mainGlobals c=af (af (.ref C))->E e (af C) H'
def Dy{K:aI}{m:List ay}{H:Hp}{ds:List D}{vs:List V}(h:fR K m H ds vs)(n:Nat):gp K m H (ds.map af++bE (n - ds.length) ah) (vs.map af++bE (n - vs.length) ah):=by
 refine⟨by simp[h.length],λi d hd=>?_⟩;by_cases hi:i<ds.length
 ·rw[UV (by simpa using hi),Vw]at hd;cases e:ds[i]? with
  |none=>rw[e]at hd;simp at hd|some d'=>
   rw[e]at hd;have ed:d'=d:=by simpa using hd
   subst ed;obtain⟨v,h1,h2⟩:=h.get e;exact⟨v,by rw[UV (by rw[UG,←h.length];exact hi),Vw,h1];rfl,h2⟩
 ·rw[Vl (by simpa using hi),WM]at hd;lia
theorem KN{X:Cx}{fns:List xA}{o:Option Fl}{m:List ay}{S:bq}{H:Hp}{Q:VK}{E:XK}(sr:cS X.K m S H)(hx:∀(pins:List (ay×Obj))(σ:St)(H':Hp)(s':aE)(o:Option ay)(e:ai),Inv X pins σ H' s'->bN X pins H' o e s'->E e o H'->X.xe e s')(h:match fO S o with
   |none=>False|some (.ok d S')=>∀m' H' v,fq m m' H H'->cS X.K m' S' H'->RD X.K m' H' d v->Q v H'
   |some (.exc c S')=>∀m' H' e C,fq m m' H H'->cS X.K m' S' H'->bS X.K mainGlobals c=af (af (.ref C))->E e (af C) H'):tF X o m H {nx:=λ_ H'=>Q .non H',rt:=Q}:=by
 have key:∀(d:D)(S':bq),(match trim S d S' with
   |none=>False|some (.ok d S')=>∀m' H' v,fq m m' H H'->cS X.K m' S' H'->RD X.K m' H' d v->Q v H'
   |some (.exc c S')=>∀m' H' e C,fq m m' H H'->cS X.K m' S' H'->bS X.K mainGlobals c=af (af (.ref C))->E e (af C) H')->∀m' H' v,fq m m' H H'->cS X.K m' S' H'->RD X.K m' H' d v->Q v H':=by
  intro d S' h m' H' v st AA rd;obtain⟨t,rfl⟩:=st.pre;unfold trim at h;by_cases hc:S'.take S.length=S/\oj S.length d
  ·rw[if_pos hc]at h;have hs:=sr.less AA hc.1;exact h m H' v st.less hs (rd.less (by rw[sr.len];exact hc.2))
  ·rw[if_neg hc]at h;by_cases hd:(∀o∈S'.take S.length,uA S.length o)/\oj S.length d
   ·rw[if_pos hd]at h;rw[←sr.len]at h hd;exact h m H' v st.less (cS.LI sr.nd AA hd.1) (rd.less hd.2)
   rw[if_neg hd]at h;cases d with
   |ref k=>
    simp only at h;cases e:S'[k]? with
    |none=>rw[e]at h;exact h _ H' v st AA rd|some o=>
     rw[e]at h;cases o with
     |lst ds=>
      simp only at h;by_cases hc2:S'.take S.length=S/\S.length<=k/\oj S.length (.lst ds)
      ·rw[if_pos hc2]at h;have hs:=sr.less AA hc2.1;obtain⟨a,rfl,hk⟩:=cg rd;obtain⟨a',vs,h1,h2,h3⟩:=AA.lst e;rw[hk]at h1;have ea:a=a':=by simpa using h1
       subst ea;have hn:a∉m:=λhm=>by
        obtain⟨j,hj⟩:=Xo.mp hm;have hjl:j<m.length:=(UL.mp hj).1;have hj':(m++t)[j]?=af a:=by rw[UV hjl];exact hj
        have ej:j=k:=(iF (UL.mp hj').1 AA.nd).mp (hj'.trans hk.symm);have h5:=hc2.2.1;rw[←sr.len]at h5;lia
       exact h m H' _ st.less hs (Cu h2 hn (h3.less (by rw[sr.len];exact hc2.2.2)))
      ·rw[if_neg hc2]at h;exact h _ H' v st AA rd
     |dct _=>exact h _ H' v st AA rd|ins _ _=>exact h _ H' v st AA rd|x9 _=>exact h _ H' v st AA rd
   |_=>exact h _ H' v st AA rd
 cases o with
 |none=>exact h|some o=>
  cases o with
  |next r S'=>exact λm' H' σ' st er AA=>key .non S' h m' H' .non st AA jY|ret d S'=>exact key d S' h|brk r S'=>exact h.elim|cont r S'=>exact h.elim|exc c r S'=>
   intro pins s' σ' H' m' e I st er AA z;obtain⟨C,hC,ie⟩:=z;refine hx pins σ' H' s' _ e I ie ?_;obtain⟨t,rfl⟩:=st.pre;simp only[fO]at h;by_cases hc:S'.take S.length=S
   ·rw[if_pos hc]at h;exact h m H' e C st.less (sr.less AA hc) hC
   ·rw[if_neg hc]at h;exact h _ H' e C st AA hC
section
variable{X:Cx}{fns:List xA}{k f np:Nat}{fa:ay}{fd:FuncData}{ps:List Str}{x:Str}{a:br}{es:List br}{a':E}{es':List E}{pos p:Pos}
theorem Hg{sp:Sp}{t:TA}{e:br}{Ex:St->XK}(F:x8 X.prog X.w X.K X.mg X.base (A0 X.prog X.w) k fa fd ps sp)(hr:oz k X.A)(hg:Gl X x)(hm:X.mg x=af (.ref fa))(hk:e8 X.K (.ref fa)=av)(hb:Binds X.K fd ps [])(hx:∀(pins:List (ay×Obj))(σ:St)(H':Hp)(s':aE)(o:Option ay)(e:ai),Inv X pins σ H' s'->bN X pins H' o e s'->Ex σ e o H'->X.xe e s')(ha:PA X (e::es) t)(hdb:(x==("__debug__" :Str))=aS)(he:starEach (e::es) X.env=(aS,eval e X.env)::starEach es X.env)(hpl:(backTo pos (starEach es X.env)).any (·.1)=aS):
  PE X (.Call (.Name x p) (e::es) [] pos) λσ H Q=>t σ H λvs H1=>sp vs H1 Q (Ex σ):=by
 intro pins s σ H Q I h;refine wpAny_Call_Name_kw (iy I hg hm ?_ hdb);refine kQ (h₀:=X.base) I.ok.mod.IP hk (ja (ha pos pins s σ H _ I h) λus s1 z=>bQ z λvs H1 I1 r q=>⟨I1.BO,?_⟩) he hpl;have hl:us.length=ps.length:=by rw[←r.length];exact F.len _ _ _ _ q
 have hb':=hb s1 us I1.BO (by simp_all);rw[UT]at hb';refine wpAny_call (Xn (F.run X.A X.stack s1 H1 ⟨us,[]⟩ us vs Q (Ex σ) hr I1.GS hb' r q) λr s' hq=>?_);cases r with
 |error e=>obtain⟨o,H',I',ie,hE⟩:=mq I1 hq;exact hx pins σ H' s' o e I' ie hE
 |ok fl=>
  cases fl with|ret u=>exact I1.after hq|next=>exact False.elim hq|brk=>exact False.elim hq|cont=>exact False.elim hq
theorem KQ(F:x8 X.prog X.w X.K X.mg X.base (A0 X.prog X.w) (2*k) fa fd ps (DF X.K fns np k f))(hl:(es'.length+1)=np)(hr:oz (2*k) X.A)(hg:Gl X x)(hm:X.mg x=af (.ref fa))(hk:e8 X.K (.ref fa)=av)(hb:Binds X.K fd ps [])(ha:JA X (ao fns k) (a::es) (a'::es'))(hdb:(x==("__debug__" :Str))=aS)(he:starEach (a::es) X.env=(aS,eval a X.env)::starEach es X.env)(hpl:(backTo pos (starEach es X.env)).any (·.1)=aS):
  JE X (ao fns k) (.Call (.Name x p) (a::es) [] pos) (.call f (a'::es')):=by
 refine PE.imp (Hg (Ex:=λσ e o H'=>∀pins s',Inv X pins σ H' s'->bN X pins H' o e s'->X.xe e s') F hr hg hm hk hb (λpins σ H' s' o e I ie q=>q pins s' I ie) ha hdb he hpl) λσ H Q h=>?_;refine bW h λm r S er sr h=>?_;have hlen:∀(l:List E)(r:aC)(S:bq)(ds:List D)(S':bq),aG (ao fns k) l r S=af (.ok ds S')->ds.length=l.length:=by
  intro l
  induction l with
  |nil=>
   intro r S ds S' q;have q':fz ([]:List D) S=af (.ok ds S'):=q;injection q' with q1
   simp_all
  |cons e l ih=>
   intro r S ds S' q;have q':bnd (ak (ao fns k) e r S) (λd S1=>bnd (aG (ao fns k) l r S1) λds S2=>fz (d::ds) S2)=af (.ok ds S'):=q;cases e1:ak (ao fns k) e r S with
   |none=>simp_all|some o=>
    rw[e1]at q';cases o with
    |exc c S1=>cases q'|ok d S1=>
     rw[aN]at q';cases e2:aG (ao fns k) l r S1 with
     |none=>simp_all|some o2=>
      rw[e2]at q';cases o2 with
      |exc c S2=>cases q'|ok IY S2=>
       rw[aN]at q';injection q' with q1
       injection q1 with q2
       subst q2;simp[ih r S1 IY S2 e2]
 have h:tO X (rD X) (bnd (aG (ao fns k) (a'::es') r S) λds S1=>ao fns k f ds S1) m r H Q:=h;refine⟨m,r,S,er,sr,?_⟩;cases e:aG (ao fns k) (a'::es') r S with
 |none=>rw[e]at h;exact h|some o=>
  rw[e]at h;cases o with
  |exc c S1=>exact h|ok ds S1=>
   rw[aN]at h;intro m1 H1 vs st1 fh rs;have hds:=hlen _ _ _ _ _ e;have rs:fR X.K m1 H1 ds vs:=rs;refine⟨by rw[←rs.length,hds];exact hl,m1,S1,ds,fh,rs,?_⟩;have h1:=h.step st1;cases q:ao fns k f ds S1 with
   |none=>rw[q]at h1;exact h1|some o=>
    rw[q]at h1;cases o with|exc c S2=>intro m2 H2 e C st2 ow hC pins s' I ie;exact h1 pins s' σ H2 m2 e I st2 ((er.step st1).step st2) ow ⟨C,hC,ie⟩|ok d S2=>exact h1
end
section
variable{P:bX}{w:ck}{K:aI}{mg:Str->Option ai}{base:cK}
def RP{x qual:Str}{st:eL}{f:ay}{fd:FuncData}{N ps:List Str}{k:Nat}{fns:List xA}{fi:Nat}{fs:xA}(F:Ll K x qual st f fd)(Sc:A2 N ps (bV st))(hfi:fns[fi]?=af fs)(hnp:ps.length=fs.np)(hnn:N.length=fs.nn)(hbody:∀(cdv:ai)(A:cy)(outer:List Env)(s:aE)(H:Hp)(E:XK),oz (2*k+1) (A.deeper (PyProof.Rows.envOfC qual (bV st) s.heap.objs.size f cdv))->
   CD (jo (A0 P w) P w K mg base N qual (bV st) f cdv A outer s H E) (ao fns k) (fW st) fs.body):x8 P w K mg base (A0 P w) (2*(k+1)) f fd ps (DF K fns fs.np (k+1) fi):=by
 show x8 P w K mg base (A0 P w) (2*k+1+1) f fd ps (DF K fns fs.np (k+1) fi);obtain⟨oc,od,kV,doc,pm,an,cdv,ct,osl,rfl,lk,hcd⟩:=F.ex;refine Rk lk hcd Sc (λvs H Q E h=>by rw[hnp];exact h.1) (λA outer s H vs Q E hr h=>?_);obtain⟨hl,m,S,ds,sr,rs,h⟩:=h;refine⟨_,hbody cdv A outer s H E hr,m,ds.map af++bE (fs.nn - ds.length) ah,S,?_,sr,?_⟩
 ·have e:=Dy rs fs.nn;unfold L2.start;rw[hnn];exact e
 ·refine KN (X:=jo (A0 P w) P w K mg base N qual (bV st) f cdv A outer s H E) (E:=E) (fns:=fns) sr (λpins σ H' s' o e I ie q=>GX I ie q) ?_;have hd:ds.length=fs.np:=by rw[rs.length,hl]
  simp only[ao,hfi,hd,if_true]at h;rw[hd];exact h
def KR{f:ay}{fd:FuncData}{ps:List Str}{fns:List xA}{fi np:Nat}:x8 P w K mg base (A0 P w) 0 f fd ps (DF K fns np 0 fi):=by
 have no:∀vs H Q E,¬DF K fns np 0 fi vs H Q E:=λvs H Q E h=>by obtain⟨_,m,S,ds,_,_,h⟩:=h;exact h
 exact⟨λvs H Q E h=>absurd h (no vs H Q E),λA outer s H args us vs Q E _ _ _ _ h=>absurd h (no vs H Q E)⟩
end
def z7(env:Env):∀(names:List (Str×NameKind)),(∀x∈names,x.2= .free->∃c,env.cells.lookup x.1=af c)->∀(acc:List (Str×ay)),
    ∃cl:List (Str×ay),(forIn names acc λ(p:Str×NameKind) cs=>(if(p.2==NameKind.free)=av then do let c ←cellOf env p.1;pure (ForInStep.yield ((p.1,c)::cs))else pure (ForInStep.yield cs):Sem (ForInStep (List (Str×ay)))))=pure cl/\
      (∀x c,cl.lookup x=af c->acc.lookup x=af c\/env.cells.lookup x=af c)/\(∀x,(x,NameKind.free)∈names\/(∃c,acc.lookup x=af c)->∃c,cl.lookup x=af c):=by
  intro names
  induction names with
  |nil=>intro _ acc;exact⟨acc,rfl,λx c h=> .inl h,λx h=>h.elim (λz=>by simp at z) id⟩|cons p r ih=>
    intro h acc;obtain⟨n,k⟩:=p;by_cases hk:k= .free
    · subst hk;obtain⟨c,hc⟩:=h (n,.free) rL rfl;obtain⟨cl,h1,h2,h3⟩:=ih (λx hx=>h x (Wm _ hx)) ((n,c)::acc);refine⟨cl,?_,λx d hd=>?_,λx hx=>?_⟩
      · rw[p5];simp only[beq_self_eq_true,if_true];have e:cellOf env n=pure c:=by unfold cellOf;rw[hc]
        rw[e];exact h1
      · grind
      · rcases hx with hx|⟨d,hd⟩
        · rcases UJ.mp hx with e|e
          · simp_all
          simp_all
        · by_cases e:x=n
          · simp_all
          · exact h3 x (.inr ⟨d,by grind⟩)
    · obtain⟨cl,h1,h2,h3⟩:=ih (λx hx=>h x (Wm _ hx)) acc
      grind
def z8{scope:Scope}{env:Env}(h:∀x∈scope.names,x.2= .free->∃c,env.cells.lookup x.1=af c):∃cl,closureFor scope env=pure cl/\(∀x c,cl.lookup x=af c->env.cells.lookup x=af c)/\∀x,(x,NameKind.free)∈scope.names->∃c,cl.lookup x=af c:=by obtain⟨cl,h1,h2,h3⟩:=z7 env scope.names h [];refine⟨cl,?_,λx c q=>(h2 x c q).elim (λz=>by simp at z) id,λx q=>h3 x (.inl q)⟩;unfold closureFor;exact(VJ (λ(t:Sem (List (Str×ay)))=>t>>=λs=>pure s) h1)
theorem vE{env:Env}:∀{names:List (Str×NameKind)}{x:Str},
  ((names.map λ(n,k)=>if(k==NameKind.free && env.scope.kind== .function && env.kindOf n==af .cell)then(n,NameKind.cell)else(n,k)).lookup x=names.lookup x)\/
  (names.lookup x=af .free/\(names.map λ(n,k)=>if(k==NameKind.free && env.scope.kind== .function && env.kindOf n==af .cell)then(n,NameKind.cell)else(n,k)).lookup x=af .cell)
 |[],_=> .inl rfl|(n,k)::r,x=>by
  have ih:= @vE env r x;simp only[U0];by_cases hc:(k==NameKind.free && env.scope.kind== .function && env.kindOf n==af .cell)=av
  ·rw[if_pos hc];simp only[uS];cases hx:x==n with|true=>lia|false=>exact ih
  ·rw[if_neg hc];simp only[uS];cases hx:x==n with|true=>exact .inl rfl|false=>exact ih
section
variable{prog:bX}{w:ck}{A:cy}{R:Result->aE->Prop}{s:aE}
theorem z9{elt target iter:br}{ifs:List br}{scope:Scope}{pos:Pos}{it acc:ai}{env:Env}(I:Nat->aE->Prop)(turn:∀n s,I n s->bg (model prog w) A (pyNext it) (λr s₁=>match r with
   |none=>R (.ok .next) s₁
   |some v=>bg (model prog w) A (letOwnedTupleGo target it v) (λ_ s₁'=>bg (model prog w) A (assign target env v) (λ_ s₂=>
     bg (model prog w) A (forIn ifs av λc r=>if r=av then do let ok ←isTrue c env (eval c env);pure (ForInStep.yield ok)else pure (ForInStep.yield r)) (λok s₃=>
      if ok=av then bg (model prog w) A (eval elt env) (λx s₄=>
       bg (model prog w) A (call (.builtin "list.append") [acc,x]) (λ_ s₅=>∃m,m<n/\I m s₅) (λ_ _=>False) s₄) (λ_ _=>False) s₃
      else ∃m,m<n/\I m s₃) (λ_ _=>False) s₂) (λ_ _=>False) s₁') (λ_ _=>False) s₁) (λ_ _=>False) s)(n:Nat)(h:I n s):
  codeAny (model prog w) A (.compLoop (.ListComp elt [⟨target,iter,ifs,0⟩] scope pos) 0 it acc env) R s:=by
 refine codeAny_loop rfl I (λn s hI=>?_) n h;show bg _ A ((compTurn (.ListComp elt [⟨target,iter,ifs,0⟩] scope pos) 0 it acc env).onRaise (λx=>do noteFrame x env;theTreesLotGoes x)) _ _ s;refine wpAny_noted ?_;rw[compTurn_list];refine My (wpAny_standAt (My (VH (turn n s hI) (λr s₁ h₁=>?_) λ_ _ h'=>h'.elim)));cases r with
 |none=>exact Uw h₁|some v=>
  refine My (VH h₁ (λ_ s₁' h₁'=>?_) λ_ _ h'=>h'.elim);refine My (VH h₁' (λ_ s₂ h₂=>My (VH h₂ (λok s₃ h₃=>?_) λ_ _ h'=>h'.elim)) λ_ _ h'=>h'.elim);cases ok with|false=>exact Uw ⟨rfl,h₃⟩|true=>exact My (My (VH h₃ (λx s₄ h₄=>My (VH h₄ (λ_ s₅ h₅=>Uw (Uw ⟨rfl,h₅⟩)) λ_ _ h'=>h'.elim)) λ_ _ h'=>h'.elim))
end
def BN(X:Cx)(scope:Scope)(cl:List (Str×ay))(C:ay)(N':List Str)(s2:aE)(H2:Hp)(ex:List ay):Cx where
 prog:=X.prog
 w:=X.w
 K:=X.K
 mg:=X.mg
 base:=X.base
 A:=X.A
 N:=N'
 s₀:=s2
 H₀:=H2
 env:=compEnvC scope cl C X.env
 outer:=X.stack
 stack:=X.stack
 ex:=ex
 fn:=λ_=>aS
 calm:=X.calm
 pn:=[]
 xe:=λ_ _=>False
structure Cs(X:Cx)(scope:Scope)(N':List Str)(n:Nat)(cap:List Nat):Prop where
 kind:scope.kind= .function
 loc:∀y∈scope.names,y.2= .local->scope.names.lookup y.1=af .local
 EH:∀y∈scope.names,y.2≠ .cell
 free:∀y∈scope.names,y.2= .free->X.env.scope.names.lookup y.1=af .cell\/X.env.scope.names.lookup y.1=af .free
 len:N'.length=n+cap.length
 at_:∀(j i:Nat)(x:Str),cap[j]?=af i->N'[n+j]?=af x->X.N[i]?=af x/\scope.names.lookup x=af .free
def EI{a b:Nat}(h1:a<b)(h2:b<=a):False:=Xr _ (Vf h1 h2)
section
variable{X:Cx}{scope:Scope}{N':List Str}{n:Nat}{cap:List Nat}{pins:List (ay×Obj)}{σ:L2.St}{H2:Hp}{s2:aE}{fp:List ay}{cl:List (Str×ay)}
def jx{names:List (Str×NameKind)}{x:Str}{k:NameKind}(h:names.lookup x=af k):(x,k)∈names:=Vv h
def Aa(cp:Cs X scope N' n cap)(I:Inv X pins σ H2 s2)(hfp:∀b∈fp,eO X pins H2 b)(hlt:∀b∈fp,b<s2.heap.objs.size)(AD:∀x c,cl.lookup x=af c->X.env.cells.lookup x=af c)(BY:∀x,(x,NameKind.free)∈scope.names->∃c,cl.lookup x=af c){C acc:ay}(hacc:s2.heap.objs.size<=acc)(hC:s2.heap.objs.size<=C)(haC:acc≠C){s4:aE}{m4:Str->Option ai}(hk:∀b o,s2.heap.get? b=af o->s4.heap.get? b=af o)(hos:s4.os=s2.os)(hg:s4.gens=s2.gens)(hns:s4.heap.Ns C m4):
  Inv (BN X scope cl C N' s2 H2 (acc::fp)) [] (bE n ah++cap.map λi=>(σ[i]?).join) H2 s4:=by
 have HG:∀x c,X.env.cells.lookup x=af c->c<s2.heap.objs.size:=λx c e=>by obtain⟨v,q⟩:=I.cell x c e;exact q.lt
 have LJ:∀b∈acc::fp,∀o,X.base.get? b=af o->False:=λb hb o e=>by
  have hlt':b<X.base.objs.size:=U4 e;have h1:=I.ok.ET;have h2:=I.sz;rcases UJ.mp hb with rfl|hb
  ·exact EI hlt' (Vp h1 (Vp h2 hacc))
  ·obtain⟨_,_,_,z,_⟩:=hfp b hb;rcases z with z|z
   ·exact I.ok.DO b o e z
   ·exact EI hlt' (Vp h1 z)
 refine⟨⟨I.ok.mod,?kind,I.ok.glob,I.ok.blt,hC,?inj,?has,?cab,I.ok.hd,I.ok.frames,.inl rfl,?KP,I.bs,Vp I.ok.ET I.sz,λb o e z=>LJ b z o e,?CI,I.stack,I.BQ⟩,
  hos,by rw[hg];exact I.bare,Un.kept hk,?loc,?cell,I.hok.fresh hC,λx c e=>I.rV x c (AD x c e),λp hp=>absurd (show p∈([]:List (ay×Obj))from hp) (by simp),I.hok.kept hk,?len⟩
 case kind=>show scope.kind= .function;exact cp.kind
 case inj=>exact λx y c h1 h2=>I.ok.inj x y c (AD x c h1) (AD y c h2)
 case has=>
  intro x hx;have hx:(relabel scope X.env).names.lookup x=af .cell\/(relabel scope X.env).names.lookup x=af .free:=hx;rcases vE (env:=X.env) (names:=scope.names) (x:=x)with e|⟨e,_⟩
  ·rw[show(relabel scope X.env).names.lookup x=scope.names.lookup x from e]at hx;rcases hx with hx|hx
   ·exact absurd rfl (cp.EH _ (jx hx))
   ·exact BY x (jx hx)
  ·exact BY x (jx e)
 case cab=>intro x c h;exact absurd h (by simp[BN])
 case KP=>
  intro b hb;rcases UJ.mp hb with rfl|hb
  ·refine⟨haC,λx c e z=>?_⟩;have h:=HG x c (AD x c e);rw[z]at h;exact EI h hacc
  ·refine⟨λz=>?_,λx c e=>(hfp b hb).2.2.2.2.1 x c (AD x c e)⟩;have h:=hlt b hb;have z':b=C:=z;rw[z']at h;exact EI h hC
 case CI=>
  intro b hb z;rcases UJ.mp (I.AS b z)with e|e
  ·rcases UJ.mp hb with rfl|hb
   ·have h:=I.lt;rw[←e]at h;exact EI h hacc
   ·exact(hfp b hb).2.1 e
  ·rcases UJ.mp hb with rfl|hb
   ·exact I.GN hacc e
   ·exact(hfp b hb).2.2.1 e
 case loc=>
  refine⟨m4,hns,λi x v e1 e2 e3=>?_⟩;have e1:N'[i]?=af x:=e1;by_cases hi:i<n
  ·rw[UV (by simpa using hi),WM]at e2;lia
  ·have hin:n<=i:=kq hi;rw[Vl (by simpa using hin),Xp,Vw]at e2;cases ej:cap[i - n]? with
   |none=>simp_all|some k=>
    rw[ej]at e2;have e2:(σ[k]?).join=af v:=by simpa using e2
    have ek:σ[k]?=af (af v):=by
     cases q:σ[k]? with|none=>simp_all|some o=>simp_all
    obtain⟨hN,hf⟩:=cp.at_ (i - n) k x ej (by simp_all);obtain⟨m,hn,hl⟩:=I.loc;have ho:=cp.free _ (jx hf) rfl;have vis:KO X.env.scope x:=by rcases ho with z|z;exact .inr (.inl z);exact .inr (.inr z)
    obtain⟨u,ru,lk⟩:=hl k x v hN ek vis;refine⟨u,ru,.inr ?_⟩;obtain⟨c,hc,hcell⟩:∃c,X.env.cells.lookup x=af c/\s2.heap.IsCell c (af u):=by
     rcases lk with⟨kl,_⟩|⟨_,z⟩
     ·have kl:X.env.scope.names.lookup x=af .local:=kl;lia
     ·exact z
    obtain⟨c',hc'⟩:=BY x (jx hf);have e:=AD x c' hc';rw[hc]at e;have e:c=c':=by simpa using e
    subst e;refine⟨?_,c,hc',?_⟩
    ·show(relabel scope X.env).names.lookup x=af .cell\/(relabel scope X.env).names.lookup x=af .free;rcases vE (env:=X.env) (names:=scope.names) (x:=x)with e|⟨_,e⟩
     ·exact .inr (e.trans hf)
     ·exact .inl e
    ·obtain⟨o,h1,h2⟩:=hcell;exact⟨o,hk _ _ h1,h2⟩
 case cell=>intro x c e;obtain⟨v,o,h1,h2⟩:=I.cell x c (AD x c e);exact⟨v,o,hk _ _ h1,h2⟩
 case len=>show _=N'.length;rw[Vh,Xp,UG,cp.len]
def Hh{acc:ay}{C:ay}{LL:List (ay×Obj)}{σ1:L2.St}{H1:Hp}{s':aE}{xs:List V}{its:List ai}{e:Nat}(I:Inv X pins σ H2 s2)(hfp:∀b∈fp,eO X pins H2 b)(J:Inv (BN X scope cl C N' s2 H2 (acc::fp)) LL σ1 H1 s')(hacc:s2.heap.objs.size<=acc)(hn:H1 acc=ah)(ho:s'.heap.get? acc=af {cls:= .type "list",data:= .seq its.toArray e})(rv:Vals xs its)(hz:xs.length<=aT):
  Inv X pins σ (upd H1 acc (.lst xs)) s':=by
 have u:Un (frs X.stack) (acc::fp) H2 H1 s2.heap s'.heap:=J.base;have h2:H2 acc=none:=I.hok.fresh hacc;have u':Un (frs X.stack) (acc::fp) H2 (upd H1 acc (.lst xs)) s2.heap s'.heap:=by
  refine⟨u.keep,u.slot,λb o q nb hb=>?_,u.there,λb ys q=>?_,λb o z q=>?_,λb ps q=>?_⟩
  ·rw[aB λz=>hb (by simp_all)];exact u.free b o q nb hb
  ·rw[aB (aU q h2)];exact u.tups b ys q
  ·rw[aB (aU q h2)];exact u.qk b o z q
  ·rw[aB (aU q h2)];exact u.AR b ps q
 have hok:zC X.prog X.w (upd H1 acc (.lst xs)) s'.heap:=by
  intro b o hb;by_cases hba:b=acc
  ·subst hba;rw[bj]at hb;have eo:HO.lst xs=o:=by simpa using hb
   subst eo;exact⟨hz,its,e,rv,ho⟩
  ·rw[aB hba]at hb;refine(J.hok b o hb).stay (λ_ _ _ q=>q) (λc q=>?_) λc ys q=>?_
   ·rw[aB (aU q hn)];exact q
   ·rw[aB (aU q hn)];exact q
 refine I.F4 (ch:=acc::fp) J.os u' hok J.bare λb hb=>?_;rcases UJ.mp hb with rfl|hb
 ·refine⟨.inr (Vp I.sz hacc),VP (Vf I.lt hacc),λx c q z=>?_,λp hp z=>?_⟩
  ·obtain⟨v,q'⟩:=I.cell x c q;have h:=q'.lt;rw[z]at h;exact EI h hacc
  ·have h:=U4 (I.pin p hp).1;rw[z]at h;exact EI h hacc
 ·obtain⟨f0,f1,f2,f3,f4,f5⟩:=hfp b hb;exact⟨f3,f1,f4,f5⟩
end
abbrev uX(ifs:List br)(env:Env):Sem Bool:=forIn ifs av λc r=>if r=av then do let ok ←isTrue c env (eval c env);pure (ForInStep.yield ok)else pure (ForInStep.yield r)
def UP(X:Cx)(ifs:List br)(t:TT):Prop:=
 ∀(pins:List (ay×Obj))(s:aE)(σ:L2.St)(H:Hp)(Q:Bool->Hp->Prop),Inv X pins σ H s->t σ H Q->bg (model X.prog X.w) X.A (uX ifs X.env) (TP X pins σ Q) X.xe s
abbrev E0(X:Cx)(cl:Nat->List D->bq->Ev D)(ifs:List br)(ts:List T):Prop:=UP X ifs (tM X rB (bz cl ts))
section
variable{X:Cx}{cl:Nat->List D->bq->Ev D}
theorem oN{A:cy}{E:ai->aE->Prop}{env:Env}{Q:Bool->aE->Prop}{M:Model}:∀(ifs:List br)(s:aE),Q aS s->
  bg M A (forIn ifs aS λc r=>if r=av then do let ok ←isTrue c env (eval c env);pure (ForInStep.yield ok)else pure (ForInStep.yield r)) Q E s
 |[],s,h=>Uw h|c::r,s,h=>by rw[p5];simp only[Vq,VR];exact My (Uw (oN r s h))
def KY:E0 X cl [] []:=by intro pins s σ H Q I h;refine bW h λm r S er sr h=>?_;exact Uw ⟨H,I,tO.fin (v:=av) (h:tO X rB (fz av S) m r H Q) sr rfl⟩
def Hi{c:br}{cs:List br}{t:T}{ts:List T}(hc:JT X cl c t)(hr:E0 X cl cs ts):E0 X cl (c::cs) (t::ts):=by
 intro pins s σ H Q I h;refine bW h λm r S er sr h=>?_;have h:tO X rB (bnd (bu cl t r S) λb S2=>if b then bz cl ts r S2 else fz aS S2) m r H Q:=h;unfold uX;rw[p5];simp only[if_true];refine My (My (ja (hc pins s σ H _ I ⟨m,r,S,er,sr,h.bnd⟩) λb s1 zz=>?_));obtain⟨H1,I1,m1,x,S1,st1,fh,rx,h1⟩:=zz;have rx:x=b:=rx;subst rx;refine Uw ?_;cases x with|true=>exact hr pins s1 σ H1 Q I1 ⟨m1,r,S1,er.step st1,fh,h1⟩|false=>exact oN cs s1 ⟨H1,I1,tO.fin (v:=aS) (h1:tO X rB (fz aS S1) m1 r H1 Q) fh rfl⟩
end
theorem uY{α:Type}{x:Ev α}{a:α}{S:bq}(h:iQ x=af (.ok a S)):x=af (.ok a S):=by
 cases x with
 |none=>cases h|some o=>cases o with|ok b S'=>exact h|exc c S'=>cases h
theorem xY{α β:Type}{x:Ev α}{f:α->bq->Ev β}{b:β}{S:bq}(h:bnd x f=af (.ok b S)):∃a S1,x=af (.ok a S1)/\f a S1=af (.ok b S):=by
 cases x with
 |none=>cases h|some o=>cases o with|ok a S1=>exact⟨a,S1,rfl,h⟩|exc c S1=>cases h
theorem sZ{f:aC->bq->Ev D}{g:aC->bq->Ev Bool}{tg:Tg}{d:D}{ds:List D}{r:aC}{S:bq}{acc es:List D}{S3:bq}(h:compLoop f g tg (d::ds) r S acc=af (.ok es S3)):
  ∃r' b S1,cz tg d r=af r'/\g r' S=af (.ok b S1)/\((b=aS/\compLoop f g tg ds r' S1 acc=af (.ok es S3))\/(b=av/\∃x S2,f r' S1=af (.ok x S2)/\compLoop f g tg ds r' S2 (acc++ [x])=af (.ok es S3))):=by
 simp only[compLoop]at h;cases e:cz tg d r with
 |none=>simp_all|some r'=>
  rw[e]at h;obtain⟨b,S1,h1,h2⟩:=xY h;refine⟨r',b,S1,rfl,uY h1,?_⟩;cases b with
  |false=>exact .inl ⟨rfl,by simpa using h2⟩|true=>
   have h2:bnd (iQ (f r' S1)) (λx S2=>compLoop f g tg ds r' S2 (acc++ [x]))=af (.ok es S3):=by simpa using h2
   obtain⟨x,S2,h3,h4⟩:=xY h2;exact .inr ⟨rfl,x,S2,uY h3,h4⟩
theorem pB{f:aC->bq->Ev D}{g:aC->bq->Ev Bool}{tg:Tg}:∀{ds:List D}{r:aC}{S:bq}{acc es:List D}{S3:bq},compLoop f g tg ds r S acc=af (.ok es S3)->acc.length<=es.length
 |[],r,S,acc,es,S3,h=>by simp only[compLoop,fz]at h;lia|d::ds,r,S,acc,es,S3,h=>by
  obtain⟨r',b,S1,_,_,h⟩:=sZ h;rcases h with⟨_,h⟩|⟨_,x,S2,_,h⟩
  ·exact pB h
  ·have:=pB h;rw[Vh,Wu]at this;lia
section
variable{X:Cx}{cl:Nat->List D->bq->Ev D}{scope:Scope}{N':List Str}{n:Nat}{cap:List Nat}{pins:List (ay×Obj)}{σ:L2.St}{H2:Hp}{s2:aE}{fp:List ay}{tg iter elt:br}{ifs:List br}{pos:Pos}{J:L2.It}{it:ay}{tn:Nat->cK->Prop}{tt:Tg}{elt':E}{ifs':List T}{m2:List ay}{r:aC}{S2 S3:bq}{ds es:List D}
def qu{E:ai->aE->Prop}{P:bq->Prop}{f:aC->bq->Ev D}{g:aC->bq->Ev Bool}(UQ:∀r S o,f r S=af o->ak cl elt' r S=af o)(hg0:∀r S o,g r S=af o->bz cl ifs' r S=af o/\P S)(hP:P S3)(cp:Cs X scope N' n cap)(hc:X.calm=av)(I:Inv X pins σ H2 s2)(Tn:Turn X.prog X.w X.K tg J fp it tn)(st0:tn 0 s2.heap)(hfp:∀b∈fp,eO X pins H2 b)(Y:∀m' H' S',fq m2 m' H2 H'->cS X.K m' S' H'->P S'->J.stop ds.length H'/\∀(i:Nat)(d:D),ds[i]?=af d->
   J.go i H'/\∀x CY,J.MM i H' x CY->fq m' m' H' CY/\(∀a∈m',CY a=H' a)/\RD X.K m' CY d x)(er:gp X.K m2 H2 r σ)(sr:cS X.K m2 S2 H2)(DH:compLoop f g tt ds (fM r n cap) S2 []=af (.ok es S3))(hz:es.length<=aT)(hin:∀(c:List (Str×ay))(C:ay)(ex:List ay),JG (BN X scope c C N' s2 H2 ex) tg tt/\E0 (BN X scope c C N' s2 H2 ex) cl ifs ifs'/\JE (BN X scope c C N' s2 H2 ex) cl elt elt'){RR:ai->ay->Result->aE->Prop}(hRR:∀(acc C:ay)(s':aE)(m':List ay)(H':Hp)(xs:List V)(mC:Str->Option ai),Inv X pins σ (upd H' acc (.lst xs)) s'->eO X pins (upd H' acc (.lst xs)) C->s'.heap.Ns C mC->fq m2 m' H2 H'->cS X.K m' S3 H'->fR X.K m' H' es xs->H' acc=ah->RR (.ref acc) C (.ok .next) s'){oj:List (Str×ay)}(AD:∀x c,oj.lookup x=af c->X.env.cells.lookup x=af c)(BY:∀x,(x,NameKind.free)∈scope.names->∃c,oj.lookup x=af c):
  bg (model X.prog X.w) X.A (newList []) (λacc s₃=>bg (model X.prog X.w) X.A (newFunctionEnv scope X.env.globals oj [] X.env.qual ah .none (af X.env)) (λcenv s₄=>
   codeAny (model X.prog X.w) X.A (.compStart (.ListComp elt [⟨tg,iter,ifs,0⟩] scope pos) 0 (.ref it) acc {cenv with scope:=relabel scope X.env}) (RR acc cenv.locals) s₄) E s₃) E s2:=by
 have hlt:∀b∈fp,b<s2.heap.objs.size:=λb hb=>by obtain⟨o,e,_⟩:=Tn.obj 0 _ st0 b hb;exact U4 e
 refine VF (wpAny_newFunctionEnv cp.EH (by simp) (λh₁ hns₁ hsb₁=>?_) cp.kind);dsimp only at hns₁ hsb₁ ⊢;generalize hH2:s2.heap.push {cls:= .type "list",dict:=ah,data:= .seq ([]:List ai).toArray}=G at hns₁ hsb₁ ⊢;have RI:G.objs.size=s2.heap.objs.size+1:=by rw[←hH2,Xm]
 have hC:s2.heap.objs.size<=G.objs.size:=by rw[RI];exact Wt _
 have haC:s2.heap.objs.size≠G.objs.size:=by rw[RI];exact Vb (n9 _)
 have old:∀b o,s2.heap.get? b=af o->h₁.get? b=af o:=λb o e=>by have hb:b≠G.objs.size:=λz=>EI (U4 e) (by rw[z];exact hC);exact hsb₁.extBut b o hb (Uv _ (hH2▸Uv _ e))
 have hacc:h₁.get? s2.heap.objs.size=af {cls:= .type "list",data:= .seq ([]:List ai).toArray}:=hsb₁.extBut _ _ haC (Uv _ (hH2▸UW _ rfl));generalize hA:s2.heap.objs.size=acc at haC hacc hC ⊢;generalize X7:G.objs.size=C at hns₁ haC hC ⊢;have hacc':s2.heap.objs.size<=acc:=by rw[hA];exact Uz _
 have hC':s2.heap.objs.size<=C:=by rw[hA];exact hC
 have start:=Aa (cl:=oj) cp I hfp hlt AD BY hacc' hC' haC (s4:={s2 with heap:=h₁,toks:=s2.toks+([]:List (Str×ai)).length}) old rfl rfl hns₁;obtain⟨hG,hIf,hE⟩:=hin oj C (acc::fp);generalize hX':BN X scope oj C N' s2 H2 (acc::fp)=X' at start hG hIf hE;have eP:X'.prog=X.prog:=by rw[←hX'];rfl
 have eW:X'.w=X.w:=by rw[←hX'];rfl
 have eK:X'.K=X.K:=by rw[←hX'];rfl
 have eA:X'.A=X.A:=by rw[←hX'];rfl
 have eN:X'.env=compEnvC scope oj C X.env:=by rw[←hX'];rfl
 have eX:X'.xe=λ_ _=>False:=by rw[←hX'];rfl
 have eF:X'.fs=frs X.stack:=by rw[←hX'];rfl
 have eE:X'.ex=acc::fp:=by rw[←hX'];rfl
 have UR:X'.pn=[]:=by rw[←hX'];rfl
 have eC:X'.calm=true:=by rw[←hX'];exact hc
 have hL:X'.env.locals=C:=by rw[eN];rfl
 have OB:acc∉X'.fs:=λz=>by
  rw[eF]at z;rcases UJ.mp (I.AS acc z)with e|e
  ·have h:=I.lt
   simp_all
  ·exact I.GN hacc' e
 have HK:∀{H:Hp}{s:aE}{o:Obj},s.heap.get? acc=af o->H acc=ah->(∀v,o.data≠ .cell v)->∀p∈ [(acc,o)],s.heap.get? p.1=af p.2/\H p.1=ah/\p.1≠X'.env.locals/\p.1∉X'.fs/\∀v,p.2.data≠ .cell v:=λ{H s o} e hn hd p hp=>by
  have ep:p=(acc,o):=by simpa using hp
  subst ep;exact⟨e,hn,by rw[hL];exact haC,OB,hd⟩
 have OE:∀{H:Hp}{o:Obj},(∀b∈fp,H b=ah)->∀b∈fp,eO X' [(acc,o)] H b:=λ{H o} hn b hb=>by
  obtain⟨_,f1,f2,f3,f4,f5⟩:=hfp b hb;refine⟨hn b hb,λz=>?_,λz=>?_,.inl (by simp_all),λx c e=>?_,λp hp z=>?_⟩
  ·have h:=hlt b hb;rw[z,hL]at h;exact EI h hC'
  ·rw[eF]at z;rcases UJ.mp (I.AS b z)with e|e
   ·exact f1 e
   ·exact f2 e
  ·rw[eN]at e;exact f4 x c (AD x c e)
  ·rw[UR]at hp;have ep:p=(acc,o):=by simpa using hp
   subst ep;have h:=hlt b hb
   simp_all
 have RO:Turn X'.prog X'.w X'.K tg J fp it tn:=by rw[eP,eW,eK];exact Tn
 let Iv:Nat->aE->Prop:=λk s=>∃(i e:Nat)(m1:List ay)(S1:bq)(H1:Hp)(r1:aC)(σ1:L2.St)(xs:List V)(es1:List D)(its:List ai),
  k=ds.length - i/\i<=ds.length/\Inv X' [(acc,{cls:= .type "list",data:= .seq its.toArray e})] σ1 H1 s/\tn i s.heap/\(∀b∈fp,H1 b=ah)/\Vals xs its/\fR X.K m1 H1 es1 xs/\
  fq m2 m1 H2 H1/\gp X.K m1 H1 r1 σ1/\cS X.K m1 S1 H1/\compLoop f g tt (ds.drop i) r1 S1 es1=af (.ok es S3)
 have loop:codeAny (model X.prog X.w) X.A (.compLoop (.ListComp elt [⟨tg,iter,ifs,0⟩] scope pos) 0 (.ref it) (.ref acc) (compEnvC scope oj C X.env)) (RR (.ref acc) C) {s2 with heap:=h₁,toks:=s2.toks+([]:List (Str×ai)).length}:=by
  refine z9 Iv ?_ ds.length ⟨0,0,m2,S2,H2,fM r n cap,_,[],[],[],by simp,Wx _,start.x6 (HK hacc (I.hok.fresh hacc') (λv z=>by cases z)),Tn.keep 0 _ _ st0 λb hb o e=>old b o e,λb hb=>(hfp b hb).1,.nil,.nil,fq.refl _ _,?_,sr,by grind⟩
  ·rintro k s ⟨i,e,m1,S1,H1,r1,σ1,xs,es1,its,rfl,hi,Ix,st,fr,rv,rs,st1,DU,fh,hl⟩;obtain⟨X8,Yb,Yc,Yd,Ye⟩:=Ix.pin (acc,{cls:= .type "list",data:= .seq its.toArray e}) (by simp);by_cases hlt':i<ds.length
   ·have ed:ds[i]?=af ds[i]:=Vc hlt';have HA:ds.drop i=ds[i]::ds.drop (i+1):=Wk hlt';rw[HA]at hl;obtain⟨r2,b,Sb,OF,US,hrest⟩:=sZ hl;obtain⟨hg,UU⟩:=hg0 _ _ _ US;obtain⟨go,yl⟩:=(Y m1 H1 S1 st1 fh UU).2 i _ ed;have item:=RO.item X' rfl rfl rfl eC i _ s σ1 H1 (λ_ _=>False) Ix (OE fr) st go;rw[eP,eW,eA]at item;refine ja item λrr sA zz=>?_;obtain⟨u,FA,hA'⟩:=zz;subst FA;refine ja hA' λ_ sB zz=>?_;obtain⟨x,HB,IB,ru,yy,OG,frB⟩:=zz;obtain⟨stp,same,rx⟩:=yl x HB yy;have Yg:=fh.keep stp same;have Yh:=DU.step stp;have UX:=IB.pinned (OE frB) (Tn.obj _ _ OG);have hg1:=hG _ sB σ1 HB x u (λσ2 H'=>H'=HB/\gp X.K m1 HB r2 σ2) UX ru ⟨m1,r1,ds[i],r2,by lia,by rw[eK];exact rx,OF,λσ2 B8=>⟨rfl,by lia⟩⟩;rw[eP,eW,eA,eN,eX]at hg1;refine ja hg1 λ_ sC zz=>?_;obtain⟨σ2,HC,IC,e1,B8⟩:=zz;subst e1;have ht1:=hIf _ sC σ2 HC (λv H'=>v=b/\∃m',fq m1 m' HC H'/\cS X.K m' Sb H') IC ⟨m1,r2,S1,by lia,by lia,by
     rw[hg];exact λm' H' v st sr rd=>⟨(show b=v from rd).symm,m',st,by lia⟩⟩
    rw[eP,eW,eA,eN,eX]at ht1;refine ja ht1 λbb sD zz=>?_;obtain⟨HD,ID,eb,mD,HL,UY⟩:=zz;subst eb;have EJ:∀{H:Hp}{s:aE}{σ:L2.St},Inv X' ([(acc,{cls:= .type "list",data:= .seq its.toArray e})]++jU fp sB.heap) σ H s->tn (i+1) s.heap/\∀b∈fp,H b=none:=λ{H s σ} Iz=>by refine⟨Tn.keep _ _ _ OG λc hc' o eo=>(Iz.pin (c,o) (Vi _ (Vi _ (jg hc' eo)))).1,λc hc'=>?_⟩;obtain⟨o,eo,_⟩:=Tn.obj _ _ OG c hc';exact(Iz.pin (c,o) (Vi _ (Vi _ (jg hc' eo)))).2.1
    have F8:∀{H:Hp}{s:aE}{σ:L2.St},Inv X' ([(acc,{cls:= .type "list",data:= .seq its.toArray e})]++jU fp sB.heap) σ H s->s.heap.get? acc=af {cls:= .type "list",data:= .seq its.toArray e}/\H acc=none:=λ{H s σ} Iz=>by have q:=Iz.pin (acc,{cls:= .type "list",data:= .seq its.toArray e}) (Vi _ (Wn _ (VM.mpr rfl)));exact⟨q.1,q.2.1⟩
    rcases hrest with⟨rfl,hl2⟩|⟨rfl,dx,Sx,hx,hl2⟩
    ·rw[if_neg (by simp)];obtain⟨k1,k2⟩:=EJ ID;obtain⟨a1,a2⟩:=F8 ID;refine⟨ds.length - (i+1),by lia,i+1,e,mD,Sb,HD,r2,σ2,xs,es1,its,rfl,hlt',ID.x6 (HK a1 a2 (λv z=>by cases z)),k1,k2,rv,(rs.step (stp.trans HL)),(st1.trans stp).trans HL,B8.step HL,UY,hl2⟩
    ·rw[if_pos rfl];have F9:=hE _ sD σ2 HD (λv H'=>∃m',fq mD m' HD H'/\cS X.K m' Sx H'/\RD X.K m' H' dx v) ID ⟨mD,r2,Sb,by rw[eK];exact B8.step HL,by lia,by
      rw[show ak cl elt' r2 Sb=af (.ok dx Sx)from UQ _ _ _ hx];exact λm' H' v st sr rd=>⟨m',st,by lia,by lia⟩⟩
     rw[eP,eW,eA,eN,eX]at F9;refine ja F9 λuv sE zz=>?_;obtain⟨y,HE,IE,ry,mE,stE,UZ,U1⟩:=zz;obtain⟨k1,k2⟩:=EJ IE;obtain⟨a1,a2⟩:=F8 IE;have hsz:its.length<sizeLine:=by have:=pB hl2;rw[Vh,Wu,rs.length,rv.length]at this;lia
     refine call_meets F.slot_list_append ⟨_,a1,rfl⟩ F.entry_list_append (F.args_list_append_2 _ _) (r8 acc its.toArray e uv (by rw[Vr];lia)) ⟨a1,?_⟩;have q:=tP a1 (λl=>l.push uv);have eq:(its.toArray.push uv)=(its++ [uv]).toArray:=by simp
     rw[eq]at q;have kb:∀b o,b≠acc->sE.heap.get? b=af o->(sE.heap.update acc (Obj.mapSeq λl=>l.push uv)).get? b=af o:=λb o hb eo=>(Ve _ _ (Ne.symm hb)).trans eo;have U':Inv X' [] σ2 HE sE:=IE.x6 λp hp=>absurd hp (by simp);have IF:Inv X' [] σ2 HE {sE with heap:=sE.heap.update acc (Obj.mapSeq λl=>l.push uv),toks:=sE.toks}:=U'.turned (it:=acc) kb a2 (by rw[hL];exact haC) (.inl (by grind)) (λx c ec z=>by
      rw[eN]at ec;obtain⟨v,qc⟩:=I.cell x c (AD x c ec);have h:=qc.lt;rw[z]at h;exact EI h hacc') (λp hp=>by grind)
     refine⟨ds.length - (i+1),by lia,i+1,_,mE,Sx,HE,r2,σ2,xs++ [y],es1++ [dx],its++ [uv],rfl,hlt',IF.x6 (HK q a2 (λv z=>by cases z)),?_,k2,rv.append (.cons ry .nil),(rs.step ((stp.trans HL).trans stE)).append (.cons U1 .nil),((st1.trans stp).trans HL).trans stE,(B8.step HL).step stE,UZ,hl2⟩;exact Tn.keep _ _ _ k1 λb hb o eo=>kb b o (λz=>EI (hlt b hb) (by rw[z];exact hacc')) eo
   ·have ei:i=ds.length:=by lia
    subst ei;rw[kg]at hl;simp only[compLoop,fz]at hl;injection hl with hl
    injection hl with hl1 hl2
    subst hl1 hl2;have EG:=(Y m1 H1 _ st1 fh hP).1;have done:=RO.done X' rfl rfl rfl eC ds.length _ s σ1 H1 (λ_ _=>False) Ix (OE fr) st EG;rw[eP,eW,eA]at done;refine ja done λrr sA zz=>?_;obtain⟨e1,IA⟩:=zz;subst e1;obtain⟨VA,RS,_⟩:=IA.pin (acc,{cls:= .type "list",data:= .seq its.toArray e}) (by simp);obtain⟨mC,hnC,_⟩:=id IA.loc;rw[hL]at hnC;have VC:H1 C=none:=by have:=IA.free;rw[hL]at this;exact this
    have fin:Inv X pins σ (upd H1 acc (.lst xs)) sA:=by have RU:=IA;rw[←hX']at RU;exact Hh I hfp RU hacc' RS VA rv (by rw[←rs.length];exact hz)
    refine hRR acc C sA m1 H1 xs mC fin ?_ hnC st1 fh rs RS;refine I.BS hC' ?_;rw[aB (Ne.symm haC)];exact VC
  ·refine⟨?_,λi d hd=>?_⟩
   ·unfold fM;simp
   ·unfold fM at hd;by_cases hi:i<n
    ·rw[UV (by simpa using hi),WM]at hd;lia
    ·have LM:n<=i:=kq hi;rw[Vl (by simpa using LM),Xp,Vw]at hd;rw[Vl (by simpa using LM),Xp,Vw];cases ej:cap[i - n]? with
     |none=>simp_all|some k=>
      rw[ej]at hd;have hd:(r[k]?).join=af d:=by simpa using hd
      have ek:r[k]?=af (af d):=by
       cases q:r[k]? with|none=>simp_all|some o=>simp_all
      obtain⟨v,h1,h2⟩:=er.get k d ek
      simp_all
 have OH:tn 0 ({s2 with heap:=h₁,toks:=s2.toks+([]:List (Str×ai)).length}:aE).heap:=Tn.keep 0 _ _ st0 λb hb o e=>old b o e;exact codeAny_compStart_list loop (Tn.self _ 0 _ _ _ OH loop)
end
theorem jj{f:aC->bq->Ev D}{g:aC->bq->Ev Bool}{tg:Tg}:∀{ds:List D}{r:aC}{S:bq}{acc:List D}{c:Str}{S3:bq},compLoop f g tg ds r S acc≠af (.exc c S3)
 |[],r,S,acc,c,S3,h=>by simp only[compLoop,fz]at h;lia|d::ds,r,S,acc,c,S3,h=>by
  simp only[compLoop]at h;cases e:cz tg d r with
  |none=>simp_all|some r'=>
   rw[e]at h;simp only at h;cases e1:iQ (g r' S)with
   |none=>simp_all|some o=>
    cases o with
    |exc c' S'=>
     cases q:g r' S with|none=>rw[q]at e1;cases e1|some o'=>rw[q]at e1;cases o'<;>cases e1
    |ok b S1=>
     rw[e1,aN]at h;cases b with
     |false=>exact jj (by simpa using h)|true=>
      have h:bnd (iQ (f r' S1)) (λx S2=>compLoop f g tg ds r' S2 (acc++ [x]))=af (.exc c S3):=by simpa using h
      cases e2:iQ (f r' S1)with
      |none=>simp_all|some o2=>
       cases o2 with
       |exc c' S'=>
        cases q:f r' S1 with|none=>rw[q]at e2;cases e2|some o'=>rw[q]at e2;cases o'<;>cases e2
       |ok x S2=>rw[e2,aN]at h;exact jj h
section
variable{X:Cx}{cl:Nat->List D->bq->Ev D}{scope:Scope}{N':List Str}{n:Nat}{cap:List Nat}{tg iter elt:br}{ifs:List br}{pos spos:Pos}{tt:Tg}{it':It}{elt':E}{ifs':List T}{mu:Bool}
def s8{pins:List (ay×Obj)}{σ:L2.St}{H:Hp}{s:aE}(cp:Cs X scope N' n cap)(I:Inv X pins σ H s):∃oj,closureFor scope X.env=pure oj/\(∀x c,oj.lookup x=af c->X.env.cells.lookup x=af c)/\∀x,(x,NameKind.free)∈scope.names->∃c,oj.lookup x=af c:=
 z8 λx hx hf=>I.ok.has x.1 (cp.free x hx hf)
def Dz(X:Cx)(cl:Nat->List D->bq->Ev D)(tt:Tg)(elt':E)(ifs':List T)(n:Nat)(cap:List Nat)(σ:L2.St)(K:List D->bq->List ay->aC->Hp->Prop):L2.It->Hp->Prop:=λJ H2=>∃m2 r ds S2 es S3,gp X.K m2 H2 r σ/\cS X.K m2 S2 H2/\jw X m2 H2 ds J/\compLoop (λr S=>ak cl elt' r S) (λr S=>bz cl ifs' r S) tt ds (fM r n cap) S2 []=af (.ok es S3)/\es.length<=aT/\K es S3 m2 r H2
def xZ{mu:Bool}{es:List D}{S:bq}{m:List ay}{r:aC}{H:Hp}{Q:VK}(h:tO X (rD X) (A3 mu es S) m r H Q):es.length<=sizeLine:=by
 unfold A3 at h;by_cases hz:es.length<=aT
 ·exact hz
 ·rw[if_neg hz]at h;exact h.elim
def yc(cp:Cs X scope N' n cap)(hc:X.calm=av)(hi:JI X cl tg iter it')(hs:∀x,foldedSetIterable iter X.env x=pure x)(hin:∀(s2:aE)(H2:Hp)(c:List (Str×ay))(C:ay)(ex:List ay),JG (BN X scope c C N' s2 H2 ex) tg tt/\E0 (BN X scope c C N' s2 H2 ex) cl ifs ifs'/\JE (BN X scope c C N' s2 H2 ex) cl elt elt'):
  JE X cl (.ListComp elt [⟨tg,iter,ifs,0⟩] scope pos) (.comp mu elt' tt it' ifs' n cap):=by
 intro pins s σ H Q I h;refine bW h λm r S er sr h=>?_;have h:tO X (rD X) (bnd (bM cl it' r S) λds S1=>bnd (compLoop (λr S=>ak cl elt' r S) (λr S=>bz cl ifs' r S) tt ds (fM r n cap) S1 []) λes S2=>A3 mu es S2) m r H Q:=h;obtain⟨oj,hclos,AD,BY⟩:=s8 cp I;rw[eval_ListComp];have hit:=hi pins s σ H (Dz X cl tt elt' ifs' n cap σ λes S3 m2 r H2=>tO X (rD X) (A3 mu es S3) m2 r H2 Q) I ⟨m,r,S,er,sr,h.bnd.mono λJ H2 z=>aR z λm2 ds S2 st2 ow Y h2=>by
  cases e:compLoop (λr S=>ak cl elt' r S) (λr S=>bz cl ifs' r S) tt ds (fM r n cap) S2 []with
  |none=>rw[e]at h2;exact h2.elim|some o=>
   cases o with
   |exc c S'=>exact absurd e jj|ok es S3=>
    rw[e,aN]at h2;exact⟨m2,r,ds,S2,es,S3,er.step st2,ow,Y,e,xZ h2,h2⟩⟩
 refine wpAny_comprehension_free (use:=ah) rfl hs hclos cp.kind cp.loc (ja hit λv s1 h1=>ja h1 λitv s2 h2=>?_);obtain⟨it,fp,tn,J,H2,e,I2,Tn,st0,hfp,m2,r2,ds,S2,es,S3,B8,ow,Y,DH,hz,hfin⟩:=h2;subst e;refine qu (RR:=λacc C=>compPost (model X.prog X.w) X.A X.xe ah (EP X pins σ Q) acc C) (P:=λ_=>True) (λ_ _ _ h=>h) (λ_ _ _ h=>⟨h,trivial⟩) trivial cp hc I2 Tn st0 hfp (λm' H' S' st sr _=>Y m' H' st λa ha=>sr.there ha) B8 ow DH hz (hin s2 H2) (λacc C s' m' H' xs mC Iz fC hn st AA rs ha=>?_) AD BY;obtain⟨f0,f1,f2,f3,f4,f5⟩:=fC;refine⟨mC,hn,λh' hsb=>⟨.ref acc,upd H' acc (.lst xs),Iz.turned (t':=s'.toks) (it:=C) (λb o hb e=>(hsb.2 b hb).trans e) f0 f1 f3 f4 f5,rfl,?_⟩⟩;exact(dO AA rs (hfin.step st)).2 acc ha
def KZ{y:Str}{py:Pos}{i:Nat}(cp:Cs X scope N' n cap)(hc:X.calm=av)(hi:JI X cl tg iter it')(hs:∀x,foldedSetIterable iter X.env x=pure x)(hin:∀(s2:aE)(H2:Hp)(c:List (Str×ay))(C:ay)(ex:List ay),JG (BN X scope c C N' s2 H2 ex) tg tt/\E0 (BN X scope c C N' s2 H2 ex) cl ifs ifs'/\JE (BN X scope c C N' s2 H2 ex) cl elt elt')(hsw:swapsWith (.ListComp elt [⟨tg,iter,ifs,0⟩] scope pos) (af (.Name y py)) spos.line X.env=pure av)(hg:JG X (.Name y py) (.name i)):
  JS X cl (.Assign [.Name y py] (.ListComp elt [⟨tg,iter,ifs,0⟩] scope pos) spos) (.asg (.name i) (.comp mu elt' tt it' ifs' n cap)):=by
 intro pins s σ H N I h;refine bW h λm r S er sr h=>?_;have h:tF X (fN (bnd (bM cl it' r S) λds S1=>bnd (compLoop (λr S=>ak cl elt' r S) (λr S=>bz cl ifs' r S) tt ds (fM r n cap) S1 []) λes S2=>A3 mu es S2) r λd S1=>af (.next (r.set i (af d)) S1)) m H N:=h;obtain⟨oj,hclos,AD,BY⟩:=s8 cp I;have h0:tO X (rD X) (bnd (bM cl it' r S) λds S1=>bnd (compLoop (λr S=>ak cl elt' r S) (λr S=>bz cl ifs' r S) tt ds (fM r n cap) S1 []) λes S2=>A3 mu es S2) m r H (λv H1=>∃m1 d S1,fq m m1 H H1/\cS X.K m1 S1 H1/\RD X.K m1 H1 d v/\tF X (af (.next (r.set i (af d)) S1)) m1 H1 N):=h.fN;rw[exec_Assign_Name_used _ _ _ _ hsw];refine My (wpAny_standAt (My ?_));show bg _ X.A (do let _ ←comprehension (.ListComp elt [⟨tg,iter,ifs,0⟩] scope pos) scope X.env _ (newList []) aS (eval iter X.env) (af (assign (.Name y py) X.env))) _ _ s;have hit:=hi pins s σ H (Dz X cl tt elt' ifs' n cap σ λes S3 m2 r' H2=>r'=r/\tO X (rD X) (A3 mu es S3) m2 r H2 (λv H1=>∃m1 d S1,fq m m1 H H1/\cS X.K m1 S1 H1/\RD X.K m1 H1 d v/\tF X (af (.next (r.set i (af d)) S1)) m1 H1 N)) I ⟨m,r,S,er,sr,h0.bnd.mono λJ H2 z=>aR z λm2 ds S2 st2 ow Y h2=>by
  cases e:compLoop (λr S=>ak cl elt' r S) (λr S=>bz cl ifs' r S) tt ds (fM r n cap) S2 []with
  |none=>rw[e]at h2;exact h2.elim|some o=>
   cases o with
   |exc c S'=>exact absurd e jj|ok es S3=>
    rw[e,aN]at h2;exact⟨m2,r,ds,S2,es,S3,er.step st2,ow,Y,e,xZ h2,rfl,h2⟩⟩
 refine My (VH (wpAny_comprehension_free (use:=af (assign (.Name y py) X.env)) (Q:=λ_ s'=>SP X pins N .next s') rfl hs hclos cp.kind cp.loc (ja hit λv s1 h1=>ja h1 λitv s2 h2=>?_)) (λ_ s' hq=>Uw (Uw hq)) λ_ _ e=>e);obtain⟨it,fp,tn,J,H2,e,I2,Tn,st0,hfp,m2,r2,ds,S2,es,S3,B8,ow,Y,DH,hz,FA,hfin⟩:=h2;subst e;subst FA;refine qu (RR:=λacc C=>compPost (model X.prog X.w) X.A X.xe (af (assign (.Name y py) X.env)) (λ_ s'=>SP X pins N .next s') acc C) (P:=λ_=>True) (λ_ _ _ h=>h) (λ_ _ _ h=>⟨h,trivial⟩) trivial cp hc I2 Tn st0 hfp (λm' H' S' st sr _=>Y m' H' st λa ha=>sr.there ha) B8 ow DH hz (hin s2 H2) (λacc C s' m' H' xs mC Iz fC hn st AA rs ha=>?_) AD BY;obtain⟨f0,f1,f2,f3,f4,f5⟩:=fC;obtain⟨oC,VE,VI,hoC,VO,VQ⟩:=id hn;obtain⟨m1,d,S1,stH,fh,rd,hnext⟩:=(dO AA rs (hfin.step st)).2 acc ha;have DU:gp X.K m1 (upd H' acc (.lst xs)) r2 σ:=er.step stH;have Ip:Inv X (pins++ [(C,oC)]) σ (upd H' acc (.lst xs)) s':=Iz.x6 λp hp=>by
  rcases Vt.mp hp with z|z
  ·exact Iz.pin p (Vi _ z)
  simp_all
 show bg (model X.prog X.w) X.A (assign (.Name y py) X.env (.ref acc)) _ _ s';refine ja (hg _ s' σ (upd H' acc (.lst xs)) (.ref acc) (.ref acc) (λσ2 H3=>H3=upd H' acc (.lst xs)/\gp X.K m1 (upd H' acc (.lst xs)) (r2.set i (af d)) σ2) Ip rfl ⟨m1,r2,d,_,DU,rd,rfl,λσ2 B8=>⟨rfl,B8⟩⟩) λ_ s5 zz=>?_;obtain⟨σ2,H3,I5,e3,LN⟩:=zz;subst e3;have VS:=I5.pin (C,oC) (Vi _ (Vi _ (VM.mpr rfl)));refine⟨mC,⟨oC,VE,VI,VS.1,VO,VQ⟩,λh' hsb=>?_⟩;have I6:Inv X pins σ2 (upd H' acc (.lst xs)) s5:=I5.AL;have I7:=I6.turned (t':=s5.toks) (it:=C) (h':=h') (λb o hb e=>(hsb.2 b hb).trans e) f0 f1 f3 f4 f5;exact⟨σ2,_,I7,hnext m1 _ σ2 (fq.refl _ _) LN fh⟩
end
abbrev fP(X:Cx)(e:ai):Cx:={X with A:=X.A.mark (af e),calm:=aS,xe:=λ_ _=>False}
abbrev lB(X:Cx)(pn:List (ay×Obj))(E:ai->aE->Prop):Cx:={X with pn:=pn,xe:=E}
section
variable{X:Cx}{pins AX:List (ay×Obj)}{σ:St}{H:Hp}{s:aE}{E:ai->aE->Prop}{e:ai}
def lC(I:Inv X pins σ H s)(e:ai):Inv (fP X e) pins σ H s:=
 ⟨⟨I.ok.mod,I.ok.kind,I.ok.glob,I.ok.blt,I.ok.above,I.ok.inj,I.ok.has,I.ok.cab,λz=>Bool.noConfusion z,I.ok.frames,I.ok.stk,I.ok.KP,I.ok.bs,I.ok.ET,I.ok.DO,I.ok.CI,I.ok.AJ,I.ok.FU⟩,
  I.os,I.bare,I.base,I.loc,I.cell,I.free,I.rV,I.pin,I.hok,I.len⟩
def tu(J:Inv X AX σ H s){σ':St}{H':Hp}{s':aE}(I:Inv (fP X e) pins σ' H' s'):Inv X pins σ' H' s':=
 ⟨J.ok,I.os,I.bare,I.base,I.loc,I.cell,I.free,I.rV,I.pin,I.hok,I.len⟩
def K5(I:Inv X pins σ H s)(E:ai->aE->Prop):Inv (lB X (X.pn++pins) E) [] σ H s:=
 ⟨⟨I.ok.mod,I.ok.kind,I.ok.glob,I.ok.blt,I.ok.above,I.ok.inj,I.ok.has,I.ok.cab,I.ok.hd,I.ok.frames,I.ok.stk,I.ok.KP,I.ok.bs,I.ok.ET,I.ok.DO,I.ok.CI,I.ok.AJ,I.ok.FU⟩,
  I.os,I.bare,I.base,I.loc,I.cell,I.free,I.rV,λp hp=>I.pin p (by simpa using hp),I.hok,I.len⟩
def iC(I:Inv (lB X (X.pn++pins) E) AX σ H s):Inv X pins σ H s:=
 ⟨⟨I.ok.mod,I.ok.kind,I.ok.glob,I.ok.blt,I.ok.above,I.ok.inj,I.ok.has,I.ok.cab,I.ok.hd,I.ok.frames,I.ok.stk,I.ok.KP,I.ok.bs,I.ok.ET,I.ok.DO,I.ok.CI,I.ok.AJ,I.ok.FU⟩,
  I.os,I.bare,I.base,I.loc,I.cell,I.free,I.rV,λp hp=>I.pin p (Wn _ hp),I.hok,I.len⟩
def uZ{b:ay}(x:Co (lB X (X.pn++pins) E) AX H b):Co X pins H b:=⟨x.non,x.loc,x.QO,x.new,x.EZ,λp hp=>x.MV p (Wn _ hp)⟩
def yd{o:Option ay}(x:bN (lB X (X.pn++pins) E) AX H o e s):bN X pins H o e s:=by obtain⟨a,t,C,h1,h2,h3,h4,h5⟩:=x;exact⟨a,t,C,h1,h2,h3,uZ h4,λT z=>uZ (h5 T z)⟩
theorem Px{N:Ends}{f:Flow}(h:SP (lB X (X.pn++pins) E) [] N f s):SP X pins N f s:=by
 cases f with
 |next=>obtain⟨σ',H',I,q⟩:=h;exact⟨σ',H',iC I,q⟩
 |brk=>obtain⟨σ',H',I,q⟩:=h;exact⟨σ',H',iC I,q⟩
 |cont=>obtain⟨σ',H',I,q⟩:=h;exact⟨σ',H',iC I,q⟩
 |ret u=>obtain⟨v,σ',H',I,r,q⟩:=h;exact⟨v,σ',H',iC I,r,q⟩
def gp.unset{K:aI}{m:List ay}{r:aC}(e:gp K m H r σ)(i:Nat):gp K m H (r.set i ah) (σ.set i ah):=⟨by simp[e.len],λj d hj=>by
 by_cases hij:i=j
 ·subst hij;by_cases hi:i<r.length
  ·simp_all
  simp_all
 ·rw[U6 hij]at hj;obtain⟨u,h1,h2⟩:=e.get j d hj
  simp_all⟩
end
section
variable{X:Cx}{cl:Nat->List D->bq->Ev D}
def DG{c n cn:Str}{i:Nat}{b₀:eL}{hb:List eL}{hcs:List C}{cs:List Str}{Cb:ay}{p hp:Pos}{pins:List (ay×Obj)}{σ:St}{H:Hp}{s:aE}{m:List ay}{r:aC}{S:bq}{e:ai}{C:ay}{N:Ends}(hs:X.stack=X.env::X.outer)(hf:X.env.frame=af X.env.locals)(hg:Gl X cn)(hm:X.mg cn=af (.ref Cb))(hdb:(cn==("__debug__" :Str))=aS)(hN:X.N.Nodup)(hi:X.N[i]?=af n)(hl:X.env.scope.names.lookup n=af .local)(hh:∀e,CD (fP X e) cl (b₀::hb) hcs)(hC:bS X.K mainGlobals c=af (af (.ref C)))(hx:fy X.K (.ref C) (.ref Cb)=af av)(I:Inv X pins σ H s)(O:bN X pins H (af C) e s)(er:gp X.K m H r σ)(sr:cS X.K m S H)(h:tF X (jX (af i) (eS cl hcs (gR (af i) c r) S)) m H N):
  bg (model X.prog X.w) X.A (noteFrame e X.env) (λ_ s₂=>bg (model X.prog X.w) X.A (setFlight e ah) (λ_ s₃=>bg (model X.prog X.w) X.A (handleBy e X.env [.ExceptHandler (af (.Name cn p)) (af n) (b₀::hb) hp]) (SP X pins N) X.xe s₃) X.xe s₂) X.xe s:=by
 refine landed I hs hf O λh1 I1 O1=>?_;obtain⟨a,t,C',rfl,eC,al,oa,ot⟩:=id O1;have eC:C=C':=Ux eC;subst eC;have ex:∀h1,lu h1 a (.ref C) t->fX a C h1:=λh1 z=>by obtain⟨oe,vs,x1,x2,x3,x4,_⟩:=z;exact⟨oe,vs,x1,x2,x3,x4⟩
 refine wpAny_handleBy_cons (codeAny_handlers_test ?_) (λz=>nomatch z);refine iy (X:=fP X (.ref a)) (lC I1 _) hg hm ?_ hdb;obtain⟨o,io⟩:=(ex _ al).inst;refine vS I1.BO io.type hx _ _ _ _ (λ_ _ q=>q) ?_;show codeAny _ _ (Code.handlers _ [.ExceptHandler ah (af n) (b₀::hb) hp] X.env) _ _;refine codeAny_handlers_suite_as (xF (s:={s with heap:=h1}) (E:=_) I1 O1 λh2 I2 O2=>?_);obtain⟨a',t',C',ea,eC,VT,OI,Yi⟩:=id O2;cases ea;have eC:C=C':=Ux eC;subst eC;have RY:fX a C h2:=by obtain⟨oe,vs,x1,x2,x3,x4,_⟩:=VT;exact⟨oe,vs,x1,x2,x3,x4⟩
 have I3:Inv X pins σ (upd H a (.ext (fX a C))) {s with heap:=h2}:=by refine Lm I2 OI ⟨RY,?_,λg1 g2 z k=>by obtain⟨o,vs,x1,x2⟩:=z;exact⟨o,vs,k o x1,x2⟩⟩ (λy z=>nomatch z);obtain⟨o,vs,x1,_⟩:=RY;exact⟨o,x1⟩
 have st3:=fq.laid sr OI.non (.ext (fX a C));have EF:=cS.laid sr OI.non (.ext (fX a C));have HM:=er.step st3;have VU:RD X.K m (upd H a (.ext (fX a C))) (.B6 c) (.ref a):=by unfold RD;exact⟨a,C,rfl,hC,bj⟩
 refine oW (X:=fP X (.ref a)) (v:= .ref a) (lC I3 _) hN hi (.inl hl) rfl (λs4 I4=>?_) (.inr hl);obtain⟨r2,S2,e2⟩:∃r2 S2,eS cl hcs (gR (af i) c r) S=af (.next r2 S2):=by
  cases q:eS cl hcs (gR (af i) c r) S with
  |none=>rw[q]at h;exact h.elim|some o=>
   cases o with|next r2 S2=>lia|_=>rw[q]at h;exact h.elim
 rw[e2]at h;have h:∀m' H' σ',fq m m' H H'->gp X.K m' H' (r2.set i ah) σ'->cS X.K m' S2 H'->N.nx σ' H':=h;have run:=hh (.ref a) pins s4 _ _ {nx:=λσ' H'=>∃m',fq m m' H H'/\gp X.K m' H' r2 σ'/\cS X.K m' S2 H',rt:=λ_ _=>False} I4 ⟨m,_,S,HM.set (i:=i) VU,EF,?_⟩
 ·refine VH run (λf s5 q=>?_) λ_ _ z=>z.elim;cases f with
  |next=>
   obtain⟨σ5,H5,I5,m5,GO,LN,OL⟩:=q;have I5:Inv X pins σ5 H5 s5:=tu I3 I5;show bg (model X.prog X.w) X.A (do bindName X.env n Value.none;unbindBehindTheSuite X.env n hp) _ _ _;refine My (wpAny_bindName (oW (v:= .non) I5 hN hi (.inl hl) rfl (λs6 I6=>?_) (.inr hl)));unfold unbindBehindTheSuite;have hlt:i<σ5.length:=by rw[I5.len];exact(UL.mp hi).1
   refine wpAny_onRaise (N7 I6 hN hi hl (v:= .non) (Vy hlt) λh7 I7=>?_);exact⟨_,H5,I7,h m5 H5 _ GO (by rw[kT];exact LN.unset i) OL⟩
  |brk=>obtain⟨_,_,_,q⟩:=q;exact q.elim
  |cont=>obtain⟨_,_,_,q⟩:=q;exact q.elim
  |ret u=>obtain⟨_,_,_,_,_,q⟩:=q;exact q.elim
 ·show tF (fP X (.ref a)) (eS cl hcs (gR (af i) c r) S) m _ _;rw[e2];exact λm' H' σ' st FA AA=>⟨m',st3.trans st,FA,AA⟩
def DK{c cn:Str}{b₀:eL}{hb:List eL}{hcs:List C}{Cb:ay}{p hp:Pos}{pins:List (ay×Obj)}{σ:St}{H:Hp}{s:aE}{m:List ay}{r:aC}{S:bq}{e:ai}{C:ay}{N:Ends}(hs:X.stack=X.env::X.outer)(hf:X.env.frame=af X.env.locals)(hg:Gl X cn)(hm:X.mg cn=af (.ref Cb))(hdb:(cn==("__debug__" :Str))=aS)(hh:∀e,CD (fP X e) cl (b₀::hb) hcs)(hx:fy X.K (.ref C) (.ref Cb)=af av)(I:Inv X pins σ H s)(O:bN X pins H (af C) e s)(er:gp X.K m H r σ)(sr:cS X.K m S H)(h:tF X (jX ah (eS cl hcs (gR ah c r) S)) m H N):
  bg (model X.prog X.w) X.A (noteFrame e X.env) (λ_ s₂=>bg (model X.prog X.w) X.A (setFlight e ah) (λ_ s₃=>bg (model X.prog X.w) X.A (handleBy e X.env [.ExceptHandler (af (.Name cn p)) ah (b₀::hb) hp]) (SP X pins N) X.xe s₃) X.xe s₂) X.xe s:=by
 refine landed I hs hf O λh1 I1 O1=>?_;obtain⟨a,t,C',rfl,eC,al,oa,ot⟩:=id O1;have eC:C=C':=Ux eC;subst eC;have ex:∀h1,lu h1 a (.ref C) t->fX a C h1:=λh1 z=>by obtain⟨oe,vs,x1,x2,x3,x4,_⟩:=z;exact⟨oe,vs,x1,x2,x3,x4⟩
 refine wpAny_handleBy_cons (codeAny_handlers_test ?_) (λz=>nomatch z);refine iy (X:=fP X (.ref a)) (lC I1 _) hg hm ?_ hdb;obtain⟨o,io⟩:=(ex _ al).inst;refine vS I1.BO io.type hx _ _ _ _ (λ_ _ q=>q) ?_;show codeAny _ _ (Code.handlers _ [.ExceptHandler ah ah (b₀::hb) hp] X.env) _ _;refine codeAny_handlers_suite (xF (s:={s with heap:=h1}) (E:=_) I1 O1 λh2 I2 O2=>?_);obtain⟨r2,S2,e2⟩:∃r2 S2,eS cl hcs (gR ah c r) S=af (.next r2 S2):=by
  cases q:eS cl hcs (gR ah c r) S with
  |none=>rw[q]at h;exact h.elim|some o=>
   cases o with|next r2 S2=>lia|_=>rw[q]at h;exact h.elim
 rw[e2]at h;have h:∀m' H' σ',fq m m' H H'->gp X.K m' H' r2 σ'->cS X.K m' S2 H'->N.nx σ' H':=h;have run:=hh (.ref a) pins {s with heap:=h2} _ _ {nx:=λσ' H'=>∃m',fq m m' H H'/\gp X.K m' H' r2 σ'/\cS X.K m' S2 H',rt:=λ_ _=>False} (lC I2 _) ⟨m,_,S,er,sr,?_⟩
 ·refine VH run (λf s5 q=>?_) λ_ _ z=>z.elim;cases f with
  |next=>obtain⟨σ5,H5,I5,m5,GO,LN,OL⟩:=q;exact⟨_,H5,tu I2 I5,h m5 H5 _ GO LN OL⟩
  |brk=>obtain⟨_,_,_,q⟩:=q;exact q.elim
  |cont=>obtain⟨_,_,_,q⟩:=q;exact q.elim
  |ret u=>obtain⟨_,_,_,_,_,q⟩:=q;exact q.elim
 ·show tF (fP X (.ref a)) (eS cl hcs (gR ah c r) S) m _ _;rw[e2];exact λm' H' σ' st FA AA=>⟨m',st,FA,AA⟩
def Ab{cl:Nat->List D->bq->Ev D}{r:aC}{S:bq}{a h:List C}{cs':List Str}{nm:Option Nat}:runC cl (.tr a cs' nm h) r S=match eS cl a r S with|some (.exc c r1 S1)=>if c∈cs' then jX nm (eS cl h (gR nm c r1) S1)else ah|x=>x:=rfl
def Py{cn:Str}{nm:Option Str}{MZ:Option Nat}{body:List eL}{bs:List C}{b₀:eL}{hb:List eL}{hcs:List C}{cs:List Str}{Cb:ay}{p hp pos:Pos}(hs:X.stack=X.env::X.outer)(hf:X.env.frame=af X.env.locals)(hg:Gl X cn)(hm:X.mg cn=af (.ref Cb))(hdb:(cn==("__debug__" :Str))=aS)(hN:X.N.Nodup)(hn:match nm,MZ with
   |some n,af i=>X.N[i]?=af n/\X.env.scope.names.lookup n=af .local|none,ah=>True
   |_,_=>False)(hbody:∀pn E,CD (lB X pn E) cl body bs)(hh:∀e,CD (fP X e) cl (b₀::hb) hcs)(hx:∀c∈cs,∀C,bS X.K mainGlobals c=af (af (.ref C))->fy X.K (.ref C) (.ref Cb)=af av):
  JS X cl (.Try body [.ExceptHandler (af (.Name cn p)) nm (b₀::hb) hp] [] [] pos) (.tr bs cs MZ hcs):=by
 intro pins s σ H N I h;refine bW h λm r S er sr h=>?_;refine wpAny_Try_except ?_;have run:=hbody (X.pn++pins) (λe s₁=>bg (model X.prog X.w) X.A (noteFrame e X.env) (λ_ s₂=>bg (model X.prog X.w) X.A (setFlight e ah) (λ_ s₃=>bg (model X.prog X.w) X.A (handleBy e X.env [.ExceptHandler (af (.Name cn p)) nm (b₀::hb) hp]) (SP X pins N) X.xe s₃) X.xe s₂) X.xe s₁)
  [] s σ H N (K5 I _) ⟨m,r,S,er,sr,?_⟩
 ·refine VH run (λf s1 q=>?_) λe s1 q=>q;have q:=Px q;cases f with|next=>exact wpAny_execs_nil q|brk=>exact q|cont=>exact q|ret u=>exact q
 ·rw[Ab]at h;cases e1:eS cl bs r S with
  |none=>rw[e1]at h;exact h|some o=>
   rw[e1]at h;cases o with
   |next r1 S1=>exact h|brk r1 S1=>exact h|cont r1 S1=>exact h|ret d S1=>exact h|exc c r1 S1=>
    intro AX s1 σ1 H1 m1 e I1 st DU fh ie;obtain⟨C,hC,O⟩:=ie;simp only at h;by_cases hc:c∈cs
    ·rw[if_pos hc]at h;have h1:=tF.step h st;cases nm with
     |none=>
      cases MZ with|none=>exact DK hs hf hg hm hdb hh (hx c hc C hC) (iC I1) (yd O) DU fh h1|some i=>exact hn.elim
     |some n=>
      cases MZ with|none=>exact hn.elim|some i=>exact DG (cs:=cs) hs hf hg hm hdb hN hn.1 hn.2 hh hC (hx c hc C hC) (iC I1) (yd O) DU fh h1
    ·rw[if_neg hc]at h;exact h.elim
def Ua(X:Cx)(u:V)(yes no:List Str):List V->Hp->VK->Prop:=λxs H Q=>∃m d x k S,xs=[x,u]/\RD X.K m H d x/\lr d yes no S=fz (.bl k) S/\Q (.bl k) H
structure DJ(K:aI)(uv:ai)(yes no:List Str):Prop where
 cls:∀c,c∈yes\/c∈no->∀C,bS K mainGlobals c=af (af (.ref C))->xw K C
 yes:∀c∈yes,∀C,bS K mainGlobals c=af (af (.ref C))->dS K (.ref C) uv=af av
 no:∀c∈no,∀C,bS K mainGlobals c=af (af (.ref C))->dS K (.ref C) uv=af aS
theorem Hj{u:V}{uv:ai}{yes no:List Str}(hu:∀v,RelV u v->v=uv)(ok:DJ X.K uv yes no):bH X (.builtin "isinstance") (Ua X u yes no):=by
 intro pins s σ H xs us Q I rv h;obtain⟨m,d,x,k,S,rfl,rd,hk,q⟩:=h;obtain⟨y,w',rfl,r1,r2⟩:=vals2 rv;have e:=hu _ r2;subst e;cases d with
 |B6 c=>
  unfold RD at rd;obtain⟨a,C,rfl,hC,hH⟩:=rd;cases r1;have ex:fX a C s.heap:=(show bG X.prog X.w H s.heap a (.ext (fX a C))from I.hok a _ hH).1;simp only[lr]at hk;by_cases h1:c∈yes
  ·rw[if_pos h1]at hk;have e:av=k:=by simpa[fz]using hk
   subst e;exact wc (uC (ok.cls c (.inl h1) C hC)) I.BO ex (ok.yes c h1 C hC) (λz=>nomatch z) λtk=>⟨.bl av,H,I.tok _,rfl,q⟩
  ·rw[if_neg h1]at hk;by_cases h2:c∈no
   ·rw[if_pos h2]at hk;have e:aS=k:=by simpa[fz]using hk
    subst e;exact wc (uC (ok.cls c (.inr h2) C hC)) I.BO ex (ok.no c h2 C hC) (λz=>nomatch z) λtk=>⟨.bl aS,H,I.tok _,rfl,q⟩
   ·rw[if_neg h2]at hk;cases hk
 |_=>cases hk
theorem DN{a:br}{a':E}{x:Str}{u:V}{uv:ai}{yes no:List Str}{p p2 pos:Pos}(hg:Gl X "isinstance")(hm:X.mg "isinstance" =ah)(ha:JE X cl a a')(hT:PE X (.Name x p2) (L2.tC u))(hu:∀v,RelV u v->v=uv)(ok:DJ X.K uv yes no)(he:starEach [a,.Name x p2] X.env=(aS,eval a X.env)::starEach [.Name x p2] X.env):JE X cl (.Call (.Name "isinstance" p) [a,.Name x p2] [] pos) (.EX a' yes no):=by
 refine PE.imp (kI (Hj (u:=u) hu ok) hg hm PyProof.Rows.boot_isinstance (fH ha (fH hT gQ) he) (by decide) (by decide) he (by rfl)) λσ H Q h=>?_;refine bW h λm r S er sr h=>?_;have h:tO X (rD X) (bnd (ak cl a' r S) λx S1=>lr x yes no S1) m r H Q:=h;refine⟨m,r,S,er,sr,h.bnd.mono λv H1 zz=>?_⟩;refine aR zz λm1 x S1 st1 fh rx h1=>?_;cases x with
 |B6 c=>
  simp only[lr]at h1;by_cases q1:c∈yes
  ·rw[if_pos q1]at h1;exact⟨m1,.B6 c,v,av,S1,rfl,rx,by simp[lr,q1],h1.fin fh gU⟩
  ·rw[if_neg q1]at h1;by_cases q2:c∈no
   ·rw[if_pos q2]at h1;exact⟨m1,.B6 c,v,aS,S1,rfl,rx,by simp[lr,q1,q2],h1.fin fh gU⟩
   ·rw[if_neg q2]at h1;exact h1.elim
 |_=>exact h1.elim
def Pz{x:Str}{C:ay}{p:Pos}(hg:Gl X x)(hm:X.mg x=af (.ref C))(hdb:(x==("__debug__" :Str))=aS):PE X (.Name x p) (L2.tC (.ref C)):=
 λpins s σ H Q I h=>iy I hg hm ⟨.ref C,H,I,rfl,h⟩ hdb
end
def PB{K:aI}{mg:Str->Option ai}{base:cK}(M:Mod K mg base)(p:bX):∃loose mb,PySem.W.TopRead p loose mg mb base:=by
 obtain⟨mb,hb,hbb⟩:=M.blt;obtain⟨o,es,ep,h1,h2,h3,h4⟩:=id M.glob;refine⟨es.toList.filterMap λe=>match e.key with|.str n _=>af n|_=>ah,mb,M.glob,hb,M.nolimit,hbb,λx _ hx _ _ _=>?_⟩;rw[←h4 x];unfold nsFind findBy;have e:es.find? (λe=>Value.isStr e.key x)=none:=by
  rw[Array.find?_eq_none];intro e he q;obtain⟨n,t,hk⟩:=h3 e he;rw[hk]at q;have q:n=x:=by simpa[Value.isStr]using q
  refine hx (List.mem_filterMap.mpr ⟨e,Array.mem_toList_iff.mpr he,?_⟩);rw[hk,q]
 rw[e];rfl
def EK:List Value:=[Value.type "ValueError",Value.type "Exception",Value.type "BaseException",Value.type "object"]
theorem Hk{h:cK}{bmB bm:List ai}{v:ai}(t:OwnTail h bmB bm)(hv:bmB.contains v=av):bm.contains v=true:=by
 induction t with
 |base=>exact hv|own _ _ _ _ ih=>simp_all
theorem Ac{cl:Nat->List D->bq->Ev D}:∀{l:List E}{r:aC}{S:bq}{ds:List D}{S':bq},aG cl l r S=af (.ok ds S')->ds.length=l.length:=by
 intro l
 induction l with
 |nil=>
  intro r S ds S' q;have q':fz ([]:List D) S=af (.ok ds S'):=q;injection q' with q1
  simp_all
 |cons e l ih=>
  intro r S ds S' q;have q':bnd (ak cl e r S) (λd S1=>bnd (aG cl l r S1) λds S2=>fz (d::ds) S2)=af (.ok ds S'):=q;cases e1:ak cl e r S with
  |none=>simp_all|some o=>
   rw[e1]at q';cases o with
   |exc c S1=>cases q'|ok d S1=>
    rw[aN]at q';cases e2:aG cl l r S1 with
    |none=>simp_all|some o2=>
     rw[e2]at q';cases o2 with
     |exc c S2=>cases q'|ok IY S2=>
      rw[aN]at q';injection q' with q1
      injection q1 with q2
      subst q2;simp[ih e2]
section
variable{X:Cx}{cl:Nat->List D->bq->Ev D}
def Hl{c:Str}{C:ay}{e₀:br}{rest:List br}{as':List E}{np cpos pos:Pos}(hr:X.A.handled=ah)(hg:Gl X c)(hdb:(c==("__debug__" :Str))=aS)(hC:bS X.K mainGlobals c=af (af (.ref C)))(hx:f7 X.K C EK "ValueError.__new__" =av)(ha:JA X cl (e₀::rest) as')(hz:as'.length<=aT)(he:starEach (e₀::rest) X.env=(aS,eval e₀ X.env)::starEach rest X.env)(hpl:(backTo cpos (starEach (e₀::rest) X.env)).any (·.1)=aS):
  JS X cl (.Raise (af (.Call (.Name c np) (e₀::rest) [] cpos)) ah pos) (.raise c as'):=by
 intro pins s σ H N I h;refine bW h λm r S er sr h=>?_;have h:tF X (fN (aG cl as' r S) r λ_ S1=>af (.exc c r S1)) m H N:=h;obtain⟨loose,mb,T⟩:=PB I.ok.mod X.prog;have OC:=PySem.W.own_of_in I.ok.mod.IP T hC hx;obtain⟨bm,NN,nm,q,bs,hdct,sn,sub,ab,col,dd,k0,k1,k2,k3,k5,mN,g1,g2,g3,g4⟩:=OC.obj;refine wpAny_Raise_call_subU (nm:=nm) (q:=q) (C:=C) (N:=NN) (bs:=bs) (bm:=bm) (bmB:=EK) (hdct:=hdct) (sn:=sn) (sub:=sub) (ab:=ab) (col:=col) (dd:=dd) (k0:=k0) (k1:=k1) (k2:=k2) (k3:=k3) (k5:=k5) F.excBase_ValueError (by decide) F.excBase_ValueError (Hk g4 (by decide)) hr hpl g3 ?_;refine iy I hg OC.bound ⟨rfl,?_⟩ hdb;obtain⟨y,l,e⟩:∃y l,backTo cpos (starEach (e₀::rest) X.env)=(aS,y)::l:=⟨_,_,by rw[he];rfl⟩
 rw[e];refine Calls.evalArgs_plain ?_;rw[←e];have key:tM X (Lv X) (aG cl as') σ H λvs H1=>vs.length<=aT/\∃m1 S1,cS X.K m1 S1 H1/\gp X.K m1 H1 r σ/\XQ X m1 H1 r c S1:=by
  refine⟨m,r,S,er,sr,?_⟩;cases e1:aG cl as' r S with
  |none=>rw[e1]at h;exact h|some o=>
   rw[e1]at h;cases o with|exc c S1=>exact h|ok ds S1=>intro m1 H1 vs st1 fh rs;have rs:fR X.K m1 H1 ds vs:=rs;refine⟨by rw[←rs.length,Ac e1];exact hz,m1,S1,fh,er.step st1,?_⟩;exact XQ.step h st1
 refine ja (ha cpos pins s σ H _ I key) λvs s2 zz=>?_;obtain⟨xs,H1,I1,rv,hl,m1,S1,fh,DU,xq⟩:=zz;have kb:∀b o,X.base.get? b=af o->s2.heap.get? b=af o:=I1.bk;refine⟨rfl,by rw[←rv.length];exact hl,kb _ _ g1,g2.keeps kb,g4.keeps kb,λh' a mk=>?_⟩;have I2:Inv X pins σ H1 {s2 with heap:=h'}:=I1.kept (t':=s2.toks) mk.keeps;obtain⟨t,ht,_⟩:=mk.there;refine xq pins _ σ H1 m1 (.ref a) I2 (fq.refl _ _) DU fh ⟨C,hC,a,ah,C,rfl,rfl,?_,nR I1 mk.new (Cq I1.hok mk.new),λT z=>nomatch z⟩;exact⟨_,_,ht,rfl,rfl,rfl,by simp,rfl⟩
end
def mK{i:Int}(h:i.natAbs<2^1000):i.natAbs.log2<1920:=by
 by_cases z:i.natAbs=0
 ·rw[z];decide
 ·have:=(Nat.log2_lt z).mpr h;lia
theorem DV{d:D}(h:iV d=av):(∃i,d= .int i/\i.natAbs<2^1000)\/∃ns:List Int,d= .tup (ns.map .int)/\(∀i∈ns,i.natAbs<2^1000)/\ns.length<=100:=by
 cases d with
 |int i=>exact .inl ⟨i,rfl,Vo h⟩|tup ds=>
  simp only[iV]at h;cases e:bf ds with|none=>simp_all|some ns=>rw[e]at h;simp only[Vn,Xa]at h;refine .inr ⟨ns,by rw[iz e],λi hi=>Vo (h.1 i hi),Vo h.2⟩
 |_=>cases h
theorem ye:∀ts:List Str,(∀x∈ts,x.length<=1921)->(Str.join ", " ts).length<=1923*ts.length
 |[],_=>by simp[Str.join,Str.length,Str.empty]|[x],h=>by have:=h x (by simp);show x.length<=_;simp;lia|x::y::r,h=>by have h1:=h x (by simp);have ih:=ye (y::r) λz hz=>h z (by simp[hz]);have e:Str.join ", " (x::y::r)=x++ ", " ++Str.join ", " (y::r):=rfl;have e2:(", " :Str).length=2:=rfl;rw[e,Wa,Wa,e2];simp only[U5]at ih ⊢;lia
theorem tB:∀ns:List Int,(PyData.shownAll (ns.map PyData.int)).length=ns.length
 |[]=>rfl|n::r=>by simp[PyData.shownAll,tB r]
theorem shown_le{ns:List Int}(h:∀i∈ns,i.natAbs<2^1000):∀x∈PyData.shownAll (ns.map PyData.int),x.length<=1921:=by
 induction ns with
 |nil=>intro x hx;simp[PyData.shownAll]at hx|cons n r ih=>
  intro x hx;simp only[U0,PyData.shownAll,UJ]at hx;rcases hx with rfl|hx
  ·exact g9 (mK (h n (by simp)))
  simp_all
def Hm{ns:List Int}(h:∀i∈ns,i.natAbs<2^1000)(hl:ns.length<=100):(PyData.shown (.tuple (ns.map PyData.int))).length<=199000:=by
 have h1:=ye _ (shown_le h);rw[tB]at h1;show(tupleText (PyData.shownAll (ns.map PyData.int))).length<=_;unfold tupleText;rw[Wa,Wa];have e1:("(" :Str).length=1:=rfl;have e2:∀b:Bool,(Str.ofString (if b=av then ",)" else ")")).length<=2:=λb=>by cases b<;>decide
 have e3:=e2 ((PyData.shownAll (ns.map PyData.int)).length==1);rw[e1];have e4:((if((PyData.shownAll (ns.map PyData.int)).length==1)=av then ",)" else ")" :String):Str).length<=2:=e3;lia
theorem tY{ns:List Int}(h:∀i∈ns,i.natAbs<2^1000):PyData.showable (.tuple (ns.map PyData.int))=true:=by
 show PyData.showableAll (ns.map PyData.int)=av
 induction ns with
 |nil=>rfl|cons n r ih=>show(PyData.showable (.int n) && PyData.showableAll (r.map PyData.int))=av;rw[ih λi hi=>h i (by simp[hi])];have:PyData.showable (.int n)=true:=Wc (mK (h n (by simp)));rw[this];rfl
theorem wO(ns:List Int):PyData.hasDict (.tuple (ns.map PyData.int))=false:=by
 show PyData.hasDictAll (ns.map PyData.int)=aS
 induction ns with
 |nil=>rfl|cons n r ih=>exact ih
def Ad(ns:List Int):PyData.depth (.tuple (ns.map PyData.int))<=3:=by
 have q:∀ns:List Int,PyData.depthAll (ns.map PyData.int)<=1:=by
  intro ns
  induction ns with
  |nil=>simp[PyData.depthAll]|cons n r ih=>simp only[U0,PyData.depthAll,PyData.depth];lia
 have:=q ns;simp only[PyData.depth];lia
theorem qw{h:cK}:∀{vs:List ai}{ns:List Int},qa vs ns->ReadsAll h vs (ns.map PyData.int) []
 |_,_,.nil=> .nil|_,_,.cons n t r=> .cons (as:=[]) (.int n t) (qw r)
def VW:br->Nat
 |.Constant c _ _=>match c with
  |.str x=>x.length|_=>200000
 |_=>200000
def GA:List br->Nat
 |[]=>0|e::r=>VW e+GA r
section
variable{X:Cx}{cl:Nat->List D->bq->Ev D}
inductive yi(X:Cx)(cl:Nat->List D->bq->Ev D):List br->List E->Prop
 |nil:yi X cl [] []|str {x:Str} {j:Nat} {p:Pos} {vals:List br} {as:List E}:yi X cl vals as->yi X cl (.Constant (.str x) j p::vals) as|rep {e:br} {e':E} {p:Pos} {vals:List br} {as:List E}:JE X cl e e'->yi X cl vals as->yi X cl (.FormattedValue e 114 ah p::vals) (e'::as)
theorem wQ{e:E}{es:List E}{r:aC}{S S':bq}{ds:List D}(h:aG cl (e::es) r S=af (.ok ds S')):∃d S1 ds',ak cl e r S=af (.ok d S1)/\aG cl es r S1=af (.ok ds' S')/\ds=d::ds':=by
 have q':bnd (ak cl e r S) (λd S1=>bnd (aG cl es r S1) λds S2=>fz (d::ds) S2)=af (.ok ds S'):=h;cases e1:ak cl e r S with
 |none=>simp_all|some o=>
  rw[e1]at q';cases o with
  |exc c S1=>cases q'|ok d S1=>
   rw[aN]at q';cases e2:aG cl es r S1 with
   |none=>simp_all|some o2=>
    rw[e2]at q';cases o2 with
    |exc c S2=>cases q'|ok IY S2=>
     rw[aN]at q';injection q' with q1
     injection q1 with q2 q3
     subst q2;subst q3;exact⟨d,S1,IY,rfl,e2,rfl⟩
theorem Hn{kr:Nat}(hroom:oz kr X.A){vals:List br}{as:List E}(F:yi X cl vals as):∀{pins:List (ay×Obj)}{s:aE}{σ:St}{H:Hp}{m:List ay}{r:aC}{S S':bq}{acc:Str}{ds:List D}{Q:Str->aE->Prop},Inv X pins σ H s->gp X.K m H r σ->cS X.K m S H->
  aG cl as r S=af (.ok ds S')->ds.all iV=av->acc.length+GA vals<=aT->(∀out s' m' H',Inv X pins σ H' s'->fq m m' H H'->cS X.K m' S' H'->out.length<=aT->Q out s')->
  Joins (model X.prog X.w) X.A X.xe (evalEach vals X.env) acc Q s:=by
 induction F with
 |nil=>
  intro pins s σ H m r S S' acc ds Q I er sr e hs hl hq;have e:fz ([]:List D) S=af (.ok ds S'):=e;injection e with e1
  injection e1 with e2 e3
  subst e3;exact hq acc s m H I (fq.refl _ _) sr hl
 |@str x j p vals as F ih=>intro pins s σ H m r S S' acc ds Q I er sr e hs hl hq;show bg (model X.prog X.w) X.A (eval (.Constant (.str x) j p) X.env) _ _ s;replace hl:acc.length+(x.length+GA vals)<=sizeLine:=hl;refine ja (Bw pins s σ H (λv H1=>v= .str x/\H1=H) I ⟨rfl,rfl⟩) λu s1 zz=>?_;obtain⟨v,H1,I1,rv,hv⟩:=zz;obtain⟨rfl,rfl⟩:=hv;obtain⟨t,rfl⟩:=rv;refine⟨x,t,rfl,by rw[Wa];lia,ih I1 er sr e hs (by rw[Wa];lia) hq⟩
 |@rep ex e' p vals as he F ih=>
  intro pins s σ H m r S S' acc ds Q I er sr e hs hl hfin;have hq:=hfin;obtain⟨d,S1,ds',e1,e2,rfl⟩:=wQ e;simp only[nS,Vn]at hs;rcases DV hs.1 with⟨i,rfl,hi⟩|⟨ns,rfl,hi,hnl⟩
  rotate_left
  ·have hL:=Hm hi hnl;replace hl:acc.length+(200000+GA vals)<=sizeLine:=hl;show bg (model X.prog X.w) X.A (eval (.FormattedValue ex 114 ah p) X.env) _ _ s;refine wpAny_FormattedValue_repr (ja (he pins s σ H (λv H1=>∃m1,RD X.K m1 H1 (.tup (ns.map D.int)) v/\fq m m1 H H1/\cS X.K m1 S1 H1) I ⟨m,r,S,er,sr,?_⟩) λu s1 z=>bQ z λv H1 I1 rv z2=>?_)
   ·rw[e1];intro m1 H1 v st1 fh rd;exact⟨m1,rd,st1,fh⟩
   ·obtain⟨m1,hv,st1,fh⟩:=z2;obtain⟨q,vs,rfl,hq,rs⟩:=dD hv;have e5:=gM rs;subst e5;cases rv;obtain⟨its,r',⟨o,g1,g2,k,g3⟩,hz⟩:=I1.tuple hq;have hi2:qa its ns:=intsAre_of r';have hd:=Ad ns;have hnd:=wO ns;have hu:=hroom.units;refine pyReprObj_of_reads (h₀:=s1.heap) (d:= .tuple (ns.map PyData.int)) (as:=[]) (.tuple g1 g2 g3 (by simpa using qw hi2)) (tY hi) (λz=>by lia) hroom.gd (by lia) (λ_ _ z=>z) (λh' u' tk kp=>?_) (by lia);refine i9 (λt' tk'=>?_) (by lia);exact⟨_,t',rfl,by rw[Wa];lia,ih ((I1.kept kp).tok tk') (er.step st1) fh e2 hs.2 (by rw[Wa];lia) λout s' m' H' I' st' AA ho=>hfin out s' m' H' I' (st1.trans st') AA ho⟩
  have hll:=mK hi;have hL:(Str.ofString (toString i)).length<=1921:=g9 hll;replace hl:acc.length+(200000+GA vals)<=sizeLine:=hl;show bg (model X.prog X.w) X.A (eval (.FormattedValue ex 114 ah p) X.env) _ _ s;refine wpAny_FormattedValue_repr (ja (he pins s σ H (λv H1=>∃m1,v= .int i/\fq m m1 H H1/\cS X.K m1 S1 H1) I ⟨m,r,S,er,sr,?_⟩) λu s1 z=>bQ z λv H1 I1 rv z2=>?_)
  ·rw[e1];intro m1 H1 v st1 fh rd;exact⟨m1,gc rd,st1,fh⟩
  ·obtain⟨m1,hv,st1,fh⟩:=z2;subst hv;obtain⟨t,rfl⟩:=rv;refine pyReprObj_int hll (i9 (λt' tk=>?_) (by lia));exact⟨_,t',rfl,by rw[Wa];lia,ih (I1.tok tk) (er.step st1) fh e2 hs.2 (by rw[Wa];lia) λout s' m' H' I' st' AA ho=>hq out s' m' H' I' (st1.trans st') AA ho⟩
theorem PJ{kr:Nat}(hroom:oz kr X.A){v₁ v₂:br}{rest:List br}{as:List E}{pos:Pos}(F:yi X cl (v₁::v₂::rest) as)(hw:GA (v₁::v₂::rest)<=aT):JE X cl (.JoinedStr (v₁::v₂::rest) pos) (.fmt as):=by
 intro pins s σ H Q I h;refine tM.el h λm r S er sr h=>?_;have h:tO X (rD X) (bnd (iQ (aG cl as r S)) λds S1=>zH ds S1) m r H Q:=h;cases e:aG cl as r S with
 |none=>rw[e]at h;exact h.elim|some o=>
  rw[e]at h;cases o with
  |exc c S1=>exact h.elim|ok ds S1=>
   rw[eY,aN]at h;unfold zH at h;by_cases hs:ds.all iV=av
   ·rw[if_pos hs]at h;refine wpAny_JoinedStr (Hn hroom F I er sr e hs (by simpa[Str.length,Str.empty]using hw) λout s' m' H' I' st AA ho=>⟨ho,?_⟩);exact⟨.str out,H',I'.tok _,⟨_,rfl⟩,h m' H' (.str out) st AA (by show RD X.K m' H' .EC _;unfold RD;trivial)⟩
   ·rw[if_neg hs]at h;exact h.elim
end
end RK
namespace RK
open PySem L2
structure Sx where
 N:List Str
 names:List (Str×NameKind)
 fn:List (Str×Nat×Nat)
 ct:List (Str×Int)
 bl:List Str
 mu:List (Nat×Nat)
 isDef:Bool
 lp:Bool
 xc:List (Str×List Str)
 cl:List (Str×List Str×List (Str×Nat×Nat))
def aV{α β γ:Type}(f:α->β->γ):Option α->Option β->Option γ
 |some x,af y=>af (f x y)|_,_=>ah
def dR{α β γ δ:Type}(f:α->β->δ->γ):Option α->Option β->Option δ->Option γ
 |some x,af y,af z=>af (f x y z)|_,_,_=>ah
theorem bU{α β γ:Type}{a:Option α}{b:Option β}{f:α->β->γ}{c:γ}(h:aV f a b=af c):∃x y,a=af x/\b=af y/\f x y=c:=by
 cases a with
 |none=>cases h|some x=>cases b with|none=>cases h|some y=>exact⟨x,y,rfl,rfl,Ux h⟩
theorem lD{α β γ δ:Type}{a:Option α}{b:Option β}{d:Option δ}{f:α->β->δ->γ}{c:γ}(h:dR f a b d=af c):∃x y z,a=af x/\b=af y/\d=af z/\f x y z=c:=by
 cases a with
 |none=>cases h|some x=>cases b with
  |none=>cases h|some y=>cases d with|none=>cases h|some z=>exact⟨x,y,z,rfl,rfl,rfl,Ux h⟩
def cj{α γ:Type}{a:Option α}{f:α->γ}{c:γ}(h:a.map f=af c):∃x,a=af x/\f x=c:=by simp_all
def idx:List Str->Str->Option Nat
 |[],_=>ah|y::r,x=>if x=y then af 0 else(idx r x).map (·+1)
theorem iD:∀{N:List Str}{x:Str}{i:Nat},idx N x=af i->N[i]?=af x
 |[],x,i,h=>by cases h|y::r,x,i,h=>by
  unfold idx at h;by_cases e:x=y
  ·rw[if_pos e]at h;have:0=i:=by simpa using h
   subst this;rw[e];rfl
  ·rw[if_neg e]at h;cases q:idx r x with
   |none=>simp_all|some j=>
    rw[q]at h;have:j+1=i:=by simpa using h
    subst this;simpa using iD q
def pC(N:List Str):List Str->Option (List Nat)
 |[]=>af []|x::r=>aV (λi l=>(i::l)) (idx N x) (pC N r)
theorem u0{N:List Str}:∀{xs:List Str}{l:List Nat},pC N xs=af l->l.length=xs.length/\∀(j i:Nat)(x:Str),l[j]?=af i->xs[j]?=af x->N[i]?=af x
 |[],l,h=>by
  have:l=[]:=by simpa[pC]using h
  grind
 |y::r,l,h=>by
  unfold pC at h;obtain⟨k,t,e1,e2,e3⟩:=bU h;subst e3;obtain⟨h1,h2⟩:=u0 e2;refine⟨by simp[h1],λj i x hj hx=>?_⟩;cases j with
  |zero=>
   have e3:k=i:=by simpa using hj
   have e4:y=x:=by simpa using hx
   subst e3;subst e4;exact iD e1
  |succ j=>exact h2 j i x (by simpa using hj) (by simpa using hx)
def Sx.glob(sx:Sx)(x:Str):Bool:=sx.names.lookup x==af .globalImplicit && !(x==("__debug__" :Str)) && !(x==("__name__" :Str))
def Sx.blt(sx:Sx)(x:Str):Bool:=sx.glob x && sx.bl.contains x
def mL:List (Str×List Str×List (Str×Nat×Nat))->Str->Option Str
 |[],_=>ah|(c,fs,_)::r,f=>if fs.contains f then af c else mL r f
def u5:List (Str×List Str×List (Str×Nat×Nat))->Str->Option (Str×Nat×Nat)
 |[],_=>ah|(c,_,ms)::r,m=>match ms.lookup m with
  |some (f,np)=>af (c,f,np)|none=>u5 r m
def Ae(cl:List (Str×List Str×List (Str×Nat×Nat)))(m:Str)(n:Nat):Option (Str×Nat×Nat):=match u5 cl m with
 |some q=>if n+1=q.2.2 then af q else ah|none=>ah
def IZ:List (Str×List Str×List (Str×Nat×Nat))->Str->Option (Nat×Nat)
 |[],_=>ah| (c,_,ms)::r,x=>if c=x then ms.lookup ("__init__" :Str)else IZ r x
def nameOf:br->Option Str
 |.Name x _=>af x|_=>ah
def iY{e:br}{x:Str}(h:nameOf e=af x):∃p,e= .Name x p:=by
 cases e with|Name y p=>cases h;lia|_=>cases h
def fG:br->Option (Str×List br)
 |.Call f as ks _=>match ks with
  |[]=>(nameOf f).map λx=>(x,as)|_::_=>ah
 |_=>ah
theorem jH{e:br}{x:Str}{as:List br}(h:fG e=af (x,as)):∃p pos,e= .Call (.Name x p) as [] pos:=by
 cases e with
 |Call f as' ks pos=>
  cases ks with
  |cons _ _=>cases h|nil=>
   replace h:(nameOf f).map (λx=>(x,as'))=af (x,as):=h;cases q:nameOf f with
   |none=>simp_all|some y=>rw[q]at h;cases h;obtain⟨p,rfl⟩:=iY q;lia
 |_=>cases h
def iZ:br->Bool
 |.Set _ _ _=>av|_=>aS
def u9:br->Bool
 |.Tuple _ _ _=>av|_=>aS
def DP{e:br}(h:u9 e=av):∃ts kt pt,e= .Tuple ts kt pt:=by
 cases e with|Tuple ts kt pt=>lia|_=>cases h
def isCall:br->Bool
 |.Call _ _ _ _=>av|_=>aS
def Sx.BG(sx:Sx)(p:Pos):Bool:=sx.mu.contains (p.line,p.col)
def qx(x:Str)(a:br):Option (br×Pos×Pos):=if x= "sorted" then match a with
 |.Call fn as ks cpos=>match fn with
  |.Attribute o name apos=>match as with
   |[]=>match ks with
    |[]=>if name= "items" then af (o,apos,cpos)else ah|_::_=>ah
   |_::_=>ah
  |_=>ah
 |_=>ah
 else ah
def Ho{x:Str}{a:br}{q:br×Pos×Pos}(h:qx x a=af q):x= "sorted" /\a= .Call (.Attribute q.1 "items" q.2.1) [] [] q.2.2:=by unfold qx at h;lia
def Sx.HP(sx:Sx)(p:Pos):Bool:=sx.mu.contains (p.line,p.col+400000)
def Sx.HU(sx:Sx)(p:Pos):Bool:=sx.mu.contains (p.line,p.col+200000)
def Af(sx:Sx)(x:Str):Option E:=
 if(x==("__debug__" :Str)) || (x==("__classdict__" :Str))then ah else
 match sx.names.lookup x with
 |some .local=>(idx sx.N x).map .var|some .cell=>(idx sx.N x).map .var|some .free=>(idx sx.N x).map .var|some .globalImplicit=>(sx.ct.lookup x).map λi=> .cst (.int i)|_=>ah
def qy:Const->Option E
 |.int i=>af (.cst (.int i))|.bool b=>af (.cst (.bl b))|.none=>af (.cst .non)|.str x=>af (.cst (.str x))|_=>ah
def jZ(x:Str):Option Bi:=if x= "len" then af .len else if x= "min" then af .min else if x= "max" then af .max else if x= "abs" then af .abs else if x= "int" then af .int else ah
mutual
def CF(sx:Sx):Nat->br->Option Tg
 |0,_=>ah|n+1,e=>match e with
  |.Name x _=>if sx.names.lookup x=af .local\/(sx.isDef=av/\sx.names.lookup x=af .cell)then(idx sx.N x).map .name else ah|.Tuple es _ _=>(vd sx n es).map .tup|_=>ah
def vd(sx:Sx):Nat->List br->Option (List Tg)
 |0,_=>ah|n+1,es=>match es with
  |[]=>af []|e::r=>aV (λt ts=>(t::ts)) (CF sx n e) (vd sx n r)
end
def fY:Nat->br->List Str
 |0,_=> []|n+1,e=>match e with
  |.Name x _=> [x]|.Tuple es _ _=>es.flatMap (fY n)|_=> []
def Ag(sx:Sx)(scope:Scope):List (Str×NameKind):=scope.names.map λ(n,k)=>if(k== .free && av && sx.names.lookup n==af .cell)then(n,.cell)else(n,k)
def fQ(scope:Scope):List Str:=(scope.names.filter λp=>p.2== .free).map (·.1)
def inner(sx:Sx)(tg:br)(scope:Scope):Sx:={sx with N:=fY 5 tg++fQ scope,names:=Ag sx scope,isDef:=aS}
def iG(sx:Sx)(tg:br)(scope:Scope):Bool:=
 (scope.kind== .function) && scope.names.all (λy=>y.2 != .cell && (y.2 != .local || scope.names.lookup y.1==af .local) && (y.2 != .free || (sx.names.lookup y.1==af .cell || sx.names.lookup y.1==af .free)))
  && (fQ scope).all (λx=>scope.names.lookup x==af .free) && decide (fY 5 tg++fQ scope).Nodup
mutual
def cE:Nat->Sx->br->Option E
 |0,_,_=>ah|n+1,sx,e=>match e with
  |.Name x _=>Af sx x|.Constant c _ _=>qy c|.BinOp a o b _=>aV (λa' b'=>(.bin o a' b')) (cE n sx a) (cE n sx b)|.UnaryOp o a _=>match o with
   |.USub=>(cE n sx a).map .neg|.Not=>(cE n sx a).map .nt|_=>ah
  |.Compare a ops bs _=>match ops with
   |[]=>ah|o::ro=>match bs with
    |[]=>ah|b::rb=>match ro with
     |[]=>match rb with
      |[]=>if behindInMarks o b then ah else aV (λa' b'=>(.cmp o a' b')) (cE n sx a) (cE n sx b)|_::_=>ah
     |o'::HV=>match HV with
      |_::_=>ah|[]=>match rb with
       |[]=>ah|c::rc=>match rc with
        |_::_=>ah|[]=>ah
  |.BoolOp o es _=>I0 n sx o es|.IfExp c a b _=>dR (λc' a' b'=>(.ite c' a' b')) (cT n sx c) (cE n sx a) (cE n sx b)|.Tuple es _ _=>(AB n sx es).map .tup|.List es pos=>(AB n sx es).map (.lst (sx.BG pos))|.Dict ks vs _=>match ks with
   |[]=>match vs with
    |[]=>af .dct|_::_=>ah
   |_::_=>ah
  |.Subscript a i _=>match i with
   |.Slice lo hi st _=>match st with
    |some _=>ah|none=>match lo with
     |none=>match hi with
      |none=>ah|some b=>aV (λa' b'=>(.DB a' b')) (cE n sx a) (cE n sx b)
     |some b=>match hi with
      |none=>aV (λa' b'=>(.GW a' b')) (cE n sx a) (cE n sx b)|some c=>dR (λa' b' c'=>(.ED a' b' c')) (cE n sx a) (cE n sx b) (cE n sx c)
   |i=>aV (λa' b'=>(.ix a' b')) (cE n sx a) (cE n sx i)
  |.Call f as ks pos=>match ks with
   |_::_=>ah|[]=>match f with
    |.Name x _=>Ah n sx x as pos|.Attribute o name apos=>Aj n sx o name apos as pos|_=>ah
  |.Attribute a f _=>if isCall a then ah else match mL sx.cl f with
   |some c=>(cE n sx a).map (.fld c f)|none=>ah
  |.ListComp elt gens scope pos=>match gens with
   |[]=>ah|g::r=>match r with
    |_::_=>ah|[]=>if g.is_async=0 then JJ n sx elt g.target g.iter g.ifs scope pos else ah
  |.JoinedStr vs _=>match vs with
   |[]=>ah|v₁::r=>match r with
    |[]=>ah|v₂::r=>if GA (v₁::v₂::r)<=aT then(E1 n sx (v₁::v₂::r)).map .fmt else ah
  |_=>ah
def E1:Nat->Sx->List br->Option (List E)
 |0,_,_=>ah|n+1,sx,vs=>match vs with
  |[]=>af []|v::r=>match v with
   |.Constant c _ _=>match c with
    |.str _=>E1 n sx r|_=>ah
   |.FormattedValue e c sp _=>match sp with
    |some _=>ah|none=>if c=114 then aV (λe' r'=>(e'::r')) (cE n sx e) (E1 n sx r)else ah
   |_=>ah
def JJ:Nat->Sx->br->br->br->List br->Scope->Pos->Option E
 |0,_,_,_,_,_,_,_=>ah|n+1,sx,elt,tg,iter,ifs,scope,pos=>
  if iG sx tg scope=av then(cI n sx iter).bind λi'=>(CF (inner sx tg scope) n tg).bind λt'=>(JO n (inner sx tg scope) ifs).bind λfs'=>(cE n (inner sx tg scope) elt).bind λe'=>(pC sx.N (fQ scope)).map λcap=>.comp (sx.BG pos) e' t' i' fs' (fY 5 tg).length cap
  else ah
def Ah:Nat->Sx->Str->List br->Pos->Option E
 |0,_,_,_,_=>ah|n+1,sx,x,as,pos=>if sx.glob x=av then match sx.fn.lookup x with
   |some fp=>(AB n sx as).bind λes=>match es with
    |[]=>ah|a'::as'=>if as'.length+1=fp.2 then af (.call fp.1 (a'::as'))else ah
   |none=>match IZ sx.cl x with
    |some fp=>(AB n sx as).bind λes=>match es with
     |[]=>ah|a'::as'=>if as'.length+2=fp.2 then af (.new x fp.1 (a'::as'))else ah
    |none=>if sx.bl.contains x=av then match jZ x with
      |some f=>(AB n sx as).bind λes=>match es with
       |[]=>ah|a'::as'=>af (.bi f (a'::as'))
      |none=>Ai n sx x as pos
     else ah
  else ah
def Ai:Nat->Sx->Str->List br->Pos->Option E
 |0,_,_,_,_=>ah|n+1,sx,x,as,pos=>match as with
  |[]=>ah|a::r=>match r with
   |[]=>match fG a with
    |none=>n8 n sx x a pos|some (y,bs)=>if y= "range" /\sx.blt "range" =av/\x= "list" then match bs with
      |[]=>ah|b::r2=>match r2 with
       |[]=>(cE n sx b).map λb'=> .col (if x= "list" then .list (sx.BG pos)else .tuple) (.lP b')|c::r3=>ah
     else n8 n sx x a pos
   |c::r2=>match r2 with
    |_::_=>ah|[]=>ah
def n8:Nat->Sx->Str->br->Pos->Option E
 |0,_,_,_,_=>ah|n+1,sx,x,a,pos=>match qx x a with
  |some q=>if isCall q.1=aS/\(q.2.1.endLine==q.2.2.line)=av then(cE n sx q.1).map .E7 else ah|none=>match cE n sx a with
  |none=>ah|some a'=>if x= "list" then af (.col (.list (sx.BG pos)) (.snap a'))else if x= "tuple" then af (.col .tuple (.snap a'))else if x= "sorted" then af (.col (.sorted (sx.BG pos)) (.live a'))else ah
def Aj:Nat->Sx->br->Str->Pos->List br->Pos->Option E
 |0,_,_,_,_,_,_=>ah|n+1,sx,o,name,apos,as,pos=>if isCall o=aS/\(apos.endLine==pos.line)=av/\as.length+1<30 then(cE n sx o).bind λo'=>(AB n sx as).bind λas'=>match Ae sx.cl name as'.length with
   |some q=>af (.kD q.1 name q.2.1 o' as')|none=>match as' with
    |[]=>ah|a'::r=>match r with
     |b'::r2=>match r2 with
      |_::_=>ah|[]=>if name= "setdefault" then af (.F6 o' [a',b'])else ah
     |[]=>if name= "append" then af (.meth .append o' [a'])else if name= "pop" then af (.meth .lI o' [a'])else if name= "extend" then af (.meth .extend o' [a'])else ah
  else ah
def AB:Nat->Sx->List br->Option (List E)
 |0,_,_=>ah|n+1,sx,es=>match es with
  |[]=>af []|e::r=>aV (λe' r'=>(e'::r')) (cE n sx e) (AB n sx r)
def I0:Nat->Sx->BoolOp->List br->Option E
 |0,_,_,_=>ah|n+1,sx,o,es=>match es with
  |[a]=>cE n sx a|a::b::r=>aV (λa' b'=>(match o with|.And=> .and a' b'|.Or=> .or a' b')) (cE n sx a) (I0 n sx o (b::r))
  |[]=>ah
def cT:Nat->Sx->br->Option T
 |0,_,_=>ah|n+1,sx,e=>match e with
  |.UnaryOp .Not a _=>(cT n sx a).map .nt|.BoolOp o es _=>JU n sx o es|.IfExp _ _ _ _=>ah|.Compare a ops bs _=>match ops with
   |[]=>ah|o::ro=>match bs with
    |[]=>ah|b::rb=>match ro with
     |[]=>match rb with
      |[]=>if behindInMarks o b then ah else aV (λa' b'=>(.val (.cmp o a' b'))) (cE n sx a) (cE n sx b)|_::_=>ah
     |o'::HV=>match HV with
      |_::_=>ah|[]=>match rb with
       |[]=>ah|c::rc=>match rc with
        |_::_=>ah|[]=>ah
  |e=>(cE n sx e).map .val
def JU:Nat->Sx->BoolOp->List br->Option T
 |0,_,_,_=>ah|n+1,sx,o,es=>match es with
  |[a]=>cT n sx a|a::b::r=>aV (λa' b'=>(match o with|.And=> .and a' b'|.Or=> .or a' b')) (cT n sx a) (JU n sx o (b::r))
  |[]=>ah
def JO:Nat->Sx->List br->Option (List T)
 |0,_,_=>ah|n+1,sx,es=>match es with
  |[]=>af []|e::r=>aV (λe' r'=>(e'::r')) (cT n sx e) (JO n sx r)
def cI:Nat->Sx->br->Option It
 |0,_,_=>ah|n+1,sx,e=>match fG e with
  |none=>if iZ e=av then ah else(cE n sx e).map .seq|some (x,bs)=>if x= "range" /\sx.blt "range" =av then match bs with
    |[]=>ah|b::r2=>match r2 with
     |[]=>(cE n sx b).map .lP|c::r3=>ah
   else(cE n sx e).map .seq
end
def iR(sx:Sx)(y:Str):List Str:=(sx.xc.filter λp=>p.2.contains y).map (·.1)
def pD(sx:Sx)(y:Str):List Str:=(sx.xc.filter λp=>!p.2.contains y).map (·.1)
def t8(fn:br)(as:List br)(ks:List Keyword):Option (Str×br×Str):=match ks with
 |_::_=>ah|[]=>match as with
  |[]=>ah|a::r=>match r with
   |[]=>ah|b::r'=>match r' with
    |_::_=>ah|[]=>aV (λf y=>(f,a,y)) (nameOf fn) (nameOf b)
mutual
def C1:Nat->Sx->br->Option E
 |0,_,_=>ah|n+1,sx,e=>match e with
  |.Name x _=>if((x==("__debug__" :Str))=aS/\(x==("__classdict__" :Str))=aS)/\sx.names.lookup x=af .local then(idx sx.N x).map .var else ah|.Constant c _ _=>qy c|.UnaryOp o a _=>match o with
   |.Not=>(C1 n sx a).map .nt|_=>ah
  |.BoolOp o es _=>match o with
   |.And=>M0 n sx es|.Or=>ah
  |.Call fn as ks _=>match t8 fn as ks with
   |some (f,a,y)=>if(f= "isinstance" /\sx.blt "isinstance" =av)/\(((sx.xc.lookup y).isSome=av/\sx.glob y=av)\/(y= "ValueError" /\sx.blt "ValueError" =av))then(C1 n sx a).map λa'=> .EX a' (iR sx y) (pD sx y)else ah|none=>ah
  |_=>ah
def M0:Nat->Sx->List br->Option E
 |0,_,_=>ah|n+1,sx,es=>match es with
  |[a]=>C1 n sx a|a::b::r=>aV (λa' b'=> .and a' b') (C1 n sx a) (M0 n sx (b::r))|[]=>ah
end
mutual
def GB:Nat->Sx->br->Option T
 |0,_,_=>ah|n+1,sx,e=>match e with
  |.UnaryOp .Not a _=>(GB n sx a).map .nt|.BoolOp .And es _=>Ak n sx es|.Call f as ks p=>(C1 n sx (.Call f as ks p)).map .val|_=>ah
def Ak:Nat->Sx->List br->Option T
 |0,_,_=>ah|n+1,sx,es=>match es with
  |[a]=>GB n sx a|a::b::r=>aV (λa' b'=> .and a' b') (GB n sx a) (Ak n sx (b::r))|[]=>ah
end
mutual
def OM:Nat->Sx->eL->Option C
 |0,_,_=>ah|n+1,sx,st=>match st with
  |.Assign ts e _=>match ts with
   |[]=>ah|t::r=>match r with
    |_::_=>ah|[]=>match nameOf t with
     |none=>ah|some x=>if sx.names.lookup x=af .local then aV (λi e'=> .asg (.name i) e') (idx sx.N x) (C1 n sx e)else ah
  |.If c a b _=>dR (λc' a' b'=>(.cond c' a' b')) (GB n sx c) (jP n sx a) (jP n sx b)|.Pass _=>af .pass|_=>ah
def jP:Nat->Sx->List eL->Option (List C)
 |0,_,_=>ah|n+1,sx,ss=>match ss with
  |[]=>af []|s::r=>aV (λs' r'=>(s'::r')) (OM n sx s) (jP n sx r)
end
def M1(sx:Sx)(nm:Option Str):Option (Option Nat):=match nm with
 |none=>af ah|some x=>if sx.names.lookup x=af .local then(idx sx.N x).map af else ah
def Jo:br->Bool
 |.Constant c _ _=>match c with
  |.str _=>av|_=>aS
 |_=>aS
def gY:br->Bool
 |.ListComp _ _ _ _=>av|.SetComp _ _ _ _=>av|.DictComp _ _ _ _ _=>av|_=>aS
def mO:br->Bool
 |.Tuple _ _ _=>av|.SetComp _ _ _ _=>av|.DictComp _ _ _ _ _=>av|_=>aS
def mQ(sx:Sx)(tg it:br):Option Expr:=if u9 tg=av then match fG it with
  |none=>ah|some (x,as)=>match as with
   |[]=>ah|b::r=>match r with
    |_::_=>ah|[]=>if x= "enumerate" /\sx.blt "enumerate" =av then af b else ah
 else ah
def raiseOf(ex:Option br):Option (Str×br×List br):=match ex with
 |none=>ah|some e=>match fG e with
  |none=>ah|some (c,as)=>match as with
   |[]=>ah|e₀::r=>af (c,e₀,r)
def uc(hs:List ExceptHandler)(oe fb:List eL):Option (Str×Option Str×eL×List eL):=match oe with
 |_::_=>ah|[]=>match fb with
  |_::_=>ah|[]=>match hs with
   |[]=>ah|h::r=>match r with
    |_::_=>ah|[]=>match h with
     |.ExceptHandler ty nm bd _=>match ty with
      |none=>ah|some e=>match bd with
       |[]=>ah|b₀::hb=>(nameOf e).map λcn=>(cn,nm,b₀,hb)
def Al(e:br):Option (br×Comprehension×Scope×Pos):=match e with
 |.ListComp elt gens scope lp=>match gens with
  |[]=>ah|g::r=>match r with
   |_::_=>ah|[]=>if g.is_async=0 then af (elt,g,scope,lp)else ah
 |_=>ah
mutual
def cC:Nat->Sx->eL->Option C
 |0,_,_=>ah|n+1,sx,st=>match st with
  |.Assign ON e pos=>match ON with
   |[]=>ah|tg::r=>match r with
    |[]=>Hq n sx tg e pos|_::_=>ah
  |.Expr e pos=>if Jo e=av then af .pass else if gY e=av then ah else(cE n sx e).map .ex|.If c a b _=>dR (λc' a' b'=>(.cond c' a' b')) (cT n sx c) (B9 n sx a) (B9 n sx b)|.For tg it a oe pos=>match oe with
   |_::_=>ah
   |[]=>if sx.lp=av then(if sx.HP pos=av then(if ¬iZ it=av then dR (λt' e' a'=>(.CB t' e' a')) (CF sx n tg) (cE n sx it) (B9 n sx a)else ah)else match mQ sx tg it with
     |some b=>dR (λt' i' a'=>(.fr t' (.A9 i') a')) (CF sx n tg) (cE n sx b) (B9 n sx a)
     |none=>dR (λt' i' a'=>(.fr t' i' a')) (CF sx n tg) (cI n sx it) (B9 n sx a))
    else ah
  |.Return e _=>match e with
   |some e=>(cE n sx e).map .ret|none=>af .GY
  |.Pass _=>af .pass|.Break _=>af .brk|.Continue _=>af .cont|.Raise ex cs _=>match cs with
   |some _=>ah|none=>match raiseOf ex with
    |some (c,e₀,r)=>if(sx.xc.lookup c).isSome=av/\sx.glob c=av/\r.length<=30 then(AB n sx (e₀::r)).map (.raise c)else ah|none=>ah
  |.Try body hs oe fb _=>match uc hs oe fb with
   |some (cn,nm,b₀,hb)=>if(sx.xc.lookup cn).isSome=av/\sx.glob cn=av then dR (λbs i hs=>(.tr bs (iR sx cn) i hs)) (B9 n {sx with lp:=aS} body) (M1 sx nm) (jP n sx (b₀::hb))else ah
   |none=>ah
  |_=>ah
def Hq:Nat->Sx->br->br->Pos->Option C
 |0,_,_,_,_=>ah|n+1,sx,tg,e,pos=>match tg with
  |.Subscript o i _=>dR (λo' i' e'=>(.sub o' i' e')) (cE n sx o) (cE n sx i) (cE n sx e)|.Attribute o f _=>if gY e=av then ah else match mL sx.cl f with
   |some c=>aV (λo' e'=>(.fset c f o' e')) (cE n sx o) (cE n sx e)|none=>ah
  |.Tuple ts kt pt=>if mO e=av then ah else aV (λt e'=>(.asg t e')) (CF sx n (.Tuple ts kt pt)) (cE n sx e)|.Name x xp=>match Al e with
   |some (elt,g,scope,lp)=>aV (λt e'=>(.asg t e')) (CF sx n (.Name x xp)) (JJ n sx elt g.target g.iter g.ifs scope lp)|none=>if gY e=av then ah else aV (λt e'=>(.asg t e')) (CF sx n (.Name x xp)) (cE n sx e)
  |_=>ah
def B9:Nat->Sx->List eL->Option (List C)
 |0,_,_=>ah|n+1,sx,ss=>match ss with
  |[]=>af []|s::r=>if sx.HU s.pos=av then af [.no]else aV (λs' r'=>(s'::r')) (cC n sx s) (B9 n sx r)
end
end RK
namespace RK
open PySem Sem
open AutoSeq1 (wpAny_loadPart')
section
variable{prog:bX}{w:ck}{A:cy}{E:ai->aE->Prop}{s:aE}
def Hr{it t:ay}{i:Nat}{its:Array ai}{x:ai}{Q:ai->aE->Prop}(hi:s.heap.IsTupleIter it t i)(ht:s.heap.IsTuple t its)(hx:its[i]?=af x)(q:∀h',h'.IsTupleIter it t (i+1)->Heap.SameBut it s.heap h'->Q x {s with heap:=h'}):bg (model prog w) A (Builtin.SmallTypes.nextOf (.ref it)) Q E s:=by obtain⟨oi,hoi,ci,di⟩:=id hi;obtain⟨ot,hot,_,nt,dt⟩:=ht;unfold Builtin.SmallTypes.nextOf;refine My (V1 (name:=Str.ofString "__next__") hi.typeIs WX (VV WX hi.typeIs F.entry_tuple_iterator_next ?_ (F.args_tuple_iterator_next_1 _)));show bg _ _ (field (.ref it) 0>>=_) _ _ s;refine My (Vs hoi di (x:= .ref t) rfl ?_);show bg _ _ (if(Value.ref t==Value.none)=av then _ else _) _ _ s;rw[if_neg (show ¬((Value.ref t==Value.none)=av)from Bool.false_ne_true)];show bg _ _ (field (.ref it) 1>>=_) _ _ s;refine My (Vs hoi di (x:= .int i 0) rfl ?_);show bg _ _ (seqItems? (.ref t)>>=_) _ _ s;refine My (wpAny_seqItems hot dt ?_);simp only[iN,hx];refine My (W6 hoi di (by simp) (Uw ⟨x,rfl,Uw (q _ ⟨_,Wd _ hoi (WQ (Wv di _)),(Obj.cls_mapFields ..).trans ci,?_⟩ (Heap.SameBut.update ..))⟩));rw[Wv di];simp[rawInt]
def K6{it t:ay}{i:Nat}{its:Array ai}{Q:ai->aE->Prop}(hh:A.handled=ah)(hi:s.heap.IsTupleIter it t i)(ht:s.heap.IsTuple t its)(hx:its[i]?=ah)(q:∀h' e,Heap.ExtBut it s.heap h'->(∃o,h'.get? e=af o/\o.cls= .type "StopIteration")->E (.ref e) {s with heap:=h'}):bg (model prog w) A (Builtin.SmallTypes.nextOf (.ref it)) Q E s:=by
 obtain⟨oi,hoi,ci,di⟩:=id hi;obtain⟨ot,hot,_,nt,dt⟩:=ht;unfold Builtin.SmallTypes.nextOf;refine My (V1 (name:=Str.ofString "__next__") hi.typeIs WX (VV WX hi.typeIs F.entry_tuple_iterator_next ?_ (F.args_tuple_iterator_next_1 _)));show bg _ _ (field (.ref it) 0>>=_) _ _ s;refine My (Vs hoi di (x:= .ref t) rfl ?_);show bg _ _ (if(Value.ref t==Value.none)=av then _ else _) _ _ s;rw[if_neg (show ¬((Value.ref t==Value.none)=av)from Bool.false_ne_true)];show bg _ _ (field (.ref it) 1>>=_) _ _ s;refine My (Vs hoi di (x:= .int i 0) rfl ?_);show bg _ _ (seqItems? (.ref t)>>=_) _ _ s;refine My (wpAny_seqItems hot dt ?_);simp only[iN,hx];refine My (Xh (My (W6 hoi di (by simp) ?_)));show bg _ _ (newExc (.type "StopIteration") []>>=_) _ _ _;refine My ?_;simp only[newExc,newTuple];refine My (VF (My (m:=firstArgMember _ _) (wpAny_of_eq (a:=Value.none) (by rfl) (VF ?_ (by size_fits)))) (by size_fits));simp only[raiseNew];refine My (wpAny_handled ?_)
 first|rw[show A.in1.handled=ah from hh]|rw[hh]
 exact My (Uw (wpAny_throw (q _ _ (((Heap.SameBut.update ..).extBut.push _).push _) ⟨_,UW _ rfl,rfl⟩)))
def DQ{e it:ay}{i:Nat}{x old:ai}{N:cK->Prop}{Q:Option ai->aE->Prop}(he:IsEnum s.heap e it i old)(hne:e≠it)(hn:∀(A:cy)(E:ai->aE->Prop)(Q:ai->aE->Prop),(∀h',N h'->Heap.SameBut it s.heap h'->Q x {s with heap:=h'})->bg (model prog w) A (Builtin.SmallTypes.nextOf (.ref it)) Q E s)(hN:∀h h',N h->(∀o,h.get? it=af o->h'.get? it=af o)->N h')(q:∀h',IsEnumOut h' e it ((i:Int)+1) x s.heap.objs.size->N h'->h'.get? s.heap.objs.size=af {cls:= .type "tuple",data:= .seq #[.int i s.toks,x]}->h'.objs.size=s.heap.objs.size+1->
   (∀b o,b≠e->b≠it->s.heap.get? b=af o->h'.get? b=af o)->Q (af (.ref s.heap.objs.size)) {s with heap:=h',toks:=s.toks+1}):bg (model prog w) A (pyNext (.ref e)) Q E s:=by
 have hT:s.TypeIs (.ref e) "enumerate" :=⟨_,he,rfl⟩
 have hni:it≠e:=Ne.symm hne;unfold pyNext;refine My (Xf (V1 (name:=Str.ofString "__next__") hT F.slot_enumerate_next (VV F.slot_enumerate_next hT F.entry_enumerate_next ?_ (F.args_enumerate_next_1 _))));obtain⟨hp,g,d,tk,os⟩:=s;have hel:e<hp.objs.size:=U4 he;show bg _ _ (field (.ref e) 2>>=_) _ _ _;refine My (Vs he rfl (x:= .ref it) rfl (My (hn _ _ _ λh1 n1 (s1:Heap.SameBut it hp h1)=>?_)));have e1:IsEnum h1 e it i old:=(s1.2 e hne).trans he;show bg _ _ (field (.ref e) 3>>=_) _ _ ⟨h1,g,d,tk,os⟩;refine My (Vs e1 rfl (x:=rawInt i) rfl ?_);show bg _ _ (field (.ref e) 4>>=_) _ _ ⟨h1,g,d,tk,os⟩;refine My (Vs e1 rfl (x:= .none) rfl ?_);show bg _ _ (mkInt i>>=_) _ _ ⟨h1,g,d,tk,os⟩;refine My (wpAny_mkInt ?_);show bg _ _ (setField (.ref e) 3 (rawInt ((i:Int)+1))>>=_) _ _ ⟨h1,g,d,tk+1,os⟩;refine My (VN e1 (by simp) λh2 (e2:IsEnum h2 e it ((i:Int)+1) old) (s2:Heap.SameBut e h1 h2)=>?_);show bg _ _ (setField (.ref e) 4 .none>>=_) _ _ ⟨h2,g,d,tk+1,os⟩;refine My (VN e2 (by simp) λh3 (e3:IsEnum h3 e it ((i:Int)+1) old) (s3:Heap.SameBut e h2 h3)=>?_);show bg _ _ (newTuple [.int i tk,x]>>=_) _ _ ⟨h3,g,d,tk+1,os⟩;refine My (wpAny_newTuple ?_);have z3:h3.objs.size=hp.objs.size:=by rw[s3.1,s2.1,s1.1]
 obtain⟨h4,LO⟩:∃h4,h4=h3.push {cls:= .type "tuple",data:= .seq #[.int i tk,x]}:=⟨_,rfl⟩
 have e4:IsEnum h4 e it ((i:Int)+1) old:=by rw[LO];exact Uv _ e3
 have t4:h4.get? hp.objs.size=af {cls:= .type "tuple",data:= .seq #[.int i tk,x]}:=by rw[LO,←z3];exact UW _ rfl
 have z4:h4.objs.size=hp.objs.size+1:=by rw[LO,Xm,z3]
 have k4:∀b o,b≠e->h1.get? b=af o->h4.get? b=af o:=λb o hb ho=>by rw[LO];exact Uv _ (s3.extBut b o hb (s2.extBut b o hb ho))
 show bg _ _ (Builtin.SmallTypes.ownedTupleIsFree (.ref e)>>=_) _ _ ⟨h3.push {cls:= .type "tuple",data:= .seq #[.int i tk,x]},g,d,tk+1,os⟩;rw[z3,←LO];refine My ?_;unfold Builtin.SmallTypes.ownedTupleIsFree;refine My (Vs e4 rfl (x:= .none) rfl (Uw ?_));simp only[if_true];refine My (Xh (My (Vs e4 rfl (x:=old) rfl (My (VN e4 (by simp) λh5 (e5:IsEnum h5 e it ((i:Int)+1) x) (s5:Heap.SameBut e h4 h5)=>?_)))));show bg _ _ (Builtin.SmallTypes.ownedTupleHandOut (.ref e) (.ref hp.objs.size)>>=_) _ _ ⟨h5,g,d,tk+1,os⟩;refine My ?_;unfold Builtin.SmallTypes.ownedTupleHandOut;refine My (VN e5 (by simp) λh6 (e6:IsEnumOut h6 e it ((i:Int)+1) x hp.objs.size) (s6:Heap.SameBut e h5 h6)=>?_);refine VN e6 (by simp) λh7 (e7:IsEnumOut h7 e it ((i:Int)+1) x hp.objs.size) (s7:Heap.SameBut e h6 h7)=>?_;have k7:∀b o,b≠e->h4.get? b=af o->h7.get? b=af o:=λb o hb ho=>s7.extBut b o hb (s6.extBut b o hb (s5.extBut b o hb ho));refine My (wpAny_letGo (Uw ⟨_,rfl,Uw (q h7 e7 (hN h1 h7 n1 λo ho=>k7 it o hni (k4 it o hni ho)) (k7 _ _ (VP hel) t4) ?_ λb o hb hbi ho=>k7 b o hb (k4 b o hb (s1.extBut b o hbi ho)))⟩));rw[s7.1,s6.1,s5.1,z4]
def Hs{e it:ay}{i:Nat}{old:ai}{Q:Option ai->aE->Prop}(he:IsEnum s.heap e it i old)(hn:∀(A':cy)(E:ai->aE->Prop)(Q:ai->aE->Prop),A'.handled=A.handled->(∀h' e,Heap.ExtBut it s.heap h'->(∃o,h'.get? e=af o/\o.cls= .type "StopIteration")->E (.ref e) {s with heap:=h'})->bg (model prog w) A' (Builtin.SmallTypes.nextOf (.ref it)) Q E s)(q:∀h',Heap.ExtBut it s.heap h'->Q ah {s with heap:=h'}):bg (model prog w) A (pyNext (.ref e)) Q E s:=by
 have hT:s.TypeIs (.ref e) "enumerate" :=⟨_,he,rfl⟩
 unfold pyNext;refine My (Xf (V1 (name:=Str.ofString "__next__") hT F.slot_enumerate_next (VV F.slot_enumerate_next hT F.entry_enumerate_next ?_ (F.args_enumerate_next_1 _))));show bg _ _ (field (.ref e) 2>>=_) _ _ _;refine My (Vs he rfl (x:= .ref it) rfl (My (hn _ _ _ rfl λh' x he' hx'=>?_)));obtain⟨o,ho,hc⟩:=hx';exact My (wpAny_isInstance (T:= "StopIteration") (b:=av) ⟨o,ho,hc⟩ isSubtype_stop (Uw (q _ he')))
end
def q9(l:ay)(items:Array ai):
  Meets (Builtin.«enumerate.__new__» ⟨[.type "enumerate",.ref l],[]⟩) (λ_ R s=>s.heap.IsTuple l items/\
   R (.ok (.ret (.ref (s.heap.push {cls:= .type "tuple_iterator",data:= .fields #[.ref l,.int 0 0]}).objs.size)))
    {s with heap:=(s.heap.push {cls:= .type "tuple_iterator",data:= .fields #[.ref l,.int 0 0]}).push {cls:= .type "enumerate",data:= .fields #[.none,.bool aS,.ref s.heap.objs.size,rawInt 0,.none,.none]}}):=
 .of_wp λprog w A R s h=>by
  obtain⟨hp,g,d,tk,os⟩:=s;obtain⟨hl,h⟩:=h;have hsub:=sub_enumerate;have hT:Heap.IsTuple (Shared.heap ⟨hp,g,d,tk,os⟩) l items:=hl;obtain⟨ol,hol,hcl,nl,hdl⟩:=id hl
  wp_walk using Wy hT.typeIs,Xg hT
  refine wpAny_stack_any λst=>Uw ?_;split
  ·rename_i c _ _ _ _ _;cases(c==Value.type "enumerate")
   ·wp_walk using Wy hT.typeIs,Xg hT
    exact⟨_,rfl,h⟩
   ·wp_walk using Wy hT.typeIs,Xg hT
    exact⟨_,rfl,h⟩
  ·wp_walk using Wy hT.typeIs,Xg hT
   exact⟨_,rfl,h⟩
def tZ{prog:bX}{w:ck}{A:cy}{E:ai->aE->Prop}{s:aE}{l:ay}{items:Array ai}{Q:ai->aE->Prop}(hl:s.heap.IsTuple l items)(h:∀h',IsEnum h' (s.heap.objs.size+1) s.heap.objs.size 0 .none->h'.IsTupleIter s.heap.objs.size l 0->h'.objs.size=s.heap.objs.size+2->(∀b o,s.heap.get? b=af o->h'.get? b=af o)->Q (.ref (s.heap.objs.size+1)) {s with heap:=h'}):
  bg (model prog w) A (call (.type "enumerate") [.ref l]) Q E s:=by
 have hz:(s.heap.push {cls:= .type "tuple_iterator",data:= .fields #[.ref l,.int 0 0]}).objs.size=s.heap.objs.size+1:=Xm ..;refine callType_new F.called_enumerate (by decide) (F.typeCall_enumerate_1 _) (F.newCall_enumerate_1 _) (λobj=>F.args_object_init_2 obj _) F.entry_enumerate_new (q9 l items) ⟨hl,?_⟩;show _/\_;rw[hz];have he:IsEnum ((s.heap.push {cls:= .type "tuple_iterator",data:= .fields #[.ref l,.int 0 0]}).push {cls:= .type "enumerate",data:= .fields #[.none,.bool aS,.ref s.heap.objs.size,rawInt 0,.none,.none]}) (s.heap.objs.size+1) s.heap.objs.size 0 .none:=by rw[←hz];exact UW _ rfl
 exact⟨⟨_,he,rfl⟩,h _ he ⟨_,Uv _ (UW _ rfl),rfl,rfl⟩ (by simp) λb o x=>Uv _ (Uv _ x)⟩
end RK
namespace L2
open PySem PySem.Spec PyProof.Rows
section
variable{X:Cx}{pins:List (ay×Obj)}{σ:List (Option V)}{H:Hp}{s:aE}{h':cK}
def Inv.turns{t':Nat}{ch:List ay}(I:Inv X pins σ H s)(k:∀b o,b∉ch->s.heap.get? b=af o->h'.get? b=af o)(hc:∀b∈ch,eO X pins H b):Inv X pins σ H {s with heap:=h',toks:=t'}:=by
 have SH:∀b u,H b=af u->b∉ch:=λb u e z=>by rw[(hc b z).1]at e;cases e
 refine I.step (g':=s.gens) (d':=s.drawn) (ch:=ch) (λb hb=>?_) (λb o _ _ hc e _=>k b o hc e) (λb o _ _ hc e _=>⟨o.slots,k b o hc e⟩) (λ_ _ _ _ n=>n)
  (λb o hc e=>⟨o,k b o hc e⟩) (λ_ _ e=>e) (λ_ _ _ e=>e) (λb ps e=>⟨#[],by rw[e];simp⟩) (λm hm=>?_) (λb u e=>?_) I.bare
 ·obtain⟨_,h1,_,h3,h4,h5⟩:=hc b hb;exact⟨h3,h1,h4,h5⟩
 ·obtain⟨o,es,ep,ho,r⟩:=hm;exact⟨o,es,ep,k _ o (λz=>(hc _ z).2.1 rfl) ho,r⟩
 ·refine(I.hok b u e).stay (λc v hc q=>k c v ?_ q) (λ_ q=>q) λ_ _ q=>q
  grind
end
def OO(K:aI)(a:ay):It:=
 ⟨λi H=>∃xs x,sR K H a xs/\xs[i]?=af x,λi H x H'=>∃p v,H p=ah/\x= .ref p/\H'=upd H p (.tup [.int i,v])/\∀xs,sR K H a xs->xs[i]?=af v,λi H=>∃xs,sR K H a xs/\xs.length<=i⟩
def DR{P:bX}{w:ck}{K:aI}{es:List br}{k:Nat}{pos:Pos}(a e it:ay)(hne:e≠it):
  Turn P w K (.Tuple es k pos) (OO K a) [e,it] e (λi h=>(∃old,IsEnum h e it i old)/\h.IsTupleIter it a i)where
 mem:=by simp
 obj:=λi h st b hb=>by
  obtain⟨⟨old,he⟩,o,ho,_,hd⟩:=st
  grind
 keep:=λi h h' st k=>by obtain⟨⟨old,he⟩,o,ho,r⟩:=st;exact⟨⟨old,k e (by simp) _ he⟩,o,k it (by simp) _ ho,r⟩
 item:=by
  intro X hP hw hK hc i pins s σ H E I hf st hg;subst hP hw hK;obtain⟨⟨old,he⟩,hi⟩:=st;obtain⟨xs,x,hq,hx⟩:=hg;obtain⟨its,rv,p,hz⟩:=I.tuple hq;obtain⟨u,hu,ru⟩:=rv.get hx;have fe:=hf e (by simp);have fi:=hf it (by simp);have hel:e<s.heap.objs.size:=U4 he;have hil:it<s.heap.objs.size:=by obtain⟨o,ho,_⟩:=hi;exact U4 ho
  refine RK.DQ (N:=λh=>h.IsTupleIter it a (i+1)) he hne (λA' E' Q' q=>RK.Hr hi (show s.heap.IsTuple a its.toArray from p) (x:=u) (by simpa using hu) q) (λh h' n k=>?_) λh1 e1 n1 t1 z1 k1=>?_
  ·obtain⟨o,ho,r⟩:=n;exact⟨o,k o ho,r⟩
  ·refine⟨_,rfl,wpAny_letOwnedTupleGo_enum e1 λh2 e2 sb=>?_⟩;have hfr:H s.heap.objs.size=none:=I.hok.fresh (Uz _);have I1:Inv X pins σ (upd H s.heap.objs.size (.tup [.int i,x])) {s with heap:=s.heap.push {cls:= .type "tuple",data:= .seq #[.int i s.toks,u]},toks:=s.toks+1}:=
    I.laid (t':=s.toks+1) (o:= .tup [.int i,x]) (λb o e=>Uv _ e) (Uz _) ⟨by simp[VL],[.int i s.toks,u],.cons ⟨_,rfl⟩ (.cons ru .nil),IsTup.new _ _,_,UW _ rfl,rfl,rfl⟩
   have fp:∀b∈ [e,it],eO X pins (upd H s.heap.objs.size (.tup [.int i,x])) b:=λb hb=>by
    have hf':=hf b hb;have C2:b≠s.heap.objs.size:=by
     rcases(show b=e\/b=it by simpa using hb)with rfl|rfl
     ·exact Vb hel
     ·exact Vb hil
    exact⟨by rw[aB C2];exact hf'.1,hf'.2⟩
   have I2:=I1.turns (h':=h2) (t':=s.toks+1) (ch:=[e,it]) (λb o hb ho=>by
    have hbe:b≠e:=λz=>hb (by simp[z]);have hbi:b≠it:=λz=>hb (by simp[z]);refine(sb.2 b hbe).trans ?_;by_cases hbs:b=s.heap.objs.size
    ·subst hbs;have e3:(s.heap.push {cls:= .type "tuple",data:= .seq #[.int i s.toks,u]}).get? s.heap.objs.size=af {cls:= .type "tuple",data:= .seq #[.int i s.toks,u]}:=UW _ rfl;lia
    ·rw[Heap.get?_push_ne _ _ _ hbs]at ho;exact k1 b o hbe hbi ho) fp
   refine⟨.ref s.heap.objs.size,_,I2,rfl,⟨s.heap.objs.size,x,hfr,rfl,rfl,λys hy=>by rw[I.BH hy hq];exact hx⟩,⟨⟨_,e2⟩,?_⟩,λb hb=>(fp b hb).1⟩;obtain⟨o,ho,r⟩:=n1;exact⟨o,(sb.2 it (Ne.symm hne)).trans ho,r⟩
 done:=by intro X hP hw hK hc i pins s σ H E I hf st hg;subst hP hw hK;obtain⟨⟨old,he⟩,hi⟩:=st;obtain⟨xs,hq,hx⟩:=hg;obtain⟨its,rv,p,hz⟩:=I.tuple hq;have hl:=rv.length;exact RK.Hs he (λA' E' Q' hA q=>RK.K6 (hA.trans (I.ok.hd hc)) hi (show s.heap.IsTuple a its.toArray from p) (by simp;lia) q) λh' eb=>⟨rfl,I.turns (t':=s.toks) (ch:=[e,it]) (λb o hb ho=>eb b o (λz=>hb (by simp[z])) ho) hf⟩
 self:=λ_ _ _ _ _ st h=>by obtain⟨⟨old,he⟩,_⟩:=st;exact wpAny_pyIter_enum he h
section
variable{X:Cx}{es:List br}{k:Nat}{pt:Pos}
def Ub(K:aI)(ta:TA):TI:=λσ H R=>ta σ H λvs H1=>∃a,vs=[.ref a]/\(∃xs,sR K H1 a xs)/\R (OO K a) H1
theorem K7{b:br}{ta:TA}{p pos:Pos}(hg:Gl X "enumerate")(hm:X.mg "enumerate" =ah)(ha:PA X [b] ta)(hs:starEach [b] X.env=[(aS,eval b X.env)]):PI X (.Tuple es k pt) (.Call (.Name "enumerate" p) [b] [] pos) (Ub X.K ta):=by
 intro pins s σ H R I h;refine Call_ (jT I hg hm boot_enumerate (WP (ja (ha pos pins s σ H _ I h) λus s1 zz=>?_) hs rfl));obtain⟨vs,H1,I1,r1,q1⟩:=zz;obtain⟨a,e,⟨xs,hq⟩,q⟩:=q1;subst e;cases r1 with
 |cons r rr=>
  cases rr;cases r;obtain⟨its,rv,pl,hz⟩:=I1.tuple hq;refine RK.tZ (show s1.heap.IsTuple a its.toArray from pl) λh' he hi hz' hk=>wpAny_pyIter_enum (s:={s1 with heap:=h'}) he ?_;refine⟨s1.heap.objs.size+1,[s1.heap.objs.size+1,s1.heap.objs.size],_,_,H1,rfl,I1.kept (t':=s1.toks) hk,DR a _ _ (Nat.succ_ne_self _),⟨⟨_,he⟩,hi⟩,λb hb=>?_,q⟩;rcases(show b=s1.heap.objs.size+1\/b=s1.heap.objs.size by simpa using hb)with rfl|rfl
  ·exact I1.BS (Wt _) (I1.hok.fresh (Wt _))
  ·exact I1.BS (Uz _) (I1.hok.fresh (Uz _))
end
end L2
namespace RK
open PySem L2 PySem.SeqAt
section
variable{X:Cx}{cl:Nat->List D->bq->Ev D}{b:br}{b':E}{pos p:Pos}{es:List br}{k:Nat}{pt:Pos}
def Ht{ds:List D}{i:Nat}{d:D}(h:(ji ds)[i]?=af d):∃x,ds[i]?=af x/\d= .tup [.int i,x]:=by
 unfold ji at h;rw[Vw,List.getElem?_zipIdx]at h;cases e:ds[i]? with|none=>simp_all|some x=>simp_all
def DW{ds:List D}:(ji ds).length=ds.length:=by simp[ji]
def wR{m:List ay}{H:Hp}{a:ay}{ds:List D}{vs:List V}(hq:sR X.K H a vs)(rs:fR X.K m H ds vs):jw X m H (ji ds) (OO X.K a):=by
 intro m' H' st hm;have hq':=st.Lo hq;have rs':=rs.step st;refine⟨⟨vs,hq',by rw[DW,rs.length];lia⟩,λi d hd=>?_⟩;obtain⟨x,hx,rfl⟩:=Ht hd;obtain⟨v,h1,h2⟩:=rs'.get hx;refine⟨⟨vs,v,hq',h1⟩,λy CY yl=>?_⟩;obtain⟨p,v',hp,rfl,rfl,hv⟩:=yl;have e:=hv vs hq';rw[h1]at e;have ev:v=v':=by simpa using e
 subst ev;have hpm:p∉m':=λz=>hm p z hp;have stp:fq m' m' H' (upd H' p (.tup [.int i,v])):=
  ⟨⟨[],by simp⟩,λ_ _ _ q=>q,λa xs q=>by rw[aB (aU q hp)];exact q,λa ob u q=>by rw[aB (aU q hp)];exact q,
   λa xs q _=>by rw[aB (aU q hp)];exact q,λa q=>by
    by_cases e:a=p
    ·lia
    ·rw[aB e]at q;exact q,λa φ q=>by rw[aB (aU q hp)];exact q⟩
 exact⟨stp,λc hc=>aB λe=>hpm (e▸hc),jr (sR.of bj) (.cons cQ (.cons (h2.step stp) .nil))⟩
theorem K8(hg:Gl X "enumerate")(hm:X.mg "enumerate" =ah)(hb:JE X cl b b')(hs:starEach [b] X.env=[(aS,eval b X.env)]):JI X cl (.Tuple es k pt) (.Call (.Name "enumerate" p) [b] [] pos) (.A9 b'):=by
 refine PI.imp (K7 hg hm (fH hb gQ hs) hs) λσ H R h=>?_;refine bW h λm r S er sr h=>?_;have h:tO X (rI X) (bnd (ak cl b' r S) λx S1=>match x with|.tup ds=>fz (ji ds) S1|_=>ah) m r H R:=h;refine⟨m,r,S,er,sr,h.bnd.mono λv H1 zz=>?_⟩;refine aR zz λm1 x S1 st1 fh rx h1=>?_;cases x with
 |tup ds=>obtain⟨a,vs,rfl,hq,rs⟩:=dD rx;exact⟨a,rfl,⟨vs,hq⟩,h1.fin fh (wR hq rs)⟩
 |_=>exact h1.elim
end
end RK
namespace RK
open PySem Sem
end RK
namespace L2
open PySem PySem.Spec PyProof.Rows
end L2
namespace RK
open PySem L2 PySem.SeqAt
end RK
namespace RK
open PySem L2 PySem.SeqAt PyProof.Rows
end RK
namespace RK
open PySem L2 PySem.SeqAt PySem.Spec
section
variable{X:Cx}{cl:Nat->List D->bq->Ev D}{a o e:br}{a' o' e':E}{es:List br}{es':List E}{c f m x:Str}{pos pos' apos p:Pos}{fns:List xA}{k fi np j:Nat}{fa C:ay}{fd:FuncData}{ps:List Str}
theorem qz{mm:List ay}{H:Hp}{S:bq}{d:D}{v:V}{n:Nat}{fs:List (Str×D)}(sr:cS X.K mm S H)(rx:RD X.K mm H d v)(h:cU S c d=af (n,fs)):
  ∃b C dx vs,d= .ref n/\S[n]?=af (.ins c fs)/\v= .ref b/\mm[n]?=af b/\bS X.K mainGlobals c=af (af (.ref C))/\H b=af (.ins C dx vs)/\AO X.K mm H fs vs:=by
 cases d with
 |ref i=>
  simp only[cU]at h;cases q:S[i]? with
  |none=>simp_all|some ob=>
   rw[q]at h;cases ob with
   |lst _=>cases h|dct _=>cases h|x9 _=>cases h|ins c' fs'=>
    simp only at h;by_cases ec:c'=c
    ·rw[if_pos ec]at h;subst ec;injection h with h
     injection h with h1 h2
     subst h1;subst h2;obtain⟨b,rfl,hk⟩:=cg rx;obtain⟨b',C,dx,vs,g1,g2,g3,g4⟩:=sr.ins q;rw[hk]at g1;have:b=b':=by simpa using g1
     subst this;exact⟨b,C,dx,vs,rfl,q,rfl,hk,g2,g3,g4⟩
    lia
 |_=>cases h
theorem PK(ha:JE X cl a a')(hb:attributeBase a f X.env (eval a X.env)=eval a X.env)(hc:∀C,bS X.K mainGlobals c=af (af (.ref C))->Cf X.K C/\fD X.K C f):JE X cl (.Attribute a f pos) (.fld c f a'):=by
 refine PE.imp (Nk ha hb) λσ H Q h=>?_;obtain⟨mm,r,S,er,sr,h⟩:=h;have h:tO X (rD X) (bnd (ak cl a' r S) λx S1=>zJ c f x S1) mm r H Q:=h;refine⟨mm,r,S,er,sr,h.bnd.mono λv H1 zz=>?_⟩;refine aR zz λm1 d S1 st1 fh rx h1=>?_;unfold zJ at h1;cases q:cU S1 c d with
 |none=>rw[q]at h1;exact h1.elim|some pr=>
  obtain⟨n,fs⟩:=pr;rw[q]at h1;simp only at h1;obtain⟨b,C,dx,vs,rfl,_,rfl,hk,hC,hH,hF⟩:=qz fh rx q;rcases hF.look f with⟨z,_⟩|⟨d,w,z,z2,rd⟩
  ·rw[z]at h1;exact h1.elim
  ·rw[z]at h1;exact⟨b,C,dx,vs,w,rfl,hH,(hc C hC).1,(hc C hC).2,z2,h1.fin fh rd⟩
theorem K9(ho:JE X cl o o')(he:JE X cl e e')(hs:swapsWith e (af (.Attribute o f pos')) pos.line X.env=pure aS)(hc:∀C,bS X.K mainGlobals c=af (af (.ref C))->Cf X.K C/\fD X.K C f):
  JS X cl (.Assign [.Attribute o f pos'] e pos) (.fset c f o' e'):=by
 refine PS.imp (Nm ho he hs) λN σ H h=>?_;obtain⟨mm,r,S,er,sr,h⟩:=h;have h:tF X (fN (ak cl e' r S) r λd S1=>fN (ak cl o' r S1) r λx S2=>match cU S2 c x with|some (k,fs)=>(if fs.length<1000 then af (.next r (S2.set k (.ins c (cO f d fs))))else ah)|none=>ah) mm H N:=h;refine⟨mm,r,S,er,sr,h.fN.mono λv H1 zz=>?_⟩;refine aR zz λm1 d S1 st1 fh rd h1=>?_;refine⟨m1,r,S1,er.step st1,fh,h1.fN.mono λx H2 zz=>?_⟩;refine aR zz λm2 ob S2 st2 ow ro h2=>?_;cases q:cU S2 c ob with
 |none=>rw[q]at h2;exact h2.elim|some pr=>
  obtain⟨n,fs⟩:=pr;rw[q]at h2;simp only at h2;obtain⟨b,C,dx,vs,rfl,_,rfl,hk,hC,hH,hF⟩:=qz ow ro q;by_cases hl:fs.length<1000
  ·rw[if_pos hl]at h2;have st3:fq m2 m2 H2 (upd H2 b (.ins C dx (eQ f v vs))):=fq.qo ow hk hH trivial;refine⟨b,C,dx,vs,rfl,hH,(hc C hC).1,(hc C hC).2,by rw[←hF.len];exact hl,?_⟩;exact h2 m2 _ σ st3 (((er.step st1).step st2).step st3) (ow.qo hk hH trivial λH' st' e=>⟨C,dx,_,hC,e,(hF.put f (rd.step st2)).step st'⟩)
  ·rw[if_neg hl]at h2;exact h2.elim
theorem yf{sp:Sp}{Ex:St->XK}{pins:List (ay×Obj)}{σ:St}{H:Hp}{s:aE}{Q:VK}{us:List ai}{vs:List V}(F:x8 X.prog X.w X.K X.mg X.base (A0 X.prog X.w) j fa fd ps sp)(hr:oz j X.A)(hb:Binds X.K fd ps [])(hx:∀(pins:List (ay×Obj))(σ:St)(H':Hp)(s':aE)(o:Option ay)(e:ai),Inv X pins σ H' s'->bN X pins H' o e s'->Ex σ e o H'->X.xe e s')(I:Inv X pins σ H s)(r:Vals vs us)(q:sp vs H Q (Ex σ)):bg (model X.prog X.w) X.A (call (.ref fa) us) (EP X pins σ Q) X.xe s:=by
 have hl:us.length=ps.length:=by rw[←r.length];exact F.len _ _ _ _ q
 have hb':=hb s us I.BO (by simp_all);rw[UT]at hb';refine wpAny_call (Xn (F.run X.A X.stack s H ⟨us,[]⟩ us vs Q (Ex σ) hr I.GS hb' r q) λr s' hq=>?_);cases r with
 |error e=>obtain⟨o,H',I',ie,hE⟩:=mq I hq;exact hx pins σ H' s' o e I' ie hE
 |ok fl=>
  cases fl with|ret u=>exact I.after hq|next=>exact False.elim hq|brk=>exact False.elim hq|cont=>exact False.elim hq
def vf{M:bX}{w:ck}{A:cy}{E:ai->aE->Prop}{env:Env}{args:List br}{Q:ai->aE->Prop}{s:aE}(hbase:attributeBase o m env (eval o env)=eval o env)(hform:methodCallForm (args.length+([]:List Keyword).length) (backTo pos (starEach args env)) (backToKw pos (keywordEach [] env))=av)(hline:(apos.endLine==pos.line)=av)(h:bg (model M w) A (eval o env) (λov s1=>bg (model M w) A (getMethod ov m (do return (←importBound o env).getD av)) (λfx s2=>bg (model M w) A (callWith pos fx.1 fx.2 (backTo pos (starEach args env)) (backToKw pos (keywordEach [] env))) Q E s2) E s1) E s):
  bg (model M w) A (eval (.Call (.Attribute o m apos) args [] pos) env) Q E s:=by
 have hp:methodCallPos av o env apos pos=pure pos:=by unfold methodCallPos;simp[hline]
 rw[arm_eval_Call,hbase];refine My (VH h (λov s1 h1=>My (wpAny_standAt ?_)) λ_ _ z=>z);unfold methodCall;rw[hform];exact My (VB (VH h1 (λfx s2 h2=>My (wpAny_of_eq hp h2)) λ_ _ z=>z))
def Hu{sp:Sp}{t:TA}{ta:TE}{Ex:St->XK}(he:PE X o ta)(cc:Cf X.K C)(hm:Meth X.K C m fa)(F:x8 X.prog X.w X.K X.mg X.base (A0 X.prog X.w) j fa fd ps sp)(hr:oz j X.A)(hb:Binds X.K fd ps [])(hx:∀(pins:List (ay×Obj))(σ:St)(H':Hp)(s':aE)(o:Option ay)(e:ai),Inv X pins σ H' s'->bN X pins H' o e s'->Ex σ e o H'->X.xe e s')(ha:PA X (e::es) t)(hst:starEach (e::es) X.env=(aS,eval e X.env)::starEach es X.env)(hpl:(backTo pos (starEach es X.env)).any (·.1)=aS)(hbase:attributeBase o m X.env (eval o X.env)=eval o X.env)(hform:methodCallForm ((e::es).length+([]:List Keyword).length) (backTo pos (starEach (e::es) X.env)) (backToKw pos (keywordEach [] X.env))=av)(hline:(apos.endLine==pos.line)=av):
  PE X (.Call (.Attribute o m apos) (e::es) [] pos) λσ H Q=>ta σ H λx H1=>∃b dx fs,x= .ref b/\H1 b=af (.ins C dx fs)/\fs.lookup m=ah/\t σ H1 λvs H2=>sp (x::vs) H2 Q (Ex σ):=by
 intro pins s σ H Q I h;refine vf hbase hform hline (ja (he pins s σ H _ I h) λu s1 zz=>?_);obtain⟨x,H1,I1,rx,b,dx,fs,ex,ea,l,q⟩:=zz;subst ex;obtain rfl:u=Value.ref b:=rx;refine pW I1 ea cc hm l ?_;refine kQ (first:=[.ref b]) (h₀:=X.base) I.ok.mod.IP hm.kp (ja (ha pos pins s1 σ H1 _ I1 q) λus s2 z=>bQ z λvs H2 I2 r q2=>⟨I2.BO,?_⟩) hst hpl;exact yf (us:= .ref b::us) (vs:= .ref b::vs) F hr hb hx I2 (.cons rfl r) q2
def DX{sp:Sp}{ta:TE}{Ex:St->XK}(he:PE X o ta)(cc:Cf X.K C)(hm:Meth X.K C m fa)(F:x8 X.prog X.w X.K X.mg X.base (A0 X.prog X.w) j fa fd ps sp)(hr:oz j X.A)(hb:Binds X.K fd ps [])(hx:∀(pins:List (ay×Obj))(σ:St)(H':Hp)(s':aE)(o:Option ay)(e:ai),Inv X pins σ H' s'->bN X pins H' o e s'->Ex σ e o H'->X.xe e s')(hbase:attributeBase o m X.env (eval o X.env)=eval o X.env)(hform:methodCallForm (([]:List br).length+([]:List Keyword).length) (backTo pos (starEach [] X.env)) (backToKw pos (keywordEach [] X.env))=av)(hline:(apos.endLine==pos.line)=av):
  PE X (.Call (.Attribute o m apos) [] [] pos) λσ H Q=>ta σ H λx H1=>∃b dx fs,x= .ref b/\H1 b=af (.ins C dx fs)/\fs.lookup m=ah/\sp [x] H1 Q (Ex σ):=by
 intro pins s σ H Q I h;refine vf hbase hform hline (ja (he pins s σ H _ I h) λu s1 zz=>?_);obtain⟨x,H1,I1,rx,b,dx,fs,ex,ea,l,q⟩:=zz;subst ex;obtain rfl:u=Value.ref b:=rx;refine pW I1 ea cc hm l ?_;exact PySem.W.callWith_K0 (first:=[.ref b]) I1.BO hm.kp (yf (us:=[.ref b]) (vs:=[.ref b]) F hr hb hx I1 (.cons rfl .nil) q)
theorem pF{k:Nat}:∀(l:List E)(r:aC)(S:bq)(ds:List D)(S':bq),aG (ao fns k) l r S=af (.ok ds S')->ds.length=l.length
 |[],r,S,ds,S',q=>by
  have q':fz ([]:List D) S=af (.ok ds S'):=q;injection q' with q1
  simp_all
 |e::l,r,S,ds,S',q=>by
  have q':bnd (ak (ao fns k) e r S) (λd S1=>bnd (aG (ao fns k) l r S1) λds S2=>fz (d::ds) S2)=af (.ok ds S'):=q;cases e1:ak (ao fns k) e r S with
  |none=>simp_all|some o=>
   rw[e1]at q';cases o with
   |exc c S1=>cases q'|ok d S1=>
    rw[aN]at q';cases e2:aG (ao fns k) l r S1 with
    |none=>simp_all|some o2=>
     rw[e2]at q';cases o2 with
     |exc c S2=>cases q'|ok IY S2=>
      rw[aN]at q';injection q' with q1
      injection q1 with q2
      subst q2;simp[pF l r S1 IY S2 e2]
theorem DY{σ:St}{mm:List ay}{r:aC}{S:bq}{H:Hp}{Q:VK}{ds:List D}{vs:List V}{fi:Nat}(er:gp X.K mm H r σ)(sr:cS X.K mm S H)(rs:fR X.K mm H ds vs)(hn:ds.length=np)(h:tO X (rD X) (ao fns k fi ds S) mm r H Q):
  DF X.K fns np k fi vs H Q λe o H'=>∀pins s',Inv X pins σ H' s'->bN X pins H' o e s'->X.xe e s':=by
 refine⟨by rw[←rs.length];exact hn,mm,S,ds,sr,rs,?_⟩;cases q:ao fns k fi ds S with
 |none=>rw[q]at h;exact h|some o=>
  rw[q]at h;cases o with|exc c S2=>intro m2 H2 e C st2 ow hC pins s' I ie;exact h pins s' σ H2 m2 e I st2 (er.step st2) ow ⟨C,hC,ie⟩|ok d S2=>exact h
theorem Hv(ho:JE X (ao fns k) o o')(ha:JA X (ao fns k) (e::es) (e'::es'))(hl:(e'::es').length+1=np)(hc:∀C,bS X.K mainGlobals c=af (af (.ref C))->Cf X.K C/\Meth X.K C m fa)(HZ:bS X.K mainGlobals c=af (af (.ref C)))(F:x8 X.prog X.w X.K X.mg X.base (A0 X.prog X.w) j fa fd ps (DF X.K fns np k fi))(hr:oz j X.A)(hb:Binds X.K fd ps [])(hst:starEach (e::es) X.env=(aS,eval e X.env)::starEach es X.env)(hpl:(backTo pos (starEach es X.env)).any (·.1)=aS)(hbase:attributeBase o m X.env (eval o X.env)=eval o X.env)(hform:methodCallForm ((e::es).length+([]:List Keyword).length) (backTo pos (starEach (e::es) X.env)) (backToKw pos (keywordEach [] X.env))=av)(hline:(apos.endLine==pos.line)=av):
  JE X (ao fns k) (.Call (.Attribute o m apos) (e::es) [] pos) (.kD c m fi o' (e'::es')):=by
 refine PE.imp (Hu (Ex:=λσ e o H'=>∀pins s',Inv X pins σ H' s'->bN X pins H' o e s'->X.xe e s') ho (hc C HZ).1 (hc C HZ).2 F hr hb (λpins σ H' s' o e I ie q=>q pins s' I ie) ha hst hpl hbase hform hline) λσ H Q h=>?_;obtain⟨mm,r,S,er,sr,h⟩:=h;have h:tO X (rD X) (bnd (ak (ao fns k) o' r S) λx S1=>match cU S1 c x with|some (_,fs)=>(if fs.lookup m=ah then bnd (aG (ao fns k) (e'::es') r S1) λds S2=>ao fns k fi (x::ds) S2 else ah)|none=>ah) mm r H Q:=h;refine⟨mm,r,S,er,sr,h.bnd.mono λv H1 zz=>?_⟩;refine aR zz λm1 d S1 st1 fh rx h1=>?_;cases q:cU S1 c d with
 |none=>rw[q]at h1;exact h1.elim|some pr=>
  obtain⟨n,fs⟩:=pr;rw[q]at h1;simp only at h1;obtain⟨b,C',dx,vs,rfl,_,rfl,hk,hC,hH,hF⟩:=qz fh rx q;have eC:C'=C:=by have z:=hC.symm.trans HZ;injection z with z;injection z with z;injection z
  subst eC;by_cases hm0:fs.lookup m=ah
  ·rw[if_pos hm0]at h1;have hv0:vs.lookup m=none:=by
    rcases hF.look m with⟨_,z⟩|⟨d,w,z,_,_⟩
    ·exact z
    ·lia
   refine⟨b,dx,vs,rfl,hH,hv0,m1,r,S1,er.step st1,fh,?_⟩;cases e2:aG (ao fns k) (e'::es') r S1 with
   |none=>rw[e2]at h1;exact h1|some oo=>
    rw[e2]at h1;cases oo with|exc c2 S2=>exact h1|ok ds S2=>rw[aN]at h1;intro m2 H2 us st2 ow rs;have hds:=pF _ _ _ _ _ e2;have rs:fR X.K m2 H2 ds us:=rs;exact DY ((er.step st1).step st2) ow (fR.cons (rx.step st2) rs) (by simp_all) (h1.step st2)
  ·rw[if_neg hm0]at h1;exact h1.elim
theorem Ea(ho:JE X (ao fns k) o o')(hl:1=np)(hc:∀C,bS X.K mainGlobals c=af (af (.ref C))->Cf X.K C/\Meth X.K C m fa)(HZ:bS X.K mainGlobals c=af (af (.ref C)))(F:x8 X.prog X.w X.K X.mg X.base (A0 X.prog X.w) j fa fd ps (DF X.K fns np k fi))(hr:oz j X.A)(hb:Binds X.K fd ps [])(hbase:attributeBase o m X.env (eval o X.env)=eval o X.env)(hform:methodCallForm (([]:List br).length+([]:List Keyword).length) (backTo pos (starEach [] X.env)) (backToKw pos (keywordEach [] X.env))=av)(hline:(apos.endLine==pos.line)=av):
  JE X (ao fns k) (.Call (.Attribute o m apos) [] [] pos) (.kD c m fi o' []):=by
 refine PE.imp (DX (Ex:=λσ e o H'=>∀pins s',Inv X pins σ H' s'->bN X pins H' o e s'->X.xe e s') ho (hc C HZ).1 (hc C HZ).2 F hr hb (λpins σ H' s' o e I ie q=>q pins s' I ie) hbase hform hline) λσ H Q h=>?_;obtain⟨mm,r,S,er,sr,h⟩:=h;have h:tO X (rD X) (bnd (ak (ao fns k) o' r S) λx S1=>match cU S1 c x with|some (_,fs)=>(if fs.lookup m=ah then bnd (fz ([]:List D) S1) λds S2=>ao fns k fi (x::ds) S2 else ah)|none=>ah) mm r H Q:=h;refine⟨mm,r,S,er,sr,h.bnd.mono λv H1 zz=>?_⟩;refine aR zz λm1 d S1 st1 fh rx h1=>?_;cases q:cU S1 c d with
 |none=>rw[q]at h1;exact h1.elim|some pr=>
  obtain⟨n,fs⟩:=pr;rw[q]at h1;simp only at h1;obtain⟨b,C',dx,vs,rfl,_,rfl,hk,hC,hH,hF⟩:=qz fh rx q;have eC:C'=C:=by have z:=hC.symm.trans HZ;injection z with z;injection z with z;injection z
  subst eC;by_cases hm0:fs.lookup m=ah
  ·rw[if_pos hm0]at h1;have hv0:vs.lookup m=none:=by
    rcases hF.look m with⟨_,z⟩|⟨d,w,z,_,_⟩
    ·exact z
    ·lia
   exact⟨b,dx,vs,rfl,hH,hv0,DY (er.step st1) fh (fR.cons rx fR.nil) hl h1⟩
  ·rw[if_neg hm0]at h1;exact h1.elim
theorem Eb{sp:Sp}{Ex:St->XK}{pins:List (ay×Obj)}{σ:St}{H:Hp}{s:aE}{Q:VK}{us:List ai}{vs:List V}(M:Mk X.K C fa)(F:x8 X.prog X.w X.K X.mg X.base (A0 X.prog X.w) j fa fd ps sp)(hr:oz (j+1) X.A)(hb:Binds X.K fd ps [])(hx:∀(pins:List (ay×Obj))(σ:St)(H':Hp)(s':aE)(o:Option ay)(e:ai),Inv X pins σ H' s'->bN X pins H' o e s'->Ex σ e o H'->X.xe e s')(I:Inv X pins σ H s)(r:Vals vs us)(h:∀x dx,H x=ah->H dx=ah->dx≠x->sp (.ref x::vs) (upd (upd H dx (.own x)) x (.ins C dx [])) (λv H2=>v= .non/\Q (.ref x) H2) (Ex σ)):
  bg (model X.prog X.w) X.A (call (.ref C) us) (EP X pins σ Q) X.xe s:=by
 have hq:=h (s.heap.objs.size+1) s.heap.objs.size (I.hok.fresh (Wt _)) (I.hok.fresh (Uz _)) (Vb (n9 _));have I2:=Inv.made (C:=C) I;have r2:Vals (V.ref (s.heap.objs.size+1)::vs) (Value.ref (s.heap.objs.size+1)::us):= .cons rfl r;have hl:(Value.ref (s.heap.objs.size+1)::us).length=ps.length:=by rw[←r2.length];exact F.len _ _ _ _ hq
 have hb':=hb _ (Value.ref (s.heap.objs.size+1)::us) I2.BO (by simp_all);rw[UT]at hb';refine wpAny_call (GD (f:=fa) I.BO M.makes M.init (beq_iff_eq.mp M.fn) (Xn (F.run _ X.stack _ _ ⟨Value.ref (s.heap.objs.size+1)::us,[]⟩ _ _ _ (Ex σ) (hr.make C us [])
  (I2.GS.make C us []) hb' r2 hq) λr s' hq'=>?_))
 cases r with
 |error e=>obtain⟨o,H',I',ie,hE⟩:=mq I2 hq';exact hx pins σ H' s' o e I' ie hE
 |ok fl=>
  cases fl with
  |ret u=>obtain⟨v,H',I3,rv,ev,q3⟩:=I2.after hq';subst ev;exact⟨rv,⟨V.ref (s.heap.objs.size+1),H',I3,rfl,q3⟩⟩
  |next=>exact False.elim hq'|brk=>exact False.elim hq'|cont=>exact False.elim hq'
def PL(ha:JA X (ao fns k) (e::es) (e'::es'))(hl:(e'::es').length+1=np)(hC:bS X.K mainGlobals x=af (af (.ref C)))(M:Mk X.K C fa)(F:x8 X.prog X.w X.K X.mg X.base (A0 X.prog X.w) j fa fd ps (DF X.K fns np k fi))(hr:oz (j+1) X.A)(hg:Gl X x)(hm:X.mg x=af (.ref C))(hb:Binds X.K fd ps [])(hdb:(x==("__debug__" :Str))=aS)(hst:starEach (e::es) X.env=(aS,eval e X.env)::starEach es X.env)(hpl:(backTo pos (starEach es X.env)).any (·.1)=aS):
  JE X (ao fns k) (.Call (.Name x p) (e::es) [] pos) (.new x fi (e'::es')):=by
 intro pins s σ H Q I h;obtain⟨mm,r,S,er,sr,h⟩:=h;have h:tO X (rD X) (bnd (aG (ao fns k) (e'::es') r S) λds S1=>bnd (ao fns k fi (.ref S1.length::ds) (S1++ [.ins x []])) λv S2=>match v with|.non=>fz (.ref S1.length) S2|_=>ah) mm r H Q:=h;have h':tO X (Lv X) (aG (ao fns k) (e'::es') r S) mm r H λvs H1=>∀b dx,H1 b=ah->H1 dx=ah->dx≠b->DF X.K fns np k fi (.ref b::vs) (upd (upd H1 dx (.own b)) b (.ins C dx [])) (λv H2=>v= .non/\Q (.ref b) H2) λe o H'=>∀pins s',Inv X pins σ H' s'->bN X pins H' o e s'->X.xe e s':=by
  cases e2:aG (ao fns k) (e'::es') r S with
  |none=>rw[e2]at h;exact h|some oo=>
   rw[e2]at h;cases oo with
   |exc c2 S2=>exact h|ok ds S1=>
    rw[aN]at h;intro m1 H1 us st1 fh rs b dx hbn hdn hne;have rs:fR X.K m1 H1 ds us:=rs;have hds:=pF _ _ _ _ _ e2;have sA:=fq.laid fh hdn (.own b);have ow:=fh.laid hdn (.own b);have LP:(upd H1 dx (.own b)) b=none:=by rw[aB (Ne.symm hne)];exact hbn
    have sB:=fq.push ow LP (.ins C dx []);have EF:cS X.K (m1++ [b]) (S1++ [.ins x []]) (upd (upd H1 dx (.own b)) b (.ins C dx [])):=ow.EE LP λm' H' st e=>⟨C,dx,[],hC,e,trivial⟩
    have LS:=(st1.trans sA).trans sB;have rb:RD X.K (m1++ [b]) (upd (upd H1 dx (.own b)) b (.ins C dx [])) (.ref S1.length) (.ref b):=by unfold RD;exact⟨b,rfl,by rw[←fh.len];simp⟩
    have h3:=h.step LS;refine⟨by simp only[U5];rw[←rs.length,hds];exact hl,m1++ [b],S1++ [.ins x []],.ref S1.length::ds,EF,fR.cons rb ((rs.step sA).step sB),?_⟩;cases q:ao fns k fi (.ref S1.length::ds) (S1++ [.ins x []])with
    |none=>rw[q]at h3;exact h3|some o3=>
     rw[q]at h3;cases o3 with
     |exc c3 S3=>intro m2 H2 e3 C3 st2 EL VX pins s' I' ie;exact h3 pins s' σ H2 m2 e3 I' st2 (er.step (LS.trans st2)) EL ⟨C3,VX,ie⟩|ok d S3=>
      rw[aN]at h3;cases d with|non=>intro m2 H2 v st2 EL rv;exact⟨AV rv,h3.fin' st2 EL (rb.step st2)⟩|_=>exact h3.elim
 refine wpAny_Call_Name_kw (iy I hg hm ?_ hdb);refine kQ (h₀:=X.base) I.ok.mod.IP M.kp (ja (ha pos pins s σ H _ I ⟨mm,r,S,er,sr,h'⟩) λus s1 z=>bQ z λvs H1 I1 rr q=>⟨I1.BO,?_⟩) hst hpl;exact Eb (Ex:=λσ e o H'=>∀pins s',Inv X pins σ H' s'->bN X pins H' o e s'->X.xe e s') M F hr hb (λpins σ H' s' o e I ie q=>q pins s' I ie) I1 rr q
end
end RK
namespace RK
open PySem L2 PySem.SeqAt PyProof.Rows PySem.W
abbrev two(u:ai)(c:Nat):Obj:={cls:= .type "list",dict:=ah,data:= .seq #[u,u] c,slots:= #[]}
section
variable{X:Cx}
theorem PN(hc:X.calm=av)(hu:X.A.units+66<cLine):bH X (.builtin "min") (E9 X .min):=by
 intro pins s σ H xs us Q I rv h;obtain⟨m,r,S,ds,sr,rs,h⟩:=h;refine BV hc pins s σ H _ us Q I rv (CG (r:=r) (f:=λi j=>if j<i then j else i) sr rs ?_);cases ds with
 |nil=>exact h.elim|cons a l=>
  cases l with|nil=>exact h.elim|cons b l=>exact h
theorem PP(hc:X.calm=av)(hu:X.A.units+66<cLine):bH X (.builtin "max") (E9 X .max):=by
 intro pins s σ H xs us Q I rv h;obtain⟨m,r,S,ds,sr,rs,h⟩:=h;refine BR hc pins s σ H _ us Q I rv (CG (r:=r) (f:=λi j=>if j>i then j else i) sr rs ?_);cases ds with
 |nil=>exact h.elim|cons a l=>
  cases l with|nil=>exact h.elim|cons b l=>exact h
end
end RK
namespace L2
open PySem PySem.Spec PyProof.Rows
section
variable{X:Cx}{pins:List (ay×Obj)}{σ:List (Option V)}{H:Hp}{s:aE}{a:ay}{o:Obj}{kvs:List (Key×V)}
def Inv.freeze(I:Inv X pins σ H s)(e:H a=af (.dK kvs))(ho:s.heap.get? a=af o):Inv X pins σ (upd H a (.sP o (.dK kvs))) s:=by
 have tup:∀b xs,H b=af (.tup xs)->upd H a (.sP o (.dK kvs)) b=af (.tup xs):=λb xs q=>by rw[aB (dh q e (by simp))];exact q
 have sP:∀b o' u,H b=af (.sP o' u)->upd H a (.sP o (.dK kvs)) b=af (.sP o' u):=λb o' u q=>by rw[aB (dh q e (by simp))];exact q
 have own:∀b c,H b=af (.own c)->upd H a (.sP o (.dK kvs)) b=af (.own c):=λb c q=>by rw[aB (dh q e (by simp))];exact q
 have non:∀b,H b=ah->upd H a (.sP o (.dK kvs)) b=none:=λb q=>by rw[aB (λz=>by lia)];exact q
 refine⟨I.ok,I.os,I.bare,⟨I.base.keep,I.base.slot,λb ob q n hx=>non b (I.base.free b ob q n hx),I.base.there,λb xs q=>tup b xs (I.base.tups b xs q),λb o' u q=>sP b o' u (I.base.qk b o' u q),λb ps q=>?_⟩,I.loc,I.cell,non _ I.free,λx c q=>non _ (I.rV x c q),λp hp=>?_,λb u q=>?_,I.len⟩
 ·obtain⟨more,z⟩:=I.base.AR b ps q;exact⟨more,by rw[aB (dh z e (by simp))];exact z⟩
 ·obtain⟨h1,h2,h3⟩:=I.pin p hp;exact⟨h1,non _ h2,h3⟩
 ·by_cases hb:b=a
  ·subst hb;rw[bj]at q;cases q;exact⟨ho,(I.hok b _ e).stay (λ_ _ _ z=>z) (λc z=>own c b z) tup⟩
  ·rw[aB hb]at q;exact(I.hok b u q).stay (λ_ _ _ z=>z) (λc z=>own c b z) tup
def Inv.B0(I:Inv X pins σ H s)(e:H a=af (.sP o (.dK kvs)))(h0:∀o u,X.H₀ a≠af (.sP o u)):Inv X pins σ (upd H a (.dK kvs)) s:=by
 have tup:∀b xs,H b=af (.tup xs)->upd H a (.dK kvs) b=af (.tup xs):=λb xs q=>by rw[aB (dh q e (by simp))];exact q
 have own:∀b c,H b=af (.own c)->upd H a (.dK kvs) b=af (.own c):=λb c q=>by rw[aB (dh q e (by simp))];exact q
 have non:∀b,H b=ah->upd H a (.dK kvs) b=none:=λb q=>by rw[aB (λz=>by lia)];exact q
 refine⟨I.ok,I.os,I.bare,⟨I.base.keep,I.base.slot,λb ob q n hx=>non b (I.base.free b ob q n hx),I.base.there,λb xs q=>tup b xs (I.base.tups b xs q),λb o' u q=>?_,λb ps q=>?_⟩,I.loc,I.cell,non _ I.free,λx c q=>non _ (I.rV x c q),λp hp=>?_,λb u q=>?_,I.len⟩
 ·have hb:b≠a:=λz=>h0 o' u (z▸q);rw[aB hb];exact I.base.qk b o' u q
 ·obtain⟨more,z⟩:=I.base.AR b ps q;exact⟨more,by rw[aB (dh z e (by simp))];exact z⟩
 ·obtain⟨h1,h2,h3⟩:=I.pin p hp;exact⟨h1,non _ h2,h3⟩
 ·by_cases hb:b=a
  ·subst hb;rw[bj]at q;cases q;exact(I.hok b _ e).2.stay (λ_ _ _ z=>z) (λc z=>own c b z) tup
  ·rw[aB hb]at q;exact(I.hok b u q).stay (λ_ _ _ z=>z) (λc z=>own c b z) tup
def Inv.LU(I:Inv X pins σ H s)(e:H a=af (.dK kvs)):∀o u,X.H₀ a≠af (.sP o u):=λo u q=>by have:=I.base.qk a o u q;lia
end
def Sa(a:ay)(o:Obj)(kvs:List (Key×V)):It:=
 ⟨λi H=>H a=af (.sP o (.dK kvs))/\i<kvs.length,λi H x H'=>H'=H/\∃k v,kvs[i]?=af (k,v)/\x=kV k,λi H=>H a=af (.sP o (.dK kvs))/\kvs.length<=i⟩
def yg{P:bX}{w:ck}{k:Key}{u:ai}(h:(aY P w).is k u=av):RelV (kV k) u:=by
 rcases gi (k:=k) (v:=u) h with⟨i,t,rfl,rfl⟩|⟨x,t,rfl,rfl⟩
 ·exact⟨t,rfl⟩
 ·exact⟨t,rfl⟩
section
variable{X:Cx}
def Ec{P:bX}{w:ck}{h h':cK}{a:ay}{vs vs':List (Key×ai)}{ep ep':Nat}{o:Obj}(x:h.DictAt (aY P w) a vs ep)(ho:h.get? a=af o)(x':h'.DictAt (aY P w) a vs' ep')(ho':h'.get? a=af o):ep=ep':=by obtain⟨o1,es,e1,_,d1,_⟩:=x;obtain⟨o2,es',e2,_,d2,_⟩:=x';lia
def Am{P:bX}{w:ck}{K:aI}{tg:br}(a it:ay)(o:Obj)(kvs:List (Key×V))(ep:Nat)(hne:a≠it)(Se:∀h:cK,h.get? a=af o->∀vs ep',h.DictAt (aY P w) a vs ep'->ep'=ep):
  Turn P w K tg (Sa a o kvs) [it] it (λi h=>h.IsKeyIter it a i kvs.length ep)where
 mem:=by simp
 obj:=λi h st b hb=>by
  have e:b=it:=by simpa using hb
  subst e;obtain⟨o,e,c,d⟩:=st
  simp_all
 keep:=λi h h' st k=>st.at λo e=>k it (by simp) o e
 item:=by
  intro X hP hw hK hc i pins s σ H E I hf st hg;subst hP hw hK;obtain⟨hq,hi⟩:=hg;obtain⟨ho,hz,hs,vs,rel,dd⟩:=(show bG X.prog X.w H s.heap a (.sP o (.dK kvs))from I.hok a _ hq)
  obtain⟨ep',hat⟩:=dd.dictAt;have e0:=Se _ ho _ _ hat;subst e0;have hl:vs.length=kvs.length:=rel.length.symm;rw[←hl]at st hi;obtain⟨⟨k,v⟩,hx⟩:∃q,vs[i]?=af q:=⟨vs[i],by simp[hi]⟩
  obtain⟨f0,f1,f2,f3,f4,f5⟩:=hf it (by simp);refine wpAny_pyNext_dict_item st hat hx λkey h' hk st' sb=>?_;have I1:Inv X pins σ H {s with heap:=h'}:=I.turned (t':=s.toks) (λb o hb e=>(sb.2 b hb).trans e) f0 f1 f3 f4 f5;obtain⟨o2,e2,c2,d2⟩:=id st';have hkk:∃v',kvs[i]?=af (k,v'):=by
   have q1:(kvs.map (·.1))[i]?=af k:=by rw[rel.keys,Vw,hx];rfl
   rw[Vw]at q1;cases q2:kvs[i]? with|none=>simp_all|some q=>rw[q2]at q1;exact⟨q.2,by cases q;cases q1;rfl⟩
  obtain⟨v',hv'⟩:=hkk;rw[hl]at st';exact⟨key,rfl,t7 (s:={s with heap:=h'}) e2 c2 d2 (by decide) ⟨kV k,H,I1,yg hk,⟨rfl,k,v',hv',rfl⟩,st',λb hb=>(hf b hb).1⟩⟩
 done:=by
  intro X hP hw hK hc i pins s σ H E I hf st hg;subst hP hw hK;obtain⟨hq,hi⟩:=hg;obtain⟨ho,hz,hs,vs,rel,dd⟩:=(show bG X.prog X.w H s.heap a (.sP o (.dK kvs))from I.hok a _ hq)
  obtain⟨ep',hat⟩:=dd.dictAt;have e0:=Se _ ho _ _ hat;subst e0;have hl:vs.length=kvs.length:=rel.length.symm;rw[←hl]at st hi;obtain⟨f0,f1,f2,f3,f4,f5⟩:=hf it (by simp);exact wpAny_pyNext_dict_end (I.ok.hd hc) st hat (by simp;lia) λh' eb=>⟨rfl,I.turned (t':=s.toks) (λb o hb e=>eb b o hb e) f0 f1 f3 f4 f5⟩
 self:=λ_ _ _ _ _ st h=>wpAny_pyIter_keyiter st h
def Uc(X:Cx)(tl:TE):TI:=λσ H R=>tl σ H λx H1=>∃a kvs,x= .ref a/\H1 a=af (.dK kvs)/\∀o,(∀o' u,X.H₀ a≠af (.sP o' u))->R (Sa a o kvs) (upd H1 a (.sP o (.dK kvs)))
def Hw{tg l:br}{tl:TE}(hl:PE X l tl):PI X tg l (Uc X tl):=by
 intro pins s σ H R I h;refine ja (hl pins s σ H _ I h) λv s1 zz=>?_;obtain⟨x,H1,I1,r1,q1⟩:=zz;obtain⟨a,kvs,e,hq,q⟩:=q1;subst e;cases r1;obtain⟨hz,hs,vs,rel,dd⟩:=nM I1.hok hq;obtain⟨ep,hat⟩:=dd.dictAt;obtain⟨o,es,ho,r⟩:=id hat;have hlt:a<s1.heap.objs.size:=U4 ho;have hl2:vs.length=kvs.length:=rel.length.symm;refine wpAny_pyIter_dict hs hat ?_;have I2:=(I1.freeze hq ho).kept (h':=s1.heap.push {cls:= .type "dict_keyiterator",data:= .fields #[.ref a,.int 0 0,.int vs.length 0,.int ep 0]}) (t':=s1.toks) λb o e=>Uv _ e;refine⟨s1.heap.objs.size,[s1.heap.objs.size],_,_,_,rfl,I2,Am a _ o kvs ep (Vb hlt) (λh' ho' vs' ep' x'=>(Ec hat ho x' ho').symm),⟨_,UW _ rfl,rfl,by rw[hl2];rfl⟩,λb hb=>?_,q o (I1.LU hq)⟩;have e:b=s1.heap.objs.size:=by simpa using hb
 subst e;refine I1.BS (Uz _) ?_;rw[aB (VP hlt)];exact I1.hok.fresh (Uz _)
def Ic(X:Cx)(Q:Hp->Prop)(H:Hp):Prop:=Q H\/∃a o kvs,H a=af (.sP o (.dK kvs))/\(∀o' u,X.H₀ a≠af (.sP o' u))/\Q (upd H a (.dK kvs))
def VY(X:Cx)(D:Ends):Ends:={D with nx:=λσ H=>Ic X (D.nx σ) H,rt:=λv H=>Ic X (D.rt v) H}
def Ic.inv{Q:Hp->Prop}{pins:List (ay×Obj)}{σ:St}{H:Hp}{s:aE}(h:Ic X Q H)(I:Inv X pins σ H s):∃H',Inv X pins σ H' s/\Q H':=by
 rcases h with h|⟨a,o,kvs,e,h0,h⟩
 ·exact⟨H,I,h⟩
 ·exact⟨_,I.B0 e h0,h⟩
theorem PS.B0{st:eL}{t:TS}(h:PS X st t):PS X st (λD σ H=>t (VY X D) σ H):=by
 intro pins s σ H D I z;refine ja (h pins s σ H _ I z) λf s' q=>?_;cases f with
 |next=>obtain⟨σ',H',I',q⟩:=q;obtain⟨H2,I2,q2⟩:=Ic.inv q I';exact⟨σ',H2,I2,q2⟩
 |brk=>exact q|cont=>exact q|ret u=>obtain⟨v,σ',H',I',r,q⟩:=q;obtain⟨H2,I2,q2⟩:=Ic.inv q I';exact⟨v,σ',H2,I2,r,q2⟩
end
end L2
namespace RK
open PySem L2
section
variable{X:Cx}{cl:Nat->List D->bq->Ev D}{pos:Pos}{K:aI}{m m':List ay}{H H':Hp}{S:bq}
theorem tF.mono{o:Option Fl}{N N':Ends}(h:tF X o m H N)(h1:∀σ H,N.nx σ H->N'.nx σ H)(h2:∀σ H,N.bk σ H->N'.bk σ H)(h3:∀σ H,N.ct σ H->N'.ct σ H)(h4:∀v H,N.rt v H->N'.rt v H):tF X o m H N':=by
 cases o with
 |none=>exact h|some o=>
  cases o with|next r S=>exact λm2 H2 σ st er sr=>h1 _ _ (h m2 H2 σ st er sr)|brk r S=>exact λm2 H2 σ st er sr=>h2 _ _ (h m2 H2 σ st er sr)|cont r S=>exact λm2 H2 σ st er sr=>h3 _ _ (h m2 H2 σ st er sr)|ret d S=>exact λm2 H2 v st sr rd=>h4 _ _ (h m2 H2 v st sr rd)|exc c r S=>exact h
def B7.B0{a:ay}{o:Obj}{vs:List (Key×V)}(e:H a=af (.sP o (.dK vs))):B7 m m H (upd H a (.dK vs)):=
 ⟨⟨[],by simp⟩,λ_ _ _ n=>n,λb xs q=>by rw[aB (dh q e (by simp))];exact q,λb o' u q n=>by
   have hb:b≠a:=λz=>by grind
   rw[aB hb];exact q,λb xs q _=>by rw[aB (dh q e (by simp))];exact q,λb φ q=>by rw[aB (dh q e (by simp))];exact q⟩
theorem cS.B0(h:cS K m S H){k:Nat}{a:ay}(ha:m[k]?=af a){o:Obj}{kvs:List (Key×D)}{vs:List (Key×V)}(e:H a=af (.sP o (.dK vs)))(kv:rX K m H kvs vs):cS K m (S.set k (.dct kvs)) (upd H a (.dK vs)):=by
 have st:=B7.B0 (m:=m) e;refine⟨by simp[h.len],h.nd,λj b ob h1 h2=>?_⟩;by_cases ej:k=j
 ·subst ej;rw[ha]at h1;have eb:a=b:=by simpa using h1
  subst eb;have hk:k<S.length:=by rw[←h.len];exact(UL.mp ha).1
  rw[Vy hk]at h2;have eo:SO.dct kvs=ob:=by simpa using h2
  subst eo;exact⟨vs,bj,kv.iE st⟩
 ·rw[U6 ej]at h2;refine(h.obj j b ob h1 h2).iE st (aB λz=>ej ?_);subst z;have hk:=(UL.mp ha).1;exact(iF hk h.nd).mp (by rw[ha,h1])
def fq.walked{m2:List ay}{H0 H2:Hp}{a:ay}{o:Obj}{vs vs2:List (Key×V)}(e0:H0 a=af (.dK vs))(s:fq m m2 (upd H0 a (.sP o (.dK vs))) H2):fq m m2 H0 (upd H2 a (.dK vs2))where
 pre:=s.pre
 new:=λb ob q n=>by
  by_cases hb:b=a
  ·subst hb;exact s.new b _ bj n
  ·exact s.new b ob (by rw[aB hb];exact q) n
 tups:=λb xs q=>by have hb:=dh q e0 (by simp);rw[aB hb];exact s.tups b xs (by rw[aB hb];exact q)
 qk:=λb ob u q=>by have hb:=dh q e0 (by simp);rw[aB hb];exact s.qk b ob u (by rw[aB hb];exact q)
 BF:=λb xs q n=>by have hb:=dh q e0 (by simp);rw[aB hb];exact s.BF b xs (by rw[aB hb];exact q) n
 non:=λb q=>by
  by_cases hb:b=a
  ·subst hb;rw[bj]at q;cases q
  ·rw[aB hb]at q;have:=s.non b q;rw[aB hb]at this;exact this
 exts:=λb φ q=>by have hb:=dh q e0 (by simp);rw[aB hb];exact s.exts b φ (by rw[aB hb];exact q)
theorem rX.GG:∀{a:List (Key×D)}{b:List (Key×V)},rX K m H a b->∀i:Nat,(a[i]?).map (·.1)=(b[i]?).map (·.1)
 |[],[],_,i=>rfl|p::ps,q::qs,h,0=>VJ af h.1|p::ps,q::qs,h,i+1=>by simpa using rX.GG h.2.2 i|[],_::_,h,_=>h.elim|_::_,[],h,_=>h.elim
def Hx(k:Key):RD K m H (sQ k) (kV k):=by cases k<;>rfl
theorem PQ{tg iter:br}{e':E}{tt:Tg}{st:List eL}{cs:List C}(hp:PassesOwn (model X.prog X.w) X.A X.env X.xe)(hc:X.calm=av)(ha:JE X cl iter e')(hg:JG X tg tt)(hb:CD X cl st cs)(hs:∀x,foldedSetIterable iter X.env x=pure x):
  JS X cl (.For tg iter st [] pos) (.CB tt e' cs):=by
 refine PS.imp (PS.B0 (BL hp hc (PI.or (wY ha) (Hw ha)) hg hb hs)) λN σ H h=>?_;refine bW h λm r S er sr h=>?_;have h:tF X (fN (ak cl e' r S) r λx S1=>match x with
  |.ref k=>match S1[k]? with
   |some (.dct kvs)=>gC k (forLoop (λr S=>eS cl cs r S) tt (kvs.map λp=>sQ p.1) r (S1.set k (.x9 kvs)))|some (.lst ds)=>eZ (λr S=>eS cl cs r S) tt k ds ds r S1|_=>ah
  |_=>ah) m H N:=h
 cases e:ak cl e' r S with
 |none=>rw[e]at h;exact h.elim|some o=>
  cases o with
  |exc c S1=>rw[e]at h;exact .inl ⟨m,r,S,er,sr,by rw[e];exact h⟩|ok x S1=>
   rw[e]at h;cases x with
   |ref k=>
    cases eo:S1[k]? with
    |none=>simp only[fN,eo]at h;exact h.elim|some ob=>
     cases ob with
     |ins _ _=>simp only[fN,eo]at h;exact h.elim|x9 _=>simp only[fN,eo]at h;exact h.elim|lst ds=>
      simp only[fN,eo]at h;refine .inl ⟨m,r,S,er,sr,?_⟩;rw[e];intro m1 H1 v st1 fh rd;obtain⟨p,rfl,hk⟩:=cg rd;have cur:∀{m2:List ay}{S2:bq}{H2:Hp},cS X.K m2 S2 H2->m2[k]?=af p->S2[k]?=af (.lst ds)->∃vs,xy X.K H2 p vs/\fR X.K m2 H2 ds vs:=λow hk2 e2=>by obtain⟨p',vs,h1,h2,h3⟩:=ow.lst e2;rw[hk2]at h1;cases h1;exact⟨vs,xy.of h2,h3⟩
      obtain⟨vs,hq,rs⟩:=cur fh hk eo;refine⟨p,rfl,⟨vs,hq⟩,λi n σ H=>n=ds.length - i/\i<=ds.length/\∃m2 r2 S2,fq m1 m2 H1 H/\gp X.K m2 H r2 σ/\cS X.K m2 S2 H/\S2[k]?=af (.lst ds)/\tF X (eZ (λr S=>eS cl cs r S) tt k ds (ds.drop i) r2 S2) m2 H N,
       ⟨ds.length,by simp,Wx _,m1,r,S1,fq.refl _ _,er.step st1,fh,eo,h.step st1⟩,?_⟩
      rintro i n σ1 H2 ⟨rfl,hi,m2,r2,S2,st2,B8,ow,e2,h2⟩;obtain⟨vs2,hq2,Sf⟩:=cur ow (st2.at hk) e2;by_cases hlt:i<ds.length
      ·right;obtain⟨v,g1,g2⟩:=Sf.get (Vc hlt);refine⟨⟨vs2,v,hq2,g1⟩,λσ' H'=>i+1<=ds.length/\∃m3 r3 S3,fq m1 m3 H1 H'/\gp X.K m3 H' r3 σ'/\cS X.K m3 S3 H'/\S3[k]?=af (.lst ds)/\tF X (eZ (λr S=>eS cl cs r S) tt k ds (ds.drop (i+1)) r3 S3) m3 H' N,
        λσ' H' q=>⟨ds.length - (i+1),by lia,rfl,q.1,q.2⟩,λx H3 y=>?_⟩
       obtain⟨rfl,y⟩:=y;have ey:=y vs2 hq2;rw[g1]at ey;have ev:v=x:=by simpa using ey
       subst ev;have HA:ds.drop i=ds[i]::ds.drop (i+1):=Wk hlt;rw[HA]at h2;simp only[eZ]at h2;cases es:cz tt ds[i] r2 with
       |none=>rw[es]at h2;exact h2.elim|some r3=>
        rw[es]at h2;refine⟨m2,r2,ds[i],r3,B8,g2,es,λσ2 HM=>⟨m2,r3,S2,HM,ow,?_⟩⟩;refine tF.mono (tF.BE (W:=λσ' H'=>i+1<=ds.length/\∃m3 r3 S3,fq m1 m3 H1 H'/\gp X.K m3 H' r3 σ'/\cS X.K m3 S3 H'/\S3[k]?=af (.lst ds)/\tF X (eZ (λr S=>eS cl cs r S) tt k ds (ds.drop (i+1)) r3 S3) m3 H' N) h2 λm' H' σ' r' S' st er sr h=>?_) (λ_ _ q=>q) (λ_ _ q=> .inl q) (λ_ _ q=>q) (λ_ _ q=> .inl q);by_cases eg:S'[k]?=af (.lst ds)
        ·rw[if_pos eg]at h;exact⟨hlt,m',r',S',st2.trans st,er,sr,eg,h⟩
        ·rw[if_neg eg]at h;exact h.elim
      ·left;have ei:i=ds.length:=by lia
       subst ei;refine⟨⟨vs2,hq2,by rw[Sf.length];lia⟩,.inl ?_⟩;rw[kg]at h2;exact h2 m2 H2 σ1 (fq.refl _ _) B8 ow
     |dct kvs=>
      simp only[fN,eo]at h;refine .inr ⟨m,r,S,er,sr,?_⟩;rw[e];intro m1 H1 v st1 fh rd;obtain⟨p,rfl,hk⟩:=cg rd;obtain⟨p',vs,g1,hq,kv⟩:=fh.dct eo;rw[hk]at g1;cases g1;refine⟨p,vs,rfl,hq,λob h0=>?_⟩;have VZ:fq m1 m1 H1 (upd H1 p (.sP ob (.dK vs))):=fq.qo fh hk hq trivial;have WA:cS X.K m1 (S1.set k (.x9 kvs)) (upd H1 p (.sP ob (.dK vs))):=fh.qo hk hq trivial λH' st e=>⟨ob,vs,e,kv.step st⟩
      have hl:kvs.length=vs.length:=kv.len;obtain⟨ds,OP⟩:∃ds,ds=kvs.map λp=>sQ p.1:=⟨_,rfl⟩
      have hdl:ds.length=vs.length:=by rw[OP,UG];exact hl
      rw[←OP]at h;have fin:∀{m2:List ay}{S2 S3:bq}{H2:Hp},fq m1 m2 (upd H1 p (.sP ob (.dK vs))) H2->cS X.K m2 S2 H2->G0 k S2=af S3->∃vs2,H2 p=af (.sP ob (.dK vs2))/\fq m1 m2 H1 (upd H2 p (.dK vs2))/\cS X.K m2 S3 (upd H2 p (.dK vs2)):=λ{m2 S2 S3 H2} s2 ow e2=>by
       unfold G0 at e2;cases q:S2[k]? with
       |none=>simp_all|some oo=>
        rw[q]at e2;cases oo with
        |x9 WB=>have e2:=Ux e2;subst e2;obtain⟨p',o2,vs2,g1,g2,g3⟩:=ow.x9 q;rw[s2.at hk]at g1;cases g1;have g4:=s2.qk p ob (.dK vs) bj;rw[g2]at g4;cases g4;exact⟨vs,g2,fq.walked hq s2,ow.B0 (s2.at hk) g2 g3⟩
        |_=>cases e2
      refine⟨λi n σ H=>n=ds.length - i/\i<=ds.length/\∃m2 r2 S2,fq m1 m2 (upd H1 p (.sP ob (.dK vs))) H/\gp X.K m2 H r2 σ/\cS X.K m2 S2 H/\tF X (gC k (forLoop (λr S=>eS cl cs r S) tt (ds.drop i) r2 S2)) m1 H1 N,
       ⟨ds.length,by simp,Wx _,m1,r,_,fq.refl _ _,(er.step st1).step VZ,WA,h.step st1⟩,?_⟩
      rintro i n σ1 H2 ⟨rfl,hi,m2,r2,S2,st2,B8,ow,h2⟩;have hq2:H2 p=af (.sP ob (.dK vs)):=st2.qk p ob (.dK vs) bj;have done:∀{m3:List ay}{r3:aC}{S3:bq}{H3:Hp}{σ3:L2.St},tF X (gC k (af (.next r3 S3))) m1 H1 N->fq m1 m3 (upd H1 p (.sP ob (.dK vs))) H3->gp X.K m3 H3 r3 σ3->cS X.K m3 S3 H3->Ic X (N.nx σ3) H3:=λ{m3 r3 S3 H3 σ3} q s3 HM EF=>by
       cases e3:G0 k S3 with
       |none=>simp only[gC,e3,wm]at q;exact q.elim|some S4=>simp only[gC,e3,Ws]at q;obtain⟨vs2,w1,w2,w3⟩:=fin s3 EF e3;exact .inr ⟨p,ob,vs2,w1,h0,q m3 _ σ3 w2 (HM.iE (B7.B0 w1)) w3⟩
      by_cases hlt:i<ds.length
      ·right;have hkv:i<kvs.length:=by lia
       refine⟨⟨hq2,by lia⟩,λσ' H'=>i+1<=ds.length/\∃m3 r3 S3,fq m1 m3 (upd H1 p (.sP ob (.dK vs))) H'/\gp X.K m3 H' r3 σ'/\cS X.K m3 S3 H'/\tF X (gC k (forLoop (λr S=>eS cl cs r S) tt (ds.drop (i+1)) r3 S3)) m1 H1 N,
        λσ' H' q=>⟨ds.length - (i+1),by lia,rfl,q.1,q.2⟩,λx H3 y=>?_⟩
       obtain⟨rfl,key,vv,gk,rfl⟩:=y;have OQ:(kvs[i]).1=key:=by have q1:=kv.GG i;rw[Vc hkv,gk]at q1;simpa using q1
       have HA:ds.drop i=ds[i]::ds.drop (i+1):=Wk hlt;have WC:ds[i]=sQ key:=by simp only[OP,kc,OQ]
       rw[HA,WC]at h2;simp only[forLoop]at h2;cases es:cz tt (sQ key) r2 with
       |none=>rw[es]at h2;exact h2.elim|some r3=>
        rw[es]at h2;have h2:tF X (gC k (BE (eS cl cs r3 S2) λr S=>forLoop (λr S=>eS cl cs r S) tt (ds.drop (i+1)) r S)) m1 H1 N:=h2;refine⟨m2,r2,sQ key,r3,B8,Hx key,es,λσ2 HM=>⟨m2,r3,S2,HM,ow,?_⟩⟩;cases eb:eS cl cs r3 S2 with
        |none=>rw[eb]at h2;exact h2.elim|some fl=>
         rw[eb]at h2;cases fl with
         |next r4 S4=>exact λm4 H4 σ4 s4 LV EL=>⟨hlt,m4,r4,S4,st2.trans s4,LV,EL,h2⟩|cont r4 S4=>exact λm4 H4 σ4 s4 LV EL=>⟨hlt,m4,r4,S4,st2.trans s4,LV,EL,h2⟩|brk r4 S4=>exact λm4 H4 σ4 s4 LV EL=>done h2 (st2.trans s4) LV EL|ret d S4=>
          intro m4 H4 v s4 EL WE;have h2:tF X (gC k (af (.ret d S4))) m1 H1 N:=h2;cases e3:G0 k S4 with
          |none=>simp only[gC,e3,wm]at h2;exact h2.elim|some S5=>simp only[gC,e3,Ws]at h2;obtain⟨vs2,w1,w2,w3⟩:=fin (st2.trans s4) EL e3;exact .inr ⟨p,ob,vs2,w1,h0,h2 m4 _ v w2 w3 (WE.iE (B7.B0 w1))⟩
         |exc c r4 S4=>exact h2.elim
      ·left;have ei:i=ds.length:=by lia
       subst ei;refine⟨⟨hq2,by lia⟩,?_⟩;rw[kg]at h2;exact done h2 st2 B8 ow
   |_=>exact h.elim
def PX{pins:List (ay×Obj)}{s:aE}{σ:L2.St}{H:Hp}{A:cy}{E:ai->aE->Prop}{a:ay}{kvs:List (Key×V)}{k:Key}{v:V}{u r:ai}{Q:ai->aE->Prop}(I:Inv X pins σ H s)(e:H a=af (.dK kvs))(hl:dI kvs k=ah->kvs.length<aT)(ru:RelV (kV k) u)(rv:RelV v r)(h1:∀x w' s',dI kvs k=af x->Inv X pins σ H s'->RelV x w'->Q w' s')(h2:dI kvs k=ah->∀s',Inv X pins σ (upd H a (.dK (putK kvs k v))) s'->Q r s'):bg (model X.prog X.w) A (call (.builtin "dict.setdefault") [.ref a,u,r]) Q E s:=by
 obtain⟨z,hd,vs,rel,dd⟩:=nM I.hok e;have hz:vs.length<=sizeLine:=by rw[←rel.length];exact z
 refine call_meetsIn i6 dd.typeIs PySem.F.entry_dict_setdefault (PySem.F.args_dict_setdefault_3 _ _ _) (kt_meets_setdefault (aY X.prog X.w) a (kY ru) hd r) ⟨vs,dd,hz,λw hw=>?_,λhn h' EW hs=>?_⟩
 ·have q:=rel.val k;rw[hw]at q;cases hx:dI kvs k with|none=>rw[hx]at q;exact absurd q id|some x=>rw[hx]at q;exact h1 x w _ hx (I.tok _) q
 ·have hx:dI kvs k=none:=by
   have q:=rel.val k;rw[hn]at q;cases hx:dI kvs k with|none=>rfl|some x=>rw[hx]at q;exact absurd q id
  have he:∃q,h'.get? a=af q:=let⟨q,_,_,hq,_⟩:=EW;⟨q,hq⟩
  have hl2:(putK kvs k v).length<=sizeLine:=by have:=jM kvs k v;have:=hl hx;lia
  exact h2 hx _ (nO I (by rw[e];exact True.intro) hs he (ux hl2 hd (rel.put k rv) EW))
def Ud(X:Cx):V->List V->Hp->VK->Prop:=λx xs H Q=>∃m r S n ds,cS X.K m S H/\RD X.K m H (.ref n) x/\fR X.K m H ds xs/\tO X (rD X) (mj n ds S) m r H Q
def La{n:Nat}{ds:List D}{S:bq}{m:List ay}{r:aC}{H:Hp}{Q:VK}(h:tO X (rD X) (mj n ds S) m r H Q):∃k e kvs key,ds=[k,e]/\S[n]?=af (.dct kvs)/\cX k=af key/\((∃d,bC kvs key=af d/\tO X (rD X) (fz d S) m r H Q)\/(bC kvs key=ah/\kvs.length<aT/\tO X (rD X) (fz e (S.set n (.dct (putD kvs key e)))) m r H Q)):=by
 unfold mj at h;split at h
 ·rename_i k e;split at h
  ·rename_i kvs e1;split at h
   ·rename_i key e2;refine⟨k,e,kvs,key,rfl,e1,e2,?_⟩;cases e3:bC kvs key with
    |some d=>rw[e3]at h;exact .inl ⟨d,rfl,h⟩|none=>
     rw[e3]at h;by_cases hl:kvs.length<aT
     ·simp_all
     ·simp only[if_neg hl]at h;exact h.elim
   ·exact h.elim
  ·exact h.elim
 ·exact h.elim
def P0:D9 X "dict.setdefault" (Ud X):=by
 intro pins s σ H x xs v us Q I rx rv h;obtain⟨m,r,S,n,ds,sr,rd,rs,h⟩:=h;obtain⟨k,e,kvs,key,rfl,e1,e2,h⟩:=La h;obtain⟨a,rfl,hk⟩:=cg rd;obtain⟨a',vs,g1,g2,g3⟩:=sr.dct e1;rw[hk]at g1;cases g1;obtain⟨y,z,rfl,ry,rz⟩:=Oc rs;have ey:=qb e2 ry;subst ey;cases rx;obtain⟨u,w',rfl,ru,rw'⟩:=vals2 rv;rcases h with⟨d,e3,h⟩|⟨e3,hl,h⟩
 ·rcases g3.val key with⟨z1,z2⟩|⟨d',w3,z1,z2,MY⟩
  ·lia
  ·rw[z1]at e3;cases e3;exact PX I g2 (λq=>by lia) ru rw' (λx w2 s' q I' rx=>by
    rw[z2]at q;cases q;exact⟨_,H,I',rx,h.fin sr MY⟩) (λq=>by lia)
 ·rcases g3.val key with⟨z1,z2⟩|⟨d',w3,z1,z2,MY⟩
  ·have st:fq m m H (upd H a (.dK (putK vs key z))):=fq.qo sr hk g2 trivial;exact PX I g2 (λ_=>by rw[←g3.len];exact hl) ru rw' (λx w2 s' q=>by lia) λ_ s' I'=>⟨z,_,I',rw',h.fin' st (sr.qo hk g2 trivial λH' st' e=>⟨_,e,(g3.put key rz).step st'⟩) (rz.step st)⟩
  lia
theorem RQ{a b:br}{a' b':E}{es:List br}{es':List E}{apos:Pos}(ho:JE X cl a a')(ha:JA X cl (b::es) (b'::es'))(hbase:attributeBase a "setdefault" X.env (eval a X.env)=eval a X.env)(hfew:((backTo pos (starEach (b::es) X.env)).all (λx=>!x.1) && (backToKw pos (keywordEach [] X.env)).all (λx=>x.1.isSome)
   && decide ((b::es).length+([]:List Keyword).length+(if([]:List Keyword).isEmpty then 0 else 1)<30))=av)(hline:(apos.endLine==pos.line)=av)(hs:starEach (b::es) X.env=(aS,eval b X.env)::starEach es X.env)(hplain:(backTo pos (starEach es X.env)).any (·.1)=aS):
  JE X cl (.Call (.Attribute a "setdefault" apos) (b::es) [] pos) (.F6 a' (b'::es')):=by
 refine PE.imp (Jf gI i6 PySem.F.type_dict_setdefault P0 ho ha hbase hfew hline hs hplain) λσ H Q h=>?_;refine tM.el h λm r S er sr h=>?_;have h:tO X (rD X) (bnd (ak cl a' r S) λx S1=>match x with
  |.ref n=>(match S1[n]? with|some (.dct _)=>(bnd (aG cl (b'::es') r S1) λds S2=>mj n ds S2)|_=>ah)|_=>ah) m r H Q:=h
 refine⟨m,r,S,er,sr,h.bnd.mono λv H1 zz=>?_⟩;refine aR zz λm1 x S1 st1 fh rx h1=>?_;cases x with
 |ref n=>
  cases e:S1[n]? with
  |none=>simp only[e]at h1;exact h1.elim|some o=>
   cases o with|dct kvs=>simp only[e]at h1;refine⟨ty_dict fh rx e,m1,r,S1,er.step st1,fh,h1.bnd.mono λw H2 zz=>?_⟩;refine aR zz λm2 ds S2 st2 ow rs h2=>?_;exact⟨m2,r,S2,n,ds,ow,rx.step st2,rs,h2⟩|_=>simp only[e]at h1;exact h1.elim
 |_=>exact h1.elim
end
end RK
namespace RK
open PySem L2 PySem.SeqAt PyProof.Rows
abbrev fj(h:cK)(it d:ay)(i n ep:Nat)(f0 f1 ok ov:ai):Prop:=
 h.get? it=af {cls:= .type "dict_itemiterator",dict:=ah,data:= .fields #[f0,f1,.ref d,.int i 0,.int n 0,.int ep 0,ok,ov],slots:= #[]}
def Own(f0:ai):Prop:=f0= .none\/∃a:Nat,f0=rawInt a
section
variable{prog:bX}{w:ck}{K:Type}[DecidableEq K]{knd:KeyKind prog w K}{A:cy}{E:ai->aE->Prop}{s:aE}
def wU{M:Model}{a:ay}{Q:Option Obj->aE->Prop}(h:Q (s.heap.get? a) s):bg M A (loadIfAlive a) Q E s:=λΓ p _=>by
 unfold loadIfAlive
 simp_all
def Hy{it d:ay}{i n ep:Nat}{f0 f1 ok ov:ai}{Q:Bool->aE->Prop}(hit:fj s.heap it d i n ep f0 f1 ok ov)(ho:Own f0)(ht:Q av s)(hf:∀h' JY,fj h' it d i n ep f0 JY ok ov->Heap.SameBut it s.heap h'->Q aS {s with heap:=h'}):bg (model prog w) A (Builtin.Dict_items.ownedTupleIsFree (.ref it)) Q E s:=by
 unfold Builtin.Dict_items.ownedTupleIsFree;rcases ho with rfl|⟨a,rfl⟩
 ·exact My (Vs hit rfl (x:= .none) rfl (Uw ht))
 ·refine My (Vs hit rfl (x:=rawInt a) rfl ?_);show bg _ _ (loadIfAlive ((a:Int)).toNat>>=_) _ _ s;refine My (wU ?_);refine wpAny_ite_split (λ_=>Uw ht) (λ_=>?_);refine My (Vs hit rfl (x:=f1) rfl ?_);refine wpAny_ite_split (λ_=>?_) (λ_=>?_)
  ·refine My (VN hit (by simp) λh1 F9 hs1=>Uw (hf h1 (.bool av) F9 hs1))
  ·exact Uw (hf s.heap f1 hit (Heap.SameBut.refl _ _))
def Hz{it d:ay}{i ep:Nat}{kvs:List (K×ai)}{k:K}{v f0 f1 ok ov:ai}{Q:Option ai->aE->Prop}(hit:fj s.heap it d i kvs.length ep f0 f1 ok ov)(ho:Own f0)(hm:s.heap.DictAt knd d kvs ep)(hx:kvs[i]?=af (k,v))(hQ:∀key h' f0' JY ok' ov',knd.is k key=av->fj h' it d (i+1) kvs.length ep f0' JY ok' ov'->Own f0'->
   h'.get? s.heap.objs.size=af {cls:= .type "tuple",data:= .seq #[key,v]}->h'.objs.size=s.heap.objs.size+1->
   (∀b o,b≠it->s.heap.get? b=af o->h'.get? b=af o)->Q (af (.ref s.heap.objs.size)) {s with heap:=h'}):
  bg (model prog w) A (pyNext (.ref it)) Q E s:=by
 obtain⟨hp,g,dr,tk,os⟩:=s;obtain⟨od,es,hod,hcd,hdd,hk,hpr,hn⟩:=id hm;have hT:Shared.TypeIs ⟨hp,g,dr,tk,os⟩ (.ref it) "dict_itemiterator" :=⟨_,hit,rfl⟩
 unfold pyNext;refine My (Xf (V1 (name:=Str.ofString "__next__") hT Wo
  (VV Wo hT f6 ?_ (fT _))))
 refine My (Uw ?_);refine My ?_;refine My ?_
 first|refine My (WK hT (Uw ?_))|refine My (wpAny_typeNameOf_itemiter hT (Uw ?_))
 refine My (wpAny_fieldsOf hit rfl ?_);have hown:Builtin.Dict_items.ownsTuple "dict_itemiterator" =true:=by decide
 simp only[hown,if_true];show bg _ _ (if(Value.ref d==Value.none)=av then _ else _) _ _ _;rw[if_neg (show ¬((Value.ref d==Value.none)=av)from Bool.false_ne_true)];refine My (Uw ?_);refine My (wpAny_dictEntries hod hdd ?_);have hsz:es.size=kvs.length:=by rw[←hpr.length];simp
 rw[if_neg (by rw[hsz];simp)];refine My (Uw ?_);refine My (wpAny_dictEpoch hod hdd ?_);rw[if_neg (by simp)];refine Uw ?_;have hlt:i<kvs.length:=by
  rcases Nat.lt_or_ge i kvs.length with h|h
  ·exact h
  ·simp_all
 have hlt':i<es.size:=by rw[hsz];exact hlt
 obtain⟨hkey,hval⟩:=hpr.get? (e:=es[i]) (by simp[hlt']) hx;simp only[show ¬((i:Int)<0)from by lia,VR,iN,Array.getElem?_eq_getElem hlt'];refine My ?_
 first|refine My (WK hT (Uw ?_))|refine My (wpAny_typeNameOf_itemiter hT (Uw ?_))
 refine My (wpAny_isOneOf_itemiter hT ?_);show bg _ _ (setField (.ref it) 3 (rawInt ((i:Int)+1))>>=_) _ _ ⟨hp,g,dr,tk,os⟩;refine My (VN hit (by simp) λh₁ he₁ hs₁=>?_);replace hs₁:Heap.SameBut it hp h₁:=hs₁;replace he₁:fj h₁ it d (i+1) kvs.length ep f0 f1 ok ov:=by
  have e:((i+1:Nat):Int)=(i:Int)+1:=by lia
  unfold fj;rw[e];simpa[rawInt]using he₁
 have hT₁:Shared.TypeIs ⟨h₁,g,dr,tk,os⟩ (.ref it) "dict_itemiterator" :=⟨_,he₁,rfl⟩
 refine My (VB ?_);refine My (wpAny_isOneOf_itemiter hT₁ ?_);refine My (wpAny_isOneOf_itemiter hT₁ ?_);show bg _ _ (Builtin.Dict_items.pairFromOwner (.ref it) 6 es[i].key es[i].val) _ _ ⟨h₁,g,dr,tk,os⟩;unfold Builtin.Dict_items.pairFromOwner;refine My (wpAny_newTuple ?_);have he₂:fj (h₁.push {cls:= .type "tuple",data:= .seq #[es[i].key,es[i].val]}) it d (i+1) kvs.length ep f0 f1 ok ov:=Uv _ he₁;generalize hh₂:h₁.push {cls:= .type "tuple",data:= .seq #[es[i].key,es[i].val]}=h₂ at he₂;have hz₁:h₁.objs.size=hp.objs.size:=hs₁.1;have hil:it<hp.objs.size:=U4 hit;have ht₂:h₂.get? hp.objs.size=af {cls:= .type "tuple",data:= .seq #[es[i].key,es[i].val]}:=by rw[←hh₂,←hz₁];exact UW _ rfl
 have hz₂:h₂.objs.size=hp.objs.size+1:=by rw[←hh₂,Xm,hz₁]
 have hk₂:∀b o,b≠it->hp.get? b=af o->h₂.get? b=af o:=λb o hb e=>by rw[←hh₂];exact Uv _ (hs₁.extBut b o hb e)
 show bg _ _ (Builtin.Dict_items.ownedTupleIsFree (.ref it)>>=_) _ _ ⟨h₂,g,dr,tk,os⟩;rw[hz₁];clear hh₂ he₁ hs₁ hT₁ hz₁ h₁;refine My (Hy (s:=⟨h₂,g,dr,tk,os⟩) he₂ ho ?_ λh₃ JY he₃ hs₃=>?_)
 ·simp only[if_true];refine My (Vs he₂ rfl (x:=ok) rfl ?_);refine My (Vs he₂ rfl (x:=ov) rfl ?_);refine My (VN he₂ (by simp) λh₃ he₃ hs₃=>?_);replace hs₃:Heap.SameBut it h₂ h₃:=hs₃;replace he₃:fj h₃ it d (i+1) kvs.length ep f0 f1 es[i].key ov:=he₃;refine My (VN he₃ (by simp) λh₄ he₄ hs₄=>?_);replace hs₄:Heap.SameBut it h₃ h₄:=hs₄;replace he₄:fj h₄ it d (i+1) kvs.length ep f0 f1 es[i].key es[i].val:=he₄;refine My (VN he₄ (by simp) λh₅ he₅ hs₅=>?_);replace hs₅:Heap.SameBut it h₄ h₅:=hs₅;replace he₅:fj h₅ it d (i+1) kvs.length ep (rawInt hp.objs.size) f1 es[i].key es[i].val:=he₅;refine My (VN he₅ (by simp) λh₆ he₆ hs₆=>?_);replace hs₆:Heap.SameBut it h₅ h₆:=hs₆;replace he₆:fj h₆ it d (i+1) kvs.length ep (rawInt hp.objs.size) (.bool aS) es[i].key es[i].val:=he₆;refine My (wpAny_letGo (Uw (Uw ⟨_,rfl,Uw (hQ es[i].key h₆ _ _ _ _ hkey he₆ (.inr ⟨_,rfl⟩) ?_ ?_ ?_)⟩)))
  ·rw[←hval];exact hs₆.extBut _ _ (VP hil) (hs₅.extBut _ _ (VP hil) (hs₄.extBut _ _ (VP hil) (hs₃.extBut _ _ (VP hil) ht₂)))
  ·show h₆.objs.size=hp.objs.size+1;rw[hs₆.1,hs₅.1,hs₄.1,hs₃.1,hz₂]
  ·exact λb o hb e=>hs₆.extBut b o hb (hs₅.extBut b o hb (hs₄.extBut b o hb (hs₃.extBut b o hb (hk₂ b o hb e))))
 ·replace hs₃:Heap.SameBut it h₂ h₃:=hs₃;refine Uw (Uw ⟨_,rfl,Uw (hQ es[i].key h₃ _ _ _ _ hkey he₃ ho ?_ ?_ ?_)⟩)
  ·rw[←hval];exact hs₃.extBut _ _ (VP hil) ht₂
  ·show h₃.objs.size=hp.objs.size+1;rw[hs₃.1,hz₂]
  ·exact λb o hb e=>hs₃.extBut b o hb (hk₂ b o hb e)
def Lb{it d:ay}{i ep:Nat}{kvs:List (K×ai)}{f0 f1 ok ov:ai}{Q:Option ai->aE->Prop}(hh:A.handled=ah)(hit:fj s.heap it d i kvs.length ep f0 f1 ok ov)(hm:s.heap.DictAt knd d kvs ep)(hx:kvs[i]?=ah)(hQ:∀h',Heap.ExtBut it s.heap h'->Q ah {s with heap:=h'}):bg (model prog w) A (pyNext (.ref it)) Q E s:=by
 obtain⟨od,es,hod,hcd,hdd,hk,hpr,hn⟩:=id hm;have hT:s.TypeIs (.ref it) "dict_itemiterator" :=⟨_,hit,rfl⟩
 unfold pyNext;refine My (Xf (V1 (name:=Str.ofString "__next__") hT Wo
  (VV Wo hT f6 ?_ (fT _))))
 refine My (Uw ?_);refine My ?_;refine My ?_
 first|refine My (WK hT (Uw ?_))|refine My (wpAny_typeNameOf_itemiter hT (Uw ?_))
 refine My (wpAny_fieldsOf hit rfl ?_);have hown:Builtin.Dict_items.ownsTuple "dict_itemiterator" =true:=by decide
 simp only[hown,if_true];show bg _ _ (if(Value.ref d==Value.none)=av then _ else _) _ _ s;rw[if_neg (show ¬((Value.ref d==Value.none)=av)from Bool.false_ne_true)];refine My (Uw ?_);refine My (wpAny_dictEntries hod hdd ?_);have hsz:es.size=kvs.length:=by rw[←hpr.length];simp
 rw[if_neg (by rw[hsz];simp)];refine My (Uw ?_);refine My (wpAny_dictEpoch hod hdd ?_);rw[if_neg (by simp)];refine Uw ?_;have hge:es.size<=i:=by rw[hsz];simpa using hx
 simp only[show ¬((i:Int)<0)from by lia,VR,iN,Array.getElem?_eq_none hge];refine My ?_
 first|refine My (WK hT (Uw ?_))|refine My (wpAny_typeNameOf_itemiter hT (Uw ?_))
 show bg _ _ (setField (.ref it) 2 .none>>=_) _ _ s;refine My (W6 hit rfl (by simp) ?_);show bg _ _ (newExc (.type "StopIteration") []>>=_) _ _ _;refine My ?_;simp only[newExc,newTuple];refine My (VF ?_ (by size_fits));refine My (m:=firstArgMember _ _) (wpAny_of_eq (a:=Value.none) (by rfl) ?_);refine VF ?_ (by size_fits);simp only[raiseNew];refine My (wpAny_handled ?_);rw[show A.in1.handled=ah from hh];refine My (Uw (wpAny_throw ?_));refine My (wpAny_isInstance (T:= "StopIteration") (b:=av) ⟨_,UW _ rfl,rfl⟩ isSubtype_stop ?_);exact Uw (hQ _ (((Heap.SameBut.update ..).extBut.push _).push _))
end
section
variable{prog:bX}{w:ck}{A:cy}{E:ai->aE->Prop}{s:aE}{r:ay}{Q:Bool->aE->Prop}
def HF(hT:s.TypeIs (.ref r) "dict_items")(h:Q aS s):bg (model prog w) A (Builtin.List.listLengthHint (.ref r)) Q E s:=by
 unfold Builtin.List.listLengthHint;refine My (wpAny_specialOf hT PySem.F.slot_dict_items_len.lookup ?_);generalize hid:("dict_items.__len__" :String)=id0
 wp_delta
 rw[show splitId id0=af ("dict_items", "__len__")from by subst hid;decide+kernel];subst hid;refine My (wpAny_isInstance (T:= "dict_items") (b:=av) hT (by rfl) ?_);refine wpAny_ite_split (λhab=>absurd hab (by decide)) (λ_=>?_);refine wpAny_ite_split (λ_=>?_) (λhab=>absurd (by decide+kernel) hab);refine My (Wy hT ?_);exact Uw h
end
theorem An{α β:Type}{F:α->β->Prop}{l:List α}{m:List β}{i:Nat}{b:β}(h:PySem.Paired F l m):m[i]?=af b->∃a,l[i]?=af a/\F a b:=by
 induction h generalizing i with
 |nil=>intro e;simp at e|@cons a0 b0 l0 m0 h t ih=>
  intro e;cases i with|zero=>simp_all|succ i=>simp_all
abbrev pG(acc:Array ai)(c:Nat):Obj:={cls:= .type "list",dict:=ah,data:= .seq acc c,slots:= #[]}
section
variable{X:Cx}{pins:List (ay×Obj)}{σ:List (Option V)}{A:cy}
def vg(H:Hp)(kvs:List (Key×V))(acc:Array ai)(i:Nat):Prop:=acc.size=i/\∀j,j<i->∃a p,acc[j]?=af (.ref a)/\kvs[j]?=af p/\H a=af (.tup [kV p.1,p.2])
def Inv.pairs{H:Hp}{s:aE}{it:ay}{h':cK}{key u:ai}{x y:V}(I:Inv X pins σ H s)(f:eO X pins H it)(hi:it<s.heap.objs.size)(rx:RelV x key)(ry:RelV y u)(ht:h'.get? s.heap.objs.size=af {cls:= .type "tuple",data:= .seq #[key,u]})(hk:∀b o,b≠it->s.heap.get? b=af o->h'.get? b=af o):
  Inv X pins σ (upd H s.heap.objs.size (.tup [x,y])) {s with heap:=h'}:=by
 obtain⟨f0,f1,f2,f3,f4,f5⟩:=f;have hat:(s.heap.push {cls:= .type "tuple",data:= .seq #[key,u]}).get? s.heap.objs.size=af {cls:= .type "tuple",data:= .seq #[key,u]}:=UW _ rfl;have I1:=I.laid (h':=s.heap.push {cls:= .type "tuple",data:= .seq #[key,u]}) (t':=s.toks) (a:=s.heap.objs.size) (o:= .tup [x,y]) (λb o e=>Uv _ e) (Uz _)
  ⟨by simp[aT],[key,u],.cons rx (.cons ry .nil),⟨_,hat,rfl,0,rfl⟩,_,hat,rfl,rfl⟩
 have I2:=I1.turned (it:=it) (h':=h') (t':=s.toks) (λb o hb e=>?_) (by rw[aB (Vb hi)];exact f0) f1 f3 f4 f5
 ·exact I2
 have e:(s.heap.push {cls:= .type "tuple",data:= .seq #[key,u]}).get? b=af o:=e;by_cases eb:b=s.heap.objs.size
 ·lia
 ·rw[Heap.get?_push_ne _ _ _ eb]at e;exact hk b o hb e
theorem Ao{it S d:ay}{kvs:List (Key×V)}{vs:List (Key×ai)}{ep:Nat}{res:ai}{R:Result->aE->Prop}(hh:A.handled=ah)(rel:KV kvs vs)(hSi:S≠it)(hSd:S≠d)(hdi:d≠it)(hn:vs.length<=aT):
  ∀(k i:Nat)(s:aE)(H:Hp)(acc:Array ai)(c:Nat)(f0 f1 ok ov:ai),vs.length - i=k->i<=vs.length->Inv X pins σ H s->eO X pins H it->eO X pins H S->fj s.heap it d i vs.length ep f0 f1 ok ov->Own f0->
   s.heap.DictAt (aY X.prog X.w) d vs ep->s.heap.get? S=af (pG acc c)->vg H kvs acc i->
   (∀s' H' acc' c',Inv X pins σ H' s'->(∀b o,H b=af o->H' b=af o)->(∀b,H b=ah->H' b≠ah->s.heap.objs.size<=b)->s'.heap.get? S=af (pG acc' c')->vg H' kvs acc' vs.length->R (.ok (.ret res)) s')->
   codeAny (model X.prog X.w) A (.builtin "list.extend.loop" ⟨[.ref S,.ref it,res],[]⟩) R s:=by
 intro k
 induction k with
 |zero=>
  intro i s H acc c f0 f1 ok ov hk hi I fi fS hit ho hm hS hg hR;have hin:i=vs.length:=by lia
  subst hin;refine Wz kH ?_;rw[WF Ww _];show bg _ A.in1 (pyNext (.ref it)>>=_) _ _ s;refine My (Lb (A:=A.in1) hh hit hm (by simp) λh' he=>?_);obtain⟨g0,g1,g2,g3,g4,g5⟩:=fi;exact Uw (hR _ H acc c (I.turned (it:=it) (t':=s.toks) (λb o hb e=>he b o hb e) g0 g1 g3 g4 g5) (λ_ _ e=>e) (λb n y=>absurd n y) (he S _ hSi hS) hg)
 |succ k ih=>
  intro i s H acc c f0 f1 ok ov hk hi I fi fS hit ho hm hS hg hR;have hlt:i<vs.length:=by lia
  obtain⟨⟨ky,u⟩,hx⟩:∃p,vs[i]?=af p:=⟨vs[i],by simp[hlt]⟩
  obtain⟨⟨ky',y⟩,hx',e1,ry⟩:=An rel hx;have e1:ky'=ky:=e1;subst e1;refine Wz kH ?_;rw[WF Ww _];show bg _ A.in1 (pyNext (.ref it)>>=_) _ _ s;refine My (Hz hit ho hm hx λkey h' f0' JY ok' ov' hkey hit' ho' ht hz hkp=>?_);have hil:it<s.heap.objs.size:=U4 hit;have hSl:S<s.heap.objs.size:=U4 hS;have hS':=hkp S _ hSi hS;have I1:=Inv.pairs I fi hil (yg hkey) ry ht hkp;have hm':=hm.at' λo e=>hkp d o hdi e;show bg _ A.in1 (updateSeq S (·.push (.ref s.heap.objs.size))>>=_) _ _ _;refine My ?_;have hold:∀b o,H b=af o->b<s.heap.objs.size:=λb o e=>I.hok.lt e;refine wpAny_updateSeq hS' rfl (Uw ⟨plainId_quiet Ww _,ih (i+1) _ (upd H s.heap.objs.size (.tup [kV ky',y])) (acc.push (.ref s.heap.objs.size)) _ f0' JY ok' ov' (by lia) hlt ?_ ⟨?_,fi.2⟩ ⟨?_,fS.2⟩ ?_ ho' ?_ (Wd _ hS' rfl) ?_ λs'' CY acc' c' WG hH hN hS'' hg'=>?_⟩)
   (by rw[hg.1];lia) (by show(acc.push (.ref s.heap.objs.size)).size<=aT+1;rw[xo,hg.1];lia)
  ·obtain⟨g0,g1,g2,g3,g4,g5⟩:=fS;refine I1.turned (it:=S) (t':=s.toks) (λb o hb e=>?_) (by rw[aB (Vb hSl)];exact g0) g1 g3 g4 g5;exact(Ve _ _ (Ne.symm hb)).trans e
  ·rw[aB (Vb hil)];exact fi.1
  ·rw[aB (Vb hSl)];exact fS.1
  ·exact(Ve _ _ hSi).trans hit'
  ·exact hm'.at' λo e=>(Ve _ _ hSd).trans e
  ·refine⟨by rw[xo,hg.1],λj hj=>?_⟩;by_cases ej:j=i
   ·subst ej;refine⟨s.heap.objs.size,(ky',y),?_,hx',bj⟩;rw[qE,if_pos hg.1.symm]
   ·obtain⟨a,p,h1,h2,h3⟩:=hg.2 j (by lia);refine⟨a,p,?_,h2,?_⟩
    ·rw[qE,if_neg (by rw[hg.1];exact ej)];exact h1
    ·rw[aB (Vb (hold _ _ h3))];exact h3
  ·refine hR s'' CY acc' c' WG (λb o e=>hH b o (by rw[aB (Vb (hold b o e))];exact e)) (λb n y=>?_) hS'' hg';by_cases eb:b=s.heap.objs.size
   ·simp_all
   ·have q:=hN b (by rw[aB eb];exact n) y;have hz2:(h'.update S (Obj.mapSeq (·.push (.ref s.heap.objs.size)))).objs.size=s.heap.objs.size+1:=(Heap.size_update ..).trans hz;have q:(h'.update S (Obj.mapSeq (·.push (.ref s.heap.objs.size)))).objs.size<=b:=q;lia
def vh{H:Hp}{s:aE}{S v d:ay}{kvs:List (Key×V)}{vs:List (Key×ai)}{ep:Nat}{res:ai}{R:Result->aE->Prop}(hh:A.handled=ah)(rel:KV kvs vs)(I:Inv X pins σ H s)(fS:eO X pins H S)(hv:s.heap.IsItemsView v d)(hm:s.heap.DictAt (aY X.prog X.w) d vs ep)(WH:S≠v)(hSd:S≠d){c₀:Nat}(hS:s.heap.get? S=af (pG #[] c₀))(hn:vs.length<=aT)(hR:∀s' H' acc' c',Inv X pins σ H' s'->(∀b o,H b=af o->H' b=af o)->s'.heap.get? S=af (pG acc' c')->vg H' kvs acc' vs.length->R (.ok (.ret res)) s'):
  bg (model X.prog X.w) A.in1 (Builtin.List.listExtendWith (.ref S) (.ref v) res)
   (λfin s'=>match fin with|.done f=>R (.ok f) s'|.again c'=>c'.quiet=av/\codeAny (model X.prog X.w) A c' R s') (λe s'=>R (.error e) s') s:=by
 have hSl:S<s.heap.objs.size:=U4 hS;have hdl:d<s.heap.objs.size:=hm.lt_size;have fi:eO X pins H s.heap.objs.size:=I.BS (Uz _) (I.hok.fresh (Uz _));have key:∀(h:cK)(c₁ tk:Nat),fj h s.heap.objs.size d 0 vs.length ep .none (.bool aS) .none .none->(∀b o,b≠S->s.heap.get? b=af o->h.get? b=af o)->
   h.get? S=af (pG #[] c₁)->codeAny (model X.prog X.w) A (.builtin "list.extend.loop" ⟨[.ref S,.ref s.heap.objs.size,res],[]⟩) R {s with heap:=h,toks:=tk}:=by
  intro h c₁ tk hit hk hS₁;obtain⟨g0,g1,g2,g3,g4,g5⟩:=id fS;have I1:Inv X pins σ H {s with heap:=h,toks:=tk}:=I.turned (it:=S) (t':=tk) hk g0 g1 g3 g4 g5;exact Ao hh rel (Vb hSl) hSd (Vb hdl) hn vs.length 0 _ H #[] c₁ _ _ _ _ (by lia) (by lia) I1 fi fS hit (.inl rfl) (hm.at' λo e=>hk d o (Ne.symm hSd) e) hS₁ ⟨rfl,λj hj=>absurd hj (by lia)⟩
   λs' H' acc' c' I' hH _ hS' hg=>hR s' H' acc' c' I' hH hS' hg
 unfold Builtin.List.listExtendWith;refine My (Wy (T:= "dict_items") hv.typeIs ?_);have h1:Builtin.List.listSameRef (.ref S) (.ref v)=false:=by simp[Builtin.List.listSameRef,WH]
 have h2:(Value.type "dict_items" ==Value.type "list")=false:=by decide
 have h3:(Value.type "dict_items" ==Value.type "tuple")=false:=by decide
 simp only[h1,h2,h3,Bool.or_false,Vq,VR];refine My (wpAny_pyIter_items hv hm ?_);have hS₁:(s.heap.push {cls:= .type "dict_itemiterator",data:= .fields #[.none,.bool aS,.ref d,.int 0 0,.int vs.length 0,.int ep 0,.none,.none]}).get? S=af (pG #[] c₀):=Uv _ hS;have hit:fj (s.heap.push {cls:= .type "dict_itemiterator",data:= .fields #[.none,.bool aS,.ref d,.int 0 0,.int vs.length 0,.int ep 0,.none,.none]}) s.heap.objs.size d 0 vs.length ep .none (.bool aS) .none .none:=UW _ rfl;have hv':(s.heap.push {cls:= .type "dict_itemiterator",data:= .fields #[.none,.bool aS,.ref d,.int 0 0,.int vs.length 0,.int ep 0,.none,.none]}).IsItemsView v d:=let⟨o,e,x⟩:=hv;⟨o,Uv _ e,x⟩
 refine My (VB (HF (s:={s with heap:=s.heap.push _}) (Heap.IsItemsView.typeIs hv') ?_));refine wpAny_ite_split (λ_=>?_) (λ_=>Uw ⟨plainId_quiet Ww _,key _ c₀ _ hit (λb o _ e=>Uv _ e) hS₁⟩);refine My (Xh ?_);refine My ?_;show bg _ _ (updateSeq S (·.push .none)>>=λ_=>updateSeq S (·.pop)) _ _ _;refine My (wpAny_updateSeq hS₁ rfl ?_);have hS₂:=Wd (Obj.mapSeq (·.push Value.none)) hS₁ rfl;refine wpAny_updateSeq (hz:=by seq_fits) hS₂ rfl ?_;have hS₃:=Wd (Obj.mapSeq (·.pop)) hS₂ rfl;refine Uw ⟨plainId_quiet Ww _,key _ _ _ ?_ (λb o hb e=>?_) hS₃⟩
 ·exact(Ve _ _ (Vb hSl)).trans ((Ve _ _ (Vb hSl)).trans hit)
 ·exact(Ve _ _ (Ne.symm hb)).trans ((Ve _ _ (Ne.symm hb)).trans (Uv _ e))
theorem vm{E:ai->aE->Prop}{H:Hp}{s:aE}{v d:ay}{kvs:List (Key×V)}{vs:List (Key×ai)}{ep:Nat}{R:List ai->aE->Prop}(hh:A.handled=ah)(rel:KV kvs vs)(I:Inv X pins σ H s)(hv:s.heap.IsItemsView v d)(hm:s.heap.DictAt (aY X.prog X.w) d vs ep)(hn:vs.length<=aT)(h:∀s' H' acc,Inv X pins σ H' s'->(∀b o,H b=af o->H' b=af o)->vg H' kvs acc vs.length->R acc.toList s'):bg (model X.prog X.w) A (collect (.ref v)) R E s:=by
 unfold collect;refine My (wpAny_runValue (Wz entry_proto_collect' ?_));rw[WF jv _];refine My (m:=newList []) (VF (Uw ⟨plainId_quiet Xe _,Wz entry_list_iadd' ?_⟩));rw[WF Xe _];have hvl:v<s.heap.objs.size:=let⟨_,e,_⟩:=hv;U4 e
 have hdl:d<s.heap.objs.size:=hm.lt_size;have hS:(s.heap.push (seqObj "list" #[] 0)).get? s.heap.objs.size=af (seqObj "list" #[] 0):=UW _ rfl;have fS:eO X pins H s.heap.objs.size:=I.BS (Uz _) (I.hok.fresh (Uz _));have I1:Inv X pins σ H {s with heap:=s.heap.push (seqObj "list" #[] 0)}:=I.kept (t':=s.toks) λb o e=>Uv _ e;have key:=vh (A:=A) (s:={s with heap:=s.heap.push (seqObj "list" #[] 0)}) (res:= .ref s.heap.objs.size) (R:=λ(q:Result)(s':aE)=>q= .ok (.ret (.ref s.heap.objs.size))/\∃H' acc c,Inv X pins σ H' s'/\(∀b o,H b=af o->H' b=af o)/\s'.heap.get? s.heap.objs.size=af (pG acc c)/\vg H' kvs acc vs.length)
  hh rel I1 fS (let⟨o,e,x⟩:=hv;⟨o,Uv _ e,x⟩) (hm.push _) (VP hvl) (VP hdl) hS hn λs' H' acc c I' hH hS' hg=>⟨rfl,H',acc,c,I',hH,hS',hg⟩
 refine VH key (λf s' x=>?_) λe s' x=>by obtain⟨q,_⟩:=x;cases q
 cases f with
 |done f=>obtain⟨q,H',acc,c,I',hH,hS',hg⟩:=x;cases q;show bg _ A (load s.heap.objs.size>>=_) _ _ _;exact My (wpAny_load hS' (Uw (h s' H' acc I' hH hg)))
 |again c₁=>refine⟨x.1,Xn x.2 λq s₂ y=>?_⟩;obtain⟨rfl,H',acc,c,I',hH,hS',hg⟩:=y;show bg _ A (load s.heap.objs.size>>=_) _ _ _;exact My (wpAny_load hS' (Uw (h s₂ H' acc I' hH hg)))
end
section
variable{X:Cx}
def qC(v d:ay):cK->Prop:=λh=>h.IsItemsView v d
theorem yh{kvs:List (Key×V)}{rs:List (List Int)}(h:(kvs.map λp=> [kV p.1,p.2])=rs.map (·.map V.int)){i:Nat}{p:Key×V}(e:kvs[i]?=af p):[kV p.1,p.2]=(rs.getD i []).map V.int/\i<rs.length:=by
 have q:=VJ (λl=>l[i]?) h;simp only[Vw,e,Ws]at q;cases e2:rs[i]? with
 |none=>simp_all|some r=>
  rw[e2]at q;have q:[kV p.1,p.2]=r.map V.int:=Ux q;refine⟨?_,(UL.mp e2).1⟩
  simp_all
def oF(hc:X.calm=av):bH X (.builtin "sorted") (λxs H Q=>∃v d kvs rs,xs=[.ref v]/\H v=af (.ext (qC v d))/\H d=af (.dK kvs)/\(kvs.map λp=> [kV p.1,p.2])=rs.map (·.map V.int)/\(rs.Nodup/\rs.length<64)/\
  ∀H' l ws,(∀b o,H b=af o->H' b=af o)->H' l=ah->fc X.K H' aS ws (bh rs)->Q (.ref l) (upd H' l (.lst ws))):=by
 intro pins s σ H xs us Q I rv h;obtain⟨v,d,kvs,rs,rfl,hv,hq,hk,⟨hnd,h64⟩,q⟩:=h;obtain⟨u,rfl,ru⟩:=vals1 rv;cases ru;obtain⟨hz,hs,vs,r,dd⟩:=nM I.hok hq;obtain⟨ep,hat⟩:=dd.dictAt;have LW:s.heap.IsItemsView v d:=(show bG X.prog X.w H s.heap v (.ext (qC v d))from I.hok v _ hv).1;have hvl:vs.length=kvs.length:=r.length.symm;have hkl:kvs.length=rs.length:=by simpa using VJ e9 hk
 have hn:vs.length<=sizeLine:=by rw[VL];lia
 refine Calls.call_function_entry kind_sorted plain_sorted entry_sorted (args_sorted1 _) ?_;unfold Builtin.«sorted»;refine My (m:=checkCount "sorted" 1 1 _) (Uw ?_);refine My (vm (A:=X.A.in1) (I.ok.hd hc) r I LW hat hn λs' H' acc I' hH hg=>?_);obtain⟨hsz,hg⟩:=hg;have hal:acc.toList.length=rs.length:=by rw[V9];lia
 have hle:acc.toList.length<=sizeLine:=by rw[hal,VL];lia
 have at2:∀i,i<acc.toList.length->∃a o xs n,acc.toList[i]?=af (.ref a)/\s'.heap.get? a=af o/\o.cls= .type "tuple" /\o.data= .seq xs n/\IntsAre xs.toList (rs.getD i [])/\H' a=af (.tup ((rs.getD i []).map V.int)):=λi hi=>by
  obtain⟨a,p,e1,e2,e3⟩:=hg i (by lia);obtain⟨e4,e5⟩:=yh hk e2;rw[e4]at e3;obtain⟨_,its2,r2,⟨o,ho,hc,n,hd⟩,_⟩:=(show bG X.prog X.w H' s'.heap a (.tup ((rs.getD i []).map V.int))from I'.hok a _ e3)
  exact⟨a,o,its2.toArray,n,by grind,ho,hc,hd,intsAre_of (by simpa using r2),e3⟩
 have at_:uO aS s'.heap acc.toList rs:=λi hi=>by obtain⟨a,o,xs,n,e1,e2,e3,e4,e5,_⟩:=at2 i hi;exact⟨a,o,xs,n,e1,e2,e3,e4,e5⟩
 have hne:∀w∈rs,w≠ []:=λw hw z=>by
  obtain⟨i,hi⟩:=Xo.mp hw;have hil:i<rs.length:=(UL.mp hi).1;obtain⟨a,p,e1,e2,e3⟩:=hg i (by lia);obtain⟨e4,_⟩:=yh hk e2
  simp_all
 refine My (wpAny_newList ?_ hle);have hat':(s'.heap.push (seqObj "list" acc.toList.toArray 0)).get? s'.heap.objs.size=af (seqObj "list" acc.toList.toArray 0):=UW _ rfl;refine My (VB (VV (s:={s' with heap:=s'.heap.push (seqObj "list" acc.toList.toArray 0)}) slot_list_sort ⟨_,hat',rfl⟩ entry_list_sort ?body (args_list_sort _)));have keep:Keeps s'.heap (s'.heap.push (seqObj "list" acc.toList.toArray 0)):=λb o e=>Uv _ e;refine uK (s:={s' with heap:=s'.heap.push (seqObj "list" acc.toList.toArray 0)}) (O:=jW) (κ:=tuples' av) (key:=λi=>rs.getD i []) (h0:=s'.heap) keep (Heap.get?_none_of_le (Uz _)) hat' (by lia) (uP hal hnd) (λh1=>by lia) (λh2 h' Q' k q=>sV at_ hne hal (by lia) k q h2) (λh' i j C k hi hj hC=>xU at_ k hi hj hC) λpm hp hu=>⟨_,rfl,Uw ⟨_,rfl,?_⟩⟩
 have hpz:=hp.size;have hperm:=Wg.mp hp;simp only[kG]at hperm;have hpl:pm.toList.length=acc.toList.length:=by simpa using hpz
 have hmem:∀i∈pm.toList,i<acc.toList.length:=λi hi=>by simpa using hperm.mem_iff.mp hi
 obtain⟨e,he⟩:=sortedHeap_at (out:=pm.map λi=>acc.toList.getD i .none) hat'
 let adr:Nat->V:=λi=>match acc.toList.getD i .none with|.ref a=> .ref a|_=> .non
 have hadr:∀i,i<acc.toList.length->∃a,adr i= .ref a/\acc.toList.getD i .none= .ref a/\H' a=af (.tup ((rs.getD i []).map V.int)):=λi hi=>by
  obtain⟨a,o,xs,n,e1,_,_,_,_,e6⟩:=at2 i hi;have e7:acc.toList.getD i .none= .ref a:=by rw[Vu,e1];rfl
  exact⟨a,by show(match acc.toList.getD i .none with|.ref a=>V.ref a|_=> .non)=_;rw[e7],e7,e6⟩
 have I2:=I'.laid (h':=sortedHeap (s'.heap.push (seqObj "list" acc.toList.toArray 0)) s'.heap.objs.size acc.toList (pm.map λi=>acc.toList.getD i .none)) (t':=s'.toks) (a:=s'.heap.objs.size) (o:= .lst (pm.toList.map adr)) (λb o q=>?_) (Uz _) ?_
 ·refine⟨.ref s'.heap.objs.size,_,I2,rfl,q H' _ _ hH (I'.hok.fresh (Uz _)) ?_⟩;rw[←oM (its:=acc.toList) hal hp hu];refine pA (by simp) λi h1 h2=>?_;simp only[kc];have hil:i<pm.toList.length:=by simpa using h1
  obtain⟨a,e1,_,e3⟩:=hadr (pm.toList[i]) (hmem _ (j3 hil));exact⟨a,e1,.inl (.inl e3),λz=>by cases z⟩
 ·have hlt:=U4 q;rw[sortedHeap_old (Vb hlt) (by rw[size_push'];exact sF hlt)];exact Uv _ q
 ·refine⟨by simp_all,pm.toList.map λi=>acc.toList.getD i .none,e,?_,?_⟩
  ·have key:∀l:List Nat,(∀i∈l,i<acc.toList.length)->Vals (l.map adr) (l.map λi=>acc.toList.getD i .none):=by
    intro l
    induction l with
    |nil=>intro _;exact .nil|cons i l ih=>intro hl;obtain⟨a,e1,e2,_⟩:=hadr i (hl i (by simp));refine .cons ?_ (ih λj hj=>hl j (by simp[hj]));show RelV (adr i) (acc.toList.getD i .none);rw[e1,e2];rfl
   exact key _ hmem
  ·rw[he];congr 2;apply AI;simp
def HH:D9 X "dict.items" (λx xs H Q=>∃d kvs,x= .ref d/\xs=[]/\H d=af (.dK kvs)/\∀v,H v=ah->Q (.ref v) (upd H v (.ext (qC v d)))):=by intro pins s σ H x xs v us Q I rx rv h;obtain⟨d,kvs,rfl,rfl,hq,q⟩:=h;cases rx;cases rv;obtain⟨hz,hs,vs,r,dd⟩:=nM I.hok hq;have hat:(s.heap.push {cls:= .type "dict_items",data:= .fields #[.ref d]}).get? s.heap.objs.size=af {cls:= .type "dict_items",data:= .fields #[.ref d]}:=UW _ rfl;refine call_meetsIn mS dd.typeIs PySem.F.entry_dict_items (PySem.F.args_dict_items_1 _) (meets_dict_items (aY X.prog X.w) d hs) ⟨⟨vs,dd⟩,?_⟩;refine⟨.ref s.heap.objs.size,_,I.laid (t':=s.toks) (o:= .ext (qC s.heap.objs.size d)) (λb o e=>Uv _ e) (Uz _) ?_,rfl,q _ (I.hok.fresh (Uz _))⟩;exact⟨⟨_,hat,rfl,rfl⟩,⟨_,hat⟩,λh1 h2 z k=>by obtain⟨o,e,y⟩:=z;exact⟨o,k o e,y⟩⟩
end
section
variable{X:Cx}{cl:Nat->List D->bq->Ev D}{a:br}{a':E}{p pos apos cpos:Pos}
theorem vo{m:List ay}{H:Hp}:∀{kvs:List (Key×D)}{vs:List (Key×V)}{rs:List (List Int)},rX X.K m H kvs vs->iM kvs=af rs->(vs.map λp=> [kV p.1,p.2])=rs.map (·.map V.int)
 |[],[],rs,_,h=>by have e:[]=rs:=Ux h;subst e;rfl|p::ps,q::qs,rs,h,e=>by
  obtain⟨k,d⟩:=p;obtain⟨k',v⟩:=q;obtain⟨h1,h2,h3⟩:=h;have h1:k=k':=h1;subst h1;have h2:RD X.K m H d v:=h2;cases k with
  |inr x=>cases e|inl i=>
   cases d with
   |int j=>
    replace e:(match iM ps with|none=>ah|some t=>af ([i,j]::t))=af rs:=e;cases e2:iM ps with|none=>simp_all|some t=>rw[e2]at e;have e:=Ux e;subst e;have ev:=gc h2;subst ev;rw[U0,U0,vo h3 e2];rfl
   |_=>cases e
 |[],_::_,_,h,_=>h.elim|_::_,[],_,h,_=>h.elim
def fq.ext{m:List ay}{H H':Hp}(h:∀b o,H b=af o->H' b=af o):fq m m H H':=
 ⟨⟨[],by simp⟩,λ_ _ _ n=>n,λ_ _ e=>h _ _ e,λ_ _ _ e=>h _ _ e,λ_ _ e _=>h _ _ e,λa e=>(by
  cases q:H a with
  |none=>rfl
  |some o=>simp_all),λ_ _ e=>h _ _ e⟩
theorem Qa(hc:X.calm=av)(hg:Gl X "sorted")(hm:X.mg "sorted" =ah)(ho:JE X cl a a')(hbase:attributeBase a "items" X.env (eval a X.env)=eval a X.env)(hline:(apos.endLine==cpos.line)=av):
  JE X cl (.Call (.Name "sorted" p) [.Call (.Attribute a "items" apos) [] [] cpos] [] pos) (.E7 a'):=by
 refine PE.imp (kI (oF hc) hg hm boot_sorted (fH (NQ gI mS PySem.F.type_dict_items HH ho hbase hline) gQ rfl) (by decide) (by decide) rfl rfl) λσ H Q h=>?_;refine tM.el h λm r S er sr h=>?_;have h:tO X (rD X) (bnd (ak cl a' r S) λx S1=>qW x S1) m r H Q:=h;refine⟨m,r,S,er,sr,h.bnd.mono λv H1 zz=>?_⟩;refine aR zz λm1 x S1 st1 fh rx h1=>?_;cases x with
 |ref n=>
  cases e:S1[n]? with
  |none=>simp only[qW,e]at h1;exact h1.elim|some o=>
   cases o with
   |dct kvs=>
    simp only[qW,e]at h1;cases e2:iM kvs with
    |none=>rw[e2]at h1;exact h1.elim|some rs=>
     simp only[e2]at h1;by_cases h64:rs.Nodup/\rs.length<64
     ·rw[if_pos h64]at h1;refine⟨ty_dict fh rx e,?_⟩;obtain⟨d,rfl,hk⟩:=cg rx;obtain⟨d',vs,g1,g2,g3⟩:=fh.dct e;rw[hk]at g1;have:d=d':=by simpa using g1
      subst this;refine⟨d,vs,rfl,rfl,g2,λw hw=>?_⟩;have dw:d≠w:=λz=>by lia
      refine⟨w,d,vs,rs,rfl,bj,by rw[aB dw];exact g2,vo g3 e2,h64,λH' l ws hH hl hR=>?_⟩;have hE:∀b o,H1 b=af o->H' b=af o:=λb o q=>hH b o (by rw[aB (λz=>by lia)];exact q);have st:fq m1 m1 H1 H':=fq.ext hE;have ow:=fh.keep st λb hb=>by
       cases q:H1 b with|none=>exact absurd q (fh.there hb)|some o=>exact hE b o q
      exact(dO ow (mJ hR) (h1.step st)).2 l hl
     ·rw[if_neg h64]at h1;exact h1.elim
   |_=>simp only[qW,e]at h1;exact h1.elim
 |_=>exact h1.elim
def Qc{st:List eL}:CD X cl st [.no]:=λpins s σ H D I h=>by obtain⟨m,r,S,er,sr,h⟩:=h;exact h.elim
end
end RK
namespace RK
open PySem L2 PySem.SeqAt PySem.Spec
def mR(K:aI)(xc:List (Str×List Str)):Prop:=∀c l,(c,l)∈xc->∃C,bS K mainGlobals c=af (af (.ref C))/\f7 K C EK "ValueError.__new__" =av/\xw K C/\dS K (.ref C) (.type "ValueError")=af (l.contains "ValueError")/\
 ∀d l',(d,l')∈xc->∀D,bS K mainGlobals d=af (af (.ref D))->dS K (.ref C) (.ref D)=af (l.contains d)/\fy K (.ref C) (.ref D)=af (l.contains d)
def RT(X:Cx)(fns:List xA)(k:Nat)(cl:List (Str×List Str×List (Str×Nat×Nat))):Prop:=∀c fs ms,(c,fs,ms)∈cl->∃C,bS X.K mainGlobals c=af (af (.ref C))/\X.mg c=af (.ref C)/\Cf X.K C/\(∀f∈fs,fD X.K C f)/\
 ∀m f np,ms.lookup m=af (f,np)->∃fa fd ps,Meth X.K C m fa/\x8 X.prog X.w X.K X.mg X.base (A0 X.prog X.w) (2*k) fa fd ps (DF X.K fns np k f)/\Binds X.K fd ps []/\(m= "__init__" ->Mk X.K C fa)
structure vF(X:Cx)(sx:Sx)(fns:List xA)(k:Nat):Prop where
 N:X.N=sx.N
 nd:sx.N.Nodup
 names:X.env.scope.names=sx.names
 kind:X.env.scope.kind= .function
 calm:X.calm=av
 room:oz (2*k+1) X.A
 isDef:sx.isDef=av->(∀x,X.fn x=av)/\(sx.lp=av->PassesOwn (model X.prog X.w) X.A X.env X.xe)/\X.stack=X.env::X.outer/\X.env.frame=af X.env.locals
 cl:RT X fns k sx.cl
 fns:∀x f np,sx.fn.lookup x=af (f,np)->∃fa fd ps,x8 X.prog X.w X.K X.mg X.base (A0 X.prog X.w) (2*k) fa fd ps (DF X.K fns np k f)/\X.mg x=af (.ref fa)/\e8 X.K (.ref fa)=av/\Binds X.K fd ps []
 blt:∀x∈sx.bl,X.mg x=ah
 ct:∀x i,sx.ct.lookup x=af i->∃u,X.mg x=af u/\∃t,u= .int i t
 xc:mR X.K sx.xc
 xm:∀c l C,(c,l)∈sx.xc->bS X.K mainGlobals c=af (af (.ref C))->X.mg c=af (.ref C)
section
variable{X:Cx}{sx:Sx}{fns:List xA}{k:Nat}
theorem vF.units(ok:vF X sx fns k):X.A.units+66<cLine:=by have:=ok.room.un;lia
def vF.gl(ok:vF X sx fns k){x:Str}(h:sx.glob x=av):Gl X x/\(x==("__debug__" :Str))=aS/\x≠ "__name__" :=by unfold Sx.glob at h;simp only[Vn]at h;obtain⟨⟨h1,h2⟩,h3⟩:=h;refine⟨?_,by simpa using h2,by simpa using h3⟩;show X.env.scope.names.lookup x=af .globalImplicit;rw[ok.names];simpa using h1
def vF.bl(ok:vF X sx fns k){x:Str}(h:sx.blt x=av):Gl X x/\X.mg x=none:=by unfold Sx.blt at h;simp only[Vn]at h;exact⟨(ok.gl h.1).1,ok.blt x (by simpa using h.2)⟩
def HJ(ok:vF X sx fns k)(scope:Scope):(relabel scope X.env).names=Ag sx scope:=by
 unfold relabel Ag;have e:(X.env.scope.kind== .function)=true:=by rw[ok.kind];rfl
 have e2:∀n,X.env.kindOf n=sx.names.lookup n:=λn=>by show X.env.scope.names.lookup n=_;rw[ok.names]
 simp only[e,e2]
def HN(ok:vF X sx fns k){tg:br}{scope:Scope}(h:iG sx tg scope=av)(c:List (Str×ay))(C:ay)(s2:aE)(H2:Hp)(ex:List ay):
  vF (BN X scope c C (inner sx tg scope).N s2 H2 ex) (inner sx tg scope) fns k:=by
 unfold iG at h;simp only[Vn]at h;obtain⟨⟨⟨h1,h2⟩,h3⟩,h4⟩:=h;refine⟨rfl,Vo h4,HJ ok scope,(show scope.kind= .function by simpa using h1),ok.calm,ok.room,λz=>(by cases z),ok.cl,ok.fns,ok.blt,ok.ct,ok.xc,ok.xm⟩
def Ld(ok:vF X sx fns k){tg:br}{scope:Scope}{cap:List Nat}(h:iG sx tg scope=av)(hc:pC sx.N (fQ scope)=af cap):Cs X scope (inner sx tg scope).N (fY 5 tg).length cap:=by
 unfold iG at h;simp only[Vn]at h;obtain⟨⟨⟨h1,h2⟩,h3⟩,h4⟩:=h;have h2':∀y∈scope.names,(y.2 != .cell && (y.2 != .local || scope.names.lookup y.1==af .local) && (y.2 != .free || (sx.names.lookup y.1==af .cell || sx.names.lookup y.1==af .free)))=true:=λy hy=>Xa.mp h2 y hy;obtain⟨g1,g2⟩:=u0 hc;refine⟨by simpa using h1,λy hy hl=>?_,λy hy hl=>?_,λy hy hl=>?_,?_,λj i x hj hx=>?_⟩
 ·have q:=h2' y hy;lia
 ·have q:=h2' y hy;lia
 ·have q:=h2' y hy;simp only[Vn]at q;have q:=q.2;rw[hl]at q;rw[ok.names];simpa using q
 ·show(fY 5 tg++fQ scope).length=_
  simp_all
 ·have hx:(fY 5 tg++fQ scope)[(fY 5 tg).length+j]?=af x:=hx;rw[Vl (by lia),Nat.add_sub_cancel_left]at hx;refine⟨by rw[ok.N];exact g2 j i x hj hx,?_⟩;have:=Xa.mp h3 x (V4 hx);lia
theorem jb(ok:vF X sx fns k):∀n,(∀e t,CF sx n e=af t->JG X e t)/\(∀es ts,vd sx n es=af ts->LH X es ts/\(assignEach es X.env).length=ts.length/\(assignEach es X.env).findIdx? (·.1)=ah)
 |0=>⟨λe t h=>(by cases h),λes ts h=>(by cases h)⟩|n+1=>by
  obtain⟨ih1,ih2⟩:=jb ok n;refine⟨λe t h=>?_,λes ts h=>?_⟩
  ·cases e with
   |Name x p=>
    replace h:(if sx.names.lookup x=af .local\/(sx.isDef=av/\sx.names.lookup x=af .cell)then(idx sx.N x).map Tg.name else ah)=af t:=h;by_cases hx:sx.names.lookup x=af .local\/(sx.isDef=av/\sx.names.lookup x=af .cell)
    ·rw[if_pos hx]at h;obtain⟨i,e1,e2⟩:=cj h;subst e2;have hN:X.N[i]?=af x:=by rw[ok.N];exact iD e1
     rcases hx with hx|⟨hd,hx⟩
     ·exact q8 (by rw[ok.N];exact ok.nd) hN (.inl (by rw[ok.names];exact hx)) (.inr (by rw[ok.names];exact hx))
     ·exact q8 (by rw[ok.N];exact ok.nd) hN (.inr (by rw[ok.names];exact hx)) (.inl ((ok.isDef hd).1 x))
    lia
   |Tuple es kk p=>obtain⟨ts,e1,e2⟩:=cj (show(vd sx n es).map Tg.tup=af t from h);subst e2;obtain⟨h1,h2,h3⟩:=ih2 es ts e1;exact Pj ok.calm h1 h2 h3
   |_=>cases h
  ·unfold vd at h;split at h
   ·have e2:ts=[]:=by simpa using h
    subst e2;exact⟨KD,rfl,rfl⟩
   ·rename_i e r;obtain⟨t,ts',e1,e2,e3⟩:=bU h;subst e3;obtain⟨h1,h2,h3⟩:=ih2 r ts' e2;have hs:assignEach (e::r) X.env=(aS,assign e X.env)::assignEach r X.env:=by
     cases n with
     |zero=>cases e1|succ n=>cases e<;>first|rfl|cases e1
    refine⟨Hf (ih1 e t e1) h1 (by rw[hs];rfl),by rw[hs];simp[h2],?_⟩
    grind
theorem cD{n:Nat}{e:br}{e':E}(h:cE n sx e=af e')(es:List br)(env:Env):starEach (e::es) env=(aS,eval e env)::starEach es env:=by
 cases n with
 |zero=>cases h|succ n=>cases e<;>first|rfl|cases h
theorem fU:∀{n:Nat}{es:List br}{es':List E},AB n sx es=af es'->∀env,(starEach es env).all (λx=>!x.1)=av
 |0,es,es',h,env=>by cases h|n+1,[],es',h,env=>rfl|n+1,e::r,es',h,env=>by unfold AB at h;obtain⟨e'',r',e1,e2,_⟩:=bU h;rw[cD e1];simp[fU e2 env]
def iH{pos:Pos}{l:List (Bool×Sem ai)}(h:l.all (λx=>!x.1)=av):(backTo pos l).any (·.1)=false:=by
 unfold backTo
 simp_all
def pH{pos:Pos}{l:List (Bool×Sem ai)}(h:l.all (λx=>!x.1)=av):(backTo pos l).all (λx=>!x.1)=true:=by unfold backTo;rw[List.all_map];exact h
theorem gG{n:Nat}{es:List br}{a':E}{as':List E}(h:AB n sx es=af (a'::as')):∃m a r,n=m+1/\es=a::r/\cE m sx a=af a'/\AB m sx r=af as':=by
 cases n with
 |zero=>cases h|succ m=>
  unfold AB at h;cases es with
  |nil=>simp at h|cons e r=>
   obtain⟨e',r',e1,e2,e3⟩:=bU h;injection e3 with e4 e5
   subst e4;subst e5;exact⟨m,e,r,rfl,rfl,e1,e2⟩
def LX{x:Str}{f:Bi}(hc:X.calm=av)(hu:X.A.units+66<cLine)(h:jZ x=af f):(∃id,bootBuiltins x=af (.builtin id)/\bH X (.builtin id) (E9 X f))\/∃T,bootBuiltins x=af (.type T)/\bH X (.type T) (E9 X f):=by
 unfold jZ at h;split at h
 ·rename_i e;subst e;have:Bi.len=f:=by simpa using h
  subst this;exact .inl ⟨"len",PySem.boot_len,Od⟩
 ·split at h
  ·rename_i e;subst e;have:Bi.min=f:=by simpa using h
   subst this;exact .inl ⟨"min",PyProof.Rows.boot_min,PN hc hu⟩
  ·split at h
   ·rename_i e;subst e;have:Bi.max=f:=by simpa using h
    subst this;exact .inl ⟨"max",PyProof.Rows.boot_max,PP hc hu⟩
   ·split at h
    ·rename_i e;subst e;have:Bi.abs=f:=by simpa using h
     subst this;exact .inl ⟨"abs",PyProof.Rows.boot_abs,Oe⟩
    ·split at h
     ·rename_i e;subst e;have:Bi.int=f:=by simpa using h
      subst this;exact .inr ⟨"int",PyProof.Rows.boot_int,Og⟩
     ·cases h
end
def Ed{K:aI}{x:Str}{C D:ay}(h:bS K mainGlobals x=af (af (.ref C)))(h':bS K mainGlobals x=af (af (.ref D))):C=D:=by lia
def jc{sx:Sx}{c y:Str}(h:c∈iR sx y):∃l,(c,l)∈sx.xc/\l.contains y=true:=by
 unfold iR at h
 simp_all
def lE{sx:Sx}{c y:Str}(h:c∈pD sx y):∃l,(c,l)∈sx.xc/\l.contains y=false:=by
 unfold pD at h
 simp_all
def Le{K:aI}{sx:Sx}{y:Str}{l:List Str}{D:ay}(ok:mR K sx.xc)(hy:(y,l)∈sx.xc)(hD:bS K mainGlobals y=af (af (.ref D))):DJ K (.ref D) (iR sx y) (pD sx y):=by
 have cls:∀c l,(c,l)∈sx.xc->∀C,bS K mainGlobals c=af (af (.ref C))->xw K C/\dS K (.ref C) (.ref D)=af (l.contains y):=λc l hc C hC=>by obtain⟨C',h1,_,h3,_,h5⟩:=ok c l hc;have e:=Ed hC h1;subst e;exact⟨h3,(h5 y _ hy D hD).1⟩
 refine⟨λc hc C hC=>?_,λc hc C hC=>?_,λc hc C hC=>?_⟩
 ·rcases hc with hc|hc
  ·obtain⟨l,h1,_⟩:=jc hc;exact(cls c l h1 C hC).1
  ·obtain⟨l,h1,_⟩:=lE hc;exact(cls c l h1 C hC).1
 ·obtain⟨l,h1,h2⟩:=jc hc;rw[←h2];exact(cls c l h1 C hC).2
 ·obtain⟨l,h1,h2⟩:=lE hc;rw[←h2];exact(cls c l h1 C hC).2
def Lf{K:aI}{sx:Sx}(ok:mR K sx.xc):DJ K (.type "ValueError") (iR sx "ValueError") (pD sx "ValueError"):=by
 have cls:∀c l,(c,l)∈sx.xc->∀C,bS K mainGlobals c=af (af (.ref C))->xw K C/\dS K (.ref C) (.type "ValueError")=af (l.contains "ValueError"):=λc l hc C hC=>by obtain⟨C',h1,_,h3,h4,_⟩:=ok c l hc;lia
 refine⟨λc hc C hC=>?_,λc hc C hC=>?_,λc hc C hC=>?_⟩
 ·rcases hc with hc|hc
  ·obtain⟨l,h1,_⟩:=jc hc;exact(cls c l h1 C hC).1
  ·obtain⟨l,h1,_⟩:=lE hc;exact(cls c l h1 C hC).1
 ·obtain⟨l,h1,h2⟩:=jc hc;rw[←h2];exact(cls c l h1 C hC).2
 ·obtain⟨l,h1,h2⟩:=lE hc;rw[←h2];exact(cls c l h1 C hC).2
structure XH(X:Cx)(sx:Sx):Prop where
 N:X.N=sx.N
 nd:sx.N.Nodup
 names:X.env.scope.names=sx.names
 blt:∀x∈sx.bl,X.mg x=ah
 xc:mR X.K sx.xc
 xm:∀c l C,(c,l)∈sx.xc->bS X.K mainGlobals c=af (af (.ref C))->X.mg c=af (.ref C)
def vF.hand{X:Cx}{sx:Sx}{fns:List xA}{k:Nat}(ok:vF X sx fns k)(e:ai):XH (fP X e) sx:=⟨ok.N,ok.nd,ok.names,ok.blt,ok.xc,ok.xm⟩
section
variable{X:Cx}{sx:Sx}{cl:Nat->List D->bq->Ev D}
def XH.gl(ok:XH X sx){x:Str}(h:sx.glob x=av):Gl X x/\(x==("__debug__" :Str))=aS/\x≠ "__name__" :=by unfold Sx.glob at h;simp only[Vn]at h;obtain⟨⟨h1,h2⟩,h3⟩:=h;refine⟨?_,by simpa using h2,by simpa using h3⟩;show X.env.scope.names.lookup x=af .globalImplicit;rw[ok.names];simpa using h1
def XH.bl(ok:XH X sx){x:Str}(h:sx.blt x=av):Gl X x/\X.mg x=none:=by unfold Sx.blt at h;simp only[Vn]at h;exact⟨(ok.gl h.1).1,ok.blt x (by simpa using h.2)⟩
theorem hstar{n:Nat}{e:br}{e':E}(h:C1 n sx e=af e')(es:List br)(env:Env):starEach (e::es) env=(aS,eval e env)::starEach es env:=by
 cases n with
 |zero=>cases h|succ n=>cases e<;>first|rfl|cases h
theorem HQ{fn:br}{as:List br}{ks:List Keyword}{f:Str}{a:br}{y:Str}(h:t8 fn as ks=af (f,a,y)):∃fp yp,fn= .Name f fp/\as=[a,.Name y yp]/\ks=[]:=by
 cases ks with
 |cons _ _=>cases h|nil=>
  cases as with
  |nil=>cases h|cons b r=>
   cases r with
   |nil=>cases h|cons b2 r=>
    cases r with
    |cons _ _=>cases h|nil=>obtain⟨f',y',h1,h2,e⟩:=bU (show aV (λf y=>(f,b,y)) (nameOf fn) (nameOf b2)=af (f,a,y)from h);cases e;obtain⟨fp,rfl⟩:=iY h1;obtain⟨yp,rfl⟩:=iY h2;exact⟨fp,yp,rfl,rfl,rfl⟩
theorem vp(ok:XH X sx):∀n,(∀e e',C1 n sx e=af e'->JE X cl e e')/\(∀es pos e',M0 n sx es=af e'->JE X cl (.BoolOp .And es pos) e')
 |0=>⟨λe e' h=>(by cases h),λes pos e' h=>(by cases h)⟩|n+1=>by
  obtain⟨ih1,ih2⟩:=vp ok n;refine⟨λe e' h=>?_,λes pos e' h=>?_⟩
  ·cases e with
   |Name x p=>
    have h:(if((x==("__debug__" :Str))=aS/\(x==("__classdict__" :Str))=aS)/\sx.names.lookup x=af .local then(idx sx.N x).map E.var else ah)=af e':=h;split at h
    ·rename_i hx;obtain⟨i,h1,e⟩:=cj h;subst e;exact CN (by rw[ok.N];exact iD h1) (.inl (by rw[ok.names];exact hx.2)) hx.1.1 hx.1.2
    ·cases h
   |Constant c j p=>
    have h:qy c=af e':=h;cases c with|int i=>have e:=Ux h;subst e;exact CP|bool b=>have e:=Ux h;subst e;exact Ji|none=>have e:=Ux h;subst e;exact CQ|str x=>have e:=Ux h;subst e;exact CT|_=>cases h
   |UnaryOp o a p=>
    cases o with
    |Not=>obtain⟨a',h1,e⟩:=cj (show(C1 n sx a).map .nt=af e' from h);subst e;exact CW (ih1 _ _ h1)
    |_=>cases h
   |BoolOp o es p=>
    cases o with|And=>exact ih2 _ _ _ h|Or=>cases h
   |Call fn as ks cp=>
    replace h:(match t8 fn as ks with
     |some (f,a,y)=>if(f= "isinstance" /\sx.blt "isinstance" =av)/\(((sx.xc.lookup y).isSome=av/\sx.glob y=av)\/(y= "ValueError" /\sx.blt "ValueError" =av))then(C1 n sx a).map λa'=>E.EX a' (iR sx y) (pD sx y)else ah
     |none=>ah)=af e':=h
    cases q:t8 fn as ks with
    |none=>simp_all|some pr=>
     obtain⟨f,a,y⟩:=pr;rw[q]at h;replace h:(if(f= "isinstance" /\sx.blt "isinstance" =av)/\(((sx.xc.lookup y).isSome=av/\sx.glob y=av)\/(y= "ValueError" /\sx.blt "ValueError" =av))then(C1 n sx a).map λa'=>E.EX a' (iR sx y) (pD sx y)else ah)=af e':=h;obtain⟨fp,yp,rfl,rfl,rfl⟩:=HQ q;by_cases hc:(f= "isinstance" /\sx.blt "isinstance" =av)/\(((sx.xc.lookup y).isSome=av/\sx.glob y=av)\/(y= "ValueError" /\sx.blt "ValueError" =av))
     ·rw[if_pos hc]at h;obtain⟨⟨rfl,hb⟩,hy⟩:=hc;obtain⟨a',h1,e⟩:=cj h;subst e;obtain⟨g1,g2⟩:=ok.bl hb;rcases hy with⟨hy1,hy2⟩|⟨rfl,hy2⟩
      ·obtain⟨l,hl⟩:=Vk.mp hy1;have hm:=Vv hl;obtain⟨D,hD,_⟩:=ok.xc y l hm;obtain⟨q1,q2,_⟩:=ok.gl hy2;exact DN (u:= .ref D) (uv:= .ref D) g1 g2 (ih1 _ _ h1) (Pz q1 (ok.xm y l D hm hD) q2) (λv r=>by cases r;rfl) (Le ok.xc hm hD) (hstar h1 _ _)
      ·obtain⟨q1,q2⟩:=ok.bl hy2;exact DN (u:= .ty "ValueError") (uv:= .type "ValueError") g1 g2 (ih1 _ _ h1) (JD q1 q2 (by decide+kernel) rfl (by decide) (by decide)) (λv r=>by cases r;rfl) (Lf ok.xc) (hstar h1 _ _)
     ·rw[if_neg hc]at h;cases h
   |_=>cases h
  ·cases es with
   |nil=>cases h|cons a r=>
    cases r with
    |nil=>exact De (ih1 _ _ h)|cons b r=>obtain⟨x,y,h1,h2,e⟩:=bU (show aV (λa' b'=>E.and a' b') (C1 n sx a) (M0 n sx (b::r))=af e' from h);subst e;exact Df (ih1 _ _ h1) (ih2 _ pos _ h2)
theorem Ef(ok:XH X sx):∀n,(∀e e',GB n sx e=af e'->JT X cl e e')/\(∀es pos e',Ak n sx es=af e'->JW X cl (.BoolOp .And es pos) e')
 |0=>⟨λe e' h=>(by cases h),λes pos e' h=>(by cases h)⟩|n+1=>by
  obtain⟨ih1,ih2⟩:=Ef ok n;refine⟨λe e' h=>?_,λes pos e' h=>?_⟩
  ·cases e with
   |UnaryOp o a p=>
    cases o with
    |Not=>obtain⟨a',h1,e⟩:=cj (show(GB n sx a).map T.nt=af e' from h);subst e;exact Dd (ih1 _ _ h1)
    |_=>cases h
   |BoolOp o es p=>
    cases o with|And=>exact(ih2 _ _ _ h).pt|Or=>cases h
   |Call f as ks p=>obtain⟨a',h1,e⟩:=cj (show(C1 n sx (.Call f as ks p)).map T.val=af e' from h);subst e;exact CZ ((vp ok n).1 _ _ h1) (λ_=>rfl)
   |_=>cases h
  ·cases es with
   |nil=>cases h|cons a r=>
    cases r with
    |nil=>exact xN (ih1 _ _ h)|cons b r=>obtain⟨x,y,h1,h2,e⟩:=bU (show aV (λa' b'=>T.and a' b') (GB n sx a) (Ak n sx (b::r))=af e' from h);subst e;exact Dc (ih1 _ _ h1) (ih2 _ pos _ h2)
theorem Qd{n:Nat}{e:br}{e':E}(h:C1 n sx e=af e'){t:Option br}{l:Nat}{env:Env}:swapsWith e t l env=pure false:=by
 cases n with
 |zero=>cases h|succ n=>cases e<;>first|rfl|cases h
theorem Eg(ok:XH X sx):∀n,(∀st c,OM n sx st=af c->JS X cl st c)/\(∀ss cs,jP n sx ss=af cs->CD X cl ss cs)
 |0=>⟨λe e' h=>(by cases h),λes e' h=>(by cases h)⟩|n+1=>by
  obtain⟨ih1,ih2⟩:=Eg ok n;refine⟨λst c h=>?_,λss cs h=>?_⟩
  ·cases st with
   |Assign ts e pos=>
    cases ts with
    |nil=>cases h|cons tg r=>
     cases r with
     |cons _ _=>cases h|nil=>
      replace h:(match nameOf tg with|none=>ah|some x=>if sx.names.lookup x=af .local then aV (λi e'=>C.asg (.name i) e') (idx sx.N x) (C1 n sx e)else ah)=af c:=h;cases q:nameOf tg with
      |none=>simp_all|some x=>
       rw[q]at h;obtain⟨xp,rfl⟩:=iY q;by_cases hx:sx.names.lookup x=af .local
       ·simp only[if_pos hx]at h;obtain⟨i,e',h1,h2,ec⟩:=bU h;subst ec;exact qt ((vp ok n).1 _ _ h2) (q8 (by rw[ok.N];exact ok.nd) (by rw[ok.N];exact iD h1) (.inl (by rw[ok.names];exact hx)) (.inr (by rw[ok.names];exact hx))) (Qd (t:=af (.Name x xp)) (l:=pos.line) (env:=X.env) h2) rfl rfl
       lia
   |If q a b p=>obtain⟨a',b',c',h1,h2,h3,e'⟩:=lD (show dR (λc' a' b'=>C.cond c' a' b') (GB n sx q) (jP n sx a) (jP n sx b)=af c from h);subst e';exact Jm ((Ef ok n).1 _ _ h1) (ih2 _ _ h2) (ih2 _ _ h3)
   |Pass p=>have e:=Ux h;subst e;exact xX|_=>cases h
  ·cases ss with
   |nil=>have e:=Ux h;subst e;exact xW|cons s r=>obtain⟨a',b',h1,h2,e'⟩:=bU (show aV (λs' r'=>s'::r') (OM n sx s) (jP n sx r)=af cs from h);subst e';exact uT (ih1 _ _ h1) (ih2 _ _ h2)
end
structure SE(fns:List xA)(k n:Nat):Prop where
 e:∀X sx,vF X sx fns k->∀e e',cE n sx e=af e'->JE X (ao fns k) e e'
 lc:∀X sx,vF X sx fns k->∀elt tg iter ifs scope pos e',JJ n sx elt tg iter ifs scope pos=af e'->
  ∃mu elt' tt it' ifs' nn cap,e'= .comp mu elt' tt it' ifs' nn cap/\Cs X scope (inner sx tg scope).N nn cap/\JI X (ao fns k) tg iter it'/\(∀x,foldedSetIterable iter X.env x=pure x)/\
   ∀(s2:aE)(H2:Hp)(c:List (Str×ay))(C:ay)(ex:List ay),JG (BN X scope c C (inner sx tg scope).N s2 H2 ex) tg tt/\E0 (BN X scope c C (inner sx tg scope).N s2 H2 ex) (ao fns k) ifs ifs'/\JE (BN X scope c C (inner sx tg scope).N s2 H2 ex) (ao fns k) elt elt'
 call:∀X sx,vF X sx fns k->∀x p as pos e',Ah n sx x as pos=af e'->JE X (ao fns k) (.Call (.Name x p) as [] pos) e'
 col:∀X sx,vF X sx fns k->∀x p as pos e',sx.blt x=av->Ai n sx x as pos=af e'->JE X (ao fns k) (.Call (.Name x p) as [] pos) e'
 LY:∀X sx,vF X sx fns k->∀x p a pos e',sx.blt x=av->n8 n sx x a pos=af e'->JE X (ao fns k) (.Call (.Name x p) [a] [] pos) e'
 meth:∀X sx,vF X sx fns k->∀o name apos as pos e',Aj n sx o name apos as pos=af e'->JE X (ao fns k) (.Call (.Attribute o name apos) as [] pos) e'
 es:∀X sx,vF X sx fns k->∀es es',AB n sx es=af es'->JA X (ao fns k) es es'
 bv:∀X sx,vF X sx fns k->∀o es pos e',I0 n sx o es=af e'->JE X (ao fns k) (.BoolOp o es pos) e'
 t:∀X sx,vF X sx fns k->∀e t,cT n sx e=af t->JT X (ao fns k) e t
 bt:∀X sx,vF X sx fns k->∀o es pos t,JU n sx o es=af t->JW X (ao fns k) (.BoolOp o es pos) t
 ts:∀X sx,vF X sx fns k->∀es ts,JO n sx es=af ts->E0 X (ao fns k) es ts
 i:∀X sx,vF X sx fns k->∀tg e i,cI n sx e=af i->JI X (ao fns k) tg e i/\(∀x,foldedSetIterable e X.env x=pure x)
 fm:∀X sx,vF X sx fns k->∀vs as,E1 n sx vs=af as->yi X (ao fns k) vs as
variable{fns:List xA}{k:Nat}
def Lg:SE fns k 0:=by
 refine⟨?_,?_,?_,?_,?_,?_,?_,?_,?_,?_,?_,?_,?_⟩
 ·intro X sx ok e e' h;cases h
 ·intro X sx ok a b c d e f g h;cases h
 ·intro X sx ok a b c d e h;cases h
 ·intro X sx ok a b c d e f h;cases h
 ·intro X sx ok a b c d e f h;cases h
 ·intro X sx ok a b c d e f h;cases h
 ·intro X sx ok a b h;cases h
 ·intro X sx ok a b c d h;cases h
 ·intro X sx ok a b h;cases h
 ·intro X sx ok a b c d h;cases h
 ·intro X sx ok a b h;cases h
 ·intro X sx ok a b c h;cases h
 ·intro X sx ok a b h;cases h
def Lh(e:br)(c:Int)(sp:br)(p:Pos)(r:List br)(n:Nat)(sx:Sx)(as:List E):E1 (n+1) sx (.FormattedValue e c (af sp) p::r)≠af as:=by intro h;cases h
def Li{e:br}{c:Int}(hc:c≠114)(p:Pos)(r:List br)(n:Nat)(sx:Sx)(as:List E):E1 (n+1) sx (.FormattedValue e c ah p::r)≠af as:=by intro h;have h:(if c=114 then aV (λe' r'=>(e'::r')) (cE n sx e) (E1 n sx r)else ah)=af as:=h;lia
theorem RW{n:Nat}(ih:SE fns k n):∀X sx,vF X sx fns k->∀vs as,E1 (n+1) sx vs=af as->yi X (ao fns k) vs as:=by
 intro X sx ok vs as h;cases vs with
 |nil=>have e:=Ux h;subst e;exact .nil|cons v r=>
  cases v with
  |Constant c j p=>
   cases c with|str x=>exact .str (ih.fm X sx ok _ _ h)|_=>cases h
  |FormattedValue e c sp p=>
   cases sp with
   |some _=>exact absurd h (Lh e c _ p r n sx as)|none=>
    by_cases hc:c=114
    ·subst hc;obtain⟨e',r',h1,h2,e⟩:=bU (show aV (λe' r'=>(e'::r')) (cE n sx e) (E1 n sx r)=af as from h);subst e;exact .rep (ih.e X sx ok _ _ h1) (ih.fm X sx ok _ _ h2)
    ·exact absurd h (Li hc p r n sx as)
  |_=>cases h
def RX{n:Nat}(ih:SE fns k n):∀X sx,vF X sx fns k->∀elt tg iter ifs scope pos e',JJ (n+1) sx elt tg iter ifs scope pos=af e'->
  ∃mu elt' tt it' ifs' nn cap,e'= .comp mu elt' tt it' ifs' nn cap/\Cs X scope (inner sx tg scope).N nn cap/\JI X (ao fns k) tg iter it'/\(∀x,foldedSetIterable iter X.env x=pure x)/\
   ∀(s2:aE)(H2:Hp)(c:List (Str×ay))(C:ay)(ex:List ay),JG (BN X scope c C (inner sx tg scope).N s2 H2 ex) tg tt/\E0 (BN X scope c C (inner sx tg scope).N s2 H2 ex) (ao fns k) ifs ifs'/\JE (BN X scope c C (inner sx tg scope).N s2 H2 ex) (ao fns k) elt elt':=by
 intro X sx ok elt tg iter ifs scope pos e' h;replace h:(if iG sx tg scope=av then(cI n sx iter).bind λi'=>(CF (inner sx tg scope) n tg).bind λt'=>(JO n (inner sx tg scope) ifs).bind λfs'=>(cE n (inner sx tg scope) elt).bind λe'=>(pC sx.N (fQ scope)).map λcap=>
   E.comp (sx.BG pos) e' t' i' fs' (fY 5 tg).length cap else ah)=af e':=h
 by_cases hs:iG sx tg scope=av
 ·rw[if_pos hs]at h;replace h:=VD.mp h;obtain⟨i',h1,h⟩:=h;replace h:=VD.mp h;obtain⟨t',h2,h⟩:=h;replace h:=VD.mp h;obtain⟨fs',h3,h⟩:=h;replace h:=VD.mp h;obtain⟨e1,h4,h⟩:=h;obtain⟨cap,h5,e2⟩:=cj h;obtain⟨hi,hf⟩:=ih.i X sx ok tg iter i' h1;refine⟨_,e1,t',i',fs',_,cap,e2.symm,Ld ok hs h5,hi,hf,λs2 H2 c C ex=>?_⟩;have ok':=HN ok hs c C s2 H2 ex;exact⟨(jb ok' n).1 tg t' h2,ih.ts _ _ ok' ifs fs' h3,ih.e _ _ ok' elt e1 h4⟩
 simp_all
theorem RZ{n:Nat}(ih:SE fns k n):∀X sx,vF X sx fns k->∀es es',AB (n+1) sx es=af es'->JA X (ao fns k) es es':=by
 intro X sx ok es es' h;cases es with
 |nil=>cases h;exact Ot|cons a r=>obtain⟨x,y,h1,h2,e⟩:=bU (show aV (λe' r'=>e'::r') (cE n sx a) (AB n sx r)=af es' from h);subst e;exact Kh (ih.e X sx ok _ _ h1) (ih.es X sx ok _ _ h2) (cD h1 _ _)
theorem R0{n:Nat}(ih:SE fns k n):∀X sx,vF X sx fns k->∀es ts,JO (n+1) sx es=af ts->E0 X (ao fns k) es ts:=by
 intro X sx ok es es' h;cases es with
 |nil=>cases h;exact KY|cons a r=>obtain⟨x,y,h1,h2,e⟩:=bU (show aV (λe' r'=>e'::r') (cT n sx a) (JO n sx r)=af es' from h);subst e;exact Hi (ih.t X sx ok _ _ h1) (ih.ts X sx ok _ _ h2)
theorem R1{n:Nat}(ih:SE fns k n):∀X sx,vF X sx fns k->∀o es pos e',I0 (n+1) sx o es=af e'->JE X (ao fns k) (.BoolOp o es pos) e':=by
 intro X sx ok o es pos e' h;cases es with
 |nil=>cases h|cons a r=>
  cases r with
  |nil=>exact De (ih.e X sx ok _ _ h)|cons b r=>
   cases o with
   |And=>obtain⟨x,y,h1,h2,e⟩:=bU (show aV (λa' b'=>E.and a' b') (cE n sx a) (I0 n sx .And (b::r))=af e' from h);subst e;exact Df (ih.e X sx ok _ _ h1) (ih.bv X sx ok _ _ pos _ h2)
   |Or=>obtain⟨x,y,h1,h2,e⟩:=bU (show aV (λa' b'=>E.or a' b') (cE n sx a) (I0 n sx .Or (b::r))=af e' from h);subst e;exact RG (ih.e X sx ok _ _ h1) (ih.bv X sx ok _ _ pos _ h2)
theorem R3{n:Nat}(ih:SE fns k n):∀X sx,vF X sx fns k->∀o es pos t,JU (n+1) sx o es=af t->JW X (ao fns k) (.BoolOp o es pos) t:=by
 intro X sx ok o es pos e' h;cases es with
 |nil=>cases h|cons a r=>
  cases r with
  |nil=>
   cases o with|And=>exact xN (ih.t X sx ok _ _ h)|Or=>exact Oo (ih.t X sx ok _ _ h)
  |cons b r=>
   cases o with
   |And=>obtain⟨x,y,h1,h2,e⟩:=bU (show aV (λa' b'=>T.and a' b') (cT n sx a) (JU n sx .And (b::r))=af e' from h);subst e;exact Dc (ih.t X sx ok _ _ h1) (ih.bt X sx ok _ _ pos _ h2)
   |Or=>obtain⟨x,y,h1,h2,e⟩:=bU (show aV (λa' b'=>T.or a' b') (cT n sx a) (JU n sx .Or (b::r))=af e' from h);subst e;exact RC (ih.t X sx ok _ _ h1) (ih.bt X sx ok _ _ pos _ h2)
theorem vq:∀{cl:List (Str×List Str×List (Str×Nat×Nat))}{m c:Str}{f np:Nat},u5 cl m=af (c,f,np)->∃fs ms,(c,fs,ms)∈cl/\ms.lookup m=af (f,np)
 |[],m,c,f,np,h=>by cases h|(c',fs,ms)::r,m,c,f,np,h=>by
  unfold u5 at h;cases e:ms.lookup m with
  |none=>rw[e]at h;obtain⟨fs',ms',h1,h2⟩:=vq h;exact⟨fs',ms',by simp[h1],h2⟩
  |some q=>
   rw[e]at h
   grind
theorem vy:∀{cl:List (Str×List Str×List (Str×Nat×Nat))}{f c:Str},mL cl f=af c->∃fs ms,(c,fs,ms)∈cl/\f∈fs
 |[],f,c,h=>by cases h|(c',fs,ms)::r,f,c,h=>by
  unfold mL at h;by_cases e:fs.contains f=av
  ·grind
  ·rw[if_neg e]at h;obtain⟨fs',ms',h1,h2⟩:=vy h
   grind
theorem yj:∀{cl:List (Str×List Str×List (Str×Nat×Nat))}{x:Str}{f np:Nat},IZ cl x=af (f,np)->∃fs ms,(x,fs,ms)∈cl/\ms.lookup ("__init__" :Str)=af (f,np)
 |[],x,f,np,h=>by cases h|(c',fs,ms)::r,x,f,np,h=>by
  unfold IZ at h;by_cases e:c'=x
  ·grind
  ·rw[if_neg e]at h;obtain⟨fs',ms',h1,h2⟩:=yj h
   grind
def vF.fld{X:Cx}{sx:Sx}(ok:vF X sx fns k){c f:Str}(h:mL sx.cl f=af c):∀C,bS X.K mainGlobals c=af (af (.ref C))->Cf X.K C/\fD X.K C f:=by
 obtain⟨fs,ms,h1,h2⟩:=vy h;obtain⟨C,g1,g2,g3,g4,_⟩:=ok.cl c fs ms h1
 simp_all
def dZ{o:br}(h:∀a b c d,o≠ .Call a b c d)(f:Str)(env:Env):attributeBase o f env (eval o env)=eval o env:=by cases o<;>first|rfl|lia
def Lj{n:Nat}(ih:SE fns k n):∀X sx,vF X sx fns k->∀x p as pos e',Ah (n+1) sx x as pos=af e'->JE X (ao fns k) (.Call (.Name x p) as [] pos) e':=by
 intro X sx ok x p as pos e' h;replace h:(if sx.glob x=av then match sx.fn.lookup x with
   |some fp=>(AB n sx as).bind λes=>match es with
    |[]=>ah|a'::as'=>if as'.length+1=fp.2 then af (E.call fp.1 (a'::as'))else ah
   |none=>match IZ sx.cl x with
    |some fp=>(AB n sx as).bind λes=>match es with
     |[]=>ah|a'::as'=>if as'.length+2=fp.2 then af (E.new x fp.1 (a'::as'))else ah
    |none=>if sx.bl.contains x=av then match jZ x with
      |some f=>(AB n sx as).bind λes=>match es with
       |[]=>ah|a'::as'=>af (E.bi f (a'::as'))
      |none=>Ai n sx x as pos
     else ah
  else ah)=af e':=h
 by_cases hg:sx.glob x=av
 ·rw[if_pos hg]at h;obtain⟨g1,g2,g3⟩:=ok.gl hg;cases hf:sx.fn.lookup x with
  |some fp=>
   obtain⟨f,np⟩:=fp;rw[hf]at h;replace h:=VD.mp h;obtain⟨es,hes,h⟩:=h;cases es with
   |nil=>cases h|cons a' as'=>
    replace h:(if as'.length+1=np then af (E.call f (a'::as'))else ah)=af e':=h;by_cases hl:as'.length+1=np
    ·rw[if_pos hl]at h;cases h;obtain⟨m,a,r,rfl,rfl,h1,h2⟩:=gG hes;obtain⟨fa,fd,ps,F,hm,hk,hb⟩:=ok.fns x f np hf;exact KQ F hl (ok.room.mono (by lia)) g1 hm hk hb (ih.es X sx ok _ _ hes) g2 (cD h1 _ _) (iH (fU h2 _))
    lia
  |none=>
   rw[hf]at h;cases hM:IZ sx.cl x with
   |some fp=>
    obtain⟨f,np⟩:=fp;simp only[hM]at h;replace h:=VD.mp h;obtain⟨es,hes,h⟩:=h;cases es with
    |nil=>cases h|cons a' as'=>
     replace h:(if as'.length+2=np then af (E.new x f (a'::as'))else ah)=af e':=h;by_cases hl:as'.length+2=np
     ·rw[if_pos hl]at h;cases h;obtain⟨m,a,r,rfl,rfl,h1,h2⟩:=gG hes;obtain⟨fs,ms,q1,q2⟩:=yj hM;obtain⟨C,w1,w2,w3,w4,w5⟩:=ok.cl x fs ms q1;obtain⟨fa,fd,ps,z1,z2,z3,z4⟩:=w5 _ f np q2;exact PL (ih.es X sx ok _ _ hes) hl w1 (z4 rfl) z2 ok.room g1 w2 z3 g2 (cD h1 _ _) (iH (fU h2 _))
     lia
   |none=>
    simp only[hM]at h;by_cases C2:sx.bl.contains x=av
    ·rw[if_pos C2]at h;have hm:X.mg x=none:=ok.blt x (by simpa using C2);cases hf2:jZ x with
     |some f=>
      simp only[hf2]at h;replace h:=VD.mp h;obtain⟨es,hes,h⟩:=h;cases es with
      |nil=>cases h|cons a' as'=>
       cases h;obtain⟨m,a,r,rfl,rfl,h1,h2⟩:=gG hes;rcases LX ok.calm ok.units hf2 with⟨id,hv,hc⟩|⟨T,hv,hc⟩
       ·exact RM hc g1 hm hv (ih.es X sx ok _ _ hes) g3 g2 (cD h1 _ _) (iH (fU h2 _))
       ·exact O9 hc g1 hm hv (ih.es X sx ok _ _ hes) g3 g2 (cD h1 _ _) (iH (fU h2 _))
     |none=>simp only[hf2]at h;exact ih.col X sx ok x p as pos e' (by unfold Sx.blt;lia) h
    ·rw[if_neg C2]at h;cases h
 simp_all
theorem Lk{n:Nat}(ih:SE fns k n):∀X sx,vF X sx fns k->∀x p a pos e',sx.blt x=av->n8 (n+1) sx x a pos=af e'->JE X (ao fns k) (.Call (.Name x p) [a] [] pos) e':=by
 intro X sx ok x p a pos e' hb h;obtain⟨g1,hm⟩:=ok.bl hb;replace h:(match qx x a with
  |some q=>if isCall q.1=aS/\(q.2.1.endLine==q.2.2.line)=av then(cE n sx q.1).map .E7 else ah|none=>match cE n sx a with
  |none=>ah
  |some a'=>if x= "list" then af (.col (.list (sx.BG pos)) (.snap a'))else if x= "tuple" then af (.col .tuple (.snap a'))else if x= "sorted" then af (.col (.sorted (sx.BG pos)) (.live a'))else ah)=af e':=h
 cases hq:qx x a with
 |some q=>
  rw[hq]at h;obtain⟨rfl,rfl⟩:=Ho hq;replace h:(if isCall q.1=aS/\(q.2.1.endLine==q.2.2.line)=av then(cE n sx q.1).map .E7 else ah)=af e':=h;by_cases Ct:isCall q.1=aS/\(q.2.1.endLine==q.2.2.line)=av
  ·rw[if_pos Ct]at h;obtain⟨o',h1,h2⟩:=Wh.mp h;subst h2;have hno:∀a b c d,q.1≠ .Call a b c d:=λa b c d z=>by have:=Ct.1;rw[z]at this;cases this
   exact Qa ok.calm g1 hm (ih.e X sx ok _ _ h1) (dZ hno _ _) Ct.2
  ·rw[if_neg Ct]at h;cases h
 |none=>
 simp only[hq]at h;split at h
 ·cases h
 ·rename_i a' h1;have J:=ih.e X sx ok _ _ h1;have hs:=cD h1 [] X.env;split at h
  ·rename_i e;subst e;have e:=Ux h;subst e;exact uR Hd g1 hm nN J (by decide) (by decide) hs
  ·split at h
   ·rename_i e;subst e;have e:=Ux h;subst e;exact uR Dq g1 hm PyProof.Rows.boot_tuple J (by decide) (by decide) hs
   ·split at h
    ·rename_i e;subst e;have e:=Ux h;subst e;exact Ds ok.calm g1 hm J hs
    ·cases h
theorem Qe{n:Nat}(ih:SE fns k n):∀X sx,vF X sx fns k->∀x p as pos e',sx.blt x=av->Ai (n+1) sx x as pos=af e'->JE X (ao fns k) (.Call (.Name x p) as [] pos) e':=by
 intro X sx ok x p as pos e' hb h;obtain⟨g1,hm⟩:=ok.bl hb;cases as with
 |nil=>cases h|cons a r=>
  cases r with
  |nil=>
   replace h:(match fG a with
    |none=>n8 n sx x a pos|some (y,bs)=>if y= "range" /\sx.blt "range" =av/\x= "list" then match bs with
      |[]=>ah|b::r2=>match r2 with
       |[]=>(cE n sx b).map λb'=>E.col (if x= "list" then .list (sx.BG pos)else .tuple) (.lP b')|c::r3=>ah
     else n8 n sx x a pos)=af e':=h
   cases q:fG a with
   |none=>rw[q]at h;exact ih.LY X sx ok x p _ pos e' hb h|some yb=>
    obtain⟨y,bs⟩:=yb;rw[q]at h;by_cases hc:y= "range" /\sx.blt "range" =av/\x= "list"
    ·simp only[if_pos hc]at h;obtain⟨yp,p3,rfl⟩:=jH q;obtain⟨rfl,hr,hx⟩:=hc;obtain⟨r1,r2⟩:=ok.bl hr;cases bs with
     |nil=>cases h|cons b bs=>
      cases bs with
      |nil=>obtain⟨b',h1,e⟩:=cj h;subst e;have J:=ih.e X sx ok _ _ h1;have hs:=cD h1 [] X.env;subst hx;rw[if_pos rfl];exact Ky (Dt ok.calm) g1 hm nN (by decide) (by decide) r1 r2 J hs
      |cons c bs=>cases h
    ·simp only[if_neg hc]at h;exact ih.LY X sx ok x p _ pos e' hb h
  |cons c r=>
   cases r with|cons _ _=>cases h|nil=>cases h
def Ln{n:Nat}(ih:SE fns k n):∀X sx,vF X sx fns k->∀o name apos as pos e',Aj (n+1) sx o name apos as pos=af e'->JE X (ao fns k) (.Call (.Attribute o name apos) as [] pos) e':=by
 intro X sx ok o name apos as pos e' h;replace h:(if isCall o=aS/\(apos.endLine==pos.line)=av/\as.length+1<30 then(cE n sx o).bind λo'=>(AB n sx as).bind λas'=>match Ae sx.cl name as'.length with
   |some q=>af (E.kD q.1 name q.2.1 o' as')|none=>match as' with
    |[]=>ah|a'::r=>match r with
     |b'::r2=>match r2 with
      |_::_=>ah|[]=>if name= "setdefault" then af (E.F6 o' [a',b'])else ah
     |[]=>if name= "append" then af (E.meth .append o' [a'])else if name= "pop" then af (E.meth .lI o' [a'])else if name= "extend" then af (E.meth .extend o' [a'])else ah
  else ah)=af e':=h
 by_cases Ct:isCall o=aS/\(apos.endLine==pos.line)=av/\as.length+1<30
 ·rw[if_pos Ct]at h;obtain⟨hic,GH,hfw⟩:=Ct;have hno:∀a b c d,o≠ .Call a b c d:=λa b c d z=>by subst z;cases hic
  have hform:∀as',AB n sx as=af as'->methodCallForm (as.length+([]:List Keyword).length) (backTo pos (starEach as X.env)) (backToKw pos (keywordEach [] X.env))=true:=λas' q=>by have h1:=pH (pos:=pos) (fU q X.env);have h2:decide (as.length+([]:List Keyword).length+(if([]:List Keyword).isEmpty then 0 else 1)<30)=true:=Wc (by simp;lia);show((backTo pos (starEach as X.env)).all (λx=>!x.1) && (backToKw pos (keywordEach [] X.env)).all (λx=>x.1.isSome) && decide (as.length+([]:List Keyword).length+(if([]:List Keyword).isEmpty then 0 else 1)<30))=av;rw[h1,h2];rfl
  replace h:=VD.mp h;obtain⟨o',h1,h⟩:=h;replace h:=VD.mp h;obtain⟨as',h2,h⟩:=h;cases hM:Ae sx.cl name as'.length with
  |some q=>
   obtain⟨c,f,np⟩:=q;rw[hM]at h;obtain⟨hM,hl⟩:u5 sx.cl name=af (c,f,np)/\as'.length+1=np:=by unfold Ae at hM;lia
   cases h;obtain⟨fs,ms,g1,g2⟩:=vq hM;obtain⟨C,w1,w2,w3,w4,w5⟩:=ok.cl c fs ms g1;obtain⟨fa,fd,ps,q1,q2,q3,_⟩:=w5 name f np g2;have hcc:∀C',bS X.K mainGlobals c=af (af (.ref C'))->Cf X.K C'/\Meth X.K C' name fa:=λC' hC'=>by lia
   cases as' with
   |nil=>
    have ea:as=[]:=by
     cases n with
     |zero=>cases h2|succ n=>
      cases as with
      |nil=>rfl|cons a r=>obtain⟨_,_,_,_,e⟩:=bU (show aV (λe' r'=>e'::r') (cE n sx a) (AB n sx r)=af []from h2);cases e
    subst ea;exact Ea (ih.e X sx ok _ _ h1) hl hcc w1 q2 (ok.room.mono (by lia)) q3 (dZ hno _ _) (hform _ h2) GH
   |cons a' r'=>obtain⟨m,a,r,rfl,rfl,h3,h4⟩:=gG h2;exact Hv (ih.e X sx ok _ _ h1) (ih.es X sx ok _ _ h2) hl hcc w1 q2 (ok.room.mono (by lia)) q3 (cD h3 _ _) (iH (fU h4 _)) (dZ hno _ _) (hform _ h2) GH
  |none=>
   rw[hM]at h;cases as' with
   |nil=>cases h|cons a' r'=>
    cases r' with
    |cons b' r2'=>
     cases r2' with
     |cons _ _=>cases h|nil=>
      replace h:(if name= "setdefault" then af (E.F6 o' [a',b'])else ah)=af e':=h;obtain⟨m,a,r,rfl,rfl,h3,h4⟩:=gG h2;obtain⟨m2,a2,r2,em,rfl,h5,h6⟩:=gG h4;have hr:r2=[]:=by
       cases m2 with
       |zero=>cases h6|succ m2=>
        cases r2 with
        |nil=>rfl|cons e r=>obtain⟨_,_,_,_,e⟩:=bU (show aV (λe' r'=>e'::r') (cE m2 sx e) (AB m2 sx r)=af []from h6);cases e
      subst hr;have hs:=cD h3 [a2] X.env;have hs2:=cD h5 [] X.env;have hall:(starEach [a,a2] X.env).all (λx=>!x.1)=true:=by rw[hs,hs2];rfl
      have hfew:((backTo pos (starEach [a,a2] X.env)).all (λx=>!x.1) && (backToKw pos (keywordEach [] X.env)).all (λx=>x.1.isSome)
       && decide ([a,a2].length+([]:List Keyword).length+(if([]:List Keyword).isEmpty then 0 else 1)<30))=true:=by
       rw[pH hall];rfl
      have hu:=ok.units
      ·by_cases n6:name= "setdefault"
       ·rw[if_pos n6]at h;subst n6;cases h;exact RQ (ih.e X sx ok _ _ h1) (ih.es X sx ok _ _ h2) (dZ hno _ _) hfew GH hs (by rw[hs2];rfl)
       lia
    |nil=>
     obtain⟨m,a,r,rfl,rfl,h3,h4⟩:=gG h2;have hr:r=[]:=by
      cases m with
      |zero=>cases h4|succ m=>
       cases r with
       |nil=>rfl|cons e r=>obtain⟨_,_,_,_,e⟩:=bU (show aV (λe' r'=>e'::r') (cE m sx e) (AB m sx r)=af []from h4);cases e
     subst hr;have hs:=cD h3 [] X.env;have hall:(starEach [a] X.env).all (λx=>!x.1)=true:=by rw[hs];rfl
     have hfew:((backTo pos (starEach [a] X.env)).all (λx=>!x.1) && (backToKw pos (keywordEach [] X.env)).all (λx=>x.1.isSome)
      && decide ([a].length+([]:List Keyword).length+(if([]:List Keyword).isEmpty then 0 else 1)<30))=true:=by
      rw[pH hall];rfl
     replace h:(if name= "append" then af (E.meth .append o' [a'])else if name= "pop" then af (E.meth .lI o' [a'])else if name= "extend" then af (E.meth .extend o' [a'])else ah)=af e':=h;by_cases n1:name= "append"
     ·rw[if_pos n1]at h;subst n1;cases h;exact xV (by simp) PySem.F.slot_list_append PySem.F.type_list_append Pa (ih.e X sx ok _ _ h1) (ih.es X sx ok _ _ h2) (dZ hno _ _) hfew GH hs rfl
     rw[if_neg n1]at h;by_cases n2:name= "pop"
     ·rw[if_pos n2]at h;subst n2;cases h;exact Ph (ih.e X sx ok _ _ h1) (ih.es X sx ok _ _ h2) (dZ hno _ _) hfew GH hs rfl
     rw[if_neg n2]at h;by_cases n4:name= "extend"
     ·rw[if_pos n4]at h;subst n4;cases h;exact xV (by simp) PySem.F.slot_list_extend PySem.F.type_list_extend Pb (ih.e X sx ok _ _ h1) (ih.es X sx ok _ _ h2) (dZ hno _ _) hfew GH hs rfl
     rw[if_neg n4]at h;cases h
 ·rw[if_neg Ct]at h;cases h
def ym{e:br}(h:¬iZ e=av):∀env x,foldedSetIterable e env x=pure x:=by cases e<;>first|exact λ_ _=>rfl|exact absurd rfl h
theorem Ue{n:Nat}(ih:SE fns k n):∀X sx,vF X sx fns k->∀tg e i,cI (n+1) sx e=af i->JI X (ao fns k) tg e i/\(∀x,foldedSetIterable e X.env x=pure x):=by
 intro X sx ok tg e i h;have sq:(cE n sx e).map .seq=af i->¬iZ e=av->JI X (ao fns k) tg e i/\(∀x,foldedSetIterable e X.env x=pure x):=λh hs=>by obtain⟨b',h1,e'⟩:=cj h;subst e';exact⟨Pu (ih.e X sx ok _ _ h1),ym hs X.env⟩
 replace h:(match fG e with
  |none=>if iZ e=av then ah else(cE n sx e).map .seq|some (x,bs)=>if x= "range" /\sx.blt "range" =av then match bs with
    |[]=>ah|b::r2=>match r2 with
     |[]=>(cE n sx b).map .lP|c::r3=>ah
   else(cE n sx e).map .seq)=af i:=h
 cases q:fG e with
 |none=>
  rw[q]at h;by_cases hs:iZ e=av
  ·lia
  ·simp only[if_neg hs]at h;exact sq h hs
 |some yb=>
  obtain⟨x,bs⟩:=yb;rw[q]at h;obtain⟨xp,pos,rfl⟩:=jH q;by_cases hc:x= "range" /\sx.blt "range" =av
  ·simp only[if_pos hc]at h;obtain⟨rfl,hr⟩:=hc;obtain⟨r1,r2⟩:=ok.bl hr;cases bs with
   |nil=>cases h|cons b bs=>
    cases bs with
    |nil=>obtain⟨b',h1,e⟩:=cj h;subst e;exact⟨Dv r1 r2 (ih.e X sx ok _ _ h1) (cD h1 _ _),λ_=>rfl⟩
    |cons c bs=>cases h
  ·simp only[if_neg hc]at h;exact sq h (λz=>by cases z)
theorem Ug{n:Nat}(ih:SE fns k n):∀X sx,vF X sx fns k->∀e t,cT (n+1) sx e=af t->JT X (ao fns k) e t:=by
 intro X sx ok e t h;have val:∀(e:br),(cE n sx e).map .val=af t->(∀whole,isTrue e X.env whole=(do let v ←whole;standAt e.pos;holding [v] (truthy v)))->JT X (ao fns k) e t:=λe h hw=>by obtain⟨b',h1,e'⟩:=cj h;subst e';exact CZ (ih.e X sx ok _ _ h1) hw
 cases e with
 |UnaryOp o a p=>
  cases o with
  |Not=>obtain⟨b',h1,e'⟩:=cj (show(cT n sx a).map .nt=af t from h);subst e';exact Dd (ih.t X sx ok _ _ h1)
  |_=>exact val _ h λ_=>rfl
 |BoolOp o es p=>exact(ih.bt X sx ok _ _ _ _ h).pt|IfExp a b c p=>cases h|Compare a ops bs p=>
  cases ops with
  |nil=>cases h|cons o ro=>
   cases bs with
   |nil=>cases h|cons b rb=>
    cases ro with
    |nil=>
     cases rb with
     |cons _ _=>cases h|nil=>
      have h:(if behindInMarks o b then ah else aV (λa' b'=>T.val (.cmp o a' b')) (cE n sx a) (cE n sx b))=af t:=h;split at h
      ·cases h
      ·rename_i hm;obtain⟨a',b',h1,h2,e'⟩:=bU h;subst e';exact Om ok.units (ih.e X sx ok _ _ h1) (ih.e X sx ok _ _ h2) (by simpa using hm)
    |cons o' HV=>
     cases HV with
     |cons _ _=>cases h|nil=>
      cases rb with
      |nil=>cases h|cons c rc=>
       cases rc with|cons _ _=>cases h|nil=>cases h
 |_=>exact val _ h λ_=>rfl
theorem Uh{n:Nat}(ih:SE fns k n):∀X sx,vF X sx fns k->∀e e',cE (n+1) sx e=af e'->JE X (ao fns k) e e':=by
 intro X sx ok e e' h;cases e with
 |Name x p=>
  have h:Af sx x=af e':=h;unfold Af at h;split at h
  ·cases h
  ·rename_i hd;have hd1:(x==("__debug__" :Str))=false:=by
    cases q:(x==("__debug__" :Str))with|false=>rfl|true=>simp_all
   have hd2:(x==("__classdict__" :Str))=false:=by
    cases q:(x==("__classdict__" :Str))with|false=>rfl|true=>simp_all
   have var:∀{i:Nat},idx sx.N x=af i->KO X.env.scope x->JE X (ao fns k) (.Name x p) (.var i):=λ{i} q v=>CN (by rw[ok.N];exact iD q) v hd1 hd2;split at h
   ·rename_i hk;obtain⟨i,h1,e⟩:=cj h;subst e;exact var h1 (.inl (by rw[ok.names];exact hk))
   ·rename_i hk;obtain⟨i,h1,e⟩:=cj h;subst e;exact var h1 (.inr (.inl (by rw[ok.names];exact hk)))
   ·rename_i hk;obtain⟨i,h1,e⟩:=cj h;subst e;exact var h1 (.inr (.inr (by rw[ok.names];exact hk)))
   ·rename_i hk;obtain⟨i,h1,e⟩:=cj h;subst e;obtain⟨u,hu,ht⟩:=ok.ct x i h1;exact G5 (by show X.env.scope.names.lookup x=_;rw[ok.names];exact hk) hu ht hd1
   ·cases h
 |Constant c j p=>
  have h:qy c=af e':=h;cases c with|int i=>have e:=Ux h;subst e;exact CP|bool b=>have e:=Ux h;subst e;exact Ji|none=>have e:=Ux h;subst e;exact CQ|str x=>have e:=Ux h;subst e;exact CT|_=>cases h
 |BinOp a o b p=>obtain⟨a',b',h1,h2,e⟩:=bU (show aV (λa' b'=>E.bin o a' b') (cE n sx a) (cE n sx b)=af e' from h);subst e;exact Oi (ih.e X sx ok _ _ h1) (ih.e X sx ok _ _ h2)
 |UnaryOp o a p=>
  cases o with
  |USub=>obtain⟨a',h1,e⟩:=cj (show(cE n sx a).map .neg=af e' from h);subst e;exact Oj (ih.e X sx ok _ _ h1)
  |Not=>obtain⟨a',h1,e⟩:=cj (show(cE n sx a).map .nt=af e' from h);subst e;exact CW (ih.e X sx ok _ _ h1)
  |_=>cases h
 |Compare a ops bs p=>
  cases ops with
  |nil=>cases h|cons o ro=>
   cases bs with
   |nil=>cases h|cons b rb=>
    cases ro with
    |nil=>
     cases rb with
     |cons _ _=>cases h|nil=>
      have h:(if behindInMarks o b then ah else aV (λa' b'=>E.cmp o a' b') (cE n sx a) (cE n sx b))=af e':=h;split at h
      ·cases h
      ·rename_i hm;obtain⟨a',b',h1,h2,e'⟩:=bU h;subst e';exact Ol ok.units (ih.e X sx ok _ _ h1) (ih.e X sx ok _ _ h2) (by simpa using hm)
    |cons o' HV=>
     cases HV with
     |cons _ _=>cases h|nil=>
      cases rb with
      |nil=>cases h|cons c rc=>
       cases rc with|cons _ _=>cases h|nil=>cases h
 |BoolOp o es p=>exact ih.bv X sx ok _ _ _ _ h|IfExp c a b p=>obtain⟨a',b',c',h1,h2,h3,e⟩:=lD (show dR (λc' a' b'=>E.ite c' a' b') (cT n sx c) (cE n sx a) (cE n sx b)=af e' from h);subst e;exact Oq (ih.t X sx ok _ _ h1) (ih.e X sx ok _ _ h2) (ih.e X sx ok _ _ h3)
 |Tuple es kk p=>obtain⟨a',h1,e⟩:=cj (show(AB n sx es).map .tup=af e' from h);subst e;exact Ou (ih.es X sx ok _ _ h1)
 |List es p=>obtain⟨a',h1,e⟩:=cj (show(AB n sx es).map (.lst (sx.BG p))=af e' from h);subst e;exact Ov (ih.es X sx ok _ _ h1)
 |Dict ks vs p=>
  cases ks with
  |nil=>
   cases vs with|nil=>have e:=Ux h;subst e;exact Ow|cons _ _=>cases h
  |cons q r=>cases h
 |Subscript a i p=>
  have WI:aV (λa' b'=>E.ix a' b') (cE n sx a) (cE n sx i)=af e'->(∀ov iv,subscripted i aS ov iv=operate [ov,iv] (getItem ov iv))->JE X (ao fns k) (.Subscript a i p) e':=λh hs=>by obtain⟨a',b',h1,h2,e⟩:=bU h;subst e;exact RJ ok.units (ih.e X sx ok _ _ h1) (ih.e X sx ok _ _ h2) λo i=>hs o i
  cases i with
  |Slice lo hi st q=>
   cases st with
   |some _=>cases h|none=>
    cases lo with
    |none=>
     cases hi with
     |none=>cases h|some b=>obtain⟨a',b',h1,h2,e⟩:=bU (show aV (λa' b'=>E.DB a' b') (cE n sx a) (cE n sx b)=af e' from h);subst e;exact Oz (ih.e X sx ok _ _ h1) (ih.e X sx ok _ _ h2)
    |some b=>
     cases hi with
     |none=>obtain⟨a',b',h1,h2,e⟩:=bU (show aV (λa' b'=>E.GW a' b') (cE n sx a) (cE n sx b)=af e' from h);subst e;exact Ox (ih.e X sx ok _ _ h1) (ih.e X sx ok _ _ h2)
     |some c=>obtain⟨a',b',c',h1,h2,h3,e⟩:=lD (show dR (λa' b' c'=>E.ED a' b' c') (cE n sx a) (cE n sx b) (cE n sx c)=af e' from h);subst e;exact Kl (ih.e X sx ok _ _ h1) (ih.e X sx ok _ _ h2) (ih.e X sx ok _ _ h3)
  |_=>exact WI h λ_ _=>rfl
 |Call f as ks p=>
  cases ks with
  |cons _ _=>cases f<;>cases h|nil=>
   cases f with|Name x q=>exact ih.call X sx ok _ _ _ _ _ h|Attribute o m q=>exact ih.meth X sx ok _ _ _ _ _ _ h|_=>cases h
 |Attribute a f p=>
  have h:(if isCall a then ah else match mL sx.cl f with|some c=>(cE n sx a).map (E.fld c f)|none=>ah)=af e':=h;split at h
  ·cases h
  ·rename_i hic;split at h
   ·rename_i c hc;obtain⟨a',h1,e⟩:=cj h;subst e;exact PK (ih.e X sx ok _ _ h1) (dZ (λa b c d z=>by subst z;exact hic rfl) _ _) (ok.fld hc)
   ·cases h
 |ListComp elt gens scope p=>
  cases gens with
  |nil=>cases h|cons g r=>
   cases r with
   |cons _ _=>cases h|nil=>
    obtain⟨tg,iter,ifs,as⟩:=g;have h:(if as=0 then JJ n sx elt tg iter ifs scope p else ah)=af e':=h;by_cases ha:as=0
    ·subst ha;rw[if_pos rfl]at h;obtain⟨mu,elt',tt,it',ifs',nn,cap,e,cp,hi,hf,hin⟩:=ih.lc X sx ok _ _ _ _ _ _ _ h;subst e;exact yc cp ok.calm hi hf hin
    simp_all
 |JoinedStr vs p=>
  cases vs with
  |nil=>cases h|cons v r=>
   cases r with
   |nil=>cases h|cons v2 r=>
    have h:(if GA (v::v2::r)<=aT then(E1 n sx (v::v2::r)).map .fmt else ah)=af e':=h;split at h
    ·rename_i hw;obtain⟨as,h1,e⟩:=cj h;subst e;exact PJ ok.room (ih.fm X sx ok _ _ h1) hw
    ·cases h
 |_=>cases h
theorem gr:∀n,SE fns k n
 |0=>Lg|n+1=>by have ih:=gr n;exact⟨Uh ih,RX ih,Lj ih,Qe ih,Lk ih,Ln ih,RZ ih,R1 ih,Ug ih,R3 ih,R0 ih,Ue ih,RW ih⟩
structure SS(fns:List xA)(k n:Nat):Prop where
 s:∀X sx,vF X sx fns k->sx.isDef=av->∀st c,cC n sx st=af c->JS X (ao fns k) st c
 ss:∀X sx,vF X sx fns k->sx.isDef=av->∀st c,B9 n sx st=af c->CD X (ao fns k) st c
 a:∀X sx,vF X sx fns k->sx.isDef=av->∀tg e pos c,Hq n sx tg e pos=af c->JS X (ao fns k) (.Assign [tg] e pos) c
theorem yo{sx:Sx}:∀{n:Nat}{es:List br}{es':List E},AB n sx es=af es'->es'.length=es.length
 |0,es,es',h=>by cases h|n+1,[],es',h=>by
  have e:[]=es':=by simpa[AB]using h
  subst e;rfl
 |n+1,x::r,es',h=>by unfold AB at h;obtain⟨e'',r',e1,e2,e3⟩:=bU h;subst e3;simp[yo e2]
def Eh{o i e:br}{sp:Pos}{l:Nat}{env:Env}:swapsWithSole [.Subscript o i sp] e l env=pure false:=by cases e<;>rfl
def pI{e:br}{t:Option br}{l:Nat}{env:Env}(h1:∀a b c d,e≠ .ListComp a b c d)(h2:∀a b c d,e≠ .SetComp a b c d)(h3:∀a b c d f,e≠ .DictComp a b c d f):swapsWith e t l env=pure false:=by
 cases e<;>first
  |rfl|exact absurd rfl (h1 _ _ _ _)|exact absurd rfl (h2 _ _ _ _)|lia
def HR{elt:br}{gens:List Comprehension}{scope:Scope}{pos:Pos}{x:Str}{p:Pos}{l:Nat}{env:Env}:∃b,swapsWith (.ListComp elt gens scope pos) (af (.Name x p)) l env=pure b:=⟨_,rfl⟩
def Ei{sx:Sx}{tg it b:br}(h:mQ sx tg it=af b):∃ts kt pt xp bp,tg= .Tuple ts kt pt/\it= .Call (.Name "enumerate" xp) [b] [] bp/\sx.blt "enumerate" =true:=by
 unfold mQ at h;by_cases ht:u9 tg=av
 ·rw[if_pos ht]at h;obtain⟨ts,kt,pt,rfl⟩:=DP ht;cases q:fG it with
  |none=>simp_all|some yb=>
   obtain⟨x,as⟩:=yb;rw[q]at h;obtain⟨xp,bp,rfl⟩:=jH q
   grind
 simp_all
theorem Aq{ex:Option br}{c:Str}{e₀:br}{r:List br}(h:raiseOf ex=af (c,e₀,r)):∃np cpos,ex=af (.Call (.Name c np) (e₀::r) [] cpos):=by
 cases ex with
 |none=>cases h|some e=>
  replace h:(match fG e with|none=>ah|some (c,as)=>match as with|[]=>ah|e₀::r=>af (c,e₀,r))=af (c,e₀,r):=h;cases q:fG e with
  |none=>simp_all|some yb=>
   obtain⟨x,as⟩:=yb;rw[q]at h;cases as with
   |nil=>cases h|cons a r'=>cases h;obtain⟨xp,p,rfl⟩:=jH q;lia
theorem HS{hs:List ExceptHandler}{oe fb:List eL}{cn:Str}{nm:Option Str}{b₀:eL}{hb:List eL}(h:uc hs oe fb=af (cn,nm,b₀,hb)):∃cp hp,hs=[.ExceptHandler (af (.Name cn cp)) nm (b₀::hb) hp]/\oe=[]/\fb=[]:=by
 cases oe with
 |cons _ _=>cases h|nil=>
  cases fb with
  |cons _ _=>cases h|nil=>
   cases hs with
   |nil=>cases h|cons hh r=>
    cases r with
    |cons _ _=>cases h|nil=>
     cases hh with
     |ExceptHandler ty nm' bd hp=>
      cases ty with
      |none=>cases h|some e=>
       cases bd with
       |nil=>cases h|cons b r=>obtain⟨x,h1,e⟩:=cj (show(nameOf e).map (λcn=>(cn,nm',b,r))=af (cn,nm,b₀,hb)from h);cases e;obtain⟨cp,rfl⟩:=iY h1;lia
theorem Lp{e elt:br}{g:Comprehension}{scope:Scope}{lp:Pos}(h:Al e=af (elt,g,scope,lp)):e= .ListComp elt [⟨g.target,g.iter,g.ifs,0⟩] scope lp:=by
 cases e with
 |ListComp elt' gens scope' WJ=>
  cases gens with
  |nil=>cases h|cons g' r=>
   cases r with
   |cons _ _=>cases h|nil=>obtain⟨a,b,c,d⟩:=g';have h:(if d=0 then af (elt',(⟨a,b,c,d⟩:Comprehension),scope',WJ)else ah)=af (elt,g,scope,lp):=h;lia
 |_=>cases h
def rn{e:br}(h:gY e=aS):(∀a b c d,e≠ .ListComp a b c d)/\(∀a b c d,e≠ .SetComp a b c d)/\(∀a b c d f,e≠ .DictComp a b c d f):=
 ⟨λa b c d z=>(by subst z;cases h),λa b c d z=>(by subst z;cases h),λa b c d f z=>(by subst z;cases h)⟩
def rA{e:br}(h:¬gY e=av):gY e=false:=by lia
def Ar{o i e:br}{sp:Pos}{env:Env}:swappedStores [.Subscript o i sp] e env=pure none:=by rfl
def Ej{ts:List br}{kt:_}{pt:Pos}{e:br}{l:Nat}{env:Env}:swapsWithSole [.Tuple ts kt pt] e l env=pure false:=by cases e<;>rfl
def Av{ts:List br}{kt:_}{pt:Pos}{e:br}{env:Env}(h:mO e=aS):swappedStores [.Tuple ts kt pt] e env=pure none:=by cases e<;>first|rfl|cases h
theorem Lq{n:Nat}{sx:Sx}{o i:br}{i':E}{sp:Pos}{env:Env}(h2:cE n sx i=af i'):∀v,assign (.Subscript o i sp) env v=(do
   let ov ←holding [v] (eval o env)
   let iv ←holding [v,ov] (eval i env)
   standAt sp
   holding [v,ov,iv] (setItem ov iv v)
   release [v,ov,iv] []):=by
 intro v;cases n with
 |zero=>cases h2|succ n=>cases i<;>first|rfl|cases h2
theorem Qf{n:Nat}:∀X sx,vF X sx fns k->sx.isDef=av->∀tg e pos c,Hq (n+1) sx tg e pos=af c->JS X (ao fns k) (.Assign [tg] e pos) c:=by
 intro X sx ok hdf tg e pos c h;cases tg with
 |Subscript o i sp=>
  have h:(dR (λo' i' e'=>C.sub o' i' e') (cE n sx o) (cE n sx i) (cE n sx e))=af c:=h
  ·skip
   obtain⟨o',i',e',h1,h2,h3,ec⟩:=lD h;subst ec;exact Pk ok.units ((gr n).e X sx ok _ _ h1) ((gr n).e X sx ok _ _ h2) ((gr n).e X sx ok _ _ h3) Eh Ar (Lq h2)
 |Attribute o f ap=>
  have h:(if gY e=av then ah else match mL sx.cl f with|some c=>aV (λo' e'=>C.fset c f o' e') (cE n sx o) (cE n sx e)|none=>ah)=af c:=h;split at h
  ·cases h
  ·rename_i hic;obtain⟨n1,n2,n3⟩:=rn (rA hic);split at h
   ·rename_i cc hc;obtain⟨o',e',h1,h2,ec⟩:=bU h;subst ec;exact K9 ((gr n).e X sx ok _ _ h1) ((gr n).e X sx ok _ _ h2) (pI (t:=af (.Attribute o f ap)) (l:=pos.line) (env:=X.env) n1 n2 n3) (ok.fld hc)
   ·cases h
 |Tuple ts kt pt=>
  have h:(if mO e=av then ah else aV (λt e'=>C.asg t e') (CF sx n (.Tuple ts kt pt)) (cE n sx e))=af c:=h;split at h
  ·cases h
  ·rename_i hit;obtain⟨t,e',h1,h2,ec⟩:=bU h;subst ec;have hit:mO e=false:=by
    cases q:mO e with|false=>rfl|true=>lia
   exact qt ((gr n).e X sx ok e e' h2) ((jb ok n).1 _ t h1) Ej (Av hit) rfl
 |Name x xp=>
  have h:(match Al e with
   |some (elt,g,scope,lp)=>aV (λt e'=>C.asg t e') (CF sx n (.Name x xp)) (JJ n sx elt g.target g.iter g.ifs scope lp)
   |none=>if gY e=av then ah else aV (λt e'=>C.asg t e') (CF sx n (.Name x xp)) (cE n sx e))=af c:=h
  cases q:Al e with
  |some pr=>
   obtain⟨elt,g,scope,lp⟩:=pr;rw[q]at h;simp only at h;have eq:=Lp q;subst eq;obtain⟨t,e',h1,h2,ec⟩:=bU h;subst ec;have G:=(jb ok n).1 _ t h1;obtain⟨mu,elt',tt,it',ifs',nn,cap,ee,cp,hi,hf,hin⟩:=(gr n).lc X sx ok _ _ _ _ _ _ _ h2;subst ee;obtain⟨i,rfl⟩:∃i,t= .name i:=by
    cases n with
    |zero=>cases h1|succ n=>
     have h1:(if sx.names.lookup x=af .local\/(sx.isDef=av/\sx.names.lookup x=af .cell)then(idx sx.N x).map .name else ah)=af t:=h1;split at h1
     ·obtain⟨i,_,e⟩:=cj h1
      grind
     ·cases h1
   obtain⟨b,hb⟩:=HR (elt:=elt) (gens:=[⟨g.target,g.iter,g.ifs,0⟩]) (scope:=scope) (pos:=lp) (x:=x) (p:=xp) (l:=pos.line) (env:=X.env);cases b with|false=>exact qt (yc cp ok.calm hi hf hin) G hb rfl rfl|true=>exact KZ cp ok.calm hi hf hin hb G
  |none=>
   rw[q]at h;simp only at h;split at h
   ·cases h
   ·rename_i hic;obtain⟨n1,n2,n3⟩:=rn (rA hic);obtain⟨t,e',h1,h2,ec⟩:=bU h;subst ec;exact qt ((gr n).e X sx ok e e' h2) ((jb ok n).1 _ t h1) (pI (t:=af (.Name x xp)) (l:=pos.line) (env:=X.env) n1 n2 n3) rfl rfl
 |_=>cases h
theorem Ui{n:Nat}(ih:SS fns k n):∀X sx,vF X sx fns k->sx.isDef=av->∀st c,cC (n+1) sx st=af c->JS X (ao fns k) st c:=by
 intro X sx ok hdf st c h;have E:=gr (fns:=fns) (k:=k) n;obtain⟨_,hp,hs,hf⟩:=ok.isDef hdf;cases st with
 |Assign ON e pos=>
  cases ON with
  |nil=>cases h|cons tg r=>
   cases r with|nil=>exact ih.a X sx ok hdf _ _ _ _ h|cons _ _=>cases h
 |Expr e pos=>
  have h:(if Jo e=av then af C.pass else if gY e=av then ah else(cE n sx e).map .ex)=af c:=h;split at h
  ·rename_i hd;have e:=Ux h;subst e;cases e with
   |Constant cc j p=>
    cases cc with|str x=>exact Pn|_=>cases hd
   |_=>cases hd
  ·split at h
   ·cases h
   ·rename_i hic;obtain⟨n1,n2,n3⟩:=rn (rA hic);obtain⟨e',h1,ec⟩:=cj h;subst ec;exact RN (E.e X sx ok _ _ h1) (pI n1 n2 n3)
 |If c0 a b p=>obtain⟨a',b',c',h1,h2,h3,e'⟩:=lD (show dR (λc' a' b'=>C.cond c' a' b') (cT n sx c0) (B9 n sx a) (B9 n sx b)=af c from h);subst e';exact Jm (E.t X sx ok _ _ h1) (ih.ss X sx ok hdf _ _ h2) (ih.ss X sx ok hdf _ _ h3)
 |For tg it a oe p=>
  cases oe with
  |cons _ _=>cases h|nil=>
   have h:(if sx.lp=av then(if sx.HP p=av then(if ¬iZ it=av then dR (λt' e' a'=>C.CB t' e' a') (CF sx n tg) (cE n sx it) (B9 n sx a)else ah)else match mQ sx tg it with
     |some b=>dR (λt' i' a'=>C.fr t' (.A9 i') a') (CF sx n tg) (cE n sx b) (B9 n sx a)
     |none=>dR (λt' i' a'=>C.fr t' i' a') (CF sx n tg) (cI n sx it) (B9 n sx a))
    else ah)=af c:=h
   by_cases hlp:sx.lp=av
   ·rw[if_pos hlp]at h;by_cases hfr:sx.HP p=av
    ·rw[if_pos hfr]at h;by_cases hse:¬iZ it=av
     ·rw[if_pos hse]at h;obtain⟨a',b',c',h1,h2,h3,e'⟩:=lD h;subst e';exact PQ (hp hlp) ok.calm (E.e X sx ok _ _ h2) ((jb ok n).1 _ _ h1) (ih.ss X sx ok hdf _ _ h3) (ym hse _)
     lia
    rw[if_neg hfr]at h;cases q:mQ sx tg it with
    |some b=>rw[q]at h;obtain⟨ts,kt,pt,xp,bp,rfl,rfl,hr⟩:=Ei q;obtain⟨r1,r2⟩:=ok.bl hr;obtain⟨a',b',c',h1,h2,h3,e'⟩:=lD h;subst e';exact Dw (hp hlp) ok.calm (K8 r1 r2 (E.e X sx ok _ _ h2) (cD h2 _ _)) ((jb ok n).1 _ _ h1) (ih.ss X sx ok hdf _ _ h3) (λ_=>rfl)
    |none=>rw[q]at h;obtain⟨a',b',c',h1,h2,h3,e'⟩:=lD h;subst e';obtain⟨hi,hf⟩:=E.i X sx ok _ _ _ h2;exact Dw (hp hlp) ok.calm hi ((jb ok n).1 _ _ h1) (ih.ss X sx ok hdf _ _ h3) hf
   simp_all
 |Return e p=>
  cases e with
  |some e=>obtain⟨a',h1,e'⟩:=cj (show(cE n sx e).map .ret=af c from h);subst e';exact Pr (E.e X sx ok _ _ h1)
  |none=>have e:=Ux h;subst e;exact KJ
 |Pass p=>have e:=Ux h;subst e;exact xX|Break p=>have e:=Ux h;subst e;exact Pq|Continue p=>have e:=Ux h;subst e;exact KH|Raise ex cs p=>
  cases cs with
  |some _=>cases h|none=>
   replace h:(match raiseOf ex with
    |some (c,e₀,r)=>if(sx.xc.lookup c).isSome=av/\sx.glob c=av/\r.length<=30 then(AB n sx (e₀::r)).map (C.raise c)else ah
    |none=>ah)=af c:=h
   cases q:raiseOf ex with
   |none=>simp_all|some pr=>
    obtain⟨cn,e₀,r⟩:=pr;rw[q]at h;replace h:(if(sx.xc.lookup cn).isSome=av/\sx.glob cn=av/\r.length<=30 then(AB n sx (e₀::r)).map (C.raise cn)else ah)=af c:=h;obtain⟨np,cpos,rfl⟩:=Aq q;by_cases hc:(sx.xc.lookup cn).isSome=av/\sx.glob cn=av/\r.length<=30
    ·rw[if_pos hc]at h;obtain⟨hx,hg,hl⟩:=hc;obtain⟨as',h1,e⟩:=cj h;subst e;obtain⟨l,hl2⟩:=Vk.mp hx;obtain⟨C,hC,hE,_⟩:=ok.xc cn l (Vv hl2);obtain⟨g1,g2,_⟩:=ok.gl hg;have hst:=fU h1 X.env;have hse:starEach (e₀::r) X.env=(aS,eval e₀ X.env)::starEach r X.env:=by
      cases n with
      |zero=>cases h1|succ n=>obtain⟨x,y,q1,q2,_⟩:=bU (show aV (λe' r'=>(e'::r')) (cE n sx e₀) (AB n sx r)=af as' from h1);exact cD q1 _ _
     have hlen:as'.length=r.length+1:=by rw[yo h1];rfl
     exact Hl ok.room.hd g1 g2 hC hE (E.es X sx ok _ _ h1) (by rw[hlen];exact Vp (vn hl) (by decide)) hse (iH hst)
    ·rw[if_neg hc]at h;cases h
 |Try body hds oe fb p=>
  replace h:(match uc hds oe fb with
   |some (cn,nm,b₀,hb)=>if(sx.xc.lookup cn).isSome=av/\sx.glob cn=av then dR (λbs i hs=>C.tr bs (iR sx cn) i hs) (B9 n {sx with lp:=aS} body) (M1 sx nm) (jP n sx (b₀::hb))else ah
   |none=>ah)=af c:=h
  cases q:uc hds oe fb with
  |none=>simp_all|some pr=>
   obtain⟨cn,nm,b₀,hb⟩:=pr;rw[q]at h;replace h:(if(sx.xc.lookup cn).isSome=av/\sx.glob cn=av then dR (λbs i hs=>C.tr bs (iR sx cn) i hs) (B9 n {sx with lp:=aS} body) (M1 sx nm) (jP n sx (b₀::hb))else ah)=af c:=h;obtain⟨cp,hp2,rfl,rfl,rfl⟩:=HS q;by_cases hc:(sx.xc.lookup cn).isSome=av/\sx.glob cn=av
   ·rw[if_pos hc]at h;obtain⟨hx,hg⟩:=hc;obtain⟨bs,i,hs',h1,h2,h3,e⟩:=lD h;subst e;obtain⟨l,hl2⟩:=Vk.mp hx;have hm:=Vv hl2;obtain⟨Cb,hCb,_⟩:=ok.xc cn l hm;obtain⟨g1,g2,_⟩:=ok.gl hg;refine Py hs hf g1 (ok.xm cn l Cb hm hCb) g2 (by rw[ok.N];exact ok.nd) ?_ (λpn Ex=>?_) (λe=>(Eg (ok.hand e) n).2 _ _ h3) λc hcm C hC=>?_
    ·unfold M1 at h2;cases nm with
     |none=>have e:=Ux h2;subst e;trivial|some x=>
      simp only at h2;split at h2
      ·rename_i WO;obtain⟨j,q1,q2⟩:=cj h2;subst q2;exact⟨by rw[ok.N];exact iD q1,by rw[ok.names];exact WO⟩
      ·cases h2
    ·exact ih.ss (lB X pn Ex) {sx with lp:=aS} ⟨ok.N,ok.nd,ok.names,ok.kind,ok.calm,ok.room,λz=>⟨(ok.isDef z).1,λq=>Bool.noConfusion q,hs,hf⟩,ok.cl,ok.fns,ok.blt,ok.ct,ok.xc,ok.xm⟩ hdf _ _ h1
    ·obtain⟨l',q1,q2⟩:=jc hcm;obtain⟨C',w1,_,_,_,w5⟩:=ok.xc c l' q1
     grind
   lia
 |_=>cases h
theorem R4{n:Nat}(ih:SS fns k n):∀X sx,vF X sx fns k->sx.isDef=av->∀st c,B9 (n+1) sx st=af c->CD X (ao fns k) st c:=by
 intro X sx ok hdf st c h;cases st with
 |nil=>have e:[]=c:=Ux h;subst e;exact xW|cons s r=>
  replace h:(if sx.HU s.pos=av then af [C.no]else aV (λs' r'=>(s'::r')) (cC n sx s) (B9 n sx r))=af c:=h;by_cases hn:sx.HU s.pos=av
  ·rw[if_pos hn]at h;have e:=Ux h;subst e;exact Qc
  ·rw[if_neg hn]at h;obtain⟨a',b',h1,h2,e'⟩:=bU h;subst e';exact uT (ih.s X sx ok hdf _ _ h1) (ih.ss X sx ok hdf _ _ h2)
theorem Ek:∀n,SS fns k n
 |0=>⟨λX sx _ _ st c h=>(by cases h),λX sx _ _ st c h=>(by cases h),λX sx _ _ tg e pos c h=>(by cases h)⟩|n+1=>by have ih:=Ek n;exact⟨Ui ih,R4 ih,Qf⟩
end RK
namespace RK
open PySem L2 PySem.SeqAt PySem.Spec
section
variable{K:aI}{C D:ay}
structure Iq(K:aI)(C:ay)(bm:List ai)(new:String):Prop where
 ex:∃(dd:Option ay)(cd:ClassData)(k0 k1 k2 k3 k5:Option ai),K.lookup C=af ⟨.type "type",dd,.cls cd, #[k0,k1,k2,k3,af (.builtin new),k5]⟩/\cd.mro= .ref C::bm/\cd.hasDel=aS/\qV K cd.ns=av/\bS K cd.ns "__init__" =af ah
def yq{N:ay}{c:ai}{d:Option ay}{es:Array DictEntry}{ep:Nat}{sl:Array (Option ai)}(l:K.lookup N=af ⟨c,d,.dict es ep,sl⟩)(h:(es.toList.all λe=>match e.key with|.str _ _=>av|_=>aS)=av):qV K N=true:=by unfold qV;rw[l];simp only;rw[←Array.all_toList];exact h
def Qg{bm:List ai}{bmB:List ai}{new:String}(x:Iq K C bm new)(t:iS K bmB bm=av):f7 K C bmB new=true:=by
 obtain⟨dd,cd,k0,k1,k2,k3,k5,l,m,nd,no,ni⟩:=x.ex;unfold f7
 simp_all
def yr{b:Bool}(hs:eT K (.ref C) (.ref D)=af b)(hself:eT K (.ref C) (.ref C)=af av)(hc:∃cd,gS K D=af cd)(ht:mh K (.ref D)=af (.type "type")):dS K (.ref C) (.ref D)=af b/\iX K (.ref C) (.ref D)=af b:=by
 obtain⟨cd,hc⟩:=hc;have e:iX K (.ref C) (.ref D)=af b:=by unfold iX;simp only[hc,ht];simpa using hs
 refine⟨?_,e⟩;unfold dS;lia
def Lr{b:Bool}(h:iX K (.ref C) (.ref D)=af b)(hb:eT K (.ref D) (.type "BaseException")=af av):fy K (.ref C) (.ref D)=af b:=by unfold fy;lia
def rC{b:Bool}(h:eT K (.ref C) (.type "ValueError")=af b):dS K (.ref C) (.type "ValueError")=af b:=by
 unfold dS iX;have e:PySem.W.kitMeta "ValueError" =true:=by decide+kernel
 lia
def mU:iS K EK EK=true:=by rfl
def tail_cons{R:ay}{c nc:ai}{d nd:Option ay}{cd:ClassData}{sl OR:Array (Option ai)}{es:Array DictEntry}{ep:Nat}{r:List ai}(l:K.lookup R=af ⟨c,d,.cls cd,sl⟩)(N:K.lookup cd.ns=af ⟨nc,nd,.dict es ep,OR⟩)(I:bS K cd.ns "__init__" =af ah)(A:(es.toList.all λe=>match e.key with|.str _ _=>av|_=>aS)=av)(t:iS K EK r=av):iS K EK (.ref R::r)=true:=by rw[PySem.W.tailIn.eq_def];simp only[l,yq N A,I,t];simp
def vz{nc:ai}{dd nd:Option ay}{cd:ClassData}{sl OR:Array (Option ai)}{es:Array DictEntry}{ep:Nat}{bm:List ai}{k0 k1 k2 k3 k5:Option ai}(l:K.lookup C=af ⟨.type "type",dd,.cls cd,sl⟩)(N:K.lookup cd.ns=af ⟨nc,nd,.dict es ep,OR⟩)(I:bS K cd.ns "__init__" =af ah)(A:(es.toList.all λe=>match e.key with|.str _ _=>av|_=>aS)=av)(m:cd.mro= .ref C::bm)(s:sl= #[k0,k1,k2,k3,af (.builtin "ValueError.__new__"),k5])(hd:cd.hasDel=aS)(t:iS K EK bm=av):f7 K C EK "ValueError.__new__" =true:=by subst s;exact Qg ⟨dd,cd,k0,k1,k2,k3,k5,l,m,hd,yq N A,I⟩ t
def El{c:ai}{d:Option ay}{cd:ClassData}{sl:Array (Option ai)}(l:K.lookup D=af ⟨c,d,.cls cd,sl⟩):∃cd,gS K D=af cd:=⟨cd,by unfold gS;rw[l]⟩
def qv{b:Bool}{c:ai}{d:Option ay}{cd:ClassData}{sl:Array (Option ai)}(l:K.lookup D=af ⟨c,d,.cls cd,sl⟩)(ht:mh K (.ref D)=af (.type "type"))(hself:eT K (.ref C) (.ref C)=af av)(hs:eT K (.ref C) (.ref D)=af b):dS K (.ref C) (.ref D)=af b:=
 (yr hs hself (El l) ht).1
def fu{b:Bool}{c:ai}{d:Option ay}{cd:ClassData}{sl:Array (Option ai)}(l:K.lookup D=af ⟨c,d,.cls cd,sl⟩)(ht:mh K (.ref D)=af (.type "type"))(hself:eT K (.ref C) (.ref C)=af av)(hs:eT K (.ref C) (.ref D)=af b)(hb:eT K (.ref D) (.type "BaseException")=af av):fy K (.ref C) (.ref D)=af b:=
 Lr (yr hs hself (El l) ht).2 hb
end
structure Def where
 name:Str
 st:eL
 qual:Str:=name
def Def.ps(d:Def):List Str:=(gK d.st).args.map (·.arg)
def Def.N(d:Def):List Str:=d.ps++(((bV d.st).names.filter λp=>(p.2== .local || p.2== .cell) && !d.ps.contains p.1).map (·.1))
structure Prog where
 defs:List Def
 ct:List (Str×Int)
 bl:List Str
 mu:List (Nat×Nat)
 xc:List (Str×List Str):=[]
 cls:List (Str×List Str×List (Str×Nat)):=[]
def OS(defs:List Def):List (Str×Nat×Nat):=(defs.zipIdx.filter λp=>p.1.qual==p.1.name).map λp=>(p.1.name,p.2,p.1.ps.length)
def OT(p:Prog):List (Str×List Str×List (Str×Nat×Nat)):=p.cls.map λc=>(c.1,c.2.1,c.2.2.map λm=>(m.1,m.2,((p.defs[m.2]?).map λd=>d.ps.length).getD 0))
def Qh(p:Prog)(d:Def):Sx:=⟨d.N,(bV d.st).names,OS p.defs,p.ct,p.bl,p.mu,av,av,p.xc,OT p⟩
def bodyOf(p:Prog)(d:Def):Option (List C):=B9 80 (Qh p d) (fW d.st)
def Fits(p:Prog)(d:Def)(fs:xA):Prop:=d.ps.length=fs.np/\d.N.length=fs.nn/\bodyOf p d=af fs.body
def ud(d:Def):Bool:=
 let sc:=bV d.st
 (sc.kind== .function) && !sc.isCoroutine && !sc.isGenerator && decide d.N.Nodup && decide (d.N.take d.ps.length=d.ps)
  && d.ps.all (λx=>sc.names.lookup x==af .local || sc.names.lookup x==af .cell) && sc.names.all (λy=>y.2 != .free)
def HW{d:Def}(h:ud d=av):A2 d.N d.ps (bV d.st):=by
 unfold ud at h;simp only[Vn]at h;obtain⟨⟨⟨⟨⟨⟨h1,h2⟩,h3⟩,h4⟩,h5⟩,h6⟩,h7⟩:=h;refine⟨by simpa using h1,by simpa using h2,by simpa using h3,Vo h4,Vo h5,λx hx=>?_,λy hy z=>?_⟩
 ·simp_all
 grind
def AQ(K:aI)(x:Str)(st:eL):Prop:=∃f fd,Ll K x x st f fd/\bS K mainGlobals x=af (af (.ref f))/\∀us:List ai,us.length=(Def.ps ⟨x,st,x⟩).length->bindArgs fd ⟨us,[]⟩=pure ((Def.ps ⟨x,st,x⟩).zip us)
def bL{K:aI}{x:Str}{st:eL}{f:ay}{oc:ai}{od an:Option ay}{osl:Array (Option ai)}{kV doc pm cdv ct:ai}(a:bS K mainGlobals x=af (af (.ref f)))(l:K.lookup f=af ⟨oc,od,.func (fF x x (gK st) (fW st) (bV st) .none kV doc pm an cdv ct),osl⟩)(c:iP K cdv x=av)(k:e8 K (.ref f)=av)(b:∀(kV doc pm:ai)(an:Option ay)(cdv ct:ai)(us:List ai),us.length=(Def.ps ⟨x,st,x⟩).length->bindArgs (fF x x (gK st) (fW st) (bV st) .none kV doc pm an cdv ct) ⟨us,[]⟩=pure ((Def.ps ⟨x,st,x⟩).zip us)):AQ K x st:=
 ⟨f,_,Ck l c k,a,b kV doc pm an cdv ct⟩
def Uj{P:List ai->Prop}(h:P []):∀us:List ai,us.length=0->P us:=by simp_all
def Aw{n:Nat}{P:List ai->Prop}(h:∀a,∀us:List ai,us.length=n->P (a::us)):∀us:List ai,us.length=n+1->P us:=by
 intro us e;cases us with|nil=>cases e|cons a us=>simp_all
def mV{P:List ai->Prop}(h:∀a,P [a]):∀us:List ai,us.length=1->P us:=Aw λa=>Uj (h a)
def cY{P:List ai->Prop}(h:∀a b,P [a,b]):∀us:List ai,us.length=2->P us:=Aw λa=>mV λb=>h a b
def rE{P:List ai->Prop}(h:∀a b c,P [a,b,c]):∀us:List ai,us.length=3->P us:=Aw λa=>cY λb c=>h a b c
def Ax{P:List ai->Prop}(h:∀a b c d,P [a,b,c,d]):∀us:List ai,us.length=4->P us:=Aw λa=>rE λb c d=>h a b c d
def lF(K:aI)(ds:List Def):Prop:=∀d∈ds,d.qual=d.name->AQ K d.name d.st
def HX{K:aI}:lF K []:=λd h=>by cases h
def bA{K:aI}{d:Def}{ds:List Def}(a:AQ K d.name d.st)(r:lF K ds):lF K (d::ds):=λx hx e=>by
 rcases UJ.mp hx with rfl|hx
 ·exact a
 ·exact r x hx e
def cP{K:aI}{d:Def}{ds:List Def}(a:(d.qual==d.name)=aS)(r:lF K ds):lF K (d::ds):=λx hx e=>by
 rcases UJ.mp hx with rfl|hx
 ·lia
 ·exact r x hx e
def vA(K:aI):List Str->Prop
 |[]=>True|x::r=>bS K mainGlobals x=af ah/\vA K r
def LZ(K:aI):List (Str×Int)->Prop
 |[]=>True|(x,i)::r=>(∃t,bS K mainGlobals x=af (af (.int i t)))/\LZ K r
def yt{K:aI}{ds:List Def}{i:Nat}{d:Def}(h:lF K ds)(hd:ds[i]?=af d)(e:d.qual=d.name):AQ K d.name d.st:=h d (V4 hd) e
def Ay(K:aI)(C:ay):List Str->Prop
 |[]=>True|f::r=>fD K C f/\Ay K C r
def HY(K:aI)(defs:List Def)(C:ay)(m:Str)(i:Nat):Prop:=∃f fd d,defs[i]?=af d/\Ll K d.name d.qual d.st f fd/\Meth K C m f/\(∀us:List ai,us.length=d.ps.length->bindArgs fd ⟨us,[]⟩=pure (d.ps.zip us))/\(m= "__init__" ->Mk K C f)
def Az(K:aI)(defs:List Def)(C:ay):List (Str×Nat)->Prop
 |[]=>True|(m,i)::r=>HY K defs C m i/\Az K defs C r
def Qi(K:aI)(defs:List Def)(c:Str)(fs:List Str)(ms:List (Str×Nat)):Prop:=∃C,bS K mainGlobals c=af (af (.ref C))/\Cf K C/\Ay K C fs/\Az K defs C ms
def qD(K:aI)(defs:List Def):List (Str×List Str×List (Str×Nat))->Prop
 |[]=>True|(c,fs,ms)::r=>Qi K defs c fs ms/\qD K defs r
def dF{K:aI}{defs:List Def}{C:ay}{m:Str}{i:Nat}{d:Def}{f:ay}{oc:ai}{od an:Option ay}{osl:Array (Option ai)}{kV doc pm cdv ct:ai}(hd:defs[i]?=af d)(a:eB K (.ref C) m=af (af (.ref f)))(l:K.lookup f=af ⟨oc,od,.func (fF d.name d.qual (gK d.st) (fW d.st) (bV d.st) .none kV doc pm an cdv ct),osl⟩)(c:iP K cdv d.qual=av)(k:e8 K (.ref f)=av)(g:oB K (.ref f)=av)(b:∀(kV doc pm:ai)(an:Option ay)(cdv ct:ai)(us:List ai),us.length=d.ps.length->bindArgs (fF d.name d.qual (gK d.st) (fW d.st) (bV d.st) .none kV doc pm an cdv ct) ⟨us,[]⟩=pure (d.ps.zip us))(mk:(m==("__init__" :Str))=aS\/(oS K C=av/\e8 K (.ref C)=av)):HY K defs C m i:=
 ⟨f,_,d,hd,Ck l c k,⟨a,g,k⟩,b kV doc pm an cdv ct,λe=>by
  rcases mk with z|⟨z1,z2⟩
  ·lia
  ·subst e;exact⟨z1,a,g,z2⟩⟩
theorem vB{K:aI}{C:ay}:∀{l:List Str}{f:Str},Ay K C l->f∈l->fD K C f
 |[],f,_,h=>by cases h|g::r,f,h,hf=>by
  rcases UJ.mp hf with rfl|hf
  ·exact h.1
  ·exact vB h.2 hf
theorem vC{K:aI}{defs:List Def}{C:ay}:∀{l:List (Str×Nat)}{m:Str}{i:Nat},Az K defs C l->(m,i)∈l->HY K defs C m i
 |[],m,i,_,h=>by cases h|(m',i')::r,m,i,h,hm=>by
  rcases UJ.mp hm with e|hm
  ·injection e with e1 e2
   subst e1;subst e2;exact h.1
  ·exact vC h.2 hm
theorem vD{K:aI}{defs:List Def}:∀{l:List (Str×List Str×List (Str×Nat))}{c:Str}{fs:List Str}{ms:List (Str×Nat)},qD K defs l->(c,fs,ms)∈l->Qi K defs c fs ms
 |[],c,fs,ms,_,h=>by cases h|(c',fs',ms')::r,c,fs,ms,h,hm=>by
  rcases UJ.mp hm with e|hm
  ·injection e with e1 e2
   injection e2 with e2 e3
   subst e1;subst e2;subst e3;exact h.1
  ·exact vD h.2 hm
theorem yw{K:aI}:∀{l:List Str}{x:Str},vA K l->x∈l->bS K mainGlobals x=af ah
 |[],x,_,h=>by simp at h|y::r,x,h,hx=>by
  rcases UJ.mp hx with rfl|hx
  ·exact h.1
  ·exact yw h.2 hx
theorem Em{K:aI}:∀{l:List (Str×Int)}{x:Str}{i:Int},LZ K l->(x,i)∈l->∃t,bS K mainGlobals x=af (af (.int i t))
 |[],x,i,_,h=>by simp at h|(y,j)::r,x,i,h,hx=>by
  rcases UJ.mp hx with e|hx
  ·injection e with e1 e2
   subst e1;subst e2;exact h.1
  ·exact Em h.2 hx
def Na(K:aI)(l:List Str)(C:ay):List (Str×List Str)->List ay->Prop
 |[],[]=>True|(d,_)::r,D::R=>(bS K mainGlobals d=af (af (.ref D))/\dS K (.ref C) (.ref D)=af (l.contains d)/\fy K (.ref C) (.ref D)=af (l.contains d))/\Na K l C r R|_,_=>False
def OU(K:aI)(xc:List (Str×List Str))(as:List ay):List (Str×List Str)->List ay->Prop
 |[],[]=>True| (c,l)::r,C::R=>(bS K mainGlobals c=af (af (.ref C))/\f7 K C EK "ValueError.__new__" =av/\xw K C/\dS K (.ref C) (.type "ValueError")=af (l.contains "ValueError")/\Na K l C xc as)/\OU K xc as r R|_,_=>False
theorem En{K:aI}{l:List Str}{C:ay}:∀{xc:List (Str×List Str)}{as:List ay},Na K l C xc as->∀d l',(d,l')∈xc->∀D,bS K mainGlobals d=af (af (.ref D))->dS K (.ref C) (.ref D)=af (l.contains d)/\fy K (.ref C) (.ref D)=af (l.contains d)
 |[],_,_,d,l',hd,_,_=>by cases hd|(x,y)::r,[],h,_,_,_,_,_=>h.elim|(x,y)::r,D'::R,h,d,l',hd,D,hD=>by
  rcases UJ.mp hd with e|e
  ·injection e with e1 e2
   subst e1;have e:=Ed hD h.1.1;subst e;exact h.1.2
  ·exact En h.2 d l' e D hD
theorem Eo{K:aI}{xc:List (Str×List Str)}{as:List ay}:∀{r:List (Str×List Str)}{R:List ay},OU K xc as r R->∀c l,(c,l)∈r->∃C,bS K mainGlobals c=af (af (.ref C))/\f7 K C EK "ValueError.__new__" =av/\xw K C/\dS K (.ref C) (.type "ValueError")=af (l.contains "ValueError")/\Na K l C xc as
 |[],_,_,c,l,hc=>by cases hc|(x,y)::r,[],h,_,_,_=>h.elim|(x,y)::r,C::R,h,c,l,hc=>by
  rcases UJ.mp hc with e|e
  ·injection e with e1 e2
   subst e1;subst e2;exact⟨C,h.1⟩
  ·exact Eo h.2 c l e
def R5{K:aI}{xc:List (Str×List Str)}(as:List ay)(h:OU K xc as xc as):mR K xc:=λc l hc=>by obtain⟨C,h1,h2,h3,h4,h5⟩:=Eo h c l hc;exact⟨C,h1,h2,h3,h4,En h5⟩
def AM(p:Prog):List Def->List xA->Prop
 |[],[]=>True|d::ds,f::fs=>ud d=av/\Fits p d f/\AM p ds fs|_,_=>False
theorem yx{p:Prog}:∀{ds:List Def}{fs:List xA}{i:Nat}{d:Def},AM p ds fs->ds[i]?=af d->∃f,fs[i]?=af f/\ud d=av/\Fits p d f
 |[],fs,i,d,_,h=>by simp at h|e::r,[],i,d,h,hd=>h.elim|e::r,f::fs,0,d,h,hd=>by
  have:e=d:=by simpa using hd
  subst this;exact⟨f,rfl,h.1,h.2.1⟩
 |e::r,f::fs,i+1,d,h,hd=>by
  obtain⟨g,h1,h2⟩:=yx (ds:=r) (fs:=fs) (i:=i) h.2.2 (by simpa using hd)
  simp_all
def Qj{defs:List Def}{x:Str}{f np:Nat}(h:(OS defs).lookup x=af (f,np)):∃d,defs[f]?=af d/\d.name=x/\d.ps.length=np/\d.qual=d.name:=by
 have hm:=Vv h;unfold OS at hm
 grind
section
variable{P:bX}{w:ck}{K:aI}{mg:Str->Option ai}{base h:cK}{p:Prog}{fns:List xA}
theorem vG(KX:K.In h)(G:h.Ns mainGlobals mg)(hA:lF K p.defs)(hB:vA K p.bl)(hC:LZ K p.ct)(hX:mR K p.xc)(hK:qD K p.defs p.cls)(hF:AM p p.defs fns):
  ∀(k i:Nat)(d:Def),p.defs[i]?=af d->∀f fd,Ll K d.name d.qual d.st f fd->x8 P w K mg base (A0 P w) (2*k) f fd d.ps (DF K fns d.ps.length k i)
 |0,i,d,hd,f,fd,F=>KR|k+1,i,d,hd,f,fd,F=>by
  obtain⟨fs,h1,h2,h3,h4,h5⟩:=yx hF hd;rw[h3];have Sc:=HW h2;refine RP F Sc h1 h3 h4 λcdv A outer s H E hr=>?_;refine(Ek 80).ss _ (Qh p d) ?_ rfl _ _ h5;refine⟨rfl,Sc.nd,rfl,Sc.kind,rfl,hr,λ_=>⟨λ_=>rfl,λ_=>PassesOwn.leaving,rfl,rfl⟩,λc fl ml hc=>?_,λx g np hx=>?_,λx hx=>PySem.W.mg_none_of KX G (yw hB hx),λx j hx=>?_,hX,λc l C _ hC=>kB KX G hC⟩
  ·have hc:(c,fl,ml)∈OT p:=hc;unfold OT at hc;obtain⟨⟨c',Yj,Yk⟩,q1,q2⟩:=Va.mp hc;injection q2 with q2 q3
   injection q3 with q3 q4
   subst q2;subst q3;subst q4;obtain⟨C,w1,w2,w3,w4⟩:=vD hK q1;refine⟨C,w1,kB KX G w1,w2,λf hf=>vB w3 hf,λm g np hl=>?_⟩;obtain⟨⟨m',i'⟩,v1,v2⟩:=Va.mp (Vv hl);injection v2 with v2 v3
   injection v3 with v3 v4
   subst v2;subst v3;subst v4;obtain⟨fa,fd',e,he,F',M,b',z⟩:=vC w4 v1;refine⟨fa,fd',e.ps,M,?_,.all b',z⟩;have q:=vG KX G hA hB hC hX hK hF k i' e he fa fd' F';simp only[he,Ws,Option.getD_some];exact q
  ·obtain⟨e,he,rfl,rfl,hq⟩:=Qj hx;obtain⟨fa,fd',F',a',b'⟩:=yt hA he hq;rw[←hq]at F';exact⟨fa,fd',e.ps,vG KX G hA hB hC hX hK hF k g e he fa fd' (by lia),kB KX G a',F'.kp,.all b'⟩
  ·obtain⟨t,ht⟩:=Em hC (Vv hx);exact⟨_,kB KX G ht,t,rfl⟩
end
def Ba(K:aI)(fns:List xA)(k i:Nat):Sp:=DF K fns 1 k i
def Ls{K:aI}{fns:List xA}{k i:Nat}(hval:∀ns:List Int,ns.length<=63->∃S,ao fns k i [.AN ns] []=af (.ok (.bl av) S)):
  ∀(H:Hp)(a:ay)(ns:List Int),ns.length<=63->E6 H->xy K H a (ns.map V.int)->Ba K fns k i [.ref a] H (λv _=>v= .bl av) λ_ _ _=>False:=by
 intro H a ns hl hO hS;obtain⟨S,hv⟩:=hval ns hl;refine⟨rfl,[],[],[.AN ns],⟨rfl,List.nodup_nil,λk a o h=>by simp at h⟩,fR.cons ?_ fR.nil,?_⟩
 ·unfold RD;refine⟨a,rfl,?_⟩;rcases hS with(h|⟨o,h⟩)|h
  ·rcases hO a with z|⟨o,xs,z⟩
   ·lia
   lia
  ·exact .inl ⟨o,h⟩
  ·exact .inr h
 ·rw[hv];intro m' H' v st sr rd;unfold RD at rd;exact rd
def Ep{P:bX}{w:ck}{H:Hp}{s:aE}{e:ai}{s':aE}(z:A0 P w [] H s (λ_ _ _=>False) e s'):False:=by obtain⟨_,_,_,_,_,_,_,_,_,_,_,_,_,q⟩:=z;exact q
def Qk{l:pe}{w:ck}{K:aI}{h:cK}{mg:Str->Option ai}{fa:ay}{p:Prog}{fns:List xA}{k i:Nat}{st:eL}{sn:Str}(KX:K.In h)(G:h.Ns mainGlobals mg)(hfa:mg "law" =af (.ref fa))(hA:lF K p.defs)(hB:vA K p.bl)(hC:LZ K p.ct)(hX:mR K p.xc)(hK:qD K p.defs p.cls)(hF:AM p p.defs fns)(hi:p.defs[i]?=af ⟨"law",st, "law"⟩)(hps:Def.ps ⟨"law",st, "law"⟩=[sn]):
  ∃fd:FuncData,(∀(s:aE)(v:ai),BindsTo s fd ⟨[v],[]⟩ [(sn,v)])/\∀base:cK,K.In base->base.Ns mainGlobals mg->x8 l.prog w K mg base (A0 l.prog w) (2*k) fa fd [sn] (Ba K fns k i):=by
 obtain⟨f,fd,F,a,b⟩:=yt hA hi rfl;have e:=hfa.symm.trans (kB KX G a);cases e;refine⟨fd,λs v=>?_,λbase hb nb=>?_⟩
 ·have q:=b [v] (by rw[hps];rfl);rw[hps]at q;exact .of_eq q
 ·have q:=vG (P:=l.prog) (w:=w) (base:=base) KX G hA hB hC hX hK hF k i _ hi fa fd F;rw[hps]at q;exact q
end RK
namespace K05
open PySem L2 RK
def top(i:Nat):Stmt:=PySem.Challenge.pw_ringkeep_k05_keeps_by_hand.main.body.getD i (.Pass ⟨0,0,0,0⟩)
def FD:Prog where
 defs:=[⟨"power_of_two",top 5, "power_of_two"⟩,⟨"count_spots",top 6, "count_spots"⟩,⟨"home_place",top 7, "home_place"⟩,⟨"holders",top 8, "holders"⟩,⟨"must_be_spot",top 9, "must_be_spot"⟩,⟨"came",top 10, "came"⟩,⟨"went",top 11, "went"⟩,⟨"fell",top 12, "fell"⟩,⟨"kept_keys",top 14, "kept_keys"⟩,⟨"first_keeper",top 15, "first_keeper"⟩,⟨"lines_of_key",top 16, "lines_of_key"⟩,⟨"rising_pairs",top 17, "rising_pairs"⟩,⟨"hand_over",top 18, "hand_over"⟩,⟨"__init__",inClass (top 19) 0, "Keep.__init__"⟩,⟨"ring",inClass (top 19) 1, "Keep.ring"⟩,⟨"put",inClass (top 19) 2, "Keep.put"⟩,⟨"get",inClass (top 19) 3, "Keep.get"⟩,⟨"has",inClass (top 19) 4, "Keep.has"⟩,⟨"keepers",inClass (top 19) 5, "Keep.keepers"⟩,⟨"mend_toward",inClass (top 19) 6, "Keep.mend_toward"⟩,⟨"mend",inClass (top 19) 7, "Keep.mend"⟩,⟨"come",inClass (top 19) 8, "Keep.come"⟩,⟨"go",inClass (top 19) 9, "Keep.go"⟩,⟨"move_to",inClass (top 19) 10, "Keep.move_to"⟩,⟨"gather",inClass (top 19) 11, "Keep.gather"⟩,⟨"fall",inClass (top 19) 12, "Keep.fall"⟩,⟨"leave",inClass (top 19) 13, "Keep.leave"⟩,⟨"_law_cell",top 21, "_law_cell"⟩,⟨"_law_mix",top 22, "_law_mix"⟩,⟨"_law_ring",top 23, "_law_ring"⟩,⟨"_law_order",top 24, "_law_order"⟩,⟨"_law_act",top 25, "_law_act"⟩,⟨"_law_mended",top 26, "_law_mended"⟩,⟨"_law_do",top 27, "_law_do"⟩,⟨"_law_told",top 28, "_law_told"⟩,⟨"_law_got",top 29, "_law_got"⟩,⟨"_law_right",top 30, "_law_right"⟩,⟨"law",top 31, "law"⟩]
 ct:=[]
 bl:=["len", "min", "max", "range", "list", "tuple", "sorted", "isinstance", "enumerate", "ValueError"]
 mu:=[(53,12),(65,12),(112,16),(161,16),(188,17),(189,16),(225,16),(230,25),(269,16),(54,400004),(55,400008),(75,400004),(78,400004),(191,400008),(227,400008)]
 xc:=[("RingError",["RingError", "ValueError"]),("NoHand",["NoHand", "RingError", "ValueError"]),("NoKey",["NoKey", "RingError", "ValueError"])]
 cls:=[("Keep",["circle", "copies", "kept"],[("__init__",13),("ring",14),("put",15),("get",16),("has",17),("keepers",18),("mend_toward",19),("mend",20),("come",21),("go",22),("move_to",23),("gather",24),("fall",25),("leave",26)])]
def b0:List C:=[.asg (.name 1) (.cst (.int 1)),.fr (.name 2) (.lP (.var 0)) [.asg (.name 1) (.bin .Mult (.var 1) (.cst (.int 2)))],.ret (.var 1)]
def b1:List C:=[.ret (.call 0 [.ix (.var 0) (.cst (.int 0))])]
def b2:List C:=[.asg (.name 2) (.bin .Mod (.var 1) (.call 1 [.var 0])),.fr (.tup [.name 3,.name 4]) (.A9 (.ix (.var 0) (.cst (.int 1)))) [.cond (.val (.cmp .GtE (.var 4) (.var 2))) [.ret (.var 3)] []],.ret (.cst (.int 0))]
def b3:List C:=[.asg (.name 3) (.ix (.var 0) (.cst (.int 1))),.asg (.name 4) (.call 2 [.var 0,.var 1]),.asg (.name 5) (.bin .Add (.GW (.var 3) (.var 4)) (.DB (.var 3) (.var 4))),.ret (.DB (.var 5) (.bi .max [.var 2,.cst (.int 0)]))]
def b4:List C:=[.cond (.or (.val (.cmp .Lt (.var 1) (.cst (.int 0)))) (.val (.cmp .GtE (.var 1) (.call 1 [.var 0])))) [.raise Z3 [.fmt [.var 1]]] []]
def b5:List C:=[.asg (.name 2) (.ix (.var 0) (.cst (.int 1))),.ex (.call 4 [.var 0,.var 1]),.cond (.val (.cmp .In (.var 1) (.var 2))) [.raise Z3 [.fmt [.var 1]]] [],.ret (.tup [.ix (.var 0) (.cst (.int 0)),.col .tuple (.snap (.col (.sorted aS) (.live (.bin .Add (.var 2) (.tup [.var 1])))))])]
def b6:List C:=[.asg (.name 2) (.ix (.var 0) (.cst (.int 1))),.cond (.val (.cmp .NotIn (.var 1) (.var 2))) [.raise Z3 [.fmt [.var 1]]] [],.cond (.val (.cmp .Eq (.bi .len [.var 2]) (.cst (.int 1)))) [.raise Z3 [.fmt [.var 1]]] [],.ret (.tup [.ix (.var 0) (.cst (.int 0)),.col .tuple (.snap (.comp aS (.var 0) (.name 0) (.seq (.var 2)) [.val (.cmp .NotEq (.var 0) (.var 1))] 1 [1]))])]
def b7:List C:=[.fr (.name 2) (.seq (.var 1)) [.cond (.val (.cmp .NotIn (.var 2) (.ix (.var 0) (.cst (.int 1))))) [.raise Z3 [.fmt [.var 2]]] []],.asg (.name 3) (.col .tuple (.snap (.comp aS (.var 0) (.name 0) (.seq (.ix (.var 0) (.cst (.int 1)))) [.val (.cmp .NotIn (.var 0) (.var 1))] 1 [1]))),.cond (.val (.cmp .Eq (.bi .len [.var 3]) (.cst (.int 0)))) [.raise Z3 [.fmt [.var 1]]] [],.ret (.tup [.ix (.var 0) (.cst (.int 0)),.var 3])]
def b8:List C:=[.asg (.name 1) (.dct),.CB (.name 2) (.var 0) [.CB (.name 3) (.ix (.var 0) (.var 2)) [.sub (.var 1) (.var 3) (.cst (.bl av))]],.ret (.col (.sorted aS) (.live (.var 1)))]
def b9:List C:=[.fr (.name 3) (.seq (.call 3 [.var 0,.var 2,.bi .len [.ix (.var 0) (.cst (.int 1))]])) [.cond (.val (.cmp .In (.var 2) (.ix (.var 1) (.var 3)))) [.ret (.var 3)] []],.ret (.cst (.non))]
def Nc:List C:=[.asg (.name 4) (.call 9 [.var 0,.var 1,.var 2]),.asg (.name 5) (.lst av []),.fr (.name 6) (.seq (.ix (.var 0) (.cst (.int 1)))) [.cond (.and (.val (.cmp .In (.var 2) (.ix (.var 1) (.var 6)))) (.val (.cmp .NotIn (.var 6) (.var 3)))) [.ex (.meth .append (.var 5) [.tup [.var 2,.cst (.str Z7),.var 6]])] [],.cond (.and (.val (.cmp .NotIn (.var 2) (.ix (.var 1) (.var 6)))) (.val (.cmp .In (.var 6) (.var 3)))) [.ex (.meth .append (.var 5) [.tup [.var 2,.cst (.str Z8),.var 4,.var 6]])] []],.ret (.var 5)]
def Nd:List C:=[.ret (.col .tuple (.snap (.E7 (.var 0))))]
def L0:List C:=[.CB (.name 2) (.var 1) [.cond (.val (.cmp .Eq (.ix (.var 2) (.cst (.int 1))) (.cst (.str Z8)))) [.sub (.ix (.var 0) (.ix (.var 2) (.cst (.int 3)))) (.ix (.var 2) (.cst (.int 0))) (.ix (.ix (.var 0) (.ix (.var 2) (.cst (.int 2)))) (.ix (.var 2) (.cst (.int 0))))] []],.CB (.name 2) (.var 1) [.cond (.val (.cmp .Eq (.ix (.var 2) (.cst (.int 1))) (.cst (.str Z7)))) [.ex (.meth .lI (.ix (.var 0) (.ix (.var 2) (.cst (.int 2)))) [.ix (.var 2) (.cst (.int 0))])] []]]
def Si:List C:=[.fset Z1 Z4 (.var 0) (.var 1),.fset Z1 Z9 (.var 0) (.var 2),.fset Z1 Z2 (.var 0) (.dct),.fr (.name 3) (.seq (.ix (.var 1) (.cst (.int 1)))) [.sub (.fld Z1 Z2 (.var 0)) (.var 3) (.dct)]]
def OV:List C:=[.ret (.fld Z1 Z4 (.var 0))]
def Nl:List C:=[.fr (.name 3) (.seq (.call 3 [.fld Z1 Z4 (.var 0),.var 1,.fld Z1 Z9 (.var 0)])) [.sub (.ix (.fld Z1 Z2 (.var 0)) (.var 3)) (.var 1) (.var 2)]]
def L5:List C:=[.asg (.name 2) (.call 9 [.fld Z1 Z4 (.var 0),.fld Z1 Z2 (.var 0),.var 1]),.cond (.val (.cmp .Is (.var 2) (.cst (.non)))) [.raise Z5 [.fmt [.var 1]]] [],.ret (.ix (.ix (.fld Z1 Z2 (.var 0)) (.var 2)) (.var 1))]
def OW:List C:=[.cond (.val (.cmp .NotIn (.var 1) (.fld Z1 Z2 (.var 0)))) [.raise Z3 [.fmt [.var 1]]] [],.ret (.call 11 [.ix (.fld Z1 Z2 (.var 0)) (.var 1)])]
def OX:List C:=[.ret (.col .tuple (.snap (.comp aS (.var 0) (.name 0) (.seq (.ix (.fld Z1 Z4 (.var 0)) (.cst (.int 1)))) [.val (.cmp .In (.var 1) (.ix (.fld Z1 Z2 (.var 2)) (.var 0)))] 1 [1,0])))]
def Nn:List C:=[.asg (.name 2) (.lst av []),.fr (.name 3) (.seq (.call 8 [.fld Z1 Z2 (.var 0)])) [.asg (.name 4) (.call 3 [.var 1,.var 3,.fld Z1 Z9 (.var 0)]),.ex (.meth .extend (.var 2) [.call 10 [.fld Z1 Z4 (.var 0),.fld Z1 Z2 (.var 0),.var 3,.var 4]])],.ex (.call 12 [.fld Z1 Z2 (.var 0),.var 2]),.ret (.col .tuple (.snap (.col (.sorted aS) (.live (.var 2)))))]
def OY:List C:=[.ret (.kD Z1 {cps:= #[109,101,110,100,95,116,111,119,97,114,100]} 19 (.var 0) [.fld Z1 Z4 (.var 0)])]
def OZ:List C:=[.ret (.kD Z1 {cps:= #[109,111,118,101,95,116,111]} 23 (.var 0) [.call 5 [.fld Z1 Z4 (.var 0),.var 1]])]
def O0:List C:=[.ret (.kD Z1 {cps:= #[109,111,118,101,95,116,111]} 23 (.var 0) [.call 6 [.fld Z1 Z4 (.var 0),.var 1]])]
def Pc:List C:=[.ex (.kD Z1 {cps:= #[103,97,116,104,101,114]} 24 (.var 0) [.var 1]),.asg (.name 2) (.kD Z1 {cps:= #[109,101,110,100,95,116,111,119,97,114,100]} 19 (.var 0) [.var 1]),.ex (.kD Z1 {cps:= #[108,101,97,118,101]} 26 (.var 0) [.var 1]),.ret (.var 2)]
def NC:List C:=[.fr (.name 2) (.seq (.ix (.var 1) (.cst (.int 1)))) [.ex (.F6 (.fld Z1 Z2 (.var 0)) [.var 2,.dct])],.fset Z1 Z4 (.var 0) (.tup [.ix (.var 1) (.cst (.int 0)),.col .tuple (.snap (.col (.sorted aS) (.live (.fld Z1 Z2 (.var 0)))))])]
def Pd:List C:=[.asg (.name 2) (.call 7 [.fld Z1 Z4 (.var 0),.var 1]),.asg (.name 3) (.call 8 [.fld Z1 Z2 (.var 0)]),.ex (.kD Z1 {cps:= #[108,101,97,118,101]} 26 (.var 0) [.var 2]),.ret (.col .tuple (.snap (.comp aS (.var 0) (.name 0) (.seq (.var 3)) [.val (.cmp .Eq (.bi .len [.kD Z1 Zd 18 (.var 1) [.var 0]]) (.cst (.int 0)))] 1 [0])))]
def ND:List C:=[.fr (.name 2) (.seq (.ix (.fld Z1 Z4 (.var 0)) (.cst (.int 1)))) [.cond (.val (.cmp .NotIn (.var 2) (.ix (.var 1) (.cst (.int 1))))) [.ex (.meth .lI (.fld Z1 Z2 (.var 0)) [.var 2])] []],.fset Z1 Z4 (.var 0) (.var 1)]
def Kn:List C:=[.cond (.val (.cmp .Lt (.var 1) (.bi .len [.var 0]))) [.ret (.ix (.var 0) (.var 1))] [],.ret (.cst (.int 0))]
def Pe:List C:=[.ret (.bin .Mod (.bin .Mod (.bin .Mult (.var 0) (.cst (.int 48271))) (.var 1)) (.var 2))]
def Pf:List C:=[.asg (.name 2) (.bin .Add (.cst (.int 2)) (.call 28 [.var 0,.cst (.int 9973),.cst (.int 6)])),.asg (.name 3) (.bin .LShift (.cst (.int 1)) (.var 2)),.asg (.name 4) (.bin .Add (.cst (.int 1)) (.call 28 [.var 0,.cst (.int 9967),.bi .min [.var 1,.var 3]])),.asg (.name 5) (.col (.list av) (.lP (.var 3))),.asg (.name 6) (.comp aS (.meth .lI (.var 2) [.call 28 [.bin .Add (.var 1) (.bin .Mult (.cst (.int 7)) (.var 0)),.cst (.int 9949),.bin .Sub (.var 3) (.var 0)]]) (.name 0) (.lP (.var 4)) [] 1 [0,5,3]),.cond (.val (.cmp .Eq (.bin .Mod (.var 0) (.cst (.int 5))) (.cst (.int 0)))) [.asg (.name 7) (.call 28 [.var 0,.cst (.int 9941),.var 3]),.asg (.name 6) (.comp aS (.bin .Mod (.bin .Add (.var 1) (.var 0)) (.var 2)) (.name 0) (.lP (.var 4)) [] 1 [7,3])] [],.ret (.tup [.var 2,.col .tuple (.snap (.col (.sorted aS) (.live (.var 6))))])]
def Po:List C:=[.asg (.name 2) (.bin .LShift (.cst (.int 1)) (.ix (.var 0) (.cst (.int 0)))),.asg (.name 3) (.col (.sorted aS) (.live (.comp aS (.tup [.bin .Mod (.bin .Sub (.var 0) (.var 2)) (.var 1),.var 0]) (.name 0) (.seq (.ix (.var 0) (.cst (.int 1)))) [] 1 [2,1]))),.ret (.comp aS (.var 1) (.tup [.name 0,.name 1]) (.seq (.var 3)) [] 2 [])]
def L6:List C:=[.asg (.name 2) (.bin .LShift (.cst (.int 1)) (.ix (.var 0) (.cst (.int 0)))),.asg (.name 3) (.ix (.var 0) (.cst (.int 1))),.asg (.name 4) (.call 28 [.var 1,.cst (.int 9883),.cst (.int 9)]),.asg (.name 5) (.call 28 [.var 1,.cst (.int 9871),.var 2]),.cond (.and (.val (.cmp .Eq (.var 4) (.cst (.int 5)))) (.and (.val (.cmp .Lt (.bi .len [.var 3]) (.cst (.int 12)))) (.val (.cmp .NotIn (.var 5) (.var 3))))) [.ret (.tup [.cst (.str Za),.var 5])] [],.cond (.and (.val (.cmp .Eq (.var 4) (.cst (.int 6)))) (.val (.cmp .Gt (.bi .len [.var 3]) (.cst (.int 1))))) [.ret (.tup [.cst (.str Z6),.ix (.var 3) (.call 28 [.var 1,.cst (.int 9859),.bi .len [.var 3]])])] [],.cond (.and (.val (.cmp .Eq (.var 4) (.cst (.int 7)))) (.val (.cmp .Gt (.bi .len [.var 3]) (.cst (.int 1))))) [.asg (.name 6) (.comp aS (.var 0) (.name 0) (.seq (.var 3)) [.val (.cmp .Eq (.call 28 [.bin .Add (.var 1) (.var 0),.cst (.int 9857),.cst (.int 3)]) (.cst (.int 0)))] 1 [1]),.ret (.tup [.cst (.str Ze),.col .tuple (.snap (.DB (.var 6) (.bin .Sub (.bi .len [.var 3]) (.cst (.int 1)))))])] [],.cond (.val (.cmp .Eq (.var 4) (.cst (.int 8)))) [.ret (.tup [.cst (.str Zb)])] [],.asg (.name 7) (.bi .min [.var 2,.cst (.int 12)]),.ret (.tup [.cst (.str Zc),.bin .Mult (.call 28 [.var 1,.cst (.int 9851),.var 7]) (.bin .FloorDiv (.var 2) (.var 7)),.bin .Mod (.var 1) (.cst (.int 1000))])]
def L7:List C:=[.asg (.name 4) (.lst av []),.asg (.name 5) (.dct),.fr (.name 6) (.seq (.ix (.var 2) (.cst (.int 1)))) [.CB (.name 7) (.ix (.var 0) (.var 6)) [.sub (.var 5) (.var 7) (.cst (.bl av))]],.fr (.name 7) (.seq (.col (.sorted aS) (.live (.var 5)))) [.asg (.name 8) (.comp aS (.var 0) (.name 0) (.seq (.call 30 [.var 2,.var 7])) [.val (.cmp .In (.var 2) (.ix (.var 1) (.var 0)))] 1 [0,7]),.asg (.name 9) (.DB (.call 30 [.var 1,.var 7]) (.var 3)),.fr (.name 6) (.seq (.ix (.var 2) (.cst (.int 1)))) [.cond (.and (.val (.cmp .In (.var 6) (.var 9))) (.val (.cmp .NotIn (.var 6) (.var 8)))) [.ex (.meth .append (.var 4) [.tup [.var 7,.cst (.str Z8),.ix (.var 8) (.cst (.int 0)),.var 6]]),.sub (.ix (.var 0) (.var 6)) (.var 7) (.ix (.ix (.var 0) (.ix (.var 8) (.cst (.int 0)))) (.var 7))] []],.fr (.name 6) (.seq (.var 8)) [.cond (.val (.cmp .NotIn (.var 6) (.var 9))) [.ex (.meth .append (.var 4) [.tup [.var 7,.cst (.str Z7),.var 6]])] []],.fr (.name 6) (.seq (.var 8)) [.cond (.val (.cmp .NotIn (.var 6) (.var 9))) [.ex (.meth .lI (.ix (.var 0) (.var 6)) [.var 7])] []]],.ret (.col .tuple (.snap (.col (.sorted aS) (.live (.var 4)))))]
def DZ:List C:=[.cond (.val (.cmp .Eq (.ix (.var 3) (.cst (.int 0))) (.cst (.str Zc)))) [.fr (.name 4) (.seq (.DB (.call 30 [.var 1,.ix (.var 3) (.cst (.int 1))]) (.var 2))) [.sub (.ix (.var 0) (.var 4)) (.ix (.var 3) (.cst (.int 1))) (.ix (.var 3) (.cst (.int 2)))],.ret (.tup [.var 1,.cst (.non)])] [],.cond (.val (.cmp .Eq (.ix (.var 3) (.cst (.int 0))) (.cst (.str Zb)))) [.ret (.tup [.var 1,.call 32 [.var 0,.var 1,.var 1,.var 2]])] [],.cond (.val (.cmp .Eq (.ix (.var 3) (.cst (.int 0))) (.cst (.str Za)))) [.asg (.name 5) (.tup [.ix (.var 1) (.cst (.int 0)),.col .tuple (.snap (.col (.sorted aS) (.live (.bin .Add (.ix (.var 1) (.cst (.int 1))) (.tup [.ix (.var 3) (.cst (.int 1))])))))]),.sub (.var 0) (.ix (.var 3) (.cst (.int 1))) (.dct),.ret (.tup [.var 5,.call 32 [.var 0,.var 5,.var 5,.var 2]])] [],.asg (.name 6) (.ix (.var 3) (.cst (.int 1))),.cond (.val (.cmp .Eq (.ix (.var 3) (.cst (.int 0))) (.cst (.str Z6)))) [.asg (.name 6) (.tup [.ix (.var 3) (.cst (.int 1))])] [],.asg (.name 7) (.tup [.ix (.var 1) (.cst (.int 0)),.col .tuple (.snap (.comp aS (.var 0) (.name 0) (.seq (.ix (.var 1) (.cst (.int 1)))) [.val (.cmp .NotIn (.var 0) (.var 1))] 1 [6]))]),.asg (.name 8) (.tup []),.cond (.val (.cmp .Eq (.ix (.var 3) (.cst (.int 0))) (.cst (.str Z6)))) [.asg (.name 8) (.call 32 [.var 0,.var 7,.var 1,.var 2])] [],.asg (.name 9) (.dct),.fr (.name 4) (.seq (.var 6)) [.CB (.name 10) (.meth .lI (.var 0) [.var 4]) [.sub (.var 9) (.var 10) (.cst (.bl av))]],.cond (.val (.cmp .Eq (.ix (.var 3) (.cst (.int 0))) (.cst (.str Ze)))) [.asg (.name 11) (.lst av []),.fr (.name 10) (.seq (.col (.sorted aS) (.live (.var 9)))) [.cond (.nt (.val (.comp aS (.var 0) (.name 0) (.seq (.ix (.var 7) (.cst (.int 1)))) [.val (.cmp .In (.var 2) (.ix (.var 1) (.var 0)))] 1 [0,10]))) [.ex (.meth .append (.var 11) [.var 10])] []],.asg (.name 8) (.col .tuple (.snap (.var 11)))] [],.ret (.tup [.var 7,.var 8])]
def E2:List C:=[.cond (.val (.cmp .Eq (.ix (.var 1) (.cst (.int 0))) (.cst (.str Zc)))) [.ret (.kD Z1 Zc 15 (.var 0) [.ix (.var 1) (.cst (.int 1)),.ix (.var 1) (.cst (.int 2))])] [],.cond (.val (.cmp .Eq (.ix (.var 1) (.cst (.int 0))) (.cst (.str Zb)))) [.ret (.kD Z1 Zb 20 (.var 0) [])] [],.cond (.val (.cmp .Eq (.ix (.var 1) (.cst (.int 0))) (.cst (.str Za)))) [.ret (.kD Z1 Za 21 (.var 0) [.ix (.var 1) (.cst (.int 1))])] [],.cond (.val (.cmp .Eq (.ix (.var 1) (.cst (.int 0))) (.cst (.str Z6)))) [.ret (.kD Z1 Z6 22 (.var 0) [.ix (.var 1) (.cst (.int 1))])] [],.ret (.kD Z1 Ze 25 (.var 0) [.ix (.var 1) (.cst (.int 1))])]
def NF:List C:=[.asg (.name 2) (.cst (.str {cps:= #[111,116,104,101,114]})),.tr [.asg (.name 2) (.kD Z1 {cps:= #[103,101,116]} 16 (.var 0) [.var 1])] [Zf,Z3,Z5] (af 3) [.cond (.and (.val (.EX (.var 3) [Z5] [Zf,Z3])) (.and (.nt (.val (.EX (.var 3) [Z3] [Zf,Z5]))) (.val (.EX (.var 3) [Zf,Z3,Z5] [])))) [.asg (.name 2) (.cst (.non))] []],.ret (.var 2)]
def NG:List C:=[.cond (.val (.cmp .NotEq (.kD Z1 {cps:= #[114,105,110,103]} 14 (.var 0) []) (.var 2))) [.ret (.cst (.bl aS))] [],.fr (.name 4) (.seq (.ix (.var 2) (.cst (.int 1)))) [.cond (.val (.cmp .NotEq (.kD Z1 {cps:= #[104,97,115]} 17 (.var 0) [.var 4]) (.col .tuple (.snap (.E7 (.ix (.var 1) (.var 4))))))) [.ret (.cst (.bl aS))] []],.asg (.name 5) (.comp aS (.var 0) (.name 0) (.seq (.call 30 [.var 2,.var 3])) [.val (.cmp .In (.var 2) (.ix (.var 1) (.var 0)))] 1 [1,3]),.asg (.name 6) (.cst (.non)),.cond (.val (.var 5)) [.asg (.name 6) (.ix (.ix (.var 1) (.ix (.var 5) (.cst (.int 0)))) (.var 3))] [],.ret (.and (.cmp .Eq (.kD Z1 Zd 18 (.var 0) [.var 3]) (.col .tuple (.snap (.col (.sorted aS) (.live (.var 5)))))) (.cmp .Eq (.call 35 [.var 0,.var 3]) (.var 6)))]
def KA:List C:=[.asg (.name 1) (.call 29 [.call 27 [.var 0,.cst (.int 0)],.cst (.int 9)]),.asg (.name 2) (.bin .Add (.cst (.int 1)) (.call 28 [.call 27 [.var 0,.cst (.int 1)],.cst (.int 9923),.cst (.int 6)])),.asg (.name 3) (.new Z1 13 [.var 1,.var 2]),.asg (.name 4) (.dct),.fr (.name 5) (.seq (.ix (.var 1) (.cst (.int 1)))) [.sub (.var 4) (.var 5) (.dct)],.fr (.name 6) (.seq (.ED (.var 0) (.cst (.int 2)) (.cst (.int 26)))) [.asg (.name 7) (.call 31 [.var 1,.var 6]),.asg (.name 8) (.call 34 [.var 3,.var 7]),.asg (.tup [.name 1,.name 9]) (.call 33 [.var 4,.var 1,.var 2,.var 7]),.asg (.name 10) (.call 28 [.var 6,.cst (.int 9839),.bin .LShift (.cst (.int 1)) (.ix (.var 1) (.cst (.int 0)))]),.cond (.or (.val (.cmp .NotEq (.var 8) (.var 9))) (.nt (.val (.call 36 [.var 3,.var 4,.var 1,.var 10])))) [.ret (.cst (.bl aS))] []],.ret (.cst (.bl av))]
def fns:List xA:=[⟨1,3,b0⟩,⟨1,1,b1⟩,⟨2,5,b2⟩,⟨3,6,b3⟩,⟨2,2,b4⟩,⟨2,3,b5⟩,⟨2,3,b6⟩,⟨2,4,b7⟩,⟨1,4,b8⟩,⟨3,4,b9⟩,⟨4,7,Nc⟩,⟨1,1,Nd⟩,⟨2,3,L0⟩,⟨3,4,Si⟩,⟨1,1,OV⟩,⟨3,4,Nl⟩,⟨2,3,L5⟩,⟨2,2,OW⟩,⟨2,2,OX⟩,⟨2,5,Nn⟩,⟨1,1,OY⟩,⟨2,2,OZ⟩,⟨2,2,O0⟩,⟨2,3,Pc⟩,⟨2,3,NC⟩,⟨2,4,Pd⟩,⟨2,3,ND⟩,⟨2,2,Kn⟩,⟨3,3,Pe⟩,⟨2,8,Pf⟩,⟨2,4,Po⟩,⟨2,8,L6⟩,⟨4,10,L7⟩,⟨4,12,DZ⟩,⟨2,2,E2⟩,⟨2,4,NF⟩,⟨4,7,NG⟩,⟨1,11,KA⟩]
def fits:AM FD FD.defs fns:=by
 refine⟨?_,⟨?_,?_,?_⟩,?_,⟨?_,?_,?_⟩,?_,⟨?_,?_,?_⟩,?_,⟨?_,?_,?_⟩,?_,⟨?_,?_,?_⟩,?_,⟨?_,?_,?_⟩,?_,⟨?_,?_,?_⟩,?_,⟨?_,?_,?_⟩,?_,⟨?_,?_,?_⟩,?_,⟨?_,?_,?_⟩,?_,⟨?_,?_,?_⟩,?_,⟨?_,?_,?_⟩,?_,⟨?_,?_,?_⟩,?_,⟨?_,?_,?_⟩,?_,⟨?_,?_,?_⟩,?_,⟨?_,?_,?_⟩,?_,⟨?_,?_,?_⟩,?_,⟨?_,?_,?_⟩,?_,⟨?_,?_,?_⟩,?_,⟨?_,?_,?_⟩,?_,⟨?_,?_,?_⟩,?_,⟨?_,?_,?_⟩,?_,⟨?_,?_,?_⟩,?_,⟨?_,?_,?_⟩,?_,⟨?_,?_,?_⟩,?_,⟨?_,?_,?_⟩,?_,⟨?_,?_,?_⟩,?_,⟨?_,?_,?_⟩,?_,⟨?_,?_,?_⟩,?_,⟨?_,?_,?_⟩,?_,⟨?_,?_,?_⟩,?_,⟨?_,?_,?_⟩,?_,⟨?_,?_,?_⟩,?_,⟨?_,?_,?_⟩,?_,⟨?_,?_,?_⟩,?_,⟨?_,?_,?_⟩,?_,⟨?_,?_,?_⟩,?_,⟨?_,?_,?_⟩,trivial⟩
 all_goals kernel_rfl
end K05
namespace RV
open PySem RK
theorem jy{n:Nat}:∀{ds:List D},oj.clos n ds ↔ ∀d∈ds,oj n d
 |[]=>by simp[oj.clos]|d::ds=>by simp only[oj.clos,UJ,forall_eq_or_imp];rw[jy]
def bF{n:Nat}(ns:List Int):oj.clos n (ns.map D.int):=jy.mpr λd hd=>by obtain⟨i,_,rfl⟩:=Va.mp hd;trivial
def rF{S S':bq}{d:D}(h:S'.take S.length=S)(c:oj S.length d):trim S d S'=af (.ok d S):=by
 unfold trim
 simp_all
@[simp] theorem cW (r:aC) (S:bq) (k:aC->bq->Option Fl):AZ (af (.next r S)) k=k r S:=rfl
@[simp] theorem dU {α:Type} (a:α) (S:bq) (r:aC) (k:α->bq->Option Fl):fN (af (.ok a S)) r k=k a S:=rfl
@[simp] theorem bR {α:Type} (a:α) (S:bq):fz a S=af (.ok a S):=rfl
@[irreducible] noncomputable def Runs (cl:Nat->List D->bq->Ev D) (cs:List C) (r:aC) (S:bq) (R:Option Fl->Prop):Prop:=R (eS cl cs r S)
def dX(d:D)(S':bq):Option Fl->Prop:=λx=>x=af (.ret d S')
def call_of{fns:List xA}{k f:Nat}{as:List D}{S S':bq}{fs:xA}{d:D}(hf:fns[f]?=af fs)(ha:as.length=fs.np)(h:Runs (ao fns k) fs.body (as.map af++bE (fs.nn - as.length) ah) S (dX d S'))(hS:S'.take S.length=S)(c:oj S.length d):ao fns (k+1) f as S=af (.ok d S):=by rw[ao,hf];unfold Runs dX at h;simp only[if_pos ha,h];exact rF hS c
def LstAt(S S':bq)(w:D)(ds:List D):Prop:=w= .lst ds\/∃k,w= .ref k/\S.length<=k/\S'[k]?=af (.lst ds)
def H8{fns:List xA}{k f:Nat}{as:List D}{S:bq}{fs:xA}{ds:List D}(hf:fns[f]?=af fs)(ha:as.length=fs.np)(h:Runs (ao fns k) fs.body (as.map af++bE (fs.nn - as.length) ah) S λx=>∃w S',x=af (.ret w S')/\LstAt S S' w ds/\S'.take S.length=S)(c:oj.clos S.length ds):ao fns (k+1) f as S=af (.ok (.lst ds) S):=by
 rw[ao,hf];unfold Runs at h;obtain⟨w,S',h1,h2,h3⟩:=h;simp only[if_pos ha,h1,fO];rcases h2 with rfl|⟨j,rfl,hj,hl⟩
 ·exact rF h3 c
 ·unfold trim;rw[if_neg (λz=>by have:j<S.length:=z.2;lia),if_neg (λz=>by have:j<S.length:=z.2;lia)];simp only[hl];rw[if_pos ⟨h3,hj,c⟩]
def call_exc{fns:List xA}{k f:Nat}{as:List D}{S:bq}{fs:xA}{c:Str}(hf:fns[f]?=af fs)(ha:as.length=fs.np)(h:Runs (ao fns k) fs.body (as.map af++bE (fs.nn - as.length) ah) S λx=>∃r S',x=af (.exc c r S')/\S'.take S.length=S):ao fns (k+1) f as S=af (.exc c S):=by rw[ao,hf];unfold Runs at h;obtain⟨r,S',h1,h2⟩:=h;simp only[if_pos ha,h1,fO];rw[if_pos h2]
def Uk(P:D->Prop)(S:bq):Option Fl->Prop:=λx=>∃d,P d/\oj S.length d/\x=af (.ret d S)
def H9{fns:List xA}{k f:Nat}{as:List D}{S:bq}{fs:xA}{P:D->Prop}(hf:fns[f]?=af fs)(ha:as.length=fs.np)(h:Runs (ao fns k) fs.body (as.map af++bE (fs.nn - as.length) ah) S (Uk P S)):∃d,P d/\ao fns (k+1) f as S=af (.ok d S):=by unfold Runs at h;obtain⟨d,h1,h2,h3⟩:=h;exact⟨d,h1,call_of hf ha (S':=S) (by unfold Runs;exact h3) (by simp) h2⟩
section
variable{cl:Nat->List D->bq->Ev D}{cs:List C}{r r':aC}{S S1:bq}{R:Option Fl->Prop}{d:D}
def Ql:eS cl [] r S=af (.next r S):=rfl
def cF{c:C}:eS cl (c::cs) r S=AZ (runC cl c r S) λr S=>eS cl cs r S:=rfl
def Er{t:Tg}{e:E}:runC cl (.asg t e) r S=fN (ak cl e r S) r λd S1=>match cz t d r with|some r'=>af (.next r' S1)|none=>none:=rfl
def Qm{o i v:E}:runC cl (.sub o i v) r S=fN (ak cl v r S) r λd S1=>fN (ak cl o r S1) r λa S2=>fN (ak cl i r S2) r λb S3=>match RK.putAt a b d S3 with|some S4=>af (.next r S4)|none=>none:=rfl
def R6{e:E}:runC cl (.ex e) r S=fN (ak cl e r S) r λ_ S1=>af (.next r S1):=rfl
def yz{e:T}{a b:List C}:runC cl (.cond e a b) r S=fN (bu cl e r S) r λt S1=>if t then eS cl a r S1 else eS cl b r S1:=rfl
def R7{t:Tg}{it:It}{a:List C}:runC cl (.fr t it a) r S=fN (bM cl it r S) r λds S1=>forLoop (λr S=>eS cl a r S) t ds r S1:=rfl
def Qn{e:E}:runC cl (.ret e) r S=fN (ak cl e r S) r λd S1=>af (.ret d S1):=rfl
def Ia{c:Str}{as:List E}:runC cl (.raise c as) r S=fN (aG cl as r S) r λ_ S1=>af (.exc c r S1):=rfl
def Lw{c f:Str}{o v:E}:runC cl (.fset c f o v) r S=fN (ak cl v r S) r λd S1=>fN (ak cl o r S1) r λx S2=>match cU S2 c x with|some (k,fs)=>if fs.length<1000 then af (.next r (S2.set k (.ins c (cO f d fs))))else ah|none=>none:=rfl
def aD{t:Tg}{e:E}(h:ak cl e r S=af (.ok d S1))(ht:cz t d r=af r')(k:Runs cl cs r' S1 R):Runs cl (.asg t e::cs) r S R:=by unfold Runs at k ⊢;simp only[cF,Er,h,dU,ht,cW];exact k
def gH{o i v:E}{x y:D}{S2 S3 S4:bq}(h1:ak cl v r S=af (.ok d S1))(h2:ak cl o r S1=af (.ok x S2))(h3:ak cl i r S2=af (.ok y S3))(h4:RK.putAt x y d S3=af S4)(k:Runs cl cs r S4 R):Runs cl (.sub o i v::cs) r S R:=by unfold Runs at k ⊢;simp only[cF,Qm,h1,h2,h3,h4,dU,cW];exact k
def jd{c f:Str}{o v:E}{k:Nat}{fs:List (Str×D)}{S2:bq}(h1:ak cl v r S=af (.ok d S1))(h2:ak cl o r S1=af (.ok (.ref k) S2))(h3:S2[k]?=af (.ins c fs))(hl:fs.length<1000)(kk:Runs cl cs r (S2.set k (.ins c (cO f d fs))) R):
  Runs cl (.fset c f o v::cs) r S R:=by
 unfold Runs at kk ⊢;have e:cU S2 c (.ref k)=af (k,fs):=by simp[cU,h3]
 have e2:runC cl (.fset c f o v) r S=af (.next r (S2.set k (.ins c (cO f d fs)))):=by simp only[Lw,h1,h2,dU,e];exact if_pos hl
 simp only[cF,e2,cW];exact kk
def cG{e:E}(h:ak cl e r S=af (.ok d S1))(k:Runs cl cs r S1 R):Runs cl (.ex e::cs) r S R:=by unfold Runs at k ⊢;simp only[cF,R6,h,dU,cW];exact k
def aH{e:E}(h:ak cl e r S=af (.ok d S1))(k:R (af (.ret d S1))):Runs cl (.ret e::cs) r S R:=by unfold Runs;simp only[cF,Qn,h,dU,AZ];exact k
def aJ(k:R (af (.next r S))):Runs cl [] r S R:=by unfold Runs;simp only[Ql];exact k
theorem jz:∀{a b:List C}{r:aC}{S:bq},eS cl (a++b) r S=AZ (eS cl a r S) λr S=>eS cl b r S
 |[],b,r,S=>by rfl|c::a,b,r,S=>by
  simp only[Uy,cF];cases h:runC cl c r S with
  |none=>rfl|some fl=>
   cases fl with|next r2 S2=>simp only[cW];exact jz|_=>rfl
def bO{e:T}{a b:List C}(h:bu cl e r S=af (.ok av S1))(k:Runs cl (a++cs) r S1 R):Runs cl (.cond e a b::cs) r S R:=by unfold Runs at k ⊢;rw[jz]at k;simp only[cF,yz,h,dU,if_pos];exact k
def aK{e:T}{a b:List C}(h:bu cl e r S=af (.ok aS S1))(k:Runs cl (b++cs) r S1 R):Runs cl (.cond e a b::cs) r S R:=by unfold Runs at k ⊢;rw[jz]at k;simp only[cF,yz,h,dU,Vq,VR];exact k
def cH{e:T}{a b:List C}{t:Bool}(h:bu cl e r S=af (.ok t S1))(k1:t=av->Runs cl (a++cs) r S1 R)(k2:t=aS->Runs cl (b++cs) r S1 R):Runs cl (.cond e a b::cs) r S R:=by
 cases t with|true=>exact bO h (k1 rfl)|false=>exact aK h (k2 rfl)
def Bb{c:Str}{as:List E}{ds:List D}(h:aG cl as r S=af (.ok ds S1))(k:R (af (.exc c r S1))):Runs cl (.raise c as::cs) r S R:=by unfold Runs;simp only[cF,Ia,h,dU,AZ];exact k
def Es{t:Tg}{e:E}{c:Str}(h:ak cl e r S=af (.exc c S1))(k:R (af (.exc c r S1))):Runs cl (.asg t e::cs) r S R:=by unfold Runs;simp only[cF,Er,h,fN,AZ];exact k
def Ib{a h:List C}{cs':List Str}{i:Nat}{c:Str}{r1 r2:aC}{S2:bq}(h1:Runs cl a r S λx=>x=af (.exc c r1 S1))(hc:c∈cs')(h2:Runs cl h (r1.set i (af (.B6 c))) S1 λx=>x=af (.next r2 S2))(k:Runs cl cs (r2.set i ah) S2 R):
  Runs cl (.tr a cs' (af i) h::cs) r S R:=by
 unfold Runs at h1 h2 k ⊢;simp only[cF,Ab,h1,if_pos hc,gR,h2,jX,cW];exact k
def Ie{a h:List C}{cs':List Str}{nm:Option Nat}{r1:aC}(h1:Runs cl a r S λx=>x=af (.next r1 S1))(k:Runs cl cs r1 S1 R):Runs cl (.tr a cs' nm h::cs) r S R:=by unfold Runs at h1 k ⊢;simp only[cF,Ab,h1,cW];exact k
def Turn(I:aC->bq->Prop)(B:aC->bq->Prop)(R:Option Fl->Prop):Option Fl->Prop
 |some (.next r S)=>I r S|some (.cont r S)=>I r S|some (.brk r S)=>B r S|some (.ret d S)=>R (af (.ret d S))|some (.exc c r S)=>R (af (.exc c r S))|none=>False
theorem mW{tg:Tg}{a:List C}(I:List D->aC->bq->Prop)(hend:∀r S,I [] r S->Runs cl cs r S R)(hstep:∀d ds r S,I (d::ds) r S->∃r',cz tg d r=af r'/\Runs cl a r' S (Turn (I ds) (λr S=>Runs cl cs r S R) R)):
  ∀ds r S,I ds r S->R (AZ (forLoop (λr S=>eS cl a r S) tg ds r S) λr S=>eS cl cs r S)
 |[],r,S,h=>by have z:=hend r S h;unfold Runs at z;simp only[forLoop,cW];exact z|d::ds,r,S,h=>by
  obtain⟨r',h1,h2⟩:=hstep d ds r S h;unfold Runs at h2;simp only[forLoop,h1];cases q:eS cl a r' S with
  |none=>rw[q]at h2;exact h2.elim|some fl=>
   rw[q]at h2;cases fl with|next r2 S2=>exact mW I hend hstep ds r2 S2 h2|cont r2 S2=>exact mW I hend hstep ds r2 S2 h2|brk r2 S2=>exact h2|ret d2 S2=>exact h2|exc c r2 S2=>exact h2
def vH{tg:Tg}{it:It}{a:List C}{ds:List D}(h:bM cl it r S=af (.ok ds S1))(I:List D->aC->bq->Prop)(h0:I ds r S1)(hend:∀r S,I [] r S->Runs cl cs r S R)(hstep:∀d ds r S,I (d::ds) r S->∃r',cz tg d r=af r'/\Runs cl a r' S (Turn (I ds) (λr S=>Runs cl cs r S R) R)):Runs cl (.fr tg it a::cs) r S R:=by unfold Runs;simp only[cF,R7,h,dU];exact mW I hend hstep ds r S1 h0
def bx{α:Type}{j:Nat}{it:It}{a:List C}(inj:α->D){xs:List α}(h:bM cl it r S=af (.ok (xs.map inj) S1))(I:List α->aC->bq->Prop)(h0:I xs r S1)(hend:∀r S,I [] r S->Runs cl cs r S R)(hstep:∀x ys r S,(∃pre,pre++x::ys=xs)->I (x::ys) r S->Runs cl a (r.set j (af (inj x))) S (Turn (I ys) (λr S=>Runs cl cs r S R) R)):Runs cl (.fr (.name j) it a::cs) r S R:=by
 refine vH h (λds r S=>∃ys pre,ds=ys.map inj/\pre++ys=xs/\I ys r S) ⟨xs,[],rfl,rfl,h0⟩ ?_ ?_
 ·simp_all
 ·rintro d ds r S ⟨ys,pre,e,hp,h⟩;cases ys with
  |nil=>cases e|cons y ys=>
   simp only[U0,List.cons.injEq]at e;obtain⟨rfl,rfl⟩:=e;refine⟨_,rfl,?_⟩;have q:=hstep y ys r S ⟨pre,hp⟩ h;unfold Runs at q ⊢;revert q;generalize eS cl a (r.set j (af (inj y))) S=o;intro q;have hI:∀r2 S2,I ys r2 S2->∃zs pre,ys.map inj=zs.map inj/\pre++zs=xs/\I zs r2 S2:=λr2 S2 z=>⟨ys,pre++ [y],rfl,by simpa using hp,z⟩
   cases o with
   |none=>exact q|some fl=>
    cases fl with|next r2 S2=>exact hI r2 S2 q|cont r2 S2=>exact hI r2 S2 q|brk r2 S2=>exact q|ret d2 S2=>exact q|exc c r2 S2=>exact q
theorem je{f:aC->bq->Ev D}{g:aC->bq->Ev Bool}{P:D->Bool}{F:D->D}{caps:aC}:∀{ds:List D}{o:Option D}{acc:List D},(∀d∈ds,g (af d::caps) S=af (.ok (P d) S)/\(P d=av->f (af d::caps) S=af (.ok (F d) S)))->
  compLoop f g (.name 0) ds (o::caps) S acc=af (.ok (acc++(ds.filter P).map F) S)
 |[],o,acc,h=>by simp[compLoop]|d::ds,o,acc,h=>by
  obtain⟨h1,h2⟩:=h d (by simp);simp only[compLoop,cz,bP,h1,eY,aN];cases e:P d with|true=>simp only[if_true,h2 e,eY,aN];rw[je (P:=P) (F:=F) (λd' hd=>h d' (by simp[hd]))];simp[e]|false=>simp only[Vq,VR];rw[je (P:=P) (F:=F) (λd' hd=>h d' (by simp[hd]))];simp[e]
def vI{f:aC->bq->Ev D}{F:D->D}{caps:aC}{ds:List D}{o:Option D}(h:∀d∈ds,f (af d::caps) S=af (.ok (F d) S)):
  compLoop f (λr S=>bz cl [] r S) (.name 0) ds (o::caps) S []=af (.ok (ds.map F) S):=by
 have q:=je (S:=S) (f:=f) (g:=λr S=>bz cl [] r S) (P:=λ_=>av) (F:=F) (caps:=caps) (ds:=ds) (o:=o) (acc:=[]) (λd hd=>⟨by rfl,λ_=>h d hd⟩);rw[WN.mpr (λ_ _=>rfl)]at q;simpa using q
end
def sz(b:Int):Int:=2^b.toNat
section
variable{cl:Nat->List D->bq->Ev D}{r:aC}{S S1 S2 S3:bq}{d x y z:D}{a b c:E}{ds es:List D}
def aa{i:Nat}(h:r[i]?=af (af d)):ak cl (.var i) r S=af (.ok d S):=by show(match(r[i]?).join with|some d=>fz d S|none=>ah)=_;rw[h];rfl
def aA:ak cl (.cst d) r S=af (.ok d S):=rfl
def fV{o:Operator}(h1:ak cl a r S=af (.ok x S1))(h2:ak cl b r S1=af (.ok y S2))(h3:binop o x y S2=af (.ok z S3)):ak cl (.bin o a b) r S=af (.ok z S3):=by show bnd _ _=_;simp_all
def aM{o:CmpOp}(h1:ak cl a r S=af (.ok x S1))(h2:ak cl b r S1=af (.ok y S2))(h3:kM o x y S2=af (.ok z S3)):ak cl (.cmp o a b) r S=af (.ok z S3):=by show bnd _ _=_;simp_all
def Et{t u:Bool}(h1:ak cl a r S=af (.ok (.bl t) S1))(h2:t=av->ak cl b r S1=af (.ok (.bl u) S1)):ak cl (.and a b) r S=af (.ok (.bl (t && u)) S1):=by
 cases t with|false=>show bnd _ _=_;rw[h1];rfl|true=>show bnd _ _=_;simp_all
def aO{f:Nat}{as:List E}(h1:aG cl as r S=af (.ok ds S1))(h2:cl f ds S1=af (.ok d S2)):ak cl (.call f as) r S=af (.ok d S2):=by show bnd _ _=_;rw[h1];exact h2
def fZ{f:Bi}{as:List E}(h1:aG cl as r S=af (.ok ds S1))(h2:DT f ds S1=af (.ok d S2)):ak cl (.bi f as) r S=af (.ok d S2):=by show bnd _ _=_;rw[h1];exact h2
def bI{as:List E}(h1:aG cl as r S=af (.ok ds S1))(h2:ds.length<=aT):ak cl (.tup as) r S=af (.ok (.tup ds) S1):=by show bnd _ _=_;simp only[h1,aN,E8,if_pos h2,bR]
def j4{as:List E}(h1:aG cl as r S=af (.ok ds S1))(h2:ds.length<=aT):ak cl (.lst av as) r S=af (.ok (.ref S1.length) (S1++ [.lst ds])):=by show bnd _ _=_;simp only[h1,aN,A3,if_pos h2,bR,if_true]
theorem Bc{S:bq}{x:D}{ds:List D}(h:bB S x=af ds):cL S x=none:=by
 cases x with
 |ref k=>
  simp only[bB]at h;simp only[cL];cases e:S[k]? with
  |none=>rfl|some o=>
   cases o with|lst _=>rfl|dct _=>simp_all|x9 _=>simp_all|ins _ _=>rfl
 |_=>rfl
def j5{kvs:List (L2.Key×D)}{k:L2.Key}(h1:ak cl a r S=af (.ok x S1))(h2:ak cl b r S1=af (.ok y S2))(h3:cL S2 x=af kvs)(h4:cX y=af k)(h5:bC kvs k=af d):ak cl (.ix a b) r S=af (.ok d S2):=by show bnd _ _=_;simp only[h1,h2,aN,IQ,h3,h4,h5,bR]
def gw:ak cl .dct r S=af (.ok (.ref S.length) (S++ [.dct []])):=rfl
def aQ{i:Int}(h1:ak cl a r S=af (.ok x S1))(h2:ak cl b r S1=af (.ok (.int i) S2))(h3:bB S2 x=af ds)(h4:L2.BI ds i=af d):ak cl (.ix a b) r S=af (.ok d S2):=by show bnd _ _=_;simp only[h1,h2,aN,IQ,Bc h3,h3,h4,bR]
def Qo{i:Int}(h1:ak cl a r S=af (.ok x S1))(h2:ak cl b r S1=af (.ok (.int i) S2))(h3:slc x (af i) ah S2=af (.ok z S3)):ak cl (.GW a b) r S=af (.ok z S3):=by show bnd _ _=_;rw[h1,aN,h2,aN];exact h3
def vJ{i:Int}(h1:ak cl a r S=af (.ok x S1))(h2:ak cl b r S1=af (.ok (.int i) S2))(h3:slc x ah (af i) S2=af (.ok z S3)):ak cl (.DB a b) r S=af (.ok z S3):=by show bnd _ _=_;rw[h1,aN,h2,aN];exact h3
def dY{elt:E}{tg:Tg}{it:It}{ifs:List T}{n:Nat}{cap:List Nat}(h1:bM cl it r S=af (.ok ds S1))(h2:compLoop (λr S=>ak cl elt r S) (λr S=>bz cl ifs r S) tg ds (fM r n cap) S1 []=af (.ok es S2))(h3:es.length<=aT):ak cl (.comp aS elt tg it ifs n cap) r S=af (.ok (.lst es) S2):=by show bnd _ _=_;simp only[h1,aN,h2,A3,if_pos h3,bR,Vq,VR]
def cJ{it:It}(h1:bM cl it r S=af (.ok ds S1))(h2:ds.length<=aT):ak cl (.col .tuple it) r S=af (.ok (.tup ds) S1):=by show bnd _ _=_;simp only[h1,aN,jN,E8,if_pos h2,bR]
def Ig{it:It}(h1:bM cl it r S=af (.ok ds S1))(h2:ds.length<=aT):ak cl (.col (.list av) it) r S=af (.ok (.ref S1.length) (S1++ [.lst ds])):=by show bnd _ _=_;simp only[h1,aN,jN,A3,if_pos h2,bR,if_true]
def f9{it:It}(h1:bM cl it r S=af (.ok ds S1))(h2:eU ds=af es)(h3:es.length<=aT):ak cl (.col (.sorted aS) it) r S=af (.ok (.lst es) S1):=by show bnd _ _=_;simp only[h1,aN,jN,h2,A3,if_pos h3,bR,Vq,VR]
def mX{c f:Str}{k:Nat}{fs:List (Str×D)}(h1:ak cl a r S=af (.ok (.ref k) S1))(h2:S1[k]?=af (.ins c fs))(h3:fs.lookup f=af d):ak cl (.fld c f a) r S=af (.ok d S1):=by
 have e:cU S1 c (.ref k)=af (k,fs):=by simp[cU,h2]
 show bnd _ _=_;simp only[h1,aN,zJ,e,h3,bR]
def bK{c m:Str}{f k:Nat}{as:List E}{fs:List (Str×D)}{o:Out D}(h1:ak cl a r S=af (.ok (.ref k) S1))(h2:S1[k]?=af (.ins c fs))(h3:fs.lookup m=ah)(h4:aG cl as r S1=af (.ok ds S2))(h5:cl f (.ref k::ds) S2=af o):
  ak cl (.kD c m f a as) r S=af o:=by
 have e:cU S1 c (.ref k)=af (k,fs):=by simp[cU,h2]
 show bnd _ _=_;simp only[h1,aN,e,h4,h5];lia
def Qp{c:Str}{f:Nat}{as:List E}(h1:aG cl as r S=af (.ok ds S1))(h2:cl f (.ref S1.length::ds) (S1++ [.ins c []])=af (.ok .non S2)):ak cl (.new c f as) r S=af (.ok (.ref S1.length) S2):=by show bnd _ _=_;simp_all
def rG{as:List E}{n:Nat}{kvs:List (L2.Key×D)}(h1:ak cl a r S=af (.ok (.ref n) S1))(h2:S1[n]?=af (.dct kvs))(h3:aG cl as r S1=af (.ok ds S2))(h4:jh n ds S2=af (.ok d S3)):
  ak cl (.meth .lI a as) r S=af (.ok d S3):=by
 show bnd _ _=_;simp_all
def rH{mt:Mt}{as:List E}{n:Nat}{ls:List D}(h1:ak cl a r S=af (.ok (.ref n) S1))(h2:S1[n]?=af (.lst ls))(h3:aG cl as r S1=af (.ok ds S2))(h4:jE mt (.ref n) ds S2=af (.ok d S3)):
  ak cl (.meth mt a as) r S=af (.ok d S3):=by
 show bnd _ _=_;simp_all
def Qq{as:List E}(h1:aG cl as r S=af (.ok ds S1))(h2:ds.all iV=av):ak cl (.fmt as) r S=af (.ok .EC S1):=by show bnd _ _=_;simp only[h1,eY,aN,zH,if_pos h2,bR]
def yC{c:Str}{yes no:List Str}(h1:ak cl a r S=af (.ok (.B6 c) S1))(h2:c∈yes):ak cl (.EX a yes no) r S=af (.ok (.bl av) S1):=by show bnd _ _=_;simp only[h1,aN,lr,if_pos h2,bR]
def Lx{c:Str}{yes no:List Str}(h1:ak cl a r S=af (.ok (.B6 c) S1))(h2:c∉yes)(h3:c∈no):ak cl (.EX a yes no) r S=af (.ok (.bl aS) S1):=by show bnd _ _=_;simp only[h1,aN,lr,if_neg h2,if_pos h3,bR]
def az:aG cl [] r S=af (.ok [] S):=rfl
def aj{as:List E}(h1:ak cl a r S=af (.ok d S1))(h2:aG cl as r S1=af (.ok ds S2)):aG cl (a::as) r S=af (.ok (d::ds) S2):=by show bnd _ _=_;simp_all
def rJ:bz cl [] r S=af (.ok av S):=rfl
def iI{t:T}{u:Bool}(h:bu cl t r S=af (.ok u S1)):bz cl [t] r S=af (.ok u S1):=by show bnd _ _=_;rw[h];cases u<;>rfl
def aP{u:Bool}(h1:ak cl a r S=af (.ok x S1))(h2:truth S1 x=af u):bu cl (.val a) r S=af (.ok u S1):=by show bnd _ _=_;simp only[h1,aN,h2,zG,bR]
def Bd{t:T}{u:Bool}(h1:bu cl t r S=af (.ok u S1)):bu cl (.nt t) r S=af (.ok (!u) S1):=by show bnd _ _=_;rw[h1];rfl
def iT{s t:T}{u v:Bool}(h1:bu cl s r S=af (.ok u S1))(h2:u=av->bu cl t r S1=af (.ok v S1)):bu cl (.and s t) r S=af (.ok (u && v) S1):=by
 cases u with|false=>show bnd _ _=_;rw[h1];rfl|true=>show bnd _ _=_;simp_all
def Jp{s t:T}{v:Bool}(h1:bu cl s r S=af (.ok aS S1))(h2:bu cl t r S1=af (.ok v S2)):bu cl (.or s t) r S=af (.ok v S2):=by show bnd _ _=_;simp_all
def cu(h1:ak cl a r S=af (.ok (.tup ds) S1)):bM cl (.seq a) r S=af (.ok ds S1):=by show bnd _ _=_;rw[h1];rfl
def gA(h1:ak cl a r S=af (.ok (.lst ds) S1)):bM cl (.seq a) r S=af (.ok ds S1):=by show bnd _ _=_;rw[h1];rfl
def cZ(h1:ak cl a r S=af (.ok x S1))(h2:bB S1 x=af ds):bM cl (.snap a) r S=af (.ok ds S1):=by show bnd _ _=_;simp_all
def rM(h1:ak cl a r S=af (.ok (.lst ds) S1)):bM cl (.live a) r S=af (.ok ds S1):=by show bnd _ _=_;rw[h1];rfl
def yD{ns:List Int}(h1:ak cl a r S=af (.ok (.tup ds) S1))(h2:bf ds=af ns):bM cl (.live a) r S=af (.ok ds S1):=by show bnd _ _=_;simp_all
def yE{k:Nat}{kvs:List (L2.Key×D)}(h1:ak cl a r S=af (.ok (.ref k) S1))(h2:S1[k]?=af (.dct kvs)):bM cl (.live a) r S=af (.ok (kvs.map λp=>sQ p.1) S1):=by show bnd _ _=_;simp_all
def yF{k:Nat}(h1:ak cl a r S=af (.ok (.ref k) S1))(h2:S1[k]?=af (.lst ds)):bM cl (.live a) r S=af (.ok ds S1):=by show bnd _ _=_;simp_all
def pJ{j:Int}(h1:ak cl a r S=af (.ok (.int j) S1))(h2: -4611686018427387904<=j/\j<4611686018427387904):bM cl (.lP a) r S=af (.ok (cA 0 j) S1):=by have h2': -(2^62)<=j/\j<2^62:=h2;show bnd _ _=_;simp_all
def Eu(h1:ak cl a r S=af (.ok (.tup ds) S1)):bM cl (.A9 a) r S=af (.ok (ji ds) S1):=by show bnd _ _=_;rw[h1];rfl
def Be{i j:Int}:binop .Add (.int i) (.int j) S=af (.ok (.int (i+j)) S):=rfl
def Jq{i j:Int}:binop .Sub (.int i) (.int j) S=af (.ok (.int (i - j)) S):=rfl
def vK{i j:Int}(h: -18446744073709551616<j/\j<18446744073709551616):binop .Mult (.int i) (.int j) S=af (.ok (.int (i*j)) S):=if_pos (.inr h)
def Qs{i j:Int}(h: -18446744073709551616<i/\i<18446744073709551616):binop .Mult (.int i) (.int j) S=af (.ok (.int (i*j)) S):=if_pos (.inl h)
def Jr{i j:Int}(h:0<j):binop .Mod (.int i) (.int j) S=af (.ok (.int (i % j)) S):=if_pos h
def Ew{i j:Int}(h:0<j/\j<1073741824):binop .FloorDiv (.int i) (.int j) S=af (.ok (.int (i/j)) S):=if_pos h
def vL{j:Int}(h:0<=j/\j<=1000000):binop .LShift (.int 1) (.int j) S=af (.ok (.int (sz j)) S):=by unfold sz;have q:binop .LShift (.int 1) (.int j) S=af (.ok (.int (1*2^j.toNat)) S):=if_pos ⟨h.1,h.2,by decide⟩;lia
def vM{xs ys:List D}(h1:xs≠ [])(h2:xs.length+ys.length<=aT):binop .Add (.tup xs) (.tup ys) S=af (.ok (.tup (xs++ys)) S):=by
 show(if xs.isEmpty=av then fz (D.tup ys) S else if xs.length+ys.length<=aT then fz (D.tup (xs++ys)) S else ah)=_
 simp_all
def yG{i:Int}:zD (.int i)=af (.int i):=rfl
def rN{ds:List D}:zD (.tup ds)=(zD.ya ds).map .tuple:=rfl
def yH{ds:List D}:zD (.lst ds)=(zD.ya ds).map .list:=rfl
def Ey{d:D}{ds:List D}:zD.ya (d::ds)=(match zD d,zD.ya ds with|some p,af ps=>af (p::ps)|_,_=>ah):=rfl
def Ly{i j:Int}:BC S (.int i) (.int j)=af (decide (i=j)):=by rfl
def jk{i j:Int}:kM .Eq (.int i) (.int j) S=af (.ok (.bl (decide (i=j))) S):=by rfl
def R8{i j:Int}:kM .NotEq (.int i) (.int j) S=af (.ok (.bl (decide (i≠j))) S):=by show D4 (BC S (.int i) (.int j)) (λr=>!r) S=_;rw[Ly];simp[D4]
def pK{u:Bool}(h:BC S x y=af u):kM .Eq x y S=af (.ok (.bl u) S):=by show D4 (BC S x y) (λr=>r) S=_;rw[h];rfl
def Ih{u:Bool}(h:BC S x y=af u):kM .NotEq x y S=af (.ok (.bl (!u)) S):=by show D4 (BC S x y) (λr=>!r) S=_;rw[h];rfl
def Bf{u:Bool}(h:inD S x y=af u):kM .In x y S=af (.ok (.bl u) S):=by show D4 (inD S x y) (λr=>r) S=_;rw[h];rfl
def gZ{u:Bool}(h:inD S x y=af u):kM .NotIn x y S=af (.ok (.bl (!u)) S):=by show D4 (inD S x y) (λr=>!r) S=_;rw[h];rfl
def Bg{i j:Int}:kM .Lt (.int i) (.int j) S=af (.ok (.bl (decide (i<j))) S):=rfl
def Ii{i j:Int}:kM .Gt (.int i) (.int j) S=af (.ok (.bl (decide (j<i))) S):=rfl
def Ul{i j:Int}:kM .GtE (.int i) (.int j) S=af (.ok (.bl (decide (j<=i))) S):=rfl
def R9{kvs:List (L2.Key×D)}{k:L2.Key}(h1:cL S y=af kvs)(h2:cX x=af k):kM .In x y S=af (.ok (.bl (bC kvs k).isSome) S):=Bf (by simp only[inD,h1,h2,Ws])
def Ez{kvs:List (L2.Key×D)}{k:L2.Key}(h1:cL S y=af kvs)(h2:cX x=af k):kM .NotIn x y S=af (.ok (.bl (!(bC kvs k).isSome)) S):=gZ (by simp only[inD,h1,h2,Ws])
def jf(h:bB S x=af ds):DT .len [x] S=af (.ok (.int ds.length) S):=by show p8 x S=_;unfold p8;rw[h];rfl
def EY{i j:Int}:DT .min [.int i,.int j] S=af (.ok (.int (if j<i then j else i)) S):=rfl
def Qt{i j:Int}:DT .max [.int i,.int j] S=af (.ok (.int (if j>i then j else i)) S):=rfl
def CA{α:Type}{a:α}{l:List α}:L2.BI (a::l) 0=af a:=by simp only[L2.BI,L2.C9];simp
def AE{α:Type}{a b:α}{l:List α}:L2.BI (a::b::l) 1=af b:=by
 have h:(1:Int)<((a::b::l).length:Int):=by simp only[U5];lia
 simp only[L2.BI,L2.C9,if_pos h];simp
def NH{α:Type}{l:List α}{i:Int}{a:α}(h0:0<=i)(h:l[i.toNat]?=af a):L2.BI l i=af a:=by have hl:=(UL.mp h).1;simp only[L2.BI,L2.C9,if_pos h0,if_pos (show i<(l.length:Int) by lia),n5];exact h
def Bh{i j:Int}:(cA i j).length=(j - i).toNat:=by simp[cA]
def jJ{n:Int}:cA 0 n=(dc n.toNat).map λ(i:Nat)=>D.int (i:Int):=by simp[cA]
def Sd{lo hi:Option Int}:slc (.tup ds) lo hi S=af (.ok (.tup (cutD ds lo hi)) S):=rfl
def Bj{lo hi:Option Int}:slc (.lst ds) lo hi S=af (.ok (.lst (cutD ds lo hi)) S):=rfl
def aW:bB S (.tup ds)=af ds:=rfl
def iJ:bB S (.lst ds)=af ds:=rfl
def Bk{ns:List Int}:bB S (.AN ns)=af (ns.map .int):=rfl
def aZ{u:Bool}:truth S (.bl u)=af u:=rfl
def Qu:truth S (.lst ds)=af (!ds.isEmpty):=rfl
def Ij(ns:List Int)(lo hi:Option Int):∃ms:List Int,cutD (ns.map D.int) lo hi=ms.map D.int/\ms.length<=ns.length:=by
 refine⟨(ns.drop (HT.kN ns.length 0 lo)).take (HT.kN ns.length ns.length hi - HT.kN ns.length 0 lo),?_,?_⟩
 ·simp only[cutD,UG,List.map_take,List.map_drop]
 ·simp only[Wl,W9];lia
end
end RV
local macro_rules| `(tactic|array_get_dec)=> `(tactic|first|((with_reducible apply RV.aa);rfl)|with_reducible exact RV.aA|with_reducible exact RV.az|with_reducible exact RV.rJ|with_reducible apply RV.aj|with_reducible apply RV.fV|with_reducible apply RV.aM|with_reducible apply RV.aO|with_reducible apply RV.aQ|with_reducible apply RV.bI|with_reducible apply RV.fZ|with_reducible apply RV.aP|with_reducible apply RV.iT|with_reducible apply RV.Bd|with_reducible apply RV.Et|with_reducible apply RV.j4|with_reducible apply RV.Qo|with_reducible apply RV.vJ|with_reducible apply RV.cJ|with_reducible apply RV.Ig|with_reducible apply RV.f9|with_reducible apply RV.iI|with_reducible apply RV.pJ|with_reducible apply RV.Eu|with_reducible apply RV.cZ|with_reducible apply RV.Jr|with_reducible apply RV.vM|with_reducible apply RV.Ew|with_reducible apply RV.vL|with_reducible apply RV.jf|with_reducible exact RV.Be|with_reducible exact RV.Jq|with_reducible exact RV.jk|with_reducible exact RV.R8|with_reducible exact RV.Bg|with_reducible exact RV.Ii|with_reducible exact RV.Ul|with_reducible exact RV.EY|with_reducible exact RV.Qt|with_reducible exact RV.CA|with_reducible exact RV.AE|with_reducible exact RV.Sd|with_reducible exact RV.Bj|with_reducible exact List.cons_ne_nil _ _|with_reducible exact RV.aW|with_reducible exact RV.iJ|with_reducible exact RV.Bk|with_reducible exact RV.aZ|with_reducible exact RV.Qu|with_reducible rfl|assumption|lia|(simp only[List.length_map,List.length_cons,List.length_nil,List.length_range,List.length_append,RV.Bh,PySem.sizeLine];lia)|intro _)
namespace RV
open PySem RK
abbrev Cl:=Nat->List D->bq->Ev D
abbrev aq(ns:List Int):List D:=ns.map D.int
structure zd(b:Int)(hs:List Int):Prop where
 b2:2<=b
 b7:b<=7
 ne:hs≠ []
 up:hs.Pairwise (·<·)
 A8:∀h∈hs,0<=h/\h<sz b
abbrev au(b:Int)(hs:List Int):D:= .tup [.int b,.tup (aq hs)]
def EM{b:Int}(h2:2<=b)(h7:b<=7):(b=2/\sz b=4)\/(b=3/\sz b=8)\/(b=4/\sz b=16)\/(b=5/\sz b=32)\/(b=6/\sz b=64)\/(b=7/\sz b=128):=by
 have:b=2\/b=3\/b=4\/b=5\/b=6\/b=7:=by lia
 rcases this with rfl|rfl|rfl|rfl|rfl|rfl<;>decide
def qF{b:Int}(h2:2<=b)(h7:b<=7):4<=sz b/\sz b<=128:=by rcases EM h2 h7 with h|h|h|h|h|h<;>lia
def j6:List C:=
 [C.asg (Tg.name 1) (E.cst (D.int 1)),
  C.fr
   (Tg.name 2)
   (It.lP (E.var 0))
   [C.asg (Tg.name 1) (E.bin (Operator.Mult) (E.var 1) (E.cst (D.int 2)))],
  C.ret (E.var 1)]
def pL{cl:Cl}{S:bq}{n:Int}(h0:0<=n)(h1:n<=64):Runs cl j6 [af (.int n),ah,ah] S (dX (.int (sz n)) S):=by
 unfold j6;refine aD (by(repeat' (first|array_get_dec))) rfl ?_;refine bx (α:=Nat) (λ(i:Nat)=>D.int (i:Int)) (xs:=dc n.toNat) (by rw[←jJ];(repeat' (first|array_get_dec))) (λys r S'=>S'=S/\ys.length<=n.toNat/\∃v,r=[af (.int n),af (.int (2^(n.toNat - ys.length))),v]) ⟨rfl,by simp,ah,by simp⟩ ?_ ?_
 ·rintro r S' ⟨rfl,_,v,rfl⟩;exact aH (by(repeat' (first|array_get_dec))) (by simp[dX,sz])
 ·rintro x ys r S' _ ⟨rfl,hl,v,rfl⟩;refine aD (by(repeat' (first|with_reducible apply vK|array_get_dec))) rfl (aJ ?_);simp only[U5]at hl;refine⟨rfl,by lia,af (.int x),?_⟩;have e:n.toNat - ys.length=(n.toNat - (ys.length+1))+1:=by lia
  simp only[U5,bP];rw[e,Int.pow_succ]
def lN(pow:Nat):List C:=[C.ret (E.call pow [E.ix (E.var 0) (E.cst (D.int 0))])]
def qG{cl:Cl}{S:bq}{pow:Nat}{b:Int}{h:D}(hp:∀n,0<=n->n<=64->cl pow [.int n] S=af (.ok (.int (sz n)) S))(h0:0<=b)(h1:b<=64):Runs cl (lN pow) [af (.tup [.int b,h])] S (dX (.int (sz b)) S):=by unfold lN;exact aH (by(repeat' (first|with_reducible apply hp|array_get_dec))) rfl
def tD:List C:=
 [C.ret
   (E.bin
    (Operator.Mod)
    (E.bin
     (Operator.Mod)
     (E.bin (Operator.Mult) (E.var 0) (E.cst (D.int 48271)))
     (E.var 1))
    (E.var 2))]
abbrev mix(c p m:Int):Int:=c*48271 % p % m
def g8{c p m:Int}(h:0<m):0<=mix c p m/\mix c p m<m:=⟨qh _ (by lia),ly _ h⟩
def wV{cl:Cl}{S:bq}{c p m:Int}(hp:0<p)(hm:0<m):Runs cl tD [af (.int c),af (.int p),af (.int m)] S (dX (.int (mix c p m)) S):=by unfold tD;exact aH (by(repeat' (first|with_reducible apply vK|array_get_dec))) rfl
def lG(mix:Nat):List C:=
 [C.asg
   (Tg.name 2)
   (E.bin
    (Operator.Add)
    (E.cst (D.int 2))
    (E.call mix [E.var 0,E.cst (D.int 9973),E.cst (D.int 6)])),
  C.asg (Tg.name 3) (E.bin (Operator.LShift) (E.cst (D.int 1)) (E.var 2)),
  C.asg
   (Tg.name 4)
   (E.bin
    (Operator.Add)
    (E.cst (D.int 1))
    (E.call mix [E.var 0,E.cst (D.int 9967),E.bi (Bi.min) [E.var 1,E.var 3]])),
  C.asg (Tg.name 5) (E.col (AU.list av) (It.lP (E.var 3))),
  C.asg
   (Tg.name 6)
   (E.comp
    aS
    (E.meth
     (Mt.lI)
     (E.var 2)
     [E.call
      mix
      [E.bin
        (Operator.Add)
        (E.var 1)
        (E.bin (Operator.Mult) (E.cst (D.int 7)) (E.var 0)),
       E.cst (D.int 9949),
       E.bin (Operator.Sub) (E.var 3) (E.var 0)]])
    (Tg.name 0)
    (It.lP (E.var 4))
    []
    1
    [0,5,3]),
  C.cond
   (T.val
    (E.cmp
     (CmpOp.Eq)
     (E.bin (Operator.Mod) (E.var 0) (E.cst (D.int 5)))
     (E.cst (D.int 0))))
   [C.asg (Tg.name 7) (E.call mix [E.var 0,E.cst (D.int 9941),E.var 3]),
   C.asg
    (Tg.name 6)
    (E.comp
     aS
     (E.bin (Operator.Mod) (E.bin (Operator.Add) (E.var 1) (E.var 0)) (E.var 2))
     (Tg.name 0)
     (It.lP (E.var 4))
     []
     1
     [7,3])]
   [],
  C.ret
   (E.tup
    [E.var 2,E.col (AU.tuple) (It.snap (E.col (AU.sorted aS) (It.live (E.var 6))))])]
theorem insI_perm(x:Int):∀l:List Int,(insI x l).Perm (x::l)
 |[]=> .refl _|y::r=>by
  unfold insI;by_cases h:x<=y
  ·rw[if_pos h]
  ·rw[if_neg h];exact((insI_perm x r).cons y).trans (.swap ..)
theorem sortI_perm:∀l:List Int,(sortI l).Perm l
 |[]=> .refl _|x::r=>(insI_perm x _).trans ((sortI_perm r).cons x)
theorem yI(x:Int):∀l:List Int,l.Pairwise (·<=·)->(insI x l).Pairwise (·<=·)
 |[],_=>by simp[insI]|y::r,h=>by
  unfold insI;have h':=Vd.mp h;by_cases hx:x<=y
  ·rw[if_pos hx];refine Vd.mpr ⟨λz hz=>?_,h⟩;rcases UJ.mp hz with rfl|hz
   ·exact hx
   ·exact zv hx (h'.1 z hz)
  ·rw[if_neg hx];refine Vd.mpr ⟨λz hz=>?_,yI x r h'.2⟩;have:=(insI_perm x r).mem_iff.mp hz;rcases UJ.mp this with rfl|hz
   ·lia
   ·exact h'.1 z hz
theorem vO:∀l:List Int,(sortI l).Pairwise (·<=·)
 |[]=>by simp[sortI]|x::r=>yI x _ (vO r)
theorem j7:∀{l:List Int},l.Pairwise (·<=·)->l.Nodup->l.Pairwise (·<·)
 |[],_,_=> .nil|x::r,h,n=>by have h':=Vd.mp h;have n':=Wf.mp n;refine Vd.mpr ⟨λz hz=>?_,j7 h'.2 n'.2⟩;have h1:=h'.1 z hz;have h2:x≠z:=λe=>n'.1 (e▸hz);lia
def jA{l:List Int}(h:l.Nodup):(sortI l).Pairwise (·<·):=j7 (vO l) ((sortI_perm l).nodup_iff.mpr h)
theorem ig:∀(ns:List Int),bf (aq ns)=af ns
 |[]=>rfl|n::r=>by show(bf (aq r)).map (n::·)=_;rw[ig r];rfl
def gb{ns:List Int}(h:ns.length<64):eU (aq ns)=af (aq (sortI ns)):=by
 unfold eU;rw[ig]
 simp_all
theorem tE{α β:Type}(f:α->β):∀(l:List α)(j:Nat),(l.map f).eraseIdx j=(l.eraseIdx j).map f
 |[],j=>by simp|x::r,0=>by simp|x::r,j+1=>by simp[tE f r j]
theorem qH{α:Type}:∀(l:List α)(j:Nat)(h:j<l.length),(l[j]::l.eraseIdx j).Perm l
 |[],j,h=>by simp at h|x::r,0,h=>by simp|x::r,j+1,h=>by
  have h':j<r.length:=by simpa using h
  simp only[nB,List.eraseIdx_cons_succ];exact(xB ..).trans ((qH r j h').cons x)
theorem tG{cl:Cl}{mx:Nat}{c size:Int}{k0:Nat}{S0:bq}(hm:∀c p m S,0<p->0<m->cl mx [.int c,.int p,.int m] S=af (.ok (.int (mix c p m)) S)):
  ∀(many done:Nat)(left acc:List Int)(o:Option D),(left.length:Int)=size - done->many+done<=size.toNat->(left++acc).Nodup->(∀x∈left++acc,0<=x/\x<size)->
   ∃left' acc',compLoop (λr S=>ak cl (E.meth (Mt.lI) (E.var 2) [E.call mx [E.bin (Operator.Add) (E.var 1) (E.bin (Operator.Mult) (E.cst (D.int 7)) (E.var 0)),E.cst (D.int 9949),E.bin (Operator.Sub) (E.var 3) (E.var 0)]]) r S)
    (λr S=>bz cl [] r S) (.name 0) ((rq done many).map λ(i:Nat)=>D.int (i:Int)) (o::[af (.int c),af (.ref S0.length),af (.int size)]) (S0++ [.lst (aq left)]) (aq acc)
     =af (.ok (aq acc') (S0++ [.lst (aq left')]))/\acc'.length=acc.length+many/\acc'.Nodup/\∀x∈acc',0<=x/\x<size
 |0,done,left,acc,o,hl,hd,hn,hr=>by refine⟨left,acc,by rfl,by simp,(Vx.mp hn).2.1,λx hx=>hr x (by simp[hx])⟩|many+1,done,left,acc,o,hl,hd,hn,hr=>by
  have hlt:=g8 (c:=c+7*(done:Int)) (p:=9949) (m:=size - done) (by lia);have hj:(mix (c+7*(done:Int)) 9949 (size - done)).toNat<left.length:=by lia
  have hat:L2.C9 (aq left).length (mix (c+7*(done:Int)) 9949 (size - done))=af (mix (c+7*(done:Int)) 9949 (size - done)).toNat:=by unfold L2.C9;rw[if_pos hlt.1,if_pos (by simp;lia)]
  generalize hj':(mix (c+7*(done:Int)) 9949 (size - done)).toNat=j at hj hat;have hget:(aq left)[j]?=af (.int left[j]):=by simp[hj]
  have ev:ak cl (E.meth (Mt.lI) (E.var 2) [E.call mx [E.bin (Operator.Add) (E.var 1) (E.bin (Operator.Mult) (E.cst (D.int 7)) (E.var 0)),E.cst (D.int 9949),E.bin (Operator.Sub) (E.var 3) (E.var 0)]])
    (af (.int (done:Int))::[af (.int c),af (.ref S0.length),af (.int size)]) (S0++ [.lst (aq left)])=af (.ok (.int left[j]) (S0++ [.lst (aq (left.eraseIdx j))])):=by
   refine rH (S1:=S0++ [.lst (aq left)]) (S2:=S0++ [.lst (aq left)]) (n:=S0.length) (ls:=aq left) (ds:=[.int (mix (c+7*(done:Int)) 9949 (size - done))]) (aa rfl) (by simp) ?_ ?_
   ·(repeat' (first|with_reducible apply Qs|with_reducible apply hm|array_get_dec))
   ·simp only[jE,F7,uz,dN];rw[Vl (by simp)];simp only[Vz,List.getElem?_cons_zero,hat,hget,bR];congr 2;rw[Xq _ _ (by simp)];simp[tE]
  have hperm:(left.eraseIdx j++(acc++ [left[j]])).Perm (left++acc):=by
   have h1:(left[j]::left.eraseIdx j).Perm left:=qH left j hj;have h2:(left.eraseIdx j++(acc++ [left[j]])).Perm (left.eraseIdx j++([left[j]]++acc)):=i7 _ WW;refine h2.trans ?_;have h3:(left.eraseIdx j++([left[j]]++acc)).Perm ((left[j]::left.eraseIdx j)++acc):=by rw[←WY];exact nE _ WW
   exact h3.trans (nE _ h1)
  obtain⟨left',acc',h1,h2,h3,h4⟩:=tG (c:=c) (S0:=S0) (k0:=k0) hm many (done+1) (left.eraseIdx j) (acc++ [left[j]]) (af (.int (done:Int))) (by rw[List.length_eraseIdx];rw[if_pos hj];lia) (by lia)
   (hperm.nodup_iff.mpr hn) (λx hx=>hr x (hperm.mem_iff.mp hx))
  refine⟨left',acc',?_,by simp at h2;lia,h3,h4⟩;rw[List.range'_succ,U0];simp only[compLoop,cz,List.set_cons_zero,rJ,eY,aN,if_true,ev];rw[show aq acc++ [D.int left[j]]=aq (acc++ [left[j]]) by simp];exact h1
def vP{cl:Cl}{S':bq}{c most b many:Int}{l:Nat}(b2:2<=b)(b7:b<=7)(m1:1<=many)(m2:many<=most)(h12:most<=12)(hs:List Int)(v:Option D)(hl:hs.length=many.toNat)(hn:hs.Nodup)(hr:∀x∈hs,0<=x/\x<sz b):
  zd b (sortI hs)/\((sortI hs).length:Int)<=most/\Runs cl [C.ret (E.tup [E.var 2,E.col (AU.tuple) (It.snap (E.col (AU.sorted aS) (It.live (E.var 6))))])]
   [af (.int c),af (.int most),af (.int b),af (.int (sz b)),af (.int many),af (.ref l),af (.lst (aq hs)),v] S' (dX (au b (sortI hs)) S'):=by
 have pl:=(sortI_perm hs).length_eq;refine⟨⟨b2,b7,λe=>?_,jA hn,λh hh=>hr h ((sortI_perm hs).mem_iff.mp hh)⟩,by lia,?_⟩
 ·rw[e]at pl;simp only[Vj]at pl;lia
 ·have h64:hs.length<64:=by lia
  have hz:(sortI hs).length<=sizeLine:=by simp only[aT];lia
  clear hl hn hr m1 m2 h12 b2 b7;refine aH ?_ rfl
  (repeat' (first|with_reducible apply rM|with_reducible apply(gb h64)|array_get_dec))
def wW{low s:Int}{n:Nat}(hn:(n:Int)<=s):((dc n).map λ(i:Nat)=>(low+(i:Int)) % s).Nodup:=by
 rw[AH,VG];refine kX (R:=(·≠·)) ?_ nX;intro i j hi hj hij he;have h1:=W8.mp hi;have h2:=W8.mp hj;have h3:((low+(i:Int)) - (low+(j:Int))) % s=0:=by rw[Int.sub_emod,he];simp
 have h4:=Int.dvd_of_emod_eq_zero h3;have h5:=Int.eq_zero_of_dvd_of_natAbs_lt_natAbs h4 (by lia);lia
def vQ{cl:Cl}{S:bq}{mx:Nat}{c most:Int}(hm:∀c p m S,0<p->0<m->cl mx [.int c,.int p,.int m] S=af (.ok (.int (mix c p m)) S))(h1:1<=most)(h12:most<=12):
  ∃b hs S',zd b hs/\(hs.length:Int)<=most/\Runs cl (lG mx) ([af (.int c),af (.int most),ah,ah,ah,ah,ah,ah]) S (dX (au b hs) S')/\S'.take S.length=S:=by
 have hb:=g8 (c:=c) (p:=9973) (m:=6) (by lia);obtain⟨b,eb⟩:∃b,b=2+mix c 9973 6:=⟨_,rfl⟩
 have hs:=qF (b:=b) (by lia) (by lia);obtain⟨mm,Pp⟩:∃mm,mm=if sz b<most then sz b else most:=⟨_,rfl⟩
 have hmm:1<=mm/\mm<=most/\mm<=sz b:=by split at Pp<;>lia
 have hmn:=g8 (c:=c) (p:=9967) (m:=mm) (by lia);obtain⟨many,em⟩:∃many,many=1+mix c 9967 mm:=⟨_,rfl⟩
 have rl:(dc (sz b).toNat).map (λ(i:Nat)=>D.int (i:Int))=aq ((dc (sz b).toNat).map λ(i:Nat)=>(i:Int)):=by simp
 have rm:cA 0 many=(rq 0 many.toNat).map (λ(i:Nat)=>D.int (i:Int)):=by rw[jJ,p9]
 obtain⟨left',acc',p1,p2,p3,p4⟩:=tG (cl:=cl) (mx:=mx) (c:=c) (size:=sz b) (k0:=0) (S0:=S) hm many.toNat 0 ((dc (sz b).toNat).map λ(i:Nat)=>(i:Int)) [] ah (by simp;lia) (by lia)
  (by simp only[UT];exact List.Pairwise.map _ (λa b (h:a≠b)=>by lia) nX) (by simp)
 have hb2:2<=b:=by lia
 have WS:b<=7:=by lia
 have hm1:1<=many:=by lia
 have hm2:many<=most:=by lia
 have fin:∀(hs:List Int)(v:Option D),hs.length=many.toNat->hs.Nodup->(∀x∈hs,0<=x/\x<sz b)->zd b (sortI hs)/\((sortI hs).length:Int)<=most/\Runs cl [C.ret (E.tup [E.var 2,E.col (AU.tuple) (It.snap (E.col (AU.sorted aS) (It.live (E.var 6))))])]
   [af (.int c),af (.int most),af (.int b),af (.int (sz b)),af (.int many),af (.ref S.length),af (.lst (aq hs)),v] (S++ [.lst (aq left')]) (dX (au b (sortI hs)) (S++ [.lst (aq left')])):=by
  exact λhs v hl hn hr=>vP hb2 WS hm1 hm2 h12 hs v hl hn hr
 have e1:(S++ [SO.lst (aq left')]).take S.length=S:=by simp
 have pre:∀R,Runs cl [C.cond (T.val (E.cmp (CmpOp.Eq) (E.bin (Operator.Mod) (E.var 0) (E.cst (D.int 5))) (E.cst (D.int 0))))
   [C.asg (Tg.name 7) (E.call mx [E.var 0,E.cst (D.int 9941),E.var 3]),C.asg (Tg.name 6) (E.comp aS (E.bin (Operator.Mod) (E.bin (Operator.Add) (E.var 1) (E.var 0)) (E.var 2)) (Tg.name 0) (It.lP (E.var 4)) [] 1 [7,3])] [],
   C.ret (E.tup [E.var 2,E.col (AU.tuple) (It.snap (E.col (AU.sorted aS) (It.live (E.var 6))))])]
   [af (.int c),af (.int most),af (.int b),af (.int (sz b)),af (.int many),af (.ref S.length),af (.lst (aq acc')),ah] (S++ [.lst (aq left')]) R->
   Runs cl (lG mx) ([af (.int c),af (.int most),ah,ah,ah,ah,ah,ah]) S R:=by
  intro R k;unfold lG;refine aD (by(repeat' (first|with_reducible apply hm|array_get_dec))) rfl ?_;rw[←eb];refine aD (by(repeat' (first|array_get_dec))) rfl ?_;have hx:0<(if sz b<most then sz b else most):=by rw[←Pp];lia
  refine aD (by(repeat' (first|with_reducible apply hm|array_get_dec))) rfl ?_;rw[←Pp,←em];refine aD (by(repeat' (first|array_get_dec))) rfl ?_;rw[jJ,rl];refine aD (dY (pJ (aa rfl) (by lia)) (by rw[rm];exact p1) (by simp at p2;simp[aT];lia)) rfl ?_;exact k
 by_cases h5:c % 5=0
 ·obtain⟨low,el⟩:∃low,low=mix c 9941 (sz b):=⟨_,rfl⟩
  have hlow:=g8 (c:=c) (p:=9941) (m:=sz b) (by lia);obtain⟨f1,f2,f3⟩:=fin ((dc many.toNat).map λ(i:Nat)=>(low+(i:Int)) % sz b) (af (.int low)) (by simp)
   (wW (by lia)) (by
    intro x hx;obtain⟨i,_,rfl⟩:=Va.mp hx;exact⟨qh _ (by lia),ly _ (by lia)⟩)
  refine⟨b,_,_,f1,f2,pre _ ?_,e1⟩;refine cH (by(repeat' (first|array_get_dec))) (λ_=>?_) (λh=>absurd h (by simp[h5]));refine aD (by(repeat' (first|with_reducible apply hm|array_get_dec))) rfl ?_;rw[←el];refine aD (dY (pJ (aa rfl) (by lia)) (by
   rw[jJ];refine vI (F:=λd=>match d with|.int i=> .int ((low+i) % sz b)|d=>d) ?_;intro d hd;obtain⟨i,_,rfl⟩:=Va.mp hd
   (repeat' (first|array_get_dec))) (by simp[aT];lia)) rfl ?_
  simp only[WL]at f3;simp only[WL];exact f3
 ·obtain⟨f1,f2,f3⟩:=fin acc' ah (by simpa using p2) p3 p4;refine⟨b,_,_,f1,f2,pre _ ?_,e1⟩;refine cH (by(repeat' (first|array_get_dec))) (λh=>absurd h (by simp[h5])) (λ_=>?_);exact f3
def bD(hs:List Int)(x:Int):List Int:=hs.dropWhile (λh=>decide (h<x))++hs.takeWhile (λh=>decide (h<x))
def dG(hs:List Int)(x:Int):(bD hs x).Perm hs:=by unfold bD;refine WW.trans (pV ?_);simp
def jB(hs:List Int)(x:Int):(bD hs x).length=hs.length:=(dG hs x).length_eq
def Lz{hs:List Int}(h:hs≠ [])(x:Int):bD hs x≠ []:=λe=>h (Xd.mp (by rw[←jB hs x,e];rfl))
def cN(x:Int):Int->List Int->Int
 |_,[]=>0|k,h::t=>if h>=x then k else cN x (k+1) t
theorem place_spec(x:Int):∀(hs:List Int)(k:Int),(hs.dropWhile (λh=>decide (h<x))=[]/\cN x k hs=0)\/(hs.dropWhile (λh=>decide (h<x))≠ []/\cN x k hs=k+((hs.takeWhile (λh=>decide (h<x))).length:Int))
 |[],k=> .inl ⟨rfl,rfl⟩|h::t,k=>by
  by_cases hx:h<x
  ·have e1:(h::t).dropWhile (λh=>decide (h<x))=t.dropWhile (λh=>decide (h<x)):=by simp[hx]
   have e2:(h::t).takeWhile (λh=>decide (h<x))=h::t.takeWhile (λh=>decide (h<x)):=by simp[hx]
   have e3:cN x k (h::t)=cN x (k+1) t:=by show(if h>=x then k else cN x (k+1) t)=_;rw[if_neg (by lia)]
   rw[e1,e2,e3];rcases place_spec x t (k+1)with⟨h1,h2⟩|⟨h1,h2⟩
   ·exact .inl ⟨h1,h2⟩
   ·refine .inr ⟨h1,?_⟩;rw[h2,U5];lia
  ·right;have e1:(h::t).dropWhile (λh=>decide (h<x))=h::t:=by simp[hx]
   have e2:(h::t).takeWhile (λh=>decide (h<x))=[]:=by simp[hx]
   rw[e1,e2];refine⟨by simp,?_⟩;unfold cN
   simp_all
abbrev place(hs:List Int)(x:Int):Int:=cN x 0 hs
def Fb{hs:List Int}(hne:hs≠ [])(x:Int):0<=place hs x/\place hs x<hs.length/\hs.drop (place hs x).toNat++hs.take (place hs x).toNat=bD hs x:=by
 have hl:0<hs.length:=List.length_pos_iff.mpr hne;have hs':hs.takeWhile (λh=>decide (h<x))++hs.dropWhile (λh=>decide (h<x))=hs:=List.takeWhile_append_dropWhile;have hlen:(hs.takeWhile (λh=>decide (h<x))).length+(hs.dropWhile (λh=>decide (h<x))).length=hs.length:=by rw[←Vh,hs']
 rcases place_spec x hs 0 with⟨h1,h2⟩|⟨h1,h2⟩
 ·refine⟨by unfold place;lia,by unfold place;lia,?_⟩;unfold place bD
  simp_all
 ·have h3:0<(hs.dropWhile (λh=>decide (h<x))).length:=List.length_pos_iff.mpr h1;unfold place bD;rw[h2];refine⟨by lia,by lia,?_⟩;have e:(0+((hs.takeWhile (λh=>decide (h<x))).length:Int)).toNat=(hs.takeWhile (λh=>decide (h<x))).length:=by lia
  grind
def Ik{α:List D}{k:Int}(h0:0<=k)(h1:k<=α.length):cutD α (af k) ah=α.drop k.toNat:=by
 have e:HT.kN α.length 0 (af k)=k.toNat:=by unfold HT.kN;simp only[if_neg (show ¬k<0 by lia)];lia
 unfold cutD;rw[e,HT.ul];exact V7 (by simp)
def qI{α:List D}{k:Int}(h0:0<=k):cutD α ah (af k)=α.take k.toNat:=by
 have e:HT.kN α.length α.length (af k)=min k.toNat α.length:=by unfold HT.kN;simp only[if_neg (show ¬k<0 by lia)]
 unfold cutD;rw[e,HT.ul,rj,zl,←xD];simp
def mY(DL:Nat):List C:=
 [C.asg (Tg.name 2) (E.bin (Operator.Mod) (E.var 1) (E.call DL [E.var 0])),
  C.fr
   (Tg.tup [Tg.name 3,Tg.name 4])
   (It.A9 (E.ix (E.var 0) (E.cst (D.int 1))))
   [C.cond (T.val (E.cmp (CmpOp.GtE) (E.var 4) (E.var 2))) [C.ret (E.var 3)] []],
  C.ret (E.cst (D.int 0))]
def Fd{d:D}{ds:List D}{k:Nat}:(((d::ds).zipIdx k).map λp=>D.tup [.int p.2,p.1])= .tup [.int k,d]::((ds.zipIdx (k+1)).map λp=>D.tup [.int p.2,p.1]):=by rfl
section
variable{cl:Cl}{S:bq}{b key:Int}{hs:List Int}{sp pl:Nat}
def rO(hp:cl sp [au b hs] S=af (.ok (.int (sz b)) S))(h2:2<=b)(h7:b<=7):Runs cl (mY sp) [af (au b hs),af (.int key),ah,ah,ah] S (dX (.int (place hs (key % sz b))) S):=by
 have hz:=qF h2 h7;unfold mY;refine aD (by(repeat' (first|with_reducible apply hp|array_get_dec))) rfl ?_;refine vH (ds:=ji (aq hs)) (S1:=S) (by(repeat' (first|with_reducible apply Eu|array_get_dec))) (λds r S'=>S'=S/\∃l k v3 v4,ds=((aq l).zipIdx k).map (λp=>D.tup [.int p.2,p.1])/\cN (key % sz b) k l=place hs (key % sz b)/\r=[af (au b hs),af (.int key),af (.int (key % sz b)),v3,v4])
  ⟨rfl,hs,0,ah,ah,rfl,rfl,rfl⟩ ?_ ?_
 ·rintro r S' ⟨rfl,l,k,v3,v4,e,hpl,rfl⟩;have el:l=[]:=by
   cases l with|nil=>rfl|cons x l=>simp[uu]at e
  subst el;refine aH (by(repeat' (first|array_get_dec))) ?_;rw[←hpl];rfl
 ·rintro d ds r S' ⟨rfl,l,k,v3,v4,e,hpl,rfl⟩;cases l with
  |nil=>simp at e|cons h l=>
   rw[show aq (h::l)= .int h::aq l from rfl,Fd]at e;injection e with e1 e2
   subst e1;refine⟨_,rfl,?_⟩;simp only[bP];refine cH (by(repeat' (first|array_get_dec))) (λhc=>?_) (λhc=>?_)
   ·have hc:key % sz b<=h:=by simpa using hc
    refine aH (by(repeat' (first|array_get_dec))) ?_;rw[←hpl];unfold cN;rw[if_pos hc];rfl
   ·have hc:¬key % sz b<=h:=by simpa using hc
    refine aJ ⟨rfl,l,k+1,_,_,e2,?_,rfl⟩;rw[←hpl]
    conv=>rhs;unfold cN
    rw[if_neg (by lia)];rfl
def tH(place:Nat):List C:=
 [C.asg (Tg.name 3) (E.ix (E.var 0) (E.cst (D.int 1))),
  C.asg (Tg.name 4) (E.call place [E.var 0,E.var 1]),
  C.asg
   (Tg.name 5)
   (E.bin (Operator.Add) (E.GW (E.var 3) (E.var 4)) (E.DB (E.var 3) (E.var 4))),
  C.ret (E.DB (E.var 5) (E.bi (Bi.max) [E.var 2,E.cst (D.int 0)]))]
def wX{copies:Int}(hp:cl pl [au b hs,.int key] S=af (.ok (.int (place hs (key % sz b))) S))(hne:hs≠ [])(hl:hs.length<=100000)(hc:0<=copies):
  Runs cl (tH pl) [af (au b hs),af (.int key),af (.int copies),ah,ah,ah] S (dX (.tup (aq ((bD hs (key % sz b)).take copies.toNat))) S):=by
 obtain⟨h0,h1,h2⟩:=Fb hne (key % sz b);have hlen:(aq hs).length=hs.length:=by simp
 have e1:cutD (aq hs) (af (place hs (key % sz b))) ah=aq (hs.drop (place hs (key % sz b)).toNat):=by rw[Ik h0 (by rw[hlen];lia)];simp
 have e2:cutD (aq hs) ah (af (place hs (key % sz b)))=aq (hs.take (place hs (key % sz b)).toNat):=by rw[qI h0];simp
 have n1:cutD (aq hs) (af (place hs (key % sz b))) ah≠ []:=by rw[e1];simp;lia
 have n2:(cutD (aq hs) (af (place hs (key % sz b))) ah).length+(cutD (aq hs) ah (af (place hs (key % sz b)))).length<=sizeLine:=by rw[e1,e2];simp[aT];lia
 unfold tH;refine aD (by(repeat' (first|array_get_dec))) rfl ?_;refine aD (by(repeat' (first|with_reducible apply hp|array_get_dec))) rfl ?_;refine aD (by(repeat' (first|array_get_dec))) rfl ?_;rw[e1,e2,←Xu,h2];refine aH (by(repeat' (first|array_get_dec))) ?_;have e3:(if(0:Int)>copies then(0:Int)else copies)=copies:=if_neg (by lia);rw[e3,qI hc];simp[dX]
def oO:List C:=
 [C.asg
   (Tg.name 2)
   (E.bin (Operator.LShift) (E.cst (D.int 1)) (E.ix (E.var 0) (E.cst (D.int 0)))),
  C.asg
   (Tg.name 3)
   (E.col
    (AU.sorted aS)
    (It.live
     (E.comp
      aS
      (E.tup
       [E.bin (Operator.Mod) (E.bin (Operator.Sub) (E.var 0) (E.var 2)) (E.var 1),
       E.var 0])
      (Tg.name 0)
      (It.seq (E.ix (E.var 0) (E.cst (D.int 1))))
      []
      1
      [2,1]))),
  C.ret (E.comp aS (E.var 1) (Tg.tup [Tg.name 0,Tg.name 1]) (It.seq (E.var 3)) [] 2 [])]
end
abbrev gB(s x h:Int):List Int:=[(h - x) % s,h]
def j8{s x h:Int}(hx:0<=x/\x<s)(hh:0<=h/\h<s):(h - x) % s=if h<x then h - x+s else h - x:=by
 split
 ·rw[←Int.add_emod_right];exact sL (by lia) (by lia)
 ·exact sL (by lia) (by lia)
def LC{s x h:Int}:(h - x) % s=(h - x % s) % s:=by simp
theorem ik{x:Int}:∀(hs:List Int),∀h∈hs.takeWhile (λh=>decide (h<x)),h<x
 |[],h,hh=>by simp at hh|a::l,h,hh=>by
  by_cases ha:a<x
  ·simp only[List.takeWhile_cons,ha,Xv,if_true,UJ]at hh;rcases hh with rfl|hh
   ·exact ha
   ·exact ik l h hh
  simp_all
theorem il{x:Int}:∀(hs:List Int),hs.Pairwise (·<·)->∀h∈hs.dropWhile (λh=>decide (h<x)),x<=h
 |[],_,h,hh=>by simp at hh|a::l,hp,h,hh=>by
  have hp':=Vd.mp hp;by_cases ha:a<x
  ·simp only[qB,ha,Xv,if_true]at hh;exact il l hp'.2 h hh
  ·simp only[qB,ha,decide_false,Vq,VR,UJ]at hh;rcases hh with rfl|hh
   ·lia
   ·have:=hp'.1 h hh;lia
def Fe{hs l:List Int}(h:hs.Pairwise (·<·))(hl:l.Sublist hs):l.Pairwise (·<·):=h.sublist hl
def Ff{b x:Int}{hs:List Int}(hR:zd b hs)(hx:0<=x/\x<sz b):((bD hs x).map λh=>(h - x) % sz b).Pairwise (·<·):=by
 rw[VG];have tk:∀h∈hs.takeWhile (λh=>decide (h<x)),h∈hs:=λh hh=>(nI _).subset hh;have dp:∀h∈hs.dropWhile (λh=>decide (h<x)),h∈hs:=λh hh=>(nK _).subset hh;unfold bD;refine WD.mpr ⟨?_,?_,?_⟩
 ·refine(Fe hR.up (nK _)).imp_of_mem ?_;intro a c ha hc hac;have g1:=il hs hR.up a ha;have g2:=il hs hR.up c hc;rw[j8 hx (hR.A8 a (dp a ha)),j8 hx (hR.A8 c (dp c hc)),if_neg (by lia),if_neg (by lia)];lia
 ·refine(Fe hR.up (nI _)).imp_of_mem ?_;intro a c ha hc hac;have g1:=ik hs a ha;have g2:=ik hs c hc;rw[j8 hx (hR.A8 a (tk a ha)),j8 hx (hR.A8 c (tk c hc)),if_pos g1,if_pos g2];lia
 ·intro a ha c hc;have g1:=il hs hR.up a ha;have g2:=ik hs c hc;have r1:=hR.A8 a (dp a ha);have r2:=hR.A8 c (tk c hc);rw[j8 hx r1,j8 hx r2,if_neg (by lia),if_pos g2];lia
def Bl{a c:Int}{r r':List Int}(h:a<c):RK.lexLt (c::r) (a::r')=false:=by unfold RK.lexLt;rw[if_neg (by lia)];simp;lia
def Il{b x:Int}{hs:List Int}(hR:zd b hs)(hx:0<=x/\x<sz b):bh (hs.map (gB (sz b) x))=(bD hs x).map (gB (sz b) x):=by refine(oZ ((dG hs x).map _) ?_).symm;rw[VG];have q:=Ff hR hx;rw[VG]at q;exact q.imp λh=>Bl h
theorem qJ:∀(rs:List (List Int)),(∀r∈rs,r≠ [])->dC (rs.map dm)=af rs
 |[],_=>rfl|r::rs,h=>by
  obtain⟨n,ns,rfl⟩:∃n ns,r=n::ns:=by
   cases r with|nil=>simp_all|cons n ns=>lia
  simp only[U0,dm,dC];rw[show(D.int n::A7 D.int ns)=aq (n::ns)from rfl,ig];have ih:=qJ rs λr hr=>h r (by simp[hr]);rw[ih]
theorem Bm{rs:List (List Int)}(h:∀r∈rs,r≠ [])(hn:rs.Nodup)(hl:rs.length<64):eU (rs.map dm)=af ((bh rs).map dm):=by
 cases rs with
 |nil=>rfl|cons r rs=>
  unfold eU;have e:bf ((r::rs).map dm)=none:=by simp[dm,bf]
  rw[e,qJ _ h];exact if_pos ⟨hn,by lia,λz=>by lia⟩
theorem qK{cl:Cl}{S:bq}:∀{ps:List (Int×Int)}{o1 o2:Option D}{acc:List D},
  compLoop (λr S=>ak cl (E.var 1) r S) (λr S=>bz cl [] r S) (Tg.tup [Tg.name 0,Tg.name 1]) (ps.map λp=>D.tup [.int p.1,.int p.2]) [o1,o2] S acc=af (.ok (acc++ps.map λp=>D.int p.2) S)
 |[],o1,o2,acc=>by simp[compLoop]|p::ps,o1,o2,acc=>by rw[U0];unfold compLoop;simp only[cz,jF,bP];rw[rJ];simp only[eY,aN,if_true];rw[show ak cl (E.var 1) [af (D.int p.1),af (D.int p.2)] S=af (.ok (.int p.2) S)from aa rfl];simp only[eY,aN];rw[qK];simp
section
variable{cl:Cl}{S:bq}{b x:Int}{hs:List Int}
def t6(hR:zd b hs)(hl:hs.length<64):Runs cl oO [af (au b hs),af (.int x),ah,ah] S (dX (.lst (aq (bD hs (x % sz b)))) S):=by
 have h2:=hR.b2;have h7:=hR.b7;have hz:=qF h2 h7;have hx:0<=x % sz b/\x % sz b<sz b:=⟨qh _ (by lia),ly _ (by lia)⟩
 have er:(aq hs).map (λd=>match d with|.int h=>dm (gB (sz b) (x % sz b) h)|d=>d)=(hs.map (gB (sz b) (x % sz b))).map dm:=by simp[WL,W2]
 have hs':eU ((aq hs).map (λd=>match d with|.int h=>dm (gB (sz b) (x % sz b) h)|d=>d))=af (((bD hs (x % sz b)).map (gB (sz b) (x % sz b))).map dm):=by rw[er,Bm (by simp) (VG.mpr (hR.up.imp λn e=>by simp_all)) (by simpa using hl),Il hR hx]
 have hol:=jB hs (x % sz b);unfold oO;refine aD (by(repeat' (first|array_get_dec))) rfl ?_;refine aD (S1:=S) (d:= .lst (((bD hs (x % sz b)).map (gB (sz b) (x % sz b))).map dm)) (f9 (ds:=(aq hs).map (λd=>match d with|.int h=>dm (gB (sz b) (x % sz b) h)|d=>d)) (rM (dY (cu (by(repeat' (first|array_get_dec)))) (vI (F:=λd=>match d with|.int h=>dm (gB (sz b) (x % sz b) h)|d=>d) ?_) ?_)) hs' ?_) rfl ?_
 ·intro d hd;obtain⟨h,_,rfl⟩:=Va.mp hd;show _=af (Out.ok (D.tup [.int ((h - x % sz b) % sz b),.int h]) S);rw[←LC]
  (repeat' (first|array_get_dec))
 ·simp[aT];lia
 ·simp[aT];lia
 ·refine aH (S1:=S) (dY (es:=aq (bD hs (x % sz b))) (S2:=S) (gA (aa rfl)) ?_ ?_) rfl
  ·have q:=qK (cl:=cl) (S:=S) (ps:=(bD hs (x % sz b)).map λh=>((h - x % sz b) % sz b,h)) (o1:=ah) (o2:=ah) (acc:=[]);simp only[WL,W2,Uu]at q;simp only[WL,W2,dm,gB,U0,Vg,fM,bE,UT];exact q
  ·simp[aT];lia
end
theorem mZ:∀ns:List Int,zD.ya (aq ns)=af (ns.map PyData.int)
 |[]=>rfl|n::r=>by show(match zD (.int n),zD.ya (aq r)with|some p,af ps=>af (p::ps)|_,_=>ah)=_;rw[mZ r];rfl
theorem vR:∀ns:List Int,PyData.canLayAll0 (ns.map PyData.int)=av
 |[]=>rfl|n::r=>by simp[PyData.canLayAll0,PyData.canLay0,vR r]
theorem vV:∀ns:List Int,PyData.depthAll (ns.map PyData.int)<=1
 |[]=>by simp[PyData.depthAll]|n::r=>by have:=vV r;simp only[U0,PyData.depthAll,PyData.depth];lia
def m7(ns:List Int):SeqAt.shaped (.list (ns.map PyData.int))=true:=by have h1:=vR ns;have h2:=vV ns;simp only[SeqAt.shaped,PyData.canLay0,PyData.depth,h1,Bool.true_and];exact Wc (by lia)
theorem oR{x:Int}:∀{hs:List Int},hs.Pairwise (·<·)->hs.dropWhile (λh=>decide (h<x))=hs.filter (λh=>decide (x<=h))
 |[],_=>rfl|a::l,hp=>by
  have hp':=Vd.mp hp;by_cases ha:a<x
  ·rw[List.dropWhile_cons_of_pos (by simpa using ha),V2 (by simp;lia),oR hp'.2]
  ·rw[List.dropWhile_cons_of_neg (by simpa using ha),V3 (by simp;lia)];congr 1;refine(WN.mpr λb hb=>?_).symm;have:=hp'.1 b hb;simp;lia
theorem oU{x:Int}:∀{hs:List Int},hs.Pairwise (·<·)->hs.takeWhile (λh=>decide (h<x))=hs.filter (λh=>decide (h<x))
 |[],_=>rfl|a::l,hp=>by
  have hp':=Vd.mp hp;by_cases ha:a<x
  ·rw[List.takeWhile_cons_of_pos (by simpa using ha),V3 (by simpa using ha),oU hp'.2]
  ·rw[List.takeWhile_cons_of_neg (by simpa using ha),V2 (by simpa using ha)];refine(List.filter_eq_nil_iff.mpr λb hb=>?_).symm;have:=hp'.1 b hb;simp;lia
def yJ{hs:List Int}(hp:hs.Pairwise (·<·))(x:Int):bD hs x=hs.filter (λh=>decide (x<=h))++hs.filter (λh=>decide (h<x)):=by unfold bD;rw[oR hp,oU hp]
def m8{α:Type}(p q:α->Bool)(l:List α):(l.filter p).filter q=(l.filter q).filter p:=by rw[gX,gX];congr 1;funext a;exact Bool.and_comm _ _
def jQ{hs:List Int}(hp:hs.Pairwise (·<·))(p:Int->Bool)(x:Int):bD (hs.filter p) x=(bD hs x).filter p:=by
 rw[yJ hp,yJ (hp.sublist Wj),Xi];congr 1
 ·exact m8 _ _ _
 ·exact m8 _ _ _
theorem tK:∀{a c:List Int},a.Perm c->a.Pairwise (·<·)->c.Pairwise (·<·)->a=c
 |[],c,hp,_,_=>by simp_all|x::a,c,hp,ha,hc=>by
  cases c with
  |nil=>simp_all|cons y c=>
   have ha':=Vd.mp ha;have hc':=Vd.mp hc;have h1:x∈y::c:=hp.mem_iff.mp (by simp);have h2:y∈x::a:=hp.mem_iff.mpr (by simp);have e:x=y:=by
    rcases UJ.mp h1 with rfl|h1
    ·rfl
    rcases UJ.mp h2 with rfl|h2
    ·rfl
    have:=hc'.1 x h1;have:=ha'.1 y h2;lia
   subst e;rw[tK hp.cons_inv ha'.2 hc'.2]
abbrev with1(hs:List Int)(x:Int):List Int:=sortI (hs++ [x])
def fB(hs:List Int)(x:Int):(with1 hs x).Perm (x::hs):=(sortI_perm _).trans (WW.trans (mw _))
def s9{hs:List Int}{x y:Int}:y∈with1 hs x ↔ y=x\/y∈hs:=by rw[(fB hs x).mem_iff,UJ]
def pM{hs:List Int}{x:Int}(hp:hs.Pairwise (·<·))(hx:x∉hs):(with1 hs x).Pairwise (·<·):=by
 refine jA ?_;have hn:hs.Nodup:=hp.imp λh=>vt h;rw[Vx]
 grind
def Bo{hs:List Int}{x:Int}(hp:hs.Pairwise (·<·))(hx:x∉hs):(with1 hs x).filter (λh=>decide (h≠x))=hs:=by refine tK ?_ ((pM hp hx).sublist Wj) hp;refine((fB hs x).filter _).trans ?_;rw[V2 (by simp)];refine pV (WN.mpr λa ha=>?_);lia
def Im(hs:List Int)(x:Int):with1 hs x≠ []:=λe=>by
 have:=(fB hs x).length_eq
 simp_all
def Fg{b x:Int}{hs:List Int}(hR:zd b hs)(h0:0<=x/\x<sz b)(hx:x∉hs):zd b (with1 hs x):=
 ⟨hR.b2,hR.b7,Im _ _,pM hR.up hx,λh hh=>by
  rcases s9.mp hh with rfl|hh
  ·exact h0
  ·exact hR.A8 h hh⟩
abbrev bT(hs:List Int)(x:Int):List Int:=hs.filter λh=>decide (h≠x)
def Fi{b x:Int}{hs:List Int}(hR:zd b hs)(hne:bT hs x≠ []):zd b (bT hs x):=
 ⟨hR.b2,hR.b7,hne,hR.up.sublist Wj,λh hh=>hR.A8 h (U9.mp hh).1⟩
theorem Io{b x:Int}{hs:List Int}(hR:zd b hs)(hl:1<hs.length):bT hs x≠ []:=by
 intro e;have hn:hs.Nodup:=hR.up.imp λh=>vt h
 match hs,hl,hn,e with
 |a::c::l,_,hn,e=>simp_all
theorem any_ints(x:Int):∀hs:List Int,((hs.map PyData.int).any λq=>PyData.eqv q (.int x))=decide (x∈hs)
 |[]=>by simp|a::l=>by
  rw[U0,kC,any_ints x l];simp only[PyData.eqv]
  grind
def gf{S:bq}{x:Int}{hs:List Int}:inD S (.int x) (.tup (aq hs))=af (decide (x∈hs)):=by
 have e:SeqAt.shaped (.int x)=true:=by simp[SeqAt.shaped,PyData.canLay0,PyData.depth]
 simp only[inD,cL,gF,yG,rN,yH,bB,mZ,e,m7,and_self,if_true,any_ints]
def oh{S:bq}{x:Int}{hs:List Int}:inD S (.int x) (.lst (aq hs))=af (decide (x∈hs)):=by
 have e:SeqAt.shaped (.int x)=true:=by simp[SeqAt.shaped,PyData.canLay0,PyData.depth]
 simp only[inD,cL,gF,yG,rN,yH,bB,mZ,e,m7,and_self,if_true,any_ints]
def Fj(DL:Nat):List C:=
 [C.cond
   (T.or
    (T.val (E.cmp (CmpOp.Lt) (E.var 1) (E.cst (D.int 0))))
    (T.val (E.cmp (CmpOp.GtE) (E.var 1) (E.call DL [E.var 0]))))
   [C.raise Z3 [E.fmt [E.var 1]]]
   []]
def Fo(WU:Nat):List C:=
 [C.asg (Tg.name 2) (E.ix (E.var 0) (E.cst (D.int 1))),
  C.ex (E.call WU [E.var 0,E.var 1]),
  C.cond
   (T.val (E.cmp (CmpOp.In) (E.var 1) (E.var 2)))
   [C.raise Z3 [E.fmt [E.var 1]]]
   [],
  C.ret
   (E.tup
    [E.ix (E.var 0) (E.cst (D.int 0)),
    E.col
     (AU.tuple)
     (It.snap
      (E.col
       (AU.sorted aS)
       (It.live (E.bin (Operator.Add) (E.var 2) (E.tup [E.var 1])))))])]
def Fp{fns:List xA}{k f:Nat}{as:List D}{S:bq}{fs:xA}(hf:fns[f]?=af fs)(ha:as.length=fs.np)(h:Runs (ao fns k) fs.body (as.map af++bE (fs.nn - as.length) ah) S λo=>∃r S',o=af (.next r S')/\S'.take S.length=S):ao fns (k+1) f as S=af (.ok .non S):=by rw[ao,hf];unfold Runs at h;obtain⟨r,S',h,h2⟩:=h;simp only[if_pos ha,h,fO];exact rF h2 trivial
section
variable{cl:Cl}{S:bq}{b spot:Int}{hs:List Int}{sp:Nat}
def Fq{i:Int}(h:i.natAbs<2^1000):([D.int i]).all iV=true:=by
 simp only[nS,ze,Bool.and_true,iV]
 simp_all
def Ir(hp:cl sp [au b hs] S=af (.ok (.int (sz b)) S))(h0:0<=spot/\spot<sz b):Runs cl (Fj sp) [af (au b hs),af (.int spot)] S λo=>∃r S',o=af (.next r S')/\S'.take S.length=S:=by unfold Fj;refine aK (S1:=S) (Jp (S1:=S) (aP (x:= .bl (decide (spot<0))) (by(repeat' (first|array_get_dec))) (by simp[aZ];lia)) (aP (x:= .bl (decide (sz b<=spot))) (by(repeat' (first|with_reducible apply hp|array_get_dec))) (by simp[aZ];lia))) ?_;exact aJ ⟨_,_,rfl,by simp⟩
def Iu(hp:cl sp [au b hs,.int spot] S=af (.ok .non S))(hx:spot∉hs)(hne:hs≠ [])(hl:hs.length<60):
  Runs cl (Fo sp) [af (au b hs),af (.int spot),ah] S (dX (au b (with1 hs spot)) S):=by
 have hlen:=(fB hs spot).length_eq;unfold Fo;refine aD (by(repeat' (first|array_get_dec))) rfl ?_;simp only[bP];refine cG (aO (aj (aa rfl) (aj (aa rfl) az)) hp) ?_;refine aK (S1:=S) (aP (x:= .bl (decide (spot∈hs))) (aM (aa rfl) (aa rfl) (Bf gf)) (by simp[aZ,hx])) ?_;simp only[Uu];refine aH (S1:=S) (bI (aj (by(repeat' (first|array_get_dec))) (aj (cJ (cZ (f9 (yD (ns:=hs++ [spot]) (fV (aa rfl) (bI (aj (aa rfl) az) (by simp[aT])) (vM (by simpa using hne) (by simp[aT];lia))) (by rw[show aq hs++ [D.int spot]=aq (hs++ [spot]) by simp];exact RV.ig _)) ?_ ?_) iJ) ?_) az)) (by simp[aT])) rfl
 ·have e:aq hs++ [D.int spot]=aq (hs++ [spot]):=by simp
  rw[e];exact gb (by simp;lia)
 ·simp only[UG,aT];simp only[U5]at hlen;lia
 ·simp only[UG,aT];simp only[U5]at hlen;lia
def Ft:List C:=
 [C.asg (Tg.name 2) (E.ix (E.var 0) (E.cst (D.int 1))),
  C.cond
   (T.val (E.cmp (CmpOp.NotIn) (E.var 1) (E.var 2)))
   [C.raise Z3 [E.fmt [E.var 1]]]
   [],
  C.cond
   (T.val (E.cmp (CmpOp.Eq) (E.bi (Bi.len) [E.var 2]) (E.cst (D.int 1))))
   [C.raise Z3 [E.fmt [E.var 1]]]
   [],
  C.ret
   (E.tup
    [E.ix (E.var 0) (E.cst (D.int 0)),
    E.col
     (AU.tuple)
     (It.snap
      (E.comp
       aS
       (E.var 0)
       (Tg.name 0)
       (It.seq (E.var 2))
       [T.val (E.cmp (CmpOp.NotEq) (E.var 0) (E.var 1))]
       1
       [1]))])]
def Fv{r:aC}{i:Nat}{it:It}(hi:r[i]?=af (af (.int spot)))(h1:bM cl it r S=af (.ok (aq hs) S))(hl:hs.length<=100000):
  ak cl (E.comp aS (E.var 0) (Tg.name 0) it [T.val (E.cmp (CmpOp.NotEq) (E.var 0) (E.var 1))] 1 [i]) r S=af (.ok (.lst (aq (bT hs spot))) S):=by
 have hf:∀l:List Int,(((aq l).filter λd=>match d with|.int h=>decide (h≠spot)|_=>aS).map id)=aq (bT l spot):=by
  intro l
  induction l with
  |nil=>rfl|cons a l ih=>grind
 refine dY h1 (S2:=S) (es:=aq (bT hs spot)) ?_ ?_
 ·have q:=je (S:=S) (f:=λr S=>ak cl (E.var 0) r S) (g:=λr S=>bz cl [T.val (E.cmp (CmpOp.NotEq) (E.var 0) (E.var 1))] r S) (P:=λd=>match d with|.int h=>decide (h≠spot)|_=>aS) (F:=id) (caps:=[af (.int spot)]) (ds:=aq hs) (o:=ah) (acc:=[]) (λd hd=>by
   obtain⟨h,_,rfl⟩:=Va.mp hd;exact⟨by(repeat' (first|array_get_dec)),λ_=>aa rfl⟩)
  rw[hf hs,Uu]at q;simp only[fM,bE,U0,Vg,hi,ve,Uy,Uu];exact q
 ·have:=U7 (λh=>decide (h≠spot)) hs;simp only[UG,aT];unfold bT;lia
def Iw(hin:spot∈hs)(h1:1<hs.length)(hl:hs.length<60):Runs cl Ft [af (au b hs),af (.int spot),ah] S (dX (au b (bT hs spot)) S):=by unfold Ft;refine aD (by(repeat' (first|array_get_dec))) rfl ?_;simp only[bP];refine aK (S1:=S) (aP (x:= .bl (!decide (spot∈hs))) (aM (aa rfl) (aa rfl) (gZ gf)) (by simp[aZ,hin])) ?_;simp only[Uu];refine aK (S1:=S) (aP (x:= .bl aS) (aM (fZ (aj (aa rfl) az) (jf aW)) aA (by rw[jk];simp;lia)) rfl) ?_;simp only[Uu];refine aH (S1:=S) (bI (aj (by(repeat' (first|array_get_dec))) (aj (cJ (cZ (Fv rfl (cu (aa rfl)) (by lia)) iJ) ?_) az)) (by simp[aT])) rfl;have:=U7 (λh=>decide (h≠spot)) hs;simp only[UG,aT];unfold bT;lia
end
def bY{l:List Int}(h:l.Pairwise (·<·)):l.Nodup:=h.imp λh=>vt h
def yK{kvs:List (L2.Key×D)}{k:L2.Key}:(kvs.any λkv=>decide (kv.1=k))=av ↔ k∈kvs.map (·.1):=by simp
def IK{kvs:List (L2.Key×D)}{k:L2.Key}{v:D}(h:k∈kvs.map (·.1)):(putD kvs k v).map (·.1)=kvs.map (·.1):=by unfold putD;rw[if_pos (yK.mpr h),WL];apply Xb;intro kv _;lia
def vW{kvs:List (L2.Key×D)}{k:L2.Key}{v:D}(h:k∉kvs.map (·.1)):putD kvs k v=kvs++ [(k,v)]:=by unfold putD;rw[if_neg λq=>h (yK.mp q)]
abbrev lH:Str:=Z4
section
variable{cl:Cl}{r:aC}{S:bq}{b:Int}{hs:List Int}{a:E}
abbrev rest(hs gone:List Int):List Int:=hs.filter λh=>decide (h∉gone)
def Fw:List C:=
 [C.fr
   (Tg.name 2)
   (It.seq (E.var 1))
   [C.cond
    (T.val (E.cmp (CmpOp.NotIn) (E.var 2) (E.ix (E.var 0) (E.cst (D.int 1)))))
    [C.raise Z3 [E.fmt [E.var 2]]]
    []],
  C.asg
   (Tg.name 3)
   (E.col
    (AU.tuple)
    (It.snap
     (E.comp
      aS
      (E.var 0)
      (Tg.name 0)
      (It.seq (E.ix (E.var 0) (E.cst (D.int 1))))
      [T.val (E.cmp (CmpOp.NotIn) (E.var 0) (E.var 1))]
      1
      [1]))),
  C.cond
   (T.val (E.cmp (CmpOp.Eq) (E.bi (Bi.len) [E.var 3]) (E.cst (D.int 0))))
   [C.raise Z3 [E.fmt [E.var 1]]]
   [],
  C.ret (E.tup [E.ix (E.var 0) (E.cst (D.int 0)),E.var 3])]
def Fx{gone:List Int}{i:Nat}{it:It}(hi:r[i]?=af (af (.tup (aq gone))))(h1:bM cl it r S=af (.ok (aq hs) S))(hl:hs.length<=100000):
  ak cl (E.comp aS (E.var 0) (Tg.name 0) it [T.val (E.cmp (CmpOp.NotIn) (E.var 0) (E.var 1))] 1 [i]) r S=af (.ok (.lst (aq (rest hs gone))) S):=by
 have hf:∀l:List Int,(((aq l).filter λd=>match d with|.int h=>decide (h∉gone)|_=>aS).map id)=aq (rest l gone):=by
  intro l
  induction l with
  |nil=>rfl|cons a l ih=>grind
 refine dY h1 (S2:=S) (es:=aq (rest hs gone)) ?_ ?_
 ·have q:=je (S:=S) (f:=λr S=>ak cl (E.var 0) r S) (g:=λr S=>bz cl [T.val (E.cmp (CmpOp.NotIn) (E.var 0) (E.var 1))] r S) (P:=λd=>match d with|.int h=>decide (h∉gone)|_=>aS) (F:=id) (caps:=[af (.tup (aq gone))]) (ds:=aq hs) (o:=ah) (acc:=[]) (λd hd=>by
   obtain⟨h,_,rfl⟩:=Va.mp hd;refine⟨iI (aP (x:= .bl (!decide (h∈gone))) (aM (aa rfl) (aa rfl) (gZ gf)) ?_),λ_=>aa rfl⟩;simp[aZ])
  rw[hf hs,Uu]at q;simp only[fM,bE,U0,Vg,hi,ve,Uy,Uu];exact q
 ·have:=U7 (λh=>decide (h∉gone)) hs;simp only[UG,aT];unfold rest;lia
def IV{gone:List Int}(hg:∀g∈gone,g∈hs)(hne:rest hs gone≠ [])(hl:hs.length<=1000):Runs cl Fw [af (au b hs),af (.tup (aq gone)),ah,ah] S (dX (au b (rest hs gone)) S):=by
 unfold Fw;refine bx (α:=Int) D.int (xs:=gone) (S1:=S) (cu (aa rfl)) (λys r S'=>S'=S/\∃v,r=[af (au b hs),af (.tup (aq gone)),v,ah]) ⟨rfl,_,rfl⟩ ?_ ?_
 ·rintro r S' ⟨rfl,v,rfl⟩;have hrl:=U7 (λh=>decide (h∉gone)) hs;refine aD (cJ (cZ (Fx rfl (cu (by(repeat' (first|array_get_dec)))) (by lia)) iJ) (by simp only[UG,aT];unfold rest;lia)) rfl ?_;simp only[bP];have hpos:0<(rest hs gone).length:=List.length_pos_iff.mpr hne;have hz:¬((aq (rest hs gone)).length:Int)=0:=by simp only[UG];lia
  refine aK (S1:=S') (aP (x:= .bl aS) (aM (S1:=S') (S2:=S') (fZ (S1:=S') (aj (aa rfl) az) (jf aW)) aA (by rw[jk,Wr hz])) rfl) ?_;simp only[Uu];exact aH (by(repeat' (first|array_get_dec))) rfl
 ·rintro x ys r S' ⟨pre,hp⟩ ⟨rfl,v,rfl⟩;have hx:x∈hs:=hg x (by grind);simp only[bP];refine aK (S1:=S') (aP (x:= .bl (!decide (x∈hs))) (aM (S1:=S') (S2:=S') (aa rfl) (by(repeat' (first|array_get_dec))) (gZ gf)) (by simp[aZ,hx])) (aJ ⟨rfl,_,rfl⟩)
end
def tL{S S':bq}{d:D}(hl:S'.length=S.length)(c:oj S.length d):trim S d S'=af (.ok d S'):=by
 have e:S'.take S.length=S':=by rw[←hl,t9]
 unfold trim;rw[e];split
 ·lia
 ·split
  ·rfl
  ·split
   ·next k _ _=>
    split
    ·lia
    ·rfl
   ·rfl
def m9{fns:List xA}{k f:Nat}{as:List D}{S S':bq}{fs:xA}(hf:fns[f]?=af fs)(ha:as.length=fs.np)(h:Runs (ao fns k) fs.body (as.map af++bE (fs.nn - as.length) ah) S λo=>∃r,o=af (.next r S'))(hl:S'.length=S.length):ao fns (k+1) f as S=af (.ok .non S'):=by rw[ao,hf];unfold Runs at h;obtain⟨r,h⟩:=h;simp only[if_pos ha,h,fO];exact tL hl trivial
def tQ{fns:List xA}{k f:Nat}{as:List D}{S S':bq}{fs:xA}{d:D}(hf:fns[f]?=af fs)(ha:as.length=fs.np)(h:Runs (ao fns k) fs.body (as.map af++bE (fs.nn - as.length) ah) S (dX d S'))(hl:S'.length=S.length)(c:oj S.length d):ao fns (k+1) f as S=af (.ok d S'):=by rw[ao,hf];unfold Runs dX at h;simp only[if_pos ha,h,fO];exact tL hl c
theorem dg{α:Type}[DecidableEq α]:∀(l m:List α),l.Nodup->(∀x∈l,x∈m)->l.length<=m.length
 |[],m,_,_=>Wx _|x::l,m,h,hs=>by
  have h':=Wf.mp h;have hx:=hs x (by simp);have:=dg l (m.erase x) h'.2 λy hy=>by have hne:y≠x:=λe=>h'.1 (e▸hy);exact(List.mem_erase_of_ne hne).mpr (hs y (by simp[hy]))
  rw[kU hx]at this;have hpos:0<m.length:=iA hx;simp only[U5];lia
theorem vX{kvs:List (L2.Key×D)}{k:L2.Key}{d:D}(h:bC kvs k=af d):(k,d)∈kvs:=by
 unfold bC at h;cases e:kvs.find? λkv=>decide (kv.1=k)with
 |none=>rw[e]at h;cases h|some p=>
  rw[e]at h;have e1:p.2=d:=by simpa using h
  have e2:=we e;have e3:p.1=k:=by simpa using e2
  have:=kL e;rw[←e1,←e3];exact this
def Fy{kvs:List (L2.Key×D)}{k:L2.Key}(h:bC kvs k=ah):k∉kvs.map (·.1):=by
 unfold bC at h;intro hm;obtain⟨p,hp,e⟩:=Va.mp hm;have h':kvs.find? (λkv=>decide (kv.1=k))=none:=by simpa using h
 have:=List.find?_eq_none.mp h' p hp;simp[e]at this
def eG{S:bq}{k:Nat}{kvs:List (L2.Key×D)}(h:S[k]?=af (.dct kvs)):cL S (.ref k)=af kvs:=by simp only[cL,h]
def Fz{S:bq}{k:Nat}{ds:List D}(h:S[k]?=af (.lst ds)):bB S (.ref k)=af ds:=by simp only[bB,h]
end RV
namespace RV
open PySem L2 RK
abbrev jm:Str:=Z9
abbrev jK:Str:=Z2
abbrev ue:Str:=Z5
def sM(hs:List Int)(q:Int->Nat):List (L2.Key×D):=hs.map λh=>(Sum.inl h,D.ref (q h))
theorem j9{hs:List Int}{q:Int->Nat}{h:Int}(hm:h∈hs):bC (sM hs q) (.inl h)=af (.ref (q h)):=by
 induction hs with
 |nil=>cases hm|cons a r ih=>
  by_cases e:a=h
  ·subst e;simp[sM,bC]
  ·have hm:h∈r:=by
    rcases UJ.mp hm with z|z
    ·exact absurd z.symm e
    ·exact z
   have q':=ih hm;have e2:bC (sM (a::r) q) (.inl h)=bC (sM r q) (.inl h):=by have:¬(Sum.inl a:L2.Key)=Sum.inl h:=λz=>e (Sum.inl.inj z);simp[sM,bC,V5,this]
   rw[e2];exact q'
def IW(hs:List Int)(q:Int->Nat):(sM hs q).map (·.1)=hs.map Sum.inl:=by simp[sM,W2]
def yL{hs:List Int}{q:Int->Nat}{h:Int}(hm:h∉hs):putD (sM hs q) (.inl h) (.ref (q h))=sM (hs++ [h]) q:=by
 rw[vW]
 ·simp[sM]
 ·rw[IW];intro z;obtain⟨x,hx,e⟩:=Va.mp z;exact hm (Sum.inl.inj e▸hx)
section
variable{S:bq}
def bJ{S:bq}{i:Nat}{o:SO}(h:S[i]?=af o):i<S.length:=(UL.mp h).1
end
def pos:List Int->Int->Nat
 |[],_=>0|x::r,h=>if x=h then 0 else pos r h+1
theorem yM{h:Int}{ys:List Int}:∀{done:List Int},h∉done->pos (done++h::ys) h=done.length
 |[],_=>by simp[pos]|x::r,hn=>by have e:¬x=h:=λe=>hn (by simp[e]);have ih:=yM (h:=h) (ys:=ys) (done:=r) (λq=>hn (by simp[q]));simp[pos,e,ih]
theorem qL{h:Int}:∀{hs:List Int},h∈hs->pos hs h<hs.length
 |[],hm=>by cases hm|x::r,hm=>by
  by_cases e:x=h
  ·simp[pos,e]
  ·have:=qL (h:=h) (hs:=r) ((UJ.mp hm).resolve_left (Ne.symm e));simp[pos,e];lia
theorem rP{h h':Int}:∀{hs:List Int},h∈hs->h'∈hs->pos hs h=pos hs h'->h=h'
 |[],hm,_,_=>by cases hm|x::r,hm,hm',e=>by
  by_cases e1:x=h<;>by_cases e2:x=h'
  ·rw[←e1,←e2]
  ·simp only[pos,if_pos e1,if_neg e2]at e;lia
  ·simp only[pos,if_neg e1,if_pos e2]at e;lia
  ·simp only[pos,if_neg e1,if_neg e2]at e;replace e:pos r h=pos r h':=by lia
   exact rP ((UJ.mp hm).resolve_left (Ne.symm e1)) ((UJ.mp hm').resolve_left (Ne.symm e2)) e
def FJ{fns:List xA}{k f:Nat}{as:List D}{S S':bq}{fs:xA}{i:Nat}{o:SO}(hf:fns[f]?=af fs)(ha:as.length=fs.np)(h:Runs (ao fns k) fs.body (as.map af++bE (fs.nn - as.length) ah) S λo=>∃r,o=af (.next r S'))(hi:i<S.length)(ho:S'[i]?=af o)(hn:¬uA S.length o)(hS:S[i]?≠af o):ao fns (k+1) f as S=af (.ok .non S'):=by
 rw[ao,hf];unfold Runs at h;obtain⟨r,h⟩:=h;simp only[if_pos ha,h,fO];have ht:(S'.take S.length)[i]?=af o:=by rw[Wb hi];exact ho
 unfold trim;rw[if_neg,if_neg]
 ·exact λz=>hn (z.1 o (V4 ht))
 ·intro z;rw[z.1]at ht;exact hS ht
section
variable{κ:Type}[DecidableEq κ]
theorem yN{k k':κ}{v:D}(h:k'≠k):∀l:List (κ×D),(l.map λkv=>if kv.1=k then(kv.1,v)else kv).find? (λkv=>decide (kv.1=k'))=l.find? (λkv=>decide (kv.1=k'))
 |[]=>rfl|a::r=>by
  rw[U0,V5,V5,yN h r];by_cases e:a.1=k
  ·have e':¬a.1=k':=λz=>h (z.symm.trans e);rw[if_pos e];simp[e']
  ·rw[if_neg e]
theorem vY{k:κ}{v:D}:∀l:List (κ×D),(l.any λkv=>decide (kv.1=k))=av->((l.map λkv=>if kv.1=k then(kv.1,v)else kv).find? (λkv=>decide (kv.1=k))).map (·.2)=af v
 |[],h=>by cases h|a::r,h=>by
  rw[U0,V5];by_cases e:a.1=k
  ·rw[if_pos e];simp[e]
  ·rw[if_neg e];have h':(r.any λkv=>decide (kv.1=k))=true:=by simpa[e]using h
   have q:=vY (v:=v) r h';simpa[e]using q
def LK(k k':κ)(v:D)(l:List (κ×D)):((if(l.any λkv=>decide (kv.1=k))=av then l.map (λkv=>if kv.1=k then(kv.1,v)else kv)else l++ [(k,v)]).find? λkv=>decide (kv.1=k')).map (·.2)=if k'=k then af v else(l.find? λkv=>decide (kv.1=k')).map (·.2):=by
 by_cases e:(l.any λkv=>decide (kv.1=k))=av
 ·rw[if_pos e];by_cases e2:k'=k
  ·rw[if_pos e2,e2];exact vY l e
  ·rw[if_neg e2,yN e2]
 ·rw[if_neg e,List.find?_append];by_cases e2:k'=k
  ·have hn:(l.find? λkv=>decide (kv.1=k'))=none:=by
    rw[rS];intro a ha hk;exact e (List.any_eq_true.mpr ⟨a,ha,by rw[←e2];exact hk⟩)
   rw[hn,if_pos e2,e2];simp
  ·have:¬k=k':=λz=>e2 z.symm;rw[if_neg e2];simp[this]
end
def I8{l:List (L2.Key×D)}{k k':L2.Key}{v:D}:bC (putD l k v) k'=if k'=k then af v else bC l k':=LK k k' v l
def cR{S:bq}{i j:Nat}{o o':SO}(h:S[j]?=af o)(hn:i≠j):(S.set i o')[j]?=af o:=by rw[U6 hn];exact h
def du{S:bq}{i:Nat}{o o':SO}(h:S[i]?=af o):(S.set i o')[i]?=af o':=Vy (bJ h)
def kh{S:bq}{i j:Nat}{o o':SO}(hi:S[i]?=af o)(hj:S[j]?=af o')(h:o≠o'):i≠j:=λe=>by rw[e,hj]at hi;exact h (Ux hi).symm
def gh{S T:bq}{j:Nat}{o:SO}(h:S[j]?=af o):(S++T)[j]?=af o:=by rw[UV (bJ h)];exact h
def Qv{S:bq}{i:Nat}{o:SO}(h:S[i]?=af o):S.set i o=S:=by obtain⟨h1,h2⟩:=UL.mp h;rw[←h2];exact i8 h1
section
variable{hs:List Int}{q:Int->Nat}
def I9{x:Int}(hx:x∉hs):bC (sM hs q) (.inl x)=none:=by
 have e:((sM hs q).find? λkv=>decide (kv.1=Sum.inl x))=none:=by rw[rS];intro a ha hk;obtain⟨y,hy,rfl⟩:=Va.mp ha;have:y=x:=Sum.inl.inj (Vo hk);exact hx (this▸hy)
 show((sM hs q).find? λkv=>decide (kv.1=Sum.inl x)).map _=ah;rw[e];rfl
end
abbrev bZ:Str:=Z1
abbrev qM(b:Int)(hs:List Int)(cp:Int)(pk:Nat):List (Str×D):=[(lH,au b hs),(jm,.int cp),(jK,.ref pk)]
def Sg(S:bq)(i M:Nat):Prop:=∃N,S[i]?=af (.dct N)/\N.length<=M/\(iM N).isSome=av
structure Pw(S:bq)(p pk:Nat)(b:Int)(hs:List Int)(cp:Int)(q:Int->Nat)(M:Nat):Prop where
 ob:S[p]?=af (.ins bZ (qM b hs cp pk))
 kp:S[pk]?=af (.dct (sM hs q))
 nt:∀h∈hs,Sg S (q h) M
 inj:∀h∈hs,∀h'∈hs,q h=q h'->h=h'
 dq:∀h∈hs,q h≠pk
section
variable{cl:Cl}{r:aC}{S S':bq}{b cp n:Int}{hs:List Int}{a:E}
def yO:List C:=
 [C.fset Z1 Z4 (E.var 0) (E.var 1),
  C.fset Z1 Z9 (E.var 0) (E.var 2),
  C.fset Z1 Z2 (E.var 0) (E.dct),
  C.fr
   (Tg.name 3)
   (It.seq (E.ix (E.var 1) (E.cst (D.int 1))))
   [C.sub
    (E.fld Z1 Z2 (E.var 0))
    (E.var 3)
    (E.dct)]]
def A5(S:bq)(b:Int)(hs:List Int)(cp:Int)(done:List Int):bq:=
 S++(SO.ins bZ (qM b hs cp (S.length+1))::SO.dct (sM done λh=>S.length+2+pos hs h)::bE done.length (SO.dct []))
def FN(hn:hs.Nodup):Pw (A5 S b hs cp hs) S.length (S.length+1) b hs cp (λh=>S.length+2+pos hs h) 0:=by
 unfold A5;refine⟨?_,?_,λh hh=>⟨[],?_,by simp,rfl⟩,λh hh h' hh' e=>rP hh hh' (by lia),λh hh=>by lia⟩
 ·simp
 ·simp
 ·have:=qL hh;rw[Vl (by lia),show S.length+2+pos hs h - S.length=pos hs h+1+1 by lia]
  simp_all
def FP(hn:hs.Nodup)(hl:hs.length<=1000):
  Runs cl yO [af (.ref S.length),af (au b hs),af (.int cp),ah] (S++ [.ins bZ []]) λo=>∃r,o=af (.next r (A5 S b hs cp hs)):=by
 have CA:∀(fs:List (Str×D))(tl:bq),(S++ .ins bZ fs::tl)[S.length]?=af (.ins bZ fs):=λfs tl=>by simp
 have L8:∀(fs gs:List (Str×D))(tl:bq),(S++ .ins bZ fs::tl).set S.length (.ins bZ gs)=S++ .ins bZ gs::tl:=λfs gs tl=>by simp
 unfold yO;refine jd (aa rfl) (aa rfl) (CA [] []) (by simp) ?_;rw[L8];refine jd (aa rfl) (aa rfl) (CA _ []) (by simp[cO]) ?_;rw[L8];refine jd gw (aa rfl) (k:=S.length) (fs:=cO jm (.int cp) (cO lH (au b hs) [])) (by simp) (by simp[cO]) ?_;have e1:((S++ [SO.ins bZ (cO jm (.int cp) (cO lH (au b hs) []))])++ [SO.dct []]).set S.length (.ins bZ (cO jK (.ref (S++ [SO.ins bZ (cO jm (.int cp) (cO lH (au b hs) []))]).length) (cO jm (.int cp) (cO lH (au b hs) []))))
   =A5 S b hs cp []:=by
  rw[WY,Xq _ _ (Uz _)];simp[cO,A5,sM]
 rw[e1];refine bx (α:=Int) D.int (xs:=hs) (S1:=A5 S b hs cp []) (cu (by(repeat' (first|array_get_dec))))
  (λys r S'=>∃v done,r=[af (.ref S.length),af (au b hs),af (.int cp),v]/\done++ys=hs/\S'=A5 S b hs cp done) ⟨ah,[],rfl,rfl,rfl⟩ ?_ ?_
 ·rintro r S' ⟨v,done,rfl,hd,rfl⟩;rw[UT]at hd;subst hd;exact aJ ⟨_,rfl⟩
 ·rintro h ys r S' _ ⟨v,done,rfl,hd,rfl⟩;have hnd:=hn;have hnn:h∉done:=by
   rw[←hd]at hnd;intro z;exact(Vx.mp hnd).2.2 h z h (by simp) rfl
  have hdl:done.length<=1000:=by have:=VJ e9 hd;simp at this;lia
  have hps:pos hs h=done.length:=by rw[←hd];exact yM hnn
  simp only[bP];have hlen:(A5 S b hs cp done).length=S.length+2+pos hs h:=by rw[hps];simp[A5];lia
  have hob:(A5 S b hs cp done++ [SO.dct []])[S.length]?=af (.ins bZ (qM b hs cp (S.length+1))):=by unfold A5;rw[WY];exact CA _ _
  have hkp:(A5 S b hs cp done++ [SO.dct []])[S.length+1]?=af (.dct (sM done λh=>S.length+2+pos hs h)):=by unfold A5;rw[WY,Vl (by lia),show S.length+1 - S.length=1 by lia];rfl
  refine gH (d:= .ref (A5 S b hs cp done).length) (S1:=A5 S b hs cp done++ [SO.dct []]) (S2:=A5 S b hs cp done++ [SO.dct []]) (S3:=A5 S b hs cp done++ [SO.dct []]) (x:= .ref (S.length+1)) (y:= .int h) (S4:=A5 S b hs cp (done++ [h])) gw (mX (aa rfl) hob rfl) (aa rfl) ?_ (aJ ⟨_,done++ [h],rfl,by simpa using hd,rfl⟩);have hz:(sM done λh=>S.length+2+pos hs h).length<sizeLine:=by simp only[sM,UG,aT];lia
  simp only[RK.putAt,hkp,cX,if_pos hz];rw[hlen,show D.ref (S.length+2+pos hs h)=D.ref ((λh=>S.length+2+pos hs h) h)from rfl,yL hnn];unfold A5;rw[WY,Xq _ _ (by lia),show S.length+1 - S.length=1 by lia];simp[List.replicate_succ']
def Qw{n:Nat}{N:List (L2.Key×D)}{rs:List (List Int)}(h1:ak cl a r S=af (.ok (.ref n) S'))(h2:S'[n]?=af (.dct N))(h3:iM N=af rs)(h4:rs.Nodup/\rs.length<64):ak cl (.E7 a) r S=af (.ok (.lst ((RK.bh rs).map dm)) S'):=by
 have e:((RK.bh rs).map dm).length<=sizeLine:=by rw[UG,(dB rs).length_eq];have:=h4.2;simp only[aT];lia
 show bnd _ _=_;simp only[h1,aN,qW,h2,h3,if_pos h4,A3,if_pos e,bR,Vq,VR]
def EN(ri:Nat):List C:=
 [C.cond
   (T.val
    (E.cmp
     (CmpOp.NotIn)
     (E.var 1)
     (E.fld Z1 Z2 (E.var 0))))
   [C.raise Z3 [E.fmt [E.var 1]]]
   [],
  C.ret
   (E.call
    ri
    [E.ix (E.fld Z1 Z2 (E.var 0)) (E.var 1)])]
end
abbrev Um(r:List Int):D:= .tup (aq r)
section
variable{S:bq}{cw:List (List Int)}
theorem gP{α:Type}(inj:α->D)(P:α->Bool){f:aC->bq->Ev D}{g:aC->bq->Ev Bool}{caps:aC}:∀{xs:List α}{o:Option D}{acc:List D},(∀x∈xs,g (af (inj x)::caps) S=af (.ok (P x) S))->(∀x∈xs,P x=av->f (af (inj x)::caps) S=af (.ok (inj x) S))->
  compLoop f g (.name 0) (xs.map inj) (o::caps) S acc=af (.ok (acc++(xs.filter P).map inj) S)
 |[],o,acc,_,_=>by simp[compLoop]|x::xs,o,acc,h,h'=>by
  simp only[U0,compLoop,cz,bP,h x (by simp),eY,aN];have ih:∀o acc,compLoop f g (.name 0) (xs.map inj) (o::caps) S acc=af (.ok (acc++(xs.filter P).map inj) S):=λo acc=>gP inj P (xs:=xs) (λy hy=>h y (by simp[hy])) (λy hy=>h' y (by simp[hy]));cases e:P x with|true=>simp only[if_true,h' x (by simp) e,eY,aN];rw[ih];simp[e]|false=>simp only[Vq,VR];rw[ih];simp[e]
def AW(n:Nat)(cw:List (List Int)):oj.clos n (cw.map Um):=jy.mpr λd hd=>by obtain⟨r,_,rfl⟩:=Va.mp hd;exact bF r
def lS(S:bq)(o:SO):(S++ [o])[S.length]?=af o:=by rw[Vl (Uz _)];simp
def kj(S:bq)(o o':SO):(S++ [o]).set S.length o'=S++ [o']:=by rw[Xq _ _ (Uz _)];simp
end
structure DI(N:List (L2.Key×D))(f:Int->Option Int):Prop where
 nd:(N.map (·.1)).Nodup
 ki:∀kv∈N,∃k,kv.1=Sum.inl k
 va:∀k,bC N (.inl k)=(f k).map D.int
def DI.nil:DI [] (λ_=>ah):=⟨by simp,λkv h=>absurd h (by simp),λk=>rfl⟩
def C4{N:List (L2.Key×D)}{k:L2.Key}{d:D}:(k∈N.map (·.1)/\(putD N k d).map (·.1)=N.map (·.1))\/(k∉N.map (·.1)/\(putD N k d).map (·.1)=N.map (·.1)++ [k]):=by
 by_cases h:k∈N.map (·.1)
 ·exact .inl ⟨h,IK h⟩
 ·exact .inr ⟨h,by rw[vW h];simp⟩
def FQ{N:List (L2.Key×D)}{k:L2.Key}{d:D}(h:(N.map (·.1)).Nodup):((putD N k d).map (·.1)).Nodup:=by
 rcases C4 (N:=N) (k:=k) (d:=d)with⟨_,e⟩|⟨hn,e⟩<;>rw[e]
 ·exact h
 grind
def FT{N:List (L2.Key×D)}{k:Int}{d:D}(h:∀kv∈N,∃k,kv.1=Sum.inl k):∀kv∈putD N (.inl k) d,∃k,kv.1=Sum.inl k:=λkv hm=>by
 have:kv.1∈(putD N (.inl k) d).map (·.1):=Xc hm;have q:∀x∈N.map (·.1),∃k,x=Sum.inl k:=λx hx=>by obtain⟨kv,h1,rfl⟩:=Va.mp hx;exact h kv h1
 rcases C4 (N:=N) (k:= .inl k) (d:=d)with⟨_,e⟩|⟨hn,e⟩<;>rw[e]at this
 ·exact q _ this
 ·rcases Vt.mp this with z|z
  ·exact q _ z
  simp_all
def DI.put{N:List (L2.Key×D)}{f:Int->Option Int}(h:DI N f)(k i:Int):DI (putD N (.inl k) (.int i)) (λy=>if y=k then af i else f y):=by
 refine⟨FQ h.nd,FT h.ki,λy=>?_⟩;rw[I8];by_cases e:y=k
 ·simp_all
 ·rw[if_neg (λz=>e (Sum.inl.inj z)),if_neg e];exact h.va y
theorem vZ{k y:L2.Key}:∀{N:List (L2.Key×D)},bC (N.filter λkv=>decide (kv.1≠k)) y=if y=k then ah else bC N y
 |[]=>by simp[bC]|p::N=>by
  have ih:=vZ (k:=k) (y:=y) (N:=N);have e1:∀(p:L2.Key×D)(l:List (L2.Key×D)),bC (p::l) y=if p.1=y then af p.2 else bC l y:=λp l=>by
   unfold bC
   grind
  by_cases h:p.1=k
  ·grind
  ·rw[V3 (by simpa using h),e1,e1,ih];lia
def DI.drop{N:List (L2.Key×D)}{f:Int->Option Int}(h:DI N f)(k:Int):DI (N.filter λkv=>decide (kv.1≠ .inl k)) (λy=>if y=k then ah else f y):=by
 refine⟨?_,λkv hm=>h.ki kv (U9.mp hm).1,λy=>?_⟩
 ·exact h.nd.sublist (List.Sublist.map _ Wj)
 ·rw[vZ];by_cases e:y=k
  ·simp_all
  ·rw[if_neg (λz=>e (Sum.inl.inj z)),if_neg e];exact h.va y
theorem nj:∀{N:List (L2.Key×D)},(∀kv∈N,∃k,kv.1=Sum.inl k)->∃ks:List Int,N.map (·.1)=ks.map Sum.inl
 |[],_=>⟨[],rfl⟩|kv::N,h=>by obtain⟨k,e⟩:=h kv (by simp);obtain⟨ks,e2⟩:=nj (N:=N) λx hx=>h x (by simp[hx]);exact⟨k::ks,by simp_all⟩
def wg{ks:List Int}(h:(ks.map (Sum.inl:Int->L2.Key)).Nodup):ks.Nodup:=(VG.mp h).imp λz e=>z (VJ Sum.inl e)
def DI.keys{N:List (L2.Key×D)}{f:Int->Option Int}(h:DI N f):∃ks:List Int,N.map (·.1)=ks.map Sum.inl/\ks.Nodup/\∀k,k∈ks ↔ (f k).isSome=true:=by
 obtain⟨ks,e⟩:=nj h.ki;have nd:=h.nd;rw[e]at nd;refine⟨ks,e,wg nd,λk=>?_⟩;have hv:=h.va k;have m1:k∈ks ↔ (Sum.inl k:L2.Key)∈N.map (·.1):=by
  rw[e];exact⟨λz=>Xc z,λz=>by
   simp_all⟩
 rw[m1];constructor
 ·intro z;cases q:f k with|some i=>rfl|none=>rw[q]at hv;exact absurd z (Fy hv)
 ·intro z;obtain⟨i,q⟩:=Vk.mp z;rw[q]at hv;exact Xc (vX hv)
section
variable{cl:Cl}{cs a:List C}{r:aC}{S S1:bq}{R:Option Fl->Prop}{e:E}{j k:Nat}
theorem oV{α:Type}(inj:α->D)(I:List α->aC->bq->Prop)(hstep:∀x ys r S,I (x::ys) r S->Runs cl a (r.set j (af (inj x))) S λo=>∃r' S',o=af (.next r' S')/\I ys r' S'):
  ∀(xs:List α)(r:aC)(S:bq),I xs r S->∃r' S',forLoop (λr S=>eS cl a r S) (.name j) (xs.map inj) r S=af (.next r' S')/\I [] r' S'
 |[],r,S,h=>⟨r,S,rfl,h⟩|x::xs,r,S,h=>by have q:=hstep x xs r S h;unfold Runs at q;obtain⟨r1,S1,e1,h1⟩:=q;obtain⟨r2,S2,e2,h2⟩:=oV inj I hstep xs r1 S1 h1;refine⟨r2,S2,?_,h2⟩;simp only[U0,forLoop,cz,e1,BE];exact e2
def wj{α:Type}(inj:α->D){xs:List α}{kvs:List (L2.Key×D)}(h:ak cl e r S=af (.ok (.ref k) S1))(hk:S1[k]?=af (.dct kvs))(hx:(kvs.map λp=>sQ p.1)=xs.map inj)(I:List α->aC->bq->Prop)(h0:I xs r (S1.set k (.x9 kvs)))(hstep:∀x ys r S,I (x::ys) r S->Runs cl a (r.set j (af (inj x))) S λo=>∃r' S',o=af (.next r' S')/\I ys r' S')(hend:∀r S,I [] r S->∃kvs',S[k]?=af (.x9 kvs')/\Runs cl cs r (S.set k (.dct kvs')) R):Runs cl (.CB (.name j) e a::cs) r S R:=by
 obtain⟨r2,S2,e2,h2⟩:=oV (cl:=cl) (a:=a) (j:=j) inj I hstep xs r _ h0;obtain⟨kvs',e3,k3⟩:=hend r2 S2 h2;unfold Runs at k3 ⊢;have q:runC cl (.CB (.name j) e a) r S=af (.next r2 (S2.set k (.dct kvs'))):=by show fN _ _ _=_;simp only[h,dU,hk,hx,e2,gC,G0,e3,Ws]
 rw[cF,q,cW];exact k3
theorem nu{ds:List D}(I:List D->aC->bq->Prop)(hg:∀ys r S,I ys r S->S[k]?=af (.lst ds))(hstep:∀x ys r S,I (x::ys) r S->Runs cl a (r.set j (af x)) S λo=>∃r' S',o=af (.next r' S')/\I ys r' S'):
  ∀(xs:List D)(r:aC)(S:bq),I xs r S->∃r' S',eZ (λr S=>eS cl a r S) (.name j) k ds xs r S=af (.next r' S')/\I [] r' S'
 |[],r,S,h=>⟨r,S,rfl,h⟩|x::xs,r,S,h=>by have q:=hstep x xs r S h;unfold Runs at q;obtain⟨r1,S1,e1,h1⟩:=q;obtain⟨r2,S2,e2,h2⟩:=nu I hg hstep xs r1 S1 h1;refine⟨r2,S2,?_,h2⟩;simp only[eZ,cz,e1,BE,if_pos (hg _ _ _ h1)];exact e2
def wk{ds:List D}(h:ak cl e r S=af (.ok (.ref k) S1))(hk:S1[k]?=af (.lst ds))(I:List D->aC->bq->Prop)(h0:I ds r S1)(hg:∀ys r S,I ys r S->S[k]?=af (.lst ds))(hstep:∀x ys r S,I (x::ys) r S->Runs cl a (r.set j (af x)) S λo=>∃r' S',o=af (.next r' S')/\I ys r' S')(hend:∀r S,I [] r S->Runs cl cs r S R):Runs cl (.CB (.name j) e a::cs) r S R:=by
 obtain⟨r2,S2,e2,h2⟩:=nu (cl:=cl) (a:=a) (j:=j) I hg hstep ds r _ h0;have k3:=hend r2 S2 h2;unfold Runs at k3 ⊢;have q:runC cl (.CB (.name j) e a) r S=af (.next r2 S2):=by show fN _ _ _=_;simp only[h,dU,hk,e2]
 rw[cF,q,cW];exact k3
def FW{as:List E}{n:Nat}{kvs:List (L2.Key×D)}{S2 S3:bq}{ds:List D}{d:D}{a:E}(h1:ak cl a r S=af (.ok (.ref n) S1))(h2:S1[n]?=af (.dct kvs))(h3:aG cl as r S1=af (.ok ds S2))(h4:mj n ds S2=af (.ok d S3)):
  ak cl (.F6 a as) r S=af (.ok d S3):=by
 show bnd _ _=_;simp_all
def set_same{S:bq}{i:Nat}{o o':SO}(h:S[i]?=af o):(S.set i o').set i o=S:=by rw[kT];obtain⟨hi,e⟩:=UL.mp h;rw[←e];simp
end
end RV
namespace K05
open PySem L2 RK RV
section
variable{k:Nat}{S:bq}
def Sh{n:Int}(h0:0<=n)(h1:n<=64):ao fns (k+1) 0 [.int n] S=af (.ok (.int (sz n)) S):=
 call_of (fs:=⟨1,3,b0⟩) rfl rfl (pL h0 h1) (by simp) trivial
def yP{b:Int}{h:D}(h0:0<=b)(h1:b<=64):ao fns (k+2) 1 [.tup [.int b,h]] S=af (.ok (.int (sz b)) S):=
 call_of (fs:=⟨1,1,b1⟩) rfl rfl (qG (λn a b=>Sh a b) h0 h1) (by simp) trivial
def LQ{b key:Int}{hs:List Int}(h2:2<=b)(h7:b<=7):ao fns (k+3) 2 [au b hs,.int key] S=af (.ok (.int (place hs (key % sz b))) S):=
 call_of (fs:=⟨2,5,b2⟩) rfl rfl (rO (yP (by lia) (by lia)) h2 h7) (by simp) trivial
def nA{b key cp:Int}{hs:List Int}(hR:zd b hs)(hl:hs.length<=100)(hc:0<=cp):ao fns (k+4) 3 [au b hs,.int key,.int cp] S=af (.ok (.tup (aq ((bD hs (key % sz b)).take cp.toNat))) S):=
 call_of (fs:=⟨3,6,b3⟩) rfl rfl (wX (LQ (k:=k) hR.b2 hR.b7) hR.ne (by lia) hc) (by simp) (bF _)
def Qx{b spot:Int}{hs:List Int}(g2:2<=b)(g7:b<=7)(h0:0<=spot/\spot<sz b):ao fns (k+3) 4 [au b hs,.int spot] S=af (.ok .non S):=
 Fp (fs:=⟨2,2,b4⟩) rfl rfl (Ir (yP (by lia) (by lia)) h0)
def Qy{b spot:Int}{hs:List Int}(hR:zd b hs)(h0:0<=spot/\spot<sz b)(hx:spot∉hs)(hl:hs.length<60):ao fns (k+4) 5 [au b hs,.int spot] S=af (.ok (au b (with1 hs spot)) S):=
 call_of (fs:=⟨2,3,b5⟩) rfl rfl (Iu (Qx hR.b2 hR.b7 h0) hx hR.ne hl) (by simp) ⟨trivial,bF _,trivial⟩
def Qz{b spot:Int}{hs:List Int}(hin:spot∈hs)(h1:1<hs.length)(hl:hs.length<60):ao fns (k+1) 6 [au b hs,.int spot] S=af (.ok (au b (bT hs spot)) S):=
 call_of (fs:=⟨2,3,b6⟩) rfl rfl (Iw hin h1 hl) (by simp) ⟨trivial,bF _,trivial⟩
def QB{b:Int}{hs gone:List Int}(hg:∀g∈gone,g∈hs)(hne:RV.rest hs gone≠ [])(hl:hs.length<=1000):ao fns (k+1) 7 [au b hs,.tup (aq gone)] S=af (.ok (au b (RV.rest hs gone)) S):=
 call_of (fs:=⟨2,4,b7⟩) rfl rfl (IV hg hne hl) (by simp) ⟨trivial,bF _,trivial⟩
def FZ{ns:List Int}{i:Int}(h0:0<=i):∃v,∀k S,ao fns (k+1) 27 [.AN ns,.int i] S=af (.ok (.int v) S):=by
 by_cases h:i<ns.length
 ·have hi:i.toNat<ns.length:=by lia
  refine⟨ns[i.toNat],λk S=>call_of (fs:=⟨2,2,Kn⟩) (S':=S) rfl rfl ?_ (by simp) trivial⟩;unfold Kn;simp only[U0,Vg,U5,Vj,bE,Uy,Uu,UT,dP,dQ,Vm,Vz];have hlen:DT .len [.AN ns] S=af (.ok (.int ns.length) S):=by rw[jf Bk,UG]
  refine bO (S1:=S) (aP (x:= .bl (decide (i<(ns.length:Int)))) (aM (aa rfl) (fZ (aj (aa rfl) az) hlen) Bg) (by simp[aZ,h])) ?_;simp only[Uy,Uu];exact aH (aQ (aa rfl) (aa rfl) Bk (NH h0 (by simp[hi]))) rfl
 ·refine⟨0,λk S=>call_of (fs:=⟨2,2,Kn⟩) (S':=S) rfl rfl ?_ (by simp) trivial⟩;unfold Kn;simp only[U0,Vg,U5,Vj,bE,Uy,Uu,UT,dP,dQ,Vm,Vz];have hlen:DT .len [.AN ns] S=af (.ok (.int ns.length) S):=by rw[jf Bk,UG]
  refine aK (S1:=S) (aP (x:= .bl (decide (i<(ns.length:Int)))) (aM (aa rfl) (fZ (aj (aa rfl) az) hlen) Bg) (by simp[aZ,h])) ?_;simp only[Uu];exact aH aA rfl
def jL{c p m:Int}(hp:0<p)(hm:0<m):ao fns (k+1) 28 [.int c,.int p,.int m] S=af (.ok (.int (mix c p m)) S):=
 call_of (fs:=⟨3,3,Pe⟩) rfl rfl (wV hp hm) (by simp) trivial
def QC{c most:Int}(h1:1<=most)(h12:most<=12):∃b hs,zd b hs/\(hs.length:Int)<=most/\ao fns (k+2) 29 [.int c,.int most] S=af (.ok (au b hs) S):=by obtain⟨b,hs,S',hR,hl,h,ht⟩:=vQ (cl:=ao fns (k+1)) (S:=S) (mx:=28) (c:=c) (λc p m S hp hm=>jL hp hm) h1 h12;exact⟨b,hs,hR,hl,call_of (fs:=⟨2,8,Pf⟩) rfl rfl h ht ⟨trivial,bF _,trivial⟩⟩
variable{p pk:Nat}{b cp key v:Int}{hs:List Int}{q:Int->Nat}
def QD(hn:hs.Nodup)(hl:hs.length<=1000):ao fns (k+1) 13 [.ref S.length,au b hs,.int cp] (S++ [.ins bZ []])=af (.ok .non (A5 S b hs cp hs)):=by
 have hob:(A5 S b hs cp hs)[S.length]?=af (.ins bZ (qM b hs cp (S.length+1))):=(FN hn).ob;refine FJ (fs:=⟨3,4,Si⟩) (i:=S.length) rfl rfl (FP hn hl) (by simp) hob ?_ ?_
 ·intro z;have w:=z (jK,D.ref (S.length+1)) (by simp);simp[oj]at w
 ·rw[lS];simp
variable{ks:List Int}{W:Int->Int->Option Int}{al:List Int}
structure nv(al:List Int)(S:bq)(pk:Nat)(ks:List Int)(q:Int->Nat)(W:Int->Int->Option Int):Prop where
 kp:S[pk]?=af (.dct (sM ks q))
 nt:∀h∈ks,∃N,S[q h]?=af (.dct N)/\DI N (W h)
 inj:∀h∈ks,∀h'∈ks,q h=q h'->h=h'
 dq:∀h∈ks,q h≠pk
 nk:ks.Nodup
 lk:ks.length<=13
 bd:∀h∈ks,∀k,(W h k).isSome=av->k∈al
 la:al.length<=24
structure kP(al:List Int)(S:bq)(p pk:Nat)(b:Int)(hs:List Int)(cp:Int)(ks:List Int)(q:Int->Nat)(W:Int->Int->Option Int):Prop where
 ob:S[p]?=af (.ins bZ (qM b hs cp pk))
 B:nv al S pk ks q W
theorem kP.kp(K:kP al S p pk b hs cp ks q W):S[pk]?=af (.dct (sM ks q)):=K.B.kp
theorem kP.nt(K:kP al S p pk b hs cp ks q W):∀h∈ks,∃N,S[q h]?=af (.dct N)/\DI N (W h):=K.B.nt
theorem kP.dq(K:kP al S p pk b hs cp ks q W):∀h∈ks,q h≠pk:=K.B.dq
theorem kP.nk(K:kP al S p pk b hs cp ks q W):ks.Nodup:=K.B.nk
theorem kP.lk(K:kP al S p pk b hs cp ks q W):ks.length<=13:=K.B.lk
theorem kP.bd(K:kP al S p pk b hs cp ks q W):∀h∈ks,∀k,(W h k).isSome=av->k∈al:=K.B.bd
theorem kP.la(K:kP al S p pk b hs cp ks q W):al.length<=24:=K.B.la
def nv.to{S':bq}(B:nv al S pk ks q W)(m:∀i,i=pk\/(∃h∈ks,i=q h)->S'[i]?=S[i]?):nv al S' pk ks q W:=
 ⟨(m pk (.inl rfl)).trans B.kp,λh hh=>by
  obtain⟨N,n1,n2⟩:=B.nt h hh;exact⟨N,(m _ (.inr ⟨h,hh,rfl⟩)).trans n1,n2⟩,B.inj,B.dq,B.nk,B.lk,B.bd,B.la⟩
def nv.push(B:nv al S pk ks q W)(T:bq):nv al (S++T) pk ks q W:=B.to λi hi=>by
 refine UV ?_;rcases hi with rfl|⟨h,hh,rfl⟩
 ·exact bJ B.kp
 ·obtain⟨N,n1,_⟩:=B.nt h hh;exact bJ n1
theorem kP.push(K:kP al S p pk b hs cp ks q W)(T:bq):kP al (S++T) p pk b hs cp ks q W:=⟨gh K.ob,K.B.push T⟩
def C5(W:Int->Int->Option Int)(x key:Int)(o:Option Int):Int->Int->Option Int:=λh k=>if h=x/\k=key then o else W h k
def wu{x:Int}{o:Option Int}:C5 W x key o x=λy=>if y=key then o else W x y:=by funext y;unfold C5;simp
def Ga{x y:Int}{o:Option Int}(h:y≠x):C5 W x key o y=W y:=by funext z;unfold C5;simp[h]
theorem nv.put(K:nv al S pk ks q W){x i:Int}(hx:x∈ks)(hk:key∈al){N:List (L2.Key×D)}(h1:S[q x]?=af (.dct N))(h2:DI N (W x)):
  nv al (S.set (q x) (.dct (putD N (.inl key) (.int i)))) pk ks q (C5 W x key (af i)):=by
 refine⟨RV.cR K.kp (K.dq x hx),λy hy=>?_,K.inj,K.dq,K.nk,K.lk,λy hy z hz=>?_,K.la⟩
 ·by_cases e:y=x
  ·subst e;rw[wu];exact⟨_,du h1,h2.put key i⟩
  ·obtain⟨N',n1,n2⟩:=K.nt y hy;rw[Ga e];exact⟨N',RV.cR n1 (λz=>e (K.inj x hx y hy z).symm),n2⟩
 ·unfold C5 at hz;split at hz
  ·lia
  ·exact K.bd y hy z hz
theorem nv.drop(K:nv al S pk ks q W){x:Int}(hx:x∈ks){N:List (L2.Key×D)}(h1:S[q x]?=af (.dct N))(h2:DI N (W x)):
  nv al (S.set (q x) (.dct (N.filter λkv=>decide (kv.1≠ .inl key)))) pk ks q (C5 W x key ah):=by
 refine⟨RV.cR K.kp (K.dq x hx),λy hy=>?_,K.inj,K.dq,K.nk,K.lk,λy hy z hz=>?_,K.la⟩
 ·by_cases e:y=x
  ·subst e;rw[wu];exact⟨_,du h1,h2.drop key⟩
  ·obtain⟨N',n1,n2⟩:=K.nt y hy;rw[Ga e];exact⟨N',RV.cR n1 (λz=>e (K.inj x hx y hy z).symm),n2⟩
 ·unfold C5 at hz;split at hz
  ·cases hz
  ·exact K.bd y hy z hz
def Js{ks al:List Int}(hn:ks.Nodup)(hl:∀y∈ks,y∈al)(h:al.length<=24):ks.length<=24:=Vp (RV.dg ks al hn hl) h
def Sq{N:List (L2.Key×D)}{f:Int->Option Int}(h:DI N f)(hb:∀k,(f k).isSome=av->k∈al)(hl:al.length<=24):N.length<=24:=by obtain⟨ks,e,nd,m⟩:=h.keys;have:=Js nd (λy hy=>hb y ((m y).mp hy)) hl;have e:=VJ e9 e;simp only[UG]at e;lia
def uf(K:nv al S pk ks q W){x:Int}(hx:x∈ks){N:List (L2.Key×D)}(h2:DI N (W x)):N.length<=24:=Sq h2 (K.bd x hx) K.la
def dH(K:nv al S pk ks q W){cl:Cl}{r:aC}{a e:E}{x:Int}(ha:ak cl a r S=af (.ok (.ref pk) S))(he:ak cl e r S=af (.ok (.int x) S))(hx:x∈ks):ak cl (E.ix a e) r S=af (.ok (.ref (q x)) S):=
 j5 ha he (eG K.kp) rfl (j9 hx)
def dz(K:kP al S p pk b hs cp ks q W){cl:Cl}{r:aC}{a:E}(ha:ak cl a r S=af (.ok (.ref p) S)):ak cl (E.fld bZ jK a) r S=af (.ok (.ref pk) S):=mX ha K.ob rfl
def dM(K:kP al S p pk b hs cp ks q W){cl:Cl}{r:aC}{a:E}(ha:ak cl a r S=af (.ok (.ref p) S)):ak cl (E.fld bZ lH a) r S=af (.ok (au b hs) S):=mX ha K.ob rfl
def yQ(K:kP al S p pk b hs cp ks q W){cl:Cl}{r:aC}{a:E}(ha:ak cl a r S=af (.ok (.ref p) S)):ak cl (E.fld bZ jm a) r S=af (.ok (.int cp) S):=mX ha K.ob rfl
def lJ(K:nv al S pk ks q W){x:Int}(hx:x∈ks):kM .In (.int key) (.ref (q x)) S=af (.ok (.bl (W x key).isSome) S):=by obtain⟨N,n1,n2⟩:=K.nt x hx;have:=R9 (x:= .int key) (k:= .inl key) (eG n1) rfl;rw[n2.va key,Xk]at this;exact this
def Gb(K:nv al S pk ks q W){x:Int}(hx:x∈ks):kM .NotIn (.int key) (.ref (q x)) S=af (.ok (.bl (!(W x key).isSome)) S):=by obtain⟨N,n1,n2⟩:=K.nt x hx;have:=Ez (x:= .int key) (k:= .inl key) (eG n1) rfl;rw[n2.va key,Xk]at this;exact this
def rQ{T:bq}{n:Nat}{o:SO}(h:T.length=n):(T++ [o])[n]?=af o:=by subst h;exact lS _ _
def ww{T:bq}{n:Nat}{o o':SO}(h:T.length=n):(T++ [o]).set n o'=T++ [o']:=by subst h;exact kj ..
def wy:((sM ks q).map λp=>sQ p.1)=aq ks:=by simp[sM,W2,sQ]
def Jt{N:List (L2.Key×D)}{fs:List Int}(h:N.map (·.1)=fs.map Sum.inl):(N.map λp=>sQ p.1)=aq fs:=by have:=VJ (A7 sQ) h;simpa[W2,sQ]using this
def Ju{Nf:List (L2.Key×D)}(nd:(Nf.map (·.1)).Nodup)(ki:∀kv∈Nf,∃k,kv.1=Sum.inl k)(hb:∀y,(Sum.inl y:L2.Key)∈Nf.map (·.1)->y∈al)(hal:al.length<=24):∃fs:List Int,Nf.map (·.1)=fs.map Sum.inl/\fs.Nodup/\fs.length<=24/\Nf.length<=24:=by obtain⟨fs,e⟩:=nj ki;rw[e]at nd;have l:=Js (wg nd) (λy hy=>hb y (by simp_all)) hal;have:=VJ e9 e;simp only[UG]at this;exact⟨fs,e,wg nd,l,by lia⟩
def LR{fs:List Int}{y:Int}:(Sum.inl y:L2.Key)∈fs.map Sum.inl ↔ y∈fs:=
 ⟨λz=>by
  simp_all,λz=>Xc z⟩
def Ma{N:List (L2.Key×D)}{k k':L2.Key}{d:D}:k'∈(putD N k d).map (·.1) ↔ k'∈N.map (·.1)\/k'=k:=by
 rcases C4 (N:=N) (k:=k) (d:=d)with⟨h,e⟩|⟨_,e⟩<;>rw[e]
 ·exact⟨.inl,λz=>z.elim id λw=>w▸h⟩
 ·simp
def nC(N:List (L2.Key×D))(P:Int->Prop):Prop:=(N.map (·.1)).Nodup/\(∀kv∈N,∃k,kv.1=Sum.inl k)/\∀y,(Sum.inl y:L2.Key)∈N.map (·.1) ↔ P y
def nD{cl:Cl}{cs:List C}{r:aC}{Q:Option Fl->Prop}{S1:bq}{e:E}{i j n m:Nat}{N Nf:List (L2.Key×D)}{f:Int->Option Int}{P:Int->Prop}(he:ak cl e r S=af (.ok (.ref n) S1))(hn:S1[n]?=af (.dct N))(hN:DI N f)(hm:S1[m]?=af (.dct Nf))(hF:nC Nf P)(hi:r[i]?=af (af (.ref m)))(hij:i≠j)(hj:j<r.length)(hb:∀y,P y\/(f y).isSome=av->y∈al)(hl:al.length<=24)(hnm:n≠m)(kk:∀o GI,nC GI (λy=>P y\/(f y).isSome=av)->RV.Runs cl cs (r.set j o) (S1.set m (.dct GI)) Q):RV.Runs cl (.CB (.name j) e [C.sub (E.var i) (E.var j) (E.cst (D.bl av))]::cs) r S Q:=by
 obtain⟨kx,e1,Ym,Sj⟩:=hN.keys;refine wj D.int (xs:=kx) (k:=n) he hn (Jt e1) (λys r' S'=>∃pre Nf o,pre++ys=kx/\S'=(S1.set n (.x9 N)).set m (.dct Nf)/\nC Nf (λy=>P y\/y∈pre)/\r'=r.set j o)
  ⟨[],Nf,r[j],rfl,(Qv (RV.cR hm hnm)).symm,⟨hF.1,hF.2.1,λy=>by rw[hF.2.2];simp⟩,(i8 hj).symm⟩ ?_ ?_
 ·rintro y ys r' S' ⟨pre,Nf,o,hp,rfl,⟨nd,ki,mem⟩,rfl⟩;obtain⟨_,_,_,_,WV⟩:=Ju nd ki (λz hz=>hb z (((mem z).mp hz).imp id λw=>(Sj z).mp (by rw[←hp];simp[w]))) hl;have hm':((S1.set n (.x9 N)).set m (.dct Nf))[m]?=af (.dct Nf):=du (RV.cR hm hnm);have hz:Nf.length<sizeLine:=by simp only[aT];lia
  rw[kT];refine gH (d:= .bl av) (x:= .ref m) (y:= .int y) aA (aa (by rw[U6 (Ne.symm hij)];exact hi)) (aa (Vy hj)) (by simp only[RK.putAt,hm',cX,if_pos hz];rfl) (aJ ⟨_,_,rfl,pre++ [y],putD Nf (.inl y) (.bl av),_,by rw[←hp];simp,kT _,⟨FQ nd,FT ki,λz=>?_⟩,rfl⟩);rw[Ma,mem,Sum.inl.injEq];show(P z\/z∈pre)\/z=y ↔ P z\/z∈pre++ [y];rw[Vt,VM,or_assoc]
 ·rintro r' S' ⟨pre,Nf,o,hp,rfl,⟨nd,ki,mem⟩,rfl⟩;rw[UT]at hp;subst hp;refine⟨N,RV.cR (du hn) (Ne.symm hnm),?_⟩;rw[List.set_comm _ _ (Ne.symm hnm),set_same hn];exact kk o Nf ⟨nd,ki,λy=>(mem y).trans (or_congr Iff.rfl (Sj y))⟩
def pN{cl:Cl}{r:aC}{e:E}{m:Nat}{N:List (L2.Key×D)}{P:Int->Prop}(he:ak cl e r S=af (.ok (.ref m) S))(hm:S[m]?=af (.dct N))(hF:nC N P)(hb:∀y,P y->y∈al)(hl:al.length<=24):
  ∃ys:List Int,ys.Pairwise (·<·)/\(∀y,y∈ys ↔ P y)/\ys.length<=24/\ak cl (E.col (AU.sorted aS) (It.live e)) r S=af (.ok (.lst (aq ys)) S):=by
 obtain⟨fs,e1,LA,fl,_⟩:=Ju hF.1 hF.2.1 (λz hz=>hb z ((hF.2.2 z).mp hz)) hl;have hsl:(sortI fs).length<=24:=by rw[(RV.sortI_perm _).length_eq];exact fl
 exact⟨sortI fs,jA LA,λy=>by rw[(RV.sortI_perm _).mem_iff,←hF.2.2,e1,LR],hsl,f9 (ds:=aq fs) (by rw[←Jt e1];exact yE he hm) (gb (by lia)) (by simp only[UG,aT];lia)⟩
def Gd(K:kP al S p pk b hs cp ks q W):∃ys:List Int,ys.Pairwise (·<·)/\(∀y,y∈ys ↔ ∃h∈ks,(W h y).isSome=av)/\ys.length<=24/\ao fns (k+1) 8 [.ref pk] S=af (.ok (.lst (aq ys)) S):=by
 have IG:=bJ K.kp
 suffices hw:RV.Runs (ao fns k) b8 [af (.ref pk),ah,ah,ah] S λo=>∃ys:List Int,ys.Pairwise (·<·)/\(∀y,y∈ys ↔ ∃h∈ks,(W h y).isSome=av)/\ys.length<=24/\∃Nf,o=af (.ret (.lst (aq ys)) (S++ [.dct Nf])) by unfold RV.Runs at hw;obtain⟨ys,D0,mem,yl,Nf,e3⟩:=hw;exact⟨ys,D0,mem,yl,call_of (fs:=⟨1,4,b8⟩) (S':=S++ [.dct Nf]) rfl rfl (by unfold RV.Runs;exact e3) (by simp) (bF _)⟩
 unfold b8;refine aD gw rfl ?_;simp only[bP];have hl1:(S.set pk (.x9 (sM ks q))).length=S.length:=WR;refine wj D.int (xs:=ks) (k:=pk) (aa rfl) (gh K.kp) wy (λxs r S'=>∃pre Nf v2 v3,pre++xs=ks/\S'=S.set pk (.x9 (sM ks q))++ [.dct Nf]/\nC Nf (λy=>∃h∈pre,(W h y).isSome=av)/\r=[af (.ref pk),af (.ref S.length),v2,v3])
  ⟨[],[],ah,ah,rfl,by simp_all,⟨by simp,λkv h=>absurd h (by simp),λy=>by simp⟩,rfl⟩ ?_ ?_
 ·rintro x xs r S' ⟨pre,Nf,v2,v3,hp,rfl,hF,rfl⟩;have hx:x∈ks:=by rw[←hp];simp
  obtain⟨N,n1,n2⟩:=K.nt x hx;have Yn:=bJ n1;have WZ:(S.set pk (.x9 (sM ks q)))[q x]?=af (.dct N):=RV.cR n1 (Ne.symm (K.dq x hx));simp only[bP];refine nD (m:=S.length) (j5 (x:= .ref pk) (kvs:=sM ks q) (aa rfl) (aa rfl) ?_ rfl (j9 hx)) (gh WZ) n2 (rQ hl1) hF rfl (by lia) (by simp) (λy hy=>hy.elim (λ⟨h,hh,w⟩=>K.bd h (by grind) y w) (K.bd x hx y)) K.la (by lia) λo GI hF'=>?_
  ·simp only[cL,UV (show pk<(S.set pk (.x9 (sM ks q))).length by rw[hl1];exact IG),du K.kp]
  rw[ww hl1];simp only[bP];refine aJ ⟨_,_,rfl,pre++ [x],GI,_,_,by rw[←hp];simp,rfl,⟨hF'.1,hF'.2.1,λy=>?_⟩,rfl⟩;rw[hF'.2.2];simp
 ·rintro r S' ⟨pre,Nf,v2,v3,hp,rfl,hF,rfl⟩;rw[UT]at hp;subst hp;refine⟨sM pre q,?_,?_⟩
  ·rw[UV (by rw[hl1];exact IG)];exact du K.kp
  ·rw[List.set_append_left _ _ (by rw[hl1];exact IG),set_same K.kp];obtain⟨ys,y1,y2,y3,y4⟩:=pN (cl:=ao fns k) (r:=[af (.ref pk),af (.ref S.length),v2,v3]) (e:=E.var 1) (S:=S++ [.dct Nf]) (aa rfl) (lS _ _) hF (λy ⟨h,hh,w⟩=>K.bd h hh y w) K.la;exact aH y4 ⟨ys,y1,y2,y3,Nf,rfl⟩
def CH(W:Int->Int->Option Int)(b:Int)(hs:List Int)(y:Int):Option Int:=(bD hs (y % sz b)).find? λh=>(W h y).isSome
def lK:Option Int->D
 |some g=> .int g|none=> .non
def wz{g:Int}(h:CH W b hs key=af g):g∈hs/\(W g key).isSome=true:=by have h1:=kL h;have h2:=we h;exact⟨(dG _ _).mem_iff.mp h1,h2⟩
def Ge(h:∃h∈hs,(W h key).isSome=av):∃g,CH W b hs key=af g:=by
 obtain⟨h,hh,z⟩:=h;cases e:CH W b hs key with|some g=>lia|none=>exact absurd z (List.find?_eq_none.mp e h ((dG _ _).mem_iff.mpr hh))
def yR{hs':List Int}(K:kP al S p pk b hs cp ks q W)(hR:zd b hs')(hsub:∀h∈hs',h∈ks)(hl:hs'.length<=13):ao fns (k+5) 9 [au b hs',.ref pk,.int key] S=af (.ok (lK (CH W b hs' key)) S):=by
 obtain⟨o,ho,c⟩:=H9 (k:=k+4) (f:=9) (as:=[au b hs',.ref pk,.int key]) (S:=S) (fs:=⟨3,4,b9⟩) (P:=λo=>o=lK (CH W b hs' key)) rfl rfl (by
  unfold b9;simp only[U0,Vg,U5,Vj,bE,Uy,Uu,UT,dP,dQ,Vm,Vz];have hpm:=dG hs' (key % sz b);have C2:DT .len [.tup (aq hs')] S=af (.ok (.int hs'.length) S):=by rw[jf aW,UG]
  have Sk:=nA (k:=k) (S:=S) (key:=key) (cp:=(hs'.length:Int)) hR (by lia) (by lia);rw[show((hs'.length:Int)).toNat=hs'.length by lia,V7 (by rw[jB];lia)]at Sk;refine bx (α:=Int) D.int (xs:=bD hs' (key % sz b)) (S1:=S) (cu (aO (aj (aa rfl) (aj (aa rfl) (aj (fZ (aj (aQ (aa rfl) aA aW AE) az) C2) az))) Sk)) (λys r S'=>S'=S/\CH W b hs' key=ys.find? (λh=>(W h key).isSome)/\∃v,r=[af (au b hs'),af (.ref pk),af (.int key),v]) ⟨rfl,rfl,ah,rfl⟩ ?_ ?_
  ·rintro r S' ⟨rfl,hn,v,rfl⟩;exact aH aA ⟨.non,by show _=lK _;rw[hn];rfl,trivial,rfl⟩
  rintro x ys r S' ⟨pre,hp⟩ ⟨rfl,hn,v,rfl⟩;have hx:x∈hs':=hpm.mem_iff.mp (by rw[←hp];simp);simp only[bP];refine cH (t:=(W x key).isSome) (S1:=S') (aP (x:= .bl _) (aM (aa rfl) (dH K.B (aa rfl) (aa rfl) (hsub x hx)) (lJ K.B (hsub x hx))) aZ) (λe=>?_) (λe=>?_)
  ·exact aH (aa rfl) ⟨.int x,by show _=lK _;rw[hn];simp[e,lK],trivial,rfl⟩
  ·exact aJ ⟨rfl,by rw[hn];simp[e],_,rfl⟩)
 rw[←ho];exact c
end
section
variable{k:Nat}{S:bq}{p pk:Nat}{b cp key:Int}{hs:List Int}{q:Int->Nat}{ks:List Int}{W:Int->Int->Option Int}{al:List Int}{u:Int->Option Int}
def EO(W:Int->Int->Option Int)(key g:Int)(tk:List Int)(h:Int):List (List Int):=
 (if((W h key).isSome && !decide (h∈tk))=av then[[key,0,h]]else[])++(if(!(W h key).isSome && decide (h∈tk))=av then[[key,1,g,h]]else[])
def AG(W:Int->Int->Option Int)(key g:Int)(tk hs:List Int):List (List Int):=hs.flatMap (EO W key g tk)
def yS{g h:Int}{tk:List Int}:(EO W key g tk h).length<=1:=by unfold EO;cases(W h key).isSome<;>cases decide (h∈tk)<;>simp
theorem yU{g:Int}{tk:List Int}:∀hs:List Int,(AG W key g tk hs).length<=hs.length
 |[]=>by simp[AG]|h::hs=>by have:=yU (g:=g) (tk:=tk) hs;have:=yS (W:=W) (key:=key) (g:=g) (tk:=tk) (h:=h);simp only[AG,List.flatMap_cons,Vh,U5]at*;lia
def km{cl:Cl}{r:aC}{i n:Nat}{ls:List D}{e:E}{d:D}(hr:r[i]?=af (af (.ref n)))(hp:S[n]?=af (.lst ls))(he:ak cl e r S=af (.ok d S))(hl:ls.length<100000):
  ak cl (E.meth (Mt.append) (E.var i) [e]) r S=af (.ok .non (S.set n (.lst (ls++ [d])))):=by
 refine rH (S1:=S) (S2:=S) (n:=n) (ls:=ls) (ds:=[d]) (aa hr) hp (aj he az) ?_;have hl':ls.length<sizeLine:=by simp only[aT];lia
 simp only[jE,F7,nP,dN,hp,if_pos hl',bR]
theorem nF{n:Nat}(rs:List (List Int)):oj.clos n (rs.map aL):=jy.mpr λd hd=>by
 obtain⟨r,_,rfl⟩:=Va.mp hd;cases r with
 |nil=>exact trivial|cons a s=>
  cases s with|nil=>exact trivial|cons c ns=>exact⟨trivial,trivial,bF _⟩
def Mf{tk:List Int}{g:Int}(K:kP al S p pk b hs cp ks q W)(hR:zd b hs)(hsub:∀h∈hs,h∈ks)(hl:hs.length<=13)(hg:CH W b hs key=af g):
  ao fns (k+6) 10 [au b hs,.ref pk,.int key,.tup (aq tk)] S=af (.ok (.lst ((AG W key g tk hs).map aL)) S):=by
 have hf:=yR (k:=k) (key:=key) K hR hsub hl;rw[hg]at hf;refine H8 (fs:=⟨4,7,Nc⟩) rfl rfl ?_ (nF _);unfold Nc;simp only[U0,Vg,U5,Vj,bE,Uy,Uu,UT,dP,dQ,Vm,Vz];refine aD (aO (aj (aa rfl) (aj (aa rfl) (aj (aa rfl) az))) hf) rfl ?_;simp only[bP];refine aD (d:= .ref S.length) (S1:=S++ [SO.lst []]) (j4 az (by simp[aT])) rfl ?_;simp only[bP];refine bx (α:=Int) D.int (xs:=hs) (S1:=S++ [SO.lst []]) (cu (aQ (aa rfl) aA aW AE)) (λys r S'=>∃pre v6,pre++ys=hs/\S'=S++ [SO.lst ((AG W key g tk pre).map aL)]/\r=[af (au b hs),af (.ref pk),af (.int key),af (.tup (aq tk)),af (.int g),af (.ref S.length),v6]) ⟨[],ah,rfl,rfl,rfl⟩ ?_ ?_
 ·rintro r S' ⟨pre,v6,hp,rfl,rfl⟩;rw[UT]at hp;subst hp;exact aH (aa rfl) ⟨_,_,rfl,.inr ⟨_,rfl,Uz _,lS _ _⟩,by simp⟩
 rintro x ys r S' _ ⟨pre,v6,hp,rfl,rfl⟩;have hx:x∈ks:=hsub x (by grind);have hpl:pre.length<=13:=by have:=VJ e9 hp;simp at this;lia
 have hll:=yU (W:=W) (key:=key) (g:=g) (tk:=tk) pre;obtain⟨ls,els⟩:∃ls,ls=(AG W key g tk pre).map aL:=⟨_,rfl⟩
 have Yo:ls.length<=13:=by rw[els,UG];lia
 have Mb:(AG W key g tk (pre++ [x])).map aL=ls++(EO W key g tk x).map aL:=by rw[els,AG,AG,List.flatMap_append,Xu];simp
 rw[←els];have K':=K.push [SO.lst ls];simp only[bP];have t1:bu (ao fns (k+5)) (T.and (T.val (E.cmp (CmpOp.In) (E.var 2) (E.ix (E.var 1) (E.var 6)))) (T.val (E.cmp (CmpOp.NotIn) (E.var 6) (E.var 3)))) [af (au b hs),af (.ref pk),af (.int key),af (.tup (aq tk)),af (.int g),af (.ref S.length),af (.int x)] (S++ [SO.lst ls])=af (.ok ((W x key).isSome && !decide (x∈tk)) (S++ [SO.lst ls])):=
  iT (aP (x:= .bl _) (aM (aa rfl) (dH K'.B (aa rfl) (aa rfl) hx) (lJ K'.B hx)) aZ) λ_=>aP (x:= .bl _) (aM (aa rfl) (aa rfl) (gZ gf)) aZ
 have t2:∀ls',bu (ao fns (k+5)) (T.and (T.val (E.cmp (CmpOp.NotIn) (E.var 2) (E.ix (E.var 1) (E.var 6)))) (T.val (E.cmp (CmpOp.In) (E.var 6) (E.var 3)))) [af (au b hs),af (.ref pk),af (.int key),af (.tup (aq tk)),af (.int g),af (.ref S.length),af (.int x)] (S++ [SO.lst ls'])=af (.ok (!(W x key).isSome && decide (x∈tk)) (S++ [SO.lst ls'])):=λls'=>iT (aP (x:= .bl _) (aM (aa rfl) (dH (K.push [SO.lst ls']).B (aa rfl) (aa rfl) hx) (Gb (K.push [SO.lst ls']).B hx)) aZ) λ_=>aP (x:= .bl _) (aM (aa rfl) (aa rfl) (Bf gf)) aZ
 have fin:∀(v6:Option D)(ls':List D),ls'=ls++(EO W key g tk x).map aL->∃pre' Xs,pre'++ys=hs/\S++ [SO.lst ls']=S++ [SO.lst ((AG W key g tk pre').map aL)]/\ [af (au b hs),af (D.ref pk),af (D.int key),af (D.tup (aq tk)),af (D.int g),af (D.ref S.length),v6]=[af (au b hs),af (D.ref pk),af (D.int key),af (D.tup (aq tk)),af (D.int g),af (D.ref S.length),Xs]:=λv6 ls' e=>⟨pre++ [x],v6,by rw[←hp];simp,by rw[Mb,e],rfl⟩
 refine cH t1 (λe1=>?_) (λe1=>?_)
 ·have e2:(!(W x key).isSome && decide (x∈tk))=false:=by
   rw[Vn]at e1;rw[e1.1];rfl
  simp only[Uy,Uu];refine cG (km (d:=aL [key,0,x]) rfl (lS _ _) (bI (aj (aa rfl) (aj aA (aj (aa rfl) az))) (by simp[aT])) (by lia)) ?_;rw[kj];refine aK (by rw[t2,e2]) (aJ (fin _ _ ?_));unfold EO;rw[if_pos e1,e2];simp
 ·simp only[Uu];refine cH (t2 ls) (λe2=>?_) (λe2=>?_)
  ·simp only[Uy,Uu];refine cG (km (d:=aL [key,1,g,x]) rfl (lS _ _) (bI (aj (aa rfl) (aj aA (aj (aa rfl) (aj (aa rfl) az)))) (by simp[aT])) (by lia)) ?_;rw[kj];refine aJ (fin _ _ ?_);unfold EO;rw[e1,if_pos e2];simp
  ·refine aJ (fin _ _ ?_);unfold EO;rw[e1,e2];simp
def Jv(ks:List Int)(u:Int->Option Int)(W:Int->Int->Option Int)(r:List Int):Prop:=
 (∃k h,r=[k,0,h]/\h∈ks/\(W h k).isSome=av)\/∃k g h,r=[k,1,g,h]/\g∈ks/\h∈ks/\(W g k).isSome=av/\(u k).isSome=av
def FE(rs:List (List Int))(k h:Int):Bool:=rs.any λr=>match r with
 |[a,c,_,x]=>decide (a=k/\c=1/\x=h)|_=>aS
def ER(rs:List (List Int))(k h:Int):Bool:=rs.any λr=>decide (r=[k,0,h])
def sW(u:Int->Option Int)(W:Int->Int->Option Int)(rs:List (List Int)):Int->Int->Option Int:=λh k=>if FE rs k h=av then u k else W h k
def dW(W:Int->Int->Option Int)(rs:List (List Int)):Int->Int->Option Int:=λh k=>if ER rs k h=av then ah else W h k
def Xw:BC S (.str (word 0)) (.str (word 1))=af false:=by simp only[BC,gF,zD];rw[if_pos ⟨by decide+kernel,by decide+kernel⟩];rfl
def Xx:BC S (.str (word 1)) (.str (word 1))=af true:=by simp only[BC,gF,zD];rw[if_pos ⟨by decide+kernel,by decide+kernel⟩];rfl
def Xy:BC S (.str (word 1)) (.str (word 0))=af false:=by simp only[BC,gF,zD];rw[if_pos ⟨by decide+kernel,by decide+kernel⟩];rfl
def Xz:BC S (.str (word 0)) (.str (word 0))=af true:=by simp only[BC,gF,zD];rw[if_pos ⟨by decide+kernel,by decide+kernel⟩];rfl
def Bp{α:Type}{a b c:α}{l:List α}:L2.BI (a::b::c::l) 2=af c:=NH (by lia) rfl
def Uo{α:Type}{a b c d:α}{l:List α}:L2.BI (a::b::c::d::l) 3=af d:=NH (by lia) rfl
def Ja{rs:List (List Int)}{k h a g x:Int}:FE (rs++ [[a,1,g,x]]) k h=(FE rs k h || decide (a=k/\x=h)):=by simp[FE]
def Gf{rs:List (List Int)}{k h a x:Int}:FE (rs++ [[a,0,x]]) k h=FE rs k h:=by simp[FE]
def Jb{rs:List (List Int)}{k h a x:Int}:ER (rs++ [[a,0,x]]) k h=(ER rs k h || decide (a=k/\x=h)):=by simp[ER]
def Gg{rs:List (List Int)}{k h a g x:Int}:ER (rs++ [[a,1,g,x]]) k h=ER rs k h:=by simp[ER]
def QF{rs:List (List Int)}{n:Nat}(K:nv al S pk ks q W)(hn:S[n]?=af (.lst (rs.map aL)))(hu:∀h∈ks,∀k,W h k=ah\/W h k=u k)(hok:∀r∈rs,Jv ks u W r)(hnd:rs.Nodup):
  ∃S',S'.length=S.length/\(∀i:Nat,(∀h∈ks,q h≠i)->S'[i]?=S[i]?)/\nv al S' pk ks q (dW (sW u W rs) rs)/\ao fns (k+1) 12 [.ref pk,.ref n] S=af (.ok .non S'):=by
 suffices hw:RV.Runs (ao fns k) L0 [af (.ref pk),af (.ref n),ah] S λo=>∃S',S'.length=S.length/\(∀i:Nat,(∀h∈ks,q h≠i)->S'[i]?=S[i]?)/\nv al S' pk ks q (dW (sW u W rs) rs)/\∃r,o=af (.next r S') by unfold RV.Runs at hw;obtain⟨S',h1,h3,h4,r,e⟩:=hw;exact⟨S',h1,h3,h4,m9 (fs:=⟨2,3,L0⟩) rfl rfl (by unfold RV.Runs;exact⟨r,e⟩) h1⟩
 unfold L0;have low:∀{S':bq}{x:Int}{o':SO},x∈ks->(∀i:Nat,(∀h∈ks,q h≠i)->S'[i]?=S[i]?)->∀i:Nat,(∀h∈ks,q h≠i)->(S'.set (q x) o')[i]?=S[i]?:=λhx h2 i hi=>by simp_all
 have nq:∀h∈ks,q h≠n:=λh hh=>by obtain⟨N,n1,_⟩:=K.nt h hh;lia
 refine wk (ds:=rs.map aL) (k:=n) (S1:=S) (aa rfl) hn (λys r S'=>∃pre rest v2,pre++rest=rs/\ys=rest.map aL/\S'.length=S.length/\(∀i:Nat,(∀h∈ks,q h≠i)->S'[i]?=S[i]?)/\nv al S' pk ks q (sW u W pre)/\r=[af (.ref pk),af (.ref n),v2]) ⟨[],rs,ah,rfl,rfl,rfl,λi _=>rfl,K,rfl⟩ (λys r S' ⟨_,_,_,_,_,_,h,_⟩=>(h n nq).trans hn) ?_ ?_
 ·rintro x ys r S' ⟨pre,rest,v2,hp,ey,hl,hk,KS,rfl⟩;cases rest with
  |nil=>cases ey|cons row rest=>
   obtain⟨rfl,rfl⟩:=y9 ey;have hrow:=hok row (by rw[←hp];simp);simp only[bP];rcases hrow with⟨a,x,rfl,hx,hx2⟩|⟨a,g,x,rfl,hg,hx,hg2,hu2⟩
   ·refine aK (S1:=S') (aP (x:= .bl aS) (aM (aQ (x:=aL [a,0,x]) (aa rfl) aA aW AE) aA (pK Xw)) aZ) ?_;refine aJ ⟨_,_,rfl,pre++ [[a,0,x]],rest,_,by rw[←hp];simp,rfl,hl,hk,?_,rfl⟩;have e:sW u W (pre++ [[a,0,x]])=sW u W pre:=by funext h k;unfold sW;rw[Gf]
    lia
   ·obtain⟨vv,ev⟩:=Vk.mp hu2;have PC:sW u W pre g a=af vv:=by
     unfold sW;split
     ·exact ev
     ·rcases hu g hg a with z|z
      ·simp_all
      lia
    obtain⟨Ng,g1,g2⟩:=KS.nt g hg;obtain⟨Nx,x1,x2⟩:=KS.nt x hx;have hb:=K.bd g hg a hg2;have hz:Nx.length<sizeLine:=by have:=uf KS hx x2;simp only[aT];lia
    refine bO (S1:=S') (aP (x:= .bl av) (aM (aQ (x:=aL [a,1,g,x]) (aa rfl) aA aW AE) aA (pK Xx)) aZ) ?_;simp only[Uy,Uu];refine gH (d:= .int vv) (x:= .ref (q x)) (y:= .int a) (S1:=S') (S2:=S') (S3:=S') (S4:=S'.set (q x) (.dct (putD Nx (.inl a) (.int vv)))) (j5 (dH KS (aa rfl) (aQ (x:=aL [a,1,g,x]) (aa rfl) aA aW Bp) hg) (aQ (x:=aL [a,1,g,x]) (aa rfl) aA aW CA) (eG g1) rfl (by rw[g2.va a,PC];rfl)) (dH KS (aa rfl) (aQ (x:=aL [a,1,g,x]) (aa rfl) aA aW Uo) hx) (aQ (x:=aL [a,1,g,x]) (aa rfl) aA aW CA) ?_ (aJ ⟨_,_,rfl,pre++ [[a,1,g,x]],rest,_,by rw[←hp];simp,rfl,by simp_all,low hx hk,?_,rfl⟩)
    ·simp only[RK.putAt,x1,cX,if_pos hz]
    ·have e:sW u W (pre++ [[a,1,g,x]])=C5 (sW u W pre) x a (af vv):=by
      funext h k;unfold C5 sW;rw[Ja];by_cases z:h=x/\k=a
      ·lia
      ·lia
     rw[e];exact KS.put hx hb x1 x2
 rintro r S1 ⟨pre,rest,v2,hp,ey,hl1,hk1,K1,rfl⟩;have:rest=[]:=by simpa using ey.symm
 subst this;rw[UT]at hp;subst hp;refine wk (ds:=pre.map aL) (k:=n) (S1:=S1) (aa rfl) ((hk1 n nq).trans hn) (λys r S'=>∃pre2 rest v2,pre2++rest=pre/\ys=rest.map aL/\S'.length=S.length/\(∀i:Nat,(∀h∈ks,q h≠i)->S'[i]?=S[i]?)/\nv al S' pk ks q (dW (sW u W pre) pre2)/\r=[af (.ref pk),af (.ref n),v2]) ⟨[],pre,_,rfl,rfl,hl1,hk1,K1,rfl⟩ (λys r S' ⟨_,_,_,_,_,_,h,_⟩=>(h n nq).trans hn) ?_ ?_
 ·rintro x ys r S' ⟨pre2,rest,v2,hp,ey,hl,hk,KS,rfl⟩;cases rest with
  |nil=>cases ey|cons row rest=>
   obtain⟨rfl,rfl⟩:=y9 ey;have hrow:=hok row (by rw[←hp];simp);simp only[bP];rcases hrow with⟨a,x,rfl,hx,hx2⟩|⟨a,g,x,rfl,hg,hx,hg2,hu2⟩
   ·have hnot:ER pre2 a x=false:=by
     cases z:ER pre2 a x with
     |false=>rfl|true=>obtain⟨r,hr,er⟩:=List.any_eq_true.mp z;have er:=Vo er;subst er;rw[←hp]at hnd;exact absurd rfl ((Vx.mp hnd).2.2 _ hr _ (by simp))
    have hsome:∃i,dW (sW u W pre) pre2 x a=af i:=by
     unfold dW;rw[hnot,if_neg (by simp)];unfold sW;split
     ·rcases hu x hx a with z|z
      ·simp_all
      ·rw[z]at hx2;exact Vk.mp hx2
     ·exact Vk.mp hx2
    obtain⟨i,ei⟩:=hsome;obtain⟨Nx,x1,x2⟩:=KS.nt x hx;refine bO (S1:=S') (aP (x:= .bl av) (aM (aQ (x:=aL [a,0,x]) (aa rfl) aA aW AE) aA (pK Xz)) aZ) ?_;simp only[Uy,Uu];refine cG (rG (S3:=S'.set (q x) (.dct (Nx.filter λkv=>decide (kv.1≠ .inl a)))) (d:= .int i) (dH KS (aa rfl) (aQ (x:=aL [a,0,x]) (aa rfl) aA aW Bp) hx) x1 (aj (aQ (x:=aL [a,0,x]) (aa rfl) aA aW CA) az) ?_) (aJ ⟨_,_,rfl,pre2++ [[a,0,x]],rest,_,by rw[←hp];simp,rfl,by simp_all,low hx hk,?_,rfl⟩)
    ·have hv:bC Nx (.inl a)=af (.int i):=by rw[x2.va a,ei];rfl
     simp only[jh,x1,hv,bR]
    ·have e:dW (sW u W pre) (pre2++ [[a,0,x]])=C5 (dW (sW u W pre) pre2) x a none:=by
      funext h k;unfold C5 dW;rw[Jb];by_cases z:h=x/\k=a
      ·lia
      ·lia
     rw[e];exact KS.drop hx x1 x2
   ·refine aK (S1:=S') (aP (x:= .bl aS) (aM (aQ (x:=aL [a,1,g,x]) (aa rfl) aA aW AE) aA (pK Xy)) aZ) ?_;refine aJ ⟨_,_,rfl,pre2++ [[a,1,g,x]],rest,_,by rw[←hp];simp,rfl,hl,hk,?_,rfl⟩;have e:dW (sW u W pre) (pre2++ [[a,1,g,x]])=dW (sW u W pre) pre2:=by funext h k;unfold dW;rw[Gg]
    lia
 rintro r S2 ⟨pre2,rest,v2,hp,ey,hl2,hk2,K2,rfl⟩;have:rest=[]:=by simpa using ey.symm
 subst this;rw[UT]at hp;subst hp;exact aJ ⟨S2,hl2,hk2,K2,_,rfl⟩
end
section
variable{k:Nat}{S:bq}{p pk:Nat}{b cp key:Int}{hs:List Int}{q:Int->Nat}{ks:List Int}{W:Int->Int->Option Int}{al:List Int}{u:Int->Option Int}
def pO{k f:Nat}{as:List D}{S S':bq}{fs:xA}{d:D}(hf:fns[f]?=af fs)(ha:as.length=fs.np)(h:RV.Runs (ao fns k) fs.body (as.map af++bE (fs.nn - as.length) ah) S λo=>o=af (.ret d S')\/(d= .non/\∃r,o=af (.next r S')))(hl:S.length<=S'.length)(c:oj S.length d)(hd:∀k,d≠ .ref k):
  ∃AF,S.length<=AF.length/\(∀i,i<S.length->AF[i]?=S'[i]?)/\ao fns (k+1) f as S=af (.ok d AF):=by
 rw[ao,hf];unfold RV.Runs at h;have e:fO S (eS (ao fns k) fs.body (as.map af++bE (fs.nn - as.length) ah) S)=trim S d S':=by rcases h with h|⟨rfl,r,h⟩<;>rw[h]<;>rfl
 simp only[if_pos ha,e];unfold trim;by_cases c1:S'.take S.length=S/\oj S.length d
 ·rw[if_pos c1];exact⟨S,Uz _,λi hi=>by have:=Wb (l:=S') hi;lia,rfl⟩
 ·rw[if_neg c1];by_cases c2:(∀o∈S'.take S.length,uA S.length o)/\oj S.length d
  ·rw[if_pos c2];exact⟨_,by simp_all,λi hi=>Wb hi,rfl⟩
  ·rw[if_neg c2]
   simp_all
def kP.lt(K:kP al S p pk b hs cp ks q W):p<S.length/\pk<S.length/\∀h∈ks,q h<S.length:=
 ⟨bJ K.ob,bJ K.kp,λh hh=>by obtain⟨N,n1,_⟩:=K.nt h hh;exact bJ n1⟩
theorem kP.to{S':bq}(K:kP al S p pk b hs cp ks q W)(m:∀i,i=p\/i=pk\/(∃h∈ks,i=q h)->S'[i]?=S[i]?):kP al S' p pk b hs cp ks q W:=
 ⟨(m p (.inl rfl)).trans K.ob,K.B.to λi hi=>m i (.inr hi)⟩
def nv.as{W':Int->Int->Option Int}(K:nv al S pk ks q W)(e:∀h∈ks,W h=W' h):nv al S pk ks q W':=
 ⟨K.kp,λh hh=>by rw[←e h hh];exact K.nt h hh,K.inj,K.dq,K.nk,K.lk,λh hh=>by rw[←e h hh];exact K.bd h hh,K.la⟩
theorem kP.as{W':Int->Int->Option Int}(K:kP al S p pk b hs cp ks q W)(e:∀h∈ks,W h=W' h):kP al S p pk b hs cp ks q W':=⟨K.ob,K.B.as e⟩
def sN(tg:List Int)(cp x:Int):List Int:=(bD tg x).take cp.toNat
def A6{g h y:Int}{tk:List Int}{r:List Int}:r∈EO W y g tk h ↔ ((W h y).isSome=av/\h∉tk/\r=[y,0,h])\/((W h y).isSome=aS/\h∈tk/\r=[y,1,g,h]):=by
 unfold EO
 grind
def fK{g y:Int}{tk hs:List Int}{r:List Int}:r∈AG W y g tk hs ↔ ∃h∈hs,((W h y).isSome=av/\h∉tk/\r=[y,0,h])\/((W h y).isSome=aS/\h∈tk/\r=[y,1,g,h]):=by unfold AG;rw[List.mem_flatMap];exact⟨λ⟨h,hh,z⟩=>⟨h,hh,A6.mp z⟩,λ⟨h,hh,z⟩=>⟨h,hh,A6.mpr z⟩⟩
def tR{g y:Int}{tk hs:List Int}(hn:hs.Nodup):(AG W y g tk hs).Nodup:=by
 unfold AG AH;rw[List.pairwise_flatMap];refine⟨λh _=>?_,hn.imp λ{a c} z r1 h1 r2 h2 e=>?_⟩
 ·have:=yS (W:=W) (key:=y) (g:=g) (tk:=tk) (h:=h)
  match hl:EO W y g tk h with
  |[]=>exact .nil|[x]=>simp|x::x2::r=>simp_all
 ·subst e;rcases A6.mp h1 with⟨_,_,e1⟩|⟨_,_,e1⟩<;>rcases A6.mp h2 with⟨_,_,e2⟩|⟨_,_,e2⟩<;>rw[e1]at e2<;>simp at e2
  ·exact z e2
  ·exact z e2
def Ss{rs:List (List Int)}{tg A:List Int}{gv:Int->Int}(hG:∀r,r∈rs ↔ ∃y,(u y).isSome=av/\r∈AG W y (gv y) (sN tg cp (y % sz b)) A)(hu:∀h∈A,∀k,W h k=ah\/W h k=u k):∀h∈A,dW (sW u W rs) rs h=λy=>if h∈sN tg cp (y % sz b)then u y else none:=by
 have FF:∀h∈A,∀y,ER rs y h=av ↔ (u y).isSome=av/\(W h y).isSome=av/\h∉sN tg cp (y % sz b):=λh hh y=>by
  unfold ER;rw[u7];constructor
  ·rintro⟨r,hr,e⟩;have e:=Vo e;obtain⟨y',hy,hr⟩:=(hG r).mp hr;obtain⟨h',hh',⟨z1,z2,z3⟩|⟨z1,z2,z3⟩⟩:=fK.mp hr
   ·lia
   lia
  ·rintro⟨a,b1,c1⟩;exact⟨[y,0,h],(hG _).mpr ⟨y,a,fK.mpr ⟨h,hh,.inl ⟨b1,c1,rfl⟩⟩⟩,by simp⟩
 have FG:∀h∈A,∀y,FE rs y h=av ↔ (u y).isSome=av/\(W h y).isSome=aS/\h∈sN tg cp (y % sz b):=λh hh y=>by
  unfold FE;rw[u7];constructor
  ·rintro⟨r,hr,e⟩;obtain⟨y',hy,hr⟩:=(hG r).mp hr;obtain⟨h',hh',⟨z1,z2,z3⟩|⟨z1,z2,z3⟩⟩:=fK.mp hr
   ·simp_all
   simp_all
  ·rintro⟨a,b1,c1⟩;exact⟨[y,1,gv y,h],(hG _).mpr ⟨y,a,fK.mpr ⟨h,hh,.inr ⟨b1,c1,rfl⟩⟩⟩,by simp⟩
 intro h hh;funext y;have h1:=FF h hh y;have h2:=FG h hh y;have h3:=hu h hh y;unfold dW sW;by_cases ht:h∈sN tg cp (y % sz b)
 ·rw[if_pos ht,if_neg (λz=>(h1.mp z).2.2 ht)];split
  ·rfl
  ·rename_i hs';rcases h3 with w|w
   ·simp_all
   ·exact w
 ·rw[if_neg ht];split
  ·rfl
  ·rename_i hd';rw[if_neg (λz=>ht (h2.mp z).2.2)];cases hw:W h y with|none=>rfl|some i=>simp_all
def Nr(rs:List (List Int))(n:Nat):Prop:=rs.Nodup/\rs.length<=7*n/\∀i j,i+7<=j->j<rs.length->(rs.getD i []).headD 0<(rs.getD j []).headD 0
def getD_in{l:List (List Int)}{i:Nat}(h:i<l.length):l.getD i []∈l:=by simp_all
def Nr.add{rs L:List (List Int)}{n:Nat}{y:Int}(h:Nr rs n)(hn:L.Nodup)(hl:L.length<=7)(hL:∀r∈L,r.headD 0=y)(hr:∀r∈rs,r.headD 0<y):Nr (rs++L) (n+1):=by
 refine⟨Vx.mpr ⟨h.1,hn,λa ha c hc e=>?_⟩,by have:=h.2.1;rw[Vh];lia,λi j hij hj=>?_⟩
 ·have:=hr a ha
  simp_all
 ·rw[Vh]at hj;have hi:i<rs.length:=by lia
  rw[Vu,UV hi,←Vu];by_cases hj':j<rs.length
  ·rw[Vu (i:=j),UV hj',←Vu];exact h.2.2 i j hij hj'
  simp_all
def qN{W:Int->Int->Option Int}{y g:Int}{tk hs r:List Int}(h:r∈AG W y g tk hs):r.headD 0=y:=by obtain⟨x,_,⟨_,_,e⟩|⟨_,_,e⟩⟩:=fK.mp h<;>rw[e]<;>rfl
theorem wA{rs:List (List Int)}{n:Nat}(hok:∀r∈rs,(∃a x,r=[a,0,x])\/∃a g x,r=[a,1,g,x])(hN:Nr rs n)(hrl:rs.length<128):eU (rs.map aL)=af ((RK.bh rs).map aL)/\((RK.bh rs).map aL).length<=sizeLine:=by
 have hM:∀l:List (List Int),(∀r∈l,(∃a x,r=[a,0,x])\/∃a g x,r=[a,1,g,x])->jD (l.map aL)=af l:=by
  intro l
  induction l with
  |nil=>intro _;rfl|cons r l ih=>
   intro hh;have:uy (aL r)=af r:=by rcases hh r (by simp)with⟨a,x,rfl⟩|⟨a,g,x,rfl⟩<;>rfl
   simp only[U0,jD,this,ih (λr hr=>hh r (by simp[hr])),Ws]
 refine⟨?_,by rw[UG,(RK.dB _).length_eq];simp only[aT];lia⟩;have hne:∀r∈rs,r≠ []:=λr hr e=>by grind
 cases rs with
 |nil=>rfl|cons r0 KG=>
  have e1:bf ((r0::KG).map aL)=ah/\dC ((r0::KG).map aL)=none:=by rcases hok r0 (by simp)with⟨a,x,rfl⟩|⟨a,g,x,rfl⟩<;>exact⟨rfl,rfl⟩
  unfold eU;rw[e1.1,e1.2,hM _ hok];refine if_pos ⟨hN.1,hrl,λ_ i j hij hj=>?_⟩;have:=hN.2.2 i j hij hj;have g1:∀i,i<(r0::KG).length->(r0::KG).getD i []≠ []:=λi hi=>hne _ (getD_in hi);have a1:=g1 i (by lia);have a2:=g1 j hj;revert this a1 a2;generalize(r0::KG).getD i []=p;generalize(r0::KG).getD j []=q;intro h a1 a2;cases p with
  |nil=>lia|cons x p=>cases q with
   |nil=>lia|cons y q=>
    have h:x<y:=h;unfold RK.lexLt;rw[if_neg (by lia)]
    simp_all
def ir(W:Int->Int->Option Int)(u:Int->Option Int)(b cp:Int)(hs tg:List Int)(rs:List (List Int)):Prop:=
 (∀r,r∈rs ↔ ∃y,(u y).isSome=av/\r∈AG W y ((CH W b hs y).getD 0) (sN tg cp (y % sz b)) hs)/\rs.Nodup/\rs.length<128
def yV{tg:List Int}(K:kP al S p pk b hs cp ks q W)(hR:zd b hs)(XA:zd b tg)(hsub:∀h,h∈hs ↔ h∈ks)(hl:hs.length<=13)(htl:tg.length<=13)(hcp:1<=cp)(hu:∀h∈hs,∀k,W h k=ah\/W h k=u k)(XC:∀k,(u k).isSome=av->∃h∈hs,(W h k).isSome=av)(hal:al.length<=12)(hlen:∀y,(u y).isSome=av->∀g,(AG W y g (sN tg cp (y % sz b)) hs).length<=7):
  ∃S' d,S.length<=S'.length/\(∀i,i<S.length->(∀h∈ks,q h≠i)->S'[i]?=S[i]?)/\kP al S' p pk b hs cp ks q (λh k=>if h∈sN tg cp (k % sz b)then u k else ah)/\(∃rs:List (List Int),d= .tup ((RK.bh rs).map aL)/\ir W u b cp hs tg rs)/\(∀n,oj n d)/\(∀k,d≠ .ref k)/\ao fns (k+7) 19 [.ref p,au b tg] S=af (.ok d S'):=by
 have hlt:=K.lt;obtain⟨ys,D0,B4,yl,hkeys⟩:=Gd (k:=k+5) (K.push [SO.lst []]);have Mc:=bY D0;have yu:∀y,y∈ys ↔ (u y).isSome=true:=λy=>by grind
 have XD:ys.length<=12:=Vp (RV.dg ys al Mc λy hy=>by
  obtain⟨h,hh,z⟩:=(B4 y).mp hy;exact K.bd h hh y z) hal
 have G1:∀y∈ys,∃g,CH W b hs y=af g/\g∈hs/\(W g y).isSome=true:=λy hy=>by obtain⟨g,e⟩:=Ge (b:=b) (XC y ((yu y).mp hy));exact⟨g,e,wz e⟩
 suffices hw:RV.Runs (ao fns (k+6)) Nn [af (.ref p),af (au b tg),ah,ah,ah] S λo=>∃S' d,S.length<=S'.length/\(∀i,i<S.length->(∀h∈ks,q h≠i)->S'[i]?=S[i]?)/\kP al S' p pk b hs cp ks q (λh k=>if h∈sN tg cp (k % sz b)then u k else ah)/\(∃rs:List (List Int),d= .tup ((RK.bh rs).map aL)/\ir W u b cp hs tg rs)/\(∀n,oj n d)/\(∀k,d≠ .ref k)/\o=af (.ret d S') by
  unfold RV.Runs at hw;obtain⟨S',d,h1,h2,h3,PD,h4,h5,e⟩:=hw;obtain⟨S2,l2,k2,c2⟩:=pO (k:=k+6) (f:=19) (as:=[.ref p,au b tg]) (fs:=⟨2,5,Nn⟩) (S:=S) (S':=S') (d:=d) rfl rfl (by unfold RV.Runs;exact .inl e) h1 (h4 _) h5;refine⟨S2,d,l2,λi hi hq=>(k2 i hi).trans (h2 i hi hq),h3.to λi hi=>k2 i ?_,PD,h4,h5,c2⟩;rcases hi with rfl|rfl|⟨h,hh,rfl⟩
  ·exact hlt.1
  ·exact hlt.2.1
  simp_all
 unfold Nn;refine aD (d:= .ref S.length) (S1:=S++ [SO.lst []]) (j4 az (by simp[aT])) rfl ?_;simp only[bP];refine bx (α:=Int) D.int (xs:=ys) (S1:=S++ [SO.lst []]) (gA (aO (aj (dz (K.push _) (aa rfl)) az) hkeys))
  (λzs r S'=>∃pre rs v3 v4,pre++zs=ys/\S'=S++ [SO.lst (rs.map aL)]/\(∀r,r∈rs ↔ ∃y∈pre,r∈AG W y ((CH W b hs y).getD 0) (sN tg cp (y % sz b)) hs)/\Nr rs pre.length/\r=[af (.ref p),af (au b tg),af (.ref S.length),v3,v4])
  ⟨[],[],ah,ah,rfl,rfl,λr=>by simp,⟨.nil,by simp,by simp⟩,rfl⟩ ?_ ?_
 ·-- all keys
  rintro r S' ⟨pre,rs,v3,v4,hp,rfl,G2,nr,rfl⟩;have nd:=nr.1;rw[UT]at hp;subst hp;have hok:∀r∈rs,Jv ks u W r:=λr hr=>by
   obtain⟨y,hy,hr⟩:=(G2 r).mp hr;obtain⟨g,eg,hg,hg2⟩:=G1 y hy;rw[eg]at hr;obtain⟨h,hh,⟨z1,z2,z3⟩|⟨z1,z2,z3⟩⟩:=fK.mp hr
   ·exact .inl ⟨y,h,z3,(hsub h).mp hh,z1⟩
   ·exact .inr ⟨y,g,h,z3,(hsub g).mp hg,(hsub h).mp hh,hg2,(yu y).mp hy⟩
  have K':=K.push [SO.lst (rs.map aL)];obtain⟨S2,l2,k2,B2,c2⟩:=QF (k:=k+5) (u:=u) (n:=S.length) (rs:=rs) K'.B (lS _ _) (λh hh=>hu h ((hsub h).mpr hh)) hok nd;have n2:S2[S.length]?=af (.lst (rs.map aL)):=(k2 _ λh hh=>by have:=hlt.2.2 h hh;lia).trans (lS _ _);have hrl:rs.length<128:=by have:=nr.2.1;lia
  have Kf:kP al S2 p pk b hs cp ks q (λh k=>if h∈sN tg cp (k % sz b)then u k else ah):=⟨(k2 p λh hh=>by
   obtain⟨N,n1,_⟩:=K'.nt h hh;exact kh n1 K'.ob (λz=>by cases z)).trans K'.ob,B2.as λh hh=>Ss (λr=>(G2 r).trans ⟨λ⟨y,w1,w2⟩=>⟨y,(yu y).mp w1,w2⟩,λ⟨y,w1,w2⟩=>⟨y,(yu y).mpr w1,w2⟩⟩) hu h ((hsub h).mpr hh)⟩
  refine cG (aO (aj (dz (K.push _) (aa rfl)) (aj (aa rfl) az)) c2) ?_;obtain⟨F9,he2⟩:=wA (λr hr=>(hok r hr).imp (λ⟨a,x,e,_⟩=>⟨a,x,e⟩) λ⟨a,g,x,e,_⟩=>⟨a,g,x,e⟩) nr hrl;refine aH (S1:=S2) (cJ (cZ (f9 (ds:=rs.map aL) (yF (aa rfl) n2) F9 he2) iJ) he2) ⟨S2,_,by rw[l2];simp,λi hi hq=>?_,Kf,⟨rs,rfl,λr=>?_,nd,hrl⟩,λ_=>nF _,(λk e=>by cases e),rfl⟩
  ·rw[k2 i hq,UV hi]
  simp_all
 ·rintro y zs r S' ⟨pre0,hp0⟩ ⟨pre,rs,v3,v4,hp,rfl,G2,nr,rfl⟩;have rl:=nr.2.1;have hy:y∈ys:=by rw[←hp];simp
  have K':=K.push [SO.lst (rs.map aL)];obtain⟨g,eg,hg,hg2⟩:=G1 y hy;have XE:=Mf (k:=k) (key:=y) (tk:=sN tg cp (y % sz b)) K' hR (λh hh=>(hsub h).mp hh) hl eg;have hll:=hlen y ((yu y).mp hy) g;have hpl:pre.length<=24:=by have:=VJ e9 hp;simp at this;lia
  simp only[bP];refine aD (d:= .tup (aq (sN tg cp (y % sz b)))) (S1:=S++ [SO.lst (rs.map aL)]) (aO (aj (aa rfl) (aj (aa rfl) (aj (yQ K' (aa rfl)) az))) (nA (k:=k+2) XA (by lia) (by lia))) rfl ?_;simp only[bP];refine cG (d:= .non) (S1:=S++ [SO.lst ((rs++AG W y g (sN tg cp (y % sz b)) hs).map aL)]) ?_ (aJ ⟨pre++ [y],rs++AG W y g (sN tg cp (y % sz b)) hs,_,_,by rw[←hp];simp,rfl,λr=>?_,?_,rfl⟩)
  ·refine rH (S1:=S++ [SO.lst (rs.map aL)]) (S2:=S++ [SO.lst (rs.map aL)]) (n:=S.length) (ls:=rs.map aL) (ds:=[.lst ((AG W y g (sN tg cp (y % sz b)) hs).map aL)]) (aa rfl) (lS _ _) (aj (aO (aj (dM K' (aa rfl)) (aj (dz K' (aa rfl)) (aj (aa rfl) (aj (aa rfl) az)))) XE) az) ?_;have hz:(rs.map aL).length+((AG W y g (sN tg cp (y % sz b)) hs).map aL).length<=sizeLine:=by simp only[UG,aT];lia
   simp only[jE,F7,qU,dN,lS,if_pos hz,bR,kj,Xu]
  ·simp_all
  ·rw[Vh,Wu];refine nr.add (tR (bY hR.up)) hll (λr=>qN) λr hr=>?_;obtain⟨y',hy',hr⟩:=(G2 r).mp hr;rw[qN hr];rw[←hp]at D0;exact(WD.mp D0).2.2 y' hy' y (by simp)
end
section
variable{k:Nat}{S:bq}{p pk:Nat}{b cp:Int}{hs tg:List Int}{q:Int->Nat}{ks:List Int}{W:Int->Int->Option Int}{al:List Int}{lst:Int->Option Int}
def Gh{k f:Nat}{as:List D}{S S':bq}{fs:xA}{d:D}{ks0:List Int}{q0:Int->Nat}{W0:Int->Int->Option Int}(hf:fns[f]?=af fs)(ha:as.length=fs.np)(h:RV.Runs (ao fns k) fs.body (as.map af++bE (fs.nn - as.length) ah) S λo=>o=af (.ret d S')\/(d= .non/\∃r,o=af (.next r S')))(hl:S.length<=S'.length)(c:oj S.length d)(hd:∀k,d≠ .ref k)(K:nv al S pk ks0 q0 W0)(K':nv al S' pk ks q W):
  ∃AF,S.length<=AF.length/\(∀i,i<S.length->AF[i]?=S'[i]?)/\nv al AF pk ks q W/\ao fns (k+1) f as S=af (.ok d AF):=by
 have IG:=bJ K.kp;by_cases hnew:∃h∈ks,S.length<=q h
 ·obtain⟨x,hx,hq⟩:=hnew;have hm:((Sum.inl x:L2.Key),D.ref (q x))∈sM ks q:=Va.mpr ⟨x,hx,rfl⟩;have ht:(S'.take S.length)[pk]?=af (.dct (sM ks q)):=by rw[Wb IG];exact K'.kp
  refine⟨S',hl,λ_ _=>rfl,K',?_⟩;rw[ao,hf];unfold RV.Runs at h;have e:fO S (eS (ao fns k) fs.body (as.map af++bE (fs.nn - as.length) ah) S)=trim S d S':=by rcases h with h|⟨rfl,r,h⟩<;>rw[h]<;>rfl
  simp only[if_pos ha,e];unfold trim;rw[if_neg,if_neg]
  ·simp
  ·intro z;have:=z.1 _ (V4 ht) _ hm;exact absurd (show q x<S.length from this) (by lia)
  ·intro z;rw[z.1,K.kp]at ht;have ht:=SO.dct.inj (Ux ht);rw[←ht]at hm;obtain⟨h0,XF,e0⟩:=Va.mp hm;have:q0 h0=q x:=D.ref.inj (Prod.mk.inj e0).2;obtain⟨N,n1,_⟩:=K.nt h0 XF;have:=bJ n1;lia
 ·obtain⟨S2,l2,k2,c2⟩:=pO hf ha h hl c hd;refine⟨S2,l2,k2,K'.to λi hi=>k2 i ?_,c2⟩;rcases hi with rfl|⟨h,hh,rfl⟩
  ·exact IG
  simp_all
def call_K{k f:Nat}{as:List D}{S S':bq}{fs:xA}{d:D}{b0 XG:Int}{hs0 ks0:List Int}{q0:Int->Nat}{W0:Int->Int->Option Int}(hf:fns[f]?=af fs)(ha:as.length=fs.np)(h:RV.Runs (ao fns k) fs.body (as.map af++bE (fs.nn - as.length) ah) S λo=>o=af (.ret d S')\/(d= .non/\∃r,o=af (.next r S')))(hl:S.length<=S'.length)(c:oj S.length d)(hd:∀k,d≠ .ref k)(K:kP al S p pk b0 hs0 XG ks0 q0 W0)(K':kP al S' p pk b hs cp ks q W):
  ∃AF,S.length<=AF.length/\(∀i,i<S.length->AF[i]?=S'[i]?)/\kP al AF p pk b hs cp ks q W/\ao fns (k+1) f as S=af (.ok d AF):=by
 obtain⟨S2,l2,k2,B2,c2⟩:=Gh hf ha h hl c hd K.B K'.B;exact⟨S2,l2,k2,⟨(k2 p (bJ K.ob)).trans K'.ob,B2⟩,c2⟩
def Gi{q':Int->Nat}(h:∀x∈ks,q x=q' x):sM ks q=sM ks q':=Xb λx hx=>by rw[h x hx]
def nv.add(B:nv al S pk ks q W){x:Int}{N:List (L2.Key×D)}(hx:x∉ks)(hl:ks.length<13)(hN:DI N (W x))(hb:∀y,(W x y).isSome=av->y∈al):
  nv al ((S++ [SO.dct N]).set pk (.dct (putD (sM ks q) (.inl x) (.ref S.length)))) pk (ks++ [x]) (λh=>if h=x then S.length else q h) W:=by
 obtain⟨q2,eq2⟩:∃q2:Int->Nat,q2=λh=>if h=x then S.length else q h:=⟨_,rfl⟩
 have Me:q2 x=S.length:=by rw[eq2];simp
 have II:∀h∈ks,q2 h=q h:=λh hh=>by lia
 have B1:=B.push [SO.dct N];have IG:=bJ B.kp;have lq:∀h∈ks,q h<S.length:=λh hh=>by obtain⟨N,n1,_⟩:=B.nt h hh;exact bJ n1
 have hnd2:(ks++ [x]).Nodup:=Vx.mpr ⟨B.nk,by simp,λa ha c hc=>by
  grind⟩
 have two:∀h∈ks++ [x],h∈ks\/h=x:=λh hh=>(Vt.mp hh).imp id VM.mp;rw[←eq2,Gi (q':=q2) λh hh=>(II h hh).symm,←Me,yL hx];refine⟨du B1.kp,λh hh=>?_,λh hh h' hh' e=>?_,λh hh=>?_,hnd2,by rw[Vh,Wu];lia,λh hh=>?_,B.la⟩
 ·rcases two h hh with z|rfl
  ·obtain⟨N,n1,n2⟩:=B1.nt h z;rw[II h z];exact⟨N,RV.cR n1 (Ne.symm (B.dq h z)),n2⟩
  ·rw[Me];exact⟨N,RV.cR (lS _ _) (by lia),hN⟩
 ·rcases two h hh with z|rfl<;>rcases two h' hh' with z'|rfl
  ·rw[II h z,II h' z']at e;exact B.inj h z h' z' e
  ·rw[II h z,Me]at e;have:=lq h z;lia
  ·rw[II h' z',Me]at e;have:=lq h' z';lia
  ·rfl
 ·rcases two h hh with z|rfl
  ·rw[II h z];exact B.dq h z
  ·rw[Me];lia
 ·rcases two h hh with z|rfl
  ·exact B.bd h z
  ·exact hb
def Uq(B:nv al S pk ks q W){x:Int}(hW:x∉ks->W x=λ_=>ah)(hl:x∉ks->ks.length<13){cl:Cl}{r:aC}{a e:E}(ha:ak cl a r S=af (.ok (.ref pk) S))(he:ak cl e r S=af (.ok (.int x) S)):
  ∃S' ks' q' d,S.length<=S'.length/\(∀i,i<S.length->i≠pk->S'[i]?=S[i]?)/\(∀h,h∈ks' ↔ h∈ks\/h=x)/\(∀h∈ks',(h∈ks/\q' h=q h)\/S.length<=q' h)/\nv al S' pk ks' q' W/\ak cl (E.F6 a [e,E.dct]) r S=af (.ok d S'):=by
 have B1:=B.push [SO.dct []];have hkl:=B.lk;have hargs:aG cl [e,E.dct] r S=af (.ok [.int x,.ref S.length] (S++ [SO.dct []])):=aj he (aj gw az);by_cases hx:x∈ks
 ·refine⟨_,ks,q,_,?_,λi hi _=>UV hi,λh=>⟨.inl,λz=>z.elim id λw=>w▸hx⟩,λh hh=> .inl ⟨hh,rfl⟩,B1,FW (d:= .ref (q x)) ha B.kp hargs (by simp only[mj,B1.kp,cX,j9 hx,bR])⟩;simp
 ·have hz:(sM ks q).length<sizeLine:=by simp only[sM,UG,aT];lia
  refine⟨_,ks++ [x],_,_,?_,λi hi i2=>?_,λh=>?_,λh hh=>?_,B.add (N:=[]) hx (hl hx) (by rw[hW hx];exact DI.nil) (λy z=>by simp_all),FW (d:= .ref S.length) ha B.kp hargs (by simp only[mj,B1.kp,cX,I9 hx,if_pos hz,bR])⟩
  ·simp
  ·rw[U6 (Ne.symm i2),UV hi]
  ·simp
  grind
def Jc{am:List Int}(K:kP al S p pk b hs cp ks q W)(hal:am.length<=13)(hk:∀h∈ks,h∈am)(ht:∀h∈tg,h∈am):
  ∃S' ks' q',S.length<=S'.length/\(∀i,i<S.length->i≠p->i≠pk->S'[i]?=S[i]?)/\(∀h,h∈ks' ↔ h∈ks\/h∈tg)/\(∀h∈ks',(h∈ks/\q' h=q h)\/S.length<=q' h)/\kP al S' p pk b (sortI ks') cp ks' q' (λh=>if h∈ks then W h else λ_=>ah)/\ao fns (k+1) 24 [.ref p,au b tg] S=af (.ok .non S'):=by
 have hlt:=K.lt;have Mn:p≠pk:=kh K.ob K.kp (λz=>by cases z)
 suffices hw:RV.Runs (ao fns k) NC [af (.ref p),af (au b tg),ah] S λo=>∃S' ks' q',S.length<=S'.length/\(∀i,i<S.length->i≠p->i≠pk->S'[i]?=S[i]?)/\(∀h,h∈ks' ↔ h∈ks\/h∈tg)/\(∀h∈ks',(h∈ks/\q' h=q h)\/S.length<=q' h)/\kP al S' p pk b (sortI ks') cp ks' q' (λh=>if h∈ks then W h else λ_=>ah)/\∃r,o=af (.next r S') by unfold RV.Runs at hw;obtain⟨S',ks',q',h1,h2,h3,h4,h5,r,e⟩:=hw;obtain⟨S2,l2,k2,K2,c2⟩:=call_K (k:=k) (f:=24) (as:=[.ref p,au b tg]) (fs:=⟨2,3,NC⟩) (S:=S) (S':=S') (d:= .non) rfl rfl (by unfold RV.Runs;exact .inr ⟨rfl,r,e⟩) h1 trivial (λk e=>by cases e) K h5;exact⟨S2,ks',q',l2,λi hi i1 i2=>(k2 i hi).trans (h2 i hi i1 i2),h3,h4,K2,c2⟩
 unfold NC;refine bx (α:=Int) D.int (xs:=tg) (S1:=S) (cu (aQ (aa rfl) aA aW AE))
  (λys r S'=>∃pre ks' q' v2,pre++ys=tg/\S.length<=S'.length/\(∀i,i<S.length->i≠p->i≠pk->S'[i]?=S[i]?)/\(∀h,h∈ks' ↔ h∈ks\/h∈pre)/\(∀h∈ks',(h∈ks/\q' h=q h)\/S.length<=q' h)/\kP al S' p pk b hs cp ks' q' (λh=>if h∈ks then W h else λ_=>ah)/\r=[af (.ref p),af (au b tg),v2])
  ⟨[],ks,q,ah,rfl,Uz _,λ_ _ _ _=>rfl,λh=>by simp,λh hh=> .inl ⟨hh,rfl⟩,K.as λh hh=>by rw[if_pos hh],rfl⟩ ?_ ?_
 ·rintro r S' ⟨pre,ks',q',v2,hp,hl,hsm,hm,hq,KS,rfl⟩;rw[UT]at hp;subst hp;have hkl:=KS.lk;have hsl:(sortI ks').length<=13:=by rw[(RV.sortI_perm _).length_eq];exact hkl
  have hz:(aq (sortI ks')).length<=sizeLine:=by simp only[UG,aT];lia
  have ds:(sM ks' q').map (λp=>sQ p.1)=aq ks':=wy;refine jd (d:=au b (sortI ks')) (bI (aj (aQ (aa rfl) aA aW CA) (aj (cJ (cZ (x:= .lst (aq (sortI ks'))) (f9 (ds:=aq ks') (by rw[←ds];exact yE (dz KS (aa rfl)) KS.kp) (gb (by lia)) hz) rfl) hz) az)) (by simp[aT])) (aa rfl) KS.ob (by simp) ?_;refine aJ ⟨_,ks',q',by simp_all,λi hi i1 i2=>?_,hm,hq,⟨du KS.ob,KS.B.to λi hi=>U6 ?_⟩,_,rfl⟩
  ·rw[U6 (Ne.symm i1)];exact hsm i hi i1 i2
  ·rcases hi with rfl|⟨h,hh,rfl⟩
   ·exact Mn
   ·obtain⟨N,n1,_⟩:=KS.nt h hh;exact kh KS.ob n1 (λz=>by cases z)
 rintro x ys r S' _ ⟨pre,ks',q',v2,hp,hl,hsm,hm,hq,KS,rfl⟩;simp only[bP];have hxk:x∉ks'->x∉ks:=λhx z=>hx ((hm x).mpr (.inl z));obtain⟨S2,XI,q2,d,l2,k2,m2,hq2,B2,c2⟩:=Uq (x:=x) KS.B (λhx=>by lia) (λhx=>by
  have hnd2:(x::ks').Nodup:=Wf.mpr ⟨hx,KS.nk⟩;have:=RV.dg _ am hnd2 λh hh=>by grind
  simp only[U5]at this;lia) (cl:=ao fns k) (r:=[af (.ref p),af (au b tg),af (.int x)]) (a:=E.fld bZ jK (E.var 0)) (e:=E.var 2) (dz KS (aa rfl)) (aa rfl)
 refine cG c2 (aJ ⟨pre++ [x],XI,q2,_,by rw[←hp];simp,by lia,λi hi i1 i2=>(k2 i (by lia) i2).trans (hsm i hi i1 i2),λh=>?_,λh hh=>?_,⟨(k2 p (bJ KS.ob) Mn).trans KS.ob,B2⟩,rfl⟩)
 ·rw[m2,hm,Vt,VM,or_assoc]
 ·rcases hq2 h hh with⟨z1,z2⟩|z
  ·rw[z2];exact hq h z1
  ·exact .inr (by lia)
def Jw(B:nv al S pk ks q W){x:Int}(hx:x∈ks){cl:Cl}{r:aC}{a e:E}(ha:ak cl a r S=af (.ok (.ref pk) S))(he:ak cl e r S=af (.ok (.int x) S)):
  nv al (S.set pk (.dct (sM (ks.filter λh=>decide (h≠x)) q))) pk (ks.filter λh=>decide (h≠x)) q W/\ak cl (E.meth (Mt.lI) a [e]) r S=af (.ok (.ref (q x)) (S.set pk (.dct (sM (ks.filter λh=>decide (h≠x)) q)))):=by
 have ek:((sM ks q).filter λkv=>decide (kv.1≠ .inl x))=sM (ks.filter λh=>decide (h≠x)) q:=by unfold sM;rw[List.filter_map];congr 1;refine W4 λh _=>?_;simp
 have hs1:∀h,h∈(ks.filter λh=>decide (h≠x))->h∈ks:=λh hh=>(U9.mp hh).1;refine⟨⟨du B.kp,λh hh=>?_,λh hh h' hh'=>B.inj h (hs1 h hh) h' (hs1 h' hh'),λh hh=>B.dq h (hs1 h hh),B.nk.filter _,Vp (U7 ..) B.lk,λh hh=>B.bd h (hs1 h hh),B.la⟩,rG ha B.kp (aj he az) (by simp only[jh,B.kp,j9 hx,bR,ek])⟩;obtain⟨N,n1,n2⟩:=B.nt h (hs1 h hh);exact⟨N,RV.cR n1 (Ne.symm (B.dq h (hs1 h hh))),n2⟩
def yW(K:kP al S p pk b hs cp ks q W)(hsub:∀h,h∈hs ↔ h∈ks)(hnd:hs.Nodup):
  ∃S',S'.length=S.length/\(∀i,i≠p->i≠pk->S'[i]?=S[i]?)/\kP al S' p pk b tg cp (ks.filter λh=>decide (h∈tg)) q W/\ao fns (k+1) 26 [.ref p,au b tg] S=af (.ok .non S'):=by
 have Mn:p≠pk:=kh K.ob K.kp (λz=>by cases z)
 suffices hw:RV.Runs (ao fns k) ND [af (.ref p),af (au b tg),ah] S λo=>∃S',S'.length=S.length/\(∀i,i≠p->i≠pk->S'[i]?=S[i]?)/\kP al S' p pk b tg cp (ks.filter λh=>decide (h∈tg)) q W/\∃r,o=af (.next r S') by unfold RV.Runs at hw;obtain⟨S',h1,h2,h3,r,e⟩:=hw;exact⟨S',h1,h2,h3,m9 (fs:=⟨2,3,ND⟩) rfl rfl (by unfold RV.Runs;exact⟨r,e⟩) h1⟩
 unfold ND;refine bx (α:=Int) D.int (xs:=hs) (S1:=S) (cu (aQ (dM K (aa rfl)) aA aW AE))
  (λys r S'=>∃pre v2,pre++ys=hs/\S'.length=S.length/\(∀i,i≠p->i≠pk->S'[i]?=S[i]?)/\kP al S' p pk b hs cp (ks.filter λh=>decide (h∉pre\/h∈tg)) q W/\r=[af (.ref p),af (au b tg),v2])
  ⟨[],ah,rfl,rfl,λ_ _ _=>rfl,by rw[WN.mpr (λh _=>by simp)];exact K,rfl⟩ ?_ ?_
 ·rintro r S' ⟨pre,v2,hp,hl,hsm,KS,rfl⟩;rw[UT]at hp;subst hp;have ef:(ks.filter λh=>decide (h∉pre\/h∈tg))=ks.filter λh=>decide (h∈tg):=W4 λh hh=>by
   simp_all
  rw[ef]at KS;refine jd (d:=au b tg) (aa rfl) (aa rfl) KS.ob (by simp) (aJ ⟨_,by simp_all,λi i1 i2=>by rw[U6 (Ne.symm i1)];exact hsm i i1 i2,⟨du KS.ob,KS.B.to λi hi=>U6 ?_⟩,_,rfl⟩);rcases hi with rfl|⟨h,hh,rfl⟩
  ·exact Mn
  ·obtain⟨N,n1,_⟩:=KS.nt h hh;exact kh KS.ob n1 (λz=>by cases z)
 rintro x ys r S' _ ⟨pre,v2,hp,hl,hsm,KS,rfl⟩;have hxp:x∉pre:=by rw[←hp]at hnd;exact λz=>(Vx.mp hnd).2.2 x z x (by simp) rfl
 simp only[bP];refine cH (t:=!decide (x∈tg)) (S1:=S') (aP (x:= .bl _) (aM (aa rfl) (aQ (aa rfl) aA aW AE) (gZ gf)) aZ) (λe=>?_) (λe=>?_)
 ·have e:x∉tg:=by simpa using e
  have hx:x∈ks.filter λh=>decide (h∉pre\/h∈tg):=U9.mpr ⟨(hsub x).mp (by grind),by simp[hxp]⟩;have ef:(ks.filter λh=>decide (h∉pre\/h∈tg)).filter (λh=>decide (h≠x))=ks.filter λh=>decide (h∉pre++ [x]\/h∈tg):=by
   rw[gX];refine W4 λh _=>?_;by_cases z:h=x
   ·grind
   ·simp[z]
  obtain⟨B2,c2⟩:=Jw (cl:=ao fns k) (r:=[af (.ref p),af (au b tg),af (.int x)]) (a:=E.fld bZ jK (E.var 0)) (e:=E.var 2) KS.B hx (dz KS (aa rfl)) (aa rfl);rw[ef]at B2 c2;simp only[Uy,Uu];exact cG c2 (aJ ⟨pre++ [x],_,by rw[←hp];simp,by grind,λi i1 i2=>by rw[U6 (Ne.symm i2)];exact hsm i i1 i2,⟨RV.cR KS.ob (Ne.symm Mn),B2⟩,rfl⟩)
 ·have e:x∈tg:=by simpa using e
  refine aJ ⟨pre++ [x],_,by rw[←hp];simp,hl,hsm,?_,rfl⟩
  grind
end
section
variable{k:Nat}{S S':bq}{p pk:Nat}{b cp x:Int}{hs tg A:List Int}{q:Int->Nat}{ks:List Int}{W:Int->Int->Option Int}{u:Int->Option Int}{al:List Int}{rs:List (List Int)}
def QG{g y:Int}{tk A B:List Int}(hn:hs.Nodup)(h1:∀h∈hs,(W h y).isSome=av->h∉tk->h∈A)(h2:∀h∈hs,(W h y).isSome=aS->h∈tk->h∈B):(AG W y g tk hs).length<=A.length+B.length:=by
 have:=RV.dg (AG W y g tk hs) ((A.map λh=> [y,0,h])++(B.map λh=> [y,1,g,h])) (tR hn) (λr hr=>by
  obtain⟨h,hh,⟨z1,z2,z3⟩|⟨z1,z2,z3⟩⟩:=fK.mp hr
  ·exact Wn _ (Va.mpr ⟨h,h1 h hh z1 z2,z3.symm⟩)
  ·exact Vi _ (Va.mpr ⟨h,h2 h hh z1 z2,z3.symm⟩))
 simpa using this
theorem pP(P:Int->Bool){h:Int}(hp:P h=av):∀(X:List Int)(n:Nat),h∈X.take n->h∈(X.filter P).take n
 |X,0,z=>by simp at z|[],n+1,z=>by simp at z|a::X,n+1,z=>by
  rw[gy]at z;rcases UJ.mp z with z|z
  ·simp_all
  ·have ih:=pP P hp X n z
   grind
theorem tU{x h:Int}:∀(X:List Int)(n:Nat),X.Nodup->h∈(X.filter λy=>decide (y≠x)).take n->h∈X.take (n+1)
 |X,0,_,z=>by simp at z|[],n+1,_,z=>by simp at z|a::X,n+1,nd,z=>by
  have NI:=Wf.mp nd;rw[gy];by_cases ha:a=x
  ·subst ha;rw[V2 (by simp),WN.mpr (λy hy=>by
    lia)]at z
   simp_all
  ·rw[V3 (by simpa using ha),gy]at z;rcases UJ.mp z with z|z
   ·subst z;simp
   ·exact Wm _ (tU X n NI.2 z)
def take_one{x:Int}(X:List Int)(n:Nat)(nd:X.Nodup):∃A:List Int,A.length<=1/\∀h∈(X.filter λy=>decide (y≠x)).take n,h∉X.take n->h∈A:=by
 refine⟨(X[n]?).toList,by simp,λh hh hn=>?_⟩;have:=tU X n nd hh;rw[List.take_succ]at this
 simp_all
abbrev iu(hs:List Int)(cp b:Int)(lst:Int->Option Int):Int->Int->Option Int:=λh y=>if h∈sN hs cp (y % sz b)then lst y else ah
def QH{h y:Int}:iu hs cp b u h y=ah\/iu hs cp b u h y=u y:=by lia
def jn{x h:Int}(hh:h∈sN hs cp x):h∈hs:=(dG _ _).mem_iff.mp (ko hh)
def Gj(hne:hs≠ [])(hc:1<=cp)(x:Int):∃g,g∈sN hs cp x:=by
 have:=Lz hne x;cases e:bD hs x with|nil=>lia|cons a r=>refine⟨a,?_⟩;unfold sN;rw[e,show cp.toNat=(cp.toNat - 1)+1 by lia,gy];simp
structure Cc(b cp:Int)(hs:List Int)(W:Int->Int->Option Int)(u:Int->Option Int):Prop where
 vs:∀h∈hs,∀k,W h k=ah\/W h k=u k
 ex:∀k,(u k).isSome=av->∃h∈hs,(W h k).isSome=av
 ho:∀h∈hs,∀k,(W h k).isSome=av->h∈sN hs cp (k % sz b)
 out:∀h,h∉hs->W h=λ_=>ah
def Cc.due(hne:tg≠ [])(hc:1<=cp):Cc b cp tg (iu tg cp b u) u:=by
 refine⟨λh _ k=>QH,λy hy=>?_,λh _ y hy=>?_,λh hh=>?_⟩
 ·obtain⟨g,hg⟩:=Gj hne hc (y % sz b);exact⟨g,jn hg,by lia⟩
 ·grind
 ·funext y;exact if_neg λz=>hh (jn z)
structure Mv(al:List Int)(b cp:Int)(A tg:List Int)(W:Int->Int->Option Int)(u:Int->Option Int):Prop where
 RA:zd b A
 Rt:zd b tg
 lA:A.length<=13
 lt:tg.length<=13
 c1:1<=cp/\cp<=6
 a12:al.length<=12
 vs:∀h∈A,∀k,W h k=ah\/W h k=u k
 ex:∀k,(u k).isSome=av->∃h∈A,(W h k).isSome=av
 ln:∀y g,(AG W y g (sN tg cp (y % sz b)) A).length<=7
def PF(nd:A.Nodup)(hc:cp<=6)(hD:∀y,∃D:List Int,D.length<=1/\∀h∈A,(W h y).isSome=av->h∉sN tg cp (y % sz b)->h∈D)(y g:Int):(AG W y g (sN tg cp (y % sz b)) A).length<=7:=by
 obtain⟨D,d1,d2⟩:=hD y;have:=QG (W:=W) (g:=g) (y:=y) (tk:=sN tg cp (y % sz b)) (A:=D) (B:=sN tg cp (y % sz b)) nd d2 λh _ _ z=>z;have hlen:(sN tg cp (y % sz b)).length<=cp.toNat:=by unfold sN;rw[Wl];lia
 lia
def Mv.FH(R:zd b hs)(hl:hs.length<=12)(c1:1<=cp/\cp<=6)(a12:al.length<=12)(U:Cc b cp hs W u):Mv al b cp hs hs W u:=
 ⟨R,R,by lia,by lia,c1,a12,U.vs,U.ex,PF (bY R.up) c1.2 λy=>⟨[],by simp,λh hh z1 z2=>absurd (U.ho h hh y z1) z2⟩⟩
def Mv.ES(R:zd b hs)(hl:hs.length<12)(c1:1<=cp/\cp<=6)(a12:al.length<=12)(U:Cc b cp hs W u)(hx:0<=x/\x<sz b)(hn:x∉hs):Mv al b cp (with1 hs x) (with1 hs x) W u:=by
 have hwl:(with1 hs x).length<=13:=by rw[(fB hs x).length_eq,U5];lia
 have hup:=pM R.up hn;have hR':=Fg R hx hn;refine⟨hR',hR',hwl,hwl,c1,a12,λh hh y=>?_,λy hy=>?_,PF (bY hup) c1.2 λy=>?_⟩
 ·rcases s9.mp hh with rfl|z
  ·exact .inl (by rw[U.out _ hn])
  ·exact U.vs h z y
 ·obtain⟨h,h1,h2⟩:=U.ex y hy;exact⟨h,s9.mpr (.inr h1),h2⟩
 ·have eo:bD hs (y % sz b)=(bD (with1 hs x) (y % sz b)).filter λz=>decide (z≠x):=by
   rw[←jQ hup,Bo R.up hn]
  obtain⟨A1,a1,a2⟩:=take_one (x:=x) (bD (with1 hs x) (y % sz b)) cp.toNat ((dG _ _).nodup_iff.mpr (bY hup));refine⟨A1,a1,λh hh z1 z2=>?_⟩;rcases s9.mp hh with rfl|z
  ·rw[U.out _ hn]at z1;cases z1
  ·have:=U.ho h z y z1;unfold sN at this z2;rw[eo]at this;exact a2 h this z2
def Mv.go(R:zd b hs)(hl:hs.length<=12)(c1:1<=cp/\cp<=6)(a12:al.length<=12)(U:Cc b cp hs W u)(h1:1<hs.length):Mv al b cp hs (bT hs x) W u:=by
 have hle:(bT hs x).length<=hs.length:=U7 ..;have hR':=Fi (x:=x) R (Io R h1);have eo:∀y,bD (bT hs x) (y % sz b)=(bD hs (y % sz b)).filter λz=>decide (z≠x):=λy=>jQ R.up _ _;refine⟨R,hR',by lia,by lia,c1,a12,U.vs,U.ex,PF (bY R.up) c1.2 λy=>⟨[x],by simp,λh hh z1 z2=>?_⟩⟩;by_cases e:h=x
 ·simp[e]
 ·refine absurd ?_ z2;have:=U.ho h hh y z1;unfold sN at this ⊢;rw[eo];exact pP (λz=>decide (z≠x)) (by simpa using e) _ _ this
def C6(S S':bq)(p pk:Nat)(ks:List Int)(q:Int->Nat)(ks':List Int)(q':Int->Nat):Prop:=
 S.length<=S'.length/\(∀i,i<S.length->i≠p->i≠pk->(∀h∈ks,q h≠i)->S'[i]?=S[i]?)/\∀h∈ks',(h∈ks/\q' h=q h)\/S.length<=q' h
theorem nG:∀{a c:List Int},a.Pairwise (·<·)->c.Pairwise (·<·)->(∀x,x∈a ↔ x∈c)->a=c
 |[],[],_,_,_=>rfl|[],y::c,_,_,h=>absurd ((h y).mpr (by simp)) (by simp)|x::a,[],_,_,h=>absurd ((h x).mp (by simp)) (by simp)|x::a,y::c,ha,hc,h=>by
  have ha':=Vd.mp ha;have hc':=Vd.mp hc;have e:x=y:=by
   rcases UJ.mp ((h x).mp (by simp))with z|z
   ·exact z
   ·rcases UJ.mp ((h y).mpr (by simp))with w|w
    ·exact w.symm
    ·have:=hc'.1 x z;have:=ha'.1 y w;lia
  subst e;rw[nG ha'.2 hc'.2 λz=>?_]
  grind
def gj{n:Nat}:oj n (.tup ((RK.bh rs).map aL)):=nF _
def Gk(K:kP al S p pk b hs cp ks q W)(pm:∀h,h∈hs ↔ h∈ks)(out:∀h,h∉hs->W h=λ_=>ah)(PM:∀h,h∈A ↔ h∈hs\/h∈tg)(M:Mv al b cp A tg W u):
  ∃S' ks' q' rs,C6 S S' p pk ks q ks' q'/\kP al S' p pk b tg cp ks' q' (iu tg cp b u)/\(∀h,h∈tg ↔ h∈ks')/\ir W u b cp A tg rs/\ao fns (k+8) 23 [.ref p,au b tg] S=af (.ok (.tup ((RK.bh rs).map aL)) S'):=by
 have hlt:=K.lt;obtain⟨S1,E3,q1,l1,k1,m1,hq1,K1,c1⟩:=Jc (k:=k+6) (tg:=tg) K M.lA (λh hh=>(PM h).mpr (.inl ((pm h).mpr hh))) (λh hh=>(PM h).mpr (.inr hh));have hA:∀h,h∈A ↔ h∈E3:=λh=>by rw[PM,m1,pm]
 have eA:sortI E3=A:=nG (jA K1.nk) M.RA.up λh=>(RV.sortI_perm _).mem_iff.trans (hA h).symm;rw[eA]at K1;have Sl:kP al S1 p pk b A cp E3 q1 W:=K1.as λh hh=>by simp_all
 obtain⟨S2,d,l2,k2,K2,⟨rs,rfl,hP⟩,cd,nd,c2⟩:=yV (k:=k) (tg:=tg) (u:=u) Sl M.RA M.Rt hA M.lA M.lt M.c1.1 M.vs M.ex M.a12 λy _ g=>M.ln y g;obtain⟨S3,l3,k3,K3,c3⟩:=yW (k:=k+6) (tg:=tg) K2 hA (bY M.RA.up);have hm:∀h,h∈tg ↔ h∈(E3.filter λh=>decide (h∈tg)):=λh=>by simp_all
 obtain⟨S4,l4,k4,K4,c4⟩:=call_K (k:=k+7) (f:=23) (as:=[.ref p,au b tg]) (fs:=⟨2,3,Pc⟩) (S:=S) (S':=S3) rfl rfl (by
  unfold Pc;simp only[U0,Vg,U5,Vj,bE,Uy,Uu,UT,dP,dQ,Vm,Vz];refine cG (bK (aa rfl) K.ob rfl (aj (aa rfl) az) c1) ?_;refine aD (bK (aa rfl) Sl.ob rfl (aj (aa rfl) az) c2) rfl ?_;simp only[bP];refine cG (bK (aa rfl) K2.ob rfl (aj (aa rfl) az) c3) ?_;exact aH (aa rfl) (.inl rfl)) (by lia) (cd _) nd K K3
 refine⟨S4,_,q1,rs,⟨l4,λi hi i1 i2 i3=>?_,λh hh=>hq1 h (U9.mp hh).1⟩,K4,hm,hP,c4⟩;rw[k4 i hi,k3 i i1 i2,k2 i (by lia) λh hh=>?_,k1 i hi i1 i2];rcases hq1 h hh with⟨z1,z2⟩|z
 ·rw[z2];exact i3 h z1
 ·lia
def QJ(K:kP al S p pk b hs cp ks q W)(pm:∀h,h∈hs ↔ h∈ks)(R:zd b hs)(hl:hs.length<12)(c1:1<=cp/\cp<=6)(a12:al.length<=12)(U:Cc b cp hs W u)(hx:0<=x/\x<sz b)(hn:x∉hs):
  ∃S' ks' q' rs,C6 S S' p pk ks q ks' q'/\kP al S' p pk b (with1 hs x) cp ks' q' (iu (with1 hs x) cp b u)/\(∀h,h∈with1 hs x ↔ h∈ks')/\ir W u b cp (with1 hs x) (with1 hs x) rs/\ao fns (k+9) 21 [.ref p,.int x] S=af (.ok (.tup ((RK.bh rs).map aL)) S'):=by
 obtain⟨S1,E3,q1,rs,⟨l1,f1,f2⟩,K1,m1,hP,c2⟩:=Gk (k:=k) K pm U.out (λh=>by rw[s9];simp_all) (Mv.ES R hl c1 a12 U hx hn);obtain⟨S2,l2,k2,K2,c3⟩:=call_K (k:=k+8) (f:=21) (as:=[.ref p,.int x]) (fs:=⟨2,2,OZ⟩) (S:=S) (S':=S1) rfl rfl (by
  unfold OZ;simp only[U0,Vg,U5,Vj,bE,Uy,Uu,UT,dP,dQ,Vm,Vz];exact aH (bK (aa rfl) K.ob rfl (aj (aO (aj (dM K (aa rfl)) (aj (aa rfl) az)) (Qy (k:=k+4) R hx hn (by lia))) az) c2) (.inl rfl)) l1 gj (λk e=>by cases e) K K1
 exact⟨S2,E3,q1,rs,⟨l2,λi hi i1 i2 i3=>(k2 i hi).trans (f1 i hi i1 i2 i3),f2⟩,K2,m1,hP,c3⟩
def Ur(K:kP al S p pk b hs cp ks q W)(pm:∀h,h∈hs ↔ h∈ks)(R:zd b hs)(hl:hs.length<=12)(c1:1<=cp/\cp<=6)(a12:al.length<=12)(U:Cc b cp hs W u)(hx:x∈hs)(h1:1<hs.length):
  ∃S' ks' q' rs,C6 S S' p pk ks q ks' q'/\kP al S' p pk b (bT hs x) cp ks' q' (iu (bT hs x) cp b u)/\(∀h,h∈bT hs x ↔ h∈ks')/\ir W u b cp hs (bT hs x) rs/\ao fns (k+9) 22 [.ref p,.int x] S=af (.ok (.tup ((RK.bh rs).map aL)) S'):=by
 obtain⟨S1,E3,q1,rs,⟨l1,f1,f2⟩,K1,m1,hP,c2⟩:=Gk (k:=k) K pm U.out (λh=>⟨.inl,λz=>z.elim id λw=>(U9.mp w).1⟩) (Mv.go (x:=x) R hl c1 a12 U h1);obtain⟨S2,l2,k2,K2,c3⟩:=call_K (k:=k+8) (f:=22) (as:=[.ref p,.int x]) (fs:=⟨2,2,O0⟩) (S:=S) (S':=S1) rfl rfl (by
  unfold O0;simp only[U0,Vg,U5,Vj,bE,Uy,Uu,UT,dP,dQ,Vm,Vz];exact aH (bK (aa rfl) K.ob rfl (aj (aO (aj (dM K (aa rfl)) (aj (aa rfl) az)) (Qz (k:=k+7) hx h1 (by lia))) az) c2) (.inl rfl)) l1 gj (λk e=>by cases e) K K1
 exact⟨S2,E3,q1,rs,⟨l2,λi hi i1 i2 i3=>(k2 i hi).trans (f1 i hi i1 i2 i3),f2⟩,K2,m1,hP,c3⟩
def QK(K:kP al S p pk b hs cp ks q W)(pm:∀h,h∈hs ↔ h∈ks)(M:Mv al b cp hs hs W u):
  ∃S' rs,C6 S S' p pk ks q ks q/\kP al S' p pk b hs cp ks q (iu hs cp b u)/\ir W u b cp hs hs rs/\ao fns (k+8) 20 [.ref p] S=af (.ok (.tup ((RK.bh rs).map aL)) S'):=by
 obtain⟨S2,d,l2,k2,K2,⟨rs,rfl,hP⟩,cd,nd,c2⟩:=yV (k:=k) (tg:=hs) (u:=u) K M.RA M.Rt pm M.lA M.lt M.c1.1 M.vs M.ex M.a12 λy _ g=>M.ln y g;obtain⟨S3,l3,k3,K3,c3⟩:=call_K (k:=k+7) (f:=20) (as:=[.ref p]) (fs:=⟨1,1,OY⟩) (S:=S) (S':=S2) rfl rfl (by
  unfold OY;simp only[U0,Vg,U5,Vj,bE,Uy,Uu,UT,dP,dQ,Vm,Vz];exact aH (bK (aa rfl) K.ob rfl (aj (dM K (aa rfl)) az) c2) (.inl rfl)) l2 (cd _) nd K K2
 exact⟨S3,rs,⟨l3,λi hi _ _ i3=>(k3 i hi).trans (k2 i hi i3),λh hh=> .inl ⟨hh,rfl⟩⟩,K3,hP,c3⟩
end
section
variable{k:Nat}{S S':bq}{p pk:Nat}{b cp key v x:Int}{hs tg:List Int}{q:Int->Nat}{ks:List Int}{W:Int->Int->Option Int}{u f:Int->Option Int}{al:List Int}{rs R R':List (List Int)}
def rR{cl:Cl}{r:aC}{it:RK.It}{e:E}{i j:Nat}{xs:List Int}(B:nv al S pk ks q W)(hit:bM cl it r S=af (.ok (aq xs) S))(hx:∀h∈xs,h∈ks)(hl:xs.length<=13)(hk:(r[j]?).join=af (.int key))(he:∀h,ak cl e [af (.int h),(r[i]?).join,af (.int key)] S=af (.ok (.ref pk) S)):
  ak cl (E.comp aS (E.var 0) (Tg.name 0) it [T.val (E.cmp (CmpOp.In) (E.var 2) (E.ix e (E.var 0)))] 1 [i,j]) r S=af (.ok (.lst (aq (xs.filter λh=>(W h key).isSome))) S):=by
 have hle:=U7 (λh=>(W h key).isSome) xs;refine dY hit ?_ (by simp only[UG,aT];lia);have:=gP (S:=S) D.int (λh=>(W h key).isSome) (f:=λr S=>ak cl (E.var 0) r S) (g:=λr S=>bz cl [T.val (E.cmp (CmpOp.In) (E.var 2) (E.ix e (E.var 0)))] r S) (caps:=[(r[i]?).join,af (.int key)]) (xs:=xs) (o:=ah) (acc:=[])
  (λh hh=>iI (aP (x:= .bl _) (aM (aa rfl) (dH B (he h) (aa rfl) (hx h hh)) (lJ B (hx h hh))) aZ)) (λh _ _=>aa rfl)
 simp only[fM,U0,Vg,hk,bE,Uy,Uu];exact this
def tV(K:kP al S p pk b hs cp ks q W)(hsub:∀h∈hs,h∈ks)(hl:hs.length<=13):ao fns (k+1) 18 [.ref p,.int key] S=af (.ok (.tup (aq (hs.filter λh=>(W h key).isSome))) S):=by
 refine call_of (fs:=⟨2,2,OX⟩) (S':=S) rfl rfl ?_ (by simp) (bF _);unfold OX;simp only[U0,Vg,U5,Vj,bE,Uy,Uu,UT,dP,dQ,Vm,Vz];have hle:=U7 (λh=>(W h key).isSome) hs;have hz:(aq (hs.filter λh=>(W h key).isSome)).length<=sizeLine:=by simp only[UG,aT];lia
 refine aH (S1:=S) (cJ (cZ (x:= .lst (aq (hs.filter λh=>(W h key).isSome))) (dY (ds:=aq hs) (S1:=S) (S2:=S) (cu (aQ (dM K (aa rfl)) aA aW AE)) ?_ hz) rfl) hz) rfl;exact gP (S:=S) D.int (λh=>(W h key).isSome) (f:=λr S=>ak (ao fns k) (E.var 0) r S) (g:=λr S=>bz (ao fns k) [T.val (E.cmp (CmpOp.In) (E.var 1) (E.ix (E.fld bZ jK (E.var 2)) (E.var 0)))] r S) (caps:=[af (.int key),af (.ref p)]) (xs:=hs) (o:=ah) (acc:=[])
  (λh hh=>iI (aP (x:= .bl _) (aM (aa rfl) (dH K.B (dz K (aa rfl)) (aa rfl) (hsub h hh)) (lJ K.B (hsub h hh))) aZ)) (λh _ _=>aa rfl)
abbrev iw(W:Int->Int->Option Int)(xs:List Int)(key v:Int):Int->Int->Option Int:=λh y=>if y=key/\h∈xs then af v else W h y
def wB{cl:Cl}{cs:List C}{r:aC}{Q:Option Fl->Prop}{it:RK.It}{j:Nat}{eX eK eV:E}{xs:List Int}(B:nv al S pk ks q W)(hit:bM cl it r S=af (.ok (aq xs) S))(hx:∀h∈xs,h∈ks)(hk:key∈al)(hj:j<r.length)(h1:∀S' o,(∀i,(∀h∈ks,q h≠i)->S'[i]?=S[i]?)->ak cl eX (r.set j o) S'=af (.ok (.ref pk) S'))(h2:∀S' o,ak cl eK (r.set j o) S'=af (.ok (.int key) S'))(h3:∀S' o,ak cl eV (r.set j o) S'=af (.ok (.int v) S'))(kk:∀S' o,S'.length=S.length->(∀i,(∀h∈ks,q h≠i)->S'[i]?=S[i]?)->nv al S' pk ks q (iw W xs key v)->RV.Runs cl cs (r.set j o) S' Q):
  RV.Runs cl (.fr (.name j) it [C.sub (E.ix eX (E.var j)) eK eV]::cs) r S Q:=by
 refine bx (α:=Int) D.int (xs:=xs) (S1:=S) hit (λys r' S'=>∃pre o,pre++ys=xs/\S'.length=S.length/\(∀i,(∀h∈ks,q h≠i)->S'[i]?=S[i]?)/\nv al S' pk ks q (iw W pre key v)/\r'=r.set j o)
  ⟨[],r[j],rfl,rfl,λ_ _=>rfl,B.as λh _=>by funext y;simp[iw],(i8 hj).symm⟩ ?_ ?_
 ·rintro r' S' ⟨pre,o,hp,hl,hsm,KS,rfl⟩;rw[UT]at hp;subst hp;exact kk S' o hl hsm KS
 rintro x ys r' S' _ ⟨pre,o,hp,hl,hsm,KS,rfl⟩;have hxk:x∈ks:=hx x (by grind);obtain⟨N,n1,n2⟩:=KS.nt x hxk;have hz:N.length<sizeLine:=by have:=uf KS hxk n2;simp only[aT];lia
 rw[kT];refine gH (d:= .int v) (x:= .ref (q x)) (y:= .int key) (S1:=S') (S2:=S') (S3:=S') (S4:=S'.set (q x) (.dct (putD N (.inl key) (.int v)))) (h3 _ _) (dH KS (h1 _ _ hsm) (aa (Vy hj)) hxk) (h2 _ _) (by simp only[RK.putAt,n1,cX,if_pos hz]) (aJ ⟨pre++ [x],_,by rw[←hp];simp,by simp_all,λi hi=>by simp_all,?_,rfl⟩);refine(KS.put (i:=v) hxk hk n1 n2).as λh _=>?_;funext y;unfold C5 iw;by_cases ey:y=key
 ·by_cases eh:h=x
  ·simp[ey,eh]
  ·simp[ey,eh]
 ·simp[ey]
def Su(K:kP al S p pk b hs cp ks q W)(pm:∀h,h∈hs ↔ h∈ks)(R:zd b hs)(hl:hs.length<=13)(hc:1<=cp)(hk:key∈al):
  ∃S',S'.length=S.length/\(∀i,(∀h∈ks,q h≠i)->S'[i]?=S[i]?)/\kP al S' p pk b hs cp ks q (iw W (sN hs cp (key % sz b)) key v)/\ao fns (k+5) 15 [.ref p,.int key,.int v] S=af (.ok .non S'):=by
 have np:∀h∈ks,q h≠p:=λh hh=>by obtain⟨N,n1,_⟩:=K.nt h hh;exact Ne.symm (kh K.ob n1 (λz=>by cases z))
 suffices hw:RV.Runs (ao fns (k+4)) Nl [af (.ref p),af (.int key),af (.int v),ah] S λo=>∃S',S'.length=S.length/\(∀i,(∀h∈ks,q h≠i)->S'[i]?=S[i]?)/\kP al S' p pk b hs cp ks q (iw W (sN hs cp (key % sz b)) key v)/\∃r,o=af (.next r S') by unfold RV.Runs at hw;obtain⟨S',h1,h2,h3,r,e⟩:=hw;exact⟨S',h1,h2,h3,m9 (fs:=⟨3,4,Nl⟩) rfl rfl (by unfold RV.Runs;exact⟨r,e⟩) h1⟩
 unfold Nl;refine wB (xs:=sN hs cp (key % sz b)) K.B (cu (aO (aj (dM K (aa rfl)) (aj (aa rfl) (aj (yQ K (aa rfl)) az))) (nA (k:=k) R (by lia) (by lia)))) (λh hh=>(pm h).mp (jn hh)) hk (by simp) (λS' o e=>mX (aa rfl) ((e p np).trans K.ob) rfl) (λS' o=>aa rfl) (λS' o=>aa rfl) λS' o h1 h2 h3=>aJ ⟨S',h1,h2,⟨(h2 p np).trans K.ob,h3⟩,_,rfl⟩
def Cc.put(U:Cc b cp hs W u)(hne:hs≠ [])(hc:1<=cp):Cc b cp hs (iw W (sN hs cp (key % sz b)) key v) (λy=>if y=key then af v else u y):=by
 refine⟨λh hh y=>?_,λy hy=>?_,λh hh y hy=>?_,λh hh=>?_⟩
 ·by_cases e:y=key
  ·subst e;by_cases z:h∈sN hs cp (y % sz b)
   ·simp_all
   ·left;simp only[iw,z,and_false,VR];cases w:W h y with|none=>rfl|some i=>exact absurd (U.ho h hh y (by rw[w];rfl)) z
  ·simp only[iw,e,false_and,VR];exact U.vs h hh y
 ·by_cases e:y=key
  ·subst e;obtain⟨g,hg⟩:=Gj hne hc (y % sz b);exact⟨g,jn hg,by simp[iw,hg]⟩
  ·rw[if_neg e]at hy;obtain⟨h,h1,h2⟩:=U.ex y hy
   grind
 ·unfold iw at hy;split at hy
  ·lia
  ·exact U.ho h hh y hy
 ·funext y;unfold iw;rw[if_neg λz=>hh (jn z.2),U.out h hh]
def val(W:Int->Int->Option Int)(b:Int)(hs:List Int)(key:Int):Option Int:=(CH W b hs key).bind λg=>W g key
theorem Sv(K:kP al S p pk b hs cp ks q W)(pm:∀h,h∈hs ↔ h∈ks)(R:zd b hs)(hl:hs.length<=13)(hk:0<=key/\key<128):ao fns (k+7) 35 [.ref p,.int key] S=af (.ok (lK (val W b hs key)) S):=by
 have hf:=yR (k:=k) (key:=key) K R (λh hh=>(pm h).mp hh) hl;have e1:ak (ao fns (k+5)) (E.call 9 [E.fld bZ lH (E.var 0),E.fld bZ jK (E.var 0),E.var 1]) [af (.ref p),af (.int key),ah] S=af (.ok (lK (CH W b hs key)) S):=aO (aj (dM K (aa rfl)) (aj (dz K (aa rfl)) (aj (aa rfl) az))) hf;refine call_of (fs:=⟨2,4,NF⟩) (S':=S) rfl rfl ?_ (by simp) (by cases val W b hs key<;>trivial);unfold NF;simp only[U0,Vg,U5,Vj,bE,Uy,Uu,UT,dP,dQ,Vm,Vz];refine aD aA rfl ?_;simp only[bP];unfold val;cases e:CH W b hs key with
 |none=>
  rw[e]at e1;have hget:ao fns (k+6) 16 [.ref p,.int key] S=af (.exc ue S):=by refine call_exc (fs:=⟨2,3,L5⟩) rfl rfl ?_;unfold L5;simp only[U0,Vg,U5,Vj,bE,Uy,Uu,UT,dP,dQ,Vm,Vz];refine aD e1 rfl ?_;simp only[bP];refine bO (S1:=S) (aP (x:= .bl av) (aM (aa rfl) aA rfl) aZ) ?_;simp only[Uy,Uu];exact Bb (S1:=S) (ds:=[.EC]) (aj (Qq (aj (aa rfl) az) (Fq (Vf (show key.natAbs<2^7 by lia) (Nat.pow_le_pow_right (by lia) (by lia))))) az) ⟨_,_,rfl,by simp⟩
  refine Ib (c:=ue) (S1:=S) (r1:=[af (.ref p),af (.int key),af (.str {cps:= #[111,116,104,101,114]}),ah]) ?_ (by simp) (r2:=[af (.ref p),af (.int key),af .non,af (.B6 ue)]) (S2:=S) ?_ (aH (aa rfl) rfl)
  ·exact Es (S1:=S) (c:=ue) (bK (aa rfl) K.ob rfl (aj (aa rfl) az) hget) rfl
  ·simp only[bP];refine bO (S1:=S) (iT (v:=av) (aP (x:= .bl av) (yC (aa rfl) (by simp)) aZ) λ_=>iT (u:=av) (v:=av) (Bd (aP (x:= .bl aS) (Lx (aa rfl) (by decide) (by simp)) aZ)) λ_=>aP (x:= .bl av) (yC (aa rfl) (by simp)) aZ) ?_;simp only[Uy,Uu];exact aD aA rfl (aJ rfl)
 |some g=>
  rw[e]at e1;obtain⟨hg,XJ⟩:=wz e;obtain⟨i,ei⟩:=Vk.mp XJ;obtain⟨N,n1,n2⟩:=K.nt g ((pm g).mp hg);rw[n5,ei];have hget:ao fns (k+6) 16 [.ref p,.int key] S=af (.ok (.int i) S):=by refine call_of (fs:=⟨2,3,L5⟩) (S':=S) rfl rfl ?_ (by simp) trivial;unfold L5;simp only[U0,Vg,U5,Vj,bE,Uy,Uu,UT,dP,dQ,Vm,Vz];refine aD e1 rfl ?_;simp only[bP];refine aK (S1:=S) (aP (x:= .bl aS) (aM (aa rfl) aA rfl) aZ) ?_;simp only[Uu];exact aH (j5 (dH K.B (dz K (aa rfl)) (aa rfl) ((pm g).mp hg)) (aa rfl) (eG n1) rfl (by rw[n2.va key,ei];rfl)) rfl
  refine Ie (S1:=S) (r1:=[af (.ref p),af (.int key),af (.int i),ah]) ?_ (aH (aa rfl) rfl);exact aD (bK (aa rfl) K.ob rfl (aj (aa rfl) az) hget) rfl (aJ rfl)
def Mg(K:kP al S p pk b hs cp ks q W):ao fns (k+1) 14 [.ref p] S=af (.ok (au b hs) S):=by refine call_of (fs:=⟨1,1,OV⟩) (S':=S) rfl rfl ?_ (by simp) ⟨trivial,bF _,trivial⟩;unfold OV;simp only[U0,Vg,U5,Vj,bE,Uy,Uu,UT,dP,dQ,Vm,Vz];exact aH (dM K (aa rfl)) rfl
def hd0(r:List Int):Int:=r.headD 0
structure B5(f:Int->Option Int)(R:List (List Int)):Prop where
 fm:∀r∈R,∃y i,r=[y,i]
 up:(R.map hd0).Pairwise (·<·)
 va:∀y i,[y,i]∈R ↔ f y=af i
 len:R.length<=24
def B5.eq(h:B5 f R):R=(R.map hd0).map λy=> [y,(f y).getD 0]:=by rw[WL];refine(As R).symm.trans (Xb λr hr=>?_);obtain⟨y,i,rfl⟩:=h.fm r hr;have:=(h.va y i).mp hr;simp[hd0,this]
def B5.mem(h:B5 f R){y:Int}:y∈R.map hd0 ↔ (f y).isSome=true:=by
 rw[Va];constructor
 ·rintro⟨r,hr,e⟩;obtain⟨y',i,rfl⟩:=h.fm r hr;have e:y'=y:=e;subst e;rw[(h.va y' i).mp hr];rfl
 ·intro z;obtain⟨i,e⟩:=Vk.mp z;exact⟨[y,i],(h.va y i).mpr e,rfl⟩
def B5.uniq(h:B5 f R)(h':B5 f R'):R=R':=by rw[h.eq,h'.eq,nG h.up h'.up λy=>h.mem.trans h'.mem.symm]
def AW{n:Nat}(rs:List (List Int)):oj.clos n (rs.map dm):=jy.mpr λd hd=>by obtain⟨i,_,rfl⟩:=Va.mp hd;exact bF _
def QL(kv:L2.Key×D):List Int:=match kv.1 with
 |.inl y=>match kv.2 with
  |.int i=> [y,i]|_=> []
 |.inr _=> []
theorem wC:∀{N:List (L2.Key×D)},(∀kv∈N,∃y i,kv=(Sum.inl y,D.int i))->iM N=af (N.map QL)
 |[],_=>rfl|kv::N,h=>by obtain⟨y,i,rfl⟩:=h kv (by simp);show(match Jh (Sum.inl y,D.int i)with|none=>ah|some q=>(match iM N with|none=>ah|some t=>af (q::t)))=_;rw[wC (N:=N) λkv hk=>h kv (by simp[hk])];rfl
theorem rT:∀{N:List (L2.Key×D)}{kv:L2.Key×D},(N.map (·.1)).Nodup->kv∈N->bC N kv.1=af kv.2
 |[],kv,_,h=>absurd h (by simp)|p::N,kv,nd,h=>by
  have NI:=Wf.mp (by simpa using nd:(p.1::N.map (·.1)).Nodup);unfold bC;rcases UJ.mp h with rfl|h
  ·simp
  ·have hne:p.1≠kv.1:=λe=>NI.1 (by rw[e];exact Xc h);rw[List.find?_cons_of_neg (by lia)];exact rT NI.2 h
def Gm(h1:∀r∈rs,∃y i,r=[y,i])(hn:(rs.map hd0).Nodup):((RK.bh rs).map hd0).Pairwise (·<·):=by have hp:=RK.dB rs;have hn2:((RK.bh rs).map hd0).Nodup:=(hp.map hd0).nodup_iff.mpr hn;rw[VG];refine kX (R:=λa c=>RK.EB a c/\hd0 a≠hd0 c) (λ{a c} ha hc z=>?_) (List.pairwise_and_iff.mpr ⟨RK.lg rs,VG.mp hn2⟩);obtain⟨i,i2,rfl⟩:=h1 a (hp.mem_iff.mp ha);obtain⟨j,j2,rfl⟩:=h1 c (hp.mem_iff.mp hc);obtain⟨z1,z2⟩:=z;show i<j;have z1:RK.lexLt [j,j2] [i,i2]=false:=z1;have z2:i≠j:=z2;unfold RK.lexLt at z1;rw[if_neg (Ne.symm z2)]at z1;have:=of_decide_eq_false z1;lia
def EN{h:Int}(B:nv al S pk ks q W)(hk:h∈ks):∃R,B5 (W h) R/\∀(cl:Cl) r e,ak cl e r S=af (.ok (.ref (q h)) S)->ak cl (E.col (AU.tuple) (It.snap (E.E7 e))) r S=af (.ok (.tup (R.map dm)) S):=by
 obtain⟨N,n1,n2⟩:=B.nt h hk;have WV:=uf B hk n2;obtain⟨fs,e,LA,fm⟩:=n2.keys;have form:∀kv∈N,∃y i,kv=(Sum.inl y,D.int i):=λkv hkv=>by obtain⟨y,ey⟩:=n2.ki kv hkv;have hv:=rT n2.nd hkv;rw[ey,n2.va y]at hv;obtain⟨i,_,ei⟩:=Wh.mp hv;exact⟨y,i,Prod.ext ey ei.symm⟩
 have e1:=wC form;obtain⟨rs,MA⟩:∃rs,rs=N.map QL:=⟨_,rfl⟩
 rw[←MA]at e1;have hm:∀y i,[y,i]∈rs ↔ (Sum.inl y,D.int i)∈N:=λy i=>by
  rw[MA,Va];constructor
  ·rintro⟨kv,hkv,e⟩;obtain⟨y',i',rfl⟩:=form kv hkv;have e:[y',i']=[y,i]:=e;lia
  ·intro z;exact⟨_,z,rfl⟩
 have e3:∀r∈rs,∃y i,r=[y,i]:=λr hr=>by rw[MA]at hr;obtain⟨kv,hkv,rfl⟩:=Va.mp hr;obtain⟨y,i,rfl⟩:=form kv hkv;exact⟨y,i,rfl⟩
 have ef:rs.map hd0=fs:=by
  have e0:rs.map hd0=(N.map (·.1)).map λ(x:L2.Key)=>match x with|.inl y=>y|_=>(0:Int):=by rw[MA,WL,WL];refine Xb λkv hkv=>?_;obtain⟨y,i,rfl⟩:=form kv hkv;rfl
  rw[e0,e,WL];exact(Xb λ_ _=>rfl).trans (As fs)
 have hrl:rs.length=N.length:=by rw[MA,UG]
 have hp:=RK.dB rs;refine⟨RK.bh rs,⟨λr hr=>e3 r (hp.mem_iff.mp hr),Gm e3 (by lia),λy i=>?_,by rw[hp.length_eq];lia⟩,λcl r e h1=>cJ (cZ (Qw h1 n1 e1 ⟨(VG.mp (show(rs.map hd0).Pairwise (·≠·) by rw[ef];exact LA)).imp λn e=>n (by rw[e]),by lia⟩) iJ) (by rw[UG,hp.length_eq];simp only[aT];lia)⟩;rw[hp.mem_iff,hm];constructor
 ·intro z;have:=rT n2.nd z;rw[n2.va y]at this
  simp_all
 ·intro z;have:=n2.va y;rw[z]at this;exact vX this
def Sw{h:Int}(K:kP al S p pk b hs cp ks q W)(hk:h∈ks):∃R,B5 (W h) R/\ao fns (k+2) 17 [.ref p,.int h] S=af (.ok (.tup (R.map dm)) S):=by obtain⟨R,hR,c⟩:=EN K.B hk;refine⟨R,hR,call_of (fs:=⟨2,2,OW⟩) (S':=S) rfl rfl ?_ (by simp) (AW _)⟩;unfold OW;simp only[U0,Vg,U5,Vj,bE,Uy,Uu,UT,dP,dQ,Vm,Vz];refine aK (S1:=S) (aP (x:= .bl (!(bC (sM ks q) (.inl h)).isSome)) (aM (aa rfl) (dz K (aa rfl)) (Ez (eG K.kp) rfl)) (by rw[j9 hk];simp[aZ])) ?_;simp only[Uu];refine aH (aO (aj (dH K.B (dz K (aa rfl)) (aa rfl) hk) az) ?_) rfl;refine call_of (fs:=⟨1,1,Nd⟩) (S':=S) rfl rfl ?_ (by simp) (AW _);unfold Nd;simp only[U0,Vg,U5,Vj,bE,Uy,Uu,UT,dP,dQ,Vm,Vz];exact aH (c _ _ _ (aa rfl)) rfl
def iK{gone:List Int}{y:Int}:y∈RV.rest hs gone ↔ y∈hs/\y∉gone:=by simp
abbrev cV(W:Int->Int->Option Int)(tg:List Int)(y:Int):Bool:=decide (((tg.filter λh=>(W h y).isSome).length:Int)=0)
def QM{gone:List Int}(K:kP al S p pk b hs cp ks q W)(pm:∀h,h∈hs ↔ h∈ks)(R:zd b hs)(hl:hs.length<=12)(hg:∀g∈gone,g∈hs)(hne:RV.rest hs gone≠ []):
  ∃S' ys,S'.length=S.length/\(∀i,i≠p->i≠pk->S'[i]?=S[i]?)/\kP al S' p pk b (RV.rest hs gone) cp (ks.filter λh=>decide (h∈RV.rest hs gone)) q W/\ys.Pairwise (·<·)/\(∀y,y∈ys ↔ (∃h∈ks,(W h y).isSome=av)/\cV W (RV.rest hs gone) y=av)/\ao fns (k+2) 25 [.ref p,.tup (aq gone)] S=af (.ok (.tup (aq ys)) S'):=by
 have hle:(RV.rest hs gone).length<=hs.length:=U7 ..;obtain⟨ys,D0,B4,yl,hkeys⟩:=Gd (k:=k) K;obtain⟨S1,l1,k1,K1,c1⟩:=yW (k:=k) (tg:=RV.rest hs gone) K pm (bY R.up);have hsub:∀h∈RV.rest hs gone,h∈ks.filter λh=>decide (h∈RV.rest hs gone):=λh hh=>U9.mpr ⟨(pm h).mp (iK.mp hh).1,by simpa using hh⟩;have Sm:=U7 (cV W (RV.rest hs gone)) ys;have hz:(aq (ys.filter (cV W (RV.rest hs gone)))).length<=sizeLine:=by simp only[UG,aT];lia
 refine⟨S1,ys.filter (cV W (RV.rest hs gone)),l1,k1,K1,D0.sublist Wj,λy=>by rw[U9,B4],?_⟩;refine tQ (fs:=⟨2,4,Pd⟩) rfl rfl ?_ l1 (bF _);unfold Pd;simp only[U0,Vg,U5,Vj,bE,Uy,Uu,UT,dP,dQ,Vm,Vz];refine aD (aO (aj (dM K (aa rfl)) (aj (aa rfl) az)) (QB (k:=k) hg hne (by lia))) rfl ?_;refine aD (aO (aj (dz K (aa rfl)) az) hkeys) rfl ?_;simp only[bP];refine cG (bK (aa rfl) K.ob rfl (aj (aa rfl) az) c1) ?_;refine aH (S1:=S1) (cJ (cZ (x:= .lst (aq (ys.filter (cV W (RV.rest hs gone))))) (dY (ds:=aq ys) (S1:=S1) (S2:=S1) (gA (aa rfl)) ?_ hz) rfl) hz) rfl;refine gP (S:=S1) D.int (cV W (RV.rest hs gone)) (f:=λr S=>ak (ao fns (k+1)) (E.var 0) r S) (g:=λr S=>bz (ao fns (k+1)) [T.val (E.cmp (CmpOp.Eq) (E.bi (Bi.len) [E.kD bZ Zd 18 (E.var 1) [E.var 0]]) (E.cst (D.int 0)))] r S) (caps:=[af (.ref p)]) (xs:=ys) (o:=ah) (acc:=[])
  (λy hy=>?_) (λy _ _=>aa rfl)
 have hkp:=tV (k:=k) (key:=y) K1 hsub (by lia);unfold cV;obtain⟨l,el⟩:∃l,l=(RV.rest hs gone).filter λh=>(W h y).isSome:=⟨_,rfl⟩
 rw[←el]at hkp;simp only[←el];have C2:DT .len [.tup (aq l)] S1=af (.ok (.int l.length) S1):=by rw[jf aW,UG]
 exact iI (aP (x:= .bl _) (aM (fZ (aj (bK (aa rfl) K1.ob rfl (aj (aa rfl) az) hkp) az) C2) aA jk) aZ)
end
section
variable{k:Nat}{S S':bq}{n pl:Nat}{b cp key x y g:Int}{hs tg A tk gs:List Int}{lq:Int->Nat}{lk:List Int}{W W':Int->Int->Option Int}{u f:Int->Option Int}{al:List Int}{rs:List (List Int)}
structure C7(al:List Int)(S S':bq)(n pl:Nat)(lk:List Int)(lq:Int->Nat)(rs:List (List Int))(W:Int->Int->Option Int):Prop where
 n1:S'[n]?=af (.lst (rs.map aL))
 nl:S.length<=n
 ln:S.length<=S'.length
 sm:∀i,i<S.length->(∀h∈lk,lq h≠i)->S'[i]?=S[i]?
 B:nv al S' pl lk lq W
 ll:∀h∈lk,lq h<S.length
 lp:pl<S.length
def C7.app(L:C7 al S S' n pl lk lq rs W)(r:List Int):C7 al S (S'.set n (.lst ((rs++ [r]).map aL))) n pl lk lq (rs++ [r]) W:=by
 have hn:=L.nl;have hp:=L.lp;refine⟨du L.n1,hn,by rw[WR];exact L.ln,λi hi h=>by rw[U6 (by lia)];exact L.sm i hi h,L.B.to λi hi=>U6 ?_,L.ll,hp⟩;rcases hi with rfl|⟨h,hh,rfl⟩
 ·lia
 ·have:=L.ll h hh;lia
def C7.at{o:SO}(L:C7 al S S' n pl lk lq rs W)(hx:x∈lk)(B:nv al (S'.set (lq x) o) pl lk lq W'):C7 al S (S'.set (lq x) o) n pl lk lq rs W':=by have hn:=L.nl;have hq:=L.ll x hx;exact⟨RV.cR L.n1 (by lia),hn,by rw[WR];exact L.ln,λi hi h=>by rw[U6 (h x hx)];exact L.sm i hi h,B,L.ll,L.lp⟩
theorem C7.as(L:C7 al S S' n pl lk lq rs W)(e:∀h∈lk,W h=W' h):C7 al S S' n pl lk lq rs W':=⟨L.n1,L.nl,L.ln,L.sm,L.B.as e,L.ll,L.lp⟩
def gJ(y g h:Int):List Int:=[y,1,g,h]
def jR(y h:Int):List Int:=[y,0,h]
abbrev NJ(y g:Int)(tk gs A:List Int):List (List Int):=((A.filter λh=>decide (h∈tk) && !decide (h∈gs)).map (gJ y g))++(gs.filter λh=>!decide (h∈tk)).map (jR y)
def Mh(hg:∀h,h∈gs ↔ h∈A/\(W h y).isSome=av){r:List Int}:r∈NJ y g tk gs A ↔ r∈AG W y g tk A:=by
 rw[fK,Vt,Va,Va];constructor
 ·rintro(⟨h,hh,rfl⟩|⟨h,hh,rfl⟩)
  ·obtain⟨h1,h2⟩:=U9.mp hh;rw[Vn]at h2;have h3:h∉gs:=by simpa using h2.2
   refine⟨h,h1,.inr ⟨?_,Vo h2.1,rfl⟩⟩
   grind
  ·obtain⟨h1,h2⟩:=U9.mp hh;obtain⟨a,c⟩:=(hg h).mp h1;exact⟨h,a,.inl ⟨c,by simpa using h2,rfl⟩⟩
 ·rintro⟨h,hh,⟨h1,h2,rfl⟩|⟨h1,h2,rfl⟩⟩
  ·exact .inr ⟨h,U9.mpr ⟨(hg h).mpr ⟨hh,h1⟩,by simpa using h2⟩,rfl⟩
  ·refine .inl ⟨h,U9.mpr ⟨hh,?_⟩,rfl⟩
   simp_all
def Gn{α β:Type}{f:α->β}{l:List α}(hf:∀a c,f a=f c->a=c)(h:l.Nodup):(l.map f).Nodup:=VG.mpr (h.imp λz e=>z (hf _ _ e))
def QQ(hA:A.Nodup)(hG:gs.Nodup):(NJ y g tk gs A).Nodup:=by refine Vx.mpr ⟨Gn (λa c e=>by simpa[gJ]using e) (hA.filter _),Gn (λa c e=>by simpa[jR]using e) (hG.filter _),λr h1 r' h2 e=>?_⟩;obtain⟨h,_,rfl⟩:=Va.mp h1;obtain⟨h',_,rfl⟩:=Va.mp h2;simp[gJ,jR]at e
def rW(hR:zd b hs)(hl:hs.length<=13):ao fns (k+1) 30 [au b hs,.int x] S=af (.ok (.lst (aq (bD hs (x % sz b)))) S):=
 call_of (fs:=⟨2,4,Po⟩) rfl rfl (t6 hR (by lia)) (by simp) (bF _)
def Gp{cl:Cl}{r:aC}{e c:E}(h1:ak cl e r S=af (.ok (.lst (aq (bD tg (y % sz b)))) S))(h2:ak cl c r S=af (.ok (.int cp) S))(hc:0<=cp):ak cl (E.DB e c) r S=af (.ok (.lst (aq (sN tg cp (y % sz b)))) S):=by refine vJ h1 h2 ?_;rw[Bj,qI hc];unfold sN aq;simp
def W1(W:Int->Int->Option Int)(u:Int->Option Int)(y:Int)(tk pre:List Int):Int->Int->Option Int:=λh k=>if k=y/\h∈pre/\h∈tk then u y else W h k
def W3(W:Int->Int->Option Int)(y:Int)(tk pre:List Int):Int->Int->Option Int:=λh k=>if k=y/\h∈pre/\h∉tk then ah else W h k
def Sy{v5 v6 v8 v9:Option D}{Q:Option Fl->Prop}{cl:Cl}(hord:∀hs x S,zd b hs->hs.length<=13->cl 30 [au b hs,.int x] S=af (.ok (.lst (aq (bD hs (x % sz b)))) S))(L:C7 al S S' n pl lk lq rs W')(hA:∀h,h∈A ↔ h∈lk)(M:Mv al b cp A tg W u)(hy:(u y).isSome=av)(hW:∀h∈A,W' h y=W h y)(hg:CH W b A y=af g)(hrl:rs.length<=90)(kk:∀AF gs v6 v8 v9,gs.Nodup->(∀h,h∈gs ↔ h∈A/\(W h y).isSome=av)->C7 al S AF n pl lk lq (rs++NJ y g (sN tg cp (y % sz b)) gs A) (λh k=>if k=y then(if h∈sN tg cp (y % sz b)then u y else ah)else W' h k)->Q (af (.next [af (.ref pl),af (au b tg),af (au b A),af (.int cp),af (.ref n),v5,v6,af (.int y),v8,v9] AF))):
  RV.Runs cl [C.asg (Tg.name 8) (E.comp aS (E.var 0) (Tg.name 0) (It.seq (E.call 30 [E.var 2,E.var 7])) [T.val (E.cmp (CmpOp.In) (E.var 2) (E.ix (E.var 1) (E.var 0)))] 1 [0,7]),
   C.asg (Tg.name 9) (E.DB (E.call 30 [E.var 1,E.var 7]) (E.var 3)),
   C.fr (Tg.name 6) (It.seq (E.ix (E.var 2) (E.cst (D.int 1)))) [C.cond (T.and (T.val (E.cmp (CmpOp.In) (E.var 6) (E.var 9))) (T.val (E.cmp (CmpOp.NotIn) (E.var 6) (E.var 8)))) [C.ex (E.meth (Mt.append) (E.var 4) [E.tup [E.var 7,E.cst (D.str Z8),E.ix (E.var 8) (E.cst (D.int 0)),E.var 6]]),C.sub (E.ix (E.var 0) (E.var 6)) (E.var 7) (E.ix (E.ix (E.var 0) (E.ix (E.var 8) (E.cst (D.int 0)))) (E.var 7))] []],
   C.fr (Tg.name 6) (It.seq (E.var 8)) [C.cond (T.val (E.cmp (CmpOp.NotIn) (E.var 6) (E.var 9))) [C.ex (E.meth (Mt.append) (E.var 4) [E.tup [E.var 7,E.cst (D.str Z7),E.var 6]])] []],
   C.fr (Tg.name 6) (It.seq (E.var 8)) [C.cond (T.val (E.cmp (CmpOp.NotIn) (E.var 6) (E.var 9))) [C.ex (E.meth (Mt.lI) (E.ix (E.var 0) (E.var 6)) [E.var 7])] []]]
   [af (.ref pl),af (au b tg),af (au b A),af (.int cp),af (.ref n),v5,v6,af (.int y),v8,v9] S' Q:=by
 obtain⟨i,ei⟩:=Vk.mp hy;obtain⟨tk,Sn⟩:∃tk,tk=sN tg cp (y % sz b):=⟨_,rfl⟩
 obtain⟨gs,FI⟩:∃gs,gs=(bD A (y % sz b)).filter λh=>(W h y).isSome:=⟨_,rfl⟩
 have pm:=dG A (y % sz b);have FL:gs.Nodup:=by rw[FI];exact(pm.nodup_iff.mpr (bY M.RA.up)).filter _
 have gm:∀h,h∈gs ↔ h∈A/\(W h y).isSome=true:=λh=>by rw[FI,U9,pm.mem_iff]
 have gl:gs.length<=13:=Vp (RV.dg gs A FL λh hh=>((gm h).mp hh).1) M.lA;have XM:=M.lA;have gW:∀h∈gs,W' h y=af i:=λh hh=>by
  obtain⟨h1,h2⟩:=(gm h).mp hh;rw[hW h h1];rcases M.vs h h1 y with z|z
  ·simp_all
  ·rw[z,ei]
 have XN:∃t,gs=g::t:=by
  have:gs.head?=af g:=by rw[FI,sj];exact hg
  cases gs with|nil=>cases this|cons a t=>grind
 obtain⟨t,et⟩:=XN;have gg:g∈gs:=by rw[et];simp
 have gk:g∈lk:=(hA g).mp ((gm g).mp gg).1;have hyl:y∈al:=by refine L.B.bd g gk y ?_;rw[gW g gg];rfl
 have So:∀{S:bq}{r:aC},r[8]?=af (af (.lst (aq gs)))->ak cl (E.ix (E.var 8) (E.cst (D.int 0))) r S=af (.ok (.int g) S):=λh=>by rw[et]at h;exact aQ (aa h) aA iJ CA
 refine aD (d:= .lst (aq gs)) (S1:=S') ?_ rfl ?_
 ·have e1:(bD A (y % sz b)).filter (λh=>(W' h y).isSome)=gs:=by
   rw[FI];exact W4 λh hh=>by rw[hW h (pm.mem_iff.mp hh)]
  rw[←e1];exact rR L.B (gA (aO (aj (aa rfl) (aj (aa rfl) az)) (hord _ _ _ M.RA M.lA))) (λh hh=>(hA h).mp (pm.mem_iff.mp hh)) (by rw[jB];exact M.lA) rfl λh=>aa rfl
 simp only[bP];refine aD (d:= .lst (aq tk)) (S1:=S') (by rw[Sn];exact Gp (aO (aj (aa rfl) (aj (aa rfl) az)) (hord _ _ _ M.Rt M.lt)) (aa rfl) (by have:=M.c1;lia)) rfl ?_;simp only[bP];rw[←Sn]at kk;obtain⟨P1,PR⟩:∃P:Int->Bool,P=λh=>decide (h∈tk) && !decide (h∈gs):=⟨_,rfl⟩
 obtain⟨P2,MB⟩:∃P:Int->Bool,P=λh=>!decide (h∈tk):=⟨_,rfl⟩
 refine bx (α:=Int) D.int (xs:=A) (S1:=S') (cu (aQ (aa rfl) aA aW AE))
  (λxs r AF=>∃pre o,pre++xs=A/\C7 al S AF n pl lk lq (rs++(pre.filter P1).map (gJ y g)) (W1 W' u y tk pre)/\r=[af (.ref pl),af (au b tg),af (au b A),af (.int cp),af (.ref n),v5,o,af (.int y),af (.lst (aq gs)),af (.lst (aq tk))])
  ⟨[],v6,rfl,by simp only[kK,Vg,UT];exact L.as λh _=>by funext k;simp[W1],rfl⟩ ?_ ?_
 rotate_left
 ·rintro x xs r AF _ ⟨pre,o,hp,L1,rfl⟩;have XO:x∈A:=by rw[←hp];simp
  have hxk:=(hA x).mp XO;have hpl:=U7 P1 pre;have PU:pre.length<=13:=by have:=VJ e9 hp;simp at this;lia
  simp only[bP];refine cH (t:=P1 x) (S1:=AF) (by rw[PR];exact iT (aP (x:= .bl _) (aM (aa rfl) (aa rfl) (Bf oh)) aZ) λ_=>aP (x:= .bl _) (aM (aa rfl) (aa rfl) (gZ oh)) aZ) (λe=>?_) (λe=>?_)
  ·have hx2:x∈tk:=by rw[PR]at e;simp only[Vn]at e;exact Vo e.1
   have L2:=L1.app (gJ y g x);obtain⟨Ng,g1,g2⟩:=L2.B.nt g gk;obtain⟨Nx,x1,x2⟩:=L2.B.nt x hxk;have PC:W1 W' u y tk pre g y=af i:=by unfold W1;split;exact ei;exact gW g gg
   have hz:Nx.length<sizeLine:=by have:=uf L2.B hxk x2;simp only[aT];lia
   simp only[Uy,Uu];refine cG (S1:=AF.set n (.lst ((rs++(pre.filter P1).map (gJ y g)++ [gJ y g x]).map aL))) (by rw[Xu (l₂:=[gJ y g x])];exact km (d:=aL (gJ y g x)) rfl L1.n1 (bI (aj (aa rfl) (aj aA (aj (So rfl) (aj (aa rfl) az)))) (by simp[aT])) (by simp only[UG,Vh];lia)) ?_;refine gH (d:= .int i) (x:= .ref (lq x)) (y:= .int y) (j5 (dH L2.B (aa rfl) (So rfl) gk) (aa rfl) (eG g1) rfl (by rw[g2.va y,PC];rfl)) (dH L2.B (aa rfl) (aa rfl) hxk) (aa rfl) (by simp only[RK.putAt,x1,cX,if_pos hz];rfl) (aJ ⟨pre++ [x],_,by rw[←hp];simp,?_,rfl⟩);rw[show rs++((pre++ [x]).filter P1).map (gJ y g)=rs++(pre.filter P1).map (gJ y g)++ [gJ y g x] by rw[Xi,V3 e];simp];refine(L2.at hxk (L2.B.put (i:=i) hxk hyl x1 x2)).as λh _=>?_;funext k;unfold C5 W1;by_cases ek:k=y
   ·by_cases eh:h=x
    ·simp[ek,eh,hx2,ei]
    ·simp[ek,eh]
   ·simp[ek]
  ·refine aJ ⟨pre++ [x],_,by rw[←hp];simp,?_,rfl⟩;rw[Xi,V2 (by rw[e];simp),kK,UT];refine L1.as λh _=>?_;funext k;unfold W1
   grind
 rintro r S2 ⟨pre,o,hp,L2,rfl⟩;rw[UT]at hp;subst hp;have hf1:=U7 P1 pre;refine bx (α:=Int) D.int (xs:=gs) (S1:=S2) (gA (aa rfl))
  (λxs r AF=>∃pr o,pr++xs=gs/\C7 al S AF n pl lk lq (rs++(pre.filter P1).map (gJ y g)++(pr.filter P2).map (jR y)) (W1 W' u y tk pre)/\r=[af (.ref pl),af (au b tg),af (au b pre),af (.int cp),af (.ref n),v5,o,af (.int y),af (.lst (aq gs)),af (.lst (aq tk))])
  ⟨[],o,rfl,by simp only[kK,Vg,UT];exact L2,rfl⟩ ?_ ?_
 rotate_left
 ·rintro x xs r AF _ ⟨pr,o,hp,L1,rfl⟩;have hpl:=U7 P2 pr;have PU:pr.length<=13:=by have:=VJ e9 hp;simp at this;lia
  simp only[bP];refine cH (t:=P2 x) (S1:=AF) (by rw[MB];exact aP (x:= .bl _) (aM (aa rfl) (aa rfl) (gZ oh)) aZ) (λe=>?_) (λe=>?_)
  ·simp only[Uy,Uu];refine cG (S1:=AF.set n (.lst ((rs++(pre.filter P1).map (gJ y g)++(pr.filter P2).map (jR y)++ [jR y x]).map aL))) (by rw[Xu (l₂:=[jR y x])];exact km (d:=aL (jR y x)) rfl L1.n1 (bI (aj (aa rfl) (aj aA (aj (aa rfl) az))) (by simp[aT])) (by simp only[UG,Vh];lia)) (aJ ⟨pr++ [x],_,by rw[←hp];simp,?_,rfl⟩);have:=L1.app (jR y x)
   grind
  ·refine aJ ⟨pr++ [x],_,by rw[←hp];simp,?_,rfl⟩
   grind
 rintro r S3 ⟨pr,o,hp,L3,rfl⟩;rw[UT]at hp;subst hp;refine bx (α:=Int) D.int (xs:=pr) (S1:=S3) (gA (aa rfl))
  (λxs r AF=>∃p3 o,p3++xs=pr/\C7 al S AF n pl lk lq (rs++(pre.filter P1).map (gJ y g)++(pr.filter P2).map (jR y)) (W3 (W1 W' u y tk pre) y tk p3)/\r=[af (.ref pl),af (au b tg),af (au b pre),af (.int cp),af (.ref n),v5,o,af (.int y),af (.lst (aq pr)),af (.lst (aq tk))])
  ⟨[],o,rfl,L3.as λh _=>by funext k;simp[W3],rfl⟩ ?_ ?_
 ·rintro r S4 ⟨p3,o,hp,L4,rfl⟩;rw[UT]at hp;subst hp;refine aJ (kk S4 p3 _ _ _ FL gm ?_);rw[WY,PR,MB]at L4;refine L4.as λh hh=>?_;have XR:=(hA h).mpr hh;funext k;unfold W3 W1;by_cases ek:k=y
  ·subst ek;by_cases ht:h∈tk
   ·simp[ht,XR]
   simp_all
  ·simp[ek]
 ·rintro x xs r AF _ ⟨p3,o,hp,L1,rfl⟩;have IJ:x∈pr:=by rw[←hp];simp
  have hxk:=(hA x).mp ((gm x).mp IJ).1;have hxp:x∉p3:=by rw[←hp]at FL;exact λz=>(Vx.mp FL).2.2 x z x (by simp) rfl
  simp only[bP];refine cH (t:=P2 x) (S1:=AF) (by rw[MB];exact aP (x:= .bl _) (aM (aa rfl) (aa rfl) (gZ oh)) aZ) (λe=>?_) (λe=>?_)
  ·have ht:x∉tk:=by rw[MB]at e;simpa using e
   obtain⟨Nx,x1,x2⟩:=L1.B.nt x hxk;have hv:bC Nx (.inl y)=af (.int i):=by rw[x2.va y];unfold W3 W1;simp[hxp,ht,gW x IJ]
   simp only[Uy,Uu];refine cG (rG (S3:=AF.set (lq x) (.dct (Nx.filter λkv=>decide (kv.1≠ .inl y)))) (d:= .int i) (dH L1.B (aa rfl) (aa rfl) hxk) x1 (aj (aa rfl) az) (by simp only[jh,x1,hv,bR])) (aJ ⟨p3++ [x],_,by rw[←hp];simp,?_,rfl⟩);refine(L1.at hxk (L1.B.drop (key:=y) hxk x1 x2)).as λh _=>?_;funext k;unfold C5 W3;by_cases ek:k=y
   ·by_cases eh:h=x
    ·simp[ek,eh,ht]
    ·simp[ek,eh]
   ·simp[ek]
  ·have ht:x∈tk:=by rw[MB]at e;simpa using e
   refine aJ ⟨p3++ [x],_,by rw[←hp];simp,L1.as λh _=>?_,rfl⟩;funext k;unfold W3;by_cases eh:h=x
   ·simp[eh,ht]
   ·simp[eh]
end
section
variable{k:Nat}{S S':bq}{m pl:Nat}{b cp x y g:Int}{hs tg A tk gs:List Int}{lq:Int->Nat}{lk:List Int}{W:Int->Int->Option Int}{u f:Int->Option Int}{al:List Int}{rs rs':List (List Int)}
theorem wD:∀{a c:List (List Int)},a.Nodup->c.Nodup->(∀x,x∈a ↔ x∈c)->a.Perm c
 |[],c,_,_,h=>by rw[List.eq_nil_iff_forall_not_mem.mpr λx hx=>absurd ((h x).mpr hx) (by simp)]|x::a,c,ha,hc,h=>by have ha':=Wf.mp ha;refine((wD ha'.2 (hc.erase x) λz=>?_).cons x).trans (List.perm_cons_erase ((h x).mp (by simp))).symm;rw[hc.mem_erase_iff,←h,UJ];exact⟨λw=>⟨λe=>ha'.1 (e▸w),.inr w⟩,λ⟨w1,w2⟩=>w2.resolve_left w1⟩
def pQ(h:ir W u b cp A tg rs)(h':ir W u b cp A tg rs'):RK.bh rs=RK.bh rs':=
 oZ ((RK.dB rs).trans (wD h.2.1 h'.2.1 λr=>(h.1 r).trans (h'.1 r).symm)) (RK.lg rs)
def pR(B:nv al S pl lk lq W)(hA:∀h,h∈A ↔ h∈lk)(M:Mv al b cp A tg W u):
  ∃S' rs,C6 S S' pl pl lk lq lk lq/\nv al S' pl lk lq (iu tg cp b u)/\ir W u b cp A tg rs/\ao fns (k+2) 32 [.ref pl,au b tg,au b A,.int cp] S=af (.ok (.tup ((RK.bh rs).map aL)) S'):=by
 have MC:=bJ B.kp;have IL:∀h∈lk,lq h<S.length:=λh hh=>by obtain⟨N,n1,_⟩:=B.nt h hh;exact bJ n1
 suffices hw:RV.Runs (ao fns (k+1)) L7 [af (.ref pl),af (au b tg),af (au b A),af (.int cp),ah,ah,ah,ah,ah,ah] S λo=>∃S' rs,S.length<=S'.length/\(∀i,i<S.length->(∀h∈lk,lq h≠i)->S'[i]?=S[i]?)/\nv al S' pl lk lq (iu tg cp b u)/\ir W u b cp A tg rs/\o=af (.ret (.tup ((RK.bh rs).map aL)) S') by
  unfold RV.Runs at hw;obtain⟨S',rs,h1,h2,h3,h4,e⟩:=hw;obtain⟨S2,l2,k2,c2⟩:=pO (k:=k+1) (f:=32) (as:=[.ref pl,au b tg,au b A,.int cp]) (fs:=⟨4,10,L7⟩) (S:=S) (S':=S') rfl rfl (by unfold RV.Runs;exact .inl e) h1 gj (λk e=>by cases e);refine⟨S2,rs,⟨l2,λi hi _ _ i3=>(k2 i hi).trans (h2 i hi i3),λh hh=> .inl ⟨hh,rfl⟩⟩,h3.to λi hi=>k2 i ?_,h4,c2⟩;rcases hi with rfl|⟨h,hh,rfl⟩
  ·exact MC
  ·exact IL h hh
 unfold L7;refine aD (d:= .ref S.length) (S1:=S++ [SO.lst []]) (j4 az (by simp[aT])) rfl ?_;simp only[bP];refine aD (d:= .ref (S.length+1)) (S1:=S++ [SO.lst []]++ [SO.dct []]) (by have:=gw (cl:=ao fns (k+1)) (r:=[af (.ref pl),af (au b tg),af (au b A),af (.int cp),af (.ref S.length),ah,ah,ah,ah,ah]) (S:=S++ [SO.lst []]);rw[Vh]at this;exact this) rfl ?_;simp only[bP];have hT:(S++ [SO.lst []]).length=S.length+1:=by simp
 refine bx (α:=Int) D.int (xs:=A) (S1:=S++ [SO.lst []]++ [SO.dct []]) (cu (aQ (aa rfl) aA aW AE))
  (λxs r S'=>∃pre Nf v6 v7,pre++xs=A/\S'=S++ [SO.lst []]++ [SO.dct Nf]/\nC Nf (λy=>∃h∈pre,(W h y).isSome=av)/\r=[af (.ref pl),af (au b tg),af (au b A),af (.int cp),af (.ref S.length),af (.ref (S.length+1)),v6,v7,ah,ah])
  ⟨[],[],ah,ah,rfl,rfl,⟨by simp,λkv h=>absurd h (by simp),λy=>by simp⟩,rfl⟩ ?_ ?_
 rotate_left
 ·rintro x xs r S' _ ⟨pre,Nf,v6,v7,hp,rfl,hF,rfl⟩;have hx:x∈lk:=(hA x).mp (by rw[←hp];simp);have hpk:∀h∈pre,h∈lk:=λh hh=>(hA h).mp (by rw[←hp];simp[hh]);obtain⟨N,n1,n2⟩:=B.nt x hx;have:=IL x hx;simp only[bP];refine nD (m:=S.length+1) (dH ((B.push _).push _) (aa rfl) (aa rfl) hx) (gh (gh n1)) n2 (rQ hT) hF rfl (by lia) (by simp) (λy hy=>hy.elim (λ⟨h,hh,w⟩=>B.bd h (hpk h hh) y w) (B.bd x hx y)) B.la (by lia) λo GI hF'=>?_;rw[ww hT];simp only[bP];refine aJ ⟨pre++ [x],GI,_,_,by rw[←hp];simp,rfl,⟨hF'.1,hF'.2.1,λy=>?_⟩,rfl⟩;rw[hF'.2.2];constructor
  ·rintro(⟨h,hh,w⟩|w)
   ·exact⟨h,by simp[hh],w⟩
   ·exact⟨x,by simp,w⟩
  ·rintro⟨h,hh,w⟩;rcases Vt.mp hh with z|z
   ·exact .inl ⟨h,z,w⟩
   ·rw[VM.mp z]at w;exact .inr w
 rintro r S' ⟨pre,Nf,v6,v7,hp,rfl,hF,rfl⟩;rw[UT]at hp;subst hp;obtain⟨ys,D0,B4,_,y4⟩:=pN (cl:=ao fns (k+1)) (r:=[af (.ref pl),af (au b tg),af (au b pre),af (.int cp),af (.ref S.length),af (.ref (S.length+1)),v6,v7,ah,ah]) (e:=E.var 5) (S:=S++ [SO.lst []]++ [SO.dct Nf]) (aa rfl) (rQ hT) hF (λy ⟨h,hh,w⟩=>B.bd h ((hA h).mp hh) y w) B.la;have Mc:=bY D0;have yu:∀y,y∈ys ↔ (u y).isSome=true:=λy=>by
  rw[B4];constructor
  ·rintro⟨h,hh,z⟩;rcases M.vs h hh y with w|w
   ·rw[w]at z;cases z
   ·rw[←w];exact z
  ·exact M.ex y
 have XD:ys.length<=12:=Vp (RV.dg ys al Mc λy hy=>by
  obtain⟨h,hh,z⟩:=(B4 y).mp hy;exact B.bd h ((hA h).mp hh) y z) M.a12
 refine bx (α:=Int) D.int (xs:=ys) (S1:=S++ [SO.lst []]++ [SO.dct Nf]) (gA y4)
  (λzs r S'=>∃p2 rs v6 v7 v8 v9,p2++zs=ys/\C7 al S S' S.length pl lk lq rs (λh k=>if k∈p2 then(if h∈sN tg cp (k % sz b)then u k else ah)else W h k)/\(∀r,r∈rs ↔ ∃y∈p2,r∈AG W y ((CH W b pre y).getD 0) (sN tg cp (y % sz b)) pre)/\Nr rs p2.length/\r=[af (.ref pl),af (au b tg),af (au b pre),af (.int cp),af (.ref S.length),af (.ref (S.length+1)),v6,v7,v8,v9])
  ⟨[],[],_,_,_,_,rfl,⟨gh (lS _ _),Uz _,by simp,λi hi _=>by rw[UV (by rw[hT];lia),UV hi],((B.push _).push _).as λh _=>by funext k;simp,IL,MC⟩,λr=>by simp,⟨.nil,by simp,by simp⟩,rfl⟩ ?_ ?_
 ·rintro r S' ⟨p2,rs,v6,v7,v8,v9,hp,L,G2,nr,rfl⟩;have nd:=nr.1;rw[UT]at hp;subst hp;have hrl:rs.length<128:=by have:=nr.2.1;lia
  obtain⟨F9,he2⟩:=wA (λr hr=>by
   obtain⟨y,_,hr⟩:=(G2 r).mp hr;obtain⟨h,_,⟨_,_,e⟩|⟨_,_,e⟩⟩:=fK.mp hr
   ·exact .inl ⟨_,_,e⟩
   ·exact .inr ⟨_,_,_,e⟩) nr hrl
  refine aH (S1:=S') (cJ (cZ (f9 (ds:=rs.map aL) (yF (aa rfl) L.n1) F9 he2) iJ) he2) ⟨S',rs,L.ln,L.sm,L.B.as λh hh=>?_,⟨λr=>?_,nd,hrl⟩,rfl⟩
  ·funext y;unfold iu;by_cases hy:y∈p2
   ·rw[if_pos hy]
   ·rw[if_neg hy];have hun:u y=none:=by
     cases e:u y with|none=>rfl|some i=>exact absurd ((yu y).mpr (by rw[e];rfl)) hy
    rw[hun,ite_self];rcases M.vs h ((hA h).mpr hh) y with z|z
    ·exact z
    ·rw[z,hun]
  ·rw[G2];exact⟨λ⟨y,w1,w2⟩=>⟨y,(yu y).mp w1,w2⟩,λ⟨y,w1,w2⟩=>⟨y,(yu y).mpr w1,w2⟩⟩
 ·rintro y zs r S' _ ⟨p2,rs,v6,v7,v8,v9,hp,L,G2,nr,rfl⟩;have rl:=nr.2.1;have hy:y∈ys:=by rw[←hp];simp
  have hyp:y∉p2:=by rw[←hp]at Mc;exact λz=>(Vx.mp Mc).2.2 y z y (by simp) rfl
  obtain⟨g,eg⟩:=Ge (b:=b) ((B4 y).mp hy);have hpl:p2.length<12:=by have:=VJ e9 hp;simp at this;lia
  simp only[bP];refine Sy (W:=W) (λhs x S h1 h2=>rW (k:=k) h1 h2) L hA M ((yu y).mp hy) (λh _=>by rw[if_neg hyp]) eg (by lia) λS2 gs w6 w8 w9 FL gm L2=>?_;have hmem:∀r,r∈NJ y g (sN tg cp (y % sz b)) gs pre ↔ r∈AG W y g (sN tg cp (y % sz b)) pre:=λr=>Mh gm;have hnd:=QQ (y:=y) (g:=g) (tk:=sN tg cp (y % sz b)) (bY M.RA.up) FL;have GH:=Vp (RV.dg _ _ hnd λr hr=>(hmem r).mp hr) (M.ln y g);refine⟨p2++ [y],_,_,_,_,_,by rw[←hp];simp,L2.as λh _=>?_,λr=>?_,?_,rfl⟩
  ·funext k;by_cases ek:k=y
   ·subst ek;simp
   ·simp[ek]
  ·rw[Vt,G2,hmem];constructor
   ·rintro(⟨z,w1,w2⟩|w)
    ·exact⟨z,by simp[w1],w2⟩
    ·exact⟨y,by simp,by rw[eg];exact w⟩
   ·rintro⟨z,w1,w2⟩;rcases Vt.mp w1 with w|w
    ·exact .inl ⟨z,w,w2⟩
    ·rw[VM.mp w,eg]at w2;exact .inr w2
  ·rw[Vh,Wu];refine nr.add hnd (Vp GH (by lia)) (λr hr=>qN ((hmem r).mp hr)) λr hr=>?_;obtain⟨y',hy',hr⟩:=(G2 r).mp hr;rw[qN hr];rw[←hp]at D0;exact(WD.mp D0).2.2 y' hy' y (by simp)
end
abbrev Jx:Str:=Za
abbrev NL:Str:=Z6
abbrev Jy:Str:=Zb
abbrev Bq:Str:=Zc
abbrev lL:Str:=Ze
inductive Act(al hs:List Int)(b:Int):D->Prop where
 |ES {x:Int} (h0:0<=x/\x<sz b) (hn:x∉hs) (hl:hs.length<12):Act al hs b (.tup [.str Jx,.int x])|go {x:Int} (hx:x∈hs) (hl:1<hs.length):Act al hs b (.tup [.str NL,.int x])|fall {gone:List Int} (hg:∀g∈gone,g∈hs) (hn:gone.Nodup) (hl:gone.length<hs.length):Act al hs b (.tup [.str lL,.tup (aq gone)])|FH:Act al hs b (.tup [.str Jy])|put {key v:Int} (hk:key∈al):Act al hs b (.tup [.str Bq,.int key,.int v])
section
variable{k:Nat}{S S':bq}{n m pl:Nat}{b cp key v x y g:Int}{hs gone:List Int}{lq:Int->Nat}{lk:List Int}{W W':Int->Int->Option Int}{u f:Int->Option Int}{al:List Int}{rs:List (List Int)}
def XS{a c:Str}(h1:SeqAt.shaped (.str a)=av)(h2:SeqAt.shaped (.str c)=av):BC S (.str a) (.str c)=af (decide (a=c)):=by simp only[BC,gF,zD];rw[if_pos ⟨h1,h2⟩];rfl
def tA{cl:Cl}{r:aC}{i:Nat}{a c:Str}{u:Bool}{ds:List D}(hr:r[i]?=af (af (.tup (.str a::ds))))(h1:SeqAt.shaped (.str a)=true:=by decide+kernel)(h2:SeqAt.shaped (.str c)=true:=by decide+kernel)(h3:decide (a=c)=u:=by decide):bu cl (T.val (E.cmp (CmpOp.Eq) (E.ix (E.var i) (E.cst (D.int 0))) (E.cst (D.str c)))) r S=af (.ok u S):=
 aP (x:= .bl u) (aM (aQ (aa hr) aA aW CA) aA (pK (h3▸XS h1 h2))) aZ
def Mi{cl:Cl}{r:aC}{a e:E}(h1:ak cl a r S=af (.ok (.tup (aq hs)) S))(h2:ak cl e r S=af (.ok (.int x) S))(hne:hs≠ [])(hl:hs.length<=12):ak cl (E.col (AU.tuple) (It.snap (E.col (AU.sorted aS) (It.live (E.bin (Operator.Add) a (E.tup [e])))))) r S=af (.ok (.tup (aq (with1 hs x))) S):=by
 have hz:(aq (with1 hs x)).length<=sizeLine:=by rw[UG,(fB hs x).length_eq,U5];simp only[aT];lia
 have e1:aq hs++ [D.int x]=aq (hs++ [x]):=by simp
 refine cJ (cZ (f9 (ds:=aq (hs++ [x])) (yD (ns:=hs++ [x]) ?_ (ig _)) (gb (by simp;lia)) hz) iJ) hz;rw[←e1];exact fV h1 (bI (aj h2 az) (by simp[aT])) (vM (by simpa using hne) (by simp only[UG,U5,Vj,aT];lia))
def wF{cl:Cl}{cs:List C}{Q:Option Fl->Prop}{a1 a2 a3 o4 a5 a7 a8 D3 a11:Option D}(B:nv al S pl lk lq W)(hm:S[m]?=af (.dct []))(hml:∀h∈lk,lq h≠m)(Sz:pl≠m)(hg:∀g∈gone,g∈lk)(NO:gone.Nodup)(kk:∀S' Nf o4 D3,S'.length=S.length->(∀i,i≠pl->i≠m->S'[i]?=S[i]?)->nv al S' pl (lk.filter λh=>decide (h∉gone)) lq W->S'[m]?=af (.dct Nf)->nC Nf (λy=>∃h∈gone,(W h y).isSome=av)->RV.Runs cl cs [af (.ref pl),a1,a2,a3,o4,a5,af (.tup (aq gone)),a7,a8,af (.ref m),D3,a11] S' Q):
  RV.Runs cl (C.fr (Tg.name 4) (It.seq (E.var 6)) [C.CB (Tg.name 10) (E.meth (Mt.lI) (E.var 0) [E.var 4]) [C.sub (E.var 9) (E.var 10) (E.cst (D.bl av))]]::cs) [af (.ref pl),a1,a2,a3,o4,a5,af (.tup (aq gone)),a7,a8,af (.ref m),D3,a11] S Q:=by
 refine bx (α:=Int) D.int (xs:=gone) (S1:=S) (cu (aa rfl))
  (λxs r S'=>∃pre Nf o4 D3,pre++xs=gone/\S'.length=S.length/\(∀i,i≠pl->i≠m->S'[i]?=S[i]?)/\nv al S' pl (lk.filter λh=>decide (h∉pre)) lq W/\S'[m]?=af (.dct Nf)/\nC Nf (λy=>∃h∈pre,(W h y).isSome=av)/\r=[af (.ref pl),a1,a2,a3,o4,a5,af (.tup (aq gone)),a7,a8,af (.ref m),D3,a11])
  ⟨[],[],_,_,rfl,rfl,λ_ _ _=>rfl,by rw[WN.mpr (λh _=>by simp)];exact B,hm,⟨by simp,λkv h=>absurd h (by simp),λy=>by simp⟩,rfl⟩ ?_ ?_
 ·rintro r S' ⟨pre,Nf,o4,D3,hp,h1,h2,h3,h4,h5,rfl⟩;rw[UT]at hp;subst hp;exact kk _ _ _ _ h1 h2 h3 h4 h5
 rintro x xs r S' _ ⟨pre,Nf,o4,D3,hp,h1,h2,h3,h4,h5,rfl⟩;have IJ:x∈gone:=by rw[←hp];simp
 have hxp:x∉pre:=by rw[←hp]at NO;exact λz=>(Vx.mp NO).2.2 x z x (by simp) rfl
 have hx:x∈lk.filter λh=>decide (h∉pre):=U9.mpr ⟨hg x IJ,by lia⟩;obtain⟨N,n1,n2⟩:=h3.nt x hx;obtain⟨B2,c2⟩:=Jw (cl:=cl) (r:=[af (.ref pl),a1,a2,a3,af (.int x),a5,af (.tup (aq gone)),a7,a8,af (.ref m),D3,a11]) (a:=E.var 0) (e:=E.var 4) h3 hx (aa rfl) (aa rfl);have ef:(lk.filter λh=>decide (h∉pre)).filter (λh=>decide (h≠x))=lk.filter λh=>decide (h∉pre++ [x]):=by
  rw[gX];refine W4 λh _=>?_;by_cases z:h=x
  ·subst z;simp
  ·simp[z]
 rw[ef]at B2 c2;simp only[bP];refine nD (al:=al) (m:=m) (n:=lq x) c2 (RV.cR n1 (Ne.symm (B.dq x (hg x IJ)))) n2 (RV.cR h4 Sz) h5 rfl (by lia) (by simp) (λy hy=>hy.elim (λ⟨h,hh,w⟩=>B.bd h (hg h (by rw[←hp];simp[hh])) y w) (B.bd x (hg x IJ) y)) B.la (hml x (hg x IJ)) λo GI hF'=>?_;simp only[bP];refine aJ ⟨pre++ [x],GI,_,_,by rw[←hp];simp,by rw[WR,WR];exact h1,λi i1 i2=>by rw[U6 (Ne.symm i2),U6 (Ne.symm i1)];exact h2 i i1 i2,B2.to λi hi=>U6 ?_,du (RV.cR h4 Sz),⟨hF'.1,hF'.2.1,λy=>?_⟩,rfl⟩
 ·rcases hi with rfl|⟨h,hh,rfl⟩
  ·lia
  ·exact Ne.symm (hml h (U9.mp hh).1)
 ·rw[hF'.2.2];simp
def D5(k:Nat)(al:List Int)(S:bq)(pl:Nat)(b cp:Int)(hs lk:List Int)(lq:Int->Nat)(act:D)(hs':List Int)(W':Int->Int->Option Int)(d:D):Prop:=
 ∃S' DM D6,C6 S S' pl pl lk lq DM D6/\nv al S' pl DM D6 W'/\(∀h,h∈hs' ↔ h∈DM)/\ao fns (k+3) 33 [.ref pl,au b hs,.int cp,act] S=af (.ok (.tup [au b hs',d]) S')
def yX{n:Nat}{d:D}(h:oj n d):oj n (.tup [au b hs,d]):=⟨⟨trivial,bF _,trivial⟩,h,trivial⟩
def SJ(B:nv al S pl lk lq W)(lm:∀h,h∈hs ↔ h∈lk)(R:zd b hs)(hl:hs.length<=13)(hc:1<=cp)(hk:key∈al):D5 k al S pl b cp hs lk lq (.tup [.str Bq,.int key,.int v]) hs (iw W (sN hs cp (key % sz b)) key v) .non:=by
 suffices hw:RV.Runs (ao fns (k+2)) DZ [af (.ref pl),af (au b hs),af (.int cp),af (.tup [.str Bq,.int key,.int v]),ah,ah,ah,ah,ah,ah,ah,ah] S λo=>∃S',S'.length=S.length/\(∀i,(∀h∈lk,lq h≠i)->S'[i]?=S[i]?)/\nv al S' pl lk lq (iw W (sN hs cp (key % sz b)) key v)/\o=af (.ret (.tup [au b hs,.non]) S') by unfold RV.Runs at hw;obtain⟨S',h1,h2,h3,e⟩:=hw;exact⟨S',lk,lq,⟨by lia,λi _ _ _ i3=>h2 i i3,λh hh=> .inl ⟨hh,rfl⟩⟩,h3,lm,tQ (fs:=⟨4,12,DZ⟩) rfl rfl (by unfold RV.Runs;exact e) h1 (yX trivial)⟩
 unfold DZ;refine bO (S1:=S) (tA rfl) ?_;simp only[Uy,Uu];exact wB (v:=v) (xs:=sN hs cp (key % sz b)) B (gA (Gp (aO (aj (aa rfl) (aj (aQ (aa rfl) aA aW AE) az)) (rW (k:=k+1) R hl)) (aa rfl) (by lia))) (λh hh=>(lm h).mp (jn hh)) hk (by simp) (λS' o e=>aa rfl) (λS' o=>aQ (aa rfl) aA aW AE) (λS' o=>aQ (aa rfl) aA aW Bp) λS' o h1 h2 h3=>aH (bI (aj (aa rfl) (aj aA az)) (by simp[aT])) ⟨S',h1,h2,h3,rfl⟩
def D5.ok{act d:D}{S':bq}{DM:List Int}{D6:Int->Nat}{hs':List Int}(B:nv al S pl lk lq W)(hr:RV.Runs (ao fns (k+2)) DZ [af (.ref pl),af (au b hs),af (.int cp),af act,ah,ah,ah,ah,ah,ah,ah,ah] S λo=>o=af (.ret (.tup [au b hs',d]) S'))(F:C6 S S' pl pl lk lq DM D6)(B':nv al S' pl DM D6 W')(lm:∀h,h∈hs' ↔ h∈DM)(c:oj S.length d):D5 k al S pl b cp hs lk lq act hs' W' d:=by obtain⟨S2,l2,k2,B2,c2⟩:=Gh (k:=k+2) (f:=33) (as:=[.ref pl,au b hs,.int cp,act]) (fs:=⟨4,12,DZ⟩) (S:=S) (S':=S') (d:= .tup [au b hs',d]) rfl rfl (by unfold RV.Runs at hr ⊢;exact .inl hr) F.1 (yX c) (λk e=>by cases e) B B';exact⟨S2,DM,D6,⟨l2,λi hi i1 i2 i3=>(k2 i hi).trans (F.2.1 i hi i1 i2 i3),F.2.2⟩,B2,lm,c2⟩
def QR(B:nv al S pl lk lq W)(lm:∀h,h∈hs ↔ h∈lk)(M:Mv al b cp hs hs W u):∃rs,ir W u b cp hs hs rs/\D5 k al S pl b cp hs lk lq (.tup [.str Jy]) hs (iu hs cp b u) (.tup ((RK.bh rs).map aL)):=by obtain⟨S1,rs,F,B1,hP,c1⟩:=pR (k:=k) B lm M;refine⟨rs,hP,D5.ok B ?_ F B1 lm gj⟩;unfold DZ;refine aK (S1:=S) (tA rfl) ?_;simp only[Uu];refine bO (S1:=S) (tA rfl) ?_;simp only[Uy,Uu];exact aH (bI (aj (aa rfl) (aj (aO (aj (aa rfl) (aj (aa rfl) (aj (aa rfl) (aj (aa rfl) az)))) c1) az)) (by simp[aT])) rfl
def QS(B:nv al S pl lk lq W)(lm:∀h,h∈hs ↔ h∈lk)(R:zd b hs)(hl:hs.length<12)(hn:x∉hs)(hW:W x=λ_=>ah)(M:Mv al b cp (with1 hs x) (with1 hs x) W u):∃rs,ir W u b cp (with1 hs x) (with1 hs x) rs/\D5 k al S pl b cp hs lk lq (.tup [.str Jx,.int x]) (with1 hs x) (iu (with1 hs x) cp b u) (.tup ((RK.bh rs).map aL)):=by
 have hxk:x∉lk:=λz=>hn ((lm x).mpr z);have XT:lk.length<13:=Nat.lt_of_le_of_lt (RV.dg lk hs B.nk λh hh=>(lm h).mpr hh) (by lia);have MC:=bJ B.kp;have B1:=B.add (N:=[]) hxk XT (by rw[hW];exact DI.nil) (λy z=>by simp_all);have SA:∀h,h∈with1 hs x ↔ h∈lk++ [x]:=λh=>by rw[s9,Vt,VM,lm];exact or_comm
 obtain⟨S2,rs,F,B2,hP,c2⟩:=pR (k:=k) B1 SA M;have l1:((S++ [SO.dct []]).set pl (.dct (putD (sM lk lq) (.inl x) (.ref S.length)))).length=S.length+1:=by simp
 have F1:=F.1;rw[l1]at F1;have hz:(sM lk lq).length<sizeLine:=by simp only[sM,UG,aT];lia
 have hp:(S++ [SO.dct []])[pl]?=af (.dct (sM lk lq)):=gh B.kp;refine⟨rs,hP,D5.ok (S':=S2) B ?_ ⟨by lia,λi hi i1 i2 i3=>?_,λh hh=>?_⟩ B2 SA gj⟩
 ·unfold DZ;refine aK (S1:=S) (tA rfl) ?_;simp only[Uu];refine aK (S1:=S) (tA rfl) ?_;simp only[Uu];refine bO (S1:=S) (tA rfl) ?_;simp only[Uy,Uu];refine aD (d:=au b (with1 hs x)) (bI (aj (aQ (aa rfl) aA aW CA) (aj (Mi (aQ (aa rfl) aA aW AE) (aQ (aa rfl) aA aW AE) R.ne (by lia)) az)) (by simp[aT])) rfl ?_;simp only[bP];refine gH (d:= .ref S.length) (x:= .ref pl) (y:= .int x) gw (aa rfl) (aQ (aa rfl) aA aW AE) (by simp only[RK.putAt,hp,cX,if_pos hz];rfl) ?_;exact aH (bI (aj (aa rfl) (aj (aO (aj (aa rfl) (aj (aa rfl) (aj (aa rfl) (aj (aa rfl) az)))) c2) az)) (by simp[aT])) rfl
 ·rw[F.2.1 i (by rw[l1];lia) i1 i2 λh hh=>?_,U6 (Ne.symm i1),UV hi];show(if h=x then S.length else lq h)≠i;rcases Vt.mp hh with z|z
  ·rw[if_neg (show h≠x from λe=>hxk (e▸z))];exact i3 h z
  ·rw[if_pos (VM.mp z)];lia
 ·rcases Vt.mp hh with z|z
  ·exact .inl ⟨z,if_neg (show h≠x from λe=>hxk (e▸z))⟩
  simp_all
def yZ{cl:Cl}{r:aC}{a c:E}(h0:ak cl c r S=af (.ok (.int b) S))(h1:ak cl a r S=af (.ok (.tup (aq hs)) S))(h6:r[6]?=af (af (.tup (aq gone))))(hl:hs.length<=12):ak cl (E.tup [c,E.col (AU.tuple) (It.snap (E.comp aS (E.var 0) (Tg.name 0) (It.seq a) [T.val (E.cmp (CmpOp.NotIn) (E.var 0) (E.var 1))] 1 [6]))]) r S=af (.ok (au b (RV.rest hs gone)) S):=by
 have hle:(RV.rest hs gone).length<=hs.length:=U7 ..;have hz:(aq (RV.rest hs gone)).length<=sizeLine:=by simp only[UG,aT];lia
 refine bI (aj h0 (aj (cJ (cZ (dY (ds:=aq hs) (S1:=S) (S2:=S) (es:=aq (RV.rest hs gone)) (cu h1) ?_ hz) iJ) hz) az)) (by simp[aT]);have:=gP (S:=S) D.int (λh=>decide (h∉gone)) (f:=λr S=>ak cl (E.var 0) r S) (g:=λr S=>bz cl [T.val (E.cmp (CmpOp.NotIn) (E.var 0) (E.var 1))] r S) (caps:=[af (.tup (aq gone))]) (xs:=hs) (o:=ah) (acc:=[])
  (λh hh=>iI (aP (x:= .bl (decide (h∉gone))) (aM (aa rfl) (aa rfl) (by rw[decide_not];exact gZ gf)) aZ)) (λh _ _=>aa rfl)
 simp only[fM,U0,Vg,h6,bE,Uy,Uu,Option.join];exact this
def Jd:RV.rest hs [x]=bT hs x:=W4 λh _=>by simp
def Us(B:nv al S pl lk lq W)(lm:∀h,h∈hs ↔ h∈lk)(hl:hs.length<=12)(hx:x∈hs)(M:Mv al b cp hs (bT hs x) W u):∃rs,ir W u b cp hs (bT hs x) rs/\D5 k al S pl b cp hs lk lq (.tup [.str NL,.int x]) (bT hs x) (iu (bT hs x) cp b u) (.tup ((RK.bh rs).map aL)):=by
 have MC:=bJ B.kp;obtain⟨S1,rs,F,B1,hP,c1⟩:=pR (k:=k) B lm M;have XU:=bJ B1.kp;have IL:∀h∈lk,lq h<S1.length:=λh hh=>by obtain⟨N,n1,_⟩:=B1.nt h hh;exact bJ n1
 have F1:=F.1
 suffices hw:RV.Runs (ao fns (k+2)) DZ [af (.ref pl),af (au b hs),af (.int cp),af (.tup [.str NL,.int x]),ah,ah,ah,ah,ah,ah,ah,ah] S λo=>∃S',S'.length=S1.length+1/\(∀i,i<S1.length->i≠pl->S'[i]?=S1[i]?)/\nv al S' pl (lk.filter λh=>decide (h∉ [x])) lq (iu (bT hs x) cp b u)/\o=af (.ret (.tup [au b (bT hs x),.tup ((RK.bh rs).map aL)]) S') by
  unfold RV.Runs at hw;obtain⟨S',h1,h2,h3,e⟩:=hw;refine⟨rs,hP,D5.ok (S':=S') B (by unfold RV.Runs;exact e) ⟨by lia,λi hi i1 i2 i3=>(h2 i (by lia) i1).trans (F.2.1 i hi i1 i2 i3),λh hh=> .inl ⟨(U9.mp hh).1,rfl⟩⟩ h3 (λh=>?_) gj⟩
  simp_all
 unfold DZ;refine aK (S1:=S) (tA rfl) ?_;simp only[Uu];refine aK (S1:=S) (tA rfl) ?_;simp only[Uu];refine aK (S1:=S) (tA rfl) ?_;simp only[Uu];refine aD (aQ (aa rfl) aA aW AE) rfl ?_;simp only[bP];refine bO (S1:=S) (tA rfl) ?_;simp only[Uy,Uu];refine aD (d:= .tup (aq [x])) (bI (aj (aQ (aa rfl) aA aW AE) az) (by simp[aT])) rfl ?_;simp only[bP];refine aD (d:=au b (bT hs x)) (S1:=S) (by rw[←Jd];exact yZ (aQ (aa rfl) aA aW CA) (aQ (aa rfl) aA aW AE) rfl hl) rfl ?_;simp only[bP];refine aD (bI az (by simp)) rfl ?_;simp only[bP];refine bO (S1:=S) (tA rfl) ?_;simp only[Uy,Uu];refine aD (aO (aj (aa rfl) (aj (aa rfl) (aj (aa rfl) (aj (aa rfl) az)))) c1) rfl ?_;simp only[bP];refine aD gw rfl ?_;simp only[bP];refine wF (m:=S1.length) (B1.push _) (lS _ _) (λh hh=>by have:=IL h hh;lia) (by lia) (λg hg=>by simp_all) (by simp) λS' Nf o4 D3 h1 h2 h3 h4 h5=>?_;refine aK (S1:=S') (tA rfl) ?_;simp only[Uu];exact aH (bI (aj (aa rfl) (aj (aa rfl) az)) (by simp[aT])) ⟨S',by rw[h1];simp,λi hi hi2=>by rw[h2 i hi2 (by lia),UV hi],h3,rfl⟩
def QT(B:nv al S pl lk lq W)(lm:∀h,h∈hs ↔ h∈lk)(hl:hs.length<=12)(hg:∀g∈gone,g∈hs)(NO:gone.Nodup):∃ys,ys.Pairwise (·<·)/\(∀y,y∈ys ↔ (∃h∈gone,(W h y).isSome=av)/\cV W (RV.rest hs gone) y=av)/\D5 k al S pl b cp hs lk lq (.tup [.str lL,.tup (aq gone)]) (RV.rest hs gone) W (.tup (aq ys)):=by
 have MC:=bJ B.kp;have IL:∀h∈lk,lq h<S.length:=λh hh=>by obtain⟨N,n1,_⟩:=B.nt h hh;exact bJ n1
 have hle:(RV.rest hs gone).length<=hs.length:=U7 ..;have hm:∀h,h∈RV.rest hs gone ↔ h∈lk.filter λh=>decide (h∉gone):=λh=>by simp_all
 suffices hw:RV.Runs (ao fns (k+2)) DZ [af (.ref pl),af (au b hs),af (.int cp),af (.tup [.str lL,.tup (aq gone)]),ah,ah,ah,ah,ah,ah,ah,ah] S λo=>∃S' ys,S.length<=S'.length/\(∀i,i<S.length->i≠pl->S'[i]?=S[i]?)/\nv al S' pl (lk.filter λh=>decide (h∉gone)) lq W/\ys.Pairwise (·<·)/\(∀y,y∈ys ↔ (∃h∈gone,(W h y).isSome=av)/\cV W (RV.rest hs gone) y=av)/\o=af (.ret (.tup [au b (RV.rest hs gone),.tup (aq ys)]) S') by unfold RV.Runs at hw;obtain⟨S',ys,h1,h2,h3,h4,h5,e⟩:=hw;exact⟨ys,h4,h5,D5.ok (S':=S') B (by unfold RV.Runs;exact e) ⟨h1,λi hi i1 _ _=>h2 i hi i1,λh hh=> .inl ⟨(U9.mp hh).1,rfl⟩⟩ h3 hm (bF _)⟩
 unfold DZ;refine aK (S1:=S) (tA rfl) ?_;simp only[Uu];refine aK (S1:=S) (tA rfl) ?_;simp only[Uu];refine aK (S1:=S) (tA rfl) ?_;simp only[Uu];refine aD (aQ (aa rfl) aA aW AE) rfl ?_;simp only[bP];refine aK (S1:=S) (tA rfl) ?_;simp only[Uu];refine aD (yZ (aQ (aa rfl) aA aW CA) (aQ (aa rfl) aA aW AE) rfl hl) rfl ?_;simp only[bP];refine aD (bI az (by simp)) rfl ?_;simp only[bP];refine aK (S1:=S) (tA rfl) ?_;simp only[Uu];refine aD gw rfl ?_;simp only[bP];refine wF (m:=S.length) (B.push _) (lS _ _) (λh hh=>by have:=IL h hh;lia) (by lia) (λg h=>(lm g).mp (hg g h)) NO λS' Nf o4 D3 h1 h2 h3 h4 h5=>?_;refine bO (S1:=S') (tA rfl) ?_;simp only[Uy,Uu];refine aD (d:= .ref S'.length) (S1:=S'++ [SO.lst []]) (j4 az (by simp[aT])) rfl ?_;simp only[bP];obtain⟨ys,D0,B4,yl,y4⟩:=pN (al:=al) (cl:=ao fns (k+2)) (r:=[af (.ref pl),af (au b hs),af (.int cp),af (.tup [.str lL,.tup (aq gone)]),o4,ah,af (.tup (aq gone)),af (au b (RV.rest hs gone)),af (.tup []),af (.ref S.length),D3,af (.ref S'.length)]) (e:=E.var 9) (S:=S'++ [SO.lst []]) (aa rfl) (gh h4) h5 (λy ⟨h,hh,w⟩=>B.bd h ((lm h).mp (hg h hh)) y w) B.la;refine bx (α:=Int) D.int (xs:=ys) (S1:=S'++ [SO.lst []]) (gA y4)
  (λzs r S2=>∃pre D3,pre++zs=ys/\S2=S'++ [SO.lst (aq (pre.filter (cV W (RV.rest hs gone))))]/\r=[af (.ref pl),af (au b hs),af (.int cp),af (.tup [.str lL,.tup (aq gone)]),o4,ah,af (.tup (aq gone)),af (au b (RV.rest hs gone)),af (.tup []),af (.ref S.length),D3,af (.ref S'.length)])
  ⟨[],_,rfl,rfl,rfl⟩ ?_ ?_
 ·rintro r S2 ⟨pre,o,hp,rfl,rfl⟩;rw[UT]at hp;subst hp;have Sm:=U7 (cV W (RV.rest hs gone)) pre;refine aD (d:= .tup (aq (pre.filter (cV W (RV.rest hs gone))))) (cJ (cZ (aa rfl) (Fz (lS _ _))) (by simp only[UG,aT];lia)) rfl ?_;simp only[bP];exact aH (bI (aj (aa rfl) (aj (aa rfl) az)) (by simp[aT])) ⟨_,pre.filter (cV W (RV.rest hs gone)),by simp at h1 ⊢;lia,λi hi i2=>by rw[UV (by simp at h1;lia),h2 i i2 (by lia),UV hi],h3.push _,D0.sublist Wj,λy=>by rw[U9,B4],rfl⟩
 ·rintro y zs r S2 _ ⟨pre,o,hp,rfl,rfl⟩;have hpl:pre.length<=24:=by have:=VJ e9 hp;simp at this;lia
  have Sm:=U7 (cV W (RV.rest hs gone)) pre;simp only[bP];refine cH (t:=cV W (RV.rest hs gone) y) (S1:=S'++ [SO.lst (aq (pre.filter (cV W (RV.rest hs gone))))]) ?_ (λe=>?_) (λe=>?_)
  ·have:=Bd (aP (rR (cl:=ao fns (k+2)) (key:=y) (e:=E.var 1) (i:=0) (j:=10) (r:=[af (.ref pl),af (au b hs),af (.int cp),af (.tup [.str lL,.tup (aq gone)]),o4,ah,af (.tup (aq gone)),af (au b (RV.rest hs gone)),af (.tup []),af (.ref S.length),af (.int y),af (.ref S'.length)]) (xs:=RV.rest hs gone) (h3.push [SO.lst (aq (pre.filter (cV W (RV.rest hs gone))))]) (cu (aQ (a:=E.var 7) (aa rfl) aA aW AE)) (λh hh=>(hm h).mp hh) (by lia) rfl λh=>aa rfl) Qu);rw[show cV W (RV.rest hs gone) y=!!(aq ((RV.rest hs gone).filter λh=>(W h y).isSome)).isEmpty by
    unfold cV;cases(RV.rest hs gone).filter λh=>(W h y).isSome with
    |nil=>rfl
    |cons a t=>simp;lia]
   exact this
  ·simp only[Uy,Uu];refine cG (km (d:= .int y) rfl (lS _ _) (aa rfl) (by simp only[UG];lia)) (aJ ⟨pre++ [y],_,by rw[←hp];simp,?_,rfl⟩);rw[kj,Xi,V3 e];simp
  ·refine aJ ⟨pre++ [y],_,by rw[←hp];simp,?_,rfl⟩;rw[Xi,V2 (by rw[e];simp),kK,UT]
end
def plain:Nat->D->Bool
 |_,.non=>av|_,.int _=>av|_,.str x=>PyData.canLay0 (.str x)|n+1,.tup ds=>ds.all (plain n)|_,_=>aS
theorem za:∀{n:Nat}{d:D},plain n d=av->∃p,zD d=af p/\p.canLay0=av/\p.depth<=n+1/\p.eqv p=av
 |_,.non,_=>⟨.none,rfl,rfl,by simp[PyData.depth],rfl⟩|_,.int i,_=>⟨.int i,rfl,rfl,by simp[PyData.depth],by simp[PyData.eqv]⟩|n,.str x,h=>⟨.str x,rfl,by cases n<;>exact h,by simp[PyData.depth],by simp[PyData.eqv]⟩|0,.tup _,h=>by cases h|n,.bl _,h=>by cases n<;>cases h|n,.lst _,h=>by cases n<;>cases h|n,.AN _,h=>by cases n<;>cases h|n,.ref _,h=>by cases n<;>cases h|n,.B6 _,h=>by cases n<;>cases h|n,.EC,h=>by cases n<;>cases h|n+1,.tup ds,h=>by
  have:∀ds:List D,ds.all (plain n)=av->∃ps,zD.ya ds=af ps/\PyData.canLayAll0 ps=av/\PyData.depthAll ps<=n+1/\PyData.eqvAll ps ps=true:=by
   intro ds
   induction ds with
   |nil=>exact λ_=>⟨[],rfl,rfl,by simp[PyData.depthAll],rfl⟩|cons d ds ih=>intro h;rw[nS,Vn]at h;obtain⟨p,h1,h2,h3,h4⟩:=za h.1;obtain⟨ps,g1,g2,g3,g4⟩:=ih h.2;exact⟨p::ps,by simp only[Ey,h1,g1],by simp only[PyData.canLayAll0,h2,g2,Bool.and_self],by simp only[PyData.depthAll];lia,by simp only[PyData.eqvAll,h4,g4,Bool.and_self]⟩
  obtain⟨ps,g1,g2,g3,g4⟩:=this ds h;exact⟨.tuple ps,by simp only[rN,g1,Ws],g2,by simp only[PyData.depth];lia,g4⟩
section
variable{k:Nat}{S S':bq}{p pk pl:Nat}{b cp key v x y g c:Int}{hs tg A gone:List Int}{q q' lq D6:Int->Nat}{ks ks' lk DM:List Int}{W W':Int->Int->Option Int}{u f:Int->Option Int}{al:List Int}{rs rs' R:List (List Int)}{d:D}
def jC(h:plain 4 d=av):BC S d d=af true:=by
 obtain⟨p,h1,h2,h3,h4⟩:=za h;have e:gF S d=af p:=by cases d<;>first|exact h1|cases h1
 have sh:SeqAt.shaped p=true:=by simp only[SeqAt.shaped,h2,Bool.true_and];exact Wc (by lia)
 simp only[BC,e,sh,and_self,if_true,h4]
def ou{n:Nat}(ns:List Int):(aq ns).all (plain n)=true:=Xa.mpr λd hd=>by obtain⟨i,_,rfl⟩:=Va.mp hd;cases n<;>rfl
def wG(hP:ir W u b cp A tg rs):plain 4 (.tup ((RK.bh rs).map aL))=true:=Xa.mpr λd hd=>by obtain⟨r,hr,rfl⟩:=Va.mp hd;obtain⟨y,_,hr⟩:=(hP.1 r).mp ((RK.dB rs).mem_iff.mp hr);obtain⟨h,_,⟨_,_,e⟩|⟨_,_,e⟩⟩:=fK.mp hr<;>rw[e]<;>simp only[aL,plain,U0,Vg,nS,ze,Bool.and_true,Bool.true_and]<;>decide+kernel
structure Dj(p pk:Nat)(ks:List Int)(q:Int->Nat)(pl:Nat)(lk:List Int)(lq:Int->Nat):Prop where
 a:pl≠p
 b:pl≠pk
 c:∀h∈ks,q h≠pl
 d:∀h∈lk,lq h≠p
 e:∀h∈lk,lq h≠pk
 f:∀h∈ks,∀h'∈lk,q h≠lq h'
def nv.lt(B:nv al S pl lk lq W):pl<S.length/\∀h∈lk,lq h<S.length:=⟨bJ B.kp,λh hh=>by obtain⟨N,n1,_⟩:=B.nt h hh;exact bJ n1⟩
def C6.L(F:C6 S S' p pk ks q ks' q')(B:nv al S pl lk lq W)(d:Dj p pk ks q pl lk lq):nv al S' pl lk lq W/\Dj p pk ks' q' pl lk lq:=by
 have hlt:=B.lt;refine⟨B.to λi hi=>?_,d.a,d.b,λh hh=>?_,d.d,d.e,λh hh h' hh'=>?_⟩
 ·rcases hi with rfl|⟨h,hh,rfl⟩
  ·exact F.2.1 _ hlt.1 d.a d.b d.c
  ·exact F.2.1 _ (hlt.2 h hh) (d.d h hh) (d.e h hh) λh' hh'=>d.f h' hh' h hh
 ·rcases F.2.2 h hh with⟨z1,z2⟩|z
  ·rw[z2];exact d.c h z1
  ·have:=hlt.1;lia
 ·rcases F.2.2 h hh with⟨z1,z2⟩|z
  ·rw[z2];exact d.f h z1 h' hh'
  ·have:=hlt.2 h' hh';lia
theorem C6.K(F:C6 S S' pl pl lk lq DM D6)(K:kP al S p pk b hs cp ks q W)(d:Dj p pk ks q pl lk lq):kP al S' p pk b hs cp ks q W/\Dj p pk ks q pl DM D6:=by
 have hlt:=K.lt;refine⟨K.to λi hi=>?_,d.a,d.b,d.c,λh hh=>?_,λh hh=>?_,λh hh h' hh'=>?_⟩
 ·rcases hi with rfl|rfl|⟨h,hh,rfl⟩
  ·exact F.2.1 _ hlt.1 (Ne.symm d.a) (Ne.symm d.a) d.d
  ·exact F.2.1 _ hlt.2.1 (Ne.symm d.b) (Ne.symm d.b) d.e
  ·exact F.2.1 _ (hlt.2.2 h hh) (d.c h hh) (d.c h hh) λh' hh'=>Ne.symm (d.f h hh h' hh')
 ·rcases F.2.2 h hh with⟨z1,z2⟩|z
  ·rw[z2];exact d.d h z1
  ·have:=hlt.1;lia
 ·rcases F.2.2 h hh with⟨z1,z2⟩|z
  ·rw[z2];exact d.e h z1
  ·have:=hlt.2.1;lia
 ·rcases F.2.2 h' hh' with⟨z1,z2⟩|z
  ·rw[z2];exact d.f h hh h' z1
  ·have:=hlt.2.2 h hh;lia
structure KI(al:List Int)(S:bq)(p pk pl:Nat)(b cp:Int)(hs ks:List Int)(q:Int->Nat)(lk:List Int)(lq:Int->Nat)(W:Int->Int->Option Int)(u:Int->Option Int):Prop where
 K:kP al S p pk b hs cp ks q W
 L:nv al S pl lk lq W
 pm:∀h,h∈hs ↔ h∈ks
 lm:∀h,h∈hs ↔ h∈lk
 R:zd b hs
 l12:hs.length<=12
 c1:1<=cp/\cp<=6
 a12:al.length<=12
 U:Cc b cp hs W u
 dj:Dj p pk ks q pl lk lq
def val_eq:val W b hs key=match(bD hs (key % sz b)).filter λh=>(W h key).isSome with|[]=>ah|g::_=>W g key:=by unfold val CH;rw[←sj];cases(bD hs (key % sz b)).filter λh=>(W h key).isSome<;>rfl
theorem Mj(J:KI al S p pk pl b cp hs ks q lk lq W u)(hk:0<=key/\key<128):ao fns (k+8) 36 [.ref p,.ref pl,au b hs,.int key] S=af (.ok (.bl av) S):=by
 have h12:=J.l12;refine call_of (fs:=⟨4,7,NG⟩) (S':=S) rfl rfl ?_ (by simp) trivial;unfold NG;simp only[U0,Vg,U5,Vj,bE,Uy,Uu,UT,dP,dQ,Vm,Vz];refine aK (S1:=S) (aP (x:= .bl (!av)) (aM (bK (aa rfl) J.K.ob rfl az (Mg (k:=k+6) J.K)) (aa rfl) (Ih (jC (by simp[plain,ou])))) aZ) ?_;simp only[Uu];refine bx (α:=Int) D.int (xs:=hs) (S1:=S) (cu (aQ (aa rfl) aA aW AE)) (λys r S'=>S'=S/\∃o,r=[af (.ref p),af (.ref pl),af (au b hs),af (.int key),o,ah,ah]) ⟨rfl,_,rfl⟩ ?_ ?_;rotate_left
 ·rintro h ys r S' ⟨pre,hp⟩ ⟨rfl,o,rfl⟩;have hh:h∈hs:=by rw[←hp];simp
  obtain⟨R,hR,c1⟩:=Sw (k:=k+5) J.K ((J.pm h).mp hh);obtain⟨R',hR',c2⟩:=EN J.L ((J.lm h).mp hh);rw[←hR.uniq hR']at c2;simp only[bP];refine aK (S1:=S') (aP (x:= .bl (!av)) (aM (bK (aa rfl) J.K.ob rfl (aj (aa rfl) az) c1) (c2 _ _ _ (dH J.L (aa rfl) (aa rfl) ((J.lm h).mp hh))) (Ih (jC (Xa.mpr λd hd=>by
   obtain⟨r,_,rfl⟩:=Va.mp hd;exact ou r)))) aZ) ?_
  exact aJ ⟨rfl,_,rfl⟩
 rintro r S' ⟨rfl,o,rfl⟩;obtain⟨gs,FI⟩:∃gs,gs=(bD hs (key % sz b)).filter λh=>(W h key).isSome:=⟨_,rfl⟩
 have pm:=dG hs (key % sz b);have FL:gs.Nodup:=by rw[FI];exact(pm.nodup_iff.mpr (bY J.R.up)).filter _
 have gm:∀h,h∈gs ↔ h∈hs/\(W h key).isSome=true:=λh=>by rw[FI,U9,pm.mem_iff]
 have gl:gs.length<=12:=Vp (RV.dg gs hs FL λh hh=>((gm h).mp hh).1) h12;have ev:=val_eq (W:=W) (b:=b) (hs:=hs) (key:=key);rw[←FI]at ev;refine aD (d:= .lst (aq gs)) (S1:=S') (by rw[FI];exact rR J.L (gA (aO (aj (aa rfl) (aj (aa rfl) az)) (rW (k:=k+6) J.R (by lia)))) (λh hh=>(J.lm h).mp (pm.mem_iff.mp hh)) (by rw[jB];lia) rfl λh=>aa rfl) rfl ?_;simp only[bP];refine aD aA rfl ?_;simp only[bP];have fin:∀o4,RV.Runs (ao fns (k+7)) [C.ret (E.and (E.cmp (CmpOp.Eq) (E.kD Z1 Zd 18 (E.var 0) [E.var 3]) (E.col (AU.tuple) (It.snap (E.col (AU.sorted aS) (It.live (E.var 5)))))) (E.cmp (CmpOp.Eq) (E.call 35 [E.var 0,E.var 3]) (E.var 6)))] [af (.ref p),af (.ref pl),af (au b hs),af (.int key),o4,af (.lst (aq gs)),af (lK (val W b hs key))] S' (dX (.bl av) S'):=λo4=>by
  have es:hs.filter (λh=>(W h key).isSome)=sortI gs:=nG (J.R.up.sublist Wj) (jA FL) λh=>by rw[U9,(RV.sortI_perm _).mem_iff,gm]
  have hkp:=tV (k:=k+6) (key:=key) J.K (λh hh=>(J.pm h).mp hh) (by lia);rw[es]at hkp;have hz:(aq (sortI gs)).length<=sizeLine:=by rw[UG,(RV.sortI_perm _).length_eq];simp only[aT];lia
  exact aH (d:= .bl (av && av)) (Et (aM (bK (aa rfl) J.K.ob rfl (aj (aa rfl) az) hkp) (cJ (cZ (f9 (rM (aa rfl)) (gb (by lia)) hz) iJ) hz) (pK (jC (ou _)))) λ_=>aM (aO (aj (aa rfl) (aj (aa rfl) az)) (Sv (k:=k) J.K J.pm J.R (by lia) hk)) (aa rfl) (pK (jC (by cases val W b hs key<;>rfl)))) rfl
 cases hgs:gs with
 |nil=>refine aK (S1:=S') (aP (aa rfl) rfl) ?_;simp only[Uu];rw[hgs]at ev;have:=fin o;rw[hgs,ev]at this;exact this|cons g t=>refine bO (S1:=S') (aP (aa rfl) rfl) ?_;simp only[Uy,Uu];rw[hgs]at ev;obtain⟨h1,h2⟩:=(gm g).mp (by rw[hgs];simp);obtain⟨i,ei⟩:=Vk.mp h2;obtain⟨N,n1,n2⟩:=J.L.nt g ((J.lm g).mp h1);refine aD (d:=lK (val W b hs key)) (S1:=S') (by rw[ev];exact j5 (dH J.L (aa rfl) (aQ (aa rfl) aA iJ CA) ((J.lm g).mp h1)) (aa rfl) (eG n1) rfl (by rw[n2.va key];simp only[ei];rfl)) rfl ?_;simp only[bP];have:=fin o;rw[hgs]at this;exact this
def told{act d:D}{S1:bq}{hs':List Int}(K:kP al S p pk b hs cp ks q W)(hr:RV.Runs (ao fns (k+9)) E2 [af (.ref p),af act] S λo=>o=af (.ret d S1))(F:C6 S S1 p pk ks q ks' q')(K1:kP al S1 p pk b hs' cp ks' q' W')(c:oj S.length d)(hd:∀k,d≠ .ref k):
  ∃S2,C6 S S2 p pk ks q ks' q'/\kP al S2 p pk b hs' cp ks' q' W'/\ao fns (k+10) 34 [.ref p,act] S=af (.ok d S2):=by
 obtain⟨S2,l2,k2,K2,c2⟩:=call_K (k:=k+9) (f:=34) (as:=[.ref p,act]) (fs:=⟨2,2,E2⟩) (S:=S) (S':=S1) (d:=d) rfl rfl (by unfold RV.Runs at hr ⊢;exact .inl hr) F.1 c hd K K1;exact⟨S2,⟨l2,λi hi i1 i2 i3=>(k2 i hi).trans (F.2.1 i hi i1 i2 i3),F.2.2⟩,K2,c2⟩
def Done(k:Nat)(al:List Int)(S:bq)(p pk pl:Nat)(b cp:Int)(hs:List Int)(act:D):Prop:=
 ∃S1 S2 hs' ks' q' DM D6 W' u' d,ao fns (k+10) 34 [.ref p,act] S=af (.ok d S1)/\ao fns (k+10) 33 [.ref pl,au b hs,.int cp,act] S1=af (.ok (.tup [au b hs',d]) S2)/\plain 4 d=av/\KI al S2 p pk pl b cp hs' ks' q' DM D6 W' u'
def Done.of{act d:D}{S1:bq}{hs':List Int}{u':Int->Option Int}(J:KI al S p pk pl b cp hs ks q lk lq W u)(hr:RV.Runs (ao fns (k+9)) E2 [af (.ref p),af act] S λo=>o=af (.ret d S1))(F:C6 S S1 p pk ks q ks' q')(K1:kP al S1 p pk b hs' cp ks' q' W')(pm:∀h,h∈hs' ↔ h∈ks')(hp:plain 4 d=av)(c:oj S.length d)(hd:∀k,d≠ .ref k)(R:zd b hs')(l12:hs'.length<=12)(U:Cc b cp hs' W' u')(hD:∀S,nv al S pl lk lq W->D5 (k+7) al S pl b cp hs lk lq act hs' W' d):Done k al S p pk pl b cp hs act:=by obtain⟨S2,F2,K2,c2⟩:=told (k:=k) J.K hr F K1 c hd;obtain⟨L2,XW⟩:=F2.L J.L J.dj;obtain⟨S3,PV,PY,F3,B3,NR,c3⟩:=hD S2 L2;obtain⟨K3,XX⟩:=F3.K K2 XW;exact⟨S2,S3,hs',ks',q',PV,PY,W',u',d,c2,c3,hp,K3,B3,pm,NR,R,l12,J.c1,J.a12,U,XX⟩
def Je(W:Int->Int->Option Int)(tg:List Int):Int->Int->Option Int:=λh=>if h∈tg then W h else λ_=>ah
def Br(W:Int->Int->Option Int)(u:Int->Option Int)(tg:List Int):Int->Option Int:=λy=>if(tg.any λh=>(W h y).isSome)=av then u y else ah
def Cc.cut(U:Cc b cp hs W u)(R:zd b hs):Cc b cp (RV.rest hs gone) (Je W (RV.rest hs gone)) (Br W u (RV.rest hs gone)):=by
 have e:∀h∈RV.rest hs gone,Je W (RV.rest hs gone) h=W h:=λh hh=>if_pos hh
 refine⟨λh hh y=>?_,λy hy=>?_,λh hh y hy=>?_,λh hh=>if_neg hh⟩
 ·rw[e h hh];cases w:W h y with|none=>exact .inl rfl|some i=>right;unfold Br;rw[if_pos (List.any_eq_true.mpr ⟨h,hh,by rw[w];rfl⟩)];have:=U.vs h (iK.mp hh).1 y;lia
 ·unfold Br at hy;split at hy
  ·rename_i z;obtain⟨g,z1,z2⟩:=List.any_eq_true.mp z;exact⟨g,z1,by rw[e g z1];exact z2⟩
  ·cases hy
 ·rw[e h hh]at hy;have:=U.ho h (iK.mp hh).1 y hy;unfold sN at this ⊢;rw[show bD (RV.rest hs gone) (y % sz b)=(bD hs (y % sz b)).filter λz=>decide (z∉gone)from jQ R.up _ _];exact pP (λz=>decide (z∉gone)) (by simp_all) _ _ this
theorem step{act:D}(J:KI al S p pk pl b cp hs ks q lk lq W u)(a:Act al hs b act):Done k al S p pk pl b cp hs act:=by
 have K:=J.K;have h12:=J.l12;cases a with
 |@ES x h0 hn hl=>
  obtain⟨S1,E3,q1,rs,F,K1,m1,hP,c1⟩:=QJ (k:=k) K J.pm J.R hl J.c1 J.a12 J.U h0 hn;have M:=Mv.ES J.R hl J.c1 J.a12 J.U h0 hn;refine Done.of J ?_ F K1 m1 (wG hP) gj (λk e=>by cases e) M.Rt (by rw[(fB hs x).length_eq,U5];lia) (Cc.due M.Rt.ne J.c1.1) λS B=>?_
  ·unfold E2;refine aK (S1:=S) (tA rfl) ?_;simp only[Uu];refine aK (S1:=S) (tA rfl) ?_;simp only[Uu];refine bO (S1:=S) (tA rfl) ?_;simp only[Uy,Uu];exact aH (bK (aa rfl) K.ob rfl (aj (aQ (aa rfl) aA aW AE) az) c1) rfl
  ·obtain⟨rs',hP',D⟩:=QS (k:=k+7) B J.lm J.R hl hn (J.U.out x hn) M;rw[pQ hP hP'];exact D
 |@go x hx hl=>
  obtain⟨S1,E3,q1,rs,F,K1,m1,hP,c1⟩:=Ur (k:=k) K J.pm J.R h12 J.c1 J.a12 J.U hx hl;have M:=Mv.go (x:=x) J.R h12 J.c1 J.a12 J.U hl;have hle:(bT hs x).length<=hs.length:=U7 ..;refine Done.of J ?_ F K1 m1 (wG hP) gj (λk e=>by cases e) M.Rt (by lia) (Cc.due M.Rt.ne J.c1.1) λS B=>?_
  ·unfold E2;refine aK (S1:=S) (tA rfl) ?_;simp only[Uu];refine aK (S1:=S) (tA rfl) ?_;simp only[Uu];refine aK (S1:=S) (tA rfl) ?_;simp only[Uu];refine bO (S1:=S) (tA rfl) ?_;simp only[Uy,Uu];exact aH (bK (aa rfl) K.ob rfl (aj (aQ (aa rfl) aA aW AE) az) c1) rfl
  ·obtain⟨rs',hP',D⟩:=Us (k:=k+7) B J.lm h12 hx M;rw[pQ hP hP'];exact D
 |@fall gone hg hn hl=>
  have hle:(RV.rest hs gone).length<=hs.length:=U7 ..;have hne:RV.rest hs gone≠ []:=λe=>by
   have:=RV.dg hs gone (bY J.R.up) λh hh=>V8 λz=>by simp_all
   lia
  obtain⟨S1,ys,l1,k1,K1,y1,y2,c1⟩:=QM (k:=k+7) K J.pm J.R h12 hg hne;have hm:∀h,h∈RV.rest hs gone ↔ h∈ks.filter λh=>decide (h∈RV.rest hs gone):=λh=>⟨λz=>U9.mpr ⟨(J.pm h).mp (iK.mp z).1,Wc z⟩,λz=>Vo (U9.mp z).2⟩
  have ew:∀h∈RV.rest hs gone,W h=Je W (RV.rest hs gone) h:=λh hh=>(if_pos hh).symm;refine Done.of (u':=Br W u (RV.rest hs gone)) (d:= .tup (aq ys)) J ?_ ⟨by lia,λi _ i1 i2 _=>k1 i i1 i2,λh hh=> .inl ⟨(U9.mp hh).1,rfl⟩⟩ (K1.as λh hh=>ew h ((hm h).mpr hh)) hm (ou _) (bF _) (λk e=>by cases e) ⟨J.R.b2,J.R.b7,hne,J.R.up.sublist Wj,λy hy=>J.R.A8 y (iK.mp hy).1⟩ (by lia) (J.U.cut J.R) λS B=>?_
  ·unfold E2;refine aK (S1:=S) (tA rfl) ?_;simp only[Uu];refine aK (S1:=S) (tA rfl) ?_;simp only[Uu];refine aK (S1:=S) (tA rfl) ?_;simp only[Uu];refine aK (S1:=S) (tA rfl) ?_;simp only[Uu];exact aH (bK (aa rfl) K.ob rfl (aj (aQ (aa rfl) aA aW AE) az) c1) rfl
  ·obtain⟨zs,z1,z2,S3,PV,PY,F3,B3,NR,c3⟩:=QT (k:=k+7) (b:=b) (cp:=cp) B J.lm h12 hg hn;have e:ys=zs:=nG y1 z1 λy=>by
    rw[y2,z2];refine and_congr_left λMD=>⟨λ⟨h,hh,w⟩=>?_,λ⟨h,hh,w⟩=>⟨h,(J.pm h).mp (hg h hh),w⟩⟩
    refine⟨h,V8 λz=>?_,w⟩;have hmem:h∈(RV.rest hs gone).filter λh=>(W h y).isSome:=U9.mpr ⟨iK.mpr ⟨(J.pm h).mpr hh,z⟩,w⟩;have:=iA hmem;have:=Vo MD;lia
   rw[e];exact⟨S3,PV,PY,F3,B3.as λh hh=>ew h ((NR h).mpr hh),NR,c3⟩
 |FH=>
  have M:=Mv.FH J.R h12 J.c1 J.a12 J.U;obtain⟨S1,rs,F,K1,hP,c1⟩:=QK (k:=k+1) K J.pm M;refine Done.of J ?_ F K1 J.pm (wG hP) gj (λk e=>by cases e) J.R h12 (Cc.due J.R.ne J.c1.1) λS B=>?_
  ·unfold E2;refine aK (S1:=S) (tA rfl) ?_;simp only[Uu];refine bO (S1:=S) (tA rfl) ?_;simp only[Uy,Uu];exact aH (bK (aa rfl) K.ob rfl az c1) rfl
  ·obtain⟨rs',hP',D⟩:=QR (k:=k+7) B J.lm M;rw[pQ hP hP'];exact D
 |@put key v hk=>obtain⟨S1,l1,k1,K1,c1⟩:=Su (k:=k+4) (v:=v) K J.pm J.R (by lia) J.c1.1 hk;refine Done.of (d:= .non) J ?_ ⟨by lia,λi _ _ _ i3=>k1 i i3,λh hh=> .inl ⟨hh,rfl⟩⟩ K1 J.pm rfl trivial (λk e=>by cases e) J.R h12 (J.U.put J.R.ne J.c1.1) λS B=>SJ B J.lm J.R (by lia) J.c1.1 hk;unfold E2;refine bO (S1:=S) (tA rfl) ?_;simp only[Uy,Uu];exact aH (bK (aa rfl) K.ob rfl (aj (aQ (aa rfl) aA aW AE) (aj (aQ (aa rfl) aA aW Bp) az)) c1) rfl
def many(b:Int):Int:=if(12:Int)<sz b then 12 else sz b
def keysOf(b:Int):List Int:=(dc 12).map λ(i:Nat)=>(i:Int)*(sz b/many b)
def SM(R:zd b hs)(hl:hs.length<=12):∃d,Act (keysOf b) hs b d/\ao fns (k+2) 31 [au b hs,.int c] S=af (.ok d S):=by
 have b2:=R.b2;have PZ:=R.b7;have hz:=qF b2 PZ;have hpos:0<hs.length:=List.length_pos_iff.mpr R.ne;have C2:∀S:bq,DT .len [.tup (aq hs)] S=af (.ok (.int hs.length) S):=λS=>by rw[jf aW,UG]
 have SD:=g8 (c:=c) (p:=9871) (m:=sz b) (by lia);obtain⟨x,ex⟩:∃x,x=mix c 9871 (sz b):=⟨_,rfl⟩
 rw[←ex]at SD;obtain⟨w,ew⟩:∃w,w=mix c 9883 9:=⟨_,rfl⟩
 suffices hw:RV.Runs (ao fns (k+1)) L6 [af (au b hs),af (.int c),ah,ah,ah,ah,ah,ah] S λo=>∃d,Act (keysOf b) hs b d/\(∀n,oj n d)/\o=af (.ret d S) by unfold RV.Runs at hw;obtain⟨d,h1,h2,e⟩:=hw;exact⟨d,h1,call_of (fs:=⟨2,8,L6⟩) (S':=S) rfl rfl (by unfold RV.Runs;exact e) (by simp) (h2 _)⟩
 unfold L6;refine aD (fV aA (aQ (aa rfl) aA aW CA) (vL (by lia))) rfl ?_;simp only[bP];refine aD (aQ (aa rfl) aA aW AE) rfl ?_;simp only[bP];refine aD (d:= .int w) (S1:=S) (by rw[ew];exact aO (aj (aa rfl) (aj aA (aj aA az))) (jL (by lia) (by lia))) rfl ?_;simp only[bP];refine aD (d:= .int x) (S1:=S) (by rw[ex];exact aO (aj (aa rfl) (aj aA (aj (aa rfl) az))) (jL (by lia) (by lia))) rfl ?_;simp only[bP];refine cH (t:=decide (w=5) && (decide ((hs.length:Int)<12) && !decide (x∈hs))) (S1:=S) (iT (aP (x:= .bl _) (aM (aa rfl) aA jk) aZ) λ_=>iT (aP (x:= .bl _) (aM (fZ (aj (aa rfl) az) (C2 _)) aA Bg) aZ) λ_=>aP (x:= .bl _) (aM (aa rfl) (aa rfl) (gZ gf)) aZ) (λe=>?_) λ_=>?_
 ·rw[Vn,Vn]at e;have hn:x∉hs:=by simpa using e.2.2
  have hl:(hs.length:Int)<12:=Vo e.2.1;simp only[Uy,Uu];exact aH (bI (aj aA (aj (aa rfl) az)) (by simp[aT])) ⟨_,.ES SD hn (by lia),λn=>⟨trivial,trivial,trivial⟩,rfl⟩
 simp only[Uu];refine cH (t:=decide (w=6) && decide ((1:Int)<(hs.length:Int))) (S1:=S) (iT (aP (x:= .bl _) (aM (aa rfl) aA jk) aZ) λ_=>aP (x:= .bl _) (aM (fZ (aj (aa rfl) az) (C2 _)) aA Ii) aZ) (λe=>?_) λ_=>?_
 ·rw[Vn]at e;have h1:=Vo e.2;have hj:=g8 (c:=c) (p:=9859) (m:=(hs.length:Int)) (by lia);obtain⟨i,ei⟩:∃i:Nat,(i:Int)=mix c 9859 (hs.length:Int):=⟨_,qS hj.1⟩
  have hil:i<hs.length:=by lia
  simp only[Uy,Uu];exact aH (d:= .tup [.str NL,.int hs[i]]) (bI (aj aA (aj (aQ (i:=(i:Int)) (aa rfl) (by
   rw[ei];exact aO (aj (aa rfl) (aj aA (aj (fZ (aj (aa rfl) az) (C2 _)) az))) (jL (by lia) (by lia))) aW (NH (by lia) (by simp[hil]))) az)) (by simp[aT])) ⟨_,.go (j3 hil) (by lia),λn=>⟨trivial,trivial,trivial⟩,rfl⟩
 simp only[Uu];refine cH (t:=decide (w=7) && decide ((1:Int)<(hs.length:Int))) (S1:=S) (iT (aP (x:= .bl _) (aM (aa rfl) aA jk) aZ) λ_=>aP (x:= .bl _) (aM (fZ (aj (aa rfl) az) (C2 _)) aA Ii) aZ) (λe=>?_) λ_=>?_
 ·obtain⟨F,eF⟩:∃F:Int->Bool,F=λh=>decide (mix (c+h) 9857 3=0):=⟨_,rfl⟩
  have hle:=U7 F hs;obtain⟨gone,eg⟩:∃gone,gone=(hs.filter F).take ((hs.length:Int) - 1).toNat:=⟨_,rfl⟩
  have XY:gone.length<hs.length:=by rw[eg,Wl];lia
  simp only[Uy,Uu];refine aD (d:= .lst (aq (hs.filter F))) (S1:=S) (dY (ds:=aq hs) (S1:=S) (S2:=S) (cu (aa rfl)) (gP (S:=S) D.int F (f:=λr S=>ak (ao fns (k+1)) (E.var 0) r S) (caps:=[af (.int c)]) (xs:=hs) (o:=ah) (acc:=[]) (λh hh=>?_) (λh _ _=>aa rfl)) (by simp only[UG,aT];lia)) rfl ?_
  ·rw[eF];exact iI (aP (x:= .bl _) (aM (aO (aj (fV (aa rfl) (aa rfl) Be) (aj aA (aj aA az))) (jL (by lia) (by lia))) aA jk) aZ)
  simp only[bP];refine aH (d:= .tup [.str lL,.tup (aq gone)]) (S1:=S) (bI (aj aA (aj (cJ (cZ (x:= .lst (aq gone)) (vJ (aa rfl) (fV (fZ (aj (aa rfl) az) (C2 _)) aA Jq) (by rw[Bj,qI (by lia),eg];simp)) iJ) (by simp only[UG,aT];lia)) az)) (by simp[aT])) ⟨_,.fall (λg hg=>?_) ?_ XY,λn=>⟨trivial,bF _,trivial⟩,rfl⟩
  ·rw[eg]at hg;exact(U9.mp (ko hg)).1
  ·rw[eg];exact((bY R.up).filter _).sublist (r9 _ _)
 simp only[Uu];refine cH (t:=decide (w=8)) (S1:=S) (aP (x:= .bl _) (aM (aa rfl) aA jk) aZ) (λe=>?_) λ_=>?_
 ·simp only[Uy,Uu];exact aH (bI (aj aA az) (by simp[aT])) ⟨_,.FH,λn=>⟨trivial,trivial⟩,rfl⟩
 simp only[Uu];have hm:0<many b/\many b<=12:=by unfold many;split<;>lia
 refine aD (d:= .int (many b)) (S1:=S) (fZ (aj (aa rfl) (aj aA az)) EY) rfl ?_;simp only[bP];have hi:=g8 (c:=c) (p:=9851) (m:=many b) hm.1;have hq:0<=sz b/many b/\sz b/many b<=sz b:=⟨Int.ediv_nonneg (by lia) (by lia),Int.ediv_le_self _ (by lia)⟩
 exact aH (d:= .tup [.str Bq,.int (mix c 9851 (many b)*(sz b/many b)),.int (c % 1000)]) (bI (aj aA (aj (fV (aO (aj (aa rfl) (aj aA (aj (aa rfl) az))) (jL (by lia) hm.1)) (fV (aa rfl) (aa rfl) (Ew (by lia))) (vK (by lia))) (aj (fV (aa rfl) aA (Jr (by lia))) az))) (by simp[aT])) ⟨_,.put (Va.mpr ⟨(mix c 9851 (many b)).toNat,W8.mpr (by lia),by rw[qS hi.1]⟩),λn=>⟨trivial,trivial,trivial,trivial⟩,rfl⟩
def Ml{ns:List Int}:RV.Runs (ao fns (k+10)) KA [af (.AN ns),ah,ah,ah,ah,ah,ah,ah,ah,ah,ah] [] λo=>∃S',o=af (.ret (.bl av) S'):=by
 obtain⟨c0,hc0⟩:=FZ (ns:=ns) (i:=0) (by lia);obtain⟨c1,hc1⟩:=FZ (ns:=ns) (i:=1) (by lia);obtain⟨b,hs,hR,hl9,ME⟩:=QC (k:=k+8) (S:=[]) (c:=c0) (most:=9) (by lia) (by lia);have hmx:=g8 (c:=c1) (p:=9923) (m:=6) (by lia);obtain⟨cp,ec⟩:∃cp,cp=1+mix c1 9923 6:=⟨_,rfl⟩
 have hnd:=bY hR.up;have hk:=FN (S:=[]) (b:=b) (cp:=cp) hnd;have hkeep:=QD (k:=k+9) (S:=[]) (b:=b) (cp:=cp) hnd (by lia);obtain⟨S1,e1⟩:∃S1,S1=A5 [] b hs cp hs:=⟨_,rfl⟩
 rw[←e1]at hk hkeep;have Yp:S1.length=2+hs.length:=by rw[e1];simp[A5];lia
 have XZ:∀h∈hs,S1[2+pos hs h]?=af (.dct []):=λh hh=>by have:=qL hh;rw[e1];unfold A5;rw[Uu,show 2+pos hs h=pos hs h+1+1 by lia];simp only[List.getElem?_cons_succ,WM,if_pos this]
 have hal:(keysOf b).length=12:=by simp[keysOf]
 have K0:kP (keysOf b) S1 0 1 b hs cp hs (λh=>2+pos hs h) (λ_ _=>ah):=by refine⟨hk.ob,?_,λh hh=>⟨[],XZ h hh,DI.nil⟩,λh hh h' hh' e=>rP hh hh' (by lia),λh hh=>by lia,hnd,by lia,λh hh y z=>absurd z (by simp),by lia⟩;have:=hk.kp;simp only[Vj,Vm]at this;exact this
 unfold KA;refine aD (d:=au b hs) (S1:=[]) (aO (aj (aO (aj (aa rfl) (aj aA az)) (hc0 _ _)) (aj aA az)) ME) rfl ?_;refine aD (d:= .int cp) (S1:=[]) (by
  rw[ec];exact fV aA (aO (aj (aO (aj (aa rfl) (aj aA az)) (hc1 _ _)) (aj aA (aj aA az))) (jL (by lia) (by lia))) Be) rfl ?_
 simp only[bP];refine aD (d:= .ref 0) (S1:=S1) (Qp (S1:=[]) (ds:=[au b hs,.int cp]) (aj (aa rfl) (aj (aa rfl) az)) hkeep) rfl ?_;simp only[bP];refine aD (d:= .ref S1.length) (S1:=S1++ [SO.dct []]) gw rfl ?_;simp only[bP];obtain⟨pl,SG⟩:∃pl,pl=S1.length:=⟨_,rfl⟩
 rw[←SG];refine bx (α:=Int) D.int (xs:=hs) (S1:=S1++ [SO.dct []]) (cu (aQ (aa rfl) aA aW AE)) (λys r S'=>∃pre lq o5,pre++ys=hs/\C6 S1 S' pl pl [] lq pre lq/\nv (keysOf b) S' pl pre lq (λ_ _=>ah)/\r=[af (.AN ns),af (au b hs),af (.int cp),af (.ref 0),af (.ref pl),o5,ah,ah,ah,ah,ah])
  ⟨[],λ_=>0,_,rfl,⟨by simp,λi hi _ _ _=>UV hi,λh hh=>absurd hh (by simp)⟩,⟨by rw[SG];exact lS _ _,λh hh=>absurd hh (by simp),λh hh=>absurd hh (by simp),λh hh=>absurd hh (by simp),.nil,by simp,λh hh=>absurd hh (by simp),by lia⟩,rfl⟩ ?_ ?_
 rotate_left
 ·rintro x ys r S' _ ⟨pre,lq,o5,hp,F,B,rfl⟩;have hxp:x∉pre:=by
   have:=hnd;rw[←hp]at this;exact λz=>(Vx.mp this).2.2 x z x (by simp) rfl
  have hpl:pre.length<13:=by have:=VJ e9 hp;simp at this;lia
  have hz:(sM pre lq).length<sizeLine:=by simp only[sM,UG,aT];lia
  have hpp:(S'++ [SO.dct []])[pl]?=af (.dct (sM pre lq)):=gh B.kp;have F1:=F.1;simp only[bP];refine gH (d:= .ref S'.length) (x:= .ref pl) (y:= .int x) gw (aa rfl) (aa rfl) (by simp only[RK.putAt,hpp,cX,if_pos hz]) (aJ ⟨pre++ [x],_,_,by rw[←hp];simp,⟨by rw[WR,Vh];lia,λi hi i1 i2 i3=>?_,λh hh=> .inr ?_⟩,B.add (N:=[]) hxp hpl DI.nil (λy z=>by cases z),rfl⟩)
  ·rw[U6 (Ne.symm i1),UV (by lia)];exact F.2.1 i hi i1 i2 λh hh=>absurd hh (by simp)
  ·show S1.length<=if h=x then S'.length else lq h
   rcases Vt.mp hh with z|z
   ·rw[if_neg (show h≠x from λe=>hxp (e▸z))];exact(F.2.2 h z).elim (λw=>absurd w.1 (by simp)) id
   ·rw[if_pos (VM.mp z)];exact F1
 rintro r S2 ⟨pre,lq,o5,hp,F,B,rfl⟩;rw[UT]at hp;subst hp;obtain⟨K2,dj⟩:=F.K K0 ⟨by lia,by lia,λh hh=>by have:=qL hh;lia,λh hh=>absurd hh (by simp),λh hh=>absurd hh (by simp),λh _ h' hh'=>absurd hh' (by simp)⟩;have J0:KI (keysOf b) S2 0 1 pl b cp pre pre (λh=>2+pos pre h) pre lq (λ_ _=>ah) (λ_=>ah):=
  ⟨K2,B,λ_=>Iff.rfl,λ_=>Iff.rfl,hR,by lia,by lia,by lia,⟨λ_ _ _=> .inl rfl,λy z=>absurd z (by simp),λh _ y z=>absurd z (by simp),λ_ _=>rfl⟩,dj⟩
 obtain⟨ms,X0,_⟩:=Ij ns (af 2) (af 26);refine bx (α:=Int) D.int (xs:=ms) (S1:=S2) (by rw[←X0];rfl) (λys r S'=>(∃hs ks q lk lq W u,KI (keysOf b) S' 0 1 pl b cp hs ks q lk lq W u/\r[1]?=af (af (au b hs)))/\∃v1 v5 v6 v7 v8 v9 v10,r=[af (.AN ns),v1,af (.int cp),af (.ref 0),af (.ref pl),v5,v6,v7,v8,v9,v10]) ⟨⟨_,_,_,_,_,_,_,J0,rfl⟩,_,_,_,_,_,_,_,rfl⟩ ?_ ?_
 ·rintro r S' ⟨_,v1,v5,v6,v7,v8,v9,v10,rfl⟩;exact aH aA ⟨_,rfl⟩
 rintro c ys r S' _ ⟨⟨hs,ks,q,lk,lq,W,u,J,er⟩,v1,v5,v6,v7,v8,v9,v10,rfl⟩;have er:v1=af (au b hs):=Ux er;subst er;obtain⟨act,ha,c1⟩:=SM (k:=k+8) (c:=c) (S:=S') J.R J.l12;obtain⟨S3,S4,hs',ks',q',DM,D6,W',u',d,c2,c3,hd,J'⟩:=step (k:=k) J ha;have b2:=J.R.b2;have PZ:=J.R.b7;have hz:=qF b2 PZ;have hkm:=g8 (c:=c) (p:=9839) (m:=sz b) (by lia);simp only[bP];refine aD (aO (aj (aa rfl) (aj (aa rfl) az)) c1) rfl ?_;simp only[bP];refine aD (aO (aj (aa rfl) (aj (aa rfl) az)) c2) rfl ?_;simp only[bP];refine aD (r':=[af (.AN ns),af (au b hs'),af (.int cp),af (.ref 0),af (.ref pl),v5,af (.int c),af act,af d,af d,v10]) (aO (aj (aa rfl) (aj (aa rfl) (aj (aa rfl) (aj (aa rfl) az)))) c3) rfl ?_;refine aD (d:= .int (mix c 9839 (sz b))) (aO (aj (aa rfl) (aj aA (aj (fV aA (aQ (aa rfl) aA aW CA) (vL (by lia))) az))) (jL (by lia) (by lia))) rfl ?_;simp only[bP];refine aK (S1:=S4) (Jp (aP (x:= .bl (!av)) (aM (aa rfl) (aa rfl) (Ih (jC hd))) aZ) (Bd (u:=av) (aP (x:= .bl av) (aO (aj (aa rfl) (aj (aa rfl) (aj (aa rfl) (aj (aa rfl) az)))) (Mj (k:=k+2) J' (by lia))) aZ))) ?_;exact aJ ⟨⟨_,_,_,_,_,_,_,J',rfl⟩,_,_,_,_,_,_,_,rfl⟩
end
def SN{k:Nat}{ns:List Int}:ao fns (k+11) 37 [.AN ns] []=af (.ok (.bl av) []):=by have q:=Ml (k:=k) (ns:=ns);unfold RV.Runs at q;obtain⟨S',e⟩:=q;exact call_of (fs:=⟨1,11,KA⟩) (S':=S') rfl rfl (show RV.Runs (ao fns (k+10)) KA [af (.AN ns),ah,ah,ah,ah,ah,ah,ah,ah,ah,ah] [] (dX (.bl av) S') by unfold RV.Runs;exact e) (by simp) trivial
def value:∀ns:List Int,ns.length<=63->∃S,ao fns 11 37 [.AN ns] []=af (.ok (.bl av) S):=λns _=>⟨[],SN (k:=0)⟩
end K05
namespace PySem.W.Fast
def tw17014484631295045338:=0
def tw4378920520619179401:=0
def tw2598546871700588306:=0
def tw17718572240091823999:=0
def tw13493742824581125000:=0
def tw9796598691233823552:=0
def tw3818164169463211033:=0
def tw12609731527472978092:=0
def tw6609687301299896943:=0
def tw8242176776586150141:=0
def tw8826943391107148628:=0
def tw6819493394626862006:=0
def tw10007721483462424647:=0
def tw13940523113834046272:=0
def tw12986246360106143431:=0
def tw18269184703518294447:=0
def tw8185576366806465542:=0
def tw7797312792115018581:=0
def tw14466509544207219450:=0
def tw7505167163107991240:=0
def tw13276073587343895422:=0
def tw3949823873877956737:=0
def tw5218407090654200649:=0
def tw9087025961966569660:=0
def tw8657858975015429419:=0
def tw15669490437019194991:=0
def tw4961874132417984723:=0
def tw16742220155285178948:=0
def tw166431874497509871:=0
def tw914213930915708419:=0
def tw15146827447152845413:=0
def tw3366077180045787350:=0
def tw6909638594959078404:=0
def tw7016357152896081435:=0
def tw4661131257624345218:=0
def tw13663450959528436493:=0
def tw173926175617416978:=0
def tw2939966823314060479:=0
def tw12414435547042993335:=0
def tw16169424444649888874:=0
def tw1095942941365648408:=0
def tw2917020403797837763:=0
def tw554686677017997639:=0
def tw3779818314730110729:=0
def tw4331899501452525699:=0
def tw16036950381753583218:=0
def tw8679177283064400068:=0
def tw14176797978278225148:=0
def tw1358902752696981816:=0
def tw2678554543986878442:=0
def tw9917081252168487775:=0
def tw9817032421019265049:=0
def tw18231341799982868263:=0
def tw16633686765848551286:=0
def tw10460316035812249551:=0
def tw11010073746661843487:=0
def tw5627794915219103524:=0
def tw12435222515253012424:=0
def tw4642094053332717443:=0
def tw5969622328887556673:=0
def tw8104828094732824318:=0
def tw2992392636448785070:=0
def tw12219837821971735451:=0
def tw1178267965096915098:=0
def tw17688286888238839370:=0
def tw1562504024297979710:=0
def tw13682326469197511098:=0
def tw11683954266942088055:=0
def tw6468940419102335656:=0
def tw11993812373358567043:=0
def tw921003440591762563:=0
def tw5890006123524298449:=0
def tw8939859123402187542:=0
def tw9334769623539698417:=0
def tw17456704336960687462:=0
def tw13335761947796812905:=0
def tw2957155909257980215:=0
def tw14394246074053064422:=0
def tw5560835260408885129:=0
def tw1083063230159015809:=0
def tw4703912236090101344:=0
def tw10735900888535311980:=0
def tw16719041977804739790:=0
def tw1394537581266109902:=0
def tw2513821655388887416:=0
def tw11174024623519301961:=0
def tw6577645408334309982:=0
def tw14207311287726697063:=0
def tw13387637979966492409:=0
def tw8837272778624710132:=0
def tw3804325798202983960:=0
def tw12772440191168854816:=0
def tw11162976291446939191:=0
def tw7945519427438829304:=0
def tw7691363589638601892:=0
def tw11002984259502181724:=0
def tw367407763318490867:=0
def tw10965150491750988041:=0
def tw1407610029537527154:=0
def tw4441099246105886563:=0
def tw3773663087124936957:=0
def tw8446787615328592891:=0
def tw4213646628944056217:=0
def tw12274983265625275171:=0
def tw12870671032688811804:=0
def tw18184974618292985788:=0
def tw16176907518656328398:=0
def tw16341777497999374057:=0
def tw4178142666280785285:=0
def tw516302768780271694:=0
def tw12880538171711210221:=0
def tw16277494855103388230:=0
def tw9888353852551242367:=0
def tw11392168003713211121:=0
def tw17361985723206669387:=0
def tw9663283254751741286:=0
def tw1635899590058135639:=0
def tw4226839392114424941:=0
def tw5437215057756987788:=0
def tw14307876807815443886:=0
def tw9561723815852189890:=0
def tw12395864045952559388:=0
def tw1299034687515241764:=0
def tw17105830597919003279:=0
def tw7029483668710831446:=0
def tw7478363532550546953:=0
def tw9949740564725719467:=0
def tw7989836679213667017:=0
def tw1970159208418118619:=0
def tw8761700217769840415:=0
def tw11234193763174606963:=0
def tw16419634409870256460:=0
def tw4515653135400180057:=0
def tw16701376790602007574:=0
def tw616943183967997541:=0
def tw4616374744456049585:=0
def tw10682970327021391811:=0
def tw1268232085565985651:=0
def tw1277508478919766686:=0
def tw6971076094058276422:=0
def tw15856451242623036020:=0
def tw10531263313590036940:=0
def tw18040535236430253742:=0
def tw2871266019035145711:=0
def tw17869299180531213168:=0
def tw546927421663299185:=0
def tw16896279813232830957:=0
def tw12285865019875089586:=0
def tw5537982338612070322:=0
def tw16932236646502168277:=0
def tw5263957259880685582:=0
def tw15263664908585170846:=0
def tw13403436612019688964:=0
def tw12709070099906189968:=0
def tw3965928640745353322:=0
def tw2342338509998533231:=0
def tw1210190362657159258:=0
def tw6605048702435379551:=0
def tw358023833726181086:=0
def tw3825526227388356454:=0
def tw13524506732650651071:=0
def tw16286200624910455656:=0
def tw3456418431632592079:=0
def tw1501847196971524154:=0
def tw1776427418898057998:=0
def tw6977739412571158124:=0
def tw11689344930283377153:=0
def tw4358842094662507178:=0
def tw10363830517745749301:=0
def tw2612762903612276951:=0
def tw3031033905704918701:=0
def tw7237733354527689826:=0
def tw7386016649593066506:=0
def tw18346643214574025518:=0
def tw8239450281643434728:=0
def tw5885840407091931896:=0
def tw3357392553319854589:=0
def tw7758455272528487958:=0
def tw4295742224373252183:=0
def tw7579715019517656696:=0
def tw10114089383308535571:=0
def tw4968750061933327731:=0
def tw12360151229499679339:=0
def tw16406078706700247866:=0
def tw14234050938328037763:=0
def tw6119074039627192320:=0
def tw9286000858856865530:=0
def tw2748311681303652487:=0
def tw3730527832259114895:=0
def tw17227569115626246460:=0
def tw4841558775645689057:=0
def tw3406650884359961469:=0
def tw824006963762396954:=0
def tw8182429101368168181:=0
def tw8087080561376680043:=0
def tw3325896178818461327:=0
def tw7613739957227763581:=0
def tw17187915331867354338:=0
def tw9833089252073921933:=0
def tw5712372904473515431:=0
def tw17407937240064398985:=0
def tw7222375990755068094:=0
def tw314158528849976645:=0
def tw931556550474086702:=0
def tw17204797920782045933:=0
def tw628463572780215750:=0
def tw13124975464822865674:=0
def tw11496939102023915948:=0
def tw1013674758320744572:=0
def tw2489098676913306918:=0
def tw12938486227493608683:=0
def tw7403706576893825481:=0
def tw18101854095681808337:=0
def tw2512661327566334856:=0
def tw13149082840567210738:=0
def tw520492682478691370:=0
def tw9635451829655715271:=0
def tw4908973571723711682:=0
def tw15178453659231670274:=0
def tw628921623550400634:=0
def tw11156876550929489944:=0
def tw17456640341358576175:=0
def tw14407238521977099271:=0
def tw4245317514658148303:=0
def tw10298228509411523715:=0
def tw5491729800898167223:=0
def tw5285509188436416199:=0
def tw7138480171930916386:=0
def tw12986620042725390362:=0
def tw10870388666435454612:=0
def tw8343137988292189636:=0
def tw6641416903866154390:=0
def tw6920899564437588224:=0
def tw16341849612482533743:=0
def tw8541738313046897882:=0
def tw14392080134939393360:=0
def tw13121991436321789895:=0
def tw3793464002495502577:=0
def tw13731033121761661798:=0
def tw16987969085497122654:=0
def tw2848893935748882031:=0
def tw16488648611129580825:=0
def tw2561278992767384332:=0
def tw11630933165219686341:=0
def tw18419555529627587743:=0
def tw14727250563019986260:=0
def tw932013590185234476:=0
def tw4569960388136607984:=0
def tw15312095859413320817:=0
def tw6177992612427222862:=0
def tw1643526269429014106:=0
def tw11717108742825287840:=0
def tw8890454317927482082:=0
end PySem.W.Fast
namespace K05
open PySem L2 RK
def walk{l:pe}{q:bX}{loose:List Str}{XP:(Str->Option ai)->cK->Prop}{YP:ck->cK->Prop}{d:DefRec}{K:Params->aI}(hn:l.most=af 63)(hdf:d.params.defaults=[])(hnm:d.name= "law")(hY:∀(w:ck)(h:cK),YP w h->(K w.params).In h)(hA:∀w:ck,lF (K w.params) FD.defs)(hB:∀w:ck,vA (K w.params) FD.bl)(hC:∀w:ck,LZ (K w.params) FD.ct)(hX:∀w:ck,mR (K w.params) FD.xc)(hK:∀w:ck,qD (K w.params) FD.defs FD.cls):
  yk q loose XP YP l.row.toRowW d [] (λf vs=>xS f vs):=
 L2.xn (n:=63) (k:=2*11) (x:= "_law_script") (CX:=λw=>A0 l.prog w) (sp:=λw=>Ba (K w.params) fns 11 37) hn (by decide) hdf ⟨rfl,by decide,by decide,rfl⟩ hY
  (λw mg fa h KX G hmg=>Qk (p:=FD) (st:=top 31) KX G (by rw[←hnm];exact hmg) (hA w) (hB w) (hC w) (hX w) (hK w) fits rfl rfl)
  (λw H a ns hl hO hS=>Ls value H a ns hl hO hS) λ_ _ _ _ _ z=>Ep z
end K05
set_option hygiene true
local macro_rules
|`(tactic|ext Q0)=>`(tactic|(refine' RK.rC ?a;(case a=>k_is)))|`(tactic|ext Q1)=>`(tactic|(refine' RK.qv ?a ?b ?c ?d;(case a=>k_is);(case b=>k_is);(case c=>k_is);(case d=>k_is)))|`(tactic|ext Q2)=>`(tactic|(refine' RK.fu ?a ?b ?c ?d ?e;(case a=>k_is);(case b=>k_is);(case c=>k_is);(case d=>k_is);(case e=>k_is)))|`(tactic|ext Q3)=>`(tactic|(refine' RK.bL ?a ?b ?c ?d ?e;(case a=>k_is);(case b=>k_is);(case c=>k_is);(case d=>k_is)))|`(tactic|ext Q4)=>`(tactic|(refine' RK.vz ?a ?b ?c ?d ?e ?f ?g ?h;(case a=>k_is);(case b=>k_is);(case c=>k_is);(case d=>rfl);(case e=>rfl);(case f=>rfl);(case g=>rfl)))|`(tactic|ext Q5)=>`(tactic|(refine' RK.tail_cons ?a ?b ?c ?d ?e;(case a=>k_is);(case b=>k_is);(case c=>k_is);(case d=>rfl)))
open PySem PySem.W PyProof.Rows
set_option maxRecDepth 100000 in
set_option maxHeartbeats 0 in
theorem PySem.Challenge.cw_ringkeep_k05_keeps_by_hand_holds : PySem.Challenge.rw_ringkeep_k05_keeps_by_hand.Holds := by
 w_on;o_law;k_head;(case hw=>w_witness2)
 k_fill
 refine K05.walk (l:=PySem.Challenge.rw_ringkeep_k05_keeps_by_hand) rfl rfl rfl (λw h Y=>PySem.W.kIn_of Y) ?A ?B ?C ?X ?K
 case A=>
  intro w;refine' (RK.bA ?d0 (RK.bA ?d1 (RK.bA ?d2 (RK.bA ?d3 (RK.bA ?d4 (RK.bA ?d5 (RK.bA ?d6 (RK.bA ?d7 (RK.bA ?d8 (RK.bA ?d9 (RK.bA ?d10 (RK.bA ?d11 (RK.bA ?d12 (RK.cP rfl (RK.cP rfl (RK.cP rfl (RK.cP rfl (RK.cP rfl (RK.cP rfl (RK.cP rfl (RK.cP rfl (RK.cP rfl (RK.cP rfl (RK.cP rfl (RK.cP rfl (RK.cP rfl (RK.cP rfl (RK.bA ?d27 (RK.bA ?d28 (RK.bA ?d29 (RK.bA ?d30 (RK.bA ?d31 (RK.bA ?d32 (RK.bA ?d33 (RK.bA ?d34 (RK.bA ?d35 (RK.bA ?d36 (RK.bA ?d37 RK.HX))))))))))))))))))))))))))))))))))))))
  case d0=>(show RK.AQ _ "power_of_two" (K05.top 5));ext Q3;exact λ_ _ _ _ _ _=>RK.mV (λ_=>rfl)
  case d1=>(show RK.AQ _ "count_spots" (K05.top 6));ext Q3;exact λ_ _ _ _ _ _=>RK.mV (λ_=>rfl)
  case d2=>(show RK.AQ _ "home_place" (K05.top 7));ext Q3;exact λ_ _ _ _ _ _=>RK.cY (λ_ _=>rfl)
  case d3=>(show RK.AQ _ "holders" (K05.top 8));ext Q3;exact λ_ _ _ _ _ _=>RK.rE (λ_ _ _=>rfl)
  case d4=>(show RK.AQ _ "must_be_spot" (K05.top 9));ext Q3;exact λ_ _ _ _ _ _=>RK.cY (λ_ _=>rfl)
  case d5=>(show RK.AQ _ "came" (K05.top 10));ext Q3;exact λ_ _ _ _ _ _=>RK.cY (λ_ _=>rfl)
  case d6=>(show RK.AQ _ "went" (K05.top 11));ext Q3;exact λ_ _ _ _ _ _=>RK.cY (λ_ _=>rfl)
  case d7=>(show RK.AQ _ "fell" (K05.top 12));ext Q3;exact λ_ _ _ _ _ _=>RK.cY (λ_ _=>rfl)
  case d8=>(show RK.AQ _ "kept_keys" (K05.top 14));ext Q3;exact λ_ _ _ _ _ _=>RK.mV (λ_=>rfl)
  case d9=>(show RK.AQ _ "first_keeper" (K05.top 15));ext Q3;exact λ_ _ _ _ _ _=>RK.rE (λ_ _ _=>rfl)
  case d10=>(show RK.AQ _ "lines_of_key" (K05.top 16));ext Q3;exact λ_ _ _ _ _ _=>RK.Ax (λ_ _ _ _=>rfl)
  case d11=>(show RK.AQ _ "rising_pairs" (K05.top 17));ext Q3;exact λ_ _ _ _ _ _=>RK.mV (λ_=>rfl)
  case d12=>(show RK.AQ _ "hand_over" (K05.top 18));ext Q3;exact λ_ _ _ _ _ _=>RK.cY (λ_ _=>rfl)
  case d27=>(show RK.AQ _ "_law_cell" (K05.top 21));ext Q3;exact λ_ _ _ _ _ _=>RK.cY (λ_ _=>rfl)
  case d28=>(show RK.AQ _ "_law_mix" (K05.top 22));ext Q3;exact λ_ _ _ _ _ _=>RK.rE (λ_ _ _=>rfl)
  case d29=>(show RK.AQ _ "_law_ring" (K05.top 23));ext Q3;exact λ_ _ _ _ _ _=>RK.cY (λ_ _=>rfl)
  case d30=>(show RK.AQ _ "_law_order" (K05.top 24));ext Q3;exact λ_ _ _ _ _ _=>RK.cY (λ_ _=>rfl)
  case d31=>(show RK.AQ _ "_law_act" (K05.top 25));ext Q3;exact λ_ _ _ _ _ _=>RK.cY (λ_ _=>rfl)
  case d32=>(show RK.AQ _ "_law_mended" (K05.top 26));ext Q3;exact λ_ _ _ _ _ _=>RK.Ax (λ_ _ _ _=>rfl)
  case d33=>(show RK.AQ _ "_law_do" (K05.top 27));ext Q3;exact λ_ _ _ _ _ _=>RK.Ax (λ_ _ _ _=>rfl)
  case d34=>(show RK.AQ _ "_law_told" (K05.top 28));ext Q3;exact λ_ _ _ _ _ _=>RK.cY (λ_ _=>rfl)
  case d35=>(show RK.AQ _ "_law_got" (K05.top 29));ext Q3;exact λ_ _ _ _ _ _=>RK.cY (λ_ _=>rfl)
  case d36=>(show RK.AQ _ "_law_right" (K05.top 30));ext Q3;exact λ_ _ _ _ _ _=>RK.Ax (λ_ _ _ _=>rfl)
  case d37=>(show RK.AQ _ "law" (K05.top 31));ext Q3;exact λ_ _ _ _ _ _=>RK.mV (λ_=>rfl)
 case B=>
  intro w;refine⟨?z0,?z1,?z2,?z3,?z4,?z5,?z6,?z7,?z8,?z9,trivial⟩
  all_goals k_is
 case C=>exact λ_=>trivial
 case X=>
  intro w;refine' RK.R5 [?xC0,?xC1,?xC2] ⟨⟨?xa0,?xe0,⟨?xp0,?xq0,?xr0,?xs0,?xt0,?xu0,?xw0⟩,?xv0,⟨⟨?xn0_0,?xk0_0,?xm0_0⟩,⟨⟨?xn0_1,?xk0_1,?xm0_1⟩,⟨⟨?xn0_2,?xk0_2,?xm0_2⟩,trivial⟩⟩⟩⟩,⟨⟨?xa1,?xe1,⟨?xp1,?xq1,?xr1,?xs1,?xt1,?xu1,?xw1⟩,?xv1,⟨⟨?xn1_0,?xk1_0,?xm1_0⟩,⟨⟨?xn1_1,?xk1_1,?xm1_1⟩,⟨⟨?xn1_2,?xk1_2,?xm1_2⟩,trivial⟩⟩⟩⟩,⟨⟨?xa2,?xe2,⟨?xp2,?xq2,?xr2,?xs2,?xt2,?xu2,?xw2⟩,?xv2,⟨⟨?xn2_0,?xk2_0,?xm2_0⟩,⟨⟨?xn2_1,?xk2_1,?xm2_1⟩,⟨⟨?xn2_2,?xk2_2,?xm2_2⟩,trivial⟩⟩⟩⟩,trivial⟩⟩⟩
  case xa0=>k_is
  case xa1=>k_is
  case xa2=>k_is
  case xe0=>ext Q4;exact RK.mU
  case xp0=>k_is
  case xq0=>k_is
  case xr0=>k_is
  case xs0=>k_is
  case xt0=>k_is
  case xu0=>k_is
  case xw0=>k_is
  case xv0=>(show PySem.W.kitOne _ _ _=some true);ext Q0
  case xn0_0=>k_is
  case xk0_0=>(show PySem.W.kitOne _ _ _=some true);ext Q1
  case xm0_0=>(show PySem.W.exmOne _ _ _=some true);ext Q2
  case xn0_1=>k_is
  case xk0_1=>(show PySem.W.kitOne _ _ _=some false);ext Q1
  case xm0_1=>(show PySem.W.exmOne _ _ _=some false);ext Q2
  case xn0_2=>k_is
  case xk0_2=>(show PySem.W.kitOne _ _ _=some false);ext Q1
  case xm0_2=>(show PySem.W.exmOne _ _ _=some false);ext Q2
  case xe1=>ext Q4;ext Q5;exact RK.mU
  case xp1=>k_is
  case xq1=>k_is
  case xr1=>k_is
  case xs1=>k_is
  case xt1=>k_is
  case xu1=>k_is
  case xw1=>k_is
  case xv1=>(show PySem.W.kitOne _ _ _=some true);ext Q0
  case xn1_0=>k_is
  case xk1_0=>(show PySem.W.kitOne _ _ _=some true);ext Q1
  case xm1_0=>(show PySem.W.exmOne _ _ _=some true);ext Q2
  case xn1_1=>k_is
  case xk1_1=>(show PySem.W.kitOne _ _ _=some true);ext Q1
  case xm1_1=>(show PySem.W.exmOne _ _ _=some true);ext Q2
  case xn1_2=>k_is
  case xk1_2=>(show PySem.W.kitOne _ _ _=some false);ext Q1
  case xm1_2=>(show PySem.W.exmOne _ _ _=some false);ext Q2
  case xe2=>ext Q4;ext Q5;exact RK.mU
  case xp2=>k_is
  case xq2=>k_is
  case xr2=>k_is
  case xs2=>k_is
  case xt2=>k_is
  case xu2=>k_is
  case xw2=>k_is
  case xv2=>(show PySem.W.kitOne _ _ _=some true);ext Q0
  case xn2_0=>k_is
  case xk2_0=>(show PySem.W.kitOne _ _ _=some true);ext Q1
  case xm2_0=>(show PySem.W.exmOne _ _ _=some true);ext Q2
  case xn2_1=>k_is
  case xk2_1=>(show PySem.W.kitOne _ _ _=some false);ext Q1
  case xm2_1=>(show PySem.W.exmOne _ _ _=some false);ext Q2
  case xn2_2=>k_is
  case xk2_2=>(show PySem.W.kitOne _ _ _=some true);ext Q1
  case xm2_2=>(show PySem.W.exmOne _ _ _=some true);ext Q2
 case K=>
  intro w;refine' ⟨⟨?kC0,?kn0,⟨?kp0,?kh0,?ko0,?ks0⟩,⟨?kf0_0,?kf0_1,?kf0_2,trivial⟩,⟨?km0_0,?km0_1,?km0_2,?km0_3,?km0_4,?km0_5,?km0_6,?km0_7,?km0_8,?km0_9,?km0_10,?km0_11,?km0_12,?km0_13,trivial⟩⟩,trivial⟩
  case kn0=>k_is
  case kp0=>k_is
  case kh0=>k_is
  case ko0=>k_is
  case ks0=>k_is
  case kf0_0=>(show PySem.W.findIn _ _ _=some none);k_is
  case kf0_1=>(show PySem.W.findIn _ _ _=some none);k_is
  case kf0_2=>(show PySem.W.findIn _ _ _=some none);k_is
  case km0_0=>(refine' RK.dF (d:=⟨"__init__",L2.inClass (K05.top 19) 0, "Keep.__init__"⟩) rfl ?ma0_0 ?ml0_0 ?mc0_0 ?mk0_0 ?mg0_0 ?mb0_0 (.inr ⟨?my0_0,?mz0_0⟩));(case ma0_0=>k_is);(case ml0_0=>k_is);(case mc0_0=>k_is);(case mk0_0=>k_is);(case mg0_0=>k_is);(case mb0_0=>exact λ_ _ _ _ _ _=>RK.rE (λ_ _ _=>rfl));(case my0_0=>k_is);(case mz0_0=>k_is)
  case km0_1=>(refine' RK.dF (d:=⟨"ring",L2.inClass (K05.top 19) 1, "Keep.ring"⟩) rfl ?ma0_1 ?ml0_1 ?mc0_1 ?mk0_1 ?mg0_1 ?mb0_1 (.inl rfl));(case ma0_1=>k_is);(case ml0_1=>k_is);(case mc0_1=>k_is);(case mk0_1=>k_is);(case mg0_1=>k_is);(case mb0_1=>exact λ_ _ _ _ _ _=>RK.mV (λ_=>rfl))
  case km0_2=>(refine' RK.dF (d:=⟨"put",L2.inClass (K05.top 19) 2, "Keep.put"⟩) rfl ?ma0_2 ?ml0_2 ?mc0_2 ?mk0_2 ?mg0_2 ?mb0_2 (.inl rfl));(case ma0_2=>k_is);(case ml0_2=>k_is);(case mc0_2=>k_is);(case mk0_2=>k_is);(case mg0_2=>k_is);(case mb0_2=>exact λ_ _ _ _ _ _=>RK.rE (λ_ _ _=>rfl))
  case km0_3=>(refine' RK.dF (d:=⟨"get",L2.inClass (K05.top 19) 3, "Keep.get"⟩) rfl ?ma0_3 ?ml0_3 ?mc0_3 ?mk0_3 ?mg0_3 ?mb0_3 (.inl rfl));(case ma0_3=>k_is);(case ml0_3=>k_is);(case mc0_3=>k_is);(case mk0_3=>k_is);(case mg0_3=>k_is);(case mb0_3=>exact λ_ _ _ _ _ _=>RK.cY (λ_ _=>rfl))
  case km0_4=>(refine' RK.dF (d:=⟨"has",L2.inClass (K05.top 19) 4, "Keep.has"⟩) rfl ?ma0_4 ?ml0_4 ?mc0_4 ?mk0_4 ?mg0_4 ?mb0_4 (.inl rfl));(case ma0_4=>k_is);(case ml0_4=>k_is);(case mc0_4=>k_is);(case mk0_4=>k_is);(case mg0_4=>k_is);(case mb0_4=>exact λ_ _ _ _ _ _=>RK.cY (λ_ _=>rfl))
  case km0_5=>(refine' RK.dF (d:=⟨"keepers",L2.inClass (K05.top 19) 5, "Keep.keepers"⟩) rfl ?ma0_5 ?ml0_5 ?mc0_5 ?mk0_5 ?mg0_5 ?mb0_5 (.inl rfl));(case ma0_5=>k_is);(case ml0_5=>k_is);(case mc0_5=>k_is);(case mk0_5=>k_is);(case mg0_5=>k_is);(case mb0_5=>exact λ_ _ _ _ _ _=>RK.cY (λ_ _=>rfl))
  case km0_6=>(refine' RK.dF (d:=⟨"mend_toward",L2.inClass (K05.top 19) 6, "Keep.mend_toward"⟩) rfl ?ma0_6 ?ml0_6 ?mc0_6 ?mk0_6 ?mg0_6 ?mb0_6 (.inl rfl));(case ma0_6=>k_is);(case ml0_6=>k_is);(case mc0_6=>k_is);(case mk0_6=>k_is);(case mg0_6=>k_is);(case mb0_6=>exact λ_ _ _ _ _ _=>RK.cY (λ_ _=>rfl))
  case km0_7=>(refine' RK.dF (d:=⟨"mend",L2.inClass (K05.top 19) 7, "Keep.mend"⟩) rfl ?ma0_7 ?ml0_7 ?mc0_7 ?mk0_7 ?mg0_7 ?mb0_7 (.inl rfl));(case ma0_7=>k_is);(case ml0_7=>k_is);(case mc0_7=>k_is);(case mk0_7=>k_is);(case mg0_7=>k_is);(case mb0_7=>exact λ_ _ _ _ _ _=>RK.mV (λ_=>rfl))
  case km0_8=>(refine' RK.dF (d:=⟨"come",L2.inClass (K05.top 19) 8, "Keep.come"⟩) rfl ?ma0_8 ?ml0_8 ?mc0_8 ?mk0_8 ?mg0_8 ?mb0_8 (.inl rfl));(case ma0_8=>k_is);(case ml0_8=>k_is);(case mc0_8=>k_is);(case mk0_8=>k_is);(case mg0_8=>k_is);(case mb0_8=>exact λ_ _ _ _ _ _=>RK.cY (λ_ _=>rfl))
  case km0_9=>(refine' RK.dF (d:=⟨"go",L2.inClass (K05.top 19) 9, "Keep.go"⟩) rfl ?ma0_9 ?ml0_9 ?mc0_9 ?mk0_9 ?mg0_9 ?mb0_9 (.inl rfl));(case ma0_9=>k_is);(case ml0_9=>k_is);(case mc0_9=>k_is);(case mk0_9=>k_is);(case mg0_9=>k_is);(case mb0_9=>exact λ_ _ _ _ _ _=>RK.cY (λ_ _=>rfl))
  case km0_10=>(refine' RK.dF (d:=⟨"move_to",L2.inClass (K05.top 19) 10, "Keep.move_to"⟩) rfl ?ma0_10 ?ml0_10 ?mc0_10 ?mk0_10 ?mg0_10 ?mb0_10 (.inl rfl));(case ma0_10=>k_is);(case ml0_10=>k_is);(case mc0_10=>k_is);(case mk0_10=>k_is);(case mg0_10=>k_is);(case mb0_10=>exact λ_ _ _ _ _ _=>RK.cY (λ_ _=>rfl))
  case km0_11=>(refine' RK.dF (d:=⟨"gather",L2.inClass (K05.top 19) 11, "Keep.gather"⟩) rfl ?ma0_11 ?ml0_11 ?mc0_11 ?mk0_11 ?mg0_11 ?mb0_11 (.inl rfl));(case ma0_11=>k_is);(case ml0_11=>k_is);(case mc0_11=>k_is);(case mk0_11=>k_is);(case mg0_11=>k_is);(case mb0_11=>exact λ_ _ _ _ _ _=>RK.cY (λ_ _=>rfl))
  case km0_12=>(refine' RK.dF (d:=⟨"fall",L2.inClass (K05.top 19) 12, "Keep.fall"⟩) rfl ?ma0_12 ?ml0_12 ?mc0_12 ?mk0_12 ?mg0_12 ?mb0_12 (.inl rfl));(case ma0_12=>k_is);(case ml0_12=>k_is);(case mc0_12=>k_is);(case mk0_12=>k_is);(case mg0_12=>k_is);(case mb0_12=>exact λ_ _ _ _ _ _=>RK.cY (λ_ _=>rfl))
  case km0_13=>(refine' RK.dF (d:=⟨"leave",L2.inClass (K05.top 19) 13, "Keep.leave"⟩) rfl ?ma0_13 ?ml0_13 ?mc0_13 ?mk0_13 ?mg0_13 ?mb0_13 (.inl rfl));(case ma0_13=>k_is);(case ml0_13=>k_is);(case mc0_13=>k_is);(case mk0_13=>k_is);(case mg0_13=>k_is);(case mb0_13=>exact λ_ _ _ _ _ _=>RK.cY (λ_ _=>rfl))
