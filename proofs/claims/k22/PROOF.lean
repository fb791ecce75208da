import PyProof.Rows.All
import Wide.All
import OpenK.AllK
import Wide.FinOn
import Lean
import PyProof.EqAt
import PyProof.EqKinds
import PyProof.TupleCall
import PyProof.Rows.SortKey
import PyProof.StationsW
import KE.KSortAsk
import KE.KSortTup
import KE.KDictSum
import PyProof.TupleIter
import PyProof.EnumStmt
import PyProof.Rows.StrInSeq3
import PyProof.TupleKey
import KE.KDictLaws
import PyProof.DictItems
import PyProof.LayNew
import PySem.SetOps
import PyProof.SetKind
import PyProof.Rows.SetFrom
import KE.KDictList
import PyProof.ConsumeWalk
import PyProof.Rows.SeqGen
import PySem.Challenge.RW_ringkeep_k22_whole_changes_at_once
set_option genSizeOf false
set_option Elab.async false
set_option linter.all false
set_option maxRecDepth 100000
abbrev Z1:PySem.Str:={cps:= #[75,101,101,112]}
abbrev Z2:PySem.Str:={cps:= #[107,101,112,116]}
abbrev Z3:PySem.Str:={cps:= #[99,105,114,99,108,101]}
abbrev Z4:PySem.Str:={cps:= #[115,101,110,100]}
abbrev Z5:PySem.Str:={cps:= #[114,105,110,103]}
abbrev Z6:PySem.Str:={cps:= #[99,111,112,105,101,115]}
abbrev Z7:PySem.Str:={cps:= #[99,111,109,101]}
abbrev Z8:PySem.Str:={cps:= #[78,111,72,97,110,100]}
abbrev Z9:PySem.Str:={cps:= #[103,111]}
abbrev Za:PySem.Str:={cps:= #[100,114,111,112]}
abbrev Zb:PySem.Str:={cps:= #[109,111,118,101,95,116,111]}
theorem WR:type_of% @of_decide_eq_true:=@of_decide_eq_true
theorem Xd:type_of% @if_false:=@if_false
theorem Xk:type_of% @congrArg:=@congrArg
theorem Xz:type_of% @decide_eq_true:=@decide_eq_true
theorem Yv:type_of% @decide_eq_false:=@decide_eq_false
theorem Zq:type_of% @decide_eq_true_eq:=@decide_eq_true_eq
theorem ZK:type_of% @decide_true:=@decide_true
noncomputable section
open PySem renaming wpAny_bind→My,wpAny_pure→V8,Heap.get?_push_of_some→V9,Heap.get?_push_size→Wf,Heap.lt_size→Wg,Heap.get?_update_other→Ww,wpAny_call_entry→WY,wpAny_field→W3,wpAny_newObj_type→W5,sizeLine_eq→W6,Heap.get?_update_self→W7,wpAny_callSpecial?_slot→Xf,wpAny_ite_split→Xj,wpAny_holding→Xl,mem_of_lookup→Xp,wpAny_setField_rec→Xv,wpAny_mono→Xw,codeAny_builtin→XD,Around.under_plainId→XF,Heap.SameBut.update→X8,wpAny_setField→Yj,F.slot_dict_itemiterator_next→Yk,wpAny_typeOf→Yn,Obj.data_mapFields→Yq,Calls.call_function_entry→Yr,F.plain_extend_loop→Yu,wpAny_typeNameOfWhole_itemiter→Yx,Heap.size_push→YF,wpAny_pyIter_tuple→YK,codeAny_mono→YM,wpAny_passesOwn→YS,Obj.isFreed_of_fields→YT,F.slot_tuple_iterator_next→Y4,wpAny_rule→Y5,F.plain_list_iadd→Zc,wpAny_newList→Ze,wpAny_attempt→Zf,plainId_quiet→Zg,W.kia_one→Zi,Value→av,Shared→aE,Addr→aI,Expr→bE,Stmt→fT,sizeLine→aS,wpAny→bg,Program→ck,World→cy,Around→cK,Heap→dc,W.Frag→aT,W.nsIn→bP,W.findIn→eB,W.kitOne→eT,W.keepIn→e9,W.subIn→fq,W.emptyDict→ff,W.fnOf→f6,W.instObj→fz,W.exmOne→fE,W.excIn→gp,W.codeIn→i0,W.tailIn→i6,W.kitCls→i7,W.mg_of→kC,W.lookIn→lT,W.plainGet→j3,W.isFn→pS,W.typeIn→mh,Within→tS,W.methodObj→ng,W.hasDictIn→nh,W.plainGet_of→kK,W.takerIn→pT,W.makesIn→pV,F.slot_tuple_add→iO,F.entry_tuple_add→ia,F.args_tuple_add_2→gI,call→xS,W.OpenLaw→p5,F.plainAttrs_list→iA,F.plainAttrs_dict→iE,W.callWith_K→kU,W.nsOkIn→r8,W.clsIn→sL,W.InstAt→xA,W.handedIn→tT,W.plainOver→sN,W.cellsFrom_some→nN,IsL.update→t9,list_append→sP,F.slot_dict_pop→oz,W.WalkO→yv,W.KdlSrc→xB,F.plain_proto_collect→jv,F.slot_list_index→mP,F.slot_dict_setdefault→i8,F.entry_dict_itemiterator_next→gg,F.args_dict_itemiterator_next_1→gc,F.entry_extend_loop→kM,F.slot_dict_items→mS,F.plain_set_new→oB,F.slot_set_iter→oQ
open Nat renaming le_trans→Wa,le_refl→Wc,ne_of_lt→Wo,lt_of_le_of_lt→Wv,le_add_right→WD,lt_of_lt_of_le→WF,zero_add→WL,zero_le→WP,le_of_lt→Xg,sub_self→Xi,ne_of_gt→Xn,lt_succ_of_lt→X6,lt_trans→Ye,le_succ→Yo,le_add_left→YX,lt_irrefl→Zd,le_succ_of_le→Zm,le_of_lt_succ→Zn,lt_succ_self→Zx,reduceAdd→dP,reduceSub→dQ,le_of_eq→kX,le_of_not_lt→kc,lt_succ_of_le→iX,min_le_right→ua,succ_le_succ→uu,sub_zero→zd,sub_le→AI,le_max_right→uS,lt_or_eq_of_le→sj
open List renaming length_map→Wb,mem_cons→We,map_cons→Wh,getElem?_eq_some_iff→Wi,nil_append→Wj,length_cons→Wl,append_nil→Wm,mem_map→Wn,getElem?_eq_getElem→Wq,cons_append→Wr,getElem?_append_left→Ws,getElem?_append_right→Wx,getElem?_set_ne→Wy,mem_filter→Wz,length_append→WK,mem_append_right→WM,length_nil→WN,pairwise_cons→WQ,map_nil→WW,size_toArray→WX,pairwise_map→W2,getElem?_set_self→W8,take_of_length_le→W9,mem_append→Xa,mem_of_getElem?→Xb,getD_eq_getElem?_getD→Xc,length_filter_le→Xe,getElem?_map→Xm,nodup_cons→Xo,all_eq_true→Xq,nodup_append→Xu,mem_range→Xy,find?_cons→XC,mem_singleton→XM,getElem_mem→XR,mem_map_of_mem→XS,getElem?_take_of_lt→X3,drop_eq_getElem_cons→Yb,length_singleton→Yc,mem_cons_of_mem→Yh,mem_append_left→Yi,append_assoc→Yl,filter_sublist→Ym,findIdx?_eq_some_iff_getElem→Yp,pairwise_append→Yw,getElem?_replicate→Yz,length_eq_zero_iff→YB,getElem_of_mem→YD,length_take→YG,map_map→YQ,perm_append_comm→YZ,set_getElem_self→Y0,getElem_map→Y7,filterMap_cons→Y8,filter_cons_of_pos→Y9,find?_eq_none→Zj,mem_iff_getElem?→Zr,length_replicate→Zt,set_append_right→Zu,pairwise_flatMap→Zv,getElem_inj→Zw,length_drop→Zy,mem_flatMap→Zz,all_cons→ZC,cons.inj→ZF,map_append→ZG,set_set→ZJ,set→bS,replicate→br,range→bX,length→fR,any_cons→kF,sum_cons→kG,Perm.refl→mw,range'→sf,extract_eq_drop_take→fF,toList_toArray→g9,drop_length→kg,all_nil→p9,of_mem_zip→qa,take_sublist→nv,Pairwise.nil→ny,filter_cons_of_neg→iF,getElem?_inj→nB,mem_cons_self→ly,drop_zero→r9,take_length→om,nodup_range→oq,mem_erase_of_ne→ko,length_erase_of_mem→gS,length_pos_of_mem→iP,Perm.append_left→i9,Perm.of_eq→qf,ext_getElem→ow,forIn_cons→qh,mem_of_find?_eq_some→gy,find?_some→qk,Nodup→x6,map→AB,length_set→qo,flatMap_cons→nE,filter_congr→nI,lookup→zI,filterMap_map→sF,filter_cons→u7,any_toArray→vc,Perm.swap→xC,range_eq_range'→qv,length_range→zD,map_take→yT,take_succ_eq_append_getElem→gX,zipIdx_cons→ve,foldl_cons→wo,take_append_drop→oS,getElem_cons_succ→nS,lookup_cons→vj,findIdx?_append→qA,perm_ext_iff_of_nodup→kH,not_mem_nil→vn,Perm.append_right→nV,length_eraseIdx→qB,Pairwise.imp_of_mem→lI,dropWhile_cons→rL,takeWhile_sublist→nX,dropWhile_sublist→n5,map_congr_left→rS,flatten_cons→sQ,findIdx_cons→sR,flatMap_append→rV,any_eq_true→vt,filter_map→w9,exists_mem_of_ne_nil→kN
open Option renaming some.inj→Wd,bind_eq_some_iff→Xr,map_some→XJ,map_eq_some_iff→XN,isSome_iff_exists→XX,isSome_map→Zk,some→af,none→ah,getD_some→kq,map_none→qE,getD_none→vE,none→zS
open PyProof renaming Rows.wpS_bind→Wk,Rows.wpS_pure→Wu,Rows.slot_tuple_getitem→Xx,Rows.wpS_forRange→X4,Rows.KeyOrd.kle_trans→Yg,Rows.callWith_type1→YL,Rows.KeyOrd.kle_refl→YW,Rows.F.plain_set_update_loop→fh,Rows.F.entry_set_update_loop→gi,Rows.boot_list→n9
open Bool renaming false_eq_true→Wt,and_eq_true→WT,false_ne_true→Zh,true_and→ZD,true→ai,false→ay
open Int renaming le_trans→W4,toNat_natCast→Yy,ne_of_lt→lP,emod_nonneg→kP,emod_lt_of_pos→iN,ne_of_gt→ze,le_of_lt→zh,emod_eq_of_lt→s9
open Array renaming length_toList→Xh,perm_iff_toList_perm→X5,getElem?_toList→Yd,getElem?_eq_getElem→Yt,toList_append→YC,toList_inj→YH,getElem?_eq_none→YJ,size_map→Y6,toList_push→Zo,getD→ku,toList_extract→kB,ext'→x8,toList→zk,toList_map→vF,toList_reverse→qS,Perm.refl→xh,size_push→xo,getElem?_push→rX,getD_eq_getD_getElem?→jI
open Function renaming comp_def→X7
open Classical renaming byContradiction→Ys
namespace L2
open PySem PySem.Spec PyProof.Rows
def bJ{α β:Type}{A B C:α->β->Prop}{G:Prop}(h:∃x y,A x y/\B x y/\C x y)(k:∀x y,A x y->B x y->C x y->G):G:=by grind
abbrev Key:=Sum Int Str
def mZ:Key->av->Bool
 |.inl k,v=>Value.isInt k v|.inr x,v=>Value.isStrOf x v
def U6(w:cy):Key->Int
 |.inl k=>hashInt k|.inr x=>hashStr w x
theorem gE:∀{k:Key}{v:av},mZ k v=ai->(∃i t,k=Sum.inl i/\v=Value.int i t)\/(∃x t,k=Sum.inr x/\v=Value.str x t)
 |.inl i,v,h=>by obtain⟨t,e⟩:=Value.isInt_shape (k:=i) (v:=v) h;exact .inl ⟨i,t,rfl,e⟩
 |.inr x,v,h=>by obtain⟨t,e⟩:=Value.isStrOf_shape (x:=x) (v:=v) h;exact .inr ⟨x,t,rfl,e⟩
def Bt(i:Int)(t:Tok):mZ (.inl i) (.int i t)=true:=by simp[mZ,Value.isInt]
def Bu(x:Str)(t:Tok):mZ (.inr x) (.str x t)=true:=by simp[mZ,Value.isStrOf]
def NZ(a b:Int):decide ((Sum.inl a:Key)=Sum.inl b)=(a==b):=by lia
def N5(a b:Str):decide ((Sum.inr a:Key)=Sum.inr b)=decide (a=b):=by lia
def N6(a:Int)(b:Str):decide ((Sum.inl a:Key)=Sum.inr b)=false:=Yv (λq=>nomatch q)
def N7(a:Str)(b:Int):decide ((Sum.inr a:Key)=Sum.inl b)=false:=Yv (λq=>nomatch q)
def aX(prog:ck)(w:cy):PySem.KeyKind prog w Key where
 is:=mZ
 hash:=U6 w
 inj:=λv a b ha hb=>by
  rcases gE ha with⟨i,t,rfl,rfl⟩|⟨x,t,rfl,rfl⟩
  ·rcases gE hb with⟨j,u,rfl,e⟩|⟨y,u,rfl,e⟩
   ·lia
   lia
  ·rcases gE hb with⟨j,u,rfl,e⟩|⟨y,u,rfl,e⟩
   ·lia
   lia
 byValue:=λk v h=>by rcases gE h with⟨i,t,rfl,rfl⟩|⟨x,t,rfl,rfl⟩<;>rfl
 pyHash:=λhv h=>by
  rcases gE hv with⟨i,t,rfl,rfl⟩|⟨x,t,rfl,rfl⟩
  ·exact wpAny_pyHash_int h
  ·exact wpAny_pyHash_str h
 eqBool:=λhu hv h=>by
  rcases gE hu with⟨i,t,rfl,rfl⟩|⟨x,t,rfl,rfl⟩
  ·rcases gE hv with⟨j,u,rfl,rfl⟩|⟨y,u,rfl,rfl⟩
   ·rw[NZ]at h;exact wpAny_eqBool_int h
   ·rw[N6]at h;exact SeqAt.EqAt.int_str i t y u _ _ _ _ h
  ·rcases gE hv with⟨j,u,rfl,rfl⟩|⟨y,u,rfl,rfl⟩
   ·rw[N7]at h;exact SeqAt.EqAt.str_int x t j u _ _ _ _ h
   ·rw[N5]at h;exact wpAny_eqBool_str h
 «strs»:=λk x t v h=>by
  rcases gE h with⟨i,u,rfl,e⟩|⟨y,u,rfl,e⟩
  ·lia
  ·injection e with e1 _
   subst e1;cases v<;>rfl
def w6(prog:ck)(w:cy)(i:Int)(t:Tok):(aX prog w).is (.inl i) (.int i t)=true:=Bt i t
def xf(prog:ck)(w:cy)(x:Str)(t:Tok):(aX prog w).is (.inr x) (.str x t)=true:=Bu x t
inductive V where
 |non|bl (b:Bool)|int (i:Int)|str (x:Str)|IT (b:Array UInt8)|flt (b:UInt64)|ref (a:aI)|ty (n:String)
def RelV:V->av->Prop
 |.non,u=>u=Value.none|.bl b,u=>u=Value.bool b|.int i,u=>∃t,u=Value.int i t|.str x,u=>∃t,u=Value.str x t|.IT b,u=>∃t,u=Value.bytes b t|.flt b,u=>∃t,u=Value.float b t|.ref a,u=>u=Value.ref a|.ty n,u=>u=Value.type n
abbrev Vals:List V->List av->Prop:=Paired RelV
theorem Vals.length(r:Vals xs us):xs.length=us.length:=Paired.length r
theorem Vals.get:∀{xs:List V}{us:List av}{i:Nat}{x:V},Vals xs us->xs[i]?=af x->∃u,us[i]?=af u/\RelV x u
 |_,_,_,_,.nil,e=>by simp at e|_,_,0,_,.cons r _,e=>by simp_all|_,_,i+1,x,.cons _ t,e=>by
  obtain⟨u,h1,h2⟩:=Vals.get (i:=i) (x:=x) t (by simpa using e)
  simp_all
theorem Vals.set(r:RelV x u):∀{xs:List V}{us:List av}(i:Nat),Vals xs us->Vals (xs.set i x) (us.set i u)
 |_,_,_,.nil=> .nil|_,_,0,.cons _ t=> .cons r t|_,_,i+1,.cons q t=> .cons q (Vals.set r i t)
theorem Vals.append:∀{xs ys:List V}{us ws:List av},Vals xs us->Vals ys ws->Vals (xs++ys) (us++ws)
 |_,_,_,_,.nil,s=>s|_,_,_,_,.cons r t,s=> .cons r (Vals.append t s)
theorem Vals.take:∀{xs:List V}{us:List av}(n:Nat),Vals xs us->Vals (xs.take n) (us.take n)
 |_,_,0,_=> .nil|_,_,_+1,.nil=> .nil|_,_,n+1,.cons r t=> .cons r (Vals.take n t)
theorem Vals.drop:∀{xs:List V}{us:List av}(n:Nat),Vals xs us->Vals (xs.drop n) (us.drop n)
 |_,_,0,r=>r|_,_,_+1,.nil=> .nil|_,_,n+1,.cons _ t=>Vals.drop n t
def fG:Option V->Option av->Prop
 |some v,af u=>RelV v u|none,ah=>True|_,_=>False
def KV{κ:Type}:List (κ×V)->List (κ×av)->Prop:=Paired λ(p:κ×V)(q:κ×av)=>p.1=q.1/\RelV p.2 q.2
def kV:Key->V
 |.inl i=> .int i|.inr x=> .str x
inductive HO where
 |lst (xs:List V)|tup (xs:List V)|dK (kvs:List (Key×V))|dT (kvs:List (List Key×V))|set (S:Int->Bool) (n:Nat)|ins (C dx:aI) (fs:List (Str×V))|own (x:aI)|xd (fs:List (Str×V))|met (f x:aI)|AR (lo hi:Int)|tw (o:Obj) (u:HO)|FG (ps:Array av)|ext (φ:dc->Prop)
abbrev Hp:=aI->Option HO
def upd(H:Hp)(a:aI)(o:HO):Hp:=λb=>if b=a then af o else H b
def bh:upd H a o a=af o:=by unfold upd;lia
def aA(h:b≠a):upd H a o b=H b:=by unfold upd;rw[if_neg h]
def cZ{H:Hp}(h:H a=af o)(h':H b=af u)(d:o≠u):a≠b:=by lia
def aP{H:Hp}(h:H a=af o)(h':H b=ah):a≠b:=by lia
section
variable(P:ck)(w:cy)
def bB(H:Hp)(h:dc)(a:aI):HO->Prop
 |.lst xs=>xs.length<=aS/\∃(its:List av)(n:Nat),Vals xs its/\h.get? a=af {cls:= .type "list",data:= .seq its.toArray n}|.tup xs=>xs.length<=aS/\∃its:List av,Vals xs its/\IsTup h a its.toArray/\∃o,h.get? a=af o/\o.dict=ah/\o.slots= #[]|.dK kvs=>kvs.length<=aS/\(a==sysModules)=ay/\∃vs,KV kvs vs/\h.DictOf (aX P w) a vs|.dT kvs=>kvs.length<=aS/\(a==sysModules)=ay/\∃xs:List (List Key×aI×av),
   Paired (λ(p:List Key×V)(q:List Key×aI×av)=>p.1=q.1/\H q.2.1=af (.tup (p.1.map kV))/\RelV p.2 q.2.2) kvs xs/\
   ∃o es ep,h.get? a=af o/\o.ExactDict/\o.data= .dict es ep/\es.toList=xs.map (entryOfKey (tupleKind (aX P w)))/\(xs.map (·.1)).Nodup
 |.set S n=>h.SetOf (intKind P w) a S n|.ins C dx fs=>H dx=af (.own a)/\fs.length<=1000/\dx≠a/\h.get? a=af (fz C dx)/\
   ∃mA,h.Ns1 dx mA/\(∀f,fG (fs.lookup f) (mA f))/\tS mA (fs.map (·.1))
 |.own _=>∃o,h.get? a=af o|.xd fs=>∃mA,h.Ns1 a mA/\∀f,fG (fs.lookup f) (mA f)|.AR lo hi=>∃t u v,h.get? a=af {cls:= .type "range",data:= .fields #[.int lo t,.int hi u,.int 1 v]}|.tw o u=>h.get? a=af o/\bB H h a u|.FG ps=>h.get? a=af {cls:= .none,data:= .fields ps}|.met f x=>h.get? a=af (ng (.ref f) (.ref x))|.ext φ=>φ h/\(∃o,h.get? a=af o)/\∀h1 h2:dc,φ h1->(∀o,h1.get? a=af o->h2.get? a=af o)->φ h2
def zo(H:Hp)(h:dc):Prop:=∀a o,H a=af o->bB P w H h a o
end
section
variable{P:ck}{w:cy}{H H':Hp}{h h':dc}{a:aI}{o:HO}
theorem bB.lt(x:bB P w H h a o):a<h.objs.size:=by
 cases o with
 |lst xs=>obtain⟨_,_,_,_,e⟩:=x;exact Wg e
 |tup xs=>obtain⟨_,_,_,p,_⟩:=x;exact p.lt
 |dK kvs=>obtain⟨_,_,_,_,o,_,_,e,_⟩:=x;exact Wg e
 |dT kvs=>obtain⟨_,_,_,_,o,_,_,e,_⟩:=x;exact Wg e
 |set S n=>obtain⟨o,_,_,_,e,_⟩:=x;exact Wg e
 |ins C dx fs=>obtain⟨_,_,_,e,_⟩:=x;exact Wg e
 |own y=>obtain⟨_,e⟩:=x;exact Wg e
 |xd fs=>obtain⟨_,⟨_,_,_,e,_⟩,_⟩:=x;exact Wg e
 |AR lo hi=>obtain⟨_,_,_,e⟩:=x;exact Wg e
 |tw ob u=>obtain⟨e,_⟩:=x;exact Wg e
 |FG ps=>exact Wg (show h.get? a=af _ from x)|met f y=>exact Wg (show h.get? a=af _ from x)|ext φ=>obtain⟨_,⟨_,e⟩,_⟩:=x;exact Wg e
theorem Paired.F5:∀{l₁:List α}{l₂:List β},Paired F l₁ l₂->(∀a b,F a b->G a b)->Paired G l₁ l₂
 |_,_,.nil,_=> .nil|_,_,.cons r t,f=> .cons (f _ _ r) (Paired.F5 t f)
theorem bB.stay(x:bB P w H h a o)(k:∀b u,(b=a\/H b=af (.own a))->h.get? b=af u->h'.get? b=af u)(ho:∀b,H b=af (.own a)->H' b=af (.own a))(ht:∀b xs,H b=af (.tup xs)->H' b=af (.tup xs)):bB P w H' h' a o:=by
 induction o with
 |lst xs=>obtain⟨z,its,n,r,e⟩:=x;exact⟨z,its,n,r,k _ _ (.inl rfl) e⟩
 |tup xs=>obtain⟨z,its,r,⟨ob,e,c⟩,o2,e2,c2⟩:=x;exact⟨z,its,r,⟨ob,k _ _ (.inl rfl) e,c⟩,o2,k _ _ (.inl rfl) e2,c2⟩
 |dK kvs=>obtain⟨z,y,vs,r,ob,es,ep,e,c⟩:=x;exact⟨z,y,vs,r,ob,es,ep,k _ _ (.inl rfl) e,c⟩
 |dT kvs=>obtain⟨z,y,xs,r,ob,es,ep,e,c⟩:=x;exact⟨z,y,xs,Paired.F5 r λp q z=>⟨z.1,ht _ _ z.2.1,z.2.2⟩,ob,es,ep,k _ _ (.inl rfl) e,c⟩
 |set S n=>obtain⟨ob,es,ep,t,e,c⟩:=x;exact⟨ob,es,ep,t,k _ _ (.inl rfl) e,c⟩
 |ins C dx fs=>obtain⟨d,z,ne,e,mA,⟨od,es,ep,e2,c⟩,r⟩:=x;exact⟨ho _ d,z,ne,k _ _ (.inl rfl) e,mA,⟨od,es,ep,k _ _ (.inr d) e2,c⟩,r⟩
 |own y=>obtain⟨ob,e⟩:=x;exact⟨ob,k _ _ (.inl rfl) e⟩
 |xd fs=>obtain⟨mA,⟨od,es,ep,e,c⟩,r⟩:=x;exact⟨mA,⟨od,es,ep,k _ _ (.inl rfl) e,c⟩,r⟩
 |AR lo hi=>obtain⟨t,u,v,e⟩:=x;exact⟨t,u,v,k _ _ (.inl rfl) e⟩
 |tw ob u ih=>obtain⟨e,q⟩:=x;exact⟨k _ _ (.inl rfl) e,ih q⟩
 |FG ps=>have e:h.get? a=af {cls:= .none,data:= .fields ps}:=x;show h'.get? a=af {cls:= .none,data:= .fields ps};exact k a _ (.inl rfl) e|met f y=>have e:h.get? a=af (ng (.ref f) (.ref y)):=x;show h'.get? a=af (ng (.ref f) (.ref y));exact k a _ (.inl rfl) e|ext φ=>obtain⟨p,⟨o,e⟩,st⟩:=x;exact⟨st _ _ p λo q=>k _ _ (.inl rfl) q,⟨o,k _ _ (.inl rfl) e⟩,st⟩
theorem zo.lt(x:zo P w H h)(e:H a=af o):a<h.objs.size:=(x a o e).lt
def zo.fresh(x:zo P w H h)(e:h.objs.size<=a):H a=none:=by
 cases q:H a with|none=>rfl|some u=>exact absurd (WF (x.lt q) e) (Zd _)
def zo.kept(x:zo P w H h)(k:∀b u,h.get? b=af u->h'.get? b=af u):zo P w H h':=λa o e=>(x a o e).stay (λb u _ q=>k b u q) (λ_ q=>q) λ_ _ q=>q
def zo.laid(x:zo P w H h)(k:∀b u,h.get? b=af u->h'.get? b=af u)(hp:h.objs.size<=a)(new:bB P w (upd H a o) h' a o):zo P w (upd H a o) h':=λb u e=>by
 have hn:=x.fresh hp;by_cases hb:b=a
 ·subst hb;rw[bh]at e;lia
 ·rw[aA hb]at e;exact(x b u e).stay (λc v _ q=>k c v q) (λc q=>by rw[aA (aP q hn)];exact q) λc xs q=>by rw[aA (aP q hn)];exact q
end
def Rd(H:Hp)(a:aI)(u:HO):Prop:=H a=af u\/∃o,H a=af (.tw o u)
def Rd.ok(r:Rd H a u)(x:zo P w H h):bB P w H h a u:=by
 rcases r with r|⟨o,r⟩
 ·exact x a u r
 ·obtain⟨_,q⟩:=x a _ r;exact q
def Ll:Option HO->Prop
 |some (.lst _)=>True|some (.dK _)=>True|some (.dT _)=>True|some (.set _ _)=>True|some (.ins _ _ _)=>True|some (.ext _)=>True|_=>False
section
variable{P:ck}{w:cy}{H:Hp}{h h':dc}{x e:aI}{o':HO}
def zo.write(ok:zo P w H h)(mu:Ll (H x))(he:e=x\/H e=af (.own x))(k:∀b u,b≠e->h.get? b=af u->h'.get? b=af u)(heo:∃u,h'.get? e=af u)(new:bB P w (upd H x o') h' x o'):zo P w (upd H x o') h':=λb u q=>by
 have NW:∀c y,H c=af (.own y)->c≠x:=λc y r z=>by subst z;rw[r]at mu;exact mu
 have NX:∀c xs,H c=af (.tup xs)->c≠x:=λc xs r z=>by subst z;rw[r]at mu;exact mu
 by_cases hb:b=x
 ·subst hb;rw[bh]at q;lia
 ·rw[aA hb]at q;by_cases hbe:b=e
  ·have q':H b=af (.own x):=by
    rcases he with z|z
    ·lia
    ·lia
   rw[q]at q';cases q';obtain⟨v,hv⟩:=heo;exact⟨v,by lia⟩
  ·refine(ok b u q).stay (λc v hc r=>k c v ?_ r) (λc r=>by rw[aA (NW c b r)];exact r) λc xs r=>by rw[aA (NX c xs r)];exact r
   grind
end
structure Un(fs ex:List aI)(H H':Hp)(h h':dc):Prop where
 keep:∀b o,h.get? b=af o->H b=ah->b∉fs->b∉ex->h'.get? b=af o
 slot:∀b o,h.get? b=af o->H b=ah->b∈fs->b∉ex->∃sl,h'.get? b=af {o with slots:=sl}
 free:∀b o,h.get? b=af o->H b=ah->b∉ex->H' b=ah
 there:∀b o,h.get? b=af o->b∉ex->∃o',h'.get? b=af o'
 tups:∀b xs,H b=af (.tup xs)->H' b=af (.tup xs)
 sd:∀b o u,H b=af (.tw o u)->H' b=af (.tw o u)
 A9:∀b ps,H b=af (.FG ps)->∃more,H' b=af (.FG (ps++more))
section
variable{fs ex:List aI}{H H1:Hp}{h h1 h':dc}{a x e:aI}{o:HO}
def Un.any(u:Un fs ex H H1 h h1)(q:h.get? b=af ob)(n:H b=ah)(hx:b∉ex):∃sl,h1.get? b=af {ob with slots:=sl}:=by
 by_cases hb:b∈fs
 ·exact u.slot b ob q n hb hx
 ·exact⟨ob.slots,u.keep b ob q n hb hx⟩
def Un.kept(k:∀b u,h.get? b=af u->h'.get? b=af u):Un fs ex H H h h':=
 ⟨λb ob q _ _ _=>k b ob q,λb ob q _ _ _=>⟨ob.slots,k b ob q⟩,λ_ _ _ n _=>n,λb ob q _=>⟨ob,k b ob q⟩,λ_ _ q=>q,λ_ _ _ q=>q,λ_ ps q=>⟨#[],by rw[q];simp⟩⟩
def Un.refl:Un fs ex H H h h:=Un.kept λ_ _ q=>q
def Un.laid(k:∀b u,h.get? b=af u->h'.get? b=af u)(hp:h.objs.size<=a)(hn:H a=ah):Un fs ex H (upd H a o) h h' where
 keep:=λb u q _ _ _=>k b u q
 slot:=λb u q _ _ _=>⟨u.slots,k b u q⟩
 free:=λb u q n _=>by rw[aA (Wo (WF (Wg q) hp))];exact n
 there:=λb u q _=>⟨u,k b u q⟩
 tups:=λb xs q=>by rw[aA (aP q hn)];exact q
 sd:=λb u xs q=>by rw[aA (aP q hn)];exact q
 A9:=λb ps q=>⟨#[],by rw[aA (aP q hn),q];simp⟩
def Un.write(mu:Ll (H x))(he:e=x\/H e=af (.own x))(k:∀b u,b≠e->h.get? b=af u->h'.get? b=af u)(heo:∃u,h'.get? e=af u):Un fs ex H (upd H x o) h h':=by
 have hx:∀b,H b=ah->b≠x:=λb n z=>by subst z;rw[n]at mu;exact mu
 have hb:∀b,H b=ah->b≠e:=λb n z=>by lia
 have hm:∀b u,H b=af u->¬Ll (af u)->b≠x:=λb u q nm z=>by lia
 refine⟨λb u q n _ _=>k b u (hb b n) q,λb u q n _ _=>⟨u.slots,k b u (hb b n) q⟩,λb u q n _=>by rw[aA (hx b n)];exact n,λb u q _=>?_,
  λb xs q=>by rw[aA (hm b _ q λz=>z)];exact q,λb u xs q=>by rw[aA (hm b _ q λz=>z)];exact q,λb ps q=>⟨#[],by rw[aA (hm b _ q λz=>z),q];simp⟩⟩
 grind
end
def ML(h:dc)(H:Hp):List Addr:=(bX h.objs.size).filter λa=>(H a).isSome
def j7(h:dc)(H:Hp):Heap:=PySem.W.hideAll h (ML h H)
def Bv(h:dc)(H:Hp):(j7 h H).objs.size=h.objs.size:=PySem.W.hideAll_size _ _
def Gi(e:h.get? b=af o)(n:H b=ah):(j7 h H).get? b=af o:=
 PySem.W.hideAll_get _ e λhm=>by
  have q:(H b).isSome=true:=(Wz.mp hm).2
  simp_all
def JZ(e:(j7 h H).get? b=af o):h.get? b=af o/\H b=none:=by
 have e':h.get? b=af o:=PySem.W.of_hideAll (ML h H) e;refine⟨e',?_⟩;cases q:H b with|none=>rfl|some x=>have hm:b∈ML h H:=Wz.mpr ⟨Xy.mpr (Wg e'),by simp[q]⟩;have z:(j7 h H).get? b=none:=PySem.W.hideAll_none (ML h H) hm;lia
def J2(g h:dc)(L:aI):List (aI×Obj):=(bX h.objs.size).filterMap λa=>if a=L\/(g.get? a).isSome=ai then ah else(h.get? a).map λo=>(a,o)
def rest(g h:dc)(L d:aI):List (aI×Obj):=(J2 g h L).filter λp=>decide (p.1≠d)
structure Mod(K:aT)(mg:Str->Option av)(base:dc):Prop where
 IU:K.In base
 glob:base.Ns mainGlobals mg
 blt:∃mb,base.Ns builtinsNs mb/\∀x:Str,x≠ "__name__" ->mb x=bootBuiltins x
 nolimit:base.NoLimit
structure Cx where
 prog:ck
 w:cy
 K:aT
 mg:Str->Option av
 base:dc
 A:cK
 N:List Str
 s₀:aE
 H₀:Hp
 env:Env
 outer:List Env
 stack:List Env
 ex:List aI
 fn:Str->Bool
 calm:Bool
 pn:List (aI×Obj)
 xe:av->aE->Prop
def frs(l:List Env):List Addr:=l.filterMap (·.frame)
abbrev Cx.fs(X:Cx):List Addr:=frs X.outer
def Lm(sc:Scope)(x:Str):Prop:=sc.names.lookup x=af .local\/sc.names.lookup x=af .cell\/sc.names.lookup x=af .free
def Loc(sc:Scope)(x:Str):Prop:=sc.names.lookup x=af .local\/sc.names.lookup x=af .cell
def Look(env:Env)(h:dc)(m:Str->Option av)(x:Str)(u:av):Prop:=
 (env.kindOf x=af .local/\m x=af u)\/((env.kindOf x=af .cell\/env.kindOf x=af .free)/\∃c,env.cells.lookup x=af c/\h.IsCell c (af u))
structure Cx.Ok(X:Cx):Prop where
 mod:Mod X.K X.mg X.base
 kind:X.env.scope.kind= .function
 glob:X.env.globals=mainGlobals
 blt:X.env.builtins=builtinsNs
 above:X.s₀.heap.objs.size<=X.env.locals
 inj:∀x y c,X.env.cells.lookup x=af c->X.env.cells.lookup y=af c->x=y
 has:∀x,(X.env.kindOf x=af .cell\/X.env.kindOf x=af .free)->∃c,X.env.cells.lookup x=af c
 cab:∀x c,X.fn x=ai->X.env.cells.lookup x=af c->X.s₀.heap.objs.size<=c
 hd:X.calm=ai->X.A.handled=ah
 frames:X.A.frames=af X.stack
 stk:X.stack=X.outer\/(X.stack=X.env::X.outer/\X.env.frame=af X.env.locals)
 Lo:∀b∈X.ex,b≠X.env.locals/\∀x c,X.env.cells.lookup x=af c->c≠b
 bs:∀b o,X.base.get? b=af o->X.s₀.heap.get? b=af o/\X.H₀ b=ah
 EO:X.base.objs.size<=X.s₀.heap.objs.size
 DE:∀b o,X.base.get? b=af o->b∉X.ex
 CH:∀b∈X.ex,b∉X.fs
 AJ:X.s₀.heap.FunFrames X.base X.outer
 FH:∀b∈X.fs,X.H₀ b=ah
structure Inv(X:Cx)(pins:List (aI×Obj))(σ:List (Option V))(H:Hp)(s:aE):Prop where
 ok:X.Ok
 os:s.os=X.s₀.os
 bare:AllBare s.gens
 base:Un X.fs X.ex X.H₀ H X.s₀.heap s.heap
 loc:∃m,s.heap.Ns X.env.locals m/\∀(i:Nat)(x:Str)(v:V),X.N[i]?=af x->σ[i]?=af (af v)->Lm X.env.scope x->∃u,RelV v u/\Look X.env s.heap m x u
 cell:∀x c,X.env.cells.lookup x=af c->∃v,s.heap.IsCell c v
 free:H X.env.locals=ah
 vS:∀x c,X.env.cells.lookup x=af c->H c=ah
 pin:∀p∈X.pn++pins,s.heap.get? p.1=af p.2/\H p.1=ah/\p.1≠X.env.locals/\p.1∉X.fs/\∀v,p.2.data≠ .cell v
 hok:zo X.prog X.w H s.heap
 len:σ.length=X.N.length
section
variable{X:Cx}{pins:List (aI×Obj)}{σ:List (Option V)}{H H':Hp}{s:aE}{h':dc}
def Cx.Ok.NY(ok:X.Ok)(e:X.base.get? b=af o):b∉X.fs:=λhb=>by have:=(ok.AJ.mem hb).1;lia
theorem Inv.bs(I:Inv X pins σ H s):∀b o,X.base.get? b=af o->s.heap.get? b=af o/\H b=none:=λb o e=>⟨I.base.keep b o (I.ok.bs b o e).1 (I.ok.bs b o e).2 (I.ok.NY e) (I.ok.DE b o e),I.base.free b o (I.ok.bs b o e).1 (I.ok.bs b o e).2 (I.ok.DE b o e)⟩
def Inv.bk(I:Inv X pins σ H s):∀b o,X.base.get? b=af o->s.heap.get? b=af o:=λb o e=>(I.bs b o e).1
theorem Inv.mod(I:Inv X pins σ H s):Mod X.K X.mg X.base:=I.ok.mod
def Inv.BE(I:Inv X pins σ H s):X.K.In s.heap:=I.ok.mod.IU.keeps I.bk
theorem Inv.lt(I:Inv X pins σ H s):X.env.locals<s.heap.objs.size:=let⟨_,hn,_⟩:=I.loc;hn.lt
def Inv.sz(I:Inv X pins σ H s):X.s₀.heap.objs.size<=s.heap.objs.size:=Wa I.ok.above (Xg I.lt)
def Inv.F6(I:Inv X pins σ H s){a:aI}(h:s.heap.objs.size<=a):a∉X.fs:=λhb=>by obtain⟨_,o,ho,_⟩:=I.ok.AJ.mem hb;exact absurd (WF (Wg ho) (Wa I.sz h)) (Zd _)
def Inv.F7(I:Inv X pins σ H s):∀x c,X.env.cells.lookup x=af c->c≠X.env.locals:=λx c e z=>by obtain⟨v,o,ho,hd⟩:=I.cell x c e;obtain⟨m,⟨o',es,ep,ho',hd',_⟩,_⟩:=I.loc;lia
theorem Inv.AJ(I:Inv X pins σ H s):s.heap.FunFrames X.base X.outer:=by
 have all:∀(l:List Env),(∀b∈frs l,b∈X.fs)->X.s₀.heap.FunFrames X.base l->s.heap.FunFrames X.base l:=by
  intro l
  induction l with
  |nil=>intro _ _;trivial|cons env r ih=>intro hs hl;obtain⟨hk,⟨L,o,hf,hn,ho,hd⟩,hr⟩:=hl;have hL:L∈X.fs:=hs L (by unfold frs;simp_all);obtain⟨sl,e⟩:=I.base.slot L o ho (I.ok.FH L hL) hL λz=>I.ok.CH L z hL;exact⟨hk,⟨L,_,hf,hn,e,hd⟩,ih (λb hb=>hs b (by unfold frs;rw[Y8,hf];exact Yh _ hb)) hr⟩
 exact all X.outer (λ_ hb=>hb) I.ok.AJ
theorem Inv.stack(I:Inv X pins σ H s):s.heap.FunFrames X.base X.stack:=by
 rcases I.ok.stk with e|⟨e,hf⟩
 ·rw[e];exact I.AJ
 ·rw[e];obtain⟨m,hn,_⟩:=I.loc;refine .cons (by rw[I.ok.kind];decide) hf hn ?_ I.AJ;exact Heap.get?_none_of_le (Wa I.ok.EO I.ok.above)
def Inv.AW(I:Inv X pins σ H s):∀b∈frs X.stack,b∈X.env.locals::X.fs:=λb hb=>by
 rcases I.ok.stk with e|⟨e,hf⟩
 ·simp_all
 ·rw[e]at hb;unfold frs at hb;rw[Y8,hf]at hb;exact hb
def Inv.B3(I:Inv X pins σ H s):∀b∈frs X.stack,H b=none:=λb hb=>by
 rcases We.mp (I.AW b hb)with e|hb
 ·rw[e];exact I.free
 ·obtain⟨_,o,ho,_⟩:=I.ok.AJ.mem hb;exact I.base.free b o ho (I.ok.FH b hb) λz=>I.ok.CH b z hb
def Inv.step{ch:List aI}(I:Inv X pins σ H s)(hch:∀b∈ch,(b∈X.ex\/X.s₀.heap.objs.size<=b)/\b≠X.env.locals/\(∀x c,X.env.cells.lookup x=af c->c≠b)/\∀p∈X.pn++pins,p.1≠b)(keep:∀b o,b≠X.env.locals->b∉X.fs->b∉ch->s.heap.get? b=af o->H b=ah->h'.get? b=af o)(slot:∀b o,b≠X.env.locals->b∈X.fs->b∉ch->s.heap.get? b=af o->H b=ah->∃sl,h'.get? b=af {o with slots:=sl})(free:∀b o,b∉ch->s.heap.get? b=af o->H b=ah->H' b=ah)(there:∀b o,b∉ch->s.heap.get? b=af o->∃o',h'.get? b=af o')(tups:∀b xs,H b=af (.tup xs)->H' b=af (.tup xs))(sd:∀b o u,H b=af (.tw o u)->H' b=af (.tw o u))(A9:∀b ps,H b=af (.FG ps)->∃more,H' b=af (.FG (ps++more)))(ns:∀m,s.heap.Ns X.env.locals m->h'.Ns X.env.locals m)(hok:zo X.prog X.w H' h')(hg:AllBare g'):
  Inv X pins σ H' {s with heap:=h',gens:=g',drawn:=d',toks:=t'}:=by
 have MM:∀b o,X.s₀.heap.get? b=af o->b≠X.env.locals:=λb o e=>Wo (WF (Wg e) I.ok.above);have FI:∀b o,X.s₀.heap.get? b=af o->b∉X.ex->b∉ch:=λb o e hx hb=>by
  rcases(hch b hb).1 with z|z
  ·exact hx z
  ·exact absurd (WF (Wg e) z) (Zd _)
 have cellK:∀x c,X.env.cells.lookup x=af c->∀v,s.heap.IsCell c v->h'.IsCell c v:=λx c e v ⟨o,ho,hd⟩=>by
  have Lu:c∉ch:=λz=>(hch c z).2.2.1 x c e rfl;by_cases hc:c∈X.fs
  ·obtain⟨sl,q⟩:=slot c o (I.F7 x c e) hc Lu ho (I.vS x c e);exact⟨_,q,hd⟩
  ·exact⟨o,keep c o (I.F7 x c e) hc Lu ho (I.vS x c e),hd⟩
 refine⟨I.ok,I.os,hg,⟨λb o e n hb hx=>?_,λb o e n hb hx=>?_,λb o e n hx=>?_,λb o e hx=>?_,λb xs e=>tups b xs (I.base.tups b xs e),λb o xs e=>sd b o xs (I.base.sd b o xs e),λb ps e=>?_⟩,?_,λx c e=>?_,?_,λx c e=>?_,λp hp=>?_,hok,I.len⟩
 ·exact keep b o (MM b o e) hb (FI b o e hx) (I.base.keep b o e n hb hx) (I.base.free b o e n hx)
 ·obtain⟨sl,e1⟩:=I.base.slot b o e n hb hx;obtain⟨sl',e2⟩:=slot b _ (MM b o e) hb (FI b o e hx) e1 (I.base.free b o e n hx)
  grind
 ·obtain⟨o',e1⟩:=I.base.there b o e hx;exact free b o' (FI b o e hx) e1 (I.base.free b o e n hx)
 ·obtain⟨o',e1⟩:=I.base.there b o e hx;exact there b o' (FI b o e hx) e1
 ·obtain⟨m1,e1⟩:=I.base.A9 b ps e
  grind
 ·obtain⟨m,hn,hl⟩:=I.loc;refine⟨m,ns m hn,λi x v e1 e2 e3=>?_⟩;obtain⟨u,r,l⟩:=hl i x v e1 e2 e3;refine⟨u,r,?_⟩;rcases l with l|⟨k,c,e,z⟩
  ·exact .inl l
  ·exact .inr ⟨k,c,e,cellK x c e _ z⟩
 ·obtain⟨v,z⟩:=I.cell x c e;exact⟨v,cellK x c e v z⟩
 ·obtain⟨m,⟨o,_,_,ho,_⟩,_⟩:=I.loc;exact free _ o (λz=>(hch _ z).2.1 rfl) ho I.free
 ·obtain⟨v,o,ho,hd⟩:=I.cell x c e;exact free c o (λz=>(hch c z).2.2.1 x c e rfl) ho (I.vS x c e)
 ·obtain⟨e,n,ne,nf,d⟩:=I.pin p hp;have Lu:p.1∉ch:=λz=>(hch p.1 z).2.2.2 p hp rfl;exact⟨keep p.1 p.2 ne nf Lu e n,free p.1 p.2 Lu e n,ne,nf,d⟩
def Inv.un(I:Inv X pins σ H s)(u:Un X.fs [] H H' s.heap h')(hok:zo X.prog X.w H' h'):Inv X pins σ H' {s with heap:=h',toks:=t'}:=by
 obtain⟨m,⟨o,es,ep,ho,r⟩,_⟩:=id I.loc;obtain⟨sl,hL⟩:=u.any ho I.free (by simp);exact I.step (g':=s.gens) (d':=s.drawn) (ch:=[]) (λ_ z=>nomatch z) (λb o _ hb _ e n=>u.keep b o e n hb (by simp)) (λb o _ hb _ e n=>u.slot b o e n hb (by simp)) (λb o _ e n=>u.free b o e n (by simp)) (λb o _ e=>u.there b o e (by simp)) u.tups u.sd u.A9 (λm' hm=>by
  obtain⟨o',es',ep',ho',r'⟩:=hm;rw[ho]at ho';cases ho';exact⟨_,es',ep',hL,r'⟩) hok I.bare
def Inv.call(I:Inv X pins σ H s)(u:Un (frs X.stack) ch H H' s.heap h')(hok:zo X.prog X.w H' h')(hg:AllBare g')(hch:∀b∈ch,(b∈X.ex\/X.s₀.heap.objs.size<=b)/\b≠X.env.locals/\(∀x c,X.env.cells.lookup x=af c->c≠b)/\∀p∈X.pn++pins,p.1≠b):
  Inv X pins σ H' {s with heap:=h',gens:=g',drawn:=d',toks:=t'}:=by
 obtain⟨m,⟨o,es,ep,ho,r⟩,_⟩:=id I.loc;obtain⟨sl,hL⟩:=u.any ho I.free λz=>(hch _ z).2.1 rfl;exact I.step (ch:=ch) hch (λb o hL hb hc e n=>u.keep b o e n (λz=>(We.mp (I.AW b z)).elim hL hb) hc) (λb o _ _ hc e n=>u.any e n hc) (λb o hc e n=>u.free b o e n hc) (λb o hc e=>u.there b o e hc) u.tups u.sd u.A9 (λm' hm=>by
  obtain⟨o',es',ep',ho',r'⟩:=hm;rw[ho]at ho';cases ho';exact⟨_,es',ep',hL,r'⟩) hok hg
def Inv.turned(I:Inv X pins σ H s)(k:∀b o,b≠it->s.heap.get? b=af o->h'.get? b=af o)(hn:H it=ah)(hL:it≠X.env.locals)(h1:it∈X.ex\/X.s₀.heap.objs.size<=it)(h2:∀x c,X.env.cells.lookup x=af c->c≠it)(h3:∀p∈X.pn++pins,p.1≠it):Inv X pins σ H {s with heap:=h',toks:=t'}:=by
 have UH:∀b u,H b=af u->b≠it:=λb u e z=>by lia
 refine I.step (g':=s.gens) (d':=s.drawn) (ch:=[it]) (λb hb=>?_) (λb o _ _ hc e _=>k b o (λz=>hc (by simp[z])) e) (λb o _ _ hc e _=>⟨o.slots,k b o (λz=>hc (by simp[z])) e⟩) (λ_ _ _ _ n=>n)
  (λb o hc e=>⟨o,k b o (λz=>hc (by simp[z])) e⟩) (λ_ _ e=>e) (λ_ _ _ e=>e) (λb ps e=>⟨#[],by rw[e];simp⟩) (λm hm=>?_) (λb u e=>?_) I.bare
 ·have e:b=it:=by simpa using hb
  subst e;exact⟨h1,hL,h2,h3⟩
 ·obtain⟨o,es,ep,ho,r⟩:=hm;exact⟨o,es,ep,k _ o (Ne.symm hL) ho,r⟩
 ·refine(I.hok b u e).stay (λc v hc q=>k c v ?_ q) (λ_ q=>q) λ_ _ q=>q;lia
def Inv.tok(I:Inv X pins σ H s)(t:Nat):Inv X pins σ H {s with toks:=t}:=I.un (h':=s.heap) (t':=t) Un.refl I.hok
theorem Inv.kept(I:Inv X pins σ H s)(k:∀b u,s.heap.get? b=af u->h'.get? b=af u):Inv X pins σ H {s with heap:=h',toks:=t'}:=I.un (Un.kept k) (I.hok.kept k)
theorem Inv.laid{a:aI}{o:HO}{t':Nat}(I:Inv X pins σ H s)(k:∀b u,s.heap.get? b=af u->h'.get? b=af u)(hp:s.heap.objs.size<=a)(new:bB X.prog X.w (upd H a o) h' a o):
  Inv X pins σ (upd H a o) {s with heap:=h',toks:=t'}:=I.un (Un.laid k hp (I.hok.fresh hp)) (I.hok.laid k hp new)
theorem Inv.write(I:Inv X pins σ H s)(mu:Ll (H x))(he:e=x\/H e=af (.own x))(k:∀b u,b≠e->s.heap.get? b=af u->h'.get? b=af u)(heo:∃u,h'.get? e=af u)(new:bB X.prog X.w (upd H x o) h' x o):Inv X pins σ (upd H x o) {s with heap:=h',toks:=t'}:=I.un (Un.write mu he k heo) (I.hok.write mu he k heo new)
def Inv.x9(I:Inv X pins σ H s)(h:∀p∈BA,s.heap.get? p.1=af p.2/\H p.1=ah/\p.1≠X.env.locals/\p.1∉X.fs/\∀v,p.2.data≠ .cell v):Inv X BA σ H s:=
 ⟨I.ok,I.os,I.bare,I.base,I.loc,I.cell,I.free,I.vS,λp hp=>(Xa.mp hp).elim (λz=>I.pin p (Yi _ z)) (h p),I.hok,I.len⟩
def ur{N:List Str}(hN:N.Nodup){i j:Nat}(a:N[i]?=af x)(b:N[j]?=af x):i=j:=by obtain⟨h1,e1⟩:=Wi.mp a;obtain⟨h2,e2⟩:=Wi.mp b;exact(Zw hN).mp (e1.trans e2.symm)
def Bw(I:Inv X pins σ H s)(hN:X.N.Nodup)(hi:X.N[i]?=af x)(hx:Loc X.env.scope x)(r:RelV v u)(h:∀s',Inv X pins (σ.set i (af v)) H s'->(∃a,Heap.SameBut a s.heap s'.heap/\(a=X.env.locals\/X.env.cells.lookup x=af a))->Q () s')(hf:X.fn x=ai\/X.env.scope.names.lookup x=af .local:=by first|exact .inl rfl|exact .inr rfl|assumption):bg M A (storeName X.env x u) Q E s:=by
 obtain⟨m,hn,hl⟩:=id I.loc;have hcls:(X.env.scope.kind== .class || (X.env.scope.kind== .module && X.env.locals !=X.env.globals))=false:=by rw[I.ok.kind];rfl
 have QY:i<σ.length:=by rw[I.len];exact(Wi.mp hi).1
 have F7:=I.F7;have tracked:∀{a:aI}{h':dc},(∃o,s.heap.get? a=af o/\H a=ah)->Heap.SameBut a s.heap h'->zo X.prog X.w H h':=λ{a h'} ha hs b ob e=>by obtain⟨_,_,hfree⟩:=ha;refine(I.hok b ob e).stay (λc w' hc q=>(hs.2 c ?_).trans q) (λ_ q=>q) λ_ _ q=>q;lia
 rcases hx with hk|hk
 ·refine wpAny_storeName_local hk hn (λh' hn' hs=>?_) hcls;obtain⟨oL,_,_,hoL,_⟩:=id hn;refine h _ ⟨I.ok,I.os,I.bare,⟨λb o e n hb hx=>?_,λb o e n hb hx=>?_,I.base.free,λb o e hx=>?_,I.base.tups,I.base.sd,I.base.A9⟩,⟨_,hn',λj y v' e1 e2 e3=>?_⟩,λy c e=>?_,I.free,I.vS,λp hp=>?_,tracked ⟨oL,hoL,I.free⟩ hs,by simpa using I.len⟩ ⟨_,hs,.inl rfl⟩
  ·exact(hs.2 b (Wo (WF (Wg e) I.ok.above))).trans (I.base.keep b o e n hb hx)
  ·obtain⟨sl,e1⟩:=I.base.slot b o e n hb hx;exact⟨sl,(hs.2 b (Wo (WF (Wg e) I.ok.above))).trans e1⟩
  ·obtain⟨o',e1⟩:=I.base.there b o e hx;exact⟨o',(hs.2 b (Wo (WF (Wg e) I.ok.above))).trans e1⟩
  ·by_cases hj:j=i
   ·subst hj;rw[hi]at e1;cases e1;rw[W8 QY]at e2;cases e2;exact⟨u,r,.inl ⟨hk,by simp⟩⟩
   ·rw[Wy (Ne.symm hj)]at e2;obtain⟨u',r',q⟩:=hl j y v' e1 e2 e3;refine⟨u',r',?_⟩;rcases q with⟨k,e⟩|⟨k,c,e,z⟩
    ·refine .inl ⟨k,?_⟩;have:y≠x:=λe=>hj (ur hN e1 (e▸hi));simp[this,e]
    ·exact .inr ⟨k,c,e,z.sameBut hs (F7 y c e)⟩
  ·obtain⟨w',z⟩:=I.cell y c e;exact⟨w',z.sameBut hs (F7 y c e)⟩
  ·obtain⟨e,n,ne,nf,d⟩:=I.pin p hp;exact⟨(hs.2 p.1 ne).trans e,n,ne,nf,d⟩
 ·have hfn:X.fn x=true:=by
   rcases hf with z|z
   ·exact z
   ·lia
  obtain⟨c,hc⟩:=I.ok.has x (.inl hk);obtain⟨w',z⟩:=I.cell x c hc;refine wpAny_storeName_cell I.ok.kind hk hc z (λh' hc' hs=>?_);obtain⟨oc,hoc,UI⟩:=id z;refine h {s with heap:=h'} ⟨I.ok,I.os,I.bare,⟨λb o e n hb hx=>?_,λb o e n hb hx=>?_,I.base.free,λb o e hx=>?_,I.base.tups,I.base.sd,I.base.A9⟩,⟨m,hn.sameBut hs (Ne.symm (F7 x c hc)),λj y v' e1 e2 e3=>?_⟩,λy c' e=>?_,I.free,I.vS,λp hp=>?_,tracked ⟨oc,hoc,I.vS x c hc⟩ hs,by simpa using I.len⟩ ⟨c,hs,.inr hc⟩
  ·exact(hs.2 b (Wo (WF (Wg e) (I.ok.cab x c hfn hc)))).trans (I.base.keep b o e n hb hx)
  ·obtain⟨sl,e1⟩:=I.base.slot b o e n hb hx;exact⟨sl,(hs.2 b (Wo (WF (Wg e) (I.ok.cab x c hfn hc)))).trans e1⟩
  ·obtain⟨o',e1⟩:=I.base.there b o e hx;exact⟨o',(hs.2 b (Wo (WF (Wg e) (I.ok.cab x c hfn hc)))).trans e1⟩
  ·by_cases hj:j=i
   ·subst hj;rw[hi]at e1;cases e1;rw[W8 QY]at e2;cases e2;exact⟨u,r,.inr ⟨.inl hk,c,hc,hc'⟩⟩
   ·rw[Wy (Ne.symm hj)]at e2;obtain⟨u',r',q⟩:=hl j y v' e1 e2 e3;refine⟨u',r',?_⟩;rcases q with q|⟨k,c',e,z'⟩
    ·exact .inl q
    ·refine .inr ⟨k,c',e,z'.sameBut hs ?_⟩;rintro rfl;exact hj (ur hN e1 (I.ok.inj _ _ _ e hc▸hi))
  ·by_cases hcc:c'=c
   ·subst hcc;exact⟨_,hc'⟩
   ·obtain⟨w2,z2⟩:=I.cell y c' e;exact⟨w2,z2.sameBut hs hcc⟩
  ·obtain⟨e,n,ne,nf,d⟩:=I.pin p hp;refine⟨(hs.2 p.1 ?_).trans e,n,ne,nf,d⟩;intro q
   simp_all
def Gj(I:Inv X pins σ H s)(hN:X.N.Nodup)(hi:X.N[i]?=af x)(hx:Loc X.env.scope x)(r:RelV v u)(h:∀s',Inv X pins (σ.set i (af v)) H s'->Q () s')(hf:X.fn x=ai\/X.env.scope.names.lookup x=af .local:=by first|exact .inl rfl|exact .inr rfl|assumption):bg M A (storeName X.env x u) Q E s:=
 Bw I hN hi hx r (λs' I' _=>h s' I') hf
def Inv.FL(I:Inv X pins σ H s)(ho:s'.os=s.os)(u:Un (frs X.stack) ch H H' s.heap s'.heap)(hok:zo X.prog X.w H' s'.heap)(hg:AllBare s'.gens)(hch:∀b∈ch,(b∈X.ex\/X.s₀.heap.objs.size<=b)/\b≠X.env.locals/\(∀x c,X.env.cells.lookup x=af c->c≠b)/\∀p∈X.pn++pins,p.1≠b):Inv X pins σ H' s':=by obtain⟨h',g',d',t',o'⟩:=s';have e:o'=s.os:=ho;subst e;exact I.call (g':=g') (t':=t') (d':=d') u hok hg hch
end
abbrev XK:=av->Option aI->Hp->Prop
abbrev St:=List (Option V)
abbrev VK:=V->Hp->Prop
abbrev TE:=St->Hp->VK->Prop
abbrev TT:=St->Hp->(Bool->Hp->Prop)->Prop
abbrev TA:=St->Hp->(List V->Hp->Prop)->Prop
structure Ends where
 nx:St->Hp->Prop
 rt:VK
 bk:St->Hp->Prop:=λ_ _=>False
 ct:St->Hp->Prop:=λ_ _=>False
abbrev TS:=Ends->St->Hp->Prop
def EP(X:Cx)(pins:List (aI×Obj))(σ:St)(Q:VK)(u:av)(s':aE):Prop:=∃v H',Inv X pins σ H' s'/\RelV v u/\Q v H'
def TP(X:Cx)(pins:List (aI×Obj))(σ:St)(Q:Bool->Hp->Prop)(b:Bool)(s':aE):Prop:=∃H',Inv X pins σ H' s'/\Q b H'
def AP(X:Cx)(pins:List (aI×Obj))(σ:St)(Q:List V->Hp->Prop)(us:List av)(s':aE):Prop:=∃vs H',Inv X pins σ H' s'/\Vals vs us/\Q vs H'
def SP(X:Cx)(pins:List (aI×Obj))(D:Ends)(f:Flow)(s':aE):Prop:=
 match f with
 |.next=>∃σ' H',Inv X pins σ' H' s'/\D.nx σ' H'|.brk=>∃σ' H',Inv X pins σ' H' s'/\D.bk σ' H'|.cont=>∃σ' H',Inv X pins σ' H' s'/\D.ct σ' H'|.ret u=>∃v σ' H',Inv X pins σ' H' s'/\RelV v u/\D.rt v H'
def PE(X:Cx)(e:bE)(t:TE):Prop:=
 ∀(pins:List (aI×Obj))(s:aE)(σ:St)(H:Hp)(Q:VK),Inv X pins σ H s->t σ H Q->bg (model X.prog X.w) X.A (eval e X.env) (EP X pins σ Q) X.xe s
def PT(X:Cx)(e:bE)(t:TT):Prop:=
 ∀(pins:List (aI×Obj))(s:aE)(σ:St)(H:Hp)(Q:Bool->Hp->Prop),Inv X pins σ H s->t σ H Q->bg (model X.prog X.w) X.A (isTrue e X.env (eval e X.env)) (TP X pins σ Q) X.xe s
def PW(X:Cx)(e:bE)(t:TT):Prop:=
 ∀(whole:Sem av)(pins:List (aI×Obj))(s:aE)(σ:St)(H:Hp)(Q:Bool->Hp->Prop),Inv X pins σ H s->t σ H Q->bg (model X.prog X.w) X.A (isTrue e X.env whole) (TP X pins σ Q) X.xe s
def PW.pt(h:PW X e t):PT X e t:=h _
def PA(X:Cx)(es:List bE)(t:TA):Prop:=
 ∀(pos:Pos)(pins:List (aI×Obj))(s:aE)(σ:St)(H:Hp)(Q:List V->Hp->Prop),Inv X pins σ H s->t σ H Q->bg (model X.prog X.w) X.A (spliced (backTo pos (starEach es X.env))) (AP X pins σ Q) X.xe s
def PS(X:Cx)(st:fT)(t:TS):Prop:=
 ∀(pins:List (aI×Obj))(s:aE)(σ:St)(H:Hp)(D:Ends),Inv X pins σ H s->t D σ H->bg (model X.prog X.w) X.A (exec st X.env) (SP X pins D) X.xe s
def C2(X:Cx)(st:List fT)(t:TS):Prop:=
 ∀(pins:List (aI×Obj))(s:aE)(σ:St)(H:Hp)(D:Ends),Inv X pins σ H s->t D σ H->bg (model X.prog X.w) X.A (execs st X.env) (SP X pins D) X.xe s
def ja{α:Type}{t:Sem α}{Q Q':α->aE->Prop}{M:Model}{A:cK}{E:av->aE->Prop}{s:aE}(h:bg M A t Q E s)(hQ:∀a s,Q a s->Q' a s):bg M A t Q' E s:=Xw h hQ λ_ _ x=>x
section
variable{X:Cx}
def bin{a b:bE}{ta tb:TE}(ha:PE X a ta)(hb:PE X b tb){pins:List (aI×Obj)}{s:aE}{σ:St}{H:Hp}{R:V->V->Hp->Prop}(I:Inv X pins σ H s)(h:ta σ H λx H1=>tb σ H1 λy H2=>R x y H2){α:Type}{Q:α->aE->Prop}{f:av->av->Sem α}(hf:∀v u s2 x y H2,Inv X pins σ H2 s2->RelV x v->RelV y u->R x y H2->bg (model X.prog X.w) X.A (f v u) Q X.xe s2):
  bg (model X.prog X.w) X.A (eval a X.env) (λv s₁=>bg (model X.prog X.w) X.A (eval b X.env) (λu s₂=>bg (model X.prog X.w) X.A (f v u) Q X.xe s₂) X.xe s₁) X.xe s:=by
 refine ja (ha pins s σ H _ I h) λv s1 zz=>?_;refine bJ zz λx H1 I1 r1 q1=>?_;refine ja (hb pins s1 σ H1 _ I1 q1) λu s2 zz=>?_;refine bJ zz λy H2 I2 r2 q2=>?_;exact hf v u s2 x y H2 I2 r1 r2 q2
def U7(i:Nat):TE:=λσ H Q=>∃v,σ[i]?=af (af v)/\Q v H
def tC(v:V):TE:=λ_ H Q=>Q v H
def N8{i:Nat}{x:Str}{pos:Pos}(hN:X.N[i]?=af x)(hv:Lm X.env.scope x)(hd:(x==("__debug__" :Str))=false:=by decide)(hcd:(x==("__classdict__" :Str))=false:=by decide):PE X (.Name x pos) (U7 i):=by
 intro pins s σ H Q I h;obtain⟨v,e,h⟩:=h;obtain⟨m,hn,hl⟩:=I.loc;obtain⟨u,r,l⟩:=hl i x v hN e hv;have fin:EP X pins σ Q u s:=⟨v,H,I,r,h⟩
 rcases l with⟨hk,hm⟩|⟨hk,c,hc,hcell⟩
 ·exact wpAny_Name (wpAny_loadName_local I.ok.kind hk hn hm fin) hd
 ·rcases hk with hk|hk
  ·exact wpAny_Name (wpAny_loadName_cell I.ok.kind hk hc hcell fin) hd
  ·exact wpAny_Name (wpAny_loadName_free I.ok.kind hk hc hcell fin hcd) hd
def Oa{i j pos}:PE X (.Constant (.int i) j pos) (tC (.int i)):=λ_ _ _ H _ I h=>wpAny_Constant_int ⟨.int i,H,I.tok _,⟨_,rfl⟩,h⟩
def Sq{b j pos}:PE X (.Constant (.bool b) j pos) (tC (.bl b)):=λ_ _ _ H _ I h=>Constant_bool ⟨.bl b,H,I,rfl,h⟩
def Ob{j pos}:PE X (.Constant .none j pos) (tC .non):=λ_ _ _ H _ I h=>Constant_none ⟨.non,H,I,rfl,h⟩
def Bx{x j pos}:PE X (.Constant (.str x) j pos) (tC (.str x)):=λ_ _ _ H _ I h=>Calls.Constant_str ⟨.str x,H,I.tok _,⟨_,rfl⟩,h⟩
def Gl(X:Cx)(x:Str):Prop:=X.env.kindOf x=af .globalImplicit
def jC{E:av->aE->Prop}{pins:List (aI×Obj)}{s:aE}{σ:St}{H:Hp}{x:Str}{u:av}{pos:Pos}{Q:av->aE->Prop}(I:Inv X pins σ H s)(hg:Gl X x)(hm:X.mg x=af u)(h:Q u s)(hd:(x==("__debug__" :Str))=false:=by decide):bg (model X.prog X.w) X.A (eval (.Name x pos) X.env) Q E s:=
 Calls.Name_function_global I.ok.kind hg (Calls.loadGlobal_global (by rw[I.ok.glob];exact I.mod.glob.keeps I.bk) hm h) hd
def jD{E:av->aE->Prop}{pins:List (aI×Obj)}{s:aE}{σ:St}{H:Hp}{x:Str}{u:av}{pos:Pos}{Q:av->aE->Prop}(I:Inv X pins σ H s)(hg:Gl X x)(hm:X.mg x=ah)(hv:bootBuiltins x=af u)(h:Q u s)(hn:x≠ "__name__" :=by decide)(hd:(x==("__debug__" :Str))=false:=by decide):bg (model X.prog X.w) X.A (eval (.Name x pos) X.env) Q E s:=by obtain⟨mb,h1,h2⟩:=I.mod.blt;exact Calls.Name_function_global I.ok.kind hg (Calls.loadGlobal_builtin (by rw[I.ok.glob];exact I.mod.glob.keeps I.bk) hm (by rw[I.ok.blt];exact h1.keeps I.bk) ((h2 x hn).trans hv) h) hd
def J5(hg:Gl X x)(hm:X.mg x=af u)(r:RelV v u)(hd:(x==("__debug__" :Str))=false:=by decide):PE X (.Name x pos) (tC v):=
 λ_ _ _ H _ I h=>jC I hg hm ⟨v,H,I,r,h⟩ hd
def J6{x:Str}{v:V}{u:av}{pos:Pos}(hg:Gl X x)(hm:X.mg x=ah)(hv:bootBuiltins x=af u)(r:RelV v u)(hn:x≠ "__name__" :=by decide)(hd:(x==("__debug__" :Str))=false:=by decide):PE X (.Name x pos) (tC v):=
 λ_ _ _ H _ I h=>jD I hg hm hv ⟨v,H,I,r,h⟩ hn hd
variable{a b:bE}{ta tb:TE}{pos:Pos}
variable{tA MO:TT}{rest:List bE}
def U8(t u:TT):TT:=λσ H Q=>t σ H λc H1=>if c=ai then u σ H1 Q else Q ay H1
def UK(t u:TT):TT:=λσ H Q=>t σ H λc H1=>if c=ai then Q ai H1 else u σ H1 Q
def U9(t:TT):TT:=λσ H Q=>t σ H λc H1=>Q (!c) H1
def J7(ha:PT X a tA):PW X (.BoolOp .And [a] pos) tA:=by
 intro wh pins s σ H Q I h;refine isTrue_and (ja (ha pins s σ H Q I h) λc s1 e=>?_);cases c with|true=>exact isTrue_and_nil e|false=>exact e
def Oc(ha:PT X a tA):PW X (.BoolOp .Or [a] pos) tA:=by
 intro wh pins s σ H Q I h;refine isTrue_or (ja (ha pins s σ H Q I h) λc s1 e=>?_);cases c with|false=>exact isTrue_or_nil e|true=>exact e
def Od(ha:PT X a tA)(hb:PW X (.BoolOp .And (b::rest) pos) MO):PW X (.BoolOp .And (a::b::rest) pos) (U8 tA MO):=by
 intro wh pins s σ H Q I h;refine isTrue_and (ja (ha pins s σ H _ I h) λc s1 zz=>?_);obtain⟨H1,I1,q1⟩:=zz;cases c with|true=>exact hb wh pins s1 σ H1 Q I1 q1|false=>exact⟨H1,I1,q1⟩
def Ss(ha:PT X a tA)(hb:PW X (.BoolOp .Or (b::rest) pos) MO):PW X (.BoolOp .Or (a::b::rest) pos) (UK tA MO):=by
 intro wh pins s σ H Q I h;refine isTrue_or (ja (ha pins s σ H _ I h) λc s1 zz=>?_);obtain⟨H1,I1,q1⟩:=zz;cases c with|true=>exact⟨H1,I1,q1⟩|false=>exact hb wh pins s1 σ H1 Q I1 q1
def Oe(ha:PT X a tA):PT X (.UnaryOp .Not a pos) (U9 tA):=by intro pins s σ H Q I h;exact isTrue_not (ha pins s σ H (λc H1=>Q (!c) H1) I h)
def Su(ta tb:TE):TE:=λσ H Q=>ta σ H λx H1=>∃c,x= .bl c/\if c=ai then tb σ H1 Q else Q (.bl ay) H1
def Va(ta tb:TE):TE:=λσ H Q=>ta σ H λx H1=>∃c,x= .bl c/\if c=ai then Q (.bl ai) H1 else tb σ H1 Q
def Og{op}(h:PE X a t):PE X (.BoolOp op [a] pos) t:=λpins s σ H Q I hw=>BoolOp_one (h pins s σ H Q I hw)
def Oh(ha:PE X a ta)(hb:PE X (.BoolOp .And (b::rest) pos) tb):PE X (.BoolOp .And (a::b::rest) pos) (Su ta tb):=by
 intro pins s σ H Q I h;refine BoolOp_and (ja (ha pins s σ H _ I h) λv s1 zz=>?_);refine bJ zz λx H1 I1 r1 q1=>?_;obtain⟨c,rfl,q1⟩:=q1;cases r1;refine wpAny_truthy_bool ?_;cases c with|true=>exact hb pins s1 σ H1 Q I1 q1|false=>exact⟨.bl ay,H1,I1,rfl,q1⟩
def Sv(ha:PE X a ta)(hb:PE X (.BoolOp .Or (b::rest) pos) tb):PE X (.BoolOp .Or (a::b::rest) pos) (Va ta tb):=by
 intro pins s σ H Q I h;refine BoolOp_or (ja (ha pins s σ H _ I h) λv s1 zz=>?_);refine bJ zz λx H1 I1 r1 q1=>?_;obtain⟨c,rfl,q1⟩:=q1;cases r1;refine wpAny_truthy_bool ?_;cases c with|false=>exact hb pins s1 σ H1 Q I1 q1|true=>exact⟨.bl ai,H1,I1,rfl,q1⟩
def UM(t:TT)(ta tb:TE):TE:=λσ H Q=>t σ H λc H1=>if c=ai then ta σ H1 Q else tb σ H1 Q
def Gk(hc:PT X c tA)(ha:PE X a ta)(hb:PE X b tb):PE X (.IfExp c a b pos) (UM tA ta tb):=by
 intro pins s σ H Q I h;refine wpAny_IfExp (ja (hc pins s σ H _ I h) λd s1 zz=>?_);obtain⟨H1,I1,q1⟩:=zz;cases d with|true=>exact ha pins s1 σ H1 Q I1 q1|false=>exact hb pins s1 σ H1 Q I1 q1
end
def wc(K:aT)(H:Hp)(a:aI)(xs:List V):Prop:=
 Rd H a (.lst xs)\/
  ∃(o:Obj)(its:Array av)(n:Nat),K.lookup a=af o/\o.cls= .type "list" /\o.dict=ah/\o.data= .seq its n/\its.size<=aS/\Vals xs its.toList
def tP(K:aT)(H:Hp)(a:aI)(xs:List V):Prop:=
 Rd H a (.tup xs)\/
  ∃(o:Obj)(its:Array av)(n:Nat),K.lookup a=af o/\o.cls= .type "tuple" /\(o.data= .seq its n/\o.dict=ah/\o.slots= #[])/\its.size<=aS/\Vals xs its.toList
def Vb:av->Option V
 |.none=>af .non|.bool b=>af (.bl b)|.int i _=>af (.int i)|.str x _=>af (.str x)|.bytes b _=>af (.IT b)|.float b _=>af (.flt b)|.ref a=>af (.ref a)|.type n=>af (.ty n)|_=>ah
theorem RelV.abs(r:RelV x u):Vb u=af x:=by
 cases x with
 |non=>cases r;rfl|bl _=>cases r;rfl|int _=>obtain⟨t,rfl⟩:=r;rfl
 |str _=>obtain⟨t,rfl⟩:=r;rfl
 |IT _=>obtain⟨t,rfl⟩:=r;rfl
 |flt _=>obtain⟨t,rfl⟩:=r;rfl
 |ref _=>cases r;rfl|ty _=>cases r;rfl
def RelV.inj(r:RelV x u)(q:RelV y u):x=y:=Wd (r.abs.symm.trans q.abs)
theorem Vals.inj:∀{xs ys:List V}{us:List av},Vals xs us->Vals ys us->xs=ys
 |_,_,_,.nil,.nil=>rfl|_,_,_,.cons r t,.cons r' t'=>by rw[r.inj r',Vals.inj t t']
section
variable{X:Cx}{pins:List (aI×Obj)}{σ:St}{H:Hp}{s:aE}{a:aI}{xs ys:List V}
def wc.of{K:aT}(h:H a=af (.lst xs)):wc K H a xs:= .inl (.inl h)
def tP.of{K:aT}(h:H a=af (.tup xs)):tP K H a xs:= .inl (.inl h)
def Inv.list(I:Inv X pins σ H s)(h:wc X.K H a xs):∃its:List av,Vals xs its/\PlainL s.heap a its.toArray/\xs.length<=sizeLine:=by
 rcases h with h|⟨o,its,n,hk,hc,hd,hs,hz,r⟩
 ·obtain⟨z,its,n,r,e⟩:=h.ok I.hok;exact⟨its,r,⟨_,n,e,rfl,rfl,rfl⟩,z⟩
 ·refine⟨its.toList,r,⟨o,n,I.BE a o hk,hc,hd,by simpa using hs⟩,?_⟩;have e:=r.length
  simp_all
def Inv.tuple(I:Inv X pins σ H s)(h:tP X.K H a xs):∃its:List av,Vals xs its/\IsTup s.heap a its.toArray/\xs.length<=sizeLine:=by
 rcases h with h|⟨o,its,n,hk,hc,hs,hz,r⟩
 ·obtain⟨z,its,r,p,_⟩:=h.ok I.hok;exact⟨its,r,p,z⟩
 ·refine⟨its.toList,r,⟨o,I.BE a o hk,hc,n,by simpa using hs.1⟩,?_⟩;have e:=r.length
  simp_all
def Inv.D6(I:Inv X pins σ H s)(h:wc X.K H a xs)(h':wc X.K H a ys):xs=ys:=by
 obtain⟨its,r,⟨o,n,e,_,_,d⟩,_⟩:=I.list h;obtain⟨its',r',⟨o',n',e',_,_,d'⟩,_⟩:=I.list h';rw[e]at e';cases e';rw[d]at d';injection d' with d1 _
 have:its=its':=by simpa using Xk zk d1
 subst this;exact r.inj r'
def Inv.BN(I:Inv X pins σ H s)(h:tP X.K H a xs)(h':tP X.K H a ys):xs=ys:=by
 obtain⟨its,r,⟨o,e,_,n,d⟩,_⟩:=I.tuple h;obtain⟨its',r',⟨o',e',_,n',d'⟩,_⟩:=I.tuple h';rw[e]at e';cases e';rw[d]at d';injection d' with d1 _
 have:its=its':=by simpa using Xk zk d1
 subst this;exact r.inj r'
end
section
variable{X:Cx}{st:fT}{rest:List fT}{t u:TS}{e:bE}{te:TE}{pos:Pos}
def zA:TS:=λD σ H=>D.nx σ H
def Vc(t u:TS):TS:=λD σ H=>t {D with nx:=u D} σ H
def J8:C2 X [] zA:=λ_ _ σ H _ I h=>wpAny_execs_nil ⟨σ,H,I,h⟩
theorem Gm(h1:PS X st t)(h2:C2 X rest u):C2 X (st::rest) (Vc t u):=by
 intro pins s σ H D I h;refine wpAny_execs_cons (ja (h1 pins s σ H {D with nx:=u D} I h) λf s1 q=>?_);cases f with
 |next=>obtain⟨σ',H',I',q⟩:=q;exact h2 pins s1 σ' H' D I' q
 |ret v=>exact q|brk=>exact q|cont=>exact q
def Oi:TS:=λD σ H=>D.bk σ H
def Sw:TS:=λD σ H=>D.ct σ H
def J9:PS X (.Pass pos) zA:=λ_ _ σ H _ I h=>wpAny_Pass ⟨σ,H,I,h⟩
def Gn:PS X (.Break pos) Oi:=λ_ _ σ H _ I h=>wpAny_Break ⟨σ,H,I,h⟩
def xg:PS X (.Continue pos) Sw:=λ_ _ σ H _ I h=>wpAny_Continue ⟨σ,H,I,h⟩
def Inv.quiet{pins:List (aI×Obj)}{σ:St}{H:Hp}{s:aE}(I:Inv X pins σ H s):interactive X.env=false:=by simp[interactive,I.ok.kind]
def Oj{x j pos pos'}:PS X (.Expr (.Constant (.str x) j pos) pos') zA:=λ_ s σ H _ I h=>wpAny_Expr (Calls.Constant_str (show SP X _ _ .next {s with toks:=s.toks+1}from⟨σ,H,I.tok _,h⟩)) I.quiet
def Sy(te:TE):TS:=λD σ H=>te σ H λ_ H1=>D.nx σ H1
def Ka(he:PE X e te)(hs:swapsWith e ah pos.line X.env=pure false:=by rfl):PS X (.Expr e pos) (Sy te):=by intro pins s σ H D I h;exact wpAny_Expr_any (ja (he pins s σ H _ I h) λv s1 z=>bJ z λx H1 I1 r1 q1=>⟨σ,H1,I1,q1⟩) I.quiet hs
def Vd(te:TE):TS:=λD σ H=>te σ H D.rt
def Ol(he:PE X e te):PS X (.Return (af e) pos) (Vd te):=by intro pins s σ H D I h;exact wpAny_Return_some (ja (he pins s σ H _ I h) λv s1 z=>bJ z λx H1 I1 r1 q1=>⟨x,σ,H1,I1,r1,q1⟩)
def SJ:TS:=λD _ H=>D.rt .non H
def Kc:PS X (.Return ah pos) SJ:=λ_ _ σ H _ I h=>wpAny_Return_none ⟨.non,σ,H,I,rfl,h⟩
def Ve(c:TT)(t u:TS):TS:=λD σ H=>c σ H λb H1=>if b=ai then t D σ H1 else u D σ H1
def SM(hc:PT X c tc)(ha:C2 X a t)(hb:C2 X b u):PS X (.If c a b pos) (Ve tc t u):=by
 intro pins s σ H D I h;refine wpAny_If (ja (hc pins s σ H _ I h) λd s1 zz=>?_);obtain⟨H1,I1,q1⟩:=zz;cases d with|true=>exact ha pins s1 σ H1 D I1 q1|false=>exact hb pins s1 σ H1 D I1 q1
end
abbrev TG:=V->St->Hp->(St->Hp->Prop)->Prop
abbrev F8:=List V->St->Hp->(St->Hp->Prop)->Prop
def PG(X:Cx)(target:bE)(t:TG):Prop:=
 ∀(pins:List (aI×Obj))(s:aE)(σ:St)(H:Hp)(v:V)(u:av)(Q:St->Hp->Prop),Inv X pins σ H s->RelV v u->t v σ H Q->
  bg (model X.prog X.w) X.A (assign target X.env u) (λ_ s'=>∃σ' H',Inv X pins σ' H' s'/\Q σ' H') X.xe s
def ER(X:Cx)(ts:List bE)(t:F8):Prop:=
 ∀(pins:List (aI×Obj))(s:aE)(σ:St)(H:Hp)(vs:List V)(us:List av)(Q:St->Hp->Prop),Inv X pins σ H s->Vals vs us->t vs σ H Q->
  bg (model X.prog X.w) X.A (assignInOrder ((assignEach ts X.env).map (·.2)) us) (λ_ s'=>∃σ' H',Inv X pins σ' H' s'/\Q σ' H') X.xe s
abbrev Gp:=V->V->V->Hp->(Hp->Prop)->Prop
def Om(X:Cx)(t:Gp):Prop:=
 ∀(pins:List (aI×Obj))(s:aE)(σ:St)(H:Hp)(o i v:V)(ov iv u:av)(Q:Hp->Prop),Inv X pins σ H s->RelV o ov->RelV i iv->RelV v u->t o i v H Q->
  bg (model X.prog X.w) X.A (setItem ov iv u) (λ_ s'=>∃H',Inv X pins σ H' s'/\Q H') X.xe s
section
variable{X:Cx}{pos:Pos}
def SN(i:Nat):TG:=λv σ H Q=>Q (σ.set i (af v)) H
def Kd(hN:X.N.Nodup)(hi:X.N[i]?=af x)(hx:Loc X.env.scope x)(hf:X.fn x=ai\/X.env.scope.names.lookup x=af .local:=by first|exact .inl rfl|exact .inr rfl|assumption):PG X (.Name x pos) (SN i):=by intro pins s σ H v u Q I r h;exact wpAny_assign_Name (Gj I hN hi hx r (λs' I'=>⟨_,H,I',h⟩) hf)
def Vf:F8:=λvs σ H Q=>vs=[]/\Q σ H
def SQ(t:TG)(u:F8):F8:=λvs σ H Q=>∃v r,vs=v::r/\t v σ H λσ' H'=>u r σ' H' Q
def Ke:ER X [] Vf:=by intro pins s σ H vs us Q I r h;obtain⟨e,h⟩:=h;subst e;cases r;exact assignInOrder_nil ⟨σ,H,I,h⟩
theorem Gq(h1:PG X e t)(h2:ER X es u)(hs:(assignEach (e::es) X.env).map (·.2)=assign e X.env::(assignEach es X.env).map (·.2):=by rfl):ER X (e::es) (SQ t u):=by
 intro pins s σ H vs us Q I r h;obtain⟨v,vr,e1,h⟩:=h;subst e1;cases r with
 |cons r rr=>rw[hs];refine assignInOrder_cons (ja (h1 pins s σ H _ _ _ I r h) λ_ s1 zz=>?_);obtain⟨σ1,H1,I1,q1⟩:=zz;exact h2 pins s1 σ1 H1 _ _ Q I1 rr q1
def Vg(K:aT)(n:Nat)(t:F8):TG:=λv σ H Q=>∃a xs,v= .ref a/\tP K H a xs/\xs.length=n/\t xs σ H Q
def Oo{es:List bE}{k:Nat}{t:F8}{n:Nat}(hc:X.calm=ai)(h:ER X es t)(hn:(assignEach es X.env).length=n:=by rfl)(hst:(assignEach es X.env).findIdx? (·.1)=none:=by rfl):PG X (.Tuple es k pos) (Vg X.K n t):=by intro pins s σ H v u Q I r hw;obtain⟨a,xs,e1,hq,hl,hw⟩:=hw;subst e1;cases r;obtain⟨its,rv,ht,hz⟩:=I.tuple hq;refine assign_Tuple_tuple (I.ok.hd hc) ht (by simp[hn,←hl,rv.length]) hst λh' hx=>?_;have I1:Inv X pins σ H {s with heap:=h'}:=I.kept (t':=s.toks) λb o e=>hx b o (Wo (Wg e)) e;exact h pins _ σ H xs _ Q I1 (by simpa using rv) hw
def Vh(to ti:TE)(t:Gp):TG:=λv σ H Q=>to σ H λo H1=>ti σ H1 λi H2=>t o i v H2 λH3=>Q σ H3
def Oq(ho:PE X o to)(hi:PE X i ti)(hs:Om X t)(ha:∀v,assign (.Subscript o i pos) X.env v=(do
   let ov ←holding [v] (eval o X.env)
   let iv ←holding [v,ov] (eval i X.env)
   standAt pos
   holding [v,ov,iv] (setItem ov iv v)
   release [v,ov,iv] []):=by intro _;rfl):PG X (.Subscript o i pos) (Vh to ti t):=by
 intro pins s σ H v u Q I r h;rw[ha];refine My (Xl (ja (ho pins s σ H _ I h) λov s1 zz=>?_));refine bJ zz λx H1 I1 r1 q1=>?_;refine My (Xl (ja (hi pins s1 σ H1 _ I1 q1) λiv s2 zz=>?_));refine bJ zz λy H2 I2 r2 q2=>?_;refine My (wpAny_standAt (My (Xl (ja (hs pins s2 σ H2 x y v ov iv u _ I2 r1 r2 r q2) λ_ s3 zz=>?_))));obtain⟨H3,I3,q3⟩:=zz;exact wpAny_release ⟨σ,H3,I3,q3⟩
def Vi(te:TE)(g:TG):TS:=λD σ H=>te σ H λx H1=>g x σ H1 D.nx
def By(he:PE X e te)(hg:PG X tg g)(hs:swapsWithSole [tg] e pos.line X.env=pure false:=by rfl)(hw:swappedStores [tg] e X.env=pure none:=by rfl)(h1:(assignEach [tg] X.env).map (·.2)=[assign tg X.env]:=by rfl):PS X (.Assign [tg] e pos) (Vi te g):=by intro pins s σ H D I h;refine wpAny_Assign_stores (ja (he pins s σ H _ I h) λv s1 zz=>?_) hs hw;refine bJ zz λx H1 I1 r1 q1=>?_;rw[h1];exact ja (hg pins s1 σ H1 x v _ I1 r1 q1) λ_ s2 q=>q
end
section
variable{X:Cx}{pos:Pos}
def Ot(c:TT)(tb:TS):TS:=λD σ H=>∃W:Nat->St->Hp->Prop,(∃m,W m σ H)/\∀m σ H,W m σ H->
 c σ H λb H1=>if b=ai then ∃N:St->Hp->Prop,(∀σ' H',N σ' H'->∃m',m'<m/\W m' σ' H')/\tb {D with nx:=N,ct:=N,bk:=D.nx} σ H1 else D.nx σ H1
theorem Gr(hp:PassesOwn (model X.prog X.w) X.A X.env X.xe)(hc:PT X c tc)(hb:C2 X body tb):PS X (.While c body [] pos) (Ot tc tb):=by
 intro pins s σ H D I h;obtain⟨W,⟨m0,w0⟩,turn⟩:=h;refine wpAny_While (codeAny_whileLoop (λn s'=>∃σ' H',Inv X pins σ' H' s'/\W n σ' H') ?_ m0 ⟨σ,H,I,w0⟩);rintro n s1 ⟨σ1,H1,I1,w1⟩;refine YS hp (ja (hc pins s1 σ1 H1 _ I1 (turn n σ1 H1 w1)) λb s2 zz=>?_);obtain⟨H2,I2,q2⟩:=zz;cases b with
 |true=>
  obtain⟨N,hN,q2⟩:=q2;rw[if_pos rfl];refine YS hp (ja (hb pins s2 σ1 H2 _ I2 q2) λf s3 q3=>?_);cases f with
  |next=>obtain⟨σ3,H3,I3,n3⟩:=q3;obtain⟨m',hm,w3⟩:=hN σ3 H3 n3;exact⟨m',hm,σ3,H3,I3,w3⟩
  |cont=>obtain⟨σ3,H3,I3,n3⟩:=q3;obtain⟨m',hm,w3⟩:=hN σ3 H3 n3;exact⟨m',hm,σ3,H3,I3,w3⟩
  |brk=>exact q3|ret v=>exact q3
 |false=>rw[if_neg Zh];exact wpAny_execs_nil ⟨σ1,H2,I2,q2⟩
end
structure It where
 go:Nat->Hp->Prop
 Lv:Nat->Hp->V->Hp->Prop
 stop:Nat->Hp->Prop
def dO(X:Cx)(pins:List (aI×Obj))(H:Hp)(b:aI):Prop:=
 H b=ah/\b≠X.env.locals/\b∉X.fs/\(b∈X.ex\/X.s₀.heap.objs.size<=b)/\(∀x c,X.env.cells.lookup x=af c->c≠b)/\∀p∈X.pn++pins,p.1≠b
def Inv.B4{X:Cx}{pins:List (aI×Obj)}{σ:St}{H H':Hp}{s:aE}{b:aI}(I:Inv X pins σ H s)(hb:s.heap.objs.size<=b)(hn:H' b=ah):dO X pins H' b:=by
 refine⟨hn,Xn (WF I.lt hb),I.F6 hb,.inr (Wa I.sz hb),λx c e z=>?_,λp hp z=>?_⟩
 ·obtain⟨v,q⟩:=I.cell x c e;exact absurd (WF q.lt (by rw[z];exact hb)) (Zd _)
 ·exact absurd (WF (Wg (I.pin p hp).1) (by rw[z];exact hb)) (Zd _)
structure Turn(P:ck)(w:cy)(K:aT)(tg:bE)(J:It)(fp:List aI)(it:aI)(tn:Nat->dc->Prop):Prop where
 mem:it∈fp
 obj:∀i h,tn i h->∀b∈fp,∃o,h.get? b=af o/\∀v,o.data≠ .cell v
 keep:∀i h h',tn i h->(∀b∈fp,∀o,h.get? b=af o->h'.get? b=af o)->tn i h'
 item:∀(X:Cx),X.prog=P->X.w=w->X.K=K->X.calm=ai->∀(i:Nat)(pins:List (aI×Obj))(s:aE)(σ:St)(H:Hp)(E:av->aE->Prop),Inv X pins σ H s->(∀b∈fp,dO X pins H b)->tn i s.heap->J.go i H->
  bg (model P w) X.A (pyNext (.ref it)) (λr s1=>∃u,r=af u/\
   bg (model P w) X.A (letOwnedTupleGo tg (.ref it) u) (λ_ s2=>∃x H',Inv X pins σ H' s2/\RelV x u/\J.Lv i H x H'/\tn (i+1) s2.heap/\∀b∈fp,H' b=ah) E s1) E s
 done:∀(X:Cx),X.prog=P->X.w=w->X.K=K->X.calm=ai->∀(i:Nat)(pins:List (aI×Obj))(s:aE)(σ:St)(H:Hp)(E:av->aE->Prop),Inv X pins σ H s->(∀b∈fp,dO X pins H b)->tn i s.heap->J.stop i H->
  bg (model P w) X.A (pyNext (.ref it)) (λr s1=>r=ah/\Inv X pins σ H s1) E s
 self:∀(A:cK)(i:Nat)(s:aE)(Q:av->aE->Prop)(E:av->aE->Prop),tn i s.heap->Q (.ref it) s->bg (model P w) A (pyIter (.ref it)) Q E s
abbrev TI:=St->Hp->(It->Hp->Prop)->Prop
def N1(X:Cx)(pins:List (aI×Obj))(σ:St)(tg:bE)(R:It->Hp->Prop)(itv:av)(s2:aE):Prop:=
 ∃(it:aI)(fp:List aI)(tn:Nat->dc->Prop)(J:It)(H':Hp),itv= .ref it/\Inv X pins σ H' s2/\Turn X.prog X.w X.K tg J fp it tn/\tn 0 s2.heap/\(∀b∈fp,dO X pins H' b)/\R J H'
def PI(X:Cx)(tg iter:bE)(wi:TI):Prop:=
 ∀(pins:List (aI×Obj))(s:aE)(σ:St)(H:Hp)(R:It->Hp->Prop),Inv X pins σ H s->wi σ H R->
  bg (model X.prog X.w) X.A (eval iter X.env) (λv s1=>bg (model X.prog X.w) X.A (pyIter v) (N1 X pins σ tg R) X.xe s1) X.xe s
def t6(ho:s.heap.get? it=af o)(hc:o.cls= .type n)(hd:o.data= .fields vs)(hn:["enumerate", "zip", "dict_itemiterator", "dict_reverseitemiterator", "odict_iterator", "itertools.zip_longest", "itertools.pairwise"].contains n=ay)(hQ:Q () s):bg M A (letOwnedTupleGo tg (.ref it) u) Q E s:=by
  unfold letOwnedTupleGo;cases tg<;>first
    |exact V8 hQ
    | (cases u<;>first
        |exact V8 hQ
        | (refine My (wpAny_load ho ?_)
           rw[hc,hd];show bg M A (if(["enumerate", "zip", "dict_itemiterator", "dict_reverseitemiterator", "odict_iterator", "itertools.zip_longest", "itertools.pairwise"].contains n && vs[0]?==af (rawInt _))=ai then _ else _) Q E s;rw[if_neg (by lia)];exact V8 hQ))
def N2(K:aT)(a:aI):It:=
 ⟨λi H=>∃xs x,wc K H a xs/\xs[i]?=af x,λi H x H'=>H'=H/\∀xs,wc K H a xs->xs[i]?=af x,λi H=>∃xs,wc K H a xs/\xs.length<=i⟩
def N3(K:aT)(a:aI):It:=
 ⟨λi H=>∃xs x,tP K H a xs/\xs[i]?=af x,λi H x H'=>H'=H/\∀xs,tP K H a xs->xs[i]?=af x,λi H=>∃xs,tP K H a xs/\xs.length<=i⟩
def MQ(lo:Int)(n:Nat):It:=⟨λi _=>i<n,λi H x H'=>H'=H/\x= .int (lo+i),λi _=>n<=i⟩
def BJ{P:ck}{w:cy}{K:aT}{tg:bE}(a it:aI):Turn P w K tg (N2 K a) [it] it (λi h=>h.IsListIter it a i)where
 mem:=by simp
 obj:=λi h st b hb=>by
  have e:b=it:=by simpa using hb
  subst e;obtain⟨o,e,c,d⟩:=st
  simp_all
 keep:=λi h h' st k=>st.at λo e=>k it (by simp) o e
 item:=by intro X hP hw hK hc i pins s σ H E I hf st hg;subst hP hw hK;obtain⟨xs,x,hq,hx⟩:=hg;obtain⟨its,rv,p,hz⟩:=I.list hq;obtain⟨u,hu,ru⟩:=rv.get hx;obtain⟨f0,f1,f2,f3,f4,f5⟩:=hf it (by simp);refine wpAny_pyNext_list_item st p.isList (x:=u) (by simpa using hu) λh' st' sb=>?_;have I1:Inv X pins σ H {s with heap:=h'}:=I.turned (t':=s.toks) (λb o hb e=>(sb.2 b hb).trans e) f0 f1 f3 f4 f5;obtain⟨o,e,c,d⟩:=id st';exact⟨u,rfl,t6 (s:={s with heap:=h'}) e c d (by decide) ⟨x,H,I1,ru,⟨rfl,λys hy=>by rw[I.D6 hy hq];exact hx⟩,st',λb hb=>(hf b hb).1⟩⟩
 done:=by intro X hP hw hK hc i pins s σ H E I hf st hg;subst hP hw hK;obtain⟨xs,hq,hx⟩:=hg;obtain⟨its,rv,p,hz⟩:=I.list hq;obtain⟨f0,f1,f2,f3,f4,f5⟩:=hf it (by simp);have hl:=rv.length;exact wpAny_pyNext_list_end (I.ok.hd hc) st p.isList (by simp;lia) λh' eb=>⟨rfl,I.turned (t':=s.toks) (λb o hb e=>eb b o hb e) f0 f1 f3 f4 f5⟩
 self:=λ_ _ _ _ _ st h=>wpAny_pyIter_listiter st h
def zB{P:ck}{w:cy}{K:aT}{tg:bE}(a it:aI):Turn P w K tg (N3 K a) [it] it (λi h=>h.IsTupleIter it a i)where
 mem:=by simp
 obj:=λi h st b hb=>by
  have e:b=it:=by simpa using hb
  subst e;obtain⟨o,e,c,d⟩:=st
  simp_all
 keep:=λi h h' st k=>st.at λo e=>k it (by simp) o e
 item:=by intro X hP hw hK hc i pins s σ H E I hf st hg;subst hP hw hK;obtain⟨xs,x,hq,hx⟩:=hg;obtain⟨its,rv,p,hz⟩:=I.tuple hq;obtain⟨u,hu,ru⟩:=rv.get hx;obtain⟨f0,f1,f2,f3,f4,f5⟩:=hf it (by simp);refine wpAny_pyNext_tuple_item st (show s.heap.IsTuple a its.toArray from p) (x:=u) (by simpa using hu) λh' st' sb=>?_;have I1:Inv X pins σ H {s with heap:=h'}:=I.turned (t':=s.toks) (λb o hb e=>(sb.2 b hb).trans e) f0 f1 f3 f4 f5;obtain⟨o,e,c,d⟩:=id st';exact⟨u,rfl,t6 (s:={s with heap:=h'}) e c d (by decide) ⟨x,H,I1,ru,⟨rfl,λys hy=>by rw[I.BN hy hq];exact hx⟩,st',λb hb=>(hf b hb).1⟩⟩
 done:=by intro X hP hw hK hc i pins s σ H E I hf st hg;subst hP hw hK;obtain⟨xs,hq,hx⟩:=hg;obtain⟨its,rv,p,hz⟩:=I.tuple hq;obtain⟨f0,f1,f2,f3,f4,f5⟩:=hf it (by simp);have hl:=rv.length;exact wpAny_pyNext_tuple_end (I.ok.hd hc) st (show s.heap.IsTuple a its.toArray from p) (by simp;lia) λh' eb=>⟨rfl,I.turned (t':=s.toks) (λb o hb e=>eb b o hb e) f0 f1 f3 f4 f5⟩
 self:=λ_ _ _ _ _ st h=>wpAny_pyIter_tupleiter st h
def zE{P:ck}{w:cy}{K:aT}{tg:bE}(it:aI)(lo:Int)(n:Nat):Turn P w K tg (MQ lo n) [it] it (λi h=>IsRangeIter h it (lo+(i:Nat)*1) ((n:Int) - (i:Nat)) 1)where
 mem:=by simp
 obj:=λi h st b hb=>by simp_all
 keep:=λi h h' st k=>k it (by simp) _ st
 item:=by intro X hP hw hK hc i pins s σ H E I hf st hg;subst hP hw hK;obtain⟨f0,f1,f2,f3,f4,f5⟩:=hf it (by simp);have W:=Walks.range (prog:=X.prog) (w:=X.w) (I.ok.hd hc) it lo 1 n;refine W.item i s _ _ hg st λv h' tk hv st' kk=>?_;obtain⟨t,rfl⟩:=hv;have I1:Inv X pins σ H {s with heap:=h',toks:=tk}:=I.turned (λb o hb e=>kk b o (by simpa using hb) e) f0 f1 f3 f4 f5;refine⟨_,rfl,t6 (s:={s with heap:=h',toks:=tk}) (n:= "range_iterator") st' rfl rfl (by decide) ⟨.int (lo+i),H,I1,⟨t,?_⟩,⟨rfl,rfl⟩,st',λb hb=>(hf b hb).1⟩⟩;lia
 done:=by intro X hP hw hK hc i pins s σ H E I hf st hg;subst hP hw hK;obtain⟨f0,f1,f2,f3,f4,f5⟩:=hf it (by simp);exact wpAny_pyNext_range_end (I.ok.hd hc) st (by have:n<=i:=hg;lia) λh' eb=>⟨rfl,I.turned (t':=s.toks) (λb o hb e=>eb b o hb e) f0 f1 f3 f4 f5⟩
 self:=λ_ _ _ _ _ st h=>wpAny_pyIter_rangeiter st h
section
variable{X:Cx}{tg:bE}
def SX(K:aT)(tl:TE):TI:=λσ H R=>tl σ H λx H1=>∃a,x= .ref a/\(∃xs,wc K H1 a xs)/\R (N2 K a) H1
def Vj(K:aT)(tl:TE):TI:=λσ H R=>tl σ H λx H1=>∃a,x= .ref a/\(∃xs,tP K H1 a xs)/\R (N3 K a) H1
def qR(hl:PE X l tl):PI X tg l (SX X.K tl):=by
 intro pins s σ H R I h;refine ja (hl pins s σ H _ I h) λv s1 zz=>?_;refine bJ zz λx H1 I1 r1 q1=>?_;obtain⟨a,e,⟨xs,hq⟩,q⟩:=q1;subst e;cases r1;obtain⟨its,rv,p,hz⟩:=I1.list hq;refine wpAny_pyIter_list p.isList ?_;refine⟨s1.heap.objs.size,[s1.heap.objs.size],_,_,H1,rfl,I1.kept (t':=s1.toks) λb o e=>V9 _ e,BJ a _,⟨_,Wf _ rfl,rfl,rfl⟩,λb hb=>?_,q⟩;have e:b=s1.heap.objs.size:=by simpa using hb
 subst e;exact I1.B4 (Wc _) (I1.hok.fresh (Wc _))
def Ou(hl:PE X l tl):PI X tg l (Vj X.K tl):=by
 intro pins s σ H R I h;refine ja (hl pins s σ H _ I h) λv s1 zz=>?_;refine bJ zz λx H1 I1 r1 q1=>?_;obtain⟨a,e,⟨xs,hq⟩,q⟩:=q1;subst e;cases r1;obtain⟨its,rv,p,hz⟩:=I1.tuple hq;refine YK (show s1.heap.IsTuple a its.toArray from p) ?_;refine⟨s1.heap.objs.size,[s1.heap.objs.size],_,_,H1,rfl,I1.kept (t':=s1.toks) λb o e=>V9 _ e,zB a _,⟨_,Wf _ rfl,rfl,rfl⟩,λb hb=>?_,q⟩;have e:b=s1.heap.objs.size:=by simpa using hb
 subst e;exact I1.B4 (Wc _) (I1.hok.fresh (Wc _))
def Gs{pins:List (aI×Obj)}{σ:St}{H:Hp}{s:aE}{R:It->Hp->Prop}{E:av->aE->Prop}{lo hi:Int}{t u v:Tok}{tk:Nat}(I:Inv X pins σ H s)(h1: -(2^62)<=lo)(h2:lo<2^62)(h3: -(2^62)<=hi)(h4:hi<2^62)(q:R (MQ lo (hi - lo).toNat) H):bg (model X.prog X.w) X.A (pyIter (.ref s.heap.objs.size)) (N1 X pins σ tg R) E {s with heap:=s.heap.push {cls:= .type "range",data:= .fields #[.int lo t,.int hi u,.int 1 v]},toks:=tk}:=by
 refine wpAny_pyIter_range (IsRange.new ..) (small_one h1 h2 h3 h4) ?_;have I1:Inv X pins σ H {s with heap:=s.heap.push {cls:= .type "range",data:= .fields #[.int lo t,.int hi u,.int 1 v]},toks:=tk}:=I.kept λb o e=>V9 _ e;refine⟨(s.heap.push {cls:= .type "range",data:= .fields #[.int lo t,.int hi u,.int 1 v]}).objs.size,[(s.heap.push {cls:= .type "range",data:= .fields #[.int lo t,.int hi u,.int 1 v]}).objs.size],_,_,H,rfl,
  I1.kept (t':=tk) λb o e=>V9 _ e,zE _ lo (hi - lo).toNat,?_,λb hb=>?_,q⟩
 ·have e1:lo+((0:Nat):Int)*1=lo:=by simp
  have e2:(((hi - lo).toNat:Nat):Int) - ((0:Nat):Int)=Builtin.Range.rangeSize lo hi 1:=by rw[rangeSize_one];split<;>lia
  show IsRangeIter _ _ (lo+((0:Nat):Int)*1) ((((hi - lo).toNat:Nat):Int) - ((0:Nat):Int)) 1;rw[e1,e2];exact Wf _ rfl
 ·have e:b=(s.heap.push {cls:= .type "range",data:= .fields #[.int lo t,.int hi u,.int 1 v]}).objs.size:=by simpa using hb
  subst e;exact I1.B4 (Wc _) (I1.hok.fresh (Wc _))
def S6(ta:TA):TI:=λσ H R=>ta σ H λvs H1=>∃j:Int,vs=[.int j]/\ -(2^62)<=j/\j<2^62/\R (MQ 0 j.toNat) H1
theorem BK(hg:Gl X "range")(hm:X.mg "range" =ah)(ha:PA X [a] ta)(hs:starEach [a] X.env=[(ay,eval a X.env)]:=by rfl):PI X tg (.Call (.Name "range" p) [a] [] pos) (S6 ta):=by
 intro pins s σ H R I h;refine Call_ (jD I hg hm boot_range (YL (ja (ha pos pins s σ H _ I h) λus s1 zz=>?_) hs rfl));refine bJ zz λvs H1 I1 r1 q1=>?_;obtain⟨j,e,q1,q2,q⟩:=q1;subst e;cases r1 with
 |cons r rr=>cases rr;obtain⟨t,rfl⟩:=r;exact call_range_1 (Gs I1 (by lia) (by lia) q1 q2 (by simpa using q))
def Vk(wi:TI)(g:TG)(tb:TS):TS:=λD σ H=>wi σ H λJ H1=>∃W:Nat->Nat->St->Hp->Prop,(∃m,W 0 m σ H1)/\∀i m σ H,W i m σ H->
 (J.stop i H/\D.nx σ H)\/(J.go i H/\∃N:St->Hp->Prop,(∀σ' H',N σ' H'->∃m',m'<m/\W (i+1) m' σ' H')/\∀x H',J.Lv i H x H'->g x σ H' λσ2 H2=>tb {D with nx:=N,ct:=N,bk:=D.nx} σ2 H2)
def jE(fp:List aI)(h:dc):List (aI×Obj):=fp.filterMap λb=>(h.get? b).map λo=>(b,o)
def iJ(hb:b∈fp)(e:h.get? b=af o):(b,o)∈jE fp h:=List.mem_filterMap.mpr ⟨b,hb,by rw[e];rfl⟩
def BL(hp:p∈jE fp h):p.1∈fp/\h.get? p.1=af p.2:=by
 obtain⟨b,hb,e⟩:=List.mem_filterMap.mp hp;cases q:h.get? b with|none=>simp_all|some o=>grind
def Inv.pinned{pins:List (aI×Obj)}{σ:St}{H:Hp}{s:aE}{fp:List aI}(I:Inv X pins σ H s)(hf:∀b∈fp,dO X pins H b)(ho:∀b∈fp,∃o,s.heap.get? b=af o/\∀v,o.data≠ .cell v):Inv X (pins++jE fp s.heap) σ H s:=
 I.x9 λp hp=>(Xa.mp hp).elim (λz=>I.pin p (WM _ z)) λz=>by obtain⟨hb,e⟩:=BL z;obtain⟨f0,f1,f2,_⟩:=hf p.1 hb;obtain⟨o,e',d⟩:=ho p.1 hb;rw[e]at e';cases e';exact⟨e,f0,f1,f2,d⟩
def Inv.AL{pins pl:List (aI×Obj)}{σ:St}{H:Hp}{s:aE}(I:Inv X (pins++pl) σ H s):Inv X pins σ H s:=I.x9 λp hp=>I.pin p (WM _ (Yi _ hp))
def BP(hp:PassesOwn (model X.prog X.w) X.A X.env X.xe)(hc:X.calm=ai)(hi:PI X tg iter wi)(hg:PG X tg g)(hb:C2 X body tb)(hs:∀x,foldedSetIterable iter X.env x=pure x:=by intro _;rfl):PS X (.For tg iter body [] pos) (Vk wi g tb):=by
 intro pins s σ H D I h;refine wpAny_For (ja (hi pins s σ H _ I h) λv s1 h1=>ja h1 λitv s2 h2=>?_) hs;obtain⟨it,fp,tn,J,H2,e,I2,T,st2,f2,W,⟨m0,w0⟩,turn⟩:=h2;subst e;have stat:∀{H':Hp},(∀b∈fp,H' b=ah)->∀b∈fp,dO X pins H' b:=λhn b hb=>⟨hn b hb,(f2 b hb).2⟩
 refine codeAny_forLoop_any (λn s'=>∃i σ' H',Inv X pins σ' H' s'/\tn i s'.heap/\(∀b∈fp,H' b=ah)/\W i n σ' H') ?_ m0 ⟨0,σ,H2,I2,st2,λb hb=>(f2 b hb).1,w0⟩;rintro n s3 ⟨i,σ3,H3,I3,st3,Q2,w3⟩;rcases turn i n σ3 H3 w3 with⟨stop,qn⟩|⟨go,N,hN,step⟩
 ·refine YS hp (ja (T.done X rfl rfl rfl hc i pins s3 σ3 H3 X.xe I3 (stat Q2) st3 stop) λr s4 zz=>?_);obtain⟨hr,I4⟩:=zz;subst hr;exact wpAny_execs_nil ⟨σ3,H3,I4,qn⟩
 ·refine YS hp (ja (T.item X rfl rfl rfl hc i pins s3 σ3 H3 X.xe I3 (stat Q2) st3 go) λr s4 zz=>?_);obtain⟨u,hr,h4⟩:=zz;subst hr;refine YS hp (ja h4 λ_ s5 zz=>?_);obtain⟨x,H5,I5,r5,y5,LA,UN⟩:=zz;have UO:=I5.pinned (stat UN) (T.obj _ _ LA);refine YS hp (ja (hg _ s5 σ3 H5 x u _ UO r5 (step x H5 y5)) λ_ s6 zz=>?_);obtain⟨σ6,H6,I6,q6⟩:=zz;refine YS hp (ja (hb _ s6 σ6 H6 _ I6 q6) λf s7 q7=>?_);have again:∀{σ7:St}{H7:Hp},Inv X (pins++jE fp s5.heap) σ7 H7 s7->N σ7 H7->∃m,m<n/\∃i σ' H',Inv X pins σ' H' s7/\tn i s7.heap/\(∀b∈fp,H' b=ah)/\W i m σ' H':=λ{σ7 H7} I7 n7=>by
   obtain⟨m',hm,w7⟩:=hN σ7 H7 n7;refine⟨m',hm,i+1,σ7,H7,I7.AL,T.keep _ _ _ LA λb hb o e=>(I7.pin (b,o) (WM _ (WM _ (iJ hb e)))).1,λb hb=>?_,w7⟩;obtain⟨o,e,d⟩:=T.obj _ _ LA b hb;exact(I7.pin (b,o) (WM _ (WM _ (iJ hb e)))).2.1
  cases f with
  |next=>obtain⟨σ7,H7,I7,n7⟩:=q7;exact again I7 n7
  |cont=>obtain⟨σ7,H7,I7,n7⟩:=q7;exact again I7 n7
  |brk=>obtain⟨σ7,H7,I7,q7⟩:=q7;exact⟨σ7,H7,I7.AL,q7⟩
  |ret v=>obtain⟨x7,σ7,H7,I7,r7,q7⟩:=q7;exact⟨x7,σ7,H7,I7.AL,r7,q7⟩
end
abbrev R2:=V->V->Hp->VK->Prop
def BO(X:Cx)(f:av->av->Sem av)(r:R2):Prop:=
 ∀(pins:List (aI×Obj))(s:aE)(σ:St)(H:Hp)(x y:V)(v u:av)(Q:VK),Inv X pins σ H s->RelV x v->RelV y u->r x y H Q->
  bg (model X.prog X.w) X.A (f v u) (EP X pins σ Q) X.xe s
def N4(X:Cx)(f:av->Sem av)(r:V->Hp->VK->Prop):Prop:=
 ∀(pins:List (aI×Obj))(s:aE)(σ:St)(H:Hp)(x:V)(v:av)(Q:VK),Inv X pins σ H s->RelV x v->r x H Q->
  bg (model X.prog X.w) X.A (f v) (EP X pins σ Q) X.xe s
def bj(X:Cx)(f:av)(r:List V->Hp->VK->Prop):Prop:=
 ∀(pins:List (aI×Obj))(s:aE)(σ:St)(H:Hp)(xs:List V)(us:List av)(Q:VK),Inv X pins σ H s->Vals xs us->r xs H Q->
  bg (model X.prog X.w) X.A (call f us) (EP X pins σ Q) X.xe s
def Vl(X:Cx)(r:V->Hp->(Bool->Hp->Prop)->Prop):Prop:=
 ∀(pins:List (aI×Obj))(s:aE)(σ:St)(H:Hp)(x:V)(v:av)(Q:Bool->Hp->Prop),Inv X pins σ H s->RelV x v->r x H Q->
  bg (model X.prog X.w) X.A (truthy v) (TP X pins σ Q) X.xe s
def MR(r:R2)(ta tb:TE):TE:=λσ H Q=>ta σ H λx H1=>tb σ H1 λy H2=>r x y H2 Q
def UP(r:V->Hp->VK->Prop)(ta:TE):TE:=λσ H Q=>ta σ H λx H1=>r x H1 Q
def rI(C:Int->Int->Prop)(g:Int->Int->V):R2:=λx y H Q=>∃i j,x= .int i/\y= .int j/\C i j/\Q (g i j) H
def FO(g:Int->Int->V):R2:=λx y H Q=>∃i j,x= .int i/\y= .int j/\Q (g i j) H
def rU(g:Int->V):V->Hp->VK->Prop:=λx H Q=>∃i,x= .int i/\Q (g i) H
section
variable{X:Cx}{a b:bE}{ta tb:TE}{pos:Pos}
def Gu(ha:PE X a ta)(hb:PE X b tb){pins:List (aI×Obj)}{s:aE}{σ:St}{H:Hp}{R:V->V->Hp->Prop}(I:Inv X pins σ H s)(h:ta σ H λx H1=>tb σ H1 λy H2=>R x y H2){Q:av->aE->Prop}{f:av->av->Sem av}(hf:∀v u s2 x y H2,Inv X pins σ H2 s2->RelV x v->RelV y u->R x y H2->bg (model X.prog X.w) X.A (f v u) Q X.xe s2):
  bg (model X.prog X.w) X.A (eval a X.env) (λv s₁=>bg (model X.prog X.w) X.A (eval b X.env) (λu s₂=>bg (model X.prog X.w) X.A (f v u) Q X.xe s₂) X.xe s₁) X.xe s:=by
 refine ja (ha pins s σ H _ I h) λv s1 zz=>?_;refine bJ zz λx H1 I1 r1 q1=>?_;refine ja (hb pins s1 σ H1 _ I1 q1) λu s2 zz=>?_;refine bJ zz λy H2 I2 r2 q2=>?_;exact hf v u s2 x y H2 I2 r1 r2 q2
def S7(ho:BO X (binaryOp op) r)(ha:PE X a ta)(hb:PE X b tb):PE X (.BinOp a op b pos) (MR r ta tb):=by intro pins s σ H Q I h;exact wpAny_BinOp (Gu ha hb I h λv u s2 x y H2 I2 rx ry q=>ho pins s2 σ H2 x y v u Q I2 rx ry q)
def S8(ho:N4 X (unaryOp op) r)(ha:PE X a ta):PE X (.UnaryOp op a pos) (UP r ta):=by intro pins s σ H Q I h;exact UnaryOp_ (ja (ha pins s σ H _ I h) λv s1 z=>bJ z λx H1 I1 r1 q1=>ho pins s1 σ H1 x v Q I1 r1 q1)
def N9{g:Int->Int->Int}(rule:∀(i j:Int)(t u:Tok)(s:aE)(Q:av->aE->Prop)(E:av->aE->Prop),C i j->Q (.int (g i j) s.toks) {s with toks:=s.toks+1}->bg (model X.prog X.w) X.A (f (.int i t) (.int j u)) Q E s):
  BO X f (rI C λi j=> .int (g i j)):=by
 intro pins s σ H x y v u Q I rx ry h;obtain⟨i,j,rfl,rfl,hc,q⟩:=h;obtain⟨t,rfl⟩:=rx;obtain⟨t',rfl⟩:=ry;exact rule i j t t' s _ _ hc ⟨.int (g i j),H,I.tok _,⟨_,rfl⟩,q⟩
def Ov{g:Int->Int->Int}(rule:∀(i j:Int)(t u:Tok)(s:aE)(Q:av->aE->Prop)(E:av->aE->Prop),Q (.int (g i j) s.toks) {s with toks:=s.toks+1}->bg (model X.prog X.w) X.A (f (.int i t) (.int j u)) Q E s):
  BO X f (FO λi j=> .int (g i j)):=by
 intro pins s σ H x y v u Q I rx ry h;obtain⟨i,j,rfl,rfl,q⟩:=h;obtain⟨t,rfl⟩:=rx;obtain⟨t',rfl⟩:=ry;exact rule i j t t' s _ _ ⟨.int (g i j),H,I.tok _,⟨_,rfl⟩,q⟩
def zF{g:Int->Int->Bool}(rule:∀(i j:Int)(t u:Tok)(s:aE)(Q:av->aE->Prop)(E:av->aE->Prop),Q (.bool (g i j)) s->bg (model X.prog X.w) X.A (f (.int i t) (.int j u)) Q E s):
  BO X f (FO λi j=> .bl (g i j)):=by
 intro pins s σ H x y v u Q I rx ry h;obtain⟨i,j,rfl,rfl,q⟩:=h;obtain⟨t,rfl⟩:=rx;obtain⟨t',rfl⟩:=ry;exact rule i j t t' s _ _ ⟨.bl (g i j),H,I,rfl,q⟩
def Vm(i j:Int):Prop:=0<=j/\j<=1000000/\i.natAbs<2^64
def Gv(i j:Int):Prop:=(-(2^64)<i/\i<2^64)\/(-(2^64)<j/\j<2^64)
def Gv.ok(h:Gv i j):IntMulOk i j:=by
 rcases h with⟨h1,h2⟩|⟨h1,h2⟩
 ·exact .of_left (intBits_le_64 h1 h2)
 ·exact .of_right (intBits_le_64 h1 h2)
def Ow:BO X (binaryOp .Add) (FO λi j=> .int (i+j)):=Ov λ_ _ _ _ _ _ _ q=>add_int q
def Ox:BO X (binaryOp .Sub) (FO λi j=> .int (i - j)):=Ov λ_ _ _ _ _ _ _ q=>sub_int q
def Oz:BO X (binaryOp .Mult) (rI Gv λi j=> .int (i*j)):=N9 λ_ _ _ _ _ _ _ hc q=>mul_int q hc.ok
def OD:BO X (binaryOp .Mod) (rI (λ_ j=>0<j) λi j=> .int (i % j)):=N9 λi j _ _ _ _ _ hc q=>by have h1:(0:Int)<j:=hc;exact mod_int' (by lia) (by rw[Int.fmod_eq_emod_of_nonneg i (by lia)];exact q)
def OJ:BO X (binaryOp .LShift) (rI Vm λi j=> .int (i*2^j.toNat)):=N9 λ_ _ _ _ _ _ _ hc q=>lshift_int_small hc.1 hc.2.1 hc.2.2 q
def UQ{g:Int->Int}(rule:∀(i:Int)(t:Tok)(s:aE)(Q:av->aE->Prop)(E:av->aE->Prop),Q (.int (g i) s.toks) {s with toks:=s.toks+1}->bg (model X.prog X.w) X.A (f (.int i t)) Q E s):
  N4 X f (rU λi=> .int (g i)):=by
 intro pins s σ H x v Q I rx h;obtain⟨i,rfl,q⟩:=h;obtain⟨t,rfl⟩:=rx;exact rule i t s _ _ ⟨.int (g i),H,I.tok _,⟨_,rfl⟩,q⟩
def O3:N4 X (unaryOp .USub) (rU λi=> .int (-i)):=UQ λ_ _ _ _ _ q=>neg_int q
end
section
variable{X:Cx}{a b c:bE}{ta tb:TE}{pos:Pos}
def S9:BO X (compareOp .Lt) (FO λi j=> .bl (decide (i<j))):=zF λ_ _ _ _ _ _ _ q=>lt_int q
def Tc:BO X (compareOp .LtE) (FO λi j=> .bl (decide (i<=j))):=zF λ_ _ _ _ _ _ _ q=>le_int q
def Td:BO X (compareOp .Gt) (FO λi j=> .bl (decide (j<i))):=zF λ_ _ _ _ _ _ _ q=>gt_int q
def Te:BO X (compareOp .GtE) (FO λi j=> .bl (decide (j<=i))):=zF λ_ _ _ _ _ _ _ q=>ge_int q
def Kg(ho:BO X (compareOp op) r)(ha:PE X a ta)(hb:PE X b tb)(hm:behindInMarks op b=ay):PE X (.Compare a [op] [b] pos) (MR r ta tb):=by intro pins s σ H Q I h;exact wpAny_Compare1 (Gu ha hb I h λv u s2 x y H2 I2 rx ry q=>ho pins s2 σ H2 x y v u Q I2 rx ry q) hm
def Tf(t:TE):TT:=λσ H Q=>t σ H λx H'=>∃k,x= .bl k/\Q k H'
def Kh(ho:BO X (compareOp op) r)(ha:PE X a ta)(hb:PE X b tb)(hm:behindInMarks op b=ay):PT X (.Compare a [op] [b] pos) (Tf (MR r ta tb)):=by
 intro pins s σ H Q I h;refine wpAny_isTrue_Compare1 (ja (ha pins s σ H _ I h) λv s1 z=>bJ z λx H1 I1 r1 q1=>ja (hb pins s1 σ H1 _ I1 q1) λu s2 z=>bJ z λy H2 I2 r2 q2=>
  ja (ho pins s2 σ H2 x y v u _ I2 r1 r2 q2) λc s3 ⟨z,H3,I3,r3,k,e,q3⟩=>?_) hm
 subst e;cases r3;exact wpAny_truthy_bool ⟨H3,I3,q3⟩
def zG(K:aT)(x:V)(H:Hp)(k:Bool):Prop:=
 match x with
 |.non=>k=ay|.bl b=>k=b|.int i=>k=(i !=0)|.str y=>y.length<=aS/\k=((y.length:Int) !=0)|.IT y=>y.size<=aS/\k=((y.size:Int) !=0)|.ref p=>(∃xs,wc K H p xs/\k=!xs.isEmpty)\/(∃xs,tP K H p xs/\k=!xs.isEmpty)\/∃kvs,H p=af (.dK kvs)/\k=!kvs.isEmpty|_=>False
def zH{κ:Type}{kvs:List (κ×V)}{vs:List (κ×av)}(r:KV kvs vs):(!vs.isEmpty)=!kvs.isEmpty:=by cases r<;>rfl
def pU(r:Vals xs its):(!its.toArray.isEmpty)=!xs.isEmpty:=by cases r<;>simp
def jF:(aS:Nat)<2^63:=by rw[W6];decide
theorem BR:Vl X (λx H Q=>∃k,zG X.K x H k/\Q k H):=by
 intro pins s σ H x v Q I rx h;obtain⟨k,e,q⟩:=h;have hl:=jF;have hs:aS=16777216:=W6;cases x with
 |non=>cases rx;have e':k=false:=e;subst e';exact truthy_none ⟨H,I,q⟩|bl b=>cases rx;have e':k=b:=e;subst e';exact wpAny_truthy_bool ⟨H,I,q⟩|int i=>obtain⟨t,rfl⟩:=rx;have e':k=(i !=0):=e;subst e';exact PySem.P.truthy_int ⟨H,I,q⟩
 |str y=>obtain⟨t,rfl⟩:=rx;obtain⟨hy,e'⟩:y.length<=aS/\k=((y.length:Int) !=0):=e;subst e';exact PySem.P.truthy_str (by lia) ⟨H,I.tok _,q⟩
 |IT y=>obtain⟨t,rfl⟩:=rx;obtain⟨hy,e'⟩:y.size<=aS/\k=((y.size:Int) !=0):=e;subst e';exact PySem.W.truthy_bytes (by lia) ⟨H,I.tok _,q⟩
 |ref p=>
  cases rx;have e':(∃xs,wc X.K H p xs/\k=!xs.isEmpty)\/(∃xs,tP X.K H p xs/\k=!xs.isEmpty)\/∃kvs,H p=af (.dK kvs)/\k=!kvs.isEmpty:=e;rcases e' with⟨xs,hx,e'⟩|⟨xs,hx,e'⟩|⟨kvs,hx,e'⟩
  ·subst e';obtain⟨its,r,pl,hz⟩:=I.list hx;have hlen:=r.length;exact wpAny_truthy_list pl.isList (by simp only[WX];lia) ⟨H,I.tok _,by rw[pU r];exact q⟩
  ·subst e';obtain⟨its,r,pl,hz⟩:=I.tuple hx;have hlen:=r.length;exact truthy_tuple pl (by simp only[WX];lia) ⟨H,I.tok _,by rw[pU r];exact q⟩
  ·subst e';obtain⟨hz,hS,vs,r,m⟩:kvs.length<=aS/\(p==sysModules)=ay/\∃vs,KV kvs vs/\s.heap.DictOf (aX X.prog X.w) p vs:=I.hok p _ hx;have hlen:kvs.length=vs.length:=Paired.length r;exact wpAny_truthy_dict hS m (by lia) ⟨H,I.tok _,by rw[zH r];exact q⟩
 |_=>exact(show False from e).elim
def Gw(ha:PE X a ta)(he:∀whole,isTrue a X.env whole=(do let v ←whole;standAt a.pos;holding [v] (truthy v))):
  PT X a (λσ H Q=>ta σ H λx H'=>∃k,zG X.K x H' k/\Q k H'):=by
 intro pins s σ H Q I h;exact isTrue_plain (ja (ha pins s σ H _ I h) λv s1 z=>bJ z λx H1 I1 r1 q1=>BR pins s1 σ H1 x v Q I1 r1 q1) (he _)
def vals1(r:Vals [x] us):∃u,us=[u]/\RelV x u:=by
 cases r with|cons r1 r2=>cases r2;simp_all
theorem vals2(r:Vals [x,y] us):∃u w',us=[u,w']/\RelV x u/\RelV y w':=by
 cases r with
 |cons r1 r2=>
  cases r2 with|cons r3 r4=>cases r4;exact⟨_,_,rfl,r1,r3⟩
def BV(hc:X.calm=ai):bj X (.builtin "max") (λxs H Q=>∃i j,xs=[.int i,.int j]/\Q (.int (if j>i then j else i)) H):=by
 intro pins s σ H xs us Q I r h;obtain⟨i,j,rfl,q⟩:=h;obtain⟨u,w',rfl,⟨t,rfl⟩,⟨t',rfl⟩⟩:=vals2 r;refine max_two_ints (I.ok.hd hc) λh' tk k=>⟨_,H,I.kept k,?_,q⟩
 by_cases hj:j>i
 ·rw[if_pos hj,if_pos hj];exact⟨_,rfl⟩
 ·rw[if_neg hj,if_neg hj];exact⟨_,rfl⟩
def BW(hc:X.calm=ai):bj X (.builtin "min") (λxs H Q=>∃i j,xs=[.int i,.int j]/\Q (.int (if j<i then j else i)) H):=by
 intro pins s σ H xs us Q I r h;obtain⟨i,j,rfl,q⟩:=h;obtain⟨u,w',rfl,⟨t,rfl⟩,⟨t',rfl⟩⟩:=vals2 r;refine min_two_ints (I.ok.hd hc) λh' tk k=>⟨_,H,I.kept k,?_,q⟩
 by_cases hj:j<i
 ·rw[if_pos hj,if_pos hj];exact⟨_,rfl⟩
 ·rw[if_neg hj,if_neg hj];exact⟨_,rfl⟩
end
structure CL(h:dc)(x dx C:aI)(mA:Str->Option av):Prop where
 obj:h.get? x=af (fz C dx)
 ns:h.Ns1 dx mA
 ne:dx≠x
def BX{h:dc}(n:h.Ns1 dx mA):∃od,h.get? dx=af od/\∀name,lT name od=af (mA name):=by
 obtain⟨o,es,ep,ho,hd,hk,_,hm⟩:=n;refine⟨o,ho,λname=>?_⟩;have e:=hm name;unfold nsFind findBy at e;rw[←Array.find?_toList]at e;unfold lT;rw[hd];dsimp only;split
 ·simp_all
 ·rename_i q;rw[q]at e;have a:es.toList.any (·.refKey)=false:=by
   rw[List.any_eq_false];intro y hy;obtain⟨z,t,hkey⟩:=hk y (Array.mem_toList_iff.mp hy);simp[DictEntry.refKey,hkey]
  simp_all
def CL.look(I:CL h x dx C mA):∃od,xA h x (fz C dx) C (af od)/\∀name,lT name od=af (mA name):=
 let⟨od,ho,hl⟩:=BX I.ns
 ⟨od,⟨I.obj,rfl,rfl,ho⟩,hl⟩
section
variable{prog:ck}{w:cy}{A:cK}{E:av->aE->Prop}{s:aE}{K:aT}{x dx C f:aI}{mA:Str->Option av}{name:Str}{v:av}
def Kl(X:K.In s.heap)(I:CL s.heap x dx C mA)(hg:j3 K C name=ai)(hh:nh K C=ai)(ha:eB K (.ref C) name=af ah)(hv:mA name=af v)(hv':tT v=ai)(h:Q v {s with toks:=s.toks+1}):
  bg (model prog w) A (getAttr (.ref x) name expr) Q E s:=by
 obtain⟨od,J,hl⟩:=I.look;exact PySem.W.get_value X J (kK hg).1 (PySem.W.findObj_own hh ha rfl (by rw[hl,hv])) hv' h
def Gx(X:K.In s.heap)(I:CL s.heap x dx C mA)(hg:j3 K C name=ai)(hf:eB K (.ref C) name=af (af (.ref f)))(ht:pS K (.ref f)=ai)(hv:mA name=ah)(h:Q (.ref f,[.ref x]) s):
  bg (model prog w) A (getMethod (.ref x) name pl) Q E s:=by
 obtain⟨od,J,hl⟩:=I.look;exact PySem.W.method_fn X J (kK hg).1 (kK hg).2 hf (beq_iff_eq.mp ht) (by show(lT name od).map (·.isSome)=af ay;rw[hl,hv];rfl) h
def Km(X:K.In s.heap)(I:CL s.heap x dx C mA)(hs:eB K (.ref C) "__setattr__" =af (af (.builtin "object.__setattr__")))(hp:sN K C=ai)(ht:pT K C name=af ah)(hh:nh K C=ai)(hw:tS mA ns)(hsz:ns.length<=aS)(h:∀h',CL h' x dx C (λy=>if y=name then af v else mA y)->Heap.SameBut dx s.heap h'->Q () {s with heap:=h',toks:=s.toks+2}):
  bg (model prog w) A (setAttr (.ref x) name v) Q E s:=by
 obtain⟨od,J,hl⟩:=I.look;refine PySem.W.set_plain X J hs (PySem.W.osa_open (s:={s with toks:=s.toks+1}) (r:=ah) X J hp ht λb=>?_);obtain⟨cd,hc,hd'⟩:=PySem.W.any_some hh;have hx:s.heap.get? x=af ⟨.ref C,af dx,.plain, #[]⟩:=I.obj;refine My (V8 (My (My (wpAny_loadPart hx (My (PySem.W.Looks.here (s:={s with toks:=s.toks+1}) (PySem.W.looks_clsIn X hc) ?_))))));rw[hd'];refine V8 (a:=af dx) (My (V8 (My ?_)));refine wpAny_nsSet1 (s:={s with toks:=s.toks+1}) I.ns λh' hn2 hs2=>?_;obtain⟨oD,esD,epD,hoD,hdD,hcD⟩:=hn2.count (PySem.Within.cons name v hw);refine My (wpAny_lookBehind hoD (by rw[hdD];exact pastItsLine_dict (Wa hcD (by simp_all))) ?_);exact V8 (h _ ⟨(hs2.2 _ (Ne.symm I.ne)).trans I.obj,hn2,I.ne⟩ hs2)
def Gy(X:K.In s.heap)(hm:pV K C=ai)(hi:eB K (.ref C) "__init__" =af (af (.ref f)))(hf:mh K (.ref f)=af (.type "function"))(h:codeAny (model prog w) (A.under (.builtin "type.__call__" ⟨.ref C::vs,kw⟩)) (.call (.ref f) ⟨.ref (s.heap.objs.size+1)::vs,kw⟩) (PySem.W.InitBack (s.heap.objs.size+1) R)
   {s with heap:=(s.heap.push ff).push (fz C s.heap.objs.size)}):
  codeAny (model prog w) A (.call (.ref C) ⟨vs,kw⟩) R s:=by
 obtain⟨hh,g,d,t,os⟩:=s;exact PySem.W.make_core (PySem.W.makes_of X hm) (PySem.W.looks_findIn X hi) (λself=>PySem.W.bind_fn X self hf) (.inl rfl) h
end
def dR(f:Str)(v:V):List (Str×V)->List (Str×V)
 |[]=> [(f,v)]|(g,x)::r=>if g=f then(g,v)::r else(g,x)::dR f v r
theorem oh(f g:Str)(v:V):∀fs:List (Str×V),(dR f v fs).lookup g=if g=f then af v else fs.lookup g
 |[]=>by
  show zI g [(f,v)]=_
  grind
 |(k,x)::r=>by
  have ih:=oh f g v r;rw[show dR f v ((k,x)::r)=(if k=f then(k,v)::r else(k,x)::dR f v r)from rfl]
  grind
theorem lJ(f:Str)(v:V):∀fs:List (Str×V),f∈(dR f v fs).map (·.1)/\∀g,g∈fs.map (·.1)->g∈(dR f v fs).map (·.1)
 |[]=>⟨by simp[dR],λg h=>by simp at h⟩|(k,x)::r=>by
  obtain⟨i1,i2⟩:=lJ f v r;rw[show dR f v ((k,x)::r)=(if k=f then(k,v)::r else(k,x)::dR f v r)from rfl]
  grind
theorem ou(f:Str)(v:V):∀fs:List (Str×V),(dR f v fs).length<=fs.length+1
 |[]=>by simp[dR]|(k,x)::r=>by
  have ih:=ou f v r;rw[show dR f v ((k,x)::r)=(if k=f then(k,v)::r else(k,x)::dR f v r)from rfl];by_cases hk:k=f
  ·simp_all
  simp_all
def fG.some_of(r:fG (af v) o):∃u,o=af u/\RelV v u:=by
 cases o with|none=>exact(show False from r).elim|some u=>exact⟨u,rfl,r⟩
def fG.none_of(r:fG ah o):o=none:=by
 cases o with|none=>rfl|some u=>exact(show False from r).elim
theorem BZ(r:RelV v u):tT u=true:=by
 cases v with
 |non=>cases(show u=Value.none from r);rfl|bl b=>cases(show u=Value.bool b from r);rfl|int i=>obtain⟨t,e⟩:=(show ∃t,u=Value.int i t from r);cases e;rfl
 |str x=>obtain⟨t,e⟩:=(show ∃t,u=Value.str x t from r);cases e;rfl
 |IT b=>obtain⟨t,e⟩:=(show ∃t,u=Value.bytes b t from r);cases e;rfl
 |flt b=>obtain⟨t,e⟩:=(show ∃t,u=Value.float b t from r);cases e;rfl
 |ref a=>cases(show u=Value.ref a from r);rfl|ty n=>cases(show u=Value.type n from r);rfl
section
variable{P:ck}{w:cy}{H:Hp}{h:dc}{a C dx:aI}{fs:List (Str×V)}
def qT(hok:zo P w H h)(e:H a=af (.ins C dx fs)):∃mA,CL h a dx C mA/\(∀f,fG (fs.lookup f) (mA f))/\tS mA (fs.map (·.1))/\fs.length<=1000/\H dx=af (.own a):=by
 obtain⟨d,z,ne,ob,mA,n,r,q⟩:=(show bB P w H h a (.ins C dx fs)from hok a _ e)
 exact⟨mA,⟨ob,n,ne⟩,r,q,z,d⟩
end
structure Co(K:aT)(C:aI):Prop where
 pg:j3 K C Str.empty=ai
 hd:nh K C=ai
 po:sN K C=ai
 sa:eB K (.ref C) "__setattr__" =af (af (.builtin "object.__setattr__"))
def Co.get{K:aT}(c:Co K C)(f:Str):j3 K C f=true:=c.pg
def eY(K:aT)(C:aI)(f:Str):Prop:=eB K (.ref C) f=af ah
def eY.LB{K:aT}(n:eY K C f):pT K C f=af none:=by unfold pT;rw[show eB K (.ref C) f=af ah from n];rfl
structure Meth(K:aT)(C:aI)(m:Str)(f:aI):Prop where
 at_:eB K (.ref C) m=af (af (.ref f))
 fn:pS K (.ref f)=ai
 kp:e9 K (.ref f)=ai
section
variable{X:Cx}{pins:List (aI×Obj)}{σ:St}{H:Hp}{s:aE}{a C dx:aI}{fs:List (Str×V)}{f:Str}{v:V}{A:cK}{E:av->aE->Prop}
def zJ(I:Inv X pins σ H s)(e:H a=af (.ins C dx fs))(c:Co X.K C)(n:eY X.K C f)(l:fs.lookup f=af v)(h:∀u s',Inv X pins σ H s'->RelV v u->Q u s'):bg (model X.prog X.w) A (getAttr (.ref a) f b) Q E s:=by obtain⟨mA,O,r,_,_,_⟩:=qT I.hok e;obtain⟨u,hu,ru⟩:=fG.some_of (v:=v) (o:=mA f) (by grind);exact Kl I.BE O (c.get f) c.hd n hu (BZ ru) (h u _ (I.tok _) ru)
def pW(I:Inv X pins σ H s)(e:H a=af (.ins C dx fs))(c:Co X.K C)(k:Meth X.K C m g)(l:fs.lookup m=ah)(h:Q (.ref g,[.ref a]) s):bg (model X.prog X.w) A (getMethod (.ref a) m pl) Q E s:=by obtain⟨mA,O,r,_,_,_⟩:=qT I.hok e;have hn:mA m=none:=fG.none_of (by grind);exact Gx I.BE O (c.get m) k.at_ k.fn hn h
def zK(I:Inv X pins σ H s)(e:H a=af (.ins C dx fs))(c:Co X.K C)(n:eY X.K C f)(hl:fs.length<1000)(ry:RelV y u)(h:∀s',Inv X pins σ (upd H a (.ins C dx (dR f y fs))) s'->Q () s'):bg (model X.prog X.w) A (setAttr (.ref a) f u) Q E s:=by
 obtain⟨mA,O,r,wi,_,ho⟩:=qT I.hok e;have hz:(fs.map (·.1)).length<=sizeLine:=by rw[Wb,W6];lia
 refine Km I.BE O c.sa c.po n.LB c.hd wi hz λh' O' sb=>h _ ?_;have hd:∃o,h'.get? dx=af o:=let⟨o,_,_,e',_⟩:=O'.ns;⟨o,e'⟩
 refine I.write (x:=a) (e:=dx) (by rw[e];exact True.intro) (.inr ho) (λb q hb z=>(sb.2 b hb).trans z) hd ?_;refine⟨by rw[aA O.ne];exact ho,?_,O.ne,O'.obj,_,O'.ns,λg=>?_,λg hg=>?_⟩
 ·have:=ou f y fs;lia
 ·show fG ((dR f y fs).lookup g) (if g=f then af u else mA g);rw[oh];by_cases q:g=f
  ·rw[if_pos q,if_pos q];exact ry
  simp_all
 ·by_cases q:g=f
  ·rw[q];exact(lJ f y fs).1
  ·refine(lJ f y fs).2 g (wi g λz=>hg ?_);lia
def Inv.made(I:Inv X pins σ H s):Inv X pins σ (upd (upd H s.heap.objs.size (.own (s.heap.objs.size+1))) (s.heap.objs.size+1) (.ins C s.heap.objs.size []))
  {s with heap:=(s.heap.push ff).push (fz C s.heap.objs.size)}:=by
 have e1:(s.heap.push ff).get? s.heap.objs.size=af PySem.W.emptyDict:=Wf s.heap rfl;have e2:((s.heap.push ff).push (fz C s.heap.objs.size)).get? (s.heap.objs.size+1)=af (fz C s.heap.objs.size):=by
  have:=Wf (s.heap.push ff) (o:=fz C s.heap.objs.size) rfl
  rwa [YF]at this
 have e3:(s.heap.push ff).Ns s.heap.objs.size (λ_=>ah):=⟨ff, #[],_,e1,rfl,(λe he=>absurd he (by simp)),λ_=>rfl⟩
 have I1:=I.laid (a:=s.heap.objs.size) (o:= .own (s.heap.objs.size+1)) (h':=s.heap.push ff) (t':=s.toks) (λb u q=>V9 _ q) (Wc _) ⟨_,e1⟩;refine I1.laid (a:=s.heap.objs.size+1) (o:= .ins C s.heap.objs.size []) (t':=s.toks) (λb u q=>V9 _ q) (kX (YF _ _)) ?_;have ne:s.heap.objs.size≠s.heap.objs.size+1:=Wo (Zx _);refine⟨by rw[aA ne,bh],WP _,ne,e2,λ_=>ah,(Heap.Ns1.of_empty e3).at λo q=>V9 _ q,λ_=>True.intro,λy hy=>absurd rfl hy⟩
def Ko(hb:attributeBase e f env (eval e env)=eval e env)(h:bg (model prog w) A (eval e env) (λo s₁=>bg (model prog w) A (getAttr o f ai) Q E s₁) E s):bg (model prog w) A (eval (.Attribute e f pos) env) Q E s:=
 Attribute_any_ h (by rw[arm_eval_Attribute,hb])
end
def Vn(K:aT)(ta:TE)(f:Str):TE:=λσ H Q=>ta σ H λx H1=>∃a C dx fs v,x= .ref a/\H1 a=af (.ins C dx fs)/\Co K C/\eY K C f/\fs.lookup f=af v/\Q v H1
def Vo(K:aT)(ta tv:TE)(f:Str):TS:=λD σ H=>tv σ H λy H1=>ta σ H1 λx H2=>∃a C dx fs,x= .ref a/\H2 a=af (.ins C dx fs)/\Co K C/\eY K C f/\fs.length<1000/\
 D.nx σ (upd H2 a (.ins C dx (dR f y fs)))
section
variable{X:Cx}{o e value:bE}{f:Str}{pos pos':Pos}{ta tv:TE}
def O4(he:PE X e ta)(hb:attributeBase e f X.env (eval e X.env)=eval e X.env):PE X (.Attribute e f pos) (Vn X.K ta f):=by intro pins s σ H Q I h;refine Ko hb (ja (he pins s σ H _ I h) λu s1 zz=>?_);obtain⟨x,H1,I1,rx,a,C,dx,fs,v,ex,ea,c,n,l,q⟩:=zz;subst ex;obtain rfl:u=Value.ref a:=rx;exact zJ I1 ea c n l λu' s2 I2 ru=>⟨v,H1,I2,ru,q⟩
def O5(ha:PE X o ta)(hv:PE X value tv)(hs:swapsWith value (af (.Attribute o f pos')) pos.line X.env=pure ay):PS X (.Assign [.Attribute o f pos'] value pos) (Vo X.K ta tv f):=by intro pins s σ H D I h;refine plainObj_wpAny_Assign_Attribute (ja (hv pins s σ H _ I h) λu s1 z=>bJ z λy H1 I1 ry q=>ja (ha pins s1 σ H1 _ I1 q) λov s2 zz=>?_) hs;obtain⟨x,H2,I2,rx,a,C,dx,fs,ex,ea,c,n,l,q2⟩:=zz;subst ex;obtain rfl:ov=Value.ref a:=rx;exact zK I2 ea c n l ry λs3 I3=>⟨σ,_,I3,q2⟩
end
structure rj(k:Nat)(A:cK):Prop where
 hd:A.handled=ah
 dp:A.depth+3*k+5<recursionLimit
 un:A.units+16*k+200<cLine
 gd:A.guards=af []
def rj.mono(r:rj k A)(h:j<=k):rj j A:=⟨r.hd,by have:=r.dp;lia,by have:=r.un;lia,r.gd⟩
theorem rj.deeper(r:rj (k+1) A)(env:Env):rj k (A.deeper env):=
 ⟨r.hd,by have:=r.dp;show A.depth+1+3*k+5<_;lia,by have:=r.un;show A.units+3+16*k+200<_;lia,r.gd⟩
def zL{A:cK} :(A.under (.builtin "type.__call__" ⟨.ref C::us,kw⟩)).depth=A.depth+1:=by rfl
def zM{A:cK} :(A.under (.builtin "type.__call__" ⟨.ref C::us,kw⟩)).units=A.units+1:=by rfl
def rj.make(r:rj (k+1) A)(C:aI)(us:List av)(kw:List (Str×av)):rj k (A.under (.builtin "type.__call__" ⟨.ref C::us,kw⟩)):=
 ⟨r.hd,by have:=r.dp;rw[zL];lia,by have:=r.un;rw[zM];lia,by have:=r.gd;first|exact this|simpa[Around.under,Code.guards,Code.isGuard,guardIds,pushGuards]using this⟩
theorem rj.depth(r:rj k A):A.depth<recursionLimit:=by have:=r.dp;lia
def Vp:TA:=λ_ H Q=>Q [] H
def Th(ta:TE)(tr:TA):TA:=λσ H Q=>ta σ H λx H1=>tr σ H1 λxs H2=>Q (x::xs) H2
section
variable{X:Cx}{e:bE}{es:List bE}{te:TE}{t:TA}{pos:Pos}
def eZ:PA X [] Vp:=λ_ _ _ _ H Q I h=>Calls.spliced_nil ⟨[],H,I,.nil,h⟩
def cQ(ha:PE X e te)(hr:PA X es t)(hs:starEach (e::es) X.env=(ay,eval e X.env)::starEach es X.env:=by rfl):PA X (e::es) (Th te t):=by intro pos pins s σ H Q I h;rw[hs];show bg _ _ (spliced ((ay,eval e X.env)::backTo pos (starEach es X.env))) _ _ s;refine Calls.spliced_cons (ja (ha pins s σ H _ I h) λu s1 zz=>?_);refine bJ zz λx H1 I1 r1 q1=>?_;exact ja (hr pos pins s1 σ H1 _ I1 q1) λus s2 z=>bJ z λxs H2 I2 r2 q2=>⟨x::xs,H2,I2,.cons r1 r2,q2⟩
def Vq(t:TA):TE:=λσ H Q=>t σ H λxs H1=>xs.length<=aS/\∀p,H1 p=ah->Q (.ref p) (upd H1 p (.tup xs))
def Vr(t:TA):TE:=λσ H Q=>t σ H λxs H1=>xs.length<=aS/\∀p,H1 p=ah->Q (.ref p) (upd H1 p (.lst xs))
def O6{x1}(h:PA X es t):PE X (.Tuple es x1 pos) (Vq t):=by intro pins s σ H Q I hq;refine wpAny_Tuple_spliced (ja (h pos pins s σ H _ I hq) λus s1 ⟨xs,H1,I1,r,z,q⟩=>⟨by rw[←r.length];exact z,?_⟩);have hf:H1 s1.heap.objs.size=none:=I1.hok.fresh (Wc _);refine⟨.ref s1.heap.objs.size,upd H1 s1.heap.objs.size (.tup xs),I1.laid (t':=s1.toks) (λb u e=>V9 _ e) (Wc _) ?_,rfl,q _ hf⟩;exact⟨z,us,r,⟨_,Wf _ rfl,rfl,_,rfl⟩,_,Wf _ rfl,rfl,rfl⟩
def O7(h:PA X es t):PE X (.List es pos) (Vr t):=by intro pins s σ H Q I hq;refine wpAny_List_spliced (ja (h pos pins s σ H _ I hq) λus s1 ⟨xs,H1,I1,r,z,q⟩=>⟨by rw[←r.length];exact z,?_⟩);have hf:H1 s1.heap.objs.size=none:=I1.hok.fresh (Wc _);refine⟨.ref s1.heap.objs.size,upd H1 s1.heap.objs.size (.lst xs),I1.laid (t':=s1.toks) (λb u e=>V9 _ e) (Wc _) ?_,rfl,q _ hf⟩;exact⟨z,us,0,r,Wf _ rfl⟩
end
abbrev Sp:=List V->Hp->VK->XK->Prop
abbrev F9:=List Env->Hp->aE->XK->av->aE->Prop
structure CM(P:ck)(w:cy)(K:aT)(mg:Str->Option av)(base:dc)(A:cK)(outer:List Env)(s:aE)(H:Hp):Prop where
 frames:A.frames=af outer
 mod:Mod K mg base
 bs:∀b o,base.get? b=af o->s.heap.get? b=af o/\H b=ah
 EO:base.objs.size<=s.heap.objs.size
 AJ:s.heap.FunFrames base outer
 FH:∀b∈frs outer,H b=ah
 hok:zo P w H s.heap
 bare:AllBare s.gens
def CE(outer:List Env)(P:ck)(w:cy)(H:Hp)(s:aE)(Q:VK)(u:av)(s':aE):Prop:=
 ∃v H',s'.os=s.os/\AllBare s'.gens/\Un (frs outer) [] H H' s.heap s'.heap/\zo P w H' s'.heap/\RelV v u/\Q v H'
def CR(CX:F9)(outer:List Env)(P:ck)(w:cy)(H:Hp)(s:aE)(Q:VK)(E:XK)(r:Result)(s':aE):Prop:=
 match r with
 |.ok (.ret u)=>CE outer P w H s Q u s'|.ok _=>False|.error e=>CX outer H s E e s'
structure ya(P:ck)(w:cy)(K:aT)(mg:Str->Option av)(base:dc)(CX:F9)(k:Nat)(f:aI)(fd:FuncData)(ps:List Str)(sp:Sp):Prop where
 len:∀vs H Q E,sp vs H Q E->vs.length=ps.length
 run:∀(A:cK)(outer:List Env)(s:aE)(H:Hp)(args:Args)(us:List av)(vs:List V)(Q:VK)(E:XK),rj k A->CM P w K mg base A outer s H->BindsTo s fd args (ps.zip us)->Vals vs us->sp vs H Q E->
  codeAny (model P w) A (.call (.ref f) args) (CR CX outer P w H s Q E) s
def CM.make{K:aT}(e:CM P w K mg base A outer s H)(C:aI)(us:List av)(kw:List (Str×av)):
  CM P w K mg base (A.under (.builtin "type.__call__" ⟨.ref C::us,kw⟩)) outer s H:=⟨by first|exact e.frames|(simpa[Around.under,Code.envs,Code.isFrame,pushEnvs]using e.frames),e.mod,e.bs,e.EO,e.AJ,e.FH,e.hok,e.bare⟩
section
variable{X:Cx}{pins:List (aI×Obj)}{σ:St}{H:Hp}{s s':aE}
def Inv.GA(I:Inv X pins σ H s):CM X.prog X.w X.K X.mg X.base X.A X.stack s H:=
 ⟨I.ok.frames,I.ok.mod,I.bs,Wa I.ok.EO I.sz,I.stack,I.B3,I.hok,I.bare⟩
def Inv.after(I:Inv X pins σ H s)(h:CE X.stack X.prog X.w H s Q u s'):EP X pins σ Q u s':=by obtain⟨v,H',os,bare,un,hok,r,q⟩:=h;obtain⟨hh,g,d,t,os'⟩:=s';obtain rfl:os'=s.os:=os;exact⟨v,H',I.call (h':=hh) (g':=g) (d':=d) (t':=t) (ch:=[]) un hok bare (λb z=>absurd z (by simp)),r,q⟩
end
def Binds(K:aT)(fd:FuncData)(ps:List Str)(ds:List av):Prop:=
 ∀(s:aE)(us:List av),K.In s.heap->(us++ds).length=ps.length->BindsTo s fd ⟨us,[]⟩ (ps.zip (us++ds))
def Binds.all{K:aT}(h:∀us:List av,us.length=ps.length->bindArgs fd ⟨us,[]⟩=pure (ps.zip us)):Binds K fd ps []:=λs us _ hl=>by rw[Wm]at hl ⊢;exact .of_eq (h us hl)
section
variable{f C:aI}
structure Mk(K:aT)(C f:aI):Prop where
 makes:pV K C=ai
 init:eB K (.ref C) "__init__" =af (af (.ref f))
 fn:pS K (.ref f)=ai
 kp:e9 K (.ref C)=ai
end
structure A7(N P:List Str)(sc:Scope):Prop where
 kind:sc.kind= .function
 co:sc.isCoroutine=ay
 gen:sc.isGenerator=ay
 nd:N.Nodup
 pre:N.take P.length=P
 par:∀x∈P,sc.names.lookup x=af .local\/sc.names.lookup x=af .cell
 GB:∀y∈sc.names,y.2≠ .free
theorem sG{kindOf:Str->Option NameKind} :∀{binds:List (Str×av)}{m:Str->Option av},(∀v,(x,v)∉binds)->bindL kindOf binds m x=m x
 |[],_,_=>rfl|(n,v)::r,m,h=>by
  unfold bindL;rw[sG λw hw=>h w (Yh _ hw)];split
  ·grind
  ·rfl
theorem sH{kindOf:Str->Option NameKind} :∀{binds:List (Str×av)}{m:Str->Option av},(∀v,(x,v)∉binds)->bindC kindOf binds m x=m x
 |[],_,_=>rfl|(n,v)::r,m,h=>by
  unfold bindC;rw[sH λw hw=>h w (Yh _ hw)];split
  ·rfl
  grind
theorem sI{kindOf:Str->Option NameKind} :∀{P:List Str}{vs:List av}{i:Nat}{m:Str->Option av},P.Nodup->P[i]?=af x->vs[i]?=af v->kindOf x=af .local->
  bindL kindOf (P.zip vs) m x=af v
 |[],_,_,_,_,h,_,_=>by simp at h|_::_,[],_,_,_,_,h,_=>by simp at h|p::P,w::vs,0,m,nd,h1,h2,hk=>by simp at h1 h2;subst h1;subst h2;show bindL kindOf ((p,w)::P.zip vs) m p=_;unfold bindL;rw[sG λv hv=>(Xo.mp nd).1 (qa hv).1,if_pos hk];simp|p::P,w::vs,i+1,m,nd,h1,h2,hk=>by show bindL kindOf ((p,w)::P.zip vs) m x=_;unfold bindL;exact sI (i:=i) (Xo.mp nd).2 (by simpa using h1) (by simpa using h2) hk
theorem sJ{kindOf:Str->Option NameKind} :∀{P:List Str}{vs:List av}{i:Nat}{m:Str->Option av},P.Nodup->P[i]?=af x->vs[i]?=af v->kindOf x≠af .local->
  bindC kindOf (P.zip vs) m x=af v
 |[],_,_,_,_,h,_,_=>by simp at h|_::_,[],_,_,_,_,h,_=>by simp at h|p::P,w::vs,0,m,nd,h1,h2,hk=>by simp at h1 h2;subst h1;subst h2;show bindC kindOf ((p,w)::P.zip vs) m p=_;unfold bindC;rw[sH λv hv=>(Xo.mp nd).1 (qa hv).1,if_neg hk];simp|p::P,w::vs,i+1,m,nd,h1,h2,hk=>by show bindC kindOf ((p,w)::P.zip vs) m x=_;unfold bindC;exact sJ (i:=i) (Xo.mp nd).2 (by simpa using h1) (by simpa using h2) hk
def start(N:List Str)(vs:List V):St:=vs.map af++br (N.length - vs.length) ah
def iY(CX:F9)(P:ck)(w:cy)(K:aT)(mg:Str->Option av)(base:dc)(N:List Str)(qual:Str)(scope:Scope)(f:aI)(cd:av)(A:cK)(outer:List Env)(s:aE)(H:Hp)(E:XK):Cx where
 prog:=P
 w:=w
 K:=K
 mg:=mg
 base:=base
 A:=A.deeper (envOfC qual scope s.heap.objs.size f cd)
 N:=N
 s₀:=s
 H₀:=H
 env:=envOfC qual scope s.heap.objs.size f cd
 outer:=outer
 stack:=envOfC qual scope s.heap.objs.size f cd::outer
 ex:=[]
 calm:=ai
 fn:=λ_=>ai
 pn:=[]
 xe:=λe s'=>bg (model P w) (A.deeper (envOfC qual scope s.heap.objs.size f cd)) (leaving (envOfC qual scope s.heap.objs.size f cd) e) (λ_ s''=>CX outer H s E e s'') (λe' s''=>CX outer H s E e' s'') s'
def ut{sc:Scope}(h:sc.names.lookup x=af .cell):∃c,(cellsFrom n sc.names []).lookup x=af c:=by have q:=nN sc.names n [] (.inl h);exact XX.mp q
def Ca{K:aT}{f:aI}{cd:av}{A:cK}{outer:List Env}{s s1:aE}{H:Hp}{E:XK}{us:List av}{vs:List V}(S:A7 N ps scope)(hd:A.handled=ah)(e0:CM P w K mg base A outer s H)(hl:vs.length=ps.length)(r:Vals vs us)(x:InCallC s s.heap.objs.size (bindL (envOfC qual scope s.heap.objs.size f cd).kindOf (ps.zip us) λ_=>ah) (cellsFrom (s.heap.objs.size+1) scope.names []) (bindC (envOfC qual scope s.heap.objs.size f cd).kindOf (ps.zip us) λ_=>ah) s1):
  Inv (iY CX P w K mg base N qual scope f cd A outer s H E) [] (start N vs) H s1:=by
 have hpl:ps.length<=N.length:=by have:=Xk fR S.pre;rw[YG]at this;lia
 obtain⟨h1,tk,rfl,hk⟩:=x.done;have LD:∀b:aI,b∉(iY CX P w K mg base N qual scope f cd A outer s H E).ex:=λb z=>absurd (show b∈([]:List aI)from z) (by simp);refine⟨⟨e0.mod,S.kind,rfl,rfl,Wc _,λy z c h1 h2=>?_,λy hy=>?_,λy c _ h=>?_,λ_=>hd,Around.frames_deeper e0.frames,.inr ⟨rfl,rfl⟩,λb z=>absurd z (LD b),e0.bs,e0.EO,λb _ _=>LD b,λb z=>absurd z (LD b),e0.AJ,e0.FH⟩,
  rfl,e0.bare,Un.kept hk,⟨_,x.toInCall.ns,λi y v h1 h2 h3=>?_⟩,λy c h=>⟨_,x.cell y c h⟩,e0.hok.fresh (Wc _),λy c h=>?_,λp hp=>absurd (show p∈([]:List (aI×Obj))from hp) (by simp),e0.hok.kept hk,?_⟩
 ·exact name_of_addr x.apart (Xp h1) (Xp h2)
 ·have hy:scope.names.lookup y=af .cell\/scope.names.lookup y=af .free:=hy;rcases hy with hy|hy
  ·exact ut hy
  ·exact absurd rfl (S.GB _ (Xp hy))
 ·exact Xg (x.above y c (Xp h))
 ·have hi:i<vs.length:=by
   unfold start at h2;by_cases hi:i<vs.length
   ·exact hi
   ·rw[Wx (by simpa using hi)]at h2;rw[Yz]at h2;lia
  have ha:vs[i]?=af v:=by
   unfold start at h2;rw[Ws (by simpa using hi),Xm]at h2;cases e:vs[i]? with|none=>simp_all|some a=>simp_all
  obtain⟨u,hu,rv⟩:=r.get ha;have hp:ps[i]?=af y:=by rw[←S.pre,X3 (by lia)];exact h1
  have Rl:ps.Nodup:=by rw[←S.pre];exact S.nd.sublist (nv _ _)
  refine⟨u,rv,?_⟩;rcases S.par y (Xb hp)with k|k
  ·exact .inl ⟨k,sI Rl hp hu k⟩
  ·obtain⟨c,e⟩:=ut (n:=s.heap.objs.size+1) k;refine .inr ⟨.inl k,c,e,?_⟩;have q:=x.cell y c e;rw[sJ Rl hp hu (by show scope.names.lookup y≠_;rw[k];decide)]at q;exact q
 ·exact e0.hok.fresh (Xg (x.above y c (Xp h)))
 ·unfold start;show _=N.length
  simp_all
theorem Ti{K:aT}{params:Arguments}{body:List fT}{scope:Scope}{dV kV doc pm cdv ct oc:av}{an od:Option aI}{osl:Array (Option av)}{N ps:List Str}{sp:Sp}(lk:K.lookup f=af ⟨oc,od,.func (f6 name qual params body scope dV kV doc pm an cdv ct),osl⟩)(hcd:i0 K cdv qual=ai)(S:A7 N ps scope)(len:∀vs H Q E,sp vs H Q E->vs.length=ps.length)(hbody:∀(A:cK)(outer:List Env)(s:aE)(H:Hp)(vs:List V)(Q:VK)(E:XK),rj k (A.deeper (envOfC qual scope s.heap.objs.size f cdv))->sp vs H Q E->
   ∃t,C2 (iY CX P w K mg base N qual scope f cdv A outer s H E) body t/\t {nx:=λ_ H'=>Q .non H',rt:=Q} (start N vs) H):
  ya P w K mg base CX (k+1) f (f6 name qual params body scope dV kV doc pm an cdv ct) ps sp:=by
 refine⟨len,λA outer s H args us vs Q E hr e0 hb r hsp=>?_⟩;have hl:=len _ _ _ _ hsp;have KX:K.In s.heap:=e0.mod.IU.keeps λb o e=>(e0.bs b o e).1;have lim:s.heap.NoLimit:=e0.mod.nolimit.keeps λb o e=>(e0.bs b o e).1;have hkind:∀y∈ps.zip us,scope.names.lookup y.1=af .local\/(scope.names.lookup y.1=af .cell/\((cellsFrom (s.heap.objs.size+1) scope.names []).lookup y.1).isSome=ai):=λ⟨n,v⟩ hy=>by
  rcases S.par n (qa hy).1 with q|q
  ·exact .inl q
  ·exact .inr ⟨q,nN _ _ _ (.inl q)⟩
 refine codeAny_call_function hr.depth (KX _ _ lk) rfl S.co S.gen rfl (PySem.W.codeRec_of KX hcd) (hb _ _ _ _ ?_);refine wpAny_newFunctionEnv_cells S.kind hkind λenv he s1 x=>?_;subst he;refine⟨lim.keeps x.toInCall.keep,codeAny_func ?_⟩;obtain⟨t,ht,hq⟩:=hbody A outer s H vs Q E (hr.deeper _) hsp;have I:Inv (iY CX P w K mg base N qual scope f cdv A outer s H E) [] (start N vs) H s1:=Ca S hr.hd e0 hl r x;refine Xw (ht [] s1 (start N vs) H _ I hq) (λfl s' hs=>?_) λe s' hs=>hs;have fin:∀{σ':St}{H':Hp}{v:V}{u:av},Inv (iY CX P w K mg base N qual scope f cdv A outer s H E) [] σ' H' s'->RelV v u->Q v H'->CE outer P w H s Q u s':=
  λ{σ' H' v u} J rv q=>⟨v,H',J.os,J.bare,J.base,J.hok,rv,q⟩
 cases fl with
 |ret u=>obtain⟨v,σ',H',J,rv,q⟩:=hs;exact fin J rv q
 |next=>obtain⟨σ',H',J,q⟩:=hs;exact fin (v:=V.non) (u:=Value.none) J rfl q
 |brk=>obtain⟨_,_,_,q⟩:=hs;lia
 |cont=>obtain⟨_,_,_,q⟩:=hs;lia
section
variable{X:Cx}{x:Str}{p pos:Pos}{e:bE}{es:List bE}{t:TA}{id T:String}{r:List V->Hp->VK->Prop}
def RE(r:List V->Hp->VK->Prop)(t:TA):TE:=λσ H Q=>t σ H λvs H1=>r vs H1 Q
def gU(hc:bj X (.builtin id) r)(hg:Gl X x)(hm:X.mg x=ah)(hv:bootBuiltins x=af (.builtin id))(ha:PA X (e::es) t)(hn:x≠ "__name__" :=by decide)(hdb:(x==("__debug__" :Str))=false:=by decide)(he:starEach (e::es) X.env=(ay,eval e X.env)::starEach es X.env:=by rfl)(hpl:(backTo pos (starEach es X.env)).any (·.1)=false:=by rfl):PE X (.Call (.Name x p) (e::es) [] pos) (RE r t):=by intro pins s σ H Q I h;refine wpAny_Call_Name_kw (jD I hg hm hv ?_ hn hdb);exact PyProof.Rows.callWith_builtin1 (ja (ha pos pins s σ H _ I h) λus s1 z=>bJ z λvs H1 I1 r1 q1=>hc pins s1 σ H1 vs us Q I1 r1 q1) he hpl
def jl(hc:bj X (.type T) r)(hg:Gl X x)(hm:X.mg x=ah)(hv:bootBuiltins x=af (.type T))(ha:PA X (e::es) t)(hn:x≠ "__name__" :=by decide)(hdb:(x==("__debug__" :Str))=false:=by decide)(he:starEach (e::es) X.env=(ay,eval e X.env)::starEach es X.env:=by rfl)(hpl:(backTo pos (starEach es X.env)).any (·.1)=false:=by rfl):PE X (.Call (.Name x p) (e::es) [] pos) (RE r t):=by intro pins s σ H Q I h;refine wpAny_Call_Name_kw (jD I hg hm hv ?_ hn hdb);exact YL (ja (ha pos pins s σ H _ I h) λus s1 z=>bJ z λvs H1 I1 r1 q1=>hc pins s1 σ H1 vs us Q I1 r1 q1) he hpl
end
end L2
namespace HT
open PySem PyProof.Rows
def lexLt:List Int->List Int->Bool
 |[],[]=>ay|[],_::_=>ai|_::_,[]=>ay|x::xs,y::ys=>if x=y then lexLt xs ys else decide (x<y)
section
variable{prog:ck}{w:cy}{A:cK}{E:av->aE->Prop}{s:aE}
def Kp(ht:IsTup s.heap t vs.toArray)(hb:IsTup s.heap b ws.toArray)(hv:vs≠ [])(h1:ws=[]->Q (.ref t) s)(h2:ws≠ []->Q (.ref s.heap.objs.size) {s with heap:=s.heap.push {cls:= .type "tuple",data:= .seq (vs++ws).toArray}})(hsz:vs.length+ws.length<=aS):bg (model prog w) A (binaryOp .Add (.ref t) (.ref b)) Q E s:=by
 obtain⟨⟨cls,dd,data,sl⟩,ho,hc,n,hd⟩:=id ht;obtain⟨⟨cls2,dd2,data2,sl2⟩,ho2,hc2,n2,hd2⟩:=id hb;simp only at hc hd hc2 hd2;subst hc hd hc2 hd2;have e:vs.toArray++ws.toArray=(vs++ws).toArray:=by simp
 by_cases hw:ws=[]
 ·exact concat_meets ⟨_,ho,rfl⟩ ⟨_,ho2,rfl⟩ noFill_tuple_add seq_tuple_add iO ia (gI _ _)
   (tuple_addW1 t b vs.toArray ws.toArray n n2 dd dd2 sl sl2 (by simpa using hv) (by simp[hw])) ⟨ho,ho2,h1 hw⟩
 ·refine concat_meets ⟨_,ho,rfl⟩ ⟨_,ho2,rfl⟩ noFill_tuple_add seq_tuple_add iO ia (gI _ _)
   (tuple_addW2 t b vs.toArray ws.toArray n n2 dd dd2 sl sl2 (by simpa using hv) (by simpa using hw) (by simp_all)) ⟨ho,ho2,?_⟩
  rw[e];exact h2 hw
def kL(n d:Nat):Option Int->Nat
 |none=>d|some v=>if v<0 then(v+(n:Int)).toNat else min v.toNat n
def uw(n d:Nat):kL n d ah=d:=rfl
def xO(n d k:Nat):kL n d (af (k:Int))=min k n:=by show(if(k:Int)<0 then((k:Int)+(n:Int)).toNat else min (k:Int).toNat n)=min k n;rw[if_neg (by lia),Yy]
theorem O8(n d:Nat)(hd:d<=n)(o:Option Int):kL n d o<=n:=by
 cases o with
 |none=>exact hd|some v=>
  show(if v<0 then(v+(n:Int)).toNat else min v.toNat n)<=n;by_cases hv:v<0
  ·rw[if_pos hv];lia
  ·rw[if_neg hv];exact ua _ _
def xP(v:Int)(n d:Nat):(if v<0 then max (v+(n:Int)) 0 else min v (n:Int))=((kL n d (af v):Nat):Int):=by
 show(if v<0 then max (v+(n:Int)) 0 else min v (n:Int))=(((if v<0 then(v+(n:Int)).toNat else min v.toNat n):Nat):Int);by_cases hv:v<0
 ·lia
 ·simp only[if_neg hv];lia
def zN(lo hi:Option Int)(n:Nat):Builtin.Slice.sliceAdjust lo hi 1 (n:Int)=(((kL n 0 lo:Nat):Int),((kL n n hi:Nat):Int)):=by
 have h1:¬((1:Int)<0):=by lia
 unfold Builtin.Slice.sliceAdjust;simp only[h1,Xd];refine Prod.ext ?_ ?_
 ·cases lo with|none=>rfl|some v=>exact xP v n 0
 ·cases hi with|none=>rfl|some v=>exact xP v n n
def zO(i j:Nat):Builtin.Slice.slicePlaces (i:Int) (j:Int) 1=j - i:=by
 unfold Builtin.Slice.slicePlaces;have h1:(1:Int)>0:=by lia
 simp only[h1,if_true,Int.ediv_one];split<;>lia
def pX(p:IsPart v o)(h:Q o s):bg (model prog w) A (Builtin.Slice.slicePartIndex v) Q E s:=by
 cases p with|none=>exact slicePart_none h|int i t=>exact slicePart_int h
def iZ{lo hi:Option Int}{Q:Int×Int×Nat->aE->Prop}(hs:s.heap.IsSliceOf sl vl vu .none)(pl:IsPart vl lo)(pu:IsPart vu hi)(h:Q (((kL n 0 lo:Nat):Int),1,kL n n hi - kL n 0 lo) s):bg (model prog w) A (Builtin.Slice.sliceApplied (.ref sl) (pure (n:Int))) Q E s:=by obtain⟨os,hos,hcs,hds⟩:=id hs;unfold Builtin.Slice.sliceApplied Builtin.Slice.sliceFields;refine My (My (W3 hos hds (x:=vl) rfl (My (W3 hos hds (x:=vu) rfl (My (W3 hos hds (x:= .none) rfl (V8 ?_)))))));refine My (slicePart_none ?_);show bg _ _ (if((1:Int)==0)=ai then _ else _) _ _ s;rw[if_neg (by decide)];refine My (pX pl (My (pX pu (My (V8 ?_)))));show bg _ _ (match Builtin.Slice.sliceAdjust lo hi 1 (n:Int)with|(lo,hi)=>pure (lo,(1:Int),Builtin.Slice.slicePlaces lo hi 1)) _ _ s;rw[zN lo hi n];show bg _ _ (pure (((kL n 0 lo:Nat):Int),(1:Int),Builtin.Slice.slicePlaces ((kL n 0 lo:Nat):Int) ((kL n n hi:Nat):Int) 1)) _ _ s;rw[zO];exact V8 h
def Gz(xs:Array av)(i k:Nat):((bX k).filterMap λ(m:Nat)=>xs[((i:Int)+(m:Int)*1).toNat]?).toArray=((xs.toList.drop i).take k).toArray:=by
 have e:(λ(m:Nat)=>xs[((i:Int)+(m:Int)*1).toNat]?)=λm=>xs[i+m]?:=by
  funext m;have:((i:Int)+(m:Int)*1).toNat=i+m:=by lia
  rw[this]
 rw[e];have:=pick_run xs i k;rw[sF]at this;have e2:((λx=>xs[x]?) ∘ λx=>i+x)=λm=>xs[i+m]?:=rfl;lia
def nY{lo hi:Option Int}(ht:IsTup s.heap t items)(hs:s.heap.IsSliceOf sl vl vu .none)(pl:IsPart vl lo)(pu:IsPart vu hi)(hw:¬(kL items.size 0 lo=0/\kL items.size items.size hi=items.size))(h:Q (.ref s.heap.objs.size) {s with heap:=s.heap.push {cls:= .type "tuple",data:= .seq ((items.toList.drop (kL items.size 0 lo)).take (kL items.size items.size hi - kL items.size 0 lo)).toArray}})(hsz:items.size<=aS):bg (model prog w) A (getItem (.ref t) (.ref sl)) Q E s:=by
 have C4:sizeOk (.seq ((items.toList.drop (kL items.size 0 lo)).take (kL items.size items.size hi - kL items.size 0 lo)).toArray):=by show((items.toList.drop (kL items.size 0 lo)).take (kL items.size items.size hi - kL items.size 0 lo)).toArray.size<=aS;rw[WX,YG,Zy,Xh];lia
 have hj:kL items.size items.size hi<=items.size:=O8 _ _ (Wc _) hi;obtain⟨os,hos,hcs,hds⟩:=id hs;have hTs:s.TypeIs (.ref sl) "slice" :=⟨os,hos,hcs⟩
 unfold getItem
 try with_reducible refine Xl ?_
 first|refine My (V8 ?_)|skip
 refine My (wpAny_sequenceKey ht.typeIs (by decide) ?_);refine My (Xf (name:=Str.ofString "__getitem__") ht.typeIs Xx
  (WY Xx ht.typeIs entry_tuple_getitem ?_ (args_tuple_getitem _ _)))
 show bg _ _ (Builtin.Tuple.tupleItemsOf (.ref t)>>=_) _ _ s;refine My (tupleItemsOf_ ht ?_);refine My (Yn hTs ?_);rw[if_pos (by decide)];refine My (iZ hs pl pu ?_);have hno:¬((((kL items.size 0 lo:Nat):Int)==0 && (1:Int)==1 && (kL items.size items.size hi - kL items.size 0 lo)==items.size)=ai):=by intro q;rw[WT,WT]at q;have q1:((kL items.size 0 lo:Nat):Int)=0:=eq_of_beq q.1.1;have q2:kL items.size items.size hi - kL items.size 0 lo=items.size:=eq_of_beq q.2;exact hw ⟨by lia,by lia⟩
 show bg _ _ (if(((kL items.size 0 lo:Nat):Int)==0 && (1:Int)==1 && (kL items.size items.size hi - kL items.size 0 lo)==items.size)=ai then _ else _) _ _ s;rw[if_neg hno,Gz]
 first
  |exact My (m:=Builtin.Tuple.tupleExact _) (W5 (V8 ⟨_,rfl,V8 h⟩) C4)|exact My (m:=Builtin.Tuple.tupleExact _) (W5 (My (V8 (V8 ⟨_,rfl,V8 h⟩))) C4)|exact My (My (m:=Builtin.Tuple.tupleExact _) (W5 (V8 (V8 ⟨_,rfl,V8 h⟩)) C4))|exact My (My (m:=Builtin.Tuple.tupleExact _) (W5 (V8 ⟨_,rfl,V8 h⟩) C4))
end
end HT
namespace L2
open PySem PySem.Spec PyProof.Rows
abbrev TO:=St->Hp->(Option Int->Hp->Prop)->Prop
def PO(X:Cx)(e:Option bE)(t:TO):Prop:=
 ∀(pins:List (aI×Obj))(s:aE)(σ:St)(H:Hp)(Q:Option Int->Hp->Prop),Inv X pins σ H s->t σ H Q->
  bg (model X.prog X.w) X.A (evalPart e X.env) (λu s'=>∃o H',Inv X pins σ H' s'/\IsPart u o/\Q o H') X.xe s
def Kq:TO:=λ_ H Q=>Q ah H
def Tj(t:TE):TO:=λσ H Q=>t σ H λx H1=>∃i,x= .int i/\Q (af i) H1
theorem intsAre_of:∀{us:List av},Vals (ns.map V.int) us->IntsAre us ns:=by
 induction ns with
 |nil=>intro us r;rw[WW]at r;cases r;exact .nil|cons n ns ih=>
  intro us r;rw[Wh]at r;cases r with
  |cons r1 r2=>obtain⟨t,e⟩:=r1;subst e;exact .cons n t (ih r2)
section
variable{X:Cx}{e:bE}{te:TE}{lo hi:Option bE}{tl th:TO}{pos p2:Pos}
def xQ:PO X ah Kq:=by intro pins s σ H Q I h;rw[evalPart_none];exact V8 ⟨ah,H,I,.none,h⟩
def m7(h:PE X e te):PO X (af e) (Tj te):=by intro pins s σ H Q I hw;rw[evalPart_some];refine ja (h pins s σ H _ I hw) λu s1 zz=>?_;refine bJ zz λx H1 I1 r1 q1=>?_;obtain⟨i,rfl,q⟩:=q1;obtain⟨t,rfl⟩:=r1;exact⟨af i,H1,I1,.int i t,q⟩
def MS(X:Cx)(r:V->Option Int->Option Int->Hp->VK->Prop):Prop:=
 ∀(pins:List (aI×Obj))(s:aE)(σ:St)(H:Hp)(x:V)(v vl vu:av)(lo hi:Option Int)(sl:aI)(Q:VK),Inv X pins σ H s->RelV x v->s.heap.IsSliceOf sl vl vu .none->IsPart vl lo->IsPart vu hi->r x lo hi H Q->
  ∃T id,typeLookup (.type T) "__getitem__" =pure (af (.builtin id))/\s.TypeIs v T/\bg (model X.prog X.w) X.A (getItem v (.ref sl)) (EP X pins σ Q) X.xe s
def UR(r:V->Option Int->Option Int->Hp->VK->Prop)(te:TE)(tl th:TO):TE:=λσ H Q=>te σ H λx H1=>tl σ H1 λl H2=>th σ H2 λu H3=>r x l u H3 Q
def oO(hr:MS X r)(he:PE X e te)(hl:PO X lo tl)(hu:PO X hi th):PE X (.Subscript e (.Slice lo hi ah p2) pos) (UR r te tl th):=by intro pins s σ H Q I h;refine Subscript_ (ja (he pins s σ H _ I h) λv s1 zz=>?_);refine bJ zz λx H1 I1 r1 q1=>?_;refine wpAny_Slice (ja (hl pins s1 σ H1 _ I1 q1) λvl s2 z=>bJ z λl H2 I2 pl q2=>ja (hu pins s2 σ H2 _ I2 q2) λvu s3 zz=>?_);obtain⟨u,H3,I3,pu,q3⟩:=zz;rw[evalPart_none];refine V8 ?_;have I4:Inv X pins σ H3 {s3 with heap:=s3.heap.push {cls:= .type "slice",data:= .fields #[vl,vu,.none]}}:=I3.kept (t':=s3.toks) λb ob q=>V9 _ q;obtain⟨T,id,hT,ht,hg⟩:=hr pins {s3 with heap:=s3.heap.push {cls:= .type "slice",data:= .fields #[vl,vu,.none]}} σ H3 x v vl vu l u s3.heap.objs.size Q I4 r1 (Heap.IsSliceOf.new ..) pl pu q3;show bg (model X.prog X.w) X.A (subscriptTail e (.Slice lo hi ah p2) v (.ref s3.heap.objs.size)) (EP X pins σ Q) X.xe {s3 with heap:=s3.heap.push {cls:= .type "slice",data:= .fields #[vl,vu,.none]}};exact tail_any (ops:=[.ref s3.heap.objs.size,v]) ht hT hg (by rfl)
def lK(xs:List V)(lo hi:Option Int):List V:=(xs.drop (HT.kL xs.length 0 lo)).take (HT.kL xs.length xs.length hi - HT.kL xs.length 0 lo)
def oA(xs:List V)(lo hi:Option Int):(lK xs lo hi).length<=xs.length:=by unfold lK;rw[YG,Zy];lia
def Vs(K:aT):V->Option Int->Option Int->Hp->VK->Prop:=λx lo hi H Q=>∃a xs,x= .ref a/\tP K H a xs/\
 ¬(HT.kL xs.length 0 lo=0/\HT.kL xs.length xs.length hi=xs.length)/\∀p,H p=ah->Q (.ref p) (upd H p (.tup (lK xs lo hi)))
def O9:MS X (Vs X.K):=by
 intro pins s σ H x v vl vu lo hi sl Q I rx hs pl pu h;obtain⟨a,xs,rfl,hx,hw,q⟩:=h;cases rx;obtain⟨its,r,ht,hz⟩:=I.tuple hx;have hlen:its.toArray.size=xs.length:=by rw[WX];exact r.length.symm
 refine⟨"tuple",_,Xx.lookup,ht.typeIs,?_⟩;refine HT.nY ht hs pl pu (by rw[hlen];exact hw) ?_ (by rw[hlen];exact hz);rw[hlen];refine⟨.ref s.heap.objs.size,_,I.laid (t':=s.toks) (o:= .tup (lK xs lo hi)) (λb ob q=>V9 _ q) (Wc _) ?_,rfl,q _ (I.hok.fresh (Wc _))⟩;exact⟨Wa (oA xs lo hi) hz,_,(r.drop (HT.kL xs.length 0 lo)).take (HT.kL xs.length xs.length hi - HT.kL xs.length 0 lo),IsTup.new _ _,_,Wf _ rfl,rfl,rfl⟩
def Tp(K:aT):R2:=λx y H Q=>∃a b xs ys,x= .ref a/\y= .ref b/\tP K H a xs/\tP K H b ys/\xs≠ []/\xs.length+ys.length<=aS/\
 (ys=[]->Q (.ref a) H)/\(ys≠ []->∀p,H p=ah->Q (.ref p) (upd H p (.tup (xs++ys))))
def Vals.B5(r:Vals xs us):us=[] ↔ xs=[]:=by
 cases r with|nil=>simp|cons _ _=>simp
def Kr:BO X (binaryOp .Add) (Tp X.K):=by intro pins s σ H x y v u Q I rx ry h;obtain⟨a,b,xs,ys,rfl,rfl,ha,hb,hx,hz,q1,q2⟩:=h;cases rx;cases ry;obtain⟨its,r1,p1,_⟩:=I.tuple ha;obtain⟨its2,r2,p2,_⟩:=I.tuple hb;refine HT.Kp p1 p2 (λz=>hx (r1.B5.mp z)) (λz=>⟨.ref a,H,I,rfl,q1 (r2.B5.mp z)⟩) (λz=>?_) (by rw[←r1.length,←r2.length];exact hz);refine⟨.ref s.heap.objs.size,_,I.laid (t':=s.toks) (o:= .tup (xs++ys)) (λb ob q=>V9 _ q) (Wc _) ?_,rfl,q2 (λw=>z (r2.B5.mpr w)) _ (I.hok.fresh (Wc _))⟩;exact⟨by simp_all,_,r1.append r2,IsTup.new _ _,_,Wf _ rfl,rfl,rfl⟩
end
def CC(n:Nat)(i:Int):Option Nat:=if 0<=i then(if i<n then af i.toNat else ah)else if -(n:Int)<=i then af (i+n).toNat else ah
def BQ{α:Type}(xs:List α)(i:Int):Option α:=(CC xs.length i).bind λj=>xs[j]?
def xR(h:CC n i=af j):seqIndex? i n=af j/\j<n/\ -(n:Int)<=i/\i<n:=by
 unfold CC at h;by_cases h0:0<=i
 ·rw[if_pos h0]at h;by_cases h1:i<n
  ·rw[if_pos h1]at h;have e:i.toNat=j:=Wd h;exact⟨by rw[seqIndex_of h0 h1,e],by lia,by lia,h1⟩
  simp_all
 ·rw[if_neg h0]at h;by_cases h1: -(n:Int)<=i
  ·rw[if_pos h1]at h;have e:(i+n).toNat=j:=Wd h;exact⟨by rw[seqIndex_neg (by lia) h1,e],by lia,h1,by lia⟩
  simp_all
theorem qU{α:Type}{xs:List α}{i:Int}{v:α}(h:BQ xs i=af v):∃j,seqIndex? i xs.length=af j/\xs[j]?=af v/\j<xs.length/\ -(xs.length:Int)<=i/\i<xs.length:=by
 unfold BQ at h;cases e:CC xs.length i with
 |none=>simp_all|some j=>rw[e]at h;obtain⟨h1,h2,h3,h4⟩:=xR e;exact⟨j,h1,h,h2,h3,h4⟩
def xT(b:bE):Prop:=∀o i,subscripted b ay o i=operate [o,i] (getItem o i)
def D7(X:Cx)(r:R2):Prop:=
 ∀(value slice:bE)(pins:List (aI×Obj))(s:aE)(σ:St)(H:Hp)(x y:V)(v u:av)(Q:VK),Inv X pins σ H s->RelV x v->RelV y u->r x y H Q->
  subscripted slice ay v u=operate [v,u] (getItem v u)->bg (model X.prog X.w) X.A (subscriptTail value slice v u) (EP X pins σ Q) X.xe s
def DT(X:Cx)(id:String)(r:V->List V->Hp->VK->Prop):Prop:=
 ∀(pins:List (aI×Obj))(s:aE)(σ:St)(H:Hp)(x:V)(xs:List V)(v:av)(us:List av)(Q:VK),Inv X pins σ H s->RelV x v->Vals xs us->r x xs H Q->
  bg (model X.prog X.w) X.A (call (.builtin id) (v::us)) (EP X pins σ Q) X.xe s
section
variable{X:Cx}{a b:bE}{ta tb:TE}{pos:Pos}
def D7.or(h:D7 X r)(h':D7 X r'):D7 X (λx y H Q=>r x y H Q\/r' x y H Q):=by
 intro value slice pins s σ H x y v u Q I rx ry q hs;rcases q with q|q
 ·exact h value slice pins s σ H x y v u Q I rx ry q hs
 ·exact h' value slice pins s σ H x y v u Q I rx ry q hs
def Tq(hr:D7 X r)(ha:PE X a ta)(hb:PE X b tb)(hs:xT b):PE X (.Subscript a b pos) (MR r ta tb):=by intro pins s σ H Q I h;exact Subscript_ (Gu ha hb I h λv u s2 x y H2 I2 rx ry q=>hr a b pins s2 σ H2 x y v u Q I2 rx ry q (hs _ _))
def Pa(K:aT):R2:=λx y H Q=>∃p xs i v,x= .ref p/\y= .int i/\wc K H p xs/\BQ xs i=af v/\Q v H
def Pb(K:aT):R2:=λx y H Q=>∃p xs i v,x= .ref p/\y= .int i/\tP K H p xs/\BQ xs i=af v/\Q v H
def Pg:R2:=λx y H Q=>∃z i c,x= .str z/\y= .int i/\z.length<=aS/\BQ z.cps.toList i=af c/\Q (.str ⟨#[c]⟩) H
def Ks:D7 X (Pa X.K):=by
 intro value slice pins s σ H x y v u Q I rx ry h hs;obtain⟨p,xs,i,z,rfl,rfl,hq,he,q⟩:=h;cases rx;obtain⟨t,rfl⟩:=ry;obtain⟨its,r,pl,hz⟩:=I.list hq;obtain⟨j,h1,h2,h3,h4,h5⟩:=qU he;obtain⟨w,ew,rw'⟩:=r.get h2;have hl:=r.length;have hn:=jF;have fin:EP X pins σ Q w s:=⟨z,H,I,rw',q⟩
 by_cases h0:0<=i
 ·have hj:i.toNat=j:=by
   rw[seqIndex_of h0 h5]at h1;exact Wd h1
  exact item_listR pl.isList h0 (by lia) (by rw[hj];simpa using ew) fin hs
 ·have hj:(i+(its.toArray.size:Int)).toNat=j:=by
   rw[seqIndex_neg (by lia) h4]at h1;rw[WX,←hl];exact Wd h1
  exact subscriptTail_builtinR (x:=w) pl.isList.typeIs slot_list_getitem.lookup
   (wpAny_getItem_list_neg (Q:=λr s'=>r=w/\EP X pins σ Q r s') pl.isList (by lia) (by simp_all) (by lia) (by rw[hj];simpa using ew) ⟨rfl,fin⟩) hs
def Ph:D7 X (Pb X.K):=by
 intro value slice pins s σ H x y v u Q I rx ry h hs;obtain⟨p,xs,i,z,rfl,rfl,hq,he,q⟩:=h;cases rx;obtain⟨t,rfl⟩:=ry;obtain⟨its,r,pl,hz⟩:=I.tuple hq;obtain⟨j,h1,h2,h3,h4,h5⟩:=qU he;obtain⟨w,ew,rw'⟩:=r.get h2;have hl:=r.length;have hn:=jF;have fin:EP X pins σ Q w s:=⟨z,H,I,rw',q⟩
 exact subscriptTail_builtinR (x:=w) pl.typeIs slot_tuple_getitem.lookup
  (getItem_tuple (j:=j) (Q:=λr s'=>r=w/\EP X pins σ Q r s') pl (by lia) (by lia) (by simp_all) (by simpa using ew) ⟨rfl,fin⟩) hs
def Pj:D7 X Pg:=by
 intro value slice pins s σ H x y v u Q I rx ry h hs;obtain⟨z,i,c,rfl,rfl,hz,he,q⟩:=h;obtain⟨t,rfl⟩:=rx;obtain⟨t',rfl⟩:=ry;obtain⟨j,h1,h2,h3,h4,h5⟩:=qU he;have hl:z.cps.toList.length=z.length:=by simp[Str.length]
 rw[hl]at h1 h4 h5;have hn:=jF;exact tail_any (typeIs_str s z t) slot_str_getitem.lookup (getItem_str (c:=c) (by
  have e1:decide (i< -(2^63:Int))=false:=Yv (by lia);have e2:decide (i>=2^63)=false:=Yv (by lia);rw[e1,e2,Bool.or_false]) (by rw[h1];simpa using h2) ⟨.str ⟨#[c]⟩,H,I.tok _,⟨_,rfl⟩,q⟩) hs
def US(K:aT):R2:=λx y H Q=>Pa K x y H Q\/Pb K x y H Q\/Pg x y H Q
def Pk:D7 X (US X.K):=Ks.or (Ph.or Pj)
def ux(lo hi:Option Int)(n:Nat):(sliceBounds lo hi ah n).1=((HT.kL n 0 lo:Nat):Int)/\(sliceBounds lo hi ah n).2.1=((HT.kL n n hi:Nat):Int)/\(sliceBounds lo hi ah n).2.2=1:=by
 refine⟨?_,?_,rfl⟩
 ·cases lo with
  |none=>rfl|some i=>
   simp only[sliceBounds,HT.kL,vE,show(1:Int)>0 by decide,if_true];by_cases h:i<0
   ·simp only[h,if_true]<;>lia
   ·simp only[h,Xd]<;>lia
 ·cases hi with
  |none=>rfl|some i=>
   simp only[sliceBounds,HT.kL,vE,show(1:Int)>0 by decide,if_true];by_cases h:i<0
   ·simp only[h,if_true]<;>lia
   ·simp only[h,Xd]<;>lia
def tW(its:List av)(lo hi:Option Int):slicePick its.toArray lo hi ah=((its.drop (HT.kL its.length 0 lo)).take (HT.kL its.length its.length hi - HT.kL its.length 0 lo)).toArray:=by obtain⟨h1,h2,h3⟩:=ux lo hi its.toArray.size;unfold slicePick;rw[h1,h2,h3];simp only[sliceRange_one,pick_run,WX]<;>rfl
def Vt(K:aT):V->Option Int->Option Int->Hp->VK->Prop:=λx lo hi H Q=>∃a xs,x= .ref a/\wc K H a xs/\∀p,H p=ah->Q (.ref p) (upd H p (.lst (lK xs lo hi)))
def qW:MS X (Vt X.K):=by intro pins s σ H x v vl vu lo hi sl Q I rx hs pl pu h;obtain⟨a,xs,rfl,hx,q⟩:=h;cases rx;obtain⟨its,r,ht,hz⟩:=I.list hx;have hlen:=r.length;refine⟨"list",_,slot_list_getitem.lookup,ht.isList.typeIs,?_⟩;refine wpAny_getItem_list_slice ht.isList hs pl pu .none (by simp) ?_ (by simp_all);rw[tW,←hlen];refine⟨.ref s.heap.objs.size,_,I.laid (t':=s.toks) (o:= .lst (lK xs lo hi)) (λb ob q=>V9 _ q) (Wc _) ?_,rfl,q _ (I.hok.fresh (Wc _))⟩;exact⟨Wa (oA xs lo hi) hz,_,0,(r.drop (HT.kL xs.length 0 lo)).take (HT.kL xs.length xs.length hi - HT.kL xs.length 0 lo),Wf _ rfl⟩
def uy:bj X (.builtin "len") (λxs H Q=>∃p ys,xs=[.ref p]/\(wc X.K H p ys\/tP X.K H p ys)/\Q (.int ys.length) H):=by
 intro pins s σ H xs us Q I r h;obtain⟨p,ys,rfl,hq,q⟩:=h;obtain⟨u,rfl,rx⟩:=vals1 r;cases rx;have hn:=jF;rcases hq with hq|hq
 ·obtain⟨its,r',pl,hz⟩:=I.list hq;have hlen:=r'.length;exact Calls.call_len_list pl.isList (by simp only[WX]<;>lia) ⟨.int ys.length,H,I.tok _,⟨s.toks+1,by simp_all⟩,q⟩
 ·obtain⟨its,r',pl,hz⟩:=I.tuple hq;have hlen:=r'.length;exact len_tuple pl (by simp only[WX]<;>lia) ⟨.int ys.length,H,I.tok _,⟨s.toks+1,by simp_all⟩,q⟩
def uz:bj X (.builtin "len") (λxs H Q=>∃z,xs=[.str z]/\z.length<=aS/\Q (.int z.length) H):=by intro pins s σ H xs us Q I r h;obtain⟨z,rfl,hz,q⟩:=h;obtain⟨u,rfl,t,rfl⟩:=vals1 r;have hn:=jF;exact len_str (by lia) ⟨.int z.length,H,I.tok _,⟨_,rfl⟩,q⟩
def uA:bj X (.type "list") (λxs H Q=>∃p ys,xs=[.ref p]/\(wc X.K H p ys\/tP X.K H p ys)/\∀l,H l=ah->Q (.ref l) (upd H l (.lst ys))):=by
 intro pins s σ H xs us Q I r h;obtain⟨p,ys,rfl,hq,q⟩:=h;obtain⟨u,rfl,rx⟩:=vals1 r;cases rx;have fin:∀(its:List av),Vals ys its->ys.length<=aS->∀(h':dc)(c':Nat),(∀b o',s.heap.get? b=af o'->h'.get? b=af o')->
   h'.get? s.heap.objs.size=af {cls:= .type "list",dict:=ah,data:= .seq its.toArray c',slots:= #[]}->EP X pins σ Q (.ref s.heap.objs.size) {s with heap:=h'}:=λits r' hz h' c' kp e=>
  ⟨.ref s.heap.objs.size,_,I.laid (t':=s.toks) kp (Wc _) (show bB X.prog X.w _ h' _ (.lst ys)from⟨hz,its,c',r',e⟩),rfl,q _ (I.hok.fresh (Wc _))⟩
 rcases hq with hq|hq
 ·obtain⟨its,r',pl,hz⟩:=I.list hq;have hlen:=r'.length;obtain⟨o,ho,hc,n,hd⟩:=pl.isList;exact call_list_seq p (.inl rfl) ho hc hd (λh' c' kp e=>fin its r' hz h' c' kp e) (by simp_all)
 ·obtain⟨its,r',pl,hz⟩:=I.tuple hq;have hlen:=r'.length;obtain⟨o,ho,hc,n,hd⟩:=pl;exact call_list_seq p (.inr rfl) ho hc hd (λh' c' kp e=>fin its r' hz h' c' kp e) (by simp_all)
def lF:bj X (.type "tuple") (λxs H Q=>∃p ys,xs=[.ref p]/\((wc X.K H p ys/\∀l,H l=ah->Q (.ref l) (upd H l (.tup ys)))\/(tP X.K H p ys/\Q (.ref p) H))):=by
 intro pins s σ H xs us Q I r h;obtain⟨p,ys,rfl,h⟩:=h;obtain⟨u,rfl,rx⟩:=vals1 r;cases rx;rcases h with⟨hq,q⟩|⟨hq,q⟩
 ·obtain⟨its,r',pl,hz⟩:=I.list hq;have hlen:=r'.length;refine call_tuple_list pl.isList (λh' kp=>?_) (by simp_all);have I1:Inv X pins σ H {s with heap:=h'}:=I.kept (t':=s.toks) kp;have I2:Inv X pins σ (upd H h'.objs.size (.tup ys)) {s with heap:=h'.push {cls:= .type "tuple",data:= .seq its.toArray}}:=
   I1.laid (t':=s.toks) (λb o e=>V9 _ e) (Wc _) (show bB X.prog X.w _ _ _ (.tup ys)from⟨hz,its,r',IsTup.new _ _,_,Wf _ rfl,rfl,rfl⟩)
  exact⟨.ref h'.objs.size,_,I2,rfl,q _ (I1.hok.fresh (Wc _))⟩
 ·obtain⟨its,r',pl,hz⟩:=I.tuple hq;exact call_tuple_same pl ⟨.ref p,H,I,rfl,q⟩
def GG(K:aT)(T:String)(x:V)(H:Hp):Prop:=match x with
 |.str _=>T= "str"|.int _=>T= "int"|.ref p=>(T= "list" /\∃xs,wc K H p xs)\/(T= "tuple" /\∃xs,tP K H p xs)\/
   (T= "dict" /\((∃kvs,H p=af (.dK kvs))\/∃kvs,H p=af (.dT kvs)))\/(T= "set" /\∃S n,H p=af (.set S n))
 |_=>False
theorem lL{pins:List (aI×Obj)}{σ:St}{H:Hp}{s:aE}{T:String}{x:V}{v:av}(I:Inv X pins σ H s)(r:RelV x v)(ty:GG X.K T x H):
  s.TypeIs v T/\∀a,v= .ref a->∃ob,s.heap.get? a=af ob/\ob.dict=none:=by
 cases x with
 |str z=>obtain⟨t,rfl⟩:=r;cases(show T= "str" from ty);exact⟨typeIs_str s z t,λ_ e=>nomatch e⟩
 |int i=>obtain⟨t,rfl⟩:=r;cases(show T= "int" from ty);exact⟨typeIs_int s i t,λ_ e=>nomatch e⟩
 |ref p=>
  cases r;rcases ty with⟨rfl,xs,hq⟩|⟨rfl,xs,hq⟩|⟨rfl,hk⟩|⟨rfl,S,n,hk⟩
  ·obtain⟨its,_,pl,_⟩:=I.list hq;refine⟨pl.isList.typeIs,λa e=>?_⟩;cases e;obtain⟨o,n,e,c,hd,_⟩:=pl;exact⟨o,e,hd⟩
  ·obtain⟨o,w1,w2,w3⟩:∃o,s.heap.get? p=af o/\o.cls= .type "tuple" /\o.dict=none:=by
    rcases hq with hq|⟨o,its,n,hk,hc,hs,hz,r⟩
    ·obtain⟨_,its,_,⟨o,g1,g2,_⟩,o2,g3,g4⟩:=hq.ok I.hok
     simp_all
    ·exact⟨o,I.BE p o hk,hc,hs.2.1⟩
   refine⟨⟨o,w1,w2⟩,λa e=>?_⟩
   simp_all
  ·have z:∃o,s.heap.get? p=af o/\o.ExactDict:=by
    rcases hk with⟨kvs,hk⟩|⟨kvs,hk⟩
    ·obtain⟨_,_,_,_,o,_,_,e,ex,_⟩:=I.hok p _ hk
     simp_all
    ·obtain⟨_,_,_,_,o,_,_,e,ex,_⟩:=I.hok p _ hk
     simp_all
   obtain⟨o,e,ex⟩:=z;refine⟨⟨o,e,ex.1⟩,λa e2=>?_⟩;cases e2;exact⟨o,e,ex.2.1⟩
  ·obtain⟨o,_,_,_,e,ex,_⟩:=I.hok p _ hk;refine⟨⟨o,e,ex.1⟩,λa e2=>?_⟩;cases e2;exact⟨o,e,ex.2.1⟩
 |_=>exact False.elim ty
def Vu(K:aT)(T:String)(r:V->List V->Hp->VK->Prop)(to:TE):TE:=λσ H Q=>to σ H λx H1=>GG K T x H1/\r x [] H1 Q
def UU(K:aT)(T:String)(r:V->List V->Hp->VK->Prop)(to:TE)(t:TA):TE:=λσ H Q=>to σ H λx H1=>GG K T x H1/\t σ H1 λxs H2=>r x xs H2 Q
variable{o e:bE}{es:List bE}{to:TE}{t:TA}{name:Str}{apos cpos:Pos}{T id:String}{r:V->List V->Hp->VK->Prop}
def Pn(pa:PlainAttrs T)(slot:Slot T name id)(hty:typeOf (.builtin id)=pure (.type "method_descriptor"))(hm:DT X id r)(ho:PE X o to)(hbase:attributeBase o name X.env (eval o X.env)=eval o X.env:=by rfl)(hline:(apos.endLine==cpos.line)=true:=by rfl):PE X (.Call (.Attribute o name apos) [] [] cpos) (Vu X.K T r to):=by intro pins s σ H Q I h;refine wpAny_Call_method0_late hbase hline (ja (ho pins s σ H _ I h) λv s1 zz=>?_);obtain⟨x,H1,I1,r1,ty,q1⟩:=zz;obtain⟨h1,h2⟩:=lL I1 r1 ty;exact⟨T,id,pa,slot,hty,h1,h2,Calls.callWith_builtin rfl (PySem.evalArgs_none (hm pins s1 σ H1 x [] v [] Q I1 r1 .nil q1))⟩
def zP(pa:PlainAttrs T)(slot:Slot T name id)(hty:typeOf (.builtin id)=pure (.type "method_descriptor"))(hm:DT X id r)(ho:PE X o to)(ha:PA X (e::es) t)(hbase:attributeBase o name X.env (eval o X.env)=eval o X.env:=by rfl)(hfew:((backTo cpos (starEach (e::es) X.env)).all (λx=>!x.1) && (backToKw cpos (keywordEach [] X.env)).all (λx=>x.1.isSome)
   && decide ((e::es).length+([]:List Keyword).length+(if([]:List Keyword).isEmpty then 0 else 1)<30))=true:=by rfl)(hline:(apos.endLine==cpos.line)=true:=by rfl)(hs:starEach (e::es) X.env=(ay,eval e X.env)::starEach es X.env:=by rfl)(hplain:(backTo cpos (starEach es X.env)).any (·.1)=false:=by rfl):
  PE X (.Call (.Attribute o name apos) (e::es) [] cpos) (UU X.K T r to t):=by
 intro pins s σ H Q I h;refine wpAny_Call_method_late hbase hfew hline rfl (ja (ho pins s σ H _ I h) λv s1 zz=>?_);obtain⟨x,H1,I1,r1,ty,q1⟩:=zz;obtain⟨h1,h2⟩:=lL I1 r1 ty;refine⟨T,id,pa,slot,hty,h1,h2,?_⟩;have hA:=ha cpos pins s1 σ H1 _ I1 q1;rw[hs]at hA ⊢;refine Calls.callWith_builtin (by show(ay || (backTo cpos (starEach es X.env)).any (·.1))=ay;lia) (Calls.evalArgs_plain ?_);exact ja hA λus s2 z=>bJ z λvs H2 I2 r2 q2=>hm pins s2 σ H2 x vs v us Q I2 r1 r2 q2
end
def RH(X:Cx)(id:String)(r:V->List V->Hp->VK->Prop):Prop:=
 ∀(pins:List (aI×Obj))(s:aE)(σ:St)(H:Hp)(x:V)(xs:List V)(v:av)(us:List av)(Q:VK),Inv X pins σ H s->RelV x v->Vals xs us->r x xs H Q->
  bg (model X.prog X.w) X.A (call (.builtin id) (v::us)) (EP X pins σ Q) X.xe s
theorem Vals.one:∀{x:V}{us:List av},Vals [x] us->∃u,us=[u]/\RelV x u
 |_,_,.cons r .nil=>⟨_,rfl,r⟩
theorem Vals.eraseIdx:∀{xs:List V}{us:List av}(i:Nat),Vals xs us->Vals (xs.eraseIdx i) (us.eraseIdx i)
 |_,_,_,.nil=> .nil|_,_,0,.cons _ t=>t|_,_,i+1,.cons r t=> .cons r (Vals.eraseIdx i t)
theorem sO{α:Type}:∀(l:List α)(i:Nat),(l.eraseIdx i).length<=l.length
 |[],_=>Wc _|_::_,0=>Yo _|_::r,i+1=>uu (sO r i)
section
variable{X:Cx}{pins:List (aI×Obj)}{σ:St}{H:Hp}{s:aE}{l:aI}{xs ys:List V}
def Inv.E0{its its':List av}(I:Inv X pins σ H s)(hH:H l=af (.lst xs))(e:s.heap.get? l=af {cls:= .type "list",data:= .seq its.toArray n})(hf:f its.toArray=its'.toArray)(hv:Vals ys its')(hz:ys.length<=aS):
  Inv X pins σ (upd H l (.lst ys)) {s with heap:=s.heap.update l (Obj.mapSeq f),toks:=t'}:=by
 have q:=t9 e f;rw[hf]at q;refine I.write (x:=l) (e:=l) (by rw[hH];exact trivial) (.inl rfl) (λb' u hb hu=>(Ww s.heap (Obj.mapSeq f) (Ne.symm hb)).trans hu) ⟨_,q⟩ ?_;exact⟨hz,its',_,hv,q⟩
def Inv.Of(I:Inv X pins σ H s)(hv:Vals ys its)(hz:ys.length<=aS):
  Inv X pins σ (upd H s.heap.objs.size (.lst ys)) {s with heap:=s.heap.push {cls:= .type "list",data:= .seq its.toArray},toks:=t'}:=
 I.laid (λ_ _ q=>V9 _ q) (Wc _) ⟨hz,its,0,hv,Wf _ rfl⟩
theorem Inv.fresh(I:Inv X pins σ H s):H s.heap.objs.size=none:=I.hok.fresh (Wc _)
def Inv.CO(I:Inv X pins σ H s)(hH:H l=af (.lst xs)):xs.length<=aS/\∃(its:List av)(n:Nat),Vals xs its/\xs.length=its.length/\s.heap.get? l=af {cls:= .type "list",data:= .seq its.toArray n}:=by obtain⟨z,its,n,r,e⟩:=I.hok l _ hH;exact⟨z,its,n,r,r.length,e⟩
def uB(h:n<=aS):Builtin.List.listTooLong n=false:=by
 unfold Builtin.List.listTooLong
 simp_all
end
section
variable{X:Cx}
def Ku:V->List V->Hp->VK->Prop:=λx vs H Q=>∃l xs y,x= .ref l/\vs=[y]/\H l=af (.lst xs)/\xs.length<aS/\Q .non (upd H l (.lst (xs++ [y])))
def Cd:RH X "list.append" Ku:=by intro pins s σ H x vs v us Q I rx rv h;obtain⟨l,xs,y,rfl,rfl,hH,hz,q⟩:=h;cases rx;obtain⟨u,rfl,ru⟩:=rv.one;obtain⟨z,its,n,r,hl,e⟩:=I.CO hH;refine call_meets F.slot_list_append ⟨_,e,rfl⟩ F.entry_list_append (F.args_list_append_2 _ _) (sP l its.toArray n u (by simp_all)) ⟨e,?_⟩;refine⟨.non,_,I.E0 (its':=its++ [u]) hH e (by simp) (r.append (.cons ru .nil)) ?_,rfl,q⟩;rw[WK,Yc];lia
def Pq:V->List V->Hp->VK->Prop:=λx vs H Q=>∃l xs i k y,x= .ref l/\vs=[.int i]/\H l=af (.lst xs)/\ -(2^63)<=i/\i<2^63/\seqIndex? i xs.length=af k/\xs[k]?=af y/\Q y (upd H l (.lst (xs.eraseIdx k)))
def GC:RH X "list.pop" Pq:=by
 intro pins s σ H x vs v us Q I rx rv h;obtain⟨l,xs,i,k,y,rfl,rfl,hH,h1,h2,hk,hy,q⟩:=h;cases rx;obtain⟨u,rfl,ru⟩:=rv.one;obtain⟨t,rfl⟩:=ru;obtain⟨z,its,n,r,hl,e⟩:=I.CO hH;obtain⟨w,hw,rw'⟩:=r.get hy;refine call_meets F.slot_list_pop ⟨_,e,rfl⟩ F.entry_list_pop (F.args_list_pop_2 _ _)
  (MeetsSeq.list_pop_at l its.toArray n i t k w (fitsIndex_both h1 h2) (by simp_all) (by simp_all) (by simp_all)) ⟨e,?_⟩
 refine⟨y,_,I.E0 (its':=its.eraseIdx k) hH e ?_ (r.eraseIdx k) ?_,rw',q⟩
 ·simp
 ·have:=sO xs k;lia
def Vv:R2:=λx y H Q=>∃l b xs zs,x= .ref l/\y= .ref b/\H l=af (.lst xs)/\H b=af (.lst zs)/\xs.length+zs.length<=aS/\∀p,H p=ah->Q (.ref p) (upd H p (.lst (xs++zs)))
def Ce:BO X (binaryOp .Add) Vv:=by
 intro pins s σ H x y v u Q I rx ry h;obtain⟨l,b,xs,zs,rfl,rfl,hH,hB,hz,q⟩:=h;cases rx;cases ry;obtain⟨z,its,n,r,hl,e⟩:=I.CO hH;obtain⟨z2,its2,n2,r2,hl2,e2⟩:=I.CO hB;refine PySem.P.add_list e e2 ?_ (by simp_all);have ea:its.toArray++its2.toArray=(its++its2).toArray:=by simp
 rw[ea];exact⟨.ref _,_,I.Of (t':=s.toks) (r.append r2) (by simp_all),rfl,q _ I.fresh⟩
end
section
variable{κ:Type}[DecidableEq κ]
def dF(kvs:List (κ×V))(k:κ):Option V:=(kvs.find? λkv=>decide (kv.1=k)).map (·.2)
def putK(kvs:List (κ×V))(k:κ)(v:V):List (κ×V):=
 if(kvs.any λkv=>decide (kv.1=k))=ai then kvs.map (λkv=>if kv.1=k then(kv.1,v)else kv)else kvs++ [(k,v)]
def j8(kvs:List (κ×V))(k:κ):List (κ×V):=kvs.filter λkv=>decide (kv.1≠k)
def j9{k:κ}(e:p.1=k):dF (p::r) k=af p.2:=by simp[dF,XC,e]
def kh{k:κ}(e:¬p.1=k):dF (p::r) k=dF r k:=by simp[dF,XC,e]
theorem uC(k:κ):∀kvs:List (κ×V),(kvs.any λkv=>decide (kv.1=k))=(dF kvs k).isSome
 |[]=>rfl|p::r=>by
  rw[kF];by_cases e:p.1=k
  ·simp only[j9 e,Xz e,Bool.true_or,Option.isSome_some]
  ·rw[kh e,Yv e,Bool.false_or];exact uC k r
def jz(kvs:List (κ×V))(k:κ)(v:V):(putK kvs k v).length<=kvs.length+1:=by
 unfold putK;split
 ·simp
 simp
theorem fG.xD(r:fG o u):o.isSome=u.isSome:=by
 cases o with
 |none=>cases u with|none=>rfl|some _=>exact(show False from r).elim
 |some _=>cases u with|none=>exact(show False from r).elim|some _=>rfl
theorem KV.val(r:KV kvs vs)(k:κ):fG (dF kvs k) (valueAt vs k):=by
 unfold KV at r
 induction r with
 |nil=>exact True.intro
 |@cons p q ps qs h t ih=>
  obtain⟨h1,h2⟩:=h;by_cases e:p.1=k
  ·have e':q.1=k:=h1.symm.trans e;have b:valueAt (q::qs) k=af q.2:=by simp[valueAt,XC,e']
   rw[j9 e,b];exact h2
  ·have e':¬q.1=k:=λz=>e (h1.trans z);have b:valueAt (q::qs) k=valueAt qs k:=by simp[valueAt,XC,e']
   rw[kh e,b];exact ih
theorem KV.any(r:KV kvs vs)(k:κ):(kvs.any λkv=>decide (kv.1=k))=vs.any λkv=>decide (kv.1=k):=by
 unfold KV at r
 induction r with
 |nil=>rfl|cons h t ih=>simp_all
theorem KV.repl(r:KV kvs vs)(k:κ)(ry:RelV y u):
  KV (kvs.map λkv=>if kv.1=k then(kv.1,y)else kv) (vs.map λkv=>if kv.1=k then(kv.1,u)else kv):=by
 unfold KV at r ⊢
 induction r with
 |nil=>exact .nil|@cons p q ps qs h t ih=>rw[Wh,Wh];refine .cons ?_ ih;lia
def KV.put(r:KV kvs vs)(k:κ)(ry:RelV y u):KV (putK kvs k y) (stored vs k u):=by
 unfold putK stored;rw[r.any k];by_cases e:(vs.any λkv=>decide (kv.1=k))=ai
 ·rw[if_pos e,if_pos e];exact r.repl k ry
 ·rw[if_neg e,if_neg e];exact Paired.snoc r ⟨rfl,ry⟩
theorem KV.drop(r:KV kvs vs)(k:κ):KV (j8 kvs k) (without vs k):=by
 unfold KV at r ⊢;unfold j8 without
 induction r with
 |nil=>exact .nil|@cons p q ps qs h t ih=>
  obtain⟨h1,h2⟩:=h;rw[u7,u7];by_cases e:p.1=k
  ·lia
  ·have e':¬q.1=k:=λz=>e (h1.trans z);have a:decide (p.1≠k)=true:=by simp[e]
   have b:decide (q.1≠k)=true:=by simp[e']
   rw[if_pos a,if_pos b];exact .cons ⟨h1,h2⟩ ih
theorem KV.keys{vs:List (κ×av)}(r:KV kvs vs):kvs.map (·.1)=vs.map (·.1):=by
 unfold KV at r
 induction r with
 |nil=>rfl|cons h t ih=>simp_all
theorem KV.length{kvs:List (κ×V)}{vs:List (κ×av)}(r:KV kvs vs):kvs.length=vs.length:=Paired.length r
def GD(kvs:List (κ×V))(k:κ):(j8 kvs k).length<=kvs.length:=Xe _ _
end
theorem kj(r:RelV (kV k) u):(aX P w).is k u=true:=by
 cases k with
 |inl i=>obtain⟨t,e⟩:=(show ∃t,u=Value.int i t from r);subst e;exact w6 P w i t
 |inr x=>obtain⟨t,e⟩:=(show ∃t,u=Value.str x t from r);subst e;exact xf P w x t
theorem sS:∀{ks:List Key}{us:List av},Vals (ks.map kV) us->ItemsAre (aX P w) ks us
 |[],_,r=>by rw[WW]at r;cases r;exact .nil|k::ks,_,r=>by
  rw[Wh]at r;cases r with|cons h t=>exact .cons (kj h) (sS t)
abbrev KT(H:Hp):List (List Key×V)->List (List Key×aI×av)->Prop:=Paired λp q=>p.1=q.1/\H q.2.1=af (.tup (p.1.map kV))/\RelV p.2 q.2.2
theorem KT.val(r:KT H kvs xs)(k:List Key):fG (dF kvs k) ((atKey xs k).map (·.2)):=by
 induction r with
 |nil=>exact True.intro
 |@cons p q ps qs h t ih=>
  obtain⟨h1,_,h2⟩:=h;by_cases e:p.1=k
  ·have e':q.1=k:=h1.symm.trans e;have b:atKey (q::qs) k=af q.2:=by simp[atKey,XC,e']
   rw[j9 e,b];exact h2
  ·have e':¬q.1=k:=λz=>e (h1.trans z);have b:atKey (q::qs) k=atKey qs k:=by simp[atKey,XC,e']
   rw[kh e,b];exact ih
theorem KT.repl(r:KT H kvs xs)(k:List Key)(ry:RelV y u):
  KT H (kvs.map λkv=>if kv.1=k then(kv.1,y)else kv) (xs.map (putAt k u)):=by
 induction r with
 |nil=>exact .nil|@cons p q ps qs h t ih=>
  rw[Wh,Wh];refine .cons ?_ ih;obtain⟨h1,h2,h3⟩:=h;unfold putAt;by_cases e:p.1=k
  ·rw[if_pos e,if_pos (h1.symm.trans e)];exact⟨h1,h2,ry⟩
  simp_all
def KT.put(r:KT H kvs xs)(k:List Key)(hb:H b=af (.tup (k.map kV)))(ry:RelV y u):
  KT H (putK kvs k y) (storedH xs k b u):=by
 have e:(kvs.any λkv=>decide (kv.1=k))=(atKey xs k).isSome:=by rw[uC,(r.val k).xD,Zk]
 unfold putK storedH;rw[e];by_cases q:(atKey xs k).isSome=ai
 ·rw[if_pos q,if_pos q];exact r.repl k ry
 ·rw[if_neg q,if_neg q];exact Paired.snoc r ⟨rfl,hb,ry⟩
def KT.keeps(r:KT H kvs xs)(ht:∀b ys,H b=af (.tup ys)->H' b=af (.tup ys)):KT H' kvs xs:=
 Paired.F5 r λ_ _ z=>⟨z.1,ht _ _ z.2.1,z.2.2⟩
section
variable{P:ck}{w:cy}{H:Hp}{h:dc}{a:aI}
def Jw(ok:zo P w H h)(e:Rd H a u):bB P w H h a u:=e.ok ok
def km(ok:zo P w H h)(e:Rd H a (.dK kvs)):kvs.length<=aS/\(a==sysModules)=ay/\∃vs,KV kvs vs/\h.DictOf (aX P w) a vs:=
 show bB P w H h a (.dK kvs)from Jw ok e
def m8(ok:zo P w H h)(e:H a=af (.dK kvs)):kvs.length<=aS/\(a==sysModules)=ay/\∃vs,KV kvs vs/\h.DictOf (aX P w) a vs:=km ok (.inl e)
def lM(ok:zo P w H h)(e:H a=af (.tup (ks.map kV))):(tupleKind (aX P w)).is h ks a:=by
 obtain⟨_,its,r,⟨o,h1,h2,n,h3⟩,_⟩:=(show bB P w H h a (.tup (ks.map kV))from ok a _ e)
 exact⟨o,its.toArray,n,h1,h2,h3,by simpa using sS r⟩
def pY(ok:zo P w H h)(e:Rd H a (.dT kvs)):kvs.length<=aS/\(a==sysModules)=ay/\
  ∃xs,KT H kvs xs/\h.DictOfH (tupleKind (aX P w)) a xs:=by
 obtain⟨z,y,xs,r,o,es,ep,h1,h2,h3,h4,h5⟩:=(show bB P w H h a (.dT kvs)from Jw ok e)
 refine⟨z,y,xs,r,o,es,ep,h1,h2,h3,h4,λx hx=>?_,h5⟩;have all:∀{l:List (List Key×V)}{m:List (List Key×aI×av)},KT H l m->∀x∈m,(tupleKind (aX P w)).is h x.1 x.2.1:=by
  intro l m q
  induction q with
  |nil=>simp|@cons p q ps qs hq t ih=>
   intro x hx;rcases We.mp hx with e|hx
   ·subst e;exact lM ok (by lia)
   ·exact ih x hx
 exact all r x hx
def Tr(ok:zo P w H h)(e:H a=af (.dT kvs)):kvs.length<=aS/\(a==sysModules)=ay/\
  ∃xs,KT H kvs xs/\h.DictOfH (tupleKind (aX P w)) a xs:=pY ok (.inl e)
end
def qX(H:Hp)(a:aI)(y:V)(r:Option V):Prop:=
 (∃kvs k,Rd H a (.dK kvs)/\y=kV k/\r=dF kvs k)\/∃kvs k b,Rd H a (.dT kvs)/\y= .ref b/\H b=af (.tup (k.map kV))/\r=dF kvs k
def zQ(H:Hp)(a:aI)(y v:V)(H':Hp):Prop:=
 (∃kvs k,H a=af (.dK kvs)/\y=kV k/\kvs.length<aS/\H'=upd H a (.dK (putK kvs k v)))\/
 ∃kvs k b,H a=af (.dT kvs)/\y= .ref b/\H b=af (.tup (k.map kV))/\kvs.length<aS/\H'=upd H a (.dT (putK kvs k v))
theorem zQ.k{k:Key}(e:H a=af (.dK kvs))(hl:kvs.length<aS):zQ H a (kV k) v (upd H a (.dK (putK kvs k v))):= .inl ⟨kvs,k,e,rfl,hl,rfl⟩
section
variable{X:Cx}{pins:List (aI×Obj)}{σ:St}{H:Hp}{s:aE}{a:aI}{y v:V}{u r:av}{o:Option V}{A:cK}{E:av->aE->Prop}
def Inv.big(I:Inv X pins σ H s):sysModules<s.heap.objs.size:=by have h:mainGlobals<s.heap.objs.size:=(I.mod.glob.keeps I.bk).lt;exact Ye (by decide) h
def Cg(hu:A.units+1<cLine)(I:Inv X pins σ H s)(g:qX H a y (af v))(ry:RelV y u)(h:∀w' s',Inv X pins σ H s'->RelV v w'->Q w' s'):
  bg (model X.prog X.w) A (getItem (.ref a) u) Q E s:=by
 rcases g with⟨kvs,k,e,ey,l⟩|⟨kvs,k,b,e,ey,eb,l⟩
 ·subst ey;obtain⟨z,hd,vs,rel,dd⟩:=km I.hok e;obtain⟨w',hw,rw'⟩:=fG.some_of (v:=v) (o:=valueAt vs k) (by rw[l];exact rel.val k);exact wpAny_getItem_of (kj ry) dd.mapOf hw (h w' _ (I.tok _) rw')
 ·subst ey;cases(show u=Value.ref b from ry);obtain⟨z,hd,xs,rel,dd⟩:=pY I.hok e;obtain⟨w',hw,rw'⟩:=fG.some_of (v:=v) (o:=(atKey xs k).map (·.2)) (by rw[l];exact rel.val k);obtain⟨p,hp,hp2⟩:=XN.mp hw;refine wpAny_getItem_heap (tupleKind_room_in1 hu) (lM I.hok eb) dd hp ?_;rw[hp2];exact h w' _ (I.tok _) rw'
def Vw(hu:A.units+1<cLine)(I:Inv X pins σ H s)(g:qX H a y o)(ry:RelV y u)(h:∀s',Inv X pins σ H s'->Q (.bool o.isSome) s'):
  bg (model X.prog X.w) A (compareOp .In u (.ref a)) Q E s:=by
 rcases g with⟨kvs,k,e,ey,l⟩|⟨kvs,k,b,e,ey,eb,l⟩
 ·subst ey;obtain⟨z,hd,vs,rel,dd⟩:=km I.hok e;refine wpAny_in_of (kj ry) hd dd.mapOf ?_;rw[←(rel.val k).xD,←l];exact h _ (I.tok _)
 ·subst ey;cases(show u=Value.ref b from ry);obtain⟨z,hd,xs,rel,dd⟩:=pY I.hok e;refine wpAny_in_heap (tupleKind_room_in1 hu) (lM I.hok eb) hd dd ?_;have q:=(rel.val k).xD;rw[Zk]at q;rw[←q,←l];exact h _ (I.tok _)
def Kv(hu:A.units+1<cLine)(I:Inv X pins σ H s)(g:qX H a y o)(ry:RelV y u)(h:∀s',Inv X pins σ H s'->Q (.bool (!o.isSome)) s'):
  bg (model X.prog X.w) A (compareOp .NotIn u (.ref a)) Q E s:=by
 rcases g with⟨kvs,k,e,ey,l⟩|⟨kvs,k,b,e,ey,eb,l⟩
 ·subst ey;obtain⟨z,hd,vs,rel,dd⟩:=km I.hok e;refine wpAny_notIn_of (kj ry) hd dd.mapOf ?_;rw[←(rel.val k).xD,←l];exact h _ (I.tok _)
 ·subst ey;cases(show u=Value.ref b from ry);obtain⟨z,hd,xs,rel,dd⟩:=pY I.hok e;refine wpAny_notIn_heap (tupleKind_room_in1 hu) (lM I.hok eb) hd dd ?_;have q:=(rel.val k).xD;rw[Zk]at q;rw[←q,←l];exact h _ (I.tok _)
def m9(I:Inv X pins σ H s)(mu:Ll (H a))(hs:Heap.SameBut a s.heap h')(he:∃q,h'.get? a=af q)(new:bB X.prog X.w (upd H a ob) h' a ob):
  Inv X pins σ (upd H a ob) {s with heap:=h',toks:=t'}:=
 I.write (x:=a) (e:=a) mu (.inl rfl) (λb q hb z=>(hs.2 b hb).trans z) he new
def uD(z:kvs.length<=aS)(hd:(a==sysModules)=ay)(rel:KV kvs vs)(dd:h'.DictOf (aX P w) a vs):
  bB P w H' h' a (.dK kvs):=⟨z,hd,vs,rel,dd⟩
def Ci(hu:A.units+1<cLine)(I:Inv X pins σ H s)(g:zQ H a y v H')(ry:RelV y u)(rv:RelV v r)(h:∀s',Inv X pins σ H' s'->Q () s'):
  bg (model X.prog X.w) A (setItem (.ref a) u r) Q E s:=by
 rcases g with⟨kvs,k,e,ey,l,eH⟩|⟨kvs,k,b,e,ey,eb,l,eH⟩
 ·subst ey eH;obtain⟨z,hd,vs,rel,dd⟩:=m8 I.hok e;have hz:vs.length<=sizeLine:=by rw[←rel.length];exact z
  have hl:(putK kvs k v).length<=sizeLine:=by have:=jz kvs k v;lia
  refine wpAny_setItem_pairs (hsz:=hz) (kj ry) dd λh' ES hs=>h _ ?_;have he:∃q,h'.get? a=af q:=let⟨q,_,_,hq,_⟩:=ES;⟨q,hq⟩
  exact m9 I (by rw[e];exact True.intro) hs he (uD hl hd (rel.put k rv) ES)
 ·subst ey eH;cases(show u=Value.ref b from ry);obtain⟨z,hd,xs,rel,dd⟩:=Tr I.hok e;have hz:xs.length<=sizeLine:=by rw[←Paired.length rel];exact z
  have hl:(putK kvs k v).length<=sizeLine:=by have:=jz kvs k v;lia
  refine wpAny_setItem_heap (hsz:=hz) (tupleKind_room_in1 hu) (lM I.hok eb) dd λh' ES hs=>h _ ?_;obtain⟨q,es,ep,hq,h2,h3,h4,_,h5⟩:=ES;refine m9 I (by rw[e];exact True.intro) hs ⟨q,hq⟩ ⟨hl,hd,_,(rel.put k eb rv).keeps λc ys ec=>?_,q,es,ep,hq,h2,h3,h4,h5⟩;rw[aA (cZ ec e (λz=>nomatch z))];exact ec
end
section
variable{X:Cx}{pins:List (aI×Obj)}{σ:St}{H:Hp}{s:aE}{a:aI}{kvs:List (Key×V)}{k:Key}{u:av}{A:cK}{E:av->aE->Prop}
def Tt(I:Inv X pins σ H s)(e:H a=af (.dK kvs))(ry:RelV (kV k) u)(l:dF kvs k=af v)(hm:more=[]\/∃x,more=[x])(h:∀w' s',Inv X pins σ (upd H a (.dK (j8 kvs k))) s'->RelV v w'->Q w' s'):bg (model X.prog X.w) A (call (.builtin "dict.pop") (.ref a::u::more)) Q E s:=by
 obtain⟨z,hd,vs,rel,dd⟩:=m8 I.hok e;obtain⟨w',hw,rw'⟩:=fG.some_of (v:=v) (o:=valueAt vs k) (by rw[←l];exact rel.val k);have hp:(keyPart u).isSome=true:=by
  cases k with
  |inl i=>obtain⟨t,q⟩:=(show ∃t,u=Value.int i t from ry);subst q;rfl
  |inr x=>obtain⟨t,q⟩:=(show ∃t,u=Value.str x t from ry);subst q;rfl
 have ha:argsOk "dict.pop" ⟨.ref a::u::more,[]⟩:=by
  rcases hm with q|⟨x,q⟩
  ·subst q;rfl
  ·subst q;rfl
 refine call_meetsIn oz dd.typeIs PySem.F.entry_dict_pop ha (meets_dict_pop_there (aX X.prog X.w) a (kj ry) more hm hp)
  ⟨vs,w',dd,by rw[←rel.length];exact z,hw,λh' ES hs=>h w' _ ?_ rw'⟩
 have he:∃q,h'.get? a=af q:=let⟨q,_,_,hq,_⟩:=ES;⟨q,hq⟩
 exact m9 I (by rw[e];exact True.intro) hs he (uD (Wa (GD kvs k) z) hd (rel.drop k) ES)
def Tu(I:Inv X pins σ H s)(e:Rd H a (.dK kvs))(h:∀t s',Inv X pins σ H s'->Q (.int kvs.length t) s'):bg (model X.prog X.w) A (call (.builtin "len") [.ref a]) Q E s:=by obtain⟨z,hd,vs,rel,dd⟩:=km I.hok e;refine call_len_dict hd dd (by rw[←rel.length];rw[W6]at z;lia) ?_;rw[←rel.length];exact h _ _ (I.tok _)
end
def xj{X:Cx}{pins:List (aI×Obj)}{σ:St}{H:Hp}{s:aE}{a:aI}{y:V}{o:Option V}(I:Inv X pins σ H s)(g:qX H a y o):s.TypeIs (.ref a) "dict" :=by
 rcases g with⟨kvs,k,e,_,_⟩|⟨kvs,k,b,e,_,_,_⟩
 ·obtain⟨_,_,vs,_,dd⟩:=km I.hok e;exact dd.typeIs
 ·obtain⟨_,_,xs,_,dd⟩:=pY I.hok e;exact dd.typeIs
def GF(h:dc)(hb:sysModules<h.objs.size):bB P w H (h.push {cls:= .type "dict",data:= .dict #[]}) h.objs.size (.dK []):=
 ⟨WP _,beq_eq_false_iff_ne.mpr (Ne.symm (Wo hb)),[],.nil,Heap.DictOf.new h⟩
def Pr:TE:=λ_ H Q=>∀p,H p=ah->Q (.ref p) (upd H p (.dK []))
section
variable{X:Cx}{pos:Pos}
def GJ:PE X (.Dict [] [] pos) Pr:=λpins s σ H Q I h=>wpAny_Dict_empty ⟨.ref s.heap.objs.size,_,I.laid (a:=s.heap.objs.size) (o:= .dK []) (t':=s.toks) (λ_ _ q=>V9 _ q) (Wc _) (GF s.heap I.big),rfl,h _ (I.hok.fresh (Wc _))⟩
end
end L2
namespace RI
open PySem PySem.W PySem.Calls PyProof.Rows
theorem pZ:∀(ns:List Int)(vs:List av),WellAll P h vs (ns.map WData.int)->IntsAre vs ns:=by
 intro ns
 induction ns with
 |nil=>intro vs w;rw[WW]at w;cases w;exact .nil|cons n ns ih=>
  intro vs w;rw[Wh]at w;cases w with|cons a b=>cases a;exact .cons _ _ (ih _ b)
theorem Cj{l:OpenLaw}(hn:l.most=af n)(hpre:l.row.toRowW.claim.pre args=ai)(hwl:WellAll P h vals args):
  ∃a vs ns,vals=[Value.ref a]/\args=[WData.list (ns.map WData.int)]/\h.get? a=af {cls:= .type "list",data:= .seq vs.toArray}/\IntsAre vs ns/\ns.length<=n:=by
 have hsh:WShape.hasAll [] args [.list .int]=true:=(pre_splitW hpre).1;have hc:l.pre.holds [] {args:=args}=true:=(pre_splitW hpre).2;obtain⟨d,r,rfl,h1,h2⟩:=hasAllW_cons hsh;obtain rfl:=hasAllW_nil h2;obtain⟨xs,rfl,h3⟩:=hasW_list h1;obtain⟨ns,rfl⟩:=items_int h3;have hlen:ns.length<=n:=by
  unfold OpenLaw.pre at hc;have h4:(WTm.not (.lt (.lit (.int (n:Int))) (.len (.arg 0)))).holds [] {args:=[.list (ns.map .int)]}=true:=by have h4:=(holds_andW hc).1;rw[hn]at h4;exact h4
  have h5:=condW_of h4 (w_not (w_lt w_lit (w_len_list (w_arg rfl))));rw[Wb]at h5;refine kc λq=>?_;have q':(n:Int)<((ns.length:Nat):Int):=by lia
  first
   |simp_all|(simp at h5;lia)
 cases hwl with
 |cons w1 w2=>
  cases w2;cases w1 with|list ho hall=>exact⟨_,_,ns,rfl,rfl,ho,pZ ns _ hall,hlen⟩
def Ck(l:OpenLaw)(args:List WData):l.row.toRowW.claim.post args (.bool ai) args=true:=
 postW_of (r:=l.row.toRowW) (X:=(ai==ai))
  (show WShape.has [] (.bool ai) .bool=ai by rfl)
  (show(WTm.eq .res (.lit (.bool ai))).value [] {args:=args,res:=af (.bool ai),after:=args}=af (.bool (ai==ai))from w_eq_bool (w_res rfl) w_lit) rfl
def Cs{l:OpenLaw}(hn:l.most=af n)(hdf:d.params.defaults=[])(call:∀(w:cy)(s₀ s₁:aE)(mg mb:Str->Option av)(fa:aI)(o:Obj)(pm cd doc:av)(a:aI)(vs:List av)(ns:List Int),
   Ground q loose [] XP w s₀ mg mb s₁.heap->YP w s₁.heap->
   s₁.heap.get? fa=af o->o.data= .func (docDef d.name d.params d.body d.scope pm cd doc)->s₁.heap.CodeRec cd d.name->mg d.name=af (.ref fa)->
   s₁.heap.get? a=af {cls:= .type "list",data:= .seq vs.toArray}->IntsAre vs ns->ns.length<=n->s₁.gens= #[]->
   codeAny (model l.prog w) callerA (.call (.ref fa) ⟨[.ref a],[]⟩) (λr s'=>r= .ok (.ret (.bool ai))/\OldK s₁.heap s'.heap/\s'.os=s₁.os/\AllBare s'.gens) s₁):
  WalkO q loose XP YP l.row.toRowW d [] (λf vs=>xS f vs):=by
 intro w s₀ s₁ mg mb G Y fa o pm cd doc dV kV ho hd hcd hD hmg hg args vals as hpre hlay hrd hwl hlo;obtain rfl:dV= .none:=Dflts.none hD hdf;obtain rfl:kV= .none:=Dflts.noKw hD;obtain⟨a,vs,ns,rfl,rfl,hobj,hints,hlen⟩:=Cj hn hpre hwl;refine enter_call (YM (call w s₀ s₁ mg mb fa o pm cd doc a vs ns G Y ho (fd_plain hd) hcd hmg hobj hints hlen hg) λr s' hq=>?_);obtain⟨rfl,h2,h3,h4⟩:=hq;exact⟨.inl ⟨.bool ai,.bool ai,[],rfl,λ_=>rfl,.bool ai,Ck l _,λ_=>⟨ny,λ_ hm=>(nomatch hm)⟩⟩,h2,h3,h4⟩
end RI
namespace L2
open PySem PySem.Spec PyProof.Rows
theorem gG:∀{vs:List av}{ns:List Int},IntsAre vs ns->Vals (ns.map V.int) vs
 |_,_,.nil=> .nil|_,_,.cons n t h=> .cons ⟨t,rfl⟩ (gG h)
def E1(H:Hp):Prop:=∀b,H b=ah\/∃o xs,H b=af (.tw o (.lst xs))
theorem GK{K:aT}{sp:Sp}{s₁:aE}{vs:List av}{ns:List Int}(KX:K.In s₁.heap)(hns:s₁.heap.Ns mainGlobals mg)(hb:s₁.heap.Ns builtinsNs mb)(hbb:∀x:Str,x≠ "__name__" ->mb x=bootBuiltins x)(hlim:s₁.heap.NoLimit)(hg:s₁.gens= #[])(ha:s₁.heap.get? a=af {cls:= .type "list",data:= .seq vs.toArray})(hi:IntsAre vs ns)(hl:ns.length<=aS)(hr:rj k callerA)(F:∀base:dc,K.In base->base.Ns mainGlobals mg->ya P w K mg base CX k fa fd [x] sp)(hbind:∀(s:aE)(u:av),BindsTo s fd ⟨[u],[]⟩ [(x,u)])(hsp:∀H:Hp,E1 H->wc K H a (ns.map V.int)->sp [.ref a] H (λv _=>v= .bl ai) λ_ _ _=>False)(OA:∀H e s',CX [] H s₁ (λ_ _ _=>False) e s'->False):
  codeAny (model P w) callerA (.call (.ref fa) ⟨[.ref a],[]⟩) (λr s'=>r= .ok (.ret (.bool ai))/\OldK s₁.heap s'.heap/\s'.os=s₁.os/\AllBare s'.gens) s₁:=by
 have rv:=gG hi;have lenV:=hi.length;have core:∀H:Hp,E1 H->wc K H a (ns.map V.int)->zo P w H s₁.heap->(∀b,H b≠ah->b=a)->(H a≠ah->K.lookup a=ah)->
   codeAny (model P w) callerA (.call (.ref fa) ⟨[.ref a],[]⟩) (λr s'=>r= .ok (.ret (.bool ai))/\OldK s₁.heap s'.heap/\s'.os=s₁.os/\AllBare s'.gens) s₁:=by
  intro H hO hS hok hA hK;have C5:∀{b:aI}{o:Obj},s₁.heap.get? b=af o->H b=ah->(j7 s₁.heap H).get? b=af o:=λe n=>Gi e n;have LD:∀{b:aI}{o:Obj}{es:Array DictEntry}{ep:Nat},s₁.heap.get? b=af o->o.data= .dict es ep->H b=none:=λ{b o es ep} e d=>by grind
  have MU:∀{b:aI}{m:Str->Option av},s₁.heap.Ns b m->(j7 s₁.heap H).Ns b m:=λ{b m} ⟨o,es,ep,e,d,r⟩=>⟨o,es,ep,C5 e (LD e d),d,r⟩
  have RO:K.In (j7 s₁.heap H):=λb o e=>C5 (KX b o e) (by
   grind)
  have hM:Mod K mg (j7 s₁.heap H):=⟨RO,MU hns,⟨mb,MU hb,hbb⟩,let⟨mc,h1,h2⟩:=hlim;⟨mc,MU h1,h2⟩⟩
  have e0:CM P w K mg (j7 s₁.heap H) callerA [] s₁ H:=⟨rfl,hM,λb o e=>JZ e,kX (Bv _ _),trivial,λb hb=>absurd (show b∈([]:List aI)from hb) (by simp),hok,.of_eq hg⟩
  refine YM ((F _ RO (MU hns)).run callerA [] s₁ H ⟨[.ref a],[]⟩ [.ref a] [.ref a] _ _ hr e0 (hbind s₁ (.ref a)) (.cons rfl .nil) (hsp H hO hS)) λr s' h=>?_;cases r with
  |error e=>exact(OA H e s' h).elim|ok fl=>
   cases fl with
   |next=>exact False.elim h|brk=>exact False.elim h|cont=>exact False.elim h|ret u=>
    obtain⟨v,H',os,bare,un,hok',r',q⟩:=h;have q':v= .bl true:=q;subst q';obtain rfl:u=Value.bool true:=r';refine⟨rfl,OldK.of_keep λb o e=>?_,os,bare⟩;cases q:H b with
    |none=>exact un.keep b o e q (by intro z;exact absurd (show b∈([]:List aI)from z) (by simp)) (by simp)|some u=>
     rcases hO b with z|⟨ob,xs,z⟩
     ·lia
     ·have z2:=un.sd b ob _ z;obtain⟨e1,_⟩:=hok b _ z;obtain⟨e2,_⟩:=hok' b _ z2;lia
 cases hk:K.lookup a with
 |some o=>have e:=KX a o hk;rw[ha]at e;cases e;refine core (λ_=>ah) (λ_=> .inl rfl) (.inr ⟨_,vs.toArray,_,hk,rfl,rfl,rfl,by simp_all,by simpa using rv⟩) (λb u z=>by lia) (λb z=>absurd rfl z) λz=>absurd rfl z|none=>
  refine core (λb=>if b=a then af (.tw {cls:= .type "list",data:= .seq vs.toArray} (.lst (ns.map V.int)))else ah) (λb=>?_) (.inl (.inr ⟨{cls:= .type "list",data:= .seq vs.toArray},if_pos rfl⟩)) (λb u z=>?_) (λb z=>?_) λ_=>hk
  ·grind
  ·by_cases hb:b=a
   ·have z':=(if_pos hb).symm.trans z;cases z';subst hb;exact⟨ha,by simp_all,vs,_,rv,ha⟩
   lia
  lia
def xU{l:p5}{K:Params->aT}{CX:cy->F9}{sp:cy->Sp}{x:Str}(hn:l.most=af n)(hn2:n<=aS)(hdf:d.params.defaults=[])(hr:rj k callerA)(hY:∀(w:cy)(h:dc),YP w h->(K w.params).In h)(F:∀(w:cy)(mg:Str->Option av)(fa:aI)(h:dc),(K w.params).In h->h.Ns mainGlobals mg->mg d.name=af (.ref fa)->
   ∃fd:FuncData,(∀(s:aE)(u:av),BindsTo s fd ⟨[u],[]⟩ [(x,u)])/\
    ∀base:dc,(K w.params).In base->base.Ns mainGlobals mg->ya l.prog w (K w.params) mg base (CX w) k fa fd [x] (sp w))(hsp:∀(w:cy)(H:Hp)(a:aI)(ns:List Int),ns.length<=n->E1 H->wc (K w.params) H a (ns.map V.int)->sp w [.ref a] H (λv _=>v= .bl ai) λ_ _ _=>False)(OA:∀(w:cy)(H:Hp)(s:aE)(e:av)(s':aE),CX w [] H s (λ_ _ _=>False) e s'->False):
  yv q loose XP YP l.row.toRowW d [] (λf vs=>xS f vs):=by
 refine RI.Cs hn hdf λw s₀ s₁ mg mb fa o pm cd doc a vs ns G Y ho hd hcd hmg hobj hints hlen hg=>?_;have KX:=hY w _ Y;obtain⟨fd,hb,hF⟩:=F w mg fa _ KX G.T.g hmg;exact GK KX G.T.g G.T.b G.T.builtins G.T.nolimit hg hobj hints (Wa hlen hn2) hr hF hb (λH hO hS=>hsp w H a ns hlen hO hS) λH e s'=>OA w H s₁ e s'
def inClass(s:fT)(j:Nat):Stmt:=match s with
 |.ClassDef _ _ _ body _ _ _ _ _ _ _=>body.getD j (.Pass ⟨0,0,0,0⟩)|_=> .Pass ⟨0,0,0,0⟩
def gH(s:fT):Arguments:=match s with
 |.FunctionDef _ a _ _ _ _ _ _ _ _=>a|_=>{posonlyargs:=[],args:=[],vararg:=ah,kwonlyargs:=[],kw_defaults:=[],kwarg:=ah,defaults:=[]}
def fW(s:fT):List Stmt:=match s with
 |.FunctionDef _ _ b _ _ _ _ _ _ _=>b|_=> []
def bM(s:fT):Scope:=match s with
 |.FunctionDef _ _ _ _ _ _ sc _ _ _=>sc|_=>{kind:= .function,names:=[],isGenerator:=ay,isCoroutine:=ay}
structure LF(K:aT)(x qual:Str)(st:fT)(f:aI)(fd:FuncData):Prop where
 ex:∃(oc:av)(od:Option aI)(kV doc pm:av)(an:Option aI)(cdv ct:av)(osl:Array (Option av)),
  fd=f6 x qual (gH st) (fW st) (bM st) .none kV doc pm an cdv ct/\K.lookup f=af ⟨oc,od,.func fd,osl⟩/\i0 K cdv qual=ai
 kp:e9 K (.ref f)=ai
section
variable{K:aT}
def Cm{st:fT}{kV doc pm cdv ct:av}(l:K.lookup f=af ⟨oc,od,.func (f6 x qual (gH st) (fW st) (bM st) .none kV doc pm an cdv ct),osl⟩)(c:i0 K cdv qual=ai)(k:e9 K (.ref f)=ai):LF K x qual st f (f6 x qual (gH st) (fW st) (bM st) .none kV doc pm an cdv ct):=⟨⟨oc,od,kV,doc,pm,an,cdv,ct,osl,rfl,l,c⟩,k⟩
end
def D8(H H':Hp):Prop:=∀b o,H b=af o->H' b=af o
end L2
namespace RK
open PyProof.Rows
def lexLt:List Int->List Int->Bool
 |[],[]=>ay|[],_::_=>ai|_::_,[]=>ay|x::xs,y::ys=>if x=y then lexLt xs ys else decide (x<y)
theorem p6:∀a,lexLt a a=ay
 |[]=>rfl|x::xs=>by simp[lexLt,p6 xs]
theorem sU:∀a b c,lexLt a b=ai->lexLt b c=ai->lexLt a c=ai
 |[],[],c,h,_=>by lia|[],y::ys,[],_,h=>by simp[lexLt]at h|[],y::ys,z::zs,_,_=>rfl|x::xs,[],c,h,_=>by simp[lexLt]at h|x::xs,y::ys,[],_,h=>by simp[lexLt]at h|x::xs,y::ys,z::zs,h1,h2=>by
  unfold lexLt at h1 h2 ⊢;by_cases e1:x=y
  ·subst e1;rw[if_pos rfl]at h1;by_cases e2:x=z
   ·subst e2;rw[if_pos rfl]at h2;rw[if_pos rfl];exact sU xs ys zs h1 h2
   simp_all
  ·rw[if_neg e1]at h1;have h1:=WR h1;by_cases e2:y=z
   ·simp_all
   ·rw[if_neg e2]at h2;have h2:=WR h2;rw[if_neg (by lia)];exact Xz (Int.lt_trans h1 h2)
theorem xV:∀a b c,lexLt a c=ai->lexLt a b=ai\/lexLt b c=ai
 |[],b,[],h=>by simp[lexLt]at h|[],[],z::zs,_=> .inr rfl|[],y::ys,z::zs,_=> .inl rfl|x::xs,b,[],h=>by simp[lexLt]at h|x::xs,[],z::zs,_=> .inr rfl|x::xs,y::ys,z::zs,h=>by
  unfold lexLt at h ⊢;by_cases e:x=z
  ·subst e;rw[if_pos rfl]at h;by_cases e2:x=y
   ·subst e2;rw[if_pos rfl,if_pos rfl];exact xV xs ys zs h
   ·rw[if_neg e2,if_neg (by lia)];by_cases g:x<y
    ·simp_all
    ·exact .inr (Xz (by lia))
  grind
theorem lN:∀a b,lexLt a b=ay->lexLt b a=ay->a=b
 |[],[],_,_=>rfl|[],_::_,h,_=>by simp[lexLt]at h|_::_,[],_,h=>by simp[lexLt]at h|x::xs,y::ys,h1,h2=>by
  unfold lexLt at h1 h2;by_cases e:x=y
  ·subst e;rw[if_pos rfl]at h1 h2;rw[lN xs ys h1 h2]
  ·rw[if_neg e]at h1;rw[if_neg (Ne.symm e)]at h2;have h1:=of_decide_eq_false h1;have h2:=of_decide_eq_false h2;lia
def jG:KeyOrd:=⟨List Int,lexLt,p6,sU,xV,lN⟩
def oR(x:List Int):List (List Int)->List (List Int)
 |[]=> [x]|y::r=>if lexLt y x then y::oR x r else x::y::r
def aQ:List (List Int)->List (List Int)
 |[]=> []|x::r=>oR x (aQ r)
abbrev D9(a b:List Int):Prop:=lexLt b a=ay
theorem lO(x:List Int):∀l,(oR x l).Perm (x::l)
 |[]=> .refl _|y::r=>by
  unfold oR;split
  ·exact((lO x r).cons y).trans (.swap ..)
  rfl
theorem cD:∀l,(aQ l).Perm l
 |[]=> .refl _|x::r=>(lO x _).trans ((cD r).cons x)
def Cp(h1:D9 a b)(h2:D9 b c):D9 a c:=Yg (O:=jG) (a:=a) (b:=b) (c:=c) h1 h2
theorem xW(x:List Int):∀l,l.Pairwise D9->(oR x l).Pairwise D9
 |[],_=>by simp[oR]|y::r,h=>by
  have h':=WQ.mp h;unfold oR;split
  ·rename_i hy;refine WQ.mpr ⟨λz hz=>?_,xW x r h'.2⟩;rcases We.mp ((lO x r).mem_iff.mp hz)with rfl|hz
   ·exact KeyOrd.kle_of_klt (O:=jG) hy
   ·exact h'.1 z hz
  ·rename_i hy;have hy:D9 x y:=by simpa using hy
   refine WQ.mpr ⟨λz hz=>?_,h⟩;rcases We.mp hz with rfl|hz
   ·exact hy
   ·exact Cp hy (h'.1 z hz)
theorem oU:∀l,(aQ l).Pairwise D9
 |[]=> .nil|x::r=>xW x _ (oU r)
theorem p7:∀{a b:List (List Int)},a.Perm b->a.Pairwise D9->b.Pairwise D9->a=b
 |[],b,h,_,_=>by simp_all|x::a,b,h,ha,hb=>by
  cases b with
  |nil=>simp_all|cons y b=>
   have ha':=WQ.mp ha;have hb':=WQ.mp hb;have e:x=y:=by
    have hx:x∈y::b:=h.mem_iff.mp (by simp);have hy:y∈x::a:=h.mem_iff.mpr (by simp);rcases We.mp hx with e|hx
    ·exact e
    ·rcases We.mp hy with e|hy
     ·exact e.symm
     ·exact lN x y (hb'.1 x hx) (ha'.1 y hy)
   subst e;rw[p7 (List.Perm.cons_inv h) ha'.2 hb'.2]
def uE(h:a.Perm l)(hu:a.Pairwise D9):a=aQ l:=p7 (h.trans (cD l).symm) hu (oU l)
end RK
namespace RK
open PySem
inductive D where
 |non|bl (b:Bool)|int (i:Int)|str (x:Str)|tup (ds:List D)|lst (ds:List D)|As (ns:List Int)|ref (k:Nat)|FU (c:Str)|ET
 deriving Inhabited
inductive SO where
 |lst (ds:List D)|dct (kvs:List (L2.Key×D))|ins (c:Str) (fs:List (Str×D))|xy (kvs:List (L2.Key×D))
abbrev bq:=List SO
abbrev az:=List (Option D)
inductive Out(α:Type)where
 |ok (a:α) (S:bq)|exc (c:Str) (S:bq)
abbrev Ev(α:Type):=Option (Out α)
def bnd{α β:Type}(x:Ev α)(f:α->bq->Ev β):Ev β:=match x with
 |none=>ah|some (.exc c S)=>af (.exc c S)|some (.ok a S)=>f a S
@[simp] theorem aH (a:α) (S:bq) (f:α->bq->Ev β):bnd (af (.ok a S)) f=f a S:=rfl
@[simp] theorem V7 (c:Str) (S:bq) (f:α->bq->Ev β):bnd (af (.exc c S)) f=af (.exc c S):=rfl
@[simp] theorem Vx (f:α->bq->Ev β):bnd (ah:Ev α) f=none:=rfl
set_option genInjectivity false
inductive Tg where
 |name (i:Nat)|tup (ts:List Tg)
inductive BS where
 |list (mu:Bool)|tuple|sorted (mu:Bool)|sum
inductive Bi where
 |len|min|max|abs|int
inductive Mt where
 |append|pop|mT|UX|UY|extend
inductive Ty where
 |int|bool|str|list|tuple|dict|cls (c:Nat)
mutual
inductive E where
 |var (i:Nat)|cst (d:D)|bin (o:Operator) (a b:E)|neg (a:E)|nt (a:E)|cmp (c:CmpOp) (a b:E)|and (a b:E)|or (a b:E)|ite (c:T) (a b:E)|call (f:Nat) (as:List E)|bi (f:Bi) (as:List E)|isI (a:E) (t:Ty)|tup (as:List E)|lst (mu:Bool) (as:List E)|ix (a b:E)|GH (a lo:E)|DF (a hi:E)|DH (a lo hi:E)|comp (mu:Bool) (elt:E) (tg:Tg) (it:It) (ifs:List T) (n:Nat) (cap:List Nat)|AM (mu:Bool) (elt:E) (tg:Tg) (e:E) (ifs:List T) (n:Nat) (cap:List Nat)|col (k:BS) (it:It)|meth (m:Mt) (a:E) (as:List E)|dct|fmt (as:List E)|FY (a b:E)|fld (c f:Str) (a:E)|jS (c m:Str) (f:Nat) (a:E) (as:List E)|new (c:Str) (f:Nat) (as:List E)|F0 (a:E) (as:List E)|sset (a:E)|GI (a:E)
inductive It where
 |seq (e:E)|snap (e:E)|live (e:E)|IX (e:E)|lS (b:E)|BB (e:E)
inductive T where
 |val (e:E)|and (a b:T)|or (a b:T)|nt (a:T)
end
inductive C where
 |asg (t:Tg) (e:E)|sub (o i v:E)|ex (e:E)|cond (e:T) (a b:List C)|wh (e:T) (a:List C)|fr (t:Tg) (it:It) (a:List C)|C6 (t:Tg) (e:E) (a:List C)|ret (e:E)|GL|brk|cont|pass|raise (c:Str) (as:List E)|tr (a:List C) (cs:List Str) (nm:Option Nat) (h:List C)|fset (c f:Str) (o v:E)|no
set_option genInjectivity true
inductive Fl where
 |next (r:az) (S:bq)|brk (r:az) (S:bq)|cont (r:az) (S:bq)|ret (d:D) (S:bq)|exc (c:Str) (r:az) (S:bq)
def bf(S:bq):D->Option (List D)
 |.tup ds=>af ds|.lst ds=>af ds|.As ns=>af (ns.map .int)|.ref k=>match S[k]? with
  |some (.lst ds)=>af ds|_=>ah
 |_=>ah
def cF(S:bq):D->Option (List (L2.Key×D))
 |.ref k=>match S[k]? with
  |some (.dct kvs)=>af kvs|some (.xy kvs)=>af kvs|_=>ah
 |_=>ah
def dG:D->Option L2.Key
 |.int i=>af (.inl i)|.str x=>af (.inr x)|_=>ah
def tN:L2.Key->D
 |.inl i=> .int i|.inr x=> .str x
def bz(kvs:List (L2.Key×D))(k:L2.Key):Option D:=(kvs.find? λkv=>decide (kv.1=k)).map (·.2)
def putD(kvs:List (L2.Key×D))(k:L2.Key)(v:D):List (L2.Key×D):=
 if(kvs.any λkv=>decide (kv.1=k))=ai then kvs.map (λkv=>if kv.1=k then(kv.1,v)else kv)else kvs++ [(k,v)]
def truth(S:bq):D->Option Bool
 |.non=>af ay|.bl b=>af b|.int i=>af (i !=0)|.str x=>if x.length<=aS then af ((x.length:Int) !=0)else ah|.tup ds=>af (!ds.isEmpty)|.lst ds=>af (!ds.isEmpty)|.ref k=>match S[k]? with
  |some (.lst ds)=>af (!ds.isEmpty)|_=>ah
 |_=>ah
def fy{α:Type}(a:α)(S:bq):Ev α:=af (.ok a S)
def AX(mu:Bool)(ds:List D)(S:bq):Ev D:=
 if ds.length<=aS then(if mu then fy (.ref S.length) (S++ [.lst ds])else fy (.lst ds) S)else ah
def E2(ds:List D)(S:bq):Ev D:=if ds.length<=aS then fy (.tup ds) S else ah
def Px(o:Operator)(xs:List D)(b:D)(S:bq):Ev D:=match b with
 |.lst ys=>match o with
  |.Add=>if xs.length+ys.length<=aS then fy (.lst (xs++ys)) S else ah|_=>ah
 |_=>ah
def binop(o:Operator)(a b:D)(S:bq):Ev D:=match a with
 |.int i=>match b with
  |.int j=>match o with
   |.Add=>fy (.int (i+j)) S|.Sub=>fy (.int (i - j)) S|.Mult=>if(-(2^64)<i/\i<2^64)\/(-(2^64)<j/\j<2^64)then fy (.int (i*j)) S else ah|.Mod=>if 0<j then fy (.int (i % j)) S else ah|.LShift=>if 0<=j/\j<=1000000/\i.natAbs<2^64 then fy (.int (i*2^j.toNat)) S else ah|_=>ah
  |_=>ah
 |.tup xs=>match b with
  |.tup ys=>match o with
   |.Add=>if xs.isEmpty=ai then fy (.tup ys) S else if xs.length+ys.length<=aS then fy (.tup (xs++ys)) S else ah|_=>ah
  |_=>ah
 |.lst xs=>match b with
  |.lst ys=>match o with
   |.Add=>if xs.length+ys.length<=aS then fy (.lst (xs++ys)) S else ah|_=>ah
  |_=>ah
 |.ref k=>match S[k]? with
  |some (.lst xs)=>Px o xs b S|_=>ah
 |_=>ah
def zl:D->Option PyData
 |.non=>af .none|.bl b=>af (.bool b)|.int i=>af (.int i)|.str x=>af (.str x)|.tup ds=>(yi ds).map .tuple|.lst ds=>(yi ds).map .list|_=>ah
where yi:List D->Option (List PyData)
 |[]=>af []|d::ds=>match zl d,yi ds with
  |some p,af ps=>af (p::ps)|_,_=>ah
def gw(S:bq)(d:D):Option PyData:=match d with
 |.ref k=>match S[k]? with
  |some (.lst ds)=>zl (.lst ds)|_=>ah
 |d=>zl d
def BF(S:bq)(a b:D):Option Bool:=match gw S a,gw S b with
 |some p,af q=>if SeqAt.shaped p=ai/\SeqAt.shaped q=ai then af (PyData.eqv p q)else ah|_,_=>ah
def inD(S:bq)(a b:D):Option Bool:=match cF S b with
 |some kvs=>(dG a).map λk=>(bz kvs k).isSome|none=>match gw S a,bf S b with
  |some p,af ds=>match zl.yi ds with
   |some qs=>if SeqAt.shaped p=ai/\SeqAt.shaped (.list qs)=ai then af (qs.any λq=>PyData.eqv q p)else ah|none=>ah
  |_,_=>ah
def qY(f:Int->Int->Bool)(a b:D)(S:bq):Ev D:=match a with
 |.int i=>match b with
  |.int j=>fy (.bl (f i j)) S|_=>ah
 |_=>ah
def zR(f:Bool->Bool)(a b:D)(S:bq):Ev D:=match a with
 |.bl i=>match b with
  |.bl j=>fy (.bl (f (i==j))) S|_=>ah
 |.non=>match b with
  |.non=>fy (.bl (f ai)) S|_=>ah
 |.int _=>match b with
  |.non=>fy (.bl (f ay)) S|_=>ah
 |_=>ah
def DU(o:Option Bool)(f:Bool->Bool)(S:bq):Ev D:=match o with
 |some r=>fy (.bl (f r)) S|none=>ah
def kQ(o:CmpOp)(a b:D)(S:bq):Ev D:=match o with
 |.Lt=>qY (λi j=>decide (i<j)) a b S|.LtE=>qY (λi j=>decide (i<=j)) a b S|.Gt=>qY (λi j=>decide (j<i)) a b S|.GtE=>qY (λi j=>decide (j<=i)) a b S|.Eq=>DU (BF S a b) (λr=>r) S|.NotEq=>DU (BF S a b) (λr=>!r) S|.In=>DU (inD S a b) (λr=>r) S|.NotIn=>DU (inD S a b) (λr=>!r) S|.Is=>zR (λr=>r) a b S|.IsNot=>zR (λr=>!r) a b S
def IY(a b:D)(S:bq):Ev D:=match cF S a with
 |some kvs=>match dG b with
  |some k=>match bz kvs k with
   |some d=>fy d S|none=>ah
  |none=>ah
 |none=>match bf S a,b with
  |some ds,.int i=>match L2.BQ ds i with
   |some d=>fy d S|none=>ah
  |_,_=>ah
def putAt(a b d:D)(S:bq):Option bq:=match a with
 |.ref k=>match S[k]? with
  |some (.dct kvs)=>match dG b with
   |some key=>if kvs.length<aS then af (S.set k (.dct (putD kvs key d)))else ah|none=>ah
  |_=>ah
 |_=>ah
def cutD(ds:List D)(lo hi:Option Int):List D:=(ds.drop (HT.kL ds.length 0 lo)).take (HT.kL ds.length ds.length hi - HT.kL ds.length 0 lo)
def slc(a:D)(lo hi:Option Int)(S:bq):Ev D:=match a with
 |.tup ds=>fy (.tup (cutD ds lo hi)) S|.lst ds=>fy (.lst (cutD ds lo hi)) S|.As ns=>fy (.lst (cutD (ns.map .int) lo hi)) S|.ref k=>match S[k]? with
  |some (.lst ds)=>fy (.lst (cutD ds lo hi)) S|_=>ah
 |_=>ah
def kD:D->Nat
 |.non=>0|.bl _=>1|.int _=>2|.str _=>3|.tup _=>4|.lst _=>5|_=>9
def kT:Ty->Nat
 |.int=>0|.bool=>1|.str=>2|.list=>3|.tuple=>4|.dict=>5|.cls _=>9
def Tv(i j:Nat):Bool:=(i==1 && j==1) || ((i==1 || i==2) && j==0) || (i==3 && j==2) || (i==4 && j==4) || (i==5 && j==3)
def DJ(d:D)(t:Ty):Option Bool:=if kD d=9\/kT t=9 then ah else af (Tv (kD d) (kT t))
def p8(a:D)(S:bq):Ev D:=match bf S a with
 |some ds=>fy (.int ds.length) S|none=>match cF S a with
  |some kvs=>fy (.int kvs.length) S|none=>match a with
   |.str x=>if x.length<=aS then fy (.int x.length) S else ah|_=>ah
def EU(f:D->bq->Ev D)(as:List D)(S:bq):Ev D:=match as with
 |[]=>ah|a::r=>match r with
  |[]=>f a S|_::_=>ah
def RS(f:Int->Int->Int)(as:List D)(S:bq):Ev D:=match as with
 |[]=>ah|a::r=>match r with
  |[]=>ah|b::r'=>match r' with
   |[]=>match a with
    |.int i=>match b with
     |.int j=>fy (.int (f i j)) S|_=>ah
    |_=>ah
   |_::_=>ah
def insI(x:Int):List Int->List Int
 |[]=> [x]|y::r=>if x<=y then x::y::r else y::insI x r
def sortI:List Int->List Int
 |[]=> []|x::r=>insI x (sortI r)
def aY:List D->Option (List Int)
 |[]=>af []|.int i::r=>(aY r).map (i::·)|_::_=>ah
def dz:List D->Option (List (List Int))
 |[]=>af []|.tup es::r=>match aY es,dz r with
  |some (n::ns),af rs=>af ((n::ns)::rs)|_,_=>ah
 |_::_=>ah
def dh(r:List Int):D:= .tup (r.map .int)
def word(c:Int):Str:=if c=0 then Za else Z4
def zU(x:Str):Option Int:=if x=word 0 then af 0 else if x=word 1 then af 1 else ah
def aG(r:List Int):D:=match r with
 |[]=> .tup []|a::s=>match s with
  |[]=> .tup []|c::ns=> .tup (.int a:: .str (word c)::ns.map .int)
def uF(d:D):Option (List Int):=match d with
 |.tup es=>match es with
  |[]=>ah|x::s=>match s with
   |[]=>ah|y::r=>match x with
    |.int a=>match y with
     |.str w=>match zU w with
      |some c=>(aY r).map λns=>a::c::ns|none=>ah
     |_=>ah
    |_=>ah
 |_=>ah
def jm:List D->Option (List (List Int))
 |[]=>af []|d::r=>match uF d with
  |some x=>(jm r).map λrs=>x::rs|none=>ah
def dg(S:bq)(k:Nat):Option (List D):=match S[k]? with
 |none=>ah|some o=>match o with
  |.lst ds=>af ds|.dct _=>ah|.ins _ _=>ah|.xy _=>ah
def Tz(r:List Int)(t:List (List Int)):List Int:=t.foldl (λb x=>if lexLt b x=ai then x else b) r
def Py(lo:Bool)(f:Int->Int->Int)(as:List D)(S:bq):Ev D:=match as with
 |[]=>ah|a::r=>match r with
  |[]=>ah|b::r'=>RS f (a::b::r') S
def DL(f:Bi)(as:List D)(S:bq):Ev D:=match f with
 |.len=>EU p8 as S|.min=>Py ai (λi j=>if j<i then j else i) as S|.max=>Py ay (λi j=>if j>i then j else i) as S|.abs=>ah|.int=>ah
def lQ(rs:List (List Int)):Prop:=rs.Nodup/\rs.length<128/\(64<=rs.length->∀l,(∃A B:List Nat,A.length<=6/\B.length<=6/\∀i j,i<l->l<=j->j<rs.length->lexLt (rs.getD i []) (rs.getD j [])=ay->i∈A/\j∈B)/\∀i j i' j',i<l->i'<l->l<=j->j<rs.length->l<=j'->j'<rs.length->lexLt (rs.getD i []) (rs.getD j [])=ay->lexLt (rs.getD i' []) (rs.getD j' [])=ay->lexLt (rs.getD i []) (rs.getD j' [])=ay)
open Classical in
def dU(ds:List D):Option (List D):=match aY ds with
 |some ns=>if ns.length<64 then af ((sortI ns).map .int)else ah|none=>match dz ds with
  |some rs=>if lQ rs then af ((aQ rs).map dh)else ah|none=>match jm ds with
   |some rs=>if lQ rs then af ((aQ rs).map aG)else ah|none=>ah
def nj(ns:List Int):Bool:=ns.all (λn=>decide (-(2^40)<=n/\n<=2^40)) && decide (ns.length<=2^20)
def gW(k:BS)(ds:List D)(S:bq):Ev D:=match k with
 |.list mu=>AX mu ds S|.tuple=>E2 ds S|.sorted mu=>match dU ds with
  |some es=>AX mu es S|none=>ah
 |.sum=>match aY ds with
  |some ns=>if nj ns=ai then fy (.int ns.sum) S else ah|none=>ah
def nu(k:Nat)(d:D)(S:bq):Ev D:=match dg S k with
 |none=>ah|some ds=>if ds.length<aS then fy .non (S.set k (.lst (ds++ [d])))else ah
def qb(k:Nat)(d:D)(S:bq):Ev D:=match d with
 |.int i=>match dg S k with
  |none=>ah|some ds=>match L2.CC ds.length i with
   |none=>ah|some j=>match ds[j]? with
    |none=>ah|some d=>fy d (S.set k (.lst (ds.eraseIdx j)))
 |_=>ah
def nA(k:Nat)(d:D)(S:bq):Ev D:=match d with
 |.tup es=>match dg S k with
  |none=>ah|some ds=>if ds.length+es.length<=aS then fy .non (S.set k (.lst (ds++es)))else ah
 |.lst es=>match dg S k with
  |none=>ah|some ds=>if ds.length+es.length<=aS then fy .non (S.set k (.lst (ds++es)))else ah
 |_=>ah
def iu(m:Mt)(a:D)(as:List D)(S:bq):Ev D:=match a with
 |.ref k=>match m with
  |.append=>EU (nu k) as S|.mT=>EU (qb k) as S|.extend=>EU (nA k) as S|_=>ah
 |_=>ah
def Jx(p:L2.Key×D):Option (List Int):=match p.1 with
 |.inr _=>ah|.inl k=>match p.2 with
  |.int v=>af [k,v]|_=>ah
def iw:List (L2.Key×D)->Option (List (List Int))
 |[]=>af []|p::r=>match Jx p with
  |none=>ah|some q=>match iw r with
   |none=>ah|some t=>af (q::t)
def qZ(x:D)(S:bq):Ev D:=match x with
 |.ref n=>match S[n]? with
  |some o=>match o with
   |.dct kvs=>match iw kvs with
    |some rs=>if rs.Nodup/\rs.length<64 then AX ay ((aQ rs).map dh) S else ah|none=>ah
   |_=>ah
  |none=>ah
 |_=>ah
def jn(n:Nat)(ds:List D)(S:bq):Ev D:=match ds with
 |[.int i]=>match S[n]? with
  |some (.dct kvs)=>match bz kvs (.inl i)with
   |some d=>fy d (S.set n (.dct (kvs.filter λkv=>decide (kv.1≠ .inl i))))|none=>ah
  |_=>ah
 |_=>ah
def lR(n:Nat)(ds:List D)(S:bq):Ev D:=match ds with
 |[k,e]=>match S[n]? with
  |some (.dct kvs)=>match dG k with
   |some key=>match bz kvs key with
    |some d=>fy d S|none=>if kvs.length<aS then fy e (S.set n (.dct (putD kvs key e)))else ah
   |none=>ah
  |_=>ah
 |_=>ah
def cg(lo hi:Int):List D:=(bX (hi - lo).toNat).map λ(i:Nat)=>D.int (lo+(i:Int))
mutual
def bN:Tg->D->az->Option az
 |.name i,d,r=>af (r.set i (af d))|.tup ts,.tup ds,r=>jo ts ds r|.tup _,_,_=>ah
def jo:List Tg->List D->az->Option az
 |[],[],r=>af r|t::ts,d::ds,r=>match bN t d r with
  |some r'=>jo ts ds r'|none=>ah
 |_,_,_=>ah
end
def iy{α:Type}(x:Ev α):Ev α:=match x with
 |some (.ok a S)=>af (.ok a S)|_=>ah
@[simp] theorem cA (a:α) (S:bq):iy (af (.ok a S))=af (.ok a S):=rfl
def compLoop(f:az->bq->Ev D)(g:az->bq->Ev Bool)(tg:Tg):List D->az->bq->List D->Ev (List D)
 |[],_,S,acc=>fy acc S|d::ds,r,S,acc=>match bN tg d r with
  |none=>ah|some r'=>bnd (iy (g r' S)) λb S1=>if b then bnd (iy (f r' S1)) λx S2=>compLoop f g tg ds r' S2 (acc++ [x])else compLoop f g tg ds r' S1 acc
open Classical in
def DV{α:Type}(S1:bq)(f:az->bq->Ev α):az->bq->Ev α:=λr S=>if S=S1 then f r S else ah
open Classical in
def same{α:Type}(S1 S2:bq)(x:Ev α):Ev α:=if S2=S1 then x else ah
def Cq{α:Type}{S1 S:bq}{f:az->bq->Ev α}{r:az}{o:Out α}(h:DV S1 f r S=af o):f r S=af o/\S=S1:=by unfold DV at h;lia
@[simp] theorem kE {α:Type} {S1:bq} {f:az->bq->Ev α} {r:az}:DV S1 f r S1=f r S1:=by unfold DV;exact if_pos rfl
def Kw{α:Type}{S1 S2:bq}{x:Ev α}(e:¬S2=S1):same S1 S2 x=none:=by unfold same;exact if_neg e
@[simp] theorem same_self {α:Type} {S1:bq} {x:Ev α}:same S1 S1 x=x:=by unfold same;exact if_pos rfl
def f9(r:az)(n:Nat)(cap:List Nat):az:=br n ah++cap.map λi=>(r[i]?).join
def zV(b:Option Bool)(S:bq):Ev Bool:=match b with
 |some b=>fy b S|none=>ah
def dd:List Int->List Int
 |[]=> []|x::r=>if x∈r then dd r else x::dd r
def GN(ns:List Int):Bool:=decide (ns.length<=7) && ns.all λn=>decide (0<=n/\n<128)
def t7(x:D)(S:bq):Ev D:=match x with
 |.lst ds=>match aY ds with
  |some ns=>if GN ns=ai then AX ay ((sortI (dd ns)).map .int) S else ah|none=>ah
 |_=>ah
theorem jH:∀{ns:List Int}{v:Int},v∈dd ns ↔ v∈ns
 |[],v=>Iff.rfl|x::r,v=>by
  unfold dd;split
  ·rename_i h;rw[jH,We];exact⟨.inr,λz=>z.elim (λe=>e▸h) id⟩
  ·rw[We,We,jH]
theorem qd:∀(ns:List Int),(dd ns).Nodup
 |[]=> .nil|x::r=>by
  unfold dd;split
  ·exact qd r
  ·rename_i h;exact Xo.mpr ⟨λz=>h (jH.mp z),qd r⟩
def iK(ds:List D):List D:=(ds.zipIdx).map λp=> .tup [.int p.2,p.1]
def jq:List D->Option (List Str)
 |[]=>af []|.str x::r=>(jq r).map (x::·)|_::_=>ah
def lU(ds:List D)(y:D)(S:bq):Ev D:=match jq ds,y with
 |some ns,.str i=>match ns.findIdx? (λn=>decide (n=i))with
  |some j=>fy (.int j) S|none=>ah
 |_,_=>ah
def jb:D->Bool
 |.int i=>decide (i.natAbs<2^1000)|_=>ay
def zW(ds:List D)(S:bq):Ev D:=if ds.all jb=ai then fy .ET S else ah
def cO(S:bq)(c:Str):D->Option (Nat×List (Str×D))
 |.ref k=>match S[k]? with
  |some (.ins c' fs)=>if c'=c then af (k,fs)else ah|_=>ah
 |_=>ah
def cM(f:Str)(v:D):List (Str×D)->List (Str×D)
 |[]=> [(f,v)]|(g,x)::r=>if g=f then(g,v)::r else(g,x)::cM f v r
def zX(c f:Str)(x:D)(S:bq):Ev D:=match cO S c x with
 |some (_,fs)=>match fs.lookup f with
  |some d=>fy d S|none=>ah
 |none=>ah
def kI(nm:Option Nat)(c:Str)(r:az):az:=match nm with
 |some i=>r.set i (af (.FU c))|none=>r
def nC(nm:Option Nat)(x:Option Fl):Option Fl:=match x with
 |some (.next r S)=>af (.next (match nm with|some i=>r.set i ah|none=>r) S)
 |_=>ah
section
variable(cl:Nat->List D->bq->Ev D)
mutual
def aj:E->az->bq->Ev D
 |.var i,r,S=>match(r[i]?).join with
  |some d=>fy d S|none=>ah
 |.cst d,_,S=>fy d S|.bin o a b,r,S=>bnd (aj a r S) λx S1=>bnd (aj b r S1) λy S2=>binop o x y S2|.neg a,r,S=>bnd (aj a r S) λx S1=>match x with
  |.int i=>fy (.int (-i)) S1|_=>ah
 |.nt a,r,S=>bnd (aj a r S) λx S1=>match truth S1 x with
  |some b=>fy (.bl (!b)) S1|none=>ah
 |.cmp c a b,r,S=>bnd (aj a r S) λx S1=>bnd (aj b r S1) λy S2=>kQ c x y S2|.and a b,r,S=>bnd (aj a r S) λx S1=>match x with
  |.bl ai=>aj b r S1|.bl ay=>fy (.bl ay) S1|_=>ah
 |.or a b,r,S=>bnd (aj a r S) λx S1=>match x with
  |.bl ai=>fy (.bl ai) S1|.bl ay=>aj b r S1|_=>ah
 |.ite c a b,r,S=>bnd (aO c r S) λt S1=>if t then aj a r S1 else aj b r S1|.call f as,r,S=>bnd (aF as r S) λds S1=>cl f ds S1|.bi f as,r,S=>bnd (aF as r S) λds S1=>DL f ds S1|.isI a t,r,S=>bnd (aj a r S) λx S1=>match DJ x t with
  |some b=>fy (.bl b) S1|none=>ah
 |.tup as,r,S=>bnd (aF as r S) λds S1=>E2 ds S1|.lst mu as,r,S=>bnd (aF as r S) λds S1=>AX mu ds S1|.ix a b,r,S=>bnd (aj a r S) λx S1=>bnd (aj b r S1) λy S2=>IY x y S2|.GH a lo,r,S=>bnd (aj a r S) λx S1=>bnd (aj lo r S1) λl S2=>match l with
  |.int i=>slc x (af i) ah S2|_=>ah
 |.DF a hi,r,S=>bnd (aj a r S) λx S1=>bnd (aj hi r S1) λh S2=>match h with
  |.int j=>slc x ah (af j) S2|_=>ah
 |.DH a lo hi,r,S=>bnd (aj a r S) λx S1=>bnd (aj lo r S1) λl S2=>match l with
  |.int i=>bnd (aj hi r S2) λh S3=>match h with
   |.int j=>slc x (af i) (af j) S3|_=>ah
  |_=>ah
 |.comp mu elt tg it ifs n cap,r,S=>bnd (bH it r S) λds S1=>bnd (compLoop (λr S=>aj elt r S) (λr S=>bx ifs r S) tg ds (f9 r n cap) S1 []) λes S2=>AX mu es S2|.AM mu elt tg e ifs n cap,r,S=>bnd (aj e r S) λx S1=>match x with
  |.ref k=>match S1[k]? with
   |some (.lst ds)=>bnd (compLoop (DV S1 λr S=>aj elt r S) (DV S1 λr S=>bx ifs r S) tg ds (f9 r n cap) S1 []) λes S2=>same S1 S2 (AX mu es S2)|_=>ah
  |_=>ah
 |.col k it,r,S=>bnd (bH it r S) λds S1=>gW k ds S1|.meth m a as,r,S=>bnd (aj a r S) λx S1=>match x with
  |.ref n=>match S1[n]? with
   |some (.lst _)=>bnd (aF as r S1) λds S2=>iu m (.ref n) ds S2|some (.dct _)=>match m with
    |.mT=>bnd (aF as r S1) λds S2=>jn n ds S2|_=>ah
   |_=>ah
  |_=>ah
 |.dct,_,S=>fy (.ref S.length) (S++ [.dct []])|.GI a,r,S=>bnd (aj a r S) λx S1=>qZ x S1|.FY a b,r,S=>bnd (aj a r S) λx S1=>match x with
  |.lst ds=>bnd (aj b r S1) λy S2=>lU ds y S2|_=>ah
 |.fld c f a,r,S=>bnd (aj a r S) λx S1=>zX c f x S1|.jS c m f a as,r,S=>bnd (aj a r S) λx S1=>match cO S1 c x with
  |some (_,fs)=>if fs.lookup m=ah then bnd (aF as r S1) λds S2=>cl f (x::ds) S2 else ah|none=>ah
 |.new c f as,r,S=>bnd (aF as r S) λds S1=>bnd (cl f (.ref S1.length::ds) (S1++ [.ins c []])) λv S2=>match v with
  |.non=>fy (.ref S1.length) S2|_=>ah
 |.F0 a as,r,S=>bnd (aj a r S) λx S1=>match x with
  |.ref n=>match S1[n]? with
   |some (.dct _)=>bnd (aF as r S1) λds S2=>lR n ds S2|_=>ah
  |_=>ah
 |.sset a,r,S=>bnd (aj a r S) λx S1=>t7 x S1|.fmt as,r,S=>bnd (iy (aF as r S)) λds S1=>zW ds S1
def aF:List E->az->bq->Ev (List D)
 |[],_,S=>fy [] S|e::es,r,S=>bnd (aj e r S) λd S1=>bnd (aF es r S1) λds S2=>fy (d::ds) S2
def bx:List T->az->bq->Ev Bool
 |[],_,S=>fy ai S|e::es,r,S=>bnd (aO e r S) λb S2=>if b then bx es r S2 else fy ay S2
def aO:T->az->bq->Ev Bool
 |.val e,r,S=>bnd (aj e r S) λx S1=>zV (truth S1 x) S1|.and a b,r,S=>bnd (aO a r S) λt S1=>if t then aO b r S1 else fy ay S1|.or a b,r,S=>bnd (aO a r S) λt S1=>if t then fy ai S1 else aO b r S1|.nt a,r,S=>bnd (aO a r S) λt S1=>fy (!t) S1
def bH:It->az->bq->Ev (List D)
 |.seq e,r,S=>bnd (aj e r S) λx S1=>match x with
  |.tup ds=>fy ds S1|.lst ds=>fy ds S1|.As ns=>fy (ns.map .int) S1|_=>ah
 |.snap e,r,S=>bnd (aj e r S) λx S1=>match bf S1 x with
  |some ds=>fy ds S1|none=>ah
 |.IX e,r,S=>bnd (aj e r S) λx S1=>match x with
  |.lst ds=>fy ds S1|.tup ds=>fy ds S1|.ref k=>match S1[k]? with
   |some (.lst ds)=>fy ds S1|_=>ah
  |_=>ah
 |.live e,r,S=>bnd (aj e r S) λx S1=>match x with
  |.lst ds=>fy ds S1|.tup ds=>match aY ds with
   |some _=>fy ds S1|none=>ah
  |.ref k=>match S1[k]? with
   |some (.lst ds)=>fy ds S1|some (.dct kvs)=>fy (kvs.map λp=>tN p.1) S1|_=>ah
  |_=>ah
 |.lS b,r,S=>bnd (aj b r S) λy S1=>match y with
  |.int j=>if -(2^62)<=j/\j<2^62 then fy (cg 0 j) S1 else ah|_=>ah
 |.BB e,r,S=>bnd (aj e r S) λx S1=>match x with
  |.tup ds=>fy (iK ds) S1|_=>ah
end
def AN(x:Option Fl)(k:az->bq->Option Fl):Option Fl:=match x with
 |some (.next r S)=>k r S|x=>x
def AD(x:Option Fl)(k:az->bq->Option Fl):Option Fl:=match x with
 |some (.next r S)=>k r S|some (.cont r S)=>k r S|some (.brk r S)=>af (.next r S)|x=>x
def forLoop(f:az->bq->Option Fl)(tg:Tg):List D->az->bq->Option Fl
 |[],r,S=>af (.next r S)|d::ds,r,S=>match bN tg d r with
  |none=>ah|some r'=>AD (f r' S) λr S=>forLoop f tg ds r S
def fH(t:az->bq->Ev Bool)(f:az->bq->Option Fl):Nat->az->bq->Option Fl
 |0,_,_=>ah|n+1,r,S=>match t r S with
  |none=>ah|some (.exc c S)=>af (.exc c r S)|some (.ok ay S1)=>af (.next r S1)|some (.ok ai S1)=>AD (f r S1) λr S=>fH t f n r S
open Classical in
def dX(f:az->bq->Option Fl)(tg:Tg)(k:Nat)(all:List D):List D->az->bq->Option Fl
 |[],r,S=>af (.next r S)|d::ds,r,S=>match bN tg d r with
  |none=>ah|some r'=>AD (f r' S) λr S=>if S[k]?=af (.lst all)then dX f tg k all ds r S else ah
def GO(k:Nat)(S:bq):Option bq:=match S[k]? with
 |some (.xy kvs)=>af (S.set k (.dct kvs))|_=>ah
def gr(k:Nat)(x:Option Fl):Option Fl:=match x with
 |some (.next r S)=>(GO k S).map λS'=> .next r S'|some (.ret d S)=>(GO k S).map λS'=> .ret d S'|_=>ah
def fN{α:Type}(x:Ev α)(r:az)(k:α->bq->Option Fl):Option Fl:=match x with
 |none=>ah|some (.exc c S)=>af (.exc c r S)|some (.ok a S)=>k a S
mutual
def runC:C->az->bq->Option Fl
 |.asg t e,r,S=>fN (aj cl e r S) r λd S1=>match bN t d r with
  |some r'=>af (.next r' S1)|none=>ah
 |.sub o i v,r,S=>fN (aj cl v r S) r λd S1=>fN (aj cl o r S1) r λa S2=>fN (aj cl i r S2) r λb S3=>match putAt a b d S3 with
  |some S4=>af (.next r S4)|none=>ah
 |.ex e,r,S=>fN (aj cl e r S) r λ_ S1=>af (.next r S1)|.cond e a b,r,S=>fN (aO cl e r S) r λt S1=>if t then dS a r S1 else dS b r S1|.wh e a,r,S=>fH (λr S=>aO cl e r S) (λr S=>dS a r S) 1000 r S|.fr t it a,r,S=>fN (bH cl it r S) r λds S1=>forLoop (λr S=>dS a r S) t ds r S1|.C6 t e a,r,S=>fN (aj cl e r S) r λx S1=>match x with
  |.ref k=>match S1[k]? with
   |some (.dct kvs)=>gr k (forLoop (λr S=>dS a r S) t (kvs.map λp=>tN p.1) r (S1.set k (.xy kvs)))|some (.lst ds)=>dX (λr S=>dS a r S) t k ds ds r S1|_=>ah
  |_=>ah
 |.ret e,r,S=>fN (aj cl e r S) r λd S1=>af (.ret d S1)|.GL,_,S=>af (.ret .non S)|.brk,r,S=>af (.brk r S)|.cont,r,S=>af (.cont r S)|.pass,r,S=>af (.next r S)|.raise c as,r,S=>fN (aF cl as r S) r λ_ S1=>af (.exc c r S1)|.fset c f o v,r,S=>fN (aj cl v r S) r λd S1=>fN (aj cl o r S1) r λx S2=>match cO S2 c x with
  |some (k,fs)=>if fs.length<1000 then af (.next r (S2.set k (.ins c (cM f d fs))))else ah|none=>ah
 |.no,_,_=>ah|.tr a cs nm h,r,S=>match dS a r S with
  |some (.exc c r1 S1)=>if c∈cs then nC nm (dS h (kI nm c r1) S1)else ah|x=>x
def dS:List C->az->bq->Option Fl
 |[],r,S=>af (.next r S)|c::cs,r,S=>AN (runC c r S) λr S=>dS cs r S
end
end
structure B9 where
 np:Nat
 nn:Nat
 body:List C
def r6(n:Nat):D->Prop
 |.tup ds=>clos n ds|.lst ds=>clos n ds|.ref k=>k<n|_=>True
where clos (n:Nat):List D->Prop
 |[]=>True|d::ds=>r6 n d/\clos n ds
def uG(n:Nat):SO->Prop
 |.lst ds=>r6.clos n ds|.dct kvs=>∀p∈kvs,r6 n p.2|.ins _ fs=>∀p∈fs,r6 n p.2|.xy kvs=>∀p∈kvs,r6 n p.2
open Classical in
def trim(S:bq)(d:D)(S':bq):Ev D:=
 if S'.take S.length=S/\r6 S.length d then af (.ok d S)
 else if(∀o∈S'.take S.length,uG S.length o)/\r6 S.length d then af (.ok d (S'.take S.length))
 else match d with
  |.ref k=>match S'[k]? with
   |some (.lst ds)=>if S'.take S.length=S/\S.length<=k/\r6 S.length (.lst ds)then af (.ok (.lst ds) S)else af (.ok d S')|_=>af (.ok d S')
  |_=>af (.ok d S')
open Classical in
def gh(S:bq):Option Fl->Ev D
 |some (.ret d S')=>trim S d S'|some (.next _ S')=>trim S .non S'|some (.exc c _ S')=>if S'.take S.length=S then af (.exc c S)else af (.exc c S')|_=>ah
def ao(fns:List B9):Nat->Nat->List D->bq->Ev D
 |0,_,_,_=>ah|k+1,f,as,S=>match fns[f]? with
  |none=>ah|some fs=>if as.length=fs.np then gh S (dS (ao fns k) fs.body (as.map af++br (fs.nn - as.length) ah) S)else ah
end RK
namespace RK
open PySem
abbrev nD(l:List Env):List Addr:=l.filterMap (·.frame)
def nF(h:dc)(e:aI)(cls:av)(t:Option aI):Prop:=∃oe vs,h.get? e=af oe/\oe.cls=cls/\oe.dict=ah/\oe.data= .fields vs/\1<vs.size/\match t with
 |none=>vs[1]?=af .none|some T=>vs[1]?=af (.ref T)/\T≠e/\∃oT ts,h.get? T=af oT/\oT.data= .fields ts/\ts[3]?=af .none
def Cr(o:Obj)(f:Array av->Array av):(Obj.mapFields f o).dict=o.dict:=by obtain⟨c,d,dt,sl⟩:=o;cases dt<;>rfl
section
variable{M:Model}{A:cK}{E:av->aE->Prop}{s:aE}
def entry_all 
  (hfr:A.frames=af (env::outer)) (hl:s.heap.FunFrames base (env::outer)) (hf:env.frame=af L) (he:s.heap.get? e=af oe) (hdn:oe.dict=ah) (hd:oe.data= .fields vs) (hsz:1<vs.size)
  (h:∀h' T,s.heap.get? T=ah->nF h' e oe.cls (af T)->(∀b o,s.heap.get? b=af o->b≠e->b∉nD (env::outer)->h'.get? b=af o)->(∀b o,s.heap.get? b=af o->b∈nD (env::outer)->∃sl,h'.get? b=af {o with slots:=sl})->Q () {s with heap:=h'}):
  bg M A (do let a ←frameOf env;let pl ←entryPlaceOf L hadNext;let b ←EntryCells.newEntry head a .none (rawInt L) .none pl;setField (.ref e) 1 b) (λ_ s'=>bg M A (setFlight (.ref e) ah) Q E s') E s:=by
 have hne:∀b∈nD (env::outer),b≠e:=λb hb q=>by
  obtain⟨_,o,ho,hnf⟩:=hl.mem hb
  simp_all
 refine My (wpAny_frameOf_fun hfr hl hf λg1 x1=>My (wpAny_entryPlaceOf λpl hpl=>?_));unfold EntryCells.newEntry newFields;refine My (W5 ?_ (hpl.sizeOk5 _ _ _ _ _));have e1:g1.get? e=af oe:=(x1.2.1 e λz=>hne e z rfl).trans he;obtain⟨oT,OB⟩:∃oT:Obj,oT={cls:= .type "traceback",dict:=ah,data:= .fields ([head,.ref L,.none,rawInt L,.none]++(if pl.isEmpty then br 6 Value.none else pl)).toArray}:=⟨_,rfl⟩
 have hdT:oT.data= .fields ([head,.ref L,.none,rawInt L,.none]++(if pl.isEmpty then br 6 Value.none else pl)).toArray:=by rw[OB]
 show bg M A (setField (.ref e) 1 (.ref g1.objs.size)) _ _ {s with heap:=g1.push {cls:= .type "traceback",dict:=ah,data:= .fields ([head,.ref L,.none,rawInt L,.none]++(if pl.isEmpty then br 6 Value.none else pl)).toArray}};rw[←OB];have nT:g1.objs.size≠e:=Xn (Wg e1);have e2:(g1.push oT).get? e=af oe:=V9 _ e1;refine Yj e2 hd hsz ?_;have d3:=Yq hd (·.setIfInBounds 1 (Value.ref g1.objs.size));have e3:=W7 (Obj.mapFields (·.setIfInBounds 1 (Value.ref g1.objs.size))) e2 (YT d3);have t3:((g1.push oT).update e (Obj.mapFields (·.setIfInBounds 1 (Value.ref g1.objs.size)))).get? g1.objs.size=af oT:=
  (Ww _ _ (Ne.symm nT)).trans (Wf g1 (by rw[OB];rfl))
 unfold setFlight;refine My (W3 e3 d3 (x:= .ref g1.objs.size) (by simp[hsz]) ?_);rw[if_pos (show(Value.ref g1.objs.size !=Value.none)=ai from by simp)];have z3:3<([head,.ref L,.none,rawInt L,.none]++(if pl.isEmpty then br 6 Value.none else pl)).toArray.size:=by simp only[WX,WK,Wl,WN];lia
 refine Yj t3 hdT z3 (h _ g1.objs.size ?_ ?_ (λb o hb hbe hbf=>?_) λb o hb hbf=>?_)
 ·cases q:s.heap.get? g1.objs.size with|none=>rfl|some o=>exact absurd (Wg q) (by rw[x1.1];lia)
 ·refine⟨_,_,(Ww _ _ nT).trans e3,Obj.cls_mapFields _ _,(Cr _ _).trans hdn,d3,by simpa using hsz,by simp[hsz],nT,_,_,W7 _ t3 (YT (Yq hdT _)),Yq hdT _,?_⟩;rfl
 ·have h1:g1.get? b=af o:=(x1.2.1 b hbf).trans hb;have nb:g1.objs.size≠b:=Xn (Wg h1);rw[Ww _ _ nb,Ww _ _ (Ne.symm hbe)];exact V9 _ h1
 ·obtain⟨sl,h1⟩:=x1.2.2 b o hb;have nb:g1.objs.size≠b:=Xn (Wg h1);refine⟨sl,?_⟩;rw[Ww _ _ nb,Ww _ _ (Ne.symm (hne b hbf))];exact V9 _ h1
theorem land 
  (hfr:A.frames=af (env::outer)) (hl:s.heap.FunFrames base (env::outer)) (hf:env.frame=af L) (x:nF s.heap e cls t)
  (h:∀h' T,s.heap.get? T=ah->nF h' e cls (af T)->(∀b o,s.heap.get? b=af o->b≠e->t≠af b->b∉nD (env::outer)->h'.get? b=af o)->(∀b o,s.heap.get? b=af o->b∈nD (env::outer)->∃sl,h'.get? b=af {o with slots:=sl})->Q () {s with heap:=h'}):
  bg M A (noteFrame (.ref e) env) (λ_ s'=>bg M A (setFlight (.ref e) ah) Q E s') E s:=by
 obtain⟨oe,vs,he,hc,hdn,hd,hsz,ht⟩:=x;subst hc;unfold noteFrame;simp only[hf];cases t with
 |none=>refine My (W3 he hd ht ?_);rw[if_neg (by decide)];exact entry_all hfr hl hf he hdn hd hsz λh' T n a k sl=>h h' T n a (λb o hb hbe _ hbf=>k b o hb hbe hbf) sl|some T=>
  obtain⟨h1,nT,oT,ts,hT,hdT,h3⟩:=ht;refine My (W3 he hd h1 ?_);rw[if_pos (show(Value.ref T !=Value.none)=ai from by simp)];refine My (W3 hT hdT h3 ?_);rw[if_neg (show ¬((Value.none==rawInt L)=ai)from by simp[rawInt])];refine My (Yj hT hdT (Array.getElem?_eq_some_iff.mp h3).1 ?_);have other:∀b,b≠T->(s.heap.update T (Obj.mapFields (·.setIfInBounds 3 Value.none))).get? b=s.heap.get? b:=λb hb=>Ww _ _ (Ne.symm hb);have UZ:∀b∈nD (env::outer),b≠T:=λb hb q=>by
   obtain⟨_,o,ho,hnf⟩:=hl.mem hb
   simp_all
  have hl':(s.heap.update T (Obj.mapFields (·.setIfInBounds 3 Value.none))).FunFrames base (env::outer):=hl.of_keeps λb o hb hnf=>⟨o,(other b λq=>by simp_all).trans hb,rfl⟩
  refine entry_all (s:={s with heap:=s.heap.update T (Obj.mapFields (·.setIfInBounds 3 Value.none))}) hfr hl' hf ((other e (Ne.symm nT)).trans he) hdn hd hsz λh' T' n a k sl=>h h' T' ?_ a (λb o hb hbe hbt hbf=>?_) λb o hb hbf=>?_
  ·by_cases q:T'=T
   ·subst q;have:=W7 (Obj.mapFields (·.setIfInBounds 3 Value.none)) hT (YT (Yq hdT _));lia
   simp_all
  ·exact k b o ((other b λq=>hbt (by rw[q])).trans hb) hbe hbf
  ·exact sl b o ((other b (UZ b hbf)).trans hb) hbf
end
end RK
namespace RK
open PySem L2 PySem.SeqAt PySem.Spec
section
variable{P:ck}{w:cy}{H:Hp}{h:dc}{a:aI}{o:HO}
theorem TF(x:bB P w H h a o):∃u,h.get? a=af u:=by
 cases o with
 |lst xs=>obtain⟨_,_,_,_,e⟩:=x;exact⟨_,e⟩
 |tup xs=>obtain⟨_,_,_,_,o,e,_⟩:=x;exact⟨o,e⟩
 |dK kvs=>obtain⟨_,_,_,_,o,_,_,e,_⟩:=x;exact⟨_,e⟩
 |dT kvs=>obtain⟨_,_,_,_,o,_,_,e,_⟩:=x;exact⟨_,e⟩
 |set S n=>obtain⟨o,_,_,_,e,_⟩:=x;exact⟨_,e⟩
 |ins C dx fs=>obtain⟨_,_,_,e,_⟩:=x;exact⟨_,e⟩
 |own y=>exact x|xd fs=>obtain⟨_,⟨_,_,_,e,_⟩,_⟩:=x;exact⟨_,e⟩
 |AR lo hi=>obtain⟨_,_,_,e⟩:=x;exact⟨_,e⟩
 |tw ob u=>obtain⟨e,_⟩:=x;exact⟨_,e⟩
 |FG ps=>exact⟨_,(show h.get? a=af _ from x)⟩|met f y=>exact⟨_,(show h.get? a=af _ from x)⟩|ext φ=>obtain⟨_,e,_⟩:=x;exact e
theorem Cu(x:zo P w H h)(e:h.get? a=ah):H a=none:=by
 cases q:H a with
 |none=>rfl|some u=>obtain⟨v,z⟩:=TF (x a u q);lia
end
structure CS(X:Cx)(pins:List (aI×Obj))(H:Hp)(b:aI):Prop where
 non:H b=ah
 loc:b≠X.env.locals
 RU:b∉X.fs
 new:b∈X.ex\/X.s₀.heap.get? b=ah
 IZ:∀x c,X.env.cells.lookup x=af c->c≠b
 OE:∀p∈X.pn++pins,p.1≠b
section
variable{X:Cx}{pins:List (aI×Obj)}{σ:St}{H H':Hp}{s s':aE}{h':dc}
def nG(I:Inv X pins σ H s){b:aI}(hb:s.heap.get? b=ah)(hn:H' b=ah):CS X pins H' b where
 non:=hn
 loc:=λz=>by obtain⟨m,⟨o,_,_,e,_⟩,_⟩:=I.loc;lia
 RU:=λz=>by obtain⟨_,o,e,_⟩:=I.AJ.mem z;lia
 new:=by
  by_cases q:b∈X.ex
  ·exact .inl q
  ·refine .inr ?_;cases e:X.s₀.heap.get? b with
   |none=>rfl|some o=>obtain⟨o',e'⟩:=I.base.there b o e q;lia
 IZ:=λx c e z=>by obtain⟨v,o,q,_⟩:=I.cell x c e;lia
 OE:=λp hp z=>by have q:=(I.pin p hp).1;lia
def xX{ch:List aI}(I:Inv X pins σ H s)(hch:∀b∈ch,CS X pins H b)(keep:∀b o,s.heap.get? b=af o->b∉ch->b∉frs X.stack->h'.get? b=af o)(slot:∀b o,s.heap.get? b=af o->b∈frs X.stack->∃sl,h'.get? b=af {o with slots:=sl}):Inv X pins σ H {s with heap:=h'}:=by
 have hok:zo X.prog X.w H h':=λb u e=>(I.hok b u e).stay (λc v hc q=>by
  have hH:H c≠none:=by
   rcases hc with z|z
   ·lia
   ·rw[z];simp
  exact keep c v q (λz=>hH (hch c z).non) λz=>hH (I.B3 c z)) (λ_ q=>q) λ_ _ q=>q
 have any:∀b o,s.heap.get? b=af o->b∉ch->∃sl,h'.get? b=af {o with slots:=sl}:=λb o q hb=>by
  by_cases hf:b∈frs X.stack
  ·exact slot b o q hf
  ·exact⟨o.slots,keep b o q hb hf⟩
 have RY:∀b,b≠X.env.locals->b∉X.fs->b∉frs X.stack:=λb h1 h2 z=>(We.mp (I.AW b z)).elim h1 h2;have MM:∀b o,X.s₀.heap.get? b=af o->b≠X.env.locals:=λb o e=>Wo (WF (Wg e) I.ok.above);have FI:∀b o,X.s₀.heap.get? b=af o->b∉X.ex->b∉ch:=λb o e hx hb=>by
  rcases(hch b hb).new with z|z
  ·exact hx z
  lia
 have IZ:∀x c,X.env.cells.lookup x=af c->∀v,s.heap.IsCell c v->h'.IsCell c v:=λx c e v ⟨o,ho,hd⟩=>by obtain⟨sl,q⟩:=any c o ho λz=>(hch c z).IZ x c e rfl;exact⟨_,q,hd⟩
 refine⟨I.ok,I.os,I.bare,⟨λb o e n hb hx=>?_,λb o e n hb hx=>?_,I.base.free,λb o e hx=>?_,I.base.tups,I.base.sd,I.base.A9⟩,?_,λx c e=>?_,I.free,I.vS,λp hp=>?_,hok,I.len⟩
 ·exact keep b o (I.base.keep b o e n hb hx) (FI b o e hx) (RY b (MM b o e) hb)
 ·obtain⟨sl,e1⟩:=I.base.slot b o e n hb hx;obtain⟨sl',e2⟩:=any b _ e1 (FI b o e hx)
  grind
 ·obtain⟨o',e1⟩:=I.base.there b o e hx;obtain⟨sl,e2⟩:=any b o' e1 (FI b o e hx)
  grind
 ·obtain⟨m,⟨o,es,ep,ho,r⟩,hl⟩:=I.loc;obtain⟨sl,hL⟩:=any _ o ho λz=>(hch _ z).loc rfl;refine⟨m,⟨_,es,ep,hL,r⟩,λi x v e1 e2 e3=>?_⟩;obtain⟨u,r,l⟩:=hl i x v e1 e2 e3;refine⟨u,r,?_⟩;rcases l with l|⟨k,c,e,z⟩
  ·exact .inl l
  ·exact .inr ⟨k,c,e,IZ x c e _ z⟩
 ·obtain⟨v,z⟩:=I.cell x c e;exact⟨v,IZ x c e v z⟩
 ·obtain⟨e,n,ne,nf,d⟩:=I.pin p hp;exact⟨keep p.1 p.2 e (λz=>(hch _ z).OE p hp rfl) (RY _ ne nf),n,ne,nf,d⟩
def bI(X:Cx)(pins:List (aI×Obj))(H:Hp)(o:Option aI)(e:av)(s:aE):Prop:=
 ∃a t C,e= .ref a/\o=af C/\nF s.heap a (.ref C) t/\CS X pins H a/\∀T,t=af T->CS X pins H T
def landed{E:av->aE->Prop}(I:Inv X pins σ H s)(hs:X.stack=X.env::X.outer)(hf:X.env.frame=af X.env.locals)(x:bI X pins H o e s)(h:∀h',Inv X pins σ H {s with heap:=h'}->bI X pins H o e {s with heap:=h'}->Q () {s with heap:=h'}):
  bg M X.A (noteFrame e X.env) (λ_ s'=>bg M X.A (setFlight e ah) Q E s') E s:=by
 obtain⟨a,t,C,rfl,rfl,al,oa,ot⟩:=x;have hfr:=I.ok.frames;have hst:=I.stack;rw[hs]at hfr hst;refine land hfr hst hf al λh' T n al' keep slot=>h h' (xX I (ch:=a::t.toList) (λb hb=>?_) (λb o hb hc hf=>?_) λb o hb hf=>?_) ⟨a,af T,C,rfl,rfl,al',oa,λT' e=>?_⟩
 ·rcases We.mp hb with z|z
  ·exact z▸oa
  simp_all
 ·refine keep b o hb (λz=>hc (by rw[z];simp)) (λz=>hc (by rw[z];simp)) ?_;rw[hs]at hf;exact hf
 ·rw[hs]at hf;exact slot b o hb hf
 ·have e:T=T':=Wd e;subst e;exact nG I n (Cu I.hok n)
end
def A6(P:ck)(w:cy):F9:=λouter H s E e s'=>∃a t C H',e= .ref a/\nF s'.heap a (.ref C) t/\s.heap.get? a=ah/\(∀T,t=af T->s.heap.get? T=ah/\H' T=ah)/\H' a=ah/\
 s'.os=s.os/\PyProof.Rows.AllBare s'.gens/\Un (frs outer) [] H H' s.heap s'.heap/\zo P w H' s'.heap/\E e (af C) H'
section
variable{X:Cx}{pins:List (aI×Obj)}{σ:St}{H H':Hp}{s s':aE}
def lV{E:XK}(I:Inv X pins σ H s)(h:A6 X.prog X.w X.stack H s E e s'):∃o H',Inv X pins σ H' s'/\bI X pins H' o e s'/\E e o H':=by obtain⟨a,t,C,H',rfl,al,na,nt,ha,ho,hg,un,hok,q⟩:=h;exact⟨af C,H',I.FL (ch:=[]) ho un hok hg (λb z=>nomatch z),⟨a,t,C,rfl,rfl,al,nG I na ha,λT e=>nG I (nt T e).1 (nt T e).2⟩,q⟩
end
def GP{cd:av}{A:cK}{outer:List Env}{s s':aE}{H H':Hp}{E:XK}{pins:List (aI×Obj)}{σ:St}{o:Option aI}{e:av}(I:Inv (iY (A6 P w) P w K mg base N qual scope f cd A outer s H E) pins σ H' s')(x:bI (iY (A6 P w) P w K mg base N qual scope f cd A outer s H E) pins H' o e s')(hE:E e o H'):
  (iY (A6 P w) P w K mg base N qual scope f cd A outer s H E).xe e s':=by
 show bg (model P w) _ (leaving _ e) _ _ s';unfold leaving;refine My (landed I rfl rfl x λh' J y=>?_);obtain⟨a,t,C,rfl,rfl,al,oa,ot⟩:=y;have new:∀b,CS (iY (A6 P w) P w K mg base N qual scope f cd A outer s H E) pins H' b->s.heap.get? b=none:=λb z=>z.new.elim (λq=>absurd (show b∈([]:List aI)from q) (by simp)) λq=>q;exact⟨a,t,C,H',rfl,al,new a oa,λT e=>⟨new T (ot T e),(ot T e).non⟩,oa.non,J.os,J.bare,J.base,J.hok,hE⟩
def t8(a C:aI):dc->Prop:=λh=>∃o vs,h.get? a=af o/\o.cls= .ref C/\o.dict=ah/\o.data= .fields vs
structure CU(K:aT)(C:aI):Prop where
 g1:eB K (.ref C) "__getattribute__" =af (af (.builtin "BaseException.__getattribute__"))
 g2:eB K (.ref C) "__getattr__" =af ah
 g3:fq K (.ref C) (.type "BaseException")=af ai
 c2:eB K (.ref C) "__class__" =af (af (.builtin "object.__class__"))
 c3:PySem.W.specialIn K (.builtin "object.__class__") "__get__" =af (af (.builtin "getset_descriptor.__get__"))
 c4:PySem.W.takesIn K (.builtin "object.__class__")=af ai
 c5:PySem.W.mroIn K C (.type "object")=af ai
def t8.inst{a C:aI}(x:t8 a C h):∃o,xA h a o C none:=by
 obtain⟨o,vs,h1,h2,h3,h4⟩:=x;refine⟨o,h1,h2,?_,?_⟩
 ·unfold PySem.W.notCls;rw[h4]
 ·rw[h3];trivial
section
variable{X:Cx}{pins:List (aI×Obj)}{σ:St}{H:Hp}{s:aE}{h':dc}
theorem Ky{E:av->aE->Prop}(I:Inv X pins σ H s)(x:bI X pins H o e s)(h:∀h',Inv X pins σ H {s with heap:=h'}->bI X pins H o e {s with heap:=h'}->Q () {s with heap:=h'}):bg M A (setFlight e ah) Q E s:=by
 obtain⟨a,t,C,rfl,rfl,al,oa,ot⟩:=x;obtain⟨oe,vs,he,hc,hdn,hd,hsz,ht⟩:=id al;unfold setFlight;cases t with
 |none=>refine My (W3 he hd ht ?_);rw[if_neg (by decide)];exact V8 (h s.heap I ⟨a,ah,C,rfl,rfl,al,oa,ot⟩)|some T=>
  obtain⟨h1,nT,oT,ts,hT,hdT,h3⟩:=ht;refine My (W3 he hd h1 ?_);rw[if_pos (show(Value.ref T !=Value.none)=ai from by simp)];refine Yj hT hdT (Array.getElem?_eq_some_iff.mp h3).1 ?_;have dT:=Yq hdT (·.setIfInBounds 3 (Value.none));have t3:=W7 (Obj.mapFields (·.setIfInBounds 3 (Value.none))) hT (YT dT);have other:∀b,b≠T->(s.heap.update T (Obj.mapFields (·.setIfInBounds 3 Value.none))).get? b=s.heap.get? b:=λb hb=>Ww _ _ (Ne.symm hb);refine h _ (xX I (ch:=[T]) (λb hb=>?_) (λb o hb hc _=>?_) λb o hb hf=>?_) ⟨a,af T,C,rfl,rfl,?_,oa,ot⟩
  ·simp_all
  ·simp_all
  ·refine⟨o.slots,(other b λz=>?_).trans hb⟩;obtain⟨_,o',ho',hnf⟩:=I.stack.mem hf
   simp_all
  ·refine⟨oe,vs,(other a (Ne.symm nT)).trans he,hc,hdn,hd,hsz,h1,nT,_,_,t3,dT,?_⟩;rw[Array.getElem?_setIfInBounds_self,if_pos (Array.getElem?_eq_some_iff.mp h3).1]
end
end RK
namespace RK
open PySem L2
def jr(K:aT)(H:Hp)(a:aI)(xs:List V):Prop:=
 (∃o,H a=af (.tw o (.lst xs)))\/
  ∃(o:Obj)(its:Array av)(n:Nat),K.lookup a=af o/\o.cls= .type "list" /\o.dict=ah/\o.data= .seq its n/\its.size<=aS/\Vals xs its.toList
def jr.sq(h:jr K H a xs):wc K H a xs:=by
 rcases h with h|h
 ·exact .inl (.inr h)
 ·exact .inr h
mutual
def RD(K:aT)(m:List aI)(H:Hp):D->V->Prop
 |.non,v=>v= .non|.bl b,v=>v= .bl b|.int i,v=>v= .int i|.str x,v=>v= .str x|.tup ds,v=>∃a vs,v= .ref a/\tP K H a vs/\f7 K m H ds vs|.lst ds,v=>∃a vs,v= .ref a/\H a=af (.lst vs)/\a∉m/\f7 K m H ds vs|.As ns,v=>∃a,v= .ref a/\jr K H a (ns.map V.int)|.ref k,v=>∃a,v= .ref a/\m[k]?=af a|.FU c,v=>∃a C,v= .ref a/\bP K mainGlobals c=af (af (.ref C))/\H a=af (.ext (t8 a C))|.ET,_=>True
def f7(K:aT)(m:List aI)(H:Hp):List D->List V->Prop
 |[],vs=>vs=[]|d::ds,vs=>∃v r,vs=v::r/\RD K m H d v/\f7 K m H ds r
end
structure fk(m m':List aI)(H H':Hp):Prop where
 pre:∃t,m'=m++t
 new:∀a o,H a=af o->a∉m->a∉m'
 tups:∀a xs,H a=af (.tup xs)->H' a=af (.tup xs)
 sd:∀a o u,H a=af (.tw o u)->H' a=af (.tw o u)
 BH:∀a xs,H a=af (.lst xs)->a∉m->H' a=af (.lst xs)
 non:∀a,H' a=zS->H a=zS
 exts:∀a φ,H a=af (.ext φ)->H' a=af (.ext φ)
def fk.refl(m:List aI)(H:Hp):fk m m H H:=⟨⟨[],by simp⟩,λ_ _ _ h=>h,λ_ _ h=>h,λ_ _ _ h=>h,λ_ _ h _=>h,λ_ h=>h,λ_ _ h=>h⟩
def fk.trans{m m1 m2:List aI}{H H1 H2:Hp}(a:fk m m1 H H1)(b:fk m1 m2 H1 H2):fk m m2 H H2 where
 pre:=by obtain⟨t,rfl⟩:=a.pre;obtain⟨u,rfl⟩:=b.pre;simp
 new:=λc o h hm=>by
  have h1:=a.new c o h hm;cases q:H1 c with|none=>rw[a.non c q]at h;cases h|some o'=>exact b.new c o' q h1
 tups:=λc xs h=>b.tups c xs (a.tups c xs h)
 sd:=λc o u h=>b.sd c o u (a.sd c o u h)
 BH:=λc xs h hm=>b.BH c xs (a.BH c xs h hm) (a.new c _ h hm)
 non:=λc h=>a.non c (b.non c h)
 exts:=λc φ h=>b.exts c φ (a.exts c φ h)
structure Cc(m m':List aI)(H H':Hp):Prop where
 pre:∃t,m'=m++t
 new:∀a o,H a=af o->a∉m->a∉m'
 tups:∀a xs,H a=af (.tup xs)->H' a=af (.tup xs)
 sd:∀a o u,H a=af (.tw o u)->(∀kvs,u≠ .dK kvs)->H' a=af (.tw o u)
 BH:∀a xs,H a=af (.lst xs)->a∉m->H' a=af (.lst xs)
 exts:∀a φ,H a=af (.ext φ)->H' a=af (.ext φ)
def fk.w(s:fk m m' H H'):Cc m m' H H':=⟨s.pre,s.new,s.tups,λa o u h _=>s.sd a o u h,s.BH,s.exts⟩
section
variable{K:aT}{m m':List aI}{H H':Hp}
def Cc.at(s:Cc m m' H H'){k:Nat}(h:m[k]?=af a):m'[k]?=af a:=by obtain⟨t,rfl⟩:=s.pre;have hk:=(Wi.mp h).1;rw[Ws hk];exact h
def Cc.LG(s:Cc m m' H H')(h:tP K H a vs):tP K H' a vs:=by
 rcases h with(h|⟨o,h⟩)|h
 ·exact .inl (.inl (s.tups _ _ h))
 ·exact .inl (.inr ⟨o,s.sd _ _ _ h (λ_ z=>by cases z)⟩)
 ·exact .inr h
def Cc.C7(s:Cc m m' H H')(h:jr K H a vs):jr K H' a vs:=by
 rcases h with⟨o,h⟩|h
 ·exact .inl ⟨o,s.sd _ _ _ h (λ_ z=>by cases z)⟩
 ·exact .inr h
mutual
theorem RD.iS(s:Cc m m' H H'):∀{d:D}{v:V},RD K m H d v->RD K m' H' d v
 |.non,_,h=>h|.bl _,_,h=>h|.int _,_,h=>h|.str _,_,h=>h|.tup ds,_,h=>by obtain⟨a,vs,e,q,r⟩:=h;exact⟨a,vs,e,s.LG q,f7.iS s r⟩
 |.lst ds,_,h=>by obtain⟨a,vs,e,q,n,r⟩:=h;exact⟨a,vs,e,s.BH _ _ q n,s.new _ _ q n,f7.iS s r⟩
 |.As ns,_,h=>by obtain⟨a,e,q⟩:=h;exact⟨a,e,s.C7 q⟩
 |.ref k,_,h=>by obtain⟨a,e,q⟩:=h;exact⟨a,e,s.at q⟩
 |.FU c,_,h=>by obtain⟨a,C,e,n,q⟩:=h;exact⟨a,C,e,n,s.exts _ _ q⟩
 |.ET,_,h=>h
theorem f7.iS(s:Cc m m' H H'):∀{ds:List D}{vs:List V},f7 K m H ds vs->f7 K m' H' ds vs
 |[],_,h=>h|d::ds,_,h=>by obtain⟨v,r,e,q,t⟩:=h;exact⟨v,r,e,RD.iS s q,f7.iS s t⟩
end
theorem fk.at(s:fk m m' H H'){k:Nat}(h:m[k]?=af a):m'[k]?=af a:=s.w.at h
theorem fk.LG(s:fk m m' H H')(h:tP K H a vs):tP K H' a vs:=s.w.LG h
theorem fk.C7(s:fk m m' H H')(h:jr K H a vs):jr K H' a vs:=s.w.C7 h
def RD.step(s:fk m m' H H')(h:RD K m H d v):RD K m' H' d v:=h.iS s.w
def f7.step(s:fk m m' H H')(h:f7 K m H ds vs):f7 K m' H' ds vs:=h.iS s.w
def f7.nil:f7 K m H [] []:=rfl
def f7.cons(h:RD K m H d v)(t:f7 K m H ds vs):f7 K m H (d::ds) (v::vs):=⟨v,vs,rfl,h,t⟩
def f7.nil_of(h:f7 K m H [] vs):vs=[]:=h
def f7.cons_of(h:f7 K m H (d::ds) vs):∃v r,vs=v::r/\RD K m H d v/\f7 K m H ds r:=h
theorem f7.length:∀{ds:List D}{vs:List V},f7 K m H ds vs->ds.length=vs.length
 |[],vs,h=>by rw[h.nil_of];rfl|d::ds,vs,h=>by obtain⟨v,r,rfl,_,t⟩:=h.cons_of;simp[f7.length t]
theorem f7.get:∀{ds:List D}{vs:List V}{i:Nat}{d:D},f7 K m H ds vs->ds[i]?=af d->∃v,vs[i]?=af v/\RD K m H d v
 |[],vs,i,d,h,e=>by simp at e|x::ds,vs,0,d,h,e=>by
  obtain⟨v,r,rfl,q,t⟩:=h.cons_of
  simp_all
 |x::ds,vs,i+1,d,h,e=>by
  obtain⟨v,r,rfl,q,t⟩:=h.cons_of;obtain⟨u,h1,h2⟩:=f7.get (i:=i) t (by simpa using e)
  simp_all
theorem f7.append:∀{ds es:List D}{vs us:List V},f7 K m H ds vs->f7 K m H es us->f7 K m H (ds++es) (vs++us)
 |[],es,vs,us,h,t=>by rw[h.nil_of];exact t|d::ds,es,vs,us,h,t=>by obtain⟨v,r,rfl,q,u⟩:=h.cons_of;exact .cons q (f7.append u t)
theorem f7.take:∀{ds:List D}{vs:List V}(n:Nat),f7 K m H ds vs->f7 K m H (ds.take n) (vs.take n)
 |_,_,0,_=>by rfl|[],vs,n+1,h=>by rw[h.nil_of];exact .nil|d::ds,vs,n+1,h=>by obtain⟨v,r,rfl,q,u⟩:=h.cons_of;exact .cons q (f7.take n u)
theorem f7.drop:∀{ds:List D}{vs:List V}(n:Nat),f7 K m H ds vs->f7 K m H (ds.drop n) (vs.drop n)
 |_,_,0,h=>h|[],vs,n+1,h=>by rw[h.nil_of];exact .nil|d::ds,vs,n+1,h=>by obtain⟨v,r,rfl,q,u⟩:=h.cons_of;exact f7.drop n u
theorem f7.eraseIdx:∀{ds:List D}{vs:List V}(n:Nat),f7 K m H ds vs->f7 K m H (ds.eraseIdx n) (vs.eraseIdx n)
 |[],vs,n,h=>by rw[h.nil_of];exact .nil|d::ds,vs,0,h=>by obtain⟨v,r,rfl,q,u⟩:=h.cons_of;exact u
 |d::ds,vs,n+1,h=>by obtain⟨v,r,rfl,q,u⟩:=h.cons_of;exact .cons q (f7.eraseIdx n u)
end
def sM(K:aT)(m:List aI)(H:Hp):List (Key×D)->List (Key×V)->Prop
 |[],[]=>True|p::ps,q::qs=>p.1=q.1/\RD K m H p.2 q.2/\sM K m H ps qs|_,_=>False
section
variable{K:aT}{m m':List aI}{H H':Hp}
theorem sM.iS(s:Cc m m' H H'):∀{a:List (Key×D)}{b:List (Key×V)},sM K m H a b->sM K m' H' a b
 |[],[],_=>trivial|p::ps,q::qs,h=>⟨h.1,h.2.1.iS s,sM.iS s h.2.2⟩|[],_::_,h=>h.elim|_::_,[],h=>h.elim
def sM.step(s:fk m m' H H')(h:sM K m H a b):sM K m' H' a b:=h.iS s.w
theorem sM.len:∀{a:List (Key×D)}{b:List (Key×V)},sM K m H a b->a.length=b.length
 |[],[],_=>rfl|p::ps,q::qs,h=>by simp[sM.len h.2.2]|[],_::_,h=>h.elim|_::_,[],h=>h.elim
theorem sM.any(k:Key):∀{a:List (Key×D)}{b:List (Key×V)},sM K m H a b->(a.any λkv=>decide (kv.1=k))=(b.any λkv=>decide (kv.1=k))
 |[],[],_=>rfl|p::ps,q::qs,h=>by rw[kF,kF,h.1,sM.any k h.2.2]|[],_::_,h=>h.elim|_::_,[],h=>h.elim
theorem sM.val(k:Key):∀{a:List (Key×D)}{b:List (Key×V)},sM K m H a b->(bz a k=ah/\dF b k=ah)\/∃d v,bz a k=af d/\dF b k=af v/\RD K m H d v
 |[],[],_=> .inl ⟨rfl,rfl⟩|p::ps,q::qs,h=>by
  by_cases e:q.1=k
  ·right;refine⟨p.2,q.2,?_,j9 e,h.2.1⟩;have e':p.1=k:=h.1.trans e;simp[bz,XC,e']
  ·have e':¬p.1=k:=λz=>e (h.1.symm.trans z);rw[kh e,show bz (p::ps) k=bz ps k by simp[bz,XC,e']];exact sM.val k h.2.2
 |[],_::_,h=>h.elim|_::_,[],h=>h.elim
theorem sM.map(k:Key)(rd:RD K m H d v):∀{a:List (Key×D)}{b:List (Key×V)},sM K m H a b->sM K m H (a.map λkv=>if kv.1=k then(kv.1,d)else kv) (b.map λkv=>if kv.1=k then(kv.1,v)else kv)
 |[],[],_=>trivial|p::ps,q::qs,h=>by
  refine⟨?_,?_,sM.map k rd h.2.2⟩
  ·by_cases e:q.1=k
   ·have e':p.1=k:=h.1.trans e;simp[e,e']
   ·have e':¬p.1=k:=λz=>e (h.1.symm.trans z);simp[e,e',h.1]
  ·by_cases e:q.1=k
   ·have e':p.1=k:=h.1.trans e;lia
   ·have e':¬p.1=k:=λz=>e (h.1.symm.trans z);simp only[e,e',Xd];exact h.2.1
 |[],_::_,h=>h.elim|_::_,[],h=>h.elim
theorem sM.snoc(rd:RD K m H d v):∀{a:List (Key×D)}{b:List (Key×V)},sM K m H a b->sM K m H (a++ [(k,d)]) (b++ [(k,v)])
 |[],[],_=>⟨rfl,rd,trivial⟩|p::ps,q::qs,h=>⟨h.1,h.2.1,sM.snoc rd h.2.2⟩|[],_::_,h=>h.elim|_::_,[],h=>h.elim
theorem sM.drop(k:Key):∀{a:List (Key×D)}{b:List (Key×V)},sM K m H a b->sM K m H (a.filter λkv=>decide (kv.1≠k)) (j8 b k)
 |[],[],_=>trivial|p::ps,q::qs,h=>by
  unfold j8;by_cases e:q.1=k
  ·have e':p.1=k:=h.1.trans e;rw[iF (by simp[e']),iF (by simp[e])];exact sM.drop k h.2.2
  ·have e':¬p.1=k:=λz=>e (h.1.symm.trans z);rw[Y9 (by simp[e']),Y9 (by simp[e])];exact⟨h.1,h.2.1,sM.drop k h.2.2⟩
 |[],_::_,h=>h.elim|_::_,[],h=>h.elim
def sM.put(k:Key)(rd:RD K m H d v)(h:sM K m H a b):sM K m H (putD a k d) (putK b k v):=by
 unfold putD putK;rw[h.any k];split
 ·exact h.map k rd
 ·exact h.snoc rd
end
def AS(K:aT)(m:List aI)(H:Hp):List (Str×D)->List (Str×V)->Prop
 |[],[]=>True|p::ps,q::qs=>p.1=q.1/\RD K m H p.2 q.2/\AS K m H ps qs|_,_=>False
section
variable{K:aT}{m m':List aI}{H H':Hp}
theorem AS.iS(s:Cc m m' H H'):∀{a:List (Str×D)}{b:List (Str×V)},AS K m H a b->AS K m' H' a b
 |[],[],_=>trivial|p::ps,q::qs,h=>⟨h.1,h.2.1.iS s,AS.iS s h.2.2⟩|[],_::_,h=>h.elim|_::_,[],h=>h.elim
def AS.step(s:fk m m' H H')(h:AS K m H a b):AS K m' H' a b:=h.iS s.w
theorem AS.len:∀{a:List (Str×D)}{b:List (Str×V)},AS K m H a b->a.length=b.length
 |[],[],_=>rfl|p::ps,q::qs,h=>by simp[AS.len h.2.2]|[],_::_,h=>h.elim|_::_,[],h=>h.elim
theorem AS.look(f:Str):∀{a:List (Str×D)}{b:List (Str×V)},AS K m H a b->(a.lookup f=ah/\b.lookup f=ah)\/∃d v,a.lookup f=af d/\b.lookup f=af v/\RD K m H d v
 |[],[],_=> .inl ⟨rfl,rfl⟩|(p,d)::ps,(q,v)::qs,h=>by
  obtain⟨e,r,t⟩:=h;have e:p=q:=e;subst e;by_cases z:(f==p)=ai
  ·exact .inr ⟨d,v,by simp_all,by simp_all,r⟩
  ·have z:(f==p)=false:=by simpa using z
   simp only[zI,z];exact AS.look f t
 |[],_::_,h=>h.elim|_::_,[],h=>h.elim
theorem AS.put(f:Str)(rd:RD K m H d v):∀{a:List (Str×D)}{b:List (Str×V)},AS K m H a b->AS K m H (cM f d a) (dR f v b)
 |[],[],_=>⟨rfl,rd,trivial⟩|(p,d')::ps,(q,v')::qs,h=>by
  obtain⟨e,r,t⟩:=h;have e:p=q:=e;subst e;unfold cM dR;by_cases z:p=f
  ·rw[if_pos z,if_pos z];exact⟨rfl,rd,t⟩
  ·rw[if_neg z,if_neg z];exact⟨rfl,r,AS.put f rd t⟩
 |[],_::_,h=>h.elim|_::_,[],h=>h.elim
end
def kJ(K:aT)(m:List aI)(H:Hp)(a:aI):SO->Prop
 |.lst ds=>∃vs,H a=af (.lst vs)/\f7 K m H ds vs|.dct kvs=>∃vs,H a=af (.dK vs)/\sM K m H kvs vs|.ins c fs=>∃C dx vs,bP K mainGlobals c=af (af (.ref C))/\H a=af (.ins C dx vs)/\AS K m H fs vs|.xy kvs=>∃o vs,H a=af (.tw o (.dK vs))/\sM K m H kvs vs
structure cS(K:aT)(m:List aI)(S:bq)(H:Hp):Prop where
 len:m.length=S.length
 nd:m.Nodup
 obj:∀(k:Nat)(a:aI)(o:SO),m[k]?=af a->S[k]?=af o->kJ K m H a o
structure iL(K:aT)(m:List aI)(H:Hp)(r:az)(σ:St):Prop where
 len:r.length=σ.length
 get:∀(i:Nat)(d:D),r[i]?=af (af d)->∃v,σ[i]?=af (af v)/\RD K m H d v
section
variable{K:aT}{m m':List aI}{H H':Hp}{S:bq}{r:az}{σ:St}
theorem iL.iS(e:iL K m H r σ)(s:Cc m m' H H'):iL K m' H' r σ:=⟨e.len,λi d h=>by
 obtain⟨v,h1,h2⟩:=e.get i d h;exact⟨v,h1,h2.iS s⟩⟩
def iL.step(e:iL K m H r σ)(s:fk m m' H H'):iL K m' H' r σ:=e.iS s.w
theorem iL.set(e:iL K m H r σ)(h:RD K m H d v):iL K m H (r.set i (af d)) (σ.set i (af v)):=⟨by simp[e.len],λj d' hj=>by
 by_cases hij:i=j
 ·subst hij;by_cases hi:i<r.length
  ·rw[W8 hi]at hj;have:d=d':=by simpa using hj
   subst this;exact⟨v,by rw[W8 (by rw[←e.len];exact hi)],h⟩
  simp_all
 ·rw[Wy hij]at hj;obtain⟨u,h1,h2⟩:=e.get j d' hj
  simp_all⟩
theorem kJ.iS(h:kJ K m H a o)(s:Cc m m' H H')(e:H' a=H a):kJ K m' H' a o:=by
 cases o with
 |lst ds=>obtain⟨vs,h1,h2⟩:=h;exact⟨vs,by lia,h2.iS s⟩
 |dct kvs=>obtain⟨vs,h1,h2⟩:=h;exact⟨vs,by lia,h2.iS s⟩
 |ins c fs=>obtain⟨C,dx,vs,h0,h1,h2⟩:=h;exact⟨C,dx,vs,h0,by lia,h2.iS s⟩
 |xy kvs=>obtain⟨ob,vs,h1,h2⟩:=h;exact⟨ob,vs,by lia,h2.iS s⟩
def kJ.step(h:kJ K m H a o)(s:fk m m' H H')(e:H' a=H a):kJ K m' H' a o:=h.iS s.w e
def cS.keep(h:cS K m S H)(s:fk m m H H')(e:∀a∈m,H' a=H a):cS K m S H':=
 ⟨h.len,h.nd,λk a o h1 h2=>(h.obj k a o h1 h2).step s (e a (Xb h1))⟩
theorem cS.there(h:cS K m S H)(ha:a∈m):H a≠none:=by
 obtain⟨k,hk⟩:=Zr.mp ha;have hl:k<S.length:=by rw[←h.len];exact(Wi.mp hk).1
 have q:=h.obj k a _ hk (Wq hl);cases o:S[k]with
 |lst ds=>rw[o]at q;obtain⟨vs,h1,_⟩:=q;rw[h1];simp
 |dct _=>rw[o]at q;obtain⟨vs,h1,_⟩:=q;rw[h1];simp
 |ins _ _=>rw[o]at q;obtain⟨C,dx,vs,_,h1,_⟩:=q;rw[h1];simp
 |xy _=>rw[o]at q;obtain⟨ob,vs,h1,_⟩:=q;rw[h1];simp
def cS.fresh(h:cS K m S H)(hp:H p=ah):p∉m:=λq=>h.there q hp
def fk.laid(h:cS K m S H)(hp:H p=ah)(o:HO):fk m m H (upd H p o):=
 ⟨⟨[],by simp⟩,λ_ _ _ q=>q,λa xs q=>by rw[aA (aP q hp)];exact q,λa ob u q=>by rw[aA (aP q hp)];exact q,
  λa xs q _=>by rw[aA (aP q hp)];exact q,λa q=>by
   by_cases e:a=p
   ·lia
   ·rw[aA e]at q;exact q,λa φ q=>by rw[aA (aP q hp)];exact q⟩
theorem cS.laid(h:cS K m S H)(hp:H p=ah)(o:HO):cS K m S (upd H p o):=
 h.keep (fk.laid h hp o) λa ha=>aA λe=>h.there ha (by lia)
def fk.push(h:cS K m S H)(hp:H p=ah)(o:HO):fk m (m++ [p]) H (upd H p o):=
 ⟨⟨[p],rfl⟩,λa ob q n=>by
   grind,λa xs q=>by rw[aA (aP q hp)];exact q,λa ob u q=>by rw[aA (aP q hp)];exact q,
  λa xs q _=>by rw[aA (aP q hp)];exact q,λa q=>by
   by_cases e:a=p
   ·lia
   ·rw[aA e]at q;exact q,λa φ q=>by rw[aA (aP q hp)];exact q⟩
def cS.EA(h:cS K m S H)(hp:H p=ah)(r:∀m' H',fk m m' H H'->H' p=af ho->kJ K m' H' p so):cS K (m++ [p]) (S++ [so]) (upd H p ho):=by
 have st:=fk.push h hp ho;refine⟨by simp[h.len],?_,λk a o h1 h2=>?_⟩
 ·rw[Xu];refine⟨h.nd,by simp,λa ha b hb=>?_⟩;have:b=p:=by simpa using hb
  subst this;exact λe=>h.fresh hp (e▸ha)
 ·by_cases hk:k<m.length
  ·rw[Ws hk]at h1;rw[Ws (by rw[←h.len];exact hk)]at h2;exact(h.obj k a o h1 h2).step st (aA λe=>h.fresh hp (e▸Xb h1))
  ·have hk':m.length<=k:=kc hk;rw[Wx hk']at h1;rw[Wx (by rw[←h.len];exact hk')]at h2;have e1:k - m.length=0:=by
    by_cases z:k - m.length=0
    ·exact z
    ·simp_all
   rw[e1]at h1;rw[←h.len,e1]at h2;have ea:p=a:=by simpa using h1
   have eo:so=o:=by simpa using h2
   subst ea;subst eo;exact r _ _ st bh
def cS.push(h:cS K m S H)(hp:H p=ah)(r:f7 K m H ds vs):cS K (m++ [p]) (S++ [.lst ds]) (upd H p (.lst vs)):=
 h.EA hp λm' H' st e=>⟨vs,e,r.step st⟩
def cS.LH(h:cS K m S H)(hp:H p=ah):cS K (m++ [p]) (S++ [.dct []]) (upd H p (.dK [])):=
 h.EA hp λm' H' st e=>⟨[],e,trivial⟩
def Se:HO->Prop
 |.lst _=>True|.dK _=>True|.ins _ _ _=>True|_=>False
def fk.qV(h:cS K m S H){k:Nat}(ha:m[k]?=af a)(hx:H a=af o)(hc:Se o):fk m m H (upd H a o'):=by
 have am:a∈m:=Xb ha;refine⟨⟨[],by simp⟩,λ_ _ _ q=>q,λb zs q=>?_,λb ob u q=>?_,λb zs q n=>?_,λb q=>?_,λb φ q=>?_⟩
 ·rw[aA (cZ q hx (λz=>by rw[←z]at hc;exact hc))];exact q
 ·rw[aA (cZ q hx (λz=>by rw[←z]at hc;exact hc))];exact q
 ·rw[aA (λe:b=a=>n (by lia))];exact q
 ·by_cases e:b=a
  ·subst e;rw[bh]at q;cases q
  ·rw[aA e]at q;exact q
 ·rw[aA (cZ q hx (λz=>by rw[←z]at hc;exact hc))];exact q
theorem cS.qV(h:cS K m S H)(ha:m[k]?=af a)(hx:H a=af o)(hc:Se o)(r:∀H',fk m m H H'->H' a=af o'->kJ K m H' a so):cS K m (S.set k so) (upd H a o'):=by
 have st:=fk.qV (o':=o') h ha hx hc;refine⟨by simp[h.len],h.nd,λj b ob h1 h2=>?_⟩;by_cases e:k=j
 ·subst e;rw[ha]at h1;have eb:a=b:=by simpa using h1
  subst eb;have hk:k<S.length:=by rw[←h.len];exact(Wi.mp ha).1
  rw[W8 hk]at h2;have eo:so=ob:=by simpa using h2
  subst eo;exact r _ st bh
 ·rw[Wy e]at h2;refine(h.obj j b ob h1 h2).step st (aA λz=>e ?_);subst z;have hk:=(Wi.mp ha).1;exact(nB hk h.nd).mp (by rw[ha,h1])
def fk.write(h:cS K m S H){k:Nat}(ha:m[k]?=af a)(hx:H a=af (.lst xs))(ys:List V):fk m m H (upd H a (.lst ys)):=fk.qV h ha hx trivial
def cS.write(h:cS K m S H)(ha:m[k]?=af a)(hx:H a=af (.lst xs))(r:f7 K m H es ys):cS K m (S.set k (.lst es)) (upd H a (.lst ys)):=
 h.qV ha hx trivial λH' st e=>⟨ys,e,r.step st⟩
theorem cS.dct(h:cS K m S H){k:Nat}(hs:S[k]?=af (.dct kvs)):∃a vs,m[k]?=af a/\H a=af (.dK vs)/\sM K m H kvs vs:=by
 have hk:k<m.length:=by rw[h.len];exact(Wi.mp hs).1
 obtain⟨vs,h1,h2⟩:=h.obj k _ _ (Wq hk) hs;exact⟨_,vs,Wq hk,h1,h2⟩
theorem cS.xy(h:cS K m S H){k:Nat}(hs:S[k]?=af (.xy kvs)):∃a o vs,m[k]?=af a/\H a=af (.tw o (.dK vs))/\sM K m H kvs vs:=by
 have hk:k<m.length:=by rw[h.len];exact(Wi.mp hs).1
 obtain⟨o,vs,h1,h2⟩:=h.obj k _ _ (Wq hk) hs;exact⟨_,o,vs,Wq hk,h1,h2⟩
theorem cS.ins(h:cS K m S H){k:Nat}(hs:S[k]?=af (.ins c fs)):∃a C dx vs,m[k]?=af a/\bP K mainGlobals c=af (af (.ref C))/\H a=af (.ins C dx vs)/\AS K m H fs vs:=by
 have hk:k<m.length:=by rw[h.len];exact(Wi.mp hs).1
 obtain⟨C,dx,vs,h0,h1,h2⟩:=h.obj k _ _ (Wq hk) hs;exact⟨_,C,dx,vs,Wq hk,h0,h1,h2⟩
theorem cS.lst(h:cS K m S H){k:Nat}(hs:S[k]?=af (.lst ds)):∃a vs,m[k]?=af a/\H a=af (.lst vs)/\f7 K m H ds vs:=by
 have hk:k<m.length:=by rw[h.len];exact(Wi.mp hs).1
 obtain⟨vs,h1,h2⟩:=h.obj k _ _ (Wq hk) hs;exact⟨_,vs,Wq hk,h1,h2⟩
end
def TJ(X:Cx)(pins:List (aI×Obj))(H:Hp)(c:Str)(e:av)(s:aE):Prop:=∃C,bP X.K mainGlobals c=af (af (.ref C))/\bI X pins H (af C) e s
def XQ(X:Cx)(m:List aI)(H:Hp)(r:az)(c:Str)(S':bq):Prop:=
 ∀(pins:List (aI×Obj))(s':aE)(σ':St)(H':Hp)(m':List aI)(e:av),Inv X pins σ' H' s'->fk m m' H H'->iL X.K m' H' r σ'->cS X.K m' S' H'->TJ X pins H' c e s'->X.xe e s'
abbrev RR(α β:Type):=List aI->Hp->α->β->Prop
def tO{α β:Type}(X:Cx)(R:RR α β)(o:Ev α)(m:List aI)(r:az)(H:Hp)(Q:β->Hp->Prop):Prop:=match o with
 |none=>False|some (.ok d S')=>∀m' H' v,fk m m' H H'->cS X.K m' S' H'->R m' H' d v->Q v H'|some (.exc c S')=>XQ X m H r c S'
def tM{α β:Type}(X:Cx)(R:RR α β)(f:az->bq->Ev α):St->Hp->(β->Hp->Prop)->Prop:=λσ H Q=>∃m r S,iL X.K m H r σ/\cS X.K m S H/\tO X R (f r S) m r H Q
def tM.el{α β:Type}{R:RR α β}{f:az->bq->Ev α}{Q:β->Hp->Prop}{P:Prop}(h:tM X R f σ H Q)(k:∀m r S,iL X.K m H r σ->cS X.K m S H->tO X R (f r S) m r H Q->P):P:=by obtain⟨m,r,S,er,sr,h⟩:=h;exact k m r S er sr h
def bO{α β γ:Type}{A B C:α->β->γ->Prop}{G:Prop}(h:∃x y z,A x y z/\B x y z/\C x y z)(k:∀x y z,A x y z->B x y z->C x y z->G):G:=by grind
def aN{α β γ:Type}{A B C D:α->β->γ->Prop}{G:Prop}(h:∃x y z,A x y z/\B x y z/\C x y z/\D x y z)(k:∀x y z,A x y z->B x y z->C x y z->D x y z->G):G:=by grind
abbrev rD(X:Cx):RR D V:=λm H d v=>RD X.K m H d v
abbrev I0(X:Cx):RR (List D) (List V):=λm H d v=>f7 X.K m H d v
abbrev rB:RR Bool Bool:=λ_ _ a b=>a=b
section
variable{X:Cx}{α β α' β':Type}{R:RR α β}{R':RR α' β'}{m m':List aI}{r:az}{H H':Hp}{S:bq}
def XQ.step(h:XQ X m H r c S)(s:fk m m' H H'):XQ X m' H' r c S:=λpins s' σ' H2 m2 e I st er sr ie=>h pins s' σ' H2 m2 e I (s.trans st) er sr ie
theorem tO.step(h:tO X R o m r H Q)(s:fk m m' H H'):tO X R o m' r H' Q:=by
 cases o with
 |none=>exact h|some o=>
  cases o with|ok d S'=>exact λm2 H2 v st sr rd=>h m2 H2 v (s.trans st) sr rd|exc c S'=>exact XQ.step h s
theorem tO.mono(h:tO X R o m r H Q)(q:∀v H',Q v H'->Q' v H'):tO X R o m r H Q':=by
 cases o with
 |none=>exact h|some o=>
  cases o with|ok d S'=>exact λm2 H2 v st sr rd=>q _ _ (h m2 H2 v st sr rd)|exc c S'=>exact h
theorem tO.bnd(h:tO X R' (bnd o k) m r H Q):
  tO X R o m r H λv H1=>∃m1 a S1,fk m m1 H H1/\cS X.K m1 S1 H1/\R m1 H1 a v/\tO X R' (k a S1) m1 r H1 Q:=by
 cases o with
 |none=>exact h|some o=>
  cases o with|ok d S'=>exact λm1 H1 v st sr rd=>⟨m1,d,S',st,sr,rd,tO.step (h:tO X R' (k d S') m r H Q) st⟩|exc c S'=>exact h
def tO.fin(h:tO X R (fy a S) m r H Q)(sr:cS X.K m S H)(q:R m H a v):Q v H:=h m H v (fk.refl _ _) sr q
def tO.fin'(h:tO X R (fy a S) m r H Q)(st:fk m m' H H')(sr:cS X.K m' S H')(q:R m' H' a v):Q v H':=h m' H' v st sr q
end
def PE.imp(h:PE X e t)(q:∀σ H Q,t' σ H Q->t σ H Q):PE X e t':=λpins s σ H Q I w=>h pins s σ H Q I (q _ _ _ w)
def PT.imp(h:PT X e t)(q:∀σ H Q,t' σ H Q->t σ H Q):PT X e t':=λpins s σ H Q I w=>h pins s σ H Q I (q _ _ _ w)
def PW.imp(h:PW X e t)(q:∀σ H Q,t' σ H Q->t σ H Q):PW X e t':=λwh pins s σ H Q I w=>h wh pins s σ H Q I (q _ _ _ w)
def PA.imp(h:PA X e t)(q:∀σ H Q,t' σ H Q->t σ H Q):PA X e t':=λpos pins s σ H Q I w=>h pos pins s σ H Q I (q _ _ _ w)
def PS.imp(h:PS X e t)(q:∀D σ H,t' D σ H->t D σ H):PS X e t':=λpins s σ H Q I w=>h pins s σ H Q I (q _ _ _ w)
def C2.imp(h:C2 X e t)(q:∀D σ H,t' D σ H->t D σ H):C2 X e t':=λpins s σ H Q I w=>h pins s σ H Q I (q _ _ _ w)
end RK
namespace RK
open PySem L2 PySem.SeqAt PyProof.Rows
section
variable{X:Cx}
def xY{pins:List (aI×Obj)}{σ:L2.St}{H:Hp}{s:aE}{l:aI}{xs:List V}(I:Inv X pins σ H s)(hq:tP X.K H l xs):∃(its:List av)(n:Nat)(sl:Array (Option av)),Vals xs its/\xs.length<=aS/\s.heap.get? l=af {cls:= .type "tuple",dict:=ah,data:= .seq its.toArray n,slots:=sl}:=by obtain⟨its,r,⟨⟨c,d,da,sl⟩,e1,e2,n,e3⟩,hz⟩:=I.tuple hq;obtain⟨_,g⟩:=lL (X:=X) (x:= .ref l) (v:= .ref l) (T:= "tuple") I rfl (.inr (.inl ⟨rfl,xs,hq⟩));obtain⟨ob,g1,g2⟩:=g l rfl;have e:=g1.symm.trans e1;cases e;have e2:c= .type "tuple" :=e2;have e3:da= .seq its.toArray n:=e3;have g2:d=none:=g2;subst e2;subst e3;subst g2;exact⟨its,n,sl,r,hz,e1⟩
def TQ(K:aT):R2:=λx y H Q=>∃a b ys,x= .ref a/\y= .ref b/\tP K H a []/\tP K H b ys/\Q (.ref b) H
def Kz:BO X (binaryOp .Add) (TQ X.K):=by intro pins s σ H x y v u Q I rx ry h;obtain⟨a,b,ys,rfl,rfl,ha,hb,q⟩:=h;cases rx;cases ry;obtain⟨its,n,sl,r,_,e⟩:=xY I ha;obtain⟨its2,n2,sl2,r2,_,e2⟩:=xY I hb;cases r;exact concat_meets ⟨_,e,rfl⟩ ⟨_,e2,rfl⟩ noFill_tuple_add seq_tuple_add iO ia (gI _ _) (tuple_addW0 a b _ its2.toArray n n2 _ _ sl sl2 rfl) ⟨e,e2,⟨.ref b,H,I,rfl,q⟩⟩
end
end RK
namespace RK
open PySem L2
section
variable{X:Cx}{m:List aI}{r:az}{H:Hp}{S:bq}
def AE(h:RD X.K m H .non v):v= .non:=by unfold RD at h;exact h
def A3(h:RD X.K m H (.bl b) v):v= .bl b:=by unfold RD at h;exact h
def gx(h:RD X.K m H (.int b) v):v= .int b:=by unfold RD at h;exact h
def AY(h:RD X.K m H (.str b) v):v= .str b:=by unfold RD at h;exact h
def cW(h:RD X.K m H (.tup b) v):∃a vs,v= .ref a/\tP X.K H a vs/\f7 X.K m H b vs:=by unfold RD at h;exact h
def dB(h:RD X.K m H (.lst b) v):∃a vs,v= .ref a/\H a=af (.lst vs)/\a∉m/\f7 X.K m H b vs:=by unfold RD at h;exact h
def uH(h:RD X.K m H (.As b) v):∃a,v= .ref a/\jr X.K H a (b.map V.int):=by unfold RD at h;exact h
theorem cX:∀{ns:List Int},f7 X.K m H (ns.map D.int) (ns.map V.int)
 |[]=> .nil|n::r=> .cons (by unfold RD;rfl) cX
def bT(h:RD X.K m H (.ref k) v):∃a,v= .ref a/\m[k]?=af a:=by unfold RD at h;exact h
def jJ:RD X.K m H .non .non:=by unfold RD;rfl
def iz:RD X.K m H (.bl b) (.bl b):=by unfold RD;rfl
def cj:RD X.K m H (.int b) (.int b):=by unfold RD;rfl
def Pz:RD X.K m H (.str b) (.str b):=by unfold RD;rfl
def jc(h:tP X.K H a vs)(q:f7 X.K m H b vs):RD X.K m H (.tup b) (.ref a):=by unfold RD;exact⟨a,vs,rfl,h,q⟩
def Cv(h:H a=af (.lst vs))(n:a∉m)(q:f7 X.K m H b vs):RD X.K m H (.lst b) (.ref a):=by unfold RD;exact⟨a,vs,rfl,h,n,q⟩
def Cw(h:m[k]?=af a):RD X.K m H (.ref k) (.ref a):=by unfold RD;simp_all
def q8{ds:List D}{xs:List V}{Q:VK}(sr:cS X.K m S H)(rd:f7 X.K m H ds xs)(h:tO X (rD X) (fy (.tup ds) S) m r H Q):∀p,H p=ah->Q (.ref p) (upd H p (.tup xs)):=λp hp=>h.fin' (fk.laid sr hp _) (sr.laid hp _) (jc (tP.of bh) (rd.step (fk.laid sr hp _)))
def iT{ds:List D}{xs:List V}{Q:VK}(sr:cS X.K m S H)(rd:f7 X.K m H ds xs)(h:tO X (rD X) (fy (.lst ds) S) m r H Q):∀p,H p=ah->Q (.ref p) (upd H p (.lst xs)):=λp hp=>h.fin' (fk.laid sr hp _) (sr.laid hp _) (Cv bh (sr.fresh hp) (rd.step (fk.laid sr hp _)))
def dj{mu:Bool}{ds:List D}{xs:List V}{Q:VK}(sr:cS X.K m S H)(rd:f7 X.K m H ds xs)(h:tO X (rD X) (AX mu ds S) m r H Q):xs.length<=aS/\∀p,H p=ah->Q (.ref p) (upd H p (.lst xs)):=by
 unfold AX at h;by_cases hz:ds.length<=aS
 ·rw[if_pos hz]at h;refine⟨by rw[←rd.length];exact hz,?_⟩;cases mu with|false=>rw[if_neg (by simp)]at h;exact iT sr rd h|true=>rw[if_pos rfl]at h;intro p hp;exact h.fin' (fk.push sr hp _) (sr.push hp rd) (Cw (by rw[←sr.len];simp))
 ·rw[if_neg hz]at h;exact h.elim
def xZ{ds:List D}{xs:List V}{Q:VK}(sr:cS X.K m S H)(rd:f7 X.K m H ds xs)(h:tO X (rD X) (E2 ds S) m r H Q):xs.length<=aS/\∀p,H p=ah->Q (.ref p) (upd H p (.tup xs)):=by
 unfold E2 at h;by_cases hz:ds.length<=aS
 ·rw[if_pos hz]at h;exact⟨by rw[←rd.length];exact hz,q8 sr rd h⟩
 ·rw[if_neg hz]at h;exact h.elim
theorem lW(sr:cS X.K m S H)(rd:RD X.K m H d v)(h:bf S d=af ds):∃p xs,v= .ref p/\(wc X.K H p xs\/tP X.K H p xs)/\f7 X.K m H ds xs:=by
 cases d with
 |tup es=>
  have e:es=ds:=by simpa[bf]using h
  subst e;obtain⟨a,vs,rfl,q,t⟩:=cW rd;exact⟨a,vs,rfl,.inr q,t⟩
 |lst es=>
  have e:es=ds:=by simpa[bf]using h
  subst e;obtain⟨a,vs,rfl,q,_,t⟩:=dB rd;exact⟨a,vs,rfl,.inl (wc.of q),t⟩
 |As ns=>
  have e:ns.map D.int=ds:=by simpa[bf]using h
  subst e;obtain⟨a,rfl,q⟩:=uH rd;exact⟨a,_,rfl,.inl q.sq,cX⟩
 |ref k=>
  obtain⟨a,rfl,hk⟩:=bT rd;simp only[bf]at h;cases e:S[k]? with
  |none=>simp_all|some o=>
   rw[e]at h;cases o with
   |lst es=>
    have e':es=ds:=by simpa using h
    subst e';obtain⟨a',vs,h1,h2,h3⟩:=sr.lst e;rw[hk]at h1;have:a=a':=by simpa using h1
    subst this;exact⟨a,vs,rfl,.inl (wc.of h2),h3⟩
   |dct _=>cases h|ins _ _=>cases h|xy _=>cases h
 |_=>simp[bf]at h
end
theorem qe(h:dG d=af k)(rd:RD K m H d v):v=kV k:=by
 cases d with
 |int i=>
  have e:Sum.inl i=k:=by simpa[dG]using h
  subst e;unfold RD at rd;exact rd
 |str x=>
  have e:Sum.inr x=k:=by simpa[dG]using h
  subst e;unfold RD at rd;exact rd
 |_=>simp[dG]at h
theorem qg(sr:cS K m S H)(rd:RD K m H d v)(h:cF S d=af kvs):∃n p vs,d= .ref n/\m[n]?=af p/\v= .ref p/\Rd H p (.dK vs)/\sM K m H kvs vs:=by
 cases d with
 |ref n=>
  simp only[cF]at h;cases e:S[n]? with
  |none=>simp_all|some o=>
   rw[e]at h;cases o with
   |dct es=>
    have ee:es=kvs:=by simpa using h
    subst ee;unfold RD at rd;obtain⟨a,rfl,hk⟩:=rd;obtain⟨a',vs,h1,h2,h3⟩:=sr.dct e;rw[hk]at h1;have ea:a=a':=by simpa using h1
    subst ea;exact⟨n,a,vs,rfl,hk,rfl,.inl h2,h3⟩
   |xy es=>
    have ee:es=kvs:=by simpa using h
    subst ee;unfold RD at rd;obtain⟨a,rfl,hk⟩:=rd;obtain⟨a',ob,vs,h1,h2,h3⟩:=sr.xy e;rw[hk]at h1;have ea:a=a':=by simpa using h1
    subst ea;exact⟨n,a,vs,rfl,hk,rfl,.inr ⟨ob,h2⟩,h3⟩
   |lst _=>cases h|ins _ _=>cases h
 |_=>simp[cF]at h
def q9(e:Rd H a (.dK kvs)):qX H a (kV k) (dF kvs k):= .inl ⟨kvs,k,e,rfl,rfl⟩
section
variable{X:Cx}
def Vy(X:Cx)(o:Operator):R2:=λx y H Q=>∃m r S a b,cS X.K m S H/\RD X.K m H a x/\RD X.K m H b y/\tO X (rD X) (binop o a b S) m r H Q
def tO.ite{c:Prop}[Decidable c]{α β:Type}{R:RR α β}{x:Ev α}{m:List aI}{r:az}{H:Hp}{Q:β->Hp->Prop}(h:tO X R (if c then x else ah) m r H Q):c/\tO X R x m r H Q:=by
 by_cases hc:c
 ·lia
 ·rw[if_neg hc]at h;exact h.elim
theorem PB(o:Operator):BO X (binaryOp o) (Vy X o):=by
 intro pins s σ H x y v u Q I rx ry h;obtain⟨m,r,S,a,b,sr,ra,rb,h⟩:=h;cases a with
 |int i=>
  cases b with
  |int j=>
   have e1:=gx ra;have e2:=gx rb;cases o with
   |Add=>exact Ow pins s σ H x y v u Q I rx ry ⟨_,_,e1,e2,tO.fin (X:=X) (R:=rD X) h sr cj⟩|Sub=>exact Ox pins s σ H x y v u Q I rx ry ⟨_,_,e1,e2,tO.fin (X:=X) (R:=rD X) h sr cj⟩|Mult=>obtain⟨hc,h⟩:=tO.ite h;exact Oz pins s σ H x y v u Q I rx ry ⟨_,_,e1,e2,hc,h.fin sr cj⟩
   |Mod=>obtain⟨hc,h⟩:=tO.ite h;exact OD pins s σ H x y v u Q I rx ry ⟨_,_,e1,e2,hc,h.fin sr cj⟩
   |LShift=>obtain⟨hc,h⟩:=tO.ite h;exact OJ pins s σ H x y v u Q I rx ry ⟨_,_,e1,e2,hc,h.fin sr cj⟩
   |_=>exact h.elim
  |_=>exact h.elim
 |tup xs=>
  obtain⟨p,vs,rfl,q1,t1⟩:=cW ra;cases b with
  |tup ys=>
   obtain⟨q,us,rfl,q2,t2⟩:=cW rb;cases o with
   |Add=>
    have h:tO X (rD X) (if xs.isEmpty=ai then fy (.tup ys) S else if xs.length+ys.length<=aS then fy (.tup (xs++ys)) S else ah) m r H Q:=h;by_cases he:xs.isEmpty=ai
    ·rw[if_pos he]at h;have ex:xs=[]:=by simpa using he
     subst ex;have ev:=t1.nil_of;subst ev;exact Kz pins s σ H _ _ v u Q I rx ry ⟨p,q,us,rfl,rfl,q1,q2,h.fin sr (jc q2 t2)⟩
    rw[if_neg he]at h;obtain⟨hc,h⟩:=tO.ite h;have n1:vs≠ []:=λe=>he (by
     have:xs=[]:=YB.mp (by rw[t1.length,e];rfl);simp[this])
    refine Kr pins s σ H _ _ v u Q I rx ry ⟨p,q,vs,us,rfl,rfl,q1,q2,n1,by rw[←t1.length,←t2.length];exact hc,λe=>?_,λe=>?_⟩
    ·subst e;have e2:=YB.mp t2.length;subst e2;rw[Wm]at h;exact h.fin sr (jc q1 t1)
    ·exact q8 sr (t1.append t2) h
   |_=>exact h.elim
  |_=>exact h.elim
 |lst xs=>
  obtain⟨p,vs,rfl,q1,_,t1⟩:=dB ra;cases b with
  |lst ys=>
   obtain⟨q,us,rfl,q2,_,t2⟩:=dB rb;cases o with
   |Add=>obtain⟨hc,h⟩:=tO.ite h;exact Ce pins s σ H _ _ v u Q I rx ry ⟨p,q,vs,us,rfl,rfl,q1,q2,by rw[←t1.length,←t2.length];exact hc,iT sr (t1.append t2) h⟩
   |_=>exact h.elim
  |_=>exact h.elim
 |ref k=>
  have h:tO X (rD X) (match S[k]? with|some (.lst xs)=>Px o xs b S|_=>ah) m r H Q:=h;cases e:S[k]? with
  |none=>rw[e]at h;exact h.elim|some so=>
   rw[e]at h;cases so with
   |lst xs=>
    obtain⟨p,vs,hm,hH,t1⟩:=sr.lst e;obtain⟨p',rfl,hm'⟩:=bT ra;have ep:p=p':=by rw[hm]at hm';simpa using hm'
    subst ep;cases b with
    |lst ys=>
     obtain⟨q,us,rfl,q2,_,t2⟩:=dB rb;cases o with
     |Add=>obtain⟨hc,h⟩:=tO.ite h;exact Ce pins s σ H _ _ v u Q I rx ry ⟨p,q,vs,us,rfl,rfl,hH,q2,by rw[←t1.length,←t2.length];exact hc,iT sr (t1.append t2) h⟩
     |_=>exact h.elim
    |_=>exact h.elim
   |_=>exact h.elim
 |_=>exact h.elim
end
end RK
namespace RK
open PySem L2 PySem.SeqAt
section
variable{X:Cx}{m:List aI}{r:az}{H:Hp}{S:bq}{pins:List (aI×Obj)}{σ:St}{s:aE}
mutual
theorem uI(I:Inv X pins σ H s):∀{d:D}{x:V}{u:av}{p:PyData},RD X.K m H d x->RelV x u->zl d=af p->∃as,Reads s.heap u p as
 |.non,x,u,p,h,q,e=>by cases AE h;cases q;have e':PyData.none=p:=Wd e;subst e';exact⟨_,.none⟩|.bl b,x,u,p,h,q,e=>by cases A3 h;cases q;have e':PyData.bool b=p:=Wd e;subst e';exact⟨_,.bool b⟩|.int i,x,u,p,h,q,e=>by cases gx h;obtain⟨t,rfl⟩:=q;have e':PyData.int i=p:=Wd e;subst e';exact⟨_,.int i t⟩
 |.str i,x,u,p,h,q,e=>by cases AY h;obtain⟨t,rfl⟩:=q;have e':PyData.str i=p:=Wd e;subst e';exact⟨_,.str i t⟩
 |.tup ds,x,u,p,h,q,e=>by
  obtain⟨a,vs,rfl,hq,hr⟩:=cW h;cases q;obtain⟨its,rv,⟨o,h1,h2,n,h3⟩,_⟩:=I.tuple hq;obtain⟨ps,ep,e'⟩:=XN.mp (show(zl.yi ds).map PyData.tuple=af p from e)
  ·subst e';obtain⟨as,ra⟩:=fu I hr rv ep;exact⟨as,.tuple h1 h2 h3 (by simpa using ra)⟩
 |.lst ds,x,u,p,h,q,e=>by
  obtain⟨a,vs,rfl,hq,_,hr⟩:=dB h;cases q;obtain⟨its,rv,⟨o,n,h1,h2,_,h3⟩,_⟩:=I.list (wc.of hq);obtain⟨ps,ep,e'⟩:=XN.mp (show(zl.yi ds).map PyData.list=af p from e)
  ·subst e';obtain⟨as,ra⟩:=fu I hr rv ep;exact⟨_,.list h1 h2 h3 (by simpa using ra)⟩
 |.As _,_,_,_,_,_,e=>by cases e|.ref _,_,_,_,_,_,e=>by cases e|.FU _,_,_,_,_,_,e=>by cases e|.ET,_,_,_,_,_,e=>by cases e
theorem fu(I:Inv X pins σ H s):∀{ds:List D}{xs:List V}{us:List av}{ps:List PyData},f7 X.K m H ds xs->Vals xs us->zl.yi ds=af ps->∃as,ReadsAll s.heap us ps as
 |[],xs,us,ps,h,q,e=>by cases h.nil_of;cases q;have e':ps=[]:=(Wd e).symm;subst e';exact⟨_,.nil⟩|d::ds,xs,us,ps,h,q,e=>by
  obtain⟨v,r,rfl,h1,h2⟩:=h.cons_of;cases q with
  |cons q1 q2=>
   replace e:(match zl d,zl.yi ds with|some p,af ps=>af (p::ps)|_,_=>ah)=af ps:=e;cases e1:zl d with
   |none=>simp_all|some p=>
    cases e2:zl.yi ds with
    |none=>simp_all|some qs=>
     rw[e1,e2]at e;have e':p::qs=ps:=by simpa using e
     subst e';obtain⟨as,ra⟩:=uI I h1 q1 e1;obtain⟨bs,rb⟩:=fu I h2 q2 e2;exact⟨_,.cons ra rb⟩
end
theorem lX(I:Inv X pins σ H s)(sr:cS X.K m S H)(h:RD X.K m H d x)(q:RelV x u)(e:gw S d=af p):∃as,Reads s.heap u p as:=by
 cases d with
 |ref k=>
  obtain⟨a,rfl,hk⟩:=bT h;cases q;replace e:(match S[k]? with|some (.lst ds)=>zl (.lst ds)|_=>ah)=af p:=e;cases es:S[k]? with
  |none=>simp_all|some o=>
   rw[es]at e;cases o with
   |lst ds=>
    obtain⟨a',vs,h1,h2,h3⟩:=sr.lst es;rw[hk]at h1;have:a=a':=by simpa using h1
    subst this;obtain⟨its,rv,⟨o,n,g1,g2,_,g3⟩,_⟩:=I.list (wc.of (K:=X.K) h2);have e1:(zl.yi ds).map PyData.list=af p:=e;cases ep:zl.yi ds with
    |none=>simp_all|some ps=>
     rw[ep]at e1;have e':PyData.list ps=p:=by simpa using e1
     subst e';obtain⟨as,ra⟩:=fu I h3 rv ep;exact⟨_,.list g1 g2 g3 (by simpa using ra)⟩
   |dct _=>cases e|ins _ _=>cases e|xy _=>cases e
 |_=>exact uI I h q e
end
section
variable{X:Cx}
theorem readsAll_mem:∀{vs:List av}{ds:List PyData}{as:List aI},ReadsAll h vs ds as->∀v∈vs,∃d∈ds,∃bs,Reads h v d bs
 |_,_,_,.nil,v,hv=>by simp at hv|_,_,_,.cons r t,v,hv=>by
  rcases We.mp hv with rfl|hv
  ·exact⟨_,ly,_,r⟩
  ·obtain⟨d,hd,bs,rd⟩:=readsAll_mem t v hv;exact⟨d,Yh _ hd,bs,rd⟩
theorem zY(h:PyData.canLayAll0 qs=ai):∀q∈qs,q.canLay0=true:=by
 induction qs with
 |nil=>simp|cons x r ih=>
  intro q hq;have h':x.canLay0=ai/\PyData.canLayAll0 r=true:=by simpa[PyData.canLayAll0]using h
  grind
open Classical in
def jA(h:dc)(p:PyData)(v:av):Bool:=if h':∃d bs,Reads h v d bs then PyData.eqv h'.choose p else ay
def yc(r:Reads h v d bs):jA h p v=PyData.eqv d p:=by
 have h':∃d bs,Reads h v d bs:=⟨d,bs,r⟩
 unfold jA;rw[dif_pos h'];obtain⟨cs,rc⟩:=h'.choose_spec;rw[(Reads.unique r _ _ rc).1]
theorem oV:∀{vs:List av}{qs:List PyData}{bs:List aI},ReadsAll h vs qs bs->vs.any (jA h p)=qs.any λq=>PyData.eqv q p
 |_,_,_,.nil=>rfl|_,_,_,.cons r t=>by simp only[kF];rw[yc r,oV t]
def yd{A:cK}(ra:Reads s.heap u p as)(hp:p.canLay0=ai)(hu:A.units+66<cLine)(hd:p.depth<=64)(rs:ReadsAll s.heap vs qs bs)(hc:PyData.canLayAll0 qs=ai):∀y∈vs,EqAt A.in1 s y u (jA s.heap p y):=by intro y hy;obtain⟨d,hd1,cs,rd⟩:=readsAll_mem rs y hy;rw[yc rd];exact eqAt_reads d p A.in1 s y u cs as rd ra (zY hc d hd1) hp (by show A.units+1+_<_;have:=ua d.depth p.depth;lia)
def Vz(X:Cx)(o:CmpOp):R2:=λx y H Q=>∃m r S a b,cS X.K m S H/\RD X.K m H a x/\RD X.K m H b y/\tO X (rD X) (kQ o a b S) m r H Q
theorem ye{m:List aI}{S:bq}{H:Hp}{pins:List (aI×Obj)}{σ:St}{s:aE}{a b:D}{x y:V}{v u:av}{k:Bool}{Q:VK}(hu:X.A.units+64<cLine)(I:Inv X pins σ H s)(sr:cS X.K m S H)(ra:RD X.K m H a x)(rb:RD X.K m H b y)(rx:RelV x v)(ry:RelV y u)(h:BF S a b=af k):(Q (.bl k) H->bg (model X.prog X.w) X.A (compareOp .Eq v u) (EP X pins σ Q) X.xe s)/\(Q (.bl (!k)) H->bg (model X.prog X.w) X.A (compareOp .NotEq v u) (EP X pins σ Q) X.xe s):=by
 unfold BF at h;cases e1:gw S a with
 |none=>simp_all|some p=>
  cases e2:gw S b with
  |none=>simp_all|some q=>
   rw[e1,e2]at h;simp only at h;by_cases hc:shaped p=ai/\shaped q=ai
   ·rw[if_pos hc]at h;have hk:PyData.eqv p q=k:=by simpa using h
    subst hk;obtain⟨as,r1⟩:=lX I sr ra rx e1;obtain⟨bs,r2⟩:=lX I sr rb ry e2;exact⟨λq'=>compareEq_shaped r1 r2 hc.1 hc.2 hu ⟨.bl _,H,I,rfl,q'⟩,λq'=>compareNe_shaped r1 r2 hc.1 hc.2 hu ⟨.bl _,H,I,rfl,q'⟩⟩
   lia
theorem uJ{m:List aI}{S:bq}{H:Hp}{pins:List (aI×Obj)}{σ:St}{s:aE}{a b:D}{x y:V}{v u:av}{k:Bool}{Q:VK}(hu:X.A.units+66<cLine)(I:Inv X pins σ H s)(sr:cS X.K m S H)(ra:RD X.K m H a x)(rb:RD X.K m H b y)(rx:RelV x v)(ry:RelV y u)(h:inD S a b=af k):(Q (.bl k) H->bg (model X.prog X.w) X.A (compareOp .In v u) (EP X pins σ Q) X.xe s)/\(Q (.bl (!k)) H->bg (model X.prog X.w) X.A (compareOp .NotIn v u) (EP X pins σ Q) X.xe s):=by
 unfold inD at h;cases e0:cF S b with
 |some kvs=>
  rw[e0]at h;simp only at h;cases ek:dG a with
  |none=>simp_all|some key=>
   rw[ek]at h;have hk:(bz kvs key).isSome=k:=by simpa using h
   obtain⟨n,p,vs,rfl,_,rfl,hp,hv⟩:=qg sr rb e0;cases ry;have ex:=qe ek ra;subst ex;have hs:(dF vs key).isSome=k:=by
    rw[←hk];rcases hv.val key with⟨h1,h2⟩|⟨d,v,h1,h2,_⟩
    ·rw[h1,h2];rfl
    ·rw[h1,h2];rfl
   refine⟨λq'=>Vw (by lia) I (q9 hp) rx λs' I'=>?_,λq'=>Kv (by lia) I (q9 hp) rx λs' I'=>?_⟩
   ·rw[hs];exact⟨.bl _,H,I',rfl,q'⟩
   ·rw[hs];exact⟨.bl _,H,I',rfl,q'⟩
 |none=>
 rw[e0]at h;simp only at h;cases e1:gw S a with
 |none=>simp_all|some p=>
  cases e2:bf S b with
  |none=>simp_all|some ds=>
   rw[e1,e2]at h;simp only at h;cases e3:zl.yi ds with
   |none=>simp_all|some qs=>
    rw[e3]at h;simp only at h;by_cases hc:shaped p=ai/\shaped (.list qs)=ai
    ·rw[if_pos hc]at h;have hk:(qs.any λq=>PyData.eqv q p)=k:=by simpa using h
     subst hk;obtain⟨as,r1⟩:=lX I sr ra rx e1;obtain⟨c,xs,rfl,hq,rs⟩:=lW sr rb e2;cases ry;have hcl:PyData.canLayAll0 qs=true:=by have:=canLay_of_shaped hc.2;simpa[PyData.canLay0]using this
     rcases hq with hq|hq
     ·obtain⟨its,rv,pl,_⟩:=I.list hq;obtain⟨bs,r2⟩:=fu I rs rv e3;have he:=yd (A:=X.A) r1 (canLay_of_shaped hc.1) hu (depth_of_shaped hc.1) r2 hcl;have ha:its.toArray.any (jA s.heap p)=qs.any λq=>PyData.eqv q p:=by rw[vc];exact oV r2
      exact⟨λq'=>in_listAt (jA s.heap p) pl.isList (λy hy=>he y (by simpa using hy)) (by rw[ha];exact⟨.bl _,H,I,rfl,q'⟩),
       λq'=>notIn_listAt (jA s.heap p) pl.isList (λy hy=>he y (by simpa using hy)) (by rw[ha];exact⟨.bl _,H,I,rfl,q'⟩)⟩
     ·obtain⟨its,rv,pl,_⟩:=I.tuple hq;obtain⟨bs,r2⟩:=fu I rs rv e3;have he:=yd (A:=X.A) r1 (canLay_of_shaped hc.1) hu (depth_of_shaped hc.1) r2 hcl;have ha:its.toArray.any (jA s.heap p)=qs.any λq=>PyData.eqv q p:=by rw[vc];exact oV r2
      exact⟨λq'=>in_tupleAt (jA s.heap p) pl (λy hy=>he y (by simpa using hy)) (by rw[ha];exact⟨.bl _,H,I,rfl,q'⟩),
       λq'=>notIn_tupleAt (jA s.heap p) pl (λy hy=>he y (by simpa using hy)) (by rw[ha];exact⟨.bl _,H,I,rfl,q'⟩)⟩
    lia
theorem nH{f:Int->Int->Bool}{a b:D}{S:bq}{m:List aI}{r:az}{H:Hp}{Q:VK}{x y:V}(sr:cS X.K m S H)(ra:RD X.K m H a x)(rb:RD X.K m H b y)(h:tO X (rD X) (qY f a b S) m r H Q):∃i j,x= .int i/\y= .int j/\Q (.bl (f i j)) H:=by
 cases a with
 |int i=>
  cases b with|int j=>exact⟨i,j,gx ra,gx rb,h.fin sr iz⟩|_=>exact h.elim
 |_=>exact h.elim
def qi{f:Bool->Bool}{o:Option Bool}{S:bq}{m:List aI}{r:az}{H:Hp}{Q:VK}(sr:cS X.K m S H)(h:tO X (rD X) (DU o f S) m r H Q):∃b,o=af b/\Q (.bl (f b)) H:=by
 cases o with|none=>exact h.elim|some b=>exact⟨b,rfl,h.fin sr iz⟩
theorem C8{f:Bool->Bool}{a b:D}{S:bq}{m:List aI}{r:az}{H:Hp}{Q:VK}{x y:V}(sr:cS X.K m S H)(ra:RD X.K m H a x)(rb:RD X.K m H b y)(h:tO X (rD X) (zR f a b S) m r H Q):
  (∃i j,x= .bl i/\y= .bl j/\Q (.bl (f (i==j))) H)\/(x= .non/\y= .non/\Q (.bl (f ai)) H)\/∃i,x= .int i/\y= .non/\Q (.bl (f ay)) H:=by
 cases a with
 |bl i=>
  cases b with|bl j=>exact .inl ⟨i,j,A3 ra,A3 rb,h.fin sr iz⟩|_=>exact h.elim
 |non=>
  cases b with|non=>exact .inr (.inl ⟨AE ra,AE rb,h.fin sr iz⟩)|_=>exact h.elim
 |int i=>
  cases b with|non=>exact .inr (.inr ⟨i,gx ra,AE rb,h.fin sr iz⟩)|_=>exact h.elim
 |_=>exact h.elim
theorem Cy(hu:X.A.units+66<cLine)(o:CmpOp):BO X (compareOp o) (Vz X o):=by
 intro pins s σ H x y v u Q I rx ry h;obtain⟨m,r,S,a,b,sr,ra,rb,h⟩:=h;cases o with
 |Lt=>exact S9 pins s σ H x y v u Q I rx ry (nH sr ra rb h)|LtE=>exact Tc pins s σ H x y v u Q I rx ry (nH sr ra rb h)|Gt=>exact Td pins s σ H x y v u Q I rx ry (nH sr ra rb h)|GtE=>exact Te pins s σ H x y v u Q I rx ry (nH sr ra rb h)|Eq=>obtain⟨b,e,h⟩:=qi sr h;exact(ye (by lia) I sr ra rb rx ry e).1 h
 |NotEq=>obtain⟨b,e,h⟩:=qi sr h;exact(ye (by lia) I sr ra rb rx ry e).2 h
 |In=>obtain⟨b,e,h⟩:=qi sr h;exact(uJ hu I sr ra rb rx ry e).1 h
 |NotIn=>obtain⟨b,e,h⟩:=qi sr h;exact(uJ hu I sr ra rb rx ry e).2 h
 |Is=>
  rcases C8 (f:=λr=>r) sr ra rb h with⟨i,j,rfl,rfl,h⟩|⟨rfl,rfl,h⟩|⟨i,rfl,rfl,h⟩
  ·cases rx;cases ry;exact PyProof.Rows.is_bool ⟨.bl _,H,I,rfl,h⟩
  ·cases rx;cases ry;exact PyProof.Rows.is_none_none ⟨.bl _,H,I,rfl,h⟩
  ·obtain⟨t,rfl⟩:=rx;cases ry;exact PyProof.Rows.is_int_none ⟨.bl _,H,I,rfl,h⟩
 |IsNot=>
  rcases C8 sr ra rb h with⟨i,j,rfl,rfl,h⟩|⟨rfl,rfl,h⟩|⟨i,rfl,rfl,h⟩
  ·cases rx;cases ry;exact PyProof.Rows.isnot_bool ⟨.bl _,H,I,rfl,h⟩
  ·cases rx;cases ry;exact PyProof.Rows.isnot_none_none ⟨.bl _,H,I,rfl,h⟩
  ·obtain⟨t,rfl⟩:=rx;cases ry;exact PyProof.Rows.isnot_int_none ⟨.bl _,H,I,rfl,h⟩
def zZ(x:Ev D):Prop:=x=ah\/∃k S',x=af (.ok (.bl k) S')
def A4:zZ (kQ o a b S):=by
 have ic:∀f,zZ (qY f a b S):=λf=>by
  cases a with
  |int i=>
   cases b with|int j=>exact .inr ⟨_,_,rfl⟩|_=>exact .inl rfl
  |_=>exact .inl rfl
 have ob:∀o f,zZ (DU o f S):=λo f=>by
  cases o with|none=>exact .inl rfl|some b=>exact .inr ⟨_,_,rfl⟩
 have is:∀f,zZ (zR f a b S):=λf=>by
  cases a with
  |bl i=>
   cases b with|bl j=>exact .inr ⟨_,_,rfl⟩|_=>exact .inl rfl
  |non=>
   cases b with|non=>exact .inr ⟨_,_,rfl⟩|_=>exact .inl rfl
  |int i=>
   cases b with|non=>exact .inr ⟨_,_,rfl⟩|_=>exact .inl rfl
  |_=>exact .inl rfl
 cases o with|Lt=>exact ic _|LtE=>exact ic _|Gt=>exact ic _|GtE=>exact ic _|Is=>exact is λr=>r|IsNot=>exact is λr=>!r|_=>exact ob _ _
def GQ(h:kQ o a b S=af (.ok d S')):∃k,d= .bl k:=by
 rcases A4 (o:=o) (a:=a) (b:=b) (S:=S)with e|⟨k,S1,e⟩
 ·lia
 grind
def Cz(h:kQ o a b S=af (.exc c S')):False:=by
 rcases A4 (o:=o) (a:=a) (b:=b) (S:=S)with e|⟨k,S1,e⟩
 ·lia
 lia
def GR{ds:List D}{i:Int}{d:D}(h:BQ ds i=af d):∃j,CC ds.length i=af j/\ds[j]?=af d:=by
 unfold BQ at h;cases e:CC ds.length i with|none=>simp_all|some j=>simp_all
def KC(h:f7 X.K m H ds vs)(e:BQ ds i=af d):∃v,BQ vs i=af v/\RD X.K m H d v:=by obtain⟨j,h1,h2⟩:=GR e;obtain⟨v,h3,h4⟩:=h.get h2;refine⟨v,?_,h4⟩;unfold BQ;rw[←h.length,h1];simpa using h3
def TV(X:Cx):R2:=λx y H Q=>∃m r S a b,cS X.K m S H/\RD X.K m H a x/\RD X.K m H b y/\tO X (rD X) (IY a b S) m r H Q
open PySem.Spec PyProof.Rows in
def KD(hu:X.A.units+1<cLine):D7 X (λx y H Q=>∃a v,x= .ref a/\qX H a y (af v)/\Q v H):=by
 intro value slice pins s σ H x y v u Q I rx ry h hs;obtain⟨a,w,rfl,g,q⟩:=h;cases rx;have hT:=xj I g;have h₂:bg (model X.prog X.w) X.A (getItem (.ref a) u) (EP X pins σ Q) X.xe s:=Cg hu I g ry λw' s3 I3 rw'=>⟨w,H,I3,rw',q⟩
 unfold subscriptTail;refine My ?_;rw[getitemInPython_of_ne hT.not_modules];refine My (wpAny_specialOf hT PySem.F.slot_dict_getitem.lookup ?_);have fin:bg (model X.prog X.w) X.A (subscripted slice ay (.ref a) u) (λr s₃=>bg (model X.prog X.w) X.A (letTemporaryGo value (.ref a) r>>=λ_=>pure r) (EP X pins σ Q) X.xe s₃) X.xe s:=by rw[hs];exact wpAny_operating (Xw h₂ (λr s₃ h₃=>My (wpAny_letTemporaryGo (V8 h₃))) λ_ _ x=>x)
 first
  |exact V8 (My fin)|exact My (V8 (My fin))|exact My fin
theorem KH(hu:X.A.units+1<cLine):D7 X (TV X):=by
 intro value slice pins s σ H x y v u Q I rx ry h hs;obtain⟨m,r,S,a,b,sr,ra,rb,h⟩:=h;unfold IY at h;cases e0:cF S a with
 |some kvs=>
  rw[e0]at h;simp only at h;cases ek:dG b with
  |none=>rw[ek]at h;exact h.elim|some key=>
   rw[ek]at h;simp only at h;obtain⟨n,p,vs,rfl,_,rfl,hp,hv⟩:=qg sr ra e0;have ey:=qe ek rb;subst ey;rcases hv.val key with⟨h1,h2⟩|⟨d,w,h1,h2,h3⟩
   ·rw[h1]at h;exact h.elim
   ·rw[h1]at h;refine KD hu value slice pins s σ H _ _ v u Q I rx ry ⟨p,w,rfl,?_,h.fin sr h3⟩ hs;have:=q9 (k:=key) hp;lia
 |none=>
 rw[e0]at h;simp only at h;split at h
 ·rename_i ds i es;split at h
  ·rename_i d ed;obtain⟨p,xs,rfl,hq,rs⟩:=lW sr ra es;obtain⟨w,h1,h2⟩:=KC rs ed;exact Pk value slice pins s σ H _ y v u Q I rx ry (by
    rcases hq with hq|hq
    ·exact .inl ⟨p,xs,i,w,rfl,gx rb,hq,h1,h.fin sr h2⟩
    ·exact .inr (.inl ⟨p,xs,i,w,rfl,gx rb,hq,h1,h.fin sr h2⟩)) hs
  ·exact h.elim
 ·exact h.elim
def VB(X:Cx):Gp:=λo i v H Q=>∃m S a b d,cS X.K m S H/\RD X.K m H a o/\RD X.K m H b i/\RD X.K m H d v/\∃S',putAt a b d S=af S'/\∀H',fk m m H H'->cS X.K m S' H'->Q H'
def KJ(hu:X.A.units+1<cLine):Om X (VB X):=by
 intro pins s σ H o i v ov iv u Q I ro ri rv h;obtain⟨m,S,a,b,d,sr,ra,rb,rd,S',hp,q⟩:=h;unfold putAt at hp;split at hp
 ·rename_i k;obtain⟨p,rfl,hk⟩:=bT ra;split at hp
  ·rename_i kvs e;split at hp
   ·rename_i key ek;split at hp
    ·rename_i hl;have es:=Wd hp;subst es;obtain⟨p',vs,h1,h2,h3⟩:=sr.dct e;rw[hk]at h1;have ep:p=p':=by simpa using h1
     subst ep;cases ro;have ei:=qe ek rb;subst ei;have hl':vs.length<sizeLine:=by rw[←h3.len];exact hl
     exact Ci hu I (zQ.k h2 hl') ri rv λs' I'=>⟨_,I',q _ (fk.qV sr hk h2 trivial) (sr.qV hk h2 trivial λH' st e=>⟨_,e,(h3.put key rd).step st⟩)⟩
    ·cases hp
   ·cases hp
  ·cases hp
 ·cases hp
def nJ(h:f7 X.K m H ds vs)(lo hi:Option Int):f7 X.K m H (cutD ds lo hi) (lK vs lo hi):=by unfold cutD lK;rw[h.length];exact(h.drop _).take _
def PJ(X:Cx):V->Option Int->Option Int->Hp->VK->Prop:=λx lo hi H Q=>∃m r S a,cS X.K m S H/\RD X.K m H a x/\tO X (rD X) (slc a lo hi S) m r H Q
end
end RK
namespace HT
open PySem PySem.Spec PyProof.Rows
section
variable{prog:ck}{w:cy}{A:cK}{E:av->aE->Prop}{s:aE}
def lH{lo hi:Option Int}(ht:IsTup s.heap t items)(hs:s.heap.IsSliceOf sl vl vu .none)(pl:IsPart vl lo)(pu:IsPart vu hi)(hw:kL items.size 0 lo=0/\kL items.size items.size hi=items.size)(h:Q (.ref t) s):bg (model prog w) A (getItem (.ref t) (.ref sl)) Q E s:=by
 obtain⟨os,hos,hcs,hds⟩:=id hs;have hTs:s.TypeIs (.ref sl) "slice" :=⟨os,hos,hcs⟩
 unfold getItem
 try with_reducible refine Xl ?_
 first|refine My (V8 ?_)|skip
 refine My (wpAny_sequenceKey ht.typeIs (by decide) ?_);refine My (Xf (name:=Str.ofString "__getitem__") ht.typeIs Xx
  (WY Xx ht.typeIs entry_tuple_getitem ?_ (args_tuple_getitem _ _)))
 show bg _ _ (Builtin.Tuple.tupleItemsOf (.ref t)>>=_) _ _ s;refine My (tupleItemsOf_ ht ?_);refine My (Yn hTs ?_);rw[if_pos (by decide)];refine My (iZ hs pl pu ?_);have hyes:(((kL items.size 0 lo:Nat):Int)==0 && (1:Int)==1 && (kL items.size items.size hi - kL items.size 0 lo)==items.size)=true:=by rw[hw.1,hw.2];simp
 show bg _ _ (if(((kL items.size 0 lo:Nat):Int)==0 && (1:Int)==1 && (kL items.size items.size hi - kL items.size 0 lo)==items.size)=ai then _ else _) _ _ s;rw[if_pos hyes];refine My ?_;unfold Builtin.Tuple.tupleIsExact;refine My (Yn ht.typeIs (V8 ?_));rw[if_pos (by decide)];exact My (Y5 (V8 ⟨_,rfl,V8 h⟩))
end
end HT
namespace RK
open PySem L2 PySem.SeqAt
section
variable{X:Cx}
def KN{pins:List (aI×Obj)}{s:aE}{σ:St}{H:Hp}{a:aI}{xs:List V}{vl vu:av}{lo hi:Option Int}{sl:aI}{Q:VK}(I:Inv X pins σ H s)(hs:s.heap.IsSliceOf sl vl vu .none)(pl:IsPart vl lo)(pu:IsPart vu hi)(hx:tP X.K H a xs)(hw:HT.kL xs.length 0 lo=0/\HT.kL xs.length xs.length hi=xs.length)(q:Q (.ref a) H):
  ∃T id,typeLookup (.type T) "__getitem__" =pure (af (.builtin id))/\s.TypeIs (.ref a) T/\bg (model X.prog X.w) X.A (getItem (.ref a) (.ref sl)) (EP X pins σ Q) X.xe s:=by
 obtain⟨its,r,ht,hz⟩:=I.tuple hx;have hlen:its.toArray.size=xs.length:=by rw[WX];exact r.length.symm
 refine⟨"tuple",_,Xx.lookup,ht.typeIs,?_⟩;exact HT.lH ht hs pl pu (by rw[hlen];exact hw) ⟨.ref a,H,I,rfl,q⟩
theorem GX:MS X (PJ X):=by
 intro pins s σ H x v vl vu lo hi sl Q I rx hs pl pu h;obtain⟨m,r,S,a,sr,ra,h⟩:=h;cases a with
 |tup ds=>
  obtain⟨p,vs,rfl,hq,rs⟩:=cW ra;by_cases hw:HT.kL vs.length 0 lo=0/\HT.kL vs.length vs.length hi=vs.length
  ·have e:cutD ds lo hi=ds:=by
    unfold cutD;rw[rs.length,hw.1,hw.2,r9,←rs.length,zd,om]
   have h':tO X (rD X) (fy (.tup (cutD ds lo hi)) S) m r H Q:=h;rw[e]at h';cases rx;exact KN I hs pl pu hq hw (h'.fin sr ra)
  ·exact O9 pins s σ H _ _ vl vu lo hi sl Q I rx hs pl pu ⟨p,vs,rfl,hq,hw,q8 sr (nJ rs lo hi) h⟩
 |lst ds=>obtain⟨p,vs,rfl,hq,hn,rs⟩:=dB ra;exact qW pins s σ H _ _ vl vu lo hi sl Q I rx hs pl pu ⟨p,vs,rfl,wc.of hq,iT sr (nJ rs lo hi) h⟩
 |As ns=>obtain⟨p,rfl,hq⟩:=uH ra;exact qW pins s σ H _ _ vl vu lo hi sl Q I rx hs pl pu ⟨p,_,rfl,hq.sq,iT sr (nJ cX lo hi) h⟩
 |ref k=>
  obtain⟨p,rfl,hk⟩:=bT ra;cases e:S[k]? with
  |none=>simp only[slc,e]at h;exact h.elim|some o=>
   cases o with
   |lst ds=>
    simp only[slc,e]at h;obtain⟨p',vs,h1,h2,h3⟩:=sr.lst e;rw[hk]at h1;have:p=p':=by simpa using h1
    subst this;exact qW pins s σ H _ _ vl vu lo hi sl Q I rx hs pl pu ⟨p,vs,rfl,wc.of h2,iT sr (nJ h3 lo hi) h⟩
   |dct _=>simp only[slc,e]at h;exact h.elim|ins _ _=>simp only[slc,e]at h;exact h.elim|xy _=>simp only[slc,e]at h;exact h.elim
 |_=>exact h.elim
def CG:bj X (.builtin "len") (λxs H Q=>∃a kvs,xs=[V.ref a]/\Rd H a (.dK kvs)/\Q (.int kvs.length) H):=by intro pins s σ H xs us Q I r h;obtain⟨a,kvs,rfl,ha,q⟩:=h;obtain⟨u,rfl,ru⟩:=vals1 r;cases ru;exact Tu I ha λt s' I'=>⟨.int kvs.length,H,I',⟨t,rfl⟩,q⟩
def E3(X:Cx)(f:Bi):List V->Hp->VK->Prop:=λxs H Q=>∃m r S ds,cS X.K m S H/\f7 X.K m H ds xs/\tO X (rD X) (DL f ds S) m r H Q
def oW(h:f7 X.K m H [d] xs):∃x,xs=[x]/\RD X.K m H d x:=by
 obtain⟨v,r,rfl,h1,h2⟩:=h.cons_of;rw[h2.nil_of]
 simp_all
def PK(h:f7 X.K m H [d,e] xs):∃x y,xs=[x,y]/\RD X.K m H d x/\RD X.K m H e y:=by obtain⟨v,r,rfl,h1,h2⟩:=h.cons_of;obtain⟨y,rfl,h3⟩:=oW h2;exact⟨v,y,rfl,h1,h3⟩
theorem qj{f:D->bq->Ev D}{ds:List D}{S:bq}{m:List aI}{r:az}{H:Hp}{Q:VK}(h:tO X (rD X) (EU f ds S) m r H Q):∃a,ds=[a]/\tO X (rD X) (f a S) m r H Q:=by
 cases ds with
 |nil=>exact h.elim|cons a l=>
  cases l with|nil=>exact⟨a,rfl,h⟩|cons _ _=>exact h.elim
theorem CJ{f:Int->Int->Int}{ds:List D}{S:bq}{m:List aI}{r:az}{H:Hp}{Q:VK}{xs:List V}(sr:cS X.K m S H)(rs:f7 X.K m H ds xs)(h:tO X (rD X) (RS f ds S) m r H Q):∃i j,xs=[.int i,.int j]/\Q (.int (f i j)) H:=by
 cases ds with
 |nil=>exact h.elim|cons a l=>
  cases l with
  |nil=>exact h.elim|cons b l=>
   cases l with
   |cons _ _=>exact h.elim|nil=>
    obtain⟨x,y,rfl,rx,ry⟩:=PK rs;cases a with
    |int i=>
     cases b with|int j=>cases gx rx;cases gx ry;exact⟨i,j,rfl,h.fin sr cj⟩|_=>exact h.elim
    |_=>exact h.elim
theorem PL:bj X (.builtin "len") (E3 X .len):=by
 intro pins s σ H xs us Q I rv h;obtain⟨m,r,S,ds,sr,rs,h⟩:=h;replace h:=qj (f:=p8) h;obtain⟨a,rfl,h⟩:=h;obtain⟨x,rfl,rx⟩:=oW rs;unfold p8 at h;cases e2:bf S a with
 |some es=>rw[e2]at h;obtain⟨p,ys,rfl,hq,rs'⟩:=lW sr rx e2;refine uy pins s σ H _ us Q I rv ⟨p,ys,rfl,hq,?_⟩;rw[←rs'.length];exact h.fin sr cj
 |none=>
  rw[e2]at h;cases e3:cF S a with
  |some kvs=>simp only[e3]at h;obtain⟨n,p,vs,rfl,_,rfl,hp,hv⟩:=qg sr rx e3;exact CG pins s σ H _ us Q I rv ⟨p,vs,rfl,hp,by rw[←hv.len];exact h.fin sr cj⟩
  |none=>
   simp only[e3]at h;cases a with
   |str x=>
    by_cases hz:x.length<=aS
    ·simp only[if_pos hz]at h;cases AY rx;exact uz pins s σ H _ us Q I rv ⟨_,rfl,hz,h.fin sr cj⟩
    ·simp only[if_neg hz]at h;exact h.elim
   |_=>exact h.elim
def PN:bj X (.builtin "abs") (E3 X .abs):=by intro pins s σ H xs us Q I rv h;obtain⟨m,r,S,ds,sr,rs,h⟩:=h;exact h.elim
def PP:bj X (.type "int") (E3 X .int):=by intro pins s σ H xs us Q I rv h;obtain⟨m,r,S,ds,sr,rs,h⟩:=h;exact h.elim
end
end RK
namespace RK
open PySem L2 PySem.SeqAt PyProof.Rows
theorem insI_perm(x:Int):∀l:List Int,(insI x l).Perm (x::l)
 |[]=>mw _|y::r=>by
  unfold insI;split
  ·rfl
  ·exact((insI_perm x r).cons y).trans (xC x y r)
theorem sortI_perm:∀l:List Int,(sortI l).Perm l
 |[]=>mw _|x::r=>(insI_perm x _).trans ((sortI_perm r).cons x)
theorem oE(x:Int):∀l:List Int,l.Pairwise (·<=·)->(insI x l).Pairwise (·<=·)
 |[],_=>by simp[insI]|y::r,h=>by
  obtain⟨h1,h2⟩:=WQ.mp h;unfold insI;split
  ·rename_i hx;refine WQ.mpr ⟨λz hz=>?_,h⟩;rcases We.mp hz with rfl|hz
   ·exact hx
   ·exact W4 hx (h1 z hz)
  ·rename_i hx;refine WQ.mpr ⟨λz hz=>?_,oE x r h2⟩;rcases We.mp ((insI_perm x r).mem_iff.mp hz)with rfl|hz
   ·lia
   ·exact h1 z hz
theorem lY:∀l:List Int,(sortI l).Pairwise (·<=·)
 |[]=>ny|x::r=>oE x _ (lY r)
def kO(hp:a.Perm b)(ha:a.Pairwise (·<=·)):a=sortI b:=PySem.W.ksm_same (hp.trans (sortI_perm b).symm) ha (lY b)
theorem gA:∀{ds:List D}{ns:List Int},aY ds=af ns->ds=ns.map D.int
 |[],ns,h=>by
  have:ns=[]:=by simpa[aY]using h
  subst this;rfl
 |.int i::r,ns,h=>by
  simp only[aY]at h;cases e:aY r with
  |none=>simp_all|some ms=>
   rw[e]at h;have:i::ms=ns:=by simpa using h
   subst this;rw[gA e];rfl
 |.non::_,_,h=>by simp[aY]at h|.bl _::_,_,h=>by simp[aY]at h|.str _::_,_,h=>by simp[aY]at h|.tup _::_,_,h=>by simp[aY]at h|.lst _::_,_,h=>by simp[aY]at h|.As _::_,_,h=>by simp[aY]at h|.ref _::_,_,h=>by simp[aY]at h|.FU _::_,_,h=>by simp[aY]at h|.ET::_,_,h=>by simp[aY]at h
section
variable{X:Cx}
theorem dN:∀{ns:List Int}{vs:List V},f7 X.K m H (ns.map D.int) vs->vs=ns.map V.int
 |[],vs,h=>h.nil_of|n::r,vs,h=>by obtain⟨v,t,rfl,h1,h2⟩:=f7.cons_of (d:=D.int n) (ds:=r.map D.int) h;rw[gx h1,dN h2];rfl
section
variable{prog:ck}{w:cy}{A:cK}{E:av->aE->Prop}{s:aE}
def z6(ht:IsTup s.heap a xs.toArray)(hz:xs.length<=aS)(q:Q xs {s with heap:=(s.heap.push (seqObj "list" #[] 0)).update s.heap.objs.size (Obj.mapSeq (·++xs.toArray))}):bg (model prog w) A (collect (.ref a)) Q E s:=by
 obtain⟨ob,e1,e2,k,e3⟩:=id ht;have e1':=V9 (seqObj "list" #[] 0) e1;have en:(s.heap.push (seqObj "list" #[] 0)).get? s.heap.objs.size=af (seqObj "list" #[] 0):=Wf _ rfl;unfold collect;refine My (wpAny_runValue (XD entry_proto_collect' ?_));refine My (m:=newList []) (Ze (V8 ⟨Code.quiet_builtin _ (by decide+kernel),XD entry_list_iadd' ?_⟩));show bg _ _ (Builtin.List.listExtendWith (.ref s.heap.objs.size) (.ref a) (.ref s.heap.objs.size)) _ _ {s with heap:=s.heap.push (seqObj "list" #[] 0)};unfold Builtin.List.listExtendWith;refine My (Yn (T:= "tuple") ⟨ob,e1',e2⟩ ?_);have tt:(Value.type "tuple" ==Value.type "tuple")=true:=rfl;rw[if_pos (by rw[tt];simp)];refine My (listItems_at e1' e3 (My (listItems_at en rfl ?_)));rw[if_neg (by simp)];have hle:(#[]++xs.toArray).size<=aS+1:=by simp;exact Zm hz
 refine My (listUpdate_at en rfl (V8 ?_) (WP _) hle);refine My (wpAny_load (get?_update_seq en _) ?_);have e4:(#[]++xs.toArray).toList=xs:=by simp
 show bg (model prog w) A (pure (#[]++xs.toArray).toList) Q E _;rw[e4];exact V8 q
def z7(ht:IsTup s.heap a xs.toArray)(hi:IntsAre xs ns)(h64:xs.length<64)(h:∀(out:Array av)(ms:List Int),IntsAre out.toList ms->ms.Perm ns->ms.Pairwise (·<=·)->Q (.ref (s.heap.objs.size+1)) {s with heap:=sortedAll s.heap xs out}):
  bg (model prog w) A (call (.builtin "sorted") [.ref a]) Q E s:=by
 have hle:xs.length<=sizeLine:=by rw[W6];lia
 refine Yr kind_sorted plain_sorted entry_sorted (args_sorted1 _) ?_;unfold Builtin.«sorted»;refine My (m:=checkCount "sorted" 1 1 _) (V8 (My (z6 ht hle (My (Ze ?_ hle)))));obtain⟨g,eg⟩:∃g,g=(s.heap.push (seqObj "list" #[] 0)).update s.heap.objs.size (Obj.mapSeq (·++xs.toArray)):=⟨_,rfl⟩
 have gz:g.objs.size=s.heap.objs.size+1:=by rw[eg];exact(Heap.size_update ..).trans (size_push' ..)
 rw[←eg,gz];have at_:(g.push (seqObj "list" xs.toArray 0)).get? (s.heap.objs.size+1)=af (seqObj "list" xs.toArray 0):=by rw[←gz];exact Wf _ rfl
 refine My (Xl (WY (s:={s with heap:=g.push (seqObj "list" xs.toArray 0)}) slot_list_sort ⟨_,at_,rfl⟩ entry_list_sort (list_sort_tree at_ hi h64 λout ms a1 a2 a3=>⟨_,rfl,?_⟩) (args_list_sort _)));have q:=h out ms a1 a2 a3;unfold sortedAll at q;rw[←eg]at q;exact V8 ⟨_,rfl,q⟩
end
def oX:bj X (.builtin "sorted") (λxs H Q=>∃p ns,xs=[.ref p]/\wc X.K H p (ns.map V.int)/\ns.length<64/\∀l,H l=ah->Q (.ref l) (upd H l (.lst ((sortI ns).map V.int)))):=by
 intro pins s σ H xs us Q I rv h;obtain⟨p,ns,rfl,hq,h64,q⟩:=h;obtain⟨u,rfl,ru⟩:=vals1 rv;cases ru;obtain⟨its,r',pl,hz⟩:=I.list hq;have hi:IntsAre its ns:=intsAre_of r';refine sorted_ints pl.isList hi (by rw[hi.length];exact h64) λout ns' a1 a2 a3=>?_;obtain⟨e,he⟩:=sortedAll_at s.heap its out;have hs:ns'=sortI ns:=kO a2 a3;subst hs;have hf:H (s.heap.objs.size+1)=none:=I.hok.fresh (Yo _);refine⟨.ref (s.heap.objs.size+1),_,I.laid (t':=s.toks) (o:= .lst ((sortI ns).map V.int)) (λb o e=>sortedAll_old e) (Yo _) ?_,rfl,q _ hf⟩;refine⟨?_,out.toList,e,gG a1,?_⟩
 ·rw[Wb,a2.length_eq,W6];lia
 ·rw[he]
def nZ:bj X (.builtin "sorted") (λxs H Q=>∃p ns,xs=[.ref p]/\tP X.K H p (ns.map V.int)/\ns.length<64/\∀l,H l=ah->Q (.ref l) (upd H l (.lst ((sortI ns).map V.int)))):=by
 intro pins s σ H xs us Q I rv h;obtain⟨p,ns,rfl,hq,h64,q⟩:=h;obtain⟨u,rfl,ru⟩:=vals1 rv;cases ru;obtain⟨its,r',pl,hz⟩:=I.tuple hq;have hi:IntsAre its ns:=intsAre_of r';refine z7 pl hi (by rw[hi.length];exact h64) λout ms a1 a2 a3=>?_;obtain⟨e,he⟩:=sortedAll_at s.heap its out;have hs:ms=sortI ns:=kO a2 a3;subst hs;refine⟨.ref (s.heap.objs.size+1),_,I.laid (t':=s.toks) (o:= .lst ((sortI ns).map V.int)) (λb o e=>sortedAll_old e) (Yo _) ?_,rfl,q _ (I.hok.fresh (Yo _))⟩;refine⟨?_,out.toList,e,gG a1,?_⟩
 ·rw[Wb,a2.length_eq,W6];lia
 ·rw[he]
def gj(lo hi:Int):List V:=(bX (hi - lo).toNat).map λ(i:Nat)=>V.int (lo+(i:Int))
def CK(lo hi:Int):f7 X.K m H (cg lo hi) (gj lo hi):=by
 have e1:cg lo hi=((bX (hi - lo).toNat).map λ(i:Nat)=>lo+(i:Int)).map D.int:=by simp[cg]
 have e2:gj lo hi=((bX (hi - lo).toNat).map λ(i:Nat)=>lo+(i:Int)).map V.int:=by simp[gj]
 rw[e1,e2];exact cX
def z8{lo hi:Int}(h:ItemsOf (λi v=>∃t,v= .int (lo+i*1) t) acc (hi - lo).toNat):Vals (gj lo hi) acc.toList:=by
 have key:∀(n:Nat)(l:List av)(k:Nat),l.length=n->(∀(j:Nat) v,l[j]?=af v->∃t,v=Value.int (lo+((k+j:Nat):Int)) t)->Vals ((sf k n).map λ(i:Nat)=>V.int (lo+(i:Int))) l:=by
  intro n
  induction n with
  |zero=>intro l k hl _;have:l=[]:=YB.mp hl;subst this;exact .nil|succ n ih=>
   intro l k hl hv;cases l with
   |nil=>simp at hl|cons x r=>obtain⟨t,e⟩:=hv 0 x rfl;subst e;refine .cons ⟨t,by simp⟩ (ih r (k+1) (by simpa using hl) λj v hj=>?_);obtain⟨t,e⟩:=hv (j+1) v (by simpa using hj);exact⟨t,by rw[e];congr 2;lia⟩
 have:=key (hi - lo).toNat acc.toList 0 (by rw[Xh];exact h.1) (λj v hj=>by
  obtain⟨t,e⟩:=h.2 j v (by simpa using hj)
  simp_all)
 rw[←qv]at this;exact this
def PQ(lo hi:Int):Prop:= -(2^62)<=lo/\lo<2^62/\ -(2^62)<=hi/\hi<2^62
def TX{lo hi:Int}:Builtin.Range.rangeSize lo hi 1=((hi - lo).toNat:Int):=by rw[rangeSize_one];split<;>lia
def tX(hc:X.calm=ai):bj X (.type "list") (λxs H Q=>∃p lo hi,xs=[.ref p]/\H p=af (.AR lo hi)/\PQ lo hi/\(gj lo hi).length<=aS/\∀l,H l=ah->Q (.ref l) (upd H l (.lst (gj lo hi)))):=by
 intro pins s σ H xs us Q I rv h;obtain⟨p,lo,hi,rfl,hp,⟨b1,b2,b3,b4⟩,hz,q⟩:=h;obtain⟨u,rfl,ru⟩:=vals1 rv;cases ru;obtain⟨t,u,v,e⟩:=(show bB X.prog X.w H s.heap p (.AR lo hi)from I.hok p _ hp)
 have hz':(hi - lo).toNat<=2^24:=by rw[gj,Wb,zD,W6]at hz;exact hz
 refine call_list_range (n:=(hi - lo).toNat) (I.ok.hd hc) (show IsRange s.heap p lo hi 1 t u v from e) (small_one b1 b2 b3 b4) TX hz' λh' tk acc' c' hk hS hacc=>?_;refine⟨.ref s.heap.objs.size,_,I.laid (t':=tk) (o:= .lst (gj lo hi)) hk (Wc _) ?_,rfl,q _ I.fresh⟩;exact⟨hz,acc'.toList,c',z8 hacc,by rw[hS]⟩
theorem CN(hg:Gl X "range")(hm:X.mg "range" =ah)(ha:PA X [a] ta)(hs:starEach [a] X.env=[(ay,eval a X.env)]:=by rfl):
  PE X (.Call (.Name "range" p) [a] [] pos) (λσ H Q=>ta σ H λvs H1=>∃j:Int,vs=[.int j]/\∀l,H1 l=ah->Q (.ref l) (upd H1 l (.AR 0 j))):=by
 intro pins s σ H Q I h;refine Call_ (jD I hg hm boot_range (YL (ja (ha pos pins s σ H _ I h) λus s1 zz=>?_) hs rfl));obtain⟨vs,H1,I1,r1,q1⟩:=zz;obtain⟨j,e,q⟩:=q1;subst e;cases r1 with
 |cons r rr=>cases rr;obtain⟨t,rfl⟩:=r;refine call_range_1 ?_;exact⟨.ref s1.heap.objs.size,_,I1.laid (o:= .AR 0 j) (λb o e=>V9 _ e) (Wc _) ⟨_,_,_,Wf _ rfl⟩,rfl,q _ I1.fresh⟩
end
def gJ(x:Ev α)(f:α->bq->Ev β)(g:β->bq->Ev γ):bnd (bnd x f) g=bnd x λa S=>bnd (f a S) g:=by
 cases x with|none=>rfl|some o=>cases o<;>rfl
section
variable{X:Cx}{cl:Nat->List D->bq->Ev D}{a b c:bE}{a' b' c':E}{t t':T}{es:List bE}{es':List E}{pos p:Pos}
abbrev JE(X:Cx)(cl:Nat->List D->bq->Ev D)(e:bE)(e':E):Prop:=PE X e (tM X (rD X) (aj cl e'))
abbrev JT(X:Cx)(cl:Nat->List D->bq->Ev D)(e:bE)(t:T):Prop:=PT X e (tM X rB (aO cl t))
abbrev JW(X:Cx)(cl:Nat->List D->bq->Ev D)(e:bE)(t:T):Prop:=PW X e (tM X rB (aO cl t))
abbrev JA(X:Cx)(cl:Nat->List D->bq->Ev D)(es:List bE)(es':List E):Prop:=PA X es (tM X (I0 X) (aF cl es'))
theorem PX(hN:X.N[i]?=af x)(hv:Lm X.env.scope x)(hd:(x==("__debug__" :Str))=ay)(hcd:(x==("__classdict__" :Str))=ay):JE X cl (.Name x pos) (.var i):=by
 refine PE.imp (N8 hN hv hd hcd) λσ H Q h=>?_;refine tM.el h λm r S er sr h=>?_;replace h:tO X (rD X) (match(r[i]?).join with|some d=>fy d S|none=>ah) m r H Q:=h;cases e:(r[i]?).join with
 |none=>rw[e]at h;exact h.elim|some d=>
  rw[e]at h;have e':r[i]?=af (af d):=by
   cases q:r[i]? with|none=>simp_all|some o=>simp_all
  obtain⟨v,h1,h2⟩:=er.get i d e';exact⟨v,h1,h.fin sr h2⟩
def CP:JE X cl (.Constant (.int i) j pos) (.cst (.int i)):=
 PE.imp Oa λσ H Q z=>bO z λm r S er sr h=>tO.fin (v:=V.int i) (h:tO X (rD X) (fy (.int i) S) m r H Q) sr cj
def Jy:JE X cl (.Constant (.bool i) j pos) (.cst (.bl i)):=
 PE.imp Sq λσ H Q z=>bO z λm r S er sr h=>tO.fin (v:=V.bl i) (h:tO X (rD X) (fy (.bl i) S) m r H Q) sr iz
def CQ:JE X cl (.Constant .none j pos) (.cst .non):=
 PE.imp Ob λσ H Q z=>bO z λm r S er sr h=>tO.fin (v:=V.non) (h:tO X (rD X) (fy .non S) m r H Q) sr jJ
def CT:JE X cl (.Constant (.str i) j pos) (.cst (.str i)):=
 PE.imp Bx λσ H Q z=>bO z λm r S er sr h=>tO.fin (v:=V.str i) (h:tO X (rD X) (fy (.str i) S) m r H Q) sr Pz
def GZ(hg:Gl X x)(hm:X.mg x=af u)(hu:∃t,u= .int i t)(hd:(x==("__debug__" :Str))=ay):JE X cl (.Name x pos) (.cst (.int i)):=
 PE.imp (J5 (v:= .int i) hg hm hu hd) λσ H Q z=>bO z λm r S er sr h=>tO.fin (v:=V.int i) (h:tO X (rD X) (fy (.int i) S) m r H Q) sr cj
def P0(ha:JE X cl a a')(hb:JE X cl b b'):JE X cl (.BinOp a o b pos) (.bin o a' b'):=by refine PE.imp (S7 (PB o) ha hb) λσ H Q h=>?_;refine tM.el h λm r S er sr h=>?_;have h:tO X (rD X) (bnd (aj cl a' r S) λx S1=>bnd (aj cl b' r S1) λy S2=>binop o x y S2) m r H Q:=h;refine⟨m,r,S,er,sr,h.bnd.mono λv H1 zz=>?_⟩;refine aN zz λm1 x S1 st1 e8 rx h1=>?_;refine⟨m1,r,S1,er.step st1,e8,h1.bnd.mono λu H2 zz=>?_⟩;refine aN zz λm2 y S2 st2 oj ry h2=>?_;exact⟨m2,r,S2,x,y,oj,rx.step st2,ry,h2⟩
def Qa(ha:JE X cl a a'):JE X cl (.UnaryOp .USub a pos) (.neg a'):=by
 refine PE.imp (S8 O3 ha) λσ H Q h=>?_;refine tM.el h λm r S er sr h=>?_;have h:tO X (rD X) (bnd (aj cl a' r S) λx S1=>match x with|.int i=>fy (.int (-i)) S1|_=>ah) m r H Q:=h;refine⟨m,r,S,er,sr,h.bnd.mono λv H1 zz=>?_⟩;refine aN zz λm1 x S1 st1 e8 rx h1=>?_;cases x with|int i=>exact⟨i,gx rx,h1.fin e8 cj⟩|_=>exact h1.elim
def Qc(hu:X.A.units+66<cLine)(ha:JE X cl a a')(hb:JE X cl b b')(hm:behindInMarks o b=ay):JE X cl (.Compare a [o] [b] pos) (.cmp o a' b'):=by refine PE.imp (Kg (Cy hu o) ha hb hm) λσ H Q h=>?_;refine tM.el h λm r S er sr h=>?_;have h:tO X (rD X) (bnd (aj cl a' r S) λx S1=>bnd (aj cl b' r S1) λy S2=>kQ o x y S2) m r H Q:=h;refine⟨m,r,S,er,sr,h.bnd.mono λv H1 zz=>?_⟩;refine aN zz λm1 x S1 st1 e8 rx h1=>?_;refine⟨m1,r,S1,er.step st1,e8,h1.bnd.mono λu H2 zz=>?_⟩;refine aN zz λm2 y S2 st2 oj ry h2=>?_;exact⟨m2,r,S2,x,y,oj,rx.step st2,ry,h2⟩
theorem TY{α β:Type}{R:RR α β}{o:CmpOp}{x y:D}{S:bq}{m:List aI}{r:az}{H:Hp}{k:D->bq->Ev α}{Q:β->Hp->Prop}(h:tO X R (bnd (kQ o x y S) k) m r H Q):
  tO X (rD X) (kQ o x y S) m r H λv H'=>∃c m1 S1,v= .bl c/\fk m m1 H H'/\cS X.K m1 S1 H'/\tO X R (k (.bl c) S1) m1 r H' Q:=by
 cases e:kQ o x y S with
 |none=>rw[e]at h;exact h|some oo=>
  rw[e]at h;cases oo with
  |exc c S'=>exact(Cz e).elim|ok d S'=>obtain⟨c,rfl⟩:=GQ e;intro m1 H1 v st sr rd;exact⟨c,m1,S',A3 rd,st,sr,tO.step (h:tO X R (k (.bl c) S') m r H Q) st⟩
def Qd(hu:X.A.units+66<cLine)(ha:JE X cl a a')(hb:JE X cl b b')(hm:behindInMarks o b=ay):JT X cl (.Compare a [o] [b] pos) (.val (.cmp o a' b')):=by refine PT.imp (Kh (Cy hu o) ha hb hm) λσ H Q h=>?_;refine tM.el h λm r S er sr h=>?_;have h:tO X rB (bnd (bnd (aj cl a' r S) λx S1=>bnd (aj cl b' r S1) λy S2=>kQ o x y S2) λx S1=>zV (truth S1 x) S1) m r H Q:=h;rw[gJ]at h;refine⟨m,r,S,er,sr,h.bnd.mono λv H1 zz=>?_⟩;refine aN zz λm1 x S1 st1 e8 rx h1=>?_;rw[gJ]at h1;refine⟨m1,r,S1,er.step st1,e8,h1.bnd.mono λu H2 zz=>?_⟩;refine aN zz λm2 y S2 st2 oj ry h2=>?_;refine⟨m2,r,S2,x,y,oj,rx.step st2,ry,(TY h2).mono λw H3 zz=>?_⟩;obtain⟨c,m3,S3,e,st3,E4,h3⟩:=zz;exact⟨c,e,tO.fin (v:=c) (h3:tO X rB (fy c S3) m3 r H3 Q) E4 rfl⟩
theorem CV(sr:cS X.K m S H)(rd:RD X.K m H d v)(h:truth S d=af k):zG X.K v H k:=by
 have OF:∀{ds:List D}{vs:List V},f7 X.K m H ds vs->(!ds.isEmpty)=!vs.isEmpty:=λ{ds vs} r=>by
  have:=r.length
  grind
 cases d with
 |non=>cases AE rd;exact(Wd h).symm|bl b=>cases A3 rd;exact(Wd h).symm|int i=>cases gx rd;exact(Wd h).symm|str x=>
  cases AY rd;replace h:(if x.length<=aS then af ((x.length:Int) !=0)else ah)=af k:=h;by_cases hz:x.length<=aS
  ·rw[if_pos hz]at h;exact⟨hz,(Wd h).symm⟩
  simp_all
 |tup ds=>obtain⟨a,vs,rfl,hq,rs⟩:=cW rd;have e:(!ds.isEmpty)=k:=Wd h;exact .inr (.inl ⟨vs,hq,by rw[←e,OF rs]⟩)
 |lst ds=>obtain⟨a,vs,rfl,hq,_,rs⟩:=dB rd;have e:(!ds.isEmpty)=k:=Wd h;exact .inl ⟨vs,wc.of hq,by rw[←e,OF rs]⟩
 |ref n=>
  obtain⟨a,rfl,hk⟩:=bT rd;replace h:(match S[n]? with|some (.lst ds)=>af (!ds.isEmpty)|_=>ah)=af k:=h;cases e:S[n]? with
  |none=>simp_all|some o=>
   rw[e]at h;cases o with
   |lst ds=>
    obtain⟨a',vs,h1,h2,h3⟩:=sr.lst e;rw[hk]at h1;have ea:a=a':=by simpa using h1
    subst ea;have e':(!ds.isEmpty)=k:=Wd h;exact .inl ⟨vs,wc.of h2,by rw[←e',OF h3]⟩
   |dct kvs=>cases h|ins _ _=>cases h|xy _=>cases h
 |_=>cases h
def KQ(ha:PE X a ta):PE X (.UnaryOp .Not a pos) (λσ H Q=>ta σ H λv H1=>∃k,zG X.K v H1 k/\Q (.bl (!k)) H1):=by intro pins s σ H Q I h;refine UnaryOp_ (ja (ha pins s σ H _ I h) λv s1 zz=>?_);obtain⟨x,H1,I1,r1,k,tv,q1⟩:=zz;refine not_of (Xw (BR pins s1 σ H1 x v (λc H2=>Q (.bl (!c)) H2) I1 r1 ⟨k,tv,q1⟩) (λc s' z=>?_) λ_ _ e=>e);obtain⟨H',I',q'⟩:=z;exact⟨.bl (!c),H',I',rfl,q'⟩
def Qe(ha:JE X cl a a'):JE X cl (.UnaryOp .Not a pos) (.nt a'):=by
 refine PE.imp (KQ ha) λσ H Q h=>?_;refine tM.el h λm r S er sr h=>?_;have h:tO X (rD X) (bnd (aj cl a' r S) λx S1=>match truth S1 x with|some b=>fy (.bl (!b)) S1|none=>ah) m r H Q:=h;refine⟨m,r,S,er,sr,h.bnd.mono λv H1 zz=>?_⟩;refine aN zz λm1 x S1 st1 e8 rx h1=>?_;cases e:truth S1 x with|none=>rw[e]at h1;exact h1.elim|some k=>rw[e]at h1;exact⟨k,CV e8 rx e,tO.fin (h1:tO X (rD X) (fy (.bl (!k)) S1) m1 r H1 Q) e8 iz⟩
def Qf(ha:JE X cl a a')(he:∀whole,isTrue a X.env whole=(do let v ←whole;standAt a.pos;holding [v] (truthy v))):JT X cl a (.val a'):=by
 refine PT.imp (Gw ha he) λσ H Q h=>?_;refine tM.el h λm r S er sr h=>?_;have h:tO X rB (bnd (aj cl a' r S) λx S1=>zV (truth S1 x) S1) m r H Q:=h;refine⟨m,r,S,er,sr,h.bnd.mono λv H1 zz=>?_⟩;refine aN zz λm1 x S1 st1 e8 rx h1=>?_;cases e:truth S1 x with|none=>rw[e]at h1;exact h1.elim|some k=>rw[e]at h1;exact⟨k,CV e8 rx e,tO.fin (v:=k) (h1:tO X rB (fy k S1) m1 r H1 Q) e8 rfl⟩
def KR(ha:JT X cl a t):JW X cl (.BoolOp .And [a] pos) t:=J7 ha
def Qg(ha:JT X cl a t):JW X cl (.BoolOp .Or [a] pos) t:=Oc ha
def Qh(ha:JT X cl a t)(hb:JW X cl (.BoolOp .And (b::es) pos) t'):JW X cl (.BoolOp .And (a::b::es) pos) (.and t t'):=by
 refine PW.imp (Od ha hb) λσ H Q h=>?_;refine tM.el h λm r S er sr h=>?_;have h:tO X rB (bnd (aO cl t r S) λx S1=>if x then aO cl t' r S1 else fy ay S1) m r H Q:=h;refine⟨m,r,S,er,sr,h.bnd.mono λv H1 zz=>?_⟩;refine aN zz λm1 x S1 st1 e8 rx h1=>?_;have rx:x=v:=rx;subst rx;cases x with|true=>rw[if_pos rfl];exact⟨m1,r,S1,er.step st1,e8,h1⟩|false=>rw[if_neg (by simp)];exact tO.fin (v:=ay) (h1:tO X rB (fy ay S1) m1 r H1 Q) e8 rfl
def T5(ha:JT X cl a t)(hb:JW X cl (.BoolOp .Or (b::es) pos) t'):JW X cl (.BoolOp .Or (a::b::es) pos) (.or t t'):=by
 refine PW.imp (Ss ha hb) λσ H Q h=>?_;refine tM.el h λm r S er sr h=>?_;have h:tO X rB (bnd (aO cl t r S) λx S1=>if x then fy ai S1 else aO cl t' r S1) m r H Q:=h;refine⟨m,r,S,er,sr,h.bnd.mono λv H1 zz=>?_⟩;refine aN zz λm1 x S1 st1 e8 rx h1=>?_;have rx:x=v:=rx;subst rx;cases x with|false=>rw[if_neg (by simp)];exact⟨m1,r,S1,er.step st1,e8,h1⟩|true=>rw[if_pos rfl];exact tO.fin (v:=ai) (h1:tO X rB (fy ai S1) m1 r H1 Q) e8 rfl
def Qi(ha:JT X cl a t):JT X cl (.UnaryOp .Not a pos) (.nt t):=by refine PT.imp (Oe ha) λσ H Q h=>?_;refine tM.el h λm r S er sr h=>?_;have h:tO X rB (bnd (aO cl t r S) λx S1=>fy (!x) S1) m r H Q:=h;refine⟨m,r,S,er,sr,h.bnd.mono λv H1 zz=>?_⟩;refine aN zz λm1 x S1 st1 e8 rx h1=>?_;have rx:x=v:=rx;subst rx;exact tO.fin (v:=!x) h1 e8 rfl
def Qj(ha:JE X cl a a'):JE X cl (.BoolOp o [a] pos) a':=Og ha
theorem Qk(ha:JE X cl a a')(hb:JE X cl (.BoolOp .And (b::es) pos) b'):JE X cl (.BoolOp .And (a::b::es) pos) (.and a' b'):=by
 refine PE.imp (Oh ha hb) λσ H Q h=>?_;refine tM.el h λm r S er sr h=>?_;have h:tO X (rD X) (bnd (aj cl a' r S) λx S1=>match x with|.bl ai=>aj cl b' r S1|.bl ay=>fy (.bl ay) S1|_=>ah) m r H Q:=h;refine⟨m,r,S,er,sr,h.bnd.mono λv H1 zz=>?_⟩;refine aN zz λm1 x S1 st1 e8 rx h1=>?_;cases x with
 |bl i=>
  refine⟨i,A3 rx,?_⟩;cases i with|true=>rw[if_pos rfl];exact⟨m1,r,S1,er.step st1,e8,h1⟩|false=>rw[if_neg (by simp)];exact tO.fin (v:=V.bl ay) (h1:tO X (rD X) (fy (.bl ay) S1) m1 r H1 Q) e8 iz
 |_=>exact h1.elim
theorem T6(ha:JE X cl a a')(hb:JE X cl (.BoolOp .Or (b::es) pos) b'):JE X cl (.BoolOp .Or (a::b::es) pos) (.or a' b'):=by
 refine PE.imp (Sv ha hb) λσ H Q h=>?_;refine tM.el h λm r S er sr h=>?_;have h:tO X (rD X) (bnd (aj cl a' r S) λx S1=>match x with|.bl ai=>fy (.bl ai) S1|.bl ay=>aj cl b' r S1|_=>ah) m r H Q:=h;refine⟨m,r,S,er,sr,h.bnd.mono λv H1 zz=>?_⟩;refine aN zz λm1 x S1 st1 e8 rx h1=>?_;cases x with
 |bl i=>
  refine⟨i,A3 rx,?_⟩;cases i with|false=>rw[if_neg (by simp)];exact⟨m1,r,S1,er.step st1,e8,h1⟩|true=>rw[if_pos rfl];exact tO.fin (v:=V.bl ai) (h1:tO X (rD X) (fy (.bl ai) S1) m1 r H1 Q) e8 iz
 |_=>exact h1.elim
def Ql(hc:JT X cl c t)(ha:JE X cl a a')(hb:JE X cl b b'):JE X cl (.IfExp c a b pos) (.ite t a' b'):=by
 refine PE.imp (Gk hc ha hb) λσ H Q h=>?_;refine tM.el h λm r S er sr h=>?_;have h:tO X (rD X) (bnd (aO cl t r S) λx S1=>if x then aj cl a' r S1 else aj cl b' r S1) m r H Q:=h;refine⟨m,r,S,er,sr,h.bnd.mono λv H1 zz=>?_⟩;refine aN zz λm1 x S1 st1 e8 rx h1=>?_;have rx:x=v:=rx;subst rx;cases x with|true=>rw[if_pos rfl];exact⟨m1,r,S1,er.step st1,e8,h1⟩|false=>rw[if_neg (by simp)];exact⟨m1,r,S1,er.step st1,e8,h1⟩
def Qm:JA X cl [] []:=
 PA.imp eZ λσ H Q z=>bO z λm r S er sr h=>tO.fin (v:=([]:List V)) (h:tO X (I0 X) (fy [] S) m r H Q) sr f7.nil
def KY(ha:JE X cl a a')(hr:JA X cl es es')(hs:starEach (a::es) X.env=(ay,eval a X.env)::starEach es X.env):JA X cl (a::es) (a'::es'):=by refine PA.imp (cQ ha hr hs) λσ H Q h=>?_;refine tM.el h λm r S er sr h=>?_;have h:tO X (I0 X) (bnd (aj cl a' r S) λd S1=>bnd (aF cl es' r S1) λds S2=>fy (d::ds) S2) m r H Q:=h;refine⟨m,r,S,er,sr,h.bnd.mono λv H1 zz=>?_⟩;refine aN zz λm1 x S1 st1 e8 rx h1=>?_;refine⟨m1,r,S1,er.step st1,e8,h1.bnd.mono λu H2 zz=>?_⟩;refine aN zz λm2 y S2 st2 oj ry h2=>?_;exact h2.fin oj (f7.cons (rx.step st2) ry)
def Qn(h:JA X cl es es'):JE X cl (.Tuple es k pos) (.tup es'):=by refine PE.imp (O6 h) λσ H Q h=>?_;refine tM.el h λm r S er sr h=>?_;have h:tO X (rD X) (bnd (aF cl es' r S) λds S1=>E2 ds S1) m r H Q:=h;exact⟨m,r,S,er,sr,h.bnd.mono λv H1 z=>aN z λm1 x S1 st1 e8 rx h1=>xZ e8 rx h1⟩
def Qo(h:JA X cl es es'):JE X cl (.List es pos) (.lst mu es'):=by refine PE.imp (O7 h) λσ H Q h=>?_;refine tM.el h λm r S er sr h=>?_;have h:tO X (rD X) (bnd (aF cl es' r S) λds S1=>AX mu ds S1) m r H Q:=h;exact⟨m,r,S,er,sr,h.bnd.mono λv H1 z=>aN z λm1 x S1 st1 e8 rx h1=>dj e8 rx h1⟩
def T7(hu:X.A.units+66<cLine)(ha:JE X cl a a')(hb:JE X cl b b')(hs:xT b):JE X cl (.Subscript a b pos) (.ix a' b'):=by refine PE.imp (Tq (KH (by lia)) ha hb hs) λσ H Q h=>?_;refine tM.el h λm r S er sr h=>?_;have h:tO X (rD X) (bnd (aj cl a' r S) λx S1=>bnd (aj cl b' r S1) λy S2=>IY x y S2) m r H Q:=h;refine⟨m,r,S,er,sr,h.bnd.mono λv H1 zz=>?_⟩;refine aN zz λm1 x S1 st1 e8 rx h1=>?_;refine⟨m1,r,S1,er.step st1,e8,h1.bnd.mono λu H2 zz=>?_⟩;refine aN zz λm2 y S2 st2 oj ry h2=>?_;exact⟨m2,r,S2,x,y,oj,rx.step st2,ry,h2⟩
def Qp:JE X cl (.Dict [] [] pos) .dct:=by refine PE.imp GJ λσ H Q h=>?_;refine tM.el h λm r S er sr h=>?_;have h:tO X (rD X) (fy (.ref S.length) (S++ [.dct []])) m r H Q:=h;exact λp hp=>h.fin' (fk.push sr hp _) (sr.LH hp) (Cw (by rw[←sr.len];simp))
def Qq(ha:JE X cl a a')(hb:JE X cl b b'):JE X cl (.Subscript a (.Slice (af b) ah ah p2) pos) (.GH a' b'):=by
 refine PE.imp (oO GX ha (m7 hb) xQ) λσ H Q h=>?_;refine tM.el h λm r S er sr h=>?_;have h:tO X (rD X) (bnd (aj cl a' r S) λx S1=>bnd (aj cl b' r S1) λy S2=>match y with|.int i=>slc x (af i) ah S2|_=>ah) m r H Q:=h;refine⟨m,r,S,er,sr,h.bnd.mono λv H1 zz=>?_⟩;refine aN zz λm1 x S1 st1 e8 rx h1=>?_;refine⟨m1,r,S1,er.step st1,e8,h1.bnd.mono λu H2 zz=>?_⟩;refine aN zz λm2 y S2 st2 oj ry h2=>?_;cases y with|int i=>exact⟨i,gx ry,m2,r,S2,x,oj,rx.step st2,h2⟩|_=>exact h2.elim
def Qs(ha:JE X cl a a')(hb:JE X cl b b'):JE X cl (.Subscript a (.Slice ah (af b) ah p2) pos) (.DF a' b'):=by
 refine PE.imp (oO GX ha xQ (m7 hb)) λσ H Q h=>?_;refine tM.el h λm r S er sr h=>?_;have h:tO X (rD X) (bnd (aj cl a' r S) λx S1=>bnd (aj cl b' r S1) λy S2=>match y with|.int i=>slc x ah (af i) S2|_=>ah) m r H Q:=h;refine⟨m,r,S,er,sr,h.bnd.mono λv H1 zz=>?_⟩;refine aN zz λm1 x S1 st1 e8 rx h1=>?_;refine⟨m1,r,S1,er.step st1,e8,h1.bnd.mono λu H2 zz=>?_⟩;refine aN zz λm2 y S2 st2 oj ry h2=>?_;cases y with|int i=>exact⟨i,gx ry,m2,r,S2,x,oj,rx.step st2,h2⟩|_=>exact h2.elim
theorem KZ(ha:JE X cl a a')(hb:JE X cl b b')(hc:JE X cl c c'):JE X cl (.Subscript a (.Slice (af b) (af c) ah p2) pos) (.DH a' b' c'):=by
 refine PE.imp (oO GX ha (m7 hb) (m7 hc)) λσ H Q h=>?_;refine tM.el h λm r S er sr h=>?_;have h:tO X (rD X) (bnd (aj cl a' r S) λx S1=>bnd (aj cl b' r S1) λy S2=>match y with|.int i=>bnd (aj cl c' r S2) λz S3=>(match z with|.int j=>slc x (af i) (af j) S3|_=>ah)|_=>ah) m r H Q:=h;refine⟨m,r,S,er,sr,h.bnd.mono λv H1 zz=>?_⟩;refine aN zz λm1 x S1 st1 e8 rx h1=>?_;refine⟨m1,r,S1,er.step st1,e8,h1.bnd.mono λu H2 zz=>?_⟩;refine aN zz λm2 y S2 st2 oj ry h2=>?_;cases y with
 |int i=>
  have h2:tO X (rD X) (bnd (aj cl c' r S2) λz S3=>(match z with|.int j=>slc x (af i) (af j) S3|_=>ah)) m2 r H2 Q:=h2;refine⟨i,gx ry,m2,r,S2,(er.step st1).step st2,oj,h2.bnd.mono λw H3 zz=>?_⟩;refine aN zz λm3 z S3 st3 E4 rz h3=>?_;cases z with|int j=>exact⟨j,gx rz,m3,r,S3,x,E4,(rx.step st2).step st3,h3⟩|_=>exact h3.elim
 |_=>exact h2.elim
end
end RK
namespace RK
open PySem PySem.W PyProof.Rows
section
variable{O:KeyOrd}{key:Nat->O.α}{n:Nat}{p:Array Nat}
abbrev aK(key:Nat->O.α)(p:Array Nat)(i:Nat):O.α:=key (p.getD i 0)
abbrev Cf(key:Nat->O.α)(i j:Nat):Bool:=O.blt (key i) (key j)
def aV(n:Nat)(p:Array Nat):Prop:=p.Perm (bX n).toArray
def AO(key:Nat->O.α)(p:Array Nat)(a b:Nat):Prop:=∀i j,a<=i->i<=j->j<b->O.kle (aK key p i) (aK key p j)
def JJ(key:Nat->O.α)(p:Array Nat)(a b:Nat):Prop:=∀i j,a<=i->i<=j->j<b->O.kle (aK key p j) (aK key p i)
theorem aV.size(h:aV n p):p.size=n:=by have:=h.size_eq;simpa using this
def aV.lt(h:aV n p)(hi:i<n):p.getD i 0<n:=by
 have hs:i<p.size:=by rw[h.size];exact hi
 have e:p.getD i 0=p[i]:=by simp[ku,hs]
 rw[e];have:=(X5.mp h).mem_iff.mp (show p[i]∈p.toList by simp);simpa using this
def gY{p q:Array Nat}(h:p[i]?=q[j]?):p.getD i 0=q.getD j 0:=by simp_all
def K4(hj:j<=p.size)(k:Nat):aK key (kas_rev p i j) k=if i<=k/\k<j then aK key p (i+j - 1 - k)else aK key p k:=by
 have e:=getElem?_mirror_all (xs:=p) (i:=i) hj k;unfold kas_rev aK;by_cases h:i<=k/\k<j
 ·rw[if_pos h]at e ⊢;rw[gY e]
 ·rw[if_neg h]at e ⊢;rw[gY e]
def G3(hs:src<p.size)(hd:d<=src)(k:Nat):aK key (bubble p src d) k=if k=src - d then aK key p src else if src - d<k/\k<=src then aK key p (k - 1)else aK key p k:=by
 have e:=getElem?_bubble hs d hd k;unfold aK;by_cases h1:k=src - d
 ·rw[if_pos h1]at e ⊢;rw[gY e]
 ·rw[if_neg h1]at e ⊢;by_cases h2:src - d<k/\k<=src
  ·simp_all
  ·rw[if_neg h2]at e ⊢;rw[gY e]
def aV.rev(h:aV n p)(i j:Nat):aV n (kas_rev p i j):=(mirror_perm _ _ _ _).trans h
def aV.down(h:aV n p)(i j:Nat):aV n (bubble p i j):=(bubble_perm _ _ _).trans h
def AO.same(h:AO key p a b)(e:∀k,k<b->aK key q k=aK key p k):AO key q a b:=λi j h0 h1 h2=>by rw[e _ (by exact Wv h1 h2),e _ h2];exact h i j h0 h1 h2
def Qt:AO key p a (a+1):=λi j h0 h1 h2=>by
 have e:i=j:=by lia
 subst e;exact YW _
def K5(hm:1<=m)(h:AO key p a (a+m))(hl:O.kle (aK key p (a+m - 1)) (aK key p (a+m))):AO key p a (a+(m+1)):=λi j h0 h1 h2=>by
 by_cases hj:j<a+m
 ·exact h i j h0 h1 hj
 ·have e:j=a+m:=by lia
  subst e;by_cases hi:i=a+m
  ·subst hi;exact YW _
  ·exact Yg (h i (a+m - 1) h0 (by lia) (by lia)) hl
def yf(hm:1<=m)(h:JJ key p a (a+m))(hl:O.kle (aK key p (a+m)) (aK key p (a+m - 1))):JJ key p a (a+(m+1)):=λi j h0 h1 h2=>by
 by_cases hj:j<a+m
 ·exact h i j h0 h1 hj
 ·have e:j=a+m:=by lia
  subst e;by_cases hi:i=a+m
  ·subst hi;exact YW _
  ·exact Yg hl (h i (a+m - 1) h0 (by lia) (by lia))
end
def z9(lo a r:Nat):StateT SortSt Sem AscSt:=
 forIn [a:r] ((ah,a):AscSt) λ_ z=>do
  let y ←ltAt' (lo+z.2) (lo+z.2 - 1)
  match y with
  |some b=>if b=ai then pure (.done (ah,z.2))else pure (.yield (ah,z.2+1))|_=>pure (.done (af ah,z.2))
def Aa(lo m r:Nat):StateT SortSt Sem (Option Nat):=do
 reverseSlice' lo (lo+m)
 let z ←z9 lo m r
 match z.1 with
 |some x=>pure x|none=>pure (af z.2)
def G4(lo a r:Nat):StateT SortSt Sem DescSt:=
 forIn [a:r] ((ah,a,0):DescSt) λ_ z=>do
  let y ←ltAt' (lo+z.2.1) (lo+z.2.1 - 1)
  match y with
  |some b=>
   if b=ai then
    if z.2.2>0 then do
     reverseSlice' (lo+z.2.1 - (z.2.2+1)) (lo+z.2.1)
     pure (.yield (ah,z.2.1+1,0))
    else pure (.yield (ah,z.2.1+1,0))
   else do
    let y ←ltAt' (lo+z.2.1 - 1) (lo+z.2.1)
    match y with
    |some b=>if b=ai then pure (.done (ah,z.2.1,z.2.2))else pure (.yield (ah,z.2.1+1,z.2.2+1))|_=>pure (.done (af ah,z.2.1,z.2.2))
  |_=>pure (.done (af ah,z.2.1,z.2.2))
def Ab(lo m r:Nat):StateT SortSt Sem (Option Nat):=do
 liftM (rule "list.sort.descending-run")
 let z ←G4 lo (m+1) r
 match z.1 with
 |some x=>pure x|none=>
  if z.2.2>0 then do
   reverseSlice' (lo+z.2.1 - (z.2.2+1)) (lo+z.2.1)
   Aa lo z.2.1 r
  else Aa lo z.2.1 r
local macro_rules| `(tactic|ext Sf)=> `(tactic|(congr 1;funext _;congr 1;(funext z;obtain⟨x,y⟩:=z;cases x<;>rfl)))
local macro_rules| `(tactic| ext dq)=> `(tactic| (congr 1;funext _;congr 1;congr 1;funext z;obtain⟨x,y,u⟩:=z;cases x with
 |some x=>rfl
 |none=>(dsimp only;split;(congr 1;funext _;ext Sf);ext Sf)))
theorem G5(lo r:Nat):countRun' lo r=(do
  let z ←z9 lo 1 r
  match z.1 with
  |some x=>pure x|none=>
   if(z.2==r)=ai then pure (af z.2)
   else if z.2>1 then do
    let y ←ltAt' lo (lo+z.2 - 1)
    match y with
    |some b=>if b=ai then pure (af z.2)else do
      reverseSlice' lo (lo+z.2)
      Ab lo z.2 r
    |_=>pure ah
   else Ab lo z.2 r):=by
 rw[countRun'_eq];unfold Ab Aa G4 z9;dsimp only;congr 1;funext z;obtain⟨x,m⟩:=z;cases x with
 |some x=>rfl|none=>
  dsimp only;split
  ·rfl
  ·split
   ·congr 1;funext x;cases x with
    |none=>rfl|some b=>
     dsimp only;split
     ·rfl
     ·congr 1;funext _
      ext dq
   ·ext dq
def CY(prog:ck)(w:cy)(A:cK)(s:aE)(κ:SortKind)(it:Array Keyed){O:KeyOrd}(key:Nat->O.α)(n:Nat):Prop:=
 (∀i j (C:Bool->aE->Prop),i<n->j<n->C (Cf key i j) s->bg (model prog w) A (keyLt' κ (kas_item it i).1 (kas_item it j).1) C (λ_ _=>False) s)/\∀i j,i<n->j<n->key i=key j->i=j
def D8(p p':Array Nat)(lo m:Nat):Prop:=∀i,i<lo\/lo+m<=i->p'.getD i 0=p.getD i 0
def K6(hj:j<=p.size)(h:¬(i<=k/\k<j)):(kas_rev p i j).getD k 0=p.getD k 0:=by have e:=getElem?_mirror_all (xs:=p) (i:=i) hj k;rw[if_neg h]at e;exact gY e
def G6(hs:src<p.size)(hd:d<=src)(h:k<src - d\/src<k):(bubble p src d).getD k 0=p.getD k 0:=by have e:=getElem?_bubble hs d hd k;rw[if_neg (by lia),if_neg (by lia)]at e;exact gY e
def aV.inj(h:aV n p)(hi:i<n)(hj:j<n)(e:p.getD i 0=p.getD j 0):i=j:=by
 have hs:=h.size;have nd:p.toList.Nodup:=(X5.mp h).nodup_iff.mpr (by simp[oq]);have e1:∀k (hk:k<n),p.getD k 0=p.toList[k]'(by simp;lia):=λk hk=>by simp_all
 rw[e1 i hi,e1 j hj]at e;exact(Zw nd).mp e
abbrev nK(κ:SortKind)(it:Array Keyed)(p:Array Nat)(q:Array (Nat×Nat×Nat))(g:Nat):SortSt:=SortSt.mk' κ (p.map (kas_item it)) q g ah
section
variable{prog:ck}{w:cy}{A:cK}{E:av->aE->Prop}{s:aE}{κ:SortKind}{it:Array Keyed}{O:KeyOrd}{key:Nat->O.α}{n g lo:Nat}{p:Array Nat}{q:Array (Nat×Nat×Nat)}
def ql(c:CY prog w A s κ it key n)(hi:i<n)(hj:j<n)(h:Q (af (Cf key i j)) (nK κ it p q g)):wpS (model prog w) A E s (lt' (kas_item it i) (kas_item it j)) Q (nK κ it p q g):=by rw[lt'_eq];refine Wk (wpS_get (Wk (wpS_lift (Zf (Xw (c.1 i j (λb s'=>s'=s/\b=Cf key i j) hi hj ⟨rfl,rfl⟩) (λb s' hb=>?_) λ_ _ z=>z.elim)))));obtain⟨rfl,rfl⟩:=hb;exact⟨rfl,Wu h⟩
def cR{u:Array Nat}{st:SortSt}(hi:i<u.size)(h:Q (kas_item it (u.getD i 0)) st):wpS (model prog w) A E s (elem' (u.map (kas_item it)) i) Q st:=by
 rw[elem'_eq];have e:(u.map (kas_item it))[i]?=af (kas_item it (u.getD i 0)):=by simp[ku,hi]
 rw[e];exact Wu h
def qm(c:CY prog w A s κ it key n)(hp:aV n p)(hi:i<n)(hj:j<n)(h:Q (af (Cf key (p.getD i 0) (p.getD j 0))) (nK κ it p q g)):wpS (model prog w) A E s (ltAt' i j) Q (nK κ it p q g):=by rw[ltAt'_eq];have z:=hp.size;exact Wk (wpS_get (Wk (cR (by lia) (Wk (cR (by lia) (ql c (hp.lt hi) (hp.lt hj) h))))))
def Qu(h:Q () (nK κ it (kas_rev p i j) q g)):wpS (model prog w) A E s (reverseSlice' i j) Q (nK κ it p q g):=by rw[reverseSlice'_eq];refine wpS_modify ?_;rw[show setArr (nK κ it p q g) (mirror (arrOf (nK κ it p q g)) i j ((j - i)/2))=nK κ it (kas_rev p i j) q g from Xk (λz=>SortSt.mk' κ z q g ah) (kas_swaps_map _ _ _ _ _)];exact h
def Qv(h:Q () (nK κ it (bubble p i (i - j)) q g)):wpS (model prog w) A E s (moveDown' i j) Q (nK κ it p q g):=by rw[moveDown'_eq];refine wpS_modify ?_;rw[show setArr (nK κ it p q g) (bubble (arrOf (nK κ it p q g)) i (i - j))=nK κ it (bubble p i (i - j)) q g from Xk (λz=>SortSt.mk' κ z q g ah) (kas_swaps_map _ _ _ _ _)];exact h
def CW(c:CY prog w A s κ it key n)(hp:aV n p)(hz:lo+r<=n)(h1:1<=a)(ha:a<=r)(hu:AO key p lo (lo+a))(h:∀m,a<=m->m<=r->AO key p lo (lo+m)->(m=r\/O.klt (aK key p (lo+m)) (aK key p (lo+m - 1)))->Q (ah,m) (nK κ it p q g)):wpS (model prog w) A E s (z9 lo a r) Q (nK κ it p q g):=by
 refine X4 (I:=λx z st=>st=nK κ it p q g/\z=(ah,x)/\AO key p lo (lo+x)) ?_ ?_ ⟨rfl,rfl,hu⟩
 ·rintro x z st h2 h3 ⟨rfl,rfl,hu⟩;refine Wk (qm c hp (by dsimp only;lia) (by dsimp only;lia) ?_);dsimp only;cases hl:Cf key (p.getD (lo+x) 0) (p.getD (lo+x - 1) 0)with|true=>exact Wu (h x h2 (Xg h3) hu (.inr hl))|false=>exact Wu ⟨rfl,rfl,K5 (Wa h1 h2) hu hl⟩
 simp_all
def OG(c:CY prog w A s κ it key n)(hp:aV n p)(hi:i<n)(hj:j<n)(hij:i≠j)(h1:O.kle (aK key p i) (aK key p j))(h2:O.kle (aK key p j) (aK key p i)):False:=
 hij (hp.inj hi hj (c.2 _ _ (hp.lt hi) (hp.lt hj) (KeyOrd.kle_antisymm h1 h2)))
def Qw(c:CY prog w A s κ it key n)(hz:lo+r<=n)(h1:1<=a)(ha:a<=r)(hp:aV n p)(hd:JJ key p lo (lo+a))(h:∀m,a<=m->m<=r->JJ key p lo (lo+m)->Q (ah,m,0) (nK κ it p q g)):wpS (model prog w) A E s (G4 lo a r) Q (nK κ it p q g):=by
 refine X4 (I:=λx z st=>st=nK κ it p q g/\z=(ah,x,0)/\JJ key p lo (lo+x)) ?_ ?_ ⟨rfl,rfl,hd⟩
 ·rintro x z st h2 h3 ⟨rfl,rfl,hd⟩;refine Wk (qm c hp (by dsimp only;lia) (by dsimp only;lia) ?_);dsimp only;cases hl:Cf key (p.getD (lo+x) 0) (p.getD (lo+x - 1) 0)with
  |true=>simp only[if_true];exact Wu ⟨rfl,rfl,yf (Wa h1 h2) hd (KeyOrd.kle_of_klt hl)⟩|false=>
   simp only[Wt,Xd];refine Wk (qm c hp (by lia) (by lia) ?_);cases hg:Cf key (p.getD (lo+x - 1) 0) (p.getD (lo+x) 0)with|true=>exact Wu (h x h2 (Xg h3) hd)|false=>exact(OG c hp (i:=lo+x) (j:=lo+x - 1) (by lia) (by lia) (by lia) hg hl).elim
 simp_all
def Qx(key:Nat->O.α)(n lo r:Nat)(κ:SortKind)(it:Array Keyed)(q:Array (Nat×Nat×Nat))(g:Nat)(p:Array Nat)(Q:Option Nat->SortSt->Prop):Prop:=
 ∀p' m,aV n p'->D8 p p' lo m->1<=m->m<=r->AO key p' lo (lo+m)->Q (af m) (nK κ it p' q g)
def K7(c:CY prog w A s κ it key n)(hz:lo+r<=n)(hm:m+1<=r)(hp:aV n p)(hd:JJ key p lo (lo+(m+1)))(h:Qx key n lo r κ it q g p Q):wpS (model prog w) A E s (Ab lo m r) Q (nK κ it p q g):=by refine Wk (wpS_lift (Y5 ⟨rfl,Wk (Qw c hz (YX ..) hm hp hd λm g1 g2 hd=>?_)⟩));have hs:=hp.size;have k:=K4 (key:=key) (p:=p) (i:=lo) (j:=lo+m) (by lia);dsimp only;refine Wk (Qu (Wk (CW c (hp.rev _ _) hz (by lia) g2 (λi j g0 g1 g2=>?_) λm' g3 g4 g5 _=>Wu (h _ m' (hp.rev _ _) (λi hi=>K6 (by lia) (by lia)) (by lia) g4 g5))));rw[k,k,if_pos (by lia),if_pos (by lia)];exact hd _ _ (by lia) (by lia) (by lia)
def uK(c:CY prog w A s κ it key n)(hz:lo+r<=n)(h1:1<=r)(hp:aV n p)(h:Qx key n lo r κ it q g p Q):wpS (model prog w) A E s (countRun' lo r) Q (nK κ it p q g):=by
 have hs:=hp.size;rw[G5];refine Wk (CW c hp hz (Wc _) h1 Qt λm g1 g2 g3 g4=>?_);dsimp only;by_cases hm:m=r
 ·rw[if_pos (by simpa using hm)];exact Wu (h p m hp (λ_ _=>rfl) g1 g2 g3)
 ·rw[if_neg (by simpa using hm)];have hlt:=g4.resolve_left hm;by_cases hgt:m>1
  ·rw[if_pos hgt];refine Wk (qm c hp (by lia) (by lia) ?_);cases hr:Cf key (p.getD lo 0) (p.getD (lo+m - 1) 0)with|true=>exact Wu (h p m hp (λ_ _=>rfl) g1 g2 g3)|false=>exact(OG c hp (i:=lo) (j:=lo+m - 1) (by lia) (by lia) (by lia) (g3 lo (lo+m - 1) (Wc _) (by lia) (by lia)) hr).elim
  ·rw[if_neg hgt];have e:m=1:=by lia
   subst e;refine K7 c hz (by lia) hp (yf (Wc 1) (λi j h0 h1 h2=>?_) (KeyOrd.kle_of_klt hlt)) h;have e:i=j:=by lia
   subst e;exact YW _
def CZ(c:CY prog w A s κ it key n)(hz:lo+r<=n)(h1:1<=ok)(hok:ok<=r)(hp:aV n p)(hu:AO key p lo (lo+ok))(h:∀p',aV n p'->D8 p p' lo r->AO key p' lo (lo+r)->Q ai (nK κ it p' q g)):wpS (model prog w) A E s (binarySort' lo r ok) Q (nK κ it p q g):=by
 rw[binarySort'_eq];refine Wk (wpS_mono (X4 (I:=λk z st=>∃p',z=(ah,())/\st=nK κ it p' q g/\aV n p'/\D8 p p' lo r/\AO key p' lo (lo+k))
  (Q:=λz st=>∃p',z=(ah,())/\st=nK κ it p' q g/\aV n p'/\D8 p p' lo r/\AO key p' lo (lo+r)) ?_ ?_ ⟨p,rfl,rfl,hp,λ_ _=>rfl,by simp_all⟩) ?_)
 ·rintro k z st g1 g2 ⟨p,rfl,rfl,hp,hb,hu⟩;have hs:=hp.size;refine Wk (wpS_mono (X4 (I:=λx z st=>st=nK κ it p q g/\∃l r,z=(ah,l,r)/\l<=r/\r<=k/\r - l<=k - x/\(∀i,i<l->O.kle (aK key p (lo+i)) (aK key p (lo+k)))/\(∀i,r<=i->i<k->O.klt (aK key p (lo+k)) (aK key p (lo+i))))
   (Q:=λz st=>st=nK κ it p q g/\∃l r,z=(ah,l,r)/\l<=k/\(∀i,i<l->O.kle (aK key p (lo+i)) (aK key p (lo+k)))/\(∀i,l<=i->i<k->O.klt (aK key p (lo+k)) (aK key p (lo+i)))) ?_ ?_ ⟨rfl,0,k,rfl,WP _,Wc _,Wc _,λi hi=>by lia,λi h1 h2=>by lia⟩) ?_)
  ·rintro x z st _ g3 ⟨rfl,l,r,rfl,hlr,hrk,hm,hlo,hhi⟩;dsimp only;by_cases hge:l>=r
   ·rw[if_pos hge];have e:l=r:=by lia
    subst e;exact Wu ⟨rfl,l,l,rfl,hrk,hlo,hhi⟩
   ·rw[if_neg hge];refine Wk (qm c hp (by lia) (by lia) ?_);cases hl:Cf key (p.getD (lo+k) 0) (p.getD (lo+(l+r)/2) 0)with|true=>exact Wu ⟨rfl,l,(l+r)/2,rfl,by lia,by lia,by lia,hlo,λi h1 h2=>KeyOrd.klt_of_klt_of_kle hl (hu _ _ (WD ..) (by lia) (by lia))⟩|false=>exact Wu ⟨rfl,(l+r)/2+1,r,rfl,by lia,hrk,by lia,λi h1=>Yg (hu (lo+i) (lo+(l+r)/2) (WD ..) (by lia) (by lia)) hl,hhi⟩
  ·rintro z st ⟨rfl,l,r,rfl,hlr,hrk,hm,hlo,hhi⟩;have e:l=r:=by lia
   subst e;exact⟨rfl,l,l,rfl,hrk,hlo,hhi⟩
  ·rintro z st ⟨rfl,l,r,rfl,hlk,hlo,hhi⟩;have d:=G3 (key:=key) (p:=p) (src:=lo+k) (d:=lo+k - (lo+l)) (by lia) (AI ..);rw[show lo+k - (lo+k - (lo+l))=lo+l by lia]at d;refine Wk (Qv (Wu ⟨_,rfl,rfl,hp.down _ _,λi hi=>?_,λi j h0 h1 h2=>?_⟩))
   ·rw[G6 (by lia) (by exact AI ..) (by lia)];exact hb i hi
   ·rw[d,d]
    repeat' split
    all_goals first
     |(exfalso;lia)|exact YW _|(have z:=hlo (i - lo) (by lia);rwa [show lo+(i - lo)=i by lia]at z)|(have z:=hhi (j - 1 - lo) (by lia) (by lia);rw[show lo+(j - 1 - lo)=j - 1 by lia]at z;exact KeyOrd.kle_of_klt z)|exact hu _ _ (by lia) (by lia) (by lia)
 ·simp_all
 ·rintro z st ⟨p,rfl,rfl,hp,hb,hu⟩;exact Wu (h p hp hb hu)
end
def gK:Bool->Keyed->Array Keyed->Nat->Nat->Nat->StateT SortSt Sem (Option Nat):=sortPriv% PySem.Builtin.gallop
def JO(left:Bool)(ky:Keyed)(arr:Array Keyed)(base i:Nat):StateT SortSt Sem (Option Bool):=do
 let x ←elem' arr (base+i)
 if left then lt' x ky else return (←lt' ky x).map (!·)
def Ac(left:Bool)(ky:Keyed)(arr:Array Keyed)(base n hint:Nat):gK left ky arr base n hint=(do
  let mut la:=0
  let mut of:=1
  let mut lo:=0
  let mut hi:=0
  let af rt ←JO left ky arr base hint|return ah
  if rt then
   let mx:=n - hint
   for _ in [0:n]do
    if of>=mx then break
    let af more ←JO left ky arr base (hint+of)|return ah
    if !more then break
    la:=of
    of:=2*of+1
   lo:=hint+la+1
   hi:=hint+min of mx
  else
   let mx:=hint+1
   for _ in [0:n]do
    if of>=mx then break
    let af GS ←JO left ky arr base (hint - of)|return ah
    if GS then break
    la:=of
    of:=2*of+1
   lo:=hint+1 - min of mx
   hi:=hint - la
  for _ in [0:n]do
   if lo>=hi then break
   let m:=lo+(hi - lo)/2
   let af more ←JO left ky arr base m|return ah
   if more then lo:=m+1 else hi:=m
  return af hi):=rfl
section
variable{prog:ck}{w:cy}{A:cK}{E:av->aE->Prop}{s:aE}{κ:SortKind}{it:Array Keyed}{O:KeyOrd}{key:Nat->O.α}{n g:Nat}{p u:Array Nat}{q:Array (Nat×Nat×Nat)}
def lZ(key:Nat->O.α)(left:Bool)(y:Nat)(u:Array Nat)(i:Nat):Bool:=if left then Cf key (u.getD i 0) y else !Cf key y (u.getD i 0)
def qp(c:CY prog w A s κ it key n)(hy:y<n)(hi:base+i<u.size)(hu:∀k,k<u.size->u.getD k 0<n)(h:Q (af (lZ key left y u (base+i))) (nK κ it p q g)):wpS (model prog w) A E s (JO left (kas_item it y) (u.map (kas_item it)) base i) Q (nK κ it p q g):=by
 refine Wk (cR hi ?_);cases left with|true=>exact ql c (hu _ hi) hy h|false=>exact Wk (ql c hy (hu _ hi) (Wu h))
def yg(c:CY prog w A s κ it key n)(hy:y<n)(hr:base+r<=u.size)(hu:∀k,k<u.size->u.getD k 0<n)(hm:m<=r)(hB:∀i,i<r->lZ key left y u (base+i)=decide (i<m)){lo hi:Nat}(h1:lo<=m)(h2:m<=hi)(h3:hi<=r)(h:Q (af m) (nK κ it p q g)){f:Option (Option Nat)×Nat×Nat->StateT SortSt Sem (Option Nat)}(hf:∀l,f (ah,l,m)=pure (af m)):
  wpS (model prog w) A E s (do
   let z ←forIn [0:r] (ah,lo,hi) λ_ z=>if z.2.1>=z.2.2 then pure (.done (ah,z.2.1,z.2.2))else do
    let y ←JO left (kas_item it y) (u.map (kas_item it)) base (z.2.1+(z.2.2 - z.2.1)/2)
    match y with
    |some b=>if b=ai then pure (.yield (ah,z.2.1+(z.2.2 - z.2.1)/2+1,z.2.2))else pure (.yield (ah,z.2.1,z.2.1+(z.2.2 - z.2.1)/2))|_=>pure (.done (af ah,z.2.1,z.2.2))
   f z) Q (nK κ it p q g):=by
 refine Wk (wpS_mono (X4 (I:=λx z st=>st=nK κ it p q g/\∃l h,z=(ah,l,h)/\l<=m/\m<=h/\h<=r/\h - l<=r - x) (Q:=λz st=>st=nK κ it p q g/\∃l,z=(ah,l,m)) ?_ ?_ ⟨rfl,lo,hi,rfl,h1,h2,h3,by lia⟩) ?_)
 ·rintro x z st _ g1 ⟨rfl,l,v,rfl,g2,g3,g4,g5⟩;dsimp only;split
  ·have e:v=m:=by lia
   subst e;exact Wu ⟨rfl,l,rfl⟩
  ·refine Wk (qp c hy (by lia) hu ?_);rw[hB _ (by lia)];by_cases hd:l+(v - l)/2<m
   ·simp only[hd,ZK,if_true];exact Wu ⟨rfl,_,_,rfl,hd,g3,g4,by lia⟩
   ·simp only[hd,decide_false,Wt,Xd];exact Wu ⟨rfl,_,_,rfl,g2,by lia,by lia,by lia⟩
 ·rintro z st ⟨rfl,l,v,rfl,g2,g3,g4,g5⟩;have e:v=m:=by lia
  simp_all
 ·rintro z st ⟨rfl,l,rfl⟩;rw[hf];exact Wu h
def Dc(c:CY prog w A s κ it key n)(hy:y<n)(hr:base+r<=u.size)(hu:∀k,k<u.size->u.getD k 0<n)(hh:hint<r)(hm:m<=r)(hB:∀i,i<r->lZ key left y u (base+i)=decide (i<m))(h:Q (af m) (nK κ it p q g)):wpS (model prog w) A E s (gK left (kas_item it y) (u.map (kas_item it)) base r hint) Q (nK κ it p q g):=by
 rw[Ac];dsimp only;refine Wk (qp c hy (by lia) hu ?_);rw[hB _ hh];by_cases hd:hint<m
 ·simp only[hd,ZK,if_true];refine Wk (wpS_mono (X4 (I:=λx z st=>st=nK κ it p q g/\∃la of,z=(ah,la,of)/\hint+la<m/\x<of) (Q:=λz st=>st=nK κ it p q g/\∃la of,z=(ah,la,of)/\hint+la<m/\m<=hint+min of (r - hint)) ?_ ?_ ⟨rfl,0,1,rfl,hd,Wc _⟩) ?_)
  ·rintro x z st _ g1 ⟨rfl,la,of,rfl,g2,g3⟩;dsimp only;split
   ·exact Wu ⟨rfl,la,of,rfl,g2,by lia⟩
   ·refine Wk (qp c hy (by lia) hu ?_);rw[hB _ (by lia)];by_cases hd:hint+of<m
    ·simp only[hd,ZK,Bool.not_true,Wt,Xd];exact Wu ⟨rfl,_,_,rfl,hd,by lia⟩
    ·simp only[hd,decide_false,Bool.not_false,if_true];exact Wu ⟨rfl,la,of,rfl,g2,by lia⟩
  ·rintro z st ⟨rfl,la,of,rfl,g2,g3⟩;exact⟨rfl,la,of,rfl,g2,by lia⟩
  ·rintro z st ⟨rfl,la,of,rfl,g2,g3⟩;exact yg c hy hr hu hm hB (by dsimp only;exact g2) g3 (by lia) h λ_=>rfl
 ·simp only[hd,decide_false,Wt,Xd];refine Wk (wpS_mono (X4 (I:=λx z st=>st=nK κ it p q g/\∃la of,z=(ah,la,of)/\m+la<=hint/\x<of) (Q:=λz st=>st=nK κ it p q g/\∃la of,z=(ah,la,of)/\m+la<=hint/\hint+1 - min of (hint+1)<=m) ?_ ?_ ⟨rfl,0,1,rfl,by lia,Wc _⟩) ?_)
  ·rintro x z st _ g1 ⟨rfl,la,of,rfl,g2,g3⟩;dsimp only;split
   ·exact Wu ⟨rfl,la,of,rfl,g2,by lia⟩
   ·refine Wk (qp c hy (by lia) hu ?_);rw[hB _ (by lia)];by_cases hd:hint - of<m
    ·simp only[hd,ZK,if_true];exact Wu ⟨rfl,la,of,rfl,g2,by lia⟩
    ·simp only[hd,decide_false,Wt,Xd];exact Wu ⟨rfl,_,_,rfl,by lia,by lia⟩
  ·rintro z st ⟨rfl,la,of,rfl,g2,g3⟩;exact⟨rfl,la,of,rfl,g2,by lia⟩
  ·rintro z st ⟨rfl,la,of,rfl,g2,g3⟩;exact yg c hy hr hu hm hB g3 (by dsimp only;lia) (by dsimp only;lia) h λ_=>rfl
end
theorem Dd{B:Nat->Bool}:∀{r:Nat},(∀i j,i<=j->j<r->B j=ai->B i=ai)->∃m,m<=r/\∀i,i<r->B i=decide (i<m)
 |0,_=>⟨0,WP _,λi h=>by lia⟩|r+1,h=>by
  obtain⟨m,h1,h2⟩:=Dd (r:=r) λi j a b=>h i j a (X6 b);cases hb:B r with
  |true=>exact⟨r+1,Wc _,λi hi=>by rw[h i r (by exact Zn hi) (by exact Wc _) hb,Xz hi]⟩|false=>
   refine⟨m,Zm h1,λi hi=>?_⟩;by_cases e:i=r
   ·simp_all
   ·exact h2 i (by lia)
section
variable{O:KeyOrd}{key:Nat->O.α}{u:Array Nat}
abbrev kR(key:Nat->O.α)(i j:Nat):Prop:=O.kle (key i) (key j)
def gD(h:i<u.size):u.getD i 0=u.toList[i]'h:=by simp_all
def Jz(hu:AO key u base (base+r)):∃m,m<=r/\∀i,i<r->lZ key left y u (base+i)=decide (i<m):=by
 refine Dd λi j h1 h2 h3=>?_;have z:=hu (base+i) (base+j) (WD ..) (by lia) (by lia);cases left with|true=>exact KeyOrd.klt_of_kle_of_klt z h3|false=>exact(Bool.not_eq_true' _).mpr (Yg z ((Bool.not_eq_true' _).mp h3))
def De(h:lZ key left y u i=ai):O.kle (aK key u i) (key y):=by
 cases left with|true=>exact KeyOrd.kle_of_klt h|false=>exact(Bool.not_eq_true' _).mp h
def Df(h:lZ key left y u i=ay):O.kle (key y) (aK key u i):=by
 cases left with|true=>exact h|false=>exact KeyOrd.kle_of_klt ((Bool.not_eq_false' _).mp h)
def JB(hb:b<=u.size):AO key u a b ↔ ((u.toList.take b).drop a).Pairwise (kR key):=by
 rw[List.pairwise_iff_getElem];constructor
 ·intro h i j hi hj hij;simp only[Zy,YG,Xh]at hi hj;have:=h (a+i) (a+j) (WD ..) (by lia) (by lia);rw[aK,aK,gD (by lia),gD (by lia)]at this;simpa using this
 ·intro h i j h0 h1 h2;by_cases e:i=j
  ·subst e;exact YW _
  ·have:=h (i - a) (j - a) (by simp;lia) (by simp;lia) (by lia);rw[aK,aK,gD (by lia),gD (by exact Wa h2 hb)];simpa[show a+(i - a)=i by lia,show a+(j - a)=j by lia]using this
def Si{α:Type}{f:Nat->α}{i:Nat}(h:i<u.size):((u.extract 0 i).map f).push (f (u.getD i 0))=(u.extract 0 (i+1)).map f:=by apply YH.mp;simp[ku,h,←yT,gX (i:=i) (l:=u.toList) (by simpa using h)]
def Qy{α:Type}{f:Nat->α}{i:Nat}(h:i<u.size):((u.extract (i+1) u.size).reverse.map f).push (f (u.getD i 0))=(u.extract i u.size).reverse.map f:=by
 apply YH.mp;rw[gD h];have e:∀j,(u.extract j u.size).toList=u.toList.drop j:=λj=>by rw[kB,fF,W9 (by simp)]
 rw[Zo,vF,vF,qS,qS,e,e,Yb (i:=i) (by simpa using h)];simp
end
def oY:Array Keyed->Array Keyed->StateT SortSt Sem (Array Keyed):=sortPriv% PySem.Builtin.mergeLo
abbrev AK:=Array Keyed
def ldn(a b o:AK)(i j:Nat):AK:=o++a.extract i a.size++b.extract j b.size
def JU(a b o:AK)(i j:Nat):AK:=o++b.extract j b.size++a.extract i a.size
def xn(a b:AK):oY a b=(do
  rule "list.sort.merge-lo"
  let mut o:AK:= #[←elem' b 0]
  let mut i:=0
  let mut j:=1
  if j==b.size then return ldn a b o i j
  if i+1==a.size then return JU a b o i j
  let mut mg:=gallopOf (←get)
  for _ in [0:a.size+b.size]do
   let mut ac:=0
   let mut bc:=0
   for _ in [0:a.size+b.size]do
    let af bw ←lt' (←elem' b j) (←elem' a i)|return ldn a b o i j
    if bw then
     o:=o.push (←elem' b j);j:=j+1;bc:=bc+1;ac:=0
     if j==b.size then return ldn a b o i j
     if bc>=mg then break
    else
     o:=o.push (←elem' a i);i:=i+1;ac:=ac+1;bc:=0
     if i+1==a.size then return JU a b o i j
     if ac>=mg then break
   rule "list.sort.gallop"
   mg:=mg+1
   for _ in [0:a.size+b.size]do
    if mg>1 then mg:=mg - 1
    modify λs=>SortSt.mk' (kindOf s) (arrOf s) (pendingOf s) mg (failedOf s)
    let af k ←gK ay (←elem' b j) a i (a.size - i) 0|return ldn a b o i j
    ac:=k
    if k>0 then
     o:=o++a.extract i (i+k);i:=i+k
     if i+1==a.size then return JU a b o i j
     if i==a.size then return ldn a b o i j
    o:=o.push (←elem' b j);j:=j+1
    if j==b.size then return ldn a b o i j
    let af k ←gK ai (←elem' a i) b j (b.size - j) 0|return ldn a b o i j
    bc:=k
    if k>0 then
     o:=o++b.extract j (j+k);j:=j+k
     if j==b.size then return ldn a b o i j
    o:=o.push (←elem' a i);i:=i+1
    if i+1==a.size then return JU a b o i j
    if ac<7 && bc<7 then break
   mg:=mg+1
   modify λs=>SortSt.mk' (kindOf s) (arrOf s) (pendingOf s) mg (failedOf s)
  (unsupported "internal:list.sort.merge-bound" :StateT SortSt Sem AK)):=rfl
section
variable{prog:ck}{w:cy}{A:cK}{E:av->aE->Prop}{s:aE}{κ:SortKind}{it:Array Keyed}{O:KeyOrd}{key:Nat->O.α}{n g:Nat}{p u v:Array Nat}{q:Array (Nat×Nat×Nat)}
def dH{σ α:Type}{st:σ}[Decidable c]{f f':StateT σ Sem α}{Q:α->σ->Prop}(h1:c->wpS M A E s f Q st)(h2:¬c->wpS M A E s f' Q st):wpS M A E s (if c then f else f') Q st:=by lia
def Qz{Q:AK->SortSt->Prop}(hq:CY prog w A s κ it key n)(uN:u.getD 0 0<n)(vN:∀k,k<v.size->v.getD k 0<n)(hu:0<u.size)(hv:0<v.size)(v6:v.size<=6)(hg:7<=g)(hl:∀j,j<v.size->Cf key (v.getD j 0) (u.getD 0 0)=ai)(h:Q ((v++u).map (kas_item it)) (nK κ it p q g)):
  wpS (model prog w) A E s (oY (u.map (kas_item it)) (v.map (kas_item it))) Q (nK κ it p q g):=by
 have su:(u.map (kas_item it)).size=u.size:=Y6;have sv:(v.map (kas_item it)).size=v.size:=Y6;have dn:ldn (u.map (kas_item it)) (v.map (kas_item it)) ((v.extract 0 v.size).map (kas_item it)) 0 v.size=(v++u).map (kas_item it):=YH.mp (by simp[ldn,W9]);rw[xn];refine Wk (wpS_lift (Y5 ⟨rfl,Wk (cR hv ?_)⟩));have e1:(#[kas_item it (v.getD 0 0)]:AK)=(v.extract 0 (0+1)).map (kas_item it):=by rw[←Si hv];simp
 dsimp only;rw[e1,su,sv];refine dH (λe=>Wu ?_) λe=>dH (λe'=>Wu ?_) λe'=>?_
 ·have e:1=v.size:=by simpa using e
  rw[show(0+1:Nat)=v.size by exact e,e,dn];exact h
 ·have e':1=u.size:=by simpa using e'
  have:JU (u.map (kas_item it)) (v.map (kas_item it)) ((v.extract 0 (0+1)).map (kas_item it)) 0 1=(v++u).map (kas_item it):=YH.mp (by simp[JU,W9,uS]);rw[this];exact h
 have e:1≠v.size:=by simpa using e
 refine Wk (wpS_get (Wk (wpS_mono (X4 (I:=λx z st=>x=0/\st=nK κ it p q g/\z=(ah,(v.extract 0 (0+1)).map (kas_item it),0,1,g)) (Q:=λz st=>st=nK κ it p q g/\∃y,z=(af ((v++u).map (kas_item it)),y)) ?_ (λz st hz=>by lia) ⟨rfl,rfl,rfl⟩) ?_)))
 ·rintro x z1 st _ g1 ⟨rfl,rfl,rfl⟩;refine Wk (wpS_mono (X4 (I:=λy z st=>st=nK κ it p q g/\∃bc,z=(ah,(v.extract 0 (y+1)).map (kas_item it),0,y+1,0,bc)/\y+1<v.size/\bc<=y)
   (Q:=λz st=>st=nK κ it p q g/\∃y,z=(af ((v++u).map (kas_item it)),y)) ?_ ?_ ⟨rfl,0,rfl,by lia,WP _⟩) ?_)
  ·rintro y z st _ g2 ⟨rfl,bc,rfl,hj,hb⟩;refine Wk (cR hj (Wk (cR hu (Wk (ql hq (vN _ hj) uN ?_)))));dsimp only;rw[hl _ hj];refine Wk (cR hj ?_);rw[Si hj];refine dH (λe=>Wu ⟨rfl,_,Xk (λz=>(af z,_)) (?_:_=(v++u).map (kas_item it))⟩) λe=>?_
   ·have e:y+1+1=v.size:=by simpa using e
    rw[e,dn]
   have e:y+1+1≠v.size:=by simpa using e
   exact dH (λe=>absurd (show g<=bc+1 from e) (by lia)) λ_=>Wu ⟨rfl,_,rfl,by lia,iX hb⟩
  ·rintro z st ⟨rfl,bc,rfl,h1,_⟩;exfalso;lia
  ·rintro z st ⟨rfl,y,rfl⟩;exact Wu ⟨rfl,_,rfl⟩
 ·rintro z st ⟨rfl,y,rfl⟩;exact Wu h
end
def oZ:Array Keyed->Array Keyed->StateT SortSt Sem (Array Keyed):=sortPriv% PySem.Builtin.mergeHi
def hdn(a b o:AK)(i j:Nat):AK:=a.extract 0 i++b.extract 0 j++o.reverse
def JY(a b o:AK)(i j:Nat):AK:=b.extract 0 j++a.extract 0 i++o.reverse
def xr(a b:AK):oZ a b=(do
  rule "list.sort.merge-hi"
  let mut i:=a.size - 1
  let mut j:=b.size
  let mut o:AK:= #[←elem' a i]
  if i==0 then return hdn a b o i j
  if j==1 then return JY a b o i j
  let mut mg:=gallopOf (←get)
  for _ in [0:a.size+b.size]do
   let mut ac:=0
   let mut bc:=0
   for _ in [0:a.size+b.size]do
    let af aw ←lt' (←elem' b (j - 1)) (←elem' a (i - 1))|return hdn a b o i j
    if aw then
     i:=i - 1;o:=o.push (←elem' a i);ac:=ac+1;bc:=0
     if i==0 then return hdn a b o i j
     if ac>=mg then break
    else
     j:=j - 1;o:=o.push (←elem' b j);bc:=bc+1;ac:=0
     if j==1 then return JY a b o i j
     if bc>=mg then break
   rule "list.sort.gallop"
   mg:=mg+1
   for _ in [0:a.size+b.size]do
    if mg>1 then mg:=mg - 1
    modify λs=>SortSt.mk' (kindOf s) (arrOf s) (pendingOf s) mg (failedOf s)
    let af x ←gK ay (←elem' b (j - 1)) a 0 i (i - 1)|return hdn a b o i j
    let k:=i - x
    ac:=k
    if k>0 then
     o:=o++(a.extract x i).reverse;i:=x
     if i==0 then return hdn a b o i j
    j:=j - 1;o:=o.push (←elem' b j)
    if j==1 then return JY a b o i j
    let af x ←gK ai (←elem' a (i - 1)) b 0 j (j - 1)|return hdn a b o i j
    let k:=j - x
    bc:=k
    if k>0 then
     o:=o++(b.extract x j).reverse;j:=x
     if j==1 then return JY a b o i j
     if j==0 then return hdn a b o i j
    i:=i - 1;o:=o.push (←elem' a i)
    if i==0 then return hdn a b o i j
    if ac<7 && bc<7 then break
   mg:=mg+1
   modify λs=>SortSt.mk' (kindOf s) (arrOf s) (pendingOf s) mg (failedOf s)
  (unsupported "internal:list.sort.merge-bound" :StateT SortSt Sem AK)):=rfl
section
variable{prog:ck}{w:cy}{A:cK}{E:av->aE->Prop}{s:aE}{κ:SortKind}{it:Array Keyed}{O:KeyOrd}{key:Nat->O.α}{n g:Nat}{p u v:Array Nat}{q:Array (Nat×Nat×Nat)}
def QB{Q:AK->SortSt->Prop}(hq:CY prog w A s κ it key n)(vN:v.getD (v.size - 1) 0<n)(uN:∀k,k<u.size->u.getD k 0<n)(hu:0<u.size)(hv:0<v.size)(u6:u.size<=6)(hg:7<=g)(hl:∀i,i<u.size->Cf key (v.getD (v.size - 1) 0) (u.getD i 0)=ai)(h:Q ((v++u).map (kas_item it)) (nK κ it p q g)):
  wpS (model prog w) A E s (oZ (u.map (kas_item it)) (v.map (kas_item it))) Q (nK κ it p q g):=by
 have su:(u.map (kas_item it)).size=u.size:=Y6;have sv:(v.map (kas_item it)).size=v.size:=Y6;have dn:hdn (u.map (kas_item it)) (v.map (kas_item it)) ((u.extract 0 u.size).reverse.map (kas_item it)) 0 v.size=(v++u).map (kas_item it):=YH.mp (by simp[hdn,W9]);rw[xr];refine Wk (wpS_lift (Y5 ⟨rfl,Wk ?_⟩));dsimp only;rw[su,sv];refine cR (by lia) ?_;have e1:(#[kas_item it (u.getD (u.size - 1) 0)]:AK)=(u.extract (u.size - 1) u.size).reverse.map (kas_item it):=by rw[←Qy (by lia),show u.size - 1+1=u.size by lia];simp
 rw[e1];refine dH (λe=>Wu ?_) λe=>dH (λe'=>Wu ?_) λe'=>?_
 ·have e:u.size - 1=0:=by simpa using e
  rw[e,dn];exact h
 ·have e':v.size=1:=by simpa using e'
  have:∀i,JY (u.map (kas_item it)) (v.map (kas_item it)) ((u.extract i u.size).reverse.map (kas_item it)) i v.size=(v++u).map (kas_item it):=λi=>YH.mp (by simp[JY,W9,uS]);rw[this];exact h
 have e:u.size - 1≠0:=by simpa using e
 refine Wk (wpS_get (Wk (wpS_mono (X4 (I:=λx z st=>x=0/\st=nK κ it p q g/\z=(ah,u.size - 1,v.size,(u.extract (u.size - 1) u.size).reverse.map (kas_item it),g)) (Q:=λz st=>st=nK κ it p q g/\∃y,z=(af ((v++u).map (kas_item it)),y)) ?_ (λz st hz=>by lia) ⟨rfl,rfl,rfl⟩) ?_)))
 ·rintro x z1 st _ g1 ⟨rfl,rfl,rfl⟩;refine Wk (wpS_mono (X4 (I:=λy z st=>st=nK κ it p q g/\∃i ac,z=(ah,i+1,v.size,(u.extract (i+1) u.size).reverse.map (kas_item it),ac,0)/\y+i+2=u.size/\ac<=y)
   (Q:=λz st=>st=nK κ it p q g/\∃y,z=(af ((v++u).map (kas_item it)),y)) ?_ ?_ ⟨rfl,u.size - 2,0,by rw[show u.size - 2+1=u.size - 1 by lia],by lia,WP _⟩) ?_)
  ·rintro y z st _ g2 ⟨rfl,i,ac,rfl,hi,ha⟩;dsimp only;refine Wk (cR (by lia) (Wk (cR (by lia) (Wk (ql hq vN (uN _ (by lia)) ?_)))));rw[hl _ (by lia)];refine Wk (cR (by lia) ?_);rw[show i+1 - 1=i by rfl,Qy (by lia)];refine dH (λe=>Wu ⟨rfl,_,Xk (λz=>(af z,_)) (?_:_=(v++u).map (kas_item it))⟩) λe=>?_
   ·have e:i=0:=by simpa using e
    rw[e,dn]
   have e:i≠0:=by simpa using e
   exact dH (λe=>absurd (show g<=ac+1 from e) (by lia)) λ_=>Wu ⟨rfl,i - 1,_,by rw[show i - 1+1=i by lia],by lia,iX ha⟩
  ·rintro z st ⟨rfl,i,ac,rfl,h1,_⟩;exfalso;lia
  ·rintro z st ⟨rfl,y,rfl⟩;exact Wu ⟨rfl,_,rfl⟩
 ·rintro z st ⟨rfl,y,rfl⟩;exact Wu h
end
def xu(i:Nat):mergeAt' i=(do
  let z ←get
  let(af (x,l,pw),af (y,m,_)):=((pendingOf z)[i]?,(pendingOf z)[i+1]?)|unsupported "internal:list.sort.pending"
  set (setPending z (((pendingOf z).setIfInBounds i (x,l+m,pw)).eraseIdxIfInBounds (i+1)))
  let af k ←gK ay (←elem' (arrOf z) y) (arrOf z) x l 0|return ay
  let(x,l):=(x+k,l - k)
  if l==0 then return ai
  let af m ←gK ai (←elem' (arrOf z) (x+l - 1)) (arrOf z) y m (m - 1)|return ay
  if m==0 then return ai
  let a:=(arrOf z).extract x y
  let b:=(arrOf z).extract y (y+m)
  let r ←if l<=m then oY a b else oZ a b
  modify λs=>setArr s (r.toList.zipIdx.foldl (λa (p,j)=>a.setIfInBounds (x+j) p) (arrOf s))
  return (failedOf (←get)).isNone):=rfl
theorem JC{α:Type}{x:Nat}:∀(l:List α)(c:Nat)(a:Array α),x+c+l.length<=a.size->(l.zipIdx c).foldl (λa (p,j)=>a.setIfInBounds (x+j) p) a=(a.toList.take (x+c)++l++a.toList.drop (x+c+l.length)).toArray
 |[],c,a,h=>by simp|y::l,c,a,h=>by
  rw[ve,wo,JC l (c+1) _ (by simp at h ⊢;lia)];have h:x+c+(l.length+1)<=a.size:=by simpa using h
  rw[Array.toList_setIfInBounds,List.drop_set,if_pos (by exact WD ..),show x+(c+1)+l.length=x+c+(l.length+1) by lia,show x+(c+1)=x+c+1 by rfl,gX (by simp;lia),List.take_set_of_le (Wc _)];simp
section
variable{prog:ck}{w:cy}{A:cK}{E:av->aE->Prop}{s:aE}{κ:SortKind}{it:Array Keyed}{O:KeyOrd}{key:Nat->O.α}{n g:Nat}{p u t:Array Nat}{q:Array (Nat×Nat×Nat)}
def K8{st st':σ}{Q:PUnit->σ->Prop}(h:Q ⟨⟩ st'):wpS M A E s (set st':StateT σ Sem PUnit) Q st:=by unfold wpS;rw[StateT.run_set];exact V8 ⟨rfl,h⟩
def uL(h:i<b - a)(hb:b<=p.size):(p.extract a b).getD i 0=p.getD (a+i) 0:=by
 apply gY
 simp_all
def jd(hb:b<=p.size)(h:x∈(p.extract a b).toList):∃i,a<=i/\i<b/\x=p.getD i 0:=by
 obtain⟨i,hi,rfl⟩:=List.mem_iff_getElem.mp h;have hi:i<b - a:=by simp at hi;lia
 exact⟨a+i,WD ..,by lia,by rw[←uL hi hb,gD (by simp;lia)]⟩
def yh(h1:AO key p 0 l)(h2:AO key p l n)(h:∀i,i<l->O.kle (aK key p i) (aK key p l)):AO key p 0 n:=λi j _ h4 h5=>by
 by_cases hj:j<l
 ·exact h1 i j (WP _) h4 hj
 ·by_cases hi:i<l
  ·exact Yg (h i hi) (h2 l j (Wc _) (by lia) h5)
  ·exact h2 i j (by lia) h4 h5
theorem few:∀{l A:List Nat},l.Nodup->(∀x∈l,x∈A)->l.length<=A.length
 |[],_,_,_=>WP _|x::l,A,nd,h=>by have nd:=Xo.mp nd;have hx:=h x (by simp);have:=few (A:=A.erase x) nd.2 λy hy=>(ko λe:y=x=>nd.1 (e▸hy)).mpr (h y (by simp[hy]));rw[gS hx]at this;have:=iP hx;simp;lia
def GU{O:KeyOrd}(key:Nat->O.α)(n:Nat):Prop:=∀l,(∃A B:List Nat,A.length<=6/\B.length<=6/\∀i j,i<l->l<=j->j<n->O.kle (key j) (key i)->i∈A/\j∈B)/\∀i j i' j',i<l->i'<l->l<=j->j<n->l<=j'->j'<n->O.kle (key j) (key i)->O.kle (key j') (key i')->O.kle (key j') (key i)
set_option maxHeartbeats 1000000 in
def QC(hq:CY prog w A s κ it key n)(hp:aV n p)(l0:0<l)(hl:l<n)(h1:AO key p 0 l)(h2:AO key p l n)(hg:7<=g)(hl1:∀i,i<l->p.getD i 0<l)(U1:GU key n)(h:∀p q g,aV n p->AO key p 0 n->q.size<=1->Q ai (nK κ it p q g)):wpS (model prog w) A E s (mergeAt' 0) Q (nK κ it p #[(0,l,pw),(l,n - l,0)] g):=by
 have hs:=hp.size;have hN:∀k,k<p.size->p.getD k 0<n:=λk hk=>hp.lt (by lia);rw[xu];have q1:((#[(0,l,pw),(l,n - l,0)].setIfInBounds 0 (0,l+(n - l),pw)).eraseIdxIfInBounds (0+1)).size<=1:=by simp[Array.eraseIdxIfInBounds]
 refine Wk (wpS_get (Wk (K8 (Wk (cR (by lia) ?_)))));obtain⟨k,hk,hB⟩:=Jz (left:=ay) (y:=p.getD l 0) (key:=key) (u:=p) (base:=0) (r:=l) λa b h0 h3 h4=>h1 a b h0 h3 (by lia);refine Wk (Dc hq (hN l (by lia)) (by lia) hN l0 hk hB ?_);simp only[WL]at hB;have a1:∀i,i<k->O.kle (aK key p i) (aK key p l):=λi hi=>De (by rw[hB i (by exact Wa hi hk),Xz hi]);have a2:∀i,k<=i->i<l->O.kle (aK key p l) (aK key p i):=λi h3 h4=>Df (by rw[hB i h4,Yv (by exact Nat.not_lt.mpr h3)]);dsimp only;refine dH (λe=>Wu (h p _ g hp (yh h1 h2 λi hi=>a1 i (by have e:l - k=0:=(by simpa using e);lia)) q1)) λe=>?_;have e:l - k≠0:=by simpa using e
 refine Wk (cR (by lia) ?_);rw[show 0+k+(l - k) - 1=l - 1 by lia];obtain⟨m,hm,hB⟩:=Jz (left:=ai) (y:=p.getD (l - 1) 0) (key:=key) (u:=p) (base:=l) (r:=n - l) λa b h0 h3 h4=>h2 a b h0 h3 (by lia);refine Wk (Dc hq (hN (l - 1) (by lia)) (by lia) hN (by lia) hm hB ?_);have b1:∀i,l<=i->i<l+m->O.kle (aK key p i) (aK key p (l - 1)):=λi h3 h4=>by
  have z:=De (show lZ key ai (p.getD (l - 1) 0) p (l+(i - l))=ai by rw[hB (i - l) (by lia),Xz (by lia)])
  rwa [show l+(i - l)=i by lia]at z
 have b2:∀i,l+m<=i->i<n->O.kle (aK key p (l - 1)) (aK key p i):=λi h3 h4=>by
  have z:=Df (show lZ key ai (p.getD (l - 1) 0) p (l+(i - l))=ay by rw[hB (i - l) (by lia),Yv (by lia)])
  rwa [show l+(i - l)=i by lia]at z
 dsimp only;refine dH (λe=>Wu (h p _ g hp (yh h1 h2 λi hi=>Yg (h1 i (l - 1) (WP _) (by lia) (by lia)) (b2 l (by simp_all) hl)) q1)) λe'=>?_;have e':m≠0:=by simpa using e'
 have hkl:k<l:=by lia
 have EB:l+m<=n:=by lia
 have hm0:0<m:=Nat.pos_of_ne_zero e';clear e e' hm hk;have hl2:∀i,l<=i->i<n->l<=p.getD i 0:=λi c1 c2=>by
  refine Ys λz=>?_;have nd:((bX l).map λi=>p.getD i 0).Nodup:=W2.mpr (List.nodup_range.imp_of_mem λ{a c} ha hc z e=>z (hp.inj (by have:=Xy.mp ha;lia) (by have:=Xy.mp hc;lia) e));have:=few (l:=p.getD i 0::(bX l).map λi=>p.getD i 0) (A:=bX l) (Xo.mpr ⟨λz=>?_,nd⟩) λx hx=>?_
  ·simp at this;lia
  ·obtain⟨c,hc,e⟩:=Wn.mp z;have hc:=Xy.mp hc;have:=hp.inj (i:=c) (j:=i) (Ye hc hl) c2 e;lia
  ·rcases We.mp hx with rfl|hx
   ·exact Xy.mpr (by lia)
   ·obtain⟨c,hc,rfl⟩:=Wn.mp hx
    simp_all
 obtain⟨⟨A1,B1,hA,Æ,hc⟩,LI⟩:=U1 l;have LJ:∀a c (A:List Nat),c<=n->(∀i,a<=i->i<c->p.getD i 0∈A)->c - a<=A.length:=λa c A hc hb=>by
  have:=few (l:=(sf a (c - a)).map λi=>p.getD i 0) (A:=A) (W2.mpr ((List.nodup_range' ..).imp_of_mem λ{x y} hx hy z e=>z (hp.inj (by have:=List.mem_range'_1.mp hx;lia) (by have:=List.mem_range'_1.mp hy;lia) e))) λx hx=>by obtain⟨i,hi,rfl⟩:=Wn.mp hx;have:=List.mem_range'_1.mp hi;exact hb i (by lia) (by lia)
  simpa using this
 have k6:l - k<=6:=Wa (LJ k l A1 (Xg hl) λi c1 c2=>(hc _ _ (hl1 i c2) (hl2 l (Wc _) hl) (hp.lt hl) (a2 i c1 c2)).1) hA;have m6:m<=6:=by have:=LJ l (l+m) B1 EB λi c1 c2=>(hc _ _ (hl1 (l - 1) (by lia)) (hl2 i c1 (Wa c2 EB)) (hp.lt (Wa c2 EB)) (b1 i c1 c2)).2;lia
 have x1:∀a b,(p.map (kas_item it)).extract a b=(p.extract a b).map (kas_item it):=λa b=>by simp
 have s1:(p.extract (0+k) l).size=l - k:=by simp;lia
 have s2:(p.extract l (l+m)).size=m:=by simp;lia
 have gu:∀i,i<l - k->(p.extract (0+k) l).getD i 0=p.getD (k+i) 0:=λi hi=>by rw[uL (by lia) (by lia),WL]
 have gv:∀i,i<m->(p.extract l (l+m)).getD i 0=p.getD (l+i) 0:=λi hi=>uL (by lia) (by lia);rw[x1,x1];have pw:∀a b,a<=b->b<=n->AO key p a b->(p.extract a b).toList.Pairwise (kR key):=λa b _ hb hu=>by have z:=(JB (by lia)).mp hu;rw[kB,fF,←List.drop_take];exact z
 have all:∀i j,k<=i->i<l->l<=j->j<l+m->O.kle (aK key p j) (aK key p i):=λi j c1 c2 c3 c4=>LI (p.getD i 0) (p.getD l 0) (p.getD (l - 1) 0) (p.getD j 0) (hl1 i c2) (hl1 _ (by lia)) (hl2 l (Wc _) hl) (hp.lt hl) (hl2 j c3 (Wa c4 EB)) (hp.lt (Wa c4 EB)) (a2 i c1 c2) (b1 j c3 c4)
 have lt:∀i j,k<=i->i<l->l<=j->j<l+m->Cf key (p.getD j 0) (p.getD i 0)=true:=λi j c1 c2 c3 c4=>by
  cases e:Cf key (p.getD j 0) (p.getD i 0)with|true=>rfl|false=>exact(OG hq hp (i:=i) (j:=j) (Ye c2 hl) (Wa c4 EB) (by lia) e (all i j c1 c2 c3 c4)).elim
 have fin:∀(q:Array (Nat×Nat×Nat))(g:Nat),q.size<=1->wpS (model prog w) A E s (do
   modify λs=>setArr s (((p.extract l (l+m)++p.extract (0+k) l).map (kas_item it)).toList.zipIdx.foldl (λa (p,j)=>a.setIfInBounds (0+k+j) p) (arrOf s))
   return (failedOf (←get)).isNone) Q (nK κ it p q g):=by
  intro q g hq1;have t2:(p.extract l (l+m)++p.extract (0+k) l).toList.Perm ((p.extract (0+k) l).toList++(p.extract l (l+m)).toList):=by rw[YC];exact YZ
  have t1:(p.extract l (l+m)++p.extract (0+k) l).toList.Pairwise (kR key):=by rw[YC,Yw];refine⟨pw _ _ (WD ..) EB λi j c1 c2 c3=>h2 i j c1 c2 (Wa c3 EB),pw _ _ (by lia) (Xg hl) λi j c1 c2 c3=>h1 i j (WP _) c2 c3,λx hx y hy=>?_⟩;obtain⟨j,c3,c4,rfl⟩:=jd (by lia) hx;obtain⟨i,c1,c2,rfl⟩:=jd (by lia) hy;exact all i j (by lia) c2 c3 c4
  generalize p.extract l (l+m)++p.extract (0+k) l=t at t1 t2;have st:t.size=l - k+m:=by have:=t2.length_eq;simp only[WK,Xh,s1,s2]at this;exact this
  refine Wk (wpS_modify (Wk (wpS_get (Wu ?_))));have e:((t.map (kas_item it)).toList.zipIdx 0).foldl (λa (p,j)=>a.setIfInBounds (0+k+j) p) (p.map (kas_item it))=(p.extract 0 k++t++p.extract (l+m) n).map (kas_item it):=by rw[JC _ _ _ (by simp;lia)];apply YH.mp;simp[hs,st,show k+(l - k+m)=l+m by lia,fF];exact(W9 (by simp;lia)).symm
  rw[show setArr (nK κ it p q g) (((t.map (kas_item it)).toList.zipIdx 0).foldl (λa (p,j)=>a.setIfInBounds (0+k+j) p) (p.map (kas_item it)))=nK κ it (p.extract 0 k++t++p.extract (l+m) n) q g from Xk (λz=>SortSt.mk' κ z q g ah) e];have ep:p.toList=(p.extract 0 k).toList++((p.extract (0+k) l).toList++(p.extract l (l+m)).toList)++(p.extract (l+m) n).toList:=by
   have sp:∀a b,a<=b->p.toList.drop a=(p.extract a b).toList++p.toList.drop b:=λa b h=>by rw[kB,fF,show p.toList.drop b=(p.toList.drop a).drop (b - a) by simp_all,oS]
   have z:=sp 0 k (WP _);rw[sp k l (by exact Xg hkl),sp l (l+m) (by exact WD ..),sp (l+m) n (by exact EB),List.drop_eq_nil_of_le (i:=n) (by simp;exact kX hs)]at z;simpa using z
  have pm:(p.extract 0 k++t++p.extract (l+m) n).toList.Perm p.toList:=by rw[YC,YC,ep];exact(i9 _ t2).append_right _
  have hp':aV n (p.extract 0 k++t++p.extract (l+m) n):=(X5.mpr pm).trans hp;refine h _ q g hp' ((JB (by rw[hp'.size];simp)).mpr ?_) hq1;rw[W9 (by rw[Xh,hp'.size];simp),r9,YC,YC,Yw,Yw];have mt:∀x∈t.toList,∃i,k<=i/\i<l+m/\x=p.getD i 0:=λx hx=>by
   rcases Xa.mp (t2.mem_iff.mp hx)with hx|hx
   ·obtain⟨i,c1,c2,c3⟩:=jd (by lia) hx;exact⟨i,by lia,by lia,c3⟩
   ·obtain⟨i,c1,c2,c3⟩:=jd (by lia) hx;exact⟨i,by lia,c2,c3⟩
  refine⟨⟨pw 0 k (WP _) (by lia) λi j c1 c2 c3=>h1 i j c1 c2 (Ye c3 hkl),t1,λx hx y hy=>?_⟩,pw _ _ EB (Wc _) λi j c1 c2 c3=>h2 i j (by lia) c2 c3,λx hx y hy=>?_⟩
  ·obtain⟨i,c1,c2,rfl⟩:=jd (by lia) hx;obtain⟨j,d1,d2,rfl⟩:=mt y hy;by_cases hj:j<l
   ·exact h1 i j c1 (by lia) hj
   ·exact Yg (a1 i c2) (h2 l j (Wc _) (by lia) (Wa d2 EB))
  ·obtain⟨j,d1,d2,rfl⟩:=jd (by lia) hy;have hi:∃i,i<l+m/\x=p.getD i 0:=by
    rcases Xa.mp hx with hx|hx
    ·obtain⟨i,c1,c2,c3⟩:=jd (by lia) hx;exact⟨i,by lia,c3⟩
    ·obtain⟨i,c1,c2,c3⟩:=mt x hx;exact⟨i,c2,c3⟩
   obtain⟨i,c1,rfl⟩:=hi;by_cases hi:i<l
   ·exact Yg (h1 i (l - 1) (WP _) (by lia) (by lia)) (b2 j d1 d2)
   ·exact h2 i j (by lia) (by lia) d2
 have uN:∀i,i<(p.extract (0+k) l).size->(p.extract (0+k) l).getD i 0<n:=λi hi=>by rw[gu i (by lia)];exact hN _ (by lia)
 have vN:∀i,i<(p.extract l (l+m)).size->(p.extract l (l+m)).getD i 0<n:=λi hi=>by rw[gv i (by lia)];exact hN _ (by lia)
 refine dH (λc=>Wk (Qz hq (uN 0 (by lia)) vN (by lia) (by lia) (by lia) hg (λj hj=>?_) (fin _ g q1))) λc=>Wk (QB hq (vN _ (by lia)) uN (by lia) (by lia) (by lia) hg (λi hi=>?_) (fin _ g q1))
 ·rw[gv j (by lia),gu 0 (by lia)];exact lt _ _ (Wc _) hkl (WD ..) (by lia)
 ·rw[gv _ (by lia),gu i (by lia)];exact lt _ _ (WD ..) (by lia) (WD ..) (by lia)
end
def T8(h2:2<=n)(h:n<128):minRun' n n 0<=n/\n<=2*minRun' n n 0/\(n<64->minRun' n n 0=n):=by
 obtain⟨f,rfl⟩:∃f,n=f+2:=⟨n - 2,by lia⟩
 rw[show minRun' (f+2) (f+2) 0=if f+2<64 then f+2+0 else if(f+2)/2<64 then(f+2)/2+max 0 ((f+2) % 2)else minRun' f ((f+2)/2/2) (max (max 0 ((f+2) % 2)) ((f+2)/2 % 2))from rfl];split
 ·lia
 ·rw[if_pos (by lia)];lia
section
variable{prog:ck}{w:cy}{A:cK}{E:av->aE->Prop}{s:aE}{κ:SortKind}{it:Array Keyed}{O:KeyOrd}{key:Nat->O.α}{n g:Nat}{p:Array Nat}
def E5(κ:SortKind)(it:Array Keyed)(key:Nat->O.α)(n:Nat)(st:SortSt):Prop:=∃p l pw,st=nK κ it p #[(0,l,pw),(l,n - l,0)] 7/\aV n p/\0<l/\l<n/\AO key p 0 l/\AO key p l n/\64<=n/\∀i,i<l->p.getD i 0<l
def One(κ:SortKind)(it:Array Keyed)(key:Nat->O.α)(n:Nat)(st:SortSt):Prop:=∃p g q,st=nK κ it p q g/\aV n p/\AO key p 0 n/\q.size<=1
def K9(hq:CY prog w A s κ it key n)(hp:aV n p)(hid:∀i,i<n->p.getD i 0=i)(h2:2<=n)(OH:n<128)(hN:64<=n->GU key n)(h:∀p q g,aV n p->AO key p 0 n->Q () (nK κ it p q g)):
  wpS (model prog w) A E s sortRuns' Q (nK κ it p #[] 7):=by
 obtain⟨m1,m2,m3⟩:=T8 h2 OH;rw[sortRuns'_eq];refine Wk (wpS_get ?_);dsimp only;rw[show(p.map (kas_item it)).size=n by rw[Y6,hp.size]];generalize minRun' n n 0=mr at m1 m2 m3;refine Wk (wpS_mono (X4 (I:=λx c st=>(x=0/\c=(ah,0)/\st=nK κ it p #[] 7)\/(x=1/\∃l p,c=(ah,l)/\st=nK κ it p #[(0,l,0)] 7/\aV n p/\0<l/\l<=n/\mr<=l/\AO key p 0 l/\∀i,i<l->p.getD i 0<l)\/(x=2/\c=(ah,n)/\E5 κ it key n st))
  (Q:=λc st=>c=(ah,n)/\(One κ it key n st\/E5 κ it key n st)) ?_ ?_ (.inl ⟨rfl,rfl,rfl⟩)) ?_)
 ·rintro x c st _ hx (⟨rfl,rfl,rfl⟩|⟨rfl,l,p,rfl,rfl,hp,l0,hl,hm,hu,hlow⟩|⟨rfl,rfl,h⟩)
  ·dsimp only;rw[if_neg (by lia)];have low:∀p' m,aV n p'->(∀i,m<=i->i<n->p'.getD i 0=i)->∀i,i<m->i<n->p'.getD i 0<m:=λp' m hp' hs i c1 c2=>Ys λz=>by
    have:=hp'.lt c2;have:=hp'.inj (i:=i) (j:=p'.getD i 0) c2 this (hs _ (by lia) this).symm;lia
   refine Wk (uK hq (by simp) hx hp λp1 m hp1 hb c1 c2 c3=>dH (λe=>Wk (wpS_lift (Y5 ⟨rfl,Wk (CZ hq (by lia) c1 (by lia) hp1 c3 λp2 hp2 hb2 c3=>?_)⟩))) λe=>?_)
   ·generalize em:min (n - 0) mr=m at*;refine Wk (wpS_get (Wk (wpS_modify (Wu (.inr (.inl ⟨rfl,m,p2,by rw[WL],rfl,hp2,by lia,by lia,by lia,by rw[WL]at c3;exact c3,λi hi=>low p2 m hp2 (λi c1 c2=>by rw[hb2 i (by lia),hb i (by lia),hid i c2]) i hi (by lia)⟩))))))
   ·refine Wk (wpS_get (Wk (wpS_modify (Wu (.inr (.inl ⟨rfl,m,p1,by rw[WL],rfl,hp1,c1,c2,by lia,by rw[WL]at c3;exact c3,λi hi=>low p1 m hp1 (λi c1 c2=>by rw[hb i (by lia),hid i c2]) i hi (Wa hi c2)⟩))))))
  ·dsimp only;by_cases e:l>=n
   ·rw[if_pos e];have e:l=n:=by lia
    subst e;exact Wu ⟨rfl,.inl ⟨p,7,_,rfl,hp,hu,Wc 1⟩⟩
   ·rw[if_neg e];refine Wk (uK hq (by lia) (by lia) hp λp1 m hp1 hb c1 c2 c3=>dH (λe=>Wk (wpS_lift (Y5 ⟨rfl,Wk (CZ hq (by lia) c1 (by lia) hp1 c3 λp2 hp2 hb2 c3=>?_)⟩))) λe=>?_)
    all_goals
     rename Array Nat=>pz
     rename aV n pz=>hpz
     have hs:∀i,i<l->pz.getD i 0=p.getD i 0:=by first|exact λi hi=>(hb2 i (.inl hi)).trans (hb i (.inl hi))|exact λi hi=>hb i (.inl hi)
     first|(have em:min (n - l) mr=n - l:=(by lia);rw[em]at c3 ⊢)|(have em:m=n - l:=(by lia);subst em)
     have hu1:AO key pz 0 l:=hu.same λk hk=>by rw[aK,aK,hs k hk]
     have LL:∀i,i<l->pz.getD i 0<l:=λi hi=>by rw[hs i hi];exact hlow i hi
     rw[show l+(n - l)=n by lia]at c3;refine Wk (wpS_get (Wk (wpS_mono (X4 (I:=λ_ c st=>c=(ah,())/\st=nK κ it pz #[(0,l,0)] 7) (Q:=λc st=>c=(ah,())/\st=nK κ it pz #[(0,l,0)] 7) ?_ (λ_ _ z=>z) ⟨rfl,rfl⟩) ?_)))
     ·rintro x c st _ _ ⟨rfl,rfl⟩;exact Wk (wpS_get (Wu ⟨rfl,rfl⟩))
     ·rintro c st ⟨rfl,rfl⟩;refine Wk (wpS_modify (Wk (wpS_modify (Wu (.inr (.inr ⟨rfl,by rw[show l+(n - l)=n by lia],pz,l,power' n (2*0+l) (2*0+l+l+(n - l)) n,?_,hpz,l0,by lia,hu1,c3,Ys λz=>by have:=m3 (by lia);lia,LL⟩))))));refine Xk (λz=>SortSt.mk' κ (pz.map (kas_item it)) z 7 ah) ?_;simp[Array.modify,Array.modifyM];rfl
  ·dsimp only;rw[if_pos (Wc _)];exact Wu ⟨rfl,.inr h⟩
 ·rintro c st (⟨e,_⟩|⟨e,_⟩|⟨e,rfl,h⟩)
  ·lia
  ·lia
  ·exact⟨rfl,.inr h⟩
 ·rintro c st ⟨rfl,hO⟩;refine Wk (wpS_mono (X4 (I:=λx c st=>c=(ah,())/\(One κ it key n st\/x=0/\E5 κ it key n st)) (Q:=λc st=>c=(ah,())/\One κ it key n st) ?_ ?_ ⟨rfl,hO.imp id λh=>⟨rfl,h⟩⟩) ?_)
  ·rintro x c st _ _ ⟨rfl,⟨p,g,q,rfl,hp,hu,hz⟩|⟨rfl,p,l,pw,rfl,hp,l0,hl,h1,h2,h64,hlow⟩⟩
   ·refine Wk (wpS_get ?_);rw[if_pos hz];exact Wu ⟨rfl,p,g,q,rfl,hp,hu,hz⟩
   ·refine Wk (wpS_get (Wk (QC hq hp l0 hl h1 h2 (Wc _) hlow (hN h64) λp q g c1 c2 c3=>Wu ⟨rfl,.inl ⟨p,g,q,rfl,c1,c2,c3⟩⟩)))
  ·rintro c st ⟨rfl,h|⟨e,_⟩⟩
   ·exact⟨rfl,h⟩
   ·lia
  ·rintro c st ⟨rfl,p,g,q,rfl,hp,hu,_⟩;exact Wu (h p q g hp hu)
end
section
variable{prog:ck}{w:cy}{A:cK}{E:av->aE->Prop}{s:aE}{O:KeyOrd}{key:Nat->O.α}
def Up(key:Nat->O.α)(p:Array Nat)(m:Nat):Prop:=∀i j,i<=j->j<m->O.kle (aK key p i) (aK key p j)
def Keeps(h h':dc):Prop:=∀b o,h.get? b=af o->h'.get? b=af o
def uM(hk0:Keeps h0 s.heap)(ha0:h0.get? a=ah)(ho:s.heap.get? a=af (seqObj "list" vs.toArray n))(h64:vs.length<128)(hinj:∀i j,i<vs.length->j<vs.length->key i=key j->i=j)(hN:64<=vs.length->GU key vs.length)(hkind:2<=vs.length->∀h' (Q:SortKind->aE->Prop),Keeps h0 h'->Q κ {s with heap:=h'}->bg (model prog w) A (keyKind' vs.toArray) Q E {s with heap:=h'})(hlt:∀h' i j (C:Bool->aE->Prop),Keeps h0 h'->i<vs.length->j<vs.length->C (Cf key i j) {s with heap:=h'}->bg (model prog w) A (keyLt' κ (vs.getD i .none) (vs.getD j .none)) C (λ_ _=>False) {s with heap:=h'})(h:∀p:Array Nat,aV vs.length p->Up key p vs.length->P (.done (.ret .none)) {s with heap:=sortedHeap s.heap a vs (p.map λi=>vs.getD i .none)}):bg (model prog w) A (Builtin.«list.sort» ⟨[.ref a],[]⟩) P E s:=by
 have hal:a<s.heap.objs.size:=Wg ho;have hle:vs.toArray.size<=sizeLine:=by rw[W6,WX];lia
 rw[list_sort_plain];refine My (listItems_at ho rfl (My (listUpdate_at ho rfl ?_ hle (by simp))));obtain⟨c,hc⟩:∃c,(s.heap.update a (Obj.mapSeq λ_=> #[])).get? a=af (seqObj "list" #[] c):=⟨_,get?_update_seq ho λ_=> #[]⟩
 refine My (seqEpoch_at hc rfl (My (wpAny_newTuple (My (Ze (Xl ?_))) (by rw[W6];simpa using Xg (Ye h64 (by decide))))));obtain⟨hh,E6⟩:∃hh,hh=((s.heap.update a (Obj.mapSeq λ_=>(#[]:Array av))).push (seqObj "tuple" vs.toArray 0)).push (seqObj "list" #[] 0):=⟨_,rfl⟩
 have hc2:hh.get? a=af (seqObj "list" #[] c):=by rw[E6];exact V9 _ (V9 _ hc)
 have keep:Keeps h0 hh:=λb o e=>by
  have hb:b≠a:=λz=>by rw[z,ha0]at e;cases e
  rw[E6];refine V9 _ (V9 _ ?_);rw[Heap.get?_update_ne _ _ _ _ hb];exact hk0 b o e
 show bg (model prog w) A _ P E {s with heap:=((s.heap.update a (Obj.mapSeq λ_=>(#[]:Array av))).push (seqObj "tuple" vs.toArray 0)).push (seqObj "list" #[] 0)};rw[←E6];dsimp only;have done:∀(p:Array Nat)(arr:Array Keyed),aV vs.length p->Up key p vs.length->arr=p.map (kas_item (pairsOf vs))->P (.done (.ret .none)) {s with heap:=hh.update a (Obj.mapSeq λ_=>arr.map (·.2))}:=by
  intro p arr h1 h2 e;have e2:arr.map (·.2)=p.map λi=>vs.getD i .none:=by rw[e,Array.map_map];congr 1;funext i;exact Xk Prod.snd (kas_item_eq vs i)
  rw[e2,E6];exact h p h1 h2
 have fits:∀(p:Array Nat)(arr:Array Keyed),aV vs.length p->arr=p.map (kas_item (pairsOf vs))->(arr.map (·.2)).size<=aS+1:=by intro p arr h1 e;rw[e,Y6,Y6,h1.size,W6];exact Zm hle
 have hpz:=pairsOf_size vs;have start:(bX vs.length).toArray.map (kas_item (pairsOf vs))=pairsOf vs:=by rw[←hpz];exact kas_range _
 by_cases h2:vs.toArray.size<2
 ·rw[if_pos h2,if_pos h2];refine My (V8 ?_);rw[StateT.run_pure];refine My (V8 ?_);dsimp only;have hP:aV vs.length (bX vs.length).toArray:=xh _;have e3:vs.toArray.zip vs.toArray=(bX vs.length).toArray.map (kas_item (pairsOf vs)):=start.symm;refine My (seqEpoch_at hc2 rfl (My (listUpdate_at hc2 rfl ?_ (WP _) (fits _ _ hP e3))));simp only[bne_self_eq_false,Wt,Xd];refine V8 (done _ _ hP (λi j hij hj=>?_) e3);have:i=j:=by rw[WX]at h2;lia
  subst this;exact YW _
 ·rw[if_neg h2,if_neg h2];rw[WX]at h2;refine My (hkind (by lia) hh _ keep ?_);have run:=K9 (prog:=prog) (w:=w) (A:=A) (E:=E) (s:={s with heap:=hh}) (κ:=κ) (it:=pairsOf vs) (key:=key) (n:=vs.length) (p:=(bX vs.length).toArray) (Q:=λ_ st=>failedOf st=ah/\∃p,arrOf st=p.map (kas_item (pairsOf vs))/\aV vs.length p/\Up key p vs.length)
   ⟨λi j C hi hj hC=>by
    rw[kas_item_eq,kas_item_eq];exact hlt hh i j C keep hi hj hC,hinj⟩ (xh _) (λi hi=>by simp[ku,hi]) (by lia) h64 hN λp q g h1 h2=>⟨rfl,p,rfl,h1,λi j=>h2 i j (WP _)⟩
  unfold wpS nK at run;rw[start]at run;refine My (Xw run (λr s' hr=>?_) λ_ _ e=>e);obtain⟨⟨⟩,st'⟩:=r;obtain⟨rfl,hf,p,e,hP,hU⟩:=hr;dsimp only;refine My (seqEpoch_at hc2 rfl (My (listUpdate_at hc2 rfl ?_ (WP _) (fits p _ hP e))));rw[hf];simp only[bne_self_eq_false,Wt,Xd];exact V8 (done p _ hP hU e)
def Ad(hl:s.heap.IsList l vs.toArray)(h64:vs.length<128)(hinj:∀i j,i<vs.length->j<vs.length->key i=key j->i=j)(hN:64<=vs.length->GU key vs.length)(hkind:2<=vs.length->∀(A:cK)(E:av->aE->Prop) h' (Q:SortKind->aE->Prop),Keeps s.heap h'->Q κ {s with heap:=h'}->bg (model prog w) A (keyKind' vs.toArray) Q E {s with heap:=h'})(hlt:∀h' i j (C:Bool->aE->Prop),Keeps s.heap h'->i<vs.length->j<vs.length->C (Cf key i j) {s with heap:=h'}->bg (model prog w) A.in1.in1 (keyLt' κ (vs.getD i .none) (vs.getD j .none)) C (λ_ _=>False) {s with heap:=h'})(h:∀p:Array Nat,aV vs.length p->Up key p vs.length->Q (.ref (s.heap.objs.size+1)) {s with heap:=sortedAll s.heap vs (p.map λi=>vs.getD i .none)}):bg (model prog w) A (call (.builtin "sorted") [.ref l]) Q E s:=by
 have hle:vs.length<=sizeLine:=by rw[W6];lia
 refine Yr kind_sorted plain_sorted entry_sorted (args_sorted1 _) ?_;unfold Builtin.«sorted»;refine My (m:=checkCount "sorted" 1 1 _) (V8 (My (collect_list hl (My (Ze ?_ hle)) hle)));have hz:((s.heap.push (seqObj "list" #[] 0)).update s.heap.objs.size (Obj.mapSeq (·++vs.toArray))).objs.size=s.heap.objs.size+1:=(Heap.size_update ..).trans (size_push' ..);obtain⟨hh,E6⟩:∃hh,hh=((s.heap.push (seqObj "list" #[] 0)).update s.heap.objs.size (Obj.mapSeq (·++vs.toArray))).push (seqObj "list" vs.toArray 0):=⟨_,rfl⟩
 have hat:hh.get? (s.heap.objs.size+1)=af (seqObj "list" vs.toArray 0):=by rw[E6,←hz];exact Wf _ rfl
 have keep:Keeps s.heap hh:=λb o e=>by have hb:b<s.heap.objs.size:=Wg e;rw[E6];refine V9 _ ?_;rw[Heap.get?_update_ne _ _ _ _ (Wo hb)];exact V9 _ e
 show bg _ _ _ _ _ {s with heap:=((s.heap.push (seqObj "list" #[] 0)).update s.heap.objs.size (Obj.mapSeq (·++vs.toArray))).push (seqObj "list" vs.toArray 0)};rw[hz,←E6];refine My (Xl (WY slot_list_sort ⟨_,hat,rfl⟩ entry_list_sort ?body (args_list_sort _)));refine uM (s:={s with heap:=hh}) (κ:=κ) (key:=key) (h0:=s.heap) keep (Heap.get?_none_of_le (Yo _)) hat h64 hinj hN (λh2 h' Q' k q=>hkind h2 _ _ h' Q' k q) (λh' i j C k hi hj hC=>hlt h' i j C k hi hj hC) λp h1 h2=>⟨_,rfl,?_⟩
 have q:=h p h1 h2;unfold sortedAll at q;rw[←E6]at q;exact V8 ⟨_,rfl,q⟩
end
end RK
namespace RK
open PySem L2 PySem.SeqAt PyProof.Rows PySem.W
section
variable{prog:ck}{w:cy}{A:cK}{s:aE}{Q:Bool->aE->Prop}
theorem o4:∀(us vs:List av)(ns ms:List Int)(i:Nat)(fin:Bool),IntsAre us ns->IntsAre vs ms->fin=decide (ns.length<ms.length)->Q (lexLt ns ms) s->KatLex prog w A b fin Q (us.zip vs) i s
 |[],[],ns,ms,i,fin,h1,h2,hf,q=>by cases h1;cases h2;rw[hf];exact q|[],v::vs,ns,ms,i,fin,h1,h2,hf,q=>by cases h1;cases h2;rw[hf];exact q|u::us,[],ns,ms,i,fin,h1,h2,hf,q=>by cases h2;cases h1;rw[hf];exact q|u::us,v::vs,ns,ms,i,fin,h1,h2,hf,q=>by
  cases h1 with
  |cons n t r1=>
   cases h2 with
   |cons m t' r2=>
    rename_i ns' ms';refine kat_cons (wpAny_eqBool_int ?_);unfold lexLt at q;by_cases e:n=m
    ·subst e;rw[if_pos rfl]at q;rw[show(n==n)=ai by simp];refine kat_yes (o4 us vs ns' ms' (i+1) fin r1 r2 ?_ q);rw[hf];simp
    ·rw[if_neg e]at q;rw[show(n==m)=ay by simpa using e];refine kat_no ?_;cases hb:(b && i==0)with|true=>exact oneLt_int q|false=>exact kat_one _ _ (lt_int q)
end
def CellsAre:Bool->List av->List Int->Prop
 |false,us,ns=>IntsAre us ns|true,us,ns=>∃a t c u r ms,us= .int a t:: .str (word c) u::r/\ns=a::c::ms/\(c=0\/c=1)/\IntsAre r ms
def LM(mx:Bool)(r:List Int):Prop:=mx=ai->∃a c ms,r=a::c::ms/\(c=0\/c=1)
def BC(mx:Bool)(r:List Int):List V:=match mx with
 |false=>r.map V.int|true=>match r with
  |[]=> []|a::s=>match s with
   |[]=> []|c::ns=> .int a:: .str (word c)::ns.map V.int
theorem CellsAre.len:∀{mx:Bool}{us:List av}{ns:List Int},CellsAre mx us ns->us.length=ns.length
 |false,us,ns,h=>IntsAre.length h|true,us,ns,h=>by obtain⟨a,t,c,u,r,ms,rfl,rfl,_,h⟩:=h;simp[IntsAre.length h]
theorem CellsAre.first:∀{mx:Bool}{us:List av}{z:Int}{zs:List Int},CellsAre mx us (z::zs)->∃t r,us= .int z t::r
 |false,us,z,zs,h=>by
  cases us with
  |nil=>cases h|cons u us=>cases h with|cons _ t _=>lia
 |true,us,z,zs,h=>by
  obtain⟨a,t,c,u,r,ms,rfl,e,_,h⟩:=h
  simp_all
theorem G7:∀{mx:Bool}{ns:List Int}{us:List av},LM mx ns->Vals (BC mx ns) us->CellsAre mx us ns
 |false,ns,us,_,h=>intsAre_of h|true,ns,us,o,h=>by
  obtain⟨a,c,ms,rfl,hc⟩:=o rfl;cases h with
  |cons h1 h=>
   cases h with
   |cons h2 h=>obtain⟨t,rfl⟩:=h1;obtain⟨u,rfl⟩:=h2;exact⟨a,t,c,u,_,ms,rfl,rfl,hc,intsAre_of h⟩
theorem Dg:∀{mx:Bool}{us vs:List av}{ns ms:List Int}{fin:Bool},CellsAre mx us ns->CellsAre mx vs ms->fin=decide (ns.length<ms.length)->Q (lexLt ns ms) s->KatLex prog w A b fin Q (us.zip vs) 0 s
 |false,us,vs,ns,ms,fin,h1,h2,hf,q=>o4 us vs ns ms 0 fin h1 h2 hf q|true,us,vs,ns,ms,fin,h1,h2,hf,q=>by
  obtain⟨a,t,c,u,r,ns,rfl,rfl,hc,h1⟩:=h1;obtain⟨a',t',c',u',r',ms,rfl,rfl,hc',h2⟩:=h2;refine kat_cons (wpAny_eqBool_int ?_);unfold lexLt at q;by_cases e:a=a'
  ·subst e;rw[if_pos rfl]at q;rw[show(a==a)=ai by simp];refine kat_yes (kat_cons (wpAny_eqBool_str ?_));unfold lexLt at q;by_cases ec:c=c'
   ·subst ec;rw[if_pos rfl]at q;rw[Xz rfl];exact kat_yes (o4 r r' ns ms 2 fin h1 h2 (by rw[hf];simp) q)
   ·rw[if_neg ec]at q;have ew:word c≠word c':=by
     rcases hc with rfl|rfl<;>rcases hc' with rfl|rfl<;>first|exact absurd rfl ec|decide
    rw[Yv ew];refine kat_no ?_;rw[show(b && 0+1==0)=ay by lia];refine kat_one _ _ (lt_str ?_);have el:decide ((word c).cps.toList<(word c').cps.toList)=decide (c<c'):=by rcases hc with rfl|rfl<;>rcases hc' with rfl|rfl<;>first|rfl|decide
    rw[el];exact q
  ·rw[if_neg e]at q;rw[show(a==a')=ay by simpa using e];refine kat_no ?_;cases hb:(b && 0==0)with|true=>exact oneLt_int q|false=>exact kat_one _ _ (lt_int q)
def dY(K:aT)(H:Hp)(mx:Bool):List V->List (List Int)->Prop
 |[],[]=>True|v::vs,r::rs=>(∃a,v= .ref a/\tP K H a (BC mx r)/\LM mx r)/\dY K H mx vs rs|_,_=>False
section
variable{K:aT}{H:Hp}{m:List aI}{mx:Bool}
theorem dY.len:∀{vs:List V}{rs:List (List Int)},dY K H mx vs rs->vs.length=rs.length
 |[],[],_=>rfl|v::vs,r::rs,h=>by simp[dY.len h.2]|[],_::_,h=>h.elim|_::_,[],h=>h.elim
theorem dY.get:∀{vs:List V}{rs:List (List Int)}{i:Nat}(h:dY K H mx vs rs)(h1:i<vs.length)(h2:i<rs.length),∃a,vs[i]= .ref a/\tP K H a (BC mx rs[i])/\LM mx rs[i]
 |v::vs,r::rs,0,h,_,_=>h.1|v::vs,r::rs,i+1,h,h1,h2=>by simp only[nS];exact dY.get h.2 (by simpa using h1) (by simpa using h2)|[],[],i,h,h1,h2=>by simp at h1|[],_::_,_,h,_,_=>h.elim|_::_,[],_,h,_,_=>h.elim
theorem o5:∀{vs:List V}{rs:List (List Int)},vs.length=rs.length->(∀i (h1:i<vs.length) (h2:i<rs.length),∃a,vs[i]= .ref a/\tP K H a (BC mx rs[i])/\LM mx rs[i])->dY K H mx vs rs
 |[],[],_,_=>trivial
 |v::vs,r::rs,hl,h=>⟨h 0 (by simp) (by simp),o5 (by simpa using hl) λi h1 h2=>by
   have:=h (i+1) (by simpa using h1) (by simpa using h2);simpa using this⟩
 |[],_::_,hl,_=>by simp at hl|_::_,[],hl,_=>by simp at hl
theorem uO{X:Cx}:∀{ds:List D}{vs:List V}{rs:List (List Int)},f7 X.K m H ds vs->dz ds=af rs->dY X.K H ay vs rs
 |[],vs,rs,h,e=>by
  have:rs=[]:=by simpa[dz]using e
  subst this;rw[h.nil_of];trivial
 |d::ds,vs,rs,h,e=>by
  obtain⟨v,r,rfl,h1,h2⟩:=h.cons_of;cases d with
  |tup es=>
   simp only[dz]at e;cases e1:aY es with
   |none=>simp_all|some ns=>
    cases e2:dz ds with
    |none=>simp_all|some rs'=>
     rw[e1,e2]at e;cases ns with
     |nil=>simp at e|cons n ns=>
      have e3:(n::ns)::rs'=rs:=by simpa using e
      subst e3;obtain⟨a,us,rfl,hq,rd⟩:=cW h1;have e4:=gA e1;subst e4;have e5:=dN (X:=X) rd;subst e5;exact⟨⟨a,rfl,hq,λz=>by cases z⟩,uO h2 e2⟩
  |_=>simp[dz]at e
theorem uP:∀{ds:List D}{rs:List (List Int)},dz ds=af rs->∀r∈rs,r≠ []
 |[],rs,e,r,hr=>by
  have:rs=[]:=by simpa[dz]using e
  simp_all
 |d::ds,rs,e,r,hr=>by
  cases d with
  |tup es=>
   simp only[dz]at e;cases e1:aY es with
   |none=>simp_all|some ns=>
    cases e2:dz ds with
    |none=>simp_all|some rs'=>
     rw[e1,e2]at e;cases ns with
     |nil=>simp at e|cons n ns=>
      have e3:(n::ns)::rs'=rs:=by simpa using e
      subst e3;rcases We.mp hr with rfl|hr
      ·simp
      ·exact uP e2 r hr
  |_=>simp[dz]at e
theorem mj{X:Cx}:∀{vs:List V}{rs:List (List Int)},dY X.K H ay vs rs->f7 X.K m H (rs.map dh) vs
 |[],[],_=> .nil|v::vs,r::rs,h=>by obtain⟨a,rfl,hq,_⟩:=h.1;exact .cons (jc hq cX) (mj h.2)
 |[],_::_,h=>h.elim|_::_,[],h=>h.elim
def La(h:uF d=af r):∃a c ns,r=a::c::ns/\(c=0\/c=1)/\d= .tup (.int a:: .str (word c)::ns.map .int):=by
 unfold uF at h;split at h
 ·rename_i es;split at h
  ·cases h
  ·rename_i x s;split at h
   ·cases h
   ·rename_i y r';split at h
    ·rename_i a;split at h
     ·rename_i w;cases ec:zU w with
      |none=>simp_all|some c=>rw[ec]at h;obtain⟨ns,e1,e2⟩:=XN.mp h;subst e2;have e4:=gA e1;subst e4;unfold zU at ec;lia
     ·cases h
    ·cases h
 ·cases h
theorem sV{X:Cx}:∀{ds:List D}{vs:List V}{rs:List (List Int)},f7 X.K m H ds vs->jm ds=af rs->dY X.K H ai vs rs/\∀r∈rs,r≠ []
 |[],vs,rs,h,e=>by
  have:rs=[]:=by simpa[jm]using e
  subst this;rw[h.nil_of];exact⟨trivial,λr hr=>by cases hr⟩
 |d::ds,vs,rs,h,e=>by
  obtain⟨v,r,rfl,h1,h2⟩:=h.cons_of;simp only[jm]at e;cases e1:uF d with
  |none=>simp_all|some x=>
   rw[e1]at e;obtain⟨rs',e2,e3⟩:=XN.mp e;subst e3;obtain⟨a,c,ns,rfl,hc,rfl⟩:=La e1;obtain⟨p,us,rfl,hq,rd⟩:=cW h1;obtain⟨w1,r1,rfl,g1,U'⟩:=rd.cons_of;obtain⟨w2,r2,rfl,g2,VA⟩:=U'.cons_of;cases gx g1;have g2:w2= .str (word c):=g2;subst g2;have e5:=dN (X:=X) VA;subst e5;obtain⟨q1,q2⟩:=sV h2 e2;exact⟨⟨⟨p,rfl,hq,λ_=>⟨a,c,ns,rfl,hc⟩⟩,q1⟩,λr hr=>by
    grind⟩
theorem sX{X:Cx}:∀{vs:List V}{rs:List (List Int)},dY X.K H ai vs rs->f7 X.K m H (rs.map aG) vs
 |[],[],_=> .nil|v::vs,r::rs,h=>by obtain⟨a,rfl,hq,o⟩:=h.1;obtain⟨x,c,ms,rfl,_⟩:=o rfl;exact .cons (jc hq (.cons cj (.cons (show RD X.K m H (.str _) _ from rfl) cX))) (sX h.2)
 |[],_::_,h=>h.elim|_::_,[],h=>h.elim
end
theorem sY:∀{us fs:List av}{rs:List (List Int)},(∀i (h1:i<us.length),∃a o xs n,us[i]= .ref a/\h.get? a=af o/\o.cls= .type "tuple" /\o.data= .seq xs n/\∃f,fs[i]?=af f/\xs[0]?=af f)->us.length=fs.length->KatTups h us fs
 |[],[],rs,_,_=> .nil|u::us,f::fs,rs,hh,hl=>by
  obtain⟨a,o,xs,n,e,h1,h2,h3,f',h4,h5⟩:=hh 0 (by simp);have ef:f=f':=by simpa using h4
  subst ef;have eu:u= .ref a:=by simpa using e
  subst eu;refine .cons h1 h2 h3 h5 (sY (rs:=rs) (λi hi=>?_) (by simpa using hl));have:=hh (i+1) (by simpa using hi);simpa using this
 |[],_::_,_,_,hl=>by simp at hl|_::_,[],_,_,hl=>by simp at hl
def uQ(mx:Bool)(h0:dc)(its:List av)(rs:List (List Int)):Prop:=∀i,i<its.length->∃a o us n,its[i]?=af (.ref a)/\h0.get? a=af o/\o.cls= .type "tuple" /\o.data= .seq us n/\CellsAre mx us.toList (rs.getD i [])
section
variable{prog:ck}{w:cy}{h0:dc}{its:List av}{rs:List (List Int)}{s:aE}{mx:Bool}
def sZ(at_:uQ mx h0 its rs)(hne:∀r∈rs,r≠ [])(hlr:its.length=rs.length)(h64:its.length<128)(k:Keeps h0 h')(qq:Q' (tuples' ai) {s with heap:=h'})(h2:2<=its.length):
  bg (model prog w) A' (keyKind' its.toArray) Q' E' {s with heap:=h'}:=by
 have hfs:∃fs:List av,fs.length=its.length/\∀i (h1:i<its.length),∃a o xs n,its[i]= .ref a/\h0.get? a=af o/\o.cls= .type "tuple" /\o.data= .seq xs n/\∃f,fs[i]?=af f/\xs[0]?=af f/\∃z t,f= .int z t:=by
  refine⟨(bX its.length).map λi=>match its.getD i .none with|.ref a=>(match h0.get? a with|some o=>(match o.data with|.seq xs _=>xs.getD 0 .none|_=> .none)|none=> .none)|_=> .none,by simp,λi h1=>?_⟩;obtain⟨a,o,xs,n,e,ho,hc,hd,hi⟩:=at_ i h1;have hr:rs.getD i []≠ []:=by
   have h2:i<rs.length:=by lia
   have eg:rs.getD i []=rs[i]:=by simp[h2]
   rw[eg];exact hne _ (XR h2)
  obtain⟨z,zs,ez⟩:∃z zs,rs.getD i []=z::zs:=by
   cases e:rs.getD i []with|nil=>lia|cons z zs=>lia
  rw[ez]at hi;obtain⟨t,r,ex⟩:=hi.first;have e0:xs[0]?=af (.int z t):=by rw[←Yd,ex];rfl
  refine⟨a,o,xs,n,?_,ho,hc,hd,.int z t,?_,e0,z,t,rfl⟩
  ·rw[Wq h1]at e;simpa using e
  ·simp_all
 obtain⟨fs,hl,hfs⟩:=hfs;refine kat_kind (T:= .type "int") (fs:=fs) (sY (rs:=rs) (λi h1=>?_) hl.symm) (by lia) (λv hv=>?_) rfl qq
 ·obtain⟨a,o,xs,n,e1,e2,e3,e4,f,e5,e6,_⟩:=hfs i h1;exact⟨a,o,xs,n,e1,k _ _ e2,e3,e4,f,e5,e6⟩
 ·obtain⟨i,hi⟩:=Zr.mp hv;have hil:i<its.length:=by rw[←hl];exact(Wi.mp hi).1
  obtain⟨a,o,xs,n,e1,e2,e3,e4,f,e5,e6,z,t,rfl⟩:=hfs i hil;rw[hi]at e5;have:v= .int z t:=by simpa using e5
  subst this;exact .now
def yj(at_:uQ mx h0 its rs){C:Bool->aE->Prop}(k:Keeps h0 h')(hi:i<its.length)(hj:j<its.length)(hC:C (Cf (O:=jG) (λi=>rs.getD i []) i j) {s with heap:=h'}):
  bg (model prog w) A' (keyLt' (tuples' ai) (its.getD i .none) (its.getD j .none)) C E' {s with heap:=h'}:=by
 obtain⟨a,o,xs,n,e1,h1,_,h3,h4⟩:=at_ i hi;obtain⟨b,o',ys,n',e2,g1,_,g3,g4⟩:=at_ j hj;rw[show its.getD i .none= .ref a by simp_all,show its.getD j .none= .ref b by simp_all];refine kat_lt (k _ _ h1) h3 (k _ _ g1) g3 (Dg h4 g4 ?_ hC);have z1:=h4.len;have z2:=g4.len
 simp_all
def oF(hlr:its.length=rs.length)(hp:aV its.length pm)(hu:Up (O:=jG) (λi=>rs.getD i []) pm its.length):pm.toList.map (λi=>rs.getD i [])=aQ rs:=by
 have hsz:=hp.size;have hperm:=X5.mp hp;simp only[g9]at hperm;refine uE ?_ ?_
 ·have h1:=hperm.map (λi=>rs.getD i []);refine h1.trans (qf ?_);refine ow (by simp;exact hlr) λi h2 h3=>?_;simp[h3]
 ·refine List.pairwise_iff_getElem.mpr λi j h1 h2 hij=>?_;simp only[Y7];have hj:j<its.length:=by simpa[hsz]using h2
  have:=hu i j (Xg hij) hj;unfold aK at this;have e1:pm.getD i 0=pm.toList[i]'(by simpa using h1):=by
   have:i<pm.size:=by lia
   simp[ku,this]
  have e2:pm.getD j 0=pm.toList[j]'(by simpa using h2):=by
   have:j<pm.size:=by lia
   simp[ku,this]
  rw[e1,e2]at this;exact this
end
def uR{rs:List (List Int)}(hm:m=rs.length)(hn:rs.Nodup):∀i j,i<m->j<m->rs.getD i []=rs.getD j []->i=j:=λi j hi hj e=>by
 have e1:∀k (hk:k<rs.length),rs.getD k []=rs[k]:=λk hk=>by simp[hk]
 rw[e1 i (by lia),e1 j (by lia)]at e;exact(Zw hn).mp e
section
variable{X:Cx}
def je:bj X (.builtin "sorted") (λxs H Q=>∃p vs rs,xs=[.ref p]/\wc X.K H p vs/\dY X.K H mx vs rs/\(∀r∈rs,r≠ [])/\lQ rs/\∀l ws,H l=ah->dY X.K H mx ws (aQ rs)->Q (.ref l) (upd H l (.lst ws))):=by
 intro pins s σ H xs us Q I rv h;obtain⟨p,vs,rs,rfl,hq,hR,hne,h64,q⟩:=h;obtain⟨u,rfl,ru⟩:=vals1 rv;cases ru;obtain⟨its,r',pl,hz⟩:=I.list hq;have Ç:its.length=vs.length:=r'.length.symm;have hlr:=hR.len;have hlt:=h64.2.1;have at_:∀i,i<its.length->∃a o us n,its[i]?=af (.ref a)/\s.heap.get? a=af o/\o.cls= .type "tuple" /\o.data= .seq us n/\CellsAre mx us.toList (rs.getD i [])/\vs[i]?=af (.ref a)/\tP X.K H a (BC mx (rs.getD i []))/\LM mx (rs.getD i []):=by
  intro i hi;have h1:i<vs.length:=by lia
  have h2:i<rs.length:=by lia
  obtain⟨a,e,hs,hok⟩:=hR.get h1 h2;have ev:vs[i]?=af (.ref a):=by rw[Wq h1,e]
  obtain⟨u,hu,ru⟩:=r'.get ev;cases ru;obtain⟨its2,r2,⟨o,ho,hc,n,hd⟩,_⟩:=I.tuple hs;have eg:rs.getD i []=rs[i]:=by simp[h2]
  rw[eg];exact⟨a,o,_,n,hu,ho,hc,hd,G7 hok (by simpa using r2),ev,hs,hok⟩
 have Sj:∀i,i<its.length->∃a,its.getD i .none= .ref a/\its[i]?=af (.ref a):=by intro i hi;obtain⟨a,_,_,_,e,_⟩:=at_ i hi;exact⟨a,by rw[Xc,e];rfl,e⟩
 refine Ad (O:=jG) (key:=λi=>rs.getD i []) (κ:=tuples' ai) pl.isList (by lia) (uR (by lia) h64.1) (λh1 l=>let⟨⟨A,B,a,b,h⟩,r⟩:=h64.2.2 (by lia) l;⟨⟨A,B,a,b,λi j c1 c2 c3=>h i j c1 c2 (by lia)⟩,λi j i' j' c1 c2 c3 c4 c5 c6=>r i j i' j' c1 c2 c3 (by lia) c5 (by lia)⟩) (λh2 A' E' h' Q' k qq=>?_) (λh' i j C k hi hj hC=>?_) λpm hp hu=>?_
 ·exact sZ (mx:=mx) (rs:=rs) (λi hi=>by obtain⟨a,o,us,n,e1,e2,e3,e4,e5,_⟩:=at_ i hi;exact⟨a,o,us,n,e1,e2,e3,e4,e5⟩) hne (by lia) (by lia) k qq h2
 ·exact yj (mx:=mx) (rs:=rs) (λi hi=>by obtain⟨a,o,us,n,e1,e2,e3,e4,e5,_⟩:=at_ i hi;exact⟨a,o,us,n,e1,e2,e3,e4,e5⟩) k hi hj hC
 ·-- the end
  have hsz:=hp.size;have hperm:=X5.mp hp;simp only[g9]at hperm;have hpl:pm.toList.length=its.length:=by simp[hsz]
  obtain⟨e,he⟩:=sortedAll_at s.heap its (pm.map λi=>its.getD i .none);have hf:H (s.heap.objs.size+1)=none:=I.hok.fresh (Yo _);have hmem:∀i∈pm.toList,i<its.length:=λi hi=>by simpa using hperm.mem_iff.mp hi
  have LN:pm.toList.map (λi=>rs.getD i [])=aQ rs:=oF (by lia) hp hu;refine⟨.ref (s.heap.objs.size+1),_,I.laid (t':=s.toks) (o:= .lst (pm.toList.map λi=>vs.getD i .non)) (λb o e=>sortedAll_old e) (Yo _) ?_,rfl,q _ _ hf ?_⟩
  ·refine⟨by simp_all,pm.toList.map λi=>its.getD i .none,e,?_,?_⟩
   ·have key:∀l:List Nat,(∀i∈l,i<its.length)->Vals (l.map λi=>vs.getD i .non) (l.map λi=>its.getD i .none):=by
     intro l
     induction l with
     |nil=>intro _;exact .nil|cons i l ih=>intro hl;obtain⟨a,_,_,_,e1,_,_,_,_,e2,_⟩:=at_ i (hl i (by simp));refine .cons ?_ (ih λj hj=>hl j (by simp[hj]));show RelV (vs.getD i .non) (its.getD i .none);rw[Xc,Xc,e1,e2];rfl
    exact key _ hmem
   ·rw[he];congr 2;apply x8;simp
  ·rw[←LN];refine o5 (by simp) λi h1 h2=>?_;simp only[Y7];have hil:i<pm.toList.length:=by simpa using h1
   obtain⟨a,_,_,_,_,_,_,_,_,e2,hs⟩:=at_ (pm.toList[i]) (hmem _ (XR hil));exact⟨a,by rw[Xc,e2];rfl,hs⟩
end
end RK
namespace RK
open PySem L2 PySem.SeqAt PyProof.Rows
theorem qt{vs:List (Key×av)}{P:Nat->av->Prop}(hP:∀i v,P i v->∃k x,vs[i]?=af (k,x)/\(aX prog w).is k v=ai):
  ∀{us:List av}{ns:List Int}{j:Nat},us.length=ns.length->(∀i v,us[i]?=af v->P (j+i) v)->(∀i n,ns[i]?=af n->∃x,vs[j+i]?=af (Sum.inl n,x))->IntsAre us ns
 |[],[],_,_,_,_=> .nil|[],_::_,_,h,_,_=>by cases h|_::_,[],_,h,_,_=>by cases h|u::us,n::ns,j,h,h1,h2=>by
  obtain⟨k,x,e,hk⟩:=hP _ _ (h1 0 u rfl);obtain⟨x',e'⟩:=h2 0 n rfl;rw[e]at e';have e'':k=Sum.inl n:=(Prod.mk.inj (Wd e')).1;subst e'';obtain⟨t,rfl⟩:=Value.isInt_shape (k:=n) (v:=u) hk;refine .cons n t (qt hP (j:=j+1) (by simpa using h) (λi v q=>?_) λi m q=>?_)
  ·have:=h1 (i+1) v (by simpa using q);lia
  ·have:=h2 (i+1) m (by simpa using q)
   rwa [show j+(i+1)=j+1+i by lia]at this
section
variable{prog:ck}{w:cy}{A:cK}{E:av->aE->Prop}{s:aE}
theorem qu{T:String}(K:xB prog w T r d n P OK)(hh:A.handled=ah)(hok:OK s.heap)(hn:n<=aS)(h:∀(g:dc)(tk:Nat)(acc:Array av),(∀b o,s.heap.get? b=af o->g.get? b=af o)->s.heap.objs.size<=g.objs.size->ItemsOf P acc n->R acc.toList {s with heap:=g,toks:=tk}):bg (model prog w) A (collect (.ref r)) R E s:=by
 have hlt:=K.there _ hok;unfold collect;refine My (wpAny_runValue (XD entry_proto_collect' ?_));rw[XF jv _];refine My (m:=newList []) (W5 (V8 ⟨Zg Zc _,XD entry_list_iadd' ?_⟩));rw[XF Zc _];obtain⟨h1,e1⟩:∃h1,h1=s.heap.push (seqObj "list" #[] 0):=⟨_,rfl⟩
 have hS:h1.get? s.heap.objs.size=af (seqObj "list" #[] 0):=by rw[e1];exact Wf _ rfl
 have k1:∀b o,s.heap.get? b=af o->h1.get? b=af o:=λb o q=>by rw[e1];exact V9 _ q
 have key:=PySem.W.kdl_extend (A:=A) (s:={s with heap:=h1}) (R:=λ(q:Result)(s':aE)=>∃g tk acc c,q= .ok (.ret (.ref s.heap.objs.size))/\s'={s with heap:=g,toks:=tk}/\(∀b o,s.heap.get? b=af o->g.get? b=af o)/\g.get? s.heap.objs.size=af (seqObj "list" acc c)/\ItemsOf P acc n)
  K hh (K.keep _ _ hok λb _ o e=>k1 b o e) s.heap.objs.size (Xn hlt.1) (Xn hlt.2) (.ref s.heap.objs.size) 0 hS (λg tk acc c hk hS' ha=>⟨g,tk,acc,c,rfl,rfl,λb o q=>hk b o (Wo (Wg q)) (k1 b o q),hS',ha⟩) hn
 rw[e1]at key;refine Xw key (λf s' x=>?_) λe s' x=>by lia
 cases f with
 |done f=>obtain⟨g,tk,acc,c,q,rfl,hk,hS',ha⟩:=x;cases q;show bg _ A (load s.heap.objs.size>>=_) _ _ _;exact My (wpAny_load hS' (V8 (h g tk acc hk (Xg (Wg hS')) ha)))
 |again c₁=>refine⟨x.1,YM x.2 λq s₂ y=>?_⟩;obtain⟨g,tk,acc,c,rfl,rfl,hk,hS',ha⟩:=y;show bg _ A (load s.heap.objs.size>>=_) _ _ _;exact My (wpAny_load hS' (V8 (h g tk acc hk (Xg (Wg hS')) ha)))
def Ae{a:aI}{vs:List (Key×av)}{ns:List Int}{Q:av->aE->Prop}(hh:A.handled=ah)(lo:(a==sysModules)=ay)(dd:s.heap.DictOf (aX prog w) a vs)(hk:vs.map (·.1)=ns.map Sum.inl)(h64:ns.length<64)(h:∀(h':dc)(tk:Nat)(b:aI)(out:Array av)(ms:List Int)(e:Nat),(∀c o,s.heap.get? c=af o->h'.get? c=af o)->s.heap.objs.size<=b->h'.get? b=af (seqObj "list" out e)->IntsAre out.toList ms->ms.Perm ns->ms.Pairwise (·<=·)->Q (.ref b) {s with heap:=h',toks:=tk}):
  bg (model prog w) A (call (.builtin "sorted") [.ref a]) Q E s:=by
 obtain⟨ep,hat⟩:=dd.dictAt;have hvl:vs.length=ns.length:=by simpa using Xk fR hk
 have hn:vs.length<=sizeLine:=by rw[W6];lia
 refine Yr kind_sorted plain_sorted entry_sorted (args_sorted1 _) ?_;unfold Builtin.«sorted»;refine My (m:=checkCount "sorted" 1 1 _) (V8 ?_);refine My (qu (A:=A.in1) (PySem.W.kdl_dict (knd:=aX prog w) (kvs:=vs) (ep:=ep) lo) hh hat hn λg tk acc hk' ho hacc=>?_);have hal:acc.toList.length=ns.length:=by rw[Xh,hacc.1,hvl]
 have hi:IntsAre acc.toList ns:=by
  refine qt (prog:=prog) (w:=w) (vs:=vs) (P:=λi v=>∃k x,vs[i]?=af (k,x)/\(aX prog w).is k v=ai) (λ_ _ q=>q) (j:=0) hal (λi v q=>?_) λi n q=>?_
  ·rw[WL];exact hacc.2 i v (by simp_all)
  ·rw[WL];have e:(vs.map (·.1))[i]?=af (Sum.inl n):=by rw[hk,Xm,q];rfl
   rw[Xm]at e
   simp_all
 have hle:acc.toList.length<=sizeLine:=by rw[hal,←hvl];exact hn
 refine My (Ze ?_ hle);have at_:(g.push (seqObj "list" acc.toList.toArray 0)).get? g.objs.size=af (seqObj "list" acc.toList.toArray 0):=Wf _ rfl;refine My (Xl (WY (s:={s with heap:=g.push (seqObj "list" acc.toList.toArray 0),toks:=tk}) slot_list_sort ⟨_,at_,rfl⟩ entry_list_sort (list_sort_tree at_ hi (by rw[hal];exact h64) λout ms a1 a2 a3=>⟨_,rfl,?_⟩) (args_list_sort _)));obtain⟨e,he⟩:=sortedHeap_at (out:=out) at_;refine V8 ⟨_,rfl,h _ tk _ out ms e (λc o q=>?_) ho he a1 a2 a3⟩;have q1:=hk' c o q;have hlt:=Wg q1;rw[sortedHeap_old (Wo hlt) (by rw[size_push'];exact X6 hlt)];exact V9 _ q1
def G8(hh:A.handled=ah)(hl:s.heap.IsTuple l its.toArray)(hi:IntsAre its ns)(h:∀h' tk t',(∀b o,s.heap.get? b=af o->h'.get? b=af o)->Q (.int ns.sum t') {s with heap:=h',toks:=tk}):bg (model prog w) A (call (.builtin "sum") [.ref l]) Q E s:=by
 obtain⟨xs,e⟩:=hi.allInts.items;rw[e]at hl;have e2:xs.toList.map (·.1)=ns:=by rw[←nums_intItems,←e];exact hi.numsOf
 have hlt:l<s.heap.objs.size:=by obtain⟨_,e,_⟩:=hl;exact Wg e
 refine call_sum_walkG (YK hl ?_);refine⟨_,_,_,_,_,_,numAt xs,rfl,Walks.tuple (A:=A.in1) hh _ l (Wo hlt) (intItems xs),⟨⟨_,Wf _ rfl,rfl,rfl⟩,hl.push _⟩,λc hc=>?_,(λ_ _=>intItems_at),λh' tk t' hk=>?_⟩
 ·show c<(s.heap.push _).objs.size;rw[YF];rcases We.mp hc with rfl|hc
  ·simp
  ·rcases We.mp hc with rfl|hc
   ·exact X6 hlt
   ·cases hc
 ·have z:preSum (numAt xs) (intItems xs).size=ns.sum:=by
   have:(intItems xs).size=xs.size:=by simp[intItems]
   rw[this,preSum_eq,e2,W9 (by rw[←e2];simp)]
  rw[z];refine h h' tk t' λb o q=>?_;refine hk b o (λhm=>?_) (V9 _ q);rcases We.mp hm with e1|hm
  ·exact absurd (e1▸Wg q) (Zd _)
  ·cases hm
end
section
variable{X:Cx}
def qw(hc:X.calm=ai):bj X (.builtin "sorted") (λxs H Q=>∃p kvs ns,xs=[.ref p]/\Rd H p (.dK kvs)/\kvs.map (·.1)=ns.map Sum.inl/\ns.length<64/\∀l,H l=ah->Q (.ref l) (upd H l (.lst ((sortI ns).map V.int)))):=by
 intro pins s σ H xs us Q I rv h;obtain⟨p,kvs,ns,rfl,hq,hk,h64,q⟩:=h;obtain⟨u,rfl,ru⟩:=vals1 rv;cases ru;obtain⟨hz,hs,vs,r,dd⟩:=km I.hok hq;have hk2:vs.map (·.1)=ns.map Sum.inl:=by rw[←hk];exact r.keys.symm
 refine Ae (I.ok.hd hc) hs dd hk2 h64 λh' tk b out ms e hkp hb hat a1 a2 a3=>?_;have e1:ms=sortI ns:=kO a2 a3;subst e1;refine⟨.ref b,_,I.laid (t':=tk) (o:= .lst ((sortI ns).map V.int)) hkp hb ?_,rfl,q _ (I.hok.fresh hb)⟩;refine⟨?_,out.toList,e,gG a1,?_⟩
 ·rw[Wb,a2.length_eq,W6];lia
 ·rw[hat]
end
section
variable{X:Cx}{cl:Nat->List D->bq->Ev D}{a b c:bE}{a' b':E}{t t':T}{es:List bE}{es':List E}{pos p:Pos}
def T9{id:String}(hc:bj X (.builtin id) (E3 X f))(hg:Gl X x)(hm:X.mg x=ah)(hv:bootBuiltins x=af (.builtin id))(ha:JA X cl (a::es) (a'::es'))(hn:x≠ "__name__")(hdb:(x==("__debug__" :Str))=ay)(he:starEach (a::es) X.env=(ay,eval a X.env)::starEach es X.env)(hpl:(backTo pos (starEach es X.env)).any (·.1)=ay):JE X cl (.Call (.Name x p) (a::es) [] pos) (.bi f (a'::es')):=by refine PE.imp (gU hc hg hm hv ha hn hdb he hpl) λσ H Q h=>?_;refine tM.el h λm r S er sr h=>?_;have h:tO X (rD X) (bnd (aF cl (a'::es') r S) λds S1=>DL f ds S1) m r H Q:=h;exact⟨m,r,S,er,sr,h.bnd.mono λv H1 z=>aN z λm1 x S1 st1 e8 rx h1=>⟨m1,r,S1,x,e8,rx,h1⟩⟩
def QD{T:String}(hc:bj X (.type T) (E3 X f))(hg:Gl X x)(hm:X.mg x=ah)(hv:bootBuiltins x=af (.type T))(ha:JA X cl (a::es) (a'::es'))(hn:x≠ "__name__")(hdb:(x==("__debug__" :Str))=ay)(he:starEach (a::es) X.env=(ay,eval a X.env)::starEach es X.env)(hpl:(backTo pos (starEach es X.env)).any (·.1)=ay):JE X cl (.Call (.Name x p) (a::es) [] pos) (.bi f (a'::es')):=by refine PE.imp (jl hc hg hm hv ha hn hdb he hpl) λσ H Q h=>?_;refine tM.el h λm r S er sr h=>?_;have h:tO X (rD X) (bnd (aF cl (a'::es') r S) λds S1=>DL f ds S1) m r H Q:=h;exact⟨m,r,S,er,sr,h.bnd.mono λv H1 z=>aN z λm1 x S1 st1 e8 rx h1=>⟨m1,r,S1,x,e8,rx,h1⟩⟩
def uT:Ty->String
 |.int=> "int" |.bool=> "bool" |.str=> "str" |.list=> "list" |.tuple=> "tuple" |.dict=> "dict" |.cls _=> ""
def LO:D->String
 |.non=> "NoneType" |.bl _=> "bool" |.int _=> "int" |.str _=> "str" |.tup _=> "tuple" |.lst _=> "list" |_=> ""
def QF{K:aT}{t:Ty}{b:Bool}(h:DJ d t=af b):eT K (.type (LO d)) (.type (uT t))=af b:=by
 cases d<;>first
  |cases h
  | (cases t<;>first
   |(have e:=Wd h;subst e;rfl)
   |cases h)
theorem G9{m:List aI}{H:Hp}{pins:List (aI×Obj)}{σ:L2.St}{s:aE}{d:D}{x:V}{u c:av}{k:Bool}{Q:av->aE->Prop}{A:cK}{E:av->aE->Prop}(I:Inv X pins σ H s)(rd:RD X.K m H d x)(rx:RelV x u)(hk:LO d≠ "")(e:eT X.K (.type (LO d)) c=af k)(h:∀tk,Q (.bool k) {s with toks:=tk}):bg (model X.prog X.w) A (call (.builtin "isinstance") [u,c]) Q E s:=by
 cases d with
 |non=>cases AE rd;cases rx;exact Zi PySem.W.kitx_none I.BE True.intro e (λz=>nomatch z) h|bl y=>cases A3 rd;cases rx;exact Zi PySem.W.kitx_bool I.BE True.intro e (λz=>nomatch z) h|int y=>cases gx rd;obtain⟨t,rfl⟩:=rx;exact Zi PySem.W.kitx_int I.BE True.intro e (λz=>nomatch z) h
 |str y=>cases AY rd;obtain⟨t,rfl⟩:=rx;exact Zi PySem.W.kitx_str I.BE True.intro e (λz=>nomatch z) h
 |tup ds=>obtain⟨a,vs,rfl,hq,rs⟩:=cW rd;cases rx;obtain⟨its,_,⟨o,h1,h2,_⟩,_⟩:=I.tuple hq;exact Zi PySem.W.kitx_tuple I.BE ⟨o,h1,h2⟩ e (λz=>nomatch z) h
 |lst ds=>
  obtain⟨a,vs,rfl,hq,_,rs⟩:=dB rd;cases rx;obtain⟨_,_,n,_,h1⟩:=(show bB X.prog X.w H s.heap a (.lst vs)from I.hok a _ hq)
  exact Zi PySem.W.kitx_list I.BE ⟨_,h1,rfl⟩ e (λz=>nomatch z) h
 |_=>exact absurd rfl hk
def Lb{t:Ty}{b:Bool}(h:DJ d t=af b):LO d≠ "" :=by cases d<;>first|(simp[LO];done)|(cases t<;>cases h)
def VD(X:Cx)(t:Ty):List V->Hp->VK->Prop:=λxs H Q=>∃m d x k,xs=[x,.ty (uT t)]/\RD X.K m H d x/\DJ d t=af k/\Q (.bl k) H
def Ha{t:Ty}:bj X (.builtin "isinstance") (VD X t):=by intro pins s σ H xs us Q I rv h;obtain⟨m,d,x,k,rfl,rd,ht,q⟩:=h;obtain⟨u,w',rfl,r1,r2⟩:=vals2 rv;cases r2;exact G9 I rd r1 (Lb ht) (QF ht) λtk=>⟨.bl k,H,I.tok _,rfl,q⟩
def QG{t:Ty}(hg:Gl X "isinstance")(hm:X.mg "isinstance" =ah)(ha:JE X cl a a')(VC:Gl X x)(hmx:X.mg x=ah)(VE:bootBuiltins x=af (.type (uT t)))(hn:x≠ "__name__")(hdb:(x==("__debug__" :Str))=ay)(he:starEach [a,.Name x p2] X.env=(ay,eval a X.env)::starEach [.Name x p2] X.env):JE X cl (.Call (.Name "isinstance" p) [a,.Name x p2] [] pos) (.isI a' t):=by
 have hT:PE X (.Name x p2) (tC (.ty (uT t))):=J6 VC hmx VE rfl hn hdb;refine PE.imp (gU (Ha (t:=t)) hg hm boot_isinstance (cQ ha (cQ hT eZ) he) (by decide) (by decide) he (by rfl)) λσ H Q h=>?_;refine tM.el h λm r S er sr h=>?_;have h:tO X (rD X) (bnd (aj cl a' r S) λx S1=>match DJ x t with|some b=>fy (.bl b) S1|none=>ah) m r H Q:=h;refine⟨m,r,S,er,sr,h.bnd.mono λv H1 zz=>?_⟩;refine aN zz λm1 x S1 st1 e8 rx h1=>?_;cases e:DJ x t with|none=>rw[e]at h1;exact h1.elim|some k=>rw[e]at h1;exact⟨m1,x,v,k,rfl,rx,e,h1.fin e8 iz⟩
def Hb(X:Cx)(k:BS):List V->Hp->VK->Prop:=λxs H Q=>∃m r S d ds x,xs=[x]/\cS X.K m S H/\RD X.K m H d x/\bf S d=af ds/\tO X (rD X) (gW k ds S) m r H Q
def Hc:bj X (.type "list") (Hb X (.list mu)):=by intro pins s σ H xs us Q I rv h;obtain⟨m,r,S,d,ds,x,rfl,sr,rd,es,h⟩:=h;obtain⟨p,ys,rfl,hq,rs⟩:=lW sr rd es;exact uA pins s σ H _ us Q I rv ⟨p,ys,rfl,hq,(dj sr rs h).2⟩
def Dh:bj X (.type "tuple") (Hb X .tuple):=by
 intro pins s σ H xs us Q I rv h;obtain⟨m,r,S,d,ds,x,rfl,sr,rd,es,h⟩:=h;obtain⟨p,ys,rfl,hq,rs⟩:=lW sr rd es;rcases hq with hq|hq
 ·exact lF pins s σ H _ us Q I rv ⟨p,ys,rfl,.inl ⟨hq,(xZ sr rs h).2⟩⟩
 ·refine lF pins s σ H _ us Q I rv ⟨p,ys,rfl,.inr ⟨hq,?_⟩⟩;have h:tO X (rD X) (E2 ds S) m r H Q:=h;unfold E2 at h;by_cases hz:ds.length<=aS
  ·rw[if_pos hz]at h;exact h.fin sr (jc hq rs)
  ·rw[if_neg hz]at h;exact h.elim
def VF(X:Cx)(mu:Bool):List V->Hp->VK->Prop:=λxs H Q=>∃m r S d ds x,xs=[x]/\cS X.K m S H/\RD X.K m H d x/\((∃es,(d= .lst es\/∃k,d= .ref k)\/d= .tup es/\∃ns,aY es=af ns)/\bf S d=af ds\/∃kvs,cF S d=af kvs/\ds=kvs.map λp=>tN p.1)/\tO X (rD X) (gW (.sorted mu) ds S) m r H Q
theorem Di{kvs:List (Key×D)}:∀{ns:List Int},aY (kvs.map λp=>tN p.1)=af ns->kvs.map (·.1)=ns.map Sum.inl:=by
 induction kvs with
 |nil=>intro ns h;have e:[]=ns:=Wd h;subst e;rfl|cons p t ih=>
  intro ns h;obtain⟨k,d⟩:=p;cases k with
  |inr x=>cases h|inl i=>
   replace h:(aY (t.map λp=>tN p.1)).map (i::·)=af ns:=h;cases e:aY (t.map λp=>tN p.1)with|none=>simp_all|some ms=>grind
theorem uU:∀{kvs:List (Key×D)}{vs:List (Key×V)},sM X.K m H kvs vs->vs.map (·.1)=kvs.map (·.1)
 |[],[],_=>rfl|p::ps,q::qs,h=>by rw[Wh,Wh,h.1,uU h.2.2]|[],_::_,h=>h.elim|_::_,[],h=>h.elim
def ym(sr:cS X.K m S H)(rd:RD X.K m H d v)(hd:∃es,d= .lst es\/∃k,d= .ref k)(h:bf S d=af ds):∃p xs,v= .ref p/\wc X.K H p xs/\f7 X.K m H ds xs:=by
 obtain⟨es,rfl|⟨k,rfl⟩⟩:=hd
 ·have e:es=ds:=by simpa[bf]using h
  subst e;obtain⟨a,vs,rfl,q,_,t⟩:=dB rd;exact⟨a,vs,rfl,wc.of q,t⟩
 ·obtain⟨a,rfl,hk⟩:=bT rd;simp only[bf]at h;cases e:S[k]? with
  |none=>simp_all|some o=>
   rw[e]at h;cases o with
   |lst es=>
    have e':es=ds:=by simpa using h
    subst e';obtain⟨a',vs,h1,h2,h3⟩:=sr.lst e;rw[hk]at h1;have:a=a':=by simpa using h1
    subst this;exact⟨a,vs,rfl,wc.of h2,h3⟩
   |dct _=>cases h|ins _ _=>cases h|xy _=>cases h
theorem Af(hc:X.calm=ai):bj X (.builtin "sorted") (VF X mu):=by
 intro pins s σ H xs us Q I rv h;obtain⟨m,r,S,d,ds,x,rfl,sr,rd,hd0,h⟩:=h;rcases hd0 with⟨⟨fs,hd⟩,es⟩|⟨kvs,hk,rfl⟩
 rotate_left
 ·obtain⟨n,p,vs,rfl,e2,rfl,e3,kr⟩:=qg sr rd hk;replace h:tO X (rD X) (match dU (kvs.map λp=>tN p.1)with|some es=>AX mu es S|none=>ah) m r H Q:=h;unfold dU at h;cases e:aY (kvs.map λp=>tN p.1)with
  |some ns=>
   rw[e]at h;simp only at h;by_cases h64:ns.length<64
   ·rw[if_pos h64]at h;exact qw hc pins s σ H _ us Q I rv ⟨p,vs,ns,rfl,e3,by rw[uU kr];exact Di e,h64,(dj sr cX h).2⟩
   ·rw[if_neg h64]at h;exact h.elim
  |none=>
   rw[e]at h;simp only at h;cases e2:dz (kvs.map λp=>tN p.1)with
   |none=>
    rw[e2]at h;cases kvs with
    |nil=>cases e|cons q t=>obtain⟨k,d⟩:=q;cases k<;>exact h.elim
   |some rs=>
    cases kvs with
    |nil=>cases e|cons q t=>obtain⟨k,d⟩:=q;cases k<;>cases e2
 rcases hd with hd|⟨rfl,ns,en⟩
 rotate_left
 ·have e0:fs=ds:=by simpa[bf]using es
  subst e0;obtain⟨p,ys,rfl,hq,rs⟩:=cW rd;replace h:tO X (rD X) (match dU fs with|some es=>AX mu es S|none=>ah) m r H Q:=h;unfold dU at h;rw[en]at h;simp only at h;by_cases h64:ns.length<64
  ·rw[if_pos h64]at h;have e1:=gA en;subst e1;have e2:=dN rs;subst e2;exact nZ pins s σ H _ us Q I rv ⟨p,ns,rfl,hq,h64,(dj sr cX h).2⟩
  ·rw[if_neg h64]at h;exact h.elim
 obtain⟨p,ys,rfl,hq,rs⟩:=ym sr rd ⟨fs,hd⟩ es;replace h:tO X (rD X) (match dU ds with|some es=>AX mu es S|none=>ah) m r H Q:=h;unfold dU at h;cases e:aY ds with
 |none=>
  rw[e]at h;simp only at h;cases e2:dz ds with
  |none=>
   rw[e2]at h;simp only at h;cases e3:jm ds with
   |none=>rw[e3]at h;exact h.elim|some rw_=>
    rw[e3]at h;simp only at h;obtain⟨hR,hne⟩:=sV (X:=X) rs e3;by_cases h64:lQ rw_
    ·rw[if_pos h64]at h;refine je (mx:=ai) pins s σ H _ us Q I rv ⟨p,ys,rw_,rfl,hq,hR,hne,h64,λl ws hl hw=>?_⟩;exact(dj sr (sX hw) h).2 l hl
    ·rw[if_neg h64]at h;exact h.elim
  |some rw_=>
   rw[e2]at h;simp only at h;have hR:=uO (X:=X) rs e2;by_cases h64:lQ rw_
   ·rw[if_pos h64]at h;refine je (mx:=ay) pins s σ H _ us Q I rv ⟨p,ys,rw_,rfl,hq,hR,uP e2,h64,λl ws hl hw=>?_⟩;exact(dj sr (mj hw) h).2 l hl
   ·rw[if_neg h64]at h;exact h.elim
 |some ns=>
  rw[e]at h;simp only at h;by_cases h64:ns.length<64
  ·rw[if_pos h64]at h;have e1:=gA e;subst e1;have e2:=dN rs;subst e2;exact oX pins s σ H _ us Q I rv ⟨p,ns,rfl,hq,h64,(dj sr cX h).2⟩
  ·rw[if_neg h64]at h;exact h.elim
def uV{T:String}(hc:bj X (.type T) (Hb X k))(hg:Gl X x)(hm:X.mg x=ah)(hv:bootBuiltins x=af (.type T))(ha:JE X cl a a')(hn:x≠ "__name__")(hdb:(x==("__debug__" :Str))=ay)(he:starEach [a] X.env=[(ay,eval a X.env)]):JE X cl (.Call (.Name x p) [a] [] pos) (.col k (.snap a')):=by
 refine PE.imp (jl hc hg hm hv (cQ ha eZ he) hn hdb he rfl) λσ H Q h=>?_;refine tM.el h λm r S er sr h=>?_;have h:tO X (rD X) (bnd (bnd (aj cl a' r S) λx S1=>match bf S1 x with|some ds=>fy ds S1|none=>ah) λds S1=>gW k ds S1) m r H Q:=h;rw[gJ]at h;refine⟨m,r,S,er,sr,h.bnd.mono λv H1 zz=>?_⟩;refine aN zz λm1 x S1 st1 e8 rx h1=>?_;cases e:bf S1 x with|none=>rw[e]at h1;exact h1.elim|some ds=>rw[e]at h1;exact⟨m1,r,S1,x,ds,v,rfl,e8,rx,e,h1⟩
theorem Dj(hc:X.calm=ai)(hg:Gl X "sorted")(hm:X.mg "sorted" =ah)(ha:JE X cl a a')(he:starEach [a] X.env=[(ay,eval a X.env)]):JE X cl (.Call (.Name "sorted" p) [a] [] pos) (.col (.sorted mu) (.live a')):=by
 refine PE.imp (gU (Af (mu:=mu) hc) hg hm boot_sorted (cQ ha eZ he) (by decide) (by decide) he rfl) λσ H Q h=>?_;refine tM.el h λm r S er sr h=>?_;have h:tO X (rD X) (bnd (bnd (aj cl a' r S) λx S1=>match x with|.lst ds=>fy ds S1|.tup ds=>(match aY ds with|some _=>fy ds S1|none=>ah)|.ref k=>(match S1[k]? with|some (.lst ds)=>fy ds S1|some (.dct kvs)=>fy (kvs.map λp=>tN p.1) S1|_=>ah)|_=>ah) λds S1=>gW (.sorted mu) ds S1) m r H Q:=h;rw[gJ]at h;refine⟨m,r,S,er,sr,h.bnd.mono λv H1 zz=>?_⟩;refine aN zz λm1 x S1 st1 e8 rx h1=>?_;cases x with
 |lst ds=>exact⟨m1,r,S1,.lst ds,ds,v,rfl,e8,rx,.inl ⟨⟨ds,.inl (.inl rfl)⟩,rfl⟩,h1⟩|tup ds=>
  cases e:aY ds with|none=>simp only[e]at h1;exact h1.elim|some ns=>simp only[e]at h1;exact⟨m1,r,S1,.tup ds,ds,v,rfl,e8,rx,.inl ⟨⟨ds,.inr ⟨rfl,ns,e⟩⟩,rfl⟩,h1⟩
 |ref k=>
  cases e:S1[k]? with
  |none=>simp only[e]at h1;exact h1.elim|some o=>
   cases o with|lst ds=>simp only[e]at h1;exact⟨m1,r,S1,.ref k,ds,v,rfl,e8,rx,.inl ⟨⟨ds,.inl (.inr ⟨k,rfl⟩)⟩,by simp[bf,e]⟩,h1⟩|dct kvs=>simp only[e]at h1;exact⟨m1,r,S1,.ref k,_,v,rfl,e8,rx,.inr ⟨kvs,by simp[cF,e],rfl⟩,h1⟩|ins _ _=>simp only[e]at h1;exact h1.elim|xy _=>simp only[e]at h1;exact h1.elim
 |_=>exact h1.elim
def Ld{E:av->aE->Prop}(hh:A.handled=ah)(hl:s.heap.IsList l its.toArray)(hi:IntsAre its ns)(h:∀h' tk t',(∀b o,s.heap.get? b=af o->h'.get? b=af o)->Q (.int ns.sum t') {s with heap:=h',toks:=tk}):bg (model prog w) A (call (.builtin "sum") [.ref l]) Q E s:=by
 obtain⟨xs,e⟩:=hi.allInts.items;rw[e]at hl;have e2:xs.toList.map (·.1)=ns:=by rw[←nums_intItems,←e];exact hi.numsOf
 refine sum_intListG hh hl λh' tk t' k=>?_;rw[preSum_eq,e2,W9 (by rw[←e2];simp)];exact h h' tk t' k
def VG(X:Cx):List V->Hp->VK->Prop:=λxs H Q=>∃m r S d ds x,xs=[x]/\cS X.K m S H/\RD X.K m H d x/\(∃es,(d= .lst es\/∃k,d= .ref k)\/d= .tup es)/\bf S d=af ds/\tO X (rD X) (gW .sum ds S) m r H Q
theorem Le(hc:X.calm=ai):bj X (.builtin "sum") (VG X):=by
 intro pins s σ H xs us Q I rv h;obtain⟨m,r,S,d,ds,x,rfl,sr,rd,⟨fs,hd⟩,es,h⟩:=h;replace h:tO X (rD X) (match aY ds with|some ns=>(if nj ns=ai then fy (.int ns.sum) S else ah)|none=>ah) m r H Q:=h;cases e:aY ds with
 |none=>rw[e]at h;exact h.elim|some ns=>
  rw[e]at h;simp only at h;by_cases hf:nj ns=ai
  ·rw[if_pos hf]at h;have e1:=gA e;subst e1;rcases hd with hd|rfl
   rotate_left
   ·have e0:fs=ns.map D.int:=by simpa[bf]using es
    subst e0;obtain⟨p,ys,rfl,hq,rs⟩:=cW rd;have e2:=dN rs;subst e2;obtain⟨u,rfl,ru⟩:=vals1 rv;cases ru;obtain⟨its,r',pl,hz⟩:=I.tuple hq;have hi:IntsAre its ns:=intsAre_of r';exact G8 (I.ok.hd hc) pl hi λh' tk t' k=>⟨.int ns.sum,H,I.kept k,⟨_,rfl⟩,h.fin sr cj⟩
   obtain⟨p,ys,rfl,hq,rs⟩:=ym sr rd ⟨fs,hd⟩ es;have e2:=dN rs;subst e2;obtain⟨u,rfl,ru⟩:=vals1 rv;cases ru;obtain⟨its,r',pl,hz⟩:=I.list hq;have hi:IntsAre its ns:=intsAre_of r';exact Ld (I.ok.hd hc) pl.isList hi λh' tk t' k=>⟨.int ns.sum,H,I.kept k,⟨_,rfl⟩,h.fin sr cj⟩
  ·rw[if_neg hf]at h;exact h.elim
theorem QH(hc:X.calm=ai)(hg:Gl X "sum")(hm:X.mg "sum" =ah)(ha:JE X cl a a')(he:starEach [a] X.env=[(ay,eval a X.env)]):JE X cl (.Call (.Name "sum" p) [a] [] pos) (.col .sum (.IX a')):=by
 refine PE.imp (gU (Le hc) hg hm boot_sum (cQ ha eZ he) (by decide) (by decide) he rfl) λσ H Q h=>?_;refine tM.el h λm r S er sr h=>?_;have h:tO X (rD X) (bnd (bnd (aj cl a' r S) λx S1=>match x with|.lst ds=>fy ds S1|.tup ds=>fy ds S1|.ref k=>(match S1[k]? with|some (.lst ds)=>fy ds S1|_=>ah)|_=>ah) λds S1=>gW .sum ds S1) m r H Q:=h;rw[gJ]at h;refine⟨m,r,S,er,sr,h.bnd.mono λv H1 zz=>?_⟩;refine aN zz λm1 x S1 st1 e8 rx h1=>?_;cases x with
 |lst ds=>exact⟨m1,r,S1,.lst ds,ds,v,rfl,e8,rx,⟨ds,.inl (.inl rfl)⟩,rfl,h1⟩|tup ds=>exact⟨m1,r,S1,.tup ds,ds,v,rfl,e8,rx,⟨ds,.inr rfl⟩,rfl,h1⟩|ref k=>
  cases e:S1[k]? with
  |none=>simp only[e]at h1;exact h1.elim|some o=>
   cases o with|lst ds=>simp only[e]at h1;exact⟨m1,r,S1,.ref k,ds,v,rfl,e8,rx,⟨ds,.inl (.inr ⟨k,rfl⟩)⟩,by simp[bf,e],h1⟩|dct _=>simp only[e]at h1;exact h1.elim|ins _ _=>simp only[e]at h1;exact h1.elim|xy _=>simp only[e]at h1;exact h1.elim
 |_=>exact h1.elim
def Lf{mu:Bool}{m:List aI}{r:az}{H:Hp}{S:bq}{lo hi:Int}{p:aI}{Q:VK}(sr:cS X.K m S H)(hp:H p=ah)(h:tO X (rD X) (AX mu (cg lo hi) S) m r H Q):
  (gj lo hi).length<=aS/\∀l,(upd H p (.AR lo hi)) l=ah->Q (.ref l) (upd (upd H p (.AR lo hi)) l (.lst (gj lo hi))):=
 dj (sr.laid hp (.AR lo hi)) (CK lo hi) (h.step (fk.laid sr hp (.AR lo hi)))
def JD(X:Cx)(k:BS):List V->Hp->VK->Prop:=λxs H Q=>∃p lo hi H0 m r S,xs=[.ref p]/\H0 p=ah/\H=upd H0 p (.AR lo hi)/\PQ lo hi/\cS X.K m S H0/\tO X (rD X) (gW k (cg lo hi) S) m r H0 Q
def Dk(hc:X.calm=ai):bj X (.type "list") (JD X (.list mu)):=by intro pins s σ H xs us Q I rv h;obtain⟨p,lo,hi,H0,m,r,S,rfl,hp,rfl,hb,sr,h⟩:=h;obtain⟨h1,h2⟩:=Lf (mu:=mu) sr hp h;exact tX hc pins s σ _ _ us Q I rv ⟨p,lo,hi,rfl,bh,hb,h1,h2⟩
theorem Lg{T:String}(MV:bj X (.type T) (JD X k))(hg:Gl X x)(hm:X.mg x=ah)(hv:bootBuiltins x=af (.type T))(hn:x≠ "__name__")(hdb:(x==("__debug__" :Str))=ay)(hgr:Gl X "range")(hmr:X.mg "range" =ah)(ha:JE X cl a a')(hs:starEach [a] X.env=[(ay,eval a X.env)]):
  JE X cl (.Call (.Name x p) [.Call (.Name "range" p2) [a] [] p3] [] pos) (.col k (.lS a')):=by
 have hR:=CN (p:=p2) (pos:=p3) hgr hmr (cQ ha eZ hs) hs;refine PE.imp (jl MV hg hm hv (cQ hR eZ rfl) hn hdb rfl rfl) λσ H Q h=>?_;refine tM.el h λm r S er sr h=>?_;have h:tO X (rD X) (bnd (bnd (aj cl a' r S) λy S1=>match y with|.int j=>(if -(2^62)<=j/\j<2^62 then fy (cg 0 j) S1 else ah)|_=>ah) λds S1=>gW k ds S1) m r H Q:=h;rw[gJ]at h;refine⟨m,r,S,er,sr,h.bnd.mono λv H1 zz=>?_⟩;refine aN zz λm1 y S1 st1 e8 ry h1=>?_;cases y with
 |int j=>
  simp only at h1;by_cases hb: -(2^62)<=j/\j<2^62
  ·rw[if_pos hb]at h1;refine⟨j,by rw[gx ry],λl hl=>?_⟩;exact⟨l,0,j,H1,m1,r,S1,rfl,hl,rfl,⟨by decide,by decide,hb.1,hb.2⟩,e8,h1⟩
  ·rw[if_neg hb]at h1;exact h1.elim
 |_=>exact h1.elim
def MW(X:Cx)(k:Mt):V->List V->Hp->VK->Prop:=λx xs H Q=>∃m r S d ds,cS X.K m S H/\RD X.K m H d x/\f7 X.K m H ds xs/\tO X (rD X) (iu k d ds S) m r H Q
theorem kW(h:dg S k=af ds):S[k]?=af (.lst ds):=by
 unfold dg at h;cases e:S[k]? with
 |none=>simp_all|some o=>
  rw[e]at h;cases o with|lst es=>cases h;rfl|dct _=>cases h|ins _ _=>cases h|xy _=>cases h
theorem QJ:DT X "list.append" (MW X .append):=by
 intro pins s σ H x xs v us Q I rx rv h;obtain⟨m,r,S,d,ds,sr,rd,rs,h⟩:=h;cases d with
 |ref k=>
  replace h:=qj (f:=nu k) h;obtain⟨d',rfl,h⟩:=h;obtain⟨a,rfl,hk⟩:=bT rd;obtain⟨y,rfl,ry⟩:=oW rs;unfold nu at h;cases e2:dg S k with
  |none=>rw[e2]at h;exact h.elim|some es=>rw[e2]at h;obtain⟨a',vs,h1,h2,h3⟩:=sr.lst (kW e2);rw[hk]at h1;have:=Wd h1;subst this;obtain⟨hz,h⟩:=tO.ite h;have rs':=h3.append (f7.cons ry f7.nil);exact Cd pins s σ H _ _ v us Q I rx rv ⟨a,vs,y,rfl,rfl,h2,by rw[←h3.length];exact hz,h.fin' (fk.write sr hk h2 _) (sr.write hk h2 rs') jJ⟩
 |_=>exact h.elim
def Dl{pins:List (aI×Obj)}{s:aE}{σ:L2.St}{H:Hp}{a:aI}{xs:List V}(I:Inv X pins σ H s)(h:tP X.K H a xs):∃(its:List av)(n:Nat),Vals xs its/\xs.length=its.length/\s.heap.get? a=af {cls:= .type "tuple",dict:=ah,data:= .seq its.toArray n,slots:= #[]}:=by
 rcases h with h|⟨o,its,n,hk,hc,hs,hz,r⟩
 ·obtain⟨z,its,r,⟨o,g1,g2,n,g3⟩,o2,g4,g5,g6⟩:=h.ok I.hok;rw[g1]at g4;cases g4;refine⟨its,n,r,r.length,?_⟩;obtain⟨oc,od,oda,os⟩:=o;lia
 ·refine⟨its.toList,n,r,r.length,?_⟩;obtain⟨oc,od,oda,os⟩:=o;simp only at hc hs;rw[I.BE a _ hk,hc,hs.1,hs.2.1,hs.2.2]
theorem QK:DT X "list.extend" (MW X .extend):=by
 intro pins s σ H x xs v us Q I rx rv h;obtain⟨m,r,S,d,ds,sr,rd,rs,h⟩:=h;cases d with
 |ref k=>
  replace h:=qj (f:=nA k) h;obtain⟨d',rfl,h⟩:=h;obtain⟨a,rfl,hk⟩:=bT rd;obtain⟨y,rfl,ry⟩:=oW rs;cases d' with
  |tup es=>
   obtain⟨b,zs,rfl,hq,rz⟩:=cW ry;replace h:tO X (rD X) (match dg S k with|none=>ah|some ds=>if ds.length+es.length<=aS then fy .non (S.set k (.lst (ds++es)))else ah) m r H Q:=h;cases e2:dg S k with
   |none=>rw[e2]at h;exact h.elim|some fs=>
    rw[e2]at h;obtain⟨a',vs,h1,h2,h3⟩:=sr.lst (kW e2);rw[hk]at h1;have:=Wd h1;subst this;obtain⟨hz,h⟩:=tO.ite h;cases rx;obtain⟨u,rfl,ru⟩:=vals1 rv;cases ru;obtain⟨z,its,n,r1,l1,g⟩:=I.CO h2;obtain⟨jts,n2,r2,l2,g2⟩:=Dl I hq;have hl3:=h3.length;have VI:=rz.length;have hsz:its.toArray.size+jts.toArray.size<=sizeLine:=by simp only[WX];lia
    refine call_meets F.slot_list_extend ⟨_,g,rfl⟩ F.entry_list_extend (F.args_list_extend_2 _ _) (AutoSeq1.list_extend_list_tuple_0 a its.toArray n b jts.toArray n2 (by rw[uB hsz,Bool.and_false];lia) (by simp_all) (Zm hsz)) ⟨g,g2,?_⟩;refine⟨.non,_,I.E0 (its':=its++jts) h2 g (by simp) (r1.append r2) (by simp_all),rfl,?_⟩;exact h.fin' (fk.write sr hk h2 _) (sr.write hk h2 (h3.append rz)) jJ
  |lst es=>
   obtain⟨b,zs,rfl,hq,hnm,rz⟩:=dB ry;replace h:tO X (rD X) (match dg S k with|none=>ah|some ds=>if ds.length+es.length<=aS then fy .non (S.set k (.lst (ds++es)))else ah) m r H Q:=h;cases e2:dg S k with
   |none=>rw[e2]at h;exact h.elim|some fs=>
    rw[e2]at h;obtain⟨a',vs,h1,h2,h3⟩:=sr.lst (kW e2);rw[hk]at h1;have:=Wd h1;subst this;obtain⟨hz,h⟩:=tO.ite h;cases rx;obtain⟨u,rfl,ru⟩:=vals1 rv;cases ru;obtain⟨z,its,n,r1,l1,g⟩:=I.CO h2;obtain⟨z2,jts,n2,r2,l2,g2⟩:=I.CO hq;have hl3:=h3.length;have VI:=rz.length;have hsz:its.toArray.size+jts.toArray.size<=sizeLine:=by simp only[WX];lia
    refine call_meets F.slot_list_extend ⟨_,g,rfl⟩ F.entry_list_extend (F.args_list_extend_2 _ _) (AutoSeq1.list_extend_list_list_0 a its.toArray n b jts.toArray n2 (by rw[uB hsz,Bool.and_false];lia) (by simp_all) (Zm hsz)) ⟨g,g2,?_⟩;refine⟨.non,_,I.E0 (its':=its++jts) h2 g (by simp) (r1.append r2) (by simp_all),rfl,?_⟩;exact h.fin' (fk.write sr hk h2 _) (sr.write hk h2 (h3.append rz)) jJ
  |_=>exact h.elim
 |_=>exact h.elim
theorem Lh:DT X "list.pop" (MW X .mT):=by
 intro pins s σ H x xs v us Q I rx rv h;obtain⟨m,r,S,d,ds,sr,rd,rs,h⟩:=h;cases d with
 |ref k=>
  replace h:=qj (f:=qb k) h;obtain⟨d',rfl,h⟩:=h;obtain⟨a,rfl,hk⟩:=bT rd;obtain⟨y,rfl,ry⟩:=oW rs;cases d' with
  |int i=>
   cases gx ry;replace h:tO X (rD X) (match dg S k with|none=>ah|some ds=>match L2.CC ds.length i with|none=>ah|some j=>match ds[j]? with|none=>ah|some d=>fy d (S.set k (.lst (ds.eraseIdx j)))) m r H Q:=h;cases e2:dg S k with
   |none=>rw[e2]at h;exact h.elim|some es=>
    rw[e2]at h;obtain⟨a',vs,h1,h2,h3⟩:=sr.lst (kW e2);rw[hk]at h1;have:=Wd h1;subst this;cases e3:L2.CC es.length i with
    |none=>simp only[e3]at h;exact h.elim|some j=>
     simp only[e3]at h;cases e4:es[j]? with
     |none=>simp only[e4]at h;exact h.elim|some d'=>
      simp only[e4]at h;obtain⟨w,h4,h5⟩:=h3.get e4;obtain⟨g1,g2,g3,g4⟩:=xR e3;have hl:es.length<=sizeLine:=by
       obtain⟨z,_⟩:=(show bB X.prog X.w H s.heap a (.lst vs)from I.hok a _ h2)
       rw[h3.length];exact z
      have hs:aS=16777216:=W6;exact GC pins s σ H _ _ v us Q I rx rv ⟨a,vs,i,j,w,rfl,rfl,h2,by lia,by lia,by rw[←h3.length];exact g1,h4,
       h.fin' (fk.write sr hk h2 _) (sr.write hk h2 (h3.eraseIdx j)) (h5.step (fk.write sr hk h2 _))⟩
  |_=>exact h.elim
 |_=>exact h.elim
def VO(X:Cx):V->List V->Hp->VK->Prop:=λx xs H Q=>∃m r S n ds,cS X.K m S H/\RD X.K m H (.ref n) x/\f7 X.K m H ds xs/\tO X (rD X) (jn n ds S) m r H Q
def Li:DT X "dict.pop" (VO X):=by
 intro pins s σ H x xs v us Q I rx rv h;obtain⟨m,r,S,n,ds,sr,rd,rs,h⟩:=h;unfold jn at h;split at h
 ·rename_i i;obtain⟨a,rfl,hk⟩:=bT rd;obtain⟨y,rfl,ry⟩:=oW rs;cases gx ry;split at h
  ·rename_i kvs e2;obtain⟨a',vs,h1,h2,h3⟩:=sr.dct e2;rw[hk]at h1;have:a=a':=by simpa using h1
   subst this;split at h
   ·rename_i d e3;cases rx;obtain⟨u,rfl,ru⟩:=vals1 rv;rcases h3.val (.inl i)with⟨z,_⟩|⟨d',w',z,z2,MX⟩
    ·lia
    ·rw[z]at e3;have:d'=d:=by simpa using e3
     subst this;have st:fk m m H (upd H a (.dK (j8 vs (.inl i)))):=fk.qV sr hk h2 trivial;exact Tt I h2 (k:= .inl i) ru z2 (.inl rfl) λw2 s' I' rw'=>⟨w',_,I',rw',h.fin' st (sr.qV hk h2 trivial λH' st' e=>⟨_,e,(h3.drop _).step st'⟩) (MX.step st)⟩
   ·exact h.elim
  ·exact h.elim
 ·exact h.elim
def ty_dict(sr:cS X.K m S H)(rd:RD X.K m H (.ref n) v)(e:S[n]?=af (.dct kvs)):GG X.K "dict" v H:=by
 obtain⟨a,rfl,hk⟩:=bT rd;obtain⟨a',vs,h1,h2,h3⟩:=sr.dct e;rw[hk]at h1;have:a=a':=by simpa using h1
 subst this;exact .inr (.inr (.inl ⟨rfl,.inl ⟨_,h2⟩⟩))
def QL(p₁:PlainAttrs T₁)(p₂:PlainAttrs T₂)(s₁:Slot T₁ name id₁)(s₂:Slot T₂ name id₂)(y₁:typeOf (.builtin id₁)=pure (.type "method_descriptor"))(y₂:typeOf (.builtin id₂)=pure (.type "method_descriptor"))(m₁:DT X id₁ r₁)(m₂:DT X id₂ r₂)(ho:PE X a to)(ha:PA X (b::es) ta)(hbase:attributeBase a name X.env (eval a X.env)=eval a X.env)(hfew:((backTo pos (starEach (b::es) X.env)).all (λx=>!x.1) && (backToKw pos (keywordEach [] X.env)).all (λx=>x.1.isSome)
   && decide ((b::es).length+([]:List Keyword).length+(if([]:List Keyword).isEmpty then 0 else 1)<30))=ai)(hline:(apos.endLine==pos.line)=ai)(hs:starEach (b::es) X.env=(ay,eval b X.env)::starEach es X.env)(hplain:(backTo pos (starEach es X.env)).any (·.1)=ay):
  PE X (.Call (.Attribute a name apos) (b::es) [] pos) λσ H Q=>to σ H λx H1=>(GG X.K T₁ x H1/\ta σ H1 λxs H2=>r₁ x xs H2 Q)\/(GG X.K T₂ x H1/\ta σ H1 λxs H2=>r₂ x xs H2 Q):=by
 intro pins s σ H Q I h;refine wpAny_Call_method_late hbase hfew hline rfl (ja (ho pins s σ H _ I h) λv s1 zz=>?_);obtain⟨x,H1,I1,r1,k⟩:=zz;rcases k with⟨ty,q1⟩|⟨ty,q1⟩
 ·obtain⟨g1,g2⟩:=lL I1 r1 ty;refine⟨T₁,id₁,p₁,s₁,y₁,g1,g2,?_⟩;have hA:=ha pos pins s1 σ H1 _ I1 q1;rw[hs]at hA ⊢;refine Calls.callWith_builtin (by show(ay || (backTo pos (starEach es X.env)).any (·.1))=ay;lia) (Calls.evalArgs_plain ?_);exact ja hA λus s2 z=>bJ z λvs H2 I2 r2 q2=>m₁ pins s2 σ H2 x vs v us Q I2 r1 r2 q2
 ·obtain⟨g1,g2⟩:=lL I1 r1 ty;refine⟨T₂,id₂,p₂,s₂,y₂,g1,g2,?_⟩;have hA:=ha pos pins s1 σ H1 _ I1 q1;rw[hs]at hA ⊢;refine Calls.callWith_builtin (by show(ay || (backTo pos (starEach es X.env)).any (·.1))=ay;lia) (Calls.evalArgs_plain ?_);exact ja hA λus s2 z=>bJ z λvs H2 I2 r2 q2=>m₂ pins s2 σ H2 x vs v us Q I2 r1 r2 q2
def ty_list{k:Mt}{ds:List D}{r:az}{Q:VK}(sr:cS X.K m S H)(rd:RD X.K m H d v)(hd:∃n,d= .ref n)(hs:∃n es,d= .ref n/\S[n]?=af (.lst es)):GG X.K "list" v H:=by
 obtain⟨n,es,rfl,e⟩:=hs;obtain⟨a,rfl,hk⟩:=bT rd;obtain⟨a',vs,h1,h2,h3⟩:=sr.lst e;rw[hk]at h1;have:a=a':=by simpa using h1
 subst this;exact .inl ⟨rfl,_,wc.of h2⟩
theorem yo(hpk:k≠ .mT){id:String}(slot:Slot "list" name id)(hty:typeOf (.builtin id)=pure (.type "method_descriptor"))(hm:DT X id (MW X k))(ho:JE X cl a a')(ha:JA X cl (b::es) (b'::es'))(hbase:attributeBase a name X.env (eval a X.env)=eval a X.env)(hfew:((backTo pos (starEach (b::es) X.env)).all (λx=>!x.1) && (backToKw pos (keywordEach [] X.env)).all (λx=>x.1.isSome)
   && decide ((b::es).length+([]:List Keyword).length+(if([]:List Keyword).isEmpty then 0 else 1)<30))=ai)(hline:(apos.endLine==pos.line)=ai)(hs:starEach (b::es) X.env=(ay,eval b X.env)::starEach es X.env)(hplain:(backTo pos (starEach es X.env)).any (·.1)=ay):
  JE X cl (.Call (.Attribute a name apos) (b::es) [] pos) (.meth k a' (b'::es')):=by
 refine PE.imp (zP iA slot hty hm ho ha hbase hfew hline hs hplain) λσ H Q h=>?_;refine tM.el h λm r S er sr h=>?_;have h:tO X (rD X) (bnd (aj cl a' r S) λx S1=>match x with
  |.ref n=>(match S1[n]? with|some (.lst _)=>bnd (aF cl (b'::es') r S1) λds S2=>iu k (.ref n) ds S2|some (.dct _)=>(match(generalizing:=false) k with|.mT=>bnd (aF cl (b'::es') r S1) λds S2=>jn n ds S2|_=>ah)|_=>ah)|_=>ah) m r H Q:=h
 refine⟨m,r,S,er,sr,h.bnd.mono λv H1 zz=>?_⟩;refine aN zz λm1 x S1 st1 e8 rx h1=>?_;cases x with
 |ref n=>
  cases e:S1[n]? with
  |none=>simp only[e]at h1;exact h1.elim|some o=>
   cases o with
   |lst l=>simp only[e]at h1;refine⟨ty_list (k:=k) (ds:=[]) (r:=r) (Q:=Q) e8 rx ⟨n,rfl⟩ ⟨n,l,rfl,e⟩,m1,r,S1,er.step st1,e8,h1.bnd.mono λw H2 zz=>?_⟩;refine aN zz λm2 ds S2 st2 oj rs h2=>?_;exact⟨m2,r,S2,.ref n,ds,oj,rx.step st2,rs,h2⟩|dct _=>simp only[e]at h1;cases k<;>first|exact h1.elim|exact absurd rfl hpk
   |ins _ _=>simp only[e]at h1;exact h1.elim|xy _=>simp only[e]at h1;exact h1.elim
 |_=>exact h1.elim
theorem QM(ho:JE X cl a a')(ha:JA X cl (b::es) (b'::es'))(hbase:attributeBase a "pop" X.env (eval a X.env)=eval a X.env)(hfew:((backTo pos (starEach (b::es) X.env)).all (λx=>!x.1) && (backToKw pos (keywordEach [] X.env)).all (λx=>x.1.isSome)
   && decide ((b::es).length+([]:List Keyword).length+(if([]:List Keyword).isEmpty then 0 else 1)<30))=ai)(hline:(apos.endLine==pos.line)=ai)(hs:starEach (b::es) X.env=(ay,eval b X.env)::starEach es X.env)(hplain:(backTo pos (starEach es X.env)).any (·.1)=ay):
  JE X cl (.Call (.Attribute a "pop" apos) (b::es) [] pos) (.meth .mT a' (b'::es')):=by
 refine PE.imp (QL iA iE PySem.F.slot_list_pop oz PySem.F.type_list_pop PySem.F.type_dict_pop Lh Li ho ha hbase hfew hline hs hplain) λσ H Q h=>?_;refine tM.el h λm r S er sr h=>?_;have h:tO X (rD X) (bnd (aj cl a' r S) λx S1=>match x with
  |.ref n=>(match S1[n]? with|some (.lst _)=>bnd (aF cl (b'::es') r S1) λds S2=>iu .mT (.ref n) ds S2|some (.dct _)=>(bnd (aF cl (b'::es') r S1) λds S2=>jn n ds S2)|_=>ah)|_=>ah) m r H Q:=h
 refine⟨m,r,S,er,sr,h.bnd.mono λv H1 zz=>?_⟩;refine aN zz λm1 x S1 st1 e8 rx h1=>?_;cases x with
 |ref n=>
  cases e:S1[n]? with
  |none=>simp only[e]at h1;exact h1.elim|some o=>
   cases o with|lst l=>simp only[e]at h1;refine .inl ⟨ty_list (k:= .mT) (ds:=[]) (r:=r) (Q:=Q) e8 rx ⟨n,rfl⟩ ⟨n,l,rfl,e⟩,m1,r,S1,er.step st1,e8,h1.bnd.mono λw H2 zz=>?_⟩;refine aN zz λm2 ds S2 st2 oj rs h2=>?_;exact⟨m2,r,S2,.ref n,ds,oj,rx.step st2,rs,h2⟩|dct kvs=>simp only[e]at h1;refine .inr ⟨ty_dict e8 rx e,m1,r,S1,er.step st1,e8,h1.bnd.mono λw H2 zz=>?_⟩;refine aN zz λm2 ds S2 st2 oj rs h2=>?_;exact⟨m2,r,S2,n,ds,oj,rx.step st2,rs,h2⟩|ins _ _=>simp only[e]at h1;exact h1.elim|xy _=>simp only[e]at h1;exact h1.elim
 |_=>exact h1.elim
end
end RK
namespace RK
open PySem L2 PySem.SeqAt
section
variable{X:Cx}{cl:Nat->List D->bq->Ev D}{a b c:bE}{a' b':E}{t:T}{es:List bE}{pos p:Pos}
def gT(X:Cx)(t:Tg):TG:=λv σ H Q=>∃m r d r',iL X.K m H r σ/\RD X.K m H d v/\bN t d r=af r'/\∀σ',iL X.K m H r' σ'->Q σ' H
def VQ(X:Cx)(t:List Tg):F8:=λvs σ H Q=>∃m r ds r',iL X.K m H r σ/\f7 X.K m H ds vs/\jo t ds r=af r'/\∀σ',iL X.K m H r' σ'->Q σ' H
def PG.imp(h:PG X tg g)(q:∀v σ H Q,g' v σ H Q->g v σ H Q):PG X tg g':=λpins s σ H v u Q I r w=>h pins s σ H v u Q I r (q _ _ _ _ w)
def ER.imp(h:ER X tg g)(q:∀v σ H Q,g' v σ H Q->g v σ H Q):ER X tg g':=λpins s σ H v u Q I r w=>h pins s σ H v u Q I r (q _ _ _ _ w)
abbrev JG(X:Cx)(tg:bE)(t:Tg):Prop:=PG X tg (gT X t)
abbrev LP(X:Cx)(tg:List bE)(t:List Tg):Prop:=ER X tg (VQ X t)
def rn(hN:X.N.Nodup)(hi:X.N[i]?=af x)(hx:Loc X.env.scope x)(hf:X.fn x=ai\/X.env.scope.names.lookup x=af .local):JG X (.Name x pos) (.name i):=by refine PG.imp (Kd hN hi hx hf) λv σ H Q h=>?_;obtain⟨m,r,d,r',er,rd,e,q⟩:=h;have e':r.set i (af d)=r':=Wd e;subst e';exact q _ (er.set rd)
def Lj:LP X [] []:=by
 refine ER.imp Ke λv σ H Q h=>?_;obtain⟨m,r,ds,r',er,rd,e,q⟩:=h;cases ds with|nil=>have e':r=r':=Wd e;subst e';exact⟨rd.nil_of,q _ er⟩|cons d ds=>cases e
theorem Hd{t:Tg}(h1:JG X e t)(h2:LP X es ts)(hs:(assignEach (e::es) X.env).map (·.2)=assign e X.env::(assignEach es X.env).map (·.2)):LP X (e::es) (t::ts):=by
 refine ER.imp (Gq h1 h2 hs) λvs σ H Q h=>?_;obtain⟨m,r,ds,r',er,rd,e,q⟩:=h;cases ds with
 |nil=>cases e|cons d ds=>
  obtain⟨v,vr,rfl,rv,rvs⟩:=rd.cons_of;replace e:(match bN t d r with|some r1=>jo ts ds r1|none=>ah)=af r':=e;cases e1:bN t d r with|none=>simp_all|some r1=>rw[e1]at e;exact⟨v,vr,rfl,m,r,d,r1,er,rv,e1,λσ1 DZ=>⟨m,r1,ds,r',DZ,rvs,e,q⟩⟩
theorem s8:∀{ts:List Tg}{ds:List D}{r r':az},jo ts ds r=af r'->ds.length=ts.length
 |[],[],_,_,_=>rfl|[],_::_,_,_,h=>by cases h|_::_,[],_,_,h=>by cases h|t::ts,d::ds,r,r',h=>by
  replace h:(match bN t d r with|some r1=>jo ts ds r1|none=>ah)=af r':=h;cases e1:bN t d r with|none=>simp_all|some r1=>rw[e1]at h;simp[s8 h]
theorem QQ(hc:X.calm=ai)(h:LP X es ts)(hn:(assignEach es X.env).length=ts.length)(hst:(assignEach es X.env).findIdx? (·.1)=ah):JG X (.Tuple es k pos) (.tup ts):=by
 refine PG.imp (Oo hc h hn hst) λv σ H Q h=>?_;obtain⟨m,r,d,r',er,rd,e,q⟩:=h;cases d with
 |tup ds=>obtain⟨a,vs,rfl,hq,rs⟩:=cW rd;replace e:jo ts ds r=af r':=e;exact⟨a,vs,rfl,hq,by rw[←rs.length];exact s8 e,m,r,ds,r',er,rs,e,q⟩
 |_=>cases e
def tF(X:Cx)(o:Option Fl)(m:List aI)(H:Hp)(N:Ends):Prop:=match o with
 |none=>False|some (.next r S)=>∀m' H' σ',fk m m' H H'->iL X.K m' H' r σ'->cS X.K m' S H'->N.nx σ' H'|some (.brk r S)=>∀m' H' σ',fk m m' H H'->iL X.K m' H' r σ'->cS X.K m' S H'->N.bk σ' H'|some (.cont r S)=>∀m' H' σ',fk m m' H H'->iL X.K m' H' r σ'->cS X.K m' S H'->N.ct σ' H'|some (.ret d S)=>∀m' H' v,fk m m' H H'->cS X.K m' S H'->RD X.K m' H' d v->N.rt v H'|some (.exc c r S)=>XQ X m H r c S
def tC(X:Cx)(f:az->bq->Option Fl):TS:=λN σ H=>∃m r S,iL X.K m H r σ/\cS X.K m S H/\tF X (f r S) m H N
abbrev JS(X:Cx)(cl:Nat->List D->bq->Ev D)(st:fT)(c:C):Prop:=PS X st (tC X (runC cl c))
abbrev CD(X:Cx)(cl:Nat->List D->bq->Ev D)(st:List fT)(c:List C):Prop:=C2 X st (tC X (dS cl c))
theorem tF.step(h:tF X o m H N)(s:fk m m' H H'):tF X o m' H' N:=by
 cases o with
 |none=>exact h|some o=>
  cases o with|next r S=>exact λm2 H2 σ st er sr=>h m2 H2 σ (s.trans st) er sr|brk r S=>exact λm2 H2 σ st er sr=>h m2 H2 σ (s.trans st) er sr|cont r S=>exact λm2 H2 σ st er sr=>h m2 H2 σ (s.trans st) er sr|ret d S=>exact λm2 H2 v st sr rd=>h m2 H2 v (s.trans st) sr rd|exc c r S=>exact XQ.step h s
theorem tF.fN{α β:Type}{R:RR α β}{o:Ev α}{r:az}{k:α->bq->Option Fl}{m:List aI}{H:Hp}{N:Ends}(h:tF X (fN o r k) m H N):
  tO X R o m r H λv H1=>∃m1 a S1,fk m m1 H H1/\cS X.K m1 S1 H1/\R m1 H1 a v/\tF X (k a S1) m1 H1 N:=by
 cases o with
 |none=>exact h|some o=>
  cases o with|ok d S'=>exact λm1 H1 v st sr rd=>⟨m1,d,S',st,sr,rd,tF.step (h:tF X (k d S') m H N) st⟩|exc c S'=>exact h
theorem tF.AN(h:tF X (AN o k) m H N):tF X o m H {N with nx:=tC X k N}:=by
 cases o with
 |none=>exact h|some o=>
  cases o with|next r S=>exact λm2 H2 σ st er sr=>⟨m2,r,S,er,sr,tF.step (h:tF X (k r S) m H N) st⟩|brk r S=>exact h|cont r S=>exact h|ret d S=>exact h|exc c r S=>exact h
theorem tF.AD(h:tF X (AD o k) m H N)(hw:∀m' H' σ' r S,fk m m' H H'->iL X.K m' H' r σ'->cS X.K m' S H'->tF X (k r S) m' H' N->W σ' H'):tF X o m H {N with nx:=W,ct:=W,bk:=N.nx}:=by
 cases o with
 |none=>exact h|some o=>
  cases o with|next r S=>exact λm2 H2 σ st er sr=>hw m2 H2 σ r S st er sr (tF.step (h:tF X (k r S) m H N) st)|cont r S=>exact λm2 H2 σ st er sr=>hw m2 H2 σ r S st er sr (tF.step (h:tF X (k r S) m H N) st)|brk r S=>exact h|ret d S=>exact h|exc c r S=>exact h
def yq:CD X cl [] []:=C2.imp J8 λN σ H z=>bO z λm r S er sr h=>h m H σ (fk.refl _ _) er sr
def uW{rest:List fT}{c:C}(h1:JS X cl st c)(h2:CD X cl rest cs):CD X cl (st::rest) (c::cs):=by refine C2.imp (Gm h1 h2) λN σ H h=>?_;refine bO h λm r S er sr h=>?_;have h:tF X (AN (runC cl c r S) λr S=>dS cl cs r S) m H N:=h;exact⟨m,r,S,er,sr,h.AN⟩
def qx{t:Tg}(he:JE X cl e e')(hg:JG X tg t)(hs:swapsWithSole [tg] e pos.line X.env=pure ay)(hw:swappedStores [tg] e X.env=pure ah)(h1:(assignEach [tg] X.env).map (·.2)=[assign tg X.env]):
  JS X cl (.Assign [tg] e pos) (.asg t e'):=by
 refine PS.imp (By he hg hs hw h1) λN σ H h=>?_;refine bO h λm r S er sr h=>?_;have h:tF X (fN (aj cl e' r S) r λd S1=>match bN t d r with|some r'=>af (.next r' S1)|none=>ah) m H N:=h;refine⟨m,r,S,er,sr,h.fN.mono λv H1 zz=>?_⟩;refine aN zz λm1 d S1 st1 e8 rd h1=>?_;cases e1:bN t d r with|none=>rw[e1]at h1;exact h1.elim|some r'=>rw[e1]at h1;exact⟨m1,r,d,r',er.step st1,rd,e1,λσ' LS=>h1 m1 H1 σ' (fk.refl _ _) LS e8⟩
def QR(hu:X.A.units+66<cLine)(ho:JE X cl o o')(hi:JE X cl i i')(he:JE X cl e e')(hs:swapsWithSole [.Subscript o i sp] e pos.line X.env=pure ay)(hw:swappedStores [.Subscript o i sp] e X.env=pure ah)(ha:∀v,assign (.Subscript o i sp) X.env v=(do
   let ov ←holding [v] (eval o X.env)
   let iv ←holding [v,ov] (eval i X.env)
   standAt sp
   holding [v,ov,iv] (setItem ov iv v)
   release [v,ov,iv] [])):JS X cl (.Assign [.Subscript o i sp] e pos) (.sub o' i' e'):=by
 refine PS.imp (By he (Oq ho hi (KJ (by lia)) ha) hs hw rfl) λN σ H h=>?_;refine bO h λm r S er sr h=>?_;have h:tF X (fN (aj cl e' r S) r λd S1=>fN (aj cl o' r S1) r λa S2=>fN (aj cl i' r S2) r λb S3=>match putAt a b d S3 with|some S4=>af (.next r S4)|none=>ah) m H N:=h;refine⟨m,r,S,er,sr,h.fN.mono λv H1 zz=>?_⟩;refine aN zz λm1 d S1 st1 e8 rd h1=>?_;refine⟨m1,r,S1,er.step st1,e8,h1.fN.mono λx H2 zz=>?_⟩;refine aN zz λm2 a S2 st2 oj ra h2=>?_;refine⟨m2,r,S2,(er.step st1).step st2,oj,h2.fN.mono λy H3 zz=>?_⟩;refine aN zz λm3 b S3 st3 E4 rb h3=>?_;cases ep:putAt a b d S3 with|none=>rw[ep]at h3;exact h3.elim|some S4=>rw[ep]at h3;refine⟨m3,S3,a,b,d,E4,ra.step st3,rb,(rd.step st2).step st3,S4,ep,λH' st AU=>?_⟩;exact h3 m3 H' σ st (((er.step st1).step st2).step (st3.trans st)) AU
def Ua(he:JE X cl e e')(hs:swapsWith e ah pos.line X.env=pure ay):JS X cl (.Expr e pos) (.ex e'):=by refine PS.imp (Ka he hs) λN σ H h=>?_;refine bO h λm r S er sr h=>?_;have h:tF X (fN (aj cl e' r S) r λd S1=>af (.next r S1)) m H N:=h;exact⟨m,r,S,er,sr,h.fN.mono λv H1 z=>aN z λm1 d S1 st1 e8 rd h1=>h1 m1 H1 σ (fk.refl _ _) (er.step st1) e8⟩
def QS:JS X cl (.Expr (.Constant (.str x) j pos) pos') .pass:=
 PS.imp Oj λN σ H z=>bO z λm r S er sr h=>h m H σ (fk.refl _ _) er sr
def Lk:JS X cl (.Pass pos) .pass:=PS.imp J9 λN σ H z=>bO z λm r S er sr h=>h m H σ (fk.refl _ _) er sr
def QT:JS X cl (.Break pos) .brk:=PS.imp Gn λN σ H z=>bO z λm r S er sr h=>h m H σ (fk.refl _ _) er sr
def Ln:JS X cl (.Continue pos) .cont:=PS.imp xg λN σ H z=>bO z λm r S er sr h=>h m H σ (fk.refl _ _) er sr
def QV(he:JE X cl e e'):JS X cl (.Return (af e) pos) (.ret e'):=by refine PS.imp (Ol he) λN σ H h=>?_;refine bO h λm r S er sr h=>?_;have h:tF X (fN (aj cl e' r S) r λd S1=>af (.ret d S1)) m H N:=h;exact⟨m,r,S,er,sr,h.fN.mono λv H1 z=>aN z λm1 d S1 st1 e8 rd h1=>h1 m1 H1 v (fk.refl _ _) e8 rd⟩
def Lp:JS X cl (.Return ah pos) .GL:=PS.imp Kc λN σ H z=>bO z λm r S er sr h=>h m H _ (fk.refl _ _) sr jJ
def Ub(hc:JT X cl e t)(ha:CD X cl st cs)(hb:CD X cl st' cs'):JS X cl (.If e st st' pos) (.cond t cs cs'):=by
 refine PS.imp (SM hc ha hb) λN σ H h=>?_;refine bO h λm r S er sr h=>?_;have h:tF X (fN (aO cl t r S) r λx S1=>if x then dS cl cs r S1 else dS cl cs' r S1) m H N:=h;refine⟨m,r,S,er,sr,h.fN.mono λv H1 zz=>?_⟩;refine aN zz λm1 x S1 st1 e8 rx h1=>?_;have rx:x=v:=rx;subst rx;cases x with|true=>rw[if_pos rfl];exact⟨m1,r,S1,er.step st1,e8,h1⟩|false=>rw[if_neg (by simp)];exact⟨m1,r,S1,er.step st1,e8,h1⟩
theorem Hf(hp:PassesOwn (model X.prog X.w) X.A X.env X.xe)(hc:JT X cl e t)(hb:CD X cl st cs):JS X cl (.While e st [] pos) (.wh t cs):=by
 refine PS.imp (Gr hp hc hb) λN σ H h=>?_;refine bO h λm r S er sr h=>?_;refine⟨λn σ H=>∃m r S,iL X.K m H r σ/\cS X.K m S H/\tF X (fH (λr S=>aO cl t r S) (λr S=>dS cl cs r S) n r S) m H N,⟨1000,m,r,S,er,sr,h⟩,?_⟩;rintro n σ H ⟨m,r,S,er,sr,h⟩;cases n with
 |zero=>exact h.elim|succ n=>
  simp only[fH]at h;have h:tF X (fN (aO cl t r S) r λx S1=>if x then AD (dS cl cs r S1) λr S=>fH (λr S=>aO cl t r S) (λr S=>dS cl cs r S) n r S else af (.next r S1)) m H N:=by
   cases e:aO cl t r S with
   |none=>rw[e]at h;exact h|some o=>
    rw[e]at h;cases o with|exc c S=>exact h|ok x S1=>cases x<;>exact h
  refine⟨m,r,S,er,sr,h.fN.mono λv H1 zz=>?_⟩;refine aN zz λm1 x S1 st1 e8 rx h1=>?_;have rx:x=v:=rx;subst rx;cases x with|false=>rw[if_neg (by simp)];exact h1 m1 H1 σ (fk.refl _ _) (er.step st1) e8|true=>rw[if_pos rfl];have h1:tF X (AD (dS cl cs r S1) λr S=>fH (λr S=>aO cl t r S) (λr S=>dS cl cs r S) n r S) m1 H1 N:=h1;refine⟨λσ' H'=>∃m r S,iL X.K m H' r σ'/\cS X.K m S H'/\tF X (fH (λr S=>aO cl t r S) (λr S=>dS cl cs r S) n r S) m H' N,λσ' H' q=>⟨n,Zx n,q⟩,?_⟩;exact⟨m1,r,S1,er.step st1,e8,h1.AD λm' H' σ' r' S' st er sr h=>⟨m',r',S',er,sr,h⟩⟩
def jK(X:Cx)(m:List aI)(H:Hp)(ds:List D)(J:L2.It):Prop:=∀m' H',fk m m' H H'->(∀a∈m',H' a≠ah)->J.stop ds.length H'/\∀(i:Nat)(d:D),ds[i]?=af d->
 J.go i H'/\∀x BI,J.Lv i H' x BI->fk m' m' H' BI/\(∀a∈m',BI a=H' a)/\RD X.K m' BI d x
abbrev rI(X:Cx):RR (List D) L2.It:=λm H ds J=>jK X m H ds J
abbrev JI(X:Cx)(cl:Nat->List D->bq->Ev D)(tg iter:bE)(i:It):Prop:=PI X tg iter (tM X (rI X) (bH cl i))
def PI.imp(h:PI X tg iter w)(q:∀σ H R,w' σ H R->w σ H R):PI X tg iter w':=λpins s σ H R I z=>h pins s σ H R I (q _ _ _ z)
def PI.or(h:PI X tg iter w)(h':PI X tg iter w'):PI X tg iter (λσ H R=>w σ H R\/w' σ H R):=λpins s σ H R I z=>by
 rcases z with z|z
 ·exact h pins s σ H R I z
 ·exact h' pins s σ H R I z
def Ag{a:aI}(hq:tP X.K H a vs)(rs:f7 X.K m H ds vs)(inj:∀H' ys,tP X.K H' a vs->tP X.K H' a ys->True):jK X m H ds (N3 X.K a):=by
 intro m' H' st _;have hq':=st.LG hq;have rs':=rs.step st;refine⟨⟨vs,hq',by rw[rs.length];lia⟩,λi d hd=>?_⟩;obtain⟨v,h1,h2⟩:=rs'.get hd;refine⟨⟨vs,v,hq',h1⟩,λx BI y=>?_⟩;obtain⟨rfl,y⟩:=y;have e:=y vs hq';rw[h1]at e;have ev:v=x:=by simpa using e
 subst ev;exact⟨fk.refl _ _,λ_ _=>rfl,h2⟩
def tu{a:aI}(hq:∀m' H',fk m m' H H'->wc X.K H' a vs)(rs:f7 X.K m H ds vs):jK X m H ds (N2 X.K a):=by
 intro m' H' st _;have hq':=hq m' H' st;have rs':=rs.step st;refine⟨⟨vs,hq',by rw[rs.length];lia⟩,λi d hd=>?_⟩;obtain⟨v,h1,h2⟩:=rs'.get hd;refine⟨⟨vs,v,hq',h1⟩,λx BI y=>?_⟩;obtain⟨rfl,y⟩:=y;have e:=y vs hq';rw[h1]at e;have ev:v=x:=by simpa using e
 subst ev;exact⟨fk.refl _ _,λ_ _=>rfl,h2⟩
def uX(hn:n=(hi - lo).toNat):jK X m H (cg lo hi) (MQ lo n):=by
 subst hn;intro m' H' st _;refine⟨show(hi - lo).toNat<=(cg lo hi).length by simp[cg],λi d hd=>?_⟩;simp only[cg,Xm]at hd;have hi':i<(hi - lo).toNat:=by
  by_cases h:i<(hi - lo).toNat
  ·exact h
  ·simp_all
 rw[List.getElem?_range hi']at hd;have ed:D.int (lo+(i:Int))=d:=by simpa using hd
 subst ed;refine⟨hi',λx BI y=>?_⟩;obtain⟨rfl,rfl⟩:=y;exact⟨fk.refl _ _,λ_ _=>rfl,cj⟩
theorem QW(ha:JE X cl a a'):JI X cl tg a (.seq a'):=by
 refine PI.imp (PI.or (qR ha) (Ou ha)) λσ H R h=>?_;refine bO h λm r S er sr h=>?_;have h:tO X (rI X) (bnd (aj cl a' r S) λx S1=>match x with|.tup ds=>fy ds S1|.lst ds=>fy ds S1|.As ns=>fy (ns.map .int) S1|_=>ah) m r H R:=h;cases e:aj cl a' r S with
 |none=>rw[e]at h;exact h.elim|some o=>
  cases o with
  |exc c S1=>rw[e]at h;exact .inl ⟨m,r,S,er,sr,by rw[e];exact h⟩|ok x S1=>
   rw[e,aH]at h;cases x with
   |tup ds=>refine .inr ⟨m,r,S,er,sr,?_⟩;rw[e];intro m1 H1 v st1 e8 rd;obtain⟨p,vs,rfl,hq,rs⟩:=cW rd;exact⟨p,rfl,⟨vs,hq⟩,h m1 H1 _ st1 e8 (Ag hq rs λ_ _ _ _=>trivial)⟩
   |lst ds=>refine .inl ⟨m,r,S,er,sr,?_⟩;rw[e];intro m1 H1 v st1 e8 rd;obtain⟨p,vs,rfl,hq,hn,rs⟩:=dB rd;exact⟨p,rfl,⟨vs,wc.of hq⟩,h m1 H1 _ st1 e8 (tu (λm' H' st=>wc.of (st.BH _ _ hq hn)) rs)⟩
   |As ns=>refine .inl ⟨m,r,S,er,sr,?_⟩;rw[e];intro m1 H1 v st1 e8 rd;obtain⟨p,rfl,hq⟩:=uH rd;exact⟨p,rfl,⟨_,hq.sq⟩,h m1 H1 _ st1 e8 (tu (λm' H' st=>(st.C7 hq).sq) cX)⟩
   |_=>exact h.elim
theorem Dm(hg:Gl X "range")(hm:X.mg "range" =ah)(hb:JE X cl b b')(hs:starEach [b] X.env=[(ay,eval b X.env)]):JI X cl tg (.Call (.Name "range" p2) [b] [] pos) (.lS b'):=by
 refine PI.imp (BK hg hm (cQ hb eZ hs) hs) λσ H R h=>?_;refine bO h λm r S er sr h=>?_;have h:tO X (rI X) (bnd (aj cl b' r S) λy S1=>match y with|.int j=>(if -(2^62)<=j/\j<2^62 then fy (cg 0 j) S1 else ah)|_=>ah) m r H R:=h;refine⟨m,r,S,er,sr,h.bnd.mono λv H1 zz=>?_⟩;refine aN zz λm1 y S1 st1 e8 ry h1=>?_;cases y with
 |int j=>
  simp only at h1;by_cases hb: -(2^62)<=j/\j<2^62
  ·rw[if_pos hb]at h1;exact⟨j,by rw[gx ry],hb.1,hb.2,h1.fin e8 (uX (by simp))⟩
  ·rw[if_neg hb]at h1;exact h1.elim
 |_=>exact h1.elim
def Dn(hp:PassesOwn (model X.prog X.w) X.A X.env X.xe)(hc:X.calm=ai)(hi:JI X cl tg iter i)(hg:JG X tg tt)(hb:CD X cl st cs)(hs:∀x,foldedSetIterable iter X.env x=pure x):
  JS X cl (.For tg iter st [] pos) (.fr tt i cs):=by
 refine PS.imp (BP hp hc hi hg hb hs) λN σ H h=>?_;refine bO h λm r S er sr h=>?_;have h:tF X (fN (bH cl i r S) r λds S1=>forLoop (λr S=>dS cl cs r S) tt ds r S1) m H N:=h;refine⟨m,r,S,er,sr,h.fN.mono λJ H0 zz=>?_⟩;obtain⟨m0,ds,S0,st0,VS,Y,h0⟩:=zz;have Y:jK X m0 H0 ds J:=Y;refine⟨λi k σ H=>k=ds.length - i/\i<=ds.length/\∃m1 r1 S1,fk m0 m1 H0 H/\iL X.K m1 H r1 σ/\cS X.K m1 S1 H/\tF X (forLoop (λr S=>dS cl cs r S) tt (ds.drop i) r1 S1) m1 H N,
  ⟨ds.length,by simp,WP _,m0,r,S0,fk.refl _ _,er.step st0,VS,by simpa using h0⟩,?_⟩
 rintro i k σ1 H1 ⟨rfl,hi,m1,r1,S1,st1,DZ,e8,h1⟩;obtain⟨EC,VT⟩:=Y m1 H1 st1 (λa ha=>e8.there ha);by_cases hlt:i<ds.length
 ·right;have ed:ds[i]?=af ds[i]:=Wq hlt;obtain⟨go,yl⟩:=VT i _ ed;refine⟨go,λσ' H'=>i+1<=ds.length/\∃m1 r1 S1,fk m0 m1 H0 H'/\iL X.K m1 H' r1 σ'/\cS X.K m1 S1 H'/\tF X (forLoop (λr S=>dS cl cs r S) tt (ds.drop (i+1)) r1 S1) m1 H' N,
   λσ' H' q=>⟨ds.length - (i+1),by lia,rfl,q.1,q.2⟩,λx H2 y=>?_⟩
  obtain⟨st2,same,rx⟩:=yl x H2 y;have GV:ds.drop i=ds[i]::ds.drop (i+1):=Yb hlt;rw[GV]at h1;simp only[forLoop]at h1;cases es:bN tt ds[i] r1 with|none=>rw[es]at h1;exact h1.elim|some r2=>rw[es]at h1;have h1:tF X (AD (dS cl cs r2 S1) λr S=>forLoop (λr S=>dS cl cs r S) tt (ds.drop (i+1)) r S) m1 H1 N:=h1;have oj:=e8.keep st2 same;refine⟨m1,r1,ds[i],r2,DZ.step st2,rx,es,λσ2 Cn=>⟨m1,r2,S1,Cn,oj,?_⟩⟩;exact(h1.step st2).AD λm' H' σ' r' S' st er sr h=>⟨hlt,m',r',S',(st1.trans st2).trans st,er,sr,h⟩
 ·left;have ei:i=ds.length:=by lia
  subst ei;refine⟨EC,?_⟩;rw[kg]at h1;exact h1 m1 H1 σ1 (fk.refl _ _) DZ e8
end
end RK
namespace RK
open PySem L2 PySem.SeqAt PySem.Spec
section
variable{K:aT}{m t:List aI}{H H':Hp}
mutual
theorem uY:∀{d:D}{v:V},RD K m H d v->r6 m.length d
 |.non,_,_=>trivial|.bl _,_,_=>trivial|.int _,_,_=>trivial|.str _,_,_=>trivial|.tup ds,v,h=>by unfold RD at h;obtain⟨a,vs,_,_,r⟩:=h;exact nM r
 |.lst ds,v,h=>by unfold RD at h;obtain⟨a,vs,_,_,_,r⟩:=h;exact nM r
 |.As _,_,_=>trivial|.ref k,v,h=>by unfold RD at h;obtain⟨a,_,q⟩:=h;exact(Wi.mp q).1
 |.FU _,_,h=>trivial|.ET,_,_=>trivial
theorem nM:∀{ds:List D}{vs:List V},f7 K m H ds vs->r6.clos m.length ds
 |[],_,_=>trivial|d::ds,vs,h=>by obtain⟨v,r,_,h1,h2⟩:=h.cons_of;exact⟨uY h1,nM h2⟩
end
mutual
theorem RD.less:∀{d:D}{v:V},RD K (m++t) H d v->r6 m.length d->RD K m H d v
 |.non,_,h,_=>h|.bl _,_,h,_=>h|.int _,_,h,_=>h|.str _,_,h,_=>h|.tup ds,v,h,c=>by unfold RD at h ⊢;obtain⟨a,vs,e,q,r⟩:=h;exact⟨a,vs,e,q,f7.less r c⟩
 |.lst ds,v,h,c=>by unfold RD at h ⊢;obtain⟨a,vs,e,q,n,r⟩:=h;exact⟨a,vs,e,q,λz=>n (Yi _ z),f7.less r c⟩
 |.As _,_,h,_=>h|.ref k,v,h,c=>by unfold RD at h ⊢;obtain⟨a,e,q⟩:=h;exact⟨a,e,by rw[Ws (show k<m.length from c)]at q;exact q⟩
 |.FU _,_,h,_=>h|.ET,_,_,_=>trivial
theorem f7.less:∀{ds:List D}{vs:List V},f7 K (m++t) H ds vs->r6.clos m.length ds->f7 K m H ds vs
 |[],_,h,_=>h|d::ds,vs,h,c=>by obtain⟨v,r,rfl,h1,h2⟩:=h.cons_of;exact .cons (RD.less h1 c.1) (f7.less h2 c.2)
end
theorem sM.closed:∀{a:List (Key×D)}{b:List (Key×V)},sM K m H a b->∀p∈a,r6 m.length p.2
 |[],[],_,p,hp=>by cases hp|x::ps,q::qs,h,p,hp=>by
  rcases We.mp hp with rfl|hp
  ·exact uY h.2.1
  ·exact sM.closed h.2.2 p hp
 |[],_::_,h,_,_=>h.elim|_::_,[],h,_,_=>h.elim
theorem sM.less:∀{a:List (Key×D)}{b:List (Key×V)},sM K (m++t) H a b->(∀p∈a,r6 m.length p.2)->sM K m H a b
 |[],[],_,_=>trivial|p::ps,q::qs,h,c=>⟨h.1,RD.less h.2.1 (c p (by simp)),sM.less h.2.2 λx hx=>c x (by simp[hx])⟩|[],_::_,h,_=>h.elim|_::_,[],h,_=>h.elim
theorem AS.closed:∀{a:List (Str×D)}{b:List (Str×V)},AS K m H a b->∀p∈a,r6 m.length p.2
 |[],[],_,p,hp=>by cases hp|x::ps,q::qs,h,p,hp=>by
  rcases We.mp hp with rfl|hp
  ·exact uY h.2.1
  ·exact AS.closed h.2.2 p hp
 |[],_::_,h,_,_=>h.elim|_::_,[],h,_,_=>h.elim
theorem AS.less:∀{a:List (Str×D)}{b:List (Str×V)},AS K (m++t) H a b->(∀p∈a,r6 m.length p.2)->AS K m H a b
 |[],[],_,_=>trivial|p::ps,q::qs,h,c=>⟨h.1,RD.less h.2.1 (c p (by simp)),AS.less h.2.2 λx hx=>c x (by simp[hx])⟩|[],_::_,h,_=>h.elim|_::_,[],h,_=>h.elim
theorem cS.LU(nd:m.Nodup)(h':cS K (m++t) S' H')(c:∀o∈S'.take m.length,uG m.length o):cS K m (S'.take m.length) H':=by
 have hl:m.length<=S'.length:=by rw[←h'.len,WK];exact WD ..
 refine⟨by simp_all,nd,λk a o h1 h2=>?_⟩;have hk:k<m.length:=(Wi.mp h1).1;have h2':=h2;rw[X3 hk]at h2';have q:=h'.obj k a o (by grind) h2';have cl:=c o (Xb h2);cases o with
 |lst ds=>obtain⟨vs,g1,g2⟩:=q;exact⟨vs,g1,g2.less cl⟩
 |dct kvs=>obtain⟨vs,g1,g2⟩:=q;exact⟨vs,g1,g2.less cl⟩
 |ins c fs=>obtain⟨C,dx,vs,g0,g1,g2⟩:=q;exact⟨C,dx,vs,g0,g1,g2.less cl⟩
 |xy kvs=>obtain⟨ob,vs,g1,g2⟩:=q;exact⟨ob,vs,g1,g2.less cl⟩
def fk.less(s:fk m m' H H'):fk m m H H':=⟨⟨[],by simp⟩,λ_ _ _ n=>n,s.tups,s.sd,s.BH,s.non,s.exts⟩
theorem cS.less(h:cS K m S H)(h':cS K (m++t) S' H')(e:S'.take S.length=S):cS K m S H':=by
 refine⟨h.len,h.nd,λk a o h1 h2=>?_⟩;have hk:k<S.length:=(Wi.mp h2).1;have hm:k<m.length:=by rw[h.len];exact hk
 have e2:S'[k]?=af o:=by rw[←e,X3 hk]at h2;exact h2
 have q:=h'.obj k a o (by grind) e2;have q0:=h.obj k a o h1 h2;cases o with
 |lst ds=>obtain⟨vs,g1,g2⟩:=q;obtain⟨OI,g3,g4⟩:=q0;exact⟨vs,g1,g2.less (nM g4)⟩
 |dct kvs=>obtain⟨vs,g1,g2⟩:=q;obtain⟨OI,g3,g4⟩:=q0;exact⟨vs,g1,g2.less g4.closed⟩
 |ins c fs=>obtain⟨C,dx,vs,g0,g1,g2⟩:=q;obtain⟨C0,È,OI,_,g3,g4⟩:=q0;exact⟨C,dx,vs,g0,g1,g2.less g4.closed⟩
 |xy kvs=>obtain⟨ob,vs,g1,g2⟩:=q;obtain⟨É,OI,g3,g4⟩:=q0;exact⟨ob,vs,g1,g2.less g4.closed⟩
end
def C9(K:aT)(fns:List B9)(np:Nat)(k f:Nat):Sp:=λvs H Q E=>vs.length=np/\∃m S ds,cS K m S H/\f7 K m H ds vs/\match ao fns k f ds S with
 |none=>False|some (.ok d S')=>∀m' H' v,fk m m' H H'->cS K m' S' H'->RD K m' H' d v->Q v H'|some (.exc c S')=>∀m' H' e C,fk m m' H H'->cS K m' S' H'->bP K mainGlobals c=af (af (.ref C))->E e (af C) H'
def Do(h:f7 K m H ds vs)(n:Nat):iL K m H (ds.map af++br (n - ds.length) ah) (vs.map af++br (n - vs.length) ah):=by
 refine⟨by simp[h.length],λi d hd=>?_⟩;by_cases hi:i<ds.length
 ·rw[Ws (by simpa using hi),Xm]at hd;cases e:ds[i]? with
  |none=>rw[e]at hd;simp at hd|some d'=>
   rw[e]at hd;have ed:d'=d:=by simpa using hd
   subst ed;obtain⟨v,h1,h2⟩:=h.get e;exact⟨v,by rw[Ws (by rw[Wb,←h.length];exact hi),Xm,h1];rfl,h2⟩
 ·rw[Wx (by simpa using hi),Yz]at hd;lia
theorem Lq{fns:List B9}{E:XK}(sr:cS X.K m S H)(hx:∀(pins:List (aI×Obj))(σ:St)(H':Hp)(s':aE)(o:Option aI)(e:av),Inv X pins σ H' s'->bI X pins H' o e s'->E e o H'->X.xe e s')(h:match gh S o with
   |none=>False|some (.ok d S')=>∀m' H' v,fk m m' H H'->cS X.K m' S' H'->RD X.K m' H' d v->Q v H'
   |some (.exc c S')=>∀m' H' e C,fk m m' H H'->cS X.K m' S' H'->bP X.K mainGlobals c=af (af (.ref C))->E e (af C) H'):tF X o m H {nx:=λ_ H'=>Q .non H',rt:=Q}:=by
 have key:∀(d:D)(S':bq),(match trim S d S' with
   |none=>False|some (.ok d S')=>∀m' H' v,fk m m' H H'->cS X.K m' S' H'->RD X.K m' H' d v->Q v H'
   |some (.exc c S')=>∀m' H' e C,fk m m' H H'->cS X.K m' S' H'->bP X.K mainGlobals c=af (af (.ref C))->E e (af C) H')->∀m' H' v,fk m m' H H'->cS X.K m' S' H'->RD X.K m' H' d v->Q v H':=by
  intro d S' h m' H' v st AU rd;obtain⟨t,rfl⟩:=st.pre;unfold trim at h;by_cases hc:S'.take S.length=S/\r6 S.length d
  ·rw[if_pos hc]at h;have hs:=sr.less AU hc.1;exact h m H' v st.less hs (rd.less (by rw[sr.len];exact hc.2))
  ·rw[if_neg hc]at h;by_cases hd:(∀o∈S'.take S.length,uG S.length o)/\r6 S.length d
   ·rw[if_pos hd]at h;rw[←sr.len]at h hd;exact h m H' v st.less (cS.LU sr.nd AU hd.1) (rd.less hd.2)
   rw[if_neg hd]at h;cases d with
   |ref k=>
    simp only at h;cases e:S'[k]? with
    |none=>rw[e]at h;exact h _ H' v st AU rd|some o=>
     rw[e]at h;cases o with
     |lst ds=>
      simp only at h;by_cases hc2:S'.take S.length=S/\S.length<=k/\r6 S.length (.lst ds)
      ·rw[if_pos hc2]at h;have hs:=sr.less AU hc2.1;obtain⟨a,rfl,hk⟩:=bT rd;obtain⟨a',vs,h1,h2,h3⟩:=AU.lst e;rw[hk]at h1;have ea:a=a':=by simpa using h1
       subst ea;have hn:a∉m:=λhm=>by
        obtain⟨j,hj⟩:=Zr.mp hm;have hjl:j<m.length:=(Wi.mp hj).1;have hj':(m++t)[j]?=af a:=by rw[Ws hjl];exact hj
        have ej:j=k:=(nB (Wi.mp hj').1 AU.nd).mp (hj'.trans hk.symm);have h5:=hc2.2.1;rw[←sr.len]at h5;lia
       exact h m H' _ st.less hs (Cv h2 hn (h3.less (by rw[sr.len];exact hc2.2.2)))
      ·rw[if_neg hc2]at h;exact h _ H' v st AU rd
     |dct _=>exact h _ H' v st AU rd|ins _ _=>exact h _ H' v st AU rd|xy _=>exact h _ H' v st AU rd
   |_=>exact h _ H' v st AU rd
 cases o with
 |none=>exact h|some o=>
  cases o with
  |next r S'=>exact λm' H' σ' st er AU=>key .non S' h m' H' .non st AU jJ|ret d S'=>exact key d S' h|brk r S'=>exact h.elim|cont r S'=>exact h.elim|exc c r S'=>
   intro pins s' σ' H' m' e I st er AU z;obtain⟨C,hC,ie⟩:=z;refine hx pins σ' H' s' _ e I ie ?_;obtain⟨t,rfl⟩:=st.pre;simp only[gh]at h;by_cases hc:S'.take S.length=S
   ·rw[if_pos hc]at h;exact h m H' e C st.less (sr.less AU hc) hC
   ·rw[if_neg hc]at h;exact h _ H' e C st AU hC
section
variable{X:Cx}{fns:List B9}{k f np:Nat}{fa:aI}{fd:FuncData}{ps:List Str}{x:Str}{a:bE}{es:List bE}{a':E}{es':List E}{pos p:Pos}
theorem Hg{Ex:St->XK}(F:ya X.prog X.w X.K X.mg X.base (A6 X.prog X.w) k fa fd ps sp)(hr:rj k X.A)(hg:Gl X x)(hm:X.mg x=af (.ref fa))(hk:e9 X.K (.ref fa)=ai)(hb:Binds X.K fd ps [])(hx:∀(pins:List (aI×Obj))(σ:St)(H':Hp)(s':aE)(o:Option aI)(e:av),Inv X pins σ H' s'->bI X pins H' o e s'->Ex σ e o H'->X.xe e s')(ha:PA X (e::es) t)(hdb:(x==("__debug__" :Str))=ay)(he:starEach (e::es) X.env=(ay,eval e X.env)::starEach es X.env)(hpl:(backTo pos (starEach es X.env)).any (·.1)=ay):
  PE X (.Call (.Name x p) (e::es) [] pos) λσ H Q=>t σ H λvs H1=>sp vs H1 Q (Ex σ):=by
 intro pins s σ H Q I h;refine wpAny_Call_Name_kw (jC I hg hm ?_ hdb);refine kU (h₀:=X.base) I.ok.mod.IU hk (ja (ha pos pins s σ H _ I h) λus s1 z=>bJ z λvs H1 I1 r q=>⟨I1.BE,?_⟩) he hpl;have hl:us.length=ps.length:=by rw[←r.length];exact F.len _ _ _ _ q
 have hb':=hb s1 us I1.BE (by simp_all);rw[Wm]at hb';refine wpAny_call (YM (F.run X.A X.stack s1 H1 ⟨us,[]⟩ us vs Q (Ex σ) hr I1.GA hb' r q) λr s' hq=>?_);cases r with
 |error e=>obtain⟨o,H',I',ie,hE⟩:=lV I1 hq;exact hx pins σ H' s' o e I' ie hE
 |ok fl=>
  cases fl with|ret u=>exact I1.after hq|next=>exact False.elim hq|brk=>exact False.elim hq|cont=>exact False.elim hq
theorem Lr(F:ya X.prog X.w X.K X.mg X.base (A6 X.prog X.w) (2*k) fa fd ps (C9 X.K fns np k f))(hl:(es'.length+1)=np)(hr:rj (2*k) X.A)(hg:Gl X x)(hm:X.mg x=af (.ref fa))(hk:e9 X.K (.ref fa)=ai)(hb:Binds X.K fd ps [])(ha:JA X (ao fns k) (a::es) (a'::es'))(hdb:(x==("__debug__" :Str))=ay)(he:starEach (a::es) X.env=(ay,eval a X.env)::starEach es X.env)(hpl:(backTo pos (starEach es X.env)).any (·.1)=ay):
  JE X (ao fns k) (.Call (.Name x p) (a::es) [] pos) (.call f (a'::es')):=by
 refine PE.imp (Hg (Ex:=λσ e o H'=>∀pins s',Inv X pins σ H' s'->bI X pins H' o e s'->X.xe e s') F hr hg hm hk hb (λpins σ H' s' o e I ie q=>q pins s' I ie) ha hdb he hpl) λσ H Q h=>?_;refine bO h λm r S er sr h=>?_;have hlen:∀(l:List E)(r:az)(S:bq)(ds:List D)(S':bq),aF (ao fns k) l r S=af (.ok ds S')->ds.length=l.length:=by
  intro l
  induction l with
  |nil=>
   intro r S ds S' q;have q':fy ([]:List D) S=af (.ok ds S'):=q;injection q' with q1
   simp_all
  |cons e l ih=>
   intro r S ds S' q;have q':bnd (aj (ao fns k) e r S) (λd S1=>bnd (aF (ao fns k) l r S1) λds S2=>fy (d::ds) S2)=af (.ok ds S'):=q;cases e1:aj (ao fns k) e r S with
   |none=>simp_all|some o=>
    rw[e1]at q';cases o with
    |exc c S1=>cases q'|ok d S1=>
     rw[aH]at q';cases e2:aF (ao fns k) l r S1 with
     |none=>simp_all|some o2=>
      rw[e2]at q';cases o2 with
      |exc c S2=>cases q'|ok J' S2=>
       rw[aH]at q';injection q' with q1
       injection q1 with q2
       subst q2;simp[ih r S1 J' S2 e2]
 have h:tO X (rD X) (bnd (aF (ao fns k) (a'::es') r S) λds S1=>ao fns k f ds S1) m r H Q:=h;refine⟨m,r,S,er,sr,?_⟩;cases e:aF (ao fns k) (a'::es') r S with
 |none=>rw[e]at h;exact h|some o=>
  rw[e]at h;cases o with
  |exc c S1=>exact h|ok ds S1=>
   rw[aH]at h;intro m1 H1 vs st1 e8 rs;have hds:=hlen _ _ _ _ _ e;have rs:f7 X.K m1 H1 ds vs:=rs;refine⟨by rw[←rs.length,hds];exact hl,m1,S1,ds,e8,rs,?_⟩;have h1:=h.step st1;cases q:ao fns k f ds S1 with
   |none=>rw[q]at h1;exact h1|some o=>
    rw[q]at h1;cases o with|exc c S2=>intro m2 H2 e C st2 oj hC pins s' I ie;exact h1 pins s' σ H2 m2 e I st2 ((er.step st1).step st2) oj ⟨C,hC,ie⟩|ok d S2=>exact h1
end
section
variable{P:ck}{w:cy}{K:aT}{mg:Str->Option av}{base:dc}
def Uc(F:LF K x qual st f fd)(Sc:A7 N ps (bM st))(hfi:fns[fi]?=af fs)(hnp:ps.length=fs.np)(hnn:N.length=fs.nn)(hbody:∀(cdv:av)(A:cK)(outer:List Env)(s:aE)(H:Hp)(E:XK),rj (2*k+1) (A.deeper (PyProof.Rows.envOfC qual (bM st) s.heap.objs.size f cdv))->
   CD (iY (A6 P w) P w K mg base N qual (bM st) f cdv A outer s H E) (ao fns k) (fW st) fs.body):ya P w K mg base (A6 P w) (2*(k+1)) f fd ps (C9 K fns fs.np (k+1) fi):=by
 show ya P w K mg base (A6 P w) (2*k+1+1) f fd ps (C9 K fns fs.np (k+1) fi);obtain⟨oc,od,kV,doc,pm,an,cdv,ct,osl,rfl,lk,hcd⟩:=F.ex;refine Ti lk hcd Sc (λvs H Q E h=>by rw[hnp];exact h.1) (λA outer s H vs Q E hr h=>?_);obtain⟨hl,m,S,ds,sr,rs,h⟩:=h;refine⟨_,hbody cdv A outer s H E hr,m,ds.map af++br (fs.nn - ds.length) ah,S,?_,sr,?_⟩
 ·have e:=Do rs fs.nn;unfold L2.start;rw[hnn];exact e
 ·refine Lq (X:=iY (A6 P w) P w K mg base N qual (bM st) f cdv A outer s H E) (E:=E) (fns:=fns) sr (λpins σ H' s' o e I ie q=>GP I ie q) ?_;have hd:ds.length=fs.np:=by rw[rs.length,hl]
  simp only[ao,hfi,hd,if_true]at h;rw[hd];exact h
def Ls:ya P w K mg base (A6 P w) 0 f fd ps (C9 K fns np 0 fi):=by
 have no:∀vs H Q E,¬C9 K fns np 0 fi vs H Q E:=λvs H Q E h=>by obtain⟨_,m,S,ds,_,_,h⟩:=h;exact h
 exact⟨λvs H Q E h=>absurd h (no vs H Q E),λA outer s H args us vs Q E _ _ _ _ h=>absurd h (no vs H Q E)⟩
end
def Ah(env:Env):∀(names:List (Str×NameKind)),(∀x∈names,x.2= .free->∃c,env.cells.lookup x.1=af c)->∀(acc:List (Str×aI)),
    ∃cl:List (Str×aI),(forIn names acc λ(p:Str×NameKind) cs=>(if(p.2==NameKind.free)=ai then do let c ←cellOf env p.1;pure (ForInStep.yield ((p.1,c)::cs))else pure (ForInStep.yield cs):Sem (ForInStep (List (Str×aI)))))=pure cl/\
      (∀x c,cl.lookup x=af c->acc.lookup x=af c\/env.cells.lookup x=af c)/\(∀x,(x,NameKind.free)∈names\/(∃c,acc.lookup x=af c)->∃c,cl.lookup x=af c):=by
  intro names
  induction names with
  |nil=>intro _ acc;exact⟨acc,rfl,λx c h=> .inl h,λx h=>h.elim (λz=>by simp at z) id⟩|cons p r ih=>
    intro h acc;obtain⟨n,k⟩:=p;by_cases hk:k= .free
    · subst hk;obtain⟨c,hc⟩:=h (n,.free) ly rfl;obtain⟨cl,h1,h2,h3⟩:=ih (λx hx=>h x (Yh _ hx)) ((n,c)::acc);refine⟨cl,?_,λx d hd=>?_,λx hx=>?_⟩
      · rw[qh];simp only[beq_self_eq_true,if_true];have e:cellOf env n=pure c:=by unfold cellOf;rw[hc]
        rw[e];exact h1
      · grind
      · rcases hx with hx|⟨d,hd⟩
        · rcases We.mp hx with e|e
          · simp_all
          simp_all
        · by_cases e:x=n
          · simp_all
          · exact h3 x (.inr ⟨d,by grind⟩)
    · obtain⟨cl,h1,h2,h3⟩:=ih (λx hx=>h x (Yh _ hx)) acc
      grind
def Ai(h:∀x∈scope.names,x.2= .free->∃c,env.cells.lookup x.1=af c):∃cl,closureFor scope env=pure cl/\(∀x c,cl.lookup x=af c->env.cells.lookup x=af c)/\∀x,(x,NameKind.free)∈scope.names->∃c,cl.lookup x=af c:=by obtain⟨cl,h1,h2,h3⟩:=Ah env scope.names h [];refine⟨cl,?_,λx c q=>(h2 x c q).elim (λz=>by simp at z) id,λx q=>h3 x (.inl q)⟩;unfold closureFor;exact(Xk (λ(t:Sem (List (Str×aI)))=>t>>=λs=>pure s) h1)
theorem we{env:Env}:∀{names:List (Str×NameKind)}{x:Str},
  ((names.map λ(n,k)=>if(k==NameKind.free && env.scope.kind== .function && env.kindOf n==af .cell)then(n,NameKind.cell)else(n,k)).lookup x=names.lookup x)\/
  (names.lookup x=af .free/\(names.map λ(n,k)=>if(k==NameKind.free && env.scope.kind== .function && env.kindOf n==af .cell)then(n,NameKind.cell)else(n,k)).lookup x=af .cell)
 |[],_=> .inl rfl|(n,k)::r,x=>by
  have ih:= @we env r x;simp only[Wh];by_cases hc:(k==NameKind.free && env.scope.kind== .function && env.kindOf n==af .cell)=ai
  ·rw[if_pos hc];simp only[vj];cases hx:x==n with|true=>lia|false=>exact ih
  ·rw[if_neg hc];simp only[vj];cases hx:x==n with|true=>exact .inl rfl|false=>exact ih
section
variable{prog:ck}{w:cy}{A:cK}{R:Result->aE->Prop}{s:aE}
theorem Aj(I:Nat->aE->Prop)(turn:∀n s,I n s->bg (model prog w) A (pyNext it) (λr s₁=>match r with
   |none=>R (.ok .next) s₁
   |some v=>bg (model prog w) A (letOwnedTupleGo target it v) (λ_ s₁'=>bg (model prog w) A (assign target env v) (λ_ s₂=>
     bg (model prog w) A (forIn ifs ai λc r=>if r=ai then do let ok ←isTrue c env (eval c env);pure (ForInStep.yield ok)else pure (ForInStep.yield r)) (λok s₃=>
      if ok=ai then bg (model prog w) A (eval elt env) (λx s₄=>
       bg (model prog w) A (call (.builtin "list.append") [acc,x]) (λ_ s₅=>∃m,m<n/\I m s₅) (λ_ _=>False) s₄) (λ_ _=>False) s₃
      else ∃m,m<n/\I m s₃) (λ_ _=>False) s₂) (λ_ _=>False) s₁') (λ_ _=>False) s₁) (λ_ _=>False) s)(n:Nat)(h:I n s):
  codeAny (model prog w) A (.compLoop (.ListComp elt [⟨target,iter,ifs,0⟩] scope pos) 0 it acc env) R s:=by
 refine codeAny_loop rfl I (λn s hI=>?_) n h;show bg _ A ((compTurn (.ListComp elt [⟨target,iter,ifs,0⟩] scope pos) 0 it acc env).onRaise (λx=>do noteFrame x env;theTreesLotGoes x)) _ _ s;refine wpAny_noted ?_;rw[compTurn_list];refine My (wpAny_standAt (My (Xw (turn n s hI) (λr s₁ h₁=>?_) λ_ _ h'=>h'.elim)));cases r with
 |none=>exact V8 h₁|some v=>
  refine My (Xw h₁ (λ_ s₁' h₁'=>?_) λ_ _ h'=>h'.elim);refine My (Xw h₁' (λ_ s₂ h₂=>My (Xw h₂ (λok s₃ h₃=>?_) λ_ _ h'=>h'.elim)) λ_ _ h'=>h'.elim);cases ok with|false=>exact V8 ⟨rfl,h₃⟩|true=>exact My (My (Xw h₃ (λx s₄ h₄=>My (Xw h₄ (λ_ s₅ h₅=>V8 (V8 ⟨rfl,h₅⟩)) λ_ _ h'=>h'.elim)) λ_ _ h'=>h'.elim))
end
def BU(X:Cx)(scope:Scope)(cl:List (Str×aI))(C:aI)(N':List Str)(s2:aE)(H2:Hp)(ex:List aI):Cx where
 prog:=X.prog
 w:=X.w
 K:=X.K
 mg:=X.mg
 base:=X.base
 A:=X.A
 N:=N'
 s₀:=s2
 H₀:=H2
 env:=compEnvC scope cl C X.env
 outer:=X.stack
 stack:=X.stack
 ex:=ex
 fn:=λ_=>ay
 calm:=X.calm
 pn:=[]
 xe:=λ_ _=>False
structure Ct(X:Cx)(scope:Scope)(N':List Str)(n:Nat)(cap:List Nat):Prop where
 kind:scope.kind= .function
 loc:∀y∈scope.names,y.2= .local->scope.names.lookup y.1=af .local
 ED:∀y∈scope.names,y.2≠ .cell
 free:∀y∈scope.names,y.2= .free->X.env.scope.names.lookup y.1=af .cell\/X.env.scope.names.lookup y.1=af .free
 len:N'.length=n+cap.length
 at_:∀(j i:Nat)(x:Str),cap[j]?=af i->N'[n+j]?=af x->X.N[i]?=af x/\scope.names.lookup x=af .free
def EE{a b:Nat}(h1:a<b)(h2:b<=a):False:=Zd _ (WF h1 h2)
section
variable{X:Cx}{scope:Scope}{N':List Str}{n:Nat}{cap:List Nat}{pins:List (aI×Obj)}{σ:L2.St}{H2:Hp}{s2:aE}{fp:List aI}{cl:List (Str×aI)}
def jf{names:List (Str×NameKind)}(h:names.lookup x=af k):(x,k)∈names:=Xp h
def Ak(cp:Ct X scope N' n cap)(I:Inv X pins σ H2 s2)(hfp:∀b∈fp,dO X pins H2 b)(hlt:∀b∈fp,b<s2.heap.objs.size)(AF:∀x c,cl.lookup x=af c->X.env.cells.lookup x=af c)(B6:∀x,(x,NameKind.free)∈scope.names->∃c,cl.lookup x=af c){C acc:aI}(hacc:s2.heap.objs.size<=acc)(hC:s2.heap.objs.size<=C)(haC:acc≠C)(hk:∀b o,s2.heap.get? b=af o->s4.heap.get? b=af o)(hos:s4.os=s2.os)(hg:s4.gens=s2.gens)(hns:s4.heap.Ns C m4):
  Inv (BU X scope cl C N' s2 H2 (acc::fp)) [] (br n ah++cap.map λi=>(σ[i]?).join) H2 s4:=by
 have GW:∀x c,X.env.cells.lookup x=af c->c<s2.heap.objs.size:=λx c e=>by obtain⟨v,q⟩:=I.cell x c e;exact q.lt
 have LV:∀b∈acc::fp,∀o,X.base.get? b=af o->False:=λb hb o e=>by
  have hlt':b<X.base.objs.size:=Wg e;have h1:=I.ok.EO;have h2:=I.sz;rcases We.mp hb with rfl|hb
  ·exact EE hlt' (Wa h1 (Wa h2 hacc))
  ·obtain⟨_,_,_,z,_⟩:=hfp b hb;rcases z with z|z
   ·exact I.ok.DE b o e z
   ·exact EE hlt' (Wa h1 z)
 refine⟨⟨I.ok.mod,?kind,I.ok.glob,I.ok.blt,hC,?inj,?has,?cab,I.ok.hd,I.ok.frames,.inl rfl,?Lo,I.bs,Wa I.ok.EO I.sz,λb o e z=>LV b z o e,?CH,I.stack,I.B3⟩,
  hos,by rw[hg];exact I.bare,Un.kept hk,?loc,?cell,I.hok.fresh hC,λx c e=>I.vS x c (AF x c e),λp hp=>absurd (show p∈([]:List (aI×Obj))from hp) (by simp),I.hok.kept hk,?len⟩
 case kind=>show scope.kind= .function;exact cp.kind
 case inj=>exact λx y c h1 h2=>I.ok.inj x y c (AF x c h1) (AF y c h2)
 case has=>
  intro x hx;have hx:(relabel scope X.env).names.lookup x=af .cell\/(relabel scope X.env).names.lookup x=af .free:=hx;rcases we (env:=X.env) (names:=scope.names) (x:=x)with e|⟨e,_⟩
  ·rw[show(relabel scope X.env).names.lookup x=scope.names.lookup x from e]at hx;rcases hx with hx|hx
   ·exact absurd rfl (cp.ED _ (jf hx))
   ·exact B6 x (jf hx)
  ·exact B6 x (jf e)
 case cab=>intro x c h;exact absurd h (by simp[BU])
 case Lo=>
  intro b hb;rcases We.mp hb with rfl|hb
  ·refine⟨haC,λx c e z=>?_⟩;have h:=GW x c (AF x c e);rw[z]at h;exact EE h hacc
  ·refine⟨λz=>?_,λx c e=>(hfp b hb).2.2.2.2.1 x c (AF x c e)⟩;have h:=hlt b hb;have z':b=C:=z;rw[z']at h;exact EE h hC
 case CH=>
  intro b hb z;rcases We.mp (I.AW b z)with e|e
  ·rcases We.mp hb with rfl|hb
   ·have h:=I.lt;rw[←e]at h;exact EE h hacc
   ·exact(hfp b hb).2.1 e
  ·rcases We.mp hb with rfl|hb
   ·exact I.F6 hacc e
   ·exact(hfp b hb).2.2.1 e
 case loc=>
  refine⟨m4,hns,λi x v e1 e2 e3=>?_⟩;have e1:N'[i]?=af x:=e1;by_cases hi:i<n
  ·rw[Ws (by simpa using hi),Yz]at e2;lia
  ·have hin:n<=i:=kc hi;rw[Wx (by simpa using hin),Zt,Xm]at e2;cases ej:cap[i - n]? with
   |none=>simp_all|some k=>
    rw[ej]at e2;have e2:(σ[k]?).join=af v:=by simpa using e2
    have ek:σ[k]?=af (af v):=by
     cases q:σ[k]? with|none=>simp_all|some o=>simp_all
    obtain⟨hN,hf⟩:=cp.at_ (i - n) k x ej (by simp_all);obtain⟨m,hn,hl⟩:=I.loc;have ho:=cp.free _ (jf hf) rfl;have vis:Lm X.env.scope x:=by rcases ho with z|z;exact .inr (.inl z);exact .inr (.inr z)
    obtain⟨u,ru,lk⟩:=hl k x v hN ek vis;refine⟨u,ru,.inr ?_⟩;obtain⟨c,hc,hcell⟩:∃c,X.env.cells.lookup x=af c/\s2.heap.IsCell c (af u):=by
     rcases lk with⟨kl,_⟩|⟨_,z⟩
     ·have kl:X.env.scope.names.lookup x=af .local:=kl;lia
     ·exact z
    obtain⟨c',hc'⟩:=B6 x (jf hf);have e:=AF x c' hc';rw[hc]at e;have e:c=c':=by simpa using e
    subst e;refine⟨?_,c,hc',?_⟩
    ·show(relabel scope X.env).names.lookup x=af .cell\/(relabel scope X.env).names.lookup x=af .free;rcases we (env:=X.env) (names:=scope.names) (x:=x)with e|⟨_,e⟩
     ·exact .inr (e.trans hf)
     ·exact .inl e
    ·obtain⟨o,h1,h2⟩:=hcell;exact⟨o,hk _ _ h1,h2⟩
 case cell=>intro x c e;obtain⟨v,o,h1,h2⟩:=I.cell x c (AF x c e);exact⟨v,o,hk _ _ h1,h2⟩
 case len=>show _=N'.length;rw[WK,Zt,Wb,cp.len]
def Hh{acc:aI}{C:aI}{LW:List (aI×Obj)}{σ1:L2.St}{H1:Hp}{s':aE}{xs:List V}{its:List av}{e:Nat}(I:Inv X pins σ H2 s2)(hfp:∀b∈fp,dO X pins H2 b)(J:Inv (BU X scope cl C N' s2 H2 (acc::fp)) LW σ1 H1 s')(hacc:s2.heap.objs.size<=acc)(hn:H1 acc=ah)(ho:s'.heap.get? acc=af {cls:= .type "list",data:= .seq its.toArray e})(rv:Vals xs its)(hz:xs.length<=aS):
  Inv X pins σ (upd H1 acc (.lst xs)) s':=by
 have u:Un (frs X.stack) (acc::fp) H2 H1 s2.heap s'.heap:=J.base;have h2:H2 acc=none:=I.hok.fresh hacc;have u':Un (frs X.stack) (acc::fp) H2 (upd H1 acc (.lst xs)) s2.heap s'.heap:=by
  refine⟨u.keep,u.slot,λb o q nb hb=>?_,u.there,λb ys q=>?_,λb o z q=>?_,λb ps q=>?_⟩
  ·rw[aA λz=>hb (by simp_all)];exact u.free b o q nb hb
  ·rw[aA (aP q h2)];exact u.tups b ys q
  ·rw[aA (aP q h2)];exact u.sd b o z q
  ·rw[aA (aP q h2)];exact u.A9 b ps q
 have hok:zo X.prog X.w (upd H1 acc (.lst xs)) s'.heap:=by
  intro b o hb;by_cases hba:b=acc
  ·subst hba;rw[bh]at hb;have eo:HO.lst xs=o:=by simpa using hb
   subst eo;exact⟨hz,its,e,rv,ho⟩
  ·rw[aA hba]at hb;refine(J.hok b o hb).stay (λ_ _ _ q=>q) (λc q=>?_) λc ys q=>?_
   ·rw[aA (aP q hn)];exact q
   ·rw[aA (aP q hn)];exact q
 refine I.FL (ch:=acc::fp) J.os u' hok J.bare λb hb=>?_;rcases We.mp hb with rfl|hb
 ·refine⟨.inr (Wa I.sz hacc),Xn (WF I.lt hacc),λx c q z=>?_,λp hp z=>?_⟩
  ·obtain⟨v,q'⟩:=I.cell x c q;have h:=q'.lt;rw[z]at h;exact EE h hacc
  ·have h:=Wg (I.pin p hp).1;rw[z]at h;exact EE h hacc
 ·obtain⟨f0,f1,f2,f3,f4,f5⟩:=hfp b hb;exact⟨f3,f1,f4,f5⟩
end
abbrev uZ(ifs:List bE)(env:Env):Sem Bool:=forIn ifs ai λc r=>if r=ai then do let ok ←isTrue c env (eval c env);pure (ForInStep.yield ok)else pure (ForInStep.yield r)
def VU(X:Cx)(ifs:List bE)(t:TT):Prop:=
 ∀(pins:List (aI×Obj))(s:aE)(σ:L2.St)(H:Hp)(Q:Bool->Hp->Prop),Inv X pins σ H s->t σ H Q->bg (model X.prog X.w) X.A (uZ ifs X.env) (TP X pins σ Q) X.xe s
abbrev EV(X:Cx)(cl:Nat->List D->bq->Ev D)(ifs:List bE)(ts:List T):Prop:=VU X ifs (tM X rB (bx cl ts))
section
variable{X:Cx}{cl:Nat->List D->bq->Ev D}
theorem oG{E:av->aE->Prop} :∀(ifs:List bE)(s:aE),Q ay s->
  bg M A (forIn ifs ay λc r=>if r=ai then do let ok ←isTrue c env (eval c env);pure (ForInStep.yield ok)else pure (ForInStep.yield r)) Q E s
 |[],s,h=>V8 h|c::r,s,h=>by rw[qh];simp only[Wt,Xd];exact My (V8 (oG r s h))
def Lw:EV X cl [] []:=by intro pins s σ H Q I h;refine bO h λm r S er sr h=>?_;exact V8 ⟨H,I,tO.fin (v:=ai) (h:tO X rB (fy ai S) m r H Q) sr rfl⟩
def Hi(hc:JT X cl c t)(hr:EV X cl cs ts):EV X cl (c::cs) (t::ts):=by
 intro pins s σ H Q I h;refine bO h λm r S er sr h=>?_;have h:tO X rB (bnd (aO cl t r S) λb S2=>if b then bx cl ts r S2 else fy ay S2) m r H Q:=h;unfold uZ;rw[qh];simp only[if_true];refine My (My (ja (hc pins s σ H _ I ⟨m,r,S,er,sr,h.bnd⟩) λb s1 zz=>?_));obtain⟨H1,I1,m1,x,S1,st1,e8,rx,h1⟩:=zz;have rx:x=b:=rx;subst rx;refine V8 ?_;cases x with|true=>exact hr pins s1 σ H1 Q I1 ⟨m1,r,S1,er.step st1,e8,h1⟩|false=>exact oG cs s1 ⟨H1,I1,tO.fin (v:=ay) (h1:tO X rB (fy ay S1) m1 r H1 Q) e8 rfl⟩
end
theorem u0{α:Type}{x:Ev α}{a:α}{S:bq}(h:iy x=af (.ok a S)):x=af (.ok a S):=by
 cases x with
 |none=>cases h|some o=>cases o with|ok b S'=>exact h|exc c S'=>cases h
theorem yr{α β:Type}{x:Ev α}{f:α->bq->Ev β}{b:β}{S:bq}(h:bnd x f=af (.ok b S)):∃a S1,x=af (.ok a S1)/\f a S1=af (.ok b S):=by
 cases x with
 |none=>cases h|some o=>cases o with|ok a S1=>exact⟨a,S1,rfl,h⟩|exc c S1=>cases h
theorem tB(h:compLoop f g tg (d::ds) r S acc=af (.ok es S3)):
  ∃r' b S1,bN tg d r=af r'/\g r' S=af (.ok b S1)/\((b=ay/\compLoop f g tg ds r' S1 acc=af (.ok es S3))\/(b=ai/\∃x S2,f r' S1=af (.ok x S2)/\compLoop f g tg ds r' S2 (acc++ [x])=af (.ok es S3))):=by
 simp only[compLoop]at h;cases e:bN tg d r with
 |none=>simp_all|some r'=>
  rw[e]at h;obtain⟨b,S1,h1,h2⟩:=yr h;refine⟨r',b,S1,rfl,u0 h1,?_⟩;cases b with
  |false=>exact .inl ⟨rfl,by simpa using h2⟩|true=>
   have h2:bnd (iy (f r' S1)) (λx S2=>compLoop f g tg ds r' S2 (acc++ [x]))=af (.ok es S3):=by simpa using h2
   obtain⟨x,S2,h3,h4⟩:=yr h2;exact .inr ⟨rfl,x,S2,u0 h3,h4⟩
theorem o6:∀{ds:List D}{r:az}{S:bq}{acc es:List D}{S3:bq},compLoop f g tg ds r S acc=af (.ok es S3)->acc.length<=es.length
 |[],r,S,acc,es,S3,h=>by simp only[compLoop,fy]at h;lia|d::ds,r,S,acc,es,S3,h=>by
  obtain⟨r',b,S1,_,_,h⟩:=tB h;rcases h with⟨_,h⟩|⟨_,x,S2,_,h⟩
  ·exact o6 h
  ·have:=o6 h;rw[WK,Yc]at this;lia
section
variable{X:Cx}{cl:Nat->List D->bq->Ev D}{scope:Scope}{N':List Str}{n:Nat}{cap:List Nat}{pins:List (aI×Obj)}{σ:L2.St}{H2:Hp}{s2:aE}{fp:List aI}{tg iter elt:bE}{ifs:List bE}{pos:Pos}{J:L2.It}{it:aI}{tn:Nat->dc->Prop}{tt:Tg}{elt':E}{ifs':List T}{m2:List aI}{r:az}{S2 S3:bq}{ds es:List D}
def qy{E:av->aE->Prop}{P:bq->Prop}{f:az->bq->Ev D}{g:az->bq->Ev Bool}(VW:∀r S o,f r S=af o->aj cl elt' r S=af o)(hg0:∀r S o,g r S=af o->bx cl ifs' r S=af o/\P S)(hP:P S3)(cp:Ct X scope N' n cap)(hc:X.calm=ai)(I:Inv X pins σ H2 s2)(Tn:Turn X.prog X.w X.K tg J fp it tn)(st0:tn 0 s2.heap)(hfp:∀b∈fp,dO X pins H2 b)(Y:∀m' H' S',fk m2 m' H2 H'->cS X.K m' S' H'->P S'->J.stop ds.length H'/\∀(i:Nat)(d:D),ds[i]?=af d->
   J.go i H'/\∀x BI,J.Lv i H' x BI->fk m' m' H' BI/\(∀a∈m',BI a=H' a)/\RD X.K m' BI d x)(er:iL X.K m2 H2 r σ)(sr:cS X.K m2 S2 H2)(DA:compLoop f g tt ds (f9 r n cap) S2 []=af (.ok es S3))(hz:es.length<=aS)(hin:∀(c:List (Str×aI))(C:aI)(ex:List aI),JG (BU X scope c C N' s2 H2 ex) tg tt/\EV (BU X scope c C N' s2 H2 ex) cl ifs ifs'/\JE (BU X scope c C N' s2 H2 ex) cl elt elt'){RR:av->aI->Result->aE->Prop}(hRR:∀(acc C:aI)(s':aE)(m':List aI)(H':Hp)(xs:List V)(mC:Str->Option av),Inv X pins σ (upd H' acc (.lst xs)) s'->dO X pins (upd H' acc (.lst xs)) C->s'.heap.Ns C mC->fk m2 m' H2 H'->cS X.K m' S3 H'->f7 X.K m' H' es xs->H' acc=ah->RR (.ref acc) C (.ok .next) s'){r6:List (Str×aI)}(AF:∀x c,r6.lookup x=af c->X.env.cells.lookup x=af c)(B6:∀x,(x,NameKind.free)∈scope.names->∃c,r6.lookup x=af c):
  bg (model X.prog X.w) X.A (newList []) (λacc s₃=>bg (model X.prog X.w) X.A (newFunctionEnv scope X.env.globals r6 [] X.env.qual ah .none (af X.env)) (λcenv s₄=>
   codeAny (model X.prog X.w) X.A (.compStart (.ListComp elt [⟨tg,iter,ifs,0⟩] scope pos) 0 (.ref it) acc {cenv with scope:=relabel scope X.env}) (RR acc cenv.locals) s₄) E s₃) E s2:=by
 have hlt:∀b∈fp,b<s2.heap.objs.size:=λb hb=>by obtain⟨o,e,_⟩:=Tn.obj 0 _ st0 b hb;exact Wg e
 refine W5 (wpAny_newFunctionEnv cp.ED (by simp) (λh₁ hns₁ hsb₁=>?_) cp.kind);dsimp only at hns₁ hsb₁ ⊢;generalize hH2:s2.heap.push {cls:= .type "list",dict:=ah,data:= .seq ([]:List av).toArray}=G at hns₁ hsb₁ ⊢;have Sk:G.objs.size=s2.heap.objs.size+1:=by rw[←hH2,YF]
 have hC:s2.heap.objs.size<=G.objs.size:=by rw[Sk];exact Yo _
 have haC:s2.heap.objs.size≠G.objs.size:=by rw[Sk];exact Wo (Zx _)
 have old:∀b o,s2.heap.get? b=af o->h₁.get? b=af o:=λb o e=>by have hb:b≠G.objs.size:=λz=>EE (Wg e) (by rw[z];exact hC);exact hsb₁.extBut b o hb (V9 _ (hH2▸V9 _ e))
 have hacc:h₁.get? s2.heap.objs.size=af {cls:= .type "list",data:= .seq ([]:List av).toArray}:=hsb₁.extBut _ _ haC (V9 _ (hH2▸Wf _ rfl));generalize hA:s2.heap.objs.size=acc at haC hacc hC ⊢;generalize Ê:G.objs.size=C at hns₁ haC hC ⊢;have hacc':s2.heap.objs.size<=acc:=by rw[hA];exact Wc _
 have hC':s2.heap.objs.size<=C:=by rw[hA];exact hC
 have start:=Ak (cl:=r6) cp I hfp hlt AF B6 hacc' hC' haC (s4:={s2 with heap:=h₁,toks:=s2.toks+([]:List (Str×av)).length}) old rfl rfl hns₁;obtain⟨hG,hIf,hE⟩:=hin r6 C (acc::fp);generalize hX':BU X scope r6 C N' s2 H2 (acc::fp)=X' at start hG hIf hE;have eP:X'.prog=X.prog:=by rw[←hX'];rfl
 have eW:X'.w=X.w:=by rw[←hX'];rfl
 have eK:X'.K=X.K:=by rw[←hX'];rfl
 have eA:X'.A=X.A:=by rw[←hX'];rfl
 have eN:X'.env=compEnvC scope r6 C X.env:=by rw[←hX'];rfl
 have eX:X'.xe=λ_ _=>False:=by rw[←hX'];rfl
 have eF:X'.fs=frs X.stack:=by rw[←hX'];rfl
 have eE:X'.ex=acc::fp:=by rw[←hX'];rfl
 have VX:X'.pn=[]:=by rw[←hX'];rfl
 have eC:X'.calm=true:=by rw[←hX'];exact hc
 have hL:X'.env.locals=C:=by rw[eN];rfl
 have OL:acc∉X'.fs:=λz=>by
  rw[eF]at z;rcases We.mp (I.AW acc z)with e|e
  ·have h:=I.lt
   simp_all
  ·exact I.F6 hacc' e
 have GY:∀{H:Hp}{s:aE}{o:Obj},s.heap.get? acc=af o->H acc=ah->(∀v,o.data≠ .cell v)->∀p∈ [(acc,o)],s.heap.get? p.1=af p.2/\H p.1=ah/\p.1≠X'.env.locals/\p.1∉X'.fs/\∀v,p.2.data≠ .cell v:=λ{H s o} e hn hd p hp=>by
  have ep:p=(acc,o):=by simpa using hp
  subst ep;exact⟨e,hn,by rw[hL];exact haC,OL,hd⟩
 have OM:∀{H:Hp}{o:Obj},(∀b∈fp,H b=ah)->∀b∈fp,dO X' [(acc,o)] H b:=λ{H o} hn b hb=>by
  obtain⟨_,f1,f2,f3,f4,f5⟩:=hfp b hb;refine⟨hn b hb,λz=>?_,λz=>?_,.inl (by simp_all),λx c e=>?_,λp hp z=>?_⟩
  ·have h:=hlt b hb;rw[z,hL]at h;exact EE h hC'
  ·rw[eF]at z;rcases We.mp (I.AW b z)with e|e
   ·exact f1 e
   ·exact f2 e
  ·rw[eN]at e;exact f4 x c (AF x c e)
  ·rw[VX]at hp;have ep:p=(acc,o):=by simpa using hp
   subst ep;have h:=hlt b hb
   simp_all
 have Sl:Turn X'.prog X'.w X'.K tg J fp it tn:=by rw[eP,eW,eK];exact Tn
 let Iv:Nat->aE->Prop:=λk s=>∃(i e:Nat)(m1:List aI)(S1:bq)(H1:Hp)(r1:az)(σ1:L2.St)(xs:List V)(es1:List D)(its:List av),
  k=ds.length - i/\i<=ds.length/\Inv X' [(acc,{cls:= .type "list",data:= .seq its.toArray e})] σ1 H1 s/\tn i s.heap/\(∀b∈fp,H1 b=ah)/\Vals xs its/\f7 X.K m1 H1 es1 xs/\
  fk m2 m1 H2 H1/\iL X.K m1 H1 r1 σ1/\cS X.K m1 S1 H1/\compLoop f g tt (ds.drop i) r1 S1 es1=af (.ok es S3)
 have loop:codeAny (model X.prog X.w) X.A (.compLoop (.ListComp elt [⟨tg,iter,ifs,0⟩] scope pos) 0 (.ref it) (.ref acc) (compEnvC scope r6 C X.env)) (RR (.ref acc) C) {s2 with heap:=h₁,toks:=s2.toks+([]:List (Str×av)).length}:=by
  refine Aj Iv ?_ ds.length ⟨0,0,m2,S2,H2,f9 r n cap,_,[],[],[],by simp,WP _,start.x9 (GY hacc (I.hok.fresh hacc') (λv z=>by cases z)),Tn.keep 0 _ _ st0 λb hb o e=>old b o e,λb hb=>(hfp b hb).1,.nil,.nil,fk.refl _ _,?_,sr,by grind⟩
  ·rintro k s ⟨i,e,m1,S1,H1,r1,σ1,xs,es1,its,rfl,hi,Ix,st,fr,rv,rs,st1,DZ,e8,hl⟩;obtain⟨Ë,Ì,Í,Î,Ï⟩:=Ix.pin (acc,{cls:= .type "list",data:= .seq its.toArray e}) (by simp);by_cases hlt':i<ds.length
   ·have ed:ds[i]?=af ds[i]:=Wq hlt';have GV:ds.drop i=ds[i]::ds.drop (i+1):=Yb hlt';rw[GV]at hl;obtain⟨r2,b,Sb,ON,VY,hrest⟩:=tB hl;obtain⟨hg,VZ⟩:=hg0 _ _ _ VY;obtain⟨go,yl⟩:=(Y m1 H1 S1 st1 e8 VZ).2 i _ ed;have item:=Sl.item X' rfl rfl rfl eC i _ s σ1 H1 (λ_ _=>False) Ix (OM fr) st go;rw[eP,eW,eA]at item;refine ja item λrr sA zz=>?_;obtain⟨u,LS,hA'⟩:=zz;subst LS;refine ja hA' λ_ sB zz=>?_;obtain⟨x,HB,IB,ru,yy,OO,frB⟩:=zz;obtain⟨stp,same,rx⟩:=yl x HB yy;have Ð:=e8.keep stp same;have Ñ:=DZ.step stp;have WA:=IB.pinned (OM frB) (Tn.obj _ _ OO);have hg1:=hG _ sB σ1 HB x u (λσ2 H'=>H'=HB/\iL X.K m1 HB r2 σ2) WA ru ⟨m1,r1,ds[i],r2,by lia,by rw[eK];exact rx,ON,λσ2 Cn=>⟨rfl,by lia⟩⟩;rw[eP,eW,eA,eN,eX]at hg1;refine ja hg1 λ_ sC zz=>?_;obtain⟨σ2,HC,IC,e1,Cn⟩:=zz;subst e1;have ht1:=hIf _ sC σ2 HC (λv H'=>v=b/\∃m',fk m1 m' HC H'/\cS X.K m' Sb H') IC ⟨m1,r2,S1,by lia,by lia,by
     rw[hg];exact λm' H' v st sr rd=>⟨(show b=v from rd).symm,m',st,by lia⟩⟩
    rw[eP,eW,eA,eN,eX]at ht1;refine ja ht1 λbb sD zz=>?_;obtain⟨HD,ID,eb,mD,G0,WB⟩:=zz;subst eb;have EF:∀{H:Hp}{s:aE}{σ:L2.St},Inv X' ([(acc,{cls:= .type "list",data:= .seq its.toArray e})]++jE fp sB.heap) σ H s->tn (i+1) s.heap/\∀b∈fp,H b=none:=λ{H s σ} Iz=>by refine⟨Tn.keep _ _ _ OO λc hc' o eo=>(Iz.pin (c,o) (WM _ (WM _ (iJ hc' eo)))).1,λc hc'=>?_⟩;obtain⟨o,eo,_⟩:=Tn.obj _ _ OO c hc';exact(Iz.pin (c,o) (WM _ (WM _ (iJ hc' eo)))).2.1
    have F1:∀{H:Hp}{s:aE}{σ:L2.St},Inv X' ([(acc,{cls:= .type "list",data:= .seq its.toArray e})]++jE fp sB.heap) σ H s->s.heap.get? acc=af {cls:= .type "list",data:= .seq its.toArray e}/\H acc=none:=λ{H s σ} Iz=>by have q:=Iz.pin (acc,{cls:= .type "list",data:= .seq its.toArray e}) (WM _ (Yi _ (XM.mpr rfl)));exact⟨q.1,q.2.1⟩
    rcases hrest with⟨rfl,hl2⟩|⟨rfl,dx,Sx,hx,hl2⟩
    ·rw[if_neg (by simp)];obtain⟨k1,k2⟩:=EF ID;obtain⟨a1,a2⟩:=F1 ID;refine⟨ds.length - (i+1),by lia,i+1,e,mD,Sb,HD,r2,σ2,xs,es1,its,rfl,hlt',ID.x9 (GY a1 a2 (λv z=>by cases z)),k1,k2,rv,(rs.step (stp.trans G0)),(st1.trans stp).trans G0,Cn.step G0,WB,hl2⟩
    ·rw[if_pos rfl];have Kn:=hE _ sD σ2 HD (λv H'=>∃m',fk mD m' HD H'/\cS X.K m' Sx H'/\RD X.K m' H' dx v) ID ⟨mD,r2,Sb,by rw[eK];exact Cn.step G0,by lia,by
      rw[show aj cl elt' r2 Sb=af (.ok dx Sx)from VW _ _ _ hx];exact λm' H' v st sr rd=>⟨m',st,by lia,by lia⟩⟩
     rw[eP,eW,eA,eN,eX]at Kn;refine ja Kn λuv sE zz=>?_;obtain⟨y,HE,IE,ry,mE,stE,WC,WE⟩:=zz;obtain⟨k1,k2⟩:=EF IE;obtain⟨a1,a2⟩:=F1 IE;have hsz:its.length<sizeLine:=by have:=o6 hl2;rw[WK,Yc,rs.length,rv.length]at this;lia
     refine call_meets F.slot_list_append ⟨_,a1,rfl⟩ F.entry_list_append (F.args_list_append_2 _ _) (sP acc its.toArray e uv (by rw[WX];exact Xg hsz)) ⟨a1,?_⟩;have q:=t9 a1 (λl=>l.push uv);have eq:(its.toArray.push uv)=(its++ [uv]).toArray:=by simp
     rw[eq]at q;have kb:∀b o,b≠acc->sE.heap.get? b=af o->(sE.heap.update acc (Obj.mapSeq λl=>l.push uv)).get? b=af o:=λb o hb eo=>(Ww _ _ (Ne.symm hb)).trans eo;have WG:Inv X' [] σ2 HE sE:=IE.x9 λp hp=>absurd hp (by simp);have IF:Inv X' [] σ2 HE {sE with heap:=sE.heap.update acc (Obj.mapSeq λl=>l.push uv),toks:=sE.toks}:=WG.turned (it:=acc) kb a2 (by rw[hL];exact haC) (.inl (by grind)) (λx c ec z=>by
      rw[eN]at ec;obtain⟨v,qc⟩:=I.cell x c (AF x c ec);have h:=qc.lt;rw[z]at h;exact EE h hacc') (λp hp=>by grind)
     refine⟨ds.length - (i+1),by lia,i+1,_,mE,Sx,HE,r2,σ2,xs++ [y],es1++ [dx],its++ [uv],rfl,hlt',IF.x9 (GY q a2 (λv z=>by cases z)),?_,k2,rv.append (.cons ry .nil),(rs.step ((stp.trans G0).trans stE)).append (.cons WE .nil),((st1.trans stp).trans G0).trans stE,(Cn.step G0).step stE,WC,hl2⟩;exact Tn.keep _ _ _ k1 λb hb o eo=>kb b o (λz=>EE (hlt b hb) (by rw[z];exact hacc')) eo
   ·have ei:i=ds.length:=by lia
    subst ei;rw[kg]at hl;simp only[compLoop,fy]at hl;injection hl with hl
    injection hl with hl1 hl2
    subst hl1 hl2;have EC:=(Y m1 H1 _ st1 e8 hP).1;have done:=Sl.done X' rfl rfl rfl eC ds.length _ s σ1 H1 (λ_ _=>False) Ix (OM fr) st EC;rw[eP,eW,eA]at done;refine ja done λrr sA zz=>?_;obtain⟨e1,IA⟩:=zz;subst e1;obtain⟨WH,Sm,_⟩:=IA.pin (acc,{cls:= .type "list",data:= .seq its.toArray e}) (by simp);obtain⟨mC,hnC,_⟩:=id IA.loc;rw[hL]at hnC;have WJ:H1 C=none:=by have:=IA.free;rw[hL]at this;exact this
    have fin:Inv X pins σ (upd H1 acc (.lst xs)) sA:=by have Sn:=IA;rw[←hX']at Sn;exact Hh I hfp Sn hacc' Sm WH rv (by rw[←rs.length];exact hz)
    refine hRR acc C sA m1 H1 xs mC fin ?_ hnC st1 e8 rs Sm;refine I.B4 hC' ?_;rw[aA (Ne.symm haC)];exact WJ
  ·refine⟨?_,λi d hd=>?_⟩
   ·unfold f9;simp
   ·unfold f9 at hd;by_cases hi:i<n
    ·rw[Ws (by simpa using hi),Yz]at hd;lia
    ·have LX:n<=i:=kc hi;rw[Wx (by simpa using LX),Zt,Xm]at hd;rw[Wx (by simpa using LX),Zt,Xm];cases ej:cap[i - n]? with
     |none=>simp_all|some k=>
      rw[ej]at hd;have hd:(r[k]?).join=af d:=by simpa using hd
      have ek:r[k]?=af (af d):=by
       cases q:r[k]? with|none=>simp_all|some o=>simp_all
      obtain⟨v,h1,h2⟩:=er.get k d ek
      simp_all
 have OP:tn 0 ({s2 with heap:=h₁,toks:=s2.toks+([]:List (Str×av)).length}:aE).heap:=Tn.keep 0 _ _ st0 λb hb o e=>old b o e;exact codeAny_compStart_list loop (Tn.self _ 0 _ _ _ OP loop)
end
theorem iM:∀{ds:List D}{r:az}{S:bq}{acc:List D}{c:Str}{S3:bq},compLoop f g tg ds r S acc≠af (.exc c S3)
 |[],r,S,acc,c,S3,h=>by simp only[compLoop,fy]at h;lia|d::ds,r,S,acc,c,S3,h=>by
  simp only[compLoop]at h;cases e:bN tg d r with
  |none=>simp_all|some r'=>
   rw[e]at h;simp only at h;cases e1:iy (g r' S)with
   |none=>simp_all|some o=>
    cases o with
    |exc c' S'=>
     cases q:g r' S with|none=>rw[q]at e1;cases e1|some o'=>rw[q]at e1;cases o'<;>cases e1
    |ok b S1=>
     rw[e1,aH]at h;cases b with
     |false=>exact iM (by simpa using h)|true=>
      have h:bnd (iy (f r' S1)) (λx S2=>compLoop f g tg ds r' S2 (acc++ [x]))=af (.exc c S3):=by simpa using h
      cases e2:iy (f r' S1)with
      |none=>simp_all|some o2=>
       cases o2 with
       |exc c' S'=>
        cases q:f r' S1 with|none=>rw[q]at e2;cases e2|some o'=>rw[q]at e2;cases o'<;>cases e2
       |ok x S2=>rw[e2,aH]at h;exact iM h
section
variable{X:Cx}{cl:Nat->List D->bq->Ev D}{scope:Scope}{N':List Str}{n:Nat}{cap:List Nat}{tg iter elt:bE}{ifs:List bE}{pos spos:Pos}{tt:Tg}{it':It}{elt':E}{ifs':List T}{mu:Bool}
def tD{pins:List (aI×Obj)}{σ:L2.St}{H:Hp}{s:aE}(cp:Ct X scope N' n cap)(I:Inv X pins σ H s):∃r6,closureFor scope X.env=pure r6/\(∀x c,r6.lookup x=af c->X.env.cells.lookup x=af c)/\∀x,(x,NameKind.free)∈scope.names->∃c,r6.lookup x=af c:=
 Ai λx hx hf=>I.ok.has x.1 (cp.free x hx hf)
def Dp(X:Cx)(cl:Nat->List D->bq->Ev D)(tt:Tg)(elt':E)(ifs':List T)(n:Nat)(cap:List Nat)(mu:Bool)(σ:L2.St)(r:az)(Q:VK):L2.It->Hp->Prop:=λJ H2=>
 ∃(P:bq->Prop)(f:az->bq->Ev D)(g:az->bq->Ev Bool)(m2:List aI)(ds:List D)(S2:bq)(es:List D)(S3:bq),(∀r S o,f r S=af o->aj cl elt' r S=af o)/\(∀r S o,g r S=af o->bx cl ifs' r S=af o/\P S)/\P S3/\iL X.K m2 H2 r σ/\cS X.K m2 S2 H2/\
  (∀m' H' S',fk m2 m' H2 H'->cS X.K m' S' H'->P S'->J.stop ds.length H'/\∀(i:Nat)(d:D),ds[i]?=af d->J.go i H'/\∀x BI,J.Lv i H' x BI->fk m' m' H' BI/\(∀a∈m',BI a=H' a)/\RD X.K m' BI d x)/\
  compLoop f g tt ds (f9 r n cap) S2 []=af (.ok es S3)/\es.length<=aS/\tO X (rD X) (AX mu es S3) m2 r H2 Q
def CI(X:Cx)(cl:Nat->List D->bq->Ev D)(tg iter:bE)(tt:Tg)(elt':E)(ifs':List T)(n:Nat)(cap:List Nat)(mu:Bool)(e':E):Prop:=
 ∀(pins:List (aI×Obj))(s:aE)(σ:L2.St)(H:Hp)(r:az)(Q:VK)(m:List aI)(S:bq),Inv X pins σ H s->iL X.K m H r σ->cS X.K m S H->tO X (rD X) (aj cl e' r S) m r H Q->
  bg (model X.prog X.w) X.A (eval iter X.env) (λv s1=>bg (model X.prog X.w) X.A (pyIter v) (N1 X pins σ tg (Dp X cl tt elt' ifs' n cap mu σ r Q)) X.xe s1) X.xe s
def yt{mu:Bool}{es:List D}{S:bq}{m:List aI}{r:az}{H:Hp}{Q:VK}(h:tO X (rD X) (AX mu es S) m r H Q):es.length<=sizeLine:=by
 unfold AX at h;by_cases hz:es.length<=aS
 ·exact hz
 ·rw[if_neg hz]at h;exact h.elim
def Lx(hi:JI X cl tg iter it'):CI X cl tg iter tt elt' ifs' n cap mu (.comp mu elt' tt it' ifs' n cap):=λpins s σ H r Q m S I er sr h=>
 have h:tO X (rD X) (bnd (bH cl it' r S) λds S1=>bnd (compLoop (λr S=>aj cl elt' r S) (λr S=>bx cl ifs' r S) tt ds (f9 r n cap) S1 []) λes S2=>AX mu es S2) m r H Q:=h
 hi pins s σ H _ I ⟨m,r,S,er,sr,h.bnd.mono λJ H2 z=>aN z λm2 ds S2 st2 oj Y h2=>by
  cases e:compLoop (λr S=>aj cl elt' r S) (λr S=>bx cl ifs' r S) tt ds (f9 r n cap) S2 []with
  |none=>rw[e]at h2;exact h2.elim|some o=>
   cases o with
   |exc c S'=>exact absurd e iM|ok es S3=>
    rw[e,aH]at h2;exact⟨λ_=>True,_,_,m2,ds,S2,es,S3,λ_ _ _ h=>h,λ_ _ _ h=>⟨h,trivial⟩,trivial,er.step st2,oj,λm' H' S' st sr _=>Y m' H' st λa ha=>sr.there ha,e,yt h2,h2⟩⟩
theorem Hj(ha:JE X cl iter a'):CI X cl tg iter tt elt' ifs' n cap mu (.AM mu elt' tt a' ifs' n cap):=λpins s σ H r Q m S I er sr h=>by
 have h:tO X (rD X) (bnd (aj cl a' r S) λx S1=>match x with
  |.ref k=>match S1[k]? with
   |some (.lst ds)=>bnd (compLoop (DV S1 λr S=>aj cl elt' r S) (DV S1 λr S=>bx cl ifs' r S) tt ds (f9 r n cap) S1 []) λes S2=>same S1 S2 (AX mu es S2)|_=>ah
  |_=>ah) m r H Q:=h
 refine qR (tg:=tg) ha pins s σ H (Dp X cl tt elt' ifs' n cap mu σ r Q) I ⟨m,r,S,er,sr,h.bnd.mono λv H2 z=>aN z λm2 x S2 st2 oj rx h2=>?_⟩;cases x with
 |ref k=>
  obtain⟨p,rfl,hk⟩:=bT rx;cases e0:S2[k]? with
  |none=>simp only[e0]at h2;exact h2.elim|some o=>
   cases o with
   |lst ds=>
    simp only[e0]at h2;obtain⟨p',vs,h1,h2',h3⟩:=oj.lst e0;rw[hk]at h1;have:p=p':=by simpa using h1
    subst this;cases e:compLoop (DV S2 λr S=>aj cl elt' r S) (DV S2 λr S=>bx cl ifs' r S) tt ds (f9 r n cap) S2 []with
    |none=>rw[e]at h2;exact h2.elim|some o=>
     cases o with
     |exc c S'=>exact absurd e iM|ok es S3=>
      rw[e,aH]at h2;by_cases MY:S3=S2
      ·subst MY;rw[same_self]at h2;refine⟨p,rfl,⟨vs,wc.of h2'⟩,λS'=>S'=S3,_,_,m2,ds,S3,es,S3,λ_ _ _ h=>(Cq h).1,λ_ _ _ h=>Cq h,rfl,er.step st2,oj,λm' H' S' st sr eS=>?_,e,yt h2,h2⟩;subst eS;obtain⟨p',vs,h1,hq,rs⟩:=sr.lst e0;have:p'=p:=by
        obtain⟨t,et⟩:=st.pre;have h2:m'[k]?=af p:=by rw[et,Ws (Wi.mp hk).1];exact hk
        rw[h1]at h2;simpa using h2
       subst this;have hq':wc X.K H' p' vs:=wc.of hq;refine⟨⟨vs,hq',by rw[rs.length];simp⟩,λi d hd=>?_⟩;obtain⟨v,h1,h2⟩:=rs.get hd;refine⟨⟨vs,v,hq',h1⟩,λx BI y=>?_⟩;obtain⟨rfl,y⟩:=y;have e:=y vs hq';rw[h1]at e;have ev:v=x:=by simpa using e
       subst ev;exact⟨fk.refl _ _,λ_ _=>rfl,h2⟩
      ·rw[Kw MY]at h2;exact h2.elim
   |_=>simp only[e0]at h2;exact h2.elim
 |_=>exact h2.elim
def yw(cp:Ct X scope N' n cap)(hc:X.calm=ai)(hi:CI X cl tg iter tt elt' ifs' n cap mu e')(hs:∀x,foldedSetIterable iter X.env x=pure x)(hin:∀(s2:aE)(H2:Hp)(c:List (Str×aI))(C:aI)(ex:List aI),JG (BU X scope c C N' s2 H2 ex) tg tt/\EV (BU X scope c C N' s2 H2 ex) cl ifs ifs'/\JE (BU X scope c C N' s2 H2 ex) cl elt elt'):
  JE X cl (.ListComp elt [⟨tg,iter,ifs,0⟩] scope pos) e':=by
 intro pins s σ H Q I h;refine bO h λm r S er sr h=>?_;obtain⟨r6,hclos,AF,B6⟩:=tD cp I;rw[eval_ListComp];refine wpAny_comprehension_free (use:=ah) rfl hs hclos cp.kind cp.loc (ja (hi pins s σ H r Q m S I er sr h) λv s1 h1=>ja h1 λitv s2 h2=>?_);obtain⟨it,fp,tn,J,H2,e,I2,Tn,st0,hfp,P,f,g,m2,ds,S2,es,S3,hf,hg,hP,Cn,oj,Y,DA,hz,hfin⟩:=h2;subst e;refine qy (RR:=λacc C=>compPost (model X.prog X.w) X.A X.xe ah (EP X pins σ Q) acc C) hf hg hP cp hc I2 Tn st0 hfp Y Cn oj DA hz (hin s2 H2) (λacc C s' m' H' xs mC Iz fC hn st AU rs ha=>?_) AF B6;obtain⟨f0,f1,f2,f3,f4,f5⟩:=fC;refine⟨mC,hn,λh' hsb=>⟨.ref acc,upd H' acc (.lst xs),Iz.turned (t':=s'.toks) (it:=C) (λb o hb e=>(hsb.2 b hb).trans e) f0 f1 f3 f4 f5,rfl,?_⟩⟩;exact(dj AU rs (hfin.step st)).2 acc ha
def Ly(cp:Ct X scope N' n cap)(hc:X.calm=ai)(hi:CI X cl tg iter tt elt' ifs' n cap mu e')(hs:∀x,foldedSetIterable iter X.env x=pure x)(hin:∀(s2:aE)(H2:Hp)(c:List (Str×aI))(C:aI)(ex:List aI),JG (BU X scope c C N' s2 H2 ex) tg tt/\EV (BU X scope c C N' s2 H2 ex) cl ifs ifs'/\JE (BU X scope c C N' s2 H2 ex) cl elt elt')(hsw:swapsWith (.ListComp elt [⟨tg,iter,ifs,0⟩] scope pos) (af (.Name y py)) spos.line X.env=pure ai)(hg:JG X (.Name y py) (.name i)):
  JS X cl (.Assign [.Name y py] (.ListComp elt [⟨tg,iter,ifs,0⟩] scope pos) spos) (.asg (.name i) e'):=by
 intro pins s σ H N I h;refine bO h λm r S er sr h=>?_;have h:tF X (fN (aj cl e' r S) r λd S1=>af (.next (r.set i (af d)) S1)) m H N:=h;obtain⟨r6,hclos,AF,B6⟩:=tD cp I;rw[exec_Assign_Name_used _ _ _ _ hsw];refine My (wpAny_standAt (My ?_));show bg _ X.A (do let _ ←comprehension (.ListComp elt [⟨tg,iter,ifs,0⟩] scope pos) scope X.env _ (newList []) ay (eval iter X.env) (af (assign (.Name y py) X.env))) _ _ s;refine My (Xw (wpAny_comprehension_free (use:=af (assign (.Name y py) X.env)) (Q:=λ_ s'=>SP X pins N .next s') rfl hs hclos cp.kind cp.loc (ja (hi pins s σ H r (λv H1=>∃m1 d S1,fk m m1 H H1/\cS X.K m1 S1 H1/\RD X.K m1 H1 d v/\tF X (af (.next (r.set i (af d)) S1)) m1 H1 N) m S I er sr h.fN) λv s1 h1=>ja h1 λitv s2 h2=>?_)) (λ_ s' hq=>V8 (V8 hq)) λ_ _ e=>e);obtain⟨it,fp,tn,J,H2,e,I2,Tn,st0,hfp,P,f,g,m2,ds,S2,es,S3,hf,hg',hP,Cn,oj,Y,DA,hz,hfin⟩:=h2;subst e;refine qy (RR:=λacc C=>compPost (model X.prog X.w) X.A X.xe (af (assign (.Name y py) X.env)) (λ_ s'=>SP X pins N .next s') acc C) hf hg' hP cp hc I2 Tn st0 hfp Y Cn oj DA hz (hin s2 H2) (λacc C s' m' H' xs mC Iz fC hn st AU rs ha=>?_) AF B6;obtain⟨f0,f1,f2,f3,f4,f5⟩:=fC;obtain⟨oC,WO,WS,hoC,WU,WV⟩:=id hn;obtain⟨m1,d,S1,stH,e8,rd,hnext⟩:=(dj AU rs (hfin.step st)).2 acc ha;have DZ:iL X.K m1 (upd H' acc (.lst xs)) r σ:=er.step stH;have Ip:Inv X (pins++ [(C,oC)]) σ (upd H' acc (.lst xs)) s':=Iz.x9 λp hp=>by
  rcases Xa.mp hp with z|z
  ·exact Iz.pin p (WM _ z)
  simp_all
 show bg (model X.prog X.w) X.A (assign (.Name y py) X.env (.ref acc)) _ _ s';refine ja (hg _ s' σ (upd H' acc (.lst xs)) (.ref acc) (.ref acc) (λσ2 H3=>H3=upd H' acc (.lst xs)/\iL X.K m1 (upd H' acc (.lst xs)) (r.set i (af d)) σ2) Ip rfl ⟨m1,r,d,_,DZ,rd,rfl,λσ2 Cn=>⟨rfl,Cn⟩⟩) λ_ s5 zz=>?_;obtain⟨σ2,H3,I5,e3,OQ⟩:=zz;subst e3;have WZ:=I5.pin (C,oC) (WM _ (WM _ (XM.mpr rfl)));refine⟨mC,⟨oC,WO,WS,WZ.1,WU,WV⟩,λh' hsb=>?_⟩;have I6:Inv X pins σ2 (upd H' acc (.lst xs)) s5:=I5.AL;have I7:=I6.turned (t':=s5.toks) (it:=C) (h':=h') (λb o hb e=>(hsb.2 b hb).trans e) f0 f1 f3 f4 f5;exact⟨σ2,_,I7,hnext m1 _ σ2 (fk.refl _ _) OQ e8⟩
end
abbrev jg(X:Cx)(e:av):Cx:={X with A:=X.A.mark (af e),calm:=ay,xe:=λ_ _=>False}
abbrev kY(X:Cx)(pn:List (aI×Obj))(E:av->aE->Prop):Cx:={X with pn:=pn,xe:=E}
section
variable{X:Cx}{pins BA:List (aI×Obj)}{σ:St}{H:Hp}{s:aE}{E:av->aE->Prop}{e:av}
def u5(I:Inv X pins σ H s)(e:av):Inv (jg X e) pins σ H s:=
 ⟨⟨I.ok.mod,I.ok.kind,I.ok.glob,I.ok.blt,I.ok.above,I.ok.inj,I.ok.has,I.ok.cab,λz=>Bool.noConfusion z,I.ok.frames,I.ok.stk,I.ok.Lo,I.ok.bs,I.ok.EO,I.ok.DE,I.ok.CH,I.ok.AJ,I.ok.FH⟩,
  I.os,I.bare,I.base,I.loc,I.cell,I.free,I.vS,I.pin,I.hok,I.len⟩
def Dq(J:Inv X BA σ H s){σ':St}{H':Hp}{s':aE}(I:Inv (jg X e) pins σ' H' s'):Inv X pins σ' H' s':=
 ⟨J.ok,I.os,I.bare,I.base,I.loc,I.cell,I.free,I.vS,I.pin,I.hok,I.len⟩
def Lz(I:Inv X pins σ H s)(E:av->aE->Prop):Inv (kY X (X.pn++pins) E) [] σ H s:=
 ⟨⟨I.ok.mod,I.ok.kind,I.ok.glob,I.ok.blt,I.ok.above,I.ok.inj,I.ok.has,I.ok.cab,I.ok.hd,I.ok.frames,I.ok.stk,I.ok.Lo,I.ok.bs,I.ok.EO,I.ok.DE,I.ok.CH,I.ok.AJ,I.ok.FH⟩,
  I.os,I.bare,I.base,I.loc,I.cell,I.free,I.vS,λp hp=>I.pin p (by simpa using hp),I.hok,I.len⟩
def jh(I:Inv (kY X (X.pn++pins) E) BA σ H s):Inv X pins σ H s:=
 ⟨⟨I.ok.mod,I.ok.kind,I.ok.glob,I.ok.blt,I.ok.above,I.ok.inj,I.ok.has,I.ok.cab,I.ok.hd,I.ok.frames,I.ok.stk,I.ok.Lo,I.ok.bs,I.ok.EO,I.ok.DE,I.ok.CH,I.ok.AJ,I.ok.FH⟩,
  I.os,I.bare,I.base,I.loc,I.cell,I.free,I.vS,λp hp=>I.pin p (Yi _ hp),I.hok,I.len⟩
def u9(x:CS (kY X (X.pn++pins) E) BA H b):CS X pins H b:=⟨x.non,x.loc,x.RU,x.new,x.IZ,λp hp=>x.OE p (Yi _ hp)⟩
def LC(x:bI (kY X (X.pn++pins) E) BA H o e s):bI X pins H o e s:=by obtain⟨a,t,C,h1,h2,h3,h4,h5⟩:=x;exact⟨a,t,C,h1,h2,h3,u9 h4,λT z=>u9 (h5 T z)⟩
theorem QX(h:SP (kY X (X.pn++pins) E) [] N f s):SP X pins N f s:=by
 cases f with
 |next=>obtain⟨σ',H',I,q⟩:=h;exact⟨σ',H',jh I,q⟩
 |brk=>obtain⟨σ',H',I,q⟩:=h;exact⟨σ',H',jh I,q⟩
 |cont=>obtain⟨σ',H',I,q⟩:=h;exact⟨σ',H',jh I,q⟩
 |ret u=>obtain⟨v,σ',H',I,r,q⟩:=h;exact⟨v,σ',H',jh I,r,q⟩
end
section
variable{X:Cx}{cl:Nat->List D->bq->Ev D}
def Dr{c cn:Str}{b₀:fT}{hb:List fT}{hcs:List C}{Cb:aI}{p hp:Pos}{pins:List (aI×Obj)}{σ:St}{H:Hp}{s:aE}{m:List aI}{r:az}{S:bq}{e:av}{C:aI}{N:Ends}(hs:X.stack=X.env::X.outer)(hf:X.env.frame=af X.env.locals)(hg:Gl X cn)(hm:X.mg cn=af (.ref Cb))(hdb:(cn==("__debug__" :Str))=ay)(hh:∀e,CD (jg X e) cl (b₀::hb) hcs)(hx:fE X.K (.ref C) (.ref Cb)=af ai)(I:Inv X pins σ H s)(O:bI X pins H (af C) e s)(er:iL X.K m H r σ)(sr:cS X.K m S H)(h:tF X (nC ah (dS cl hcs (kI ah c r) S)) m H N):
  bg (model X.prog X.w) X.A (noteFrame e X.env) (λ_ s₂=>bg (model X.prog X.w) X.A (setFlight e ah) (λ_ s₃=>bg (model X.prog X.w) X.A (handleBy e X.env [.ExceptHandler (af (.Name cn p)) ah (b₀::hb) hp]) (SP X pins N) X.xe s₃) X.xe s₂) X.xe s:=by
 refine landed I hs hf O λh1 I1 O1=>?_;obtain⟨a,t,C',rfl,eC,al,oa,ot⟩:=id O1;have eC:C=C':=Wd eC;subst eC;have ex:∀h1,nF h1 a (.ref C) t->t8 a C h1:=λh1 z=>by obtain⟨oe,vs,x1,x2,x3,x4,_⟩:=z;exact⟨oe,vs,x1,x2,x3,x4⟩
 refine wpAny_handleBy_cons (codeAny_handlers_test ?_) (λz=>nomatch z);refine jC (X:=jg X (.ref a)) (u5 I1 _) hg hm ?_ hdb;obtain⟨o,io⟩:=(ex _ al).inst;refine PySem.W.exm_one I1.BE io.type hx _ _ _ _ (λ_ _ q=>q) ?_;show codeAny _ _ (Code.handlers _ [.ExceptHandler ah ah (b₀::hb) hp] X.env) _ _;refine codeAny_handlers_suite (Ky (s:={s with heap:=h1}) (E:=_) I1 O1 λh2 I2 O2=>?_);obtain⟨r2,S2,e2⟩:∃r2 S2,dS cl hcs (kI ah c r) S=af (.next r2 S2):=by
  cases q:dS cl hcs (kI ah c r) S with
  |none=>rw[q]at h;exact h.elim|some o=>
   cases o with|next r2 S2=>lia|_=>rw[q]at h;exact h.elim
 rw[e2]at h;have h:∀m' H' σ',fk m m' H H'->iL X.K m' H' r2 σ'->cS X.K m' S2 H'->N.nx σ' H':=h;have run:=hh (.ref a) pins {s with heap:=h2} _ _ {nx:=λσ' H'=>∃m',fk m m' H H'/\iL X.K m' H' r2 σ'/\cS X.K m' S2 H',rt:=λ_ _=>False} (u5 I2 _) ⟨m,_,S,er,sr,?_⟩
 ·refine Xw run (λf s5 q=>?_) λ_ _ z=>z.elim;cases f with
  |next=>obtain⟨σ5,H5,I5,m5,LA,OQ,Xs⟩:=q;exact⟨_,H5,Dq I2 I5,h m5 H5 _ LA OQ Xs⟩
  |brk=>obtain⟨_,_,_,q⟩:=q;exact q.elim
  |cont=>obtain⟨_,_,_,q⟩:=q;exact q.elim
  |ret u=>obtain⟨_,_,_,_,_,q⟩:=q;exact q.elim
 ·show tF (jg X (.ref a)) (dS cl hcs (kI ah c r) S) m _ _;rw[e2];exact λm' H' σ' st LS AU=>⟨m',st,LS,AU⟩
def JF:runC cl (.tr a cs' nm h) r S=match dS cl a r S with|some (.exc c r1 S1)=>if c∈cs' then nC nm (dS cl h (kI nm c r1) S1)else ah|x=>x:=rfl
def QZ 
  (hs:X.stack=X.env::X.outer) (hf:X.env.frame=af X.env.locals) (hg:Gl X cn) (hm:X.mg cn=af (.ref Cb)) (hdb:(cn==("__debug__" :Str))=ay)
  (hbody:∀pn E,CD (kY X pn E) cl body bs) (hh:∀e,CD (jg X e) cl (b₀::hb) hcs)
  (hx:∀c∈cs,∀C,bP X.K mainGlobals c=af (af (.ref C))->fE X.K (.ref C) (.ref Cb)=af ai):
  JS X cl (.Try body [.ExceptHandler (af (.Name cn p)) ah (b₀::hb) hp] [] [] pos) (.tr bs cs ah hcs):=by
 intro pins s σ H N I h;refine bO h λm r S er sr h=>?_;refine wpAny_Try_except ?_;have run:=hbody (X.pn++pins) (λe s₁=>bg (model X.prog X.w) X.A (noteFrame e X.env) (λ_ s₂=>bg (model X.prog X.w) X.A (setFlight e ah) (λ_ s₃=>bg (model X.prog X.w) X.A (handleBy e X.env [.ExceptHandler (af (.Name cn p)) ah (b₀::hb) hp]) (SP X pins N) X.xe s₃) X.xe s₂) X.xe s₁)
  [] s σ H N (Lz I _) ⟨m,r,S,er,sr,?_⟩
 ·refine Xw run (λf s1 q=>?_) λe s1 q=>q;have q:=QX q;cases f with|next=>exact wpAny_execs_nil q|brk=>exact q|cont=>exact q|ret u=>exact q
 ·rw[JF]at h;cases e1:dS cl bs r S with
  |none=>rw[e1]at h;exact h|some o=>
   rw[e1]at h;cases o with
   |next r1 S1=>exact h|brk r1 S1=>exact h|cont r1 S1=>exact h|ret d S1=>exact h|exc c r1 S1=>
    intro BA s1 σ1 H1 m1 e I1 st DZ e8 ie;obtain⟨C,hC,O⟩:=ie;simp only at h;by_cases hc:c∈cs
    ·rw[if_pos hc]at h;have h1:=tF.step h st;exact Dr hs hf hg hm hdb hh (hx c hc C hC) (jh I1) (LC O) DZ e8 h1
    ·rw[if_neg hc]at h;exact h.elim
end
def Q0(M:Mod K mg base)(p:ck):∃loose mb,PySem.W.TopRead p loose mg mb base:=by
 obtain⟨mb,hb,hbb⟩:=M.blt;obtain⟨o,es,ep,h1,h2,h3,h4⟩:=id M.glob;refine⟨es.toList.filterMap λe=>match e.key with|.str n _=>af n|_=>ah,mb,M.glob,hb,M.nolimit,hbb,λx _ hx _ _ _=>?_⟩;rw[←h4 x];unfold nsFind findBy;have e:es.find? (λe=>Value.isStr e.key x)=none:=by
  rw[Array.find?_eq_none];intro e he q;obtain⟨n,t,hk⟩:=h3 e he;rw[hk]at q;have q:n=x:=by simpa[Value.isStr]using q
  refine hx (List.mem_filterMap.mpr ⟨e,Array.mem_toList_iff.mpr he,?_⟩);rw[hk,q]
 rw[e];rfl
def EG:List Value:=[Value.type "ValueError",Value.type "Exception",Value.type "BaseException",Value.type "object"]
theorem Hk(t:OwnTail h bmB bm)(hv:bmB.contains v=ai):bm.contains v=true:=by
 induction t with
 |base=>exact hv|own _ _ _ _ ih=>simp_all
theorem Al:∀{l:List E}{r:az}{S:bq}{ds:List D}{S':bq},aF cl l r S=af (.ok ds S')->ds.length=l.length:=by
 intro l
 induction l with
 |nil=>
  intro r S ds S' q;have q':fy ([]:List D) S=af (.ok ds S'):=q;injection q' with q1
  simp_all
 |cons e l ih=>
  intro r S ds S' q;have q':bnd (aj cl e r S) (λd S1=>bnd (aF cl l r S1) λds S2=>fy (d::ds) S2)=af (.ok ds S'):=q;cases e1:aj cl e r S with
  |none=>simp_all|some o=>
   rw[e1]at q';cases o with
   |exc c S1=>cases q'|ok d S1=>
    rw[aH]at q';cases e2:aF cl l r S1 with
    |none=>simp_all|some o2=>
     rw[e2]at q';cases o2 with
     |exc c S2=>cases q'|ok J' S2=>
      rw[aH]at q';injection q' with q1
      injection q1 with q2
      subst q2;simp[ih e2]
section
variable{X:Cx}{cl:Nat->List D->bq->Ev D}
def Hl{C:aI}{rest:List bE}(hr:X.A.handled=ah)(hg:Gl X c)(hdb:(c==("__debug__" :Str))=ay)(hC:bP X.K mainGlobals c=af (af (.ref C)))(hx:gp X.K C EG "ValueError.__new__" =ai)(ha:JA X cl (e₀::rest) as')(hz:as'.length<=aS)(he:starEach (e₀::rest) X.env=(ay,eval e₀ X.env)::starEach rest X.env)(hpl:(backTo cpos (starEach (e₀::rest) X.env)).any (·.1)=ay):
  JS X cl (.Raise (af (.Call (.Name c np) (e₀::rest) [] cpos)) ah pos) (.raise c as'):=by
 intro pins s σ H N I h;refine bO h λm r S er sr h=>?_;have h:tF X (fN (aF cl as' r S) r λ_ S1=>af (.exc c r S1)) m H N:=h;obtain⟨loose,mb,T⟩:=Q0 I.ok.mod X.prog;have OC:=PySem.W.own_of_in I.ok.mod.IU T hC hx;obtain⟨bm,NN,nm,q,bs,hdct,sn,sub,ab,col,dd,k0,k1,k2,k3,k5,mN,g1,g2,g3,g4⟩:=OC.obj;refine wpAny_Raise_call_subU (nm:=nm) (q:=q) (C:=C) (N:=NN) (bs:=bs) (bm:=bm) (bmB:=EG) (hdct:=hdct) (sn:=sn) (sub:=sub) (ab:=ab) (col:=col) (dd:=dd) (k0:=k0) (k1:=k1) (k2:=k2) (k3:=k3) (k5:=k5) F.excBase_ValueError (by decide) F.excBase_ValueError (Hk g4 (by decide)) hr hpl g3 ?_;refine jC I hg OC.bound ⟨rfl,?_⟩ hdb;obtain⟨y,l,e⟩:∃y l,backTo cpos (starEach (e₀::rest) X.env)=(ay,y)::l:=⟨_,_,by rw[he];rfl⟩
 rw[e];refine Calls.evalArgs_plain ?_;rw[←e];have key:tM X (I0 X) (aF cl as') σ H λvs H1=>vs.length<=aS/\∃m1 S1,cS X.K m1 S1 H1/\iL X.K m1 H1 r σ/\XQ X m1 H1 r c S1:=by
  refine⟨m,r,S,er,sr,?_⟩;cases e1:aF cl as' r S with
  |none=>rw[e1]at h;exact h|some o=>
   rw[e1]at h;cases o with|exc c S1=>exact h|ok ds S1=>intro m1 H1 vs st1 e8 rs;have rs:f7 X.K m1 H1 ds vs:=rs;refine⟨by rw[←rs.length,Al e1];exact hz,m1,S1,e8,er.step st1,?_⟩;exact XQ.step h st1
 refine ja (ha cpos pins s σ H _ I key) λvs s2 zz=>?_;obtain⟨xs,H1,I1,rv,hl,m1,S1,e8,DZ,xq⟩:=zz;have kb:∀b o,X.base.get? b=af o->s2.heap.get? b=af o:=I1.bk;refine⟨rfl,by rw[←rv.length];exact hl,kb _ _ g1,g2.keeps kb,g4.keeps kb,λh' a mk=>?_⟩;have I2:Inv X pins σ H1 {s2 with heap:=h'}:=I1.kept (t':=s2.toks) mk.keeps;obtain⟨t,ht,_⟩:=mk.there;refine xq pins _ σ H1 m1 (.ref a) I2 (fk.refl _ _) DZ e8 ⟨C,hC,a,ah,C,rfl,rfl,?_,nG I1 mk.new (Cu I1.hok mk.new),λT z=>nomatch z⟩;exact⟨_,_,ht,rfl,rfl,rfl,by simp,rfl⟩
end
def Ds(h:jb d=ai):∃i,d= .int i/\i.natAbs<2^1000:=by
 cases d with|int i=>exact⟨i,rfl,WR h⟩|_=>cases h
def Dt{i:Int}(h:i.natAbs<2^1000):i.natAbs.log2<1920:=by
 by_cases z:i.natAbs=0
 ·rw[z];decide
 ·have:=(Nat.log2_lt z).mpr h;lia
def XA:bE->Nat
 |.Constant c _ _=>match c with
  |.str x=>x.length|_=>200000
 |_=>200000
def HA:List bE->Nat
 |[]=>0|e::r=>XA e+HA r
section
variable{X:Cx}{cl:Nat->List D->bq->Ev D}
inductive yk(X:Cx)(cl:Nat->List D->bq->Ev D):List bE->List E->Prop
 |nil:yk X cl [] []|str {x:Str} {j:Nat} {p:Pos} {vals:List bE} {as:List E}:yk X cl vals as->yk X cl (.Constant (.str x) j p::vals) as|rep {e:bE} {e':E} {p:Pos} {vals:List bE} {as:List E}:JE X cl e e'->yk X cl vals as->yk X cl (.FormattedValue e 114 ah p::vals) (e'::as)
theorem xx(h:aF cl (e::es) r S=af (.ok ds S')):∃d S1 ds',aj cl e r S=af (.ok d S1)/\aF cl es r S1=af (.ok ds' S')/\ds=d::ds':=by
 have q':bnd (aj cl e r S) (λd S1=>bnd (aF cl es r S1) λds S2=>fy (d::ds) S2)=af (.ok ds S'):=h;cases e1:aj cl e r S with
 |none=>simp_all|some o=>
  rw[e1]at q';cases o with
  |exc c S1=>cases q'|ok d S1=>
   rw[aH]at q';cases e2:aF cl es r S1 with
   |none=>simp_all|some o2=>
    rw[e2]at q';cases o2 with
    |exc c S2=>cases q'|ok J' S2=>
     rw[aH]at q';injection q' with q1
     injection q1 with q2 q3
     subst q2;subst q3;exact⟨d,S1,J',rfl,e2,rfl⟩
theorem Hm(hroom:rj kr X.A)(F:yk X cl vals as):∀{pins:List (aI×Obj)}{s:aE}{σ:St}{H:Hp}{m:List aI}{r:az}{S S':bq}{acc:Str}{ds:List D}{Q:Str->aE->Prop},Inv X pins σ H s->iL X.K m H r σ->cS X.K m S H->
  aF cl as r S=af (.ok ds S')->ds.all jb=ai->acc.length+HA vals<=aS->(∀out s' m' H',Inv X pins σ H' s'->fk m m' H H'->cS X.K m' S' H'->out.length<=aS->Q out s')->
  Joins (model X.prog X.w) X.A X.xe (evalEach vals X.env) acc Q s:=by
 induction F with
 |nil=>
  intro pins s σ H m r S S' acc ds Q I er sr e hs hl hq;have e:fy ([]:List D) S=af (.ok ds S'):=e;injection e with e1
  injection e1 with e2 e3
  subst e3;exact hq acc s m H I (fk.refl _ _) sr hl
 |@str x j p vals as F ih=>intro pins s σ H m r S S' acc ds Q I er sr e hs hl hq;show bg (model X.prog X.w) X.A (eval (.Constant (.str x) j p) X.env) _ _ s;replace hl:acc.length+(x.length+HA vals)<=sizeLine:=hl;refine ja (Bx pins s σ H (λv H1=>v= .str x/\H1=H) I ⟨rfl,rfl⟩) λu s1 zz=>?_;obtain⟨v,H1,I1,rv,hv⟩:=zz;obtain⟨rfl,rfl⟩:=hv;obtain⟨t,rfl⟩:=rv;refine⟨x,t,rfl,by rw[Str.length_append];lia,ih I1 er sr e hs (by rw[Str.length_append];lia) hq⟩
 |@rep ex e' p vals as he F ih=>
  intro pins s σ H m r S S' acc ds Q I er sr e hs hl hfin;have hq:=hfin;obtain⟨d,S1,ds',e1,e2,rfl⟩:=xx e;simp only[ZC,WT]at hs;obtain⟨i,rfl,hi⟩:=Ds hs.1;have hll:=Dt hi;have hL:(Str.ofString (toString i)).length<=1921:=PyProof.Rows.int_text_len_1921 hll;replace hl:acc.length+(200000+HA vals)<=sizeLine:=hl;show bg (model X.prog X.w) X.A (eval (.FormattedValue ex 114 ah p) X.env) _ _ s;refine wpAny_FormattedValue_repr (ja (he pins s σ H (λv H1=>∃m1,v= .int i/\fk m m1 H H1/\cS X.K m1 S1 H1) I ⟨m,r,S,er,sr,?_⟩) λu s1 z=>bJ z λv H1 I1 rv z2=>?_)
  ·rw[e1];intro m1 H1 v st1 e8 rd;exact⟨m1,gx rd,st1,e8⟩
  ·obtain⟨m1,hv,st1,e8⟩:=z2;subst hv;obtain⟨t,rfl⟩:=rv;refine pyReprObj_int hll (PyProof.Rows.formatField_str (λt' tk=>?_) (Wa hL (by decide)));exact⟨_,t',rfl,by rw[Str.length_append];lia,ih (I1.tok tk) (er.step st1) e8 e2 hs.2 (by rw[Str.length_append];lia) λout s' m' H' I' st' AU ho=>hq out s' m' H' I' (st1.trans st') AU ho⟩
theorem Q3(hroom:rj kr X.A){rest:List bE}(F:yk X cl (v₁::v₂::rest) as)(hw:HA (v₁::v₂::rest)<=aS):JE X cl (.JoinedStr (v₁::v₂::rest) pos) (.fmt as):=by
 intro pins s σ H Q I h;refine tM.el h λm r S er sr h=>?_;have h:tO X (rD X) (bnd (iy (aF cl as r S)) λds S1=>zW ds S1) m r H Q:=h;cases e:aF cl as r S with
 |none=>rw[e]at h;exact h.elim|some o=>
  rw[e]at h;cases o with
  |exc c S1=>exact h.elim|ok ds S1=>
   rw[cA,aH]at h;unfold zW at h;by_cases hs:ds.all jb=ai
   ·rw[if_pos hs]at h;refine wpAny_JoinedStr (Hm hroom F I er sr e hs (by simpa[Str.length,Str.empty]using hw) λout s' m' H' I' st AU ho=>⟨ho,?_⟩);exact⟨.str out,H',I'.tok _,⟨_,rfl⟩,h m' H' (.str out) st AU (by show RD X.K m' H' .ET _;unfold RD;trivial)⟩
   ·rw[if_neg hs]at h;exact h.elim
end
end RK
namespace RK
open PySem L2
structure Sx where
 N:List Str
 names:List (Str×NameKind)
 fn:List (Str×Nat×Nat)
 ct:List (Str×Int)
 bl:List Str
 mu:List (Nat×Nat)
 isDef:Bool
 lp:Bool
 xc:List (Str×List Str)
 cl:List (Str×List Str×List (Str×Nat×Nat))
def aU{α β γ:Type}(f:α->β->γ):Option α->Option β->Option γ
 |some x,af y=>af (f x y)|_,_=>ah
def gB{α β γ δ:Type}(f:α->β->δ->γ):Option α->Option β->Option δ->Option γ
 |some x,af y,af z=>af (f x y z)|_,_,_=>ah
theorem bQ{α β γ:Type}{a:Option α}{b:Option β}{f:α->β->γ}{c:γ}(h:aU f a b=af c):∃x y,a=af x/\b=af y/\f x y=c:=by
 cases a with
 |none=>cases h|some x=>cases b with|none=>cases h|some y=>exact⟨x,y,rfl,rfl,Wd h⟩
theorem o7{α β γ δ:Type}{a:Option α}{b:Option β}{d:Option δ}{f:α->β->δ->γ}{c:γ}(h:gB f a b d=af c):∃x y z,a=af x/\b=af y/\d=af z/\f x y z=c:=by
 cases a with
 |none=>cases h|some x=>cases b with
  |none=>cases h|some y=>cases d with|none=>cases h|some z=>exact⟨x,y,z,rfl,rfl,rfl,Wd h⟩
def cG{α γ:Type}{a:Option α}{f:α->γ}{c:γ}(h:a.map f=af c):∃x,a=af x/\f x=c:=by simp_all
def idx:List Str->Str->Option Nat
 |[],_=>ah|y::r,x=>if x=y then af 0 else(idx r x).map (·+1)
theorem jL:∀{N:List Str}{x:Str}{i:Nat},idx N x=af i->N[i]?=af x
 |[],x,i,h=>by cases h|y::r,x,i,h=>by
  unfold idx at h;by_cases e:x=y
  ·rw[if_pos e]at h;have:0=i:=by simpa using h
   subst this;rw[e];rfl
  ·rw[if_neg e]at h;cases q:idx r x with
   |none=>simp_all|some j=>
    rw[q]at h;have:j+1=i:=by simpa using h
    subst this;simpa using jL q
def o8(N:List Str):List Str->Option (List Nat)
 |[]=>af []|x::r=>aU (λi l=>(i::l)) (idx N x) (o8 N r)
theorem vd:∀{xs:List Str}{l:List Nat},o8 N xs=af l->l.length=xs.length/\∀(j i:Nat)(x:Str),l[j]?=af i->xs[j]?=af x->N[i]?=af x
 |[],l,h=>by
  have:l=[]:=by simpa[o8]using h
  grind
 |y::r,l,h=>by
  unfold o8 at h;obtain⟨k,t,e1,e2,e3⟩:=bQ h;subst e3;obtain⟨h1,h2⟩:=vd e2;refine⟨by simp[h1],λj i x hj hx=>?_⟩;cases j with
  |zero=>
   have e3:k=i:=by simpa using hj
   have e4:y=x:=by simpa using hx
   subst e3;subst e4;exact jL e1
  |succ j=>exact h2 j i x (by simpa using hj) (by simpa using hx)
def Sx.glob(sx:Sx)(x:Str):Bool:=sx.names.lookup x==af .globalImplicit && !(x==("__debug__" :Str)) && !(x==("__name__" :Str))
def Sx.blt(sx:Sx)(x:Str):Bool:=sx.glob x && sx.bl.contains x
def mq:List (Str×List Str×List (Str×Nat×Nat))->Str->Option Str
 |[],_=>ah|(c,fs,_)::r,f=>if fs.contains f then af c else mq r f
def vf:List (Str×List Str×List (Str×Nat×Nat))->Str->Option (Str×Nat×Nat)
 |[],_=>ah|(c,_,ms)::r,m=>match ms.lookup m with
  |some (f,np)=>af (c,f,np)|none=>vf r m
def Am(cl:List (Str×List Str×List (Str×Nat×Nat)))(m:Str)(n:Nat):Option (Str×Nat×Nat):=match vf cl m with
 |some q=>if n+1=q.2.2 then af q else ah|none=>ah
def KA:List (Str×List Str×List (Str×Nat×Nat))->Str->Option (Nat×Nat)
 |[],_=>ah| (c,_,ms)::r,x=>if c=x then ms.lookup ("__init__" :Str)else KA r x
def nameOf:bE->Option Str
 |.Name x _=>af x|_=>ah
def jt(h:nameOf e=af x):∃p,e= .Name x p:=by
 cases e with|Name y p=>cases h;lia|_=>cases h
def fc:bE->Option (Str×List bE)
 |.Call f as ks _=>match ks with
  |[]=>(nameOf f).map λx=>(x,as)|_::_=>ah
 |_=>ah
theorem iB(h:fc e=af (x,as)):∃p pos,e= .Call (.Name x p) as [] pos:=by
 cases e with
 |Call f as' ks pos=>
  cases ks with
  |cons _ _=>cases h|nil=>
   replace h:(nameOf f).map (λx=>(x,as'))=af (x,as):=h;cases q:nameOf f with
   |none=>simp_all|some y=>rw[q]at h;cases h;obtain⟨p,rfl⟩:=jt q;lia
 |_=>cases h
def fJ:bE->Bool
 |.Set _ _ _=>ai|_=>ay
def vg:bE->Bool
 |.Tuple _ _ _=>ai|_=>ay
def Du(h:vg e=ai):∃ts kt pt,e= .Tuple ts kt pt:=by
 cases e with|Tuple ts kt pt=>lia|_=>cases h
def isCall:bE->Bool
 |.Call _ _ _ _=>ai|_=>ay
def Sx.AZ(sx:Sx)(p:Pos):Bool:=sx.mu.contains (p.line,p.col)
def qz(x:Str)(a:bE):Option (bE×Pos×Pos):=if x= "sorted" then match a with
 |.Call fn as ks cpos=>match fn with
  |.Attribute o name apos=>match as with
   |[]=>match ks with
    |[]=>if name= "items" then af (o,apos,cpos)else ah|_::_=>ah
   |_::_=>ah
  |_=>ah
 |_=>ah
 else ah
def Hn(h:qz x a=af q):x= "sorted" /\a= .Call (.Attribute q.1 "items" q.2.1) [] [] q.2.2:=by unfold qz at h;lia
def Sx.HG(sx:Sx)(p:Pos):Bool:=sx.mu.contains (p.line,p.col+300000)
def Sx.HK(sx:Sx)(p:Pos):Bool:=sx.mu.contains (p.line,p.col+400000)
def Sx.HL(sx:Sx)(p:Pos):Bool:=sx.mu.contains (p.line,p.col+200000)
def An(sx:Sx)(x:Str):Option E:=
 if(x==("__debug__" :Str)) || (x==("__classdict__" :Str))then ah else
 match sx.names.lookup x with
 |some .local=>(idx sx.N x).map .var|some .cell=>(idx sx.N x).map .var|some .free=>(idx sx.N x).map .var|some .globalImplicit=>(sx.ct.lookup x).map λi=> .cst (.int i)|_=>ah
def qC:Const->Option E
 |.int i=>af (.cst (.int i))|.bool b=>af (.cst (.bl b))|.none=>af (.cst .non)|.str x=>af (.cst (.str x))|_=>ah
def jM(x:Str):Option Ty:=
 if x= "int" then af .int else if x= "bool" then af .bool else if x= "str" then af .str else if x= "list" then af .list else if x= "tuple" then af .tuple else if x= "dict" then af .dict else ah
def jN(x:Str):Option Bi:=if x= "len" then af .len else if x= "min" then af .min else if x= "max" then af .max else if x= "abs" then af .abs else if x= "int" then af .int else ah
mutual
def CF(sx:Sx):Nat->bE->Option Tg
 |0,_=>ah|n+1,e=>match e with
  |.Name x _=>if sx.names.lookup x=af .local\/(sx.isDef=ai/\sx.names.lookup x=af .cell)then(idx sx.N x).map .name else ah|.Tuple es _ _=>(vh sx n es).map .tup|_=>ah
def vh(sx:Sx):Nat->List bE->Option (List Tg)
 |0,_=>ah|n+1,es=>match es with
  |[]=>af []|e::r=>aU (λt ts=>(t::ts)) (CF sx n e) (vh sx n r)
end
def du:Nat->bE->List Str
 |0,_=> []|n+1,e=>match e with
  |.Name x _=> [x]|.Tuple es _ _=>es.flatMap (du n)|_=> []
def Ao(sx:Sx)(scope:Scope):List (Str×NameKind):=scope.names.map λ(n,k)=>if(k== .free && ai && sx.names.lookup n==af .cell)then(n,.cell)else(n,k)
def fK(scope:Scope):List Str:=(scope.names.filter λp=>p.2== .free).map (·.1)
def inner(sx:Sx)(tg:bE)(scope:Scope):Sx:={sx with N:=du 5 tg++fK scope,names:=Ao sx scope,isDef:=ay}
def gZ(sx:Sx)(tg:bE)(scope:Scope):Bool:=
 (scope.kind== .function) && scope.names.all (λy=>y.2 != .cell && (y.2 != .local || scope.names.lookup y.1==af .local) && (y.2 != .free || (sx.names.lookup y.1==af .cell || sx.names.lookup y.1==af .free)))
  && (fK scope).all (λx=>scope.names.lookup x==af .free) && decide (du 5 tg++fK scope).Nodup
mutual
def cE:Nat->Sx->bE->Option E
 |0,_,_=>ah|n+1,sx,e=>match e with
  |.Name x _=>An sx x|.Constant c _ _=>qC c|.BinOp a o b _=>aU (λa' b'=>(.bin o a' b')) (cE n sx a) (cE n sx b)|.UnaryOp o a _=>match o with
   |.USub=>(cE n sx a).map .neg|.Not=>(cE n sx a).map .nt|_=>ah
  |.Compare a ops bs _=>match ops with
   |[]=>ah|o::ro=>match bs with
    |[]=>ah|b::rb=>match ro with
     |[]=>match rb with
      |[]=>if behindInMarks o b then ah else aU (λa' b'=>(.cmp o a' b')) (cE n sx a) (cE n sx b)|_::_=>ah
     |o'::HM=>match HM with
      |_::_=>ah|[]=>match rb with
       |[]=>ah|c::rc=>match rc with
        |_::_=>ah|[]=>ah
  |.BoolOp o es _=>KG n sx o es|.IfExp c a b _=>gB (λc' a' b'=>(.ite c' a' b')) (cT n sx c) (cE n sx a) (cE n sx b)|.Tuple es _ _=>(Au n sx es).map .tup|.List es pos=>(Au n sx es).map (.lst (sx.AZ pos))|.Dict ks vs _=>match ks with
   |[]=>match vs with
    |[]=>af .dct|_::_=>ah
   |_::_=>ah
  |.Subscript a i _=>match i with
   |.Slice lo hi st _=>match st with
    |some _=>ah|none=>match lo with
     |none=>match hi with
      |none=>ah|some b=>aU (λa' b'=>(.DF a' b')) (cE n sx a) (cE n sx b)
     |some b=>match hi with
      |none=>aU (λa' b'=>(.GH a' b')) (cE n sx a) (cE n sx b)|some c=>gB (λa' b' c'=>(.DH a' b' c')) (cE n sx a) (cE n sx b) (cE n sx c)
   |i=>aU (λa' b'=>(.ix a' b')) (cE n sx a) (cE n sx i)
  |.Call f as ks pos=>match ks with
   |_::_=>ah|[]=>match f with
    |.Name x _=>Aq n sx x as pos|.Attribute o name apos=>Av n sx o name apos as pos|_=>ah
  |.Attribute a f _=>if isCall a then ah else match mq sx.cl f with
   |some c=>(cE n sx a).map (.fld c f)|none=>ah
  |.ListComp elt gens scope pos=>match gens with
   |[]=>ah|g::r=>match r with
    |_::_=>ah|[]=>if g.is_async=0 then KI n sx elt g.target g.iter g.ifs scope pos else ah
  |.JoinedStr vs _=>match vs with
   |[]=>ah|v₁::r=>match r with
    |[]=>ah|v₂::r=>if HA (v₁::v₂::r)<=aS then(EW n sx (v₁::v₂::r)).map .fmt else ah
  |_=>ah
def EW:Nat->Sx->List bE->Option (List E)
 |0,_,_=>ah|n+1,sx,vs=>match vs with
  |[]=>af []|v::r=>match v with
   |.Constant c _ _=>match c with
    |.str _=>EW n sx r|_=>ah
   |.FormattedValue e c sp _=>match sp with
    |some _=>ah|none=>if c=114 then aU (λe' r'=>(e'::r')) (cE n sx e) (EW n sx r)else ah
   |_=>ah
def KI:Nat->Sx->bE->bE->bE->List bE->Scope->Pos->Option E
 |0,_,_,_,_,_,_,_=>ah|n+1,sx,elt,tg,iter,ifs,scope,pos=>
  if gZ sx tg scope=ai then(CF (inner sx tg scope) n tg).bind λt'=>(KL n (inner sx tg scope) ifs).bind λfs'=>(cE n (inner sx tg scope) elt).bind λe'=>(o8 sx.N (fK scope)).bind λcap=>
   if sx.HG pos=ai then(if fJ iter=ai then ah else(cE n sx iter).map λi'=>E.AM (sx.AZ pos) e' t' i' fs' (du 5 tg).length cap)
   else(cI n sx iter).map λi'=>E.comp (sx.AZ pos) e' t' i' fs' (du 5 tg).length cap
  else ah
def Aq:Nat->Sx->Str->List bE->Pos->Option E
 |0,_,_,_,_=>ah|n+1,sx,x,as,pos=>if sx.glob x=ai then match sx.fn.lookup x with
   |some fp=>(Au n sx as).bind λes=>match es with
    |[]=>ah|a'::as'=>if as'.length+1=fp.2 then af (.call fp.1 (a'::as'))else ah
   |none=>match KA sx.cl x with
    |some fp=>(Au n sx as).bind λes=>match es with
     |[]=>ah|a'::as'=>if as'.length+2=fp.2 then af (.new x fp.1 (a'::as'))else ah
    |none=>if sx.bl.contains x=ai then match jN x with
      |some f=>(Au n sx as).bind λes=>match es with
       |[]=>ah|a'::as'=>af (.bi f (a'::as'))
      |none=>Ar n sx x as pos
     else ah
  else ah
def Ar:Nat->Sx->Str->List bE->Pos->Option E
 |0,_,_,_,_=>ah|n+1,sx,x,as,pos=>match as with
  |[]=>ah|a::r=>match r with
   |[]=>match fc a with
    |none=>nO n sx x a pos|some (y,bs)=>if y= "range" /\sx.blt "range" =ai/\x= "list" then match bs with
      |[]=>ah|b::r2=>match r2 with
       |[]=>(cE n sx b).map λb'=> .col (if x= "list" then .list (sx.AZ pos)else .tuple) (.lS b')|c::r3=>ah
     else if y= "set" /\sx.blt "set" =ai/\x= "sorted" then match bs with
      |[]=>ah|b::r2=>match r2 with
       |[]=>(cE n sx b).map .sset|_::_=>ah
     else nO n sx x a pos
   |c::r2=>match r2 with
    |_::_=>ah|[]=>match nameOf c with
     |none=>ah|some y=>if x= "isinstance" /\sx.blt y=ai then match jM y with
       |none=>ah|some t=>(cE n sx a).map λa'=> .isI a' t
      else ah
def nO:Nat->Sx->Str->bE->Pos->Option E
 |0,_,_,_,_=>ah|n+1,sx,x,a,pos=>match qz x a with
  |some q=>if isCall q.1=ay/\(q.2.1.endLine==q.2.2.line)=ai then(cE n sx q.1).map .GI else ah|none=>match cE n sx a with
  |none=>ah|some a'=>if x= "list" then af (.col (.list (sx.AZ pos)) (.snap a'))else if x= "tuple" then af (.col .tuple (.snap a'))else if x= "sorted" then af (.col (.sorted (sx.AZ pos)) (.live a'))else if x= "sum" then af (.col .sum (.IX a'))else ah
def Av:Nat->Sx->bE->Str->Pos->List bE->Pos->Option E
 |0,_,_,_,_,_,_=>ah|n+1,sx,o,name,apos,as,pos=>if isCall o=ay/\(apos.endLine==pos.line)=ai/\as.length+1<30 then(cE n sx o).bind λo'=>(Au n sx as).bind λas'=>match Am sx.cl name as'.length with
   |some q=>af (.jS q.1 name q.2.1 o' as')|none=>match as' with
    |[]=>ah|a'::r=>match r with
     |b'::r2=>match r2 with
      |_::_=>ah|[]=>if name= "setdefault" then af (.F0 o' [a',b'])else ah
     |[]=>if name= "append" then af (.meth .append o' [a'])else if name= "pop" then af (.meth .mT o' [a'])else if name= "extend" then af (.meth .extend o' [a'])else if name= "index" then af (.FY o' a')else ah
  else ah
def Au:Nat->Sx->List bE->Option (List E)
 |0,_,_=>ah|n+1,sx,es=>match es with
  |[]=>af []|e::r=>aU (λe' r'=>(e'::r')) (cE n sx e) (Au n sx r)
def KG:Nat->Sx->BoolOp->List bE->Option E
 |0,_,_,_=>ah|n+1,sx,o,es=>match es with
  |[a]=>cE n sx a|a::b::r=>aU (λa' b'=>(match o with|.And=> .and a' b'|.Or=> .or a' b')) (cE n sx a) (KG n sx o (b::r))
  |[]=>ah
def cT:Nat->Sx->bE->Option T
 |0,_,_=>ah|n+1,sx,e=>match e with
  |.UnaryOp .Not a _=>(cT n sx a).map .nt|.BoolOp o es _=>KO n sx o es|.IfExp _ _ _ _=>ah|.Compare a ops bs _=>match ops with
   |[]=>ah|o::ro=>match bs with
    |[]=>ah|b::rb=>match ro with
     |[]=>match rb with
      |[]=>if behindInMarks o b then ah else aU (λa' b'=>(.val (.cmp o a' b'))) (cE n sx a) (cE n sx b)|_::_=>ah
     |o'::HM=>match HM with
      |_::_=>ah|[]=>match rb with
       |[]=>ah|c::rc=>match rc with
        |_::_=>ah|[]=>ah
  |e=>(cE n sx e).map .val
def KO:Nat->Sx->BoolOp->List bE->Option T
 |0,_,_,_=>ah|n+1,sx,o,es=>match es with
  |[a]=>cT n sx a|a::b::r=>aU (λa' b'=>(match o with|.And=> .and a' b'|.Or=> .or a' b')) (cT n sx a) (KO n sx o (b::r))
  |[]=>ah
def KL:Nat->Sx->List bE->Option (List T)
 |0,_,_=>ah|n+1,sx,es=>match es with
  |[]=>af []|e::r=>aU (λe' r'=>(e'::r')) (cT n sx e) (KL n sx r)
def cI:Nat->Sx->bE->Option It
 |0,_,_=>ah|n+1,sx,e=>match fc e with
  |none=>if fJ e=ai then ah else(cE n sx e).map .seq|some (x,bs)=>if x= "range" /\sx.blt "range" =ai then match bs with
    |[]=>ah|b::r2=>match r2 with
     |[]=>(cE n sx b).map .lS|c::r3=>ah
   else(cE n sx e).map .seq
end
def qD(sx:Sx)(y:Str):List Str:=(sx.xc.filter λp=>p.2.contains y).map (·.1)
def OR(e:bE):Option E:=match e with
 |.Constant c _ _=>qC c|_=>ah
def OS(sx:Sx)(st:fT):Option C:=match st with
 |.Assign ts e _=>match ts with
  |[]=>ah|t::r=>match r with
   |_::_=>ah|[]=>match nameOf t with
    |none=>ah|some x=>if sx.names.lookup x=af .local then aU (λi e'=> .asg (.name i) e') (idx sx.N x) (OR e)else ah
 |_=>ah
def rA(sx:Sx):List fT->Option (List C)
 |[]=>af []|s::r=>aU (λs' r'=>(s'::r')) (OS sx s) (rA sx r)
def JH:bE->Bool
 |.Constant c _ _=>match c with
  |.str _=>ai|_=>ay
 |_=>ay
def gM:bE->Bool
 |.ListComp _ _ _ _=>ai|.SetComp _ _ _ _=>ai|.DictComp _ _ _ _ _=>ai|_=>ay
def my:bE->Bool
 |.Tuple _ _ _=>ai|.SetComp _ _ _ _=>ai|.DictComp _ _ _ _ _=>ai|_=>ay
def mz(sx:Sx)(tg it:bE):Option Expr:=if vg tg=ai then match fc it with
  |none=>ah|some (x,as)=>match as with
   |[]=>ah|b::r=>match r with
    |_::_=>ah|[]=>if x= "enumerate" /\sx.blt "enumerate" =ai then af b else ah
 else ah
def raiseOf(ex:Option bE):Option (Str×bE×List bE):=match ex with
 |none=>ah|some e=>match fc e with
  |none=>ah|some (c,as)=>match as with
   |[]=>ah|e₀::r=>af (c,e₀,r)
def uc(hs:List ExceptHandler)(oe fb:List fT):Option (Str×fT×List fT):=match oe with
 |_::_=>ah|[]=>match fb with
  |_::_=>ah|[]=>match hs with
   |[]=>ah|h::r=>match r with
    |_::_=>ah|[]=>match h with
     |.ExceptHandler ty nm bd _=>match nm with
      |some _=>ah|none=>match ty with
       |none=>ah|some e=>match bd with
        |[]=>ah|b₀::hb=>(nameOf e).map λcn=>(cn,b₀,hb)
def Aw(e:bE):Option (bE×Comprehension×Scope×Pos):=match e with
 |.ListComp elt gens scope lp=>match gens with
  |[]=>ah|g::r=>match r with
   |_::_=>ah|[]=>if g.is_async=0 then af (elt,g,scope,lp)else ah
 |_=>ah
mutual
def cC:Nat->Sx->fT->Option C
 |0,_,_=>ah|n+1,sx,st=>match st with
  |.Assign OT e pos=>match OT with
   |[]=>ah|tg::r=>match r with
    |[]=>Ho n sx tg e pos|_::_=>ah
  |.Expr e pos=>if JH e=ai then af .pass else if gM e=ai then ah else(cE n sx e).map .ex|.If c a b _=>gB (λc' a' b'=>(.cond c' a' b')) (cT n sx c) (BY n sx a) (BY n sx b)|.While c a oe _=>match oe with
   |[]=>if sx.lp=ai then aU (λc' a'=>(.wh c' a')) (cT n sx c) (BY n sx a)else ah|_::_=>ah
  |.For tg it a oe pos=>match oe with
   |_::_=>ah
   |[]=>if sx.lp=ai then(if sx.HK pos=ai then(if ¬fJ it=ai then gB (λt' e' a'=>(.C6 t' e' a')) (CF sx n tg) (cE n sx it) (BY n sx a)else ah)else match mz sx tg it with
     |some b=>gB (λt' i' a'=>(.fr t' (.BB i') a')) (CF sx n tg) (cE n sx b) (BY n sx a)
     |none=>gB (λt' i' a'=>(.fr t' i' a')) (CF sx n tg) (cI n sx it) (BY n sx a))
    else ah
  |.Return e _=>match e with
   |some e=>(cE n sx e).map .ret|none=>af .GL
  |.Pass _=>af .pass|.Break _=>af .brk|.Continue _=>af .cont|.Raise ex cs _=>match cs with
   |some _=>ah|none=>match raiseOf ex with
    |some (c,e₀,r)=>if(sx.xc.lookup c).isSome=ai/\sx.glob c=ai/\r.length<=30 then(Au n sx (e₀::r)).map (.raise c)else ah|none=>ah
  |.Try body hs oe fb _=>match uc hs oe fb with
   |some (cn,b₀,hb)=>if(sx.xc.lookup cn).isSome=ai/\sx.glob cn=ai then aU (λbs hs=>(.tr bs (qD sx cn) ah hs)) (BY n {sx with lp:=ay} body) (rA sx (b₀::hb))else ah
   |none=>ah
  |_=>ah
def Ho:Nat->Sx->bE->bE->Pos->Option C
 |0,_,_,_,_=>ah|n+1,sx,tg,e,pos=>match tg with
  |.Subscript o i _=>gB (λo' i' e'=>(.sub o' i' e')) (cE n sx o) (cE n sx i) (cE n sx e)|.Attribute o f _=>if gM e=ai then ah else match mq sx.cl f with
   |some c=>aU (λo' e'=>(.fset c f o' e')) (cE n sx o) (cE n sx e)|none=>ah
  |.Tuple ts kt pt=>if my e=ai then ah else aU (λt e'=>(.asg t e')) (CF sx n (.Tuple ts kt pt)) (cE n sx e)|.Name x xp=>match Aw e with
   |some (elt,g,scope,lp)=>aU (λt e'=>(.asg t e')) (CF sx n (.Name x xp)) (KI n sx elt g.target g.iter g.ifs scope lp)|none=>if gM e=ai then ah else aU (λt e'=>(.asg t e')) (CF sx n (.Name x xp)) (cE n sx e)
  |_=>ah
def BY:Nat->Sx->List fT->Option (List C)
 |0,_,_=>ah|n+1,sx,ss=>match ss with
  |[]=>af []|s::r=>if sx.HL s.pos=ai then af [.no]else aU (λs' r'=>(s'::r')) (cC n sx s) (BY n sx r)
end
end RK
namespace RK
open PySem Sem
open AutoSeq1 (wpAny_loadPart')
section
variable{prog:ck}{w:cy}{A:cK}{E:av->aE->Prop}{s:aE}
def Hq(hi:s.heap.IsTupleIter it t i)(ht:s.heap.IsTuple t its)(hx:its[i]?=af x)(q:∀h',h'.IsTupleIter it t (i+1)->Heap.SameBut it s.heap h'->Q x {s with heap:=h'}):bg (model prog w) A (Builtin.SmallTypes.nextOf (.ref it)) Q E s:=by obtain⟨oi,hoi,ci,di⟩:=id hi;obtain⟨ot,hot,_,nt,dt⟩:=ht;unfold Builtin.SmallTypes.nextOf;refine My (Xf (name:=Str.ofString "__next__") hi.typeIs Y4 (WY Y4 hi.typeIs F.entry_tuple_iterator_next ?_ (F.args_tuple_iterator_next_1 _)));show bg _ _ (field (.ref it) 0>>=_) _ _ s;refine My (W3 hoi di (x:= .ref t) rfl ?_);show bg _ _ (if(Value.ref t==Value.none)=ai then _ else _) _ _ s;rw[if_neg (show ¬((Value.ref t==Value.none)=ai)from Zh)];show bg _ _ (field (.ref it) 1>>=_) _ _ s;refine My (W3 hoi di (x:= .int i 0) rfl ?_);show bg _ _ (seqItems? (.ref t)>>=_) _ _ s;refine My (wpAny_seqItems hot dt ?_);simp only[Yy,hx];refine My (Yj hoi di (by simp) (V8 ⟨x,rfl,V8 (q _ ⟨_,W7 _ hoi (YT (Yq di _)),(Obj.cls_mapFields ..).trans ci,?_⟩ (X8 ..))⟩));rw[Yq di];simp[rawInt]
def LK(hh:A.handled=ah)(hi:s.heap.IsTupleIter it t i)(ht:s.heap.IsTuple t its)(hx:its[i]?=ah)(q:∀h' e,Heap.ExtBut it s.heap h'->(∃o,h'.get? e=af o/\o.cls= .type "StopIteration")->E (.ref e) {s with heap:=h'}):bg (model prog w) A (Builtin.SmallTypes.nextOf (.ref it)) Q E s:=by
 obtain⟨oi,hoi,ci,di⟩:=id hi;obtain⟨ot,hot,_,nt,dt⟩:=ht;unfold Builtin.SmallTypes.nextOf;refine My (Xf (name:=Str.ofString "__next__") hi.typeIs Y4 (WY Y4 hi.typeIs F.entry_tuple_iterator_next ?_ (F.args_tuple_iterator_next_1 _)));show bg _ _ (field (.ref it) 0>>=_) _ _ s;refine My (W3 hoi di (x:= .ref t) rfl ?_);show bg _ _ (if(Value.ref t==Value.none)=ai then _ else _) _ _ s;rw[if_neg (show ¬((Value.ref t==Value.none)=ai)from Zh)];show bg _ _ (field (.ref it) 1>>=_) _ _ s;refine My (W3 hoi di (x:= .int i 0) rfl ?_);show bg _ _ (seqItems? (.ref t)>>=_) _ _ s;refine My (wpAny_seqItems hot dt ?_);simp only[Yy,hx];refine My (Y5 (My (Yj hoi di (by simp) ?_)));show bg _ _ (newExc (.type "StopIteration") []>>=_) _ _ _;refine My ?_;simp only[newExc,newTuple];refine My (W5 (My (m:=firstArgMember _ _) (wpAny_of_eq (a:=Value.none) (by rfl) (W5 ?_ (by size_fits)))) (by size_fits));simp only[raiseNew];refine My (wpAny_handled ?_)
 first|rw[show A.in1.handled=ah from hh]|rw[hh]
 exact My (V8 (wpAny_throw (q _ _ (((X8 ..).extBut.push _).push _) ⟨_,Wf _ rfl,rfl⟩)))
def Dv{e it:aI}{i:Nat}{x old:av}{N:dc->Prop}{Q:Option av->aE->Prop}(he:IsEnum s.heap e it i old)(hne:e≠it)(hn:∀(A:cK)(E:av->aE->Prop)(Q:av->aE->Prop),(∀h',N h'->Heap.SameBut it s.heap h'->Q x {s with heap:=h'})->bg (model prog w) A (Builtin.SmallTypes.nextOf (.ref it)) Q E s)(hN:∀h h',N h->(∀o,h.get? it=af o->h'.get? it=af o)->N h')(q:∀h',IsEnumOut h' e it ((i:Int)+1) x s.heap.objs.size->N h'->h'.get? s.heap.objs.size=af {cls:= .type "tuple",data:= .seq #[.int i s.toks,x]}->h'.objs.size=s.heap.objs.size+1->
   (∀b o,b≠e->b≠it->s.heap.get? b=af o->h'.get? b=af o)->Q (af (.ref s.heap.objs.size)) {s with heap:=h',toks:=s.toks+1}):bg (model prog w) A (pyNext (.ref e)) Q E s:=by
 have hT:s.TypeIs (.ref e) "enumerate" :=⟨_,he,rfl⟩
 have hni:it≠e:=Ne.symm hne;unfold pyNext;refine My (Zf (Xf (name:=Str.ofString "__next__") hT F.slot_enumerate_next (WY F.slot_enumerate_next hT F.entry_enumerate_next ?_ (F.args_enumerate_next_1 _))));obtain⟨hp,g,d,tk,os⟩:=s;have hel:e<hp.objs.size:=Wg he;show bg _ _ (field (.ref e) 2>>=_) _ _ _;refine My (W3 he rfl (x:= .ref it) rfl (My (hn _ _ _ λh1 n1 (s1:Heap.SameBut it hp h1)=>?_)));have e1:IsEnum h1 e it i old:=(s1.2 e hne).trans he;show bg _ _ (field (.ref e) 3>>=_) _ _ ⟨h1,g,d,tk,os⟩;refine My (W3 e1 rfl (x:=rawInt i) rfl ?_);show bg _ _ (field (.ref e) 4>>=_) _ _ ⟨h1,g,d,tk,os⟩;refine My (W3 e1 rfl (x:= .none) rfl ?_);show bg _ _ (mkInt i>>=_) _ _ ⟨h1,g,d,tk,os⟩;refine My (wpAny_mkInt ?_);show bg _ _ (setField (.ref e) 3 (rawInt ((i:Int)+1))>>=_) _ _ ⟨h1,g,d,tk+1,os⟩;refine My (Xv e1 (by simp) λh2 (e2:IsEnum h2 e it ((i:Int)+1) old) (s2:Heap.SameBut e h1 h2)=>?_);show bg _ _ (setField (.ref e) 4 .none>>=_) _ _ ⟨h2,g,d,tk+1,os⟩;refine My (Xv e2 (by simp) λh3 (e3:IsEnum h3 e it ((i:Int)+1) old) (s3:Heap.SameBut e h2 h3)=>?_);show bg _ _ (newTuple [.int i tk,x]>>=_) _ _ ⟨h3,g,d,tk+1,os⟩;refine My (wpAny_newTuple ?_);have z3:h3.objs.size=hp.objs.size:=by rw[s3.1,s2.1,s1.1]
 obtain⟨h4,LY⟩:∃h4,h4=h3.push {cls:= .type "tuple",data:= .seq #[.int i tk,x]}:=⟨_,rfl⟩
 have e4:IsEnum h4 e it ((i:Int)+1) old:=by rw[LY];exact V9 _ e3
 have t4:h4.get? hp.objs.size=af {cls:= .type "tuple",data:= .seq #[.int i tk,x]}:=by rw[LY,←z3];exact Wf _ rfl
 have z4:h4.objs.size=hp.objs.size+1:=by rw[LY,YF,z3]
 have k4:∀b o,b≠e->h1.get? b=af o->h4.get? b=af o:=λb o hb ho=>by rw[LY];exact V9 _ (s3.extBut b o hb (s2.extBut b o hb ho))
 show bg _ _ (Builtin.SmallTypes.ownedTupleIsFree (.ref e)>>=_) _ _ ⟨h3.push {cls:= .type "tuple",data:= .seq #[.int i tk,x]},g,d,tk+1,os⟩;rw[z3,←LY];refine My ?_;unfold Builtin.SmallTypes.ownedTupleIsFree;refine My (W3 e4 rfl (x:= .none) rfl (V8 ?_));simp only[if_true];refine My (Y5 (My (W3 e4 rfl (x:=old) rfl (My (Xv e4 (by simp) λh5 (e5:IsEnum h5 e it ((i:Int)+1) x) (s5:Heap.SameBut e h4 h5)=>?_)))));show bg _ _ (Builtin.SmallTypes.ownedTupleHandOut (.ref e) (.ref hp.objs.size)>>=_) _ _ ⟨h5,g,d,tk+1,os⟩;refine My ?_;unfold Builtin.SmallTypes.ownedTupleHandOut;refine My (Xv e5 (by simp) λh6 (e6:IsEnumOut h6 e it ((i:Int)+1) x hp.objs.size) (s6:Heap.SameBut e h5 h6)=>?_);refine Xv e6 (by simp) λh7 (e7:IsEnumOut h7 e it ((i:Int)+1) x hp.objs.size) (s7:Heap.SameBut e h6 h7)=>?_;have k7:∀b o,b≠e->h4.get? b=af o->h7.get? b=af o:=λb o hb ho=>s7.extBut b o hb (s6.extBut b o hb (s5.extBut b o hb ho));refine My (wpAny_letGo (V8 ⟨_,rfl,V8 (q h7 e7 (hN h1 h7 n1 λo ho=>k7 it o hni (k4 it o hni ho)) (k7 _ _ (Xn hel) t4) ?_ λb o hb hbi ho=>k7 b o hb (k4 b o hb (s1.extBut b o hbi ho)))⟩));rw[s7.1,s6.1,s5.1,z4]
def Hr{e it:aI}{i:Nat}{old:av}{Q:Option av->aE->Prop}(he:IsEnum s.heap e it i old)(hn:∀(A':cK)(E:av->aE->Prop)(Q:av->aE->Prop),A'.handled=A.handled->(∀h' e,Heap.ExtBut it s.heap h'->(∃o,h'.get? e=af o/\o.cls= .type "StopIteration")->E (.ref e) {s with heap:=h'})->bg (model prog w) A' (Builtin.SmallTypes.nextOf (.ref it)) Q E s)(q:∀h',Heap.ExtBut it s.heap h'->Q ah {s with heap:=h'}):bg (model prog w) A (pyNext (.ref e)) Q E s:=by
 have hT:s.TypeIs (.ref e) "enumerate" :=⟨_,he,rfl⟩
 unfold pyNext;refine My (Zf (Xf (name:=Str.ofString "__next__") hT F.slot_enumerate_next (WY F.slot_enumerate_next hT F.entry_enumerate_next ?_ (F.args_enumerate_next_1 _))));show bg _ _ (field (.ref e) 2>>=_) _ _ _;refine My (W3 he rfl (x:= .ref it) rfl (My (hn _ _ _ rfl λh' x he' hx'=>?_)));obtain⟨o,ho,hc⟩:=hx';exact My (wpAny_isInstance (T:= "StopIteration") (b:=ai) ⟨o,ho,hc⟩ isSubtype_stop (V8 (q _ he')))
end
def rC(l:aI)(items:Array av):
  Meets (Builtin.«enumerate.__new__» ⟨[.type "enumerate",.ref l],[]⟩) (λ_ R s=>s.heap.IsTuple l items/\
   R (.ok (.ret (.ref (s.heap.push {cls:= .type "tuple_iterator",data:= .fields #[.ref l,.int 0 0]}).objs.size)))
    {s with heap:=(s.heap.push {cls:= .type "tuple_iterator",data:= .fields #[.ref l,.int 0 0]}).push {cls:= .type "enumerate",data:= .fields #[.none,.bool ay,.ref s.heap.objs.size,rawInt 0,.none,.none]}}):=
 .of_wp λprog w A R s h=>by
  obtain⟨hp,g,d,tk,os⟩:=s;obtain⟨hl,h⟩:=h;have hsub:=sub_enumerate;have hT:Heap.IsTuple (Shared.heap ⟨hp,g,d,tk,os⟩) l items:=hl;obtain⟨ol,hol,hcl,nl,hdl⟩:=id hl
  wp_walk using Yn hT.typeIs,YK hT
  refine wpAny_stack_any λst=>V8 ?_;split
  ·rename_i c _ _ _ _ _;cases(c==Value.type "enumerate")
   ·wp_walk using Yn hT.typeIs,YK hT
    exact⟨_,rfl,h⟩
   ·wp_walk using Yn hT.typeIs,YK hT
    exact⟨_,rfl,h⟩
  ·wp_walk using Yn hT.typeIs,YK hT
   exact⟨_,rfl,h⟩
def tY{prog:ck}{w:cy}{A:cK}{E:av->aE->Prop}{s:aE}{l:aI}{items:Array av}{Q:av->aE->Prop}(hl:s.heap.IsTuple l items)(h:∀h',IsEnum h' (s.heap.objs.size+1) s.heap.objs.size 0 .none->h'.IsTupleIter s.heap.objs.size l 0->h'.objs.size=s.heap.objs.size+2->(∀b o,s.heap.get? b=af o->h'.get? b=af o)->Q (.ref (s.heap.objs.size+1)) {s with heap:=h'}):
  bg (model prog w) A (call (.type "enumerate") [.ref l]) Q E s:=by
 have hz:(s.heap.push {cls:= .type "tuple_iterator",data:= .fields #[.ref l,.int 0 0]}).objs.size=s.heap.objs.size+1:=YF ..;refine callType_new F.called_enumerate (by decide) (F.typeCall_enumerate_1 _) (F.newCall_enumerate_1 _) (λobj=>F.args_object_init_2 obj _) F.entry_enumerate_new (rC l items) ⟨hl,?_⟩;show _/\_;rw[hz];have he:IsEnum ((s.heap.push {cls:= .type "tuple_iterator",data:= .fields #[.ref l,.int 0 0]}).push {cls:= .type "enumerate",data:= .fields #[.none,.bool ay,.ref s.heap.objs.size,rawInt 0,.none,.none]}) (s.heap.objs.size+1) s.heap.objs.size 0 .none:=by rw[←hz];exact Wf _ rfl
 exact⟨⟨_,he,rfl⟩,h _ he ⟨_,V9 _ (Wf _ rfl),rfl,rfl⟩ (by simp) λb o x=>V9 _ (V9 _ x)⟩
end RK
namespace L2
open PySem PySem.Spec PyProof.Rows
section
variable{X:Cx}{pins:List (aI×Obj)}{σ:List (Option V)}{H:Hp}{s:aE}{h':dc}
def Inv.turns{ch:List aI}(I:Inv X pins σ H s)(k:∀b o,b∉ch->s.heap.get? b=af o->h'.get? b=af o)(hc:∀b∈ch,dO X pins H b):Inv X pins σ H {s with heap:=h',toks:=t'}:=by
 have UH:∀b u,H b=af u->b∉ch:=λb u e z=>by rw[(hc b z).1]at e;cases e
 refine I.step (g':=s.gens) (d':=s.drawn) (ch:=ch) (λb hb=>?_) (λb o _ _ hc e _=>k b o hc e) (λb o _ _ hc e _=>⟨o.slots,k b o hc e⟩) (λ_ _ _ _ n=>n)
  (λb o hc e=>⟨o,k b o hc e⟩) (λ_ _ e=>e) (λ_ _ _ e=>e) (λb ps e=>⟨#[],by rw[e];simp⟩) (λm hm=>?_) (λb u e=>?_) I.bare
 ·obtain⟨_,h1,_,h3,h4,h5⟩:=hc b hb;exact⟨h3,h1,h4,h5⟩
 ·obtain⟨o,es,ep,ho,r⟩:=hm;exact⟨o,es,ep,k _ o (λz=>(hc _ z).2.1 rfl) ho,r⟩
 ·refine(I.hok b u e).stay (λc v hc q=>k c v ?_ q) (λ_ q=>q) λ_ _ q=>q
  grind
end
def OU(K:aT)(a:aI):It:=
 ⟨λi H=>∃xs x,tP K H a xs/\xs[i]?=af x,λi H x H'=>∃p v,H p=ah/\x= .ref p/\H'=upd H p (.tup [.int i,v])/\∀xs,tP K H a xs->xs[i]?=af v,λi H=>∃xs,tP K H a xs/\xs.length<=i⟩
def Dw{P:ck}{w:cy}{K:aT}{es:List bE}{k:Nat}{pos:Pos}(a e it:aI)(hne:e≠it):
  Turn P w K (.Tuple es k pos) (OU K a) [e,it] e (λi h=>(∃old,IsEnum h e it i old)/\h.IsTupleIter it a i)where
 mem:=by simp
 obj:=λi h st b hb=>by
  obtain⟨⟨old,he⟩,o,ho,_,hd⟩:=st
  grind
 keep:=λi h h' st k=>by obtain⟨⟨old,he⟩,o,ho,r⟩:=st;exact⟨⟨old,k e (by simp) _ he⟩,o,k it (by simp) _ ho,r⟩
 item:=by
  intro X hP hw hK hc i pins s σ H E I hf st hg;subst hP hw hK;obtain⟨⟨old,he⟩,hi⟩:=st;obtain⟨xs,x,hq,hx⟩:=hg;obtain⟨its,rv,p,hz⟩:=I.tuple hq;obtain⟨u,hu,ru⟩:=rv.get hx;have fe:=hf e (by simp);have fi:=hf it (by simp);have hel:e<s.heap.objs.size:=Wg he;have hil:it<s.heap.objs.size:=by obtain⟨o,ho,_⟩:=hi;exact Wg ho
  refine RK.Dv (N:=λh=>h.IsTupleIter it a (i+1)) he hne (λA' E' Q' q=>RK.Hq hi (show s.heap.IsTuple a its.toArray from p) (x:=u) (by simpa using hu) q) (λh h' n k=>?_) λh1 e1 n1 t1 z1 k1=>?_
  ·obtain⟨o,ho,r⟩:=n;exact⟨o,k o ho,r⟩
  ·refine⟨_,rfl,wpAny_letOwnedTupleGo_enum e1 λh2 e2 sb=>?_⟩;have hfr:H s.heap.objs.size=none:=I.hok.fresh (Wc _);have I1:Inv X pins σ (upd H s.heap.objs.size (.tup [.int i,x])) {s with heap:=s.heap.push {cls:= .type "tuple",data:= .seq #[.int i s.toks,u]},toks:=s.toks+1}:=
    I.laid (t':=s.toks+1) (o:= .tup [.int i,x]) (λb o e=>V9 _ e) (Wc _) ⟨by simp[W6],[.int i s.toks,u],.cons ⟨_,rfl⟩ (.cons ru .nil),IsTup.new _ _,_,Wf _ rfl,rfl,rfl⟩
   have fp:∀b∈ [e,it],dO X pins (upd H s.heap.objs.size (.tup [.int i,x])) b:=λb hb=>by
    have hf':=hf b hb;have EH:b≠s.heap.objs.size:=by
     rcases(show b=e\/b=it by simpa using hb)with rfl|rfl
     ·exact Wo hel
     ·exact Wo hil
    exact⟨by rw[aA EH];exact hf'.1,hf'.2⟩
   have I2:=I1.turns (h':=h2) (t':=s.toks+1) (ch:=[e,it]) (λb o hb ho=>by
    have hbe:b≠e:=λz=>hb (by simp[z]);have hbi:b≠it:=λz=>hb (by simp[z]);refine(sb.2 b hbe).trans ?_;by_cases hbs:b=s.heap.objs.size
    ·subst hbs;have e3:(s.heap.push {cls:= .type "tuple",data:= .seq #[.int i s.toks,u]}).get? s.heap.objs.size=af {cls:= .type "tuple",data:= .seq #[.int i s.toks,u]}:=Wf _ rfl;lia
    ·rw[Heap.get?_push_ne _ _ _ hbs]at ho;exact k1 b o hbe hbi ho) fp
   refine⟨.ref s.heap.objs.size,_,I2,rfl,⟨s.heap.objs.size,x,hfr,rfl,rfl,λys hy=>by rw[I.BN hy hq];exact hx⟩,⟨⟨_,e2⟩,?_⟩,λb hb=>(fp b hb).1⟩;obtain⟨o,ho,r⟩:=n1;exact⟨o,(sb.2 it (Ne.symm hne)).trans ho,r⟩
 done:=by intro X hP hw hK hc i pins s σ H E I hf st hg;subst hP hw hK;obtain⟨⟨old,he⟩,hi⟩:=st;obtain⟨xs,hq,hx⟩:=hg;obtain⟨its,rv,p,hz⟩:=I.tuple hq;have hl:=rv.length;exact RK.Hr he (λA' E' Q' hA q=>RK.LK (hA.trans (I.ok.hd hc)) hi (show s.heap.IsTuple a its.toArray from p) (by simp;lia) q) λh' eb=>⟨rfl,I.turns (t':=s.toks) (ch:=[e,it]) (λb o hb ho=>eb b o (λz=>hb (by simp[z])) ho) hf⟩
 self:=λ_ _ _ _ _ st h=>by obtain⟨⟨old,he⟩,_⟩:=st;exact wpAny_pyIter_enum he h
section
variable{X:Cx}{es:List bE}{k:Nat}{pt:Pos}
def VH(K:aT)(ta:TA):TI:=λσ H R=>ta σ H λvs H1=>∃a,vs=[.ref a]/\(∃xs,tP K H1 a xs)/\R (OU K a) H1
theorem LQ(hg:Gl X "enumerate")(hm:X.mg "enumerate" =ah)(ha:PA X [b] ta)(hs:starEach [b] X.env=[(ay,eval b X.env)]):PI X (.Tuple es k pt) (.Call (.Name "enumerate" p) [b] [] pos) (VH X.K ta):=by
 intro pins s σ H R I h;refine Call_ (jD I hg hm boot_enumerate (YL (ja (ha pos pins s σ H _ I h) λus s1 zz=>?_) hs rfl));obtain⟨vs,H1,I1,r1,q1⟩:=zz;obtain⟨a,e,⟨xs,hq⟩,q⟩:=q1;subst e;cases r1 with
 |cons r rr=>
  cases rr;cases r;obtain⟨its,rv,pl,hz⟩:=I1.tuple hq;refine RK.tY (show s1.heap.IsTuple a its.toArray from pl) λh' he hi hz' hk=>wpAny_pyIter_enum (s:={s1 with heap:=h'}) he ?_;refine⟨s1.heap.objs.size+1,[s1.heap.objs.size+1,s1.heap.objs.size],_,_,H1,rfl,I1.kept (t':=s1.toks) hk,Dw a _ _ (Nat.succ_ne_self _),⟨⟨_,he⟩,hi⟩,λb hb=>?_,q⟩;rcases(show b=s1.heap.objs.size+1\/b=s1.heap.objs.size by simpa using hb)with rfl|rfl
  ·exact I1.B4 (Yo _) (I1.hok.fresh (Yo _))
  ·exact I1.B4 (Wc _) (I1.hok.fresh (Wc _))
end
end L2
namespace RK
open PySem L2 PySem.SeqAt
section
variable{X:Cx}{cl:Nat->List D->bq->Ev D}{b:bE}{b':E}{pos p:Pos}{es:List bE}{k:Nat}{pt:Pos}
def Hs{i:Nat}(h:(iK ds)[i]?=af d):∃x,ds[i]?=af x/\d= .tup [.int i,x]:=by
 unfold iK at h;rw[Xm,List.getElem?_zipIdx]at h;cases e:ds[i]? with|none=>simp_all|some x=>simp_all
def Dy:(iK ds).length=ds.length:=by simp[iK]
def xF(hq:tP X.K H a vs)(rs:f7 X.K m H ds vs):jK X m H (iK ds) (OU X.K a):=by
 intro m' H' st hm;have hq':=st.LG hq;have rs':=rs.step st;refine⟨⟨vs,hq',by rw[Dy,rs.length];lia⟩,λi d hd=>?_⟩;obtain⟨x,hx,rfl⟩:=Hs hd;obtain⟨v,h1,h2⟩:=rs'.get hx;refine⟨⟨vs,v,hq',h1⟩,λy BI yl=>?_⟩;obtain⟨p,v',hp,rfl,rfl,hv⟩:=yl;have e:=hv vs hq';rw[h1]at e;have ev:v=v':=by simpa using e
 subst ev;have hpm:p∉m':=λz=>hm p z hp;have stp:fk m' m' H' (upd H' p (.tup [.int i,v])):=
  ⟨⟨[],by simp⟩,λ_ _ _ q=>q,λa xs q=>by rw[aA (aP q hp)];exact q,λa ob u q=>by rw[aA (aP q hp)];exact q,
   λa xs q _=>by rw[aA (aP q hp)];exact q,λa q=>by
    by_cases e:a=p
    ·lia
    ·rw[aA e]at q;exact q,λa φ q=>by rw[aA (aP q hp)];exact q⟩
 exact⟨stp,λc hc=>aA λe=>hpm (e▸hc),jc (tP.of bh) (.cons cj (.cons (h2.step stp) .nil))⟩
theorem LR(hg:Gl X "enumerate")(hm:X.mg "enumerate" =ah)(hb:JE X cl b b')(hs:starEach [b] X.env=[(ay,eval b X.env)]):JI X cl (.Tuple es k pt) (.Call (.Name "enumerate" p) [b] [] pos) (.BB b'):=by
 refine PI.imp (LQ hg hm (cQ hb eZ hs) hs) λσ H R h=>?_;refine bO h λm r S er sr h=>?_;have h:tO X (rI X) (bnd (aj cl b' r S) λx S1=>match x with|.tup ds=>fy (iK ds) S1|_=>ah) m r H R:=h;refine⟨m,r,S,er,sr,h.bnd.mono λv H1 zz=>?_⟩;refine aN zz λm1 x S1 st1 e8 rx h1=>?_;cases x with
 |tup ds=>obtain⟨a,vs,rfl,hq,rs⟩:=cW rx;exact⟨a,rfl,⟨vs,hq⟩,h1.fin e8 (xF hq rs)⟩
 |_=>exact h1.elim
end
end RK
namespace RK
open PySem L2 PySem.SeqAt PyProof.Rows
section
variable{X:Cx}{cl:Nat->List D->bq->Ev D}{a b:bE}{a' b':E}{pos:Pos}
theorem vm:∀{ds:List D}{xs:List Str},jq ds=af xs->ds=xs.map D.str
 |[],xs,h=>by cases h;rfl|d::ds,xs,h=>by
  cases d with
  |str x=>obtain⟨ys,h1,h2⟩:=XN.mp (show(jq ds).map (x::·)=af xs from h);rw[←h2,vm h1];rfl
  |_=>cases h
theorem yx:∀{xs:List Str}{vs:List V}{its:List av},f7 X.K m H (xs.map D.str) vs->Vals vs its->StrsAre its xs
 |[],vs,its,h,r=>by have:=h.nil_of;subst this;cases r;exact .nil|x::xs,vs,its,h,r=>by
  obtain⟨v,t,rfl,h1,h2⟩:=f7.cons_of (d:=D.str x) (ds:=xs.map D.str) h;cases AY h1;cases r with
  |cons ru r'=>obtain⟨tk,rfl⟩:=ru;exact .cons x tk (yx h2 r')
def VJ(X:Cx):V->List V->Hp->VK->Prop:=λx xs H Q=>∃m r S ds d y,xs=[y]/\cS X.K m S H/\RD X.K m H (.lst ds) x/\RD X.K m H d y/\tO X (rD X) (lU ds d S) m r H Q
theorem Q4:DT X "list.index" (VJ X):=by
 intro pins s σ H x xs v us Q I rx rv h;obtain⟨m,r,S,ds,d,y,rfl,sr,rt,ry,h⟩:=h;obtain⟨p,vs,rfl,hq,_,rs⟩:=dB rt;cases e1:jq ds with
 |none=>simp only[lU,e1]at h;exact h.elim|some ns=>
  cases d with
  |str i=>
   simp only[lU,e1]at h;cases e3:ns.findIdx? (λn=>decide (n=i))with
   |none=>rw[e3]at h;exact h.elim|some j=>
    rw[e3]at h;have e4:=vm e1;subst e4;cases AY ry;cases rx;obtain⟨u,rfl,t,rfl⟩:=vals1 rv;obtain⟨hz,its,n,r',g1⟩:=I.hok _ _ hq;have hi:StrsAre its ns:=yx rs r';obtain⟨hj,hp,hf⟩:=Yp.mp e3;have hp:ns[j]=i:=WR hp;have hat:∀(its:List av)(ns:List Str),StrsAre its ns->its.length=ns.length/\∀k (h1:k<its.length) (h2:k<ns.length),isStrOf i its[k]=(ns[k]==i):=by
     intro its ns hs
     induction hs with
     |nil=>exact⟨rfl,λk h=>absurd h (by simp)⟩|cons x t h ih=>
      refine⟨by simp[ih.1],λk h1 h2=>?_⟩;cases k with|zero=>rfl|succ k=>simpa using ih.2 k (by simpa using h1) (by simpa using h2)
    obtain⟨hl,hat⟩:=hat its ns hi;have hlen:its.length<=sizeLine:=by rw[←r'.length];exact hz
    have hsz:aS<2^62:=by rw[W6];decide
    refine call_meets mP ⟨_,g1,rfl⟩ PySem.F.entry_list_index (PySem.F.args_list_index_2 _ _) (MeetsSeq.list_index p its.toArray n (.str i t) (isStrOf i) (λy hy=>eq_isStrOf i t hi y (by simpa using hy)) j (by simp;lia) (by lia) ?_ λk hk hlt=>?_) ⟨g1,⟨.int j,H,I.tok _,⟨_,rfl⟩,h.fin sr cj⟩⟩
    ·have:=hat j (by lia) hj;rw[hp,beq_self_eq_true]at this;simpa using this
    ·have:=hat k hk (Ye hlt hj);have e2:(ns[k]'(Ye hlt hj)==i)=false:=by simpa using hf k hlt
     rw[e2]at this;simpa using this
  |_=>simp only[lU,e1]at h;exact h.elim
theorem Q5(ho:JE X cl a a')(hb:JA X cl [b] [b'])(hbase:attributeBase a "index" X.env (eval a X.env)=eval a X.env)(hfew:((backTo pos (starEach [b] X.env)).all (λx=>!x.1) && (backToKw pos (keywordEach [] X.env)).all (λx=>x.1.isSome)
   && decide ([b].length+([]:List Keyword).length+(if([]:List Keyword).isEmpty then 0 else 1)<30))=ai)(hline:(apos.endLine==pos.line)=ai)(hs:starEach [b] X.env=[(ay,eval b X.env)]):JE X cl (.Call (.Attribute a "index" apos) [b] [] pos) (.FY a' b'):=by
 refine PE.imp (zP iA mP PySem.F.type_list_index Q4 ho hb hbase hfew hline hs rfl) λσ H Q h=>?_;refine tM.el h λm r S er sr h=>?_;have h:tO X (rD X) (bnd (aj cl a' r S) λx S1=>match x with|.lst ds=>(bnd (aj cl b' r S1) λy S2=>lU ds y S2)|_=>ah) m r H Q:=h;refine⟨m,r,S,er,sr,h.bnd.mono λv H1 zz=>?_⟩;refine aN zz λm1 x S1 st1 e8 rx h1=>?_;cases x with
 |lst ds=>
  obtain⟨p,vs,rfl,hq,_,rs⟩:=dB rx;refine⟨.inl ⟨rfl,vs,.inl (.inl hq)⟩,m1,r,S1,er.step st1,e8,?_⟩;have h1:tO X (rD X) (bnd (aj cl b' r S1) λy S2=>lU ds y S2) m1 r H1 Q:=h1;show tO X (I0 X) (bnd (aj cl b' r S1) λd S2=>bnd (fy ([]:List D) S2) λds S3=>fy (d::ds) S3) m1 r H1 _;cases e:aj cl b' r S1 with
  |none=>rw[e]at h1;exact h1|some o=>
   rw[e]at h1;cases o with
   |exc c S2=>exact h1|ok y S2=>rw[aH]at h1;intro m2 H2 ws st2 oj rs;obtain⟨w,rfl,ry⟩:=oW (show f7 X.K m2 H2 [y] ws from rs);exact⟨m2,r,S2,ds,y,w,rfl,oj,rx.step st2,ry,h1.step st2⟩
 |_=>exact h1.elim
end
end RK
namespace RK
open PySem L2 PySem.SeqAt PySem.Spec
section
variable{X:Cx}{cl:Nat->List D->bq->Ev D}{a o e:bE}{a' o' e':E}{es:List bE}{es':List E}{c f m x:Str}{pos pos' apos p:Pos}{fns:List B9}{k fi np j:Nat}{fa C:aI}{fd:FuncData}{ps:List Str}
theorem qF(sr:cS X.K mm S H)(rx:RD X.K mm H d v)(h:cO S c d=af (n,fs)):
  ∃b C dx vs,d= .ref n/\S[n]?=af (.ins c fs)/\v= .ref b/\mm[n]?=af b/\bP X.K mainGlobals c=af (af (.ref C))/\H b=af (.ins C dx vs)/\AS X.K mm H fs vs:=by
 cases d with
 |ref i=>
  simp only[cO]at h;cases q:S[i]? with
  |none=>simp_all|some ob=>
   rw[q]at h;cases ob with
   |lst _=>cases h|dct _=>cases h|xy _=>cases h|ins c' fs'=>
    simp only at h;by_cases ec:c'=c
    ·rw[if_pos ec]at h;subst ec;injection h with h
     injection h with h1 h2
     subst h1;subst h2;obtain⟨b,rfl,hk⟩:=bT rx;obtain⟨b',C,dx,vs,g1,g2,g3,g4⟩:=sr.ins q;rw[hk]at g1;have:b=b':=by simpa using g1
     subst this;exact⟨b,C,dx,vs,rfl,q,rfl,hk,g2,g3,g4⟩
    lia
 |_=>cases h
theorem Q6(ha:JE X cl a a')(hb:attributeBase a f X.env (eval a X.env)=eval a X.env)(hc:∀C,bP X.K mainGlobals c=af (af (.ref C))->Co X.K C/\eY X.K C f):JE X cl (.Attribute a f pos) (.fld c f a'):=by
 refine PE.imp (O4 ha hb) λσ H Q h=>?_;obtain⟨mm,r,S,er,sr,h⟩:=h;have h:tO X (rD X) (bnd (aj cl a' r S) λx S1=>zX c f x S1) mm r H Q:=h;refine⟨mm,r,S,er,sr,h.bnd.mono λv H1 zz=>?_⟩;refine aN zz λm1 d S1 st1 e8 rx h1=>?_;unfold zX at h1;cases q:cO S1 c d with
 |none=>rw[q]at h1;exact h1.elim|some pr=>
  obtain⟨n,fs⟩:=pr;rw[q]at h1;simp only at h1;obtain⟨b,C,dx,vs,rfl,_,rfl,hk,hC,hH,hF⟩:=qF e8 rx q;rcases hF.look f with⟨z,_⟩|⟨d,w,z,z2,rd⟩
  ·rw[z]at h1;exact h1.elim
  ·rw[z]at h1;exact⟨b,C,dx,vs,w,rfl,hH,(hc C hC).1,(hc C hC).2,z2,h1.fin e8 rd⟩
theorem Ma(ho:JE X cl o o')(he:JE X cl e e')(hs:swapsWith e (af (.Attribute o f pos')) pos.line X.env=pure ay)(hc:∀C,bP X.K mainGlobals c=af (af (.ref C))->Co X.K C/\eY X.K C f):
  JS X cl (.Assign [.Attribute o f pos'] e pos) (.fset c f o' e'):=by
 refine PS.imp (O5 ho he hs) λN σ H h=>?_;obtain⟨mm,r,S,er,sr,h⟩:=h;have h:tF X (fN (aj cl e' r S) r λd S1=>fN (aj cl o' r S1) r λx S2=>match cO S2 c x with|some (k,fs)=>(if fs.length<1000 then af (.next r (S2.set k (.ins c (cM f d fs))))else ah)|none=>ah) mm H N:=h;refine⟨mm,r,S,er,sr,h.fN.mono λv H1 zz=>?_⟩;refine aN zz λm1 d S1 st1 e8 rd h1=>?_;refine⟨m1,r,S1,er.step st1,e8,h1.fN.mono λx H2 zz=>?_⟩;refine aN zz λm2 ob S2 st2 oj ro h2=>?_;cases q:cO S2 c ob with
 |none=>rw[q]at h2;exact h2.elim|some pr=>
  obtain⟨n,fs⟩:=pr;rw[q]at h2;simp only at h2;obtain⟨b,C,dx,vs,rfl,_,rfl,hk,hC,hH,hF⟩:=qF oj ro q;by_cases hl:fs.length<1000
  ·rw[if_pos hl]at h2;have st3:fk m2 m2 H2 (upd H2 b (.ins C dx (dR f v vs))):=fk.qV oj hk hH trivial;refine⟨b,C,dx,vs,rfl,hH,(hc C hC).1,(hc C hC).2,by rw[←hF.len];exact hl,?_⟩;exact h2 m2 _ σ st3 (((er.step st1).step st2).step st3) (oj.qV hk hH trivial λH' st' e=>⟨C,dx,_,hC,e,(hF.put f (rd.step st2)).step st'⟩)
  ·rw[if_neg hl]at h2;exact h2.elim
theorem yz{sp:Sp}{Ex:St->XK}{pins:List (aI×Obj)}{σ:St}{H:Hp}{s:aE}{Q:VK}{us:List av}{vs:List V}(F:ya X.prog X.w X.K X.mg X.base (A6 X.prog X.w) j fa fd ps sp)(hr:rj j X.A)(hb:Binds X.K fd ps [])(hx:∀(pins:List (aI×Obj))(σ:St)(H':Hp)(s':aE)(o:Option aI)(e:av),Inv X pins σ H' s'->bI X pins H' o e s'->Ex σ e o H'->X.xe e s')(I:Inv X pins σ H s)(r:Vals vs us)(q:sp vs H Q (Ex σ)):bg (model X.prog X.w) X.A (call (.ref fa) us) (EP X pins σ Q) X.xe s:=by
 have hl:us.length=ps.length:=by rw[←r.length];exact F.len _ _ _ _ q
 have hb':=hb s us I.BE (by simp_all);rw[Wm]at hb';refine wpAny_call (YM (F.run X.A X.stack s H ⟨us,[]⟩ us vs Q (Ex σ) hr I.GA hb' r q) λr s' hq=>?_);cases r with
 |error e=>obtain⟨o,H',I',ie,hE⟩:=lV I hq;exact hx pins σ H' s' o e I' ie hE
 |ok fl=>
  cases fl with|ret u=>exact I.after hq|next=>exact False.elim hq|brk=>exact False.elim hq|cont=>exact False.elim hq
def vo{E:av->aE->Prop}(hbase:attributeBase o m env (eval o env)=eval o env)(hform:methodCallForm (args.length+([]:List Keyword).length) (backTo pos (starEach args env)) (backToKw pos (keywordEach [] env))=ai)(hline:(apos.endLine==pos.line)=ai)(h:bg (model M w) A (eval o env) (λov s1=>bg (model M w) A (getMethod ov m (do return (←importBound o env).getD ai)) (λfx s2=>bg (model M w) A (callWith pos fx.1 fx.2 (backTo pos (starEach args env)) (backToKw pos (keywordEach [] env))) Q E s2) E s1) E s):
  bg (model M w) A (eval (.Call (.Attribute o m apos) args [] pos) env) Q E s:=by
 have hp:methodCallPos ai o env apos pos=pure pos:=by unfold methodCallPos;simp[hline]
 rw[arm_eval_Call,hbase];refine My (Xw h (λov s1 h1=>My (wpAny_standAt ?_)) λ_ _ z=>z);unfold methodCall;rw[hform];exact My (Xl (Xw h1 (λfx s2 h2=>My (wpAny_of_eq hp h2)) λ_ _ z=>z))
def Ht{Ex:St->XK}(he:PE X o ta)(cc:Co X.K C)(hm:Meth X.K C m fa)(F:ya X.prog X.w X.K X.mg X.base (A6 X.prog X.w) j fa fd ps sp)(hr:rj j X.A)(hb:Binds X.K fd ps [])(hx:∀(pins:List (aI×Obj))(σ:St)(H':Hp)(s':aE)(o:Option aI)(e:av),Inv X pins σ H' s'->bI X pins H' o e s'->Ex σ e o H'->X.xe e s')(ha:PA X (e::es) t)(hst:starEach (e::es) X.env=(ay,eval e X.env)::starEach es X.env)(hpl:(backTo pos (starEach es X.env)).any (·.1)=ay)(hbase:attributeBase o m X.env (eval o X.env)=eval o X.env)(hform:methodCallForm ((e::es).length+([]:List Keyword).length) (backTo pos (starEach (e::es) X.env)) (backToKw pos (keywordEach [] X.env))=ai)(hline:(apos.endLine==pos.line)=ai):
  PE X (.Call (.Attribute o m apos) (e::es) [] pos) λσ H Q=>ta σ H λx H1=>∃b dx fs,x= .ref b/\H1 b=af (.ins C dx fs)/\fs.lookup m=ah/\t σ H1 λvs H2=>sp (x::vs) H2 Q (Ex σ):=by
 intro pins s σ H Q I h;refine vo hbase hform hline (ja (he pins s σ H _ I h) λu s1 zz=>?_);obtain⟨x,H1,I1,rx,b,dx,fs,ex,ea,l,q⟩:=zz;subst ex;obtain rfl:u=Value.ref b:=rx;refine pW I1 ea cc hm l ?_;refine kU (first:=[.ref b]) (h₀:=X.base) I.ok.mod.IU hm.kp (ja (ha pos pins s1 σ H1 _ I1 q) λus s2 z=>bJ z λvs H2 I2 r q2=>⟨I2.BE,?_⟩) hst hpl;exact yz (us:= .ref b::us) (vs:= .ref b::vs) F hr hb hx I2 (.cons rfl r) q2
def Dz{Ex:St->XK}(he:PE X o ta)(cc:Co X.K C)(hm:Meth X.K C m fa)(F:ya X.prog X.w X.K X.mg X.base (A6 X.prog X.w) j fa fd ps sp)(hr:rj j X.A)(hb:Binds X.K fd ps [])(hx:∀(pins:List (aI×Obj))(σ:St)(H':Hp)(s':aE)(o:Option aI)(e:av),Inv X pins σ H' s'->bI X pins H' o e s'->Ex σ e o H'->X.xe e s')(hbase:attributeBase o m X.env (eval o X.env)=eval o X.env)(hform:methodCallForm (([]:List bE).length+([]:List Keyword).length) (backTo pos (starEach [] X.env)) (backToKw pos (keywordEach [] X.env))=ai)(hline:(apos.endLine==pos.line)=ai):
  PE X (.Call (.Attribute o m apos) [] [] pos) λσ H Q=>ta σ H λx H1=>∃b dx fs,x= .ref b/\H1 b=af (.ins C dx fs)/\fs.lookup m=ah/\sp [x] H1 Q (Ex σ):=by
 intro pins s σ H Q I h;refine vo hbase hform hline (ja (he pins s σ H _ I h) λu s1 zz=>?_);obtain⟨x,H1,I1,rx,b,dx,fs,ex,ea,l,q⟩:=zz;subst ex;obtain rfl:u=Value.ref b:=rx;refine pW I1 ea cc hm l ?_;exact PySem.W.callWith_K0 (first:=[.ref b]) I1.BE hm.kp (yz (us:=[.ref b]) (vs:=[.ref b]) F hr hb hx I1 (.cons rfl .nil) q)
theorem o9:∀(l:List E)(r:az)(S:bq)(ds:List D)(S':bq),aF (ao fns k) l r S=af (.ok ds S')->ds.length=l.length
 |[],r,S,ds,S',q=>by
  have q':fy ([]:List D) S=af (.ok ds S'):=q;injection q' with q1
  simp_all
 |e::l,r,S,ds,S',q=>by
  have q':bnd (aj (ao fns k) e r S) (λd S1=>bnd (aF (ao fns k) l r S1) λds S2=>fy (d::ds) S2)=af (.ok ds S'):=q;cases e1:aj (ao fns k) e r S with
  |none=>simp_all|some o=>
   rw[e1]at q';cases o with
   |exc c S1=>cases q'|ok d S1=>
    rw[aH]at q';cases e2:aF (ao fns k) l r S1 with
    |none=>simp_all|some o2=>
     rw[e2]at q';cases o2 with
     |exc c S2=>cases q'|ok J' S2=>
      rw[aH]at q';injection q' with q1
      injection q1 with q2
      subst q2;simp[o9 l r S1 J' S2 e2]
theorem DG{σ:St}{mm:List aI}{r:az}{S:bq}{H:Hp}{Q:VK}{ds:List D}{vs:List V}{fi:Nat}(er:iL X.K mm H r σ)(sr:cS X.K mm S H)(rs:f7 X.K mm H ds vs)(hn:ds.length=np)(h:tO X (rD X) (ao fns k fi ds S) mm r H Q):
  C9 X.K fns np k fi vs H Q λe o H'=>∀pins s',Inv X pins σ H' s'->bI X pins H' o e s'->X.xe e s':=by
 refine⟨by rw[←rs.length];exact hn,mm,S,ds,sr,rs,?_⟩;cases q:ao fns k fi ds S with
 |none=>rw[q]at h;exact h|some o=>
  rw[q]at h;cases o with|exc c S2=>intro m2 H2 e C st2 oj hC pins s' I ie;exact h pins s' σ H2 m2 e I st2 (er.step st2) oj ⟨C,hC,ie⟩|ok d S2=>exact h
theorem Hu(ho:JE X (ao fns k) o o')(ha:JA X (ao fns k) (e::es) (e'::es'))(hl:(e'::es').length+1=np)(hc:∀C,bP X.K mainGlobals c=af (af (.ref C))->Co X.K C/\Meth X.K C m fa)(HP:bP X.K mainGlobals c=af (af (.ref C)))(F:ya X.prog X.w X.K X.mg X.base (A6 X.prog X.w) j fa fd ps (C9 X.K fns np k fi))(hr:rj j X.A)(hb:Binds X.K fd ps [])(hst:starEach (e::es) X.env=(ay,eval e X.env)::starEach es X.env)(hpl:(backTo pos (starEach es X.env)).any (·.1)=ay)(hbase:attributeBase o m X.env (eval o X.env)=eval o X.env)(hform:methodCallForm ((e::es).length+([]:List Keyword).length) (backTo pos (starEach (e::es) X.env)) (backToKw pos (keywordEach [] X.env))=ai)(hline:(apos.endLine==pos.line)=ai):
  JE X (ao fns k) (.Call (.Attribute o m apos) (e::es) [] pos) (.jS c m fi o' (e'::es')):=by
 refine PE.imp (Ht (Ex:=λσ e o H'=>∀pins s',Inv X pins σ H' s'->bI X pins H' o e s'->X.xe e s') ho (hc C HP).1 (hc C HP).2 F hr hb (λpins σ H' s' o e I ie q=>q pins s' I ie) ha hst hpl hbase hform hline) λσ H Q h=>?_;obtain⟨mm,r,S,er,sr,h⟩:=h;have h:tO X (rD X) (bnd (aj (ao fns k) o' r S) λx S1=>match cO S1 c x with|some (_,fs)=>(if fs.lookup m=ah then bnd (aF (ao fns k) (e'::es') r S1) λds S2=>ao fns k fi (x::ds) S2 else ah)|none=>ah) mm r H Q:=h;refine⟨mm,r,S,er,sr,h.bnd.mono λv H1 zz=>?_⟩;refine aN zz λm1 d S1 st1 e8 rx h1=>?_;cases q:cO S1 c d with
 |none=>rw[q]at h1;exact h1.elim|some pr=>
  obtain⟨n,fs⟩:=pr;rw[q]at h1;simp only at h1;obtain⟨b,C',dx,vs,rfl,_,rfl,hk,hC,hH,hF⟩:=qF e8 rx q;have eC:C'=C:=by have z:=hC.symm.trans HP;injection z with z;injection z with z;injection z
  subst eC;by_cases hm0:fs.lookup m=ah
  ·rw[if_pos hm0]at h1;have hv0:vs.lookup m=none:=by
    rcases hF.look m with⟨_,z⟩|⟨d,w,z,_,_⟩
    ·exact z
    ·lia
   refine⟨b,dx,vs,rfl,hH,hv0,m1,r,S1,er.step st1,e8,?_⟩;cases e2:aF (ao fns k) (e'::es') r S1 with
   |none=>rw[e2]at h1;exact h1|some oo=>
    rw[e2]at h1;cases oo with|exc c2 S2=>exact h1|ok ds S2=>rw[aH]at h1;intro m2 H2 us st2 oj rs;have hds:=o9 _ _ _ _ _ e2;have rs:f7 X.K m2 H2 ds us:=rs;exact DG ((er.step st1).step st2) oj (f7.cons (rx.step st2) rs) (by simp_all) (h1.step st2)
  ·rw[if_neg hm0]at h1;exact h1.elim
theorem DK(ho:JE X (ao fns k) o o')(hl:1=np)(hc:∀C,bP X.K mainGlobals c=af (af (.ref C))->Co X.K C/\Meth X.K C m fa)(HP:bP X.K mainGlobals c=af (af (.ref C)))(F:ya X.prog X.w X.K X.mg X.base (A6 X.prog X.w) j fa fd ps (C9 X.K fns np k fi))(hr:rj j X.A)(hb:Binds X.K fd ps [])(hbase:attributeBase o m X.env (eval o X.env)=eval o X.env)(hform:methodCallForm (([]:List bE).length+([]:List Keyword).length) (backTo pos (starEach [] X.env)) (backToKw pos (keywordEach [] X.env))=ai)(hline:(apos.endLine==pos.line)=ai):
  JE X (ao fns k) (.Call (.Attribute o m apos) [] [] pos) (.jS c m fi o' []):=by
 refine PE.imp (Dz (Ex:=λσ e o H'=>∀pins s',Inv X pins σ H' s'->bI X pins H' o e s'->X.xe e s') ho (hc C HP).1 (hc C HP).2 F hr hb (λpins σ H' s' o e I ie q=>q pins s' I ie) hbase hform hline) λσ H Q h=>?_;obtain⟨mm,r,S,er,sr,h⟩:=h;have h:tO X (rD X) (bnd (aj (ao fns k) o' r S) λx S1=>match cO S1 c x with|some (_,fs)=>(if fs.lookup m=ah then bnd (fy ([]:List D) S1) λds S2=>ao fns k fi (x::ds) S2 else ah)|none=>ah) mm r H Q:=h;refine⟨mm,r,S,er,sr,h.bnd.mono λv H1 zz=>?_⟩;refine aN zz λm1 d S1 st1 e8 rx h1=>?_;cases q:cO S1 c d with
 |none=>rw[q]at h1;exact h1.elim|some pr=>
  obtain⟨n,fs⟩:=pr;rw[q]at h1;simp only at h1;obtain⟨b,C',dx,vs,rfl,_,rfl,hk,hC,hH,hF⟩:=qF e8 rx q;have eC:C'=C:=by have z:=hC.symm.trans HP;injection z with z;injection z with z;injection z
  subst eC;by_cases hm0:fs.lookup m=ah
  ·rw[if_pos hm0]at h1;have hv0:vs.lookup m=none:=by
    rcases hF.look m with⟨_,z⟩|⟨d,w,z,_,_⟩
    ·exact z
    ·lia
   exact⟨b,dx,vs,rfl,hH,hv0,DG (er.step st1) e8 (f7.cons rx f7.nil) hl h1⟩
  ·rw[if_neg hm0]at h1;exact h1.elim
theorem DN{sp:Sp}{Ex:St->XK}{pins:List (aI×Obj)}{σ:St}{H:Hp}{s:aE}{Q:VK}{us:List av}{vs:List V}(M:Mk X.K C fa)(F:ya X.prog X.w X.K X.mg X.base (A6 X.prog X.w) j fa fd ps sp)(hr:rj (j+1) X.A)(hb:Binds X.K fd ps [])(hx:∀(pins:List (aI×Obj))(σ:St)(H':Hp)(s':aE)(o:Option aI)(e:av),Inv X pins σ H' s'->bI X pins H' o e s'->Ex σ e o H'->X.xe e s')(I:Inv X pins σ H s)(r:Vals vs us)(h:∀x dx,H x=ah->H dx=ah->dx≠x->sp (.ref x::vs) (upd (upd H dx (.own x)) x (.ins C dx [])) (λv H2=>v= .non/\Q (.ref x) H2) (Ex σ)):
  bg (model X.prog X.w) X.A (call (.ref C) us) (EP X pins σ Q) X.xe s:=by
 have hq:=h (s.heap.objs.size+1) s.heap.objs.size (I.hok.fresh (Yo _)) (I.hok.fresh (Wc _)) (Wo (Zx _));have I2:=Inv.made (C:=C) I;have r2:Vals (V.ref (s.heap.objs.size+1)::vs) (Value.ref (s.heap.objs.size+1)::us):= .cons rfl r;have hl:(Value.ref (s.heap.objs.size+1)::us).length=ps.length:=by rw[←r2.length];exact F.len _ _ _ _ hq
 have hb':=hb _ (Value.ref (s.heap.objs.size+1)::us) I2.BE (by simp_all);rw[Wm]at hb';refine wpAny_call (Gy (f:=fa) I.BE M.makes M.init (beq_iff_eq.mp M.fn) (YM (F.run _ X.stack _ _ ⟨Value.ref (s.heap.objs.size+1)::us,[]⟩ _ _ _ (Ex σ) (hr.make C us [])
  (I2.GA.make C us []) hb' r2 hq) λr s' hq'=>?_))
 cases r with
 |error e=>obtain⟨o,H',I',ie,hE⟩:=lV I2 hq';exact hx pins σ H' s' o e I' ie hE
 |ok fl=>
  cases fl with
  |ret u=>obtain⟨v,H',I3,rv,ev,q3⟩:=I2.after hq';subst ev;exact⟨rv,⟨V.ref (s.heap.objs.size+1),H',I3,rfl,q3⟩⟩
  |next=>exact False.elim hq'|brk=>exact False.elim hq'|cont=>exact False.elim hq'
def Q7(ha:JA X (ao fns k) (e::es) (e'::es'))(hl:(e'::es').length+1=np)(hC:bP X.K mainGlobals x=af (af (.ref C)))(M:Mk X.K C fa)(F:ya X.prog X.w X.K X.mg X.base (A6 X.prog X.w) j fa fd ps (C9 X.K fns np k fi))(hr:rj (j+1) X.A)(hg:Gl X x)(hm:X.mg x=af (.ref C))(hb:Binds X.K fd ps [])(hdb:(x==("__debug__" :Str))=ay)(hst:starEach (e::es) X.env=(ay,eval e X.env)::starEach es X.env)(hpl:(backTo pos (starEach es X.env)).any (·.1)=ay):
  JE X (ao fns k) (.Call (.Name x p) (e::es) [] pos) (.new x fi (e'::es')):=by
 intro pins s σ H Q I h;obtain⟨mm,r,S,er,sr,h⟩:=h;have h:tO X (rD X) (bnd (aF (ao fns k) (e'::es') r S) λds S1=>bnd (ao fns k fi (.ref S1.length::ds) (S1++ [.ins x []])) λv S2=>match v with|.non=>fy (.ref S1.length) S2|_=>ah) mm r H Q:=h;have h':tO X (I0 X) (aF (ao fns k) (e'::es') r S) mm r H λvs H1=>∀b dx,H1 b=ah->H1 dx=ah->dx≠b->C9 X.K fns np k fi (.ref b::vs) (upd (upd H1 dx (.own b)) b (.ins C dx [])) (λv H2=>v= .non/\Q (.ref b) H2) λe o H'=>∀pins s',Inv X pins σ H' s'->bI X pins H' o e s'->X.xe e s':=by
  cases e2:aF (ao fns k) (e'::es') r S with
  |none=>rw[e2]at h;exact h|some oo=>
   rw[e2]at h;cases oo with
   |exc c2 S2=>exact h|ok ds S1=>
    rw[aH]at h;intro m1 H1 us st1 e8 rs b dx hbn hdn hne;have rs:f7 X.K m1 H1 ds us:=rs;have hds:=o9 _ _ _ _ _ e2;have sA:=fk.laid e8 hdn (.own b);have oj:=e8.laid hdn (.own b);have LZ:(upd H1 dx (.own b)) b=none:=by rw[aA (Ne.symm hne)];exact hbn
    have sB:=fk.push oj LZ (.ins C dx []);have E4:cS X.K (m1++ [b]) (S1++ [.ins x []]) (upd (upd H1 dx (.own b)) b (.ins C dx [])):=oj.EA LZ λm' H' st e=>⟨C,dx,[],hC,e,trivial⟩
    have L0:=(st1.trans sA).trans sB;have rb:RD X.K (m1++ [b]) (upd (upd H1 dx (.own b)) b (.ins C dx [])) (.ref S1.length) (.ref b):=by unfold RD;exact⟨b,rfl,by rw[←e8.len];simp⟩
    have h3:=h.step L0;refine⟨by simp only[Wl];rw[←rs.length,hds];exact hl,m1++ [b],S1++ [.ins x []],.ref S1.length::ds,E4,f7.cons rb ((rs.step sA).step sB),?_⟩;cases q:ao fns k fi (.ref S1.length::ds) (S1++ [.ins x []])with
    |none=>rw[q]at h3;exact h3|some o3=>
     rw[q]at h3;cases o3 with
     |exc c3 S3=>intro m2 H2 e3 C3 st2 EI XE pins s' I' ie;exact h3 pins s' σ H2 m2 e3 I' st2 (er.step (L0.trans st2)) EI ⟨C3,XE,ie⟩|ok d S3=>
      rw[aH]at h3;cases d with|non=>intro m2 H2 v st2 EI rv;exact⟨AE rv,h3.fin' st2 EI (rb.step st2)⟩|_=>exact h3.elim
 refine wpAny_Call_Name_kw (jC I hg hm ?_ hdb);refine kU (h₀:=X.base) I.ok.mod.IU M.kp (ja (ha pos pins s σ H _ I ⟨mm,r,S,er,sr,h'⟩) λus s1 z=>bJ z λvs H1 I1 rr q=>⟨I1.BE,?_⟩) hst hpl;exact DN (Ex:=λσ e o H'=>∀pins s',Inv X pins σ H' s'->bI X pins H' o e s'->X.xe e s') M F hr hb (λpins σ H' s' o e I ie q=>q pins s' I ie) I1 rr q
end
end RK
namespace RK
open PySem L2 PySem.SeqAt PyProof.Rows PySem.W
abbrev two(u:av)(c:Nat):Obj:={cls:= .type "list",dict:=ah,data:= .seq #[u,u] c,slots:= #[]}
section
variable{X:Cx}
theorem Q8(hc:X.calm=ai)(hu:X.A.units+66<cLine):bj X (.builtin "min") (E3 X .min):=by
 intro pins s σ H xs us Q I rv h;obtain⟨m,r,S,ds,sr,rs,h⟩:=h;refine BW hc pins s σ H _ us Q I rv (CJ (r:=r) (f:=λi j=>if j<i then j else i) sr rs ?_);cases ds with
 |nil=>exact h.elim|cons a l=>
  cases l with|nil=>exact h.elim|cons b l=>exact h
theorem Q9(hc:X.calm=ai)(hu:X.A.units+66<cLine):bj X (.builtin "max") (E3 X .max):=by
 intro pins s σ H xs us Q I rv h;obtain⟨m,r,S,ds,sr,rs,h⟩:=h;refine BV hc pins s σ H _ us Q I rv (CJ (r:=r) (f:=λi j=>if j>i then j else i) sr rs ?_);cases ds with
 |nil=>exact h.elim|cons a l=>
  cases l with|nil=>exact h.elim|cons b l=>exact h
end
end RK
namespace L2
open PySem PySem.Spec PyProof.Rows
section
variable{X:Cx}{pins:List (aI×Obj)}{σ:List (Option V)}{H:Hp}{s:aE}{a:aI}{o:Obj}{kvs:List (Key×V)}
def Inv.freeze(I:Inv X pins σ H s)(e:H a=af (.dK kvs))(ho:s.heap.get? a=af o):Inv X pins σ (upd H a (.tw o (.dK kvs))) s:=by
 have tup:∀b xs,H b=af (.tup xs)->upd H a (.tw o (.dK kvs)) b=af (.tup xs):=λb xs q=>by rw[aA (cZ q e (by simp))];exact q
 have tw:∀b o' u,H b=af (.tw o' u)->upd H a (.tw o (.dK kvs)) b=af (.tw o' u):=λb o' u q=>by rw[aA (cZ q e (by simp))];exact q
 have own:∀b c,H b=af (.own c)->upd H a (.tw o (.dK kvs)) b=af (.own c):=λb c q=>by rw[aA (cZ q e (by simp))];exact q
 have non:∀b,H b=ah->upd H a (.tw o (.dK kvs)) b=none:=λb q=>by rw[aA (λz=>by lia)];exact q
 refine⟨I.ok,I.os,I.bare,⟨I.base.keep,I.base.slot,λb ob q n hx=>non b (I.base.free b ob q n hx),I.base.there,λb xs q=>tup b xs (I.base.tups b xs q),λb o' u q=>tw b o' u (I.base.sd b o' u q),λb ps q=>?_⟩,I.loc,I.cell,non _ I.free,λx c q=>non _ (I.vS x c q),λp hp=>?_,λb u q=>?_,I.len⟩
 ·obtain⟨more,z⟩:=I.base.A9 b ps q;exact⟨more,by rw[aA (cZ z e (by simp))];exact z⟩
 ·obtain⟨h1,h2,h3⟩:=I.pin p hp;exact⟨h1,non _ h2,h3⟩
 ·by_cases hb:b=a
  ·subst hb;rw[bh]at q;cases q;exact⟨ho,(I.hok b _ e).stay (λ_ _ _ z=>z) (λc z=>own c b z) tup⟩
  ·rw[aA hb]at q;exact(I.hok b u q).stay (λ_ _ _ z=>z) (λc z=>own c b z) tup
def Inv.B7(I:Inv X pins σ H s)(e:H a=af (.tw o (.dK kvs)))(h0:∀o u,X.H₀ a≠af (.tw o u)):Inv X pins σ (upd H a (.dK kvs)) s:=by
 have tup:∀b xs,H b=af (.tup xs)->upd H a (.dK kvs) b=af (.tup xs):=λb xs q=>by rw[aA (cZ q e (by simp))];exact q
 have own:∀b c,H b=af (.own c)->upd H a (.dK kvs) b=af (.own c):=λb c q=>by rw[aA (cZ q e (by simp))];exact q
 have non:∀b,H b=ah->upd H a (.dK kvs) b=none:=λb q=>by rw[aA (λz=>by lia)];exact q
 refine⟨I.ok,I.os,I.bare,⟨I.base.keep,I.base.slot,λb ob q n hx=>non b (I.base.free b ob q n hx),I.base.there,λb xs q=>tup b xs (I.base.tups b xs q),λb o' u q=>?_,λb ps q=>?_⟩,I.loc,I.cell,non _ I.free,λx c q=>non _ (I.vS x c q),λp hp=>?_,λb u q=>?_,I.len⟩
 ·have hb:b≠a:=λz=>h0 o' u (z▸q);rw[aA hb];exact I.base.sd b o' u q
 ·obtain⟨more,z⟩:=I.base.A9 b ps q;exact⟨more,by rw[aA (cZ z e (by simp))];exact z⟩
 ·obtain⟨h1,h2,h3⟩:=I.pin p hp;exact⟨h1,non _ h2,h3⟩
 ·by_cases hb:b=a
  ·subst hb;rw[bh]at q;cases q;exact(I.hok b _ e).2.stay (λ_ _ _ z=>z) (λc z=>own c b z) tup
  ·rw[aA hb]at q;exact(I.hok b u q).stay (λ_ _ _ z=>z) (λc z=>own c b z) tup
def Inv.L1(I:Inv X pins σ H s)(e:H a=af (.dK kvs)):∀o u,X.H₀ a≠af (.tw o u):=λo u q=>by have:=I.base.sd a o u q;lia
end
def So(a:aI)(o:Obj)(kvs:List (Key×V)):It:=
 ⟨λi H=>H a=af (.tw o (.dK kvs))/\i<kvs.length,λi H x H'=>H'=H/\∃k v,kvs[i]?=af (k,v)/\x=kV k,λi H=>H a=af (.tw o (.dK kvs))/\kvs.length<=i⟩
def yC(h:(aX P w).is k u=ai):RelV (kV k) u:=by
 rcases gE (k:=k) (v:=u) h with⟨i,t,rfl,rfl⟩|⟨x,t,rfl,rfl⟩
 ·exact⟨t,rfl⟩
 ·exact⟨t,rfl⟩
section
variable{X:Cx}
def DP{h h':dc}(x:h.DictAt (aX P w) a vs ep)(ho:h.get? a=af o)(x':h'.DictAt (aX P w) a vs' ep')(ho':h'.get? a=af o):ep=ep':=by obtain⟨o1,es,e1,_,d1,_⟩:=x;obtain⟨o2,es',e2,_,d2,_⟩:=x';lia
def Ax{P:ck}{w:cy}{K:aT}{tg:bE}(a it:aI)(o:Obj)(kvs:List (Key×V))(ep:Nat)(hne:a≠it)(Sz:∀h:dc,h.get? a=af o->∀vs ep',h.DictAt (aX P w) a vs ep'->ep'=ep):
  Turn P w K tg (So a o kvs) [it] it (λi h=>h.IsKeyIter it a i kvs.length ep)where
 mem:=by simp
 obj:=λi h st b hb=>by
  have e:b=it:=by simpa using hb
  subst e;obtain⟨o,e,c,d⟩:=st
  simp_all
 keep:=λi h h' st k=>st.at λo e=>k it (by simp) o e
 item:=by
  intro X hP hw hK hc i pins s σ H E I hf st hg;subst hP hw hK;obtain⟨hq,hi⟩:=hg;obtain⟨ho,hz,hs,vs,rel,dd⟩:=(show bB X.prog X.w H s.heap a (.tw o (.dK kvs))from I.hok a _ hq)
  obtain⟨ep',hat⟩:=dd.dictAt;have e0:=Sz _ ho _ _ hat;subst e0;have hl:vs.length=kvs.length:=rel.length.symm;rw[←hl]at st hi;obtain⟨⟨k,v⟩,hx⟩:∃q,vs[i]?=af q:=⟨vs[i],by simp[hi]⟩
  obtain⟨f0,f1,f2,f3,f4,f5⟩:=hf it (by simp);refine wpAny_pyNext_dict_item st hat hx λkey h' hk st' sb=>?_;have I1:Inv X pins σ H {s with heap:=h'}:=I.turned (t':=s.toks) (λb o hb e=>(sb.2 b hb).trans e) f0 f1 f3 f4 f5;obtain⟨o2,e2,c2,d2⟩:=id st';have hkk:∃v',kvs[i]?=af (k,v'):=by
   have q1:(kvs.map (·.1))[i]?=af k:=by rw[rel.keys,Xm,hx];rfl
   rw[Xm]at q1;cases q2:kvs[i]? with|none=>simp_all|some q=>rw[q2]at q1;exact⟨q.2,by cases q;cases q1;rfl⟩
  obtain⟨v',hv'⟩:=hkk;rw[hl]at st';exact⟨key,rfl,t6 (s:={s with heap:=h'}) e2 c2 d2 (by decide) ⟨kV k,H,I1,yC hk,⟨rfl,k,v',hv',rfl⟩,st',λb hb=>(hf b hb).1⟩⟩
 done:=by
  intro X hP hw hK hc i pins s σ H E I hf st hg;subst hP hw hK;obtain⟨hq,hi⟩:=hg;obtain⟨ho,hz,hs,vs,rel,dd⟩:=(show bB X.prog X.w H s.heap a (.tw o (.dK kvs))from I.hok a _ hq)
  obtain⟨ep',hat⟩:=dd.dictAt;have e0:=Sz _ ho _ _ hat;subst e0;have hl:vs.length=kvs.length:=rel.length.symm;rw[←hl]at st hi;obtain⟨f0,f1,f2,f3,f4,f5⟩:=hf it (by simp);exact wpAny_pyNext_dict_end (I.ok.hd hc) st hat (by simp;exact hi) λh' eb=>⟨rfl,I.turned (t':=s.toks) (λb o hb e=>eb b o hb e) f0 f1 f3 f4 f5⟩
 self:=λ_ _ _ _ _ st h=>wpAny_pyIter_keyiter st h
def VL(X:Cx)(tl:TE):TI:=λσ H R=>tl σ H λx H1=>∃a kvs,x= .ref a/\H1 a=af (.dK kvs)/\∀o,(∀o' u,X.H₀ a≠af (.tw o' u))->R (So a o kvs) (upd H1 a (.tw o (.dK kvs)))
def Hv(hl:PE X l tl):PI X tg l (VL X tl):=by
 intro pins s σ H R I h;refine ja (hl pins s σ H _ I h) λv s1 zz=>?_;obtain⟨x,H1,I1,r1,q1⟩:=zz;obtain⟨a,kvs,e,hq,q⟩:=q1;subst e;cases r1;obtain⟨hz,hs,vs,rel,dd⟩:=m8 I1.hok hq;obtain⟨ep,hat⟩:=dd.dictAt;obtain⟨o,es,ho,r⟩:=id hat;have hlt:a<s1.heap.objs.size:=Wg ho;have hl2:vs.length=kvs.length:=rel.length.symm;refine wpAny_pyIter_dict hs hat ?_;have I2:=(I1.freeze hq ho).kept (h':=s1.heap.push {cls:= .type "dict_keyiterator",data:= .fields #[.ref a,.int 0 0,.int vs.length 0,.int ep 0]}) (t':=s1.toks) λb o e=>V9 _ e;refine⟨s1.heap.objs.size,[s1.heap.objs.size],_,_,_,rfl,I2,Ax a _ o kvs ep (Wo hlt) (λh' ho' vs' ep' x'=>(DP hat ho x' ho').symm),⟨_,Wf _ rfl,rfl,by rw[hl2];rfl⟩,λb hb=>?_,q o (I1.L1 hq)⟩;have e:b=s1.heap.objs.size:=by simpa using hb
 subst e;refine I1.B4 (Wc _) ?_;rw[aA (Xn hlt)];exact I1.hok.fresh (Wc _)
def HU(X:Cx)(Q:Hp->Prop)(H:Hp):Prop:=Q H\/∃a o kvs,H a=af (.tw o (.dK kvs))/\(∀o' u,X.H₀ a≠af (.tw o' u))/\Q (upd H a (.dK kvs))
def XG(X:Cx)(D:Ends):Ends:={D with nx:=λσ H=>HU X (D.nx σ) H,rt:=λv H=>HU X (D.rt v) H}
def HU.inv{Q:Hp->Prop}{pins:List (aI×Obj)}{σ:St}{H:Hp}{s:aE}(h:HU X Q H)(I:Inv X pins σ H s):∃H',Inv X pins σ H' s/\Q H':=by
 rcases h with h|⟨a,o,kvs,e,h0,h⟩
 ·exact⟨H,I,h⟩
 ·exact⟨_,I.B7 e h0,h⟩
theorem PS.B7{st:fT}(h:PS X st t):PS X st (λD σ H=>t (XG X D) σ H):=by
 intro pins s σ H D I z;refine ja (h pins s σ H _ I z) λf s' q=>?_;cases f with
 |next=>obtain⟨σ',H',I',q⟩:=q;obtain⟨H2,I2,q2⟩:=HU.inv q I';exact⟨σ',H2,I2,q2⟩
 |brk=>exact q|cont=>exact q|ret u=>obtain⟨v,σ',H',I',r,q⟩:=q;obtain⟨H2,I2,q2⟩:=HU.inv q I';exact⟨v,σ',H2,I2,r,q2⟩
end
end L2
namespace RK
open PySem L2
section
variable{X:Cx}{cl:Nat->List D->bq->Ev D}{pos:Pos}{K:aT}{m m':List aI}{H H':Hp}{S:bq}
theorem tF.mono(h:tF X o m H N)(h1:∀σ H,N.nx σ H->N'.nx σ H)(h2:∀σ H,N.bk σ H->N'.bk σ H)(h3:∀σ H,N.ct σ H->N'.ct σ H)(h4:∀v H,N.rt v H->N'.rt v H):tF X o m H N':=by
 cases o with
 |none=>exact h|some o=>
  cases o with|next r S=>exact λm2 H2 σ st er sr=>h1 _ _ (h m2 H2 σ st er sr)|brk r S=>exact λm2 H2 σ st er sr=>h2 _ _ (h m2 H2 σ st er sr)|cont r S=>exact λm2 H2 σ st er sr=>h3 _ _ (h m2 H2 σ st er sr)|ret d S=>exact λm2 H2 v st sr rd=>h4 _ _ (h m2 H2 v st sr rd)|exc c r S=>exact h
def Cc.B7(e:H a=af (.tw o (.dK vs))):Cc m m H (upd H a (.dK vs)):=
 ⟨⟨[],by simp⟩,λ_ _ _ n=>n,λb xs q=>by rw[aA (cZ q e (by simp))];exact q,λb o' u q n=>by
   have hb:b≠a:=λz=>by grind
   rw[aA hb];exact q,λb xs q _=>by rw[aA (cZ q e (by simp))];exact q,λb φ q=>by rw[aA (cZ q e (by simp))];exact q⟩
theorem cS.B7(h:cS K m S H)(ha:m[k]?=af a)(e:H a=af (.tw o (.dK vs)))(kv:sM K m H kvs vs):cS K m (S.set k (.dct kvs)) (upd H a (.dK vs)):=by
 have st:=Cc.B7 (m:=m) e;refine⟨by simp[h.len],h.nd,λj b ob h1 h2=>?_⟩;by_cases ej:k=j
 ·subst ej;rw[ha]at h1;have eb:a=b:=by simpa using h1
  subst eb;have hk:k<S.length:=by rw[←h.len];exact(Wi.mp ha).1
  rw[W8 hk]at h2;have eo:SO.dct kvs=ob:=by simpa using h2
  subst eo;exact⟨vs,bh,kv.iS st⟩
 ·rw[Wy ej]at h2;refine(h.obj j b ob h1 h2).iS st (aA λz=>ej ?_);subst z;have hk:=(Wi.mp ha).1;exact(nB hk h.nd).mp (by rw[ha,h1])
def fk.walked{m2:List aI}{H0 H2:Hp}{a:aI}{o:Obj}{vs vs2:List (Key×V)}(e0:H0 a=af (.dK vs))(s:fk m m2 (upd H0 a (.tw o (.dK vs))) H2):fk m m2 H0 (upd H2 a (.dK vs2))where
 pre:=s.pre
 new:=λb ob q n=>by
  by_cases hb:b=a
  ·subst hb;exact s.new b _ bh n
  ·exact s.new b ob (by rw[aA hb];exact q) n
 tups:=λb xs q=>by have hb:=cZ q e0 (by simp);rw[aA hb];exact s.tups b xs (by rw[aA hb];exact q)
 sd:=λb ob u q=>by have hb:=cZ q e0 (by simp);rw[aA hb];exact s.sd b ob u (by rw[aA hb];exact q)
 BH:=λb xs q n=>by have hb:=cZ q e0 (by simp);rw[aA hb];exact s.BH b xs (by rw[aA hb];exact q) n
 non:=λb q=>by
  by_cases hb:b=a
  ·subst hb;rw[bh]at q;cases q
  ·rw[aA hb]at q;have:=s.non b q;rw[aA hb]at this;exact this
 exts:=λb φ q=>by have hb:=cZ q e0 (by simp);rw[aA hb];exact s.exts b φ (by rw[aA hb];exact q)
theorem sM.F2:∀{a:List (Key×D)}{b:List (Key×V)},sM K m H a b->∀i:Nat,(a[i]?).map (·.1)=(b[i]?).map (·.1)
 |[],[],_,i=>rfl|p::ps,q::qs,h,0=>Xk af h.1|p::ps,q::qs,h,i+1=>by simpa using sM.F2 h.2.2 i|[],_::_,h,_=>h.elim|_::_,[],h,_=>h.elim
def Hw(k:Key):RD K m H (tN k) (kV k):=by cases k<;>rfl
theorem Ra(hp:PassesOwn (model X.prog X.w) X.A X.env X.xe)(hc:X.calm=ai)(ha:JE X cl iter e')(hg:JG X tg tt)(hb:CD X cl st cs)(hs:∀x,foldedSetIterable iter X.env x=pure x):
  JS X cl (.For tg iter st [] pos) (.C6 tt e' cs):=by
 refine PS.imp (PS.B7 (BP hp hc (PI.or (qR ha) (Hv ha)) hg hb hs)) λN σ H h=>?_;refine bO h λm r S er sr h=>?_;have h:tF X (fN (aj cl e' r S) r λx S1=>match x with
  |.ref k=>match S1[k]? with
   |some (.dct kvs)=>gr k (forLoop (λr S=>dS cl cs r S) tt (kvs.map λp=>tN p.1) r (S1.set k (.xy kvs)))|some (.lst ds)=>dX (λr S=>dS cl cs r S) tt k ds ds r S1|_=>ah
  |_=>ah) m H N:=h
 cases e:aj cl e' r S with
 |none=>rw[e]at h;exact h.elim|some o=>
  cases o with
  |exc c S1=>rw[e]at h;exact .inl ⟨m,r,S,er,sr,by rw[e];exact h⟩|ok x S1=>
   rw[e]at h;cases x with
   |ref k=>
    cases eo:S1[k]? with
    |none=>simp only[fN,eo]at h;exact h.elim|some ob=>
     cases ob with
     |ins _ _=>simp only[fN,eo]at h;exact h.elim|xy _=>simp only[fN,eo]at h;exact h.elim|lst ds=>
      simp only[fN,eo]at h;refine .inl ⟨m,r,S,er,sr,?_⟩;rw[e];intro m1 H1 v st1 e8 rd;obtain⟨p,rfl,hk⟩:=bT rd;have cur:∀{m2:List aI}{S2:bq}{H2:Hp},cS X.K m2 S2 H2->m2[k]?=af p->S2[k]?=af (.lst ds)->∃vs,wc X.K H2 p vs/\f7 X.K m2 H2 ds vs:=λoj hk2 e2=>by obtain⟨p',vs,h1,h2,h3⟩:=oj.lst e2;rw[hk2]at h1;cases h1;exact⟨vs,wc.of h2,h3⟩
      obtain⟨vs,hq,rs⟩:=cur e8 hk eo;refine⟨p,rfl,⟨vs,hq⟩,λi n σ H=>n=ds.length - i/\i<=ds.length/\∃m2 r2 S2,fk m1 m2 H1 H/\iL X.K m2 H r2 σ/\cS X.K m2 S2 H/\S2[k]?=af (.lst ds)/\tF X (dX (λr S=>dS cl cs r S) tt k ds (ds.drop i) r2 S2) m2 H N,
       ⟨ds.length,by simp,WP _,m1,r,S1,fk.refl _ _,er.step st1,e8,eo,h.step st1⟩,?_⟩
      rintro i n σ1 H2 ⟨rfl,hi,m2,r2,S2,st2,Cn,oj,e2,h2⟩;obtain⟨vs2,hq2,SA⟩:=cur oj (st2.at hk) e2;by_cases hlt:i<ds.length
      ·right;obtain⟨v,g1,g2⟩:=SA.get (Wq hlt);refine⟨⟨vs2,v,hq2,g1⟩,λσ' H'=>i+1<=ds.length/\∃m3 r3 S3,fk m1 m3 H1 H'/\iL X.K m3 H' r3 σ'/\cS X.K m3 S3 H'/\S3[k]?=af (.lst ds)/\tF X (dX (λr S=>dS cl cs r S) tt k ds (ds.drop (i+1)) r3 S3) m3 H' N,
        λσ' H' q=>⟨ds.length - (i+1),by lia,rfl,q.1,q.2⟩,λx H3 y=>?_⟩
       obtain⟨rfl,y⟩:=y;have ey:=y vs2 hq2;rw[g1]at ey;have ev:v=x:=by simpa using ey
       subst ev;have GV:ds.drop i=ds[i]::ds.drop (i+1):=Yb hlt;rw[GV]at h2;simp only[dX]at h2;cases es:bN tt ds[i] r2 with
       |none=>rw[es]at h2;exact h2.elim|some r3=>
        rw[es]at h2;refine⟨m2,r2,ds[i],r3,Cn,g2,es,λσ2 L3=>⟨m2,r3,S2,L3,oj,?_⟩⟩;refine tF.mono (tF.AD (W:=λσ' H'=>i+1<=ds.length/\∃m3 r3 S3,fk m1 m3 H1 H'/\iL X.K m3 H' r3 σ'/\cS X.K m3 S3 H'/\S3[k]?=af (.lst ds)/\tF X (dX (λr S=>dS cl cs r S) tt k ds (ds.drop (i+1)) r3 S3) m3 H' N) h2 λm' H' σ' r' S' st er sr h=>?_) (λ_ _ q=>q) (λ_ _ q=> .inl q) (λ_ _ q=>q) (λ_ _ q=> .inl q);by_cases eg:S'[k]?=af (.lst ds)
        ·rw[if_pos eg]at h;exact⟨hlt,m',r',S',st2.trans st,er,sr,eg,h⟩
        ·rw[if_neg eg]at h;exact h.elim
      ·left;have ei:i=ds.length:=by lia
       subst ei;refine⟨⟨vs2,hq2,by rw[SA.length];lia⟩,.inl ?_⟩;rw[kg]at h2;exact h2 m2 H2 σ1 (fk.refl _ _) Cn oj
     |dct kvs=>
      simp only[fN,eo]at h;refine .inr ⟨m,r,S,er,sr,?_⟩;rw[e];intro m1 H1 v st1 e8 rd;obtain⟨p,rfl,hk⟩:=bT rd;obtain⟨p',vs,g1,hq,kv⟩:=e8.dct eo;rw[hk]at g1;cases g1;refine⟨p,vs,rfl,hq,λob h0=>?_⟩;have XI:fk m1 m1 H1 (upd H1 p (.tw ob (.dK vs))):=fk.qV e8 hk hq trivial;have XO:cS X.K m1 (S1.set k (.xy kvs)) (upd H1 p (.tw ob (.dK vs))):=e8.qV hk hq trivial λH' st e=>⟨ob,vs,e,kv.step st⟩
      have hl:kvs.length=vs.length:=kv.len;obtain⟨ds,OV⟩:∃ds,ds=kvs.map λp=>tN p.1:=⟨_,rfl⟩
      have hdl:ds.length=vs.length:=by rw[OV,Wb];exact hl
      rw[←OV]at h;have fin:∀{m2:List aI}{S2 S3:bq}{H2:Hp},fk m1 m2 (upd H1 p (.tw ob (.dK vs))) H2->cS X.K m2 S2 H2->GO k S2=af S3->∃vs2,H2 p=af (.tw ob (.dK vs2))/\fk m1 m2 H1 (upd H2 p (.dK vs2))/\cS X.K m2 S3 (upd H2 p (.dK vs2)):=λ{m2 S2 S3 H2} s2 oj e2=>by
       unfold GO at e2;cases q:S2[k]? with
       |none=>simp_all|some oo=>
        rw[q]at e2;cases oo with
        |xy XT=>have e2:=Wd e2;subst e2;obtain⟨p',o2,vs2,g1,g2,g3⟩:=oj.xy q;rw[s2.at hk]at g1;cases g1;have g4:=s2.sd p ob (.dK vs) bh;rw[g2]at g4;cases g4;exact⟨vs,g2,fk.walked hq s2,oj.B7 (s2.at hk) g2 g3⟩
        |_=>cases e2
      refine⟨λi n σ H=>n=ds.length - i/\i<=ds.length/\∃m2 r2 S2,fk m1 m2 (upd H1 p (.tw ob (.dK vs))) H/\iL X.K m2 H r2 σ/\cS X.K m2 S2 H/\tF X (gr k (forLoop (λr S=>dS cl cs r S) tt (ds.drop i) r2 S2)) m1 H1 N,
       ⟨ds.length,by simp,WP _,m1,r,_,fk.refl _ _,(er.step st1).step XI,XO,h.step st1⟩,?_⟩
      rintro i n σ1 H2 ⟨rfl,hi,m2,r2,S2,st2,Cn,oj,h2⟩;have hq2:H2 p=af (.tw ob (.dK vs)):=st2.sd p ob (.dK vs) bh;have done:∀{m3:List aI}{r3:az}{S3:bq}{H3:Hp}{σ3:L2.St},tF X (gr k (af (.next r3 S3))) m1 H1 N->fk m1 m3 (upd H1 p (.tw ob (.dK vs))) H3->iL X.K m3 H3 r3 σ3->cS X.K m3 S3 H3->HU X (N.nx σ3) H3:=λ{m3 r3 S3 H3 σ3} q s3 L3 E4=>by
       cases e3:GO k S3 with
       |none=>simp only[gr,e3,qE]at q;exact q.elim|some S4=>simp only[gr,e3,XJ]at q;obtain⟨vs2,w1,w2,w3⟩:=fin s3 E4 e3;exact .inr ⟨p,ob,vs2,w1,h0,q m3 _ σ3 w2 (L3.iS (Cc.B7 w1)) w3⟩
      by_cases hlt:i<ds.length
      ·right;have hkv:i<kvs.length:=by lia
       refine⟨⟨hq2,by lia⟩,λσ' H'=>i+1<=ds.length/\∃m3 r3 S3,fk m1 m3 (upd H1 p (.tw ob (.dK vs))) H'/\iL X.K m3 H' r3 σ'/\cS X.K m3 S3 H'/\tF X (gr k (forLoop (λr S=>dS cl cs r S) tt (ds.drop (i+1)) r3 S3)) m1 H1 N,
        λσ' H' q=>⟨ds.length - (i+1),by lia,rfl,q.1,q.2⟩,λx H3 y=>?_⟩
       obtain⟨rfl,key,vv,gk,rfl⟩:=y;have OW:(kvs[i]).1=key:=by have q1:=kv.F2 i;rw[Wq hkv,gk]at q1;simpa using q1
       have GV:ds.drop i=ds[i]::ds.drop (i+1):=Yb hlt;have XU:ds[i]=tN key:=by simp only[OV,Y7,OW]
       rw[GV,XU]at h2;simp only[forLoop]at h2;cases es:bN tt (tN key) r2 with
       |none=>rw[es]at h2;exact h2.elim|some r3=>
        rw[es]at h2;have h2:tF X (gr k (AD (dS cl cs r3 S2) λr S=>forLoop (λr S=>dS cl cs r S) tt (ds.drop (i+1)) r S)) m1 H1 N:=h2;refine⟨m2,r2,tN key,r3,Cn,Hw key,es,λσ2 L3=>⟨m2,r3,S2,L3,oj,?_⟩⟩;cases eb:dS cl cs r3 S2 with
        |none=>rw[eb]at h2;exact h2.elim|some fl=>
         rw[eb]at h2;cases fl with
         |next r4 S4=>exact λm4 H4 σ4 s4 L4 EI=>⟨hlt,m4,r4,S4,st2.trans s4,L4,EI,h2⟩|cont r4 S4=>exact λm4 H4 σ4 s4 L4 EI=>⟨hlt,m4,r4,S4,st2.trans s4,L4,EI,h2⟩|brk r4 S4=>exact λm4 H4 σ4 s4 L4 EI=>done h2 (st2.trans s4) L4 EI|ret d S4=>
          intro m4 H4 v s4 EI XW;have h2:tF X (gr k (af (.ret d S4))) m1 H1 N:=h2;cases e3:GO k S4 with
          |none=>simp only[gr,e3,qE]at h2;exact h2.elim|some S5=>simp only[gr,e3,XJ]at h2;obtain⟨vs2,w1,w2,w3⟩:=fin (st2.trans s4) EI e3;exact .inr ⟨p,ob,vs2,w1,h0,h2 m4 _ v w2 w3 (XW.iS (Cc.B7 w1))⟩
         |exc c r4 S4=>exact h2.elim
      ·left;have ei:i=ds.length:=by lia
       subst ei;refine⟨⟨hq2,by lia⟩,?_⟩;rw[kg]at h2;exact done h2 st2 Cn oj
   |_=>exact h.elim
def Rb{pins:List (aI×Obj)}{s:aE}{σ:L2.St}{H:Hp}{A:cK}{E:av->aE->Prop}{a:aI}{kvs:List (Key×V)}{k:Key}{v:V}{u r:av}{Q:av->aE->Prop}(I:Inv X pins σ H s)(e:H a=af (.dK kvs))(hl:dF kvs k=ah->kvs.length<aS)(ru:RelV (kV k) u)(rv:RelV v r)(h1:∀x w' s',dF kvs k=af x->Inv X pins σ H s'->RelV x w'->Q w' s')(h2:dF kvs k=ah->∀s',Inv X pins σ (upd H a (.dK (putK kvs k v))) s'->Q r s'):bg (model X.prog X.w) A (call (.builtin "dict.setdefault") [.ref a,u,r]) Q E s:=by
 obtain⟨z,hd,vs,rel,dd⟩:=m8 I.hok e;have hz:vs.length<=sizeLine:=by rw[←rel.length];exact z
 refine call_meetsIn i8 dd.typeIs PySem.F.entry_dict_setdefault (PySem.F.args_dict_setdefault_3 _ _ _) (kt_meets_setdefault (aX X.prog X.w) a (kj ru) hd r) ⟨vs,dd,hz,λw hw=>?_,λhn h' ES hs=>?_⟩
 ·have q:=rel.val k;rw[hw]at q;cases hx:dF kvs k with|none=>rw[hx]at q;exact absurd q id|some x=>rw[hx]at q;exact h1 x w _ hx (I.tok _) q
 ·have hx:dF kvs k=none:=by
   have q:=rel.val k;rw[hn]at q;cases hx:dF kvs k with|none=>rfl|some x=>rw[hx]at q;exact absurd q id
  have he:∃q,h'.get? a=af q:=let⟨q,_,_,hq,_⟩:=ES;⟨q,hq⟩
  have hl2:(putK kvs k v).length<=sizeLine:=by have:=jz kvs k v;have:=hl hx;lia
  exact h2 hx _ (m9 I (by rw[e];exact True.intro) hs he (uD hl2 hd (rel.put k rv) ES))
def VM(X:Cx):V->List V->Hp->VK->Prop:=λx xs H Q=>∃m r S n ds,cS X.K m S H/\RD X.K m H (.ref n) x/\f7 X.K m H ds xs/\tO X (rD X) (lR n ds S) m r H Q
def Mf{n:Nat}{ds:List D}{S:bq}{m:List aI}{r:az}{H:Hp}{Q:VK}(h:tO X (rD X) (lR n ds S) m r H Q):∃k e kvs key,ds=[k,e]/\S[n]?=af (.dct kvs)/\dG k=af key/\((∃d,bz kvs key=af d/\tO X (rD X) (fy d S) m r H Q)\/(bz kvs key=ah/\kvs.length<aS/\tO X (rD X) (fy e (S.set n (.dct (putD kvs key e)))) m r H Q)):=by
 unfold lR at h;split at h
 ·rename_i k e;split at h
  ·rename_i kvs e1;split at h
   ·rename_i key e2;refine⟨k,e,kvs,key,rfl,e1,e2,?_⟩;cases e3:bz kvs key with
    |some d=>rw[e3]at h;exact .inl ⟨d,rfl,h⟩|none=>
     rw[e3]at h;by_cases hl:kvs.length<aS
     ·simp_all
     ·simp only[if_neg hl]at h;exact h.elim
   ·exact h.elim
  ·exact h.elim
 ·exact h.elim
def Rc:DT X "dict.setdefault" (VM X):=by
 intro pins s σ H x xs v us Q I rx rv h;obtain⟨m,r,S,n,ds,sr,rd,rs,h⟩:=h;obtain⟨k,e,kvs,key,rfl,e1,e2,h⟩:=Mf h;obtain⟨a,rfl,hk⟩:=bT rd;obtain⟨a',vs,g1,g2,g3⟩:=sr.dct e1;rw[hk]at g1;cases g1;obtain⟨y,z,rfl,ry,rz⟩:=PK rs;have ey:=qe e2 ry;subst ey;cases rx;obtain⟨u,w',rfl,ru,rw'⟩:=vals2 rv;rcases h with⟨d,e3,h⟩|⟨e3,hl,h⟩
 ·rcases g3.val key with⟨z1,z2⟩|⟨d',w3,z1,z2,MX⟩
  ·lia
  ·rw[z1]at e3;cases e3;exact Rb I g2 (λq=>by lia) ru rw' (λx w2 s' q I' rx=>by
    rw[z2]at q;cases q;exact⟨_,H,I',rx,h.fin sr MX⟩) (λq=>by lia)
 ·rcases g3.val key with⟨z1,z2⟩|⟨d',w3,z1,z2,MX⟩
  ·have st:fk m m H (upd H a (.dK (putK vs key z))):=fk.qV sr hk g2 trivial;exact Rb I g2 (λ_=>by rw[←g3.len];exact hl) ru rw' (λx w2 s' q=>by lia) λ_ s' I'=>⟨z,_,I',rw',h.fin' st (sr.qV hk g2 trivial λH' st' e=>⟨_,e,(g3.put key rz).step st'⟩) (rz.step st)⟩
  lia
theorem Ud(ho:JE X cl a a')(ha:JA X cl (b::es) (b'::es'))(hbase:attributeBase a "setdefault" X.env (eval a X.env)=eval a X.env)(hfew:((backTo pos (starEach (b::es) X.env)).all (λx=>!x.1) && (backToKw pos (keywordEach [] X.env)).all (λx=>x.1.isSome)
   && decide ((b::es).length+([]:List Keyword).length+(if([]:List Keyword).isEmpty then 0 else 1)<30))=ai)(hline:(apos.endLine==pos.line)=ai)(hs:starEach (b::es) X.env=(ay,eval b X.env)::starEach es X.env)(hplain:(backTo pos (starEach es X.env)).any (·.1)=ay):
  JE X cl (.Call (.Attribute a "setdefault" apos) (b::es) [] pos) (.F0 a' (b'::es')):=by
 refine PE.imp (zP iE i8 PySem.F.type_dict_setdefault Rc ho ha hbase hfew hline hs hplain) λσ H Q h=>?_;refine tM.el h λm r S er sr h=>?_;have h:tO X (rD X) (bnd (aj cl a' r S) λx S1=>match x with
  |.ref n=>(match S1[n]? with|some (.dct _)=>(bnd (aF cl (b'::es') r S1) λds S2=>lR n ds S2)|_=>ah)|_=>ah) m r H Q:=h
 refine⟨m,r,S,er,sr,h.bnd.mono λv H1 zz=>?_⟩;refine aN zz λm1 x S1 st1 e8 rx h1=>?_;cases x with
 |ref n=>
  cases e:S1[n]? with
  |none=>simp only[e]at h1;exact h1.elim|some o=>
   cases o with|dct kvs=>simp only[e]at h1;refine⟨ty_dict e8 rx e,m1,r,S1,er.step st1,e8,h1.bnd.mono λw H2 zz=>?_⟩;refine aN zz λm2 ds S2 st2 oj rs h2=>?_;exact⟨m2,r,S2,n,ds,oj,rx.step st2,rs,h2⟩|_=>simp only[e]at h1;exact h1.elim
 |_=>exact h1.elim
end
end RK
namespace RK
open PySem L2 PySem.SeqAt PyProof.Rows
abbrev dZ(h:dc)(it d:aI)(i n ep:Nat)(f0 f1 ok ov:av):Prop:=
 h.get? it=af {cls:= .type "dict_itemiterator",dict:=ah,data:= .fields #[f0,f1,.ref d,.int i 0,.int n 0,.int ep 0,ok,ov],slots:= #[]}
def Own(f0:av):Prop:=f0= .none\/∃a:Nat,f0=rawInt a
section
variable{prog:ck}{w:cy}{K:Type}[DecidableEq K]{knd:KeyKind prog w K}{A:cK}{E:av->aE->Prop}{s:aE}
def xG(h:Q (s.heap.get? a) s):bg M A (loadIfAlive a) Q E s:=λΓ p _=>by
 unfold loadIfAlive
 simp_all
def Hx(hit:dZ s.heap it d i n ep f0 f1 ok ov)(ho:Own f0)(ht:Q ai s)(hf:∀h' KP,dZ h' it d i n ep f0 KP ok ov->Heap.SameBut it s.heap h'->Q ay {s with heap:=h'}):bg (model prog w) A (Builtin.Dict_items.ownedTupleIsFree (.ref it)) Q E s:=by
 unfold Builtin.Dict_items.ownedTupleIsFree;rcases ho with rfl|⟨a,rfl⟩
 ·exact My (W3 hit rfl (x:= .none) rfl (V8 ht))
 ·refine My (W3 hit rfl (x:=rawInt a) rfl ?_);show bg _ _ (loadIfAlive ((a:Int)).toNat>>=_) _ _ s;refine My (xG ?_);refine Xj (λ_=>V8 ht) (λ_=>?_);refine My (W3 hit rfl (x:=f1) rfl ?_);refine Xj (λ_=>?_) (λ_=>?_)
  ·refine My (Xv hit (by simp) λh1 Kn hs1=>V8 (hf h1 (.bool ai) Kn hs1))
  ·exact V8 (hf s.heap f1 hit (Heap.SameBut.refl _ _))
def Hy(hit:dZ s.heap it d i kvs.length ep f0 f1 ok ov)(ho:Own f0)(hm:s.heap.DictAt knd d kvs ep)(hx:kvs[i]?=af (k,v))(hQ:∀key h' f0' KP ok' ov',knd.is k key=ai->dZ h' it d (i+1) kvs.length ep f0' KP ok' ov'->Own f0'->
   h'.get? s.heap.objs.size=af {cls:= .type "tuple",data:= .seq #[key,v]}->h'.objs.size=s.heap.objs.size+1->
   (∀b o,b≠it->s.heap.get? b=af o->h'.get? b=af o)->Q (af (.ref s.heap.objs.size)) {s with heap:=h'}):
  bg (model prog w) A (pyNext (.ref it)) Q E s:=by
 obtain⟨hp,g,dr,tk,os⟩:=s;obtain⟨od,es,hod,hcd,hdd,hk,hpr,hn⟩:=id hm;have hT:Shared.TypeIs ⟨hp,g,dr,tk,os⟩ (.ref it) "dict_itemiterator" :=⟨_,hit,rfl⟩
 unfold pyNext;refine My (Zf (Xf (name:=Str.ofString "__next__") hT Yk
  (WY Yk hT gg ?_ (gc _))))
 refine My (V8 ?_);refine My ?_;refine My ?_
 first|refine My (Yx hT (V8 ?_))|refine My (wpAny_typeNameOf_itemiter hT (V8 ?_))
 refine My (wpAny_fieldsOf hit rfl ?_);have hown:Builtin.Dict_items.ownsTuple "dict_itemiterator" =true:=by decide
 simp only[hown,if_true];show bg _ _ (if(Value.ref d==Value.none)=ai then _ else _) _ _ _;rw[if_neg (show ¬((Value.ref d==Value.none)=ai)from Zh)];refine My (V8 ?_);refine My (wpAny_dictEntries hod hdd ?_);have hsz:es.size=kvs.length:=by rw[←hpr.length];simp
 rw[if_neg (by rw[hsz];simp)];refine My (V8 ?_);refine My (wpAny_dictEpoch hod hdd ?_);rw[if_neg (by simp)];refine V8 ?_;have hlt:i<kvs.length:=by
  rcases Nat.lt_or_ge i kvs.length with h|h
  ·exact h
  ·simp_all
 have hlt':i<es.size:=by rw[hsz];exact hlt
 obtain⟨hkey,hval⟩:=hpr.get? (e:=es[i]) (by simp[hlt']) hx;simp only[show ¬((i:Int)<0)from by simp,Xd,Yy,Yt hlt'];refine My ?_
 first|refine My (Yx hT (V8 ?_))|refine My (wpAny_typeNameOf_itemiter hT (V8 ?_))
 refine My (wpAny_isOneOf_itemiter hT ?_);show bg _ _ (setField (.ref it) 3 (rawInt ((i:Int)+1))>>=_) _ _ ⟨hp,g,dr,tk,os⟩;refine My (Xv hit (by simp) λh₁ he₁ hs₁=>?_);replace hs₁:Heap.SameBut it hp h₁:=hs₁;replace he₁:dZ h₁ it d (i+1) kvs.length ep f0 f1 ok ov:=by
  have e:((i+1:Nat):Int)=(i:Int)+1:=by rfl
  unfold dZ;rw[e];simpa[rawInt]using he₁
 have hT₁:Shared.TypeIs ⟨h₁,g,dr,tk,os⟩ (.ref it) "dict_itemiterator" :=⟨_,he₁,rfl⟩
 refine My (Xl ?_);refine My (wpAny_isOneOf_itemiter hT₁ ?_);refine My (wpAny_isOneOf_itemiter hT₁ ?_);show bg _ _ (Builtin.Dict_items.pairFromOwner (.ref it) 6 es[i].key es[i].val) _ _ ⟨h₁,g,dr,tk,os⟩;unfold Builtin.Dict_items.pairFromOwner;refine My (wpAny_newTuple ?_);have he₂:dZ (h₁.push {cls:= .type "tuple",data:= .seq #[es[i].key,es[i].val]}) it d (i+1) kvs.length ep f0 f1 ok ov:=V9 _ he₁;generalize hh₂:h₁.push {cls:= .type "tuple",data:= .seq #[es[i].key,es[i].val]}=h₂ at he₂;have hz₁:h₁.objs.size=hp.objs.size:=hs₁.1;have hil:it<hp.objs.size:=Wg hit;have ht₂:h₂.get? hp.objs.size=af {cls:= .type "tuple",data:= .seq #[es[i].key,es[i].val]}:=by rw[←hh₂,←hz₁];exact Wf _ rfl
 have hz₂:h₂.objs.size=hp.objs.size+1:=by rw[←hh₂,YF,hz₁]
 have hk₂:∀b o,b≠it->hp.get? b=af o->h₂.get? b=af o:=λb o hb e=>by rw[←hh₂];exact V9 _ (hs₁.extBut b o hb e)
 show bg _ _ (Builtin.Dict_items.ownedTupleIsFree (.ref it)>>=_) _ _ ⟨h₂,g,dr,tk,os⟩;rw[hz₁];clear hh₂ he₁ hs₁ hT₁ hz₁ h₁;refine My (Hx (s:=⟨h₂,g,dr,tk,os⟩) he₂ ho ?_ λh₃ KP he₃ hs₃=>?_)
 ·simp only[if_true];refine My (W3 he₂ rfl (x:=ok) rfl ?_);refine My (W3 he₂ rfl (x:=ov) rfl ?_);refine My (Xv he₂ (by simp) λh₃ he₃ hs₃=>?_);replace hs₃:Heap.SameBut it h₂ h₃:=hs₃;replace he₃:dZ h₃ it d (i+1) kvs.length ep f0 f1 es[i].key ov:=he₃;refine My (Xv he₃ (by simp) λh₄ he₄ hs₄=>?_);replace hs₄:Heap.SameBut it h₃ h₄:=hs₄;replace he₄:dZ h₄ it d (i+1) kvs.length ep f0 f1 es[i].key es[i].val:=he₄;refine My (Xv he₄ (by simp) λh₅ he₅ hs₅=>?_);replace hs₅:Heap.SameBut it h₄ h₅:=hs₅;replace he₅:dZ h₅ it d (i+1) kvs.length ep (rawInt hp.objs.size) f1 es[i].key es[i].val:=he₅;refine My (Xv he₅ (by simp) λh₆ he₆ hs₆=>?_);replace hs₆:Heap.SameBut it h₅ h₆:=hs₆;replace he₆:dZ h₆ it d (i+1) kvs.length ep (rawInt hp.objs.size) (.bool ay) es[i].key es[i].val:=he₆;refine My (wpAny_letGo (V8 (V8 ⟨_,rfl,V8 (hQ es[i].key h₆ _ _ _ _ hkey he₆ (.inr ⟨_,rfl⟩) ?_ ?_ ?_)⟩)))
  ·rw[←hval];exact hs₆.extBut _ _ (Xn hil) (hs₅.extBut _ _ (Xn hil) (hs₄.extBut _ _ (Xn hil) (hs₃.extBut _ _ (Xn hil) ht₂)))
  ·show h₆.objs.size=hp.objs.size+1;rw[hs₆.1,hs₅.1,hs₄.1,hs₃.1,hz₂]
  ·exact λb o hb e=>hs₆.extBut b o hb (hs₅.extBut b o hb (hs₄.extBut b o hb (hs₃.extBut b o hb (hk₂ b o hb e))))
 ·replace hs₃:Heap.SameBut it h₂ h₃:=hs₃;refine V8 (V8 ⟨_,rfl,V8 (hQ es[i].key h₃ _ _ _ _ hkey he₃ ho ?_ ?_ ?_)⟩)
  ·rw[←hval];exact hs₃.extBut _ _ (Xn hil) ht₂
  ·show h₃.objs.size=hp.objs.size+1;rw[hs₃.1,hz₂]
  ·exact λb o hb e=>hs₃.extBut b o hb (hk₂ b o hb e)
def Mg(hh:A.handled=ah)(hit:dZ s.heap it d i kvs.length ep f0 f1 ok ov)(hm:s.heap.DictAt knd d kvs ep)(hx:kvs[i]?=ah)(hQ:∀h',Heap.ExtBut it s.heap h'->Q ah {s with heap:=h'}):bg (model prog w) A (pyNext (.ref it)) Q E s:=by
 obtain⟨od,es,hod,hcd,hdd,hk,hpr,hn⟩:=id hm;have hT:s.TypeIs (.ref it) "dict_itemiterator" :=⟨_,hit,rfl⟩
 unfold pyNext;refine My (Zf (Xf (name:=Str.ofString "__next__") hT Yk
  (WY Yk hT gg ?_ (gc _))))
 refine My (V8 ?_);refine My ?_;refine My ?_
 first|refine My (Yx hT (V8 ?_))|refine My (wpAny_typeNameOf_itemiter hT (V8 ?_))
 refine My (wpAny_fieldsOf hit rfl ?_);have hown:Builtin.Dict_items.ownsTuple "dict_itemiterator" =true:=by decide
 simp only[hown,if_true];show bg _ _ (if(Value.ref d==Value.none)=ai then _ else _) _ _ s;rw[if_neg (show ¬((Value.ref d==Value.none)=ai)from Zh)];refine My (V8 ?_);refine My (wpAny_dictEntries hod hdd ?_);have hsz:es.size=kvs.length:=by rw[←hpr.length];simp
 rw[if_neg (by rw[hsz];simp)];refine My (V8 ?_);refine My (wpAny_dictEpoch hod hdd ?_);rw[if_neg (by simp)];refine V8 ?_;have hge:es.size<=i:=by rw[hsz];simpa using hx
 simp only[show ¬((i:Int)<0)from by simp,Xd,Yy,YJ hge];refine My ?_
 first|refine My (Yx hT (V8 ?_))|refine My (wpAny_typeNameOf_itemiter hT (V8 ?_))
 show bg _ _ (setField (.ref it) 2 .none>>=_) _ _ s;refine My (Yj hit rfl (by simp) ?_);show bg _ _ (newExc (.type "StopIteration") []>>=_) _ _ _;refine My ?_;simp only[newExc,newTuple];refine My (W5 ?_ (by size_fits));refine My (m:=firstArgMember _ _) (wpAny_of_eq (a:=Value.none) (by rfl) ?_);refine W5 ?_ (by size_fits);simp only[raiseNew];refine My (wpAny_handled ?_);rw[show A.in1.handled=ah from hh];refine My (V8 (wpAny_throw ?_));refine My (wpAny_isInstance (T:= "StopIteration") (b:=ai) ⟨_,Wf _ rfl,rfl⟩ isSubtype_stop ?_);exact V8 (hQ _ (((X8 ..).extBut.push _).push _))
end
section
variable{prog:ck}{w:cy}{A:cK}{E:av->aE->Prop}{s:aE}{r:aI}{Q:Bool->aE->Prop}
def Hz(hT:s.TypeIs (.ref r) "dict_items")(h:Q ay s):bg (model prog w) A (Builtin.List.listLengthHint (.ref r)) Q E s:=by
 unfold Builtin.List.listLengthHint;refine My (wpAny_specialOf hT PySem.F.slot_dict_items_len.lookup ?_);generalize hid:("dict_items.__len__" :String)=id0
 wp_delta
 rw[show splitId id0=af ("dict_items", "__len__")from by subst hid;decide+kernel];subst hid;refine My (wpAny_isInstance (T:= "dict_items") (b:=ai) hT (by rfl) ?_);refine Xj (λhab=>absurd hab (by decide)) (λ_=>?_);refine Xj (λ_=>?_) (λhab=>absurd (by decide+kernel) hab);refine My (Yn hT ?_);exact V8 h
end
theorem Ay{α β:Type}{F:α->β->Prop}{l:List α}{m:List β}{i:Nat}{b:β}(h:PySem.Paired F l m):m[i]?=af b->∃a,l[i]?=af a/\F a b:=by
 induction h generalizing i with
 |nil=>intro e;simp at e|@cons a0 b0 l0 m0 h t ih=>
  intro e;cases i with|zero=>simp_all|succ i=>simp_all
abbrev ph(acc:Array av)(c:Nat):Obj:={cls:= .type "list",dict:=ah,data:= .seq acc c,slots:= #[]}
section
variable{X:Cx}{pins:List (aI×Obj)}{σ:List (Option V)}{A:cK}
def vp(H:Hp)(kvs:List (Key×V))(acc:Array av)(i:Nat):Prop:=acc.size=i/\∀j,j<i->∃a p,acc[j]?=af (.ref a)/\kvs[j]?=af p/\H a=af (.tup [kV p.1,p.2])
def Inv.pairs(I:Inv X pins σ H s)(f:dO X pins H it)(hi:it<s.heap.objs.size)(rx:RelV x key)(ry:RelV y u)(ht:h'.get? s.heap.objs.size=af {cls:= .type "tuple",data:= .seq #[key,u]})(hk:∀b o,b≠it->s.heap.get? b=af o->h'.get? b=af o):
  Inv X pins σ (upd H s.heap.objs.size (.tup [x,y])) {s with heap:=h'}:=by
 obtain⟨f0,f1,f2,f3,f4,f5⟩:=f;have hat:(s.heap.push {cls:= .type "tuple",data:= .seq #[key,u]}).get? s.heap.objs.size=af {cls:= .type "tuple",data:= .seq #[key,u]}:=Wf _ rfl;have I1:=I.laid (h':=s.heap.push {cls:= .type "tuple",data:= .seq #[key,u]}) (t':=s.toks) (a:=s.heap.objs.size) (o:= .tup [x,y]) (λb o e=>V9 _ e) (Wc _)
  ⟨by simp[aS],[key,u],.cons rx (.cons ry .nil),⟨_,hat,rfl,0,rfl⟩,_,hat,rfl,rfl⟩
 have I2:=I1.turned (it:=it) (h':=h') (t':=s.toks) (λb o hb e=>?_) (by rw[aA (Wo hi)];exact f0) f1 f3 f4 f5
 ·exact I2
 have e:(s.heap.push {cls:= .type "tuple",data:= .seq #[key,u]}).get? b=af o:=e;by_cases eb:b=s.heap.objs.size
 ·lia
 ·rw[Heap.get?_push_ne _ _ _ eb]at e;exact hk b o hb e
theorem Az(hh:A.handled=ah)(rel:KV kvs vs)(hSi:S≠it)(hSd:S≠d)(hdi:d≠it)(hn:vs.length<=aS):
  ∀(k i:Nat)(s:aE)(H:Hp)(acc:Array av)(c:Nat)(f0 f1 ok ov:av),vs.length - i=k->i<=vs.length->Inv X pins σ H s->dO X pins H it->dO X pins H S->dZ s.heap it d i vs.length ep f0 f1 ok ov->Own f0->
   s.heap.DictAt (aX X.prog X.w) d vs ep->s.heap.get? S=af (ph acc c)->vp H kvs acc i->
   (∀s' H' acc' c',Inv X pins σ H' s'->(∀b o,H b=af o->H' b=af o)->(∀b,H b=ah->H' b≠ah->s.heap.objs.size<=b)->s'.heap.get? S=af (ph acc' c')->vp H' kvs acc' vs.length->R (.ok (.ret res)) s')->
   codeAny (model X.prog X.w) A (.builtin "list.extend.loop" ⟨[.ref S,.ref it,res],[]⟩) R s:=by
 intro k
 induction k with
 |zero=>
  intro i s H acc c f0 f1 ok ov hk hi I fi fS hit ho hm hS hg hR;have hin:i=vs.length:=by lia
  subst hin;refine XD kM ?_;rw[XF Yu _];show bg _ A.in1 (pyNext (.ref it)>>=_) _ _ s;refine My (Mg (A:=A.in1) hh hit hm (by simp) λh' he=>?_);obtain⟨g0,g1,g2,g3,g4,g5⟩:=fi;exact V8 (hR _ H acc c (I.turned (it:=it) (t':=s.toks) (λb o hb e=>he b o hb e) g0 g1 g3 g4 g5) (λ_ _ e=>e) (λb n y=>absurd n y) (he S _ hSi hS) hg)
 |succ k ih=>
  intro i s H acc c f0 f1 ok ov hk hi I fi fS hit ho hm hS hg hR;have hlt:i<vs.length:=by lia
  obtain⟨⟨ky,u⟩,hx⟩:∃p,vs[i]?=af p:=⟨vs[i],by simp[hlt]⟩
  obtain⟨⟨ky',y⟩,hx',e1,ry⟩:=Ay rel hx;have e1:ky'=ky:=e1;subst e1;refine XD kM ?_;rw[XF Yu _];show bg _ A.in1 (pyNext (.ref it)>>=_) _ _ s;refine My (Hy hit ho hm hx λkey h' f0' KP ok' ov' hkey hit' ho' ht hz hkp=>?_);have hil:it<s.heap.objs.size:=Wg hit;have hSl:S<s.heap.objs.size:=Wg hS;have hS':=hkp S _ hSi hS;have I1:=Inv.pairs I fi hil (yC hkey) ry ht hkp;have hm':=hm.at' λo e=>hkp d o hdi e;show bg _ A.in1 (updateSeq S (·.push (.ref s.heap.objs.size))>>=_) _ _ _;refine My ?_;have hold:∀b o,H b=af o->b<s.heap.objs.size:=λb o e=>I.hok.lt e;refine wpAny_updateSeq hS' rfl (V8 ⟨Zg Yu _,ih (i+1) _ (upd H s.heap.objs.size (.tup [kV ky',y])) (acc.push (.ref s.heap.objs.size)) _ f0' KP ok' ov' (by lia) hlt ?_ ⟨?_,fi.2⟩ ⟨?_,fS.2⟩ ?_ ho' ?_ (W7 _ hS' rfl) ?_ λs'' BI acc' c' XY hH hN hS'' hg'=>?_⟩)
   (by rw[hg.1];exact Wa hi hn) (by show(acc.push (.ref s.heap.objs.size)).size<=aS+1;rw[xo,hg.1];lia)
  ·obtain⟨g0,g1,g2,g3,g4,g5⟩:=fS;refine I1.turned (it:=S) (t':=s.toks) (λb o hb e=>?_) (by rw[aA (Wo hSl)];exact g0) g1 g3 g4 g5;exact(Ww _ _ (Ne.symm hb)).trans e
  ·rw[aA (Wo hil)];exact fi.1
  ·rw[aA (Wo hSl)];exact fS.1
  ·exact(Ww _ _ hSi).trans hit'
  ·exact hm'.at' λo e=>(Ww _ _ hSd).trans e
  ·refine⟨by rw[xo,hg.1],λj hj=>?_⟩;by_cases ej:j=i
   ·subst ej;refine⟨s.heap.objs.size,(ky',y),?_,hx',bh⟩;rw[rX,if_pos hg.1.symm]
   ·obtain⟨a,p,h1,h2,h3⟩:=hg.2 j (by lia);refine⟨a,p,?_,h2,?_⟩
    ·rw[rX,if_neg (by rw[hg.1];exact ej)];exact h1
    ·rw[aA (Wo (hold _ _ h3))];exact h3
  ·refine hR s'' BI acc' c' XY (λb o e=>hH b o (by rw[aA (Wo (hold b o e))];exact e)) (λb n y=>?_) hS'' hg';by_cases eb:b=s.heap.objs.size
   ·simp_all
   ·have q:=hN b (by rw[aA eb];exact n) y;have hz2:(h'.update S (Obj.mapSeq (·.push (.ref s.heap.objs.size)))).objs.size=s.heap.objs.size+1:=(Heap.size_update ..).trans hz;have q:(h'.update S (Obj.mapSeq (·.push (.ref s.heap.objs.size)))).objs.size<=b:=q;lia
def vq(hh:A.handled=ah)(rel:KV kvs vs)(I:Inv X pins σ H s)(fS:dO X pins H S)(hv:s.heap.IsItemsView v d)(hm:s.heap.DictAt (aX X.prog X.w) d vs ep)(XZ:S≠v)(hSd:S≠d)(hS:s.heap.get? S=af (ph #[] c₀))(hn:vs.length<=aS)(hR:∀s' H' acc' c',Inv X pins σ H' s'->(∀b o,H b=af o->H' b=af o)->s'.heap.get? S=af (ph acc' c')->vp H' kvs acc' vs.length->R (.ok (.ret res)) s'):
  bg (model X.prog X.w) A.in1 (Builtin.List.listExtendWith (.ref S) (.ref v) res)
   (λfin s'=>match fin with|.done f=>R (.ok f) s'|.again c'=>c'.quiet=ai/\codeAny (model X.prog X.w) A c' R s') (λe s'=>R (.error e) s') s:=by
 have hSl:S<s.heap.objs.size:=Wg hS;have hdl:d<s.heap.objs.size:=hm.lt_size;have fi:dO X pins H s.heap.objs.size:=I.B4 (Wc _) (I.hok.fresh (Wc _));have key:∀(h:dc)(c₁ tk:Nat),dZ h s.heap.objs.size d 0 vs.length ep .none (.bool ay) .none .none->(∀b o,b≠S->s.heap.get? b=af o->h.get? b=af o)->
   h.get? S=af (ph #[] c₁)->codeAny (model X.prog X.w) A (.builtin "list.extend.loop" ⟨[.ref S,.ref s.heap.objs.size,res],[]⟩) R {s with heap:=h,toks:=tk}:=by
  intro h c₁ tk hit hk hS₁;obtain⟨g0,g1,g2,g3,g4,g5⟩:=id fS;have I1:Inv X pins σ H {s with heap:=h,toks:=tk}:=I.turned (it:=S) (t':=tk) hk g0 g1 g3 g4 g5;exact Az hh rel (Wo hSl) hSd (Wo hdl) hn vs.length 0 _ H #[] c₁ _ _ _ _ (by rfl) (WP _) I1 fi fS hit (.inl rfl) (hm.at' λo e=>hk d o (Ne.symm hSd) e) hS₁ ⟨rfl,λj hj=>absurd hj (by simp)⟩
   λs' H' acc' c' I' hH _ hS' hg=>hR s' H' acc' c' I' hH hS' hg
 unfold Builtin.List.listExtendWith;refine My (Yn (T:= "dict_items") hv.typeIs ?_);have h1:Builtin.List.listSameRef (.ref S) (.ref v)=false:=by simp[Builtin.List.listSameRef,XZ]
 have h2:(Value.type "dict_items" ==Value.type "list")=false:=by decide
 have h3:(Value.type "dict_items" ==Value.type "tuple")=false:=by decide
 simp only[h1,h2,h3,Bool.or_false,Wt,Xd];refine My (wpAny_pyIter_items hv hm ?_);have hS₁:(s.heap.push {cls:= .type "dict_itemiterator",data:= .fields #[.none,.bool ay,.ref d,.int 0 0,.int vs.length 0,.int ep 0,.none,.none]}).get? S=af (ph #[] c₀):=V9 _ hS;have hit:dZ (s.heap.push {cls:= .type "dict_itemiterator",data:= .fields #[.none,.bool ay,.ref d,.int 0 0,.int vs.length 0,.int ep 0,.none,.none]}) s.heap.objs.size d 0 vs.length ep .none (.bool ay) .none .none:=Wf _ rfl;have hv':(s.heap.push {cls:= .type "dict_itemiterator",data:= .fields #[.none,.bool ay,.ref d,.int 0 0,.int vs.length 0,.int ep 0,.none,.none]}).IsItemsView v d:=let⟨o,e,x⟩:=hv;⟨o,V9 _ e,x⟩
 refine My (Xl (Hz (s:={s with heap:=s.heap.push _}) (Heap.IsItemsView.typeIs hv') ?_));refine Xj (λ_=>?_) (λ_=>V8 ⟨Zg Yu _,key _ c₀ _ hit (λb o _ e=>V9 _ e) hS₁⟩);refine My (Y5 ?_);refine My ?_;show bg _ _ (updateSeq S (·.push .none)>>=λ_=>updateSeq S (·.pop)) _ _ _;refine My (wpAny_updateSeq hS₁ rfl ?_);have hS₂:=W7 (Obj.mapSeq (·.push Value.none)) hS₁ rfl;refine wpAny_updateSeq (hz:=by seq_fits) hS₂ rfl ?_;have hS₃:=W7 (Obj.mapSeq (·.pop)) hS₂ rfl;refine V8 ⟨Zg Yu _,key _ _ _ ?_ (λb o hb e=>?_) hS₃⟩
 ·exact(Ww _ _ (Wo hSl)).trans ((Ww _ _ (Wo hSl)).trans hit)
 ·exact(Ww _ _ (Ne.symm hb)).trans ((Ww _ _ (Ne.symm hb)).trans (V9 _ e))
theorem vy{E:av->aE->Prop}(hh:A.handled=ah)(rel:KV kvs vs)(I:Inv X pins σ H s)(hv:s.heap.IsItemsView v d)(hm:s.heap.DictAt (aX X.prog X.w) d vs ep)(hn:vs.length<=aS)(h:∀s' H' acc,Inv X pins σ H' s'->(∀b o,H b=af o->H' b=af o)->vp H' kvs acc vs.length->R acc.toList s'):bg (model X.prog X.w) A (collect (.ref v)) R E s:=by
 unfold collect;refine My (wpAny_runValue (XD entry_proto_collect' ?_));rw[XF jv _];refine My (m:=newList []) (W5 (V8 ⟨Zg Zc _,XD entry_list_iadd' ?_⟩));rw[XF Zc _];have hvl:v<s.heap.objs.size:=let⟨_,e,_⟩:=hv;Wg e
 have hdl:d<s.heap.objs.size:=hm.lt_size;have hS:(s.heap.push (seqObj "list" #[] 0)).get? s.heap.objs.size=af (seqObj "list" #[] 0):=Wf _ rfl;have fS:dO X pins H s.heap.objs.size:=I.B4 (Wc _) (I.hok.fresh (Wc _));have I1:Inv X pins σ H {s with heap:=s.heap.push (seqObj "list" #[] 0)}:=I.kept (t':=s.toks) λb o e=>V9 _ e;have key:=vq (A:=A) (s:={s with heap:=s.heap.push (seqObj "list" #[] 0)}) (res:= .ref s.heap.objs.size) (R:=λ(q:Result)(s':aE)=>q= .ok (.ret (.ref s.heap.objs.size))/\∃H' acc c,Inv X pins σ H' s'/\(∀b o,H b=af o->H' b=af o)/\s'.heap.get? s.heap.objs.size=af (ph acc c)/\vp H' kvs acc vs.length)
  hh rel I1 fS (let⟨o,e,x⟩:=hv;⟨o,V9 _ e,x⟩) (hm.push _) (Xn hvl) (Xn hdl) hS hn λs' H' acc c I' hH hS' hg=>⟨rfl,H',acc,c,I',hH,hS',hg⟩
 refine Xw key (λf s' x=>?_) λe s' x=>by obtain⟨q,_⟩:=x;cases q
 cases f with
 |done f=>obtain⟨q,H',acc,c,I',hH,hS',hg⟩:=x;cases q;show bg _ A (load s.heap.objs.size>>=_) _ _ _;exact My (wpAny_load hS' (V8 (h s' H' acc I' hH hg)))
 |again c₁=>refine⟨x.1,YM x.2 λq s₂ y=>?_⟩;obtain⟨rfl,H',acc,c,I',hH,hS',hg⟩:=y;show bg _ A (load s.heap.objs.size>>=_) _ _ _;exact My (wpAny_load hS' (V8 (h s₂ H' acc I' hH hg)))
end
section
variable{X:Cx}
def qG(v d:aI):dc->Prop:=λh=>h.IsItemsView v d
theorem yD{kvs:List (Key×V)}{rs:List (List Int)}(h:(kvs.map λp=> [kV p.1,p.2])=rs.map (·.map V.int))(e:kvs[i]?=af p):[kV p.1,p.2]=(rs.getD i []).map V.int/\i<rs.length:=by
 have q:=Xk (λl=>l[i]?) h;simp only[Xm,e,XJ]at q;cases e2:rs[i]? with
 |none=>simp_all|some r=>
  rw[e2]at q;have q:[kV p.1,p.2]=r.map V.int:=Wd q;refine⟨?_,(Wi.mp e2).1⟩
  simp_all
def n8(hc:X.calm=ai):bj X (.builtin "sorted") (λxs H Q=>∃v d kvs rs,xs=[.ref v]/\H v=af (.ext (qG v d))/\H d=af (.dK kvs)/\(kvs.map λp=> [kV p.1,p.2])=rs.map (·.map V.int)/\(rs.Nodup/\rs.length<64)/\
  ∀H' l ws,(∀b o,H b=af o->H' b=af o)->H' l=ah->dY X.K H' ay ws (aQ rs)->Q (.ref l) (upd H' l (.lst ws))):=by
 intro pins s σ H xs us Q I rv h;obtain⟨v,d,kvs,rs,rfl,hv,hq,hk,⟨hnd,h64⟩,q⟩:=h;obtain⟨u,rfl,ru⟩:=vals1 rv;cases ru;obtain⟨hz,hs,vs,r,dd⟩:=m8 I.hok hq;obtain⟨ep,hat⟩:=dd.dictAt;have L5:s.heap.IsItemsView v d:=(show bB X.prog X.w H s.heap v (.ext (qG v d))from I.hok v _ hv).1;have hvl:vs.length=kvs.length:=r.length.symm;have hkl:kvs.length=rs.length:=by simpa using Xk fR hk
 have hn:vs.length<=sizeLine:=by rw[W6];lia
 refine Yr kind_sorted plain_sorted entry_sorted (args_sorted1 _) ?_;unfold Builtin.«sorted»;refine My (m:=checkCount "sorted" 1 1 _) (V8 ?_);refine My (vy (A:=X.A.in1) (I.ok.hd hc) r I L5 hat hn λs' H' acc I' hH hg=>?_);obtain⟨hsz,hg⟩:=hg;have hal:acc.toList.length=rs.length:=by rw[Xh];lia
 have hle:acc.toList.length<=sizeLine:=by rw[hal,W6];lia
 have at2:∀i,i<acc.toList.length->∃a o xs n,acc.toList[i]?=af (.ref a)/\s'.heap.get? a=af o/\o.cls= .type "tuple" /\o.data= .seq xs n/\IntsAre xs.toList (rs.getD i [])/\H' a=af (.tup ((rs.getD i []).map V.int)):=λi hi=>by
  obtain⟨a,p,e1,e2,e3⟩:=hg i (by lia);obtain⟨e4,e5⟩:=yD hk e2;rw[e4]at e3;obtain⟨_,its2,r2,⟨o,ho,hc,n,hd⟩,_⟩:=(show bB X.prog X.w H' s'.heap a (.tup ((rs.getD i []).map V.int))from I'.hok a _ e3)
  exact⟨a,o,its2.toArray,n,by grind,ho,hc,hd,intsAre_of (by simpa using r2),e3⟩
 have at_:uQ ay s'.heap acc.toList rs:=λi hi=>by obtain⟨a,o,xs,n,e1,e2,e3,e4,e5,_⟩:=at2 i hi;exact⟨a,o,xs,n,e1,e2,e3,e4,e5⟩
 have hne:∀w∈rs,w≠ []:=λw hw z=>by
  obtain⟨i,hi⟩:=Zr.mp hw;have hil:i<rs.length:=(Wi.mp hi).1;obtain⟨a,p,e1,e2,e3⟩:=hg i (by lia);obtain⟨e4,_⟩:=yD hk e2
  simp_all
 refine My (Ze ?_ hle);have hat':(s'.heap.push (seqObj "list" acc.toList.toArray 0)).get? s'.heap.objs.size=af (seqObj "list" acc.toList.toArray 0):=Wf _ rfl;refine My (Xl (WY (s:={s' with heap:=s'.heap.push (seqObj "list" acc.toList.toArray 0)}) slot_list_sort ⟨_,hat',rfl⟩ entry_list_sort ?body (args_list_sort _)));have keep:Keeps s'.heap (s'.heap.push (seqObj "list" acc.toList.toArray 0)):=λb o e=>V9 _ e;refine uM (s:={s' with heap:=s'.heap.push (seqObj "list" acc.toList.toArray 0)}) (O:=jG) (κ:=tuples' ai) (key:=λi=>rs.getD i []) (h0:=s'.heap) keep (Heap.get?_none_of_le (Wc _)) hat' (by lia) (uR hal hnd) (λh1=>by lia) (λh2 h' Q' k q=>sZ at_ hne hal (by lia) k q h2) (λh' i j C k hi hj hC=>yj at_ k hi hj hC) λpm hp hu=>⟨_,rfl,V8 ⟨_,rfl,?_⟩⟩
 have hpz:=hp.size;have hperm:=X5.mp hp;simp only[g9]at hperm;have hpl:pm.toList.length=acc.toList.length:=by simpa using hpz
 have hmem:∀i∈pm.toList,i<acc.toList.length:=λi hi=>by simpa using hperm.mem_iff.mp hi
 obtain⟨e,he⟩:=sortedHeap_at (out:=pm.map λi=>acc.toList.getD i .none) hat'
 let adr:Nat->V:=λi=>match acc.toList.getD i .none with|.ref a=> .ref a|_=> .non
 have hadr:∀i,i<acc.toList.length->∃a,adr i= .ref a/\acc.toList.getD i .none= .ref a/\H' a=af (.tup ((rs.getD i []).map V.int)):=λi hi=>by
  obtain⟨a,o,xs,n,e1,_,_,_,_,e6⟩:=at2 i hi;have e7:acc.toList.getD i .none= .ref a:=by rw[Xc,e1];rfl
  exact⟨a,by show(match acc.toList.getD i .none with|.ref a=>V.ref a|_=> .non)=_;rw[e7],e7,e6⟩
 have I2:=I'.laid (h':=sortedHeap (s'.heap.push (seqObj "list" acc.toList.toArray 0)) s'.heap.objs.size acc.toList (pm.map λi=>acc.toList.getD i .none)) (t':=s'.toks) (a:=s'.heap.objs.size) (o:= .lst (pm.toList.map adr)) (λb o q=>?_) (Wc _) ?_
 ·refine⟨.ref s'.heap.objs.size,_,I2,rfl,q H' _ _ hH (I'.hok.fresh (Wc _)) ?_⟩;rw[←oF (its:=acc.toList) hal hp hu];refine o5 (by simp) λi h1 h2=>?_;simp only[Y7];have hil:i<pm.toList.length:=by simpa using h1
  obtain⟨a,e1,_,e3⟩:=hadr (pm.toList[i]) (hmem _ (XR hil));exact⟨a,e1,.inl (.inl e3),λz=>by cases z⟩
 ·have hlt:=Wg q;rw[sortedHeap_old (Wo hlt) (by rw[size_push'];exact X6 hlt)];exact V9 _ q
 ·refine⟨by simp_all,pm.toList.map λi=>acc.toList.getD i .none,e,?_,?_⟩
  ·have key:∀l:List Nat,(∀i∈l,i<acc.toList.length)->Vals (l.map adr) (l.map λi=>acc.toList.getD i .none):=by
    intro l
    induction l with
    |nil=>intro _;exact .nil|cons i l ih=>intro hl;obtain⟨a,e1,e2,_⟩:=hadr i (hl i (by simp));refine .cons ?_ (ih λj hj=>hl j (by simp[hj]));show RelV (adr i) (acc.toList.getD i .none);rw[e1,e2];rfl
   exact key _ hmem
  ·rw[he];congr 2;apply x8;simp
def HF:DT X "dict.items" (λx xs H Q=>∃d kvs,x= .ref d/\xs=[]/\H d=af (.dK kvs)/\∀v,H v=ah->Q (.ref v) (upd H v (.ext (qG v d)))):=by intro pins s σ H x xs v us Q I rx rv h;obtain⟨d,kvs,rfl,rfl,hq,q⟩:=h;cases rx;cases rv;obtain⟨hz,hs,vs,r,dd⟩:=m8 I.hok hq;have hat:(s.heap.push {cls:= .type "dict_items",data:= .fields #[.ref d]}).get? s.heap.objs.size=af {cls:= .type "dict_items",data:= .fields #[.ref d]}:=Wf _ rfl;refine call_meetsIn mS dd.typeIs PySem.F.entry_dict_items (PySem.F.args_dict_items_1 _) (meets_dict_items (aX X.prog X.w) d hs) ⟨⟨vs,dd⟩,?_⟩;refine⟨.ref s.heap.objs.size,_,I.laid (t':=s.toks) (o:= .ext (qG s.heap.objs.size d)) (λb o e=>V9 _ e) (Wc _) ?_,rfl,q _ (I.hok.fresh (Wc _))⟩;exact⟨⟨_,hat,rfl,rfl⟩,⟨_,hat⟩,λh1 h2 z k=>by obtain⟨o,e,y⟩:=z;exact⟨o,k o e,y⟩⟩
end
section
variable{X:Cx}{cl:Nat->List D->bq->Ev D}{a:bE}{a':E}{p pos apos cpos:Pos}
theorem vz:∀{kvs:List (Key×D)}{vs:List (Key×V)}{rs:List (List Int)},sM X.K m H kvs vs->iw kvs=af rs->(vs.map λp=> [kV p.1,p.2])=rs.map (·.map V.int)
 |[],[],rs,_,h=>by have e:[]=rs:=Wd h;subst e;rfl|p::ps,q::qs,rs,h,e=>by
  obtain⟨k,d⟩:=p;obtain⟨k',v⟩:=q;obtain⟨h1,h2,h3⟩:=h;have h1:k=k':=h1;subst h1;have h2:RD X.K m H d v:=h2;cases k with
  |inr x=>cases e|inl i=>
   cases d with
   |int j=>
    replace e:(match iw ps with|none=>ah|some t=>af ([i,j]::t))=af rs:=e;cases e2:iw ps with|none=>simp_all|some t=>rw[e2]at e;have e:=Wd e;subst e;have ev:=gx h2;subst ev;rw[Wh,Wh,vz h3 e2];rfl
   |_=>cases e
 |[],_::_,_,h,_=>h.elim|_::_,[],_,h,_=>h.elim
def fk.ext(h:∀b o,H b=af o->H' b=af o):fk m m H H':=
 ⟨⟨[],by simp⟩,λ_ _ _ n=>n,λ_ _ e=>h _ _ e,λ_ _ _ e=>h _ _ e,λ_ _ e _=>h _ _ e,λa e=>(by
  cases q:H a with
  |none=>rfl
  |some o=>simp_all),λ_ _ e=>h _ _ e⟩
theorem Rf(hc:X.calm=ai)(hg:Gl X "sorted")(hm:X.mg "sorted" =ah)(ho:JE X cl a a')(hbase:attributeBase a "items" X.env (eval a X.env)=eval a X.env)(hline:(apos.endLine==cpos.line)=ai):
  JE X cl (.Call (.Name "sorted" p) [.Call (.Attribute a "items" apos) [] [] cpos] [] pos) (.GI a'):=by
 refine PE.imp (gU (n8 hc) hg hm boot_sorted (cQ (Pn iE mS PySem.F.type_dict_items HF ho hbase hline) eZ rfl) (by decide) (by decide) rfl rfl) λσ H Q h=>?_;refine tM.el h λm r S er sr h=>?_;have h:tO X (rD X) (bnd (aj cl a' r S) λx S1=>qZ x S1) m r H Q:=h;refine⟨m,r,S,er,sr,h.bnd.mono λv H1 zz=>?_⟩;refine aN zz λm1 x S1 st1 e8 rx h1=>?_;cases x with
 |ref n=>
  cases e:S1[n]? with
  |none=>simp only[qZ,e]at h1;exact h1.elim|some o=>
   cases o with
   |dct kvs=>
    simp only[qZ,e]at h1;cases e2:iw kvs with
    |none=>rw[e2]at h1;exact h1.elim|some rs=>
     simp only[e2]at h1;by_cases h64:rs.Nodup/\rs.length<64
     ·rw[if_pos h64]at h1;refine⟨ty_dict e8 rx e,?_⟩;obtain⟨d,rfl,hk⟩:=bT rx;obtain⟨d',vs,g1,g2,g3⟩:=e8.dct e;rw[hk]at g1;have:d=d':=by simpa using g1
      subst this;refine⟨d,vs,rfl,rfl,g2,λw hw=>?_⟩;have dw:d≠w:=λz=>by lia
      refine⟨w,d,vs,rs,rfl,bh,by rw[aA dw];exact g2,vz g3 e2,h64,λH' l ws hH hl hR=>?_⟩;have hE:∀b o,H1 b=af o->H' b=af o:=λb o q=>hH b o (by rw[aA (λz=>by lia)];exact q);have st:fk m1 m1 H1 H':=fk.ext hE;have oj:=e8.keep st λb hb=>by
       cases q:H1 b with|none=>exact absurd q (e8.there hb)|some o=>exact hE b o q
      exact(dj oj (mj hR) (h1.step st)).2 l hl
     ·rw[if_neg h64]at h1;exact h1.elim
   |_=>simp only[qZ,e]at h1;exact h1.elim
 |_=>exact h1.elim
def Rg{st:List fT}:CD X cl st [.no]:=λpins s σ H D I h=>by obtain⟨m,r,S,er,sr,h⟩:=h;exact h.elim
end
end RK
namespace RK
open PySem L2 PySem.SeqAt PySem.Spec
def vA(K:aT)(xc:List (Str×List Str)):Prop:=∀c l,(c,l)∈xc->∃C,bP K mainGlobals c=af (af (.ref C))/\gp K C EG "ValueError.__new__" =ai/\CU K C/\eT K (.ref C) (.type "ValueError")=af (l.contains "ValueError")/\
 ∀d l',(d,l')∈xc->∀D,bP K mainGlobals d=af (af (.ref D))->eT K (.ref C) (.ref D)=af (l.contains d)/\fE K (.ref C) (.ref D)=af (l.contains d)
def Ue(X:Cx)(fns:List B9)(k:Nat)(cl:List (Str×List Str×List (Str×Nat×Nat))):Prop:=∀c fs ms,(c,fs,ms)∈cl->∃C,bP X.K mainGlobals c=af (af (.ref C))/\X.mg c=af (.ref C)/\Co X.K C/\(∀f∈fs,eY X.K C f)/\
 ∀m f np,ms.lookup m=af (f,np)->∃fa fd ps,Meth X.K C m fa/\ya X.prog X.w X.K X.mg X.base (A6 X.prog X.w) (2*k) fa fd ps (C9 X.K fns np k f)/\Binds X.K fd ps []/\(m= "__init__" ->Mk X.K C fa)
structure wm(X:Cx)(sx:Sx)(fns:List B9)(k:Nat):Prop where
 N:X.N=sx.N
 nd:sx.N.Nodup
 names:X.env.scope.names=sx.names
 kind:X.env.scope.kind= .function
 calm:X.calm=ai
 room:rj (2*k+1) X.A
 isDef:sx.isDef=ai->(∀x,X.fn x=ai)/\(sx.lp=ai->PassesOwn (model X.prog X.w) X.A X.env X.xe)/\X.stack=X.env::X.outer/\X.env.frame=af X.env.locals
 cl:Ue X fns k sx.cl
 fns:∀x f np,sx.fn.lookup x=af (f,np)->∃fa fd ps,ya X.prog X.w X.K X.mg X.base (A6 X.prog X.w) (2*k) fa fd ps (C9 X.K fns np k f)/\X.mg x=af (.ref fa)/\e9 X.K (.ref fa)=ai/\Binds X.K fd ps []
 blt:∀x∈sx.bl,X.mg x=ah
 ct:∀x i,sx.ct.lookup x=af i->∃u,X.mg x=af u/\∃t,u= .int i t
 xc:vA X.K sx.xc
 xm:∀c l C,(c,l)∈sx.xc->bP X.K mainGlobals c=af (af (.ref C))->X.mg c=af (.ref C)
section
variable{X:Cx}{sx:Sx}{fns:List B9}{k:Nat}
theorem wm.units(ok:wm X sx fns k):X.A.units+66<cLine:=by have:=ok.room.un;lia
def wm.gl(ok:wm X sx fns k)(h:sx.glob x=ai):Gl X x/\(x==("__debug__" :Str))=ay/\x≠ "__name__" :=by unfold Sx.glob at h;simp only[WT]at h;obtain⟨⟨h1,h2⟩,h3⟩:=h;refine⟨?_,by simpa using h2,by simpa using h3⟩;show X.env.scope.names.lookup x=af .globalImplicit;rw[ok.names];simpa using h1
def wm.bl(ok:wm X sx fns k)(h:sx.blt x=ai):Gl X x/\X.mg x=none:=by unfold Sx.blt at h;simp only[WT]at h;exact⟨(ok.gl h.1).1,ok.blt x (by simpa using h.2)⟩
def HH(ok:wm X sx fns k)(scope:Scope):(relabel scope X.env).names=Ao sx scope:=by
 unfold relabel Ao;have e:(X.env.scope.kind== .function)=true:=by rw[ok.kind];rfl
 have e2:∀n,X.env.kindOf n=sx.names.lookup n:=λn=>by show X.env.scope.names.lookup n=_;rw[ok.names]
 simp only[e,e2]
def HJ(ok:wm X sx fns k)(h:gZ sx tg scope=ai)(c:List (Str×aI))(C:aI)(s2:aE)(H2:Hp)(ex:List aI):
  wm (BU X scope c C (inner sx tg scope).N s2 H2 ex) (inner sx tg scope) fns k:=by
 unfold gZ at h;simp only[WT]at h;obtain⟨⟨⟨h1,h2⟩,h3⟩,h4⟩:=h;refine⟨rfl,WR h4,HH ok scope,(show scope.kind= .function by simpa using h1),ok.calm,ok.room,λz=>(by cases z),ok.cl,ok.fns,ok.blt,ok.ct,ok.xc,ok.xm⟩
def Mh(ok:wm X sx fns k)(h:gZ sx tg scope=ai)(hc:o8 sx.N (fK scope)=af cap):Ct X scope (inner sx tg scope).N (du 5 tg).length cap:=by
 unfold gZ at h;simp only[WT]at h;obtain⟨⟨⟨h1,h2⟩,h3⟩,h4⟩:=h;have h2':∀y∈scope.names,(y.2 != .cell && (y.2 != .local || scope.names.lookup y.1==af .local) && (y.2 != .free || (sx.names.lookup y.1==af .cell || sx.names.lookup y.1==af .free)))=true:=λy hy=>Xq.mp h2 y hy;obtain⟨g1,g2⟩:=vd hc;refine⟨by simpa using h1,λy hy hl=>?_,λy hy hl=>?_,λy hy hl=>?_,?_,λj i x hj hx=>?_⟩
 ·have q:=h2' y hy;lia
 ·have q:=h2' y hy;lia
 ·have q:=h2' y hy;simp only[WT]at q;have q:=q.2;rw[hl]at q;rw[ok.names];simpa using q
 ·show(du 5 tg++fK scope).length=_
  simp_all
 ·have hx:(du 5 tg++fK scope)[(du 5 tg).length+j]?=af x:=hx;rw[Wx (by exact WD ..),Nat.add_sub_cancel_left]at hx;refine⟨by rw[ok.N];exact g2 j i x hj hx,?_⟩;have:=Xq.mp h3 x (Xb hx);lia
theorem iC(ok:wm X sx fns k):∀n,(∀e t,CF sx n e=af t->JG X e t)/\(∀es ts,vh sx n es=af ts->LP X es ts/\(assignEach es X.env).length=ts.length/\(assignEach es X.env).findIdx? (·.1)=ah)
 |0=>⟨λe t h=>(by cases h),λes ts h=>(by cases h)⟩|n+1=>by
  obtain⟨ih1,ih2⟩:=iC ok n;refine⟨λe t h=>?_,λes ts h=>?_⟩
  ·cases e with
   |Name x p=>
    replace h:(if sx.names.lookup x=af .local\/(sx.isDef=ai/\sx.names.lookup x=af .cell)then(idx sx.N x).map Tg.name else ah)=af t:=h;by_cases hx:sx.names.lookup x=af .local\/(sx.isDef=ai/\sx.names.lookup x=af .cell)
    ·rw[if_pos hx]at h;obtain⟨i,e1,e2⟩:=cG h;subst e2;have hN:X.N[i]?=af x:=by rw[ok.N];exact jL e1
     rcases hx with hx|⟨hd,hx⟩
     ·exact rn (by rw[ok.N];exact ok.nd) hN (.inl (by rw[ok.names];exact hx)) (.inr (by rw[ok.names];exact hx))
     ·exact rn (by rw[ok.N];exact ok.nd) hN (.inr (by rw[ok.names];exact hx)) (.inl ((ok.isDef hd).1 x))
    lia
   |Tuple es kk p=>obtain⟨ts,e1,e2⟩:=cG (show(vh sx n es).map Tg.tup=af t from h);subst e2;obtain⟨h1,h2,h3⟩:=ih2 es ts e1;exact QQ ok.calm h1 h2 h3
   |_=>cases h
  ·unfold vh at h;split at h
   ·have e2:ts=[]:=by simpa using h
    subst e2;exact⟨Lj,rfl,rfl⟩
   ·rename_i e r;obtain⟨t,ts',e1,e2,e3⟩:=bQ h;subst e3;obtain⟨h1,h2,h3⟩:=ih2 r ts' e2;have hs:assignEach (e::r) X.env=(ay,assign e X.env)::assignEach r X.env:=by
     cases n with
     |zero=>cases e1|succ n=>cases e<;>first|rfl|cases e1
    refine⟨Hd (ih1 e t e1) h1 (by rw[hs];rfl),by rw[hs];simp[h2],?_⟩
    grind
theorem bU(h:cE n sx e=af e')(es:List bE)(env:Env):starEach (e::es) env=(ay,eval e env)::starEach es env:=by
 cases n with
 |zero=>cases h|succ n=>cases e<;>first|rfl|cases h
theorem fL:∀{n:Nat}{es:List bE}{es':List E},Au n sx es=af es'->∀env,(starEach es env).all (λx=>!x.1)=ai
 |0,es,es',h,env=>by cases h|n+1,[],es',h,env=>rfl|n+1,e::r,es',h,env=>by unfold Au at h;obtain⟨e'',r',e1,e2,_⟩:=bQ h;rw[bU e1];simp[fL e2 env]
def g8(h:l.all (λx=>!x.1)=ai):(backTo pos l).any (·.1)=false:=by
 unfold backTo
 simp_all
def pq(h:l.all (λx=>!x.1)=ai):(backTo pos l).all (λx=>!x.1)=true:=by unfold backTo;rw[List.all_map];exact h
theorem gC(h:Au n sx es=af (a'::as')):∃m a r,n=m+1/\es=a::r/\cE m sx a=af a'/\Au m sx r=af as':=by
 cases n with
 |zero=>cases h|succ m=>
  unfold Au at h;cases es with
  |nil=>simp at h|cons e r=>
   obtain⟨e',r',e1,e2,e3⟩:=bQ h;injection e3 with e4 e5
   subst e4;subst e5;exact⟨m,e,r,rfl,rfl,e1,e2⟩
def L6(hc:X.calm=ai)(hu:X.A.units+66<cLine)(h:jN x=af f):(∃id,bootBuiltins x=af (.builtin id)/\bj X (.builtin id) (E3 X f))\/∃T,bootBuiltins x=af (.type T)/\bj X (.type T) (E3 X f):=by
 unfold jN at h;split at h
 ·rename_i e;subst e;have:Bi.len=f:=by simpa using h
  subst this;exact .inl ⟨"len",PySem.boot_len,PL⟩
 ·split at h
  ·rename_i e;subst e;have:Bi.min=f:=by simpa using h
   subst this;exact .inl ⟨"min",PyProof.Rows.boot_min,Q8 hc hu⟩
  ·split at h
   ·rename_i e;subst e;have:Bi.max=f:=by simpa using h
    subst this;exact .inl ⟨"max",PyProof.Rows.boot_max,Q9 hc hu⟩
   ·split at h
    ·rename_i e;subst e;have:Bi.abs=f:=by simpa using h
     subst this;exact .inl ⟨"abs",PyProof.Rows.boot_abs,PN⟩
    ·split at h
     ·rename_i e;subst e;have:Bi.int=f:=by simpa using h
      subst this;exact .inr ⟨"int",PyProof.Rows.boot_int,PP⟩
     ·cases h
def Ug(h:jM x=af t):bootBuiltins x=af (.type (uT t)):=by
 unfold jM at h
 repeat' split at h
 all_goals first
  |(rename_i e;subst e;have e':=Wd h;subst e';decide+kernel)|cases h
end
def Rh{C D:aI}(h:bP K mainGlobals x=af (af (.ref C)))(h':bP K mainGlobals x=af (af (.ref D))):C=D:=by lia
def DQ(h:c∈qD sx y):∃l,(c,l)∈sx.xc/\l.contains y=true:=by
 unfold qD at h
 simp_all
structure XH(X:Cx)(sx:Sx):Prop where
 N:X.N=sx.N
 nd:sx.N.Nodup
 names:X.env.scope.names=sx.names
def wm.hand{fns:List B9}(ok:wm X sx fns k)(e:av):XH (jg X e) sx:=⟨ok.N,ok.nd,ok.names⟩
section
variable{X:Cx}{sx:Sx}{cl:Nat->List D->bq->Ev D}
theorem DR(h:OR e=af e'):JE X cl e e'/\∀t l env,swapsWith e t l env=pure false:=by
 cases e with
 |Constant c j p=>
  refine⟨?_,λ_ _ _=>rfl⟩;have h:qC c=af e':=h;cases c with|int i=>have e:=Wd h;subst e;exact CP|bool b=>have e:=Wd h;subst e;exact Jy|none=>have e:=Wd h;subst e;exact CQ|str x=>have e:=Wd h;subst e;exact CT|_=>cases h
 |_=>cases h
theorem Ri(ok:XH X sx)(h:OS sx st=af c):JS X cl st c:=by
 cases st with
 |Assign ts e pos=>
  cases ts with
  |nil=>cases h|cons tg r=>
   cases r with
   |cons _ _=>cases h|nil=>
    replace h:(match nameOf tg with|none=>ah|some x=>if sx.names.lookup x=af .local then aU (λi e'=>C.asg (.name i) e') (idx sx.N x) (OR e)else ah)=af c:=h;cases q:nameOf tg with
    |none=>simp_all|some x=>
     rw[q]at h;obtain⟨xp,rfl⟩:=jt q;by_cases hx:sx.names.lookup x=af .local
     ·simp only[if_pos hx]at h;obtain⟨i,e',h1,h2,ec⟩:=bQ h;subst ec;exact qx (DR (X:=X) h2).1 (rn (by rw[ok.N];exact ok.nd) (by rw[ok.N];exact jL h1) (.inl (by rw[ok.names];exact hx)) (.inr (by rw[ok.names];exact hx))) ((DR (X:=X) (cl:=cl) h2).2 (af (.Name x xp)) pos.line X.env) rfl rfl
     lia
 |_=>cases h
theorem DW(ok:XH X sx):∀{ss:List fT}{cs:List C},rA sx ss=af cs->CD X cl ss cs
 |[],cs,h=>by have e:=Wd h;subst e;exact yq|s::r,cs,h=>by obtain⟨a',b',h1,h2,e'⟩:=bQ (show aU (λs' r'=>s'::r') (OS sx s) (rA sx r)=af cs from h);subst e';exact uW (Ri ok h1) (DW ok h2)
end
end RK
namespace RK
open PySem
def D0(xs:Array Nat):Prop:=xs.toList.Pairwise (·<·)
def D0.lt(h:D0 xs)(hij:i<j)(hj:j<xs.size):xs[i]'(Ye hij hj)<xs[j]:=by have:=List.pairwise_iff_getElem.mp h i j (by simp;exact Ye hij hj) (by simpa using hj) hij;simpa using this
theorem pA(h:D0 xs)(j:Nat):∀(fuel lo hi:Nat),hi<=xs.size->hi - lo<=fuel->lo<=hi->(∀i (h':i<xs.size),i<lo->xs[i]<j)->(∀i (h':i<xs.size),hi<=i->j<=xs[i])->
  (SetTable.below.go xs j fuel lo hi<=xs.size)/\(∀i (h':i<xs.size),i<SetTable.below.go xs j fuel lo hi->xs[i]<j)/\∀i (h':i<xs.size),SetTable.below.go xs j fuel lo hi<=i->j<=xs[i]
 |0,lo,hi,h1,h2,h3,ha,hb=>by
  have:lo=hi:=by lia
  subst this;unfold SetTable.below.go;exact⟨h1,ha,hb⟩
 |fuel+1,lo,hi,h1,h2,h3,ha,hb=>by
  unfold SetTable.below.go;by_cases hlt:lo<hi
  ·rw[if_pos hlt];have hm:(lo+hi)/2<xs.size:=by lia
   have eg:xs.getD ((lo+hi)/2) j=xs[(lo+hi)/2]:=by simp[ku,hm]
   simp only[eg];by_cases hx:xs[(lo+hi)/2]<j
   ·rw[if_pos hx];refine pA h j fuel _ hi h1 (by lia) (by lia) (λi hi' hlo=>?_) hb;by_cases e:i=(lo+hi)/2
    ·subst e;exact hx
    ·exact Ye (h.lt (by lia) hm) hx
   ·rw[if_neg hx];refine pA h j fuel lo _ (Xg hm) (by lia) (by lia) ha λi hi' hge=>?_;by_cases e:i=(lo+hi)/2
    ·subst e;lia
    ·have:=h.lt (i:=(lo+hi)/2) (j:=i) (by lia) hi';lia
  ·rw[if_neg hlt];have:lo=hi:=by lia
   subst this;exact⟨h1,ha,hb⟩
def vB(h:D0 xs)(j:Nat):SetTable.below xs j<=xs.size/\(∀i (hi:i<xs.size),i<SetTable.below xs j->xs[i]<j)/\∀i (hi:i<xs.size),SetTable.below xs j<=i->j<=xs[i]:=
 pA h j xs.size 0 xs.size (Wc _) (Wc _) (WP _) (λi _ hi=>absurd hi (by simp)) (λi hi hge=>absurd hge (by lia))
def kZ(h:D0 xs)(hp:p<=xs.size)(h1:∀i (hi:i<xs.size),i<p->xs[i]<j)(h2:∀i (hi:i<xs.size),p<=i->j<=xs[i]):SetTable.below xs j=p:=by
 obtain⟨b0,b1,b2⟩:=vB h j;rcases Nat.lt_trichotomy (SetTable.below xs j) p with z|z|z
 ·have:=h1 (SetTable.below xs j) (Wa z hp) z;have:=b2 (SetTable.below xs j) (Wa z hp) (Wc _);lia
 ·exact z
 ·have:=b1 p (Wa z b0) z;have:=h2 p (Wa z b0) (Wc _);lia
def DX(h:D0 xs)(hj:j∉xs.toList):D0 (SetTable.insertAt xs (SetTable.below xs j) j):=by
 obtain⟨b0,b1,b2⟩:=vB h j;unfold D0;rw[SetTable.toList_insertAt];rw[Yw];have hx:∀{a:Nat},a∈xs.toList.take (SetTable.below xs j)->a<j:=λ{a} ha=>by
  obtain⟨i,hi,e⟩:=YD ha;rw[YG]at hi;have hs:i<xs.size:=by simp at hi;lia
  have:=b1 i hs (by lia);simp at e;lia
 have hy:∀{a:Nat},a∈xs.toList.drop (SetTable.below xs j)->j<a:=λ{a} ha=>by
  obtain⟨i,hi,e⟩:=YD ha;rw[Zy]at hi;have hs:SetTable.below xs j+i<xs.size:=by simp at hi;lia
  have:=b2 _ hs (WD ..);rw[List.getElem_drop]at e;simp at e;rcases sj this with z|z
  ·lia
  ·exact absurd (List.mem_of_mem_drop ha) (by rw[←e,←z]at*;exact hj)
 refine⟨h.sublist (nv _ _),?_,λa ha c hc=>?_⟩
 ·exact WQ.mpr ⟨λa ha=>hy ha,h.sublist (List.drop_sublist _ _)⟩
 ·rcases We.mp hc with rfl|hc
  ·exact hx ha
  ·exact Ye (hx ha) (hy hc)
def Mi{t:SetTable}(hu:D0 t.place)(h:j∈t.place.toList):∃i,t.slot j= .live i:=by
 obtain⟨i,hi,e⟩:=YD h;have hs:i<t.place.size:=by simpa using hi
 have ej:t.place[i]=j:=by simpa using e
 have hb:SetTable.below t.place j=i:=kZ hu (Xg hs) (λk hk hlt=>by have:=hu.lt hlt hs;lia) λk hk hge=>by
  rcases sj hge with z|z
  ·have:=hu.lt z hk;lia
  ·subst z;lia
 refine⟨i,?_⟩;unfold SetTable.slot;simp only[hb,Yt hs,ej,beq_self_eq_true,if_true]
def HN{t:SetTable}(hd:t.dummies= #[])(h:j∉t.place.toList):t.slot j= .empty:=by
 unfold SetTable.slot SetTable.has;rw[hd];have e:(t.place[SetTable.below t.place j]?==af j)=false:=by
  cases e:t.place[SetTable.below t.place j]? with
  |none=>rfl|some y=>
   have hy:y∈t.place.toList:=by rw[←Yd]at e;exact Xb e
   have:y≠j:=λz=>h (z▸hy);simpa using this
 simp only[e,Wt,Xd];simp
def L7(m:Nat)(p:SetTable.Probe):SetTable.Probe:=if p.more>0 then {p with j:=p.j+1,more:=p.more - 1}else {p with j:=(SetTable.leap m p.i p.perturb).1,more:=SetTable.runEnd m (SetTable.leap m p.i p.perturb).1 - (SetTable.leap m p.i p.perturb).1,i:=(SetTable.leap m p.i p.perturb).1,perturb:=(SetTable.leap m p.i p.perturb).2}
def HV(m:Nat):Nat->SetTable.Probe->List Nat
 |0,_=> []|n+1,p=>p.j::HV m n (L7 m p)
theorem yE(hd:t.dummies= #[])(hu:D0 t.place)(hf:∀i,(f i==h)=ay):∀(n fuel:Nat)(p:SetTable.Probe),p.dummy=ah->n<=fuel->(∃j∈HV t.mask n p,j∉t.place.toList)->
  ∃j∈HV t.mask n p,j∉t.place.toList/\SetTable.probe.go t f h fuel p=af (.empty j ah)
 |0,_,_,_,_,⟨j,hj,_⟩=>absurd hj (by simp[HV])|n+1,0,_,_,hn,_=>by lia|n+1,fuel+1,p,hp,hn,⟨j,hj,hj2⟩=>by
  by_cases hin:p.j∈t.place.toList
  ·obtain⟨i,hs⟩:=Mi hu hin;have ha:t.advance p=L7 t.mask p:=rfl;have hj':j∈HV t.mask n (L7 t.mask p):=by
    rcases We.mp hj with z|z
    ·exact absurd (z▸hin) hj2
    ·exact z
   obtain⟨j2,a1,a2,a3⟩:=yE hd hu hf n fuel (L7 t.mask p) (by unfold L7;split<;>exact hp) (Zn hn) ⟨j,hj',hj2⟩;refine⟨j2,Yh _ a1,a2,?_⟩;unfold SetTable.probe.go;simp only[hs,hf i,Wt,Xd,ha];exact a3
  ·refine⟨p.j,ly,hin,?_⟩;unfold SetTable.probe.go;simp only[HN hd hin,hp]
def EX:List Nat->List Nat
 |[]=> []|x::r=>if x∈r then EX r else x::EX r
theorem nP:∀{ns:List Nat}{v:Nat},v∈EX ns ↔ v∈ns
 |[],v=>Iff.rfl|x::r,v=>by
  unfold EX;split
  ·rename_i h;rw[nP,We];exact⟨.inr,λz=>z.elim (λe=>e▸h) id⟩
  ·rw[We,We,nP]
theorem vC:∀(ns:List Nat),(EX ns).Nodup
 |[]=> .nil|x::r=>by
  unfold EX;split
  ·exact vC r
  ·rename_i h;exact Xo.mpr ⟨λz=>h (nP.mp z),vC r⟩
theorem Rj:∀{l P:List Nat},l.Nodup->(∀x∈l,x∈P)->l.length<=P.length
 |[],_,_,_=>WP _|x::l,P,nd,h=>by have nd:=Xo.mp nd;have hx:=h x (by simp);have:=Rj (l:=l) (P:=P.erase x) nd.2 λy hy=>(ko (show y≠x from λe=>nd.1 (e▸hy))).mpr (h y (by simp[hy]));rw[gS hx]at this;have:=iP hx;simp only[Wl];lia
def yF{l P:List Nat}(h:P.length<(EX l).length):∃j∈l,j∉P:=by refine Ys λz=>?_;have hs:∀x∈EX l,x∈P:=λx hx=>Ys λw=>z ⟨x,nP.mp hx,w⟩;have:=Rj (vC l) hs;lia
def MZ(m n c h:Nat):Bool:=decide (c<(EX (HV m n ⟨h % (m+1),SetTable.runEnd m (h % (m+1)) - h % (m+1),h % (m+1),h,ah⟩)).length) && (HV m n ⟨h % (m+1),SetTable.runEnd m (h % (m+1)) - h % (m+1),h % (m+1),h,ah⟩).all λj=>decide (j<=m)
def VN:(bX 128).all (MZ 7 6 4)=true:=by decide+kernel
def Uh:(bX 128).all (MZ 31 12 7)=true:=by decide+kernel
def tE{t:SetTable}{n c:Nat}(hd:t.dummies= #[])(hu:D0 t.place)(hc:(bX 128).all (MZ t.mask n c)=ai)(hs:t.place.size<=c)(hn:n<=10*SetTable.turns t.mask){h:Nat}(hh:h<128):∃j,t.freeSlot (h:Int)=af (j,ay)/\j<=t.mask/\j∉t.place.toList:=by
 have hb:SetTable.bits (h:Int)=h:=by unfold SetTable.bits;lia
 have hc:=Xq.mp hc h (Xy.mpr hh);unfold MZ at hc;rw[WT,Zq,Xq]at hc;obtain⟨j,a1,a2,a3⟩:=yE (f:=λ_=>(h:Int)+1) (h:=(h:Int)) hd hu (λi=>by simp;lia) n (10*SetTable.turns t.mask) _ rfl hn (yF (P:=t.place.toList) (Wv (by simpa using hs) hc.1));refine⟨j,?_,WR (hc.2 j a1),a2⟩;unfold SetTable.freeSlot SetTable.probe SetTable.probeStart;simp only[hb,a3];rfl
structure BG(m:Nat)(t:SetTable)(es:Array (Int×av))(led:Bool):Prop where
 pl:t.plain=ai
 ld:t.led=led
 dm:t.dummies= #[]
 sz:t.place.size=es.size
 up:D0 t.place
 ok:(t.mask=7/\es.size<=m)\/t.mask=31
 hv:∀e∈es.toList,(0<=e.1/\e.1<128)/\∃tk,e.2= .int e.1 tk
 nd:(es.toList.map (·.1)).Nodup
 le:es.size<=7
theorem BG.fits(T:BG m t es led)(hm:m<=5):t.fits es.size=true:=by have:=T.le;unfold SetTable.fits SetTable.fill;rw[T.sz,T.dm];rcases T.ok with⟨h1,h2⟩|h1<;>rw[h1]<;>simp<;>lia
def Ba{α:Type}{xs:Array α}{p:Nat}{x y:α}:y∈(SetTable.insertAt xs p x).toList ↔ y∈xs.toList\/y=x:=by rw[(SetTable.insertAt_perm xs p x).mem_iff,Zo,Xa,XM]
def oH(xs:Array α)(p:Nat)(x:α):(SetTable.insertAt xs p x).size=xs.size+1:=by rw[←Xh,(SetTable.insertAt_perm xs p x).length_eq,Zo,WK,Xh];rfl
def Mj{t:SetTable}{es:Array (Int×av)}{led:Bool}(T:BG 4 t es led)(hl:es.size<=6){h:Nat}(hh:h<128)(hn:(h:Int)∉es.toList.map (·.1))(tk:Tok):
  ∃es1 t1,layNew t es (h:Int) (.int h tk)=(es1,t1,ay,ay)/\BG 5 t1 es1 led/\es1.size=es.size+1/\∀v,v∈es1.toList.map (·.1) ↔ v∈es.toList.map (·.1)\/v=(h:Int):=by
 obtain⟨j,hf,hj⟩:∃j,t.freeSlot (h:Int)=af (j,ay)/\j∉t.place.toList:=by
  rcases T.ok with⟨h1,h2⟩|h1
  ·obtain⟨j,a1,_,a2⟩:=tE (n:=6) (c:=4) T.dm T.up (by rw[h1];exact VN) (by rw[T.sz];exact h2) (by rw[h1];decide) hh;exact⟨j,a1,a2⟩
  ·obtain⟨j,a1,_,a2⟩:=tE (n:=12) (c:=7) T.dm T.up (by rw[h1];exact Uh) (by rw[T.sz];exact T.le) (by rw[h1];decide) hh;exact⟨j,a1,a2⟩
 have hdm:SetTable.has t.dummies j=false:=by rw[T.dm];unfold SetTable.has;simp
 obtain⟨t1,HZ⟩:∃t1:SetTable,t1={t with place:=SetTable.insertAt t.place (SetTable.below t.place j) j}:=⟨_,rfl⟩
 obtain⟨es1,E7⟩:∃es1,es1=SetTable.insertAt es (SetTable.below t.place j) ((h:Int),Value.int h tk):=⟨_,rfl⟩
 have OX:t.put j=(t1,SetTable.below t.place j):=by unfold SetTable.put;rw[hdm,HZ];simp
 have hs1:es1.size=es.size+1:=by rw[E7,oH]
 have hmem:∀e,e∈es1.toList ↔ e∈es.toList\/e=((h:Int),Value.int h tk):=λe=>by rw[E7,Ba]
 have T1:BG 5 t1 es1 led:=by
  refine⟨by rw[HZ];exact T.pl,by rw[HZ];exact T.ld,by rw[HZ];exact T.dm,by rw[HZ,hs1];simp only[oH,T.sz],by rw[HZ];exact DX T.up hj,?_,λe he=>?_,?_,by lia⟩
  ·rw[HZ];exact T.ok.imp (λz=>⟨z.1,by lia⟩) id
  ·rcases(hmem e).mp he with z|rfl
   ·exact T.hv e z
   ·exact⟨⟨by simp,by simp;lia⟩,tk,rfl⟩
  ·have hp:=(SetTable.insertAt_perm es (SetTable.below t.place j) ((h:Int),Value.int h tk)).map (·.1);rw[←E7]at hp;rw[hp.nodup_iff,Zo,ZG];exact Xu.mpr ⟨T.nd,by simp,λa ha c hc=>by
    have:c=(h:Int):=by simpa using hc
    subst this;exact λz=>hn (z▸ha)⟩
 refine⟨es1,t1,?_,T1,hs1,λv=>?_⟩
 ·unfold layNew;rw[hf];simp only[OX,←E7];have hfit:=T1.fits (Wc _);unfold SetTable.orStandIn;rw[hfit];simp
 ·rw[Wn,Wn];constructor
  ·rintro⟨e,he,rfl⟩;rcases(hmem e).mp he with z|rfl
   ·exact .inl ⟨e,z,rfl⟩
   ·exact .inr rfl
  ·rintro(⟨e,he,rfl⟩|rfl)
   ·exact⟨e,(hmem e).mpr (.inl he),rfl⟩
   ·exact⟨_,(hmem _).mpr (.inr rfl),rfl⟩
def cP(ps:List Nat):Array (Option Nat):=((bX 32).map λ(j:Nat)=>ps.findIdx? λv=>v==j).toArray
def AG(hj:j<32):(cP ps)[j]?=af (ps.findIdx? λv=>v==j):=by simp[cP,hj]
def pB(ps:List Nat):(cP ps).size=32:=by simp[cP]
def pC{ps:List Nat}(h:v∉ps):(ps.findIdx? λx=>x==v)=none:=List.findIdx?_eq_none_iff.mpr λx hx=>by have:x≠v:=λz=>h (z▸hx);simpa using this
def pD{ps:List Nat}(nd:ps.Nodup)(hi:i<ps.length):(ps.findIdx? λx=>x==ps[i])=af i:=
 Yp.mpr ⟨hi,by simp,λj hj=>by
  have:ps[j]≠ps[i]:=λz=>by have:=(Zw nd).mp z;lia
  simpa using this⟩
def HQ(hh:h<32)(hn:h∉pre):(cP pre).setIfInBounds h (af pre.length)=cP (pre++ [h]):=by
 apply Array.ext_getElem?;intro j;rw[Array.getElem?_setIfInBounds];by_cases e:h=j
 ·subst e;rw[if_pos rfl,if_pos (by rw[pB];exact hh),AG hh,qA,pC hn];simp
 ·rw[if_neg e];by_cases hj:j<32
  ·rw[AG hj,AG hj,qA];simp[List.findIdx?_cons,e]
  ·rw[YJ (by rw[pB];lia),YJ (by rw[pB];lia)]
def Ic(m:Nat):Nat->Nat->Nat->List Nat
 |0,_,_=> []|n+1,i,pt=>((bX (SetTable.runEnd m i+1 - i)).map λk=>i+k)++Ic m n (SetTable.leap m i pt).1 (SetTable.leap m i pt).2
theorem yG:∀(n fuel i pt:Nat),n<=fuel->(∃j∈Ic 31 n i pt,(owner.getD j (af 0)).isNone=ai)->∃j∈Ic 31 n i pt,(owner.getD j (af 0)).isNone=ai/\SetTable.layClean.free 31 owner fuel i pt=af j
 |0,_,_,_,_,⟨j,hj,_⟩=>absurd hj (by simp[Ic])|n+1,0,_,_,hn,_=>by lia|n+1,fuel+1,i,pt,hn,⟨j,hj,hj2⟩=>by
  unfold SetTable.layClean.free;cases e:(bX (SetTable.runEnd 31 i+1 - i)).find? λk=>(owner.getD (i+k) (af 0)).isNone with
  |some k=>exact⟨i+k,Yi _ (XS (gy e)),by have:=qk e;exact this,rfl⟩|none=>
   have hj':j∈Ic 31 n (SetTable.leap 31 i pt).1 (SetTable.leap 31 i pt).2:=by
    rcases Xa.mp hj with z|z
    ·obtain⟨k,hk,rfl⟩:=Wn.mp z;exact absurd hj2 (Zj.mp e k hk)
    ·exact z
   obtain⟨j2,a1,a2,a3⟩:=yG n fuel _ _ (Zn hn) ⟨j,hj',hj2⟩;exact⟨j2,WM _ a1,a2,a3⟩
def Rk(h:Nat):Bool:=decide (4<(EX (Ic 31 6 (h % 32) h)).length) && (Ic 31 6 (h % 32) h).all λj=>decide (j<32)
def HR:(bX 128).all Rk=true:=by decide+kernel
def DY{hs:List Int}(hv:∀v∈hs,0<=v/\v<128)(h5:hs.length<=5):∃ps:List Nat,ps.length=hs.length/\ps.Nodup/\(∀j∈ps,j<32)/\SetTable.layClean 31 hs.toArray=af (cP ps):=by
 unfold SetTable.layClean;rw[←Array.foldl_toList];have key:∀(l:List Int)(ps:List Nat),(∀v∈l,0<=v/\v<128)->ps.length+l.length<=5->ps.Nodup->(∀j∈ps,j<32)->∃ps':List Nat,ps'.length=ps.length+l.length/\ps'.Nodup/\(∀j∈ps',j<32)/\(List.foldl (λacc h=>do
   let(owner,k) ←acc
   let j ←SetTable.layClean.free 31 owner (SetTable.turns 31) (SetTable.bits h % (31+1)) (SetTable.bits h)
   pure (owner.setIfInBounds j (af k),k+1)) (af (cP ps,ps.length)) l)=af (cP ps',ps'.length):=by
  intro l
  induction l with
  |nil=>exact λps _ _ nd OY=>⟨ps,rfl,nd,OY,rfl⟩|cons v l ih=>
   intro ps hv hl nd OY;have hr:=hv v (by simp);obtain⟨h,eh⟩:∃h:Nat,v=(h:Int):=⟨v.toNat,by lia⟩
   subst eh;have hb:SetTable.bits (h:Int)=h:=by unfold SetTable.bits;lia
   have hc:=Xq.mp HR h (Xy.mpr (by lia));unfold Rk at hc;rw[WT,Zq,Xq]at hc;have non:∀j,j<32->(((cP ps).getD j (af 0)).isNone=ai ↔ j∉ps):=λj hj=>by
    rw[jI,AG hj];constructor
    ·intro z w;obtain⟨i,hi,rfl⟩:=YD w;rw[kq,pD nd hi]at z;cases z
    ·intro z;rw[kq,pC z];rfl
   simp only[Wl]at hl;obtain⟨j0,c1,c2⟩:=yF (P:=ps) (Wv (by lia) hc.1);obtain⟨j,a1,a2,a3⟩:=yG (owner:=cP ps) 6 (SetTable.turns 31) (h % 32) h (by decide) ⟨j0,c1,(non j0 (WR (hc.2 j0 c1))).mpr c2⟩;have hj:=WR (hc.2 j a1);have hjn:=(non j hj).mp a2;obtain⟨ps',b1,b2,b3,b4⟩:=ih (ps++ [j]) (λv hv'=>hv v (by simp[hv'])) (by simp;lia) (Xu.mpr ⟨nd,by simp,λa ha c hc=>by
    rw[XM.mp hc];exact λz=>hjn (z▸ha)⟩) (λi hi=>by
    rcases Xa.mp hi with z|z
    ·exact OY i z
    ·rw[XM.mp z];exact hj)
   refine⟨ps',by rw[b1];simp;lia,b2,b3,?_⟩;rw[wo];have:(do
     let(owner,k) ←(af (cP ps,ps.length):Option (Array (Option Nat)×Nat))
     let j ←SetTable.layClean.free 31 owner (SetTable.turns 31) (SetTable.bits (h:Int) % (31+1)) (SetTable.bits (h:Int))
     pure (owner.setIfInBounds j (af k),k+1))=af (cP (ps++ [j]),(ps++ [j]).length):=by
    show(SetTable.layClean.free 31 (cP ps) (SetTable.turns 31) (SetTable.bits (h:Int) % (31+1)) (SetTable.bits (h:Int))).bind _=_;rw[hb,a3];show af ((cP ps).setIfInBounds j (af ps.length),ps.length+1)=_;rw[HQ hj hjn];simp
   rw[this];exact b4
 have e0:(Array.replicate (31+1) (ah:Option Nat))=cP []:=by decide
 obtain⟨ps,b1,b2,b3,b4⟩:=key hs [] hv (by simpa using h5) .nil (by simp);refine⟨ps,by simpa using b1,b2,b3,?_⟩;rw[e0];simp only[g9];rw[show(0:Nat)=([]:List Nat).length from rfl,b4];rfl
def Ml(T:BG 5 t es led)(h5:es.size=5):
  ∃es2 t2,relayAll t es (SetTable.grown es.size)=(es2,t2,ay)/\BG 4 t2 es2 led/\es2.size=es.size/\∀v,v∈es2.toList.map (·.1) ↔ v∈es.toList.map (·.1):=by
 obtain⟨ps,pl,nd,X0,Iq⟩:=DY (hs:=es.toList.map (·.1)) (λv hm=>by
  obtain⟨e,he,rfl⟩:=Wn.mp hm;exact(T.hv e he).1) (by simp;exact kX h5)
 have pl:ps.length=es.size:=by simpa using pl
 obtain⟨idx,OZ⟩:∃idx:Nat->Nat,idx=λv=>(ps.findIdx? λx=>x==v).getD 0:=⟨_,rfl⟩
 have hidx:∀i (hi:i<ps.length),idx ps[i]=i:=λi hi=>by rw[OZ];simp only[pD nd hi,kq]
 obtain⟨P,eP⟩:∃P:List Nat,P=(bX 32).filter λ(j:Nat)=>decide (j∈ps):=⟨_,rfl⟩
 have Pm:∀j,j∈P ↔ j∈ps:=λj=>by rw[eP,Wz,decide_eq_true_iff,Xy];exact⟨λz=>z.2,λz=>⟨X0 j z,z⟩⟩
 have Pu:P.Pairwise (·<·):=by rw[eP];exact List.pairwise_lt_range.sublist Ym
 have Pp:P.Perm ps:=(kH (Pu.imp λ{a c} z=>Wo z) nd).mpr Pm;have hlive:((bX (31+1)).filterMap λj=>((cP ps).getD j ah).map (j,·))=P.map λ(j:Nat)=>(j,idx j):=by
  rw[eP];have key:∀l:List Nat,(∀j∈l,j<32)->(l.filterMap λj=>((cP ps).getD j ah).map (j,·))=(l.filter λ(j:Nat)=>decide (j∈ps)).map λ(j:Nat)=>(j,idx j):=by
   intro l
   induction l with
   |nil=>intro _;rfl|cons j l ih=>
    intro hlt;have e1:(cP ps).getD j ah=ps.findIdx? λx=>x==j:=by rw[jI,AG (hlt j (by simp))];rfl
    by_cases hm:j∈ps
    ·obtain⟨i,hi,e⟩:=YD hm;rw[Y9 (by simpa using hm),Wh,←ih λj hj=>hlt j (by simp[hj])];have e2:(ps.findIdx? λx=>x==j)=af i:=by rw[←e];exact pD nd hi
     have e3:idx j=i:=by rw[←e];exact hidx i hi
     simp only[Y8,e1,e2,XJ,e3]
    ·rw[iF (by simpa using hm),←ih λj hj=>hlt j (by simp[hj])];simp only[Y8,e1,pC hm,qE]
  exact key _ λj hj=>Xy.mp hj
 have YA:SetTable.sizeAbove (SetTable.grown es.size) - 1=31:=by rw[h5];decide
 obtain⟨t2,IG⟩:∃t2:SetTable,t2={mask:=31,place:=P.toArray,dummies:= #[],finger:=t.finger,led:=t.led,moves:=t.movedTo 31,plain:=t.plain}:=⟨_,rfl⟩
 have hlaid:t.relaid (es.map (·.1)) (SetTable.grown es.size)=af (t2,(P.map idx).toArray):=by
  unfold SetTable.relaid SetTable.laid;rw[YA];have e:es.map (·.1)=(es.toList.map (·.1)).toArray:=by apply x8;simp
  rw[e,Iq];show af _=_;rw[hlive,IG];simp[X7]
 have L8:(P.map idx).Perm (bX es.size):=by
  have e1:ps.map idx=bX es.size:=by refine ow (by simp[pl]) λi h1 h2=>?_;rw[Y7,hidx i (by simpa using h1),List.getElem_range]
  rw[←e1];exact Pp.map idx
 obtain⟨es2,Mb⟩:∃es2:Array (Int×av),es2=(P.map idx).toArray.filterMap (es[·]?):=⟨_,rfl⟩
 have M0:es2.toList.Perm es.toList:=by
  rw[Mb,Array.toList_filterMap];refine(L8.filterMap _).trans (qf ?_);refine List.ext_getElem? λi=>?_;have key:∀(l:List (Int×av)),(bX l.length).filterMap (λi=>l[i]?)=l:=by
   intro l
   induction l with
   |nil=>rfl|cons a l ih=>rw[Wl,List.range_succ_eq_map,Y8,sF];exact Xk (a::·) ih
  have:=key es.toList;simp only[Xh,Yd]at this;rw[this]
 have hs2:es2.size=es.size:=by simpa using M0.length_eq
 have T2:BG 4 t2 es2 led:=by refine⟨by rw[IG];exact T.pl,by rw[IG];exact T.ld,by rw[IG],?_,by rw[IG];exact Pu,.inr (by rw[IG]),λe he=>T.hv e (M0.mem_iff.mp he),(M0.map _).nodup_iff.mpr T.nd,by have:=T.le;lia⟩;have:=Pp.length_eq;rw[IG];simp;lia
 refine⟨es2,t2,?_,T2,hs2,λv=>(M0.map _).mem_iff⟩;unfold relayAll;rw[hlaid];have hcov:coversAll (P.map idx).toArray es.size=true:=by unfold coversAll;rw[List.isPerm_iff];exact L8
 have hfit:t2.fits es2.size=true:=T2.fits (YX ..);simp only[←Mb,hcov,hfit,Bool.and_self,if_true]
end RK
namespace RK
open PySem L2 PySem.SeqAt PyProof.Rows
abbrev cY(es:Array (Int×av))(ep:Nat)(t:SetTable):Obj:={cls:= .type "set",dict:=ah,data:= .set es ep t}
def lg{h:Nat}(hh:h<128):hashInt (h:Int)=(h:Int):=by
 have:∀n:Fin 128,hashInt (n.val:Int)=(n.val:Int):=by decide
 exact this ⟨h,hh⟩
section
variable{prog:ck}{w:cy}{A:cK}{E:av->aE->Prop}{s:aE}{a:aI}{es:Array (Int×av)}{ep:Nat}{t:SetTable}{led:Bool}
def BG.elems(T:BG m t es led):ElemsOf (intKind prog w) es.toList:=λe he=>by
 obtain⟨⟨h1,h2⟩,tk,ev⟩:=T.hv e he;obtain⟨n,en⟩:∃n:Nat,e.1=(n:Int):=⟨e.1.toNat,by lia⟩
 refine⟨⟨e.1,by rw[ev];exact intKind_is _ _ _ _,?_⟩,by rw[ev];rfl⟩;rw[en];exact(lg (by lia)).symm
def tG(ho:s.heap.get? a=af (cY es ep t)):(s.heap.update a (Obj.putSet es' t')).get? a=af (cY es' (ep+1) t'):=
 W7 (Obj.putSet es' t') ho rfl
theorem Mm{h:Nat}{tk:Tok}{Q:Bool->aE->Prop}(ho:s.heap.get? a=af (cY es ep t))(T:BG 4 t es led)(hh:h<128)(hl:es.size<=6)(q:∀h' es' ep' t' b,Heap.SameBut a s.heap h'->h'.get? a=af (cY es' ep' t')->BG 4 t' es' led->(∀v,v∈es'.toList.map (·.1) ↔ v∈es.toList.map (·.1)\/v=(h:Int))->es'.size<=es.size+1->Q b {s with heap:=h'}):
  bg (model prog w) A (setAddHashed a (.int h tk) (h:Int)) Q E s:=by
 have hf:=T.fits (YX ..);have hel:=T.elems (prog:=prog) (w:=w);have hb:es.size<scanBound:=by unfold scanBound;exact Wv hl (by decide)
 have hkey:(intKind prog w).is (h:Int) (.int h tk)=true:=intKind_is _ _ _ _;have hsh:(h:Int)=(intKind prog w).hash (h:Int):=(lg hh).symm;unfold setAddHashed setAddHashedIn;refine Xl (My (wpAny_setState_of ho rfl hf ?_));dsimp only;rw[byScan_of rfl hb hel];simp only[↓reduceIte];unfold setAddByScan;refine My ?_;refine My (Y5 ?_);have esc:setScan a (.int h tk) (h:Int) ai es=setScan a (.int h tk) ((intKind prog w).hash (h:Int)) ai es:=by rw[←hsh]
 rw[esc];refine My (wpAny_setScan_of hkey ho rfl hf hel ?_);cases hr:List.findIdx? (λe=>(intKind prog w).is (h:Int) e.2) es.toList with
 |some j=>
  dsimp only;obtain⟨hj,hpj,_⟩:=Yp.mp hr;have hm:(h:Int)∈es.toList.map (·.1):=by have he:=XR hj;obtain⟨_,tk',ev⟩:=T.hv _ he;rw[ev]at hpj;obtain⟨tk2,e2⟩:=Value.isInt_shape (show Value.isInt (h:Int) (.int es.toList[j].1 tk')=ai from hpj);exact Wn.mpr ⟨_,he,(Value.int.inj e2).1⟩
  refine V8 (V8 ?_);exact q s.heap es ep t ay (Heap.SameBut.refl a s.heap) ho T (λv=>⟨.inl,λz=>z.elim id λe=>e▸hm⟩) (WD ..)
 |none=>
  dsimp only;have hn:(h:Int)∉es.toList.map (·.1):=λhm=>by obtain⟨e,he,ee⟩:=Wn.mp hm;have:=List.findIdx?_eq_none_iff.mp hr e he;obtain⟨_,tk',ev⟩:=T.hv _ he;rw[ev,ee,intKind_is]at this;cases this
  obtain⟨es1,t1,eL,T1,s1,m1⟩:=Mj T hl hh hn tk;rw[eL];dsimp only;have hz1:es1.size<=sizeLine:=by have:=T1.le;rw[W6];lia
  refine My (V8 ?_);rw[if_pos T1.pl,hashByValue_scannable 8 (x:= .int h tk) rfl];refine My (V8 ?_);have YE:plainKind (.int h tk)=true:=rfl;simp only[YE,if_true,Bool.not_false,ZD];refine My (wpAny_storeSet_of ho rfl ?_ hz1);have ho1:=tG (s:=s) (es':=es1) (t':=t1) ho;have hsb1:=X8 s.heap a (Obj.putSet es1 t1);have hfill:t1.fill=es1.size:=by unfold SetTable.fill;rw[T1.sz,T1.dm];rfl
  by_cases AA:t1.tooFull=ai
  ·have h5:es1.size=5:=by
    unfold SetTable.tooFull at AA;rw[hfill]at AA;have AA:=WR AA;have:=T1.le;rcases T1.ok with⟨h1,h2⟩|h1<;>rw[h1]at AA<;>lia
   obtain⟨es2,t2,eR,T2,s2,m2⟩:=Ml T1 h5;rw[if_pos AA];simp only[eR];refine My (V8 (My (wpAny_storeSet_of (s:={s with heap:=s.heap.update a (Obj.putSet es1 t1)}) ho1 rfl ?_ (by rw[s2];exact hz1))));have ho2:=tG (s:={s with heap:=s.heap.update a (Obj.putSet es1 t1)}) (es':=es2) (t':=t2) ho1;exact V8 (V8 (q _ es2 _ t2 ai (hsb1.trans (X8 _ a _)) ho2 T2 (λv=>(m2 v).trans (m1 v)) (by lia)))
  ·rw[if_neg AA];have T4:BG 4 t1 es1 led:=⟨T1.pl,T1.ld,T1.dm,T1.sz,T1.up,by
    rcases T1.ok with⟨h1,h2⟩|z
    ·refine .inl ⟨h1,?_⟩;unfold SetTable.tooFull at AA;rw[hfill,h1]at AA;have:¬(es1.size*5>=7*3):=λz=>AA (Xz z);lia
    ·exact .inr z,T1.hv,T1.nd,T1.le⟩
   exact V8 (V8 (q _ es1 _ t1 ai hsb1 ho1 T4 m1 (kX s1)))
theorem HS{items:Array av}{ns:List Int}{St:Nat->dc->Prop}(W:Walks prog w A.in1 I fp wr items.size (λi v=>items[i]?=af v) St)(hdf:d∉fp)(hi:∀i,i<items.size->∃(n:Nat)(tk:Tok),items[i]?=af (.int n tk)/\n<128/\ns[i]?=af (n:Int))(hl:items.size<=7)(D3:items.size=ns.length):
  ∀(k i:Nat)(s:aE)(es:Array (Int×av))(ep:Nat)(t:SetTable),items.size - i=k->i<=items.size->St i s.heap->s.heap.get? d=af (cY es ep t)->BG 4 t es led->es.size<=i->(∀v,v∈es.toList.map (·.1) ↔ v∈ns.take i)->
   (∀h' tk es' ep' t',h'.get? d=af (cY es' ep' t')->BG 4 t' es' led->(∀v,v∈es'.toList.map (·.1) ↔ v∈ns)->(∀b o,b∉wr->b≠d->s.heap.get? b=af o->h'.get? b=af o)->R (.ok (.ret .none)) {s with heap:=h',toks:=tk})->
   codeAny (model prog w) A (.builtin "set.update.loop" ⟨[.ref d,.ref I],[]⟩) R s:=by
 have hdw:d∉wr:=λh=>hdf (W.sub _ h);intro k
 induction k with
 |zero=>
  intro i s es ep t hk hle hst ho T hsz hm hR;have hin:i=items.size:=by lia
  subst hin;refine XD gi ?_;rw[XF fh _];show bg _ A.in1 (pyNext (.ref I)>>=_) _ _ s;refine My (W.done s _ _ hst λh' tk hk'=>V8 (hR h' tk es ep t (hk' d _ hdw ho) T (λv=>?_) λb o hb _ e=>hk' b o hb e));rw[hm v,D3,om]
 |succ k ih=>
  intro i s es ep t hk hle hst ho T hsz hm hR;have hlt:i<items.size:=by lia
  obtain⟨n,tn,e1,e2,e3⟩:=hi i hlt;refine XD gi ?_;rw[XF fh _];show bg _ A.in1 (pyNext (.ref I)>>=_) _ _ s;refine My (W.item i s _ _ hlt hst λv h' tk hP hst' hk'=>?_);rw[e1]at hP;cases hP;show bg _ A.in1 (holding [Value.int n tn] (setAdd d (.int n tn))>>=_) _ _ _;refine My (Xl ?_);unfold setAdd;refine Xl (My (wpAny_pyHash_int ?_));rw[lg e2];refine Mm (s:={s with heap:=h',toks:=tk+1}) (hk' d _ hdw ho) T e2 (by lia) λh2 es2 YI t2 b2 SD ho2 T2 m2 s2=>?_;refine V8 ⟨Zg fh _,ih (i+1) _ es2 YI t2 (by lia) hlt (W.frame _ h' _ hst' λb hb o e=>?_) ho2 T2 (by lia) (λv=>?_) λh3 tk3 MY YN t3 YO T3 m3 k3=>?_⟩
  ·exact SD.extBut b o (λz=>hdf (z▸hb)) e
  ·rw[m2,hm,List.take_succ,e3];simp
  ·exact hR h3 tk3 MY YN t3 YO T3 m3 λb o hb hbd e=>k3 b o hb hbd (SD.extBut b o hbd (hk' b o hb e))
abbrev y9(w:cy):Bool:=w.params.followText "set-order"
def Mp(h:Q₁ (.ref s.heap.objs.size) {s with heap:=s.heap.push (cY #[] 0 (.fresh 0 0 (!y9 w)))}):
  codeAny (model prog w) A (.call (.builtin "set.__new__") ⟨[.type "set",x],[]⟩) (wants Q₁ E) s:=by
 refine codeAny_of_tree ?_;show bg _ A.in1 (do checkBuiltinCall "set.__new__" ⟨[.type "set",x],[]⟩;again (.builtin "set.__new__" ⟨[.type "set",x],[]⟩)) _ _ s;refine My (wpAny_of_eq (PySem.F.newCall_set_1 x) (V8 ⟨Zg oB _,XD PySem.F.entry_set_new ?_⟩));rw[XF oB _];unfold Builtin.«set.__new__» Builtin.Frozenset.newClass;have O0:=sub_set_self;obtain⟨hp,g,d,tk,os⟩:=s;dsimp only
 wp_walk
 refine wpAny_askSetting (V8 ?_);dsimp only;simp only[newObj];refine My (wpAny_alloc (V8 (V8 ?_)));exact h
set_option maxHeartbeats 3200000 in
theorem HW{ns:List Int}(hh:A.handled=ah)(hl:s.heap.IsList l items)(hi:∀i,i<items.size->∃(n:Nat)(tk:Tok),items[i]?=af (.int n tk)/\n<128/\ns[i]?=af (n:Int))(h12:items.size<=7)(D3:items.size=ns.length)(h:∀h' tk es ep t,h'.get? s.heap.objs.size=af (cY es ep t)->BG 4 t es (!y9 w)->(∀v,v∈es.toList.map (·.1) ↔ v∈ns)->(∀b o,s.heap.get? b=af o->h'.get? b=af o)->Q (.ref s.heap.objs.size) {s with heap:=h',toks:=tk}):
  bg (model prog w) A (call (.type "set") [.ref l]) Q E s:=by
 obtain⟨c,tl,YR⟩:=PySem.F.called_set.mro;have SG:=PySem.F.called_set.made;have O0:=PySem.F.called_set.sub;refine wpAny_call (codeAny_of_tree ?_);show bg _ _ (callAny (.type "set") _) _ _ _;refine V8 ⟨Code.quiet_builtin _ (by decide+kernel),XD PySem.F.entry_type_call ?_⟩;rw[Around.under_plain (weight_type_call_type "set" [.ref l] []) rfl];have f1:=PySem.F.called_set.notType;have f2:=PySem.F.called_set.canCreate;have f3:=PySem.F.typeCall_set_1 (.ref l);obtain⟨so,eso⟩:∃so:Obj,so=cY #[] 0 (.fresh 0 0 (!y9 w)):=⟨_,rfl⟩
 repeat(any_goals (first|assumption|wp_step))
 refine YM (Mp (x:= .ref l) (E:=E) (Q₁:=λobj s₁=>obj= .ref s.heap.objs.size/\s₁={s with heap:=s.heap.push so}) ⟨rfl,by rw[eso]⟩) λr s₁ hr=>?_;cases r with
 |error e=>exact hr|ok fl=>
  cases fl with
  |ret obj=>
   obtain⟨rfl,rfl⟩:=hr;have hS:(s.heap.push so).get? s.heap.objs.size=af so:=Wf _ (by rw[eso];rfl);have hT:Shared.TypeIs {s with heap:=s.heap.push so} (.ref s.heap.objs.size) "set" :=⟨_,hS,by rw[eso]⟩
   have g1:=PySem.F.called_set.init.lookup;have g2:=PySem.F.called_set.init.bind (.ref s.heap.objs.size)
   repeat(any_goals (first|assumption|wp_step))
   refine YM (codeAny_call_builtin (R:=wants (λr s₂=>r= .none/\∃h' tk es ep t,s₂={s with heap:=h',toks:=tk}/\h'.get? s.heap.objs.size=af (cY es ep t)/\BG 4 t es (!y9 w)/\(∀v,v∈es.toList.map (·.1) ↔ v∈ns)/\(∀b o,s.heap.get? b=af o->h'.get? b=af o)) E) PySem.F.called_set.init.plain PySem.F.entry_set_init (check_set_init_1 hT ?_)) λr₂ s₂ hr₂=>?_
   ·obtain⟨ol,hol,hcl,nl,hdl⟩:=hl;obtain⟨ocls,odict,odata,oslots⟩:=ol;simp only at hcl hdl;subst hcl;subst hdl;have hol':=V9 so hol;have k1:=PySem.F.sub_list_set;have k2:=PySem.F.sub_list_frozenset;have k3:(Value.type "list" ==Value.type "dict")=false:=by decide
    have hl1:(s.heap.push so).IsList l items:=⟨_,hol',rfl,nl,rfl⟩
    have zp:(s.heap.push so).objs.size=s.heap.objs.size+1:=YF ..;subst eso;unfold Builtin.«set.__init__» noKeywords Builtin.Frozenset.updateFrom;generalize hPI:pyIter=PI
    wp_walk
    subst hPI;refine wpAny_pyIter_list hl1 ?_;refine My (wpAny_runValue ?_);have hlS:l<s.heap.objs.size:=Wg hol;refine HS (led:=!y9 w) (ns:=ns) (Walks.list (A:=A.in1.in1.in1) (by simp[hh]) _ l (by rw[zp];exact Wo (X6 hlS)) items) (by rw[zp];simp only[We,vn,or_false,not_or];exact⟨Wo (Zx _),Xn hlS⟩) hi h12 D3 items.size 0 _ #[] 0 (.fresh 0 0 (!y9 w)) (by rfl) (WP _) ⟨⟨_,Wf _ rfl,rfl,rfl⟩,hl1.push _⟩ (V9 _ hS) ⟨rfl,rfl,rfl,rfl,ny,.inl ⟨rfl,by simp⟩,λe he=>absurd he (by simp),by simp,by simp⟩ (by simp) (λv=>by simp) λh' tk es ep t ho' T' m' k'=>?_;refine V8 (V8 ⟨rfl,h',tk,es,ep,t,rfl,ho',T',m',λb o e=>?_⟩);have hb:=Wg e;exact k' b o (by rw[zp];simp only[We,vn,or_false];exact Wo (X6 hb)) (Wo hb) (V9 _ (V9 _ e))
   ·cases r₂ with
    |error e=>exact hr₂|ok fl₂=>
     cases fl₂ with
     |ret r=>
      obtain⟨rfl,h',tk,es,ep,t,rfl,ho',T',m',k'⟩:=hr₂
      repeat(any_goals (first|assumption|wp_step))
      exact h _ _ _ _ _ ho' T' m' k'
     |_=>exact hr₂.elim
  |_=>exact hr.elim
end
def fB:Slot "set_iterator" "__next__" "set_iterator.__next__" :=
 .of (owner:= "set_iterator") (n:= "__next__") (by rw[typeLookup_type,builtinLookup_eq_fast];kernel_rfl) (by decide+kernel) (by decide+kernel) (by decide+kernel)
  (by first|exact .inl (by decide+kernel)|exact .inr (by decide+kernel)) (by rw[isSubtype_type];kernel_rfl)
def mF:entryFor table "set_iterator.__next__" =af Builtin.«set_iterator.__next__»:=entryFor_of_tree (by kernel_rfl)
def vD:Manifest.owners.lookup (String.ofList ['r','o','t','a','r','e','t','i','_','t','e','s'].reverse)=af Manifest.sig_set_iterator:=by kernel_rfl
def oJ(x:av):argsOk "set_iterator.__next__" ⟨[x],[]⟩:=by unfold argsOk;rw[signature?_of (id:= "set_iterator.__next__") (n:=['_','_','t','x','e','n','_','_']) (o:=['r','o','t','a','r','e','t','i','_','t','e','s']) (by kernel_rfl) vD];kernel_rfl
def xH:entryFor table "set.__iter__" =af Builtin.«frozenset.__iter__»:=
 entryFor_alias (id':= "frozenset.__iter__") (by kernel_rfl) (by decide+kernel) (by decide+kernel) (by kernel_rfl)
def jB(w:cy)(a:aI)(ep:Nat)(es:Array (Int×av)):List (Int×av):=if y9 w=ai then(pickOrder (w.params.setOrder a ep) es).toList else es.toList
theorem yH(next:Nat->Nat):∀(fuel k:Nat)(left:List α)(out:Array α),left.length=fuel->(pickOrder.go next fuel k left out).toList.Perm (out.toList++left)
 |0,k,left,out,h=>by have:left=[]:=YB.mp h;subst this;unfold pickOrder.go;simp|fuel+1,k,left,out,h=>by
  unfold pickOrder.go;have hlt:next k % left.length<left.length:=Nat.mod_lt _ (by lia)
  rw[Wq hlt];refine(yH next fuel (k+1) _ _ (by rw[List.length_eraseIdx_of_lt hlt];lia)).trans ?_;rw[Zo,Yl];refine i9 _ ?_;rw[List.eraseIdx_eq_take_drop_succ];have:=List.perm_middle (a:=left[next k % left.length]) (l₁:=left.take (next k % left.length)) (l₂:=left.drop (next k % left.length+1));rw[←Yb hlt,oS]at this;simpa using this.symm
def pF(w:cy)(a:aI)(ep:Nat)(es:Array (Int×av)):(jB w a ep es).Perm es.toList:=by
 unfold jB;split
 ·have:=yH (w.params.setOrder a ep) es.size 0 es.toList #[] (by simp);simpa[pickOrder]using this
 ·exact mw _
section
variable{prog:ck}{w:cy}{A:cK}{E:av->aE->Prop}{s:aE}{a:aI}{es:Array (Int×av)}{ep:Nat}{t:SetTable}
abbrev jO(sl i:Nat)(a:aI)(n ep:Nat):Obj:={cls:= .type "set_iterator",data:= .fields #[.int sl 0,.int i 0,.ref a,.int n 0,.int ep 0]}
def HX(ho:s.heap.get? a=af (cY es ep t))(T:BG 4 t es (!y9 w))(q:Q (.ref s.heap.objs.size) {s with heap:=s.heap.push (jO 0 0 a es.size ep)}):bg (model prog w) A (pyIter (.ref a)) Q E s:=by
 have hT:s.TypeIs (.ref a) "set" :=⟨_,ho,rfl⟩
 have hf:=T.fits (YX ..);refine wpAny_pyIter_slot hT oQ (WY oQ hT xH ?_ (PySem.F.args_set_iter_1 _));unfold Builtin.«frozenset.__iter__»;show bg _ _ (Builtin.Frozenset.sizeOf a>>=_) _ _ s;unfold Builtin.Frozenset.sizeOf;refine My (My (wpAny_setEntries_of ho rfl hf (V8 ?_)));unfold setDrawn;refine My (My (wpAny_setState_of ho rfl hf ?_));unfold setsByText;refine My (My (wpAny_askSetting (V8 (V8 ?_))));dsimp only;refine Xj (λ(z:(!w.params.followText "set-order" && (!t.plain && decide (es.size>1)))=ai)=>by rw[T.pl]at z;simp at z) (λ_=>?_);refine My (V8 (My (wpAny_setEpoch_of ho rfl hf ?_)));exact My (W5 (V8 ⟨_,rfl, "set_iterator",_,⟨_,Wf _ rfl,rfl⟩,fB.lookup,q⟩))
def vG(ho:s.heap.get? a=af (cY es ep t))(T:BG 4 t es (!y9 w))(hb:y9 w=ay->SetTable.below t.place slot=i)(q:∀nx,(y9 w=ay->(hi:i<es.size)->nx=t.place[i]'(by rw[T.sz];exact hi)+1)->Q (((jB w a ep es)[i]?).map λe=>(e.2,nx)) s):bg (model prog w) A (setNext a slot i ep) Q E s:=by
 have hf:=T.fits (YX ..);unfold setNext;refine My (wpAny_setState_of ho rfl hf ?_);unfold setsByText;refine My (My (wpAny_askSetting (V8 ?_)));dsimp only;refine Xj (λ(hx:y9 w=ai)=>?_) (λ(hx:¬y9 w=ai)=>?_)
 ·refine Xj (λz=>by simp at z) (λ_=>?_);unfold setWalk;refine My (My (wpAny_setState_of ho rfl hf ?_));unfold setsByText;refine My (My (wpAny_askSetting (V8 ?_)));dsimp only;refine Xj (λ_=>?_) (λz=>absurd hx z);refine My (wpAny_askSetting (V8 (V8 ?_)));have:=q slot (λz=>by rw[hx]at z;cases z);unfold jB at this;rw[if_pos hx,Yd]at this;exact this
 ·have hx':y9 w=false:=by simpa using hx
  have hbi:=hb hx';refine Xj (λ(z:(!t.plain && decide (es.size>1))=ai)=>by rw[T.pl]at z;simp at z) (λ_=>?_);refine My ?_;refine Xj (λ(z:(!t.led && !es.isEmpty)=ai)=>by rw[T.ld,hx']at z;simp at z) (λ_=>?_);refine V8 ?_;rw[hbi];by_cases hi:i<es.size
  ·have hp:i<t.place.size:=by rw[T.sz];exact hi
   have:=q (t.place[i]+1) (λ_ _=>rfl);unfold jB at this;rw[if_neg hx,Yd,Yt hi]at this;rw[Yt hi,Yt hp];exact V8 this
  ·have:=q 0 (λ_ h=>absurd h hi);unfold jB at this;rw[if_neg hx,Yd,YJ (by lia)]at this;rw[YJ (by lia)];exact V8 this
end
def oK:Slot "set_iterator" "__iter__" "set_iterator.__iter__" :=
 .of (owner:= "set_iterator") (n:= "__iter__") (by rw[typeLookup_type,builtinLookup_eq_fast];kernel_rfl) (by decide+kernel) (by decide+kernel) (by decide+kernel)
  (by first|exact .inl (by decide+kernel)|exact .inr (by decide+kernel)) (by rw[isSubtype_type];kernel_rfl)
def vH:entryFor table "set_iterator.__iter__" =af Builtin.«dict_keyiterator.__iter__»:=
 entryFor_alias (id':= "dict_keyiterator.__iter__") (by kernel_rfl) (by decide+kernel) (by decide+kernel) (by kernel_rfl)
def xJ(x:av):argsOk "set_iterator.__iter__" ⟨[x],[]⟩:=by unfold argsOk;rw[signature?_of (id:= "set_iterator.__iter__") (n:=['_','_','r','e','t','i','_','_']) (o:=['r','o','t','a','r','e','t','i','_','t','e','s']) (by kernel_rfl) vD];kernel_rfl
section
variable{prog:ck}{w:cy}{A:cK}{E:av->aE->Prop}{s:aE}{a I:aI}{es:Array (Int×av)}{ep:Nat}{t:SetTable}
def SH(w:cy)(I a:aI)(es:Array (Int×av))(ep:Nat)(t:SetTable)(i:Nat)(h:dc):Prop:=(∃sl:Nat,h.get? I=af (jO sl i a es.size ep)/\(y9 w=ay->SetTable.below t.place sl=i))/\h.get? a=af (cY es ep t)
def Mq{h:dc}{sl i n nx:Nat}(ho:h.get? I=af (jO sl i a n ep)):((h.update I (Obj.mapFields (·.setIfInBounds 0 (rawInt nx)))).update I (Obj.mapFields (·.setIfInBounds 1 (rawInt ((i:Int)+1))))).get? I=af (jO nx (i+1) a n ep):=by have h1:(h.update I (Obj.mapFields (·.setIfInBounds 0 (rawInt nx)))).get? I=af (jO nx i a n ep):=W7 _ ho rfl;exact W7 _ h1 rfl
def Ea(hh:A.handled=ah)(hne:a≠I)(T:BG 4 t es (!y9 w)):Walks prog w A I [I,a] [I] es.size (λi v=>∃e,(jB w a ep es)[i]?=af e/\v=e.2) (SH w I a es ep t)where
 sub:=λb hb=>by simp at hb;simp[hb]
 frame:=λi h h' st hk=>by obtain⟨⟨sl,h1,h2⟩,h3⟩:=st;exact⟨⟨sl,hk I (by simp) _ h1,h2⟩,hk a (by simp) _ h3⟩
 item:=λi s Q E hi st hQ=>by
  obtain⟨⟨sl,ho,hb⟩,hs⟩:=st;have hT:s.TypeIs (.ref I) "set_iterator" :=⟨_,ho,rfl⟩
  have hf:=T.fits (YX ..);have hol:i<(jB w a ep es).length:=by rw[(pF w a ep es).length_eq];simpa using hi
  unfold pyNext;refine My (Zf (Xf (name:=Str.ofString "__next__") hT fB (WY fB hT mF ?_ (oJ _))));unfold Builtin.«set_iterator.__next__»;show bg _ _ (fieldsOf (.ref I)>>=_) _ _ s;refine My (wpAny_fieldsOf ho rfl ?_);show bg _ _ (setEntries a>>=_) _ _ s;refine My (wpAny_setEntries_of hs rfl hf ?_);refine Xj (λz=>by simp at z) (λ_=>?_);show bg _ _ (setNext a ((sl:Int)).toNat ((i:Int)).toNat ((ep:Int)).toNat>>=_) _ _ s;simp only[Yy];refine My (vG hs T hb λnx hnx=>?_);rw[Wq hol];show bg _ _ (setField (.ref I) 0 (rawInt nx)>>=_) _ _ s;refine My (Yj ho rfl (by simp) ?_);have h1:(s.heap.update I (Obj.mapFields (·.setIfInBounds 0 (rawInt nx)))).get? I=af (jO nx i a es.size ep):=W7 _ ho rfl;refine My (Yj (s:={s with heap:=s.heap.update I (Obj.mapFields (·.setIfInBounds 0 (rawInt nx)))}) h1 rfl (by simp) (V8 ⟨_,rfl,V8 ?_⟩));have sb:Heap.SameBut I s.heap ((s.heap.update I (Obj.mapFields (·.setIfInBounds 0 (rawInt nx)))).update I (Obj.mapFields (·.setIfInBounds 1 (rawInt ((i:Int)+1))))):=(X8 s.heap I _).trans (X8 _ I _);refine hQ _ _ s.toks ⟨_,Wq hol,rfl⟩ ⟨⟨nx,Mq ho,λhx=>?_⟩,sb.extBut a _ hne hs⟩ λb o hb' e=>sb.extBut b o (λz=>hb' (by simp[z])) e;have en:=hnx hx hi;have hp:i<t.place.size:=by rw[T.sz];exact hi
  refine kZ T.up hp (λk hk hlt=>?_) λk hk hge=>?_
  ·rw[en];by_cases e:k=i
   ·subst e;exact Wc _
   ·have:=T.up.lt (i:=k) (j:=i) (by lia) hp;lia
  ·rw[en];have:=T.up.lt (i:=i) (j:=k) hge hk;lia
 done:=λs Q E st hQ=>by
  obtain⟨⟨sl,ho,hb⟩,hs⟩:=st;have hT:s.TypeIs (.ref I) "set_iterator" :=⟨_,ho,rfl⟩
  have hf:=T.fits (YX ..);unfold pyNext;refine My (Zf (Xf (name:=Str.ofString "__next__") hT fB (WY fB hT mF ?_ (oJ _))));unfold Builtin.«set_iterator.__next__»;show bg _ _ (fieldsOf (.ref I)>>=_) _ _ s;refine My (wpAny_fieldsOf ho rfl ?_);show bg _ _ (setEntries a>>=_) _ _ s;refine My (wpAny_setEntries_of hs rfl hf ?_);refine Xj (λz=>by simp at z) (λ_=>?_);show bg _ _ (setNext a ((sl:Int)).toNat ((es.size:Int)).toNat ((ep:Int)).toNat>>=_) _ _ s;simp only[Yy];refine My (vG hs T hb λnx hnx=>?_);rw[List.getElem?_eq_none (by rw[(pF w a ep es).length_eq];simp)];show bg _ _ (setField (.ref I) 2 .none>>=_) _ _ s;refine My (Yj ho rfl (by simp) ?_);show bg _ _ (newExc (.type "StopIteration") []>>=_) _ _ _;refine My ?_;simp only[newExc,newTuple];refine My (W5 ?_ (by size_fits));refine My (m:=firstArgMember _ _) (wpAny_of_eq (a:=Value.none) (by first|rfl|(simp only[firstArgMember];rfl)) ?_);refine W5 ?_ (by size_fits);simp only[raiseNew];refine My (wpAny_handled ?_)
  first|rw[show A.in1.handled=ah from hh]|rw[hh]
  refine My (V8 (wpAny_throw ?_));refine My (wpAny_isInstance (T:= "StopIteration") (b:=ai) ⟨_,Wf _ rfl,rfl⟩ isSubtype_stop ?_);exact V8 (hQ _ _ λb o hb' e=>(((X8 ..).extBut.push _).push _) b o (λz=>hb' (by simp[z])) e)
 self:=λi s Q E st hQ=>by
  obtain⟨⟨sl,ho,hb⟩,hs⟩:=st;have hT:s.TypeIs (.ref I) "set_iterator" :=⟨_,ho,rfl⟩
  refine wpAny_pyIter_slot hT oK (WY oK hT vH ?_ (xJ _));show bg _ _ (ret (.ref I)) _ _ s;exact V8 ⟨_,rfl, "set_iterator",_,hT,fB.lookup,hQ⟩
def HY(hT:s.TypeIs (.ref r) "set")(h:Q ay s):bg (model prog w) A (Builtin.List.listLengthHint (.ref r)) Q E s:=by
 unfold Builtin.List.listLengthHint;refine My (wpAny_specialOf hT PySem.F.slot_set_len.lookup ?_);generalize hid:("set.__len__" :String)=id0
 wp_delta
 rw[show splitId id0=af ("set", "__len__")from by subst hid;decide+kernel];subst hid;refine My (wpAny_isInstance (T:= "set") (b:=ai) hT (by rw[isSubtype_type];kernel_rfl) ?_);refine Xj (λz=>absurd z (by decide)) (λ_=>?_);refine Xj (λ_=>?_) (λz=>absurd (by decide+kernel) z);exact My (Yn hT (V8 h))
def Mr(T:BG 4 t es (!y9 w)):xB prog w "set" a a es.size (λi v=>∃e,(jB w a ep es)[i]?=af e/\v=e.2) (λh=>h.get? a=af (cY es ep t))where
 type:=λ_ h=>⟨_,h,rfl⟩
 there:=λ_ h=>⟨Wg h,Wg h⟩
 keep:=λ_ _ h hk=>hk a (.inl rfl) _ h
 notList:=by decide
 notTuple:=by decide
 hint:=λ_ _ s _ h hq=>HY ⟨_,h,rfl⟩ hq
 iter:=λ_ s hh h=>⟨_,SH w s.heap.objs.size a es ep t,(λ_ _ hq=>HX h T hq),Ea hh (Wo (Wg h)) T,
  ⟨⟨0,Wf _ rfl,λ_=>kZ T.up (WP _) (λ_ _ z=>absurd z (by simp)) (λ_ _ _=>WP _)⟩,V9 _ h⟩⟩
end
def nQ(w:cy)(a:aI)(ns:List Int):dc->Prop:=λh=>∃es ep t,h.get? a=af (cY es ep t)/\BG 4 t es (!y9 w)/\∀v,v∈es.toList.map (·.1) ↔ v∈ns
section
variable{X:Cx}
def Eb(hc:X.calm=ai):bj X (.type "set") (λxs H Q=>∃p ns,xs=[.ref p]/\wc X.K H p (ns.map V.int)/\GN ns=ai/\∀l,H l=ah->Q (.ref l) (upd H l (.ext (nQ X.w l ns)))):=by
 intro pins s σ H xs us Q I rv h;obtain⟨p,ns,rfl,hq,hok,q⟩:=h;obtain⟨u,rfl,ru⟩:=vals1 rv;cases ru;obtain⟨its,r',pl,hz⟩:=I.list hq;have hi:IntsAre its ns:=intsAre_of r';have hlen:its.length=ns.length:=hi.length;unfold GN at hok;rw[WT,Xq]at hok;have h12:=WR hok.1;refine HW (items:=its.toArray) (ns:=ns) (I.ok.hd hc) pl.isList (λi hlt=>?_) (by simp;lia) (by simp;exact hlen) λh' tk es ep t ho T m k=>?_
 ·have hlt':i<ns.length:=by simp at hlt;lia
  have hr:=WR (hok.2 ns[i] (XR hlt'));obtain⟨v,hv⟩:∃v,its[i]?=af v:=⟨_,Wq hlt⟩
  obtain⟨tk,e⟩:=IntsAre.int_at hi i v hv;have eg:ns.getD i 0=ns[i]:=by simp[hlt']
  rw[eg]at e;refine⟨ns[i].toNat,tk,?_,by lia,?_⟩
  ·rw[show((ns[i].toNat:Nat):Int)=ns[i] by lia,←e];simpa using hv
  ·rw[show((ns[i].toNat:Nat):Int)=ns[i] by lia,Wq hlt']
 ·exact⟨.ref s.heap.objs.size,_,I.laid (t':=tk) (o:= .ext (nQ X.w s.heap.objs.size ns)) k (Wc _) ⟨⟨es,ep,t,ho,T,m⟩,⟨_,ho⟩,λh1 h2 ⟨es,ep,t,a,b,c⟩ hk=>⟨es,ep,t,hk _ a,b,c⟩⟩,rfl,q _ (I.hok.fresh (Wc _))⟩
def qH(hc:X.calm=ai):bj X (.builtin "sorted") (λxs H Q=>∃v ns,xs=[.ref v]/\H v=af (.ext (nQ X.w v ns))/\∀l,H l=ah->Q (.ref l) (upd H l (.lst ((sortI (dd ns)).map V.int)))):=by
 intro pins s σ H xs us Q I rv h;obtain⟨v,ns,rfl,hv,q⟩:=h;obtain⟨u,rfl,ru⟩:=vals1 rv;cases ru;obtain⟨es,ep,t,ho,T,hm⟩:nQ X.w v ns s.heap:=(show bB X.prog X.w H s.heap v (.ext (nQ X.w v ns))from I.hok v _ hv).1;have h12:=T.le;have hop:=pF X.w v ep es;have hol:=hop.length_eq;simp only[Xh]at hol;refine Yr kind_sorted plain_sorted entry_sorted (args_sorted1 _) ?_;unfold Builtin.«sorted»;refine My (m:=checkCount "sorted" 1 1 _) (V8 ?_);refine My (qu (A:=X.A.in1) (Mr (prog:=X.prog) (w:=X.w) (a:=v) (ep:=ep) T) (I.ok.hd hc) ho (by rw[W6];exact Wa h12 (by decide)) λg tk acc hk' ho' hacc=>?_);have hal:acc.toList.length=es.size:=by rw[Xh,hacc.1]
 have hi:IntsAre acc.toList ((jB X.w v ep es).map (·.1)):=by
  have key:∀(us:List av)(l:List (Int×av)),us.length=l.length->(∀(i:Nat) x,us[i]?=af x->∃e tk,l[i]?=af e/\x= .int e.1 tk)->IntsAre us (l.map (·.1)):=by
   intro us
   induction us with
   |nil=>intro l hl _;cases l with|nil=>exact .nil|cons _ _=>cases hl
   |cons x us ih=>
    intro l hl hx;cases l with
    |nil=>cases hl|cons e l=>obtain⟨e',tk,h1,h2⟩:=hx 0 x rfl;cases h1;subst h2;exact .cons e.1 tk (ih l (by simpa using hl) λi y hy=>by simpa using hx (i+1) y (by simpa using hy))
  refine key _ _ (by rw[hal,hol]) λi x hx=>?_;obtain⟨e,h1,h2⟩:=hacc.2 i x (by rw[←Yd];exact hx);obtain⟨_,tk,h3⟩:=T.hv e (hop.mem_iff.mp (Xb h1));exact⟨e,tk,h1,by rw[h2,h3]⟩
 have hle:acc.toList.length<=sizeLine:=by rw[hal,W6];exact Wa h12 (by decide)
 refine My (Ze ?_ hle);have at_:(g.push (seqObj "list" acc.toList.toArray 0)).get? g.objs.size=af (seqObj "list" acc.toList.toArray 0):=Wf _ rfl;refine My (Xl (WY (s:={s with heap:=g.push (seqObj "list" acc.toList.toArray 0),toks:=tk}) slot_list_sort ⟨_,at_,rfl⟩ entry_list_sort (list_sort_tree at_ hi (by rw[hal];exact Wv h12 (by decide)) λout ms a1 a2 a3=>⟨_,rfl,?_⟩) (args_list_sort _)));obtain⟨e,he⟩:=sortedHeap_at (out:=out) at_;have hperm:ms.Perm (dd ns):=a2.trans (by
  refine(hop.map (·.1)).trans ((kH T.nd (qd ns)).mpr λv=>?_);rw[hm v,jH])
 have e1:ms=sortI (dd ns):=kO hperm a3;subst e1;refine V8 ⟨_,rfl,.ref g.objs.size,_,I.laid (t':=tk) (o:= .lst ((sortI (dd ns)).map V.int)) (λc o q=>?_) ho' ?_,rfl,q _ (I.hok.fresh ho')⟩
 ·have q1:=hk' c o q;have hlt:=Wg q1;rw[sortedHeap_old (Wo hlt) (by rw[size_push'];exact X6 hlt)];exact V9 _ q1
 ·refine⟨?_,out.toList,e,gG a1,by rw[he]⟩;have:=a2.length_eq;simp only[Wb]at this ⊢;rw[W6];lia
theorem Ms(hc:X.calm=ai)(hg:Gl X "sorted")(hm:X.mg "sorted" =ah)(hg2:Gl X "set")(hm2:X.mg "set" =ah)(ha:JE X cl a a')(he:starEach [a] X.env=[(ay,eval a X.env)]):
  JE X cl (.Call (.Name "sorted" p) [.Call (.Name "set" p2) [a] [] pos2] [] pos) (.sset a'):=by
 refine PE.imp (gU (qH hc) hg hm boot_sorted (cQ (jl (Eb hc) hg2 hm2 boot_set (cQ ha eZ he) (by decide) (by decide) he rfl) eZ rfl) (by decide) (by decide) rfl rfl) λσ H Q h=>?_;refine tM.el h λm r S er sr h=>?_;have h:tO X (rD X) (bnd (aj cl a' r S) λx S1=>t7 x S1) m r H Q:=h;refine⟨m,r,S,er,sr,h.bnd.mono λv H1 zz=>?_⟩;refine aN zz λm1 x S1 st1 e8 rx h1=>?_;unfold t7 at h1;cases x with
 |lst ds=>
  simp only at h1;cases e:aY ds with
  |none=>rw[e]at h1;exact h1.elim|some ns=>
   rw[e]at h1;simp only at h1;by_cases hok:GN ns=ai
   ·rw[if_pos hok]at h1;obtain⟨a,vs,rfl,hq,_,rd⟩:=dB rx;have e1:=gA e;subst e1;have e2:=dN rd;subst e2;refine⟨a,ns,rfl,wc.of hq,hok,λl hl=>⟨l,ns,rfl,bh,λl2 hl2=>?_⟩⟩;have st:=fk.laid e8 hl (.ext (nQ X.w l ns));exact(dj (e8.laid hl _) cX (h1.step st)).2 l2 hl2
   ·rw[if_neg hok]at h1;exact h1.elim
 |_=>exact h1.elim
end
end RK
namespace RK
open PySem L2 PySem.SeqAt PySem.Spec
structure SE(fns:List B9)(k n:Nat):Prop where
 e:∀X sx,wm X sx fns k->∀e e',cE n sx e=af e'->JE X (ao fns k) e e'
 lc:∀X sx,wm X sx fns k->∀elt tg iter ifs scope pos e',KI n sx elt tg iter ifs scope pos=af e'->
  ∃mu elt' tt ifs' nn cap,Ct X scope (inner sx tg scope).N nn cap/\CI X (ao fns k) tg iter tt elt' ifs' nn cap mu e'/\(∀x,foldedSetIterable iter X.env x=pure x)/\
   ∀(s2:aE)(H2:Hp)(c:List (Str×aI))(C:aI)(ex:List aI),JG (BU X scope c C (inner sx tg scope).N s2 H2 ex) tg tt/\EV (BU X scope c C (inner sx tg scope).N s2 H2 ex) (ao fns k) ifs ifs'/\JE (BU X scope c C (inner sx tg scope).N s2 H2 ex) (ao fns k) elt elt'
 call:∀X sx,wm X sx fns k->∀x p as pos e',Aq n sx x as pos=af e'->JE X (ao fns k) (.Call (.Name x p) as [] pos) e'
 col:∀X sx,wm X sx fns k->∀x p as pos e',sx.blt x=ai->Ar n sx x as pos=af e'->JE X (ao fns k) (.Call (.Name x p) as [] pos) e'
 Mc:∀X sx,wm X sx fns k->∀x p a pos e',sx.blt x=ai->nO n sx x a pos=af e'->JE X (ao fns k) (.Call (.Name x p) [a] [] pos) e'
 meth:∀X sx,wm X sx fns k->∀o name apos as pos e',Av n sx o name apos as pos=af e'->JE X (ao fns k) (.Call (.Attribute o name apos) as [] pos) e'
 es:∀X sx,wm X sx fns k->∀es es',Au n sx es=af es'->JA X (ao fns k) es es'
 bv:∀X sx,wm X sx fns k->∀o es pos e',KG n sx o es=af e'->JE X (ao fns k) (.BoolOp o es pos) e'
 t:∀X sx,wm X sx fns k->∀e t,cT n sx e=af t->JT X (ao fns k) e t
 bt:∀X sx,wm X sx fns k->∀o es pos t,KO n sx o es=af t->JW X (ao fns k) (.BoolOp o es pos) t
 ts:∀X sx,wm X sx fns k->∀es ts,KL n sx es=af ts->EV X (ao fns k) es ts
 i:∀X sx,wm X sx fns k->∀tg e i,cI n sx e=af i->JI X (ao fns k) tg e i/\(∀x,foldedSetIterable e X.env x=pure x)
 fm:∀X sx,wm X sx fns k->∀vs as,EW n sx vs=af as->yk X (ao fns k) vs as
variable{fns:List B9}{k:Nat}
def Mu:SE fns k 0:=by
 refine⟨?_,?_,?_,?_,?_,?_,?_,?_,?_,?_,?_,?_,?_⟩
 ·intro X sx ok e e' h;cases h
 ·intro X sx ok a b c d e f g h;cases h
 ·intro X sx ok a b c d e h;cases h
 ·intro X sx ok a b c d e f h;cases h
 ·intro X sx ok a b c d e f h;cases h
 ·intro X sx ok a b c d e f h;cases h
 ·intro X sx ok a b h;cases h
 ·intro X sx ok a b c d h;cases h
 ·intro X sx ok a b h;cases h
 ·intro X sx ok a b c d h;cases h
 ·intro X sx ok a b h;cases h
 ·intro X sx ok a b c h;cases h
 ·intro X sx ok a b h;cases h
def Mv(e:bE)(c:Int)(sp:bE)(p:Pos)(r:List bE)(n:Nat)(sx:Sx)(as:List E):EW (n+1) sx (.FormattedValue e c (af sp) p::r)≠af as:=by intro h;cases h
def Mw(hc:c≠114)(p:Pos)(r:List bE)(n:Nat)(sx:Sx)(as:List E):EW (n+1) sx (.FormattedValue e c ah p::r)≠af as:=by intro h;have h:(if c=114 then aU (λe' r'=>(e'::r')) (cE n sx e) (EW n sx r)else ah)=af as:=h;lia
theorem Ui(ih:SE fns k n):∀X sx,wm X sx fns k->∀vs as,EW (n+1) sx vs=af as->yk X (ao fns k) vs as:=by
 intro X sx ok vs as h;cases vs with
 |nil=>have e:=Wd h;subst e;exact .nil|cons v r=>
  cases v with
  |Constant c j p=>
   cases c with|str x=>exact .str (ih.fm X sx ok _ _ h)|_=>cases h
  |FormattedValue e c sp p=>
   cases sp with
   |some _=>exact absurd h (Mv e c _ p r n sx as)|none=>
    by_cases hc:c=114
    ·subst hc;obtain⟨e',r',h1,h2,e⟩:=bQ (show aU (λe' r'=>(e'::r')) (cE n sx e) (EW n sx r)=af as from h);subst e;exact .rep (ih.e X sx ok _ _ h1) (ih.fm X sx ok _ _ h2)
    ·exact absurd h (Mw hc p r n sx as)
  |_=>cases h
def rE(h:¬fJ e=ai):∀env x,foldedSetIterable e env x=pure x:=by cases e<;>first|exact λ_ _=>rfl|exact absurd rfl h
def Uj(ih:SE fns k n):∀X sx,wm X sx fns k->∀elt tg iter ifs scope pos e',KI (n+1) sx elt tg iter ifs scope pos=af e'->
  ∃mu elt' tt ifs' nn cap,Ct X scope (inner sx tg scope).N nn cap/\CI X (ao fns k) tg iter tt elt' ifs' nn cap mu e'/\(∀x,foldedSetIterable iter X.env x=pure x)/\
   ∀(s2:aE)(H2:Hp)(c:List (Str×aI))(C:aI)(ex:List aI),JG (BU X scope c C (inner sx tg scope).N s2 H2 ex) tg tt/\EV (BU X scope c C (inner sx tg scope).N s2 H2 ex) (ao fns k) ifs ifs'/\JE (BU X scope c C (inner sx tg scope).N s2 H2 ex) (ao fns k) elt elt':=by
 intro X sx ok elt tg iter ifs scope pos e' h;replace h:(if gZ sx tg scope=ai then(CF (inner sx tg scope) n tg).bind λt'=>(KL n (inner sx tg scope) ifs).bind λfs'=>(cE n (inner sx tg scope) elt).bind λe'=>(o8 sx.N (fK scope)).bind λcap=>
   if sx.HG pos=ai then(if fJ iter=ai then ah else(cE n sx iter).map λi'=>E.AM (sx.AZ pos) e' t' i' fs' (du 5 tg).length cap)
   else(cI n sx iter).map λi'=>E.comp (sx.AZ pos) e' t' i' fs' (du 5 tg).length cap
  else ah)=af e':=h
 by_cases hs:gZ sx tg scope=ai
 ·rw[if_pos hs]at h;replace h:=Xr.mp h;obtain⟨t',h2,h⟩:=h;replace h:=Xr.mp h;obtain⟨fs',h3,h⟩:=h;replace h:=Xr.mp h;obtain⟨e1,h4,h⟩:=h;replace h:=Xr.mp h;obtain⟨cap,h5,h⟩:=h;obtain⟨hi,hf⟩:CI X (ao fns k) tg iter t' e1 fs' (du 5 tg).length cap (sx.AZ pos) e'/\∀x,foldedSetIterable iter X.env x=pure x:=by
   by_cases MV:sx.HG pos=ai
   ·rw[if_pos MV]at h;by_cases he:fJ iter=ai
    ·rw[if_pos he]at h;cases h
    ·rw[if_neg he]at h;obtain⟨i',h1,e⟩:=cG h;subst e;exact⟨Hj (ih.e X sx ok _ _ h1),rE he _⟩
   ·rw[if_neg MV]at h;obtain⟨i',h1,e⟩:=cG h;subst e;obtain⟨hi,hf⟩:=ih.i X sx ok tg iter i' h1;exact⟨Lx hi,hf⟩
  refine⟨_,e1,t',fs',_,cap,Mh ok hs h5,hi,hf,λs2 H2 c C ex=>?_⟩;have ok':=HJ ok hs c C s2 H2 ex;exact⟨(iC ok' n).1 tg t' h2,ih.ts _ _ ok' ifs fs' h3,ih.e _ _ ok' elt e1 h4⟩
 simp_all
theorem Uk(ih:SE fns k n):∀X sx,wm X sx fns k->∀es es',Au (n+1) sx es=af es'->JA X (ao fns k) es es':=by
 intro X sx ok es es' h;cases es with
 |nil=>cases h;exact Qm|cons a r=>obtain⟨x,y,h1,h2,e⟩:=bQ (show aU (λe' r'=>e'::r') (cE n sx a) (Au n sx r)=af es' from h);subst e;exact KY (ih.e X sx ok _ _ h1) (ih.es X sx ok _ _ h2) (bU h1 _ _)
theorem Ul(ih:SE fns k n):∀X sx,wm X sx fns k->∀es ts,KL (n+1) sx es=af ts->EV X (ao fns k) es ts:=by
 intro X sx ok es es' h;cases es with
 |nil=>cases h;exact Lw|cons a r=>obtain⟨x,y,h1,h2,e⟩:=bQ (show aU (λe' r'=>e'::r') (cT n sx a) (KL n sx r)=af es' from h);subst e;exact Hi (ih.t X sx ok _ _ h1) (ih.ts X sx ok _ _ h2)
theorem Um(ih:SE fns k n):∀X sx,wm X sx fns k->∀o es pos e',KG (n+1) sx o es=af e'->JE X (ao fns k) (.BoolOp o es pos) e':=by
 intro X sx ok o es pos e' h;cases es with
 |nil=>cases h|cons a r=>
  cases r with
  |nil=>exact Qj (ih.e X sx ok _ _ h)|cons b r=>
   cases o with
   |And=>obtain⟨x,y,h1,h2,e⟩:=bQ (show aU (λa' b'=>E.and a' b') (cE n sx a) (KG n sx .And (b::r))=af e' from h);subst e;exact Qk (ih.e X sx ok _ _ h1) (ih.bv X sx ok _ _ pos _ h2)
   |Or=>obtain⟨x,y,h1,h2,e⟩:=bQ (show aU (λa' b'=>E.or a' b') (cE n sx a) (KG n sx .Or (b::r))=af e' from h);subst e;exact T6 (ih.e X sx ok _ _ h1) (ih.bv X sx ok _ _ pos _ h2)
theorem Uo(ih:SE fns k n):∀X sx,wm X sx fns k->∀o es pos t,KO (n+1) sx o es=af t->JW X (ao fns k) (.BoolOp o es pos) t:=by
 intro X sx ok o es pos e' h;cases es with
 |nil=>cases h|cons a r=>
  cases r with
  |nil=>
   cases o with|And=>exact KR (ih.t X sx ok _ _ h)|Or=>exact Qg (ih.t X sx ok _ _ h)
  |cons b r=>
   cases o with
   |And=>obtain⟨x,y,h1,h2,e⟩:=bQ (show aU (λa' b'=>T.and a' b') (cT n sx a) (KO n sx .And (b::r))=af e' from h);subst e;exact Qh (ih.t X sx ok _ _ h1) (ih.bt X sx ok _ _ pos _ h2)
   |Or=>obtain⟨x,y,h1,h2,e⟩:=bQ (show aU (λa' b'=>T.or a' b') (cT n sx a) (KO n sx .Or (b::r))=af e' from h);subst e;exact T5 (ih.t X sx ok _ _ h1) (ih.bt X sx ok _ _ pos _ h2)
theorem vI:∀{cl:List (Str×List Str×List (Str×Nat×Nat))}{m c:Str}{f np:Nat},vf cl m=af (c,f,np)->∃fs ms,(c,fs,ms)∈cl/\ms.lookup m=af (f,np)
 |[],m,c,f,np,h=>by cases h|(c',fs,ms)::r,m,c,f,np,h=>by
  unfold vf at h;cases e:ms.lookup m with
  |none=>rw[e]at h;obtain⟨fs',ms',h1,h2⟩:=vI h;exact⟨fs',ms',by simp[h1],h2⟩
  |some q=>
   rw[e]at h
   grind
theorem vJ:∀{cl:List (Str×List Str×List (Str×Nat×Nat))}{f c:Str},mq cl f=af c->∃fs ms,(c,fs,ms)∈cl/\f∈fs
 |[],f,c,h=>by cases h|(c',fs,ms)::r,f,c,h=>by
  unfold mq at h;by_cases e:fs.contains f=ai
  ·grind
  ·rw[if_neg e]at h;obtain⟨fs',ms',h1,h2⟩:=vJ h
   grind
theorem yI:∀{cl:List (Str×List Str×List (Str×Nat×Nat))}{x:Str}{f np:Nat},KA cl x=af (f,np)->∃fs ms,(x,fs,ms)∈cl/\ms.lookup ("__init__" :Str)=af (f,np)
 |[],x,f,np,h=>by cases h|(c',fs,ms)::r,x,f,np,h=>by
  unfold KA at h;by_cases e:c'=x
  ·grind
  ·rw[if_neg e]at h;obtain⟨fs',ms',h1,h2⟩:=yI h
   grind
def wm.fld(ok:wm X sx fns k)(h:mq sx.cl f=af c):∀C,bP X.K mainGlobals c=af (af (.ref C))->Co X.K C/\eY X.K C f:=by
 obtain⟨fs,ms,h1,h2⟩:=vJ h;obtain⟨C,g1,g2,g3,g4,_⟩:=ok.cl c fs ms h1
 simp_all
def dC(h:∀a b c d,o≠ .Call a b c d)(f:Str)(env:Env):attributeBase o f env (eval o env)=eval o env:=by cases o<;>first|rfl|lia
def Mx(ih:SE fns k n):∀X sx,wm X sx fns k->∀x p as pos e',Aq (n+1) sx x as pos=af e'->JE X (ao fns k) (.Call (.Name x p) as [] pos) e':=by
 intro X sx ok x p as pos e' h;replace h:(if sx.glob x=ai then match sx.fn.lookup x with
   |some fp=>(Au n sx as).bind λes=>match es with
    |[]=>ah|a'::as'=>if as'.length+1=fp.2 then af (E.call fp.1 (a'::as'))else ah
   |none=>match KA sx.cl x with
    |some fp=>(Au n sx as).bind λes=>match es with
     |[]=>ah|a'::as'=>if as'.length+2=fp.2 then af (E.new x fp.1 (a'::as'))else ah
    |none=>if sx.bl.contains x=ai then match jN x with
      |some f=>(Au n sx as).bind λes=>match es with
       |[]=>ah|a'::as'=>af (E.bi f (a'::as'))
      |none=>Ar n sx x as pos
     else ah
  else ah)=af e':=h
 by_cases hg:sx.glob x=ai
 ·rw[if_pos hg]at h;obtain⟨g1,g2,g3⟩:=ok.gl hg;cases hf:sx.fn.lookup x with
  |some fp=>
   obtain⟨f,np⟩:=fp;rw[hf]at h;replace h:=Xr.mp h;obtain⟨es,hes,h⟩:=h;cases es with
   |nil=>cases h|cons a' as'=>
    replace h:(if as'.length+1=np then af (E.call f (a'::as'))else ah)=af e':=h;by_cases hl:as'.length+1=np
    ·rw[if_pos hl]at h;cases h;obtain⟨m,a,r,rfl,rfl,h1,h2⟩:=gC hes;obtain⟨fa,fd,ps,F,hm,hk,hb⟩:=ok.fns x f np hf;exact Lr F hl (ok.room.mono (WD ..)) g1 hm hk hb (ih.es X sx ok _ _ hes) g2 (bU h1 _ _) (g8 (fL h2 _))
    lia
  |none=>
   rw[hf]at h;cases hM:KA sx.cl x with
   |some fp=>
    obtain⟨f,np⟩:=fp;simp only[hM]at h;replace h:=Xr.mp h;obtain⟨es,hes,h⟩:=h;cases es with
    |nil=>cases h|cons a' as'=>
     replace h:(if as'.length+2=np then af (E.new x f (a'::as'))else ah)=af e':=h;by_cases hl:as'.length+2=np
     ·rw[if_pos hl]at h;cases h;obtain⟨m,a,r,rfl,rfl,h1,h2⟩:=gC hes;obtain⟨fs,ms,q1,q2⟩:=yI hM;obtain⟨C,w1,w2,w3,w4,w5⟩:=ok.cl x fs ms q1;obtain⟨fa,fd,ps,z1,z2,z3,z4⟩:=w5 _ f np q2;exact Q7 (ih.es X sx ok _ _ hes) hl w1 (z4 rfl) z2 ok.room g1 w2 z3 g2 (bU h1 _ _) (g8 (fL h2 _))
     lia
   |none=>
    simp only[hM]at h;by_cases EH:sx.bl.contains x=ai
    ·rw[if_pos EH]at h;have hm:X.mg x=none:=ok.blt x (by simpa using EH);cases hf2:jN x with
     |some f=>
      simp only[hf2]at h;replace h:=Xr.mp h;obtain⟨es,hes,h⟩:=h;cases es with
      |nil=>cases h|cons a' as'=>
       cases h;obtain⟨m,a,r,rfl,rfl,h1,h2⟩:=gC hes;rcases L6 ok.calm ok.units hf2 with⟨id,hv,hc⟩|⟨T,hv,hc⟩
       ·exact T9 hc g1 hm hv (ih.es X sx ok _ _ hes) g3 g2 (bU h1 _ _) (g8 (fL h2 _))
       ·exact QD hc g1 hm hv (ih.es X sx ok _ _ hes) g3 g2 (bU h1 _ _) (g8 (fL h2 _))
     |none=>simp only[hf2]at h;exact ih.col X sx ok x p as pos e' (by unfold Sx.blt;lia) h
    ·rw[if_neg EH]at h;cases h
 simp_all
theorem Mz(ih:SE fns k n):∀X sx,wm X sx fns k->∀x p a pos e',sx.blt x=ai->nO (n+1) sx x a pos=af e'->JE X (ao fns k) (.Call (.Name x p) [a] [] pos) e':=by
 intro X sx ok x p a pos e' hb h;obtain⟨g1,hm⟩:=ok.bl hb;replace h:(match qz x a with
  |some q=>if isCall q.1=ay/\(q.2.1.endLine==q.2.2.line)=ai then(cE n sx q.1).map .GI else ah|none=>match cE n sx a with
  |none=>ah
  |some a'=>if x= "list" then af (.col (.list (sx.AZ pos)) (.snap a'))else if x= "tuple" then af (.col .tuple (.snap a'))else if x= "sorted" then af (.col (.sorted (sx.AZ pos)) (.live a'))else if x= "sum" then af (.col .sum (.IX a'))else ah)=af e':=h
 cases hq:qz x a with
 |some q=>
  rw[hq]at h;obtain⟨rfl,rfl⟩:=Hn hq;replace h:(if isCall q.1=ay/\(q.2.1.endLine==q.2.2.line)=ai then(cE n sx q.1).map .GI else ah)=af e':=h;by_cases CA:isCall q.1=ay/\(q.2.1.endLine==q.2.2.line)=ai
  ·rw[if_pos CA]at h;obtain⟨o',h1,h2⟩:=XN.mp h;subst h2;have hno:∀a b c d,q.1≠ .Call a b c d:=λa b c d z=>by have:=CA.1;rw[z]at this;cases this
   exact Rf ok.calm g1 hm (ih.e X sx ok _ _ h1) (dC hno _ _) CA.2
  ·rw[if_neg CA]at h;cases h
 |none=>
 simp only[hq]at h;split at h
 ·cases h
 ·rename_i a' h1;have J:=ih.e X sx ok _ _ h1;have hs:=bU h1 [] X.env;split at h
  ·rename_i e;subst e;have e:=Wd h;subst e;exact uV Hc g1 hm n9 J (by decide) (by decide) hs
  ·split at h
   ·rename_i e;subst e;have e:=Wd h;subst e;exact uV Dh g1 hm PyProof.Rows.boot_tuple J (by decide) (by decide) hs
   ·split at h
    ·rename_i e;subst e;have e:=Wd h;subst e;exact Dj ok.calm g1 hm J hs
    ·split at h
     ·rename_i e;subst e;have e:=Wd h;subst e;exact QH ok.calm g1 hm J hs
     ·cases h
theorem Rm(ih:SE fns k n):∀X sx,wm X sx fns k->∀x p as pos e',sx.blt x=ai->Ar (n+1) sx x as pos=af e'->JE X (ao fns k) (.Call (.Name x p) as [] pos) e':=by
 intro X sx ok x p as pos e' hb h;obtain⟨g1,hm⟩:=ok.bl hb;cases as with
 |nil=>cases h|cons a r=>
  cases r with
  |nil=>
   replace h:(match fc a with
    |none=>nO n sx x a pos|some (y,bs)=>if y= "range" /\sx.blt "range" =ai/\x= "list" then match bs with
      |[]=>ah|b::r2=>match r2 with
       |[]=>(cE n sx b).map λb'=>E.col (if x= "list" then .list (sx.AZ pos)else .tuple) (.lS b')|c::r3=>ah
     else if y= "set" /\sx.blt "set" =ai/\x= "sorted" then match bs with
      |[]=>ah|b::r2=>match r2 with
       |[]=>(cE n sx b).map E.sset|_::_=>ah
     else nO n sx x a pos)=af e':=h
   cases q:fc a with
   |none=>rw[q]at h;exact ih.Mc X sx ok x p _ pos e' hb h|some yb=>
    obtain⟨y,bs⟩:=yb;rw[q]at h;by_cases hc:y= "range" /\sx.blt "range" =ai/\x= "list"
    ·simp only[if_pos hc]at h;obtain⟨yp,p3,rfl⟩:=iB q;obtain⟨rfl,hr,hx⟩:=hc;obtain⟨r1,r2⟩:=ok.bl hr;cases bs with
     |nil=>cases h|cons b bs=>
      cases bs with
      |nil=>obtain⟨b',h1,e⟩:=cG h;subst e;have J:=ih.e X sx ok _ _ h1;have hs:=bU h1 [] X.env;subst hx;rw[if_pos rfl];exact Lg (Dk ok.calm) g1 hm n9 (by decide) (by decide) r1 r2 J hs
      |cons c bs=>cases h
    ·simp only[if_neg hc]at h;by_cases hc2:y= "set" /\sx.blt "set" =ai/\x= "sorted"
     ·simp only[if_pos hc2]at h;obtain⟨yp,p3,rfl⟩:=iB q;obtain⟨rfl,hr,rfl⟩:=hc2;obtain⟨r1,r2⟩:=ok.bl hr;cases bs with
      |nil=>cases h|cons b bs=>
       cases bs with
       |cons _ _=>cases h|nil=>obtain⟨b',h1,e⟩:=cG h;subst e;exact Ms ok.calm g1 hm r1 r2 (ih.e X sx ok _ _ h1) (bU h1 [] X.env)
     ·simp only[if_neg hc2]at h;exact ih.Mc X sx ok x p _ pos e' hb h
  |cons c r=>
   cases r with
   |cons _ _=>cases h|nil=>
    replace h:(match nameOf c with
     |none=>ah|some y=>if x= "isinstance" /\sx.blt y=ai then match jM y with
       |none=>ah|some t=>(cE n sx a).map λa'=>E.isI a' t
      else ah)=af e':=h
    cases q:nameOf c with
    |none=>simp_all|some y=>
     rw[q]at h;by_cases hc:x= "isinstance" /\sx.blt y=ai
     ·simp only[if_pos hc]at h;obtain⟨rfl,hy⟩:=hc;obtain⟨yp,rfl⟩:=jt q;cases ht:jM y with
      |none=>simp_all|some t=>
       simp only[ht]at h;obtain⟨a',h1,e⟩:=cG h;subst e;obtain⟨y1,y2⟩:=ok.bl hy;have YU:sx.glob y=true:=by unfold Sx.blt at hy;simp only[WT]at hy;exact hy.1
       obtain⟨_,y3,y4⟩:=ok.gl YU;exact QG g1 hm (ih.e X sx ok _ _ h1) y1 y2 (Ug ht) y4 y3 (bU h1 _ _)
     ·simp only[if_neg hc]at h;cases h
def MF(ih:SE fns k n):∀X sx,wm X sx fns k->∀o name apos as pos e',Av (n+1) sx o name apos as pos=af e'->JE X (ao fns k) (.Call (.Attribute o name apos) as [] pos) e':=by
 intro X sx ok o name apos as pos e' h;replace h:(if isCall o=ay/\(apos.endLine==pos.line)=ai/\as.length+1<30 then(cE n sx o).bind λo'=>(Au n sx as).bind λas'=>match Am sx.cl name as'.length with
   |some q=>af (E.jS q.1 name q.2.1 o' as')|none=>match as' with
    |[]=>ah|a'::r=>match r with
     |b'::r2=>match r2 with
      |_::_=>ah|[]=>if name= "setdefault" then af (E.F0 o' [a',b'])else ah
     |[]=>if name= "append" then af (E.meth .append o' [a'])else if name= "pop" then af (E.meth .mT o' [a'])else if name= "extend" then af (E.meth .extend o' [a'])else if name= "index" then af (E.FY o' a')else ah
  else ah)=af e':=h
 by_cases CA:isCall o=ay/\(apos.endLine==pos.line)=ai/\as.length+1<30
 ·rw[if_pos CA]at h;obtain⟨hic,D3,hfw⟩:=CA;have hno:∀a b c d,o≠ .Call a b c d:=λa b c d z=>by subst z;cases hic
  have hform:∀as',Au n sx as=af as'->methodCallForm (as.length+([]:List Keyword).length) (backTo pos (starEach as X.env)) (backToKw pos (keywordEach [] X.env))=true:=λas' q=>by have h1:=pq (pos:=pos) (fL q X.env);have h2:decide (as.length+([]:List Keyword).length+(if([]:List Keyword).isEmpty then 0 else 1)<30)=true:=Xz (by simp;exact Xg hfw);show((backTo pos (starEach as X.env)).all (λx=>!x.1) && (backToKw pos (keywordEach [] X.env)).all (λx=>x.1.isSome) && decide (as.length+([]:List Keyword).length+(if([]:List Keyword).isEmpty then 0 else 1)<30))=ai;rw[h1,h2];rfl
  replace h:=Xr.mp h;obtain⟨o',h1,h⟩:=h;replace h:=Xr.mp h;obtain⟨as',h2,h⟩:=h;cases hM:Am sx.cl name as'.length with
  |some q=>
   obtain⟨c,f,np⟩:=q;rw[hM]at h;obtain⟨hM,hl⟩:vf sx.cl name=af (c,f,np)/\as'.length+1=np:=by unfold Am at hM;lia
   cases h;obtain⟨fs,ms,g1,g2⟩:=vI hM;obtain⟨C,w1,w2,w3,w4,w5⟩:=ok.cl c fs ms g1;obtain⟨fa,fd,ps,q1,q2,q3,_⟩:=w5 name f np g2;have hcc:∀C',bP X.K mainGlobals c=af (af (.ref C'))->Co X.K C'/\Meth X.K C' name fa:=λC' hC'=>by lia
   cases as' with
   |nil=>
    have ea:as=[]:=by
     cases n with
     |zero=>cases h2|succ n=>
      cases as with
      |nil=>rfl|cons a r=>obtain⟨_,_,_,_,e⟩:=bQ (show aU (λe' r'=>e'::r') (cE n sx a) (Au n sx r)=af []from h2);cases e
    subst ea;exact DK (ih.e X sx ok _ _ h1) hl hcc w1 q2 (ok.room.mono (WD ..)) q3 (dC hno _ _) (hform _ h2) D3
   |cons a' r'=>obtain⟨m,a,r,rfl,rfl,h3,h4⟩:=gC h2;exact Hu (ih.e X sx ok _ _ h1) (ih.es X sx ok _ _ h2) hl hcc w1 q2 (ok.room.mono (WD ..)) q3 (bU h3 _ _) (g8 (fL h4 _)) (dC hno _ _) (hform _ h2) D3
  |none=>
   rw[hM]at h;cases as' with
   |nil=>cases h|cons a' r'=>
    cases r' with
    |cons b' r2'=>
     cases r2' with
     |cons _ _=>cases h|nil=>
      replace h:(if name= "setdefault" then af (E.F0 o' [a',b'])else ah)=af e':=h;obtain⟨m,a,r,rfl,rfl,h3,h4⟩:=gC h2;obtain⟨m2,a2,r2,em,rfl,h5,h6⟩:=gC h4;have hr:r2=[]:=by
       cases m2 with
       |zero=>cases h6|succ m2=>
        cases r2 with
        |nil=>rfl|cons e r=>obtain⟨_,_,_,_,e⟩:=bQ (show aU (λe' r'=>e'::r') (cE m2 sx e) (Au m2 sx r)=af []from h6);cases e
      subst hr;have hs:=bU h3 [a2] X.env;have hs2:=bU h5 [] X.env;have hall:(starEach [a,a2] X.env).all (λx=>!x.1)=true:=by rw[hs,hs2];rfl
      have hfew:((backTo pos (starEach [a,a2] X.env)).all (λx=>!x.1) && (backToKw pos (keywordEach [] X.env)).all (λx=>x.1.isSome)
       && decide ([a,a2].length+([]:List Keyword).length+(if([]:List Keyword).isEmpty then 0 else 1)<30))=true:=by
       rw[pq hall];rfl
      have hu:=ok.units
      ·by_cases n6:name= "setdefault"
       ·rw[if_pos n6]at h;subst n6;cases h;exact Ud (ih.e X sx ok _ _ h1) (ih.es X sx ok _ _ h2) (dC hno _ _) hfew D3 hs (by rw[hs2];rfl)
       lia
    |nil=>
     obtain⟨m,a,r,rfl,rfl,h3,h4⟩:=gC h2;have hr:r=[]:=by
      cases m with
      |zero=>cases h4|succ m=>
       cases r with
       |nil=>rfl|cons e r=>obtain⟨_,_,_,_,e⟩:=bQ (show aU (λe' r'=>e'::r') (cE m sx e) (Au m sx r)=af []from h4);cases e
     subst hr;have hs:=bU h3 [] X.env;have hall:(starEach [a] X.env).all (λx=>!x.1)=true:=by rw[hs];rfl
     have hfew:((backTo pos (starEach [a] X.env)).all (λx=>!x.1) && (backToKw pos (keywordEach [] X.env)).all (λx=>x.1.isSome)
      && decide ([a].length+([]:List Keyword).length+(if([]:List Keyword).isEmpty then 0 else 1)<30))=true:=by
      rw[pq hall];rfl
     replace h:(if name= "append" then af (E.meth .append o' [a'])else if name= "pop" then af (E.meth .mT o' [a'])else if name= "extend" then af (E.meth .extend o' [a'])else if name= "index" then af (E.FY o' a')else ah)=af e':=h;by_cases n1:name= "append"
     ·rw[if_pos n1]at h;subst n1;cases h;exact yo (by simp) PySem.F.slot_list_append PySem.F.type_list_append QJ (ih.e X sx ok _ _ h1) (ih.es X sx ok _ _ h2) (dC hno _ _) hfew D3 hs rfl
     rw[if_neg n1]at h;by_cases n2:name= "pop"
     ·rw[if_pos n2]at h;subst n2;cases h;exact QM (ih.e X sx ok _ _ h1) (ih.es X sx ok _ _ h2) (dC hno _ _) hfew D3 hs rfl
     rw[if_neg n2]at h;by_cases n4:name= "extend"
     ·rw[if_pos n4]at h;subst n4;cases h;exact yo (by simp) PySem.F.slot_list_extend PySem.F.type_list_extend QK (ih.e X sx ok _ _ h1) (ih.es X sx ok _ _ h2) (dC hno _ _) hfew D3 hs rfl
     rw[if_neg n4]at h;by_cases n3:name= "index"
     ·rw[if_pos n3]at h;subst n3;cases h;exact Q5 (ih.e X sx ok _ _ h1) (ih.es X sx ok _ _ h2) (dC hno _ _) hfew D3 hs
     ·rw[if_neg n3]at h;cases h
 ·rw[if_neg CA]at h;cases h
theorem VP(ih:SE fns k n):∀X sx,wm X sx fns k->∀tg e i,cI (n+1) sx e=af i->JI X (ao fns k) tg e i/\(∀x,foldedSetIterable e X.env x=pure x):=by
 intro X sx ok tg e i h;have sq:(cE n sx e).map .seq=af i->¬fJ e=ai->JI X (ao fns k) tg e i/\(∀x,foldedSetIterable e X.env x=pure x):=λh hs=>by obtain⟨b',h1,e'⟩:=cG h;subst e';exact⟨QW (ih.e X sx ok _ _ h1),rE hs X.env⟩
 replace h:(match fc e with
  |none=>if fJ e=ai then ah else(cE n sx e).map .seq|some (x,bs)=>if x= "range" /\sx.blt "range" =ai then match bs with
    |[]=>ah|b::r2=>match r2 with
     |[]=>(cE n sx b).map .lS|c::r3=>ah
   else(cE n sx e).map .seq)=af i:=h
 cases q:fc e with
 |none=>
  rw[q]at h;by_cases hs:fJ e=ai
  ·lia
  ·simp only[if_neg hs]at h;exact sq h hs
 |some yb=>
  obtain⟨x,bs⟩:=yb;rw[q]at h;obtain⟨xp,pos,rfl⟩:=iB q;by_cases hc:x= "range" /\sx.blt "range" =ai
  ·simp only[if_pos hc]at h;obtain⟨rfl,hr⟩:=hc;obtain⟨r1,r2⟩:=ok.bl hr;cases bs with
   |nil=>cases h|cons b bs=>
    cases bs with
    |nil=>obtain⟨b',h1,e⟩:=cG h;subst e;exact⟨Dm r1 r2 (ih.e X sx ok _ _ h1) (bU h1 _ _),λ_=>rfl⟩
    |cons c bs=>cases h
  ·simp only[if_neg hc]at h;exact sq h (λz=>by cases z)
theorem VR(ih:SE fns k n):∀X sx,wm X sx fns k->∀e t,cT (n+1) sx e=af t->JT X (ao fns k) e t:=by
 intro X sx ok e t h;have val:∀(e:bE),(cE n sx e).map .val=af t->(∀whole,isTrue e X.env whole=(do let v ←whole;standAt e.pos;holding [v] (truthy v)))->JT X (ao fns k) e t:=λe h hw=>by obtain⟨b',h1,e'⟩:=cG h;subst e';exact Qf (ih.e X sx ok _ _ h1) hw
 cases e with
 |UnaryOp o a p=>
  cases o with
  |Not=>obtain⟨b',h1,e'⟩:=cG (show(cT n sx a).map .nt=af t from h);subst e';exact Qi (ih.t X sx ok _ _ h1)
  |_=>exact val _ h λ_=>rfl
 |BoolOp o es p=>exact(ih.bt X sx ok _ _ _ _ h).pt|IfExp a b c p=>cases h|Compare a ops bs p=>
  cases ops with
  |nil=>cases h|cons o ro=>
   cases bs with
   |nil=>cases h|cons b rb=>
    cases ro with
    |nil=>
     cases rb with
     |cons _ _=>cases h|nil=>
      have h:(if behindInMarks o b then ah else aU (λa' b'=>T.val (.cmp o a' b')) (cE n sx a) (cE n sx b))=af t:=h;split at h
      ·cases h
      ·rename_i hm;obtain⟨a',b',h1,h2,e'⟩:=bQ h;subst e';exact Qd ok.units (ih.e X sx ok _ _ h1) (ih.e X sx ok _ _ h2) (by simpa using hm)
    |cons o' HM=>
     cases HM with
     |cons _ _=>cases h|nil=>
      cases rb with
      |nil=>cases h|cons c rc=>
       cases rc with|cons _ _=>cases h|nil=>cases h
 |_=>exact val _ h λ_=>rfl
theorem VV(ih:SE fns k n):∀X sx,wm X sx fns k->∀e e',cE (n+1) sx e=af e'->JE X (ao fns k) e e':=by
 intro X sx ok e e' h;cases e with
 |Name x p=>
  have h:An sx x=af e':=h;unfold An at h;split at h
  ·cases h
  ·rename_i hd;have hd1:(x==("__debug__" :Str))=false:=by
    cases q:(x==("__debug__" :Str))with|false=>rfl|true=>simp_all
   have hd2:(x==("__classdict__" :Str))=false:=by
    cases q:(x==("__classdict__" :Str))with|false=>rfl|true=>simp_all
   have var:∀{i:Nat},idx sx.N x=af i->Lm X.env.scope x->JE X (ao fns k) (.Name x p) (.var i):=λ{i} q v=>PX (by rw[ok.N];exact jL q) v hd1 hd2;split at h
   ·rename_i hk;obtain⟨i,h1,e⟩:=cG h;subst e;exact var h1 (.inl (by rw[ok.names];exact hk))
   ·rename_i hk;obtain⟨i,h1,e⟩:=cG h;subst e;exact var h1 (.inr (.inl (by rw[ok.names];exact hk)))
   ·rename_i hk;obtain⟨i,h1,e⟩:=cG h;subst e;exact var h1 (.inr (.inr (by rw[ok.names];exact hk)))
   ·rename_i hk;obtain⟨i,h1,e⟩:=cG h;subst e;obtain⟨u,hu,ht⟩:=ok.ct x i h1;exact GZ (by show X.env.scope.names.lookup x=_;rw[ok.names];exact hk) hu ht hd1
   ·cases h
 |Constant c j p=>
  have h:qC c=af e':=h;cases c with|int i=>have e:=Wd h;subst e;exact CP|bool b=>have e:=Wd h;subst e;exact Jy|none=>have e:=Wd h;subst e;exact CQ|str x=>have e:=Wd h;subst e;exact CT|_=>cases h
 |BinOp a o b p=>obtain⟨a',b',h1,h2,e⟩:=bQ (show aU (λa' b'=>E.bin o a' b') (cE n sx a) (cE n sx b)=af e' from h);subst e;exact P0 (ih.e X sx ok _ _ h1) (ih.e X sx ok _ _ h2)
 |UnaryOp o a p=>
  cases o with
  |USub=>obtain⟨a',h1,e⟩:=cG (show(cE n sx a).map .neg=af e' from h);subst e;exact Qa (ih.e X sx ok _ _ h1)
  |Not=>obtain⟨a',h1,e⟩:=cG (show(cE n sx a).map .nt=af e' from h);subst e;exact Qe (ih.e X sx ok _ _ h1)
  |_=>cases h
 |Compare a ops bs p=>
  cases ops with
  |nil=>cases h|cons o ro=>
   cases bs with
   |nil=>cases h|cons b rb=>
    cases ro with
    |nil=>
     cases rb with
     |cons _ _=>cases h|nil=>
      have h:(if behindInMarks o b then ah else aU (λa' b'=>E.cmp o a' b') (cE n sx a) (cE n sx b))=af e':=h;split at h
      ·cases h
      ·rename_i hm;obtain⟨a',b',h1,h2,e'⟩:=bQ h;subst e';exact Qc ok.units (ih.e X sx ok _ _ h1) (ih.e X sx ok _ _ h2) (by simpa using hm)
    |cons o' HM=>
     cases HM with
     |cons _ _=>cases h|nil=>
      cases rb with
      |nil=>cases h|cons c rc=>
       cases rc with|cons _ _=>cases h|nil=>cases h
 |BoolOp o es p=>exact ih.bv X sx ok _ _ _ _ h|IfExp c a b p=>obtain⟨a',b',c',h1,h2,h3,e⟩:=o7 (show gB (λc' a' b'=>E.ite c' a' b') (cT n sx c) (cE n sx a) (cE n sx b)=af e' from h);subst e;exact Ql (ih.t X sx ok _ _ h1) (ih.e X sx ok _ _ h2) (ih.e X sx ok _ _ h3)
 |Tuple es kk p=>obtain⟨a',h1,e⟩:=cG (show(Au n sx es).map .tup=af e' from h);subst e;exact Qn (ih.es X sx ok _ _ h1)
 |List es p=>obtain⟨a',h1,e⟩:=cG (show(Au n sx es).map (.lst (sx.AZ p))=af e' from h);subst e;exact Qo (ih.es X sx ok _ _ h1)
 |Dict ks vs p=>
  cases ks with
  |nil=>
   cases vs with|nil=>have e:=Wd h;subst e;exact Qp|cons _ _=>cases h
  |cons q r=>cases h
 |Subscript a i p=>
  have YV:aU (λa' b'=>E.ix a' b') (cE n sx a) (cE n sx i)=af e'->(∀ov iv,subscripted i ay ov iv=operate [ov,iv] (getItem ov iv))->JE X (ao fns k) (.Subscript a i p) e':=λh hs=>by obtain⟨a',b',h1,h2,e⟩:=bQ h;subst e;exact T7 ok.units (ih.e X sx ok _ _ h1) (ih.e X sx ok _ _ h2) λo i=>hs o i
  cases i with
  |Slice lo hi st q=>
   cases st with
   |some _=>cases h|none=>
    cases lo with
    |none=>
     cases hi with
     |none=>cases h|some b=>obtain⟨a',b',h1,h2,e⟩:=bQ (show aU (λa' b'=>E.DF a' b') (cE n sx a) (cE n sx b)=af e' from h);subst e;exact Qs (ih.e X sx ok _ _ h1) (ih.e X sx ok _ _ h2)
    |some b=>
     cases hi with
     |none=>obtain⟨a',b',h1,h2,e⟩:=bQ (show aU (λa' b'=>E.GH a' b') (cE n sx a) (cE n sx b)=af e' from h);subst e;exact Qq (ih.e X sx ok _ _ h1) (ih.e X sx ok _ _ h2)
     |some c=>obtain⟨a',b',c',h1,h2,h3,e⟩:=o7 (show gB (λa' b' c'=>E.DH a' b' c') (cE n sx a) (cE n sx b) (cE n sx c)=af e' from h);subst e;exact KZ (ih.e X sx ok _ _ h1) (ih.e X sx ok _ _ h2) (ih.e X sx ok _ _ h3)
  |_=>exact YV h λ_ _=>rfl
 |Call f as ks p=>
  cases ks with
  |cons _ _=>cases f<;>cases h|nil=>
   cases f with|Name x q=>exact ih.call X sx ok _ _ _ _ _ h|Attribute o m q=>exact ih.meth X sx ok _ _ _ _ _ _ h|_=>cases h
 |Attribute a f p=>
  have h:(if isCall a then ah else match mq sx.cl f with|some c=>(cE n sx a).map (E.fld c f)|none=>ah)=af e':=h;split at h
  ·cases h
  ·rename_i hic;split at h
   ·rename_i c hc;obtain⟨a',h1,e⟩:=cG h;subst e;exact Q6 (ih.e X sx ok _ _ h1) (dC (λa b c d z=>by subst z;exact hic rfl) _ _) (ok.fld hc)
   ·cases h
 |ListComp elt gens scope p=>
  cases gens with
  |nil=>cases h|cons g r=>
   cases r with
   |cons _ _=>cases h|nil=>
    obtain⟨tg,iter,ifs,as⟩:=g;have h:(if as=0 then KI n sx elt tg iter ifs scope p else ah)=af e':=h;by_cases ha:as=0
    ·subst ha;rw[if_pos rfl]at h;obtain⟨mu,elt',tt,ifs',nn,cap,cp,hi,hf,hin⟩:=ih.lc X sx ok _ _ _ _ _ _ _ h;exact yw cp ok.calm hi hf hin
    simp_all
 |JoinedStr vs p=>
  cases vs with
  |nil=>cases h|cons v r=>
   cases r with
   |nil=>cases h|cons v2 r=>
    have h:(if HA (v::v2::r)<=aS then(EW n sx (v::v2::r)).map .fmt else ah)=af e':=h;split at h
    ·rename_i hw;obtain⟨as,h1,e⟩:=cG h;subst e;exact Q3 ok.room (ih.fm X sx ok _ _ h1) hw
    ·cases h
 |_=>cases h
theorem gm:∀n,SE fns k n
 |0=>Mu|n+1=>by have ih:=gm n;exact⟨VV ih,Uj ih,Mx ih,Rm ih,Mz ih,MF ih,Uk ih,Um ih,VR ih,Uo ih,Ul ih,VP ih,Ui ih⟩
structure SS(fns:List B9)(k n:Nat):Prop where
 s:∀X sx,wm X sx fns k->sx.isDef=ai->∀st c,cC n sx st=af c->JS X (ao fns k) st c
 ss:∀X sx,wm X sx fns k->sx.isDef=ai->∀st c,BY n sx st=af c->CD X (ao fns k) st c
 a:∀X sx,wm X sx fns k->sx.isDef=ai->∀tg e pos c,Ho n sx tg e pos=af c->JS X (ao fns k) (.Assign [tg] e pos) c
theorem yJ:∀{n:Nat}{es:List bE}{es':List E},Au n sx es=af es'->es'.length=es.length
 |0,es,es',h=>by cases h|n+1,[],es',h=>by
  have e:[]=es':=by simpa[Au]using h
  subst e;rfl
 |n+1,x::r,es',h=>by unfold Au at h;obtain⟨e'',r',e1,e2,e3⟩:=bQ h;subst e3;simp[yJ e2]
def Ec:swapsWithSole [.Subscript o i sp] e l env=pure false:=by cases e<;>rfl
def pG(h1:∀a b c d,e≠ .ListComp a b c d)(h2:∀a b c d,e≠ .SetComp a b c d)(h3:∀a b c d f,e≠ .DictComp a b c d f):swapsWith e t l env=pure false:=by
 cases e<;>first
  |rfl|exact absurd rfl (h1 _ _ _ _)|exact absurd rfl (h2 _ _ _ _)|lia
def H8:∃b,swapsWith (.ListComp elt gens scope pos) (af (.Name x p)) l env=pure b:=⟨_,rfl⟩
def Ed(h:mz sx tg it=af b):∃ts kt pt xp bp,tg= .Tuple ts kt pt/\it= .Call (.Name "enumerate" xp) [b] [] bp/\sx.blt "enumerate" =true:=by
 unfold mz at h;by_cases ht:vg tg=ai
 ·rw[if_pos ht]at h;obtain⟨ts,kt,pt,rfl⟩:=Du ht;cases q:fc it with
  |none=>simp_all|some yb=>
   obtain⟨x,as⟩:=yb;rw[q]at h;obtain⟨xp,bp,rfl⟩:=iB q
   grind
 simp_all
theorem Bb(h:raiseOf ex=af (c,e₀,r)):∃np cpos,ex=af (.Call (.Name c np) (e₀::r) [] cpos):=by
 cases ex with
 |none=>cases h|some e=>
  replace h:(match fc e with|none=>ah|some (c,as)=>match as with|[]=>ah|e₀::r=>af (c,e₀,r))=af (c,e₀,r):=h;cases q:fc e with
  |none=>simp_all|some yb=>
   obtain⟨x,as⟩:=yb;rw[q]at h;cases as with
   |nil=>cases h|cons a r'=>cases h;obtain⟨xp,p,rfl⟩:=iB q;lia
theorem H9(h:uc hs oe fb=af (cn,b₀,hb)):∃cp hp,hs=[.ExceptHandler (af (.Name cn cp)) ah (b₀::hb) hp]/\oe=[]/\fb=[]:=by
 cases oe with
 |cons _ _=>cases h|nil=>
  cases fb with
  |cons _ _=>cases h|nil=>
   cases hs with
   |nil=>cases h|cons hh r=>
    cases r with
    |cons _ _=>cases h|nil=>
     cases hh with
     |ExceptHandler ty nm' bd hp=>
      cases nm' with
      |some _=>cases h|none=>
       cases ty with
       |none=>cases h|some e=>
        cases bd with
        |nil=>cases h|cons b r=>obtain⟨x,h1,e⟩:=cG (show(nameOf e).map (λcn=>(cn,b,r))=af (cn,b₀,hb)from h);cases e;obtain⟨cp,rfl⟩:=jt h1;lia
theorem MJ(h:Aw e=af (elt,g,scope,lp)):e= .ListComp elt [⟨g.target,g.iter,g.ifs,0⟩] scope lp:=by
 cases e with
 |ListComp elt' gens scope' YY=>
  cases gens with
  |nil=>cases h|cons g' r=>
   cases r with
   |cons _ _=>cases h|nil=>obtain⟨a,b,c,d⟩:=g';have h:(if d=0 then af (elt',(⟨a,b,c,d⟩:Comprehension),scope',YY)else ah)=af (elt,g,scope,lp):=h;lia
 |_=>cases h
def rF(h:gM e=ay):(∀a b c d,e≠ .ListComp a b c d)/\(∀a b c d,e≠ .SetComp a b c d)/\(∀a b c d f,e≠ .DictComp a b c d f):=
 ⟨λa b c d z=>(by subst z;cases h),λa b c d z=>(by subst z;cases h),λa b c d f z=>(by subst z;cases h)⟩
def rG(h:¬gM e=ai):gM e=false:=by lia
def Bc:swappedStores [.Subscript o i sp] e env=pure none:=by rfl
def Ef:swapsWithSole [.Tuple ts kt pt] e l env=pure false:=by cases e<;>rfl
def Bd(h:my e=ay):swappedStores [.Tuple ts kt pt] e env=pure none:=by cases e<;>first|rfl|cases h
theorem MK(h2:cE n sx i=af i'):∀v,assign (.Subscript o i sp) env v=(do
   let ov ←holding [v] (eval o env)
   let iv ←holding [v,ov] (eval i env)
   standAt sp
   holding [v,ov,iv] (setItem ov iv v)
   release [v,ov,iv] []):=by
 intro v;cases n with
 |zero=>cases h2|succ n=>cases i<;>first|rfl|cases h2
theorem Rn:∀X sx,wm X sx fns k->sx.isDef=ai->∀tg e pos c,Ho (n+1) sx tg e pos=af c->JS X (ao fns k) (.Assign [tg] e pos) c:=by
 intro X sx ok hdf tg e pos c h;cases tg with
 |Subscript o i sp=>
  have h:(gB (λo' i' e'=>C.sub o' i' e') (cE n sx o) (cE n sx i) (cE n sx e))=af c:=h
  ·skip
   obtain⟨o',i',e',h1,h2,h3,ec⟩:=o7 h;subst ec;exact QR ok.units ((gm n).e X sx ok _ _ h1) ((gm n).e X sx ok _ _ h2) ((gm n).e X sx ok _ _ h3) Ec Bc (MK h2)
 |Attribute o f ap=>
  have h:(if gM e=ai then ah else match mq sx.cl f with|some c=>aU (λo' e'=>C.fset c f o' e') (cE n sx o) (cE n sx e)|none=>ah)=af c:=h;split at h
  ·cases h
  ·rename_i hic;obtain⟨n1,n2,n3⟩:=rF (rG hic);split at h
   ·rename_i cc hc;obtain⟨o',e',h1,h2,ec⟩:=bQ h;subst ec;exact Ma ((gm n).e X sx ok _ _ h1) ((gm n).e X sx ok _ _ h2) (pG (t:=af (.Attribute o f ap)) (l:=pos.line) (env:=X.env) n1 n2 n3) (ok.fld hc)
   ·cases h
 |Tuple ts kt pt=>
  have h:(if my e=ai then ah else aU (λt e'=>C.asg t e') (CF sx n (.Tuple ts kt pt)) (cE n sx e))=af c:=h;split at h
  ·cases h
  ·rename_i hit;obtain⟨t,e',h1,h2,ec⟩:=bQ h;subst ec;have hit:my e=false:=by
    cases q:my e with|false=>rfl|true=>lia
   exact qx ((gm n).e X sx ok e e' h2) ((iC ok n).1 _ t h1) Ef (Bd hit) rfl
 |Name x xp=>
  have h:(match Aw e with
   |some (elt,g,scope,lp)=>aU (λt e'=>C.asg t e') (CF sx n (.Name x xp)) (KI n sx elt g.target g.iter g.ifs scope lp)
   |none=>if gM e=ai then ah else aU (λt e'=>C.asg t e') (CF sx n (.Name x xp)) (cE n sx e))=af c:=h
  cases q:Aw e with
  |some pr=>
   obtain⟨elt,g,scope,lp⟩:=pr;rw[q]at h;simp only at h;have eq:=MJ q;subst eq;obtain⟨t,e',h1,h2,ec⟩:=bQ h;subst ec;have G:=(iC ok n).1 _ t h1;obtain⟨mu,elt',tt,ifs',nn,cap,cp,hi,hf,hin⟩:=(gm n).lc X sx ok _ _ _ _ _ _ _ h2;obtain⟨i,rfl⟩:∃i,t= .name i:=by
    cases n with
    |zero=>cases h1|succ n=>
     have h1:(if sx.names.lookup x=af .local\/(sx.isDef=ai/\sx.names.lookup x=af .cell)then(idx sx.N x).map .name else ah)=af t:=h1;split at h1
     ·obtain⟨i,_,e⟩:=cG h1
      grind
     ·cases h1
   obtain⟨b,hb⟩:=H8 (elt:=elt) (gens:=[⟨g.target,g.iter,g.ifs,0⟩]) (scope:=scope) (pos:=lp) (x:=x) (p:=xp) (l:=pos.line) (env:=X.env);cases b with|false=>exact qx (yw cp ok.calm hi hf hin) G hb rfl rfl|true=>exact Ly cp ok.calm hi hf hin hb G
  |none=>
   rw[q]at h;simp only at h;split at h
   ·cases h
   ·rename_i hic;obtain⟨n1,n2,n3⟩:=rF (rG hic);obtain⟨t,e',h1,h2,ec⟩:=bQ h;subst ec;exact qx ((gm n).e X sx ok e e' h2) ((iC ok n).1 _ t h1) (pG (t:=af (.Name x xp)) (l:=pos.line) (env:=X.env) n1 n2 n3) rfl rfl
 |_=>cases h
theorem V0(ih:SS fns k n):∀X sx,wm X sx fns k->sx.isDef=ai->∀st c,cC (n+1) sx st=af c->JS X (ao fns k) st c:=by
 intro X sx ok hdf st c h;have E:=gm (fns:=fns) (k:=k) n;obtain⟨_,hp,hs,hf⟩:=ok.isDef hdf;cases st with
 |Assign OT e pos=>
  cases OT with
  |nil=>cases h|cons tg r=>
   cases r with|nil=>exact ih.a X sx ok hdf _ _ _ _ h|cons _ _=>cases h
 |Expr e pos=>
  have h:(if JH e=ai then af C.pass else if gM e=ai then ah else(cE n sx e).map .ex)=af c:=h;split at h
  ·rename_i hd;have e:=Wd h;subst e;cases e with
   |Constant cc j p=>
    cases cc with|str x=>exact QS|_=>cases hd
   |_=>cases hd
  ·split at h
   ·cases h
   ·rename_i hic;obtain⟨n1,n2,n3⟩:=rF (rG hic);obtain⟨e',h1,ec⟩:=cG h;subst ec;exact Ua (E.e X sx ok _ _ h1) (pG n1 n2 n3)
 |If c0 a b p=>obtain⟨a',b',c',h1,h2,h3,e'⟩:=o7 (show gB (λc' a' b'=>C.cond c' a' b') (cT n sx c0) (BY n sx a) (BY n sx b)=af c from h);subst e';exact Ub (E.t X sx ok _ _ h1) (ih.ss X sx ok hdf _ _ h2) (ih.ss X sx ok hdf _ _ h3)
 |While c0 a oe p=>
  cases oe with
  |cons _ _=>cases h|nil=>
   have h:(if sx.lp=ai then aU (λc' a'=>C.wh c' a') (cT n sx c0) (BY n sx a)else ah)=af c:=h;split at h
   ·rename_i hlp;obtain⟨a',b',h1,h2,e'⟩:=bQ h;subst e';exact Hf (hp hlp) (E.t X sx ok _ _ h1) (ih.ss X sx ok hdf _ _ h2)
   ·cases h
 |For tg it a oe p=>
  cases oe with
  |cons _ _=>cases h|nil=>
   have h:(if sx.lp=ai then(if sx.HK p=ai then(if ¬fJ it=ai then gB (λt' e' a'=>C.C6 t' e' a') (CF sx n tg) (cE n sx it) (BY n sx a)else ah)else match mz sx tg it with
     |some b=>gB (λt' i' a'=>C.fr t' (.BB i') a') (CF sx n tg) (cE n sx b) (BY n sx a)
     |none=>gB (λt' i' a'=>C.fr t' i' a') (CF sx n tg) (cI n sx it) (BY n sx a))
    else ah)=af c:=h
   by_cases hlp:sx.lp=ai
   ·rw[if_pos hlp]at h;by_cases hfr:sx.HK p=ai
    ·rw[if_pos hfr]at h;by_cases hse:¬fJ it=ai
     ·rw[if_pos hse]at h;obtain⟨a',b',c',h1,h2,h3,e'⟩:=o7 h;subst e';exact Ra (hp hlp) ok.calm (E.e X sx ok _ _ h2) ((iC ok n).1 _ _ h1) (ih.ss X sx ok hdf _ _ h3) (rE hse _)
     lia
    rw[if_neg hfr]at h;cases q:mz sx tg it with
    |some b=>rw[q]at h;obtain⟨ts,kt,pt,xp,bp,rfl,rfl,hr⟩:=Ed q;obtain⟨r1,r2⟩:=ok.bl hr;obtain⟨a',b',c',h1,h2,h3,e'⟩:=o7 h;subst e';exact Dn (hp hlp) ok.calm (LR r1 r2 (E.e X sx ok _ _ h2) (bU h2 _ _)) ((iC ok n).1 _ _ h1) (ih.ss X sx ok hdf _ _ h3) (λ_=>rfl)
    |none=>rw[q]at h;obtain⟨a',b',c',h1,h2,h3,e'⟩:=o7 h;subst e';obtain⟨hi,hf⟩:=E.i X sx ok _ _ _ h2;exact Dn (hp hlp) ok.calm hi ((iC ok n).1 _ _ h1) (ih.ss X sx ok hdf _ _ h3) hf
   simp_all
 |Return e p=>
  cases e with
  |some e=>obtain⟨a',h1,e'⟩:=cG (show(cE n sx e).map .ret=af c from h);subst e';exact QV (E.e X sx ok _ _ h1)
  |none=>have e:=Wd h;subst e;exact Lp
 |Pass p=>have e:=Wd h;subst e;exact Lk|Break p=>have e:=Wd h;subst e;exact QT|Continue p=>have e:=Wd h;subst e;exact Ln|Raise ex cs p=>
  cases cs with
  |some _=>cases h|none=>
   replace h:(match raiseOf ex with
    |some (c,e₀,r)=>if(sx.xc.lookup c).isSome=ai/\sx.glob c=ai/\r.length<=30 then(Au n sx (e₀::r)).map (C.raise c)else ah
    |none=>ah)=af c:=h
   cases q:raiseOf ex with
   |none=>simp_all|some pr=>
    obtain⟨cn,e₀,r⟩:=pr;rw[q]at h;replace h:(if(sx.xc.lookup cn).isSome=ai/\sx.glob cn=ai/\r.length<=30 then(Au n sx (e₀::r)).map (C.raise cn)else ah)=af c:=h;obtain⟨np,cpos,rfl⟩:=Bb q;by_cases hc:(sx.xc.lookup cn).isSome=ai/\sx.glob cn=ai/\r.length<=30
    ·rw[if_pos hc]at h;obtain⟨hx,hg,hl⟩:=hc;obtain⟨as',h1,e⟩:=cG h;subst e;obtain⟨l,hl2⟩:=XX.mp hx;obtain⟨C,hC,hE,_⟩:=ok.xc cn l (Xp hl2);obtain⟨g1,g2,_⟩:=ok.gl hg;have hst:=fL h1 X.env;have hse:starEach (e₀::r) X.env=(ay,eval e₀ X.env)::starEach r X.env:=by
      cases n with
      |zero=>cases h1|succ n=>obtain⟨x,y,q1,q2,_⟩:=bQ (show aU (λe' r'=>(e'::r')) (cE n sx e₀) (Au n sx r)=af as' from h1);exact bU q1 _ _
     have hlen:as'.length=r.length+1:=by rw[yJ h1];rfl
     exact Hl ok.room.hd g1 g2 hC hE (E.es X sx ok _ _ h1) (by rw[hlen];exact Wa (uu hl) (by decide)) hse (g8 hst)
    ·rw[if_neg hc]at h;cases h
 |Try body hds oe fb p=>
  replace h:(match uc hds oe fb with
   |some (cn,b₀,hb)=>if(sx.xc.lookup cn).isSome=ai/\sx.glob cn=ai then aU (λbs hs=>C.tr bs (qD sx cn) ah hs) (BY n {sx with lp:=ay} body) (rA sx (b₀::hb))else ah
   |none=>ah)=af c:=h
  cases q:uc hds oe fb with
  |none=>simp_all|some pr=>
   obtain⟨cn,b₀,hb⟩:=pr;rw[q]at h;replace h:(if(sx.xc.lookup cn).isSome=ai/\sx.glob cn=ai then aU (λbs hs=>C.tr bs (qD sx cn) ah hs) (BY n {sx with lp:=ay} body) (rA sx (b₀::hb))else ah)=af c:=h;obtain⟨cp,hp2,rfl,rfl,rfl⟩:=H9 q;by_cases hc:(sx.xc.lookup cn).isSome=ai/\sx.glob cn=ai
   ·rw[if_pos hc]at h;obtain⟨hx,hg⟩:=hc;obtain⟨bs,hs',h1,h3,e⟩:=bQ h;subst e;obtain⟨l,hl2⟩:=XX.mp hx;have hm:=Xp hl2;obtain⟨Cb,hCb,_⟩:=ok.xc cn l hm;obtain⟨g1,g2,_⟩:=ok.gl hg;refine QZ hs hf g1 (ok.xm cn l Cb hm hCb) g2 (λpn Ex=>?_) (λe=>DW (ok.hand e) h3) λc hcm C hC=>?_
    ·exact ih.ss (kY X pn Ex) {sx with lp:=ay} ⟨ok.N,ok.nd,ok.names,ok.kind,ok.calm,ok.room,λz=>⟨(ok.isDef z).1,λq=>Bool.noConfusion q,hs,hf⟩,ok.cl,ok.fns,ok.blt,ok.ct,ok.xc,ok.xm⟩ hdf _ _ h1
    ·obtain⟨l',q1,q2⟩:=DQ hcm;obtain⟨C',w1,_,_,_,w5⟩:=ok.xc c l' q1
     grind
   lia
 |_=>cases h
theorem Uq(ih:SS fns k n):∀X sx,wm X sx fns k->sx.isDef=ai->∀st c,BY (n+1) sx st=af c->CD X (ao fns k) st c:=by
 intro X sx ok hdf st c h;cases st with
 |nil=>have e:[]=c:=Wd h;subst e;exact yq|cons s r=>
  replace h:(if sx.HL s.pos=ai then af [C.no]else aU (λs' r'=>(s'::r')) (cC n sx s) (BY n sx r))=af c:=h;by_cases hn:sx.HL s.pos=ai
  ·rw[if_pos hn]at h;have e:=Wd h;subst e;exact Rg
  ·rw[if_neg hn]at h;obtain⟨a',b',h1,h2,e'⟩:=bQ h;subst e';exact uW (ih.s X sx ok hdf _ _ h1) (ih.ss X sx ok hdf _ _ h2)
theorem Eg:∀n,SS fns k n
 |0=>⟨λX sx _ _ st c h=>(by cases h),λX sx _ _ st c h=>(by cases h),λX sx _ _ tg e pos c h=>(by cases h)⟩|n+1=>by have ih:=Eg n;exact⟨V0 ih,Uq ih,Rn⟩
end RK
namespace RK
open PySem L2 PySem.SeqAt PySem.Spec
section
variable{K:aT}{C D:aI}
structure II(K:aT)(C:aI)(bm:List av)(new:String):Prop where
 ex:∃(dd:Option aI)(cd:ClassData)(k0 k1 k2 k3 k5:Option av),K.lookup C=af ⟨.type "type",dd,.cls cd, #[k0,k1,k2,k3,af (.builtin new),k5]⟩/\cd.mro= .ref C::bm/\cd.hasDel=ay/\r8 K cd.ns=ai/\bP K cd.ns "__init__" =af ah
def yK(l:K.lookup N=af ⟨c,d,.dict es ep,sl⟩)(h:(es.toList.all λe=>match e.key with|.str _ _=>ai|_=>ay)=ai):r8 K N=true:=by unfold r8;rw[l];simp only;rw[←Array.all_toList];exact h
def Ro(x:II K C bm new)(t:i6 K bmB bm=ai):gp K C bmB new=true:=by
 obtain⟨dd,cd,k0,k1,k2,k3,k5,l,m,nd,no,ni⟩:=x.ex;unfold gp
 simp_all
def yL(hs:fq K (.ref C) (.ref D)=af b)(hself:fq K (.ref C) (.ref C)=af ai)(hc:∃cd,sL K D=af cd)(ht:mh K (.ref D)=af (.type "type")):eT K (.ref C) (.ref D)=af b/\i7 K (.ref C) (.ref D)=af b:=by
 obtain⟨cd,hc⟩:=hc;have e:i7 K (.ref C) (.ref D)=af b:=by unfold i7;simp only[hc,ht];simpa using hs
 refine⟨?_,e⟩;unfold eT;lia
def MN(h:i7 K (.ref C) (.ref D)=af b)(hb:fq K (.ref D) (.type "BaseException")=af ai):fE K (.ref C) (.ref D)=af b:=by unfold fE;lia
def MP(h:fq K (.ref C) (.type "ValueError")=af b):eT K (.ref C) (.type "ValueError")=af b:=by
 unfold eT i7;have e:PySem.W.kitMeta "ValueError" =true:=by decide+kernel
 lia
def Eh:i6 K EG EG=true:=by rfl
def tail_cons(l:K.lookup R=af ⟨c,d,.cls cd,sl⟩)(N:K.lookup cd.ns=af ⟨nc,nd,.dict es ep,Y3⟩)(I:bP K cd.ns "__init__" =af ah)(A:(es.toList.all λe=>match e.key with|.str _ _=>ai|_=>ay)=ai)(t:i6 K EG r=ai):i6 K EG (.ref R::r)=true:=by rw[PySem.W.tailIn.eq_def];simp only[l,yK N A,I,t];simp
def Rp{dd nd:Option aI}(l:K.lookup C=af ⟨.type "type",dd,.cls cd,sl⟩)(N:K.lookup cd.ns=af ⟨nc,nd,.dict es ep,Y3⟩)(I:bP K cd.ns "__init__" =af ah)(A:(es.toList.all λe=>match e.key with|.str _ _=>ai|_=>ay)=ai)(m:cd.mro= .ref C::bm)(s:sl= #[k0,k1,k2,k3,af (.builtin "ValueError.__new__"),k5])(hd:cd.hasDel=ay)(t:i6 K EG bm=ai):gp K C EG "ValueError.__new__" =true:=by subst s;exact Ro ⟨dd,cd,k0,k1,k2,k3,k5,l,m,hd,yK N A,I⟩ t
def Ei(l:K.lookup D=af ⟨c,d,.cls cd,sl⟩):∃cd,sL K D=af cd:=⟨cd,by unfold sL;rw[l]⟩
def EJ(l:K.lookup D=af ⟨c,d,.cls cd,sl⟩)(ht:mh K (.ref D)=af (.type "type"))(hself:fq K (.ref C) (.ref C)=af ai)(hs:fq K (.ref C) (.ref D)=af b):eT K (.ref C) (.ref D)=af b:=
 (yL hs hself (Ei l) ht).1
def Ia(l:K.lookup D=af ⟨c,d,.cls cd,sl⟩)(ht:mh K (.ref D)=af (.type "type"))(hself:fq K (.ref C) (.ref C)=af ai)(hs:fq K (.ref C) (.ref D)=af b)(hb:fq K (.ref D) (.type "BaseException")=af ai):fE K (.ref C) (.ref D)=af b:=
 MN (yL hs hself (Ei l) ht).2 hb
end
structure Def where
 name:Str
 st:fT
 qual:Str:=name
def Def.ps(d:Def):List Str:=(gH d.st).args.map (·.arg)
def Def.N(d:Def):List Str:=d.ps++(((bM d.st).names.filter λp=>(p.2== .local || p.2== .cell) && !d.ps.contains p.1).map (·.1))
structure Prog where
 defs:List Def
 ct:List (Str×Int)
 bl:List Str
 mu:List (Nat×Nat)
 xc:List (Str×List Str):=[]
 cls:List (Str×List Str×List (Str×Nat)):=[]
def Pc(defs:List Def):List (Str×Nat×Nat):=(defs.zipIdx.filter λp=>p.1.qual==p.1.name).map λp=>(p.1.name,p.2,p.1.ps.length)
def Pd(p:Prog):List (Str×List Str×List (Str×Nat×Nat)):=p.cls.map λc=>(c.1,c.2.1,c.2.2.map λm=>(m.1,m.2,((p.defs[m.2]?).map λd=>d.ps.length).getD 0))
def Rq(p:Prog)(d:Def):Sx:=⟨d.N,(bM d.st).names,Pc p.defs,p.ct,p.bl,p.mu,ai,ai,p.xc,Pd p⟩
def bodyOf(p:Prog)(d:Def):Option (List C):=BY 80 (Rq p d) (fW d.st)
def Fits(p:Prog)(d:Def)(fs:B9):Prop:=d.ps.length=fs.np/\d.N.length=fs.nn/\bodyOf p d=af fs.body
def ud(d:Def):Bool:=
 let sc:=bM d.st
 (sc.kind== .function) && !sc.isCoroutine && !sc.isGenerator && decide d.N.Nodup && decide (d.N.take d.ps.length=d.ps)
  && d.ps.all (λx=>sc.names.lookup x==af .local || sc.names.lookup x==af .cell) && sc.names.all (λy=>y.2 != .free)
def Ib(h:ud d=ai):A7 d.N d.ps (bM d.st):=by
 unfold ud at h;simp only[WT]at h;obtain⟨⟨⟨⟨⟨⟨h1,h2⟩,h3⟩,h4⟩,h5⟩,h6⟩,h7⟩:=h;refine⟨by simpa using h1,by simpa using h2,by simpa using h3,WR h4,WR h5,λx hx=>?_,λy hy z=>?_⟩
 ·simp_all
 grind
def AV(K:aT)(x:Str)(st:fT):Prop:=∃f fd,LF K x x st f fd/\bP K mainGlobals x=af (af (.ref f))/\∀us:List av,us.length=(Def.ps ⟨x,st,x⟩).length->bindArgs fd ⟨us,[]⟩=pure ((Def.ps ⟨x,st,x⟩).zip us)
def bC{kV doc pm cdv ct:av}(a:bP K mainGlobals x=af (af (.ref f)))(l:K.lookup f=af ⟨oc,od,.func (f6 x x (gH st) (fW st) (bM st) .none kV doc pm an cdv ct),osl⟩)(c:i0 K cdv x=ai)(k:e9 K (.ref f)=ai)(b:∀(kV doc pm:av)(an:Option aI)(cdv ct:av)(us:List av),us.length=(Def.ps ⟨x,st,x⟩).length->bindArgs (f6 x x (gH st) (fW st) (bM st) .none kV doc pm an cdv ct) ⟨us,[]⟩=pure ((Def.ps ⟨x,st,x⟩).zip us)):AV K x st:=
 ⟨f,_,Cm l c k,a,b kV doc pm an cdv ct⟩
def V1{P:List av->Prop}(h:P []):∀us:List av,us.length=0->P us:=by simp_all
def Be{P:List av->Prop}(h:∀a,∀us:List av,us.length=n->P (a::us)):∀us:List av,us.length=n+1->P us:=by
 intro us e;cases us with|nil=>cases e|cons a us=>simp_all
def lr{P:List av->Prop}(h:∀a,P [a]):∀us:List av,us.length=1->P us:=Be λa=>V1 (h a)
def eG{P:List av->Prop}(h:∀a b,P [a,b]):∀us:List av,us.length=2->P us:=Be λa=>lr λb=>h a b
def pH{P:List av->Prop}(h:∀a b c,P [a,b,c]):∀us:List av,us.length=3->P us:=Be λa=>eG λb c=>h a b c
def Ie{P:List av->Prop}(h:∀a b c d,P [a,b,c,d]):∀us:List av,us.length=4->P us:=Be λa=>pH λb c d=>h a b c d
def lu(K:aT)(ds:List Def):Prop:=∀d∈ds,d.qual=d.name->AV K d.name d.st
def Ig:lu K []:=λd h=>by cases h
def bu(a:AV K d.name d.st)(r:lu K ds):lu K (d::ds):=λx hx e=>by
 rcases We.mp hx with rfl|hx
 ·exact a
 ·exact r x hx e
def dI(a:(d.qual==d.name)=ay)(r:lu K ds):lu K (d::ds):=λx hx e=>by
 rcases We.mp hx with rfl|hx
 ·lia
 ·exact r x hx e
def vK(K:aT):List Str->Prop
 |[]=>True|x::r=>bP K mainGlobals x=af ah/\vK K r
def Me(K:aT):List (Str×Int)->Prop
 |[]=>True|(x,i)::r=>(∃t,bP K mainGlobals x=af (af (.int i t)))/\Me K r
def yM{i:Nat}(h:lu K ds)(hd:ds[i]?=af d)(e:d.qual=d.name):AV K d.name d.st:=h d (Xb hd) e
def Bf(K:aT)(C:aI):List Str->Prop
 |[]=>True|f::r=>eY K C f/\Bf K C r
def Ih(K:aT)(defs:List Def)(C:aI)(m:Str)(i:Nat):Prop:=∃f fd d,defs[i]?=af d/\LF K d.name d.qual d.st f fd/\Meth K C m f/\(∀us:List av,us.length=d.ps.length->bindArgs fd ⟨us,[]⟩=pure (d.ps.zip us))/\(m= "__init__" ->Mk K C f)
def Bg(K:aT)(defs:List Def)(C:aI):List (Str×Nat)->Prop
 |[]=>True|(m,i)::r=>Ih K defs C m i/\Bg K defs C r
def Rr(K:aT)(defs:List Def)(c:Str)(fs:List Str)(ms:List (Str×Nat)):Prop:=∃C,bP K mainGlobals c=af (af (.ref C))/\Co K C/\Bf K C fs/\Bg K defs C ms
def qI(K:aT)(defs:List Def):List (Str×List Str×List (Str×Nat))->Prop
 |[]=>True|(c,fs,ms)::r=>Rr K defs c fs ms/\qI K defs r
def fM{C:aI}{osl:Array (Option av)}{kV doc pm cdv ct:av}(hd:defs[i]?=af d)(a:eB K (.ref C) m=af (af (.ref f)))(l:K.lookup f=af ⟨oc,od,.func (f6 d.name d.qual (gH d.st) (fW d.st) (bM d.st) .none kV doc pm an cdv ct),osl⟩)(c:i0 K cdv d.qual=ai)(k:e9 K (.ref f)=ai)(g:pS K (.ref f)=ai)(b:∀(kV doc pm:av)(an:Option aI)(cdv ct:av)(us:List av),us.length=d.ps.length->bindArgs (f6 d.name d.qual (gH d.st) (fW d.st) (bM d.st) .none kV doc pm an cdv ct) ⟨us,[]⟩=pure (d.ps.zip us))(mk:(m==("__init__" :Str))=ay\/(pV K C=ai/\e9 K (.ref C)=ai)):Ih K defs C m i:=
 ⟨f,_,d,hd,Cm l c k,⟨a,g,k⟩,b kV doc pm an cdv ct,λe=>by
  rcases mk with z|⟨z1,z2⟩
  ·lia
  ·subst e;exact⟨z1,a,g,z2⟩⟩
theorem vL{C:aI}:∀{l:List Str}{f:Str},Bf K C l->f∈l->eY K C f
 |[],f,_,h=>by cases h|g::r,f,h,hf=>by
  rcases We.mp hf with rfl|hf
  ·exact h.1
  ·exact vL h.2 hf
theorem vM{C:aI}:∀{l:List (Str×Nat)}{m:Str}{i:Nat},Bg K defs C l->(m,i)∈l->Ih K defs C m i
 |[],m,i,_,h=>by cases h|(m',i')::r,m,i,h,hm=>by
  rcases We.mp hm with e|hm
  ·injection e with e1 e2
   subst e1;subst e2;exact h.1
  ·exact vM h.2 hm
theorem vO:∀{l:List (Str×List Str×List (Str×Nat))}{c:Str}{fs:List Str}{ms:List (Str×Nat)},qI K defs l->(c,fs,ms)∈l->Rr K defs c fs ms
 |[],c,fs,ms,_,h=>by cases h|(c',fs',ms')::r,c,fs,ms,h,hm=>by
  rcases We.mp hm with e|hm
  ·injection e with e1 e2
   injection e2 with e2 e3
   subst e1;subst e2;subst e3;exact h.1
  ·exact vO h.2 hm
theorem yN:∀{l:List Str}{x:Str},vK K l->x∈l->bP K mainGlobals x=af ah
 |[],x,_,h=>by simp at h|y::r,x,h,hx=>by
  rcases We.mp hx with rfl|hx
  ·exact h.1
  ·exact yN h.2 hx
theorem Ej:∀{l:List (Str×Int)}{x:Str}{i:Int},Me K l->(x,i)∈l->∃t,bP K mainGlobals x=af (af (.int i t))
 |[],x,i,_,h=>by simp at h|(y,j)::r,x,i,h,hx=>by
  rcases We.mp hx with e|hx
  ·injection e with e1 e2
   subst e1;subst e2;exact h.1
  ·exact Ej h.2 hx
def M1(K:aT)(l:List Str)(C:aI):List (Str×List Str)->List aI->Prop
 |[],[]=>True|(d,_)::r,D::R=>(bP K mainGlobals d=af (af (.ref D))/\eT K (.ref C) (.ref D)=af (l.contains d)/\fE K (.ref C) (.ref D)=af (l.contains d))/\M1 K l C r R|_,_=>False
def Pe(K:aT)(xc:List (Str×List Str))(as:List aI):List (Str×List Str)->List aI->Prop
 |[],[]=>True| (c,l)::r,C::R=>(bP K mainGlobals c=af (af (.ref C))/\gp K C EG "ValueError.__new__" =ai/\CU K C/\eT K (.ref C) (.type "ValueError")=af (l.contains "ValueError")/\M1 K l C xc as)/\Pe K xc as r R|_,_=>False
theorem Ek{C:aI}:∀{xc:List (Str×List Str)}{as:List aI},M1 K l C xc as->∀d l',(d,l')∈xc->∀D,bP K mainGlobals d=af (af (.ref D))->eT K (.ref C) (.ref D)=af (l.contains d)/\fE K (.ref C) (.ref D)=af (l.contains d)
 |[],_,_,d,l',hd,_,_=>by cases hd|(x,y)::r,[],h,_,_,_,_,_=>h.elim|(x,y)::r,D'::R,h,d,l',hd,D,hD=>by
  rcases We.mp hd with e|e
  ·injection e with e1 e2
   subst e1;have e:=Rh hD h.1.1;subst e;exact h.1.2
  ·exact Ek h.2 d l' e D hD
theorem El:∀{r:List (Str×List Str)}{R:List aI},Pe K xc as r R->∀c l,(c,l)∈r->∃C,bP K mainGlobals c=af (af (.ref C))/\gp K C EG "ValueError.__new__" =ai/\CU K C/\eT K (.ref C) (.type "ValueError")=af (l.contains "ValueError")/\M1 K l C xc as
 |[],_,_,c,l,hc=>by cases hc|(x,y)::r,[],h,_,_,_=>h.elim|(x,y)::r,C::R,h,c,l,hc=>by
  rcases We.mp hc with e|e
  ·injection e with e1 e2
   subst e1;subst e2;exact⟨C,h.1⟩
  ·exact El h.2 c l e
def Ur(as:List aI)(h:Pe K xc as xc as):vA K xc:=λc l hc=>by obtain⟨C,h1,h2,h3,h4,h5⟩:=El h c l hc;exact⟨C,h1,h2,h3,h4,Ek h5⟩
def AQ(p:Prog):List Def->List B9->Prop
 |[],[]=>True|d::ds,f::fs=>ud d=ai/\Fits p d f/\AQ p ds fs|_,_=>False
theorem yO:∀{ds:List Def}{fs:List B9}{i:Nat}{d:Def},AQ p ds fs->ds[i]?=af d->∃f,fs[i]?=af f/\ud d=ai/\Fits p d f
 |[],fs,i,d,_,h=>by simp at h|e::r,[],i,d,h,hd=>h.elim|e::r,f::fs,0,d,h,hd=>by
  have:e=d:=by simpa using hd
  subst this;exact⟨f,rfl,h.1,h.2.1⟩
 |e::r,f::fs,i+1,d,h,hd=>by
  obtain⟨g,h1,h2⟩:=yO (ds:=r) (fs:=fs) (i:=i) h.2.2 (by simpa using hd)
  simp_all
def Ru(h:(Pc defs).lookup x=af (f,np)):∃d,defs[f]?=af d/\d.name=x/\d.ps.length=np/\d.qual=d.name:=by
 have hm:=Xp h;unfold Pc at hm
 grind
section
variable{P:ck}{w:cy}{K:aT}{mg:Str->Option av}{base h:dc}{p:Prog}{fns:List B9}
theorem vP(KX:K.In h)(G:h.Ns mainGlobals mg)(hA:lu K p.defs)(hB:vK K p.bl)(hC:Me K p.ct)(hX:vA K p.xc)(hK:qI K p.defs p.cls)(hF:AQ p p.defs fns):
  ∀(k i:Nat)(d:Def),p.defs[i]?=af d->∀f fd,LF K d.name d.qual d.st f fd->ya P w K mg base (A6 P w) (2*k) f fd d.ps (C9 K fns d.ps.length k i)
 |0,i,d,hd,f,fd,F=>Ls|k+1,i,d,hd,f,fd,F=>by
  obtain⟨fs,h1,h2,h3,h4,h5⟩:=yO hF hd;rw[h3];have Sc:=Ib h2;refine Uc F Sc h1 h3 h4 λcdv A outer s H E hr=>?_;refine(Eg 80).ss _ (Rq p d) ?_ rfl _ _ h5;refine⟨rfl,Sc.nd,rfl,Sc.kind,rfl,hr,λ_=>⟨λ_=>rfl,λ_=>PassesOwn.leaving,rfl,rfl⟩,λc fl ml hc=>?_,λx g np hx=>?_,λx hx=>PySem.W.mg_none_of KX G (yN hB hx),λx j hx=>?_,hX,λc l C _ hC=>kC KX G hC⟩
  ·have hc:(c,fl,ml)∈Pd p:=hc;unfold Pd at hc;obtain⟨⟨c',Ò,Ó⟩,q1,q2⟩:=Wn.mp hc;injection q2 with q2 q3
   injection q3 with q3 q4
   subst q2;subst q3;subst q4;obtain⟨C,w1,w2,w3,w4⟩:=vO hK q1;refine⟨C,w1,kC KX G w1,w2,λf hf=>vL w3 hf,λm g np hl=>?_⟩;obtain⟨⟨m',i'⟩,v1,v2⟩:=Wn.mp (Xp hl);injection v2 with v2 v3
   injection v3 with v3 v4
   subst v2;subst v3;subst v4;obtain⟨fa,fd',e,he,F',M,b',z⟩:=vM w4 v1;refine⟨fa,fd',e.ps,M,?_,.all b',z⟩;have q:=vP KX G hA hB hC hX hK hF k i' e he fa fd' F';simp only[he,XJ,kq];exact q
  ·obtain⟨e,he,rfl,rfl,hq⟩:=Ru hx;obtain⟨fa,fd',F',a',b'⟩:=yM hA he hq;rw[←hq]at F';exact⟨fa,fd',e.ps,vP KX G hA hB hC hX hK hF k g e he fa fd' (by lia),kC KX G a',F'.kp,.all b'⟩
  ·obtain⟨t,ht⟩:=Ej hC (Xp hx);exact⟨_,kC KX G ht,t,rfl⟩
end
def Bh(K:aT)(fns:List B9)(k i:Nat):Sp:=C9 K fns 1 k i
def MT(hval:∀ns:List Int,ns.length<=63->∃S,ao fns k i [.As ns] []=af (.ok (.bl ai) S)):
  ∀(H:Hp)(a:aI)(ns:List Int),ns.length<=63->E1 H->wc K H a (ns.map V.int)->Bh K fns k i [.ref a] H (λv _=>v= .bl ai) λ_ _ _=>False:=by
 intro H a ns hl hO hS;obtain⟨S,hv⟩:=hval ns hl;refine⟨rfl,[],[],[.As ns],⟨rfl,List.nodup_nil,λk a o h=>by simp at h⟩,f7.cons ?_ f7.nil,?_⟩
 ·unfold RD;refine⟨a,rfl,?_⟩;rcases hS with(h|⟨o,h⟩)|h
  ·rcases hO a with z|⟨o,xs,z⟩
   ·lia
   lia
  ·exact .inl ⟨o,h⟩
  ·exact .inr h
 ·rw[hv];intro m' H' v st sr rd;unfold RD at rd;exact rd
def Em(z:A6 P w [] H s (λ_ _ _=>False) e s'):False:=by obtain⟨_,_,_,_,_,_,_,_,_,_,_,_,_,q⟩:=z;exact q
def Rv{l:p5}{st:fT}{sn:Str}(KX:K.In h)(G:h.Ns mainGlobals mg)(hfa:mg "law" =af (.ref fa))(hA:lu K p.defs)(hB:vK K p.bl)(hC:Me K p.ct)(hX:vA K p.xc)(hK:qI K p.defs p.cls)(hF:AQ p p.defs fns)(hi:p.defs[i]?=af ⟨"law",st, "law"⟩)(hps:Def.ps ⟨"law",st, "law"⟩=[sn]):
  ∃fd:FuncData,(∀(s:aE)(v:av),BindsTo s fd ⟨[v],[]⟩ [(sn,v)])/\∀base:dc,K.In base->base.Ns mainGlobals mg->ya l.prog w K mg base (A6 l.prog w) (2*k) fa fd [sn] (Bh K fns k i):=by
 obtain⟨f,fd,F,a,b⟩:=yM hA hi rfl;have e:=hfa.symm.trans (kC KX G a);cases e;refine⟨fd,λs v=>?_,λbase hb nb=>?_⟩
 ·have q:=b [v] (by rw[hps];rfl);rw[hps]at q;exact .of_eq q
 ·have q:=vP (P:=l.prog) (w:=w) (base:=base) KX G hA hB hC hX hK hF k i _ hi fa fd F;rw[hps]at q;exact q
end RK
namespace K22
open PySem L2 RK
def top(i:Nat):Stmt:=PySem.Challenge.pw_ringkeep_k22_whole_changes_at_once.main.body.getD i (.Pass ⟨0,0,0,0⟩)
def E8:Prog where
 defs:=[⟨"power_of_two",top 6, "power_of_two"⟩,⟨"count_spots",top 7, "count_spots"⟩,⟨"home_place",top 8, "home_place"⟩,⟨"holders",top 9, "holders"⟩,⟨"must_be_spot",top 10, "must_be_spot"⟩,⟨"came",top 11, "came"⟩,⟨"went",top 12, "went"⟩,⟨"kept_keys",top 14, "kept_keys"⟩,⟨"first_keeper",top 15, "first_keeper"⟩,⟨"lines_of_key",top 16, "lines_of_key"⟩,⟨"rising_pairs",top 17, "rising_pairs"⟩,⟨"hand_over",top 18, "hand_over"⟩,⟨"__init__",inClass (top 19) 0, "Keep.__init__"⟩,⟨"ring",inClass (top 19) 1, "Keep.ring"⟩,⟨"put",inClass (top 19) 2, "Keep.put"⟩,⟨"has",inClass (top 19) 4, "Keep.has"⟩,⟨"keepers",inClass (top 19) 5, "Keep.keepers"⟩,⟨"mend_toward",inClass (top 19) 6, "Keep.mend_toward"⟩,⟨"come",inClass (top 19) 8, "Keep.come"⟩,⟨"go",inClass (top 19) 9, "Keep.go"⟩,⟨"move_to",inClass (top 19) 10, "Keep.move_to"⟩,⟨"gather",inClass (top 19) 11, "Keep.gather"⟩,⟨"leave",inClass (top 19) 13, "Keep.leave"⟩,⟨"all_kept",top 21, "all_kept"⟩,⟨"change",top 22, "change"⟩,⟨"count_new_holders",top 23, "count_new_holders"⟩,⟨"least_moves",top 24, "least_moves"⟩,⟨"_law_cell",top 26, "_law_cell"⟩,⟨"_law_mix",top 27, "_law_mix"⟩,⟨"_law_ring",top 28, "_law_ring"⟩,⟨"_law_whole",top 29, "_law_whole"⟩,⟨"_law_order",top 30, "_law_order"⟩,⟨"_law_refused",top 31, "_law_refused"⟩,⟨"_law_one_by_one",top 32, "_law_one_by_one"⟩,⟨"law",top 33, "law"⟩]
 ct:=[]
 bl:=["len", "min", "max", "range", "list", "tuple", "sorted", "isinstance", "int", "bool", "enumerate", "sum", "set", "ValueError"]
 mu:=[(48,12),(60,12),(107,16),(166,16),(187,16),(211,16),(221,17),(37,200008),(42,200008),(44,200008),(49,400004),(50,400008),(70,400004),(73,400004),(100,200012),(197,300021),(234,400004),(229,300015)]
 xc:=[("NoHand",["NoHand", "RingError", "ValueError"])]
 cls:=[("Keep",["circle", "copies", "kept"],[("__init__",12),("ring",13),("put",14),("has",15),("keepers",16),("mend_toward",17),("come",18),("go",19),("move_to",20),("gather",21),("leave",22)])]
def b0:List C:=[.asg (.name 1) (.cst (.int 1)),.fr (.name 2) (.lS (.var 0)) [.asg (.name 1) (.bin .Mult (.var 1) (.cst (.int 2)))],.ret (.var 1)]
def b1:List C:=[.ret (.call 0 [.ix (.var 0) (.cst (.int 0))])]
def b2:List C:=[.asg (.name 2) (.bin .Mod (.var 1) (.call 1 [.var 0])),.fr (.tup [.name 3,.name 4]) (.BB (.ix (.var 0) (.cst (.int 1)))) [.cond (.val (.cmp .GtE (.var 4) (.var 2))) [.ret (.var 3)] []],.ret (.cst (.int 0))]
def b3:List C:=[.asg (.name 3) (.ix (.var 0) (.cst (.int 1))),.asg (.name 4) (.call 2 [.var 0,.var 1]),.asg (.name 5) (.bin .Add (.GH (.var 3) (.var 4)) (.DF (.var 3) (.var 4))),.ret (.DF (.var 5) (.bi .max [.var 2,.cst (.int 0)]))]
def b4:List C:=[.cond (.or (.val (.cmp .Lt (.var 1) (.cst (.int 0)))) (.val (.cmp .GtE (.var 1) (.call 1 [.var 0])))) [.raise Z8 [.fmt [.var 1]]] []]
def b5:List C:=[.asg (.name 2) (.ix (.var 0) (.cst (.int 1))),.ex (.call 4 [.var 0,.var 1]),.cond (.val (.cmp .In (.var 1) (.var 2))) [.no] [],.ret (.tup [.ix (.var 0) (.cst (.int 0)),.col .tuple (.snap (.col (.sorted ay) (.live (.bin .Add (.var 2) (.tup [.var 1])))))])]
def b6:List C:=[.asg (.name 2) (.ix (.var 0) (.cst (.int 1))),.cond (.val (.cmp .NotIn (.var 1) (.var 2))) [.no] [],.cond (.val (.cmp .Eq (.bi .len [.var 2]) (.cst (.int 1)))) [.no] [],.ret (.tup [.ix (.var 0) (.cst (.int 0)),.col .tuple (.snap (.comp ay (.var 0) (.name 0) (.seq (.var 2)) [.val (.cmp .NotEq (.var 0) (.var 1))] 1 [1]))])]
def b7:List C:=[.asg (.name 1) (.dct),.C6 (.name 2) (.var 0) [.C6 (.name 3) (.ix (.var 0) (.var 2)) [.sub (.var 1) (.var 3) (.cst (.bl ai))]],.ret (.col (.sorted ay) (.live (.var 1)))]
def b8:List C:=[.fr (.name 3) (.seq (.call 3 [.var 0,.var 2,.bi .len [.ix (.var 0) (.cst (.int 1))]])) [.cond (.val (.cmp .In (.var 2) (.ix (.var 1) (.var 3)))) [.ret (.var 3)] []],.ret (.cst (.non))]
def b9:List C:=[.asg (.name 4) (.call 8 [.var 0,.var 1,.var 2]),.asg (.name 5) (.lst ai []),.fr (.name 6) (.seq (.ix (.var 0) (.cst (.int 1)))) [.cond (.and (.val (.cmp .In (.var 2) (.ix (.var 1) (.var 6)))) (.val (.cmp .NotIn (.var 6) (.var 3)))) [.ex (.meth .append (.var 5) [.tup [.var 2,.cst (.str Za),.var 6]])] [],.cond (.and (.val (.cmp .NotIn (.var 2) (.ix (.var 1) (.var 6)))) (.val (.cmp .In (.var 6) (.var 3)))) [.ex (.meth .append (.var 5) [.tup [.var 2,.cst (.str Z4),.var 4,.var 6]])] []],.ret (.var 5)]
def Na:List C:=[.ret (.col .tuple (.snap (.GI (.var 0))))]
def Mn:List C:=[.C6 (.name 2) (.var 1) [.cond (.val (.cmp .Eq (.ix (.var 2) (.cst (.int 1))) (.cst (.str Z4)))) [.sub (.ix (.var 0) (.ix (.var 2) (.cst (.int 3)))) (.ix (.var 2) (.cst (.int 0))) (.ix (.ix (.var 0) (.ix (.var 2) (.cst (.int 2)))) (.ix (.var 2) (.cst (.int 0))))] []],.C6 (.name 2) (.var 1) [.cond (.val (.cmp .Eq (.ix (.var 2) (.cst (.int 1))) (.cst (.str Za)))) [.ex (.meth .mT (.ix (.var 0) (.ix (.var 2) (.cst (.int 2)))) [.ix (.var 2) (.cst (.int 0))])] []]]
def SI:List C:=[.fset Z1 Z3 (.var 0) (.var 1),.fset Z1 Z6 (.var 0) (.var 2),.fset Z1 Z2 (.var 0) (.dct),.fr (.name 3) (.seq (.ix (.var 1) (.cst (.int 1)))) [.sub (.fld Z1 Z2 (.var 0)) (.var 3) (.dct)]]
def Pf:List C:=[.ret (.fld Z1 Z3 (.var 0))]
def Nc:List C:=[.fr (.name 3) (.seq (.call 3 [.fld Z1 Z3 (.var 0),.var 1,.fld Z1 Z6 (.var 0)])) [.sub (.ix (.fld Z1 Z2 (.var 0)) (.var 3)) (.var 1) (.var 2)]]
def Po:List C:=[.cond (.val (.cmp .NotIn (.var 1) (.fld Z1 Z2 (.var 0)))) [.no] [],.ret (.call 10 [.ix (.fld Z1 Z2 (.var 0)) (.var 1)])]
def Pw:List C:=[.ret (.col .tuple (.snap (.comp ay (.var 0) (.name 0) (.seq (.ix (.fld Z1 Z3 (.var 0)) (.cst (.int 1)))) [.val (.cmp .In (.var 1) (.ix (.fld Z1 Z2 (.var 2)) (.var 0)))] 1 [1,0])))]
def Nd:List C:=[.asg (.name 2) (.lst ai []),.fr (.name 3) (.seq (.call 7 [.fld Z1 Z2 (.var 0)])) [.asg (.name 4) (.call 3 [.var 1,.var 3,.fld Z1 Z6 (.var 0)]),.ex (.meth .extend (.var 2) [.call 9 [.fld Z1 Z3 (.var 0),.fld Z1 Z2 (.var 0),.var 3,.var 4]])],.ex (.call 11 [.fld Z1 Z2 (.var 0),.var 2]),.ret (.col .tuple (.snap (.col (.sorted ay) (.live (.var 2)))))]
def PC:List C:=[.ret (.jS Z1 Zb 20 (.var 0) [.call 5 [.fld Z1 Z3 (.var 0),.var 1]])]
def PD:List C:=[.ret (.jS Z1 Zb 20 (.var 0) [.call 6 [.fld Z1 Z3 (.var 0),.var 1]])]
def PF:List C:=[.ex (.jS Z1 {cps:= #[103,97,116,104,101,114]} 21 (.var 0) [.var 1]),.asg (.name 2) (.jS Z1 {cps:= #[109,101,110,100,95,116,111,119,97,114,100]} 17 (.var 0) [.var 1]),.ex (.jS Z1 {cps:= #[108,101,97,118,101]} 22 (.var 0) [.var 1]),.ret (.var 2)]
def Nl:List C:=[.fr (.name 2) (.seq (.ix (.var 1) (.cst (.int 1)))) [.ex (.F0 (.fld Z1 Z2 (.var 0)) [.var 2,.dct])],.fset Z1 Z3 (.var 0) (.tup [.ix (.var 1) (.cst (.int 0)),.col .tuple (.snap (.col (.sorted ay) (.live (.fld Z1 Z2 (.var 0)))))])]
def Nn:List C:=[.fr (.name 2) (.seq (.ix (.fld Z1 Z3 (.var 0)) (.cst (.int 1)))) [.cond (.val (.cmp .NotIn (.var 2) (.ix (.var 1) (.cst (.int 1))))) [.ex (.meth .mT (.fld Z1 Z2 (.var 0)) [.var 2])] []],.fset Z1 Z3 (.var 0) (.var 1)]
def NC:List C:=[.ret (.col .tuple (.snap (.comp ay (.tup [.var 0,.jS Z1 {cps:= #[104,97,115]} 15 (.var 1) [.var 0]]) (.name 0) (.seq (.ix (.jS Z1 Z5 13 (.var 0) []) (.cst (.int 1)))) [] 1 [0])))]
def KU:List C:=[.asg (.name 2) (.jS Z1 Z5 13 (.var 0) []),.fr (.name 3) (.seq (.var 1)) [.ex (.call 4 [.var 2,.var 3])],.ret (.jS Z1 Zb 20 (.var 0) [.tup [.ix (.var 2) (.cst (.int 0)),.var 1]])]
def ND:List C:=[.asg (.name 4) (.call 3 [.var 0,.var 3,.var 2]),.ret (.bi .len [.comp ay (.var 0) (.name 0) (.seq (.call 3 [.var 1,.var 3,.var 2])) [.val (.cmp .NotIn (.var 0) (.var 1))] 1 [4]])]
def NF:List C:=[.ret (.col .sum (.IX (.comp ay (.call 25 [.var 3,.var 2,.var 1,.var 0]) (.name 0) (.seq (.var 3)) [] 1 [2,1,0])))]
def KW:List C:=[.cond (.val (.cmp .Lt (.var 1) (.bi .len [.var 0]))) [.ret (.ix (.var 0) (.var 1))] [],.ret (.cst (.int 0))]
def PM:List C:=[.ret (.bin .Mod (.bin .Mod (.bin .Mult (.var 0) (.cst (.int 48271))) (.var 1)) (.var 2))]
def PR:List C:=[.asg (.name 2) (.bin .Add (.cst (.int 2)) (.call 28 [.var 0,.cst (.int 9973),.cst (.int 6)])),.asg (.name 3) (.bin .LShift (.cst (.int 1)) (.var 2)),.asg (.name 4) (.bin .Add (.cst (.int 1)) (.call 28 [.var 0,.cst (.int 9967),.bi .min [.var 1,.var 3]])),.asg (.name 5) (.col (.list ai) (.lS (.var 3))),.asg (.name 6) (.comp ay (.meth .mT (.var 2) [.call 28 [.bin .Add (.var 1) (.bin .Mult (.cst (.int 7)) (.var 0)),.cst (.int 9949),.bin .Sub (.var 3) (.var 0)]]) (.name 0) (.lS (.var 4)) [] 1 [0,5,3]),.cond (.val (.cmp .Eq (.bin .Mod (.var 0) (.cst (.int 5))) (.cst (.int 0)))) [.asg (.name 7) (.call 28 [.var 0,.cst (.int 9941),.var 3]),.asg (.name 6) (.comp ay (.bin .Mod (.bin .Add (.var 1) (.var 0)) (.var 2)) (.name 0) (.lS (.var 4)) [] 1 [7,3])] [],.ret (.tup [.var 2,.col .tuple (.snap (.col (.sorted ay) (.live (.var 6))))])]
def NG:List C:=[.ret (.and (.isI (.var 0) .int) (.nt (.isI (.var 0) .bool)))]
def PU:List C:=[.asg (.name 2) (.bin .LShift (.cst (.int 1)) (.ix (.var 0) (.cst (.int 0)))),.asg (.name 3) (.col (.sorted ay) (.live (.comp ay (.tup [.bin .Mod (.bin .Sub (.var 0) (.var 2)) (.var 1),.var 0]) (.name 0) (.seq (.ix (.var 0) (.cst (.int 1)))) [] 1 [2,1]))),.ret (.comp ay (.var 1) (.tup [.name 0,.name 1]) (.seq (.var 3)) [] 2 [])]
def NH:List C:=[.asg (.name 2) (.cst (.bl ay)),.tr [.ex (.call 24 [.var 0,.var 1])] [Z8] ah [.asg (.name 2) (.cst (.bl ai))],.ret (.var 2)]
def MA:List C:=[.asg (.name 3) (.cst (.int 0)),.asg (.name 4) (.lst ai []),.fr (.name 5) (.seq (.var 1)) [.cond (.val (.cmp .NotIn (.var 5) (.ix (.jS Z1 Z5 13 (.var 0) []) (.cst (.int 1))))) [.ex (.meth .append (.var 4) [.tup [.cst (.str Z7),.var 5]])] []],.fr (.name 5) (.seq (.ix (.jS Z1 Z5 13 (.var 0) []) (.cst (.int 1)))) [.cond (.val (.cmp .NotIn (.var 5) (.var 1))) [.ex (.meth .append (.var 4) [.tup [.cst (.str Z9),.var 5]])] []],.wh (.val (.var 4)) [.asg (.name 6) (.call 28 [.bin .Add (.var 2) (.bi .len [.var 4]),.cst (.int 9811),.bi .len [.var 4]]),.cond (.and (.val (.cmp .Eq (.ix (.ix (.var 4) (.var 6)) (.cst (.int 0))) (.cst (.str Z9)))) (.val (.cmp .Eq (.bi .len [.ix (.jS Z1 Z5 13 (.var 0) []) (.cst (.int 1))]) (.cst (.int 1))))) [.asg (.name 6) (.FY (.AM ay (.var 0) (.tup [.name 0,.name 1]) (.var 4) [] 2 []) (.cst (.str Z7)))] [],.asg (.tup [.name 7,.name 5]) (.meth .mT (.var 4) [.var 6]),.cond (.val (.cmp .Eq (.var 7) (.cst (.str Z7)))) [.asg (.name 8) (.jS Z1 Z7 18 (.var 0) [.var 5])] [.asg (.name 8) (.jS Z1 Z9 19 (.var 0) [.var 5])],.asg (.name 3) (.bin .Add (.var 3) (.bi .len [.comp ay (.var 0) (.name 0) (.seq (.var 8)) [.val (.cmp .Eq (.ix (.var 0) (.cst (.int 1))) (.cst (.str Z4)))] 1 []]))],.ret (.var 3)]
def K0:List C:=[.asg (.name 1) (.call 29 [.call 27 [.var 0,.cst (.int 0)],.cst (.int 7)]),.asg (.name 2) (.bin .LShift (.cst (.int 1)) (.ix (.var 1) (.cst (.int 0)))),.asg (.name 3) (.col .tuple (.snap (.sset (.comp ay (.bin .Mod (.var 0) (.var 1)) (.name 0) (.seq (.ix (.call 29 [.call 27 [.var 0,.cst (.int 1)],.cst (.int 7)]) (.cst (.int 1)))) [] 1 [2])))),.asg (.name 4) (.bin .Add (.cst (.int 1)) (.call 28 [.call 27 [.var 0,.cst (.int 2)],.cst (.int 9923),.cst (.int 6)])),.asg (.name 5) (.lst ay [.new Z1 12 [.var 1,.var 4],.new Z1 12 [.var 1,.var 4]]),.asg (.name 6) (.dct),.fr (.name 7) (.seq (.DH (.var 0) (.cst (.int 3)) (.cst (.int 13)))) [.asg (.name 8) (.call 28 [.var 7,.cst (.int 9851),.var 2]),.sub (.var 6) (.var 8) (.cst (.bl ai)),.fr (.name 9) (.seq (.var 5)) [.ex (.jS Z1 {cps:= #[112,117,116]} 14 (.var 9) [.var 8,.bin .Mod (.var 7) (.cst (.int 9))])]],.asg (.name 10) (.call 23 [.ix (.var 5) (.cst (.int 0))]),.fr (.name 11) (.seq (.lst ay [.bin .Add (.var 3) (.tup [.var 2]),.bin .Add (.tup [.neg (.cst (.int 1))]) (.var 3)])) [.cond (.or (.val (.cmp .IsNot (.call 32 [.ix (.var 5) (.cst (.int 0)),.var 11]) (.cst (.bl ai)))) (.val (.cmp .NotEq (.call 23 [.ix (.var 5) (.cst (.int 0))]) (.var 10)))) [.ret (.cst (.bl ay))] []],.asg (.name 12) (.lst ai []),.fr (.name 8) (.seq (.col (.sorted ay) (.live (.var 6)))) [.asg (.name 13) (.DF (.call 31 [.var 1,.var 8]) (.var 4)),.asg (.name 14) (.DF (.call 31 [.tup [.ix (.var 1) (.cst (.int 0)),.var 3],.var 8]) (.var 4)),.ex (.meth .extend (.var 12) [.comp ay (.tup [.var 1,.cst (.str Z4),.ix (.var 2) (.cst (.int 0)),.var 0]) (.name 0) (.seq (.col (.sorted ay) (.live (.var 14)))) [.val (.cmp .NotIn (.var 0) (.var 2))] 1 [8,13]])],.asg (.name 15) (.call 24 [.ix (.var 5) (.cst (.int 0)),.var 3]),.asg (.name 16) (.call 26 [.var 1,.tup [.ix (.var 1) (.cst (.int 0)),.var 3],.var 4,.col .tuple (.snap (.col (.sorted ay) (.live (.var 6))))]),.asg (.name 17) (.comp ay (.var 0) (.name 0) (.seq (.var 15)) [.val (.cmp .Eq (.ix (.var 0) (.cst (.int 1))) (.cst (.str Z4)))] 1 []),.asg (.name 14) (.AM ay (.tup [.var 0,.var 1,.var 3]) (.tup [.name 0,.name 1,.name 2,.name 3]) (.var 12) [] 4 []),.cond (.val (.cmp .NotEq (.comp ay (.tup [.var 0,.var 1,.var 3]) (.tup [.name 0,.name 1,.name 2,.name 3]) (.seq (.var 17)) [] 4 []) (.var 14))) [.ret (.cst (.bl ay))] [],.cond (.or (.nt (.val (.call 30 [.var 16]))) (.or (.val (.cmp .NotEq (.var 16) (.bi .len [.var 12]))) (.val (.cmp .NotEq (.jS Z1 Z5 13 (.ix (.var 5) (.cst (.int 0))) []) (.tup [.ix (.var 1) (.cst (.int 0)),.var 3]))))) [.ret (.cst (.bl ay))] [],.C6 (.name 8) (.var 6) [.asg (.name 14) (.DF (.call 31 [.tup [.ix (.var 1) (.cst (.int 0)),.var 3],.var 8]) (.var 4)),.cond (.val (.cmp .NotEq (.jS Z1 {cps:= #[107,101,101,112,101,114,115]} 16 (.ix (.var 5) (.cst (.int 0))) [.var 8]) (.col .tuple (.snap (.col (.sorted ay) (.live (.var 14))))))) [.ret (.cst (.bl ay))] []],.ret (.cmp .GtE (.call 33 [.ix (.var 5) (.cst (.int 1)),.var 3,.call 27 [.var 0,.cst (.int 13)]]) (.var 16))]
def fns:List B9:=[⟨1,3,b0⟩,⟨1,1,b1⟩,⟨2,5,b2⟩,⟨3,6,b3⟩,⟨2,2,b4⟩,⟨2,3,b5⟩,⟨2,3,b6⟩,⟨1,4,b7⟩,⟨3,4,b8⟩,⟨4,7,b9⟩,⟨1,1,Na⟩,⟨2,3,Mn⟩,⟨3,4,SI⟩,⟨1,1,Pf⟩,⟨3,4,Nc⟩,⟨2,2,Po⟩,⟨2,2,Pw⟩,⟨2,5,Nd⟩,⟨2,2,PC⟩,⟨2,2,PD⟩,⟨2,3,PF⟩,⟨2,3,Nl⟩,⟨2,3,Nn⟩,⟨1,1,NC⟩,⟨2,4,KU⟩,⟨4,5,ND⟩,⟨4,4,NF⟩,⟨2,2,KW⟩,⟨3,3,PM⟩,⟨2,8,PR⟩,⟨1,1,NG⟩,⟨2,4,PU⟩,⟨2,3,NH⟩,⟨3,9,MA⟩,⟨1,18,K0⟩]
def fits:AQ E8 E8.defs fns:=by
 refine⟨?_,⟨?_,?_,?_⟩,?_,⟨?_,?_,?_⟩,?_,⟨?_,?_,?_⟩,?_,⟨?_,?_,?_⟩,?_,⟨?_,?_,?_⟩,?_,⟨?_,?_,?_⟩,?_,⟨?_,?_,?_⟩,?_,⟨?_,?_,?_⟩,?_,⟨?_,?_,?_⟩,?_,⟨?_,?_,?_⟩,?_,⟨?_,?_,?_⟩,?_,⟨?_,?_,?_⟩,?_,⟨?_,?_,?_⟩,?_,⟨?_,?_,?_⟩,?_,⟨?_,?_,?_⟩,?_,⟨?_,?_,?_⟩,?_,⟨?_,?_,?_⟩,?_,⟨?_,?_,?_⟩,?_,⟨?_,?_,?_⟩,?_,⟨?_,?_,?_⟩,?_,⟨?_,?_,?_⟩,?_,⟨?_,?_,?_⟩,?_,⟨?_,?_,?_⟩,?_,⟨?_,?_,?_⟩,?_,⟨?_,?_,?_⟩,?_,⟨?_,?_,?_⟩,?_,⟨?_,?_,?_⟩,?_,⟨?_,?_,?_⟩,?_,⟨?_,?_,?_⟩,?_,⟨?_,?_,?_⟩,?_,⟨?_,?_,?_⟩,?_,⟨?_,?_,?_⟩,?_,⟨?_,?_,?_⟩,?_,⟨?_,?_,?_⟩,?_,⟨?_,?_,?_⟩,trivial⟩
 all_goals kernel_rfl
end K22
namespace RV
open PySem RK
theorem ig:∀{ds:List D},r6.clos n ds ↔ ∀d∈ds,r6 n d
 |[]=>by simp[r6.clos]|d::ds=>by simp only[r6.clos,We,forall_eq_or_imp];rw[ig]
def cH(ns:List Int):r6.clos n (ns.map D.int):=ig.mpr λd hd=>by obtain⟨i,_,rfl⟩:=Wn.mp hd;trivial
def rH{S S':bq}{d:D}(h:S'.take S.length=S)(c:r6 S.length d):trim S d S'=af (.ok d S):=by
 unfold trim
 simp_all
@[simp] theorem dD (r:az) (S:bq) (k:az->bq->Option Fl):AN (af (.next r S)) k=k r S:=rfl
@[simp] theorem dJ (a:α) (S:bq) (r:az) (k:α->bq->Option Fl):fN (af (.ok a S)) r k=k a S:=rfl
@[simp] theorem bA (a:α) (S:bq):fy a S=af (.ok a S):=rfl
@[irreducible] noncomputable def Runs (cl:Nat->List D->bq->Ev D) (cs:List C) (r:az) (S:bq) (R:Option Fl->Prop):Prop:=R (dS cl cs r S)
def gf(d:D)(S':bq):Option Fl->Prop:=λx=>x=af (.ret d S')
def call_of(hf:fns[f]?=af fs)(ha:as.length=fs.np)(h:Runs (ao fns k) fs.body (as.map af++br (fs.nn - as.length) ah) S (gf d S'))(hS:S'.take S.length=S)(c:r6 S.length d):ao fns (k+1) f as S=af (.ok d S):=by rw[ao,hf];unfold Runs gf at h;simp only[if_pos ha,h];exact rH hS c
def LstAt(S S':bq)(w:D)(ds:List D):Prop:=w= .lst ds\/∃k,w= .ref k/\S.length<=k/\S'[k]?=af (.lst ds)
def Ii(hf:fns[f]?=af fs)(ha:as.length=fs.np)(h:Runs (ao fns k) fs.body (as.map af++br (fs.nn - as.length) ah) S λx=>∃w S',x=af (.ret w S')/\LstAt S S' w ds/\S'.take S.length=S)(c:r6.clos S.length ds):ao fns (k+1) f as S=af (.ok (.lst ds) S):=by
 rw[ao,hf];unfold Runs at h;obtain⟨w,S',h1,h2,h3⟩:=h;simp only[if_pos ha,h1,gh];rcases h2 with rfl|⟨j,rfl,hj,hl⟩
 ·exact rH h3 c
 ·unfold trim;rw[if_neg (λz=>by have:j<S.length:=z.2;lia),if_neg (λz=>by have:j<S.length:=z.2;lia)];simp only[hl];rw[if_pos ⟨h3,hj,c⟩]
def call_exc(hf:fns[f]?=af fs)(ha:as.length=fs.np)(h:Runs (ao fns k) fs.body (as.map af++br (fs.nn - as.length) ah) S λx=>∃r S',x=af (.exc c r S')/\S'.take S.length=S):ao fns (k+1) f as S=af (.exc c S):=by rw[ao,hf];unfold Runs at h;obtain⟨r,S',h1,h2⟩:=h;simp only[if_pos ha,h1,gh];rw[if_pos h2]
def V2(P:D->Prop)(S:bq):Option Fl->Prop:=λx=>∃d,P d/\r6 S.length d/\x=af (.ret d S)
def Ij(hf:fns[f]?=af fs)(ha:as.length=fs.np)(h:Runs (ao fns k) fs.body (as.map af++br (fs.nn - as.length) ah) S (V2 P S)):∃d,P d/\ao fns (k+1) f as S=af (.ok d S):=by unfold Runs at h;obtain⟨d,h1,h2,h3⟩:=h;exact⟨d,h1,call_of hf ha (S':=S) (by unfold Runs;exact h3) (by simp) h2⟩
section
variable{cl:Nat->List D->bq->Ev D}{cs:List C}{r r':az}{S S1:bq}{R:Option Fl->Prop}{d:D}
def Rw:dS cl [] r S=af (.next r S):=rfl
def cB:dS cl (c::cs) r S=AN (runC cl c r S) λr S=>dS cl cs r S:=rfl
def Rx:runC cl (.asg t e) r S=fN (aj cl e r S) r λd S1=>match bN t d r with|some r'=>af (.next r' S1)|none=>none:=rfl
def Ry:runC cl (.sub o i v) r S=fN (aj cl v r S) r λd S1=>fN (aj cl o r S1) r λa S2=>fN (aj cl i r S2) r λb S3=>match RK.putAt a b d S3 with|some S4=>af (.next r S4)|none=>none:=rfl
def JK:runC cl (.ex e) r S=fN (aj cl e r S) r λ_ S1=>af (.next r S1):=rfl
def yP:runC cl (.cond e a b) r S=fN (aO cl e r S) r λt S1=>if t then dS cl a r S1 else dS cl b r S1:=rfl
def Us:runC cl (.wh e a) r S=fH (λr S=>aO cl e r S) (λr S=>dS cl a r S) 1000 r S:=rfl
def Ut:runC cl (.fr t it a) r S=fN (bH cl it r S) r λds S1=>forLoop (λr S=>dS cl a r S) t ds r S1:=rfl
def Rz:runC cl (.ret e) r S=fN (aj cl e r S) r λd S1=>af (.ret d S1):=rfl
def Ik:runC cl (.raise c as) r S=fN (aF cl as r S) r λ_ S1=>af (.exc c r S1):=rfl
def M3:runC cl (.fset c f o v) r S=fN (aj cl v r S) r λd S1=>fN (aj cl o r S1) r λx S2=>match cO S2 c x with|some (k,fs)=>if fs.length<1000 then af (.next r (S2.set k (.ins c (cM f d fs))))else ah|none=>none:=rfl
def aC(h:aj cl e r S=af (.ok d S1))(ht:bN t d r=af r')(k:Runs cl cs r' S1 R):Runs cl (.asg t e::cs) r S R:=by unfold Runs at k ⊢;simp only[cB,Rx,h,dJ,ht,dD];exact k
def ji(h1:aj cl v r S=af (.ok d S1))(h2:aj cl o r S1=af (.ok x S2))(h3:aj cl i r S2=af (.ok y S3))(h4:RK.putAt x y d S3=af S4)(k:Runs cl cs r S4 R):Runs cl (.sub o i v::cs) r S R:=by unfold Runs at k ⊢;simp only[cB,Ry,h1,h2,h3,h4,dJ,dD];exact k
def iD(h1:aj cl v r S=af (.ok d S1))(h2:aj cl o r S1=af (.ok (.ref k) S2))(h3:S2[k]?=af (.ins c fs))(hl:fs.length<1000)(kk:Runs cl cs r (S2.set k (.ins c (cM f d fs))) R):
  Runs cl (.fset c f o v::cs) r S R:=by
 unfold Runs at kk ⊢;have e:cO S2 c (.ref k)=af (k,fs):=by simp[cO,h3]
 have e2:runC cl (.fset c f o v) r S=af (.next r (S2.set k (.ins c (cM f d fs)))):=by simp only[M3,h1,h2,dJ,e];exact if_pos hl
 simp only[cB,e2,dD];exact kk
def bY(h:aj cl e r S=af (.ok d S1))(k:Runs cl cs r S1 R):Runs cl (.ex e::cs) r S R:=by unfold Runs at k ⊢;simp only[cB,JK,h,dJ,dD];exact k
def aL(h:aj cl e r S=af (.ok d S1))(k:R (af (.ret d S1))):Runs cl (.ret e::cs) r S R:=by unfold Runs;simp only[cB,Rz,h,dJ,AN];exact k
def aJ(k:R (af (.next r S))):Runs cl [] r S R:=by unfold Runs;simp only[Rw];exact k
theorem jj:∀{a b:List C}{r:az}{S:bq},dS cl (a++b) r S=AN (dS cl a r S) λr S=>dS cl b r S
 |[],b,r,S=>by rfl|c::a,b,r,S=>by
  simp only[Wr,cB];cases h:runC cl c r S with
  |none=>rfl|some fl=>
   cases fl with|next r2 S2=>simp only[dD];exact jj|_=>rfl
def jk(h:aO cl e r S=af (.ok ai S1))(k:Runs cl (a++cs) r S1 R):Runs cl (.cond e a b::cs) r S R:=by unfold Runs at k ⊢;rw[jj]at k;simp only[cB,yP,h,dJ,if_pos];exact k
def bR(h:aO cl e r S=af (.ok ay S1))(k:Runs cl (b++cs) r S1 R):Runs cl (.cond e a b::cs) r S R:=by unfold Runs at k ⊢;rw[jj]at k;simp only[cB,yP,h,dJ,Wt,Xd];exact k
def fD(h:aO cl e r S=af (.ok t S1))(k1:t=ai->Runs cl (a++cs) r S1 R)(k2:t=ay->Runs cl (b++cs) r S1 R):Runs cl (.cond e a b::cs) r S R:=by
 cases t with|true=>exact jk h (k1 rfl)|false=>exact bR h (k2 rfl)
def Bj(h:aF cl as r S=af (.ok ds S1))(k:R (af (.exc c r S1))):Runs cl (.raise c as::cs) r S R:=by unfold Runs;simp only[cB,Ik,h,dJ,AN];exact k
def vQ(h:aj cl e r S=af (.exc c S1))(k:R (af (.exc c r S1))):Runs cl (.ex e::cs) r S R:=by unfold Runs;simp only[cB,JK,h,fN,AN];exact k
def En(h1:Runs cl a r S λx=>x=af (.exc c r1 S1))(hc:c∈cs')(h2:Runs cl h r1 S1 λx=>x=af (.next r2 S2))(k:Runs cl cs r2 S2 R):
  Runs cl (.tr a cs' ah h::cs) r S R:=by
 unfold Runs at h1 h2 k ⊢;simp only[cB,JF,h1,if_pos hc,kI,h2,nC,dD];exact k
def Turn(I:az->bq->Prop)(B:az->bq->Prop)(R:Option Fl->Prop):Option Fl->Prop
 |some (.next r S)=>I r S|some (.cont r S)=>I r S|some (.brk r S)=>B r S|some (.ret d S)=>R (af (.ret d S))|some (.exc c r S)=>R (af (.exc c r S))|none=>False
theorem mG(I:List D->az->bq->Prop)(hend:∀r S,I [] r S->Runs cl cs r S R)(hstep:∀d ds r S,I (d::ds) r S->∃r',bN tg d r=af r'/\Runs cl a r' S (Turn (I ds) (λr S=>Runs cl cs r S R) R)):
  ∀ds r S,I ds r S->R (AN (forLoop (λr S=>dS cl a r S) tg ds r S) λr S=>dS cl cs r S)
 |[],r,S,h=>by have z:=hend r S h;unfold Runs at z;simp only[forLoop,dD];exact z|d::ds,r,S,h=>by
  obtain⟨r',h1,h2⟩:=hstep d ds r S h;unfold Runs at h2;simp only[forLoop,h1];cases q:dS cl a r' S with
  |none=>rw[q]at h2;exact h2.elim|some fl=>
   rw[q]at h2;cases fl with|next r2 S2=>exact mG I hend hstep ds r2 S2 h2|cont r2 S2=>exact mG I hend hstep ds r2 S2 h2|brk r2 S2=>exact h2|ret d2 S2=>exact h2|exc c r2 S2=>exact h2
def vR(h:bH cl it r S=af (.ok ds S1))(I:List D->az->bq->Prop)(h0:I ds r S1)(hend:∀r S,I [] r S->Runs cl cs r S R)(hstep:∀d ds r S,I (d::ds) r S->∃r',bN tg d r=af r'/\Runs cl a r' S (Turn (I ds) (λr S=>Runs cl cs r S R) R)):Runs cl (.fr tg it a::cs) r S R:=by unfold Runs;simp only[cB,Ut,h,dJ];exact mG I hend hstep ds r S1 h0
def bF{α:Type}{j:Nat}{it:It}{a:List C}(inj:α->D){xs:List α}(h:bH cl it r S=af (.ok (xs.map inj) S1))(I:List α->az->bq->Prop)(h0:I xs r S1)(hend:∀r S,I [] r S->Runs cl cs r S R)(hstep:∀x ys r S,(∃pre,pre++x::ys=xs)->I (x::ys) r S->Runs cl a (r.set j (af (inj x))) S (Turn (I ys) (λr S=>Runs cl cs r S R) R)):Runs cl (.fr (.name j) it a::cs) r S R:=by
 refine vR h (λds r S=>∃ys pre,ds=ys.map inj/\pre++ys=xs/\I ys r S) ⟨xs,[],rfl,rfl,h0⟩ ?_ ?_
 ·simp_all
 ·rintro d ds r S ⟨ys,pre,e,hp,h⟩;cases ys with
  |nil=>cases e|cons y ys=>
   simp only[Wh,List.cons.injEq]at e;obtain⟨rfl,rfl⟩:=e;refine⟨_,rfl,?_⟩;have q:=hstep y ys r S ⟨pre,hp⟩ h;unfold Runs at q ⊢;revert q;generalize dS cl a (r.set j (af (inj y))) S=o;intro q;have hI:∀r2 S2,I ys r2 S2->∃zs pre,ys.map inj=zs.map inj/\pre++zs=xs/\I zs r2 S2:=λr2 S2 z=>⟨ys,pre++ [y],rfl,by simpa using hp,z⟩
   cases o with
   |none=>exact q|some fl=>
    cases fl with|next r2 S2=>exact hI r2 S2 q|cont r2 S2=>exact hI r2 S2 q|brk r2 S2=>exact q|ret d2 S2=>exact q|exc c r2 S2=>exact q
theorem pI(I:Nat->az->bq->Prop)(hstep:∀n r S,I n r S->∃t S1,aO cl e r S=af (.ok t S1)/\(t=ay->Runs cl cs r S1 R)/\(t=ai->∃n',n=n'+1/\Runs cl a r S1 (Turn (I n') (λr S=>Runs cl cs r S R) R))):
  ∀n r S,I n r S->∀m,n<m->R (AN (fH (λr S=>aO cl e r S) (λr S=>dS cl a r S) m r S) λr S=>dS cl cs r S)
 |n,r,S,h,0,hm=>by lia|n,r,S,h,m+1,hm=>by
  obtain⟨t,S1,h1,h2,h3⟩:=hstep n r S h;simp only[fH,h1];cases t with
  |false=>have z:=h2 rfl;unfold Runs at z;exact z|true=>
   obtain⟨n',rfl,h4⟩:=h3 rfl;unfold Runs at h4;show R (AN (AD (dS cl a r S1) λr S=>fH (λr S=>aO cl e r S) (λr S=>dS cl a r S) m r S) λr S=>dS cl cs r S);cases q:dS cl a r S1 with
   |none=>rw[q]at h4;exact h4.elim|some fl=>
    rw[q]at h4;cases fl with|next r2 S2=>exact pI I hstep n' r2 S2 h4 m (Zn hm)|cont r2 S2=>exact pI I hstep n' r2 S2 h4 m (Zn hm)|brk r2 S2=>exact h4|ret d2 S2=>exact h4|exc c r2 S2=>exact h4
def M4(I:Nat->az->bq->Prop)(h0:I n r S)(hn:n<1000)(hstep:∀n r S,I n r S->∃t S1,aO cl e r S=af (.ok t S1)/\(t=ay->Runs cl cs r S1 R)/\(t=ai->∃n',n=n'+1/\Runs cl a r S1 (Turn (I n') (λr S=>Runs cl cs r S R) R))):Runs cl (.wh e a::cs) r S R:=by unfold Runs;simp only[cB,Us];exact pI I hstep n r S h0 1000 hn
theorem ju{f:az->bq->Ev D}{g:az->bq->Ev Bool}{P:D->Bool}{F:D->D}{caps:az}:∀{ds:List D}{o:Option D}{acc:List D},(∀d∈ds,g (af d::caps) S=af (.ok (P d) S)/\(P d=ai->f (af d::caps) S=af (.ok (F d) S)))->
  compLoop f g (.name 0) ds (o::caps) S acc=af (.ok (acc++(ds.filter P).map F) S)
 |[],o,acc,h=>by simp[compLoop]|d::ds,o,acc,h=>by
  obtain⟨h1,h2⟩:=h d (by simp);simp only[compLoop,bN,bS,h1,cA,aH];cases e:P d with|true=>simp only[if_true,h2 e,cA,aH];rw[ju (P:=P) (F:=F) (λd' hd=>h d' (by simp[hd]))];simp[e]|false=>simp only[Wt,Xd];rw[ju (P:=P) (F:=F) (λd' hd=>h d' (by simp[hd]))];simp[e]
def vU{f:az->bq->Ev D}{F:D->D}{caps:az}{ds:List D}{o:Option D}(h:∀d∈ds,f (af d::caps) S=af (.ok (F d) S)):
  compLoop f (λr S=>bx cl [] r S) (.name 0) ds (o::caps) S []=af (.ok (ds.map F) S):=by
 have q:=ju (S:=S) (f:=f) (g:=λr S=>bx cl [] r S) (P:=λ_=>ai) (F:=F) (caps:=caps) (ds:=ds) (o:=o) (acc:=[]) (λd hd=>⟨by rfl,λ_=>h d hd⟩);rw[List.filter_eq_self.mpr (λ_ _=>rfl)]at q;simpa using q
end
def sz(b:Int):Int:=2^b.toNat
section
variable{cl:Nat->List D->bq->Ev D}{r:az}{S S1 S2 S3 S4:bq}{d x y z:D}{a b c:E}{ds es:List D}
def aa(h:r[i]?=af (af d)):aj cl (.var i) r S=af (.ok d S):=by show(match(r[i]?).join with|some d=>fy d S|none=>ah)=_;rw[h];rfl
def aB:aj cl (.cst d) r S=af (.ok d S):=rfl
def fO(h1:aj cl a r S=af (.ok x S1))(h2:aj cl b r S1=af (.ok y S2))(h3:binop o x y S2=af (.ok z S3)):aj cl (.bin o a b) r S=af (.ok z S3):=by show bnd _ _=_;simp_all
def Eo(h1:aj cl a r S=af (.ok (.int i) S1)):aj cl (.neg a) r S=af (.ok (.int (-i)) S1):=by show bnd _ _=_;rw[h1];rfl
def aR(h1:aj cl a r S=af (.ok x S1))(h2:aj cl b r S1=af (.ok y S2))(h3:kQ o x y S2=af (.ok z S3)):aj cl (.cmp o a b) r S=af (.ok z S3):=by show bnd _ _=_;simp_all
def aM(h1:aF cl as r S=af (.ok ds S1))(h2:cl f ds S1=af (.ok d S2)):aj cl (.call f as) r S=af (.ok d S2):=by show bnd _ _=_;rw[h1];exact h2
def gO(h1:aF cl as r S=af (.ok ds S1))(h2:DL f ds S1=af (.ok d S2)):aj cl (.bi f as) r S=af (.ok d S2):=by show bnd _ _=_;rw[h1];exact h2
def cu(h1:aF cl as r S=af (.ok ds S1))(h2:ds.length<=aS):aj cl (.tup as) r S=af (.ok (.tup ds) S1):=by show bnd _ _=_;simp only[h1,aH,E2,if_pos h2,bA]
def vV(h1:aF cl as r S=af (.ok ds S1))(h2:ds.length<=aS):aj cl (.lst ay as) r S=af (.ok (.lst ds) S1):=by show bnd _ _=_;simp only[h1,aH,AX,if_pos h2,bA,Wt,Xd]
def jP(h1:aF cl as r S=af (.ok ds S1))(h2:ds.length<=aS):aj cl (.lst ai as) r S=af (.ok (.ref S1.length) (S1++ [.lst ds])):=by show bnd _ _=_;simp only[h1,aH,AX,if_pos h2,bA,if_true]
theorem Bk(h:bf S x=af ds):cF S x=none:=by
 cases x with
 |ref k=>
  simp only[bf]at h;simp only[cF];cases e:S[k]? with
  |none=>rfl|some o=>
   cases o with|lst _=>rfl|dct _=>simp_all|xy _=>simp_all|ins _ _=>rfl
 |_=>rfl
def vW(h1:aj cl a r S=af (.ok x S1))(h2:aj cl b r S1=af (.ok y S2))(h3:cF S2 x=af kvs)(h4:dG y=af k)(h5:bz kvs k=af d):aj cl (.ix a b) r S=af (.ok d S2):=by show bnd _ _=_;simp only[h1,h2,aH,IY,h3,h4,h5,bA]
def mH:aj cl .dct r S=af (.ok (.ref S.length) (S++ [.dct []])):=rfl
def aW(h1:aj cl a r S=af (.ok x S1))(h2:aj cl b r S1=af (.ok (.int i) S2))(h3:bf S2 x=af ds)(h4:L2.BQ ds i=af d):aj cl (.ix a b) r S=af (.ok d S2):=by show bnd _ _=_;simp only[h1,h2,aH,IY,Bk h3,h3,h4,bA]
def RB(h1:aj cl a r S=af (.ok x S1))(h2:aj cl b r S1=af (.ok (.int i) S2))(h3:slc x (af i) ah S2=af (.ok z S3)):aj cl (.GH a b) r S=af (.ok z S3):=by show bnd _ _=_;rw[h1,aH,h2,aH];exact h3
def Ep(h1:aj cl a r S=af (.ok x S1))(h2:aj cl b r S1=af (.ok (.int i) S2))(h3:slc x ah (af i) S2=af (.ok z S3)):aj cl (.DF a b) r S=af (.ok z S3):=by show bnd _ _=_;rw[h1,aH,h2,aH];exact h3
def yQ(h1:aj cl a r S=af (.ok x S1))(h2:aj cl b r S1=af (.ok (.int i) S2))(h3:aj cl c r S2=af (.ok (.int j) S3))(h4:slc x (af i) (af j) S3=af (.ok z S4)):aj cl (.DH a b c) r S=af (.ok z S4):=by show bnd _ _=_;simp_all
def cU(h1:bH cl it r S=af (.ok ds S1))(h2:compLoop (λr S=>aj cl elt r S) (λr S=>bx cl ifs r S) tg ds (f9 r n cap) S1 []=af (.ok es S2))(h3:es.length<=aS):aj cl (.comp ay elt tg it ifs n cap) r S=af (.ok (.lst es) S2):=by show bnd _ _=_;simp only[h1,aH,h2,AX,if_pos h3,bA,Wt,Xd]
def dM(h1:bH cl it r S=af (.ok ds S1))(h2:ds.length<=aS):aj cl (.col .tuple it) r S=af (.ok (.tup ds) S1):=by show bnd _ _=_;simp only[h1,aH,gW,E2,if_pos h2,bA]
def Il(h1:bH cl it r S=af (.ok ds S1))(h2:ds.length<=aS):aj cl (.col (.list ai) it) r S=af (.ok (.ref S1.length) (S1++ [.lst ds])):=by show bnd _ _=_;simp only[h1,aH,gW,AX,if_pos h2,bA,if_true]
def fX(h1:bH cl it r S=af (.ok ds S1))(h2:dU ds=af es)(h3:es.length<=aS):aj cl (.col (.sorted ay) it) r S=af (.ok (.lst es) S1):=by show bnd _ _=_;simp only[h1,aH,gW,h2,AX,if_pos h3,bA,Wt,Xd]
def mJ{c f:Str}(h1:aj cl a r S=af (.ok (.ref k) S1))(h2:S1[k]?=af (.ins c fs))(h3:fs.lookup f=af d):aj cl (.fld c f a) r S=af (.ok d S1):=by
 have e:cO S1 c (.ref k)=af (k,fs):=by simp[cO,h2]
 show bnd _ _=_;simp only[h1,aH,zX,e,h3,bA]
def bG{c m:Str}(h1:aj cl a r S=af (.ok (.ref k) S1))(h2:S1[k]?=af (.ins c fs))(h3:fs.lookup m=ah)(h4:aF cl as r S1=af (.ok ds S2))(h5:cl f (.ref k::ds) S2=af o):
  aj cl (.jS c m f a as) r S=af o:=by
 have e:cO S1 c (.ref k)=af (k,fs):=by simp[cO,h2]
 show bnd _ _=_;simp only[h1,aH,e,h4,h5];lia
def Er{c:Str}(h1:aF cl as r S=af (.ok ds S1))(h2:cl f (.ref S1.length::ds) (S1++ [.ins c []])=af (.ok .non S2)):aj cl (.new c f as) r S=af (.ok (.ref S1.length) S2):=by show bnd _ _=_;simp_all
def yR(h1:aj cl a r S=af (.ok (.ref n) S1))(h2:S1[n]?=af (.dct kvs))(h3:aF cl as r S1=af (.ok ds S2))(h4:jn n ds S2=af (.ok d S3)):
  aj cl (.meth .mT a as) r S=af (.ok d S3):=by
 show bnd _ _=_;simp_all
def jQ{mt:Mt}(h1:aj cl a r S=af (.ok (.ref n) S1))(h2:S1[n]?=af (.lst ls))(h3:aF cl as r S1=af (.ok ds S2))(h4:iu mt (.ref n) ds S2=af (.ok d S3)):
  aj cl (.meth mt a as) r S=af (.ok d S3):=by
 show bnd _ _=_;simp_all
def vX{c:Str}(h1:aF cl as r S=af (.ok ds S1))(h2:cl f ds S1=af (.exc c S2)):aj cl (.call f as) r S=af (.exc c S2):=by show bnd _ _=_;rw[h1];exact h2
def RC(h1:aF cl as r S=af (.ok ds S1))(h2:ds.all jb=ai):aj cl (.fmt as) r S=af (.ok .ET S1):=by show bnd _ _=_;simp only[h1,cA,aH,zW,if_pos h2,bA]
def RG(h1:aj cl a r S=af (.ok (.lst ds) S1))(h2:aj cl b r S1=af (.ok (.str i) S2))(h3:jq ds=af ns)(h4:ns.findIdx? (λn=>decide (n=i))=af j):aj cl (.FY a b) r S=af (.ok (.int j) S2):=by show bnd _ _=_;simp only[h1,aH,h2,lU,h3,h4,bA]
def au:aF cl [] r S=af (.ok [] S):=rfl
def ak(h1:aj cl a r S=af (.ok d S1))(h2:aF cl as r S1=af (.ok ds S2)):aF cl (a::as) r S=af (.ok (d::ds) S2):=by show bnd _ _=_;simp_all
def iU:bx cl [] r S=af (.ok ai S):=rfl
def jR(h:aO cl t r S=af (.ok u S1)):bx cl [t] r S=af (.ok u S1):=by show bnd _ _=_;rw[h];cases u<;>rfl
def aZ(h1:aj cl a r S=af (.ok x S1))(h2:truth S1 x=af u):aO cl (.val a) r S=af (.ok u S1):=by show bnd _ _=_;simp only[h1,aH,h2,zV,bA]
def RJ(h1:aO cl t r S=af (.ok u S1)):aO cl (.nt t) r S=af (.ok (!u) S1):=by show bnd _ _=_;rw[h1];rfl
def ue(h1:aO cl s r S=af (.ok u S1))(h2:u=ai->aO cl t r S1=af (.ok v S1)):aO cl (.and s t) r S=af (.ok (u && v) S1):=by
 cases u with|false=>show bnd _ _=_;rw[h1];rfl|true=>show bnd _ _=_;simp_all
def RL(h1:aO cl s r S=af (.ok u S1))(h2:u=ay->aO cl t r S1=af (.ok v S1)):aO cl (.or s t) r S=af (.ok (u || v) S1):=by
 cases u with|true=>show bnd _ _=_;rw[h1];rfl|false=>show bnd _ _=_;simp only[h1,aH,h2,Wt,Xd,Bool.false_or]
def uf(h1:aO cl s r S=af (.ok ay S1))(h2:aO cl t r S1=af (.ok v S2)):aO cl (.or s t) r S=af (.ok v S2):=by show bnd _ _=_;simp_all
def cz(h1:aj cl a r S=af (.ok (.tup ds) S1)):bH cl (.seq a) r S=af (.ok ds S1):=by show bnd _ _=_;rw[h1];rfl
def iG(h1:aj cl a r S=af (.ok (.lst ds) S1)):bH cl (.seq a) r S=af (.ok ds S1):=by show bnd _ _=_;rw[h1];rfl
def fP(h1:aj cl a r S=af (.ok x S1))(h2:bf S1 x=af ds):bH cl (.snap a) r S=af (.ok ds S1):=by show bnd _ _=_;simp_all
def nR(h1:aj cl a r S=af (.ok (.lst ds) S1)):bH cl (.live a) r S=af (.ok ds S1):=by show bnd _ _=_;rw[h1];rfl
def M5(h1:aj cl a r S=af (.ok (.tup ds) S1))(h2:aY ds=af ns):bH cl (.live a) r S=af (.ok ds S1):=by show bnd _ _=_;simp_all
def RM(h1:aj cl a r S=af (.ok (.lst ds) S1)):bH cl (.IX a) r S=af (.ok ds S1):=by show bnd _ _=_;rw[h1];rfl
def rJ(h1:aj cl a r S=af (.ok (.ref k) S1))(h2:S1[k]?=af (.dct kvs)):bH cl (.live a) r S=af (.ok (kvs.map λp=>tN p.1) S1):=by show bnd _ _=_;simp_all
def M6(h1:aj cl a r S=af (.ok (.ref k) S1))(h2:S1[k]?=af (.lst ds)):bH cl (.live a) r S=af (.ok ds S1):=by show bnd _ _=_;simp_all
def pJ(h1:aj cl a r S=af (.ok (.int j) S1))(h2: -4611686018427387904<=j/\j<4611686018427387904):bH cl (.lS a) r S=af (.ok (cg 0 j) S1):=by have h2': -(2^62)<=j/\j<2^62:=h2;show bnd _ _=_;simp_all
def Es(h1:aj cl a r S=af (.ok (.tup ds) S1)):bH cl (.BB a) r S=af (.ok (iK ds) S1):=by show bnd _ _=_;rw[h1];rfl
def ug:binop .Add (.int i) (.int j) S=af (.ok (.int (i+j)) S):=rfl
def Uu:binop .Sub (.int i) (.int j) S=af (.ok (.int (i - j)) S):=rfl
def Et(h: -18446744073709551616<j/\j<18446744073709551616):binop .Mult (.int i) (.int j) S=af (.ok (.int (i*j)) S):=if_pos (.inr h)
def RN(h: -18446744073709551616<i/\i<18446744073709551616):binop .Mult (.int i) (.int j) S=af (.ok (.int (i*j)) S):=if_pos (.inl h)
def uh(h:0<j):binop .Mod (.int i) (.int j) S=af (.ok (.int (i % j)) S):=if_pos h
def Eu(h:0<=j/\j<=1000000):binop .LShift (.int 1) (.int j) S=af (.ok (.int (sz j)) S):=by unfold sz;have q:binop .LShift (.int 1) (.int j) S=af (.ok (.int (1*2^j.toNat)) S):=if_pos ⟨h.1,h.2,by decide⟩;lia
def vY(h1:xs≠ [])(h2:xs.length+ys.length<=aS):binop .Add (.tup xs) (.tup ys) S=af (.ok (.tup (xs++ys)) S):=by
 show(if xs.isEmpty=ai then fy (D.tup ys) S else if xs.length+ys.length<=aS then fy (D.tup (xs++ys)) S else ah)=_
 simp_all
def yS(h2:xs.length+ys.length<=aS):binop .Add (.tup xs) (.tup ys) S=af (.ok (.tup (xs++ys)) S):=by
 by_cases h:xs=[]
 ·subst h;rfl
 ·exact vY h h2
def yU:zl (.int i)=af (.int i):=rfl
def rK:zl (.tup ds)=(zl.yi ds).map .tuple:=rfl
def rM:zl (.lst ds)=(zl.yi ds).map .list:=rfl
def Ew:zl.yi (d::ds)=(match zl d,zl.yi ds with|some p,af ps=>af (p::ps)|_,_=>ah):=rfl
def yV:BF S (.int i) (.int j)=af (decide (i=j)):=by rfl
def Bl:kQ .Eq (.int i) (.int j) S=af (.ok (.bl (decide (i=j))) S):=by rfl
def Uv:kQ .NotEq (.int i) (.int j) S=af (.ok (.bl (decide (i≠j))) S):=by show DU (BF S (.int i) (.int j)) (λr=>!r) S=_;rw[yV];simp[DU]
def lw(h:BF S x y=af u):kQ .Eq x y S=af (.ok (.bl u) S):=by show DU (BF S x y) (λr=>r) S=_;rw[h];rfl
def vZ(h:BF S x y=af u):kQ .NotEq x y S=af (.ok (.bl (!u)) S):=by show DU (BF S x y) (λr=>!r) S=_;rw[h];rfl
def Im(h:inD S x y=af u):kQ .In x y S=af (.ok (.bl u) S):=by show DU (inD S x y) (λr=>r) S=_;rw[h];rfl
def lz(h:inD S x y=af u):kQ .NotIn x y S=af (.ok (.bl (!u)) S):=by show DU (inD S x y) (λr=>!r) S=_;rw[h];rfl
def Io:kQ .Lt (.int i) (.int j) S=af (.ok (.bl (decide (i<j))) S):=rfl
def RP:kQ .GtE (.int i) (.int j) S=af (.ok (.bl (decide (j<=i))) S):=rfl
def wg:kQ .IsNot (.bl t) (.bl u) S=af (.ok (.bl (t !=u)) S):=rfl
def Uw(h1:cF S y=af kvs)(h2:dG x=af k):kQ .In x y S=af (.ok (.bl (bz kvs k).isSome) S):=Im (by simp only[inD,h1,h2,XJ])
def Ey(h1:cF S y=af kvs)(h2:dG x=af k):kQ .NotIn x y S=af (.ok (.bl (!(bz kvs k).isSome)) S):=lz (by simp only[inD,h1,h2,XJ])
def gn(h:bf S x=af ds):DL .len [x] S=af (.ok (.int ds.length) S):=by show p8 x S=_;unfold p8;rw[h];rfl
def RQ:DL .min [.int i,.int j] S=af (.ok (.int (if j<i then j else i)) S):=rfl
def RT:DL .max [.int i,.int j] S=af (.ok (.int (if j>i then j else i)) S):=rfl
def BD{α:Type}{a:α}{l:List α}:L2.BQ (a::l) 0=af a:=by simp only[L2.BQ,L2.CC];simp
def CB{α:Type}{a b:α}{l:List α}:L2.BQ (a::b::l) 1=af b:=by
 have h:(1:Int)<((a::b::l).length:Int):=by simp only[Wl];lia
 simp only[L2.BQ,L2.CC,if_pos h];simp
def NI{α:Type}{l:List α}{i:Int}{a:α}(h0:0<=i)(h:l[i.toNat]?=af a):L2.BQ l i=af a:=by have hl:=(Wi.mp h).1;simp only[L2.BQ,L2.CC,if_pos h0,if_pos (show i<(l.length:Int) by lia),Option.bind_some];exact h
def Bm:(cg i j).length=(j - i).toNat:=by simp[cg]
def jw:cg 0 n=(bX n.toNat).map λ(i:Nat)=>D.int (i:Int):=by simp[cg]
def Ux:slc (.tup ds) lo hi S=af (.ok (.tup (cutD ds lo hi)) S):=rfl
def JL:slc (.lst ds) lo hi S=af (.ok (.lst (cutD ds lo hi)) S):=rfl
def JM:slc (.As ns) lo hi S=af (.ok (.lst (cutD (ns.map .int) lo hi)) S):=rfl
def bK:bf S (.tup ds)=af ds:=rfl
def eO:bf S (.lst ds)=af ds:=rfl
def Bo:bf S (.As ns)=af (ns.map .int):=rfl
def bD:truth S (.bl u)=af u:=rfl
end
end RV
local macro_rules| `(tactic|array_get_dec)=> `(tactic|first|((with_reducible apply RV.aa);rfl)|with_reducible exact RV.aB|with_reducible exact RV.au|with_reducible exact RV.iU|with_reducible apply RV.ak|with_reducible apply RV.fO|with_reducible apply RV.aR|with_reducible apply RV.aM|with_reducible apply RV.aW|with_reducible apply RV.cu|with_reducible apply RV.gO|with_reducible apply RV.aZ|with_reducible apply RV.RL|with_reducible apply RV.ue|with_reducible apply RV.RJ|with_reducible apply RV.Eo|with_reducible apply RV.vV|with_reducible apply RV.jP|with_reducible apply RV.RB|with_reducible apply RV.Ep|with_reducible apply RV.yQ|with_reducible apply RV.dM|with_reducible apply RV.Il|with_reducible apply RV.fX|with_reducible apply RV.jR|with_reducible apply RV.pJ|with_reducible apply RV.Es|with_reducible apply RV.fP|with_reducible apply RV.uh|with_reducible apply RV.vY|with_reducible apply RV.Eu|with_reducible apply RV.gn|with_reducible exact RV.ug|with_reducible exact RV.Uu|with_reducible exact RV.Bl|with_reducible exact RV.Uv|with_reducible exact RV.Io|with_reducible exact RV.RP|with_reducible exact RV.wg|with_reducible exact RV.RQ|with_reducible exact RV.RT|with_reducible exact RV.BD|with_reducible exact RV.CB|with_reducible exact RV.Ux|with_reducible exact RV.JL|with_reducible exact RV.JM|with_reducible exact List.cons_ne_nil _ _|with_reducible exact RV.bK|with_reducible exact RV.eO|with_reducible exact RV.Bo|with_reducible exact RV.bD|with_reducible rfl|assumption|lia|(simp only[List.length_map,List.length_cons,List.length_nil,List.length_range,List.length_append,RV.Bm,PySem.sizeLine];lia)|intro _)
namespace RV
open PySem RK
abbrev Cl:=Nat->List D->bq->Ev D
abbrev aq(ns:List Int):List D:=ns.map D.int
structure AH(b:Int)(hs:List Int):Prop where
 b2:2<=b
 b7:b<=7
 ne:hs≠ []
 up:hs.Pairwise (·<·)
 AR:∀h∈hs,0<=h/\h<sz b
abbrev aD(b:Int)(hs:List Int):D:= .tup [.int b,.tup (aq hs)]
def EK(h2:2<=b)(h7:b<=7):(b=2/\sz b=4)\/(b=3/\sz b=8)\/(b=4/\sz b=16)\/(b=5/\sz b=32)\/(b=6/\sz b=64)\/(b=7/\sz b=128):=by
 have:b=2\/b=3\/b=4\/b=5\/b=6\/b=7:=by lia
 rcases this with rfl|rfl|rfl|rfl|rfl|rfl<;>decide
def ul(h2:2<=b)(h7:b<=7):4<=sz b/\sz b<=128:=by rcases EK h2 h7 with h|h|h|h|h|h<;>lia
def jT:List C:=
 [C.asg (Tg.name 1) (E.cst (D.int 1)),
  C.fr
   (Tg.name 2)
   (It.lS (E.var 0))
   [C.asg (Tg.name 1) (E.bin (Operator.Mult) (E.var 1) (E.cst (D.int 2)))],
  C.ret (E.var 1)]
def pK{cl:Cl}{S:bq}{n:Int}(h0:0<=n)(h1:n<=64):Runs cl jT [af (.int n),ah,ah] S (gf (.int (sz n)) S):=by
 unfold jT;refine aC (by(repeat' (first|array_get_dec))) rfl ?_;refine bF (α:=Nat) (λ(i:Nat)=>D.int (i:Int)) (xs:=bX n.toNat) (by rw[←jw];(repeat' (first|array_get_dec))) (λys r S'=>S'=S/\ys.length<=n.toNat/\∃v,r=[af (.int n),af (.int (2^(n.toNat - ys.length))),v]) ⟨rfl,by simp,ah,by simp⟩ ?_ ?_
 ·rintro r S' ⟨rfl,_,v,rfl⟩;exact aL (by(repeat' (first|array_get_dec))) (by simp[gf,sz])
 ·rintro x ys r S' _ ⟨rfl,hl,v,rfl⟩;refine aC (by(repeat' (first|with_reducible apply Et|array_get_dec))) rfl (aJ ?_);simp only[Wl]at hl;refine⟨rfl,Xg hl,af (.int x),?_⟩;have e:n.toNat - ys.length=(n.toNat - (ys.length+1))+1:=by lia
  simp only[Wl,bS];rw[e,Int.pow_succ]
def lG(pow:Nat):List C:=[C.ret (E.call pow [E.ix (E.var 0) (E.cst (D.int 0))])]
def qJ{cl:Cl}{S:bq}{pow:Nat}{b:Int}{h:D}(hp:∀n,0<=n->n<=64->cl pow [.int n] S=af (.ok (.int (sz n)) S))(h0:0<=b)(h1:b<=64):Runs cl (lG pow) [af (.tup [.int b,h])] S (gf (.int (sz b)) S):=by unfold lG;exact aL (by(repeat' (first|with_reducible apply hp|array_get_dec))) rfl
def tH:List C:=
 [C.ret
   (E.bin
    (Operator.Mod)
    (E.bin
     (Operator.Mod)
     (E.bin (Operator.Mult) (E.var 0) (E.cst (D.int 48271)))
     (E.var 1))
    (E.var 2))]
abbrev mix(c p m:Int):Int:=c*48271 % p % m
def jU(h:0<m):0<=mix c p m/\mix c p m<m:=⟨kP _ (ze h),iN _ h⟩
def xK{cl:Cl}{S:bq}{c p m:Int}(hp:0<p)(hm:0<m):Runs cl tH [af (.int c),af (.int p),af (.int m)] S (gf (.int (mix c p m)) S):=by unfold tH;exact aL (by(repeat' (first|with_reducible apply Et|array_get_dec))) rfl
def lB(mix:Nat):List C:=
 [C.asg
   (Tg.name 2)
   (E.bin
    (Operator.Add)
    (E.cst (D.int 2))
    (E.call mix [E.var 0,E.cst (D.int 9973),E.cst (D.int 6)])),
  C.asg (Tg.name 3) (E.bin (Operator.LShift) (E.cst (D.int 1)) (E.var 2)),
  C.asg
   (Tg.name 4)
   (E.bin
    (Operator.Add)
    (E.cst (D.int 1))
    (E.call mix [E.var 0,E.cst (D.int 9967),E.bi (Bi.min) [E.var 1,E.var 3]])),
  C.asg (Tg.name 5) (E.col (BS.list ai) (It.lS (E.var 3))),
  C.asg
   (Tg.name 6)
   (E.comp
    ay
    (E.meth
     (Mt.mT)
     (E.var 2)
     [E.call
      mix
      [E.bin
        (Operator.Add)
        (E.var 1)
        (E.bin (Operator.Mult) (E.cst (D.int 7)) (E.var 0)),
       E.cst (D.int 9949),
       E.bin (Operator.Sub) (E.var 3) (E.var 0)]])
    (Tg.name 0)
    (It.lS (E.var 4))
    []
    1
    [0,5,3]),
  C.cond
   (T.val
    (E.cmp
     (CmpOp.Eq)
     (E.bin (Operator.Mod) (E.var 0) (E.cst (D.int 5)))
     (E.cst (D.int 0))))
   [C.asg (Tg.name 7) (E.call mix [E.var 0,E.cst (D.int 9941),E.var 3]),
   C.asg
    (Tg.name 6)
    (E.comp
     ay
     (E.bin (Operator.Mod) (E.bin (Operator.Add) (E.var 1) (E.var 0)) (E.var 2))
     (Tg.name 0)
     (It.lS (E.var 4))
     []
     1
     [7,3])]
   [],
  C.ret
   (E.tup
    [E.var 2,E.col (BS.tuple) (It.snap (E.col (BS.sorted ay) (It.live (E.var 6))))])]
theorem insI_perm(x:Int):∀l:List Int,(insI x l).Perm (x::l)
 |[]=> .refl _|y::r=>by
  unfold insI;by_cases h:x<=y
  ·rw[if_pos h]
  ·rw[if_neg h];exact((insI_perm x r).cons y).trans (.swap ..)
theorem sortI_perm:∀l:List Int,(sortI l).Perm l
 |[]=> .refl _|x::r=>(insI_perm x _).trans ((sortI_perm r).cons x)
theorem yW(x:Int):∀l:List Int,l.Pairwise (·<=·)->(insI x l).Pairwise (·<=·)
 |[],_=>by simp[insI]|y::r,h=>by
  unfold insI;have h':=WQ.mp h;by_cases hx:x<=y
  ·rw[if_pos hx];refine WQ.mpr ⟨λz hz=>?_,h⟩;rcases We.mp hz with rfl|hz
   ·exact hx
   ·exact W4 hx (h'.1 z hz)
  ·rw[if_neg hx];refine WQ.mpr ⟨λz hz=>?_,yW x r h'.2⟩;have:=(insI_perm x r).mem_iff.mp hz;rcases We.mp this with rfl|hz
   ·lia
   ·exact h'.1 z hz
theorem wj:∀l:List Int,(sortI l).Pairwise (·<=·)
 |[]=>by simp[sortI]|x::r=>yW x _ (wj r)
theorem jV:∀{l:List Int},l.Pairwise (·<=·)->l.Nodup->l.Pairwise (·<·)
 |[],_,_=> .nil|x::r,h,n=>by have h':=WQ.mp h;have n':=Xo.mp n;refine WQ.mpr ⟨λz hz=>?_,jV h'.2 n'.2⟩;have h1:=h'.1 z hz;have h2:x≠z:=λe=>n'.1 (e▸hz);lia
def fQ(h:l.Nodup):(sortI l).Pairwise (·<·):=jV (wj l) ((sortI_perm l).nodup_iff.mpr h)
theorem fY:∀(ns:List Int),aY (aq ns)=af ns
 |[]=>rfl|n::r=>by show(aY (aq r)).map (n::·)=_;rw[fY r];rfl
def eQ(h:ns.length<64):dU (aq ns)=af (aq (sortI ns)):=by
 unfold dU;rw[fY]
 simp_all
theorem mK{α β:Type}(f:α->β):∀(l:List α)(j:Nat),(l.map f).eraseIdx j=(l.eraseIdx j).map f
 |[],j=>by simp|x::r,0=>by simp|x::r,j+1=>by simp[mK f r j]
theorem qK{α:Type}:∀(l:List α)(j:Nat)(h:j<l.length),(l[j]::l.eraseIdx j).Perm l
 |[],j,h=>by simp at h|x::r,0,h=>by simp|x::r,j+1,h=>by
  have h':j<r.length:=by simpa using h
  simp only[nS,List.eraseIdx_cons_succ];exact(xC ..).trans ((qK r j h').cons x)
theorem tK{cl:Cl}{mx:Nat}{c size:Int}{k0:Nat}{S0:bq}(hm:∀c p m S,0<p->0<m->cl mx [.int c,.int p,.int m] S=af (.ok (.int (mix c p m)) S)):
  ∀(many done:Nat)(left acc:List Int)(o:Option D),(left.length:Int)=size - done->many+done<=size.toNat->(left++acc).Nodup->(∀x∈left++acc,0<=x/\x<size)->
   ∃left' acc',compLoop (λr S=>aj cl (E.meth (Mt.mT) (E.var 2) [E.call mx [E.bin (Operator.Add) (E.var 1) (E.bin (Operator.Mult) (E.cst (D.int 7)) (E.var 0)),E.cst (D.int 9949),E.bin (Operator.Sub) (E.var 3) (E.var 0)]]) r S)
    (λr S=>bx cl [] r S) (.name 0) ((sf done many).map λ(i:Nat)=>D.int (i:Int)) (o::[af (.int c),af (.ref S0.length),af (.int size)]) (S0++ [.lst (aq left)]) (aq acc)
     =af (.ok (aq acc') (S0++ [.lst (aq left')]))/\acc'.length=acc.length+many/\acc'.Nodup/\∀x∈acc',0<=x/\x<size
 |0,done,left,acc,o,hl,hd,hn,hr=>by refine⟨left,acc,by rfl,by simp,(Xu.mp hn).2.1,λx hx=>hr x (by simp[hx])⟩|many+1,done,left,acc,o,hl,hd,hn,hr=>by
  have hlt:=jU (c:=c+7*(done:Int)) (p:=9949) (m:=size - done) (by lia);have hj:(mix (c+7*(done:Int)) 9949 (size - done)).toNat<left.length:=by lia
  have hat:L2.CC (aq left).length (mix (c+7*(done:Int)) 9949 (size - done))=af (mix (c+7*(done:Int)) 9949 (size - done)).toNat:=by unfold L2.CC;rw[if_pos hlt.1,if_pos (by simp;lia)]
  generalize hj':(mix (c+7*(done:Int)) 9949 (size - done)).toNat=j at hj hat;have hget:(aq left)[j]?=af (.int left[j]):=by simp[hj]
  have ev:aj cl (E.meth (Mt.mT) (E.var 2) [E.call mx [E.bin (Operator.Add) (E.var 1) (E.bin (Operator.Mult) (E.cst (D.int 7)) (E.var 0)),E.cst (D.int 9949),E.bin (Operator.Sub) (E.var 3) (E.var 0)]])
    (af (.int (done:Int))::[af (.int c),af (.ref S0.length),af (.int size)]) (S0++ [.lst (aq left)])=af (.ok (.int left[j]) (S0++ [.lst (aq (left.eraseIdx j))])):=by
   refine jQ (S1:=S0++ [.lst (aq left)]) (S2:=S0++ [.lst (aq left)]) (n:=S0.length) (ls:=aq left) (ds:=[.int (mix (c+7*(done:Int)) 9949 (size - done))]) (aa rfl) (by simp) ?_ ?_
   ·(repeat' (first|with_reducible apply RN|with_reducible apply hm|array_get_dec))
   ·simp only[iu,EU,qb,dg];rw[Wx (by simp)];simp only[Xi,List.getElem?_cons_zero,hat,hget,bA];congr 2;rw[Zu _ _ (by simp)];simp[mK]
  have hperm:(left.eraseIdx j++(acc++ [left[j]])).Perm (left++acc):=by
   have h1:(left[j]::left.eraseIdx j).Perm left:=qK left j hj;have h2:(left.eraseIdx j++(acc++ [left[j]])).Perm (left.eraseIdx j++([left[j]]++acc)):=i9 _ YZ;refine h2.trans ?_;have h3:(left.eraseIdx j++([left[j]]++acc)).Perm ((left[j]::left.eraseIdx j)++acc):=by rw[←Yl];exact nV _ YZ
   exact h3.trans (nV _ h1)
  obtain⟨left',acc',h1,h2,h3,h4⟩:=tK (c:=c) (S0:=S0) (k0:=k0) hm many (done+1) (left.eraseIdx j) (acc++ [left[j]]) (af (.int (done:Int))) (by rw[qB];rw[if_pos hj];lia) (by lia)
   (hperm.nodup_iff.mpr hn) (λx hx=>hr x (hperm.mem_iff.mp hx))
  refine⟨left',acc',?_,by simp at h2;lia,h3,h4⟩;rw[List.range'_succ,Wh];simp only[compLoop,bN,List.set_cons_zero,iU,cA,aH,if_true,ev];rw[show aq acc++ [D.int left[j]]=aq (acc++ [left[j]]) by simp];exact h1
def wk{cl:Cl}{S':bq}{c most b many:Int}{l:Nat}(b2:2<=b)(b7:b<=7)(m1:1<=many)(m2:many<=most)(h12:most<=12)(hs:List Int)(v:Option D)(hl:hs.length=many.toNat)(hn:hs.Nodup)(hr:∀x∈hs,0<=x/\x<sz b):
  AH b (sortI hs)/\((sortI hs).length:Int)<=most/\Runs cl [C.ret (E.tup [E.var 2,E.col (BS.tuple) (It.snap (E.col (BS.sorted ay) (It.live (E.var 6))))])]
   [af (.int c),af (.int most),af (.int b),af (.int (sz b)),af (.int many),af (.ref l),af (.lst (aq hs)),v] S' (gf (aD b (sortI hs)) S'):=by
 have pl:=(sortI_perm hs).length_eq;refine⟨⟨b2,b7,λe=>?_,fQ hn,λh hh=>hr h ((sortI_perm hs).mem_iff.mp hh)⟩,by lia,?_⟩
 ·rw[e]at pl;simp only[WN]at pl;lia
 ·have h64:hs.length<64:=by lia
  have hz:(sortI hs).length<=sizeLine:=by simp only[aS];lia
  clear hl hn hr m1 m2 h12 b2 b7;refine aL ?_ rfl
  (repeat' (first|with_reducible apply nR|with_reducible apply(eQ h64)|array_get_dec))
def xM{n:Nat}(hn:(n:Int)<=s):((bX n).map λ(i:Nat)=>(low+(i:Int)) % s).Nodup:=by
 rw[x6,W2];refine lI (R:=(·≠·)) ?_ oq;intro i j hi hj hij he;have h1:=Xy.mp hi;have h2:=Xy.mp hj;have h3:((low+(i:Int)) - (low+(j:Int))) % s=0:=by rw[Int.sub_emod,he];simp
 have h4:=Int.dvd_of_emod_eq_zero h3;have h5:=Int.eq_zero_of_dvd_of_natAbs_lt_natAbs h4 (by lia);lia
def wu{cl:Cl}{S:bq}{mx:Nat}{c most:Int}(hm:∀c p m S,0<p->0<m->cl mx [.int c,.int p,.int m] S=af (.ok (.int (mix c p m)) S))(h1:1<=most)(h12:most<=12):
  ∃b hs S',AH b hs/\(hs.length:Int)<=most/\Runs cl (lB mx) ([af (.int c),af (.int most),ah,ah,ah,ah,ah,ah]) S (gf (aD b hs) S')/\S'.take S.length=S:=by
 have hb:=jU (c:=c) (p:=9973) (m:=6) (by simp);obtain⟨b,eb⟩:∃b,b=2+mix c 9973 6:=⟨_,rfl⟩
 have hs:=ul (b:=b) (by lia) (by lia);obtain⟨mm,PV⟩:∃mm,mm=if sz b<most then sz b else most:=⟨_,rfl⟩
 have hmm:1<=mm/\mm<=most/\mm<=sz b:=by split at PV<;>lia
 have hmn:=jU (c:=c) (p:=9967) (m:=mm) hmm.1;obtain⟨many,em⟩:∃many,many=1+mix c 9967 mm:=⟨_,rfl⟩
 have rl:(bX (sz b).toNat).map (λ(i:Nat)=>D.int (i:Int))=aq ((bX (sz b).toNat).map λ(i:Nat)=>(i:Int)):=by simp
 have rm:cg 0 many=(sf 0 many.toNat).map (λ(i:Nat)=>D.int (i:Int)):=by rw[jw,qv]
 obtain⟨left',acc',p1,p2,p3,p4⟩:=tK (cl:=cl) (mx:=mx) (c:=c) (size:=sz b) (k0:=0) (S0:=S) hm many.toNat 0 ((bX (sz b).toNat).map λ(i:Nat)=>(i:Int)) [] ah (by simp;lia) (by lia)
  (by simp only[Wm];exact List.Pairwise.map _ (λa b (h:a≠b)=>by lia) oq) (by simp)
 have hb2:2<=b:=by lia
 have Zl:b<=7:=by lia
 have hm1:1<=many:=by lia
 have hm2:many<=most:=by lia
 have fin:∀(hs:List Int)(v:Option D),hs.length=many.toNat->hs.Nodup->(∀x∈hs,0<=x/\x<sz b)->AH b (sortI hs)/\((sortI hs).length:Int)<=most/\Runs cl [C.ret (E.tup [E.var 2,E.col (BS.tuple) (It.snap (E.col (BS.sorted ay) (It.live (E.var 6))))])]
   [af (.int c),af (.int most),af (.int b),af (.int (sz b)),af (.int many),af (.ref S.length),af (.lst (aq hs)),v] (S++ [.lst (aq left')]) (gf (aD b (sortI hs)) (S++ [.lst (aq left')])):=by
  exact λhs v hl hn hr=>wk hb2 Zl hm1 hm2 h12 hs v hl hn hr
 have e1:(S++ [SO.lst (aq left')]).take S.length=S:=by simp
 have pre:∀R,Runs cl [C.cond (T.val (E.cmp (CmpOp.Eq) (E.bin (Operator.Mod) (E.var 0) (E.cst (D.int 5))) (E.cst (D.int 0))))
   [C.asg (Tg.name 7) (E.call mx [E.var 0,E.cst (D.int 9941),E.var 3]),C.asg (Tg.name 6) (E.comp ay (E.bin (Operator.Mod) (E.bin (Operator.Add) (E.var 1) (E.var 0)) (E.var 2)) (Tg.name 0) (It.lS (E.var 4)) [] 1 [7,3])] [],
   C.ret (E.tup [E.var 2,E.col (BS.tuple) (It.snap (E.col (BS.sorted ay) (It.live (E.var 6))))])]
   [af (.int c),af (.int most),af (.int b),af (.int (sz b)),af (.int many),af (.ref S.length),af (.lst (aq acc')),ah] (S++ [.lst (aq left')]) R->
   Runs cl (lB mx) ([af (.int c),af (.int most),ah,ah,ah,ah,ah,ah]) S R:=by
  intro R k;unfold lB;refine aC (by(repeat' (first|with_reducible apply hm|array_get_dec))) rfl ?_;rw[←eb];refine aC (by(repeat' (first|array_get_dec))) rfl ?_;have hx:0<(if sz b<most then sz b else most):=by rw[←PV];exact hmm.1
  refine aC (by(repeat' (first|with_reducible apply hm|array_get_dec))) rfl ?_;rw[←PV,←em];refine aC (by(repeat' (first|array_get_dec))) rfl ?_;rw[jw,rl];refine aC (cU (pJ (aa rfl) (by lia)) (by rw[rm];exact p1) (by simp at p2;simp[aS];lia)) rfl ?_;exact k
 by_cases h5:c % 5=0
 ·obtain⟨low,el⟩:∃low,low=mix c 9941 (sz b):=⟨_,rfl⟩
  have hlow:=jU (c:=c) (p:=9941) (m:=sz b) (W4 (by decide) hs.1);obtain⟨f1,f2,f3⟩:=fin ((bX many.toNat).map λ(i:Nat)=>(low+(i:Int)) % sz b) (af (.int low)) (by simp)
   (xM (by lia)) (by
    intro x hx;obtain⟨i,_,rfl⟩:=Wn.mp hx;exact⟨kP _ (by lia),iN _ (W4 (by decide) hs.1)⟩)
  refine⟨b,_,_,f1,f2,pre _ ?_,e1⟩;refine fD (by(repeat' (first|array_get_dec))) (λ_=>?_) (λh=>absurd h (by simp[h5]));refine aC (by(repeat' (first|with_reducible apply hm|array_get_dec))) rfl ?_;rw[←el];refine aC (cU (pJ (aa rfl) (by lia)) (by
   rw[jw];refine vU (F:=λd=>match d with|.int i=> .int ((low+i) % sz b)|d=>d) ?_;intro d hd;obtain⟨i,_,rfl⟩:=Wn.mp hd
   (repeat' (first|array_get_dec))) (by simp[aS];lia)) rfl ?_
  simp only[YQ]at f3;simp only[YQ];exact f3
 ·obtain⟨f1,f2,f3⟩:=fin acc' ah (by simpa using p2) p3 p4;refine⟨b,_,_,f1,f2,pre _ ?_,e1⟩;refine fD (by(repeat' (first|array_get_dec))) (λh=>absurd h (by simp[h5])) (λ_=>?_);exact f3
def cN(hs:List Int)(x:Int):List Int:=hs.dropWhile (λh=>decide (h<x))++hs.takeWhile (λh=>decide (h<x))
def fU(hs:List Int)(x:Int):(cN hs x).Perm hs:=by unfold cN;refine YZ.trans (qf ?_);simp
def pL(hs:List Int)(x:Int):(cN hs x).length=hs.length:=(fU hs x).length_eq
def M7(h:hs≠ [])(x:Int):cN hs x≠ []:=λe=>h (YB.mp (by rw[←pL hs x,e];rfl))
def cJ(x:Int):Int->List Int->Int
 |_,[]=>0|k,h::t=>if h>=x then k else cJ x (k+1) t
theorem place_spec(x:Int):∀(hs:List Int)(k:Int),(hs.dropWhile (λh=>decide (h<x))=[]/\cJ x k hs=0)\/(hs.dropWhile (λh=>decide (h<x))≠ []/\cJ x k hs=k+((hs.takeWhile (λh=>decide (h<x))).length:Int))
 |[],k=> .inl ⟨rfl,rfl⟩|h::t,k=>by
  by_cases hx:h<x
  ·have e1:(h::t).dropWhile (λh=>decide (h<x))=t.dropWhile (λh=>decide (h<x)):=by simp[hx]
   have e2:(h::t).takeWhile (λh=>decide (h<x))=h::t.takeWhile (λh=>decide (h<x)):=by simp[hx]
   have e3:cJ x k (h::t)=cJ x (k+1) t:=by show(if h>=x then k else cJ x (k+1) t)=_;rw[if_neg (by lia)]
   rw[e1,e2,e3];rcases place_spec x t (k+1)with⟨h1,h2⟩|⟨h1,h2⟩
   ·exact .inl ⟨h1,h2⟩
   ·refine .inr ⟨h1,?_⟩;rw[h2,Wl];lia
  ·right;have e1:(h::t).dropWhile (λh=>decide (h<x))=h::t:=by simp[hx]
   have e2:(h::t).takeWhile (λh=>decide (h<x))=[]:=by simp[hx]
   rw[e1,e2];refine⟨by simp,?_⟩;unfold cJ
   simp_all
abbrev place(hs:List Int)(x:Int):Int:=cJ x 0 hs
def Ez(hne:hs≠ [])(x:Int):0<=place hs x/\place hs x<hs.length/\hs.drop (place hs x).toNat++hs.take (place hs x).toNat=cN hs x:=by
 have hl:0<hs.length:=List.length_pos_iff.mpr hne;have hs':hs.takeWhile (λh=>decide (h<x))++hs.dropWhile (λh=>decide (h<x))=hs:=List.takeWhile_append_dropWhile;have hlen:(hs.takeWhile (λh=>decide (h<x))).length+(hs.dropWhile (λh=>decide (h<x))).length=hs.length:=by rw[←WK,hs']
 rcases place_spec x hs 0 with⟨h1,h2⟩|⟨h1,h2⟩
 ·refine⟨by unfold place;lia,by unfold place;lia,?_⟩;unfold place cN
  simp_all
 ·have h3:0<(hs.dropWhile (λh=>decide (h<x))).length:=List.length_pos_iff.mpr h1;unfold place cN;rw[h2];refine⟨by simp,by lia,?_⟩;have e:(0+((hs.takeWhile (λh=>decide (h<x))).length:Int)).toNat=(hs.takeWhile (λh=>decide (h<x))).length:=by lia
  grind
def Ir(h0:0<=k)(h1:k<=α.length):cutD α (af k) ah=α.drop k.toNat:=by
 have e:HT.kL α.length 0 (af k)=k.toNat:=by unfold HT.kL;simp only[if_neg (show ¬k<0 by lia)];lia
 unfold cutD;rw[e,HT.uw];exact W9 (by simp)
def ww(h0:0<=k):cutD α ah (af k)=α.take k.toNat:=by
 have e:HT.kL α.length α.length (af k)=min k.toNat α.length:=by unfold HT.kL;simp only[if_neg (show ¬k<0 by lia)]
 unfold cutD;rw[e,HT.uw,r9,zd,←List.take_take];simp
def mL(DB:Nat):List C:=
 [C.asg (Tg.name 2) (E.bin (Operator.Mod) (E.var 1) (E.call DB [E.var 0])),
  C.fr
   (Tg.tup [Tg.name 3,Tg.name 4])
   (It.BB (E.ix (E.var 0) (E.cst (D.int 1))))
   [C.cond (T.val (E.cmp (CmpOp.GtE) (E.var 4) (E.var 2))) [C.ret (E.var 3)] []],
  C.ret (E.cst (D.int 0))]
def EY:(((d::ds).zipIdx k).map λp=>D.tup [.int p.2,p.1])= .tup [.int k,d]::((ds.zipIdx (k+1)).map λp=>D.tup [.int p.2,p.1]):=by rfl
section
variable{cl:Cl}{S:bq}{b key:Int}{hs:List Int}{sp pl:Nat}
def rN(hp:cl sp [aD b hs] S=af (.ok (.int (sz b)) S))(h2:2<=b)(h7:b<=7):Runs cl (mL sp) [af (aD b hs),af (.int key),ah,ah,ah] S (gf (.int (place hs (key % sz b))) S):=by
 have hz:=ul h2 h7;unfold mL;refine aC (by(repeat' (first|with_reducible apply hp|array_get_dec))) rfl ?_;refine vR (ds:=iK (aq hs)) (S1:=S) (by(repeat' (first|with_reducible apply Es|array_get_dec))) (λds r S'=>S'=S/\∃l k v3 v4,ds=((aq l).zipIdx k).map (λp=>D.tup [.int p.2,p.1])/\cJ (key % sz b) k l=place hs (key % sz b)/\r=[af (aD b hs),af (.int key),af (.int (key % sz b)),v3,v4])
  ⟨rfl,hs,0,ah,ah,rfl,rfl,rfl⟩ ?_ ?_
 ·rintro r S' ⟨rfl,l,k,v3,v4,e,hpl,rfl⟩;have el:l=[]:=by
   cases l with|nil=>rfl|cons x l=>simp[ve]at e
  subst el;refine aL (by(repeat' (first|array_get_dec))) ?_;rw[←hpl];rfl
 ·rintro d ds r S' ⟨rfl,l,k,v3,v4,e,hpl,rfl⟩;cases l with
  |nil=>simp at e|cons h l=>
   rw[show aq (h::l)= .int h::aq l from rfl,EY]at e;injection e with e1 e2
   subst e1;refine⟨_,rfl,?_⟩;simp only[bS];refine fD (by(repeat' (first|array_get_dec))) (λhc=>?_) (λhc=>?_)
   ·have hc:key % sz b<=h:=by simpa using hc
    refine aL (by(repeat' (first|array_get_dec))) ?_;rw[←hpl];unfold cJ;rw[if_pos hc];rfl
   ·have hc:¬key % sz b<=h:=by simpa using hc
    refine aJ ⟨rfl,l,k+1,_,_,e2,?_,rfl⟩;rw[←hpl]
    conv=>rhs;unfold cJ
    rw[if_neg (by exact hc)];rfl
def tL(place:Nat):List C:=
 [C.asg (Tg.name 3) (E.ix (E.var 0) (E.cst (D.int 1))),
  C.asg (Tg.name 4) (E.call place [E.var 0,E.var 1]),
  C.asg
   (Tg.name 5)
   (E.bin (Operator.Add) (E.GH (E.var 3) (E.var 4)) (E.DF (E.var 3) (E.var 4))),
  C.ret (E.DF (E.var 5) (E.bi (Bi.max) [E.var 2,E.cst (D.int 0)]))]
def xN(hp:cl pl [aD b hs,.int key] S=af (.ok (.int (place hs (key % sz b))) S))(hne:hs≠ [])(hl:hs.length<=100000)(hc:0<=copies):
  Runs cl (tL pl) [af (aD b hs),af (.int key),af (.int copies),ah,ah,ah] S (gf (.tup (aq ((cN hs (key % sz b)).take copies.toNat))) S):=by
 obtain⟨h0,h1,h2⟩:=Ez hne (key % sz b);have hlen:(aq hs).length=hs.length:=by simp
 have e1:cutD (aq hs) (af (place hs (key % sz b))) ah=aq (hs.drop (place hs (key % sz b)).toNat):=by rw[Ir h0 (by rw[hlen];exact zh h1)];simp
 have e2:cutD (aq hs) ah (af (place hs (key % sz b)))=aq (hs.take (place hs (key % sz b)).toNat):=by rw[ww h0];simp
 have n1:cutD (aq hs) (af (place hs (key % sz b))) ah≠ []:=by rw[e1];simp;lia
 have n2:(cutD (aq hs) (af (place hs (key % sz b))) ah).length+(cutD (aq hs) ah (af (place hs (key % sz b)))).length<=sizeLine:=by rw[e1,e2];simp[aS];lia
 unfold tL;refine aC (by(repeat' (first|array_get_dec))) rfl ?_;refine aC (by(repeat' (first|with_reducible apply hp|array_get_dec))) rfl ?_;refine aC (by(repeat' (first|array_get_dec))) rfl ?_;rw[e1,e2,←ZG,h2];refine aL (by(repeat' (first|array_get_dec))) ?_;have e3:(if(0:Int)>copies then(0:Int)else copies)=copies:=if_neg (by lia);rw[e3,ww hc];simp[gf]
def oM:List C:=
 [C.asg
   (Tg.name 2)
   (E.bin (Operator.LShift) (E.cst (D.int 1)) (E.ix (E.var 0) (E.cst (D.int 0)))),
  C.asg
   (Tg.name 3)
   (E.col
    (BS.sorted ay)
    (It.live
     (E.comp
      ay
      (E.tup
       [E.bin (Operator.Mod) (E.bin (Operator.Sub) (E.var 0) (E.var 2)) (E.var 1),
       E.var 0])
      (Tg.name 0)
      (It.seq (E.ix (E.var 0) (E.cst (D.int 1))))
      []
      1
      [2,1]))),
  C.ret (E.comp ay (E.var 1) (Tg.tup [Tg.name 0,Tg.name 1]) (It.seq (E.var 3)) [] 2 [])]
end
abbrev gq(s x h:Int):List Int:=[(h - x) % s,h]
def jW{s x h:Int}(hx:0<=x/\x<s)(hh:0<=h/\h<s):(h - x) % s=if h<x then h - x+s else h - x:=by
 split
 ·rw[←Int.add_emod_right];exact s9 (by lia) (by lia)
 ·exact s9 (by lia) (by lia)
def M8{s x h:Int}:(h - x) % s=(h - x % s) % s:=by simp
theorem gP:∀(hs:List Int),∀h∈hs.takeWhile (λh=>decide (h<x)),h<x
 |[],h,hh=>by simp at hh|a::l,h,hh=>by
  by_cases ha:a<x
  ·simp only[List.takeWhile_cons,ha,ZK,if_true,We]at hh;rcases hh with rfl|hh
   ·exact ha
   ·exact gP l h hh
  simp_all
theorem gQ:∀(hs:List Int),hs.Pairwise (·<·)->∀h∈hs.dropWhile (λh=>decide (h<x)),x<=h
 |[],_,h,hh=>by simp at hh|a::l,hp,h,hh=>by
  have hp':=WQ.mp hp;by_cases ha:a<x
  ·simp only[rL,ha,ZK,if_true]at hh;exact gQ l hp'.2 h hh
  ·simp only[rL,ha,decide_false,Wt,Xd,We]at hh;rcases hh with rfl|hh
   ·lia
   ·have:=hp'.1 h hh;lia
def Fb{hs l:List Int}(h:hs.Pairwise (·<·))(hl:l.Sublist hs):l.Pairwise (·<·):=h.sublist hl
def Fd(hR:AH b hs)(hx:0<=x/\x<sz b):((cN hs x).map λh=>(h - x) % sz b).Pairwise (·<·):=by
 rw[W2];have tk:∀h∈hs.takeWhile (λh=>decide (h<x)),h∈hs:=λh hh=>(nX _).subset hh;have dp:∀h∈hs.dropWhile (λh=>decide (h<x)),h∈hs:=λh hh=>(n5 _).subset hh;unfold cN;refine Yw.mpr ⟨?_,?_,?_⟩
 ·refine(Fb hR.up (n5 _)).imp_of_mem ?_;intro a c ha hc hac;have g1:=gQ hs hR.up a ha;have g2:=gQ hs hR.up c hc;rw[jW hx (hR.AR a (dp a ha)),jW hx (hR.AR c (dp c hc)),if_neg (by lia),if_neg (by lia)];lia
 ·refine(Fb hR.up (nX _)).imp_of_mem ?_;intro a c ha hc hac;have g1:=gP hs a ha;have g2:=gP hs c hc;rw[jW hx (hR.AR a (tk a ha)),jW hx (hR.AR c (tk c hc)),if_pos g1,if_pos g2];lia
 ·intro a ha c hc;have g1:=gQ hs hR.up a ha;have g2:=gP hs c hc;have r1:=hR.AR a (dp a ha);have r2:=hR.AR c (tk c hc);rw[jW hx r1,jW hx r2,if_neg (by lia),if_pos g2];lia
def Bq(h:a<c):RK.lexLt (c::r) (a::r')=false:=by unfold RK.lexLt;rw[if_neg (by exact ze h)];simp;exact zh h
def Iu(hR:AH b hs)(hx:0<=x/\x<sz b):aQ (hs.map (gq (sz b) x))=(cN hs x).map (gq (sz b) x):=by refine(uE ((fU hs x).map _) ?_).symm;rw[W2];have q:=Fd hR hx;rw[W2]at q;exact q.imp λh=>Bq h
theorem qL:∀(rs:List (List Int)),(∀r∈rs,r≠ [])->dz (rs.map dh)=af rs
 |[],_=>rfl|r::rs,h=>by
  obtain⟨n,ns,rfl⟩:∃n ns,r=n::ns:=by
   cases r with|nil=>simp_all|cons n ns=>lia
  simp only[Wh,dh,dz];rw[show(D.int n::AB D.int ns)=aq (n::ns)from rfl,fY];have ih:=qL rs λr hr=>h r (by simp[hr]);rw[ih]
theorem Br(h:∀r∈rs,r≠ [])(hn:rs.Nodup)(hl:rs.length<64):dU (rs.map dh)=af ((aQ rs).map dh):=by
 cases rs with
 |nil=>rfl|cons r rs=>
  unfold dU;have e:aY ((r::rs).map dh)=none:=by simp[dh,aY]
  rw[e,qL _ h];exact if_pos ⟨hn,Wa hl (by decide),λz=>by lia⟩
theorem qM{cl:Cl}{S:bq}:∀{ps:List (Int×Int)}{o1 o2:Option D}{acc:List D},
  compLoop (λr S=>aj cl (E.var 1) r S) (λr S=>bx cl [] r S) (Tg.tup [Tg.name 0,Tg.name 1]) (ps.map λp=>D.tup [.int p.1,.int p.2]) [o1,o2] S acc=af (.ok (acc++ps.map λp=>D.int p.2) S)
 |[],o1,o2,acc=>by simp[compLoop]|p::ps,o1,o2,acc=>by rw[Wh];unfold compLoop;simp only[bN,jo,bS];rw[iU];simp only[cA,aH,if_true];rw[show aj cl (E.var 1) [af (D.int p.1),af (D.int p.2)] S=af (.ok (.int p.2) S)from aa rfl];simp only[cA,aH];rw[qM];simp
section
variable{cl:Cl}{S:bq}{b x:Int}{hs:List Int}
def tZ(hR:AH b hs)(hl:hs.length<64):Runs cl oM [af (aD b hs),af (.int x),ah,ah] S (gf (.lst (aq (cN hs (x % sz b)))) S):=by
 have h2:=hR.b2;have h7:=hR.b7;have hz:=ul h2 h7;have hx:0<=x % sz b/\x % sz b<sz b:=⟨kP _ (by lia),iN _ (W4 (by decide) hz.1)⟩
 have er:(aq hs).map (λd=>match d with|.int h=>dh (gq (sz b) (x % sz b) h)|d=>d)=(hs.map (gq (sz b) (x % sz b))).map dh:=by simp[YQ,X7]
 have hs':dU ((aq hs).map (λd=>match d with|.int h=>dh (gq (sz b) (x % sz b) h)|d=>d))=af (((cN hs (x % sz b)).map (gq (sz b) (x % sz b))).map dh):=by rw[er,Br (by simp) (W2.mpr (hR.up.imp λn e=>by simp_all)) (by simpa using hl),Iu hR hx]
 have hol:=pL hs (x % sz b);unfold oM;refine aC (by(repeat' (first|array_get_dec))) rfl ?_;refine aC (S1:=S) (d:= .lst (((cN hs (x % sz b)).map (gq (sz b) (x % sz b))).map dh)) (fX (ds:=(aq hs).map (λd=>match d with|.int h=>dh (gq (sz b) (x % sz b) h)|d=>d)) (nR (cU (cz (by(repeat' (first|array_get_dec)))) (vU (F:=λd=>match d with|.int h=>dh (gq (sz b) (x % sz b) h)|d=>d) ?_) ?_)) hs' ?_) rfl ?_
 ·intro d hd;obtain⟨h,_,rfl⟩:=Wn.mp hd;show _=af (Out.ok (D.tup [.int ((h - x % sz b) % sz b),.int h]) S);rw[←M8]
  (repeat' (first|array_get_dec))
 ·simp[aS];lia
 ·simp[aS];lia
 ·refine aL (S1:=S) (cU (es:=aq (cN hs (x % sz b))) (S2:=S) (iG (aa rfl)) ?_ ?_) rfl
  ·have q:=qM (cl:=cl) (S:=S) (ps:=(cN hs (x % sz b)).map λh=>((h - x % sz b) % sz b,h)) (o1:=ah) (o2:=ah) (acc:=[]);simp only[YQ,X7,Wj]at q;simp only[YQ,X7,dh,gq,Wh,WW,f9,br,Wm];exact q
  ·simp[aS];lia
end
theorem mO:∀ns:List Int,zl.yi (aq ns)=af (ns.map PyData.int)
 |[]=>rfl|n::r=>by show(match zl (.int n),zl.yi (aq r)with|some p,af ps=>af (p::ps)|_,_=>ah)=_;rw[mO r];rfl
theorem wy:∀ns:List Int,PyData.canLayAll0 (ns.map PyData.int)=ai
 |[]=>rfl|n::r=>by simp[PyData.canLayAll0,PyData.canLay0,wy r]
theorem wz:∀ns:List Int,PyData.depthAll (ns.map PyData.int)<=1
 |[]=>by simp[PyData.depthAll]|n::r=>by have:=wz r;simp only[Wh,PyData.depthAll,PyData.depth];lia
def mQ(ns:List Int):SeqAt.shaped (.list (ns.map PyData.int))=true:=by have h1:=wy ns;have h2:=wz ns;simp only[SeqAt.shaped,PyData.canLay0,PyData.depth,h1,ZD];exact Xz (Wv h2 (by decide))
abbrev qN:Str:=Z8
abbrev with1(hs:List Int)(x:Int):List Int:=sortI (hs++ [x])
def iQ(hs:List Int)(x:Int):(with1 hs x).Perm (x::hs):=(sortI_perm _).trans (YZ.trans (mw _))
def zv:y∈with1 hs x ↔ y=x\/y∈hs:=by rw[(iQ hs x).mem_iff,We]
def Iw(hp:hs.Pairwise (·<·))(hx:x∉hs):(with1 hs x).Pairwise (·<·):=by
 refine fQ ?_;have hn:hs.Nodup:=hp.imp λh=>lP h;rw[Xu]
 grind
def IK(hs:List Int)(x:Int):with1 hs x≠ []:=λe=>by
 have:=(iQ hs x).length_eq
 simp_all
def Fe(hR:AH b hs)(h0:0<=x/\x<sz b)(hx:x∉hs):AH b (with1 hs x):=
 ⟨hR.b2,hR.b7,IK _ _,Iw hR.up hx,λh hh=>by
  rcases zv.mp hh with rfl|hh
  ·exact h0
  ·exact hR.AR h hh⟩
abbrev eU(hs:List Int)(x:Int):List Int:=hs.filter λh=>decide (h≠x)
def Ff(hR:AH b hs)(hne:eU hs x≠ []):AH b (eU hs x):=
 ⟨hR.b2,hR.b7,hne,hR.up.sublist Ym,λh hh=>hR.AR h (Wz.mp hh).1⟩
theorem IV(hR:AH b hs)(hl:1<hs.length):eU hs x≠ []:=by
 intro e;have hn:hs.Nodup:=hR.up.imp λh=>lP h
 match hs,hl,hn,e with
 |a::c::l,_,hn,e=>simp_all
theorem any_ints(x:Int):∀hs:List Int,((hs.map PyData.int).any λq=>PyData.eqv q (.int x))=decide (x∈hs)
 |[]=>by simp|a::l=>by
  rw[Wh,kF,any_ints x l];simp only[PyData.eqv]
  grind
def ik:inD S (.int x) (.tup (aq hs))=af (decide (x∈hs)):=by
 have e:SeqAt.shaped (.int x)=true:=by simp[SeqAt.shaped,PyData.canLay0,PyData.depth]
 simp only[inD,cF,gw,yU,rK,rM,bf,mO,e,mQ,and_self,if_true,any_ints]
def M9:inD S (.int x) (.lst (aq hs))=af (decide (x∈hs)):=by
 have e:SeqAt.shaped (.int x)=true:=by simp[SeqAt.shaped,PyData.canLay0,PyData.depth]
 simp only[inD,cF,gw,yU,rK,rM,bf,mO,e,mQ,and_self,if_true,any_ints]
def qO(DB:Nat):List C:=
 [C.cond
   (T.or
    (T.val (E.cmp (CmpOp.Lt) (E.var 1) (E.cst (D.int 0))))
    (T.val (E.cmp (CmpOp.GtE) (E.var 1) (E.call DB [E.var 0]))))
   [C.raise Z8 [E.fmt [E.var 1]]]
   []]
def Fg(Zp:Nat):List C:=
 [C.asg (Tg.name 2) (E.ix (E.var 0) (E.cst (D.int 1))),
  C.ex (E.call Zp [E.var 0,E.var 1]),
  C.cond
   (T.val (E.cmp (CmpOp.In) (E.var 1) (E.var 2)))
   [C.no]
   [],
  C.ret
   (E.tup
    [E.ix (E.var 0) (E.cst (D.int 0)),
    E.col
     (BS.tuple)
     (It.snap
      (E.col
       (BS.sorted ay)
       (It.live (E.bin (Operator.Add) (E.var 2) (E.tup [E.var 1])))))])]
def Fi(hf:fns[f]?=af fs)(ha:as.length=fs.np)(h:Runs (ao fns k) fs.body (as.map af++br (fs.nn - as.length) ah) S λo=>∃r S',o=af (.next r S')/\S'.take S.length=S):ao fns (k+1) f as S=af (.ok .non S):=by rw[ao,hf];unfold Runs at h;obtain⟨r,S',h,h2⟩:=h;simp only[if_pos ha,h,gh];exact rH h2 trivial
section
variable{cl:Cl}{S:bq}{b spot:Int}{hs:List Int}{sp:Nat}
def Fj(h:i.natAbs<2^1000):([D.int i]).all jb=true:=by
 simp only[ZC,p9,Bool.and_true,jb]
 simp_all
def IW(hp:cl sp [aD b hs] S=af (.ok (.int (sz b)) S))(h0:0<=spot/\spot<sz b):Runs cl (qO sp) [af (aD b hs),af (.int spot)] S λo=>∃r S',o=af (.next r S')/\S'.take S.length=S:=by unfold qO;refine bR (S1:=S) (uf (S1:=S) (aZ (x:= .bl (decide (spot<0))) (by(repeat' (first|array_get_dec))) (by simp[bD];lia)) (aZ (x:= .bl (decide (sz b<=spot))) (by(repeat' (first|with_reducible apply hp|array_get_dec))) (by simp[bD];lia))) ?_;exact aJ ⟨_,_,rfl,by simp⟩
def Fo(hp:cl sp [aD b hs] S=af (.ok (.int (sz b)) S))(h0:¬(0<=spot/\spot<sz b))(hsm:spot.natAbs<2^1000):
  Runs cl (qO sp) [af (aD b hs),af (.int spot)] S λx=>∃r S',x=af (.exc qN r S')/\S'.take S.length=S:=by
 unfold qO;refine fD (t:=decide (spot<0) || decide (sz b<=spot)) (S1:=S) (RL (aZ (by(repeat' (first|array_get_dec))) bD) λ_=>aZ (by(repeat' (first|with_reducible apply hp|array_get_dec))) bD) (λh=>?_) (λh=>?_)
 ·exact Bj (ak (RC (ak (aa rfl) au) (Fj hsm)) au) ⟨_,_,rfl,by simp⟩
 exfalso;have:¬spot<0/\¬sz b<=spot:=by simpa using h
 lia
def I8(hp:cl sp [aD b hs,.int spot] S=af (.ok .non S))(hx:spot∉hs)(hne:hs≠ [])(hl:hs.length<60):
  Runs cl (Fg sp) [af (aD b hs),af (.int spot),ah] S (gf (aD b (with1 hs spot)) S):=by
 have hlen:=(iQ hs spot).length_eq;unfold Fg;refine aC (by(repeat' (first|array_get_dec))) rfl ?_;simp only[bS];refine bY (aM (ak (aa rfl) (ak (aa rfl) au)) hp) ?_;refine bR (S1:=S) (aZ (x:= .bl (decide (spot∈hs))) (aR (aa rfl) (aa rfl) (Im ik)) (by simp[bD,hx])) ?_;simp only[Wj];refine aL (S1:=S) (cu (ak (by(repeat' (first|array_get_dec))) (ak (dM (fP (fX (M5 (ns:=hs++ [spot]) (fO (aa rfl) (cu (ak (aa rfl) au) (by simp[aS])) (vY (by simpa using hne) (by simp[aS];lia))) (by rw[show aq hs++ [D.int spot]=aq (hs++ [spot]) by simp];exact RV.fY _)) ?_ ?_) eO) ?_) au)) (by simp[aS])) rfl
 ·have e:aq hs++ [D.int spot]=aq (hs++ [spot]):=by simp
  rw[e];exact eQ (by simp;exact Wv hl (by decide))
 ·simp only[Wb,aS];simp only[Wl]at hlen;lia
 ·simp only[Wb,aS];simp only[Wl]at hlen;lia
def Fp:List C:=
 [C.asg (Tg.name 2) (E.ix (E.var 0) (E.cst (D.int 1))),
  C.cond
   (T.val (E.cmp (CmpOp.NotIn) (E.var 1) (E.var 2)))
   [C.no]
   [],
  C.cond
   (T.val (E.cmp (CmpOp.Eq) (E.bi (Bi.len) [E.var 2]) (E.cst (D.int 1))))
   [C.no]
   [],
  C.ret
   (E.tup
    [E.ix (E.var 0) (E.cst (D.int 0)),
    E.col
     (BS.tuple)
     (It.snap
      (E.comp
       ay
       (E.var 0)
       (Tg.name 0)
       (It.seq (E.var 2))
       [T.val (E.cmp (CmpOp.NotEq) (E.var 0) (E.var 1))]
       1
       [1]))])]
def Fq(hi:r[i]?=af (af (.int spot)))(h1:bH cl it r S=af (.ok (aq hs) S))(hl:hs.length<=100000):
  aj cl (E.comp ay (E.var 0) (Tg.name 0) it [T.val (E.cmp (CmpOp.NotEq) (E.var 0) (E.var 1))] 1 [i]) r S=af (.ok (.lst (aq (eU hs spot))) S):=by
 have hf:∀l:List Int,(((aq l).filter λd=>match d with|.int h=>decide (h≠spot)|_=>ay).map id)=aq (eU l spot):=by
  intro l
  induction l with
  |nil=>rfl|cons a l ih=>grind
 refine cU h1 (S2:=S) (es:=aq (eU hs spot)) ?_ ?_
 ·have q:=ju (S:=S) (f:=λr S=>aj cl (E.var 0) r S) (g:=λr S=>bx cl [T.val (E.cmp (CmpOp.NotEq) (E.var 0) (E.var 1))] r S) (P:=λd=>match d with|.int h=>decide (h≠spot)|_=>ay) (F:=id) (caps:=[af (.int spot)]) (ds:=aq hs) (o:=ah) (acc:=[]) (λd hd=>by
   obtain⟨h,_,rfl⟩:=Wn.mp hd;exact⟨by(repeat' (first|array_get_dec)),λ_=>aa rfl⟩)
  rw[hf hs,Wj]at q;simp only[f9,br,Wh,WW,hi,Option.join_some,Wr,Wj];exact q
 ·have:=Xe (λh=>decide (h≠spot)) hs;simp only[Wb,aS];unfold eU;lia
def I9(hin:spot∈hs)(h1:1<hs.length)(hl:hs.length<60):Runs cl Fp [af (aD b hs),af (.int spot),ah] S (gf (aD b (eU hs spot)) S):=by unfold Fp;refine aC (by(repeat' (first|array_get_dec))) rfl ?_;simp only[bS];refine bR (S1:=S) (aZ (x:= .bl (!decide (spot∈hs))) (aR (aa rfl) (aa rfl) (lz ik)) (by simp[bD,hin])) ?_;simp only[Wj];refine bR (S1:=S) (aZ (x:= .bl ay) (aR (gO (ak (aa rfl) au) (gn bK)) aB (by rw[Bl];simp;lia)) rfl) ?_;simp only[Wj];refine aL (S1:=S) (cu (ak (by(repeat' (first|array_get_dec))) (ak (dM (fP (Fq rfl (cz (aa rfl)) (by lia)) eO) ?_) au)) (by simp[aS])) rfl;have:=Xe (λh=>decide (h≠spot)) hs;simp only[Wb,aS];unfold eU;lia
end
def bV{l:List Int}(h:l.Pairwise (·<·)):l.Nodup:=h.imp λh=>lP h
def yX{kvs:List (L2.Key×D)} :(kvs.any λkv=>decide (kv.1=k))=ai ↔ k∈kvs.map (·.1):=by simp
def Jc(h:k∈kvs.map (·.1)):(putD kvs k v).map (·.1)=kvs.map (·.1):=by unfold putD;rw[if_pos (yX.mpr h),YQ];apply rS;intro kv _;lia
def wA(h:k∉kvs.map (·.1)):putD kvs k v=kvs++ [(k,v)]:=by unfold putD;rw[if_neg λq=>h (yX.mp q)]
abbrev nU:Str:=Z3
section
variable{hs:List Int}
abbrev rest(hs gone:List Int):List Int:=hs.filter λh=>decide (h∉gone)
end
def Ft(hl:S'.length=S.length)(c:r6 S.length d):trim S d S'=af (.ok d S'):=by
 have e:S'.take S.length=S':=by rw[←hl,om]
 unfold trim;rw[e];split
 ·lia
 ·split
  ·rfl
  ·split
   ·next k _ _=>
    split
    ·lia
    ·rfl
   ·rfl
def mR(hf:fns[f]?=af fs)(ha:as.length=fs.np)(h:Runs (ao fns k) fs.body (as.map af++br (fs.nn - as.length) ah) S λo=>∃r,o=af (.next r S'))(hl:S'.length=S.length):ao fns (k+1) f as S=af (.ok .non S'):=by rw[ao,hf];unfold Runs at h;obtain⟨r,h⟩:=h;simp only[if_pos ha,h,gh];exact Ft hl trivial
abbrev IJ(s a c:Int):Int:=(c - a) % s
theorem bW{α:Type}[DecidableEq α]:∀(l m:List α),l.Nodup->(∀x∈l,x∈m)->l.length<=m.length
 |[],m,_,_=>WP _|x::l,m,h,hs=>by
  have h':=Xo.mp h;have hx:=hs x (by simp);have:=bW l (m.erase x) h'.2 λy hy=>by have hne:y≠x:=λe=>h'.1 (e▸hy);exact(ko hne).mpr (hs y (by simp[hy]))
  rw[gS hx]at this;have hpos:0<m.length:=iP hx;simp only[Wl];lia
theorem Jd(h:bz kvs k=af d):(k,d)∈kvs:=by
 unfold bz at h;cases e:kvs.find? λkv=>decide (kv.1=k)with
 |none=>rw[e]at h;cases h|some p=>
  rw[e]at h;have e1:p.2=d:=by simpa using h
  have e2:=qk e;have e3:p.1=k:=by simpa using e2
  have:=gy e;rw[←e1,←e3];exact this
def Fv(h:bz kvs k=ah):k∉kvs.map (·.1):=by
 unfold bz at h;intro hm;obtain⟨p,hp,e⟩:=Wn.mp hm;have h':kvs.find? (λkv=>decide (kv.1=k))=none:=by simpa using h
 have:=Zj.mp h' p hp;simp[e]at this
def iH(h:S[k]?=af (.dct kvs)):cF S (.ref k)=af kvs:=by simp only[cF,h]
end RV
namespace RV
open PySem L2 RK
abbrev iV:Str:=Z6
abbrev lC:Str:=Z2
def xw(hs:List Int)(q:Int->Nat):List (L2.Key×D):=hs.map λh=>(Sum.inl h,D.ref (q h))
theorem jX(hm:h∈hs):bz (xw hs q) (.inl h)=af (.ref (q h)):=by
 induction hs with
 |nil=>cases hm|cons a r ih=>
  by_cases e:a=h
  ·subst e;simp[xw,bz]
  ·have hm:h∈r:=by
    rcases We.mp hm with z|z
    ·exact absurd z.symm e
    ·exact z
   have q':=ih hm;have e2:bz (xw (a::r) q) (.inl h)=bz (xw r q) (.inl h):=by have:¬(Sum.inl a:L2.Key)=Sum.inl h:=λz=>e (Sum.inl.inj z);simp[xw,bz,XC,this]
   rw[e2];exact q'
def Je(hs:List Int)(q:Int->Nat):(xw hs q).map (·.1)=hs.map Sum.inl:=by simp[xw,X7]
def yZ(hm:h∉hs):putD (xw hs q) (.inl h) (.ref (q h))=xw (hs++ [h]) q:=by
 rw[wA]
 ·simp[xw]
 ·rw[Je];intro z;obtain⟨x,hx,e⟩:=Wn.mp z;exact hm (Sum.inl.inj e▸hx)
section
variable{S:bq}
def cL(h:S[i]?=af o):i<S.length:=(Wi.mp h).1
end
def pos:List Int->Int->Nat
 |[],_=>0|x::r,h=>if x=h then 0 else pos r h+1
theorem za:∀{done:List Int},h∉done->pos (done++h::ys) h=done.length
 |[],_=>by simp[pos]|x::r,hn=>by have e:¬x=h:=λe=>hn (by simp[e]);have ih:=za (h:=h) (ys:=ys) (done:=r) (λq=>hn (by simp[q]));simp[pos,e,ih]
theorem gR:∀{hs:List Int},h∈hs->pos hs h<hs.length
 |[],hm=>by cases hm|x::r,hm=>by
  by_cases e:x=h
  ·simp[pos,e]
  ·have:=gR (h:=h) (hs:=r) ((We.mp hm).resolve_left (Ne.symm e));simp[pos,e];lia
theorem rO:∀{hs:List Int},h∈hs->h'∈hs->pos hs h=pos hs h'->h=h'
 |[],hm,_,_=>by cases hm|x::r,hm,hm',e=>by
  by_cases e1:x=h<;>by_cases e2:x=h'
  ·rw[←e1,←e2]
  ·simp only[pos,if_pos e1,if_neg e2]at e;lia
  ·simp only[pos,if_neg e1,if_pos e2]at e;lia
  ·simp only[pos,if_neg e1,if_neg e2]at e;replace e:pos r h=pos r h':=by lia
   exact rO ((We.mp hm).resolve_left (Ne.symm e1)) ((We.mp hm').resolve_left (Ne.symm e2)) e
def Fw(hf:fns[f]?=af fs)(ha:as.length=fs.np)(h:Runs (ao fns k) fs.body (as.map af++br (fs.nn - as.length) ah) S λo=>∃r,o=af (.next r S'))(hi:i<S.length)(ho:S'[i]?=af o)(hn:¬uG S.length o)(hS:S[i]?≠af o):ao fns (k+1) f as S=af (.ok .non S'):=by
 rw[ao,hf];unfold Runs at h;obtain⟨r,h⟩:=h;simp only[if_pos ha,h,gh];have ht:(S'.take S.length)[i]?=af o:=by rw[X3 hi];exact ho
 unfold trim;rw[if_neg,if_neg]
 ·exact λz=>hn (z.1 o (Xb ht))
 ·intro z;rw[z.1]at ht;exact hS ht
def nw(F:Int->Option (Int×Int))(hands:List Int):Option (List Int):=match hands.filterMap F with
 |[]=>ah|w::t=>af (Tz [w.1,w.2] (t.map λp=> [p.1,p.2]))
section
variable{κ:Type}[DecidableEq κ]
theorem zb(h:k'≠k):∀l:List (κ×D),(l.map λkv=>if kv.1=k then(kv.1,v)else kv).find? (λkv=>decide (kv.1=k'))=l.find? (λkv=>decide (kv.1=k'))
 |[]=>rfl|a::r=>by
  rw[Wh,XC,XC,zb h r];by_cases e:a.1=k
  ·have e':¬a.1=k':=λz=>h (z.symm.trans e);rw[if_pos e];simp[e']
  ·rw[if_neg e]
theorem wB:∀l:List (κ×D),(l.any λkv=>decide (kv.1=k))=ai->((l.map λkv=>if kv.1=k then(kv.1,v)else kv).find? (λkv=>decide (kv.1=k))).map (·.2)=af v
 |[],h=>by cases h|a::r,h=>by
  rw[Wh,XC];by_cases e:a.1=k
  ·rw[if_pos e];simp[e]
  ·rw[if_neg e];have h':(r.any λkv=>decide (kv.1=k))=true:=by simpa[e]using h
   have q:=wB (v:=v) r h';simpa[e]using q
def Nb(k k':κ)(v:D)(l:List (κ×D)):((if(l.any λkv=>decide (kv.1=k))=ai then l.map (λkv=>if kv.1=k then(kv.1,v)else kv)else l++ [(k,v)]).find? λkv=>decide (kv.1=k')).map (·.2)=if k'=k then af v else(l.find? λkv=>decide (kv.1=k')).map (·.2):=by
 by_cases e:(l.any λkv=>decide (kv.1=k))=ai
 ·rw[if_pos e];by_cases e2:k'=k
  ·rw[if_pos e2,e2];exact wB l e
  ·rw[if_neg e2,zb e2]
 ·rw[if_neg e,List.find?_append];by_cases e2:k'=k
  ·have hn:(l.find? λkv=>decide (kv.1=k'))=none:=by
    rw[Zj];intro a ha hk;exact e (List.any_eq_true.mpr ⟨a,ha,by rw[←e2];exact hk⟩)
   rw[hn,if_pos e2,e2];simp
  ·have:¬k=k':=λz=>e2 z.symm;rw[if_neg e2];simp[this]
end
def Jf:bz (putD l k v) k'=if k'=k then af v else bz l k':=Nb k k' v l
def fj{S:bq}(h:S[j]?=af o)(hn:i≠j):(S.set i o')[j]?=af o:=by rw[Wy hn];exact h
def bZ{S:bq}(h:S[i]?=af o):(S.set i o')[i]?=af o':=W8 (cL h)
def jY{S:bq}{i j:Nat}(hi:S[i]?=af o)(hj:S[j]?=af o')(h:o≠o'):i≠j:=λe=>by rw[e,hj]at hi;exact h (Wd hi).symm
def jZ{S T:bq}{j:Nat}(h:S[j]?=af o):(S++T)[j]?=af o:=by rw[Ws (cL h)];exact h
def RW{S:bq}(h:S[i]?=af o):S.set i o=S:=by obtain⟨h1,h2⟩:=Wi.mp h;rw[←h2];exact Y0 h1
section
variable{hs:List Int}{q:Int->Nat}
def Jg(hx:x∉hs):bz (xw hs q) (.inl x)=none:=by
 have e:((xw hs q).find? λkv=>decide (kv.1=Sum.inl x))=none:=by rw[Zj];intro a ha hk;obtain⟨y,hy,rfl⟩:=Wn.mp ha;have:y=x:=Sum.inl.inj (WR hk);exact hx (this▸hy)
 show((xw hs q).find? λkv=>decide (kv.1=Sum.inl x)).map _=ah;rw[e];rfl
end
abbrev bL:Str:=Z1
abbrev nW(b:Int)(hs:List Int)(cp:Int)(pk:Nat):List (Str×D):=[(nU,aD b hs),(iV,.int cp),(lC,.ref pk)]
def Uy(S:bq)(i M:Nat):Prop:=∃N,S[i]?=af (.dct N)/\N.length<=M/\(iw N).isSome=ai
structure PY(S:bq)(p pk:Nat)(b:Int)(hs:List Int)(cp:Int)(q:Int->Nat)(M:Nat):Prop where
 ob:S[p]?=af (.ins bL (nW b hs cp pk))
 kp:S[pk]?=af (.dct (xw hs q))
 nt:∀h∈hs,Uy S (q h) M
 inj:∀h∈hs,∀h'∈hs,q h=q h'->h=h'
 dq:∀h∈hs,q h≠pk
section
variable{cl:Cl}{r:az}{S S':bq}{b cp n:Int}{hs:List Int}{a:E}
def zc:List C:=
 [C.fset Z1 Z3 (E.var 0) (E.var 1),
  C.fset Z1 Z6 (E.var 0) (E.var 2),
  C.fset Z1 Z2 (E.var 0) (E.dct),
  C.fr
   (Tg.name 3)
   (It.seq (E.ix (E.var 1) (E.cst (D.int 1))))
   [C.sub
    (E.fld Z1 Z2 (E.var 0))
    (E.var 3)
    (E.dct)]]
def A0(S:bq)(b:Int)(hs:List Int)(cp:Int)(done:List Int):bq:=
 S++(SO.ins bL (nW b hs cp (S.length+1))::SO.dct (xw done λh=>S.length+2+pos hs h)::br done.length (SO.dct []))
def Fx(hn:hs.Nodup):PY (A0 S b hs cp hs) S.length (S.length+1) b hs cp (λh=>S.length+2+pos hs h) 0:=by
 unfold A0;refine⟨?_,?_,λh hh=>⟨[],?_,by simp,rfl⟩,λh hh h' hh' e=>rO hh hh' (by lia),λh hh=>by lia⟩
 ·simp
 ·simp
 ·have:=gR hh;rw[Wx (by lia),show S.length+2+pos hs h - S.length=pos hs h+1+1 by lia]
  simp_all
def Fy(hn:hs.Nodup)(hl:hs.length<=1000):
  Runs cl zc [af (.ref S.length),af (aD b hs),af (.int cp),ah] (S++ [.ins bL []]) λo=>∃r,o=af (.next r (A0 S b hs cp hs)):=by
 have BD:∀(fs:List (Str×D))(tl:bq),(S++ .ins bL fs::tl)[S.length]?=af (.ins bL fs):=λfs tl=>by simp
 have MB:∀(fs gs:List (Str×D))(tl:bq),(S++ .ins bL fs::tl).set S.length (.ins bL gs)=S++ .ins bL gs::tl:=λfs gs tl=>by simp
 unfold zc;refine iD (aa rfl) (aa rfl) (BD [] []) (by simp) ?_;rw[MB];refine iD (aa rfl) (aa rfl) (BD _ []) (by simp[cM]) ?_;rw[MB];refine iD mH (aa rfl) (k:=S.length) (fs:=cM iV (.int cp) (cM nU (aD b hs) [])) (by simp) (by simp[cM]) ?_;have e1:((S++ [SO.ins bL (cM iV (.int cp) (cM nU (aD b hs) []))])++ [SO.dct []]).set S.length (.ins bL (cM lC (.ref (S++ [SO.ins bL (cM iV (.int cp) (cM nU (aD b hs) []))]).length) (cM iV (.int cp) (cM nU (aD b hs) []))))
   =A0 S b hs cp []:=by
  rw[Yl,Zu _ _ (Wc _)];simp[cM,A0,xw]
 rw[e1];refine bF (α:=Int) D.int (xs:=hs) (S1:=A0 S b hs cp []) (cz (by(repeat' (first|array_get_dec))))
  (λys r S'=>∃v done,r=[af (.ref S.length),af (aD b hs),af (.int cp),v]/\done++ys=hs/\S'=A0 S b hs cp done) ⟨ah,[],rfl,rfl,rfl⟩ ?_ ?_
 ·rintro r S' ⟨v,done,rfl,hd,rfl⟩;rw[Wm]at hd;subst hd;exact aJ ⟨_,rfl⟩
 ·rintro h ys r S' _ ⟨v,done,rfl,hd,rfl⟩;have hnd:=hn;have hnn:h∉done:=by
   rw[←hd]at hnd;intro z;exact(Xu.mp hnd).2.2 h z h (by simp) rfl
  have hdl:done.length<=1000:=by have:=Xk fR hd;simp at this;lia
  have hps:pos hs h=done.length:=by rw[←hd];exact za hnn
  simp only[bS];have hlen:(A0 S b hs cp done).length=S.length+2+pos hs h:=by rw[hps];simp[A0];lia
  have hob:(A0 S b hs cp done++ [SO.dct []])[S.length]?=af (.ins bL (nW b hs cp (S.length+1))):=by unfold A0;rw[Yl];exact BD _ _
  have hkp:(A0 S b hs cp done++ [SO.dct []])[S.length+1]?=af (.dct (xw done λh=>S.length+2+pos hs h)):=by unfold A0;rw[Yl,Wx (by exact WD ..),show S.length+1 - S.length=1 by simp];rfl
  refine ji (d:= .ref (A0 S b hs cp done).length) (S1:=A0 S b hs cp done++ [SO.dct []]) (S2:=A0 S b hs cp done++ [SO.dct []]) (S3:=A0 S b hs cp done++ [SO.dct []]) (x:= .ref (S.length+1)) (y:= .int h) (S4:=A0 S b hs cp (done++ [h])) mH (mJ (aa rfl) hob rfl) (aa rfl) ?_ (aJ ⟨_,done++ [h],rfl,by simpa using hd,rfl⟩);have hz:(xw done λh=>S.length+2+pos hs h).length<sizeLine:=by simp only[xw,Wb,aS];exact Wv hdl (by decide)
  simp only[RK.putAt,hkp,dG,if_pos hz];rw[hlen,show D.ref (S.length+2+pos hs h)=D.ref ((λh=>S.length+2+pos hs h) h)from rfl,yZ hnn];unfold A0;rw[Yl,Zu _ _ (by exact WD ..),show S.length+1 - S.length=1 by simp];simp[List.replicate_succ']
def RX{n:Nat}(h1:aj cl a r S=af (.ok (.ref n) S'))(h2:S'[n]?=af (.dct N))(h3:iw N=af rs)(h4:rs.Nodup/\rs.length<64):aj cl (.GI a) r S=af (.ok (.lst ((RK.aQ rs).map dh)) S'):=by
 have e:((RK.aQ rs).map dh).length<=sizeLine:=by rw[Wb,(cD rs).length_eq];have:=h4.2;simp only[aS];lia
 show bnd _ _=_;simp only[h1,aH,qZ,h2,h3,if_pos h4,AX,if_pos e,bA,Wt,Xd]
end
abbrev V3(r:List Int):D:= .tup (aq r)
theorem xE:∀{cw:List (List Int)},(∀r∈cw,r≠ []/\r.length<=4)->cw.flatten.length<=4*cw.length
 |[],_=>by simp|r::t,h=>by have:=xE (cw:=t) λr hr=>h r (by simp[hr]);have:=(h r (by simp)).2;simp only[sQ,WK,Wl];lia
def Jh(cw:List (List Int))(x:Int):Nat:=cw.findIdx λr=>decide (x∈r)
theorem AG:∀{cw:List (List Int)}{i:Nat}{row:List Int}{x:Int},cw.flatten.Nodup->cw[i]?=af row->x∈row->Jh cw x=i
 |[],i,row,x,_,h,_=>by simp at h|r::t,0,row,x,_,h,hx=>by
  have e:r=row:=by simpa using h
  subst e;simp[Jh,sR,hx]
 |r::t,i+1,row,x,hn,h,hx=>by
  have h':t[i]?=af row:=by simpa using h
  rw[sQ]at hn;obtain⟨_,h2,h3⟩:=Xu.mp hn;have hx':x∈t.flatten:=List.mem_flatten.mpr ⟨row,Xb h',hx⟩;have Zs:x∉r:=λq=>h3 x q x hx' rfl;have ih:=AG h2 h' hx;unfold Jh at ih ⊢;rw[sR];simp[Zs,ih]
section
variable{cl:Cl}{S:bq}{cw:List (List Int)}
def Uz(h1:bH cl it r S=af (.ok (aq ns) S1))(h2:nj ns=ai):aj cl (.col .sum it) r S=af (.ok (.int ns.sum) S1):=by show bnd _ _=_;simp only[h1,aH,gW,RV.fY,if_pos h2,bA]
theorem jx{α:Type}(inj:α->D)(F:α->D){f:az->bq->Ev D}{caps:az}:∀{xs:List α}{o:Option D}{acc:List D},(∀x∈xs,f (af (inj x)::caps) S=af (.ok (F x) S))->
  compLoop f (λr S=>bx cl [] r S) (.name 0) (xs.map inj) (o::caps) S acc=af (.ok (acc++xs.map F) S)
 |[],o,acc,h=>by simp[compLoop]|x::xs,o,acc,h=>by simp only[Wh,compLoop,bN,bS,iU,cA,aH,if_true,h x (by simp)];refine Eq.trans (jx inj F (xs:=xs) (λy hy=>h y (by simp[hy]))) ?_;simp
theorem jy{α:Type}(inj:α->D)(P:α->Bool){f:az->bq->Ev D}{g:az->bq->Ev Bool}{caps:az}:∀{xs:List α}{o:Option D}{acc:List D},(∀x∈xs,g (af (inj x)::caps) S=af (.ok (P x) S))->(∀x∈xs,P x=ai->f (af (inj x)::caps) S=af (.ok (inj x) S))->
  compLoop f g (.name 0) (xs.map inj) (o::caps) S acc=af (.ok (acc++(xs.filter P).map inj) S)
 |[],o,acc,_,_=>by simp[compLoop]|x::xs,o,acc,h,h'=>by
  simp only[Wh,compLoop,bN,bS,h x (by simp),cA,aH];have ih:∀o acc,compLoop f g (.name 0) (xs.map inj) (o::caps) S acc=af (.ok (acc++(xs.filter P).map inj) S):=λo acc=>jy inj P (xs:=xs) (λy hy=>h y (by simp[hy])) (λy hy=>h' y (by simp[hy]));cases e:P x with|true=>simp only[if_true,h' x (by simp) e,cA,aH];rw[ih];simp[e]|false=>simp only[Wt,Xd];rw[ih];simp[e]
def zw(n:Nat)(cw:List (List Int)):r6.clos n (cw.map V3):=ig.mpr λd hd=>by obtain⟨r,_,rfl⟩:=Wn.mp hd;exact cH r
def nL(S:bq)(o:SO):(S++ [o])[S.length]?=af o:=by rw[Wx (Wc _)];simp
def j4(S:bq)(o o':SO):(S++ [o]).set S.length o'=S++ [o']:=by rw[Zu _ _ (Wc _)];simp
end
structure DI(N:List (L2.Key×D))(f:Int->Option Int):Prop where
 nd:(N.map (·.1)).Nodup
 ki:∀kv∈N,∃k,kv.1=Sum.inl k
 va:∀k,bz N (.inl k)=(f k).map D.int
def DI.nil:DI [] (λ_=>ah):=⟨by simp,λkv h=>absurd h (by simp),λk=>rfl⟩
def C1:(k∈N.map (·.1)/\(putD N k d).map (·.1)=N.map (·.1))\/(k∉N.map (·.1)/\(putD N k d).map (·.1)=N.map (·.1)++ [k]):=by
 by_cases h:k∈N.map (·.1)
 ·exact .inl ⟨h,Jc h⟩
 ·exact .inr ⟨h,by rw[wA h];simp⟩
def wC(h:(N.map (·.1)).Nodup):((putD N k d).map (·.1)).Nodup:=by
 rcases C1 (N:=N) (k:=k) (d:=d)with⟨_,e⟩|⟨hn,e⟩<;>rw[e]
 ·exact h
 grind
def wD{N:List (L2.Key×D)}{k:Int}{d:D}(h:∀kv∈N,∃k,kv.1=Sum.inl k):∀kv∈putD N (.inl k) d,∃k,kv.1=Sum.inl k:=λkv hm=>by
 have:kv.1∈(putD N (.inl k) d).map (·.1):=XS hm;have q:∀x∈N.map (·.1),∃k,x=Sum.inl k:=λx hx=>by obtain⟨kv,h1,rfl⟩:=Wn.mp hx;exact h kv h1
 rcases C1 (N:=N) (k:= .inl k) (d:=d)with⟨_,e⟩|⟨hn,e⟩<;>rw[e]at this
 ·exact q _ this
 ·rcases Xa.mp this with z|z
  ·exact q _ z
  simp_all
def DI.put(h:DI N f)(k i:Int):DI (putD N (.inl k) (.int i)) (λy=>if y=k then af i else f y):=by
 refine⟨wC h.nd,wD h.ki,λy=>?_⟩;rw[Jf];by_cases e:y=k
 ·simp_all
 ·rw[if_neg (λz=>e (Sum.inl.inj z)),if_neg e];exact h.va y
theorem wF:∀{N:List (L2.Key×D)},bz (N.filter λkv=>decide (kv.1≠k)) y=if y=k then ah else bz N y
 |[]=>by simp[bz]|p::N=>by
  have ih:=wF (k:=k) (y:=y) (N:=N);have e1:∀(p:L2.Key×D)(l:List (L2.Key×D)),bz (p::l) y=if p.1=y then af p.2 else bz l y:=λp l=>by
   unfold bz
   grind
  by_cases h:p.1=k
  ·grind
  ·rw[Y9 (by simpa using h),e1,e1,ih];lia
def DI.drop(h:DI N f)(k:Int):DI (N.filter λkv=>decide (kv.1≠ .inl k)) (λy=>if y=k then ah else f y):=by
 refine⟨?_,λkv hm=>h.ki kv (Wz.mp hm).1,λy=>?_⟩
 ·exact h.nd.sublist (List.Sublist.map _ Ym)
 ·rw[wF];by_cases e:y=k
  ·simp_all
  ·rw[if_neg (λz=>e (Sum.inl.inj z)),if_neg e];exact h.va y
theorem mU:∀{N:List (L2.Key×D)},(∀kv∈N,∃k,kv.1=Sum.inl k)->∃ks:List Int,N.map (·.1)=ks.map Sum.inl
 |[],_=>⟨[],rfl⟩|kv::N,h=>by obtain⟨k,e⟩:=h kv (by simp);obtain⟨ks,e2⟩:=mU (N:=N) λx hx=>h x (by simp[hx]);exact⟨k::ks,by simp_all⟩
def wG{ks:List Int}(h:(ks.map (Sum.inl:Int->L2.Key)).Nodup):ks.Nodup:=(W2.mp h).imp λz e=>z (Xk Sum.inl e)
def DI.keys(h:DI N f):∃ks:List Int,N.map (·.1)=ks.map Sum.inl/\ks.Nodup/\∀k,k∈ks ↔ (f k).isSome=true:=by
 obtain⟨ks,e⟩:=mU h.ki;have nd:=h.nd;rw[e]at nd;refine⟨ks,e,wG nd,λk=>?_⟩;have hv:=h.va k;have m1:k∈ks ↔ (Sum.inl k:L2.Key)∈N.map (·.1):=by
  rw[e];exact⟨λz=>XS z,λz=>by
   simp_all⟩
 rw[m1];constructor
 ·intro z;cases q:f k with|some i=>rfl|none=>rw[q]at hv;exact absurd z (Fv hv)
 ·intro z;obtain⟨i,q⟩:=XX.mp z;rw[q]at hv;exact XS (Jd hv)
section
variable{cl:Cl}{cs a:List C}{r:az}{S S1:bq}{R:Option Fl->Prop}{e:E}{j k:Nat}
theorem oN{α:Type}(inj:α->D)(I:List α->az->bq->Prop)(hstep:∀x ys r S,I (x::ys) r S->Runs cl a (r.set j (af (inj x))) S λo=>∃r' S',o=af (.next r' S')/\I ys r' S'):
  ∀(xs:List α)(r:az)(S:bq),I xs r S->∃r' S',forLoop (λr S=>dS cl a r S) (.name j) (xs.map inj) r S=af (.next r' S')/\I [] r' S'
 |[],r,S,h=>⟨r,S,rfl,h⟩|x::xs,r,S,h=>by have q:=hstep x xs r S h;unfold Runs at q;obtain⟨r1,S1,e1,h1⟩:=q;obtain⟨r2,S2,e2,h2⟩:=oN inj I hstep xs r1 S1 h1;refine⟨r2,S2,?_,h2⟩;simp only[Wh,forLoop,bN,e1,AD];exact e2
def pM{α:Type}(inj:α->D){xs:List α}{kvs:List (L2.Key×D)}(h:aj cl e r S=af (.ok (.ref k) S1))(hk:S1[k]?=af (.dct kvs))(hx:(kvs.map λp=>tN p.1)=xs.map inj)(I:List α->az->bq->Prop)(h0:I xs r (S1.set k (.xy kvs)))(hstep:∀x ys r S,I (x::ys) r S->Runs cl a (r.set j (af (inj x))) S λo=>∃r' S',o=af (.next r' S')/\I ys r' S')(hend:∀r S,I [] r S->∃kvs',S[k]?=af (.xy kvs')/\Runs cl cs r (S.set k (.dct kvs')) R):Runs cl (.C6 (.name j) e a::cs) r S R:=by
 obtain⟨r2,S2,e2,h2⟩:=oN (cl:=cl) (a:=a) (j:=j) inj I hstep xs r _ h0;obtain⟨kvs',e3,k3⟩:=hend r2 S2 h2;unfold Runs at k3 ⊢;have q:runC cl (.C6 (.name j) e a) r S=af (.next r2 (S2.set k (.dct kvs'))):=by show fN _ _ _=_;simp only[h,dJ,hk,hx,e2,gr,GO,e3,XJ]
 rw[cB,q,dD];exact k3
theorem mV(I:List D->az->bq->Prop)(hg:∀ys r S,I ys r S->S[k]?=af (.lst ds))(hstep:∀x ys r S,I (x::ys) r S->Runs cl a (r.set j (af x)) S λo=>∃r' S',o=af (.next r' S')/\I ys r' S'):
  ∀(xs:List D)(r:az)(S:bq),I xs r S->∃r' S',dX (λr S=>dS cl a r S) (.name j) k ds xs r S=af (.next r' S')/\I [] r' S'
 |[],r,S,h=>⟨r,S,rfl,h⟩|x::xs,r,S,h=>by have q:=hstep x xs r S h;unfold Runs at q;obtain⟨r1,S1,e1,h1⟩:=q;obtain⟨r2,S2,e2,h2⟩:=mV I hg hstep xs r1 S1 h1;refine⟨r2,S2,?_,h2⟩;simp only[dX,bN,e1,AD,if_pos (hg _ _ _ h1)];exact e2
def wH(h:aj cl e r S=af (.ok (.ref k) S1))(hk:S1[k]?=af (.lst ds))(I:List D->az->bq->Prop)(h0:I ds r S1)(hg:∀ys r S,I ys r S->S[k]?=af (.lst ds))(hstep:∀x ys r S,I (x::ys) r S->Runs cl a (r.set j (af x)) S λo=>∃r' S',o=af (.next r' S')/\I ys r' S')(hend:∀r S,I [] r S->Runs cl cs r S R):Runs cl (.C6 (.name j) e a::cs) r S R:=by
 obtain⟨r2,S2,e2,h2⟩:=mV (cl:=cl) (a:=a) (j:=j) I hg hstep ds r _ h0;have k3:=hend r2 S2 h2;unfold Runs at k3 ⊢;have q:runC cl (.C6 (.name j) e a) r S=af (.next r2 S2):=by show fN _ _ _=_;simp only[h,dJ,hk,e2]
 rw[cB,q,dD];exact k3
def Fz{a:E}(h1:aj cl a r S=af (.ok (.ref n) S1))(h2:S1[n]?=af (.dct kvs))(h3:aF cl as r S1=af (.ok ds S2))(h4:lR n ds S2=af (.ok d S3)):
  aj cl (.F0 a as) r S=af (.ok d S3):=by
 show bnd _ _=_;simp_all
def set_same(h:S[i]?=af o):(S.set i o').set i o=S:=by rw[ZJ];obtain⟨hi,e⟩:=Wi.mp h;rw[←e];simp
end
end RV
namespace K22
open PySem L2 RK RV
section
variable{k:Nat}{S:bq}
def UG(h0:0<=n)(h1:n<=64):ao fns (k+1) 0 [.int n] S=af (.ok (.int (sz n)) S):=
 call_of (fs:=⟨1,3,b0⟩) rfl rfl (pK h0 h1) (by simp) trivial
def rP(h0:0<=b)(h1:b<=64):ao fns (k+2) 1 [.tup [.int b,h]] S=af (.ok (.int (sz b)) S):=
 call_of (fs:=⟨1,1,b1⟩) rfl rfl (qJ (λn a b=>UG a b) h0 h1) (by simp) trivial
def Nh(h2:2<=b)(h7:b<=7):ao fns (k+3) 2 [aD b hs,.int key] S=af (.ok (.int (place hs (key % sz b))) S):=
 call_of (fs:=⟨2,5,b2⟩) rfl rfl (rN (rP (W4 (by decide) h2) (W4 h7 (by decide))) h2 h7) (by simp) trivial
def iI(hR:AH b hs)(hl:hs.length<=100)(hc:0<=cp):ao fns (k+4) 3 [aD b hs,.int key,.int cp] S=af (.ok (.tup (aq ((cN hs (key % sz b)).take cp.toNat))) S):=
 call_of (fs:=⟨3,6,b3⟩) rfl rfl (xN (Nh (k:=k) hR.b2 hR.b7) hR.ne (Wa hl (by decide)) hc) (by simp) (cH _)
def wI(g2:2<=b)(g7:b<=7)(h0:0<=spot/\spot<sz b):ao fns (k+3) 4 [aD b hs,.int spot] S=af (.ok .non S):=
 Fi (fs:=⟨2,2,b4⟩) rfl rfl (IW (rP (W4 (by decide) g2) (W4 g7 (by decide))) h0)
def RZ(hR:AH b hs)(h0:0<=spot/\spot<sz b)(hx:spot∉hs)(hl:hs.length<60):ao fns (k+4) 5 [aD b hs,.int spot] S=af (.ok (aD b (with1 hs spot)) S):=
 call_of (fs:=⟨2,3,b5⟩) rfl rfl (I8 (wI hR.b2 hR.b7 h0) hx hR.ne hl) (by simp) ⟨trivial,cH _,trivial⟩
def R0(hin:spot∈hs)(h1:1<hs.length)(hl:hs.length<60):ao fns (k+1) 6 [aD b hs,.int spot] S=af (.ok (aD b (eU hs spot)) S):=
 call_of (fs:=⟨2,3,b6⟩) rfl rfl (I9 hin h1 hl) (by simp) ⟨trivial,cH _,trivial⟩
def qP(h0:0<=i):∃v,∀k S,ao fns (k+1) 27 [.As ns,.int i] S=af (.ok (.int v) S):=by
 by_cases h:i<ns.length
 ·have hi:i.toNat<ns.length:=by lia
  refine⟨ns[i.toNat],λk S=>call_of (fs:=⟨2,2,KW⟩) (S':=S) rfl rfl ?_ (by simp) trivial⟩;unfold KW;simp only[Wh,WW,Wl,WN,br,Wr,Wj,Wm,dP,dQ,WL,Xi];have hlen:DL .len [.As ns] S=af (.ok (.int ns.length) S):=by rw[gn Bo,Wb]
  refine jk (S1:=S) (aZ (x:= .bl (decide (i<(ns.length:Int)))) (aR (aa rfl) (gO (ak (aa rfl) au) hlen) Io) (by simp[bD,h])) ?_;simp only[Wr,Wj];exact aL (aW (aa rfl) (aa rfl) Bo (NI h0 (by simp[hi]))) rfl
 ·refine⟨0,λk S=>call_of (fs:=⟨2,2,KW⟩) (S':=S) rfl rfl ?_ (by simp) trivial⟩;unfold KW;simp only[Wh,WW,Wl,WN,br,Wr,Wj,Wm,dP,dQ,WL,Xi];have hlen:DL .len [.As ns] S=af (.ok (.int ns.length) S):=by rw[gn Bo,Wb]
  refine bR (S1:=S) (aZ (x:= .bl (decide (i<(ns.length:Int)))) (aR (aa rfl) (gO (ak (aa rfl) au) hlen) Io) (by simp[bD,h])) ?_;simp only[Wj];exact aL aB rfl
def um(hp:0<p)(hm:0<m):ao fns (k+1) 28 [.int c,.int p,.int m] S=af (.ok (.int (mix c p m)) S):=
 call_of (fs:=⟨3,3,PM⟩) rfl rfl (xK hp hm) (by simp) trivial
def FJ(h1:1<=most)(h12:most<=12):∃b hs,AH b hs/\(hs.length:Int)<=most/\ao fns (k+2) 29 [.int c,.int most] S=af (.ok (aD b hs) S):=by obtain⟨b,hs,S',hR,hl,h,ht⟩:=wu (cl:=ao fns (k+1)) (S:=S) (mx:=28) (c:=c) (λc p m S hp hm=>um hp hm) h1 h12;exact⟨b,hs,hR,hl,call_of (fs:=⟨2,8,PR⟩) rfl rfl h ht ⟨trivial,cH _,trivial⟩⟩
variable{p pk:Nat}{b cp key v:Int}{hs:List Int}{q:Int->Nat}
def FN(hn:hs.Nodup)(hl:hs.length<=1000):ao fns (k+1) 12 [.ref S.length,aD b hs,.int cp] (S++ [.ins bL []])=af (.ok .non (A0 S b hs cp hs)):=by
 have hob:(A0 S b hs cp hs)[S.length]?=af (.ins bL (nW b hs cp (S.length+1))):=(Fx hn).ob;refine Fw (fs:=⟨3,4,SI⟩) (i:=S.length) rfl rfl (Fy hn hl) (by simp) hob ?_ ?_
 ·intro z;have w:=z (lC,D.ref (S.length+1)) (by simp);simp[r6]at w
 ·rw[nL];simp
variable{ks:List Int}{W:Int->Int->Option Int}{al:List Int}
structure yY(al:List Int)(S:bq)(pk:Nat)(ks:List Int)(q:Int->Nat)(W:Int->Int->Option Int):Prop where
 kp:S[pk]?=af (.dct (xw ks q))
 nt:∀h∈ks,∃N,S[q h]?=af (.dct N)/\DI N (W h)
 inj:∀h∈ks,∀h'∈ks,q h=q h'->h=h'
 dq:∀h∈ks,q h≠pk
 nk:ks.Nodup
 lk:ks.length<=14
 bd:∀h∈ks,∀k,(W h k).isSome=ai->k∈al
 la:al.length<=24
structure se(al:List Int)(S:bq)(p pk:Nat)(b:Int)(hs:List Int)(cp:Int)(ks:List Int)(q:Int->Nat)(W:Int->Int->Option Int):Prop where
 ob:S[p]?=af (.ins bL (nW b hs cp pk))
 B:yY al S pk ks q W
theorem se.kp(K:se al S p pk b hs cp ks q W):S[pk]?=af (.dct (xw ks q)):=K.B.kp
theorem se.nt(K:se al S p pk b hs cp ks q W):∀h∈ks,∃N,S[q h]?=af (.dct N)/\DI N (W h):=K.B.nt
theorem se.dq(K:se al S p pk b hs cp ks q W):∀h∈ks,q h≠pk:=K.B.dq
theorem se.nk(K:se al S p pk b hs cp ks q W):ks.Nodup:=K.B.nk
theorem se.lk(K:se al S p pk b hs cp ks q W):ks.length<=14:=K.B.lk
theorem se.bd(K:se al S p pk b hs cp ks q W):∀h∈ks,∀k,(W h k).isSome=ai->k∈al:=K.B.bd
theorem se.la(K:se al S p pk b hs cp ks q W):al.length<=24:=K.B.la
def yY.to(B:yY al S pk ks q W)(m:∀i,i=pk\/(∃h∈ks,i=q h)->S'[i]?=S[i]?):yY al S' pk ks q W:=
 ⟨(m pk (.inl rfl)).trans B.kp,λh hh=>by
  obtain⟨N,n1,n2⟩:=B.nt h hh;exact⟨N,(m _ (.inr ⟨h,hh,rfl⟩)).trans n1,n2⟩,B.inj,B.dq,B.nk,B.lk,B.bd,B.la⟩
def yY.push(B:yY al S pk ks q W)(T:bq):yY al (S++T) pk ks q W:=B.to λi hi=>by
 refine Ws ?_;rcases hi with rfl|⟨h,hh,rfl⟩
 ·exact cL B.kp
 ·obtain⟨N,n1,_⟩:=B.nt h hh;exact cL n1
theorem se.push(K:se al S p pk b hs cp ks q W)(T:bq):se al (S++T) p pk b hs cp ks q W:=⟨jZ K.ob,K.B.push T⟩
def DM(W:Int->Int->Option Int)(x key:Int)(o:Option Int):Int->Int->Option Int:=λh k=>if h=x/\k=key then o else W h k
def wJ:DM W x key o x=λy=>if y=key then o else W x y:=by funext y;unfold DM;simp
def FP(h:y≠x):DM W x key o y=W y:=by funext z;unfold DM;simp[h]
theorem yY.put(K:yY al S pk ks q W)(hx:x∈ks)(hk:key∈al)(h1:S[q x]?=af (.dct N))(h2:DI N (W x)):
  yY al (S.set (q x) (.dct (putD N (.inl key) (.int i)))) pk ks q (DM W x key (af i)):=by
 refine⟨RV.fj K.kp (K.dq x hx),λy hy=>?_,K.inj,K.dq,K.nk,K.lk,λy hy z hz=>?_,K.la⟩
 ·by_cases e:y=x
  ·subst e;rw[wJ];exact⟨_,bZ h1,h2.put key i⟩
  ·obtain⟨N',n1,n2⟩:=K.nt y hy;rw[FP e];exact⟨N',RV.fj n1 (λz=>e (K.inj x hx y hy z).symm),n2⟩
 ·unfold DM at hz;split at hz
  ·lia
  ·exact K.bd y hy z hz
theorem yY.drop(K:yY al S pk ks q W)(hx:x∈ks)(h1:S[q x]?=af (.dct N))(h2:DI N (W x)):
  yY al (S.set (q x) (.dct (N.filter λkv=>decide (kv.1≠ .inl key)))) pk ks q (DM W x key ah):=by
 refine⟨RV.fj K.kp (K.dq x hx),λy hy=>?_,K.inj,K.dq,K.nk,K.lk,λy hy z hz=>?_,K.la⟩
 ·by_cases e:y=x
  ·subst e;rw[wJ];exact⟨_,bZ h1,h2.drop key⟩
  ·obtain⟨N',n1,n2⟩:=K.nt y hy;rw[FP e];exact⟨N',RV.fj n1 (λz=>e (K.inj x hx y hy z).symm),n2⟩
 ·unfold DM at hz;split at hz
  ·cases hz
  ·exact K.bd y hy z hz
def JN(hn:ks.Nodup)(hl:∀y∈ks,y∈al)(h:al.length<=24):ks.length<=24:=Wa (RV.bW ks al hn hl) h
def UJ(h:DI N f)(hb:∀k,(f k).isSome=ai->k∈al)(hl:al.length<=24):N.length<=24:=by obtain⟨ks,e,nd,m⟩:=h.keys;have:=JN nd (λy hy=>hb y ((m y).mp hy)) hl;have e:=Xk fR e;simp only[Wb]at e;lia
def Bs(K:yY al S pk ks q W)(hx:x∈ks)(h2:DI N (W x)):N.length<=24:=UJ h2 (K.bd x hx) K.la
def iR(K:yY al S pk ks q W){cl:Cl}{r:az}{a e:E}{x:Int}(ha:aj cl a r S=af (.ok (.ref pk) S))(he:aj cl e r S=af (.ok (.int x) S))(hx:x∈ks):aj cl (E.ix a e) r S=af (.ok (.ref (q x)) S):=
 vW ha he (iH K.kp) rfl (jX hx)
def fZ(K:se al S p pk b hs cp ks q W){cl:Cl}{r:az}{a:E}(ha:aj cl a r S=af (.ok (.ref p) S)):aj cl (E.fld bL lC a) r S=af (.ok (.ref pk) S):=mJ ha K.ob rfl
def gF(K:se al S p pk b hs cp ks q W){cl:Cl}{r:az}{a:E}(ha:aj cl a r S=af (.ok (.ref p) S)):aj cl (E.fld bL nU a) r S=af (.ok (aD b hs) S):=mJ ha K.ob rfl
def zf(K:se al S p pk b hs cp ks q W){cl:Cl}{r:az}{a:E}(ha:aj cl a r S=af (.ok (.ref p) S)):aj cl (E.fld bL iV a) r S=af (.ok (.int cp) S):=mJ ha K.ob rfl
def pN(K:yY al S pk ks q W)(hx:x∈ks):kQ .In (.int key) (.ref (q x)) S=af (.ok (.bl (W x key).isSome) S):=by obtain⟨N,n1,n2⟩:=K.nt x hx;have:=Uw (x:= .int key) (k:= .inl key) (iH n1) rfl;rw[n2.va key,Zk]at this;exact this
def FQ(K:yY al S pk ks q W)(hx:x∈ks):kQ .NotIn (.int key) (.ref (q x)) S=af (.ok (.bl (!(W x key).isSome)) S):=by obtain⟨N,n1,n2⟩:=K.nt x hx;have:=Ey (x:= .int key) (k:= .inl key) (iH n1) rfl;rw[n2.va key,Zk]at this;exact this
def Ni{T:bq}(h:T.length=n):(T++ [o])[n]?=af o:=by subst h;exact nL _ _
def Ji{T:bq}{n:Nat}{o o':SO}(h:T.length=n):(T++ [o]).set n o'=T++ [o']:=by subst h;exact j4 ..
def wK:((xw ks q).map λp=>tN p.1)=aq ks:=by simp[xw,X7,tN]
def uo{N:List (L2.Key×D)}{fs:List Int}(h:N.map (·.1)=fs.map Sum.inl):(N.map λp=>tN p.1)=aq fs:=by have:=Xk (AB tN) h;simpa[X7,tN]using this
def uq{Nf:List (L2.Key×D)}(nd:(Nf.map (·.1)).Nodup)(ki:∀kv∈Nf,∃k,kv.1=Sum.inl k)(hb:∀y,(Sum.inl y:L2.Key)∈Nf.map (·.1)->y∈al)(hal:al.length<=24):∃fs:List Int,Nf.map (·.1)=fs.map Sum.inl/\fs.Nodup/\fs.length<=24/\Nf.length<=24:=by obtain⟨fs,e⟩:=mU ki;rw[e]at nd;have l:=JN (wG nd) (λy hy=>hb y (by simp_all)) hal;have:=Xk fR e;simp only[Wb]at this;exact⟨fs,e,wG nd,l,by lia⟩
def zg{fs:List Int} :(Sum.inl y:L2.Key)∈fs.map Sum.inl ↔ y∈fs:=
 ⟨λz=>by
  simp_all,λz=>XS z⟩
def zj{k k':L2.Key} :k'∈(putD N k d).map (·.1) ↔ k'∈N.map (·.1)\/k'=k:=by
 rcases C1 (N:=N) (k:=k) (d:=d)with⟨h,e⟩|⟨_,e⟩<;>rw[e]
 ·exact⟨.inl,λz=>z.elim id λw=>w▸h⟩
 ·simp
def rQ(N:List (L2.Key×D))(P:Int->Prop):Prop:=(N.map (·.1)).Nodup/\(∀kv∈N,∃k,kv.1=Sum.inl k)/\∀y,(Sum.inl y:L2.Key)∈N.map (·.1) ↔ P y
def FT{cl:Cl}{cs:List C}{r:az}{Q:Option Fl->Prop}{S1:bq}{e:E}{i j n m:Nat}{N Nf:List (L2.Key×D)}{f:Int->Option Int}{P:Int->Prop}(he:aj cl e r S=af (.ok (.ref n) S1))(hn:S1[n]?=af (.dct N))(hN:DI N f)(hm:S1[m]?=af (.dct Nf))(hF:rQ Nf P)(hi:r[i]?=af (af (.ref m)))(hij:i≠j)(hj:j<r.length)(hb:∀y,P y\/(f y).isSome=ai->y∈al)(hl:al.length<=24)(hnm:n≠m)(kk:∀o NJ,rQ NJ (λy=>P y\/(f y).isSome=ai)->RV.Runs cl cs (r.set j o) (S1.set m (.dct NJ)) Q):RV.Runs cl (.C6 (.name j) e [C.sub (E.var i) (E.var j) (E.cst (D.bl ai))]::cs) r S Q:=by
 obtain⟨kx,e1,Õ,SK⟩:=hN.keys;refine pM D.int (xs:=kx) (k:=n) he hn (uo e1) (λys r' S'=>∃pre Nf o,pre++ys=kx/\S'=(S1.set n (.xy N)).set m (.dct Nf)/\rQ Nf (λy=>P y\/y∈pre)/\r'=r.set j o)
  ⟨[],Nf,r[j],rfl,(RW (RV.fj hm hnm)).symm,⟨hF.1,hF.2.1,λy=>by rw[hF.2.2];simp⟩,(Y0 hj).symm⟩ ?_ ?_
 ·rintro y ys r' S' ⟨pre,Nf,o,hp,rfl,⟨nd,ki,mem⟩,rfl⟩;obtain⟨_,_,_,_,Lc⟩:=uq nd ki (λz hz=>hb z (((mem z).mp hz).imp id λw=>(SK z).mp (by rw[←hp];simp[w]))) hl;have hm':((S1.set n (.xy N)).set m (.dct Nf))[m]?=af (.dct Nf):=bZ (RV.fj hm hnm);have hz:Nf.length<sizeLine:=by simp only[aS];exact Wv Lc (by decide)
  rw[ZJ];refine ji (d:= .bl ai) (x:= .ref m) (y:= .int y) aB (aa (by rw[Wy (Ne.symm hij)];exact hi)) (aa (W8 hj)) (by simp only[RK.putAt,hm',dG,if_pos hz];rfl) (aJ ⟨_,_,rfl,pre++ [y],putD Nf (.inl y) (.bl ai),_,by rw[←hp];simp,ZJ _,⟨wC nd,wD ki,λz=>?_⟩,rfl⟩);rw[zj,mem,Sum.inl.injEq];show(P z\/z∈pre)\/z=y ↔ P z\/z∈pre++ [y];rw[Xa,XM,or_assoc]
 ·rintro r' S' ⟨pre,Nf,o,hp,rfl,⟨nd,ki,mem⟩,rfl⟩;rw[Wm]at hp;subst hp;refine⟨N,RV.fj (bZ hn) (Ne.symm hnm),?_⟩;rw[List.set_comm _ _ (Ne.symm hnm),set_same hn];exact kk o Nf ⟨nd,ki,λy=>(mem y).trans (or_congr Iff.rfl (SK y))⟩
def Jj{cl:Cl}{r:az}{e:E}{m:Nat}{N:List (L2.Key×D)}{P:Int->Prop}(he:aj cl e r S=af (.ok (.ref m) S))(hm:S[m]?=af (.dct N))(hF:rQ N P)(hb:∀y,P y->y∈al)(hl:al.length<=24):
  ∃ys:List Int,ys.Pairwise (·<·)/\(∀y,y∈ys ↔ P y)/\ys.length<=24/\aj cl (E.col (BS.sorted ay) (It.live e)) r S=af (.ok (.lst (aq ys)) S):=by
 obtain⟨fs,e1,GS,fl,_⟩:=uq hF.1 hF.2.1 (λz hz=>hb z ((hF.2.2 z).mp hz)) hl;have hsl:(sortI fs).length<=24:=by rw[(RV.sortI_perm _).length_eq];exact fl
 exact⟨sortI fs,fQ GS,λy=>by rw[(RV.sortI_perm _).mem_iff,←hF.2.2,e1,zg],hsl,fX (ds:=aq fs) (by rw[←uo e1];exact rJ he hm) (eQ (Wv fl (by decide))) (by simp only[Wb,aS];exact Wa hsl (by decide))⟩
def R1(K:se al S p pk b hs cp ks q W):∃ys:List Int,ys.Pairwise (·<·)/\(∀y,y∈ys ↔ ∃h∈ks,(W h y).isSome=ai)/\ys.length<=24/\ao fns (k+1) 7 [.ref pk] S=af (.ok (.lst (aq ys)) S):=by
 have E9:=cL K.kp
 suffices hw:RV.Runs (ao fns k) b7 [af (.ref pk),ah,ah,ah] S λo=>∃ys:List Int,ys.Pairwise (·<·)/\(∀y,y∈ys ↔ ∃h∈ks,(W h y).isSome=ai)/\ys.length<=24/\∃Nf,o=af (.ret (.lst (aq ys)) (S++ [.dct Nf])) by unfold RV.Runs at hw;obtain⟨ys,EZ,mem,yl,Nf,e3⟩:=hw;exact⟨ys,EZ,mem,yl,call_of (fs:=⟨1,4,b7⟩) (S':=S++ [.dct Nf]) rfl rfl (by unfold RV.Runs;exact e3) (by simp) (cH _)⟩
 unfold b7;refine aC mH rfl ?_;simp only[bS];have hl1:(S.set pk (.xy (xw ks q))).length=S.length:=qo;refine pM D.int (xs:=ks) (k:=pk) (aa rfl) (jZ K.kp) wK (λxs r S'=>∃pre Nf v2 v3,pre++xs=ks/\S'=S.set pk (.xy (xw ks q))++ [.dct Nf]/\rQ Nf (λy=>∃h∈pre,(W h y).isSome=ai)/\r=[af (.ref pk),af (.ref S.length),v2,v3])
  ⟨[],[],ah,ah,rfl,by simp_all,⟨by simp,λkv h=>absurd h (by simp),λy=>by simp⟩,rfl⟩ ?_ ?_
 ·rintro x xs r S' ⟨pre,Nf,v2,v3,hp,rfl,hF,rfl⟩;have hx:x∈ks:=by rw[←hp];simp
  obtain⟨N,n1,n2⟩:=K.nt x hx;have ZA:=cL n1;have ZE:(S.set pk (.xy (xw ks q)))[q x]?=af (.dct N):=RV.fj n1 (Ne.symm (K.dq x hx));simp only[bS];refine FT (m:=S.length) (vW (x:= .ref pk) (kvs:=xw ks q) (aa rfl) (aa rfl) ?_ rfl (jX hx)) (jZ ZE) n2 (Ni hl1) hF rfl (by simp) (by simp) (λy hy=>hy.elim (λ⟨h,hh,w⟩=>K.bd h (by grind) y w) (K.bd x hx y)) K.la (Wo ZA) λo NJ hF'=>?_
  ·simp only[cF,Ws (show pk<(S.set pk (.xy (xw ks q))).length by rw[hl1];exact E9),bZ K.kp]
  rw[Ji hl1];simp only[bS];refine aJ ⟨_,_,rfl,pre++ [x],NJ,_,_,by rw[←hp];simp,rfl,⟨hF'.1,hF'.2.1,λy=>?_⟩,rfl⟩;rw[hF'.2.2];simp
 ·rintro r S' ⟨pre,Nf,v2,v3,hp,rfl,hF,rfl⟩;rw[Wm]at hp;subst hp;refine⟨xw pre q,?_,?_⟩
  ·rw[Ws (by rw[hl1];exact E9)];exact bZ K.kp
  ·rw[List.set_append_left _ _ (by rw[hl1];exact E9),set_same K.kp];obtain⟨ys,y1,y2,y3,y4⟩:=Jj (cl:=ao fns k) (r:=[af (.ref pk),af (.ref S.length),v2,v3]) (e:=E.var 1) (S:=S++ [.dct Nf]) (aa rfl) (nL _ _) hF (λy ⟨h,hh,w⟩=>K.bd h hh y w) K.la;exact aL y4 ⟨ys,y1,y2,y3,Nf,rfl⟩
def EL(W:Int->Int->Option Int)(b:Int)(hs:List Int)(y:Int):Option Int:=(cN hs (y % sz b)).find? λh=>(W h y).isSome
def wL:Option Int->D
 |some g=> .int g|none=> .non
def Jk(h:EL W b hs key=af g):g∈hs/\(W g key).isSome=true:=by have h1:=gy h;have h2:=qk h;exact⟨(fU _ _).mem_iff.mp h1,h2⟩
def R3(h:∃h∈hs,(W h key).isSome=ai):∃g,EL W b hs key=af g:=by
 obtain⟨h,hh,z⟩:=h;cases e:EL W b hs key with|some g=>lia|none=>exact absurd z (Zj.mp e h ((fU _ _).mem_iff.mpr hh))
def Nj(K:se al S p pk b hs cp ks q W)(hR:AH b hs')(hsub:∀h∈hs',h∈ks)(hl:hs'.length<=14):ao fns (k+5) 8 [aD b hs',.ref pk,.int key] S=af (.ok (wL (EL W b hs' key)) S):=by
 obtain⟨o,ho,c⟩:=Ij (k:=k+4) (f:=8) (as:=[aD b hs',.ref pk,.int key]) (S:=S) (fs:=⟨3,4,b8⟩) (P:=λo=>o=wL (EL W b hs' key)) rfl rfl (by
  unfold b8;simp only[Wh,WW,Wl,WN,br,Wr,Wj,Wm,dP,dQ,WL,Xi];have hpm:=fU hs' (key % sz b);have EH:DL .len [.tup (aq hs')] S=af (.ok (.int hs'.length) S):=by rw[gn bK,Wb]
  have SR:=iI (k:=k) (S:=S) (key:=key) (cp:=(hs'.length:Int)) hR (Wa hl (by decide)) (by simp);rw[show((hs'.length:Int)).toNat=hs'.length by rfl,W9 (by rw[pL];lia)]at SR;refine bF (α:=Int) D.int (xs:=cN hs' (key % sz b)) (S1:=S) (cz (aM (ak (aa rfl) (ak (aa rfl) (ak (gO (ak (aW (aa rfl) aB bK CB) au) EH) au))) SR)) (λys r S'=>S'=S/\EL W b hs' key=ys.find? (λh=>(W h key).isSome)/\∃v,r=[af (aD b hs'),af (.ref pk),af (.int key),v]) ⟨rfl,rfl,ah,rfl⟩ ?_ ?_
  ·rintro r S' ⟨rfl,hn,v,rfl⟩;exact aL aB ⟨.non,by show _=wL _;rw[hn];rfl,trivial,rfl⟩
  rintro x ys r S' ⟨pre,hp⟩ ⟨rfl,hn,v,rfl⟩;have hx:x∈hs':=hpm.mem_iff.mp (by rw[←hp];simp);simp only[bS];refine fD (t:=(W x key).isSome) (S1:=S') (aZ (x:= .bl _) (aR (aa rfl) (iR K.B (aa rfl) (aa rfl) (hsub x hx)) (pN K.B (hsub x hx))) bD) (λe=>?_) (λe=>?_)
  ·exact aL (aa rfl) ⟨.int x,by show _=wL _;rw[hn];simp[e,wL],trivial,rfl⟩
  ·exact aJ ⟨rfl,by rw[hn];simp[e],_,rfl⟩)
 rw[←ho];exact c
end
section
variable{k:Nat}{S:bq}{p pk:Nat}{b cp key:Int}{hs:List Int}{q:Int->Nat}{ks:List Int}{W:Int->Int->Option Int}{al:List Int}{u:Int->Option Int}
def D4(W:Int->Int->Option Int)(key g:Int)(tk:List Int)(h:Int):List (List Int):=
 (if((W h key).isSome && !decide (h∈tk))=ai then[[key,0,h]]else[])++(if(!(W h key).isSome && decide (h∈tk))=ai then[[key,1,g,h]]else[])
def A2(W:Int->Int->Option Int)(key g:Int)(tk hs:List Int):List (List Int):=hs.flatMap (D4 W key g tk)
def rR:(D4 W key g tk h).length<=1:=by unfold D4;cases(W h key).isSome<;>cases decide (h∈tk)<;>simp
theorem zm:∀hs:List Int,(A2 W key g tk hs).length<=hs.length
 |[]=>by simp[A2]|h::hs=>by have:=zm (g:=g) (tk:=tk) hs;have:=rR (W:=W) (key:=key) (g:=g) (tk:=tk) (h:=h);simp only[A2,nE,WK,Wl]at*;lia
def rT{cl:Cl}{r:az}{i n:Nat}{ls:List D}{e:E}{d:D}(hr:r[i]?=af (af (.ref n)))(hp:S[n]?=af (.lst ls))(he:aj cl e r S=af (.ok d S))(hl:ls.length<100000):
  aj cl (E.meth (Mt.append) (E.var i) [e]) r S=af (.ok .non (S.set n (.lst (ls++ [d])))):=by
 refine jQ (S1:=S) (S2:=S) (n:=n) (ls:=ls) (ds:=[d]) (aa hr) hp (ak he au) ?_;have hl':ls.length<sizeLine:=by simp only[aS];exact Wa hl (by decide)
 simp only[iu,EU,nu,dg,hp,if_pos hl',bA]
theorem mW(rs:List (List Int)):r6.clos n (rs.map aG):=ig.mpr λd hd=>by
 obtain⟨r,_,rfl⟩:=Wn.mp hd;cases r with
 |nil=>exact trivial|cons a s=>
  cases s with|nil=>exact trivial|cons c ns=>exact⟨trivial,trivial,cH _⟩
def Nk(K:se al S p pk b hs cp ks q W)(hR:AH b hs)(hsub:∀h∈hs,h∈ks)(hl:hs.length<=14)(hg:EL W b hs key=af g):
  ao fns (k+6) 9 [aD b hs,.ref pk,.int key,.tup (aq tk)] S=af (.ok (.lst ((A2 W key g tk hs).map aG)) S):=by
 have hf:=Nj (k:=k) (key:=key) K hR hsub hl;rw[hg]at hf;refine Ii (fs:=⟨4,7,b9⟩) rfl rfl ?_ (mW _);unfold b9;simp only[Wh,WW,Wl,WN,br,Wr,Wj,Wm,dP,dQ,WL,Xi];refine aC (aM (ak (aa rfl) (ak (aa rfl) (ak (aa rfl) au))) hf) rfl ?_;simp only[bS];refine aC (d:= .ref S.length) (S1:=S++ [SO.lst []]) (jP au (by simp[aS])) rfl ?_;simp only[bS];refine bF (α:=Int) D.int (xs:=hs) (S1:=S++ [SO.lst []]) (cz (aW (aa rfl) aB bK CB)) (λys r S'=>∃pre v6,pre++ys=hs/\S'=S++ [SO.lst ((A2 W key g tk pre).map aG)]/\r=[af (aD b hs),af (.ref pk),af (.int key),af (.tup (aq tk)),af (.int g),af (.ref S.length),v6]) ⟨[],ah,rfl,rfl,rfl⟩ ?_ ?_
 ·rintro r S' ⟨pre,v6,hp,rfl,rfl⟩;rw[Wm]at hp;subst hp;exact aL (aa rfl) ⟨_,_,rfl,.inr ⟨_,rfl,Wc _,nL _ _⟩,by simp⟩
 rintro x ys r S' _ ⟨pre,v6,hp,rfl,rfl⟩;have hx:x∈ks:=hsub x (by grind);have hpl:pre.length<=14:=by have:=Xk fR hp;simp at this;lia
 have hll:=zm (W:=W) (key:=key) (g:=g) (tk:=tk) pre;obtain⟨ls,els⟩:∃ls,ls=(A2 W key g tk pre).map aG:=⟨_,rfl⟩
 have SV:ls.length<=14:=by rw[els,Wb];exact Wa hll hpl
 have MC:(A2 W key g tk (pre++ [x])).map aG=ls++(D4 W key g tk x).map aG:=by rw[els,A2,A2,rV,ZG];simp
 rw[←els];have K':=K.push [SO.lst ls];simp only[bS];have t1:aO (ao fns (k+5)) (T.and (T.val (E.cmp (CmpOp.In) (E.var 2) (E.ix (E.var 1) (E.var 6)))) (T.val (E.cmp (CmpOp.NotIn) (E.var 6) (E.var 3)))) [af (aD b hs),af (.ref pk),af (.int key),af (.tup (aq tk)),af (.int g),af (.ref S.length),af (.int x)] (S++ [SO.lst ls])=af (.ok ((W x key).isSome && !decide (x∈tk)) (S++ [SO.lst ls])):=
  ue (aZ (x:= .bl _) (aR (aa rfl) (iR K'.B (aa rfl) (aa rfl) hx) (pN K'.B hx)) bD) λ_=>aZ (x:= .bl _) (aR (aa rfl) (aa rfl) (lz ik)) bD
 have t2:∀ls',aO (ao fns (k+5)) (T.and (T.val (E.cmp (CmpOp.NotIn) (E.var 2) (E.ix (E.var 1) (E.var 6)))) (T.val (E.cmp (CmpOp.In) (E.var 6) (E.var 3)))) [af (aD b hs),af (.ref pk),af (.int key),af (.tup (aq tk)),af (.int g),af (.ref S.length),af (.int x)] (S++ [SO.lst ls'])=af (.ok (!(W x key).isSome && decide (x∈tk)) (S++ [SO.lst ls'])):=λls'=>ue (aZ (x:= .bl _) (aR (aa rfl) (iR (K.push [SO.lst ls']).B (aa rfl) (aa rfl) hx) (FQ (K.push [SO.lst ls']).B hx)) bD) λ_=>aZ (x:= .bl _) (aR (aa rfl) (aa rfl) (Im ik)) bD
 have fin:∀(v6:Option D)(ls':List D),ls'=ls++(D4 W key g tk x).map aG->∃pre' ZH,pre'++ys=hs/\S++ [SO.lst ls']=S++ [SO.lst ((A2 W key g tk pre').map aG)]/\ [af (aD b hs),af (D.ref pk),af (D.int key),af (D.tup (aq tk)),af (D.int g),af (D.ref S.length),v6]=[af (aD b hs),af (D.ref pk),af (D.int key),af (D.tup (aq tk)),af (D.int g),af (D.ref S.length),ZH]:=λv6 ls' e=>⟨pre++ [x],v6,by rw[←hp];simp,by rw[MC,e],rfl⟩
 refine fD t1 (λe1=>?_) (λe1=>?_)
 ·have e2:(!(W x key).isSome && decide (x∈tk))=false:=by
   rw[WT]at e1;rw[e1.1];rfl
  simp only[Wr,Wj];refine bY (rT (d:=aG [key,0,x]) rfl (nL _ _) (cu (ak (aa rfl) (ak aB (ak (aa rfl) au))) (by simp[aS])) (Wv SV (by decide))) ?_;rw[j4];refine bR (by rw[t2,e2]) (aJ (fin _ _ ?_));unfold D4;rw[if_pos e1,e2];simp
 ·simp only[Wj];refine fD (t2 ls) (λe2=>?_) (λe2=>?_)
  ·simp only[Wr,Wj];refine bY (rT (d:=aG [key,1,g,x]) rfl (nL _ _) (cu (ak (aa rfl) (ak aB (ak (aa rfl) (ak (aa rfl) au)))) (by simp[aS])) (Wv SV (by decide))) ?_;rw[j4];refine aJ (fin _ _ ?_);unfold D4;rw[e1,if_pos e2];simp
  ·refine aJ (fin _ _ ?_);unfold D4;rw[e1,e2];simp
def JP(ks:List Int)(u:Int->Option Int)(W:Int->Int->Option Int)(r:List Int):Prop:=
 (∃k h,r=[k,0,h]/\h∈ks/\(W h k).isSome=ai)\/∃k g h,r=[k,1,g,h]/\g∈ks/\h∈ks/\(W g k).isSome=ai/\(u k).isSome=ai
def Fc(rs:List (List Int))(k h:Int):Bool:=rs.any λr=>match r with
 |[a,c,_,x]=>decide (a=k/\c=1/\x=h)|_=>ay
def EM(rs:List (List Int))(k h:Int):Bool:=rs.any λr=>decide (r=[k,0,h])
def sW(u:Int->Option Int)(W:Int->Int->Option Int)(rs:List (List Int)):Int->Int->Option Int:=λh k=>if Fc rs k h=ai then u k else W h k
def dW(W:Int->Int->Option Int)(rs:List (List Int)):Int->Int->Option Int:=λh k=>if EM rs k h=ai then ah else W h k
def SW:BF S (.str (word 0)) (.str (word 1))=af false:=by simp only[BF,gw,zl];rw[if_pos ⟨by decide+kernel,by decide+kernel⟩];rfl
def SY:BF S (.str (word 1)) (.str (word 1))=af true:=by simp only[BF,gw,zl];rw[if_pos ⟨by decide+kernel,by decide+kernel⟩];rfl
def ZI:BF S (.str (word 1)) (.str (word 0))=af false:=by simp only[BF,gw,zl];rw[if_pos ⟨by decide+kernel,by decide+kernel⟩];rfl
def ZL:BF S (.str (word 0)) (.str (word 0))=af true:=by simp only[BF,gw,zl];rw[if_pos ⟨by decide+kernel,by decide+kernel⟩];rfl
def R4{α:Type}{a b c:α}{l:List α}:L2.BQ (a::b::c::l) 2=af c:=NI (by simp) rfl
def V4{α:Type}{a b c d:α}{l:List α}:L2.BQ (a::b::c::d::l) 3=af d:=NI (by simp) rfl
def Jl{k h a g x:Int}:Fc (rs++ [[a,1,g,x]]) k h=(Fc rs k h || decide (a=k/\x=h)):=by simp[Fc]
def FW{rs:List (List Int)}{k h a x:Int}:Fc (rs++ [[a,0,x]]) k h=Fc rs k h:=by simp[Fc]
def Jm{k h a x:Int}:EM (rs++ [[a,0,x]]) k h=(EM rs k h || decide (a=k/\x=h)):=by simp[EM]
def FZ{rs:List (List Int)}{k h a g x:Int}:EM (rs++ [[a,1,g,x]]) k h=EM rs k h:=by simp[EM]
def R5(K:yY al S pk ks q W)(hn:S[n]?=af (.lst (rs.map aG)))(hu:∀h∈ks,∀k,W h k=ah\/W h k=u k)(hok:∀r∈rs,JP ks u W r)(hnd:rs.Nodup):
  ∃S',S'.length=S.length/\(∀i:Nat,(∀h∈ks,q h≠i)->S'[i]?=S[i]?)/\yY al S' pk ks q (dW (sW u W rs) rs)/\ao fns (k+1) 11 [.ref pk,.ref n] S=af (.ok .non S'):=by
 suffices hw:RV.Runs (ao fns k) Mn [af (.ref pk),af (.ref n),ah] S λo=>∃S',S'.length=S.length/\(∀i:Nat,(∀h∈ks,q h≠i)->S'[i]?=S[i]?)/\yY al S' pk ks q (dW (sW u W rs) rs)/\∃r,o=af (.next r S') by unfold RV.Runs at hw;obtain⟨S',h1,h3,h4,r,e⟩:=hw;exact⟨S',h1,h3,h4,mR (fs:=⟨2,3,Mn⟩) rfl rfl (by unfold RV.Runs;exact⟨r,e⟩) h1⟩
 unfold Mn;have low:∀{S':bq}{x:Int}{o':SO},x∈ks->(∀i:Nat,(∀h∈ks,q h≠i)->S'[i]?=S[i]?)->∀i:Nat,(∀h∈ks,q h≠i)->(S'.set (q x) o')[i]?=S[i]?:=λhx h2 i hi=>by simp_all
 have nq:∀h∈ks,q h≠n:=λh hh=>by obtain⟨N,n1,_⟩:=K.nt h hh;lia
 refine wH (ds:=rs.map aG) (k:=n) (S1:=S) (aa rfl) hn (λys r S'=>∃pre rest v2,pre++rest=rs/\ys=rest.map aG/\S'.length=S.length/\(∀i:Nat,(∀h∈ks,q h≠i)->S'[i]?=S[i]?)/\yY al S' pk ks q (sW u W pre)/\r=[af (.ref pk),af (.ref n),v2]) ⟨[],rs,ah,rfl,rfl,rfl,λi _=>rfl,K,rfl⟩ (λys r S' ⟨_,_,_,_,_,_,h,_⟩=>(h n nq).trans hn) ?_ ?_
 ·rintro x ys r S' ⟨pre,rest,v2,hp,ey,hl,hk,KS,rfl⟩;cases rest with
  |nil=>cases ey|cons row rest=>
   obtain⟨rfl,rfl⟩:=ZF ey;have hrow:=hok row (by rw[←hp];simp);simp only[bS];rcases hrow with⟨a,x,rfl,hx,hx2⟩|⟨a,g,x,rfl,hg,hx,hg2,hu2⟩
   ·refine bR (S1:=S') (aZ (x:= .bl ay) (aR (aW (x:=aG [a,0,x]) (aa rfl) aB bK CB) aB (lw SW)) bD) ?_;refine aJ ⟨_,_,rfl,pre++ [[a,0,x]],rest,_,by rw[←hp];simp,rfl,hl,hk,?_,rfl⟩;have e:sW u W (pre++ [[a,0,x]])=sW u W pre:=by funext h k;unfold sW;rw[FW]
    lia
   ·obtain⟨vv,ev⟩:=XX.mp hu2;have ZM:sW u W pre g a=af vv:=by
     unfold sW;split
     ·exact ev
     ·rcases hu g hg a with z|z
      ·simp_all
      lia
    obtain⟨Ng,g1,g2⟩:=KS.nt g hg;obtain⟨Nx,x1,x2⟩:=KS.nt x hx;have hb:=K.bd g hg a hg2;have hz:Nx.length<sizeLine:=by have:=Bs KS hx x2;simp only[aS];lia
    refine jk (S1:=S') (aZ (x:= .bl ai) (aR (aW (x:=aG [a,1,g,x]) (aa rfl) aB bK CB) aB (lw SY)) bD) ?_;simp only[Wr,Wj];refine ji (d:= .int vv) (x:= .ref (q x)) (y:= .int a) (S1:=S') (S2:=S') (S3:=S') (S4:=S'.set (q x) (.dct (putD Nx (.inl a) (.int vv)))) (vW (iR KS (aa rfl) (aW (x:=aG [a,1,g,x]) (aa rfl) aB bK R4) hg) (aW (x:=aG [a,1,g,x]) (aa rfl) aB bK BD) (iH g1) rfl (by rw[g2.va a,ZM];rfl)) (iR KS (aa rfl) (aW (x:=aG [a,1,g,x]) (aa rfl) aB bK V4) hx) (aW (x:=aG [a,1,g,x]) (aa rfl) aB bK BD) ?_ (aJ ⟨_,_,rfl,pre++ [[a,1,g,x]],rest,_,by rw[←hp];simp,rfl,by simp_all,low hx hk,?_,rfl⟩)
    ·simp only[RK.putAt,x1,dG,if_pos hz]
    ·have e:sW u W (pre++ [[a,1,g,x]])=DM (sW u W pre) x a (af vv):=by
      funext h k;unfold DM sW;rw[Jl];by_cases z:h=x/\k=a
      ·lia
      ·lia
     rw[e];exact KS.put hx hb x1 x2
 rintro r S1 ⟨pre,rest,v2,hp,ey,hl1,hk1,K1,rfl⟩;have:rest=[]:=by simpa using ey.symm
 subst this;rw[Wm]at hp;subst hp;refine wH (ds:=pre.map aG) (k:=n) (S1:=S1) (aa rfl) ((hk1 n nq).trans hn) (λys r S'=>∃pre2 rest v2,pre2++rest=pre/\ys=rest.map aG/\S'.length=S.length/\(∀i:Nat,(∀h∈ks,q h≠i)->S'[i]?=S[i]?)/\yY al S' pk ks q (dW (sW u W pre) pre2)/\r=[af (.ref pk),af (.ref n),v2]) ⟨[],pre,_,rfl,rfl,hl1,hk1,K1,rfl⟩ (λys r S' ⟨_,_,_,_,_,_,h,_⟩=>(h n nq).trans hn) ?_ ?_
 ·rintro x ys r S' ⟨pre2,rest,v2,hp,ey,hl,hk,KS,rfl⟩;cases rest with
  |nil=>cases ey|cons row rest=>
   obtain⟨rfl,rfl⟩:=ZF ey;have hrow:=hok row (by rw[←hp];simp);simp only[bS];rcases hrow with⟨a,x,rfl,hx,hx2⟩|⟨a,g,x,rfl,hg,hx,hg2,hu2⟩
   ·have hnot:EM pre2 a x=false:=by
     cases z:EM pre2 a x with
     |false=>rfl|true=>obtain⟨r,hr,er⟩:=List.any_eq_true.mp z;have er:=WR er;subst er;rw[←hp]at hnd;exact absurd rfl ((Xu.mp hnd).2.2 _ hr _ (by simp))
    have hsome:∃i,dW (sW u W pre) pre2 x a=af i:=by
     unfold dW;rw[hnot,if_neg (by simp)];unfold sW;split
     ·rcases hu x hx a with z|z
      ·simp_all
      ·rw[z]at hx2;exact XX.mp hx2
     ·exact XX.mp hx2
    obtain⟨i,ei⟩:=hsome;obtain⟨Nx,x1,x2⟩:=KS.nt x hx;refine jk (S1:=S') (aZ (x:= .bl ai) (aR (aW (x:=aG [a,0,x]) (aa rfl) aB bK CB) aB (lw ZL)) bD) ?_;simp only[Wr,Wj];refine bY (yR (S3:=S'.set (q x) (.dct (Nx.filter λkv=>decide (kv.1≠ .inl a)))) (d:= .int i) (iR KS (aa rfl) (aW (x:=aG [a,0,x]) (aa rfl) aB bK R4) hx) x1 (ak (aW (x:=aG [a,0,x]) (aa rfl) aB bK BD) au) ?_) (aJ ⟨_,_,rfl,pre2++ [[a,0,x]],rest,_,by rw[←hp];simp,rfl,by simp_all,low hx hk,?_,rfl⟩)
    ·have hv:bz Nx (.inl a)=af (.int i):=by rw[x2.va a,ei];rfl
     simp only[jn,x1,hv,bA]
    ·have e:dW (sW u W pre) (pre2++ [[a,0,x]])=DM (dW (sW u W pre) pre2) x a none:=by
      funext h k;unfold DM dW;rw[Jm];by_cases z:h=x/\k=a
      ·lia
      ·lia
     rw[e];exact KS.drop hx x1 x2
   ·refine bR (S1:=S') (aZ (x:= .bl ay) (aR (aW (x:=aG [a,1,g,x]) (aa rfl) aB bK CB) aB (lw ZI)) bD) ?_;refine aJ ⟨_,_,rfl,pre2++ [[a,1,g,x]],rest,_,by rw[←hp];simp,rfl,hl,hk,?_,rfl⟩;have e:dW (sW u W pre) (pre2++ [[a,1,g,x]])=dW (sW u W pre) pre2:=by funext h k;unfold dW;rw[FZ]
    lia
 rintro r S2 ⟨pre2,rest,v2,hp,ey,hl2,hk2,K2,rfl⟩;have:rest=[]:=by simpa using ey.symm
 subst this;rw[Wm]at hp;subst hp;exact aJ ⟨S2,hl2,hk2,K2,_,rfl⟩
end
section
variable{k:Nat}{S:bq}{p pk:Nat}{b cp key:Int}{hs:List Int}{q:Int->Nat}{ks:List Int}{W:Int->Int->Option Int}{al:List Int}{u:Int->Option Int}
def pO(hf:fns[f]?=af fs)(ha:as.length=fs.np)(h:RV.Runs (ao fns k) fs.body (as.map af++br (fs.nn - as.length) ah) S λo=>o=af (.ret d S')\/(d= .non/\∃r,o=af (.next r S')))(hl:S.length<=S'.length)(c:r6 S.length d)(hd:∀k,d≠ .ref k):
  ∃DO,S.length<=DO.length/\(∀i,i<S.length->DO[i]?=S'[i]?)/\ao fns (k+1) f as S=af (.ok d DO):=by
 rw[ao,hf];unfold RV.Runs at h;have e:gh S (dS (ao fns k) fs.body (as.map af++br (fs.nn - as.length) ah) S)=trim S d S':=by rcases h with h|⟨rfl,r,h⟩<;>rw[h]<;>rfl
 simp only[if_pos ha,e];unfold trim;by_cases c1:S'.take S.length=S/\r6 S.length d
 ·rw[if_pos c1];exact⟨S,Wc _,λi hi=>by have:=X3 (l:=S') hi;lia,rfl⟩
 ·rw[if_neg c1];by_cases c2:(∀o∈S'.take S.length,uG S.length o)/\r6 S.length d
  ·rw[if_pos c2];exact⟨_,by simp_all,λi hi=>X3 hi,rfl⟩
  ·rw[if_neg c2]
   simp_all
def se.lt(K:se al S p pk b hs cp ks q W):p<S.length/\pk<S.length/\∀h∈ks,q h<S.length:=
 ⟨cL K.ob,cL K.kp,λh hh=>by obtain⟨N,n1,_⟩:=K.nt h hh;exact cL n1⟩
theorem se.to(K:se al S p pk b hs cp ks q W)(m:∀i,i=p\/i=pk\/(∃h∈ks,i=q h)->S'[i]?=S[i]?):se al S' p pk b hs cp ks q W:=
 ⟨(m p (.inl rfl)).trans K.ob,K.B.to λi hi=>m i (.inr hi)⟩
def yY.as(K:yY al S pk ks q W)(e:∀h∈ks,W h=W' h):yY al S pk ks q W':=
 ⟨K.kp,λh hh=>by rw[←e h hh];exact K.nt h hh,K.inj,K.dq,K.nk,K.lk,λh hh=>by rw[←e h hh];exact K.bd h hh,K.la⟩
theorem se.as(K:se al S p pk b hs cp ks q W)(e:∀h∈ks,W h=W' h):se al S p pk b hs cp ks q W':=⟨K.ob,K.B.as e⟩
def rq(tg:List Int)(cp x:Int):List Int:=(cN tg x).take cp.toNat
def zC:r∈D4 W y g tk h ↔ ((W h y).isSome=ai/\h∉tk/\r=[y,0,h])\/((W h y).isSome=ay/\h∈tk/\r=[y,1,g,h]):=by
 unfold D4
 grind
def cV:r∈A2 W y g tk hs ↔ ∃h∈hs,((W h y).isSome=ai/\h∉tk/\r=[y,0,h])\/((W h y).isSome=ay/\h∈tk/\r=[y,1,g,h]):=by unfold A2;rw[Zz];exact⟨λ⟨h,hh,z⟩=>⟨h,hh,zC.mp z⟩,λ⟨h,hh,z⟩=>⟨h,hh,zC.mpr z⟩⟩
def tQ(hn:hs.Nodup):(A2 W y g tk hs).Nodup:=by
 unfold A2 x6;rw[Zv];refine⟨λh _=>?_,hn.imp λ{a c} z r1 h1 r2 h2 e=>?_⟩
 ·have:=rR (W:=W) (key:=y) (g:=g) (tk:=tk) (h:=h)
  match hl:D4 W y g tk h with
  |[]=>exact .nil|[x]=>simp|x::x2::r=>simp_all
 ·subst e;rcases zC.mp h1 with⟨_,_,e1⟩|⟨_,_,e1⟩<;>rcases zC.mp h2 with⟨_,_,e2⟩|⟨_,_,e2⟩<;>rw[e1]at e2<;>simp at e2
  ·exact z e2
  ·exact z e2
def UL{gv:Int->Int}(hG:∀r,r∈rs ↔ ∃y,(u y).isSome=ai/\r∈A2 W y (gv y) (rq tg cp (y % sz b)) A)(hu:∀h∈A,∀k,W h k=ah\/W h k=u k):∀h∈A,dW (sW u W rs) rs h=λy=>if h∈rq tg cp (y % sz b)then u y else none:=by
 have FA:∀h∈A,∀y,EM rs y h=ai ↔ (u y).isSome=ai/\(W h y).isSome=ai/\h∉rq tg cp (y % sz b):=λh hh y=>by
  unfold EM;rw[vt];constructor
  ·rintro⟨r,hr,e⟩;have e:=WR e;obtain⟨y',hy,hr⟩:=(hG r).mp hr;obtain⟨h',hh',⟨z1,z2,z3⟩|⟨z1,z2,z3⟩⟩:=cV.mp hr
   ·lia
   lia
  ·rintro⟨a,b1,c1⟩;exact⟨[y,0,h],(hG _).mpr ⟨y,a,cV.mpr ⟨h,hh,.inl ⟨b1,c1,rfl⟩⟩⟩,by simp⟩
 have FD:∀h∈A,∀y,Fc rs y h=ai ↔ (u y).isSome=ai/\(W h y).isSome=ay/\h∈rq tg cp (y % sz b):=λh hh y=>by
  unfold Fc;rw[vt];constructor
  ·rintro⟨r,hr,e⟩;obtain⟨y',hy,hr⟩:=(hG r).mp hr;obtain⟨h',hh',⟨z1,z2,z3⟩|⟨z1,z2,z3⟩⟩:=cV.mp hr
   ·simp_all
   simp_all
  ·rintro⟨a,b1,c1⟩;exact⟨[y,1,gv y,h],(hG _).mpr ⟨y,a,cV.mpr ⟨h,hh,.inr ⟨b1,c1,rfl⟩⟩⟩,by simp⟩
 intro h hh;funext y;have h1:=FA h hh y;have h2:=FD h hh y;have h3:=hu h hh y;unfold dW sW;by_cases ht:h∈rq tg cp (y % sz b)
 ·rw[if_pos ht,if_neg (λz=>(h1.mp z).2.2 ht)];split
  ·rfl
  ·rename_i hs';rcases h3 with w|w
   ·simp_all
   ·exact w
 ·rw[if_neg ht];split
  ·rfl
  ·rename_i hd';rw[if_neg (λz=>ht (h2.mp z).2.2)];cases hw:W h y with|none=>rfl|some i=>simp_all
abbrev pe(r:List Int):Bool:=decide (r.length=4)
def NL(L:List (List Int)):Prop:=L.length<=12/\(L.filter pe).length<=6/\(L.filter λr=>!pe r).length<=6
def GU(rs:List (List Int)):Prop:=∀l,(∃A B:List Nat,A.length<=6/\B.length<=6/\∀i j,i<l->l<=j->j<rs.length->RK.lexLt (rs.getD i []) (rs.getD j [])=ay->i∈A/\j∈B)/\
 ∀i j i' j',i<l->i'<l->l<=j->j<rs.length->l<=j'->j'<rs.length->RK.lexLt (rs.getD i []) (rs.getD j [])=ay->RK.lexLt (rs.getD i' []) (rs.getD j' [])=ay->RK.lexLt (rs.getD i []) (rs.getD j' [])=ay
def Nr(rs:List (List Int))(n:Nat):Prop:=rs.Nodup/\rs.length<=12*n/\GU rs
theorem Nr.nil:Nr [] 0:=⟨.nil,by simp,λl=>⟨⟨[],[],by simp,by simp,λi j _ _ h=>absurd h (by simp)⟩,λi j i' j' _ _ _ h=>absurd h (by simp)⟩⟩
def getD_in{l:List (List Int)}(h:i<l.length):l.getD i []∈l:=by simp_all
theorem R6(h:r.headD 0<r'.headD 0)(h1:r≠ [])(h2:r'≠ []):RK.lexLt r r'=true:=by
 cases r with
 |nil=>lia|cons x p=>cases r' with
  |nil=>lia|cons y q=>
   have h:x<y:=h;unfold RK.lexLt;rw[if_neg (by exact lP h)]
   simp_all
def Ga(f:List Int->Bool)(L:List (List Int)):((bX L.length).filter λi=>f (L.getD i [])).length=(L.filter f).length:=by
 have e:L=(bX L.length).map λi=>L.getD i []:=ow (by simp) λi h1 h2=>by simp[h1]
 have:=Xk (λl=>(List.filter f l).length) e;simp only[w9,Wb]at this;exact this.symm
def PZ(L:List (List Int)):Prop:=(L.Pairwise λr r'=>RK.lexLt r r'=ai\/pe r=ai/\pe r'=ay)/\∀r∈L,∀r'∈L,pe r=ai->pe r'=ay->RK.lexLt r r'=ay
def Nm(hp:PZ L)(hL:NL L):GU L:=λl=>by
 have c:∀i j,i<j->j<L.length->RK.lexLt (L.getD i []) (L.getD j [])=ay->pe (L.getD i [])=ai/\pe (L.getD j [])=false:=λi j h1 h3 h4=>by
  have hi:i<L.length:=Ye h1 h3;have:=List.pairwise_iff_getElem.mp hp.1 i j hi h3 h1;rw[show L.getD i []=L[i] by simp[hi],show L.getD j []=L[j] by simp[h3]]at*;rcases this with w|w
  ·rw[w]at h4;cases h4
  ·exact w
 refine⟨⟨(bX L.length).filter λi=>pe (L.getD i []),(bX L.length).filter λi=>!pe (L.getD i []),by rw[Ga pe];exact hL.2.1,by rw[Ga λr=>!pe r];exact hL.2.2,λi j h1 h2 h3 h4=>?_⟩,λi j i' j' h1 h1' h2 h3 h2' h3' h4 h4'=>?_⟩
 ·have w:=c i j (Wa h1 h2) h3 h4;exact⟨Wz.mpr ⟨Xy.mpr (by lia),w.1⟩,Wz.mpr ⟨Xy.mpr h3,by rw[w.2];rfl⟩⟩
 ·exact hp.2 _ (getD_in (by lia)) _ (getD_in h3') (c i j (Wa h1 h2) h3 h4).1 (c i' j' (Wa h1' h2') h3' h4').2
def Nr.add(h:Nr rs n)(hn:L.Nodup)(hp:PZ L)(hl:NL L)(hL:∀r∈L,r.headD 0=y/\r≠ [])(hr:∀r∈rs,r.headD 0<y/\r≠ []):Nr (rs++L) (n+1):=by
 have ga:∀i,i<rs.length->(rs++L).getD i []=rs.getD i []:=λi hi=>by rw[Xc,Ws hi,←Xc]
 have gb:∀i,rs.length<=i->(rs++L).getD i []=L.getD (i - rs.length) []:=λi hi=>by rw[Xc,Wx hi,←Xc]
 have D3:(rs++L).length=rs.length+L.length:=WK;have hlt:∀i j,j<(rs++L).length->RK.lexLt ((rs++L).getD i []) ((rs++L).getD j [])=ay->¬(i<rs.length/\rs.length<=j):=λi j h3 h4 ⟨h1,h2⟩=>by rw[ga i h1,gb j h2]at h4;have a:=hr _ (getD_in h1);have c:=hL _ (getD_in (l:=L) (i:=j - rs.length) (by lia));rw[R6 (by lia) a.2 c.2]at h4;cases h4
 refine⟨Xu.mpr ⟨h.1,hn,λa ha c hc e=>?_⟩,by have:=h.2.1;have:=hl.1;lia,λl=>?_⟩
 ·have:=hr a ha;have:=hL c hc;subst e;lia
 ·by_cases hll:l<=rs.length
  ·obtain⟨⟨A,B,a,b,hc⟩,LI⟩:=h.2.2 l;have z:∀i j,i<l->j<(rs++L).length->RK.lexLt ((rs++L).getD i []) ((rs++L).getD j [])=ay->j<rs.length/\RK.lexLt (rs.getD i []) (rs.getD j [])=false:=λi j h1 h3 h4=>by
    have:=hlt i j h3 h4;have hj:j<rs.length:=by lia
    rw[ga i (by exact Wa h1 hll),ga j hj]at h4;exact⟨hj,h4⟩
   refine⟨⟨A,B,a,b,λi j h1 h2 h3 h4=>?_⟩,λi j i' j' h1 h1' h2 h3 h2' h3' h4 h4'=>?_⟩
   ·have w:=z i j h1 h3 h4;exact hc i j h1 h2 w.1 w.2
   ·have w:=z i j h1 h3 h4;have w':=z i' j' h1' h3' h4';rw[ga i (by exact Wa h1 hll),ga j' w'.1];exact LI i j i' j' h1 h1' h2 w.1 h2' w'.1 w.2 w'.2
  ·obtain⟨⟨A,B,a,b,hc⟩,LI⟩:=Nm hp hl (l - rs.length);have z:∀i j,l<=j->j<(rs++L).length->RK.lexLt ((rs++L).getD i []) ((rs++L).getD j [])=ay->rs.length<=i/\RK.lexLt (L.getD (i - rs.length) []) (L.getD (j - rs.length) [])=false:=λi j h2 h3 h4=>by
    have:=hlt i j h3 h4;have hi:rs.length<=i:=by lia
    rw[gb i hi,gb j (by lia)]at h4;exact⟨hi,h4⟩
   refine⟨⟨A.map (·+rs.length),B.map (·+rs.length),by simpa using a,by simpa using b,λi j h1 h2 h3 h4=>?_⟩,λi j i' j' h1 h1' h2 h3 h2' h3' h4 h4'=>?_⟩
   ·have w:=z i j h2 h3 h4;obtain⟨z1,z2⟩:=hc (i - rs.length) (j - rs.length) (by lia) (by lia) (by lia) w.2;exact⟨Wn.mpr ⟨_,z1,by lia⟩,Wn.mpr ⟨_,z2,by lia⟩⟩
   ·have w:=z i j h2 h3 h4;have w':=z i' j' h2' h3' h4';rw[gb i w.1,gb j' (by lia)];exact LI _ (j - rs.length) (i' - rs.length) _ (by lia) (by lia) (by lia) (by lia) (by lia) (by lia) w.2 w'.2
def Gb(h:r∈A2 W y g tk hs):r.headD 0=y/\r≠ []:=by obtain⟨x,_,⟨_,_,e⟩|⟨_,_,e⟩⟩:=cV.mp h<;>rw[e]<;>exact⟨rfl,by simp⟩
def R7(hn:hs.Pairwise (·<·)):PZ (A2 W y g tk hs):=by
 refine⟨?_,λr hr r' hr' h h'=>?_⟩
 ·unfold A2;rw[Zv];refine⟨λh _=>?_,hn.imp λ{a c} z r1 h1 r2 h2=>?_⟩
  ·have:=rR (W:=W) (key:=y) (g:=g) (tk:=tk) (h:=h)
   match hl:D4 W y g tk h with
   |[]=>exact .nil|[x]=>simp|x::x2::r=>rw[hl]at this;simp at this
  ·rcases zC.mp h1 with⟨_,_,e1⟩|⟨_,_,e1⟩<;>rcases zC.mp h2 with⟨_,_,e2⟩|⟨_,_,e2⟩<;>rw[e1,e2]<;>simp[RK.lexLt,z,lP z]
 ·obtain⟨_,_,⟨_,_,e1⟩|⟨_,_,e1⟩⟩:=cV.mp hr<;>obtain⟨_,_,⟨_,_,e2⟩|⟨_,_,e2⟩⟩:=cV.mp hr'<;>rw[e1]at h<;>rw[e2]at h'<;>first|(cases h;done)|(cases h';done)|(rw[e1,e2];simp[RK.lexLt])
theorem Jo(hok:∀r∈rs,(∃a x,r=[a,0,x])\/∃a g x,r=[a,1,g,x])(hN:Nr rs n)(hrl:rs.length<128):dU (rs.map aG)=af ((RK.aQ rs).map aG)/\((RK.aQ rs).map aG).length<=sizeLine:=by
 have hM:∀l:List (List Int),(∀r∈l,(∃a x,r=[a,0,x])\/∃a g x,r=[a,1,g,x])->jm (l.map aG)=af l:=by
  intro l
  induction l with
  |nil=>intro _;rfl|cons r l ih=>
   intro hh;have:uF (aG r)=af r:=by rcases hh r (by simp)with⟨a,x,rfl⟩|⟨a,g,x,rfl⟩<;>rfl
   simp only[Wh,jm,this,ih (λr hr=>hh r (by simp[hr])),XJ]
 refine⟨?_,by rw[Wb,(RK.cD _).length_eq];simp only[aS];lia⟩;cases rs with
 |nil=>rfl|cons r0 To=>
  have e1:aY ((r0::To).map aG)=ah/\dz ((r0::To).map aG)=none:=by rcases hok r0 (by simp)with⟨a,x,rfl⟩|⟨a,g,x,rfl⟩<;>exact⟨rfl,rfl⟩
  unfold dU;rw[e1.1,e1.2,hM _ hok];exact if_pos ⟨hN.1,hrl,λ_=>hN.2.2⟩
def pP(W:Int->Int->Option Int)(u:Int->Option Int)(b cp:Int)(hs tg:List Int)(rs:List (List Int)):Prop:=
 (∀r,r∈rs ↔ ∃y,(u y).isSome=ai/\r∈A2 W y ((EL W b hs y).getD 0) (rq tg cp (y % sz b)) hs)/\rs.Nodup/\rs.length<128
def Np(K:se al S p pk b hs cp ks q W)(hR:AH b hs)(P1:AH b tg)(hsub:∀h,h∈hs ↔ h∈ks)(hl:hs.length<=14)(htl:tg.length<=14)(hcp:1<=cp)(hu:∀h∈hs,∀k,W h k=ah\/W h k=u k)(ZN:∀k,(u k).isSome=ai->∃h∈hs,(W h k).isSome=ai)(hal:al.length<=10)(hlen:∀y g,NL (A2 W y g (rq tg cp (y % sz b)) hs)):
  ∃S' d,S.length<=S'.length/\(∀i,i<S.length->(∀h∈ks,q h≠i)->S'[i]?=S[i]?)/\se al S' p pk b hs cp ks q (λh k=>if h∈rq tg cp (k % sz b)then u k else ah)/\(∃rs:List (List Int),d= .tup ((RK.aQ rs).map aG)/\pP W u b cp hs tg rs)/\(∀n,r6 n d)/\(∀k,d≠ .ref k)/\ao fns (k+7) 17 [.ref p,aD b tg] S=af (.ok d S'):=by
 have hlt:=K.lt;obtain⟨ys,EZ,P4,yl,hkeys⟩:=R1 (k:=k+5) (K.push [SO.lst []]);have ZO:=bV EZ;have yu:∀y,y∈ys ↔ (u y).isSome=true:=λy=>by grind
 have Ö:ys.length<=10:=Wa (RV.bW ys al ZO λy hy=>by
  obtain⟨h,hh,z⟩:=(P4 y).mp hy;exact K.bd h hh y z) hal
 have G1:∀y∈ys,∃g,EL W b hs y=af g/\g∈hs/\(W g y).isSome=true:=λy hy=>by obtain⟨g,e⟩:=R3 (b:=b) (ZN y ((yu y).mp hy));exact⟨g,e,Jk e⟩
 suffices hw:RV.Runs (ao fns (k+6)) Nd [af (.ref p),af (aD b tg),ah,ah,ah] S λo=>∃S' d,S.length<=S'.length/\(∀i,i<S.length->(∀h∈ks,q h≠i)->S'[i]?=S[i]?)/\se al S' p pk b hs cp ks q (λh k=>if h∈rq tg cp (k % sz b)then u k else ah)/\(∃rs:List (List Int),d= .tup ((RK.aQ rs).map aG)/\pP W u b cp hs tg rs)/\(∀n,r6 n d)/\(∀k,d≠ .ref k)/\o=af (.ret d S') by
  unfold RV.Runs at hw;obtain⟨S',d,h1,h2,h3,P5,h4,h5,e⟩:=hw;obtain⟨S2,l2,k2,c2⟩:=pO (k:=k+6) (f:=17) (as:=[.ref p,aD b tg]) (fs:=⟨2,5,Nd⟩) (S:=S) (S':=S') (d:=d) rfl rfl (by unfold RV.Runs;exact .inl e) h1 (h4 _) h5;refine⟨S2,d,l2,λi hi hq=>(k2 i hi).trans (h2 i hi hq),h3.to λi hi=>k2 i ?_,P5,h4,h5,c2⟩;rcases hi with rfl|rfl|⟨h,hh,rfl⟩
  ·exact hlt.1
  ·exact hlt.2.1
  simp_all
 unfold Nd;refine aC (d:= .ref S.length) (S1:=S++ [SO.lst []]) (jP au (by simp[aS])) rfl ?_;simp only[bS];refine bF (α:=Int) D.int (xs:=ys) (S1:=S++ [SO.lst []]) (iG (aM (ak (fZ (K.push _) (aa rfl)) au) hkeys))
  (λzs r S'=>∃pre rs v3 v4,pre++zs=ys/\S'=S++ [SO.lst (rs.map aG)]/\(∀r,r∈rs ↔ ∃y∈pre,r∈A2 W y ((EL W b hs y).getD 0) (rq tg cp (y % sz b)) hs)/\Nr rs pre.length/\r=[af (.ref p),af (aD b tg),af (.ref S.length),v3,v4])
  ⟨[],[],ah,ah,rfl,rfl,λr=>by simp,Nr.nil,rfl⟩ ?_ ?_
 ·-- all keys
  rintro r S' ⟨pre,rs,v3,v4,hp,rfl,G2,nr,rfl⟩;have nd:=nr.1;rw[Wm]at hp;subst hp;have hok:∀r∈rs,JP ks u W r:=λr hr=>by
   obtain⟨y,hy,hr⟩:=(G2 r).mp hr;obtain⟨g,eg,hg,hg2⟩:=G1 y hy;rw[eg]at hr;obtain⟨h,hh,⟨z1,z2,z3⟩|⟨z1,z2,z3⟩⟩:=cV.mp hr
   ·exact .inl ⟨y,h,z3,(hsub h).mp hh,z1⟩
   ·exact .inr ⟨y,g,h,z3,(hsub g).mp hg,(hsub h).mp hh,hg2,(yu y).mp hy⟩
  have K':=K.push [SO.lst (rs.map aG)];obtain⟨S2,l2,k2,B2,c2⟩:=R5 (k:=k+5) (u:=u) (n:=S.length) (rs:=rs) K'.B (nL _ _) (λh hh=>hu h ((hsub h).mpr hh)) hok nd;have n2:S2[S.length]?=af (.lst (rs.map aG)):=(k2 _ λh hh=>by have:=hlt.2.2 h hh;lia).trans (nL _ _);have hrl:rs.length<128:=by have:=nr.2.1;lia
  have Kf:se al S2 p pk b hs cp ks q (λh k=>if h∈rq tg cp (k % sz b)then u k else ah):=⟨(k2 p λh hh=>by
   obtain⟨N,n1,_⟩:=K'.nt h hh;exact jY n1 K'.ob (λz=>by cases z)).trans K'.ob,B2.as λh hh=>UL (λr=>(G2 r).trans ⟨λ⟨y,w1,w2⟩=>⟨y,(yu y).mp w1,w2⟩,λ⟨y,w1,w2⟩=>⟨y,(yu y).mpr w1,w2⟩⟩) hu h ((hsub h).mpr hh)⟩
  refine bY (aM (ak (fZ (K.push _) (aa rfl)) (ak (aa rfl) au)) c2) ?_;obtain⟨Kn,he2⟩:=Jo (λr hr=>(hok r hr).imp (λ⟨a,x,e,_⟩=>⟨a,x,e⟩) λ⟨a,g,x,e,_⟩=>⟨a,g,x,e⟩) nr hrl;refine aL (S1:=S2) (dM (fP (fX (ds:=rs.map aG) (M6 (aa rfl) n2) Kn he2) eO) he2) ⟨S2,_,by rw[l2];simp,λi hi hq=>?_,Kf,⟨rs,rfl,λr=>?_,nd,hrl⟩,λ_=>mW _,(λk e=>by cases e),rfl⟩
  ·rw[k2 i hq,Ws hi]
  simp_all
 ·rintro y zs r S' ⟨pre0,hp0⟩ ⟨pre,rs,v3,v4,hp,rfl,G2,nr,rfl⟩;have rl:=nr.2.1;have hy:y∈ys:=by rw[←hp];simp
  have K':=K.push [SO.lst (rs.map aG)];obtain⟨g,eg,hg,hg2⟩:=G1 y hy;have ZP:=Nk (k:=k) (key:=y) (tk:=rq tg cp (y % sz b)) K' hR (λh hh=>(hsub h).mp hh) hl eg;have hll:=(hlen y g).1;have hpl:pre.length<=24:=by have:=Xk fR hp;simp at this;lia
  simp only[bS];refine aC (d:= .tup (aq (rq tg cp (y % sz b)))) (S1:=S++ [SO.lst (rs.map aG)]) (aM (ak (aa rfl) (ak (aa rfl) (ak (zf K' (aa rfl)) au))) (iI (k:=k+2) P1 (Wa htl (by decide)) (W4 (by decide) hcp))) rfl ?_;simp only[bS];refine bY (d:= .non) (S1:=S++ [SO.lst ((rs++A2 W y g (rq tg cp (y % sz b)) hs).map aG)]) ?_ (aJ ⟨pre++ [y],rs++A2 W y g (rq tg cp (y % sz b)) hs,_,_,by rw[←hp];simp,rfl,λr=>?_,?_,rfl⟩)
  ·refine jQ (S1:=S++ [SO.lst (rs.map aG)]) (S2:=S++ [SO.lst (rs.map aG)]) (n:=S.length) (ls:=rs.map aG) (ds:=[.lst ((A2 W y g (rq tg cp (y % sz b)) hs).map aG)]) (aa rfl) (nL _ _) (ak (aM (ak (gF K' (aa rfl)) (ak (fZ K' (aa rfl)) (ak (aa rfl) (ak (aa rfl) au)))) ZP) au) ?_;have hz:(rs.map aG).length+((A2 W y g (rq tg cp (y % sz b)) hs).map aG).length<=sizeLine:=by simp only[Wb,aS];lia
   simp only[iu,EU,nA,dg,nL,if_pos hz,bA,j4,ZG]
  ·simp_all
  ·rw[WK,Yc];refine nr.add (tQ (bV hR.up)) (R7 hR.up) (hlen y g) (λr=>Gb) λr hr=>?_;obtain⟨y',hy',hr⟩:=(G2 r).mp hr;have e:=Gb hr;rw[e.1];rw[←hp]at EZ;exact⟨(Yw.mp EZ).2.2 y' hy' y (by simp),e.2⟩
end
section
variable{k:Nat}{S:bq}{p pk:Nat}{b cp:Int}{hs tg:List Int}{q:Int->Nat}{ks:List Int}{W:Int->Int->Option Int}{al:List Int}{lst:Int->Option Int}
def R8(hf:fns[f]?=af fs)(ha:as.length=fs.np)(h:RV.Runs (ao fns k) fs.body (as.map af++br (fs.nn - as.length) ah) S λo=>o=af (.ret d S')\/(d= .non/\∃r,o=af (.next r S')))(hl:S.length<=S'.length)(c:r6 S.length d)(hd:∀k,d≠ .ref k)(K:yY al S pk ks0 q0 W0)(K':yY al S' pk ks q W):
  ∃DO,S.length<=DO.length/\(∀i,i<S.length->DO[i]?=S'[i]?)/\yY al DO pk ks q W/\ao fns (k+1) f as S=af (.ok d DO):=by
 have E9:=cL K.kp;by_cases hnew:∃h∈ks,S.length<=q h
 ·obtain⟨x,hx,hq⟩:=hnew;have hm:((Sum.inl x:L2.Key),D.ref (q x))∈xw ks q:=Wn.mpr ⟨x,hx,rfl⟩;have ht:(S'.take S.length)[pk]?=af (.dct (xw ks q)):=by rw[X3 E9];exact K'.kp
  refine⟨S',hl,λ_ _=>rfl,K',?_⟩;rw[ao,hf];unfold RV.Runs at h;have e:gh S (dS (ao fns k) fs.body (as.map af++br (fs.nn - as.length) ah) S)=trim S d S':=by rcases h with h|⟨rfl,r,h⟩<;>rw[h]<;>rfl
  simp only[if_pos ha,e];unfold trim;rw[if_neg,if_neg]
  ·simp
  ·intro z;have:=z.1 _ (Xb ht) _ hm;exact absurd (show q x<S.length from this) (Nat.not_lt.mpr hq)
  ·intro z;rw[z.1,K.kp]at ht;have ht:=SO.dct.inj (Wd ht);rw[←ht]at hm;obtain⟨h0,ZQ,e0⟩:=Wn.mp hm;have:q0 h0=q x:=D.ref.inj (Prod.mk.inj e0).2;obtain⟨N,n1,_⟩:=K.nt h0 ZQ;have:=cL n1;lia
 ·obtain⟨S2,l2,k2,c2⟩:=pO hf ha h hl c hd;refine⟨S2,l2,k2,K'.to λi hi=>k2 i ?_,c2⟩;rcases hi with rfl|⟨h,hh,rfl⟩
  ·exact E9
  simp_all
def call_K{b0 ZR:Int}(hf:fns[f]?=af fs)(ha:as.length=fs.np)(h:RV.Runs (ao fns k) fs.body (as.map af++br (fs.nn - as.length) ah) S λo=>o=af (.ret d S')\/(d= .non/\∃r,o=af (.next r S')))(hl:S.length<=S'.length)(c:r6 S.length d)(hd:∀k,d≠ .ref k)(K:se al S p pk b0 hs0 ZR ks0 q0 W0)(K':se al S' p pk b hs cp ks q W):
  ∃DO,S.length<=DO.length/\(∀i,i<S.length->DO[i]?=S'[i]?)/\se al DO p pk b hs cp ks q W/\ao fns (k+1) f as S=af (.ok d DO):=by
 obtain⟨S2,l2,k2,B2,c2⟩:=R8 hf ha h hl c hd K.B K'.B;exact⟨S2,l2,k2,⟨(k2 p (cL K.ob)).trans K'.ob,B2⟩,c2⟩
def Gd(h:∀x∈ks,q x=q' x):xw ks q=xw ks q':=rS λx hx=>by rw[h x hx]
def yY.add(B:yY al S pk ks q W)(hx:x∉ks)(hl:ks.length<14)(hN:DI N (W x))(hb:∀y,(W x y).isSome=ai->y∈al):
  yY al ((S++ [SO.dct N]).set pk (.dct (putD (xw ks q) (.inl x) (.ref S.length)))) pk (ks++ [x]) (λh=>if h=x then S.length else q h) W:=by
 obtain⟨q2,eq2⟩:∃q2:Int->Nat,q2=λh=>if h=x then S.length else q h:=⟨_,rfl⟩
 have MD:q2 x=S.length:=by rw[eq2];simp
 have IL:∀h∈ks,q2 h=q h:=λh hh=>by lia
 have B1:=B.push [SO.dct N];have E9:=cL B.kp;have lq:∀h∈ks,q h<S.length:=λh hh=>by obtain⟨N,n1,_⟩:=B.nt h hh;exact cL n1
 have hnd2:(ks++ [x]).Nodup:=Xu.mpr ⟨B.nk,by simp,λa ha c hc=>by
  grind⟩
 have two:∀h∈ks++ [x],h∈ks\/h=x:=λh hh=>(Xa.mp hh).imp id XM.mp;rw[←eq2,Gd (q':=q2) λh hh=>(IL h hh).symm,←MD,yZ hx];refine⟨bZ B1.kp,λh hh=>?_,λh hh h' hh' e=>?_,λh hh=>?_,hnd2,by rw[WK,Yc];exact hl,λh hh=>?_,B.la⟩
 ·rcases two h hh with z|rfl
  ·obtain⟨N,n1,n2⟩:=B1.nt h z;rw[IL h z];exact⟨N,RV.fj n1 (Ne.symm (B.dq h z)),n2⟩
  ·rw[MD];exact⟨N,RV.fj (nL _ _) (Wo E9),hN⟩
 ·rcases two h hh with z|rfl<;>rcases two h' hh' with z'|rfl
  ·rw[IL h z,IL h' z']at e;exact B.inj h z h' z' e
  ·rw[IL h z,MD]at e;have:=lq h z;lia
  ·rw[IL h' z',MD]at e;have:=lq h' z';lia
  ·rfl
 ·rcases two h hh with z|rfl
  ·rw[IL h z];exact B.dq h z
  ·rw[MD];exact Xn E9
 ·rcases two h hh with z|rfl
  ·exact B.bd h z
  ·exact hb
def V5(B:yY al S pk ks q W){x:Int}(hW:x∉ks->W x=λ_=>ah)(hl:x∉ks->ks.length<14){cl:Cl}{r:az}{a e:E}(ha:aj cl a r S=af (.ok (.ref pk) S))(he:aj cl e r S=af (.ok (.int x) S)):
  ∃S' ks' q' d,S.length<=S'.length/\(∀i,i<S.length->i≠pk->S'[i]?=S[i]?)/\(∀h,h∈ks' ↔ h∈ks\/h=x)/\(∀h∈ks',(h∈ks/\q' h=q h)\/S.length<=q' h)/\yY al S' pk ks' q' W/\aj cl (E.F0 a [e,E.dct]) r S=af (.ok d S'):=by
 have B1:=B.push [SO.dct []];have hkl:=B.lk;have hargs:aF cl [e,E.dct] r S=af (.ok [.int x,.ref S.length] (S++ [SO.dct []])):=ak he (ak mH au);by_cases hx:x∈ks
 ·refine⟨_,ks,q,_,?_,λi hi _=>Ws hi,λh=>⟨.inl,λz=>z.elim id λw=>w▸hx⟩,λh hh=> .inl ⟨hh,rfl⟩,B1,Fz (d:= .ref (q x)) ha B.kp hargs (by simp only[lR,B1.kp,dG,jX hx,bA])⟩;simp
 ·have hz:(xw ks q).length<sizeLine:=by simp only[xw,Wb,aS];exact Wv hkl (by decide)
  refine⟨_,ks++ [x],_,_,?_,λi hi i2=>?_,λh=>?_,λh hh=>?_,B.add (N:=[]) hx (hl hx) (by rw[hW hx];exact DI.nil) (λy z=>by simp_all),Fz (d:= .ref S.length) ha B.kp hargs (by simp only[lR,B1.kp,dG,Jg hx,if_pos hz,bA])⟩
  ·simp
  ·rw[Wy (Ne.symm i2),Ws hi]
  ·simp
  grind
def Jp{am:List Int}(K:se al S p pk b hs cp ks q W)(hal:am.length<=14)(hk:∀h∈ks,h∈am)(ht:∀h∈tg,h∈am):
  ∃S' ks' q',S.length<=S'.length/\(∀i,i<S.length->i≠p->i≠pk->S'[i]?=S[i]?)/\(∀h,h∈ks' ↔ h∈ks\/h∈tg)/\(∀h∈ks',(h∈ks/\q' h=q h)\/S.length<=q' h)/\se al S' p pk b (sortI ks') cp ks' q' (λh=>if h∈ks then W h else λ_=>ah)/\ao fns (k+1) 21 [.ref p,aD b tg] S=af (.ok .non S'):=by
 have hlt:=K.lt;have ME:p≠pk:=jY K.ob K.kp (λz=>by cases z)
 suffices hw:RV.Runs (ao fns k) Nl [af (.ref p),af (aD b tg),ah] S λo=>∃S' ks' q',S.length<=S'.length/\(∀i,i<S.length->i≠p->i≠pk->S'[i]?=S[i]?)/\(∀h,h∈ks' ↔ h∈ks\/h∈tg)/\(∀h∈ks',(h∈ks/\q' h=q h)\/S.length<=q' h)/\se al S' p pk b (sortI ks') cp ks' q' (λh=>if h∈ks then W h else λ_=>ah)/\∃r,o=af (.next r S') by unfold RV.Runs at hw;obtain⟨S',ks',q',h1,h2,h3,h4,h5,r,e⟩:=hw;obtain⟨S2,l2,k2,K2,c2⟩:=call_K (k:=k) (f:=21) (as:=[.ref p,aD b tg]) (fs:=⟨2,3,Nl⟩) (S:=S) (S':=S') (d:= .non) rfl rfl (by unfold RV.Runs;exact .inr ⟨rfl,r,e⟩) h1 trivial (λk e=>by cases e) K h5;exact⟨S2,ks',q',l2,λi hi i1 i2=>(k2 i hi).trans (h2 i hi i1 i2),h3,h4,K2,c2⟩
 unfold Nl;refine bF (α:=Int) D.int (xs:=tg) (S1:=S) (cz (aW (aa rfl) aB bK CB))
  (λys r S'=>∃pre ks' q' v2,pre++ys=tg/\S.length<=S'.length/\(∀i,i<S.length->i≠p->i≠pk->S'[i]?=S[i]?)/\(∀h,h∈ks' ↔ h∈ks\/h∈pre)/\(∀h∈ks',(h∈ks/\q' h=q h)\/S.length<=q' h)/\se al S' p pk b hs cp ks' q' (λh=>if h∈ks then W h else λ_=>ah)/\r=[af (.ref p),af (aD b tg),v2])
  ⟨[],ks,q,ah,rfl,Wc _,λ_ _ _ _=>rfl,λh=>by simp,λh hh=> .inl ⟨hh,rfl⟩,K.as λh hh=>by rw[if_pos hh],rfl⟩ ?_ ?_
 ·rintro r S' ⟨pre,ks',q',v2,hp,hl,hsm,hm,hq,KS,rfl⟩;rw[Wm]at hp;subst hp;have hkl:=KS.lk;have hsl:(sortI ks').length<=14:=by rw[(RV.sortI_perm _).length_eq];exact hkl
  have hz:(aq (sortI ks')).length<=sizeLine:=by simp only[Wb,aS];exact Wa hsl (by decide)
  have ds:(xw ks' q').map (λp=>tN p.1)=aq ks':=wK;refine iD (d:=aD b (sortI ks')) (cu (ak (aW (aa rfl) aB bK BD) (ak (dM (fP (x:= .lst (aq (sortI ks'))) (fX (ds:=aq ks') (by rw[←ds];exact rJ (fZ KS (aa rfl)) KS.kp) (eQ (Wv hkl (by decide))) hz) rfl) hz) au)) (by simp[aS])) (aa rfl) KS.ob (by simp) ?_;refine aJ ⟨_,ks',q',by simp_all,λi hi i1 i2=>?_,hm,hq,⟨bZ KS.ob,KS.B.to λi hi=>Wy ?_⟩,_,rfl⟩
  ·rw[Wy (Ne.symm i1)];exact hsm i hi i1 i2
  ·rcases hi with rfl|⟨h,hh,rfl⟩
   ·exact ME
   ·obtain⟨N,n1,_⟩:=KS.nt h hh;exact jY KS.ob n1 (λz=>by cases z)
 rintro x ys r S' _ ⟨pre,ks',q',v2,hp,hl,hsm,hm,hq,KS,rfl⟩;simp only[bS];have hxk:x∉ks'->x∉ks:=λhx z=>hx ((hm x).mpr (.inl z));obtain⟨S2,P6,q2,d,l2,k2,m2,hq2,B2,c2⟩:=V5 (x:=x) KS.B (λhx=>by lia) (λhx=>by
  have hnd2:(x::ks').Nodup:=Xo.mpr ⟨hx,KS.nk⟩;have:=RV.bW _ am hnd2 λh hh=>by grind
  simp only[Wl]at this;lia) (cl:=ao fns k) (r:=[af (.ref p),af (aD b tg),af (.int x)]) (a:=E.fld bL lC (E.var 0)) (e:=E.var 2) (fZ KS (aa rfl)) (aa rfl)
 refine bY c2 (aJ ⟨pre++ [x],P6,q2,_,by rw[←hp];simp,Wa hl l2,λi hi i1 i2=>(k2 i (Wa hi hl) i2).trans (hsm i hi i1 i2),λh=>?_,λh hh=>?_,⟨(k2 p (cL KS.ob) ME).trans KS.ob,B2⟩,rfl⟩)
 ·rw[m2,hm,Xa,XM,or_assoc]
 ·rcases hq2 h hh with⟨z1,z2⟩|z
  ·rw[z2];exact hq h z1
  ·exact .inr (Wa hl z)
def UT(B:yY al S pk ks q W){x:Int}(hx:x∈ks){cl:Cl}{r:az}{a e:E}(ha:aj cl a r S=af (.ok (.ref pk) S))(he:aj cl e r S=af (.ok (.int x) S)):
  yY al (S.set pk (.dct (xw (ks.filter λh=>decide (h≠x)) q))) pk (ks.filter λh=>decide (h≠x)) q W/\aj cl (E.meth (Mt.mT) a [e]) r S=af (.ok (.ref (q x)) (S.set pk (.dct (xw (ks.filter λh=>decide (h≠x)) q)))):=by
 have ek:((xw ks q).filter λkv=>decide (kv.1≠ .inl x))=xw (ks.filter λh=>decide (h≠x)) q:=by unfold xw;rw[w9];congr 1;refine nI λh _=>?_;simp
 have hs1:∀h,h∈(ks.filter λh=>decide (h≠x))->h∈ks:=λh hh=>(Wz.mp hh).1;refine⟨⟨bZ B.kp,λh hh=>?_,λh hh h' hh'=>B.inj h (hs1 h hh) h' (hs1 h' hh'),λh hh=>B.dq h (hs1 h hh),B.nk.filter _,Wa (Xe ..) B.lk,λh hh=>B.bd h (hs1 h hh),B.la⟩,yR ha B.kp (ak he au) (by simp only[jn,B.kp,jX hx,bA,ek])⟩;obtain⟨N,n1,n2⟩:=B.nt h (hs1 h hh);exact⟨N,RV.fj n1 (Ne.symm (B.dq h (hs1 h hh))),n2⟩
def Nq(K:se al S p pk b hs cp ks q W)(hsub:∀h,h∈hs ↔ h∈ks)(hnd:hs.Nodup):
  ∃S',S'.length=S.length/\(∀i,i≠p->i≠pk->S'[i]?=S[i]?)/\se al S' p pk b tg cp (ks.filter λh=>decide (h∈tg)) q W/\ao fns (k+1) 22 [.ref p,aD b tg] S=af (.ok .non S'):=by
 have ME:p≠pk:=jY K.ob K.kp (λz=>by cases z)
 suffices hw:RV.Runs (ao fns k) Nn [af (.ref p),af (aD b tg),ah] S λo=>∃S',S'.length=S.length/\(∀i,i≠p->i≠pk->S'[i]?=S[i]?)/\se al S' p pk b tg cp (ks.filter λh=>decide (h∈tg)) q W/\∃r,o=af (.next r S') by unfold RV.Runs at hw;obtain⟨S',h1,h2,h3,r,e⟩:=hw;exact⟨S',h1,h2,h3,mR (fs:=⟨2,3,Nn⟩) rfl rfl (by unfold RV.Runs;exact⟨r,e⟩) h1⟩
 unfold Nn;refine bF (α:=Int) D.int (xs:=hs) (S1:=S) (cz (aW (gF K (aa rfl)) aB bK CB))
  (λys r S'=>∃pre v2,pre++ys=hs/\S'.length=S.length/\(∀i,i≠p->i≠pk->S'[i]?=S[i]?)/\se al S' p pk b hs cp (ks.filter λh=>decide (h∉pre\/h∈tg)) q W/\r=[af (.ref p),af (aD b tg),v2])
  ⟨[],ah,rfl,rfl,λ_ _ _=>rfl,by rw[List.filter_eq_self.mpr (λh _=>by simp)];exact K,rfl⟩ ?_ ?_
 ·rintro r S' ⟨pre,v2,hp,hl,hsm,KS,rfl⟩;rw[Wm]at hp;subst hp;have ef:(ks.filter λh=>decide (h∉pre\/h∈tg))=ks.filter λh=>decide (h∈tg):=nI λh hh=>by
   simp_all
  rw[ef]at KS;refine iD (d:=aD b tg) (aa rfl) (aa rfl) KS.ob (by simp) (aJ ⟨_,by simp_all,λi i1 i2=>by rw[Wy (Ne.symm i1)];exact hsm i i1 i2,⟨bZ KS.ob,KS.B.to λi hi=>Wy ?_⟩,_,rfl⟩);rcases hi with rfl|⟨h,hh,rfl⟩
  ·exact ME
  ·obtain⟨N,n1,_⟩:=KS.nt h hh;exact jY KS.ob n1 (λz=>by cases z)
 rintro x ys r S' _ ⟨pre,v2,hp,hl,hsm,KS,rfl⟩;have hxp:x∉pre:=by rw[←hp]at hnd;exact λz=>(Xu.mp hnd).2.2 x z x (by simp) rfl
 simp only[bS];refine fD (t:=!decide (x∈tg)) (S1:=S') (aZ (x:= .bl _) (aR (aa rfl) (aW (aa rfl) aB bK CB) (lz ik)) bD) (λe=>?_) (λe=>?_)
 ·have e:x∉tg:=by simpa using e
  have hx:x∈ks.filter λh=>decide (h∉pre\/h∈tg):=Wz.mpr ⟨(hsub x).mp (by grind),by simp[hxp]⟩;have ef:(ks.filter λh=>decide (h∉pre\/h∈tg)).filter (λh=>decide (h≠x))=ks.filter λh=>decide (h∉pre++ [x]\/h∈tg):=by
   rw[List.filter_filter];refine nI λh _=>?_;by_cases z:h=x
   ·grind
   ·simp[z]
  obtain⟨B2,c2⟩:=UT (cl:=ao fns k) (r:=[af (.ref p),af (aD b tg),af (.int x)]) (a:=E.fld bL lC (E.var 0)) (e:=E.var 2) KS.B hx (fZ KS (aa rfl)) (aa rfl);rw[ef]at B2 c2;simp only[Wr,Wj];exact bY c2 (aJ ⟨pre++ [x],_,by rw[←hp];simp,by grind,λi i1 i2=>by rw[Wy (Ne.symm i2)];exact hsm i i1 i2,⟨RV.fj KS.ob (Ne.symm ME),B2⟩,rfl⟩)
 ·have e:x∈tg:=by simpa using e
  refine aJ ⟨pre++ [x],_,by rw[←hp];simp,hl,hsm,?_,rfl⟩
  grind
end
section
variable{k:Nat}{S S':bq}{p pk:Nat}{b cp v x:Int}{hs tg A xs:List Int}{q:Int->Nat}{ks:List Int}{u:Int->Option Int}{al:List Int}{rs:List (List Int)}
abbrev fV(hs:List Int)(cp b:Int)(lst:Int->Option Int):Int->Int->Option Int:=λh y=>if h∈rq hs cp (y % sz b)then lst y else ah
def R9:fV hs cp b u h y=ah\/fV hs cp b u h y=u y:=by lia
def lD(hy:(u y).isSome=ai):(fV hs cp b u h y).isSome=decide (h∈rq hs cp (y % sz b)):=by grind
def j5(hh:h∈rq hs cp x):h∈hs:=(fU _ _).mem_iff.mp (List.mem_of_mem_take hh)
def wM(hn:hs.Nodup):(rq hs cp x).Nodup:=((fU _ _).nodup_iff.mpr hn).sublist (nv ..)
def Ge(hne:hs≠ [])(hc:1<=cp)(x:Int):∃g,g∈rq hs cp x:=by
 have:=M7 hne x;cases e:cN hs x with|nil=>lia|cons a r=>refine⟨a,?_⟩;unfold rq;rw[e,show cp.toNat=(cp.toNat - 1)+1 by lia,List.take_succ_cons];simp
def il(hc:cp<=6):(rq hs cp x).length<=6:=by unfold rq;rw[YG];lia
theorem zq{α:Type}(f:α->Bool):∀P:List α,P.length=(P.filter f).length+(P.filter λr=>!f r).length
 |[]=>rfl|r::P=>by have:=zq f P;cases h:f r<;>simp[h]<;>lia
def Nt(nd:A.Nodup)(hc:cp<=6)(y g:Int):NL (A2 (fV hs cp b u) y g (rq tg cp (y % sz b)) A):=by
 have ln:=tQ (W:=fV hs cp b u) (g:=g) (y:=y) (tk:=rq tg cp (y % sz b)) nd;have h1:=RV.bW _ ((rq tg cp (y % sz b)).map λh=> [y,1,g,h]) (ln.filter pe) λr hr=>by
  obtain⟨hr,z⟩:=Wz.mp hr;obtain⟨h,hh,⟨_,_,e⟩|⟨_,z2,e⟩⟩:=cV.mp hr
  ·rw[e]at z;cases z
  ·exact Wn.mpr ⟨h,z2,e.symm⟩
 have h2:=RV.bW _ ((rq hs cp (y % sz b)).map λh=> [y,0,h]) (ln.filter λr=>!pe r) λr hr=>by
  obtain⟨hr,z⟩:=Wz.mp hr;obtain⟨h,hh,⟨z1,_,e⟩|⟨_,z2,e⟩⟩:=cV.mp hr
  ·exact Wn.mpr ⟨h,by grind,e.symm⟩
  ·rw[e]at z;cases z
 have a:=il (hs:=tg) (x:=y % sz b) hc;have c:=il (hs:=hs) (x:=y % sz b) hc;have e:=zq pe (A2 (fV hs cp b u) y g (rq tg cp (y % sz b)) A);rw[Wb]at h1 h2;exact⟨by lia,Wa h1 a,Wa h2 c⟩
def TH(S S':bq)(p pk:Nat)(ks:List Int)(q:Int->Nat)(ks':List Int)(q':Int->Nat):Prop:=
 S.length<=S'.length/\(∀i,i<S.length->i≠p->i≠pk->(∀h∈ks,q h≠i)->S'[i]?=S[i]?)/\∀h∈ks',(h∈ks/\q' h=q h)\/S.length<=q' h
theorem wN{α:Type}{R:α->α->Prop}(as:∀a c,R a c->¬R c a):∀{a c:List α},a.Pairwise R->c.Pairwise R->(∀x,x∈a ↔ x∈c)->a=c
 |[],[],_,_,_=>rfl|[],y::c,_,_,h=>absurd ((h y).mpr (by simp)) (by simp)|x::a,[],_,_,h=>absurd ((h x).mp (by simp)) (by simp)|x::a,y::c,ha,hc,h=>by
  have ha':=WQ.mp ha;have hc':=WQ.mp hc;have e:x=y:=by
   rcases We.mp ((h x).mp (by simp))with z|z
   ·exact z
   ·rcases We.mp ((h y).mpr (by simp))with w|w
    ·exact w.symm
    ·exact absurd (ha'.1 y w) (as _ _ (hc'.1 x z))
  subst e;have Ø:∀z,¬R z z:=λz w=>as z z w w;rw[wN as ha'.2 hc'.2 λz=>?_]
  grind
def wO{a c:List Int}:a.Pairwise (·<·)->c.Pairwise (·<·)->(∀x,x∈a ↔ x∈c)->a=c:=wN λa c h=>by lia
structure A5(al:List Int)(S:bq)(p pk:Nat)(b cp:Int)(hs ks:List Int)(q:Int->Nat)(u:Int->Option Int):Prop where
 K:se al S p pk b hs cp ks q (fV hs cp b u)
 pm:∀h,h∈hs ↔ h∈ks
 R:AH b hs
 D5:hs.length<=14
 c1:1<=cp/\cp<=6
 la:al.length<=10
def Nu:r6 n (.tup ((RK.aQ rs).map aG)):=mW _
def F3(al:List Int)(S S':bq)(p pk:Nat)(b cp:Int)(hs tg A ks:List Int)(q:Int->Nat)(u:Int->Option Int)(rs:List (List Int)):Prop:=
 ∃ks' q',TH S S' p pk ks q ks' q'/\A5 al S' p pk b cp tg ks' q' u/\pP (fV hs cp b u) u b cp A tg rs
def call_M(J:A5 al S p pk b cp hs ks q u)(hf:fns[f]?=af fs)(ha:as.length=fs.np)(h:RV.Runs (ao fns k) fs.body (as.map af++br (fs.nn - as.length) ah) S λo=>o=af (.ret (.tup ((RK.aQ rs).map aG)) S'))(M:F3 al S S' p pk b cp hs tg A ks q u rs):
  ∃S',F3 al S S' p pk b cp hs tg A ks q u rs/\ao fns (k+1) f as S=af (.ok (.tup ((RK.aQ rs).map aG)) S'):=by
 obtain⟨EN,q1,⟨l1,f1,f2⟩,J1,hP⟩:=M;obtain⟨S2,l2,k2,K2,c3⟩:=call_K (k:=k) (f:=f) (as:=as) (fs:=fs) (S:=S) (S':=S') (d:= .tup ((RK.aQ rs).map aG)) hf ha (by unfold RV.Runs at h ⊢;exact .inl h) l1 Nu (λk e=>by cases e) J.K J1.K;exact⟨S2,⟨EN,q1,⟨l2,λi hi i1 i2 i3=>(k2 i hi).trans (f1 i hi i1 i2 i3),f2⟩,⟨K2,J1.pm,J1.R,J1.D5,J1.c1,J1.la⟩,hP⟩,c3⟩
def wQ(J:A5 al S p pk b cp hs ks q u)(IM:∀h,h∈A ↔ h∈hs\/h∈tg)(RA:AH b A)(lA:A.length<=14)(Rt:AH b tg):
  ∃S' rs,F3 al S S' p pk b cp hs tg A ks q u rs/\ao fns (k+8) 20 [.ref p,aD b tg] S=af (.ok (.tup ((RK.aQ rs).map aG)) S'):=by
 have K:=J.K;have pm:=J.pm;have hlt:=K.lt;have NO:tg.length<=14:=Wa (RV.bW tg A (bV Rt.up) λh hh=>(IM h).mpr (.inr hh)) lA;obtain⟨S1,EN,q1,l1,k1,m1,hq1,K1,c1⟩:=Jp (k:=k+6) (tg:=tg) K lA (λh hh=>(IM h).mpr (.inl ((pm h).mpr hh))) (λh hh=>(IM h).mpr (.inr hh));have hA:∀h,h∈A ↔ h∈EN:=λh=>by rw[IM,m1,pm]
 have eA:sortI EN=A:=wO (fQ K1.nk) RA.up λh=>(RV.sortI_perm _).mem_iff.trans (hA h).symm;rw[eA]at K1;have TL:se al S1 p pk b A cp EN q1 (fV hs cp b u):=K1.as λh hh=>by
  by_cases z:h∈ks
  ·rw[if_pos z]
  ·rw[if_neg z];funext y;exact(if_neg λw=>z ((pm h).mp (j5 w))).symm
 obtain⟨S2,d,l2,k2,K2,⟨rs,rfl,hP⟩,cd,nd,c2⟩:=Np (k:=k) (tg:=tg) (u:=u) TL RA Rt hA lA NO J.c1.1 (λh _ y=>R9) (λy hy=>by
  obtain⟨g,hg⟩:=Ge J.R.ne J.c1.1 (y % sz b);exact⟨g,(IM g).mpr (.inl (j5 hg)),by rw[lD hy];exact Xz hg⟩) J.la (Nt (bV RA.up) J.c1.2)
 obtain⟨S3,l3,k3,K3,c3⟩:=Nq (k:=k+6) (tg:=tg) K2 hA (bV RA.up);have hm:∀h,h∈tg ↔ h∈(EN.filter λh=>decide (h∈tg)):=λh=>by simp_all
 have F:TH S S3 p pk ks q (EN.filter λh=>decide (h∈tg)) q1:=⟨by lia,λi hi i1 i2 i3=>by
  rw[k3 i i1 i2,k2 i (by exact Wa hi l1) λh hh=>?_,k1 i hi i1 i2];rcases hq1 h hh with⟨z1,z2⟩|z
  ·rw[z2];exact i3 h z1
  ·lia,λh hh=>hq1 h (Wz.mp hh).1⟩
 obtain⟨S4,M,c4⟩:=call_M (k:=k+7) (f:=20) (as:=[.ref p,aD b tg]) (fs:=⟨2,3,PF⟩) (S':=S3) (rs:=rs) (tg:=tg) (A:=A) J rfl rfl (by
  unfold PF;simp only[Wh,WW,Wl,WN,br,Wr,Wj,Wm,dP,dQ,WL,Xi];refine bY (bG (aa rfl) K.ob rfl (ak (aa rfl) au) c1) ?_;refine aC (bG (aa rfl) TL.ob rfl (ak (aa rfl) au) c2) rfl ?_;simp only[bS];refine bY (bG (aa rfl) K2.ob rfl (ak (aa rfl) au) c3) ?_;exact aL (aa rfl) rfl) ⟨_,q1,F,⟨K3,hm,Rt,NO,J.c1,J.la⟩,hP⟩
 exact⟨S4,rs,M,c4⟩
def Sd(J:A5 al S p pk b cp hs ks q u)(hl:hs.length<14)(hx:0<=x/\x<sz b)(hn:x∉hs):
  ∃S' rs,F3 al S S' p pk b cp hs (with1 hs x) (with1 hs x) ks q u rs/\ao fns (k+9) 18 [.ref p,.int x] S=af (.ok (.tup ((RK.aQ rs).map aG)) S'):=by
 have hR:=Fe J.R hx hn;obtain⟨S1,rs,M,c2⟩:=wQ (k:=k) (tg:=with1 hs x) (A:=with1 hs x) J (λh=>by rw[zv];simp_all) hR (by rw[(iQ hs x).length_eq,Wl];exact hl) hR;obtain⟨S2,M,c⟩:=call_M (k:=k+8) (f:=18) (as:=[.ref p,.int x]) (fs:=⟨2,2,PC⟩) J rfl rfl (by
  unfold PC;simp only[Wh,WW,Wl,WN,br,Wr,Wj,Wm,dP,dQ,WL,Xi];exact aL (bG (aa rfl) J.K.ob rfl (ak (aM (ak (gF J.K (aa rfl)) (ak (aa rfl) au)) (RZ (k:=k+4) J.R hx hn (Wa hl (by decide)))) au) c2) rfl) M
 exact⟨S2,rs,M,c⟩
def V6(J:A5 al S p pk b cp hs ks q u)(hx:x∈hs)(h1:1<hs.length):
  ∃S' rs,F3 al S S' p pk b cp hs (eU hs x) hs ks q u rs/\ao fns (k+9) 19 [.ref p,.int x] S=af (.ok (.tup ((RK.aQ rs).map aG)) S'):=by
 have h14:=J.D5;obtain⟨S1,rs,M,c2⟩:=wQ (k:=k) (tg:=eU hs x) (A:=hs) J (λh=>⟨.inl,λz=>z.elim id λw=>(Wz.mp w).1⟩) J.R h14 (Ff (x:=x) J.R (IV J.R h1));obtain⟨S2,M,c⟩:=call_M (k:=k+8) (f:=19) (as:=[.ref p,.int x]) (fs:=⟨2,2,PD⟩) J rfl rfl (by
  unfold PD;simp only[Wh,WW,Wl,WN,br,Wr,Wj,Wm,dP,dQ,WL,Xi];exact aL (bG (aa rfl) J.K.ob rfl (ak (aM (ak (gF J.K (aa rfl)) (ak (aa rfl) au)) (R0 (k:=k+7) hx h1 (Wv h14 (by decide)))) au) c2) rfl) M
 exact⟨S2,rs,M,c⟩
def ir(K:se al S p pk b hs cp ks q W):ao fns (k+1) 13 [.ref p] S=af (.ok (aD b hs) S):=by refine call_of (fs:=⟨1,1,Pf⟩) (S':=S) rfl rfl ?_ (by simp) ⟨trivial,cH _,trivial⟩;unfold Pf;simp only[Wh,WW,Wl,WN,br,Wr,Wj,Wm,dP,dQ,WL,Xi];exact aL (gF K (aa rfl)) rfl
def Jq(J:A5 al S p pk b cp hs ks q u)(IM:∀h,h∈A ↔ h∈hs\/h∈tg)(RA:AH b A)(lA:A.length<=14)(Rt:AH b tg):
  ∃S' rs,F3 al S S' p pk b cp hs tg A ks q u rs/\ao fns (k+9) 24 [.ref p,.tup (aq tg)] S=af (.ok (.tup ((RK.aQ rs).map aG)) S'):=by
 obtain⟨S1,rs,M,c2⟩:=wQ (k:=k) J IM RA lA Rt;obtain⟨S2,M,c⟩:=call_M (k:=k+8) (f:=24) (as:=[.ref p,.tup (aq tg)]) (fs:=⟨2,4,KU⟩) J rfl rfl (by
  unfold KU;simp only[Wh,WW,Wl,WN,br,Wr,Wj,Wm,dP,dQ,WL,Xi];refine aC (bG (aa rfl) J.K.ob rfl au (ir (k:=k+7) J.K)) rfl ?_;simp only[bS];refine bF (α:=Int) D.int (xs:=tg) (S1:=S) (cz (aa rfl)) (λys r S'=>S'=S/\(∀h∈ys,0<=h/\h<sz b)/\∃v,r=[af (.ref p),af (.tup (aq tg)),af (aD b hs),v]) ⟨rfl,Rt.AR,ah,rfl⟩ ?_ ?_
  ·rintro r S' ⟨rfl,_,v,rfl⟩;exact aL (bG (aa rfl) J.K.ob rfl (ak (cu (ak (aW (aa rfl) aB bK BD) (ak (aa rfl) au)) (by simp[aS])) au) c2) rfl
  rintro x ys r S' _ ⟨rfl,h,v,rfl⟩;exact bY (aM (ak (aa rfl) (ak (aa rfl) au)) (wI (k:=k+5) J.R.b2 J.R.b7 (h x (by simp)))) (aJ ⟨rfl,λh' hh=>h h' (by simp[hh]),_,rfl⟩)) M
 exact⟨S2,rs,M,c⟩
def Nv(g2:2<=b)(g7:b<=7)(h0:¬(0<=spot/\spot<sz b))(hsm:spot.natAbs<2^1000):ao fns (k+3) 4 [aD b hs,.int spot] S=af (.exc qN S):=
 call_exc (fs:=⟨2,2,b4⟩) rfl rfl (Fo (rP (W4 (by decide) g2) (W4 g7 (by decide))) h0 hsm)
def Gf(J:A5 al S p pk b cp hs ks q u)(hbad:∃h∈xs,¬(0<=h/\h<sz b))(hsm:∀h∈xs,h.natAbs<2^1000):ao fns (k+10) 32 [.ref p,.tup (aq xs)] S=af (.ok (.bl ai) S):=by
 have hX:ao fns (k+9) 24 [.ref p,.tup (aq xs)] S=af (.exc qN S):=by
  refine call_exc (fs:=⟨2,4,KU⟩) rfl rfl ?_;unfold KU;simp only[Wh,WW,Wl,WN,br,Wr,Wj,Wm,dP,dQ,WL,Xi];refine aC (bG (aa rfl) J.K.ob rfl au (ir (k:=k+7) J.K)) rfl ?_;simp only[bS];refine bF (α:=Int) D.int (xs:=xs) (S1:=S) (cz (aa rfl)) (λys r S'=>S'=S/\(∃h∈ys,¬(0<=h/\h<sz b))/\(∀h∈ys,h.natAbs<2^1000)/\∃v,r=[af (.ref p),af (.tup (aq xs)),af (aD b hs),v]) ⟨rfl,hbad,hsm,ah,rfl⟩ ?_ ?_
  ·rintro r S' ⟨_,⟨h,hh,_⟩,_⟩;exact absurd hh (by simp)
  rintro x ys r S' _ ⟨rfl,⟨h,hh,hb⟩,hs2,v,rfl⟩;by_cases hx:0<=x/\x<sz b
  ·refine bY (aM (ak (aa rfl) (ak (aa rfl) au)) (wI (k:=k+5) J.R.b2 J.R.b7 hx)) (aJ ⟨rfl,⟨h,?_,hb⟩,λh' hh=>hs2 h' (by simp[hh]),_,rfl⟩);rcases We.mp hh with rfl|w
   ·exact absurd hx hb
   ·exact w
  ·exact vQ (vX (ak (aa rfl) (ak (aa rfl) au)) (Nv (k:=k+5) J.R.b2 J.R.b7 hx (hs2 x (by simp)))) ⟨_,_,rfl,by simp⟩
 refine call_of (fs:=⟨2,3,NH⟩) (S':=S) rfl rfl ?_ (by simp) trivial;unfold NH;simp only[Wh,WW,Wl,WN,br,Wr,Wj,Wm,dP,dQ,WL,Xi];refine aC aB rfl ?_;simp only[bS];refine En (c:=qN) (S1:=S) (r1:=[af (.ref p),af (.tup (aq xs)),af (.bl ay)]) (r2:=[af (.ref p),af (.tup (aq xs)),af (.bl ai)]) (S2:=S) (vQ (vX (ak (aa rfl) (ak (aa rfl) au)) hX) rfl) (by simp) (aC aB rfl (aJ rfl)) ?_;exact aL (aa rfl) rfl
end
section
variable{k:Nat}{S S':bq}{p pk:Nat}{b cp key v x y:Int}{hs tg:List Int}{q:Int->Nat}{ks:List Int}{W:Int->Int->Option Int}{u f:Int->Option Int}{al:List Int}{rs R:List (List Int)}{d:D}
def Gg(K:se al S p pk b hs cp ks q W)(hsub:∀h∈hs,h∈ks)(hl:hs.length<=14):ao fns (k+1) 16 [.ref p,.int key] S=af (.ok (.tup (aq (hs.filter λh=>(W h key).isSome))) S):=by
 refine call_of (fs:=⟨2,2,Pw⟩) (S':=S) rfl rfl ?_ (by simp) (cH _);unfold Pw;simp only[Wh,WW,Wl,WN,br,Wr,Wj,Wm,dP,dQ,WL,Xi];have hle:=Xe (λh=>(W h key).isSome) hs;have hz:(aq (hs.filter λh=>(W h key).isSome)).length<=sizeLine:=by simp only[Wb,aS];lia
 refine aL (S1:=S) (dM (fP (x:= .lst (aq (hs.filter λh=>(W h key).isSome))) (cU (ds:=aq hs) (S1:=S) (S2:=S) (cz (aW (gF K (aa rfl)) aB bK CB)) ?_ hz) rfl) hz) rfl;exact jy (S:=S) D.int (λh=>(W h key).isSome) (f:=λr S=>aj (ao fns k) (E.var 0) r S) (g:=λr S=>bx (ao fns k) [T.val (E.cmp (CmpOp.In) (E.var 1) (E.ix (E.fld bL lC (E.var 2)) (E.var 0)))] r S) (caps:=[af (.int key),af (.ref p)]) (xs:=hs) (o:=ah) (acc:=[])
  (λh hh=>jR (aZ (x:= .bl _) (aR (aa rfl) (iR K.B (fZ K (aa rfl)) (aa rfl) (hsub h hh)) (pN K.B (hsub h hh))) bD)) (λh _ _=>aa rfl)
abbrev mX(W:Int->Int->Option Int)(xs:List Int)(key v:Int):Int->Int->Option Int:=λh y=>if y=key/\h∈xs then af v else W h y
def Jr{cl:Cl}{cs:List C}{r:az}{Q:Option Fl->Prop}{it:RK.It}{j:Nat}{eX eK eV:E}{xs:List Int}(B:yY al S pk ks q W)(hit:bH cl it r S=af (.ok (aq xs) S))(hx:∀h∈xs,h∈ks)(hk:key∈al)(hj:j<r.length)(h1:∀S' o,(∀i,(∀h∈ks,q h≠i)->S'[i]?=S[i]?)->aj cl eX (r.set j o) S'=af (.ok (.ref pk) S'))(h2:∀S' o,aj cl eK (r.set j o) S'=af (.ok (.int key) S'))(h3:∀S' o,aj cl eV (r.set j o) S'=af (.ok (.int v) S'))(kk:∀S' o,S'.length=S.length->(∀i,(∀h∈ks,q h≠i)->S'[i]?=S[i]?)->yY al S' pk ks q (mX W xs key v)->RV.Runs cl cs (r.set j o) S' Q):
  RV.Runs cl (.fr (.name j) it [C.sub (E.ix eX (E.var j)) eK eV]::cs) r S Q:=by
 refine bF (α:=Int) D.int (xs:=xs) (S1:=S) hit (λys r' S'=>∃pre o,pre++ys=xs/\S'.length=S.length/\(∀i,(∀h∈ks,q h≠i)->S'[i]?=S[i]?)/\yY al S' pk ks q (mX W pre key v)/\r'=r.set j o)
  ⟨[],r[j],rfl,rfl,λ_ _=>rfl,B.as λh _=>by funext y;simp[mX],(Y0 hj).symm⟩ ?_ ?_
 ·rintro r' S' ⟨pre,o,hp,hl,hsm,KS,rfl⟩;rw[Wm]at hp;subst hp;exact kk S' o hl hsm KS
 rintro x ys r' S' _ ⟨pre,o,hp,hl,hsm,KS,rfl⟩;have hxk:x∈ks:=hx x (by grind);obtain⟨N,n1,n2⟩:=KS.nt x hxk;have hz:N.length<sizeLine:=by have:=Bs KS hxk n2;simp only[aS];lia
 rw[ZJ];refine ji (d:= .int v) (x:= .ref (q x)) (y:= .int key) (S1:=S') (S2:=S') (S3:=S') (S4:=S'.set (q x) (.dct (putD N (.inl key) (.int v)))) (h3 _ _) (iR KS (h1 _ _ hsm) (aa (W8 hj)) hxk) (h2 _ _) (by simp only[RK.putAt,n1,dG,if_pos hz]) (aJ ⟨pre++ [x],_,by rw[←hp];simp,by simp_all,λi hi=>by simp_all,?_,rfl⟩);refine(KS.put (i:=v) hxk hk n1 n2).as λh _=>?_;funext y;unfold DM mX;by_cases ey:y=key
 ·by_cases eh:h=x
  ·simp[ey,eh]
  ·simp[ey,eh]
 ·simp[ey]
def UV(K:se al S p pk b hs cp ks q W)(pm:∀h,h∈hs ↔ h∈ks)(R:AH b hs)(hl:hs.length<=14)(hc:1<=cp)(hk:key∈al):
  ∃S',S'.length=S.length/\(∀i,(∀h∈ks,q h≠i)->S'[i]?=S[i]?)/\se al S' p pk b hs cp ks q (mX W (rq hs cp (key % sz b)) key v)/\ao fns (k+5) 14 [.ref p,.int key,.int v] S=af (.ok .non S'):=by
 have np:∀h∈ks,q h≠p:=λh hh=>by obtain⟨N,n1,_⟩:=K.nt h hh;exact Ne.symm (jY K.ob n1 (λz=>by cases z))
 suffices hw:RV.Runs (ao fns (k+4)) Nc [af (.ref p),af (.int key),af (.int v),ah] S λo=>∃S',S'.length=S.length/\(∀i,(∀h∈ks,q h≠i)->S'[i]?=S[i]?)/\se al S' p pk b hs cp ks q (mX W (rq hs cp (key % sz b)) key v)/\∃r,o=af (.next r S') by unfold RV.Runs at hw;obtain⟨S',h1,h2,h3,r,e⟩:=hw;exact⟨S',h1,h2,h3,mR (fs:=⟨3,4,Nc⟩) rfl rfl (by unfold RV.Runs;exact⟨r,e⟩) h1⟩
 unfold Nc;refine Jr (xs:=rq hs cp (key % sz b)) K.B (cz (aM (ak (gF K (aa rfl)) (ak (aa rfl) (ak (zf K (aa rfl)) au))) (iI (k:=k) R (Wa hl (by decide)) (W4 (by decide) hc)))) (λh hh=>(pm h).mp (j5 hh)) hk (by simp) (λS' o e=>mJ (aa rfl) ((e p np).trans K.ob) rfl) (λS' o=>aa rfl) (λS' o=>aa rfl) λS' o h1 h2 h3=>aJ ⟨S',h1,h2,⟨(h2 p np).trans K.ob,h3⟩,_,rfl⟩
def JQ(J:A5 al S p pk b cp hs ks q u)(hk:key∈al):
  ∃S',S'.length=S.length/\(∀i,(∀h∈ks,q h≠i)->S'[i]?=S[i]?)/\A5 al S' p pk b cp hs ks q (λy=>if y=key then af v else u y)/\ao fns (k+5) 14 [.ref p,.int key,.int v] S=af (.ok .non S'):=by
 obtain⟨S',h1,h2,h3,h4⟩:=UV (k:=k) (v:=v) J.K J.pm J.R J.D5 J.c1.1 hk;refine⟨S',h1,h2,⟨h3.as λh hh=>?_,J.pm,J.R,J.D5,J.c1,J.la⟩,h4⟩;funext y;by_cases e:y=key
 ·subst e;by_cases z:h∈rq hs cp (y % sz b)<;>simp[mX,fV,z]
 ·simp[mX,fV,e]
def plain:Nat->D->Bool
 |_,.non=>ai|_,.int _=>ai|_,.str x=>PyData.canLay0 (.str x)|n+1,.tup ds=>ds.all (plain n)|n+1,.lst ds=>ds.all (plain n)|_,_=>ay
theorem wR(H:∀{d:D},plain n d=ai->∃p,zl d=af p/\p.canLay0=ai/\p.depth<=n+1/\p.eqv p=ai):∀{ds:List D},ds.all (plain n)=ai->∃ps,zl.yi ds=af ps/\PyData.canLayAll0 ps=ai/\PyData.depthAll ps<=n+1/\PyData.eqvAll ps ps=ai
 |[],_=>⟨[],rfl,rfl,by simp[PyData.depthAll],rfl⟩|d::ds,h=>by rw[ZC,WT]at h;obtain⟨p,h1,h2,h3,h4⟩:=H h.1;obtain⟨ps,g1,g2,g3,g4⟩:=wR H h.2;exact⟨p::ps,by simp only[Ew,h1,g1],by simp only[PyData.canLayAll0,h2,g2,Bool.and_self],by simp only[PyData.depthAll];lia,by simp only[PyData.eqvAll,h4,g4,Bool.and_self]⟩
theorem rW:∀{n:Nat}{d:D},plain n d=ai->∃p,zl d=af p/\p.canLay0=ai/\p.depth<=n+1/\p.eqv p=ai
 |_,.non,_=>⟨.none,rfl,rfl,by simp[PyData.depth],rfl⟩|_,.int i,_=>⟨.int i,rfl,rfl,by simp[PyData.depth],by simp[PyData.eqv]⟩|n,.str x,h=>⟨.str x,rfl,by cases n<;>exact h,by simp[PyData.depth],by simp[PyData.eqv]⟩|0,.tup _,h=>by cases h|0,.lst _,h=>by cases h|n,.bl _,h=>by cases n<;>cases h|n,.As _,h=>by cases n<;>cases h|n,.ref _,h=>by cases n<;>cases h|n,.FU _,h=>by cases n<;>cases h|n,.ET,h=>by cases n<;>cases h|n+1,.tup ds,h=>by obtain⟨ps,g1,g2,g3,g4⟩:=wR (λh=>rW h) h;exact⟨.tuple ps,by simp only[rK,g1,XJ],g2,by simp only[PyData.depth];exact iX g3,g4⟩
 |n+1,.lst ds,h=>by obtain⟨ps,g1,g2,g3,g4⟩:=wR (λh=>rW h) h;exact⟨.list ps,by simp only[rM,g1,XJ],g2,by simp only[PyData.depth];exact iX g3,g4⟩
def lE(h:plain 4 d=ai):BF S d d=af true:=by
 obtain⟨p,h1,h2,h3,h4⟩:=rW h;have e:gw S d=af p:=by cases d<;>first|exact h1|cases h1
 have sh:SeqAt.shaped p=true:=by simp only[SeqAt.shaped,h2,ZD];exact Xz (Wa h3 (by decide))
 simp only[BF,e,sh,and_self,if_true,h4]
def rY(ns:List Int):(aq ns).all (plain n)=true:=Xq.mpr λd hd=>by obtain⟨i,_,rfl⟩:=Wn.mp hd;cases n<;>rfl
def zw(rs:List (List Int)):r6.clos n (rs.map dh):=ig.mpr λd hd=>by obtain⟨i,_,rfl⟩:=Wn.mp hd;exact cH _
def Js(kv:L2.Key×D):List Int:=match kv.1 with
 |.inl y=>match kv.2 with
  |.int i=> [y,i]|_=> []
 |.inr _=> []
theorem wU:∀{N:List (L2.Key×D)},(∀kv∈N,∃y i,kv=(Sum.inl y,D.int i))->iw N=af (N.map Js)
 |[],_=>rfl|kv::N,h=>by obtain⟨y,i,rfl⟩:=h kv (by simp);show(match Jx (Sum.inl y,D.int i)with|none=>ah|some q=>(match iw N with|none=>ah|some t=>af (q::t)))=_;rw[wU (N:=N) λkv hk=>h kv (by simp[hk])];rfl
theorem zr:∀{N:List (L2.Key×D)}{kv:L2.Key×D},(N.map (·.1)).Nodup->kv∈N->bz N kv.1=af kv.2
 |[],kv,_,h=>absurd h (by simp)|p::N,kv,nd,h=>by
  have TM:=Xo.mp (by simpa using nd:(p.1::N.map (·.1)).Nodup);unfold bz;rcases We.mp h with rfl|h
  ·simp
  ·have hne:p.1≠kv.1:=λe=>TM.1 (by rw[e];exact XS h);rw[List.find?_cons_of_neg (by lia)];exact zr TM.2 h
def UW(K:se al S p pk b hs cp ks q W)(hk:h∈ks):∃R:List (List Int),ao fns (k+2) 15 [.ref p,.int h] S=af (.ok (.tup (R.map dh)) S):=by
 obtain⟨N,n1,n2⟩:=K.nt h hk;have Lc:=Bs K.B hk n2;obtain⟨fs,e,GS,fm⟩:=n2.keys;have form:∀kv∈N,∃y i,kv=(Sum.inl y,D.int i):=λkv hkv=>by obtain⟨y,ey⟩:=n2.ki kv hkv;have hv:=zr n2.nd hkv;rw[ey,n2.va y]at hv;obtain⟨i,_,ei⟩:=XN.mp hv;exact⟨y,i,Prod.ext ey ei.symm⟩
 have hnd:(N.map Js).Nodup:=W2.mpr ((W2.mp n2.nd).imp_of_mem λ{a c} ha hc z w=>by
  obtain⟨y,i,rfl⟩:=form a ha;obtain⟨y',i',rfl⟩:=form c hc;have w:[y,i]=[y',i']:=w;exact z (by rw[(ZF w).1]))
 refine⟨RK.aQ (N.map Js),call_of (fs:=⟨2,2,Po⟩) (S':=S) rfl rfl ?_ (by simp) (zw _)⟩;unfold Po;simp only[Wh,WW,Wl,WN,br,Wr,Wj,Wm,dP,dQ,WL,Xi];refine bR (S1:=S) (aZ (x:= .bl (!(bz (xw ks q) (.inl h)).isSome)) (aR (aa rfl) (fZ K (aa rfl)) (Ey (iH K.kp) rfl)) (by rw[jX hk];simp[bD])) ?_;simp only[Wj];refine aL (aM (ak (iR K.B (fZ K (aa rfl)) (aa rfl) hk) au) ?_) rfl;refine call_of (fs:=⟨1,1,Na⟩) (S':=S) rfl rfl ?_ (by simp) (zw _);unfold Na;simp only[Wh,WW,Wl,WN,br,Wr,Wj,Wm,dP,dQ,WL,Xi];exact aL (dM (fP (RX (aa rfl) n1 (wU form) ⟨hnd,by rw[Wb];exact Wv Lc (by decide)⟩) eO) (by rw[Wb,(RK.cD _).length_eq,Wb];simp only[aS];exact Wa Lc (by decide))) rfl
def outD:Ev D->D
 |some (.ok d _)=>d|_=> .non
def U0(K:se al S p pk b hs cp ks q W)(hsub:∀h∈hs,h∈ks)(hl:hs.length<=14):∃d,plain 4 d=ai/\ao fns (k+3) 23 [.ref p] S=af (.ok d S):=by
 obtain⟨F,hF,hR⟩:∃F:Int->D,(∀h∈hs,ao fns (k+2) 15 [.ref p,.int h] S=af (.ok (F h) S))/\∀h∈hs,∃R:List (List Int),F h= .tup (R.map dh):=by
  refine⟨λh=>outD (ao fns (k+2) 15 [.ref p,.int h] S),λh hh=>?_,λh hh=>?_⟩<;>obtain⟨R,e⟩:=UW (k:=k) K (hsub h hh)
  ·dsimp only;rw[e];rfl
  ·exact⟨R,by dsimp only;rw[e];rfl⟩
 have hz:(hs.map λh=>D.tup [.int h,F h]).length<=sizeLine:=by simp only[Wb,aS];exact Wa hl (by decide)
 refine⟨.tup (hs.map λh=> .tup [.int h,F h]),Xq.mpr λd hd=>?_,call_of (fs:=⟨1,1,NC⟩) (S':=S) rfl rfl ?_ (by simp) (ig.mpr λd hd=>?_)⟩
 ·obtain⟨h,hh,rfl⟩:=Wn.mp hd;obtain⟨R,e⟩:=hR h hh;rw[e];simp only[plain,ZC,p9,Bool.and_true,ZD];exact Xq.mpr λd hd=>by obtain⟨r,_,rfl⟩:=Wn.mp hd;exact rY r
 ·unfold NC;simp only[Wh,WW,Wl,WN,br,Wr,Wj,Wm,dP,dQ,WL,Xi];refine aL (dM (fP (cU (ds:=aq hs) (S1:=S) (S2:=S) (cz (aW (bG (aa rfl) K.ob rfl au (ir (k:=k+1) K)) aB bK CB)) ?_ hz) eO) hz) rfl;exact jx D.int (λh=>D.tup [.int h,F h]) (cl:=ao fns (k+2)) (caps:=[af (.ref p)]) (xs:=hs) (acc:=[]) λh hh=>cu (ak (aa rfl) (ak (bG (aa rfl) K.ob rfl (ak (aa rfl) au) (hF h hh)) au)) (by simp[aS])
 ·obtain⟨h,hh,rfl⟩:=Wn.mp hd;obtain⟨R,e⟩:=hR h hh;rw[e];exact⟨trivial,zw _,trivial⟩
def rZ(hR:AH b hs)(hl:hs.length<=14):ao fns (k+1) 31 [aD b hs,.int x] S=af (.ok (.lst (aq (cN hs (x % sz b)))) S):=
 call_of (fs:=⟨2,4,PU⟩) rfl rfl (tZ hR (Wv hl (by decide))) (by simp) (cH _)
def wV{cl:Cl}{r:az}{e c:E}(h1:aj cl e r S=af (.ok (.lst (aq (cN tg (y % sz b)))) S))(h2:aj cl c r S=af (.ok (.int cp) S))(hc:0<=cp):aj cl (E.DF e c) r S=af (.ok (.lst (aq (rq tg cp (y % sz b)))) S):=by refine Ep h1 h2 ?_;rw[JL,ww hc];unfold rq aq;simp
def nw(hs tg:List Int)(cp b y:Int):List Int:=(rq tg cp (y % sz b)).filter λh=>!decide (h∈rq hs cp (y % sz b))
def cst(hs tg:List Int)(cp b:Int)(ys:List Int):Int:=(ys.map λy=>((nw hs tg cp b y).length:Int)).sum
def mY(hc:cp<=6):(nw hs tg cp b y).length<=6:=Wa (Xe ..) (il hc)
def Ny(hR:AH b hs)(P1:AH b tg)(hl:hs.length<=14)(htl:tg.length<=14)(hc:1<=cp/\cp<=6)(hyl:ys.length<=10):ao fns (k+6) 26 [aD b hs,aD b tg,.int cp,.tup (aq ys)] S=af (.ok (.int (cst hs tg cp b ys)) S):=by
 have h1:∀y,ao fns (k+5) 25 [aD b hs,aD b tg,.int cp,.int y] S=af (.ok (.int (nw hs tg cp b y).length) S):=λy=>by
  refine call_of (fs:=⟨4,5,ND⟩) (S':=S) rfl rfl ?_ (by simp) trivial;unfold ND;simp only[Wh,WW,Wl,WN,br,Wr,Wj,Wm,dP,dQ,WL,Xi];refine aC (aM (ak (aa rfl) (ak (aa rfl) (ak (aa rfl) au))) (iI (k:=k) hR (Wa hl (by decide)) (W4 (by decide) hc.1))) rfl ?_;simp only[bS];have hz:(aq (nw hs tg cp b y)).length<=sizeLine:=by have:=mY (hs:=hs) (tg:=tg) (b:=b) (y:=y) hc.2;simp only[Wb,aS];lia
  refine aL (gO (ak (cU (ds:=aq (rq tg cp (y % sz b))) (es:=aq (nw hs tg cp b y)) (S1:=S) (S2:=S) (cz (aM (ak (aa rfl) (ak (aa rfl) (ak (aa rfl) au))) (iI (k:=k) P1 (Wa htl (by decide)) (W4 (by decide) hc.1)))) ?_ hz) au) (by rw[gn eO,Wb])) rfl;exact jy (S:=S) D.int (λh=>!decide (h∈rq hs cp (y % sz b))) (caps:=[af (.tup (aq (rq hs cp (y % sz b))))]) (acc:=[]) (λh hh=>jR (aZ (x:= .bl _) (aR (aa rfl) (aa rfl) (lz ik)) bD)) (λh _ _=>aa rfl)
 refine call_of (fs:=⟨4,4,NF⟩) (S':=S) rfl rfl ?_ (by simp) trivial;unfold NF;simp only[Wh,WW,Wl,WN,br,Wr,Wj,Wm,dP,dQ,WL,Xi];have ok:nj (ys.map λy=>((nw hs tg cp b y).length:Int))=true:=by simp only[nj,WT,Xq,Zq,Wb];refine⟨λn hn=>?_,Wa hyl (by decide)⟩;obtain⟨y,_,rfl⟩:=Wn.mp hn;have:=mY (hs:=hs) (tg:=tg) (b:=b) (y:=y) hc.2;lia
 refine aL (Uz (ns:=ys.map λy=>((nw hs tg cp b y).length:Int)) (RM (cU (ds:=aq ys) (S1:=S) (S2:=S) (cz (aa rfl)) ?_ (by simp only[Wb,aS];exact Wa hyl (by decide)))) ok) rfl;rw[show aq (ys.map λy=>((nw hs tg cp b y).length:Int))=ys.map λy=>D.int (nw hs tg cp b y).length by simp[X7]];exact jx D.int (λy=>D.int (nw hs tg cp b y).length) (cl:=ao fns (k+5)) (caps:=[af (.int cp),af (aD b tg),af (aD b hs)]) (xs:=ys) (acc:=[]) λy _=>aM (ak (aa rfl) (ak (aa rfl) (ak (aa rfl) (ak (aa rfl) au)))) (h1 y)
end
section
variable{S:bq}{b cp x y g h:Int}{hs tg mid A ys:List Int}{W:Int->Int->Option Int}{u f:Int->Option Int}{rs P:List (List Int)}{d:D}
def JR(P:List (List Int)):Prop:=∀r∈P,(∃y h,r=[y,0,h])\/∃y g h,r=[y,1,g,h]
def tR(hP:pP W u b cp A tg rs):JR (RK.aQ rs):=λr hr=>by
 obtain⟨y,hy,z⟩:=(hP.1 r).mp ((RK.cD _).mem_iff.mp hr);obtain⟨h,hh,⟨z1,z2,z3⟩|⟨z1,z2,z3⟩⟩:=cV.mp z
 ·exact .inl ⟨y,h,z3⟩
 ·exact .inr ⟨y,_,h,z3⟩
def wW(hf:JR P)(hl:P.length<=1000){cl:Cl}{r:az}{i:Nat}(hv:r[i]?=af (af (.tup (P.map aG)))):
  aj cl (E.comp ay (E.var 0) (Tg.name 0) (It.seq (E.var i)) [T.val (E.cmp (CmpOp.Eq) (E.ix (E.var 0) (E.cst (D.int 1))) (E.cst (D.str Z4)))] 1 []) r S=af (.ok (.lst ((P.filter pe).map aG)) S):=by
 have hle:=Xe pe P;refine cU (ds:=P.map aG) (S1:=S) (S2:=S) (cz (aa hv)) ?_ (by simp only[Wb,aS];lia);exact jy (S:=S) aG pe (caps:=[]) (acc:=[]) (λr hr=>jR (aZ (x:= .bl (pe r)) (by
  rcases hf r hr with⟨y,h,rfl⟩|⟨y,g,h,rfl⟩
  ·exact aR (aW (x:=aG [y,0,h]) (aa rfl) aB bK CB) aB (lw SW)
  ·exact aR (aW (x:=aG [y,1,g,h]) (aa rfl) aB bK CB) aB (lw SY)) bD)) (λr _ _=>aa rfl)
abbrev gv(hs A:List Int)(cp b:Int)(u:Int->Option Int)(y:Int):Int:=(EL (fV hs cp b u) b A y).getD 0
def iW(hP:pP (fV hs cp b u) u b cp A tg rs)(hA:∀h∈tg,h∈A) :r∈(RK.aQ rs).filter pe ↔ ∃y,(u y).isSome=ai/\∃h∈nw hs tg cp b y,r=[y,1,gv hs A cp b u y,h]:=by
 rw[Wz,(RK.cD _).mem_iff,hP.1];constructor
 ·rintro⟨⟨y,hy,z⟩,w⟩;obtain⟨h,hh,⟨_,_,e⟩|⟨z1,z2,e⟩⟩:=cV.mp z
  ·rw[e]at w;cases w
  ·rw[lD hy]at z1;exact⟨y,hy,h,Wz.mpr ⟨z2,by rw[z1];rfl⟩,e⟩
 ·rintro⟨y,hy,h,hh,rfl⟩;obtain⟨h1,h2⟩:=Wz.mp hh;exact⟨⟨y,hy,cV.mpr ⟨h,hA h (j5 h1),.inr ⟨by rw[lD hy];simpa using h2,h1,rfl⟩⟩⟩,rfl⟩
def JV(hn:tg.Nodup):(nw hs tg cp b y).Nodup:=(wM hn).filter _
theorem xE{F:Int->List (List Int)}{G:Int->Nat}(h:∀y,(F y).length=G y):∀ys:List Int,((ys.flatMap F).length:Int)=(ys.map λy=>(G y:Int)).sum
 |[]=>rfl|y::ys=>by have:=xE h ys;rw[nE,WK,Wh,kG,h,←this];rfl
def Nz(hP:pP (fV hs cp b u) u b cp A tg rs)(hA:∀h∈tg,h∈A)(hn:tg.Nodup)(yn:ys.Nodup)(hy:∀y∈ys,(u y).isSome=ai):cst hs tg cp b ys<=((RK.aQ rs).filter pe).length:=by
 have e:=xE (F:=λy=>(nw hs tg cp b y).map λh=> [y,1,gv hs A cp b u y,h]) (G:=λy=>(nw hs tg cp b y).length) (λy=>by simp) ys;have hl:=RV.bW (ys.flatMap λy=>(nw hs tg cp b y).map λh=> [y,1,gv hs A cp b u y,h]) ((RK.aQ rs).filter pe) (by
  unfold x6;rw[Zv];refine⟨λy _=>W2.mpr ((JV hn).imp λz e=>z (by simpa using e)),yn.imp λ{a c} z r1 h1 r2 h2 e=>?_⟩;obtain⟨_,_,rfl⟩:=Wn.mp h1;obtain⟨_,_,rfl⟩:=Wn.mp h2;exact z (ZF e).1) λr hr=>by
  obtain⟨y,yy,hr⟩:=Zz.mp hr;obtain⟨h,hh,rfl⟩:=Wn.mp hr;exact(iW hP hA).mpr ⟨y,hy y yy,h,hh,rfl⟩
 unfold cst;lia
theorem zu(hn:tg.Nodup):∀ys:List Int,cst hs tg cp b ys<=cst hs mid cp b ys+cst mid tg cp b ys
 |[]=>by simp[cst]|y::ys=>by
  have ih:=zu hn ys;have:=RV.bW (nw hs tg cp b y) (nw hs mid cp b y++nw mid tg cp b y) (JV hn) λh hh=>by
   obtain⟨h1,h2⟩:=Wz.mp hh;rw[Xa];by_cases z:h∈rq mid cp (y % sz b)
   ·exact .inl (Wz.mpr ⟨z,h2⟩)
   ·exact .inr (Wz.mpr ⟨h1,by simpa using z⟩)
  rw[WK]at this;simp only[cst,Wh,kG]at*;lia
theorem Jt:cst tg tg cp b ys=0:=by
 have e:∀y,nw tg tg cp b y=[]:=λy=>List.filter_eq_nil_iff.mpr λh hh=>by simpa using hh
 induction ys with
 |nil=>rfl|cons y ys ih=>have ih:(ys.map λy=>((nw tg tg cp b y).length:Int)).sum=0:=ih;rw[cst,Wh,kG,ih,e];rfl
theorem pQ{α:Type}{f:az->bq->Ev D}{g:az->bq->Ev Bool}{t:Tg}(inj F:α->D)(G:α->az)(I:az->Prop):∀{xs:List α}{r:az}{acc:List D},I r->(∀x∈xs,(∀r,I r->bN t (inj x) r=af (G x))/\I (G x)/\g (G x) S=af (.ok ai S)/\f (G x) S=af (.ok (F x) S))->
  compLoop f g t (xs.map inj) r S acc=af (.ok (acc++xs.map F) S)
 |[],r,acc,_,_=>by simp[compLoop]|x::xs,r,acc,hr,h=>by obtain⟨h1,h2,h3,h4⟩:=h x (by simp);have:=pQ inj F G I (xs:=xs) (r:=G x) (acc:=acc++ [F x]) h2 λx hx=>h x (by simp[hx]);simp only[Wh,compLoop,h1 r hr,h3,cA,aH,if_true,h4,this,Yl,List.singleton_append]
def FE(r:List Int):D:= .tup [.int (r.getD 0 0),.str (word 1),.int (r.getD 3 0)]
def wX{cl:Cl}{f:az->bq->Ev D}{g:az->bq->Ev Bool}(hP:∀r∈P,∃y g h,r=[y,1,g,h])(hf:∀r,f r S=aj cl (E.tup [E.var 0,E.var 1,E.var 3]) r S)(hg:∀r,g r S=bx cl [] r S):
  compLoop f g (Tg.tup [Tg.name 0,Tg.name 1,Tg.name 2,Tg.name 3]) (P.map aG) (f9 [] 4 []) S []=af (.ok (P.map FE) S):=
 pQ (acc:=[]) aG FE (λr=> [af (.int (r.getD 0 0)),af (.str (word 1)),af (.int (r.getD 2 0)),af (.int (r.getD 3 0))]) (λr=>∃a b c d,r=[a,b,c,d]) ⟨ah,ah,ah,ah,rfl⟩ λr hr=>by obtain⟨y,g',h,rfl⟩:=hP r hr;refine⟨?_,⟨_,_,_,_,rfl⟩,by rw[hg];exact iU,by rw[hf];exact cu (ak (aa rfl) (ak (aa rfl) (ak (aa rfl) au))) (by simp[aS])⟩;rintro r ⟨a,b,c,d,rfl⟩;rfl
end
section
variable{k:Nat}{S S':bq}{p pk L:Nat}{b cp x:Int}{hs tg cur A ys:List Int}{q:Int->Nat}{ks:List Int}{u:Int->Option Int}{al:List Int}{left:List (Bool×Int)}
abbrev qQ:Str:=Z7
abbrev TN:Str:=Z9
def DC:Bool->Str
 |true=>qQ|false=>TN
def P7:BF S (.str (DC t)) (.str (DC t'))=af (t==t'):=by cases t<;>cases t'<;>simp only[BF,gw,zl,DC]<;>(rw[if_pos ⟨by decide+kernel,by decide+kernel⟩];exact Xk af (by decide))
def A8(e:Bool×Int):D:= .tup [.str (DC e.1),.int e.2]
def DS(left:List (Bool×Int))(tg cur:List Int):Prop:=left.Nodup/\(∀h,(ai,h)∈left ↔ h∈tg/\h∉cur)/\∀h,(ay,h)∈left ↔ h∈cur/\h∉tg
def zx{α:Type}{l:List α}(h:j<l.length)(nd:l.Nodup){x:α}:x∈l.eraseIdx j ↔ x∈l/\x≠l[j]:=by
 rw[List.mem_eraseIdx_iff_getElem];constructor
 ·rintro⟨i,hi,h1,rfl⟩;exact⟨XR _,λz=>h1 ((Zw nd).mp z)⟩
 ·rintro⟨h1,h2⟩;obtain⟨i,hi,rfl⟩:=YD h1;exact⟨i,hi,λe=>h2 (by subst e;rfl),rfl⟩
def DS.P8(h:DS left tg cur)(hj:j<left.length)(e:left[j]=(ai,x)):DS (left.eraseIdx j) tg (with1 cur x):=by
 obtain⟨nd,h1,h2⟩:=h;have hx:=(h1 x).mp (e▸XR hj);refine⟨nd.eraseIdx _,λz=>?_,λz=>?_⟩<;>rw[zx hj nd,e,zv]
 ·rw[h1];simp only[ne_eq,Prod.mk.injEq,true_and];grind
 ·rw[h2];simp only[ne_eq,Prod.mk.injEq,Wt,false_and,not_false_eq_true,and_true];grind
def DS.go(h:DS left tg cur)(hj:j<left.length)(e:left[j]=(ay,x)):DS (left.eraseIdx j) tg (eU cur x):=by
 obtain⟨nd,h1,h2⟩:=h;have hx:=(h2 x).mp (e▸XR hj);have hm:∀z,z∈eU cur x ↔ z∈cur/\z≠x:=λz=>by simp[eU]
 refine⟨nd.eraseIdx _,λz=>?_,λz=>?_⟩<;>rw[zx hj nd,e,hm]
 ·rw[h1];simp only[ne_eq,Prod.mk.injEq,Bool.true_eq_false,false_and,not_false_eq_true,and_true];grind
 ·rw[h2];simp only[ne_eq,Prod.mk.injEq,true_and];grind
theorem zy:∀left:List (Bool×Int),jq (left.map λe=>D.str (DC e.1))=af (left.map λe=>DC e.1)
 |[]=>rfl|e::left=>by simp only[Wh,jq,zy left,XJ]
def Ju(h:S[n]?=af (.lst ds)):bf S (.ref n)=af ds:=by simp only[bf,h]
def tU{cl:Cl}{r:az}{S1:bq}{elt a:E}{tg:Tg}{ifs:List T}{n k:Nat}{cap:List Nat}{ds es:List D}(h1:aj cl a r S=af (.ok (.ref k) S1))(h0:S1[k]?=af (.lst ds))(h2:compLoop (DV S1 λr S=>aj cl elt r S) (DV S1 λr S=>bx cl ifs r S) tg ds (f9 r n cap) S1 []=af (.ok es S1))(h3:es.length<=aS):aj cl (.AM ay elt tg a ifs n cap) r S=af (.ok (.lst es) S1):=by show bnd _ _=_;simp only[h1,aH,h0,h2,same_self,AX,if_pos h3,bA,Wt,Xd]
theorem Jv{cl:Cl}{r:az}{i:Nat}(hv:r[i]?=af (af (.ref L)))(hL:S[L]?=af (.lst (left.map A8)))(hl:left.length<=1000)(hx:∃h,(ai,h)∈left):
  ∃j,∃hj:j<left.length,left[j].1=ai/\aj cl (E.FY (E.AM ay (E.var 0) (Tg.tup [Tg.name 0,Tg.name 1]) (E.var i) [] 2 []) (E.cst (D.str qQ))) r S=af (.ok (.int j) S):=by
 obtain⟨h,hh⟩:=hx;have hc:aj cl (E.AM ay (E.var 0) (Tg.tup [Tg.name 0,Tg.name 1]) (E.var i) [] 2 []) r S=af (.ok (.lst (left.map λe=>D.str (DC e.1))) S):=by refine tU (aa hv) hL ?_ (by simp only[Wb,aS];exact Wa hl (by decide));exact pQ (acc:=[]) A8 (λe=>D.str (DC e.1)) (λe=> [af (.str (DC e.1)),af (.int e.2)]) (λr=>∃a b,r=[a,b]) ⟨ah,ah,rfl⟩ λe _=>⟨λr ⟨a,b,z⟩=>by subst z;rfl,⟨_,_,rfl⟩,by rw[kE];exact iU,by rw[kE];exact aa rfl⟩
 cases e:(left.map λe=>DC e.1).findIdx? (λn=>decide (n=qQ))with
 |none=>have:=List.findIdx?_eq_none_iff.mp e (DC ai) (Wn.mpr ⟨_,hh,rfl⟩);exact absurd this (by simp[DC])|some j=>
  obtain⟨hj,hp,_⟩:=Yp.mp e;rw[Wb]at hj;refine⟨j,hj,?_,RG hc aB (zy left) e⟩;simp only[Y7,Zq]at hp;cases h:left[j].1 with|true=>rfl|false=>rw[h]at hp;exact absurd hp (by decide)
def NB{cl:Cl}{r:az}{i j:Nat}{e:E}(hv:r[i]?=af (af (.ref L)))(hL:S[L]?=af (.lst (left.map A8)))(he:aj cl e r S=af (.ok (.int j) S))(hj:j<left.length):
  aj cl (E.meth (Mt.mT) (E.var i) [e]) r S=af (.ok (A8 left[j]) (S.set L (.lst ((left.eraseIdx j).map A8)))):=by
 refine jQ (S1:=S) (S2:=S) (ds:=[.int j]) (aa hv) hL (ak he au) ?_;have h1:L2.CC (left.map A8).length (j:Int)=af j:=by unfold L2.CC;rw[if_pos (by simp),if_pos (by simp;exact hj)];simp
 have h2:(left.map A8)[j]?=af (A8 left[j]):=by simp[hj]
 simp only[iu,EU,qb,dg,hL,h1,h2,bA,mK]
structure FF(al:List Int)(S:bq)(p pk L:Nat)(b cp:Int)(cur ks:List Int)(q:Int->Nat)(u:Int->Option Int):Prop where
 J:A5 al S p pk b cp cur ks q u
 lp:L≠p
 lk:L≠pk
 lq:∀h∈ks,q h≠L
 ll:L<S.length
theorem FF.set(B:FF al S p pk L b cp cur ks q u):FF al (S.set L o) p pk L b cp cur ks q u:=
 ⟨⟨B.J.K.to λi hi=>Wy (by
  rcases hi with rfl|rfl|⟨h,hh,rfl⟩
  ·exact B.lp
  ·exact B.lk
  ·exact Ne.symm (B.lq h hh)),B.J.pm,B.J.R,B.J.D5,B.J.c1,B.J.la⟩,B.lp,B.lk,B.lq,by rw[qo];exact B.ll⟩
def FF.ZS(B:FF al S p pk L b cp cur ks q u)(M:F3 al S S' p pk b cp cur tg A ks q u rs):(∃ks' q',FF al S' p pk L b cp tg ks' q' u)/\S'[L]?=S[L]?:=by
 obtain⟨EN,q1,⟨l1,f1,f2⟩,J1,hP⟩:=M;refine⟨⟨EN,q1,J1,B.lp,B.lk,λh hh=>?_,WF B.ll l1⟩,f1 L B.ll B.lp B.lk B.lq⟩;rcases f2 h hh with⟨z1,z2⟩|z
 ·rw[z2];exact B.lq h z1
 ·have:=B.ll;lia
def pR{cl:Cl}{r:az}(K:A5 al S p pk b cp hs ks q u)(hr:r[0]?=af (af (.ref p)))(hc:cl 13 [.ref p] S=af (.ok (aD b hs) S)):aj cl (E.ix (E.jS bL Z5 13 (E.var 0) []) (E.cst (D.int 1))) r S=af (.ok (.tup (aq hs)) S):=
 aW (bG (aa hr) K.K.ob rfl au hc) aB bK CB
def wY{cl:Cl}{cs:List C}{r:az}{Q:Option Fl->Prop}{it:RK.It}{t:Bool}{e:E}{xs zs:List Int}(hL:S[L]?=af (.lst (left.map A8)))(h14:left.length<=100)(hx:xs.length<=100)(hit:bH cl it r S=af (.ok (aq xs) S))(e4:∀o,(r.set 5 o)[4]?=af (af (.ref L)))(h5:5<r.length)(he:∀S' o,(∀i,i≠L->S'[i]?=S[i]?)->aj cl e (r.set 5 o) S'=af (.ok (.tup (aq zs)) S'))(kk:∀o,RV.Runs cl cs (r.set 5 o) (S.set L (.lst ((left++(xs.filter λh=>!decide (h∈zs)).map λh=>(t,h)).map A8))) Q):
  RV.Runs cl (.fr (.name 5) it [C.cond (T.val (E.cmp (CmpOp.NotIn) (E.var 5) e)) [C.ex (E.meth (Mt.append) (E.var 4) [E.tup [E.cst (D.str (DC t)),E.var 5]])] []]::cs) r S Q:=by
 have lt:=cL hL;refine bF (α:=Int) D.int (xs:=xs) (S1:=S) hit (λys r' S'=>∃pre o,pre++ys=xs/\S'=S.set L (.lst ((left++(pre.filter λh=>!decide (h∈zs)).map λh=>(t,h)).map A8))/\r'=r.set 5 o) ⟨[],r[5],rfl,by obtain⟨z1,z2⟩:=Wi.mp hL;simp only[List.filter_nil,WW,Wm,←z2,Y0],(Y0 h5).symm⟩ ?_ ?_
 ·rintro r' S' ⟨pre,o,hp,rfl,rfl⟩;rw[Wm]at hp;subst hp;exact kk o
 rintro x ys r' S' _ ⟨pre,o,hp,rfl,rfl⟩;rw[ZJ];have hpl:pre.length<=100:=by have:=Xk fR hp;simp at this;lia
 have hfl:=Xe (λh=>!decide (h∈zs)) pre;refine fD (t:=!decide (x∈zs)) (S1:=S.set L (.lst ((left++(pre.filter λh=>!decide (h∈zs)).map λh=>(t,h)).map A8))) (aZ (x:= .bl _) (aR (aa (W8 h5)) (he _ _ λi hi=>Wy (Ne.symm hi)) (lz ik)) bD) (λz=>?_) (λz=>?_)
 ·simp only[Wr,Wj];refine bY (rT (d:=A8 (t,x)) (e4 _) (bZ hL) (cu (ak aB (ak (aa (W8 h5)) au)) (by simp[aS])) (by simp only[Wb,WK];lia)) (aJ ⟨pre++ [x],_,by rw[←hp];simp,?_,rfl⟩);have z:x∉zs:=by simpa using z
  rw[ZJ];simp[z]
 ·refine aJ ⟨pre++ [x],_,by rw[←hp];simp,?_,rfl⟩;have z:x∈zs:=by simpa using z
  simp[z]
end
section
variable{k:Nat}{S S':bq}{p pk L:Nat}{b cp c x:Int}{hs tg cur A ys:List Int}{q:Int->Nat}{ks:List Int}{u:Int->Option Int}{al:List Int}{left:List (Bool×Int)}
def DS.new(hn:hs.Nodup)(tn:tg.Nodup):DS (((tg.filter λh=>!decide (h∈hs)).map λh=>(ai,h))++(hs.filter λh=>!decide (h∈tg)).map λh=>(ay,h)) tg hs:=by
 refine⟨Xu.mpr ⟨?_,?_,?_⟩,λh=>by simp,λh=>by simp⟩
 ·exact W2.mpr ((tn.filter _).imp λz e=>z (by simpa using e))
 ·exact W2.mpr ((hn.filter _).imp λz e=>z (by simpa using e))
 ·intro a ha c hc e;obtain⟨_,_,rfl⟩:=Wn.mp ha;obtain⟨_,_,rfl⟩:=Wn.mp hc;cases e
def DS.end(h:DS [] tg cur)(ht:tg.Pairwise (·<·))(hc:cur.Pairwise (·<·)):cur=tg:=wO hc ht λx=>by have h1:=h.2.1 x;have h2:=h.2.2 x;simp at h1 h2;exact⟨h2,h1⟩
def WI(al:List Int)(n0:Nat)(p pk L:Nat)(b cp c:Int)(hs tg A ys:List Int)(u:Int->Option Int)(n:Nat)(r:az)(S':bq):Prop:=
 ∃cur ks q left found v5 v6 v7 v8,n=left.length/\FF al S' p pk L b cp cur ks q u/\S'[L]?=af (.lst (left.map A8))/\DS left tg cur/\(∀h∈cur,h∈A)/\n0<=S'.length/\cst hs tg cp b ys<=found+cst cur tg cp b ys/\
  r=[af (.ref p),af (.tup (aq tg)),af (.int c),af (.int found),af (.ref L),v5,v6,v7,v8]
def U3(J:A5 al S p pk b cp hs ks q u)(Rt:AH b tg)(lA:A.length<=14)(ZT:∀h∈hs,h∈A)(NR:∀h∈tg,h∈A)(yn:ys.Nodup)(hy:∀y∈ys,(u y).isSome=ai):
  ∃n S',cst hs tg cp b ys<=n/\ao fns (k+10) 33 [.ref p,.tup (aq tg),.int c] S=af (.ok (.int n) S'):=by
 have MG:=bV Rt.up;have NO:tg.length<=14:=Wa (RV.bW tg A MG NR) lA;have h14:=J.D5
 suffices hw:RV.Runs (ao fns (k+9)) MA [af (.ref p),af (.tup (aq tg)),af (.int c),ah,ah,ah,ah,ah,ah] S λo=>∃n S',cst hs tg cp b ys<=n/\S.length<=S'.length/\o=af (.ret (.int n) S') by unfold RV.Runs at hw;obtain⟨n,S',h1,h2,e⟩:=hw;obtain⟨S2,_,_,c2⟩:=pO (k:=k+9) (f:=33) (as:=[.ref p,.tup (aq tg),.int c]) (fs:=⟨3,9,MA⟩) (S:=S) (S':=S') (d:= .int n) rfl rfl (by unfold RV.Runs;exact .inl e) h2 trivial (λk e=>by cases e);exact⟨n,S2,h1,c2⟩
 obtain⟨L,eL⟩:∃L,L=S.length:=⟨_,rfl⟩
 have hlt:=J.K.lt;have B0:FF al (S++ [SO.lst []]) p pk L b cp hs ks q u:=⟨⟨J.K.push _,J.pm,J.R,J.D5,J.c1,J.la⟩,by lia,by lia,λh hh=>by have:=hlt.2.2 h hh;lia,by simp;lia⟩
 have hL0:(S++ [SO.lst []])[L]?=af (.lst (([]:List (Bool×Int)).map A8)):=by rw[eL];exact nL _ _
 have f1:=Xe (λh=>!decide (h∈hs)) tg;have f2:=Xe (λh=>!decide (h∈tg)) hs;have F4:∀{S1 S2:bq}{cur ks:List Int}{q:Int->Nat},FF al S1 p pk L b cp cur ks q u->(∀i,i≠L->S2[i]?=S1[i]?)->A5 al S2 p pk b cp cur ks q u:=λB e=>⟨B.J.K.to λi hi=>e i (by
  rcases hi with rfl|rfl|⟨h,hh,rfl⟩
  ·exact Ne.symm B.lp
  ·exact Ne.symm B.lk
  ·exact B.lq h hh),B.J.pm,B.J.R,B.J.D5,B.J.c1,B.J.la⟩
 unfold MA;refine aC aB rfl ?_;simp only[bS];refine aC (d:= .ref L) (S1:=S++ [SO.lst []]) (by rw[eL];exact jP au (by simp[aS])) rfl ?_;simp only[bS];refine wY (t:=ai) (left:=[]) (L:=L) (xs:=tg) (zs:=hs) hL0 (by simp) (Wa NO (by decide)) (cz (aa rfl)) (λo=>rfl) (by simp) (λS' o e=>pR (F4 B0 e) rfl (ir (k:=k+8) (F4 B0 e).K)) λo=>?_;simp only[bS,Wj];have B1:=B0.set (o:= .lst (((tg.filter λh=>!decide (h∈hs)).map λh=>(ai,h)).map A8));have hL1:=bZ (o':= .lst (((tg.filter λh=>!decide (h∈hs)).map λh=>(ai,h)).map A8)) hL0;refine wY (t:=ay) (left:=(tg.filter λh=>!decide (h∈hs)).map λh=>(ai,h)) (L:=L) (xs:=hs) (zs:=tg) hL1 (by simp;lia) (Wa h14 (by decide)) (cz (pR B1.J rfl (ir (k:=k+8) B1.J.K))) (λo=>rfl) (by simp) (λS' o e=>aa rfl) λo2=>?_;simp only[bS];refine M4 (WI al S.length p pk L b cp c hs tg A ys u) ⟨hs,ks,q,_,0,_,_,_,_,rfl,B1.set,bZ hL1,DS.new (bV J.R.up) MG,ZT,by simp,by simp,rfl⟩ (by simp;lia) ?_;rintro n r S1 ⟨cur,EN,q1,left,found,v5,v6,v7,v8,rfl,B,hL,hf,hcA,hl,P9,rfl⟩;have QA:left.length<1000:=by
  have:=RV.bW left ((A.map λh=>(ai,h))++A.map λh=>(ay,h)) hf.1 λe he=>by
   obtain⟨w,h⟩:=e;cases w with|true=>simp[NR h ((hf.2.1 h).mp he).1]|false=>simp[hcA h ((hf.2.2 h).mp he).1]
  simp at this;lia
 have ZU:=bV B.J.R.up;refine⟨!left.isEmpty,S1,aZ (aa rfl) (by simp only[truth,hL];cases left<;>rfl),λe=>?_,λe=>?_⟩
 ·have e:left=[]:=by simpa using e
  subst e;have ec:=hf.end Rt.up B.J.R.up;subst ec;rw[Jt]at P9;exact aL (aa rfl) ⟨found,S1,by lia,hl,rfl⟩
 have hpos:0<left.length:=List.length_pos_iff.mpr (by simpa using e);refine⟨left.length - 1,by lia,?_⟩;have hlen:DL .len [.ref L] S1=af (.ok (.int left.length) S1):=by rw[gn (Ju hL),Wb]
 have EH:DL .len [.tup (aq cur)] S1=af (.ok (.int cur.length) S1):=by rw[gn bK,Wb]
 have hm:=jU (c:=c+left.length) (p:=9811) (m:=(left.length:Int)) (by lia);obtain⟨j0,ej⟩:∃j:Nat,(j:Int)=mix (c+left.length) 9811 left.length:=⟨_,Int.toNat_of_nonneg hm.1⟩
 have hj0:j0<left.length:=by lia
 refine aC (d:= .int j0) (S1:=S1) (by rw[ej];exact aM (ak (fO (aa rfl) (gO (ak (aa rfl) au) hlen) ug) (ak aB (ak (gO (ak (aa rfl) au) hlen) au))) (um (k:=k+8) (by simp) (Int.lt_of_le_of_lt hm.1 hm.2))) rfl ?_;simp only[bS];have turn:∀(j:Nat)(hj:j<left.length),(left[j].1=ay->1<cur.length)->RV.Runs (ao fns (k+9)) [C.asg (Tg.tup [Tg.name 7,Tg.name 5]) (E.meth (Mt.mT) (E.var 4) [E.var 6]),
   C.cond (T.val (E.cmp (CmpOp.Eq) (E.var 7) (E.cst (D.str qQ)))) [C.asg (Tg.name 8) (E.jS bL qQ 18 (E.var 0) [E.var 5])] [C.asg (Tg.name 8) (E.jS bL TN 19 (E.var 0) [E.var 5])],
   C.asg (Tg.name 3) (E.bin (Operator.Add) (E.var 3) (E.bi (Bi.len) [E.comp ay (E.var 0) (Tg.name 0) (It.seq (E.var 8)) [T.val (E.cmp (CmpOp.Eq) (E.ix (E.var 0) (E.cst (D.int 1))) (E.cst (D.str Z4)))] 1 []]))]
   [af (.ref p),af (.tup (aq tg)),af (.int c),af (.int found),af (.ref L),v5,af (.int j),v7,v8] S1 (RV.Turn (WI al S.length p pk L b cp c hs tg A ys u (left.length - 1)) (λr S2=>RV.Runs (ao fns (k+9)) [C.ret (E.var 3)] r S2 λo=>∃n S',cst hs tg cp b ys<=n/\S.length<=S'.length/\o=af (.ret (.int n) S')) λo=>∃n S',cst hs tg cp b ys<=n/\S.length<=S'.length/\o=af (.ret (.int n) S')):=λj hj hgo=>by
  obtain⟨w,x,e⟩:∃w x,left[j]=(w,x):=⟨_,_,rfl⟩
  have MH:=NB (cl:=ao fns (k+9)) (r:=[af (.ref p),af (.tup (aq tg)),af (.int c),af (.int found),af (.ref L),v5,af (.int j),v7,v8]) (i:=4) (e:=E.var 6) rfl hL (aa rfl) hj;rw[e]at MH hgo;refine aC MH rfl ?_;simp only[bS];have Bp:=B.set (o:= .lst ((left.eraseIdx j).map A8));have ZV:=bZ (o':= .lst ((left.eraseIdx j).map A8)) hL;have hlp:(S1.set L (.lst ((left.eraseIdx j).map A8))).length=S1.length:=qo;have hel:(left.eraseIdx j).length=left.length - 1:=by rw[qB,if_pos hj]
  have fin:∀{S2:bq}{cur' A':List Int}{rs:List (List Int)},F3 al (S1.set L (.lst ((left.eraseIdx j).map A8))) S2 p pk b cp cur cur' A' EN q1 u rs->(∀h∈cur',h∈A')->(∀h∈cur',h∈A)->DS (left.eraseIdx j) tg cur'->RV.Runs (ao fns (k+9)) [C.asg (Tg.name 3) (E.bin (Operator.Add) (E.var 3) (E.bi (Bi.len) [E.comp ay (E.var 0) (Tg.name 0) (It.seq (E.var 8)) [T.val (E.cmp (CmpOp.Eq) (E.ix (E.var 0) (E.cst (D.int 1))) (E.cst (D.str Z4)))] 1 []]))]
    [af (.ref p),af (.tup (aq tg)),af (.int c),af (.int found),af (.ref L),af (.int x),af (.int j),af (.str (DC w)),af (.tup ((RK.aQ rs).map aG))] S2 (RV.Turn (WI al S.length p pk L b cp c hs tg A ys u (left.length - 1)) (λr S2=>RV.Runs (ao fns (k+9)) [C.ret (E.var 3)] r S2 λo=>∃n S',cst hs tg cp b ys<=n/\S.length<=S'.length/\o=af (.ret (.int n) S')) λo=>∃n S',cst hs tg cp b ys<=n/\S.length<=S'.length/\o=af (.ret (.int n) S')):=λ{S2 cur' A' rs} M a1 a2 lf=>by
   obtain⟨⟨P6,q2,B2⟩,e2⟩:=Bp.ZS M;obtain⟨_,_,⟨l1,_,_⟩,_,hP⟩:=M;have hrl:(RK.aQ rs).length<=1000:=by rw[(RK.cD _).length_eq];have:=hP.2.2;lia
   refine aC (d:= .int (found+((RK.aQ rs).filter pe).length)) (fO (aa rfl) (gO (ak (wW (tR hP) hrl rfl) au) (by rw[gn eO,Wb])) ug) rfl (aJ ⟨cur',P6,q2,left.eraseIdx j,_,_,_,_,_,hel.symm,B2,e2.trans ZV,lf,a2,by lia,?_,rfl⟩);have h1:=Nz hP a1 (bV B2.J.R.up) yn hy;have h2:=zu (hs:=cur) (mid:=cur') (tg:=tg) (cp:=cp) (b:=b) MG ys;lia
  cases w with
  |true=>
   have hx:=(hf.2.1 x).mp (e▸XR hj);have QE:cur.length<14:=by
    have:=RV.bW (x::cur) A (Xo.mpr ⟨hx.2,ZU⟩) λh hh=>by
     rcases We.mp hh with rfl|z
     ·exact NR _ hx.1
     ·exact hcA h z
    rw[Wl]at this;lia
   obtain⟨S2,rs,M,c2⟩:=Sd (k:=k) Bp.J QE (Rt.AR x hx.1) hx.2;refine jk (S1:=S1.set L (.lst ((left.eraseIdx j).map A8))) (aZ (x:= .bl (ai==ai)) (aR (aa rfl) aB (lw (P7 (t:=ai) (t':=ai)))) bD) ?_;simp only[Wr,Wj];refine aC (bG (aa rfl) Bp.J.K.ob rfl (ak (aa rfl) au) c2) rfl ?_;exact fin M (λh hh=>hh) (λh hh=>by
    rcases zv.mp hh with rfl|z
    ·exact NR _ hx.1
    ·exact hcA h z) (hf.P8 hj e)
  |false=>have hx:=(hf.2.2 x).mp (e▸XR hj);obtain⟨S2,rs,M,c2⟩:=V6 (k:=k) Bp.J hx.1 (hgo rfl);refine bR (S1:=S1.set L (.lst ((left.eraseIdx j).map A8))) (aZ (x:= .bl (ay==ai)) (aR (aa rfl) aB (lw (P7 (t:=ay) (t':=ai)))) bD) ?_;simp only[Wr,Wj];refine aC (bG (aa rfl) Bp.J.K.ob rfl (ak (aa rfl) au) c2) rfl ?_;exact fin M (λh hh=>(Wz.mp hh).1) (λh hh=>hcA h (Wz.mp hh).1) (hf.go hj e)
 refine fD (t:=(left[j0].1==ay) && decide ((cur.length:Int)=1)) (S1:=S1) (ue (aZ (x:= .bl _) (aR (aW (x:=A8 left[j0]) (i:=0) (aW (i:=(j0:Int)) (aa rfl) (aa rfl) (Ju hL) (NI (by simp) (by simp[hj0]))) aB bK BD) aB (lw (P7 (t':=ay)))) bD) λ_=>aZ (x:= .bl _) (aR (gO (ak (pR B.J rfl (ir (k:=k+8) B.J.K)) au) EH) aB Bl) bD) (λe=>?_) (λe=>?_)
 ·simp only[Wr,Wj];rw[WT]at e;have e1:left[j0].1=false:=by simpa using e.1
  have e2:(cur.length:Int)=1:=WR e.2;obtain⟨j,hj,z1,z2⟩:=Jv (cl:=ao fns (k+9)) (r:=[af (.ref p),af (.tup (aq tg)),af (.int c),af (.int found),af (.ref L),v5,af (.int j0),v7,v8]) (i:=4) rfl hL (Xg QA) (by
   obtain⟨h,hh⟩:=kN _ Rt.ne;refine⟨h,(hf.2.1 h).mpr ⟨hh,λz=>?_⟩⟩;have hz:=(hf.2.2 left[j0].2).mp (by rw[←e1];exact XR hj0)
   match cur,e2,z,hz.1 with
   |[a],_,z,w=>
    rw[XM]at z w;exact hz.2 (by rw[w,←z];exact hh))
  refine aC z2 rfl ?_;simp only[bS];exact turn j hj λw=>by rw[z1]at w;cases w
 ·simp only[Wj];refine turn j0 hj0 λw=>?_;have:0<cur.length:=List.length_pos_iff.mpr B.J.R.ne;rw[w]at e;have:¬(cur.length:Int)=1:=by simpa using e
  lia
end
section
variable{k:Nat}{S S':bq}{p pk:Nat}{b cp c x:Int}{hs tg A ys:List Int}{q:Int->Nat}{ks:List Int}{u:Int->Option Int}{al:List Int}{rs:List (List Int)}
theorem A5.to(J:A5 al S p pk b cp hs ks q u)(m:∀i,i=p\/i=pk\/(∃h∈ks,i=q h)->S'[i]?=S[i]?):A5 al S' p pk b cp hs ks q u:=⟨J.K.to m,J.pm,J.R,J.D5,J.c1,J.la⟩
theorem A5.push(J:A5 al S p pk b cp hs ks q u)(T:bq):A5 al (S++T) p pk b cp hs ks q u:=⟨J.K.push T,J.pm,J.R,J.D5,J.c1,J.la⟩
def NK{cl:Cl}{r:az}{S1:bq}{a:E}{ns:List Int}(h:aj cl a r S=af (.ok (.lst (aq ns)) S1))(h1:GN ns=ai)(h2:(aq (sortI (dd ns))).length<=aS):aj cl (.sset a) r S=af (.ok (.lst (aq (sortI (dd ns)))) S1):=by show bnd _ _=_;simp only[h,aH,t7,fY,if_pos h1,AX,if_pos h2,bA,Wt,Xd]
def Sg(ns:List Int):(dd ns).length<=ns.length:=RV.bW _ _ (qd ns) λx hx=>jH.mp hx
def Gh(g2:2<=b)(g7:b<=7)(hl:l≠ [])(hr:∀x∈l,0<=x/\x<sz b):AH b (sortI (dd l))/\(∀x,x∈sortI (dd l) ↔ x∈l)/\(sortI (dd l)).length<=l.length:=by
 have hm:∀x,x∈sortI (dd l) ↔ x∈l:=λx=>by rw[(RV.sortI_perm _).mem_iff,jH]
 refine⟨⟨g2,g7,λe=>?_,fQ (qd l),λx hx=>hr x ((hm x).mp hx)⟩,hm,by rw[(RV.sortI_perm _).length_eq];exact Sg l⟩;obtain⟨x,hx⟩:=kN _ hl;rw[←hm x,e]at hx;exact absurd hx (by simp)
def U4(ns:List Int):∃ms:List Int,cutD (ns.map D.int) (af 3) (af 13)=ms.map D.int/\ms.length<=10:=by
 refine⟨(ns.drop (HT.kL ns.length 0 (af 3))).take (HT.kL ns.length ns.length (af 13) - HT.kL ns.length 0 (af 3)),?_,?_⟩
 ·simp only[cutD,Wb,yT,List.map_drop]
 ·rw[YG,Zy];have h1:HT.kL ns.length ns.length (af 13)=min 13 ns.length:=HT.xO _ _ 13;have h2:HT.kL ns.length 0 (af 3)=min 3 ns.length:=HT.xO _ _ 3;lia
def NP:ao fns (k+1) 30 [.int i] S=af (.ok (.bl ai) S):=by refine call_of (fs:=⟨1,1,NG⟩) (S':=S) rfl rfl ?_ (by simp) trivial;unfold NG;simp only[Wh,WW,Wl,WN,br,Wr,Wj,Wm,dP,dQ,WL,Xi];exact aL rfl rfl
theorem tV{α:Type}(inj F:α->D)(P:α->Bool){f:az->bq->Ev D}{g:az->bq->Ev Bool}{caps:az}:∀{xs:List α}{o:Option D}{acc:List D},(∀x∈xs,g (af (inj x)::caps) S=af (.ok (P x) S))->(∀x∈xs,f (af (inj x)::caps) S=af (.ok (F x) S))->
  compLoop f g (.name 0) (xs.map inj) (o::caps) S acc=af (.ok (acc++(xs.filter P).map F) S)
 |[],o,acc,_,_=>by simp[compLoop]|x::xs,o,acc,h,h'=>by
  simp only[Wh,compLoop,bN,bS,h x (by simp),cA,aH];have ih:∀o acc,compLoop f g (.name 0) (xs.map inj) (o::caps) S acc=af (.ok (acc++(xs.filter P).map F) S):=λo acc=>tV inj F P (xs:=xs) (λy hy=>h y (by simp[hy])) (λy hy=>h' y (by simp[hy]));cases e:P x with|true=>simp only[if_true,h' x (by simp),cA,aH];rw[ih];simp[e]|false=>simp only[Wt,Xd];rw[ih];simp[e]
def wZ(hs:List Int)(cp b y:Int):Int:=(rq hs cp (y % sz b)).headD 0
def B8(hs tg:List Int)(cp b y:Int):List (List Int):=((sortI (rq tg cp (y % sz b))).filter λh=>!decide (h∈rq hs cp (y % sz b))).map λh=> [y,1,wZ hs cp b y,h]
def sy:(B8 hs tg cp b y).length=(nw hs tg cp b y).length:=by rw[B8,Wb];exact((RV.sortI_perm _).filter _).length_eq
def j6:r∈B8 hs tg cp b y ↔ ∃h∈nw hs tg cp b y,r=[y,1,wZ hs cp b y,h]:=by rw[B8,Wn];simp only[nw,Wz,(RV.sortI_perm _).mem_iff];exact⟨λ⟨h,hh,e⟩=>⟨h,hh,e.symm⟩,λ⟨h,hh,e⟩=>⟨h,hh,e.symm⟩⟩
def Sh(hP:pP (fV hs cp b u) u b cp A tg rs)(hA:∀h∈tg,h∈A)(tn:tg.Nodup)(EZ:ys.Pairwise (·<·))(hy:∀y,y∈ys ↔ (u y).isSome=ai):((RK.aQ rs).filter pe).map FE=(ys.flatMap (B8 hs tg cp b)).map FE:=by
 have e:((RK.aQ rs).filter pe).map (λr=>(r.getD 0 0,r.getD 3 0))=(ys.flatMap (B8 hs tg cp b)).map λr=>(r.getD 0 0,r.getD 3 0):=by
  refine wN (R:=λa c:Int×Int=>a.1<c.1\/a.1=c.1/\a.2<c.2) (λa c z w=>by lia) ?_ ?_ λz=>?_
  ·rw[W2];refine lI (R:=λa c=>RK.D9 a c/\a≠c) (λ{a c} ha hc z=>?_) (List.pairwise_and_iff.mpr ⟨(RK.oU rs).sublist Ym,((RK.cD rs).nodup_iff.mpr hP.2.1).sublist Ym⟩);obtain⟨y,_,h,_,rfl⟩:=(iW hP hA).mp ha;obtain⟨y',_,h',_,rfl⟩:=(iW hP hA).mp hc;obtain⟨z1,z2⟩:=z;have z1:RK.lexLt [y',1,gv hs A cp b u y',h'] [y,1,gv hs A cp b u y,h]=false:=z1;show y<y'\/y=y'/\h<h';by_cases ey:y'=y
   ·subst ey;have hne:h'≠h:=λw=>z2 (by rw[w]);simp[RK.lexLt,hne]at z1;lia
   ·simp[RK.lexLt,ey]at z1;lia
  ·rw[W2,Zv];refine⟨λy _=>?_,EZ.imp λ{a c} z r1 h1 r2 h2=>?_⟩
   ·rw[B8,W2];exact((fQ (wM tn)).sublist Ym).imp λz=> .inr ⟨rfl,z⟩
   ·obtain⟨_,_,rfl⟩:=j6.mp h1;obtain⟨_,_,rfl⟩:=j6.mp h2;exact .inl z
  ·rw[Wn,Wn];constructor
   ·rintro⟨r,hr,rfl⟩;obtain⟨y,hu,h,hh,rfl⟩:=(iW hP hA).mp hr;exact⟨_,Zz.mpr ⟨y,(hy y).mpr hu,j6.mpr ⟨h,hh,rfl⟩⟩,rfl⟩
   ·rintro⟨r,hr,rfl⟩;obtain⟨y,yy,hr⟩:=Zz.mp hr;obtain⟨h,hh,rfl⟩:=j6.mp hr;exact⟨_,(iW hP hA).mpr ⟨y,(hy y).mp yy,h,hh,rfl⟩,rfl⟩
 have:=Xk (AB λz:Int×Int=>D.tup [.int z.1,.str (word 1),.int z.2]) e;rw[YQ,YQ]at this;exact this
def NQ(hy:(u y).isSome=ai)(R:AH b tg):(tg.filter λh=>(fV tg cp b u h y).isSome)=sortI (rq tg cp (y % sz b)):=
 wO (R.up.sublist Ym) (fQ (wM (bV R.up))) λh=>by rw[Wz,lD hy,(RV.sortI_perm _).mem_iff,decide_eq_true_iff];exact⟨λz=>z.2,λz=>⟨j5 z,z⟩⟩
end
section
variable{k:Nat}{S S':bq}{b cp key v:Int}{hs:List Int}{u:Int->Option Int}{al:List Int}{p1 pl:Nat}{N:List (L2.Key×D)}
def JX(hR:AH b hs)(hl:hs.length<=14)(hc:1<=cp/\cp<=6)(hal:al.length<=10):A5 al (A0 S b hs cp hs) S.length (S.length+1) b cp hs hs (λh=>S.length+2+pos hs h) (λ_=>ah):=by
 have hnd:=bV hR.up;have hk:=Fx (S:=S) (b:=b) (cp:=cp) hnd;have e:∀h,fV hs cp b (λ_=>ah) h=λ_=>none:=λh=>by funext y;exact ite_self ah
 refine⟨⟨hk.ob,hk.kp,λh hh=>⟨[],?_,by rw[e];exact DI.nil⟩,λh hh h' hh' z=>rO hh hh' (by lia),λh hh=>by lia,hnd,hl,λh hh y z=>(by rw[e]at z;cases z),Wa hal (by decide)⟩,λ_=>Iff.rfl,hR,hl,hc,hal⟩;have:=gR hh;unfold A0;rw[Wx (by lia),show S.length+2+pos hs h - S.length=pos hs h+1+1 by lia];simp only[List.getElem?_cons_succ,Yz,if_pos this]
structure E5(al:List Int)(S:bq)(b cp:Int)(hs:List Int)(p1 pl:Nat)(u:Int->Option Int)(N:List (L2.Key×D)):Prop where
 J0:A5 al S 0 1 b cp hs hs (λh=>2+pos hs h) u
 J1:A5 al S p1 (p1+1) b cp hs hs (λh=>p1+2+pos hs h) u
 dk:S[pl]?=af (.dct N)
 KS:rQ N (λy=>(u y).isSome=ai)
 kb:∀y,(u y).isSome=ai->y∈al
 e1:p1=hs.length+2
 e2:pl=2*hs.length+4
def E5.put(T:E5 al S b cp hs p1 pl u N)(hk:key∈al):∃Sa Sb,A5 al (S.set pl (.dct (putD N (.inl key) (.bl ai)))) 0 1 b cp hs hs (λh=>2+pos hs h) u/\ao fns (k+5) 14 [.ref 0,.int key,.int v] (S.set pl (.dct (putD N (.inl key) (.bl ai))))=af (.ok .non Sa)/\
  A5 al Sa p1 (p1+1) b cp hs hs (λh=>p1+2+pos hs h) u/\ao fns (k+5) 14 [.ref p1,.int key,.int v] Sa=af (.ok .non Sb)/\E5 al Sb b cp hs p1 pl (λy=>if y=key then af v else u y) (putD N (.inl key) (.bl ai)):=by
 have e1:=T.e1;have e2:=T.e2;have n0:∀i,i=0\/i=1\/(∃h∈hs,i=2+pos hs h)->i<p1:=λi hi=>by
  rcases hi with rfl|rfl|⟨h,hh,rfl⟩
  ·lia
  ·lia
  ·have:=gR hh;lia
 have n1:∀i,i=p1\/i=p1+1\/(∃h∈hs,i=p1+2+pos hs h)->p1<=i/\i<pl:=λi hi=>by
  rcases hi with rfl|rfl|⟨h,hh,rfl⟩
  ·lia
  ·lia
  ·have:=gR hh;lia
 have J0:=T.J0.to (S':=S.set pl (.dct (putD N (.inl key) (.bl ai)))) λi hi=>Wy (by have:=n0 i hi;lia);have J1:=T.J1.to (S':=S.set pl (.dct (putD N (.inl key) (.bl ai)))) λi hi=>Wy (by have:=n1 i hi;lia);obtain⟨Sa,_,f1,Ja,ca⟩:=JQ (k:=k) (v:=v) J0 hk;have IJ:∀i,p1<=i->Sa[i]?=(S.set pl (.dct (putD N (.inl key) (.bl ai))))[i]?:=λi hi=>f1 i λh hh=>by have:=gR hh;lia
 have TR:=J1.to (S':=Sa) λi hi=>IJ i (n1 i hi).1;obtain⟨Sb,_,f2,Jb,cb⟩:=JQ (k:=k) (v:=v) TR hk;have far2:∀i,i<p1\/i=pl->Sb[i]?=Sa[i]?:=λi hi=>f2 i λh hh=>by have:=gR hh;lia
 refine⟨Sa,Sb,J0,ca,TR,cb,Ja.to λi hi=>far2 i (.inl (n0 i hi)),Jb,?_,⟨wC T.KS.1,wD T.KS.2.1,λy=>?_⟩,λy hy=>?_,e1,e2⟩
 ·rw[far2 pl (.inr rfl),IJ pl (by lia)];exact bZ T.dk
 ·rw[zj,T.KS.2.2,Sum.inl.injEq];by_cases e:y=key<;>simp[e]
 ·by_cases e:y=key
  ·rw[e];exact hk
  ·rw[if_neg e]at hy;exact T.kb y hy
end
section
variable{k:Nat}
def NT:RV.Runs (ao fns (k+10)) K0 [af (.As ns),ah,ah,ah,ah,ah,ah,ah,ah,ah,ah,ah,ah,ah,ah,ah,ah,ah] [] λo=>∃S',o=af (.ret (.bl ai) S'):=by
 obtain⟨c0,hc0⟩:=qP (ns:=ns) (i:=0) (by simp);obtain⟨c1,hc1⟩:=qP (ns:=ns) (i:=1) (by simp);obtain⟨c2,hc2⟩:=qP (ns:=ns) (i:=2) (by simp);obtain⟨ZW,QI⟩:=qP (ns:=ns) (i:=13) (by simp);obtain⟨b,hs,hR,Ù,MI⟩:=FJ (k:=k+8) (S:=[]) (c:=c0) (most:=7) (by simp) (by simp);obtain⟨b',hs',hR',hl7',IP⟩:=FJ (k:=k+8) (S:=[]) (c:=c1) (most:=7) (by simp) (by simp);have hz:=ul hR.b2 hR.b7;have hmx:=jU (c:=c2) (p:=9923) (m:=6) (by simp);obtain⟨cp,ec⟩:∃cp,cp=1+mix c2 9923 6:=⟨_,rfl⟩
 have hc:1<=cp/\cp<=6:=by lia
 obtain⟨ws,NS⟩:∃ws,ws=hs'.map (· % sz b):=⟨_,rfl⟩
 have wr:∀x∈ws,0<=x/\x<sz b:=λx hx=>by rw[NS]at hx;obtain⟨y,_,rfl⟩:=Wn.mp hx;exact⟨kP _ (by lia),iN _ (W4 (by decide) hz.1)⟩
 have wl:ws.length<=7:=by rw[NS,Wb];lia
 obtain⟨Rt,tm,tl⟩:=Gh (l:=ws) hR.b2 hR.b7 (by rw[NS];simpa using hR'.ne) wr;obtain⟨tg,TU⟩:∃tg,tg=sortI (dd ws):=⟨_,rfl⟩
 rw[←TU]at Rt tl;have ZX:GN ws=true:=by simp only[GN,WT,Zq,Xq];exact⟨wl,λx hx=>by have:=wr x hx;lia⟩
 obtain⟨RA,am,TZ⟩:=Gh (l:=hs++tg) hR.b2 hR.b7 (by simp[hR.ne]) λx hx=>(Xa.mp hx).elim (hR.AR x) (Rt.AR x);obtain⟨A,eA⟩:∃A,A=sortI (dd (hs++tg)):=⟨_,rfl⟩
 rw[←eA]at RA am TZ;have lA:A.length<=14:=by rw[WK]at TZ;lia
 have am:∀x,x∈A ↔ x∈hs\/x∈tg:=λx=>by rw[am,Xa]
 have tA:∀h∈tg,h∈A:=λh hh=>(am h).mpr (.inr hh);have MG:=bV Rt.up;have zT:(aq tg).length<=sizeLine:=by simp only[Wb,aS];lia
 obtain⟨ms,ZY,hms⟩:=U4 ns;obtain⟨al,UA⟩:∃al,al=ms.map λc=>mix c 9851 (sz b):=⟨_,rfl⟩
 have QN:al.length<=10:=by rw[UA,Wb];exact hms
 have hnd:=bV hR.up;obtain⟨S1,e1⟩:∃S1,S1=A0 [] b hs cp hs:=⟨_,rfl⟩
 have l1:S1.length=hs.length+2:=by rw[e1];simp[A0]
 obtain⟨S2,e2⟩:∃S2,S2=A0 S1 b hs cp hs:=⟨_,rfl⟩
 have l2:S2.length=2*hs.length+4:=by rw[e2];simp[A0];lia
 have k1:=FN (k:=k+9) (S:=[]) (b:=b) (cp:=cp) hnd (by lia);have k2:=FN (k:=k+9) (S:=S1) (b:=b) (cp:=cp) hnd (by lia);rw[←e1]at k1;rw[←e2]at k2;have J0:=JX (S:=[]) (al:=al) (b:=b) (cp:=cp) hR (by lia) hc QN;have J1:=JX (S:=S1) (al:=al) (b:=b) (cp:=cp) hR (by lia) hc QN;rw[←e1]at J0;rw[←e2]at J1;simp only[WN,WL]at J0;have T0:E5 al (S2++ [SO.dct []]) b cp hs S1.length S2.length (λ_=>ah) []:=⟨by
  have:=J0.push ((SO.ins bL (nW b hs cp (S1.length+1))::SO.dct (xw hs λh=>S1.length+2+pos hs h)::br hs.length (SO.dct []))++ [SO.dct []]);rw[←Yl]at this;rw[e2];exact this,J1.push _,nL _ _,⟨by simp,λkv h=>absurd h (by simp),λy=>by simp⟩,λy h=>(by cases h),l1,l2⟩
 obtain⟨p1,UB⟩:∃p1,p1=S1.length:=⟨_,rfl⟩
 obtain⟨pl,UC⟩:∃pl,pl=S2.length:=⟨_,rfl⟩
 rw[←UB]at T0;rw[←UC]at T0;unfold K0;refine aC (d:=aD b hs) (S1:=[]) (aM (ak (aM (ak (aa rfl) (ak aB au)) (hc0 _ _)) (ak aB au)) MI) rfl ?_;simp only[bS];refine aC (d:= .int (sz b)) (S1:=[]) (fO aB (aW (aa rfl) aB bK BD) (Eu (by have:=hR.b2;have:=hR.b7;lia))) rfl ?_;simp only[bS];refine aC (d:= .tup (aq tg)) (S1:=[]) (dM (fP (x:= .lst (aq tg)) (by
  rw[TU]at zT ⊢;refine NK (ns:=ws) (cU (ds:=aq hs') (S1:=[]) (S2:=[]) (cz (aW (aM (ak (aM (ak (aa rfl) (ak aB au)) (hc1 _ _)) (ak aB au)) IP) aB bK CB)) ?_ (by simp only[Wb,aS];exact Wa wl (by decide))) ZX zT;rw[NS,show aq (hs'.map (· % sz b))=hs'.map λh=>D.int (h % sz b) by simp[X7]];exact jx D.int (λh=>D.int (h % sz b)) (cl:=ao fns (k+10)) (caps:=[af (.int (sz b))]) (xs:=hs') (acc:=[]) λh _=>fO (aa rfl) (aa rfl) (uh (W4 (by decide) hz.1))) eO) zT) rfl ?_
 simp only[bS];refine aC (d:= .int cp) (S1:=[]) (by
  rw[ec];exact fO aB (aM (ak (aM (ak (aa rfl) (ak aB au)) (hc2 _ _)) (ak aB (ak aB au))) (um (k:=k+9) (by simp) (W4 hc.1 hc.2))) ug) rfl ?_
 simp only[bS];refine aC (d:= .lst [.ref 0,.ref p1]) (S1:=S2) (vV (ak (Er (S1:=[]) (ak (aa rfl) (ak (aa rfl) au)) k1) (ak (by rw[UB];exact Er (S1:=S1) (ak (aa rfl) (ak (aa rfl) au)) k2) au)) (by simp[aS])) rfl ?_;simp only[bS];refine aC (d:= .ref pl) (S1:=S2++ [SO.dct []]) (by rw[UC];exact mH) rfl ?_;simp only[bS];refine bF (α:=Int) D.int (xs:=ms) (S1:=S2++ [SO.dct []]) (by rw[←ZY];exact iG (yQ (aa rfl) aB aB JM)) (λzs r S'=>∃u N v7 v8 v9,E5 al S' b cp hs p1 pl u N/\(∀c∈zs,c∈ms)/\r=[af (.As ns),af (aD b hs),af (.int (sz b)),af (.tup (aq tg)),af (.int cp),af (.lst [.ref 0,.ref p1]),af (.ref pl),v7,v8,v9,ah,ah,ah,ah,ah,ah,ah,ah]) ⟨_,_,_,_,_,T0,λc h=>h,rfl⟩ ?_ ?_;rotate_left
 ·rintro c zs r S _ ⟨u,N,v7,v8,v9,Tw,hzs,rfl⟩;have hcm:c∈ms:=hzs c (by simp);obtain⟨key,ek⟩:∃key,key=mix c 9851 (sz b):=⟨_,rfl⟩
  have hk:key∈al:=by rw[ek,UA];exact XS hcm
  obtain⟨Sa,Sb,Ja,ca,Jb,cb,T'⟩:=Tw.put (k:=k+5) (v:=c % 9) hk;obtain⟨_,_,_,_,Lc⟩:=uq Tw.KS.1 Tw.KS.2.1 (λy hy=>Tw.kb y ((Tw.KS.2.2 y).mp hy)) Tw.J0.K.la;simp only[bS];refine aC (d:= .int key) (S1:=S) (by rw[ek];exact aM (ak (aa rfl) (ak aB (ak (aa rfl) au))) (um (k:=k+9) (by simp) (W4 (by decide) hz.1))) rfl ?_;simp only[bS];have ZZ:N.length<sizeLine:=by simp only[aS];exact Wv Lc (by decide)
  refine ji (d:= .bl ai) (x:= .ref pl) (y:= .int key) (S1:=S) (S2:=S) (S3:=S) (S4:=S.set pl (.dct (putD N (.inl key) (.bl ai)))) aB (aa rfl) (aa rfl) (by simp only[RK.putAt,Tw.dk,dG,if_pos ZZ]) ?_;refine bF (α:=Nat) D.ref (xs:=[0,p1]) (S1:=S.set pl (.dct (putD N (.inl key) (.bl ai)))) (iG (aa rfl)) (λws r S'=>(ws=[0,p1]/\S'=S.set pl (.dct (putD N (.inl key) (.bl ai)))\/ws=[p1]/\S'=Sa\/ws=[]/\S'=Sb)/\∃v9,r=[af (.As ns),af (aD b hs),af (.int (sz b)),af (.tup (aq tg)),af (.int cp),af (.lst [.ref 0,.ref p1]),af (.ref pl),af (.int c),af (.int key),v9,ah,ah,ah,ah,ah,ah,ah,ah]) ⟨.inl ⟨rfl,rfl⟩,_,rfl⟩ ?_ ?_
  ·rintro r S' ⟨h|h|h,v9,rfl⟩
   ·cases h.1
   ·cases h.1
   ·rw[h.2];exact aJ ⟨_,_,_,_,_,T',λc h=>hzs c (by simp[h]),rfl⟩
  ·rintro x ws r S' _ ⟨h|h|h,v9,rfl⟩
   ·obtain⟨e,rfl⟩:=h;obtain⟨rfl,rfl⟩:=ZF e;exact bY (bG (aa rfl) Ja.K.ob rfl (ak (aa rfl) (ak (fO (aa rfl) aB (uh (by simp))) au)) ca) (aJ ⟨.inr (.inl ⟨rfl,rfl⟩),_,rfl⟩)
   ·obtain⟨e,rfl⟩:=h;obtain⟨rfl,rfl⟩:=ZF e;exact bY (bG (aa rfl) Jb.K.ob rfl (ak (aa rfl) (ak (fO (aa rfl) aB (uh (by simp))) au)) cb) (aJ ⟨.inr (.inr ⟨rfl,rfl⟩),_,rfl⟩)
   ·cases h.1
 rintro r S ⟨u,N,v7,v8,v9,Tw,_,rfl⟩;have hp1:=Tw.e1;have hpl:=Tw.e2;have Z0:=cL Tw.dk;have J0:=Tw.J0;have J1:=Tw.J1;have hlt1:=J1.K.lt;obtain⟨d,hd,ca⟩:=U0 (k:=k+7) J0.K (λh hh=>hh) J0.D5;obtain⟨fs,ef,GS,fl,_⟩:=uq Tw.KS.1 Tw.KS.2.1 (λy hy=>Tw.kb y ((Tw.KS.2.2 y).mp hy)) J0.K.la;have fl:fs.length<=10:=Wa (RV.bW fs al GS λy hy=>Tw.kb y ((Tw.KS.2.2 y).mp (by rw[ef];exact XS hy))) QN;obtain⟨ys,eys⟩:∃ys,ys=sortI fs:=⟨_,rfl⟩
 have EZ:ys.Pairwise (·<·):=by rw[eys];exact fQ GS
 have hy:∀y,y∈ys ↔ (u y).isSome=true:=λy=>by rw[eys,(RV.sortI_perm _).mem_iff,←zg,←ef];exact Tw.KS.2.2 y
 have hyl:ys.length<=10:=by rw[eys,(RV.sortI_perm _).length_eq];exact fl
 have evs:∀(cl:Cl)(r:az)(S':bq),r[6]?=af (af (.ref pl))->S'[pl]?=af (.dct N)->aj cl (E.col (BS.sorted ay) (It.live (E.var 6))) r S'=af (.ok (.lst (aq ys)) S'):=λcl r S' h1 h2=>by rw[eys];exact fX (ds:=aq fs) (by rw[←uo ef];exact rJ (aa h1) h2) (eQ (Wv fl (by decide))) (by simp only[Wb,(RV.sortI_perm _).length_eq,aS];exact Wa fl (by decide))
 refine aC (aM (ak (aW (aa rfl) aB eO BD) au) ca) rfl ?_;simp only[bS];refine bF (α:=List Int) (λxs=>D.tup (aq xs)) (xs:=[tg++ [sz b],-1::tg]) (S1:=S) (by rw[show[tg++ [sz b],-1::tg].map (λxs=>D.tup (aq xs))=[D.tup (aq tg++ [D.int (sz b)]),D.tup ([D.int (-1)]++aq tg)] by simp];exact iG (vV (ak (fO (aa rfl) (cu (ak (aa rfl) au) (by simp[aS])) (yS (xs:=aq tg) (ys:=[D.int (sz b)]) (by simp only[Wb,Yc,aS];lia))) (ak (fO (cu (ak (Eo aB) au) (by simp[aS])) (aa rfl) (yS (xs:=[D.int (-1)]) (ys:=aq tg) (by simp only[Wb,Yc,aS];lia))) au)) (by simp[aS])))
  (λzs r S'=>S'=S/\(∀xs∈zs,xs=tg++ [sz b]\/xs= -1::tg)/\∃v11,r=[af (.As ns),af (aD b hs),af (.int (sz b)),af (.tup (aq tg)),af (.int cp),af (.lst [.ref 0,.ref p1]),af (.ref pl),v7,v8,v9,af d,v11,ah,ah,ah,ah,ah,ah]) ⟨rfl,λxs h=>by simpa using h,_,rfl⟩ ?_ ?_
 rotate_left
 ·rintro xs zs r S' _ ⟨rfl,hxs,v11,rfl⟩;have hx:=hxs xs (by simp);have À:=Gf (k:=k) (xs:=xs) J0 (by
   rcases hx with rfl|rfl
   ·exact⟨sz b,by simp,by simp⟩
   ·exact⟨-1,by simp,by lia⟩) λh hh=>by
   have hb: -1<=h/\h<=128:=by
    rcases hx with rfl|rfl
    ·rcases Xa.mp hh with z|z
     ·have:=Rt.AR h z;lia
     ·rw[XM.mp z];lia
    ·rcases We.mp hh with z|z
     ·lia
     ·have:=Rt.AR h z;lia
   exact Wv (show h.natAbs<=128 by lia) (by decide+kernel)
  refine bR (S1:=S') (uf (aZ (x:= .bl (ai !=ai)) (aR (aM (ak (aW (aa rfl) aB eO BD) (ak (aa rfl) au)) À) aB wg) bD) (aZ (x:= .bl (!ai)) (aR (aM (ak (aW (aa rfl) aB eO BD) au) ca) (aa rfl) (vZ (lE hd))) bD)) ?_;exact aJ ⟨rfl,λxs h=>hxs xs (by simp[h]),_,rfl⟩
 rintro r S' ⟨rfl,_,v11,rfl⟩;refine aC (d:= .ref S'.length) (S1:=S'++ [SO.lst []]) (jP au (by simp[aS])) rfl ?_;simp only[bS];refine bF (α:=Int) D.int (xs:=ys) (S1:=S'++ [SO.lst []]) (iG (evs _ _ _ rfl (jZ Tw.dk))) (λzs r S2=>∃pre v8 NU IQ,pre++zs=ys/\S2=S'++ [SO.lst ((pre.flatMap (B8 hs tg cp b)).map aG)]/\r=[af (.As ns),af (aD b hs),af (.int (sz b)),af (.tup (aq tg)),af (.int cp),af (.lst [.ref 0,.ref p1]),af (.ref pl),v7,v8,v9,af d,v11,af (.ref S'.length),NU,IQ,ah,ah,ah]) ⟨[],_,_,_,rfl,rfl,rfl⟩ ?_ ?_;rotate_left
 ·rintro y zs r S2 _ ⟨pre,v8,NU,IQ,hp,rfl,rfl⟩;have hol:∀S,ao fns (k+10) 31 [aD b hs,.int y] S=af (.ok (.lst (aq (cN hs (y % sz b)))) S):=λS=>rZ (k:=k+9) hR (by lia);have hdu:∀S,ao fns (k+10) 31 [aD b tg,.int y] S=af (.ok (.lst (aq (cN tg (y % sz b)))) S):=λS=>rZ (k:=k+9) Rt (by lia);simp only[bS];refine aC (wV (aM (ak (aa rfl) (ak (aa rfl) au)) (hol _)) (aa rfl) (W4 (by decide) hc.1)) rfl ?_;simp only[bS];refine aC (wV (aM (ak (cu (ak (aW (aa rfl) aB bK BD) (ak (aa rfl) au)) (by simp[aS])) (ak (aa rfl) au)) (hdu _)) (aa rfl) (W4 (by decide) hc.1)) rfl ?_;simp only[bS];obtain⟨g,t,eg⟩:∃g t,rq hs cp (y % sz b)=g::t:=by
   obtain⟨g,hg⟩:=Ge hR.ne hc.1 (y % sz b);cases e:rq hs cp (y % sz b)with|nil=>rw[e]at hg;cases hg|cons g t=>exact⟨g,t,rfl⟩
  have EH:(B8 hs tg cp b y).length<=6:=by rw[sy];exact mY hc.2
  have hsl:(sortI (rq tg cp (y % sz b))).length<=6:=by rw[(RV.sortI_perm _).length_eq];exact il hc.2
  have hpl:(pre.flatMap (B8 hs tg cp b)).length<=1000:=by
   have:=xE (F:=B8 hs tg cp b) (G:=λy=>(nw hs tg cp b y).length) (λy=>sy) pre;have h2:∀l:List Int,(l.map λy=>((nw hs tg cp b y).length:Int)).sum<=6*l.length:=λl=>by
    induction l with
    |nil=>simp|cons a l ih=>have:=mY (hs:=hs) (tg:=tg) (b:=b) (y:=a) hc.2;simp only[Wh,kG,Wl];lia
   have h3:=h2 pre;have h4:=Xk fR hp;simp at h4;lia
  have hev:aj (ao fns (k+10)) (E.comp ay (E.tup [E.var 1,E.cst (D.str Z4),E.ix (E.var 2) (E.cst (D.int 0)),E.var 0]) (Tg.name 0) (It.seq (E.col (BS.sorted ay) (It.live (E.var 14)))) [T.val (E.cmp (CmpOp.NotIn) (E.var 0) (E.var 2))] 1 [8,13])
    [af (.As ns),af (aD b hs),af (.int (sz b)),af (.tup (aq tg)),af (.int cp),af (.lst [.ref 0,.ref p1]),af (.ref pl),v7,af (.int y),v9,af d,v11,af (.ref S'.length),af (.lst (aq (rq hs cp (y % sz b)))),af (.lst (aq (rq tg cp (y % sz b)))),ah,ah,ah] (S'++ [SO.lst ((pre.flatMap (B8 hs tg cp b)).map aG)])=af (.ok (.lst ((B8 hs tg cp b y).map aG)) (S'++ [SO.lst ((pre.flatMap (B8 hs tg cp b)).map aG)])):=by
   refine cU (ds:=aq (sortI (rq tg cp (y % sz b)))) (iG (fX (ds:=aq (rq tg cp (y % sz b))) (nR (aa rfl)) (eQ (by have:=il (hs:=tg) (x:=y % sz b) hc.2;lia)) (by simp only[Wb,aS];exact Wa hsl (by decide)))) ?_ (by simp only[Wb,aS];exact Wa EH (by decide));rw[B8,YQ];refine tV D.int (λh=>aG [y,1,wZ hs cp b y,h]) (λh=>!decide (h∈rq hs cp (y % sz b))) (caps:=[af (.int y),af (.lst (aq (rq hs cp (y % sz b))))]) (acc:=[]) (λh hh=>jR (aZ (x:= .bl _) (aR (aa rfl) (aa rfl) (lz M9)) bD)) λh _=>?_;refine cu (ak (aa rfl) (ak aB (ak (aW (d:= .int (wZ hs cp b y)) (aa rfl) aB eO ?_) (ak (aa rfl) au)))) (by simp[aS]);rw[wZ,eg];exact BD
  refine bY (d:= .non) (S1:=S'++ [SO.lst (((pre++ [y]).flatMap (B8 hs tg cp b)).map aG)]) ?_ (aJ ⟨pre++ [y],_,_,_,by rw[←hp];simp,rfl,rfl⟩);refine jQ (n:=S'.length) (aa rfl) (nL _ _) (ak hev au) ?_;have Á:((pre.flatMap (B8 hs tg cp b)).map aG).length+((B8 hs tg cp b y).map aG).length<=sizeLine:=by simp only[Wb,aS];lia
  simp only[iu,EU,nA,dg,nL,if_pos Á,bA,j4,rV,ZG,nE,List.flatMap_nil,Wm]
 rintro r S2 ⟨pre,Ú,NU,IQ,hp,rfl,rfl⟩;rw[Wm]at hp;subst hp;obtain⟨rows,er⟩:∃rows,rows=pre.flatMap (B8 hs tg cp b):=⟨_,rfl⟩
 have hrow:(rows.length:Int)=cst hs tg cp b pre:=by rw[er];exact xE (λy=>sy) pre
 have hrl:rows.length<=60:=by
  have h2:∀l:List Int,cst hs tg cp b l<=6*l.length:=λl=>by
   induction l with
   |nil=>simp[cst]|cons a l ih=>have:=mY (hs:=hs) (tg:=tg) (b:=b) (y:=a) hc.2;simp only[cst,Wh,kG,Wl]at*;lia
  have:=h2 pre;lia
 rw[←er];obtain⟨S3,rs,⟨UD,q3,⟨l3,f3,f4⟩,J3,hP⟩,c3⟩:=Jq (k:=k+1) (J0.push [SO.lst (rows.map aG)]) am RA lA Rt;have IJ:∀i,i<S'.length+1->p1<=i->S3[i]?=(S'++ [SO.lst (rows.map aG)])[i]?:=λi h1 h2=>f3 i (by simpa using h1) (by lia) (by lia) λh hh=>by have:=gR hh;show 2+pos hs h≠i;lia
 have NV:S3[pl]?=af (.dct N):=(IJ pl (X6 Z0) (by lia)).trans (jZ Tw.dk);have UE:S3[S'.length]?=af (.lst (rows.map aG)):=(IJ _ (Wc _) (Xg hlt1.1)).trans (nL _ _);have Â:A5 al S3 p1 (p1+1) b cp hs hs (λh=>p1+2+pos hs h) u:=(J1.push [SO.lst (rows.map aG)]).to λi hi=>by
  have hi':p1<=i/\i<S'.length:=by
   rcases hi with rfl|rfl|⟨h,hh,rfl⟩
   ·exact⟨Wc _,hlt1.1⟩
   ·exact⟨WD ..,hlt1.2.1⟩
   ·exact⟨by lia,hlt1.2.2 h hh⟩
  exact IJ i (X6 hi'.2) hi'.1
 have QO:(RK.aQ rs).length<=1000:=by rw[(RK.cD _).length_eq];have:=hP.2.2;lia
 have hform:=tR hP;refine aC (aM (ak (aW (aa rfl) aB eO BD) (ak (aa rfl) au)) c3) rfl ?_;simp only[bS];refine aC (aM (ak (aa rfl) (ak (cu (ak (aW (aa rfl) aB bK BD) (ak (aa rfl) au)) (by simp[aS])) (ak (aa rfl) (ak (dM (fP (evs _ _ _ rfl NV) eO) (by simp only[Wb,aS];exact Wa hyl (by decide))) au)))) (Ny (k:=k+4) hR Rt (by lia) (by lia) hc hyl)) rfl ?_;simp only[bS];refine aC (wW hform QO rfl) rfl ?_;simp only[bS];have Ã:∀r∈rows,∃y g h,r=[y,1,g,h]:=λr hr=>by rw[er]at hr;obtain⟨y,_,hr⟩:=Zz.mp hr;obtain⟨h,_,e⟩:=j6.mp hr;exact⟨y,_,h,e⟩
 have hfr:∀r∈(RK.aQ rs).filter pe,∃y g h,r=[y,1,g,h]:=λr hr=>by obtain⟨y,_,h,_,e⟩:=(iW hP tA).mp hr;exact⟨y,_,h,e⟩
 have hfl:=Xe pe (RK.aQ rs);refine aC (d:= .lst (rows.map FE)) (S1:=S3) (tU (aa rfl) UE (wX (cl:=ao fns (k+10)) Ã (λr=>kE) (λr=>kE)) (by simp only[Wb,aS];exact Wa hrl (by decide))) rfl ?_;simp only[bS];have QU:((RK.aQ rs).filter pe).map FE=rows.map FE:=by rw[er];exact Sh hP tA MG EZ hy
 refine bR (S1:=S3) (aZ (x:= .bl (!ai)) (aR (cU (ds:=((RK.aQ rs).filter pe).map aG) (es:=rows.map FE) (iG (aa rfl)) (by rw[←QU];exact wX (cl:=ao fns (k+10)) hfr (λr=>rfl) (λr=>rfl)) (by simp only[Wb,aS];exact Wa hrl (by decide))) (aa rfl) (vZ (lE (Xq.mpr λd hd=>by
  obtain⟨r,_,rfl⟩:=Wn.mp hd;simp only[FE,plain,ZC,p9,Bool.and_true,ZD];decide+kernel)))) bD) ?_
 simp only[Wj];have IS:=ir (k:=k+9) J3.K;refine bR (S1:=S3) (uf (RJ (u:=ai) (aZ (aM (ak (aa rfl) au) (NP (k:=k+9))) bD)) (uf (aZ (x:= .bl (!decide (cst hs tg cp b pre=(rows.length:Int)))) (aR (aa rfl) (gO (ak (aa rfl) au) (by rw[gn (Ju UE),Wb])) (vZ yV)) (by rw[hrow];simp[bD])) (aZ (x:= .bl (!ai)) (aR (bG (aW (aa rfl) aB eO BD) J3.K.ob rfl au IS) (cu (ak (aW (aa rfl) aB bK BD) (ak (aa rfl) au)) (by simp[aS])) (vZ (lE (by simp only[plain,ZC,p9,Bool.and_true,ZD];exact rY tg)))) bD))) ?_;simp only[Wj];have hk3:pl≠0/\pl≠1/\∀h∈UD,q3 h≠pl:=⟨by lia,by lia,λh hh z=>by
  rcases f4 h hh with⟨w1,w2⟩|w
  ·have:=gR w1;have w2:q3 h=2+pos hs h:=w2;lia
  ·simp at w;lia⟩
 refine pM D.int (xs:=fs) (k:=pl) (aa rfl) NV (uo ef) (λzs r S4=>S4=S3.set pl (.xy N)/\(∀y∈zs,y∈fs)/\∃v8 IQ,r=[af (.As ns),af (aD b hs),af (.int (sz b)),af (.tup (aq tg)),af (.int cp),af (.lst [.ref 0,.ref p1]),af (.ref pl),v7,v8,v9,af d,v11,af (.ref S'.length),NU,IQ,af (.tup ((RK.aQ rs).map aG)),af (.int (cst hs tg cp b pre)),af (.lst (((RK.aQ rs).filter pe).map aG))]) ⟨rfl,λy h=>h,_,_,rfl⟩ ?_ ?_
 ·rintro y zs r S4 ⟨rfl,hzs,v8,IQ,rfl⟩;have Ä:(u y).isSome=true:=(Tw.KS.2.2 y).mp (by rw[ef];exact XS (hzs y (by simp)));have J4:A5 al (S3.set pl (.xy N)) 0 1 b cp tg UD q3 u:=J3.to λi hi=>Wy (by
   rcases hi with rfl|rfl|⟨h,hh,rfl⟩
   ·exact hk3.1
   ·exact hk3.2.1
   ·exact Ne.symm (hk3.2.2 h hh))
  have hkp:=Gg (k:=k+9) (key:=y) J4.K (λh hh=>(J4.pm h).mp hh) J4.D5;rw[NQ Ä Rt]at hkp;have hsl:(sortI (rq tg cp (y % sz b))).length<=6:=by rw[(RV.sortI_perm _).length_eq];exact il hc.2
  have htl:=il (hs:=tg) (x:=y % sz b) hc.2;simp only[bS];refine aC (wV (aM (ak (cu (ak (aW (aa rfl) aB bK BD) (ak (aa rfl) au)) (by simp[aS])) (ak (aa rfl) au)) (rZ (k:=k+9) Rt (by lia))) (aa rfl) (W4 (by decide) hc.1)) rfl ?_;simp only[bS];refine bR (S1:=S3.set pl (.xy N)) (aZ (x:= .bl (!ai)) (aR (bG (aW (aa rfl) aB eO BD) J4.K.ob rfl (ak (aa rfl) au) hkp) (dM (fP (fX (ds:=aq (rq tg cp (y % sz b))) (nR (aa rfl)) (eQ (Wv htl (by decide))) (by simp only[Wb,aS];exact Wa hsl (by decide))) eO) (by simp only[Wb,aS];exact Wa hsl (by decide))) (vZ (lE (rY _)))) bD) ?_;exact aJ ⟨_,_,rfl,rfl,λy h=>hzs y (by simp[h]),_,_,rfl⟩
 rintro r S4 ⟨rfl,_,v8,IQ,rfl⟩;refine⟨N,bZ NV,?_⟩;rw[set_same NV];obtain⟨n,S5,hn,c5⟩:=U3 (k:=k) (c:=ZW) Â Rt lA (λh hh=>(am h).mpr (.inl hh)) tA (bV EZ) λy h=>(hy y).mp h;exact aL (d:= .bl (decide (cst hs tg cp b pre<=n))) (aR (aM (ak (aW (aa rfl) aB eO CB) (ak (aa rfl) (ak (aM (ak (aa rfl) (ak aB au)) (QI _ _)) au))) c5) (aa rfl) RP) ⟨S5,by rw[Xz hn]⟩
end
def U5:ao fns (k+11) 34 [.As ns] []=af (.ok (.bl ai) []):=by have q:=NT (k:=k) (ns:=ns);unfold RV.Runs at q;obtain⟨S',e⟩:=q;exact call_of (fs:=⟨1,18,K0⟩) (S':=S') rfl rfl (show RV.Runs (ao fns (k+10)) K0 [af (.As ns),ah,ah,ah,ah,ah,ah,ah,ah,ah,ah,ah,ah,ah,ah,ah,ah,ah] [] (gf (.bl ai) S') by unfold RV.Runs;exact e) (by simp) trivial
def value:∀ns:List Int,ns.length<=63->∃S,ao fns 11 34 [.As ns] []=af (.ok (.bl ai) S):=λns _=>⟨[],U5 (k:=0)⟩
end K22
namespace PySem.W.Fast
def tw1680634406310313545:=0
def tw7435728116541082182:=0
def tw3561669220536788975:=0
def tw8011175161549432293:=0
def tw5133199047438077835:=0
def tw2364596568528680785:=0
def tw4134158834249194038:=0
def tw4243611920906359065:=0
def tw11419433618791689761:=0
def tw234788255794056424:=0
def tw14753714517630172984:=0
def tw1782028335836825323:=0
def tw15158820739307952034:=0
def tw4865198615699436879:=0
def tw10959095489512458013:=0
def tw3770919441382930270:=0
def tw12192229218388929346:=0
def tw2583896208924188068:=0
def tw6223137534575462498:=0
def tw5717863131806118035:=0
def tw11610051716059925498:=0
def tw9318500650906210171:=0
def tw14204122298402743332:=0
def tw11632514347146066029:=0
def tw15422424705842569218:=0
def tw6905114675602146651:=0
def tw7167005803528942372:=0
def tw5913623841210838190:=0
def tw519581232225547823:=0
def tw736650098735439822:=0
def tw5630750281906034927:=0
def tw12462600002451865778:=0
def tw662425360224483031:=0
def tw5456161601175447940:=0
def tw5112097552235360199:=0
def tw5255834957201758525:=0
def tw11075612964223573497:=0
def tw794709001038320482:=0
def tw7635577088445843373:=0
def tw14793387530466739239:=0
def tw16276244942785134238:=0
def tw12407306576479070284:=0
def tw1404356741337978633:=0
def tw13450247856537789955:=0
def tw17725691803987654954:=0
def tw16920431322863483924:=0
def tw3692710208771413677:=0
def tw10974368435246218177:=0
def tw12196171736488182023:=0
def tw11259558056222938070:=0
def tw9185820938621331677:=0
def tw18069674540113553149:=0
def tw10621902420530933905:=0
def tw2723310096670135417:=0
def tw11545325617127247464:=0
def tw5143912069677703018:=0
def tw8637741464207497019:=0
def tw2792888542097241325:=0
def tw15170264856566076164:=0
def tw12121031854582858137:=0
def tw15303360794188911558:=0
def tw4667483442065683163:=0
def tw2092537449756866444:=0
def tw14650420614426803528:=0
def tw5180629081194733016:=0
def tw8661639279669536935:=0
def tw16891113021873527873:=0
def tw15421924531701460582:=0
def tw6093234389624598562:=0
def tw12641933139836320687:=0
def tw7354407669556535701:=0
def tw17690326183324336578:=0
def tw15250718478680501139:=0
def tw917076526169460762:=0
def tw2821955350994328556:=0
def tw13079460696071824015:=0
def tw13845949494099886023:=0
def tw17829902890895527760:=0
def tw11994508849783786486:=0
def tw1471682954319678991:=0
def tw15379851719497472082:=0
def tw9689104220797889671:=0
def tw8024958613541595402:=0
def tw6873624533904220933:=0
def tw2121673620851656923:=0
def tw579794974955064338:=0
def tw10145292659225773539:=0
def tw3922351837033080953:=0
def tw15759180319454899296:=0
def tw6505515375529848954:=0
def tw17927476990482919099:=0
def tw17221539033705287934:=0
def tw14356828296743623312:=0
def tw14096232737987002656:=0
def tw13374664395250339220:=0
def tw2794000494741841766:=0
def tw4231649173343311028:=0
def tw6229246515188291962:=0
def tw6514249126141949716:=0
def tw14516664013050970516:=0
def tw15770797754082680293:=0
def tw11779885974614347358:=0
def tw8486250050881976082:=0
def tw6488416488718345584:=0
def tw5511238968441312374:=0
def tw4016608209120293062:=0
def tw4586019818289169965:=0
def tw4868093041762456903:=0
def tw8006496694051148360:=0
def tw8142256822589945037:=0
def tw12363343870607283430:=0
def tw141417696023059618:=0
def tw5050947583464933563:=0
def tw2374533783358690276:=0
def tw8846397524511712391:=0
def tw8834781827018136875:=0
def tw15669033055552189597:=0
def tw16261493684274929674:=0
def tw16835459978135956439:=0
def tw12711380607800151848:=0
def tw15725944016270032552:=0
def tw2576455110464381386:=0
def tw6970312912654314435:=0
def tw17108621772652155069:=0
def tw10227109353165143371:=0
def tw11445841390514334235:=0
def tw10983179603994804597:=0
def tw512950829573173940:=0
def tw14969493254789283203:=0
def tw2853937511255548728:=0
def tw6041307849775245074:=0
def tw8363027636948827026:=0
def tw6188627393384912725:=0
def tw12379646444089395304:=0
def tw2469203700672086411:=0
def tw8172945660258877146:=0
def tw12208498703277228867:=0
def tw3396507246814874818:=0
def tw6734984906105958011:=0
def tw11881756817419366208:=0
def tw10746513353203898695:=0
def tw6468522056982961864:=0
def tw15600474349927045196:=0
def tw4101564198960758777:=0
def tw7752225079905854745:=0
def tw13445860241733641478:=0
def tw16684972127674274784:=0
def tw4889616583034508763:=0
def tw1410823730483477822:=0
def tw7464998761176376938:=0
def tw12656222877441098634:=0
def tw2296393768985652162:=0
def tw16834265561056634968:=0
def tw17610123578383861894:=0
def tw2770080505800361970:=0
def tw5305623891871931841:=0
def tw10044248661001227542:=0
def tw7936343243727289352:=0
def tw11909084067667730874:=0
def tw14549642525773097150:=0
def tw6972348077105153416:=0
def tw14152348563693950919:=0
def tw8329314717819195801:=0
def tw5504718107444303238:=0
def tw8433793975236140649:=0
def tw6518580200541945645:=0
def tw2239501257637776592:=0
def tw5576876668407486007:=0
def tw18208347442136788185:=0
def tw6483666719069583382:=0
def tw10573523872577864983:=0
def tw1702613216938039219:=0
def tw15385533251113207214:=0
def tw789323717612316146:=0
def tw4947499781343245501:=0
def tw17448893154562844170:=0
def tw14282400961955149844:=0
def tw14060691583318597083:=0
def tw11257065558693974899:=0
def tw3407341254276490593:=0
def tw17573689564195453256:=0
def tw11827924049545176733:=0
def tw13764120883674425671:=0
def tw2607663423269628907:=0
def tw9714778819744321914:=0
def tw14059932864984086973:=0
def tw11598579108589421354:=0
def tw6938066037552457151:=0
def tw15245321328141323613:=0
def tw6666196638702770721:=0
def tw8196221133756198969:=0
def tw7794150913339474290:=0
def tw16419526507461764396:=0
def tw3520613071201887699:=0
def tw7746069529184235427:=0
def tw2135700639579334298:=0
def tw16775809961231287982:=0
def tw10192089110354369593:=0
def tw17425300011467745005:=0
def tw1858875675775684940:=0
def tw587544369142870963:=0
def tw2666248982833039771:=0
def tw16066501788129590664:=0
def tw4510248334528795335:=0
def tw4061716599735728255:=0
def tw8288525466284878981:=0
def tw10310985349801510366:=0
def tw3866547091833911800:=0
def tw1729306391646405926:=0
def tw15943940881097469005:=0
def tw15423633585398021459:=0
def tw1531644763946486892:=0
def tw3447324213406662572:=0
def tw7678724855377620229:=0
def tw8046017439162088932:=0
def tw720290035099650997:=0
def tw3506964190620485603:=0
def tw11879820781443956270:=0
def tw9279040168698518063:=0
def tw1967374093481082267:=0
def tw17482947006086986058:=0
def tw2676009870220451409:=0
def tw1437965986511872941:=0
def tw9214435741193585005:=0
def tw7371005595911025418:=0
def tw16307641218006469607:=0
def tw1850609548866804712:=0
def tw10553280360802176455:=0
def tw8177456977169041938:=0
def tw4427009437520957353:=0
def tw6988615588007946363:=0
def tw7968071672338724256:=0
def tw11730237410077727989:=0
def tw11720562166145906775:=0
def tw3969805231378238928:=0
def tw3410457533360526080:=0
def tw18410292418346089548:=0
def tw8491636279234014278:=0
def tw14471381559271722366:=0
def tw14711053475146998588:=0
def tw1721784161800829521:=0
def tw10713917582969902217:=0
def tw16697948986895176827:=0
def tw3102143729558510298:=0
def tw3973520335624391433:=0
def tw17225218875070427909:=0
def tw18264133210278901362:=0
def tw16727861879246336640:=0
def tw8727174815681759213:=0
def tw4288610168709990058:=0
def tw4763106872485779146:=0
def tw6243310565401054963:=0
def tw15220929158616757794:=0
def tw14976221142517914279:=0
def tw11610706945029723365:=0
def tw17791177320217127127:=0
def tw8572529375550353690:=0
def tw16521256102429732550:=0
end PySem.W.Fast
namespace K22
open PySem L2 RK
def walk{l:p5}{d:DefRec}{K:Params->aT}(hn:l.most=af 63)(hdf:d.params.defaults=[])(hnm:d.name= "law")(hY:∀(w:cy)(h:dc),YP w h->(K w.params).In h)(hA:∀w:cy,lu (K w.params) E8.defs)(hB:∀w:cy,vK (K w.params) E8.bl)(hC:∀w:cy,Me (K w.params) E8.ct)(hX:∀w:cy,vA (K w.params) E8.xc)(hK:∀w:cy,qI (K w.params) E8.defs E8.cls):
  yv q loose XP YP l.row.toRowW d [] (λf vs=>xS f vs):=
 L2.xU (n:=63) (k:=2*11) (x:= "_law_script") (CX:=λw=>A6 l.prog w) (sp:=λw=>Bh (K w.params) fns 11 34) hn (by decide) hdf ⟨rfl,by decide,by decide,rfl⟩ hY
  (λw mg fa h KX G hmg=>Rv (p:=E8) (st:=top 33) KX G (by rw[←hnm];exact hmg) (hA w) (hB w) (hC w) (hX w) (hK w) fits rfl rfl)
  (λw H a ns hl hO hS=>MT value H a ns hl hO hS) λ_ _ _ _ _ z=>Em z
end K22
set_option hygiene true
local macro_rules
|`(tactic|ext Q0)=>`(tactic|(refine' RK.MP ?a;(case a=>k_is)))|`(tactic|ext Q1)=>`(tactic|(refine' RK.EJ ?a ?b ?c ?d;(case a=>k_is);(case b=>k_is);(case c=>k_is);(case d=>k_is)))|`(tactic|ext Q2)=>`(tactic|(refine' RK.Ia ?a ?b ?c ?d ?e;(case a=>k_is);(case b=>k_is);(case c=>k_is);(case d=>k_is);(case e=>k_is)))|`(tactic|ext Q3)=>`(tactic|(refine' RK.bC ?a ?b ?c ?d ?e;(case a=>k_is);(case b=>k_is);(case c=>k_is);(case d=>k_is)))|`(tactic|ext Q4)=>`(tactic|(refine' RK.Rp ?a ?b ?c ?d ?e ?f ?g ?h;(case a=>k_is);(case b=>k_is);(case c=>k_is);(case d=>rfl);(case e=>rfl);(case f=>rfl);(case g=>rfl)))|`(tactic|ext Q5)=>`(tactic|(refine' RK.tail_cons ?a ?b ?c ?d ?e;(case a=>k_is);(case b=>k_is);(case c=>k_is);(case d=>rfl)))
open PySem PySem.W PyProof.Rows
set_option maxRecDepth 100000 in
set_option maxHeartbeats 0 in
theorem PySem.Challenge.cw_ringkeep_k22_whole_changes_at_once_holds : PySem.Challenge.rw_ringkeep_k22_whole_changes_at_once.Holds := by
 w_on;o_law;k_head;(case hw=>w_witness2)
 k_fill
 refine K22.walk (l:=PySem.Challenge.rw_ringkeep_k22_whole_changes_at_once) rfl rfl rfl (λw h Y=>PySem.W.kIn_of Y) ?A ?B ?C ?X ?K
 case A=>
  intro w;refine' (RK.bu ?d0 (RK.bu ?d1 (RK.bu ?d2 (RK.bu ?d3 (RK.bu ?d4 (RK.bu ?d5 (RK.bu ?d6 (RK.bu ?d7 (RK.bu ?d8 (RK.bu ?d9 (RK.bu ?d10 (RK.bu ?d11 (RK.dI rfl (RK.dI rfl (RK.dI rfl (RK.dI rfl (RK.dI rfl (RK.dI rfl (RK.dI rfl (RK.dI rfl (RK.dI rfl (RK.dI rfl (RK.dI rfl (RK.bu ?d23 (RK.bu ?d24 (RK.bu ?d25 (RK.bu ?d26 (RK.bu ?d27 (RK.bu ?d28 (RK.bu ?d29 (RK.bu ?d30 (RK.bu ?d31 (RK.bu ?d32 (RK.bu ?d33 (RK.bu ?d34 RK.Ig)))))))))))))))))))))))))))))))))))
  case d0=>(show RK.AV _ "power_of_two" (K22.top 6));ext Q3;exact λ_ _ _ _ _ _=>RK.lr (λ_=>rfl)
  case d1=>(show RK.AV _ "count_spots" (K22.top 7));ext Q3;exact λ_ _ _ _ _ _=>RK.lr (λ_=>rfl)
  case d2=>(show RK.AV _ "home_place" (K22.top 8));ext Q3;exact λ_ _ _ _ _ _=>RK.eG (λ_ _=>rfl)
  case d3=>(show RK.AV _ "holders" (K22.top 9));ext Q3;exact λ_ _ _ _ _ _=>RK.pH (λ_ _ _=>rfl)
  case d4=>(show RK.AV _ "must_be_spot" (K22.top 10));ext Q3;exact λ_ _ _ _ _ _=>RK.eG (λ_ _=>rfl)
  case d5=>(show RK.AV _ "came" (K22.top 11));ext Q3;exact λ_ _ _ _ _ _=>RK.eG (λ_ _=>rfl)
  case d6=>(show RK.AV _ "went" (K22.top 12));ext Q3;exact λ_ _ _ _ _ _=>RK.eG (λ_ _=>rfl)
  case d7=>(show RK.AV _ "kept_keys" (K22.top 14));ext Q3;exact λ_ _ _ _ _ _=>RK.lr (λ_=>rfl)
  case d8=>(show RK.AV _ "first_keeper" (K22.top 15));ext Q3;exact λ_ _ _ _ _ _=>RK.pH (λ_ _ _=>rfl)
  case d9=>(show RK.AV _ "lines_of_key" (K22.top 16));ext Q3;exact λ_ _ _ _ _ _=>RK.Ie (λ_ _ _ _=>rfl)
  case d10=>(show RK.AV _ "rising_pairs" (K22.top 17));ext Q3;exact λ_ _ _ _ _ _=>RK.lr (λ_=>rfl)
  case d11=>(show RK.AV _ "hand_over" (K22.top 18));ext Q3;exact λ_ _ _ _ _ _=>RK.eG (λ_ _=>rfl)
  case d23=>(show RK.AV _ "all_kept" (K22.top 21));ext Q3;exact λ_ _ _ _ _ _=>RK.lr (λ_=>rfl)
  case d24=>(show RK.AV _ "change" (K22.top 22));ext Q3;exact λ_ _ _ _ _ _=>RK.eG (λ_ _=>rfl)
  case d25=>(show RK.AV _ "count_new_holders" (K22.top 23));ext Q3;exact λ_ _ _ _ _ _=>RK.Ie (λ_ _ _ _=>rfl)
  case d26=>(show RK.AV _ "least_moves" (K22.top 24));ext Q3;exact λ_ _ _ _ _ _=>RK.Ie (λ_ _ _ _=>rfl)
  case d27=>(show RK.AV _ "_law_cell" (K22.top 26));ext Q3;exact λ_ _ _ _ _ _=>RK.eG (λ_ _=>rfl)
  case d28=>(show RK.AV _ "_law_mix" (K22.top 27));ext Q3;exact λ_ _ _ _ _ _=>RK.pH (λ_ _ _=>rfl)
  case d29=>(show RK.AV _ "_law_ring" (K22.top 28));ext Q3;exact λ_ _ _ _ _ _=>RK.eG (λ_ _=>rfl)
  case d30=>(show RK.AV _ "_law_whole" (K22.top 29));ext Q3;exact λ_ _ _ _ _ _=>RK.lr (λ_=>rfl)
  case d31=>(show RK.AV _ "_law_order" (K22.top 30));ext Q3;exact λ_ _ _ _ _ _=>RK.eG (λ_ _=>rfl)
  case d32=>(show RK.AV _ "_law_refused" (K22.top 31));ext Q3;exact λ_ _ _ _ _ _=>RK.eG (λ_ _=>rfl)
  case d33=>(show RK.AV _ "_law_one_by_one" (K22.top 32));ext Q3;exact λ_ _ _ _ _ _=>RK.pH (λ_ _ _=>rfl)
  case d34=>(show RK.AV _ "law" (K22.top 33));ext Q3;exact λ_ _ _ _ _ _=>RK.lr (λ_=>rfl)
 case B=>
  intro w;refine⟨?z0,?z1,?z2,?z3,?z4,?z5,?z6,?z7,?z8,?z9,?z10,?z11,?z12,?z13,trivial⟩
  all_goals k_is
 case C=>exact λ_=>trivial
 case X=>
  intro w;refine' RK.Ur [?xC0] ⟨⟨?xa0,?xe0,⟨?xp0,?xq0,?xr0,?xs0,?xt0,?xu0,?xw0⟩,?xv0,⟨⟨?xn0_0,?xk0_0,?xm0_0⟩,trivial⟩⟩,trivial⟩
  case xa0=>k_is
  case xe0=>ext Q4;ext Q5;exact RK.Eh
  case xp0=>k_is
  case xq0=>k_is
  case xr0=>k_is
  case xs0=>k_is
  case xt0=>k_is
  case xu0=>k_is
  case xw0=>k_is
  case xv0=>(show PySem.W.kitOne _ _ _=some true);ext Q0
  case xn0_0=>k_is
  case xk0_0=>(show PySem.W.kitOne _ _ _=some true);ext Q1
  case xm0_0=>(show PySem.W.exmOne _ _ _=some true);ext Q2
 case K=>
  intro w;refine' ⟨⟨?kC0,?kn0,⟨?kp0,?kh0,?ko0,?ks0⟩,⟨?kf0_0,?kf0_1,?kf0_2,trivial⟩,⟨?km0_0,?km0_1,?km0_2,?km0_3,?km0_4,?km0_5,?km0_6,?km0_7,?km0_8,?km0_9,?km0_10,trivial⟩⟩,trivial⟩
  case kn0=>k_is
  case kp0=>k_is
  case kh0=>k_is
  case ko0=>k_is
  case ks0=>k_is
  case kf0_0=>(show PySem.W.findIn _ _ _=some none);k_is
  case kf0_1=>(show PySem.W.findIn _ _ _=some none);k_is
  case kf0_2=>(show PySem.W.findIn _ _ _=some none);k_is
  case km0_0=>(refine' RK.fM (d:=⟨"__init__",L2.inClass (K22.top 19) 0, "Keep.__init__"⟩) rfl ?ma0_0 ?ml0_0 ?mc0_0 ?mk0_0 ?mg0_0 ?mb0_0 (.inr ⟨?my0_0,?mz0_0⟩));(case ma0_0=>k_is);(case ml0_0=>k_is);(case mc0_0=>k_is);(case mk0_0=>k_is);(case mg0_0=>k_is);(case mb0_0=>exact λ_ _ _ _ _ _=>RK.pH (λ_ _ _=>rfl));(case my0_0=>k_is);(case mz0_0=>k_is)
  case km0_1=>(refine' RK.fM (d:=⟨"ring",L2.inClass (K22.top 19) 1, "Keep.ring"⟩) rfl ?ma0_1 ?ml0_1 ?mc0_1 ?mk0_1 ?mg0_1 ?mb0_1 (.inl rfl));(case ma0_1=>k_is);(case ml0_1=>k_is);(case mc0_1=>k_is);(case mk0_1=>k_is);(case mg0_1=>k_is);(case mb0_1=>exact λ_ _ _ _ _ _=>RK.lr (λ_=>rfl))
  case km0_2=>(refine' RK.fM (d:=⟨"put",L2.inClass (K22.top 19) 2, "Keep.put"⟩) rfl ?ma0_2 ?ml0_2 ?mc0_2 ?mk0_2 ?mg0_2 ?mb0_2 (.inl rfl));(case ma0_2=>k_is);(case ml0_2=>k_is);(case mc0_2=>k_is);(case mk0_2=>k_is);(case mg0_2=>k_is);(case mb0_2=>exact λ_ _ _ _ _ _=>RK.pH (λ_ _ _=>rfl))
  case km0_3=>(refine' RK.fM (d:=⟨"has",L2.inClass (K22.top 19) 4, "Keep.has"⟩) rfl ?ma0_3 ?ml0_3 ?mc0_3 ?mk0_3 ?mg0_3 ?mb0_3 (.inl rfl));(case ma0_3=>k_is);(case ml0_3=>k_is);(case mc0_3=>k_is);(case mk0_3=>k_is);(case mg0_3=>k_is);(case mb0_3=>exact λ_ _ _ _ _ _=>RK.eG (λ_ _=>rfl))
  case km0_4=>(refine' RK.fM (d:=⟨"keepers",L2.inClass (K22.top 19) 5, "Keep.keepers"⟩) rfl ?ma0_4 ?ml0_4 ?mc0_4 ?mk0_4 ?mg0_4 ?mb0_4 (.inl rfl));(case ma0_4=>k_is);(case ml0_4=>k_is);(case mc0_4=>k_is);(case mk0_4=>k_is);(case mg0_4=>k_is);(case mb0_4=>exact λ_ _ _ _ _ _=>RK.eG (λ_ _=>rfl))
  case km0_5=>(refine' RK.fM (d:=⟨"mend_toward",L2.inClass (K22.top 19) 6, "Keep.mend_toward"⟩) rfl ?ma0_5 ?ml0_5 ?mc0_5 ?mk0_5 ?mg0_5 ?mb0_5 (.inl rfl));(case ma0_5=>k_is);(case ml0_5=>k_is);(case mc0_5=>k_is);(case mk0_5=>k_is);(case mg0_5=>k_is);(case mb0_5=>exact λ_ _ _ _ _ _=>RK.eG (λ_ _=>rfl))
  case km0_6=>(refine' RK.fM (d:=⟨"come",L2.inClass (K22.top 19) 8, "Keep.come"⟩) rfl ?ma0_6 ?ml0_6 ?mc0_6 ?mk0_6 ?mg0_6 ?mb0_6 (.inl rfl));(case ma0_6=>k_is);(case ml0_6=>k_is);(case mc0_6=>k_is);(case mk0_6=>k_is);(case mg0_6=>k_is);(case mb0_6=>exact λ_ _ _ _ _ _=>RK.eG (λ_ _=>rfl))
  case km0_7=>(refine' RK.fM (d:=⟨"go",L2.inClass (K22.top 19) 9, "Keep.go"⟩) rfl ?ma0_7 ?ml0_7 ?mc0_7 ?mk0_7 ?mg0_7 ?mb0_7 (.inl rfl));(case ma0_7=>k_is);(case ml0_7=>k_is);(case mc0_7=>k_is);(case mk0_7=>k_is);(case mg0_7=>k_is);(case mb0_7=>exact λ_ _ _ _ _ _=>RK.eG (λ_ _=>rfl))
  case km0_8=>(refine' RK.fM (d:=⟨"move_to",L2.inClass (K22.top 19) 10, "Keep.move_to"⟩) rfl ?ma0_8 ?ml0_8 ?mc0_8 ?mk0_8 ?mg0_8 ?mb0_8 (.inl rfl));(case ma0_8=>k_is);(case ml0_8=>k_is);(case mc0_8=>k_is);(case mk0_8=>k_is);(case mg0_8=>k_is);(case mb0_8=>exact λ_ _ _ _ _ _=>RK.eG (λ_ _=>rfl))
  case km0_9=>(refine' RK.fM (d:=⟨"gather",L2.inClass (K22.top 19) 11, "Keep.gather"⟩) rfl ?ma0_9 ?ml0_9 ?mc0_9 ?mk0_9 ?mg0_9 ?mb0_9 (.inl rfl));(case ma0_9=>k_is);(case ml0_9=>k_is);(case mc0_9=>k_is);(case mk0_9=>k_is);(case mg0_9=>k_is);(case mb0_9=>exact λ_ _ _ _ _ _=>RK.eG (λ_ _=>rfl))
  case km0_10=>(refine' RK.fM (d:=⟨"leave",L2.inClass (K22.top 19) 13, "Keep.leave"⟩) rfl ?ma0_10 ?ml0_10 ?mc0_10 ?mk0_10 ?mg0_10 ?mb0_10 (.inl rfl));(case ma0_10=>k_is);(case ml0_10=>k_is);(case mc0_10=>k_is);(case mk0_10=>k_is);(case mg0_10=>k_is);(case mb0_10=>exact λ_ _ _ _ _ _=>RK.eG (λ_ _=>rfl))
