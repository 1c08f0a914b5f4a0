import PyProof.Rows.All
import Wide.All
import OpenK.AllK
import Wide.FinOn
import Lean
import PyProof.EqAt
import PyProof.EqKinds
import PyProof.TupleCall
import KE.KIntText
import KE.KDictList
import PyProof.StationsW
import PyProof.ExcClass2
import OpenK.KRaise
import OpenK.KOwn
import KE.KTryMore
import PyProof.NsDelKeeps
import PyProof.Rows.Catch
import PyProof.ExcArgs
import PyProof.AttrMissHeap
import KE.KDictOf
import PySem.Challenge.RW_dykelengths_k13_why_rows_are_idle
set_option linter.all false
set_option maxRecDepth 100000
set_option Elab.async false
set_option maxHeartbeats 16000000
noncomputable section
local macro_rules
|`(tactic|omega)=>`(tactic|lia)
local macro_rules
|`(tactic|decide)=>`(tactic|decide +kernel)
open PySem renaming wpAny_bind→Aa,Value→Ad,wpAny_pure→Ae,Shared→Af,Addr→Ag,Program→AD,wpAny_ite_false→AR,Around→AS,World→AV,boot_len→AW,FuncData→A3,PyData→A8,Expr→Ba,Heap→Bi,wpAny_holding→Bj,wpAny_call_entry→Bz,wpAny_newObj_type→BJ,strKind→BP,mem_of_lookup→BT,wpAny_ite_true→BZ,sizeLine_eq→B0,Paired→Ce,wpAny_rule→Ch,wpAny_callSpecial?_slot→Cj,wpAny_typeOf→Cn,Stmt→Co,codeAny_builtin→Cp,wpAny_mono→Cv,wpAny_truthy_bool→CY,Scope→C1,wpAny_setField→C3,wpAny_isInstance→C4,SetTable→C5,wpAny_Call_Name_kw→Dc,wpAny_passesOwn→Dh,wpAny_setState_of→Dp,wpAny_askSetting→DA,wpAny_setEntries_of→DH,wpAny_newList→DN,wpAny_attempt→DO,plainId_quiet→DP,tupleKind_room_in1→D5,wpAny_getItem_str_slice→D8,wpAny_pyIter_list→D9,codeAny_mono→Ea,NameKind→Ec,wpAny_typeNameOfWhole_keyiter→Ep,sizeLine_eq→Er,Arguments→EN,wpAny_fieldsOf→EO,call_meets→EQ,wpAny_of_eq→E3,fits_of_scanBound→E4,wpAny_typeNameOf_keyiter→Fa,wpAny_standAt→Fb,wpAny_call→Fk,Keyword→Fr,IsPart→Fs,wpAny_loadPart'→Ft,wpAny_execs_nil→Fu,post_val_or_str→Fv,wpAny_pyIter_slot→F8,GenState→Gk,BindsTo→Gm,noFill_tuple_add→Gp,Fin→Gu,wpAny_specialOf→Gx,Within→Gy,wpAny_runValue→GF,wpAny_newTuple→GG,wpAny_load→GK,typeIs_str→GQ,typeIs_int→GT,isSubtype_stop→GX,Result→G7,Model→G8,seq_tuple_add→Hd,call→He,concat_meets→Hh,call_meetsIn→Hj,ItemsOf→Hm,wpAny_field→Hn,seqIndex_of→Ho,CmpOp→Ht
open List renaming length_map→Ab,getElem?_eq_getElem→Aj,mem_cons→Ak,mem_cons_self→Al,mem_cons_of_mem→An,getElem?_map→Ao,not_mem_nil→Ap,size_toArray→Aq,map_cons→Au,map_append→Aw,getElem?_eq_some_iff→Ax,length_append→Ay,take_add_one→AC,mem_singleton→AE,take_length→AH,length_cons→AI,mem_of_getElem?→AK,length_take→AM,mem_append_right→AN,mem_append→AO,mem_map→AQ,range→AU,append_assoc→AX,nodup_cons→AY,all_eq_true→A2,mem_map_of_mem→Bg,take_of_length_le→Bk,replicate→Bm,getElem?_eq_none→Bo,nodup_append→Bw,mem_filter→BD,lookup_cons→BE,filter_cons→BF,any_eq_true→BG,mem_append_left→BH,foldl_cons→BL,append_nil→BM,getElem_mem→BO,take_append_drop→BW,length_filter_le→BX,mem_of_mem_take→B2,sum_cons→B5,length_drop→B6,length→Cg,mem_range→Ck,getElem?_take→Cq,getElem?_of_mem→Ct,length_set→Cz,replicate_succ→CB,getElem?_append_right→CH,filter_append→CI,perm_append_comm→CJ,length_singleton→CK,dropLast_eq_take→CL,getElem?_append_left→CO,mem_of_mem_drop→CQ,map_nil→CS,length_dropLast→CT,forIn_cons→C8,any_cons→Da,foldl_append→Dd,lookup→Dk,length_eraseIdx_of_lt→Dl,getD_eq_getElem?_getD→Dm,mem_or_eq_of_mem_set→Dw,range_succ→DB,of_mem_zip→DC,find?_cons→DD,reverse_perm→DT,nodup_nil→DU,flatten_cons→DV,ext_getElem?→DW,drop_zero→DX,drop_eq_nil_of_le→DY,exists_mem_of_length_pos→Ef,filter_nil→Eh,dropLast_concat_getLast→Ei,filterMap_cons→El,perm_append_comm_assoc→Em,nodup_iff_pairwise_ne→Ey,drop_eq_getElem_cons→EF,filter→EJ,getLast_mem→EU,map_map→E5,length_pos_of_mem→E6,getElem?_set_self→E7,filter_eq_nil_iff→E8,mem_iff_getElem→Fh,drop_drop→Fi,dropLast_subset→Fj,length_reverse→Fx,mem_filterMap→FB,reverse_cons→FT,map_set→FU,map_dropLast→FV,length_range→FW,zipIdx_cons→F2,range'→F6,forIn_nil→Gn,foldl→Go,map_take→Gv,all_cons→Gw,take→Gz
open Sum renaming inr→Ac,inl→Cm
open PySem.W renaming Frag→Ah,keepIn→AT,nsIn→A4,mg_none_of→Bb,findIn→Bv,fnOf→BK,codeIn→BR,mg_of→B9,kia_one→Cb,emptyDict→Ci,instObj→CM,hasDictIn→Ew,plainGet→EH,kitOne→Fd,callWith_K→Fq,plainOver→Fy,methodObj→Fz,codeHdIn→FK,takerIn→FX,makesIn→FZ,OpenLaw→F0,lookIn→F5,isFn→Gr,codeHd_of_K→Hq
open PySem.Heap renaming get?_push_of_some→Ai,lt_size→Ar,get?_push_size→At,get?_update_ne→BV,get?_update_self→BY,size_push→B3,size_update→CG,SameBut→Dr,get?_update_other→DZ,get?_push_ne→EK
open Nat renaming le_refl→Am,ne_of_lt→AA,le_trans→AG,lt_of_lt_of_le→AZ,zero_le→Bc,lt_succ_of_lt→By,lt_of_le_of_lt→BS,lt_succ_self→Cr,lt_irrefl→CD,le_succ→CF,le_succ_of_le→Df,ne_of_gt→Du,le_of_lt→Dv,add_sub_cancel_left→DL,min_le_left→Ej,min_eq_left→Ek,le_of_eq→Es,lt_trans→Fe,sub_zero→F1,mod_lt→Gs
open Or renaming inl→Av,inr→DK
open PyProof.Rows renaming wpS_bind→Az,wpS_pure→AJ,SortSt→Bl,Keyed→BN,slot_tuple_getitem→BU,wpS_forRange→B8,wpS_modify→CP,wpS_mono→C2,listUpdate_at→Di,SortKind→Dy,StrsAre→Eb,boot_sum→EE,wpS_get→EG,AllBare→EL,IsTup→E9,plain_sorted→Fl,entry_sorted→Fn,wpS_lift→FF,seqEpoch_at→FG,kind_sorted→FH,args_list_sort→FJ,size_push'→F3,assignInOrder_cons→F4,listItems_at→F9,args_sorted1→Ga,IntsAre→Gf,sortedHeap_old→GV,sortedHeap_at→Hc,collect_list→Hi
open Bool renaming false_ne_true→AB,and_eq_true→Bu,false_eq_true→Cd,eq_iff_iff→CA,and_false→D0,true_and→EM
open PySem.Value renaming ref→AF,int→Bq,type→Br,str→BA,none→CU,isStrOf_shape→Fo,isStrOf→Fw,bool→Gc,float→GZ
open Option renaming map_eq_some_iff→AL,isSome_iff_exists→A7,some→Cc,map_some→EY,isSome_map→FA
open PySem.F renaming plainAttrs_list→A0,type_list_append→Bs,slot_list_append→Bt,slot_dict_keyiterator_next→Dz,type_list_pop→DR,slot_list_pop→DS,args_tuple_add_2→EC,called_set→ED,entry_tuple_add→EI,slot_tuple_add→ER,plain_list_iadd→EV,slot_dict_get→EW,slot_list_getattribute→E1
open Array renaming toList_append→A1,perm_iff_toList_perm→Bd,length_toList→Bf,getElem?_eq_getElem→BQ,getElem?_toList→Ca,toList_push→Cw,mapM_eq_mapM_toList→Dt,toList_reverse→Ee
open PySem.Obj renaming mapSeq→A5,data_mapFields→Cf,isFreed_of_fields→CN,mapFields→ES,putSet→Hl
open Int renaming toNat_natCast→A6,le_refl→CV,mul_le_mul_of_nonneg_right→C0,lt_of_le_of_lt→C6,emod_nonneg→DF,ediv_nonneg→DG,emod_lt_of_pos→DI,toNat_of_nonneg→En,zero_add→Et,natCast_add→Gi,ofNat_lt→G9,ofNat→Hr
open PySem.PyData renaming hasDictAll→A9,keyHash→Bp,str→BC,shown→Dj,hasDict→DJ,strOk→Eg,depth→ET,showable→EX
open PySem.PassesOwn renaming never→Be
open PySem.NameKind renaming free→Bh,cell→D7
open PySem.Str renaming ofString→Bn,length_append→D6
open List.Perm renaming append_left→Bx,append_right→CZ,trans→Dq,refl→EZ
open PySem.Paired renaming length→BB
open PySem.Heap.SameBut renaming update→BI
open PySem.Around renaming under_plainId→B1,under→FC
open Ne renaming symm→B4
open False renaming elim→B7
open ForInStep renaming yield→Cs
open PySem.Builtin.List renaming listExtendWith→Cu,listItems→CW,listTooLong→Dg,listUpdate→Eo
open True renaming intro→Cy
open PySem.SetTable renaming fresh→CC,grown→Db,below→DE
open PyProof.Rows.F renaming plain_set_update_loop→C7
open PySem.Builtin.Slice renaming slicePlaces→C9,sliceAdjust→Ed
open PySem.Builtin.Tuple renaming tupleExact→De
open List.Sublist renaming nodup→Dn
open Array.Perm renaming refl→Do
open PySem.Calls renaming call_function_entry→Ds,callWith_builtin→DQ,spliced_cons→Eu,evalArgs_plain→Fg,spliced_nil→FQ
open List.Nodup renaming length_le_of_subset→DM
open PySem.Txt renaming slice→Ev,slice_le→Fc
open PySem.Data renaming set→Ez,seq→EA
open PySem.SeqAt.EqAt renaming str_str→Ff
open PySem.Shared renaming TypeIs→Fp
open Prod renaming ext→FS
open PyProof.Rows.SortSt renaming mk'→F7
open PySem.Walks renaming list→Gb,toS→Hk
open PySem.SeqAt renaming EqAt→Gd
open PySem.Moved renaming mono→Ge
open PySem.Code renaming isFrame→GB
open PySem.Flow renaming ret→Hb
open PUnit renaming unit→Hf
open Except renaming ok→Hg
open Iff renaming trans→Hs
theorem Ia{c:Prop}{h:Decidable c}(n:¬c){α:Sort u}{t e:α}:ite c t e=e:=if_neg n
theorem Ib{c:Prop}{h:Decidable c}(n:c){α:Sort u}{t e:α}:ite c t e=t:=if_pos n
theorem Ic{p:Prop}[s:Decidable p](h:p):decide p=true:=decide_eq_true h
theorem Ie{p:Prop}[s:Decidable p](h:decide p=true):p:=of_decide_eq_true h
theorem Ig{α:Sort u}{β:Sort v}{γ:Sort w}{f:α→β→γ}:∀a b,f a b=f a b:=fun _ _=>rfl
abbrev Ih:=List (PySem.Addr×PySem.Obj)
namespace L2
open PySem PySem.Spec PyProof.Rows
inductive Ex3{α β γ:Type}(p:α→β→γ→Prop):Prop
 | mk (a:α) (b:β) (c:γ) (h:p a b c):Ex3 p
inductive Aw3(a b c:Prop):Prop
 | mk (h:a) (i:b) (j:c):Aw3 a b c
inductive Aw6(a b c d e f:Prop):Prop
 | mk (h:a) (i:b) (j:c) (k:d) (l:e) (m:f):Aw6 a b c d e f
theorem aCY{α:Type}{q:List α}(h:q.length=1):∃ F,q=[F]:=by
 cases q with
 | nil=>simp at h
 | cons F G=>
  cases G with
  | nil=>exact⟨F,rfl⟩
  | cons _ _=>simp at h
theorem jY{α:Type}{q:List α}(h:q.length=2):∃ F a1,q=[F,a1]:=by
 cases q with
 | nil=>simp at h
 | cons F G=>
  cases G with
  | nil=>simp at h
  | cons a1 J=>
   cases J with
   | nil=>exact⟨F,a1,rfl⟩
   | cons _ _=>simp at h
theorem aE4{α:Type}{q:List α}(h:q.length=3):∃ F a1 a2,q=[F,a1,a2]:=by
 cases q with
 | nil=>simp at h
 | cons F J=>
  cases J with
  | nil=>simp at h
  | cons a1 M=>
   cases M with
   | nil=>simp at h
   | cons a2 G=>
    cases G with
    | nil=>exact⟨F,a1,a2,rfl⟩
    | cons _ _=>simp at h
theorem aHu{α:Type}{q:List α}(h:q.length=4):∃ F a1 a2 a3,q=[F,a1,a2,a3]:=by
 cases q with
 | nil=>simp at h
 | cons F J=>
  cases J with
  | nil=>simp at h
  | cons a1 M=>
   cases M with
   | nil=>simp at h
   | cons a2 G=>
    cases G with
    | nil=>simp at h
    | cons a3 O=>
     cases O with
     | nil=>exact⟨F,a1,a2,a3,rfl⟩
     | cons _ _=>simp at h
theorem aIr{α:Type}{q:List α}(h:q.length=5):∃ F a1 a2 a3 a4,q=[F,a1,a2,a3,a4]:=by
 cases q with
 | nil=>simp at h
 | cons F J=>
  cases J with
  | nil=>simp at h
  | cons a1 O=>
   cases O with
   | nil=>simp at h
   | cons a2 G=>
    cases G with
    | nil=>simp at h
    | cons a3 Y=>
     cases Y with
     | nil=>simp at h
     | cons a4 M=>
      cases M with
      | nil=>exact⟨F,a1,a2,a3,a4,rfl⟩
      | cons _ _=>simp at h
abbrev Key:=Sum Int Str
def qO:Key→Ad→Bool
 | .inl k,v=>Value.isInt k v
 | .inr x,v=>Fw x v
def aGs(w:AV):Key→Int
 | .inl k=>hashInt k
 | .inr x=>hashStr w x
theorem dH:∀{k:Key}{v:Ad},qO k v=true→(∃ i t,k=Cm i∧v=Bq i t)∨(∃ x t,k=Ac x∧v=BA x t)
 | .inl i,v,h=>by
  obtain⟨t,e⟩:=Value.isInt_shape (k:=i) (v:=v) h;exact .inl ⟨i,t,rfl,e⟩
 | .inr x,v,h=>by
  obtain⟨t,e⟩:=Fo (x:=x) (v:=v) h;exact .inr ⟨x,t,rfl,e⟩
theorem aCb(i:Int)(t:Tok):qO (.inl i) (.int i t)=true:=by simp[qO,Value.isInt]
theorem aCc(x:Str)(t:Tok):qO (.inr x) (.str x t)=true:=by simp[qO,Fw]
theorem aGt(a b:Int):decide ((Cm a:Key)=Cm b)=(a == b):=by
 by_cases e:a=b
 ·subst e;simp
 ·have h:¬ (Cm a:Key)=Cm b:=fun q=>e (Cm.inj q);rw[decide_eq_false h];exact(beq_eq_false_iff_ne.mpr e).symm
theorem aGu(a b:Str):decide ((Ac a:Key)=Ac b)=decide (a=b):=by
 by_cases e:a=b
 ·subst e;simp
 ·have h:¬ (Ac a:Key)=Ac b:=fun q=>e (Ac.inj q);rw[decide_eq_false h,decide_eq_false e]
theorem aGv(a:Int)(b:Str):decide ((Cm a:Key)=Ac b)=false:=decide_eq_false (fun q=>nomatch q)
theorem aGw(a:Str)(b:Int):decide ((Ac a:Key)=Cm b)=false:=decide_eq_false (fun q=>nomatch q)
def cM(prog:AD)(w:AV):PySem.KeyKind prog w Key where
 is:=qO
 hash:=aGs w
 inj:=fun v a b ha hb=>by
  rcases dH ha with⟨i,t,rfl,rfl⟩ | ⟨x,t,rfl,rfl⟩
  ·rcases dH hb with⟨j,u,rfl,e⟩ | ⟨y,u,rfl,e⟩
   ·injection e with e1 _;rw[e1]
   ·exact nomatch e
  ·rcases dH hb with⟨j,u,rfl,e⟩ | ⟨y,u,rfl,e⟩
   ·exact nomatch e
   ·injection e with e1 _;rw[e1]
 byValue:=fun k v h=>by
  rcases dH h with⟨i,t,rfl,rfl⟩ | ⟨x,t,rfl,rfl⟩ <;> rfl
 pyHash:=fun hv h=>by
  rcases dH hv with⟨i,t,rfl,rfl⟩ | ⟨x,t,rfl,rfl⟩
  ·exact wpAny_pyHash_int h
  ·exact wpAny_pyHash_str h
 eqBool:=fun hu hv h=>by
  rcases dH hu with⟨i,t,rfl,rfl⟩ | ⟨x,t,rfl,rfl⟩
  ·rcases dH hv with⟨j,u,rfl,rfl⟩ | ⟨y,u,rfl,rfl⟩
   ·rw[aGt]at h;exact wpAny_eqBool_int h
   ·rw[aGv]at h;exact SeqAt.EqAt.int_str i t y u _ _ _ _ h
  ·rcases dH hv with⟨j,u,rfl,rfl⟩ | ⟨y,u,rfl,rfl⟩
   ·rw[aGw]at h;exact SeqAt.EqAt.str_int x t j u _ _ _ _ h
   ·rw[aGu]at h;exact wpAny_eqBool_str h
 «strs»:=fun k x t v h=>by
  rcases dH h with⟨i,u,rfl,e⟩ | ⟨y,u,rfl,e⟩
  ·exact nomatch e
  ·injection e with e1 _;subst e1;cases v <;> rfl
theorem xN(prog:AD)(w:AV)(i:Int)(t:Tok):(cM prog w).is (.inl i) (.int i t)=true:=aCb i t
theorem xO(prog:AD)(w:AV)(x:Str)(t:Tok):(cM prog w).is (.inr x) (.str x t)=true:=aCc x t
inductive V where
 | non | bl (b:Bool) | int (i:Int) | str (x:Str) | byt (b:Array UInt8) | flt (b:UInt64) | ref (a:Ag) | ty (n:String)
 deriving DecidableEq
def cF:V→Ad→Prop
 | .non,u=>u=CU
 | .bl b,u=>u=Gc b
 | .int i,u=>∃ t,u=Bq i t
 | .str x,u=>∃ t,u=BA x t
 | .byt b,u=>∃ t,u=Value.bytes b t
 | .flt b,u=>∃ t,u=GZ b t
 | .ref a,u=>u=AF a
 | .ty n,u=>u=Br n
abbrev bX:List V→List Ad→Prop:=Ce cF
theorem bX.length{xs:List V}{q:List Ad}(r:bX xs q):xs.length=q.length:=BB r
theorem bX.get:∀{xs:List V}{q:List Ad}{i:Nat}{x:V},bX xs q→xs[i]?=some x→∃ u,q[i]?=some u∧cF x u
 | _,_,_,_,.nil,e=>by simp at e
 | _,_,0,_,.cons r _,e=>by simp at e;subst e;exact⟨_,rfl,r⟩
 | _,_,i + 1,x,.cons _ t,e=>by
  obtain⟨u,h1,h2⟩:=bX.get (i:=i) (x:=x) t (by simpa using e);exact⟨u,by simpa using h1,h2⟩
theorem bX.set{x:V}{u:Ad}(r:cF x u):∀{xs:List V}{F:List Ad} (i:Nat),bX xs F→bX (xs.set i x) (F.set i u)
 | _,_,_,.nil=>.nil
 | _,_,0,.cons _ t=>.cons r t
 | _,_,i + 1,.cons q t=>.cons q (bX.set r i t)
theorem bX.append:∀{xs ys:List V}{q ws:List Ad},bX xs q→bX ys ws→bX (xs ++ ys) (q ++ ws)
 | _,_,_,_,.nil,s=>s
 | _,_,_,_,.cons r t,s=>.cons r (bX.append t s)
theorem bX.take:∀{xs:List V}{q:List Ad} (n:Nat),bX xs q→bX (xs.take n) (q.take n)
 | _,_,0,_=>.nil
 | _,_,_ + 1,.nil=>.nil
 | _,_,n + 1,.cons r t=>.cons r (bX.take n t)
theorem bX.drop:∀{xs:List V}{q:List Ad} (n:Nat),bX xs q→bX (xs.drop n) (q.drop n)
 | _,_,0,r=>r
 | _,_,_ + 1,.nil=>.nil
 | _,_,n + 1,.cons _ t=>bX.drop n t
def lQ:Option V→Option Ad→Prop
 | some v,some u=>cF v u
 | none,none=>True
 | _,_=>False
def KV{κ:Type}:List (κ×V)→List (κ×Ad)→Prop:=Ce fun(p:κ×V) (q:κ×Ad)=>p.1=q.1∧cF p.2 q.2
def kV:Key→V
 | .inl i=>.int i
 | .inr x=>.str x
inductive HO where
  | lst (xs:List V)
  | tup (xs:List V)
  | dK (iz:List (Key×V)) | dT (iz:List (List Key×V))
  | set (S:Int→Bool) (n:Nat)
  | ins (C dx:Ag) (fs:List (Str×V))
  | own (x:Ag)
  | xd (fs:List (Str×V))
  | met (f x:Ag)
  | rng (lo hi:Int)
  | frz (o:Obj) (u:HO)
  | tbl (ps:Array Ad)
  | ext (φ:Bi→Prop)
abbrev Hp:=Ag→Option HO
def upd(H:Hp)(a:Ag)(o:HO):Hp:=fun b=>if b=a then some o else H b
theorem aA{H:Hp}{a:Ag}{o:HO}:upd H a o a=some o:=by unfold upd;rw[Ib rfl]
theorem aF{H:Hp}{a b:Ag}{o:HO}(h:b≠a):upd H a o b=H b:=by unfold upd;rw[Ia h]
theorem rK{H:Hp}{a:Ag}{o u:HO}:upd (upd H a o) a u=upd H a u:=by
 funext b;unfold upd;split <;> rfl
theorem bT{H:Hp}{a b:Ag}{o u:HO}(h:H a=some o)(h':H b=some u)(d:o≠u):a≠b:=by
 intro e;subst e;rw[h]at h';exact d (Cc.inj h')
theorem aJ{H:Hp}{a b:Ag}{o:HO}(h:H a=some o)(h':H b=none):a≠b:=by
 intro e;subst e;rw[h]at h';cases h'
section
variable(P:AD)(w:AV)
def lR(h:Bi)(a:Ag)(items:Array Ad):Prop:=∃ o,h.get? a=some o∧(o.cls=.type "tuple"∧∃ n,o.data=.seq items n)∧o.dict=none
theorem lR.tup{h:Bi}{a:Ag}{items:Array Ad}(x:lR h a items):E9 h a items:=by
 obtain⟨o,e,c,_⟩:=x;exact⟨o,e,c⟩
instance lR.coe{h:Bi}{a:Ag}{items:Array Ad}:Coe (lR h a items) (E9 h a items):=⟨lR.tup⟩
theorem lR.lt{h:Bi}{a:Ag}{items:Array Ad}(x:lR h a items):a < h.objs.size:=x.tup.lt
def cP(H:Hp)(h:Bi)(a:Ag):HO→Prop
 | .lst xs=>xs.length≤sizeLine∧∃(its:List Ad) (n:Nat),bX xs its∧h.get? a=some { cls:=.type "list",data:=.seq its.toArray n }
 | .tup xs=>xs.length≤sizeLine∧∃ its:List Ad,bX xs its∧lR h a its.toArray
 | .dK iz=>iz.length≤sizeLine∧(a == sysModules)=false∧∃ vs,KV iz vs∧h.DictOf (cM P w) a vs
 | .dT iz=>iz.length≤sizeLine∧(a == sysModules)=false∧∃ xs:List (List Key×Ag×Ad),
   Ce (fun(p:List Key×V) (q:List Key×Ag×Ad)=>p.1=q.1∧H q.2.1=some (.tup (p.1.map kV))∧cF p.2 q.2.2) iz xs∧
   ∃ o es ep,h.get? a=some o∧o.ExactDict∧o.data=.dict es ep∧es.toList=xs.map (entryOfKey (tupleKind (cM P w)))∧(xs.map (·.1)).Nodup
 | .set S n=>h.SetOf (intKind P w) a S n
 | .ins C dx fs=>H dx=some (.own a)∧fs.length≤1000∧dx≠a∧h.get? a=some (CM C dx)∧
   ∃ mA,h.Ns1 dx mA∧(∀ f,lQ (fs.lookup f) (mA f))∧Gy mA (fs.map (·.1))
 | .own _=>∃ o,h.get? a=some o
 | .xd fs=>∃ mA,h.Ns1 a mA∧∀ f,lQ (fs.lookup f) (mA f)
 | .rng lo hi=>∃ t u v,h.get? a=some { cls:=.type "range",data:=.fields #[.int lo t,.int hi u,.int 1 v] }
 | .frz o u=>h.get? a=some o∧cP H h a u
 | .tbl ps=>h.get? a=some { cls:=.none,data:=.fields ps }
 | .met f x=>h.get? a=some (Fz (.ref f) (.ref x))
 | .ext φ=>φ h∧(∃ o,h.get? a=some o)∧∀ h1 h2:Bi,φ h1→(∀ o,h1.get? a=some o→h2.get? a=some o)→φ h2
def HOk(H:Hp)(h:Bi):Prop:=∀ a o,H a=some o→cP P w H h a o
end
section
variable{P:AD}{w:AV}{H H':Hp}{h h':Bi}{a:Ag}{o:HO}
theorem cP.lt(x:cP P w H h a o):a < h.objs.size:=by
 cases o with
 | lst xs=>obtain⟨_,_,_,_,e⟩:=x;exact Ar e
 | tup xs=>obtain⟨_,_,_,p⟩:=x;exact p.lt
 | dK iz=>obtain⟨_,_,_,_,o,_,_,e,_⟩:=x;exact Ar e
 | dT iz=>obtain⟨_,_,_,_,o,_,_,e,_⟩:=x;exact Ar e
 | set S n=>obtain⟨o,_,_,_,e,_⟩:=x;exact Ar e
 | ins C dx fs=>obtain⟨_,_,_,e,_⟩:=x;exact Ar e
 | own y=>obtain⟨_,e⟩:=x;exact Ar e
 | xd fs=>obtain⟨_,⟨_,_,_,e,_⟩,_⟩:=x;exact Ar e
 | rng lo hi=>obtain⟨_,_,_,e⟩:=x;exact Ar e
 | frz ob u=>obtain⟨e,_⟩:=x;exact Ar e
 | tbl ps=>exact Ar (show h.get? a=some _ from x)
 | met f y=>exact Ar (show h.get? a=some _ from x)
 | ext φ=>obtain⟨_,⟨_,e⟩,_⟩:=x;exact Ar e
theorem Paired.mapP{α β:Type}{F G:α→β→Prop}:∀{l₁:List α}{l₂:List β},Ce F l₁ l₂→(∀ a b,F a b→G a b)→Ce G l₁ l₂
 | _,_,.nil,_=>.nil
 | _,_,.cons r t,f=>.cons (f _ _ r) (Paired.mapP t f)
theorem cP.stay(x:cP P w H h a o)(k:∀ b u,(b=a∨H b=some (.own a))→h.get? b=some u→h'.get? b=some u)
  (ho:∀ b,H b=some (.own a)→H' b=some (.own a)) (ht:∀ b xs,H b=some (.tup xs)→H' b=some (.tup xs)):cP P w H' h' a o:=by
 induction o with
 | lst xs=>obtain⟨z,its,n,r,e⟩:=x;exact⟨z,its,n,r,k _ _ (.inl rfl) e⟩
 | tup xs=>obtain⟨z,its,r,ob,e,c⟩:=x;exact⟨z,its,r,ob,k _ _ (.inl rfl) e,c⟩
 | dK iz=>obtain⟨z,y,vs,r,ob,es,ep,e,c⟩:=x;exact⟨z,y,vs,r,ob,es,ep,k _ _ (.inl rfl) e,c⟩
 | dT iz=>
  obtain⟨z,y,xs,r,ob,es,ep,e,c⟩:=x;exact⟨z,y,xs,Paired.mapP r fun p q z=>⟨z.1,ht _ _ z.2.1,z.2.2⟩,ob,es,ep,k _ _ (.inl rfl) e,c⟩
 | set S n=>obtain⟨ob,es,ep,t,e,c⟩:=x;exact⟨ob,es,ep,t,k _ _ (.inl rfl) e,c⟩
 | ins C dx fs=>
  obtain⟨d,z,ne,e,mA,⟨od,es,ep,e2,c⟩,r⟩:=x;exact⟨ho _ d,z,ne,k _ _ (.inl rfl) e,mA,⟨od,es,ep,k _ _ (.inr d) e2,c⟩,r⟩
 | own y=>obtain⟨ob,e⟩:=x;exact⟨ob,k _ _ (.inl rfl) e⟩
 | xd fs=>obtain⟨mA,⟨od,es,ep,e,c⟩,r⟩:=x;exact⟨mA,⟨od,es,ep,k _ _ (.inl rfl) e,c⟩,r⟩
 | rng lo hi=>obtain⟨t,u,v,e⟩:=x;exact⟨t,u,v,k _ _ (.inl rfl) e⟩
 | frz ob u F=>obtain⟨e,q⟩:=x;exact⟨k _ _ (.inl rfl) e,F q⟩
 | tbl ps=>
  have e:h.get? a=some { cls:=.none,data:=.fields ps }:=x;show h'.get? a=some { cls:=.none,data:=.fields ps };exact k a _ (.inl rfl) e
 | met f y=>
  have e:h.get? a=some (Fz (.ref f) (.ref y)):=x;show h'.get? a=some (Fz (.ref f) (.ref y));exact k a _ (.inl rfl) e
 | ext φ=>obtain⟨p,⟨o,e⟩,st⟩:=x;exact⟨st _ _ p fun o q=>k _ _ (.inl rfl) q,⟨o,k _ _ (.inl rfl) e⟩,st⟩
theorem HOk.lt(x:HOk P w H h)(e:H a=some o):a < h.objs.size:=(x a o e).lt
theorem HOk.fresh(x:HOk P w H h)(e:h.objs.size≤a):H a=none:=by
 cases q:H a with
 | none=>rfl
 | some u=>exact absurd (AZ (x.lt q) e) (CD _)
theorem HOk.kept(x:HOk P w H h)(k:∀ b u,h.get? b=some u→h'.get? b=some u):HOk P w H h':=fun a o e=>
 (x a o e).stay (fun b u _ q=>k b u q) (fun _ q=>q) fun _ _ q=>q
theorem HOk.laid(x:HOk P w H h)(k:∀ b u,h.get? b=some u→h'.get? b=some u)(G:h.objs.size≤a)(new:cP P w (upd H a o) h' a o):HOk P w (upd H a o) h':=fun b u e=>by
 have hn:=x.fresh G;by_cases F:b=a
 ·subst F;rw[aA]at e;cases e;exact new
 ·rw[aF F]at e;exact(x b u e).stay (fun c v _ q=>k c v q) (fun c q=>by rw[aF (aJ q hn)];exact q) fun c xs q=>by rw[aF (aJ q hn)];exact q
end
def Rd(H:Hp)(a:Ag)(u:HO):Prop:=H a=some u∨∃ o,H a=some (.frz o u)
theorem Rd.ok{P:AD}{w:AV}{H:Hp}{h:Bi}{a:Ag}{u:HO}(r:Rd H a u)(x:HOk P w H h):cP P w H h a u:=by
 rcases r with r | ⟨o,r⟩
 ·exact x a u r
 ·obtain⟨_,q⟩:=x a _ r;exact q
def Mut:Option HO→Prop
 | some (.lst _)=>True
 | some (.dK _)=>True
 | some (.dT _)=>True
 | some (.set _ _)=>True
 | some (.ins _ _ _)=>True
 | some (.ext _)=>True
 | _=>False
section
variable{P:AD}{w:AV}{H:Hp}{h h':Bi}{x e:Ag}{o':HO}
theorem HOk.write(ok:HOk P w H h)(O:Mut (H x))(he:e=x∨H e=some (.own x))(k:∀ b u,b≠e→h.get? b=some u→h'.get? b=some u)(Y:∃ u,h'.get? e=some u)
  (new:cP P w (upd H x o') h' x o'):HOk P w (upd H x o') h':=fun b u q=>by
 have G:∀ c y,H c=some (.own y)→c≠x:=fun c y r z=>by subst z;rw[r]at O;exact O
 have J:∀ c xs,H c=some (.tup xs)→c≠x:=fun c xs r z=>by subst z;rw[r]at O;exact O
 by_cases M:b=x
 ·subst M;rw[aA]at q;cases q;exact new
 ·rw[aF M]at q;by_cases F:b=e
  ·have Z:H b=some (.own x):=by
    rcases he with z | z
    ·exact absurd (F.trans z) M
    ·rw[F];exact z
   rw[q]at Z;cases Z;obtain⟨v,hv⟩:=Y;exact⟨v,by rw[F];exact hv⟩
  ·refine(ok b u q).stay (fun c v hc r=>k c v ?_ r) (fun c r=>by rw[aF (G c b r)];exact r) fun c xs r=>by rw[aF (J c xs r)];exact r
   rcases hc with rfl | hc
   ·exact F
   ·rintro rfl;rcases he with z | z
    ·exact G c b hc z
    ·rw[hc]at z;cases z;exact M rfl
end
structure Un(fs ex:List Ag)(H H':Hp)(h h':Bi):Prop where
 keep:∀ b o,h.get? b=some o→H b=none→b ∉ fs→b ∉ ex→h'.get? b=some o
 slot:∀ b o,h.get? b=some o→H b=none→b∈fs→b ∉ ex→∃ sl,h'.get? b=some { o with slots:=sl }
 free:∀ b o,h.get? b=some o→H b=none→b ∉ ex→H' b=none
 there:∀ b o,h.get? b=some o→b ∉ ex→∃ o',h'.get? b=some o'
 tups:∀ b xs,H b=some (.tup xs)→H' b=some (.tup xs)
 frzs:∀ b o u,H b=some (.frz o u)→H' b=some (.frz o u)
 tbls:∀ b ps,H b=some (.tbl ps)→∃ more,H' b=some (.tbl (ps ++ more))
section
variable{fs jt ex ex':List Ag}{H H1 H2:Hp}{h h1 h2 h':Bi}{a x e:Ag}{o:HO}
theorem Un.any(u:Un fs ex H H1 h h1){b:Ag}{ob:Obj}(q:h.get? b=some ob)(n:H b=none)(hx:b ∉ ex):∃ G,h1.get? b=some { ob with slots:=G }:=by
 by_cases F:b∈fs
 ·exact u.slot b ob q n F hx
 ·exact⟨ob.slots,u.keep b ob q n F hx⟩
theorem Un.kept(k:∀ b u,h.get? b=some u→h'.get? b=some u):Un fs ex H H h h':=
 ⟨fun b ob q _ _ _=>k b ob q,fun b ob q _ _ _=>⟨ob.slots,k b ob q⟩,fun _ _ _ n _=>n,fun b ob q _=>⟨ob,k b ob q⟩,fun _ _ q=>q,fun _ _ _ q=>q,fun _ ps q=>⟨#[],by rw[q];simp⟩⟩
theorem Un.refl:Un fs ex H H h h:=Un.kept fun _ _ q=>q
theorem Un.laid(k:∀ b u,h.get? b=some u→h'.get? b=some u)(F:h.objs.size≤a)(hn:H a=none):Un fs ex H (upd H a o) h h' where
 keep:=fun b u q _ _ _=>k b u q
 slot:=fun b u q _ _ _=>⟨u.slots,k b u q⟩
 free:=fun b u q n _=>by rw[aF (AA (AZ (Ar q) F))];exact n
 there:=fun b u q _=>⟨u,k b u q⟩
 tups:=fun b xs q=>by rw[aF (aJ q hn)];exact q
 frzs:=fun b u xs q=>by rw[aF (aJ q hn)];exact q
 tbls:=fun b ps q=>⟨#[],by rw[aF (aJ q hn),q];simp⟩
theorem Un.write(G:Mut (H x))(O:e=x∨H e=some (.own x))(k:∀ b u,b≠e→h.get? b=some u→h'.get? b=some u)(J:∃ u,h'.get? e=some u):Un fs ex H (upd H x o) h h':=by
 have hx:∀ b,H b=none→b≠x:=fun b n z=>by subst z;rw[n]at G;exact G
 have M:∀ b,H b=none→b≠e:=fun b n z=>by
  subst z;rcases O with r | r
  ·exact hx b n r
  ·rw[n]at r;cases r
 have hm:∀ b u,H b=some u→¬ Mut (some u)→b≠x:=fun b u q nm z=>by subst z;rw[q]at G;exact nm G
 refine⟨fun b u q n _ _=>k b u (M b n) q,fun b u q n _ _=>⟨u.slots,k b u (M b n) q⟩,fun b u q n _=>by rw[aF (hx b n)];exact n,fun b u q _=>?_,
  fun b xs q=>by rw[aF (hm b _ q fun z=>z)];exact q,fun b u xs q=>by rw[aF (hm b _ q fun z=>z)];exact q,fun b ps q=>⟨#[],by rw[aF (hm b _ q fun z=>z),q];simp⟩⟩
 by_cases F:b=e
 ·subst F;exact J
 ·exact⟨u,k b u F q⟩
end
def trk(h:Bi)(H:Hp):List Ag:=(AU h.objs.size).filter fun a=>(H a).isSome
def wA(h:Bi)(H:Hp):Bi:=PySem.W.hideAll h (trk h H)
theorem aCd(h:Bi)(H:Hp):(wA h H).objs.size=h.objs.size:=PySem.W.hideAll_size _ _
theorem rQ{h:Bi}{H:Hp}{b:Ag}{o:Obj}(e:h.get? b=some o)(n:H b=none):(wA h H).get? b=some o:=
 PySem.W.hideAll_get _ e fun hm=>by
  have q:(H b).isSome=true:=(BD.mp hm).2;rw[n]at q;simp at q
theorem aE5{h:Bi}{H:Hp}{b:Ag}{o:Obj}(e:(wA h H).get? b=some o):h.get? b=some o∧H b=none:=by
 have F:h.get? b=some o:=PySem.W.of_hideAll (trk h H) e;refine⟨F,?_⟩;cases q:H b with
 | none=>rfl
 | some x=>
  have hm:b∈trk h H:=BD.mpr ⟨Ck.mpr (Ar F),by simp[q]⟩;have z:(wA h H).get? b=none:=PySem.W.hideAll_none (trk h H) hm;rw[z]at e;cases e
def aE6(g h:Bi)(L:Ag):Ih:=(AU h.objs.size).filterMap fun a=>if a=L∨(g.get? a).isSome=true then none else(h.get? a).map fun o=>(a,o)
def b8(g h:Bi)(L d:Ag):Ih:=(aE6 g h L).filter fun p=>decide (p.1≠d)
structure Mod(K:Ah)(mg:Str→Option Ad)(base:Bi):Prop where
 kin:K.In base
 glob:base.Ns mainGlobals mg
 blt:∃ mb,base.Ns builtinsNs mb∧∀ x:Str,x≠"__name__"→mb x=bootBuiltins x
 nolimit:base.NoLimit
structure Cx where
 prog:AD
 w:AV
 K:Ah
 mg:Str→Option Ad
 base:Bi
 A:AS
 N:List Str
 s₀:Af
 H₀:Hp
 env:Env
 outer:List Env
 stack:List Env
 ex:List Ag
 fn:Str→Bool
 calm:Bool
 pn:Ih
 xe:Ad→Af→Prop
def frs(l:List Env):List Ag:=l.filterMap (·.frame)
abbrev Cx.fs(X:Cx):List Ag:=frs X.outer
def Vis(sc:C1)(x:Str):Prop:=sc.names.lookup x=some .local∨sc.names.lookup x=some .cell∨sc.names.lookup x=some .free
def Loc(sc:C1)(x:Str):Prop:=sc.names.lookup x=some .local∨sc.names.lookup x=some .cell
def aIs(env:Env)(h:Bi)(m:Str→Option Ad)(x:Str)(u:Ad):Prop:=
 (env.kindOf x=some .local∧m x=some u)∨((env.kindOf x=some .cell∨env.kindOf x=some .free)∧∃ c,env.cells.lookup x=some c∧h.IsCell c (some u))
structure Cx.Ok(X:Cx):Prop where
 mod:Mod X.K X.mg X.base
 kind:X.env.scope.kind=.function
 glob:X.env.globals=mainGlobals
 blt:X.env.builtins=builtinsNs
 above:X.s₀.heap.objs.size≤X.env.locals
 inj:∀ x y c,X.env.cells.lookup x=some c→X.env.cells.lookup y=some c→x=y
 has:∀ x,(X.env.kindOf x=some .cell∨X.env.kindOf x=some .free)→∃ c,X.env.cells.lookup x=some c
 cab:∀ x c,X.fn x=true→X.env.cells.lookup x=some c→X.s₀.heap.objs.size≤c
 hd:X.calm=true→X.A.handled=none
 frames:X.A.frames=some X.stack
 stk:X.stack=X.outer∨(X.stack=X.env :: X.outer∧X.env.frame=some X.env.locals)
 exf:∀ b∈X.ex,b≠X.env.locals∧∀ x c,X.env.cells.lookup x=some c→c≠b
 bs:∀ b o,X.base.get? b=some o→X.s₀.heap.get? b=some o∧X.H₀ b=none
 bsz:X.base.objs.size≤X.s₀.heap.objs.size
 noex:∀ b o,X.base.get? b=some o→b ∉ X.ex
 exfs:∀ b∈X.ex,b ∉ X.fs
 funs:X.s₀.heap.FunFrames X.base X.outer
 frf:∀ b∈X.fs,X.H₀ b=none
structure Inv(X:Cx)(iw:Ih)(σ:List (Option V))(H:Hp)(s:Af):Prop where
 ok:X.Ok
 os:s.os=X.s₀.os
 bare:EL s.gens
 base:Un X.fs X.ex X.H₀ H X.s₀.heap s.heap
 loc:∃ m,s.heap.Ns X.env.locals m∧∀(i:Nat) (x:Str) (v:V),X.N[i]?=some x→σ[i]?=some (some v)→Vis X.env.scope x→∃ u,cF v u∧aIs X.env s.heap m x u
 cell:∀ x c,X.env.cells.lookup x=some c→∃ v,s.heap.IsCell c v
 free:H X.env.locals=none
 freeC:∀ x c,X.env.cells.lookup x=some c→H c=none
 pin:∀ p∈X.pn ++ iw,s.heap.get? p.1=some p.2∧H p.1=none∧p.1≠X.env.locals∧p.1 ∉ X.fs∧∀ v,p.2.data≠.cell v
 hok:HOk X.prog X.w H s.heap
 len:σ.length=X.N.length
section
variable{X:Cx}{iw:Ih}{σ:List (Option V)}{H H':Hp}{s:Af}{h':Bi}
theorem Cx.Ok.nofr(ok:X.Ok){b:Ag}{o:Obj}(e:X.base.get? b=some o):b ∉ X.fs:=fun q=>by
 have:=(ok.funs.mem q).1;rw[e]at this;cases this
theorem Inv.bs(I:Inv X iw σ H s):∀ b o,X.base.get? b=some o→s.heap.get? b=some o∧H b=none:=fun b o e=>
 ⟨I.base.keep b o (I.ok.bs b o e).1 (I.ok.bs b o e).2 (I.ok.nofr e) (I.ok.noex b o e),I.base.free b o (I.ok.bs b o e).1 (I.ok.bs b o e).2 (I.ok.noex b o e)⟩
theorem Inv.bk(I:Inv X iw σ H s):∀ b o,X.base.get? b=some o→s.heap.get? b=some o:=fun b o e=>(I.bs b o e).1
theorem Inv.mod(I:Inv X iw σ H s):Mod X.K X.mg X.base:=I.ok.mod
theorem Inv.kIn(I:Inv X iw σ H s):X.K.In s.heap:=I.ok.mod.kin.keeps I.bk
theorem Inv.nolimit(I:Inv X iw σ H s):s.heap.NoLimit:=I.ok.mod.nolimit.keeps I.bk
theorem Inv.lt(I:Inv X iw σ H s):X.env.locals < s.heap.objs.size:=let ⟨_,hn,_⟩:=I.loc;hn.lt
theorem Inv.sz(I:Inv X iw σ H s):X.s₀.heap.objs.size≤s.heap.objs.size:=AG I.ok.above (Dv I.lt)
theorem Inv.nofs(I:Inv X iw σ H s){a:Ag}(h:s.heap.objs.size≤a):a ∉ X.fs:=fun q=>by
 obtain⟨_,o,ho,_⟩:=I.ok.funs.mem q;exact absurd (AZ (Ar ho) (AG I.sz h)) (CD _)
theorem Inv.cne(I:Inv X iw σ H s):∀ x c,X.env.cells.lookup x=some c→c≠X.env.locals:=fun x c e z=>by
 obtain⟨v,o,ho,hd⟩:=I.cell x c e;obtain⟨m,⟨o',es,ep,ho',hd',_⟩,_⟩:=I.loc;rw[z,ho']at ho;cases ho;rw[hd']at hd;cases hd
theorem Inv.funs(I:Inv X iw σ H s):s.heap.FunFrames X.base X.outer:=by
 have all:∀(l:List Env),(∀ b∈frs l,b∈X.fs)→X.s₀.heap.FunFrames X.base l→s.heap.FunFrames X.base l:=by
  intro l
  induction l with
  | nil=>intro _ _;trivial
  | cons env r G=>
   intro hs hl;obtain⟨hk,⟨L,o,hf,hn,ho,hd⟩,hr⟩:=hl;have q:L∈X.fs:=hs L (by unfold frs;rw[El,hf];exact Al);obtain⟨sl,e⟩:=I.base.slot L o ho (I.ok.frf L q) q fun z=>I.ok.exfs L z q;exact⟨hk,⟨L,_,hf,hn,e,hd⟩,G (fun b F=>hs b (by unfold frs;rw[El,hf];exact An _ F)) hr⟩
 exact all X.outer (fun _ F=>F) I.ok.funs
theorem Inv.stack(I:Inv X iw σ H s):s.heap.FunFrames X.base X.stack:=by
 rcases I.ok.stk with e | ⟨e,q⟩
 ·rw[e];exact I.funs
 ·rw[e];obtain⟨m,hn,_⟩:=I.loc;refine .cons (by rw[I.ok.kind];decide) q hn ?_ I.funs;exact Heap.get?_none_of_le (AG I.ok.bsz I.ok.above)
theorem Inv.stkSub(I:Inv X iw σ H s):∀ b∈frs X.stack,b∈X.env.locals :: X.fs:=fun b q=>by
 rcases I.ok.stk with e | ⟨e,F⟩
 ·rw[e]at q;exact An _ q
 ·rw[e]at q;unfold frs at q;rw[El,F]at q;exact q
theorem Inv.stkFree(I:Inv X iw σ H s):∀ b∈frs X.stack,H b=none:=fun b q=>by
 rcases Ak.mp (I.stkSub b q)with e | q
 ·rw[e];exact I.free
 ·obtain⟨_,o,ho,_⟩:=I.ok.funs.mem q;exact I.base.free b o ho (I.ok.frf b q) fun z=>I.ok.exfs b z q
theorem Inv.step{g':Array Gk}{t':Nat}{d':Drawn}{ch:List Ag}(I:Inv X iw σ H s)
  (F:∀ b∈ch,(b∈X.ex∨X.s₀.heap.objs.size≤b)∧b≠X.env.locals∧(∀ x c,X.env.cells.lookup x=some c→c≠b)∧∀ p∈X.pn ++ iw,p.1≠b)
  (keep:∀ b o,b≠X.env.locals→b ∉ X.fs→b ∉ ch→s.heap.get? b=some o→H b=none→h'.get? b=some o)
  (slot:∀ b o,b≠X.env.locals→b∈X.fs→b ∉ ch→s.heap.get? b=some o→H b=none→∃ sl,h'.get? b=some { o with slots:=sl }) (free:∀ b o,b ∉ ch→s.heap.get? b=some o→H b=none→H' b=none)
  (there:∀ b o,b ∉ ch→s.heap.get? b=some o→∃ o',h'.get? b=some o')
  (tups:∀ b xs,H b=some (.tup xs)→H' b=some (.tup xs)) (frzs:∀ b o u,H b=some (.frz o u)→H' b=some (.frz o u)) (tbls:∀ b ps,H b=some (.tbl ps)→∃ more,H' b=some (.tbl (ps ++ more)))
  (ns:∀ m,s.heap.Ns X.env.locals m→h'.Ns X.env.locals m) (hok:HOk X.prog X.w H' h') (hg:EL g'):
  Inv X iw σ H' { s with heap:=h',gens:=g',drawn:=d',toks:=t' }:=by
 have Z:∀ b o,X.s₀.heap.get? b=some o→b≠X.env.locals:=fun b o e=>AA (AZ (Ar e) I.ok.above);have O:∀ b o,X.s₀.heap.get? b=some o→b ∉ X.ex→b ∉ ch:=fun b o e hx Y=>by
  rcases(F b Y).1 with z | z
  ·exact hx z
  ·exact absurd (AZ (Ar e) z) (CD _)
 have J:∀ x c,X.env.cells.lookup x=some c→∀ v,s.heap.IsCell c v→h'.IsCell c v:=fun x c e v ⟨o,ho,hd⟩=>by
  have G:c ∉ ch:=fun z=>(F c z).2.2.1 x c e rfl;by_cases hc:c∈X.fs
  ·obtain⟨sl,q⟩:=slot c o (I.cne x c e) hc G ho (I.freeC x c e);exact⟨_,q,hd⟩
  ·exact⟨o,keep c o (I.cne x c e) hc G ho (I.freeC x c e),hd⟩
 refine⟨I.ok,I.os,hg,⟨fun b o e n Y hx=>?_,fun b o e n Y hx=>?_,fun b o e n hx=>?_,fun b o e hx=>?_,fun b xs e=>tups b xs (I.base.tups b xs e),fun b o xs e=>frzs b o xs (I.base.frzs b o xs e),fun b ps e=>?_⟩,?_,fun x c e=>?_,?_,fun x c e=>?_,fun p hp=>?_,hok,I.len⟩
 ·exact keep b o (Z b o e) Y (O b o e hx) (I.base.keep b o e n Y hx) (I.base.free b o e n hx)
 ·obtain⟨sl,M⟩:=I.base.slot b o e n Y hx;obtain⟨sl',e2⟩:=slot b _ (Z b o e) Y (O b o e hx) M (I.base.free b o e n hx);exact⟨sl',e2⟩
 ·obtain⟨o',M⟩:=I.base.there b o e hx;exact free b o' (O b o e hx) M (I.base.free b o e n hx)
 ·obtain⟨o',M⟩:=I.base.there b o e hx;exact there b o' (O b o e hx) M
 ·obtain⟨m1,M⟩:=I.base.tbls b ps e;obtain⟨m2,e2⟩:=tbls b _ M;exact⟨m1 ++ m2,by rw[e2,Array.append_assoc]⟩
 ·obtain⟨m,hn,hl⟩:=I.loc;refine⟨m,ns m hn,fun i x v M e2 e3=>?_⟩;obtain⟨u,r,l⟩:=hl i x v M e2 e3;refine⟨u,r,?_⟩;rcases l with l | ⟨k,c,e,z⟩
  ·exact .inl l
  ·exact .inr ⟨k,c,e,J x c e _ z⟩
 ·obtain⟨v,z⟩:=I.cell x c e;exact⟨v,J x c e v z⟩
 ·obtain⟨m,⟨o,_,_,ho,_⟩,_⟩:=I.loc;exact free _ o (fun z=>(F _ z).2.1 rfl) ho I.free
 ·obtain⟨v,o,ho,hd⟩:=I.cell x c e;exact free c o (fun z=>(F c z).2.2.1 x c e rfl) ho (I.freeC x c e)
 ·obtain⟨e,n,ne,nf,d⟩:=I.pin p hp;have G:p.1 ∉ ch:=fun z=>(F p.1 z).2.2.2 p hp rfl;exact⟨keep p.1 p.2 ne nf G e n,free p.1 p.2 G e n,ne,nf,d⟩
theorem Inv.un{t':Nat}(I:Inv X iw σ H s)(u:Un X.fs [] H H' s.heap h')(hok:HOk X.prog X.w H' h'):Inv X iw σ H' { s with heap:=h',toks:=t' }:=by
 obtain⟨m,⟨o,es,ep,ho,r⟩,_⟩:=id I.loc;obtain⟨sl,hL⟩:=u.any ho I.free (by simp);exact I.step (g':=s.gens) (d':=s.drawn) (ch:=[]) (fun _ z=>nomatch z) (fun b o _ q _ e n=>u.keep b o e n q (by simp)) (fun b o _ q _ e n=>u.slot b o e n q (by simp)) (fun b o _ e n=>u.free b o e n (by simp)) (fun b o _ e=>u.there b o e (by simp)) u.tups u.frzs u.tbls (fun F hm=>by
  obtain⟨o',es',ep',ho',r'⟩:=hm;rw[ho]at ho';cases ho';exact⟨_,es',ep',hL,r'⟩) hok I.bare
theorem Inv.call{g':Array Gk}{t':Nat}{d':Drawn}{ch:List Ag}(I:Inv X iw σ H s)(u:Un (frs X.stack) ch H H' s.heap h')(hok:HOk X.prog X.w H' h')(G:EL g')
  (q:∀ b∈ch,(b∈X.ex∨X.s₀.heap.objs.size≤b)∧b≠X.env.locals∧(∀ x c,X.env.cells.lookup x=some c→c≠b)∧∀ p∈X.pn ++ iw,p.1≠b):
  Inv X iw σ H' { s with heap:=h',gens:=g',drawn:=d',toks:=t' }:=by
 obtain⟨m,⟨o,es,ep,ho,r⟩,_⟩:=id I.loc;obtain⟨sl,F⟩:=u.any ho I.free fun z=>(q _ z).2.1 rfl;exact I.step (ch:=ch) q (fun b o F J hc e n=>u.keep b o e n (fun z=>(Ak.mp (I.stkSub b z)).elim F J) hc) (fun b o _ _ hc e n=>u.any e n hc) (fun b o hc e n=>u.free b o e n hc) (fun b o hc e=>u.there b o e hc) u.tups u.frzs u.tbls (fun M hm=>by
  obtain⟨o',es',ep',ho',r'⟩:=hm;rw[ho]at ho';cases ho';exact⟨_,es',ep',F,r'⟩) hok G
theorem Inv.turned{t':Nat}{it:Ag}(I:Inv X iw σ H s)(k:∀ b o,b≠it→s.heap.get? b=some o→h'.get? b=some o)(hn:H it=none)(G:it≠X.env.locals)
  (h1:it∈X.ex∨X.s₀.heap.objs.size≤it) (h2:∀ x c,X.env.cells.lookup x=some c→c≠it) (J:∀ p∈X.pn ++ iw,p.1≠it):Inv X iw σ H { s with heap:=h',toks:=t' }:=by
 have F:∀ b u,H b=some u→b≠it:=fun b u e z=>by rw[z,hn]at e;cases e
 refine I.step (g':=s.gens) (d':=s.drawn) (ch:=[it]) (fun b M=>?_) (fun b o _ _ hc e _=>k b o (fun z=>hc (by simp[z])) e) (fun b o _ _ hc e _=>⟨o.slots,k b o (fun z=>hc (by simp[z])) e⟩) (fun _ _ _ _ n=>n)
  (fun b o hc e=>⟨o,k b o (fun z=>hc (by simp[z])) e⟩) (fun _ _ e=>e) (fun _ _ _ e=>e) (fun b ps e=>⟨#[],by rw[e];simp⟩) (fun m hm=>?_) (fun b u e=>?_) I.bare
 ·have e:b=it:=by simpa using M
  subst e;exact⟨h1,G,h2,J⟩
 ·obtain⟨o,es,ep,ho,r⟩:=hm;exact⟨o,es,ep,k _ o (B4 G) ho,r⟩
 ·refine(I.hok b u e).stay (fun c v hc q=>k c v ?_ q) (fun _ q=>q) fun _ _ q=>q;rcases hc with z | z
  ·rw[z];exact F b u e
  ·exact F c _ z
theorem Inv.tok(I:Inv X iw σ H s)(t:Nat):Inv X iw σ H { s with toks:=t }:=I.un (h':=s.heap) (t':=t) Un.refl I.hok
theorem Inv.kept{t':Nat}(I:Inv X iw σ H s)(k:∀ b u,s.heap.get? b=some u→h'.get? b=some u):Inv X iw σ H { s with heap:=h',toks:=t' }:=I.un (Un.kept k) (I.hok.kept k)
theorem Inv.laid{a:Ag}{o:HO}{t':Nat}(I:Inv X iw σ H s)(k:∀ b u,s.heap.get? b=some u→h'.get? b=some u)(q:s.heap.objs.size≤a)(new:cP X.prog X.w (upd H a o) h' a o):
  Inv X iw σ (upd H a o) { s with heap:=h',toks:=t' }:=I.un (Un.laid k q (I.hok.fresh q)) (I.hok.laid k q new)
theorem Inv.write{x e:Ag}{o:HO}{t':Nat}(I:Inv X iw σ H s)(F:Mut (H x))(G:e=x∨H e=some (.own x))(k:∀ b u,b≠e→s.heap.get? b=some u→h'.get? b=some u)(q:∃ u,h'.get? e=some u)
  (new:cP X.prog X.w (upd H x o) h' x o):Inv X iw σ (upd H x o) { s with heap:=h',toks:=t' }:=I.un (Un.write F G k q) (I.hok.write F G k q new)
theorem Inv.pins_of{q:Ih}(I:Inv X iw σ H s)(h:∀ p∈q,s.heap.get? p.1=some p.2∧H p.1=none∧p.1≠X.env.locals∧p.1 ∉ X.fs∧∀ v,p.2.data≠.cell v):Inv X q σ H s:=
 ⟨I.ok,I.os,I.bare,I.base,I.loc,I.cell,I.free,I.freeC,fun p F=>(AO.mp F).elim (fun z=>I.pin p (BH _ z)) (h p),I.hok,I.len⟩
theorem xP{N:List Str}(hN:N.Nodup){i j:Nat}{x:Str}(a:N[i]?=some x)(b:N[j]?=some x):i=j:=by
 obtain⟨h1,e1⟩:=Ax.mp a;obtain⟨h2,e2⟩:=Ax.mp b;exact(List.getElem_inj hN).mp (e1.trans e2.symm)
theorem uQ{M:G8}{A:AS}{E:Ad→Af→Prop}{i:Nat}{x:Str}{v:V}{u:Ad}{Q:Unit→Af→Prop}(I:Inv X iw σ H s)(hN:X.N.Nodup)(hi:X.N[i]?=some x)(hx:Loc X.env.scope x)(r:cF v u)
  (h:∀ s',Inv X iw (σ.set i (some v)) H s'→(∃ a,Dr a s.heap s'.heap∧(a=X.env.locals∨X.env.cells.lookup x=some a))→Q () s') (hf:X.fn x=true∨X.env.scope.names.lookup x=some .local:=by first | exact .inl rfl | exact .inr rfl | assumption):wpAny M A (storeName X.env x u) Q E s:=by
 obtain⟨m,hn,hl⟩:=id I.loc;have ad:(X.env.scope.kind == .class || (X.env.scope.kind == .module && X.env.locals != X.env.globals))=false:=by rw[I.ok.kind];rfl
 have af:i < σ.length:=by rw[I.len];exact(Ax.mp hi).1
 have cne:=I.cne;have F:∀{a:Ag} {h':Bi},(∃ o,s.heap.get? a=some o∧H a=none)→Dr a s.heap h'→HOk X.prog X.w H h':=fun{a h'} ha hs b ob e=>by
  obtain⟨_,_,hfree⟩:=ha;refine(I.hok b ob e).stay (fun c w' hc q=>(hs.2 c ?_).trans q) (fun _ q=>q) fun _ _ q=>q;rintro rfl;rcases hc with rfl | hc
  ·rw[hfree]at e;cases e
  ·rw[hfree]at hc;cases hc
 rcases hx with O | O
 ·refine wpAny_storeName_local O hn (fun h' ai hs=>?_) ad;obtain⟨oL,_,_,hoL,_⟩:=id hn;refine h _ ⟨I.ok,I.os,I.bare,⟨fun b o e n Y hx=>?_,fun b o e n Y hx=>?_,I.base.free,fun b o e hx=>?_,I.base.tups,I.base.frzs,I.base.tbls⟩,⟨_,ai,fun j y v' G J e3=>?_⟩,fun y c e=>?_,I.free,I.freeC,fun p hp=>?_,F ⟨oL,hoL,I.free⟩ hs,by simpa using I.len⟩ ⟨_,hs,.inl rfl⟩
  ·exact(hs.2 b (AA (AZ (Ar e) I.ok.above))).trans (I.base.keep b o e n Y hx)
  ·obtain⟨sl,G⟩:=I.base.slot b o e n Y hx;exact⟨sl,(hs.2 b (AA (AZ (Ar e) I.ok.above))).trans G⟩
  ·obtain⟨o',G⟩:=I.base.there b o e hx;exact⟨o',(hs.2 b (AA (AZ (Ar e) I.ok.above))).trans G⟩
  ·by_cases hj:j=i
   ·subst hj;rw[hi]at G;cases G;rw[E7 af]at J;cases J;exact⟨u,r,.inl ⟨O,by simp⟩⟩
   ·rw[List.getElem?_set_ne (B4 hj)]at J;obtain⟨u',r',q⟩:=hl j y v' G J e3;refine⟨u',r',?_⟩;rcases q with⟨k,e⟩ | ⟨k,c,e,z⟩
    ·refine .inl ⟨k,?_⟩;have:y≠x:=fun e=>hj (xP hN G (e ▸ hi));simp[this,e]
    ·exact .inr ⟨k,c,e,z.sameBut hs (cne y c e)⟩
  ·obtain⟨w',z⟩:=I.cell y c e;exact⟨w',z.sameBut hs (cne y c e)⟩
  ·obtain⟨e,n,ne,nf,d⟩:=I.pin p hp;exact⟨(hs.2 p.1 ne).trans e,n,ne,nf,d⟩
 ·have Z:X.fn x=true:=by
   rcases hf with z | z
   ·exact z
   ·rw[z]at O;cases O
  obtain⟨c,hc⟩:=I.ok.has x (.inl O);obtain⟨w',z⟩:=I.cell x c hc;refine wpAny_storeName_cell I.ok.kind O hc z (fun h' ab hs=>?_);obtain⟨oc,hoc,hocd⟩:=id z;refine h { s with heap:=h' } ⟨I.ok,I.os,I.bare,⟨fun b o e n Y hx=>?_,fun b o e n Y hx=>?_,I.base.free,fun b o e hx=>?_,I.base.tups,I.base.frzs,I.base.tbls⟩,⟨m,hn.sameBut hs (B4 (cne x c hc)),fun j y v' G J e3=>?_⟩,fun y c' e=>?_,I.free,I.freeC,fun p hp=>?_,F ⟨oc,hoc,I.freeC x c hc⟩ hs,by simpa using I.len⟩ ⟨c,hs,.inr hc⟩
  ·exact(hs.2 b (AA (AZ (Ar e) (I.ok.cab x c Z hc)))).trans (I.base.keep b o e n Y hx)
  ·obtain⟨sl,G⟩:=I.base.slot b o e n Y hx;exact⟨sl,(hs.2 b (AA (AZ (Ar e) (I.ok.cab x c Z hc)))).trans G⟩
  ·obtain⟨o',G⟩:=I.base.there b o e hx;exact⟨o',(hs.2 b (AA (AZ (Ar e) (I.ok.cab x c Z hc)))).trans G⟩
  ·by_cases hj:j=i
   ·subst hj;rw[hi]at G;cases G;rw[E7 af]at J;cases J;exact⟨u,r,.inr ⟨.inl O,c,hc,ab⟩⟩
   ·rw[List.getElem?_set_ne (B4 hj)]at J;obtain⟨u',r',q⟩:=hl j y v' G J e3;refine⟨u',r',?_⟩;rcases q with q | ⟨k,c',e,z'⟩
    ·exact .inl q
    ·refine .inr ⟨k,c',e,z'.sameBut hs ?_⟩;rintro rfl;exact hj (xP hN G (I.ok.inj _ _ _ e hc ▸ hi))
  ·by_cases ae:c'=c
   ·subst ae;exact⟨_,ab⟩
   ·obtain⟨w2,z2⟩:=I.cell y c' e;exact⟨w2,z2.sameBut hs ae⟩
  ·obtain⟨e,n,ne,nf,d⟩:=I.pin p hp;refine⟨(hs.2 p.1 ?_).trans e,n,ne,nf,d⟩;intro q;rw[q,hoc]at e;have q':oc=p.2:=Cc.inj e;exact d w' (by rw[← q'];exact hocd)
theorem lS{M:G8}{A:AS}{E:Ad→Af→Prop}{i:Nat}{x:Str}{v:V}{u:Ad}{Q:Unit→Af→Prop}(I:Inv X iw σ H s)(hN:X.N.Nodup)(hi:X.N[i]?=some x)(hx:Loc X.env.scope x)(r:cF v u)
  (h:∀ s',Inv X iw (σ.set i (some v)) H s'→Q () s') (q:X.fn x=true∨X.env.scope.names.lookup x=some .local:=by first | exact .inl rfl | exact .inr rfl | assumption):wpAny M A (storeName X.env x u) Q E s:=
 uQ I hN hi hx r (fun s' F _=>h s' F) q
theorem Inv.call'{s':Af}{ch:List Ag}(I:Inv X iw σ H s)(ho:s'.os=s.os)(u:Un (frs X.stack) ch H H' s.heap s'.heap)(hok:HOk X.prog X.w H' s'.heap)(F:EL s'.gens)
  (q:∀ b∈ch,(b∈X.ex∨X.s₀.heap.objs.size≤b)∧b≠X.env.locals∧(∀ x c,X.env.cells.lookup x=some c→c≠b)∧∀ p∈X.pn ++ iw,p.1≠b):Inv X iw σ H' s':=by
 obtain⟨h',g',d',t',o'⟩:=s';have e:o'=s.os:=ho;subst e;exact I.call (g':=g') (t':=t') (d':=d') u hok F q
end
abbrev XK:=Ad→Option Ag→Hp→Prop
abbrev St:=List (Option V)
abbrev VK:=V→Hp→Prop
abbrev TE:=St→Hp→VK→Prop
abbrev TT:=St→Hp→(Bool→Hp→Prop)→Prop
abbrev TA:=St→Hp→(List V→Hp→Prop)→Prop
structure Ends where
 nx:St→Hp→Prop
 rt:VK
 bk:St→Hp→Prop:=fun _ _=>False
 ct:St→Hp→Prop:=fun _ _=>False
abbrev TS:=Ends→St→Hp→Prop
inductive aHv(X:Cx)(iw:Ih)(σ:St)(Q:VK)(u:Ad)(s':Af):Prop
 | mk (v:_) (H':_) (q0:Inv X iw σ H' s') (q1:cF v u) (q2:Q v H'):aHv X iw σ Q u s'
def EP(X:Cx)(iw:Ih)(σ:St)(Q:VK)(u:Ad)(s':Af):Prop:=aHv X iw σ Q u s'
def TP(X:Cx)(iw:Ih)(σ:St)(Q:Bool→Hp→Prop)(b:Bool)(s':Af):Prop:=∃ H',Inv X iw σ H' s'∧Q b H'
inductive aHw(X:Cx)(iw:Ih)(σ:St)(Q:List V→Hp→Prop)(us:List Ad)(s':Af):Prop
 | mk (vs:_) (H':_) (q0:Inv X iw σ H' s') (q1:bX vs us) (q2:Q vs H'):aHw X iw σ Q us s'
def AP(X:Cx)(iw:Ih)(σ:St)(Q:List V→Hp→Prop)(us:List Ad)(s':Af):Prop:=aHw X iw σ Q us s'
def SP(X:Cx)(iw:Ih)(D:Ends)(f:Flow)(s':Af):Prop:=
 match f with
 | .next=>∃ σ' H',Inv X iw σ' H' s'∧D.nx σ' H'
 | .brk=>∃ σ' H',Inv X iw σ' H' s'∧D.bk σ' H'
 | .cont=>∃ σ' H',Inv X iw σ' H' s'∧D.ct σ' H'
 | .ret u=>∃ v σ' H',Inv X iw σ' H' s'∧cF v u∧D.rt v H'
structure PE(X:Cx)(e:Ba)(t:TE):Prop where
 run:
  ∀(iw:Ih) (s:Af) (σ:St) (H:Hp) (Q:VK),Inv X iw σ H s→t σ H Q→wpAny (model X.prog X.w) X.A (eval e X.env) (EP X iw σ Q) X.xe s
instance{X:Cx}{e:Ba}{t:TE}:CoeFun (PE X e t) (fun _=>
 ∀(iw:Ih) (s:Af) (σ:St) (H:Hp) (Q:VK),Inv X iw σ H s→t σ H Q→wpAny (model X.prog X.w) X.A (eval e X.env) (EP X iw σ Q) X.xe s):=⟨fun h=>h.run⟩
structure PT(X:Cx)(e:Ba)(t:TT):Prop where
 run:
  ∀(iw:Ih) (s:Af) (σ:St) (H:Hp) (Q:Bool→Hp→Prop),Inv X iw σ H s→t σ H Q→wpAny (model X.prog X.w) X.A (isTrue e X.env (eval e X.env)) (TP X iw σ Q) X.xe s
instance{X:Cx}{e:Ba}{t:TT}:CoeFun (PT X e t) (fun _=>
 ∀(iw:Ih) (s:Af) (σ:St) (H:Hp) (Q:Bool→Hp→Prop),Inv X iw σ H s→t σ H Q→wpAny (model X.prog X.w) X.A (isTrue e X.env (eval e X.env)) (TP X iw σ Q) X.xe s):=⟨fun h=>h.run⟩
structure PW(X:Cx)(e:Ba)(t:TT):Prop where
 run:
  ∀(whole:Sem Ad) (iw:Ih) (s:Af) (σ:St) (H:Hp) (Q:Bool→Hp→Prop),Inv X iw σ H s→t σ H Q→wpAny (model X.prog X.w) X.A (isTrue e X.env whole) (TP X iw σ Q) X.xe s
instance{X:Cx}{e:Ba}{t:TT}:CoeFun (PW X e t) (fun _=>
 ∀(whole:Sem Ad) (iw:Ih) (s:Af) (σ:St) (H:Hp) (Q:Bool→Hp→Prop),Inv X iw σ H s→t σ H Q→wpAny (model X.prog X.w) X.A (isTrue e X.env whole) (TP X iw σ Q) X.xe s):=⟨fun h=>h.run⟩
theorem PW.pt{X:Cx}{e:Ba}{t:TT}(h:PW X e t):PT X e t:=⟨h.run _⟩
structure PA(X:Cx)(es:List Ba)(t:TA):Prop where
 run:
  ∀(pos:Pos) (iw:Ih) (s:Af) (σ:St) (H:Hp) (Q:List V→Hp→Prop),Inv X iw σ H s→t σ H Q→wpAny (model X.prog X.w) X.A (spliced (backTo pos (starEach es X.env))) (AP X iw σ Q) X.xe s
instance{X:Cx}{es:List Ba}{t:TA}:CoeFun (PA X es t) (fun _=>
 ∀(pos:Pos) (iw:Ih) (s:Af) (σ:St) (H:Hp) (Q:List V→Hp→Prop),Inv X iw σ H s→t σ H Q→wpAny (model X.prog X.w) X.A (spliced (backTo pos (starEach es X.env))) (AP X iw σ Q) X.xe s):=⟨fun h=>h.run⟩
structure PS(X:Cx)(st:Co)(t:TS):Prop where
 run:
  ∀(iw:Ih) (s:Af) (σ:St) (H:Hp) (D:Ends),Inv X iw σ H s→t D σ H→wpAny (model X.prog X.w) X.A (exec st X.env) (SP X iw D) X.xe s
instance{X:Cx}{st:Co}{t:TS}:CoeFun (PS X st t) (fun _=>
 ∀(iw:Ih) (s:Af) (σ:St) (H:Hp) (D:Ends),Inv X iw σ H s→t D σ H→wpAny (model X.prog X.w) X.A (exec st X.env) (SP X iw D) X.xe s):=⟨fun h=>h.run⟩
structure PSs(X:Cx)(st:List Co)(t:TS):Prop where
 run:
  ∀(iw:Ih) (s:Af) (σ:St) (H:Hp) (D:Ends),Inv X iw σ H s→t D σ H→wpAny (model X.prog X.w) X.A (execs st X.env) (SP X iw D) X.xe s
instance{X:Cx}{st:List Co}{t:TS}:CoeFun (PSs X st t) (fun _=>
 ∀(iw:Ih) (s:Af) (σ:St) (H:Hp) (D:Ends),Inv X iw σ H s→t D σ H→wpAny (model X.prog X.w) X.A (execs st X.env) (SP X iw D) X.xe s):=⟨fun h=>h.run⟩
theorem thn{α:Type}{t:Sem α}{Q q:α→Af→Prop}{M:G8}{A:AS}{E:Ad→Af→Prop}{s:Af}(h:wpAny M A t Q E s)(F:∀ a s,Q a s→q a s):wpAny M A t q E s:=Cv h F fun _ _ x=>x
section
variable{X:Cx}
inductive aCZ(i:Nat)(σ:St)(H:Hp)(Q:VK):Prop
 | mk (v:_) (q0:σ[i]?=some (some v)) (q1:Q v H):aCZ i σ H Q
def aHx(i:Nat):TE:=fun σ H Q=>aCZ i σ H Q
def tC(v:V):TE:=fun _ H Q=>Q v H
theorem aGx{i:Nat}{x:Str}{pos:Pos}(hN:X.N[i]?=some x)(hv:Vis X.env.scope x)(hd:(x == ("__debug__":Str))=false:=by decide)(F:(x == ("__classdict__":Str))=false:=by decide):PE X (.Name x pos) (aHx i):=by
 constructor;intro iw s σ H Q I h;obtain⟨v,e,h⟩:=h;obtain⟨m,hn,hl⟩:=I.loc;obtain⟨u,r,l⟩:=hl i x v hN e hv;have fin:EP X iw σ Q u s:=⟨v,H,I,r,h⟩
 rcases l with⟨q,hm⟩ | ⟨q,c,hc,hcell⟩
 ·exact wpAny_Name (wpAny_loadName_local I.ok.kind q hn hm fin) hd
 ·rcases q with q | q
  ·exact wpAny_Name (wpAny_loadName_cell I.ok.kind q hc hcell fin) hd
  ·exact wpAny_Name (wpAny_loadName_free I.ok.kind q hc hcell fin F) hd
theorem aD{i j pos}:PE X (.Constant (.int i) j pos) (tC (.int i)):=⟨fun _ _ _ H _ I h=>wpAny_Constant_int ⟨.int i,H,I.tok _,⟨_,rfl⟩,h⟩⟩
theorem aF7{b j pos}:PE X (.Constant (.bool b) j pos) (tC (.bl b)):=⟨fun _ _ _ H _ I h=>Constant_bool ⟨.bl b,H,I,rfl,h⟩⟩
theorem aN{x j pos}:PE X (.Constant (.str x) j pos) (tC (.str x)):=⟨fun _ _ _ H _ I h=>Calls.Constant_str ⟨.str x,H,I.tok _,⟨_,rfl⟩,h⟩⟩
def Gl(X:Cx)(x:Str):Prop:=X.env.kindOf x=some .globalImplicit
theorem wB{E:Ad→Af→Prop}{iw:Ih}{s:Af}{σ:St}{H:Hp}{x:Str}{u:Ad}{pos:Pos}{Q:Ad→Af→Prop}(I:Inv X iw σ H s)(q:Gl X x)(hm:X.mg x=some u)(h:Q u s)
  (hd:(x == ("__debug__":Str))=false:=by decide):wpAny (model X.prog X.w) X.A (eval (.Name x pos) X.env) Q E s:=
 Calls.Name_function_global I.ok.kind q (Calls.loadGlobal_global (by rw[I.ok.glob];exact I.mod.glob.keeps I.bk) hm h) hd
theorem rR{E:Ad→Af→Prop}{iw:Ih}{s:Af}{σ:St}{H:Hp}{x:Str}{u:Ad}{pos:Pos}{Q:Ad→Af→Prop}(I:Inv X iw σ H s)(q:Gl X x)(hm:X.mg x=none)(hv:bootBuiltins x=some u)(h:Q u s)
  (hn:x≠"__name__":=by decide) (hd:(x == ("__debug__":Str))=false:=by decide):wpAny (model X.prog X.w) X.A (eval (.Name x pos) X.env) Q E s:=by
 obtain⟨mb,h1,h2⟩:=I.mod.blt;exact Calls.Name_function_global I.ok.kind q (Calls.loadGlobal_builtin (by rw[I.ok.glob];exact I.mod.glob.keeps I.bk) hm (by rw[I.ok.blt];exact h1.keeps I.bk) ((h2 x hn).trans hv) h) hd
theorem aE7{x:Str}{v:V}{u:Ad}{pos:Pos}(q:Gl X x)(hm:X.mg x=some u)(r:cF v u)(hd:(x == ("__debug__":Str))=false:=by decide):PE X (.Name x pos) (tC v):=
 ⟨fun _ _ _ H _ I h=>wB I q hm ⟨v,H,I,r,h⟩ hd⟩
theorem aE8{x:Str}{v:V}{u:Ad}{pos:Pos}(q:Gl X x)(hm:X.mg x=none)(hv:bootBuiltins x=some u)(r:cF v u)(hn:x≠"__name__":=by decide)(hd:(x == ("__debug__":Str))=false:=by decide):PE X (.Name x pos) (tC v):=
 ⟨fun _ _ _ H _ I h=>rR I q hm hv ⟨v,H,I,r,h⟩ hn hd⟩
variable{a b:Ba}{ta tb:TE}{pos:Pos}
structure PC(X:Cx)(op:Ht)(a b:Ba)(t:TE):Prop where
 run:
  ∀(iw:Ih) (s:Af) (σ:St) (H:Hp) (Q:VK),Inv X iw σ H s→t σ H Q→
   wpAny (model X.prog X.w) X.A (eval a X.env) (fun v s₁=>wpAny (model X.prog X.w) X.A (eval b X.env) (fun u s₂=>wpAny (model X.prog X.w) X.A (compareOp op v u) (EP X iw σ Q) X.xe s₂) X.xe s₁) X.xe s
instance{X:Cx}{op:Ht}{a b:Ba}{t:TE}:CoeFun (PC X op a b t) (fun _=>
 ∀(iw:Ih) (s:Af) (σ:St) (H:Hp) (Q:VK),Inv X iw σ H s→t σ H Q→
  wpAny (model X.prog X.w) X.A (eval a X.env) (fun v s₁=>wpAny (model X.prog X.w) X.A (eval b X.env) (fun u s₂=>wpAny (model X.prog X.w) X.A (compareOp op v u) (EP X iw σ Q) X.xe s₂) X.xe s₁) X.xe s):=⟨fun h=>h.run⟩
inductive As{α:Type}(f:α→V)(x:V)(Q:α→Prop):Prop
 | mk (c:α) (h:x=f c) (q:Q c):As f x Q
def tB(t:TE):TT:=fun σ H Q=>t σ H fun x H1=>As V.bl x fun c=>Q c H1
theorem aAm{op:Ht}{t:TE}(h:PC X op a b t)(h1:behindInMarks op b=false:=by first | exact nobehind _ (by decide) (by decide) | rfl):PE X (.Compare a [op] [b] pos) t:=⟨fun iw s σ H Q I hw=>wpAny_Compare1 (h iw s σ H Q I hw) h1⟩
theorem iW{op:Ht}{t:TE}(h:PC X op a b t)(h1:behindInMarks op b=false:=by first | exact nobehind _ (by decide) (by decide) | rfl):PT X (.Compare a [op] [b] pos) (tB t):=by
 constructor;intro iw s σ H Q I hw;refine wpAny_isTrue_Compare1 (thn (h iw s σ H _ I hw) fun v s1 h1=>thn h1 fun u s2 h2=>thn h2 fun c M ⟨x,H1,F,G,J⟩=>?_) h1;obtain⟨d,rfl,q⟩:=J;cases G;exact CY ⟨H1,F,q⟩
theorem wC{e:Ba}{t:TE}(h:PE X e t)(M:∀ F,isTrue e X.env F=(do let v ← F;standAt e.pos;holding [v] (truthy v)):=by intro _;rfl):PT X e (tB t):=by
 constructor;intro iw s σ H Q I hw;refine isTrue_plain (thn (h iw s σ H _ I hw) fun v s1 ⟨x,H1,G,J,O⟩=>?_) (M _);obtain⟨d,rfl,q⟩:=O;cases J;exact CY ⟨H1,G,q⟩
variable{tA jv:TT}{b8:List Ba}
def aIt(t u:TT):TT:=fun σ H Q=>t σ H fun c H1=>if c=true then u σ H1 Q else Q false H1
def tOr(t u:TT):TT:=fun σ H Q=>t σ H fun c H1=>if c=true then Q true H1 else u σ H1 Q
def aIu(t:TT):TT:=fun σ H Q=>t σ H fun c H1=>Q (!c) H1
theorem gL(ha:PT X a tA):PW X (.BoolOp .And [a] pos) tA:=by
 constructor;intro wh iw s σ H Q I h;refine isTrue_and (thn (ha iw s σ H Q I h) fun c s1 e=>?_);cases c with
 | true=>exact isTrue_and_nil e
 | false=>exact e
theorem wD(ha:PT X a tA):PW X (.BoolOp .Or [a] pos) tA:=by
 constructor;intro wh iw s σ H Q I h;refine isTrue_or (thn (ha iw s σ H Q I h) fun c s1 e=>?_);cases c with
 | false=>exact isTrue_or_nil e
 | true=>exact e
theorem iJ(ha:PT X a tA)(G:PW X (.BoolOp .And (b :: b8) pos) jv):PW X (.BoolOp .And (a :: b :: b8) pos) (aIt tA jv):=by
 constructor;intro wh iw s σ H Q I h;refine isTrue_and (thn (ha iw s σ H _ I h) fun c s1 ⟨H1,q,F⟩=>?_);cases c with
 | true=>exact G wh iw s1 σ H1 Q q F
 | false=>exact⟨H1,q,F⟩
theorem aA9(ha:PT X a tA)(G:PW X (.BoolOp .Or (b :: b8) pos) jv):PW X (.BoolOp .Or (a :: b :: b8) pos) (tOr tA jv):=by
 constructor;intro wh iw s σ H Q I h;refine isTrue_or (thn (ha iw s σ H _ I h) fun c s1 ⟨H1,q,F⟩=>?_);cases c with
 | true=>exact⟨H1,q,F⟩
 | false=>exact G wh iw s1 σ H1 Q q F
theorem aC0(ha:PT X a tA):PT X (.UnaryOp .Not a pos) (aIu tA):=by
 constructor;intro iw s σ H Q I h;exact isTrue_not (ha iw s σ H (fun c H1=>Q (!c) H1) I h)
def aHy(ta tb:TE):TE:=fun σ H Q=>ta σ H fun x H1=>As V.bl x fun c=>if c=true then tb σ H1 Q else Q (.bl false) H1
theorem aC1{op}{t:TE}(h:PE X a t):PE X (.BoolOp op [a] pos) t:=⟨fun iw s σ H Q I hw=>BoolOp_one (h iw s σ H Q I hw)⟩
theorem aC2(ha:PE X a ta)(J:PE X (.BoolOp .And (b :: b8) pos) tb):PE X (.BoolOp .And (a :: b :: b8) pos) (aHy ta tb):=by
 constructor;intro iw s σ H Q I h;refine BoolOp_and (thn (ha iw s σ H _ I h) fun v s1 ⟨x,H1,F,G,q⟩=>?_);obtain⟨c,rfl,q⟩:=q;cases G;refine CY ?_;cases c with
 | true=>exact J iw s1 σ H1 Q F q
 | false=>exact⟨.bl false,H1,F,rfl,q⟩
def tIf(t:TT)(ta tb:TE):TE:=fun σ H Q=>t σ H fun c H1=>if c=true then ta σ H1 Q else tb σ H1 Q
theorem aC3{c:Ba}(hc:PT X c tA)(ha:PE X a ta)(G:PE X b tb):PE X (.IfExp c a b pos) (tIf tA ta tb):=by
 constructor;intro iw s σ H Q I h;refine wpAny_IfExp (thn (hc iw s σ H _ I h) fun d s1 ⟨H1,q,F⟩=>?_);cases d with
 | true=>exact ha iw s1 σ H1 Q q F
 | false=>exact G iw s1 σ H1 Q q F
end
def SqL(K:Ah)(H:Hp)(a:Ag)(xs:List V):Prop:=
 Rd H a (.lst xs)∨
  ∃(o:Obj) (its:Array Ad) (n:Nat),K.lookup a=some o∧o.cls=.type "list"∧o.dict=none∧o.data=.seq its n∧its.size≤sizeLine∧bX xs its.toList
def SqT(K:Ah)(H:Hp)(a:Ag)(xs:List V):Prop:=
 Rd H a (.tup xs)∨
  ∃(o:Obj) (its:Array Ad) (n:Nat),K.lookup a=some o∧o.cls=.type "tuple"∧o.data=.seq its n∧its.size≤sizeLine∧bX xs its.toList
def aIv:Ad→Option V
 | .none=>some .non
 | .bool b=>some (.bl b)
 | .int i _=>some (.int i)
 | .str x _=>some (.str x)
 | .bytes b _=>some (.byt b)
 | .float b _=>some (.flt b)
 | .ref a=>some (.ref a)
 | .type n=>some (.ty n)
 | _=>none
theorem cF.abs{x:V}{u:Ad}(r:cF x u):aIv u=some x:=by
 cases x with
 | non=>cases r;rfl
 | bl _=>cases r;rfl
 | int _=>obtain⟨t,rfl⟩:=r;rfl
 | str _=>obtain⟨t,rfl⟩:=r;rfl
 | byt _=>obtain⟨t,rfl⟩:=r;rfl
 | flt _=>obtain⟨t,rfl⟩:=r;rfl
 | ref _=>cases r;rfl
 | ty _=>cases r;rfl
theorem cF.inj{x y:V}{u:Ad}(r:cF x u)(q:cF y u):x=y:=Cc.inj (r.abs.symm.trans q.abs)
theorem bX.inj:∀{xs ys:List V}{q:List Ad},bX xs q→bX ys q→xs=ys
 | _,_,_,.nil,.nil=>rfl
 | _,_,_,.cons r t,.cons F t'=>by rw[r.inj F,bX.inj t t']
section
variable{X:Cx}{iw:Ih}{σ:St}{H:Hp}{s:Af}{a:Ag}{xs ys:List V}
theorem aU{K:Ah}(h:H a=some (.lst xs)):SqL K H a xs:=.inl (.inl h)
theorem aH{K:Ah}(h:H a=some (.tup xs)):SqT K H a xs:=.inl (.inl h)
theorem Inv.list(I:Inv X iw σ H s)(h:SqL X.K H a xs):∃ its:List Ad,bX xs its∧PlainL s.heap a its.toArray∧xs.length≤sizeLine:=by
 rcases h with h | ⟨o,its,n,q,hc,hd,hs,hz,r⟩
 ·obtain⟨z,its,n,r,e⟩:=h.ok I.hok;exact⟨its,r,⟨_,n,e,rfl,rfl,rfl⟩,z⟩
 ·refine⟨its.toList,r,⟨o,n,I.kIn a o q,hc,hd,by simpa using hs⟩,?_⟩;have e:=r.length;simp only[Bf]at e;omega
theorem Inv.tuple(I:Inv X iw σ H s)(h:SqT X.K H a xs):∃ its:List Ad,bX xs its∧E9 s.heap a its.toArray∧xs.length≤sizeLine:=by
 rcases h with h | ⟨o,its,n,q,hc,hs,hz,r⟩
 ·obtain⟨z,its,r,p⟩:=h.ok I.hok;exact⟨its,r,p.tup,z⟩
 ·refine⟨its.toList,r,⟨o,I.kIn a o q,hc,n,by simpa using hs⟩,?_⟩;have e:=r.length;simp only[Bf]at e;omega
theorem Inv.list_inj(I:Inv X iw σ H s)(h:SqL X.K H a xs)(h':SqL X.K H a ys):xs=ys:=by
 obtain⟨its,r,⟨o,n,e,_,_,d⟩,_⟩:=I.list h;obtain⟨its',r',⟨o',n',e',_,_,d'⟩,_⟩:=I.list h';rw[e]at e';cases e';rw[d]at d';injection d' with d1 _;have:its=its':=by simpa using congrArg Array.toList d1
 subst this;exact r.inj r'
theorem Inv.tuple_inj(I:Inv X iw σ H s)(h:SqT X.K H a xs)(h':SqT X.K H a ys):xs=ys:=by
 obtain⟨its,r,⟨o,e,_,n,d⟩,_⟩:=I.tuple h;obtain⟨its',r',⟨o',e',_,n',d'⟩,_⟩:=I.tuple h';rw[e]at e';cases e';rw[d]at d';injection d' with d1 _;have:its=its':=by simpa using congrArg Array.toList d1
 subst this;exact r.inj r'
end
abbrev Cx.wish(X:Cx)(E:Ad→Af→Prop):Cx:={ X with xe:=E }
abbrev Cx.nox(X:Cx):Cx:=X.wish fun _ _=>False
theorem Cx.Ok.wish{X:Cx}(ok:X.Ok)(E:Ad→Af→Prop):(X.wish E).Ok:=
 ⟨ok.mod,ok.kind,ok.glob,ok.blt,ok.above,ok.inj,ok.has,ok.cab,ok.hd,ok.frames,ok.stk,ok.exf,ok.bs,ok.bsz,ok.noex,ok.exfs,ok.funs,ok.frf⟩
theorem Cx.Ok.unwish{X:Cx}{E:Ad→Af→Prop}(ok:(X.wish E).Ok):X.Ok:=
 ⟨ok.mod,ok.kind,ok.glob,ok.blt,ok.above,ok.inj,ok.has,ok.cab,ok.hd,ok.frames,ok.stk,ok.exf,ok.bs,ok.bsz,ok.noex,ok.exfs,ok.funs,ok.frf⟩
section
variable{X:Cx}{iw:Ih}{σ:St}{H:Hp}{s:Af}{E:Ad→Af→Prop}
theorem Inv.wish(I:Inv X iw σ H s)(E:Ad→Af→Prop):Inv (X.wish E) iw σ H s:=⟨I.ok.wish E,I.os,I.bare,I.base,I.loc,I.cell,I.free,I.freeC,I.pin,I.hok,I.len⟩
theorem Inv.unwish(I:Inv (X.wish E) iw σ H s):Inv X iw σ H s:=⟨I.ok.unwish,I.os,I.bare,I.base,I.loc,I.cell,I.free,I.freeC,I.pin,I.hok,I.len⟩
theorem SP.unwish{D:Ends}{f:Flow}{s':Af}(h:SP (X.wish E) iw D f s'):SP X iw D f s':=by
 cases f with
 | next=>obtain⟨σ',H',I,q⟩:=h;exact⟨σ',H',I.unwish,q⟩
 | brk=>obtain⟨σ',H',I,q⟩:=h;exact⟨σ',H',I.unwish,q⟩
 | cont=>obtain⟨σ',H',I,q⟩:=h;exact⟨σ',H',I.unwish,q⟩
 | ret u=>obtain⟨v,σ',H',I,r,q⟩:=h;exact⟨v,σ',H',I.unwish,r,q⟩
theorem PSs.nox{st:List Co}{t:TS}(h:PSs X.nox st t):PSs X st t:=⟨fun iw s σ H D I hw=>
 Cv (h iw s σ H D (I.wish _) hw) (fun _ _ q=>q.unwish) fun _ _ z=>B7 z⟩
end
section
variable{X:Cx}{st:Co}{b8:List Co}{t u:TS}{e:Ba}{te:TE}{pos:Pos}
def aHz:TS:=fun D σ H=>D.nx σ H
def aGy(t u:TS):TS:=fun D σ H=>t { D with nx:=u D } σ H
theorem bB:PSs X [] aHz:=⟨fun _ _ σ H _ I h=>Fu ⟨σ,H,I,h⟩⟩
theorem aB(h1:PS X st t)(h2:PSs X b8 u):PSs X (st :: b8) (aGy t u):=by
 constructor;intro iw s σ H D I h;refine wpAny_execs_cons (thn (h1 iw s σ H { D with nx:=u D } I h) fun f s1 q=>?_);cases f with
 | next=>
  obtain⟨σ',H',I',q⟩:=q;exact h2 iw s1 σ' H' D I' q
 | ret v=>exact q
 | brk=>exact q
 | cont=>exact q
theorem aM(h1:PS X st t):PSs X [st] t:=by
 constructor;intro iw s σ H D I h;refine wpAny_execs_cons (thn (h1 iw s σ H D I h) fun f s1 q=>?_);cases f with
 | next=>exact Fu q
 | ret v=>exact q
 | brk=>exact q
 | cont=>exact q
theorem Inv.quiet{iw:Ih}{σ:St}{H:Hp}{s:Af}(I:Inv X iw σ H s):interactive X.env=false:=by simp[interactive,I.ok.kind]
def aHA(te:TE):TS:=fun D σ H=>te σ H fun _ H1=>D.nx σ H1
theorem dC(q:PE X e te)(hs:swapsWith e none pos.line X.env=pure false:=by rfl):PS X (.Expr e pos) (aHA te):=by
 constructor;intro iw s σ H D I h;exact wpAny_Expr_any (thn (q iw s σ H _ I h) fun v s1 ⟨x,H1,F,J,G⟩=>⟨σ,H1,F,G⟩) I.quiet hs
def aIw(te:TE):TS:=fun D σ H=>te σ H D.rt
theorem bJ(q:PE X e te):PS X (.Return (some e) pos) (aIw te):=by
 constructor;intro iw s σ H D I h;exact wpAny_Return_some (thn (q iw s σ H _ I h) fun v s1 ⟨x,H1,F,J,G⟩=>⟨x,σ,H1,F,J,G⟩)
def aIx(c:TT)(t u:TS):TS:=fun D σ H=>c σ H fun b H1=>if b=true then t D σ H1 else u D σ H1
theorem cB{c:Ba}{a b:List Co}{tc:TT}(hc:PT X c tc)(ha:PSs X a t)(G:PSs X b u):PS X (.If c a b pos) (aIx tc t u):=by
 constructor;intro iw s σ H D I h;refine wpAny_If (thn (hc iw s σ H _ I h) fun d s1 ⟨H1,q,F⟩=>?_);cases d with
 | true=>exact ha iw s1 σ H1 D q F
 | false=>exact G iw s1 σ H1 D q F
end
abbrev TG:=V→St→Hp→(St→Hp→Prop)→Prop
abbrev TGs:=List V→St→Hp→(St→Hp→Prop)→Prop
structure PG(X:Cx)(target:Ba)(t:TG):Prop where
 run:
  ∀(iw:Ih) (s:Af) (σ:St) (H:Hp) (v:V) (u:Ad) (Q:St→Hp→Prop),Inv X iw σ H s→cF v u→t v σ H Q→
   wpAny (model X.prog X.w) X.A (assign target X.env u) (fun _ s'=>∃ σ' H',Inv X iw σ' H' s'∧Q σ' H') X.xe s
instance{X:Cx}{target:Ba}{t:TG}:CoeFun (PG X target t) (fun _=>
 ∀(iw:Ih) (s:Af) (σ:St) (H:Hp) (v:V) (u:Ad) (Q:St→Hp→Prop),Inv X iw σ H s→cF v u→t v σ H Q→
  wpAny (model X.prog X.w) X.A (assign target X.env u) (fun _ s'=>∃ σ' H',Inv X iw σ' H' s'∧Q σ' H') X.xe s):=⟨fun h=>h.run⟩
structure PGs(X:Cx)(ts:List Ba)(t:TGs):Prop where
 run:
  ∀(iw:Ih) (s:Af) (σ:St) (H:Hp) (vs:List V) (us:List Ad) (Q:St→Hp→Prop),Inv X iw σ H s→bX vs us→t vs σ H Q→
   wpAny (model X.prog X.w) X.A (assignInOrder ((assignEach ts X.env).map (·.2)) us) (fun _ s'=>∃ σ' H',Inv X iw σ' H' s'∧Q σ' H') X.xe s
instance{X:Cx}{ts:List Ba}{t:TGs}:CoeFun (PGs X ts t) (fun _=>
 ∀(iw:Ih) (s:Af) (σ:St) (H:Hp) (vs:List V) (us:List Ad) (Q:St→Hp→Prop),Inv X iw σ H s→bX vs us→t vs σ H Q→
  wpAny (model X.prog X.w) X.A (assignInOrder ((assignEach ts X.env).map (·.2)) us) (fun _ s'=>∃ σ' H',Inv X iw σ' H' s'∧Q σ' H') X.xe s):=⟨fun h=>h.run⟩
abbrev aGz:=V→V→V→Hp→(Hp→Prop)→Prop
def aHB(X:Cx)(t:aGz):Prop:=
 ∀(iw:Ih) (s:Af) (σ:St) (H:Hp) (o i v:V) (ov iv u:Ad) (Q:Hp→Prop),Inv X iw σ H s→cF o ov→cF i iv→cF v u→t o i v H Q→
  wpAny (model X.prog X.w) X.A (setItem ov iv u) (fun _ s'=>∃ H',Inv X iw σ H' s'∧Q H') X.xe s
abbrev TIp:=V→V→Hp→VK→Prop
def PIp(X:Cx)(op:Operator)(t:TIp):Prop:=
 ∀(iw:Ih) (s:Af) (σ:St) (H:Hp) (x y:V) (v u:Ad) (Q:VK),Inv X iw σ H s→cF x v→cF y u→t x y H Q→
  wpAny (model X.prog X.w) X.A (inplaceOp op v u) (EP X iw σ Q) X.xe s
section
variable{X:Cx}{pos:Pos}
def aY(i:Nat):TG:=fun v σ H Q=>Q (σ.set i (some v)) H
theorem aZ{i:Nat}{x:Str}(hN:X.N.Nodup)(hi:X.N[i]?=some x)(hx:Loc X.env.scope x)(q:X.fn x=true∨X.env.scope.names.lookup x=some .local:=by first | exact .inl rfl | exact .inr rfl | assumption):PG X (.Name x pos) (aY i):=by
 constructor;intro iw s σ H v u Q I r h;exact wpAny_assign_Name (lS I hN hi hx r (fun s' F=>⟨_,H,F,h⟩) q)
def xQ:TGs:=fun vs σ H Q=>vs=[]∧Q σ H
inductive aBa(t:TG)(u:TGs)(vs:List V)(σ:St)(H:Hp)(Q:(St→Hp→Prop)):Prop
 | mk (v:_) (r:_) (q0:vs=v :: r) (q1:t v σ H fun σ' H'=>u r σ' H' Q):aBa t u vs σ H Q
def eV(t:TG)(u:TGs):TGs:=fun vs σ H Q=>aBa t u vs σ H Q
theorem gM:PGs X [] xQ:=by
 constructor;intro iw s σ H vs q Q I r h;obtain⟨e,h⟩:=h;subst e;cases r;exact assignInOrder_nil ⟨σ,H,I,h⟩
theorem b9{e:Ba}{es:List Ba}{t:TG}{u:TGs}(h1:PG X e t)(h2:PGs X es u)
  (hs:(assignEach (e :: es) X.env).map (·.2)=assign e X.env :: (assignEach es X.env).map (·.2):=by rfl):PGs X (e :: es) (eV t u):=by
 constructor;intro iw s σ H vs M Q I r h;obtain⟨v,vr,e1,h⟩:=h;subst e1;cases r with
 | cons r F=>
  rw[hs];refine F4 (thn (h1 iw s σ H _ _ _ I r h) fun _ s1 ⟨q,H1,G,J⟩=>?_);exact h2 iw s1 q H1 _ _ Q G F J
inductive aC4(K:Ah)(n:Nat)(t:TGs)(v:V)(σ:St)(H:Hp)(Q:(St→Hp→Prop)):Prop
 | mk (a:_) (xs:_) (q0:v=.ref a) (q1:SqT K H a xs) (q2:xs.length=n) (q3:t xs σ H Q):aC4 K n t v σ H Q
def xR(K:Ah)(n:Nat)(t:TGs):TG:=fun v σ H Q=>aC4 K n t v σ H Q
theorem iX{es:List Ba}{k:Nat}{t:TGs}{n:Nat}(hc:X.calm=true)(h:PGs X es t)
  (hn:(assignEach es X.env).length=n:=by rfl) (q:(assignEach es X.env).findIdx? (·.1)=none:=by rfl):PG X (.Tuple es k pos) (xR X.K n t):=by
 constructor;intro iw s σ H v u Q I r hw;obtain⟨a,xs,e1,hq,hl,hw⟩:=hw;subst e1;cases r;obtain⟨its,rv,ht,hz⟩:=I.tuple hq;refine assign_Tuple_tuple (I.ok.hd hc) ht (by simp[hn,← hl,rv.length]) q fun h' hx=>?_;have F:Inv X iw σ H { s with heap:=h' }:=I.kept (t':=s.toks) fun b o e=>hx b o (AA (Ar e)) e;exact h iw _ σ H xs _ Q F (by simpa using rv) hw
def aIy(to ti:TE)(t:aGz):TG:=fun v σ H Q=>to σ H fun o H1=>ti σ H1 fun i H2=>t o i v H2 fun H3=>Q σ H3
theorem p5{o i:Ba}{to G:TE}{t:aGz}(ho:PE X o to)(hi:PE X i G)(hs:aHB X t)
  (ha:∀ v,assign (.Subscript o i pos) X.env v=(do
   let q ← holding [v] (eval o X.env)
   let F ← holding [v,q] (eval i X.env)
   standAt pos
   holding [v,q,F] (setItem q F v)
   release [v,q,F] []):=by intro _;rfl):PG X (.Subscript o i pos) (aIy to G t):=by
 constructor;intro iw s σ H v u Q I r h;rw[ha];refine Aa (Bj (thn (ho iw s σ H _ I h) fun q s1 ⟨x,H1,O,Y,q1⟩=>?_));refine Aa (Bj (thn (hi iw s1 σ H1 _ O q1) fun F s2 ⟨y,H2,I2,J,q2⟩=>?_));refine Aa (Fb (Aa (Bj (thn (hs iw s2 σ H2 x y v q F u _ I2 Y J r q2) fun _ s3 ⟨Z,M,q3⟩=>?_))));exact wpAny_release ⟨σ,Z,M,q3⟩
def aGA(te:TE)(g:TG):TS:=fun D σ H=>te σ H fun x H1=>g x σ H1 D.nx
theorem jR{tg e:Ba}{te:TE}{g:TG}(M:PE X e te)(F:PG X tg g)(hs:swapsWithSole [tg] e pos.line X.env=pure false:=by rfl)(hw:swappedStores [tg] e X.env=pure none:=by rfl)
  (h1:(assignEach [tg] X.env).map (·.2)=[assign tg X.env]:=by rfl):PS X (.Assign [tg] e pos) (aGA te g):=by
 constructor;intro iw s σ H D I h;refine wpAny_Assign_stores (thn (M iw s σ H _ I h) fun v s1 ⟨x,H1,G,J,O⟩=>?_) hs hw;rw[h1];exact thn (F iw s1 σ H1 x v _ G J O) fun _ s2 q=>q
theorem aS{i:Nat}{x:Str}{e:Ba}{te:TE}{jq:Pos}(hN:X.N.Nodup)(hi:X.N[i]?=some x)(hx:Loc X.env.scope x)(M:PE X e te)(hs:swapsWith e (some (.Name x jq)) pos.line X.env=pure false:=by rfl)(G:X.fn x=true∨X.env.scope.names.lookup x=some .local:=by first | exact .inl rfl | exact .inr rfl | assumption):
  PS X (.Assign [.Name x jq] e pos) (aGA te (aY i)):=by
 constructor;intro iw s σ H D I h;refine wpAny_Assign_Name (thn (M iw s σ H _ I h) fun v s1 ⟨y,H1,q,F,O⟩=>?_) hs;exact lS q hN hi hx F (fun s2 J=>⟨_,H1,J,O⟩) G
def aIz(i j:Nat)(ta:TA):TS:=fun D σ H=>ta σ H fun vs H1=>∃ v w,vs=[v,w]∧D.nx ((σ.set i (some v)).set j (some w)) H1
theorem aAn{i j:Nat}{x y:Str}{a b:Ba}{ta:TA}{M J pt:Pos}{kt k2 pt2}(hc:X.calm=true)(hN:X.N.Nodup)(hi:X.N[i]?=some x)(hj:X.N[j]?=some y)(Z:i≠j)
  (hx:X.env.scope.names.lookup x=some .local) (hy:X.env.scope.names.lookup y=some .local) (ha:PA X [a,b] ta)
  (hw:swappedStores [.Tuple [.Name x M,.Name y J] kt pt] (.Tuple [a,b] k2 pt2) X.env=pure (some [x,y]))
  (hs:swapsWithSole [.Tuple [.Name x M,.Name y J] kt pt] (.Tuple [a,b] k2 pt2) pos.line X.env=pure false:=by rfl):
  PS X (.Assign [.Tuple [.Name x M,.Name y J] kt pt] (.Tuple [a,b] k2 pt2) pos) (aIz i j ta):=by
 constructor;intro iw s σ H D I h;rw[exec_Assign_arm];refine Aa (Fb ?_);rw[hs];refine Aa (Ae ?_);rw[Ia (by decide)];refine Aa (Tuple_ (thn (ha _ iw s σ H _ I h) fun us s1 ⟨vs,H1,I1,r1,Y⟩=>?_));obtain⟨v,w,e1,Y⟩:=Y;subst e1;obtain⟨F,G,rfl,rv,rw'⟩:∃ F G,us=[F,G]∧cF v F∧cF w G:=by
  cases r1 with
  | cons p q=>
   cases q with
   | cons p' q'=>
    cases q';exact⟨_,_,rfl,p,p'⟩
 refine BJ ?_ (by show 2≤sizeLine;decide);have I2:Inv X iw σ H1 { s1 with heap:=s1.heap.push { cls:=.type "tuple",data:=.seq [F,G].toArray } }:=I1.kept (t':=s1.toks) fun b o e=>Ai _ e;rw[hw];refine Aa (Ae ?_);show wpAny (model X.prog X.w) X.A (do rule "assign.swapped-stores";let items ← unpackItems (.ref s1.heap.objs.size) 2 none;assignInOrder [fun v=>bindName X.env y v,fun v=>bindName X.env x v] items.reverse;pure Flow.next) _ _ _;refine Aa (Ch (Aa (unpackItems_tuple (items:=#[F,G]) (I.ok.hd hc) (IsTup.new s1.heap _) fun h' O=>?_)));have I3:=I2.kept (h':=h') (t':=s1.toks) fun b o e=>O b o (AA (Ar e)) e;show wpAny _ _ (assignInOrder [fun v=>bindName X.env y v,fun v=>bindName X.env x v] [G,F] >>= fun _=>pure Flow.next) _ _ _;refine Aa (F4 (wpAny_bindName (lS I3 hN hj (.inl hy) rw' (fun s2 I4=>?_) (.inr hy))));refine F4 (wpAny_bindName (lS I4 hN hi (.inl hx) rv (fun s3 I5=>assignInOrder_nil (Ae ?_)) (.inr hx)));rw[List.set_comm _ _ (B4 Z)]at I5;exact⟨_,H1,I5,Y⟩
inductive aC5(i:Nat)(te:TE)(ti:TIp)(D:Ends)(σ:St)(H:Hp):Prop
 | mk (x:_) (q0:σ[i]?=some (some x)) (q1:te σ H fun y H1=>ti x y H1 fun z H2=>D.nx (σ.set i (some z)) H2):aC5 i te ti D σ H
def aIA(i:Nat)(te:TE)(ti:TIp):TS:=fun D σ H=>aC5 i te ti D σ H
theorem aC6{i:Nat}{x:Str}{e:Ba}{te:TE}{op:Operator}{G:TIp}{jq:Pos}(hN:X.N.Nodup)(hi:X.N[i]?=some x)(hx:Loc X.env.scope x)(he:PE X e te)(ho:PIp X op G)(hf:X.fn x=true∨X.env.scope.names.lookup x=some .local:=by first | exact .inl rfl | exact .inr rfl | assumption):
  PS X (.AugAssign (.Name x jq) op e pos) (aIA i te G):=by
 constructor;intro iw s σ H D I h;obtain⟨v,e1,h⟩:=h;obtain⟨m,hn,hl⟩:=I.loc;have F:Vis X.env.scope x:=by rcases hx with k | k;exact .inl k;exact .inr (.inl k)
 obtain⟨u,r,l⟩:=hl i x v hi e1 F;refine wpAny_AugAssign_Name ?_;have go:wpAny (model X.prog X.w) X.A (eval e X.env) (fun w s₂=>wpAny (model X.prog X.w) X.A (inplaceOp op u w) (fun r O=>wpAny (model X.prog X.w) X.A (storeName X.env x r) (fun _=>SP X iw D .next) X.xe O) X.xe s₂) X.xe s:=by
  refine thn (he iw s σ H _ I h) fun w s1 ⟨y,H1,Y,Z,q1⟩=>?_;refine thn (ho iw s1 σ H1 v y u w _ Y r Z q1) fun z s2 ⟨zv,H2,I2,J,q2⟩=>?_;exact lS I2 hN hi hx J (fun s3 M=>⟨_,H2,M,q2⟩) hf
 rcases l with⟨q,hm⟩ | ⟨q,c,hc,hcell⟩
 ·exact wpAny_loadName_local I.ok.kind q hn hm go
 ·rcases q with q | q
  ·exact wpAny_loadName_cell I.ok.kind q hc hcell go
  ·rcases hx with k | k
   ·have:X.env.scope.names.lookup x=some .free:=q;rw[k]at this;cases this
   ·have:X.env.scope.names.lookup x=some .free:=q;rw[k]at this;cases this
def ipI(f:Int→Int→Int):TIp:=fun x y H Q=>∃ i j,x=.int i∧y=.int j∧Q (.int (f i j)) H
theorem aC7:PIp X .Add (ipI fun i j=>i + j):=by
 intro iw s σ H x y v u Q I G F h;obtain⟨i,j,e1,e2,q⟩:=h;subst e1;subst e2;obtain⟨t,rfl⟩:=G;obtain⟨t',rfl⟩:=F;exact iadd_int ⟨.int _,H,I.tok _,⟨_,rfl⟩,q⟩
end
section
variable{X:Cx}{pos:Pos}
inductive xS(c:TT)(tb:TS)(D:Ends)(σ:St)(H:Hp):Prop
 | mk (W:Nat→St→Hp→Prop) (q0:(∃ m,W m σ H)) (q1:∀ m σ H,W m σ H→
 c σ H fun b H1=>if b=true then∃ N:St→Hp→Prop,(∀ σ' H',N σ' H'→∃ m',m' < m∧W m' σ' H')∧tb { D with nx:=N,ct:=N,bk:=D.nx } σ H1 else D.nx σ H1):xS c tb D σ H
def aGB(c:TT)(tb:TS):TS:=fun D σ H=>xS c tb D σ H
theorem rS{c:Ba}{q:List Co}{tc:TT}{tb:TS}(M:PassesOwn (model X.prog X.w) X.A X.env X.xe)(hc:PT X c tc)(hb:PSs X q tb):PS X (.While c q [] pos) (aGB tc tb):=by
 constructor;intro iw s σ H D I h;obtain⟨W,⟨m0,w0⟩,turn⟩:=h;refine wpAny_While (codeAny_whileLoop (fun n s'=>∃ O H',Inv X iw O H' s'∧W n O H') ?_ m0 ⟨σ,H,I,w0⟩);rintro n s1 ⟨F,H1,Z,w1⟩;refine Dh M (thn (hc iw s1 F H1 _ Z (turn n F H1 w1)) fun b s2 ⟨H2,Y,G⟩=>?_);cases b with
 | true=>
  obtain⟨N,hN,G⟩:=G;rw[Ib rfl];refine Dh M (thn (hb iw s2 F H2 _ Y G) fun f s3 J=>?_);cases f with
  | next=>
   obtain⟨σ3,H3,I3,n3⟩:=J;obtain⟨m',hm,w3⟩:=hN σ3 H3 n3;exact⟨m',hm,σ3,H3,I3,w3⟩
  | cont=>
   obtain⟨σ3,H3,I3,n3⟩:=J;obtain⟨m',hm,w3⟩:=hN σ3 H3 n3;exact⟨m',hm,σ3,H3,I3,w3⟩
  | brk=>exact J
  | ret v=>exact J
 | false=>
  rw[Ia AB];exact Fu ⟨F,H2,Y,G⟩
end
structure It where
 go:Nat→Hp→Prop
 yld:Nat→Hp→V→Hp→Prop
 stop:Nat→Hp→Prop
def lP(X:Cx)(iw:Ih)(H:Hp)(b:Ag):Prop:=
 H b=none∧b≠X.env.locals∧b ∉ X.fs∧(b∈X.ex∨X.s₀.heap.objs.size≤b)∧(∀ x c,X.env.cells.lookup x=some c→c≠b)∧∀ p∈X.pn ++ iw,p.1≠b
theorem Inv.fpOk{X:Cx}{iw:Ih}{σ:St}{H H':Hp}{s:Af}{b:Ag}(I:Inv X iw σ H s)(F:s.heap.objs.size≤b)(hn:H' b=none):lP X iw H' b:=by
 refine⟨hn,Du (AZ I.lt F),I.nofs F,.inr (AG I.sz F),fun x c e z=>?_,fun p G z=>?_⟩
 ·obtain⟨v,q⟩:=I.cell x c e;exact absurd (AZ q.lt (by rw[z];exact F)) (CD _)
 ·exact absurd (AZ (Ar (I.pin p G).1) (by rw[z];exact F)) (CD _)
structure aC8(P:AD)(w:AV)(K:Ah)(tg:Ba)(J:It)(fp:List Ag)(it:Ag)(tn:Nat→Bi→Prop):Prop where
 mem:it∈fp
 obj:∀ i h,tn i h→∀ b∈fp,∃ o,h.get? b=some o∧∀ v,o.data≠.cell v
 keep:∀ i h h',tn i h→(∀ b∈fp,∀ o,h.get? b=some o→h'.get? b=some o)→tn i h'
 item:∀(X:Cx),X.prog=P→X.w=w→X.K=K→X.calm=true→∀(i:Nat) (iw:Ih) (s:Af) (σ:St) (H:Hp) (E:Ad→Af→Prop),Inv X iw σ H s→(∀ b∈fp,lP X iw H b)→tn i s.heap→J.go i H→
  wpAny (model P w) X.A (pyNext (.ref it)) (fun r s1=>∃ u,r=some u∧
   wpAny (model P w) X.A (letOwnedTupleGo tg (.ref it) u) (fun _ s2=>∃ x H',Inv X iw σ H' s2∧cF x u∧J.yld i H x H'∧tn (i + 1) s2.heap∧∀ b∈fp,H' b=none) E s1) E s
 done:∀(X:Cx),X.prog=P→X.w=w→X.K=K→X.calm=true→∀(i:Nat) (iw:Ih) (s:Af) (σ:St) (H:Hp) (E:Ad→Af→Prop),Inv X iw σ H s→(∀ b∈fp,lP X iw H b)→tn i s.heap→J.stop i H→
  wpAny (model P w) X.A (pyNext (.ref it)) (fun r s1=>r=none∧Inv X iw σ H s1) E s
 self:∀(A:AS) (i:Nat) (s:Af) (Q:Ad→Af→Prop) (E:Ad→Af→Prop),tn i s.heap→Q (.ref it) s→wpAny (model P w) A (pyIter (.ref it)) Q E s
abbrev TI:=St→Hp→(It→Hp→Prop)→Prop
inductive aF8(X:Cx)(iw:Ih)(σ:St)(tg:Ba)(R:It→Hp→Prop)(itv:Ad)(s2:Af):Prop
 | mk (it:Ag) (fp:List Ag) (tn:Nat→Bi→Prop) (J:It) (H':Hp) (q0:itv=.ref it) (q1:Inv X iw σ H' s2) (q2:aC8 X.prog X.w X.K tg J fp it tn) (q3:tn 0 s2.heap) (q4:(∀ b∈fp,lP X iw H' b)) (q5:R J H'):aF8 X iw σ tg R itv s2
def PIE(X:Cx)(iw:Ih)(σ:St)(tg:Ba)(R:It→Hp→Prop)(itv:Ad)(s2:Af):Prop:=aF8 X iw σ tg R itv s2
structure PI(X:Cx)(tg iter:Ba)(wi:TI):Prop where
 run:
  ∀(iw:Ih) (s:Af) (σ:St) (H:Hp) (R:It→Hp→Prop),Inv X iw σ H s→wi σ H R→
   wpAny (model X.prog X.w) X.A (eval iter X.env) (fun v s1=>wpAny (model X.prog X.w) X.A (pyIter v) (PIE X iw σ tg R) X.xe s1) X.xe s
instance{X:Cx}{tg iter:Ba}{wi:TI}:CoeFun (PI X tg iter wi) (fun _=>
 ∀(iw:Ih) (s:Af) (σ:St) (H:Hp) (R:It→Hp→Prop),Inv X iw σ H s→wi σ H R→
  wpAny (model X.prog X.w) X.A (eval iter X.env) (fun v s1=>wpAny (model X.prog X.w) X.A (pyIter v) (PIE X iw σ tg R) X.xe s1) X.xe s):=⟨fun h=>h.run⟩
theorem aC9{M : G8}{A : AS}{E : Ad → Af → Prop}{s : Af}{tg : Ba}{it : Ag}{u : Ad}{o : Obj}{n : String}{vs : Array Ad}{Q : Unit → Af → Prop}(ho : s.heap.get? it = some o)(hc : o.cls = .type n)(hd : o.data = .fields vs)
    (hn : ["enumerate", "zip", "dict_itemiterator", "dict_reverseitemiterator", "odict_iterator", "itertools.zip_longest", "itertools.pairwise"].contains n = false) (q : Q () s) : wpAny M A (letOwnedTupleGo tg (.ref it) u) Q E s := by
  unfold letOwnedTupleGo;cases tg <;> first
    | exact Ae q
    | (cases u <;> first
        | exact Ae q
        | (refine Aa (GK ho ?_)
           rw[hc, hd];show wpAny M A (if (["enumerate", "zip", "dict_itemiterator", "dict_reverseitemiterator", "odict_iterator", "itertools.zip_longest", "itertools.pairwise"].contains n && vs[0]? == some (rawInt _)) = true then _ else _) Q E s;rw[Ia (by intro h;rw[hn, Bool.false_and]at h;cases h)];exact Ae q))
def Itl(K:Ah)(a:Ag):It:=
 ⟨fun i H=>∃ xs x,SqL K H a xs∧xs[i]?=some x,fun i H x H'=>H'=H∧∀ xs,SqL K H a xs→xs[i]?=some x,fun i H=>∃ xs,SqL K H a xs∧xs.length≤i⟩
def Itt(K:Ah)(a:Ag):It:=
 ⟨fun i H=>∃ xs x,SqT K H a xs∧xs[i]?=some x,fun i H x H'=>H'=H∧∀ xs,SqT K H a xs→xs[i]?=some x,fun i H=>∃ xs,SqT K H a xs∧xs.length≤i⟩
def Itr(lo:Int)(n:Nat):It:=⟨fun i _=>i < n,fun i H x H'=>H'=H∧x=.int (lo + i),fun i _=>n≤i⟩
theorem aCe{P:AD}{w:AV}{K:Ah}{tg:Ba}(a it:Ag):aC8 P w K tg (Itl K a) [it] it (fun i h=>h.IsListIter it a i) where
 mem:=by simp
 obj:=fun i h st b q=>by
  have e:b=it:=by simpa using q
  subst e;obtain⟨o,e,c,d⟩:=st;exact⟨o,e,fun v z=>by rw[d]at z;cases z⟩
 keep:=fun i h h' st k=>st.at fun o e=>k it (by simp) o e
 item:=by
  intro X J hw O hc i iw s σ H E I G st M;subst J hw O;obtain⟨xs,x,hq,hx⟩:=M;obtain⟨its,rv,p,hz⟩:=I.list hq;obtain⟨u,hu,ru⟩:=rv.get hx;obtain⟨f0,f1,f2,f3,f4,f5⟩:=G it (by simp);refine wpAny_pyNext_list_item st p.isList (x:=u) (by simpa using hu) fun h' F Z=>?_;have I1:Inv X iw σ H { s with heap:=h' }:=I.turned (t':=s.toks) (fun b o q e=>(Z.2 b q).trans e) f0 f1 f3 f4 f5;obtain⟨o,e,c,d⟩:=id F;exact⟨u,rfl,aC9 (s:={ s with heap:=h' }) e c d (by decide) ⟨x,H,I1,ru,⟨rfl,fun ys Y=>by rw[I.list_inj Y hq];exact hx⟩,F,fun b q=>(G b q).1⟩⟩
 done:=by
  intro X J hw O hc i iw s σ H E I G st M;subst J hw O;obtain⟨xs,hq,hx⟩:=M;obtain⟨its,rv,p,hz⟩:=I.list hq;obtain⟨f0,f1,f2,f3,f4,f5⟩:=G it (by simp);have hl:=rv.length;exact wpAny_pyNext_list_end (I.ok.hd hc) st p.isList (by simp;omega) fun h' eb=>⟨rfl,I.turned (t':=s.toks) (fun b o q e=>eb b o q e) f0 f1 f3 f4 f5⟩
 self:=fun _ _ _ _ _ st h=>wpAny_pyIter_listiter st h
theorem aAo{P:AD}{w:AV}{K:Ah}{tg:Ba}(a it:Ag):aC8 P w K tg (Itt K a) [it] it (fun i h=>h.IsTupleIter it a i) where
 mem:=by simp
 obj:=fun i h st b q=>by
  have e:b=it:=by simpa using q
  subst e;obtain⟨o,e,c,d⟩:=st;exact⟨o,e,fun v z=>by rw[d]at z;cases z⟩
 keep:=fun i h h' st k=>st.at fun o e=>k it (by simp) o e
 item:=by
  intro X J hw O hc i iw s σ H E I G st M;subst J hw O;obtain⟨xs,x,hq,hx⟩:=M;obtain⟨its,rv,p,hz⟩:=I.tuple hq;obtain⟨u,hu,ru⟩:=rv.get hx;obtain⟨f0,f1,f2,f3,f4,f5⟩:=G it (by simp);refine wpAny_pyNext_tuple_item st (show s.heap.IsTuple a its.toArray from p) (x:=u) (by simpa using hu) fun h' F Z=>?_;have I1:Inv X iw σ H { s with heap:=h' }:=I.turned (t':=s.toks) (fun b o q e=>(Z.2 b q).trans e) f0 f1 f3 f4 f5;obtain⟨o,e,c,d⟩:=id F;exact⟨u,rfl,aC9 (s:={ s with heap:=h' }) e c d (by decide) ⟨x,H,I1,ru,⟨rfl,fun ys Y=>by rw[I.tuple_inj Y hq];exact hx⟩,F,fun b q=>(G b q).1⟩⟩
 done:=by
  intro X J hw O hc i iw s σ H E I G st M;subst J hw O;obtain⟨xs,hq,hx⟩:=M;obtain⟨its,rv,p,hz⟩:=I.tuple hq;obtain⟨f0,f1,f2,f3,f4,f5⟩:=G it (by simp);have hl:=rv.length;exact wpAny_pyNext_tuple_end (I.ok.hd hc) st (show s.heap.IsTuple a its.toArray from p) (by simp;omega) fun h' eb=>⟨rfl,I.turned (t':=s.toks) (fun b o q e=>eb b o q e) f0 f1 f3 f4 f5⟩
 self:=fun _ _ _ _ _ st h=>wpAny_pyIter_tupleiter st h
theorem aAp{P:AD}{w:AV}{K:Ah}{tg:Ba}(it:Ag)(lo:Int)(n:Nat):aC8 P w K tg (Itr lo n) [it] it (fun i h=>IsRangeIter h it (lo + (i:Nat) * 1) ((n:Int) - (i:Nat)) 1) where
 mem:=by simp
 obj:=fun i h st b q=>by
  have e:b=it:=by simpa using q
  subst e;exact⟨_,st,fun v z=>by
   have Y:Data.fields _=Data.cell v:=z;cases Y⟩
 keep:=fun i h h' st k=>k it (by simp) _ st
 item:=by
  intro X J hw O hc i iw s σ H E I G st M;subst J hw O;obtain⟨f0,f1,f2,f3,f4,f5⟩:=G it (by simp);have W:=Walks.range (prog:=X.prog) (w:=X.w) (I.ok.hd hc) it lo 1 n;refine W.item i s _ _ M st fun v h' tk hv F Z=>?_;obtain⟨t,rfl⟩:=hv;have I1:Inv X iw σ H { s with heap:=h',toks:=tk }:=I.turned (fun b o q e=>Z b o (by simpa using q) e) f0 f1 f3 f4 f5;refine⟨_,rfl,aC9 (s:={ s with heap:=h',toks:=tk }) (n:="range_iterator") F rfl rfl (by decide) ⟨.int (lo + i),H,I1,⟨t,?_⟩,⟨rfl,rfl⟩,F,fun b q=>(G b q).1⟩⟩;rw[Int.mul_one]
 done:=by
  intro X J hw O hc i iw s σ H E I G st M;subst J hw O;obtain⟨f0,f1,f2,f3,f4,f5⟩:=G it (by simp);exact wpAny_pyNext_range_end (I.ok.hd hc) st (by have:n≤i:=M;omega) fun h' eb=>⟨rfl,I.turned (t':=s.toks) (fun b o q e=>eb b o q e) f0 f1 f3 f4 f5⟩
 self:=fun _ _ _ _ _ st h=>wpAny_pyIter_rangeiter st h
section
variable{X:Cx}{tg:Ba}
def aHC(K:Ah)(tl:TE):TI:=fun σ H R=>tl σ H fun x H1=>As V.ref x fun a=>(∃ xs,SqL K H1 a xs)∧R (Itl K a) H1
def aIB(K:Ah)(tl:TE):TI:=fun σ H R=>tl σ H fun x H1=>As V.ref x fun a=>(∃ xs,SqT K H1 a xs)∧R (Itt K a) H1
theorem iP{l:Ba}{tl:TE}(hl:PE X l tl):PI X tg l (aHC X.K tl):=by
 constructor;intro iw s σ H R I h;refine thn (hl iw s σ H _ I h) fun v s1 ⟨x,H1,F,G,J⟩=>?_;obtain⟨a,e,⟨xs,hq⟩,q⟩:=J;subst e;cases G;obtain⟨its,rv,p,hz⟩:=F.list hq;refine D9 p.isList ?_;refine⟨s1.heap.objs.size,[s1.heap.objs.size],_,_,H1,rfl,F.kept (t':=s1.toks) fun b o e=>Ai _ e,aCe a _,⟨_,At _ rfl,rfl,rfl⟩,fun b M=>?_,q⟩;have e:b=s1.heap.objs.size:=by simpa using M
 subst e;exact F.fpOk (Am _) (F.hok.fresh (Am _))
theorem dS{l:Ba}{tl:TE}(hl:PE X l tl):PI X tg l (aIB X.K tl):=by
 constructor;intro iw s σ H R I h;refine thn (hl iw s σ H _ I h) fun v s1 ⟨x,H1,F,G,J⟩=>?_;obtain⟨a,e,⟨xs,hq⟩,q⟩:=J;subst e;cases G;obtain⟨its,rv,p,hz⟩:=F.tuple hq;refine wpAny_pyIter_tuple (show s1.heap.IsTuple a its.toArray from p) ?_;refine⟨s1.heap.objs.size,[s1.heap.objs.size],_,_,H1,rfl,F.kept (t':=s1.toks) fun b o e=>Ai _ e,aAo a _,⟨_,At _ rfl,rfl,rfl⟩,fun b M=>?_,q⟩;have e:b=s1.heap.objs.size:=by simpa using M
 subst e;exact F.fpOk (Am _) (F.hok.fresh (Am _))
theorem aDa{iw:Ih}{σ:St}{H:Hp}{s:Af}{R:It→Hp→Prop}{E:Ad→Af→Prop}{lo hi:Int}{t u v:Tok}{tk:Nat}(I:Inv X iw σ H s)(h1:-(2 ^ 62)≤lo)(h2:lo < 2 ^ 62)(G:-(2 ^ 62)≤hi)(M:hi < 2 ^ 62)
  (q:R (Itr lo (hi - lo).toNat) H):wpAny (model X.prog X.w) X.A (pyIter (.ref s.heap.objs.size)) (PIE X iw σ tg R) E { s with heap:=s.heap.push { cls:=.type "range",data:=.fields #[.int lo t,.int hi u,.int 1 v] },toks:=tk }:=by
 refine wpAny_pyIter_range (IsRange.new ..) (small_one h1 h2 G M) ?_;have F:Inv X iw σ H { s with heap:=s.heap.push { cls:=.type "range",data:=.fields #[.int lo t,.int hi u,.int 1 v] },toks:=tk }:=I.kept fun b o e=>Ai _ e;refine⟨(s.heap.push { cls:=.type "range",data:=.fields #[.int lo t,.int hi u,.int 1 v] }).objs.size,[(s.heap.push { cls:=.type "range",data:=.fields #[.int lo t,.int hi u,.int 1 v] }).objs.size],_,_,H,rfl,
  F.kept (t':=tk) fun b o e=>Ai _ e,aAp _ lo (hi - lo).toNat,?_,fun b Y=>?_,q⟩
 ·have J:lo + ((0:Nat):Int) * 1=lo:=by simp
  have O:(((hi - lo).toNat:Nat):Int) - ((0:Nat):Int)=Builtin.Range.rangeSize lo hi 1:=by rw[rangeSize_one];split <;> omega
  show IsRangeIter _ _ (lo + ((0:Nat):Int) * 1) ((((hi - lo).toNat:Nat):Int) - ((0:Nat):Int)) 1;rw[J,O];exact At _ rfl
 ·have e:b=(s.heap.push { cls:=.type "range",data:=.fields #[.int lo t,.int hi u,.int 1 v] }).objs.size:=by simpa using Y
  subst e;exact F.fpOk (Am _) (F.hok.fresh (Am _))
def aHD(ta:TA):TI:=fun σ H R=>ta σ H fun vs H1=>∃ j:Int,vs=[.int j]∧-(2 ^ 62)≤j∧j < 2 ^ 62∧R (Itr 0 j.toNat) H1
theorem fJ{a:Ba}{ta:TA}{p pos:Pos}(G:Gl X "range")(hm:X.mg "range"=none)(ha:PA X [a] ta)(hs:starEach [a] X.env=[(false,eval a X.env)]:=by rfl):PI X tg (.Call (.Name "range" p) [a] [] pos) (aHD ta):=by
 constructor;intro iw s σ H R I h;refine Call_ (rR I G hm boot_range (PyProof.Rows.callWith_type1 (thn (ha pos iw s σ H _ I h) fun Y s1 ⟨vs,H1,M,O,F⟩=>?_) hs rfl));obtain⟨j,e,F,q2,q⟩:=F;subst e;cases O with
 | cons r J=>
  cases J;obtain⟨t,rfl⟩:=r;exact call_range_1 (aDa M (by omega) (by omega) F q2 (by simpa using q))
def aIC(wi:TI)(g:TG)(tb:TS):TS:=fun D σ H=>wi σ H fun J H1=>∃ W:Nat→Nat→St→Hp→Prop,(∃ m,W 0 m σ H1)∧∀ i m σ H,W i m σ H→
 (J.stop i H∧D.nx σ H)∨(J.go i H∧∃ N:St→Hp→Prop,(∀ σ' H',N σ' H'→∃ m',m' < m∧W (i + 1) m' σ' H')∧∀ x H',J.yld i H x H'→g x σ H' fun σ2 H2=>tb { D with nx:=N,ct:=N,bk:=D.nx } σ2 H2)
def nY(fp:List Ag)(h:Bi):Ih:=fp.filterMap fun b=>(h.get? b).map fun o=>(b,o)
theorem kT{fp:List Ag}{h:Bi}{b:Ag}{o:Obj}(q:b∈fp)(e:h.get? b=some o):(b,o)∈nY fp h:=FB.mpr ⟨b,q,by rw[e];rfl⟩
theorem uR{fp:List Ag}{h:Bi}{p:Ag×Obj}(F:p∈nY fp h):p.1∈fp∧h.get? p.1=some p.2:=by
 obtain⟨b,hb,e⟩:=FB.mp F;cases q:h.get? b with
 | none=>rw[q]at e;cases e
 | some o=>
  rw[q]at e;have G:(b,o)=p:=Cc.inj e;subst G;exact⟨hb,q⟩
theorem Inv.pinned{iw:Ih}{σ:St}{H:Hp}{s:Af}{fp:List Ag}(I:Inv X iw σ H s)(F:∀ b∈fp,lP X iw H b)(ho:∀ b∈fp,∃ o,s.heap.get? b=some o∧∀ v,o.data≠.cell v):Inv X (iw ++ nY fp s.heap) σ H s:=
 I.pins_of fun p q=>(AO.mp q).elim (fun z=>I.pin p (AN _ z)) fun z=>by
  obtain⟨hb,e⟩:=uR z;obtain⟨f0,f1,f2,_⟩:=F p.1 hb;obtain⟨o,e',d⟩:=ho p.1 hb;rw[e]at e';cases e';exact⟨e,f0,f1,f2,d⟩
theorem Inv.unpinned{iw pl:Ih}{σ:St}{H:Hp}{s:Af}(I:Inv X (iw ++ pl) σ H s):Inv X iw σ H s:=I.pins_of fun p q=>I.pin p (AN _ (BH _ q))
theorem fT{O:Ba}{aa:List Co}{wi:TI}{g:TG}{tb:TS}{pos:Pos}(hp:PassesOwn (model X.prog X.w) X.A X.env X.xe)(hc:X.calm=true)(hi:PI X tg O wi)(hg:PG X tg g)(Y:PSs X aa tb)
  (hs:∀ x,foldedSetIterable O X.env x=pure x:=by intro _;rfl):PS X (.For tg O aa [] pos) (aIC wi g tb):=by
 constructor;intro iw s σ H D I h;refine wpAny_For (thn (hi iw s σ H _ I h) fun v s1 h1=>thn h1 fun az s2 h2=>?_) hs;obtain⟨it,fp,tn,J,H2,e,I2,T,st2,f2,W,⟨m0,w0⟩,turn⟩:=h2;subst e;have G:∀{H':Hp},(∀ b∈fp,H' b=none)→∀ b∈fp,lP X iw H' b:=fun hn b Y=>⟨hn b Y,(f2 b Y).2⟩
 refine codeAny_forLoop_any (fun n s'=>∃ i σ' H',Inv X iw σ' H' s'∧tn i s'.heap∧(∀ b∈fp,H' b=none)∧W i n σ' H') ?_ m0 ⟨0,σ,H2,I2,st2,fun b Y=>(f2 b Y).1,w0⟩;rintro n s3 ⟨i,σ3,H3,I3,ah,af,w3⟩;rcases turn i n σ3 H3 w3 with⟨stop,qn⟩ | ⟨go,N,hN,step⟩
 ·refine Dh hp (thn (T.done X rfl rfl rfl hc i iw s3 σ3 H3 X.xe I3 (G af) ah stop) fun r s4 ⟨hr,I4⟩=>?_);subst hr;exact Fu ⟨σ3,H3,I4,qn⟩
 ·refine Dh hp (thn (T.item X rfl rfl rfl hc i iw s3 σ3 H3 X.xe I3 (G af) ah go) fun r s4 ⟨u,hr,h4⟩=>?_);subst hr;refine Dh hp (thn h4 fun _ s5 ⟨x,H5,I5,r5,y5,ab,al⟩=>?_);have am:=I5.pinned (G al) (T.obj _ _ ab);refine Dh hp (thn (hg _ s5 σ3 H5 x u _ am r5 (step x H5 y5)) fun _ s6 ⟨σ6,H6,I6,q6⟩=>?_);refine Dh hp (thn (Y _ s6 σ6 H6 _ I6 q6) fun f s7 Z=>?_);have M:∀{F:St} {q:Hp},Inv X (iw ++ nY fp s5.heap) F q s7→N F q→∃ m,m < n∧∃ i σ' H',Inv X iw σ' H' s7∧tn i s7.heap∧(∀ b∈fp,H' b=none)∧W i m σ' H':=fun{F q} I7 n7=>by
   obtain⟨m',hm,w7⟩:=hN F q n7;refine⟨m',hm,i + 1,F,q,I7.unpinned,T.keep _ _ _ ab fun b Y o e=>(I7.pin (b,o) (AN _ (AN _ (kT Y e)))).1,fun b Y=>?_,w7⟩;obtain⟨o,e,d⟩:=T.obj _ _ ab b Y;exact(I7.pin (b,o) (AN _ (AN _ (kT Y e)))).2.1
  cases f with
  | next=>obtain⟨F,q,I7,n7⟩:=Z;exact M I7 n7
  | cont=>obtain⟨F,q,I7,n7⟩:=Z;exact M I7 n7
  | brk=>obtain⟨F,q,I7,Z⟩:=Z;exact⟨F,q,I7.unpinned,Z⟩
  | ret v=>obtain⟨x7,F,q,I7,r7,Z⟩:=Z;exact⟨x7,F,q,I7.unpinned,r7,Z⟩
end
theorem lT{K:Ah}{a:Ag}{xs:List V}{g:TG}{tb:TS}{D:Ends}{σ:St}{H:Hp}(F:Nat→St→Hp→Prop)(Z:F 0 σ H)(hl:∀ i σ H,i≤xs.length→F i σ H→SqL K H a xs)
  (hs:∀ i x σ H,xs[i]?=some x→F i σ H→g x σ H fun M H2=>tb { D with nx:=F (i + 1),ct:=F (i + 1),bk:=D.nx } M H2) (hd:∀ σ H,F xs.length σ H→D.nx σ H):
  ∃ W:Nat→Nat→St→Hp→Prop,(∃ m,W 0 m σ H)∧∀ i m σ H,W i m σ H→
   ((Itl K a).stop i H∧D.nx σ H)∨((Itl K a).go i H∧∃ N:St→Hp→Prop,(∀ J H',N J H'→∃ O,O < m∧W (i + 1) O J H')∧∀ x H',(Itl K a).yld i H x H'→g x σ H' fun M H2=>tb { D with nx:=N,ct:=N,bk:=D.nx } M H2):=by
 refine⟨fun i m σ H=>m=xs.length - i∧i≤xs.length∧F i σ H,⟨xs.length,by simp,Bc _,Z⟩,?_⟩;rintro i m σ H ⟨rfl,hi,p⟩;have q:=hl i σ H hi p;by_cases G:i < xs.length
 ·refine .inr ⟨⟨xs,xs[i],q,by simp[G]⟩,F (i + 1),fun J H' Y=>⟨xs.length - (i + 1),by omega,rfl,G,Y⟩,fun x H' y=>?_⟩;obtain⟨e,y⟩:=y;subst e;exact hs i x σ _ (y xs q) p
 ·have e:i=xs.length:=by omega
  subst e;exact .inl ⟨⟨xs,q,Am _⟩,hd σ H p⟩
theorem jG{K:Ah}{a:Ag}{xs:List V}{g:TG}{tb:TS}{D:Ends}{σ:St}{H:Hp}(F:Nat→St→Hp→Prop)(Z:F 0 σ H)(hl:∀ i σ H,i≤xs.length→F i σ H→SqT K H a xs)
  (hs:∀ i x σ H,xs[i]?=some x→F i σ H→g x σ H fun M H2=>tb { D with nx:=F (i + 1),ct:=F (i + 1),bk:=D.nx } M H2) (hd:∀ σ H,F xs.length σ H→D.nx σ H):
  ∃ W:Nat→Nat→St→Hp→Prop,(∃ m,W 0 m σ H)∧∀ i m σ H,W i m σ H→
   ((Itt K a).stop i H∧D.nx σ H)∨((Itt K a).go i H∧∃ N:St→Hp→Prop,(∀ J H',N J H'→∃ O,O < m∧W (i + 1) O J H')∧∀ x H',(Itt K a).yld i H x H'→g x σ H' fun M H2=>tb { D with nx:=N,ct:=N,bk:=D.nx } M H2):=by
 refine⟨fun i m σ H=>m=xs.length - i∧i≤xs.length∧F i σ H,⟨xs.length,by simp,Bc _,Z⟩,?_⟩;rintro i m σ H ⟨rfl,hi,p⟩;have q:=hl i σ H hi p;by_cases G:i < xs.length
 ·refine .inr ⟨⟨xs,xs[i],q,by simp[G]⟩,F (i + 1),fun J H' Y=>⟨xs.length - (i + 1),by omega,rfl,G,Y⟩,fun x H' y=>?_⟩;obtain⟨e,y⟩:=y;subst e;exact hs i x σ _ (y xs q) p
 ·have e:i=xs.length:=by omega
  subst e;exact .inl ⟨⟨xs,q,Am _⟩,hd σ H p⟩
theorem p6{lo:Int}{n:Nat}{g:TG}{tb:TS}{D:Ends}{σ:St}{H:Hp}(F:Nat→St→Hp→Prop)(Y:F 0 σ H)
  (hs:∀ i σ H,i < n→F i σ H→g (.int (lo + i)) σ H fun J H2=>tb { D with nx:=F (i + 1),ct:=F (i + 1),bk:=D.nx } J H2) (hd:∀ σ H,F n σ H→D.nx σ H):
  ∃ W:Nat→Nat→St→Hp→Prop,(∃ m,W 0 m σ H)∧∀ i m σ H,W i m σ H→
   ((Itr lo n).stop i H∧D.nx σ H)∨((Itr lo n).go i H∧∃ N:St→Hp→Prop,(∀ G H',N G H'→∃ M,M < m∧W (i + 1) M G H')∧∀ x H',(Itr lo n).yld i H x H'→g x σ H' fun J H2=>tb { D with nx:=N,ct:=N,bk:=D.nx } J H2):=by
 refine⟨fun i m σ H=>m=n - i∧i≤n∧F i σ H,⟨n,by simp,Bc _,Y⟩,?_⟩;rintro i m σ H ⟨rfl,hi,p⟩;by_cases q:i < n
 ·refine .inr ⟨q,F (i + 1),fun G H' O=>⟨n - (i + 1),by omega,rfl,q,O⟩,fun x H' y=>?_⟩;obtain⟨e,y⟩:=y;subst e y;exact hs i σ _ q p
 ·have e:i=n:=by omega
  subst e;exact .inl ⟨Am _,hd σ H p⟩
abbrev R2:=V→V→Hp→VK→Prop
def OpR(X:Cx)(f:Ad→Ad→Sem Ad)(r:R2):Prop:=
 ∀(iw:Ih) (s:Af) (σ:St) (H:Hp) (x y:V) (v u:Ad) (Q:VK),Inv X iw σ H s→cF x v→cF y u→r x y H Q→
  wpAny (model X.prog X.w) X.A (f v u) (EP X iw σ Q) X.xe s
def UnR(X:Cx)(f:Ad→Sem Ad)(r:V→Hp→VK→Prop):Prop:=
 ∀(iw:Ih) (s:Af) (σ:St) (H:Hp) (x:V) (v:Ad) (Q:VK),Inv X iw σ H s→cF x v→r x H Q→
  wpAny (model X.prog X.w) X.A (f v) (EP X iw σ Q) X.xe s
def eY(X:Cx)(f:Ad)(r:List V→Hp→VK→Prop):Prop:=
 ∀(iw:Ih) (s:Af) (σ:St) (H:Hp) (xs:List V) (us:List Ad) (Q:VK),Inv X iw σ H s→bX xs us→r xs H Q→
  wpAny (model X.prog X.w) X.A (call f us) (EP X iw σ Q) X.xe s
def aID(X:Cx)(r:V→Hp→(Bool→Hp→Prop)→Prop):Prop:=
 ∀(iw:Ih) (s:Af) (σ:St) (H:Hp) (x:V) (v:Ad) (Q:Bool→Hp→Prop),Inv X iw σ H s→cF x v→r x H Q→
  wpAny (model X.prog X.w) X.A (truthy v) (TP X iw σ Q) X.xe s
def tOp(r:R2)(ta tb:TE):TE:=fun σ H Q=>ta σ H fun x H1=>tb σ H1 fun y H2=>r x y H2 Q
def tUn(r:V→Hp→VK→Prop)(ta:TE):TE:=fun σ H Q=>ta σ H fun x H1=>r x H1 Q
inductive aHE(C:Int→Int→Prop)(g:Int→Int→V)(x:V)(y:V)(H:Hp)(Q:VK):Prop
 | mk (i:_) (j:_) (q0:x=.int i) (q1:y=.int j) (q2:C i j) (q3:Q (g i j) H):aHE C g x y H Q
def rI(C:Int→Int→Prop)(g:Int→Int→V):R2:=fun x y H Q=>aHE C g x y H Q
inductive aF9(g:Int→Int→V)(x:V)(y:V)(H:Hp)(Q:VK):Prop
 | mk (i:_) (j:_) (q0:x=.int i) (q1:y=.int j) (q2:Q (g i j) H):aF9 g x y H Q
def rI0(g:Int→Int→V):R2:=fun x y H Q=>aF9 g x y H Q
inductive aHF(g:Int→V)(x:V)(H:Hp)(Q:VK):Prop
 | mk (i:_) (q0:x=.int i) (q1:Q (g i) H):aHF g x H Q
def rU(g:Int→V):V→Hp→VK→Prop:=fun x H Q=>aHF g x H Q
section
variable{X:Cx}{a b c:Ba}{ta tb tc:TE}{pos:Pos}
theorem aGC(ha:PE X a ta)(F:PE X b tb){iw:Ih}{s:Af}{σ:St}{H:Hp}{R:V→V→Hp→Prop}(I:Inv X iw σ H s)
  (h:ta σ H fun x H1=>tb σ H1 fun y H2=>R x y H2) {Q:Ad→Af→Prop} {f:Ad→Ad→Sem Ad}
  (M:∀ v u s2 x y H2,Inv X iw σ H2 s2→cF x v→cF y u→R x y H2→wpAny (model X.prog X.w) X.A (f v u) Q X.xe s2):
  wpAny (model X.prog X.w) X.A (eval a X.env) (fun v Y=>wpAny (model X.prog X.w) X.A (eval b X.env) (fun u Z=>wpAny (model X.prog X.w) X.A (f v u) Q X.xe Z) X.xe Y) X.xe s:=by
 refine thn (ha iw s σ H _ I h) fun v s1 ⟨x,H1,G,J,q1⟩=>?_;refine thn (F iw s1 σ H1 _ G q1) fun u s2 ⟨y,H2,O,q,q2⟩=>?_;exact M v u s2 x y H2 O J q q2
theorem bC{op:Operator}{r:R2}(ho:OpR X (binaryOp op) r)(ha:PE X a ta)(F:PE X b tb):PE X (.BinOp a op b pos) (tOp r ta tb):=by
 constructor;intro iw s σ H Q I h;exact wpAny_BinOp (aGC ha F I h fun v u s2 x y H2 M G J q=>ho iw s2 σ H2 x y v u Q M G J q)
theorem iC{op:UnaryOp}{r:V→Hp→VK→Prop}(ho:UnR X (unaryOp op) r)(ha:PE X a ta):PE X (.UnaryOp op a pos) (tUn r ta):=by
 constructor;intro iw s σ H Q I h;exact UnaryOp_ (thn (ha iw s σ H _ I h) fun v s1 ⟨x,H1,q,G,F⟩=>ho iw s1 σ H1 x v Q q G F)
theorem opI{f:Ad→Ad→Sem Ad}{C:Int→Int→Prop}{g:Int→Int→Int}
  (F:∀(i j:Int) (t u:Tok) (s:Af) (Q:Ad→Af→Prop) (E:Ad→Af→Prop),C i j→Q (.int (g i j) s.toks) { s with toks:=s.toks + 1 }→wpAny (model X.prog X.w) X.A (f (.int i t) (.int j u)) Q E s):
  OpR X f (rI C fun i j=>.int (g i j)):=by
 intro iw s σ H x y v u Q I G J h;obtain⟨i,j,rfl,rfl,hc,q⟩:=h;obtain⟨t,rfl⟩:=G;obtain⟨t',rfl⟩:=J;exact F i j t t' s _ _ hc ⟨.int (g i j),H,I.tok _,⟨_,rfl⟩,q⟩
theorem aHG{f:Ad→Ad→Sem Ad}{g:Int→Int→Int}
  (F:∀(i j:Int) (t u:Tok) (s:Af) (Q:Ad→Af→Prop) (E:Ad→Af→Prop),Q (.int (g i j) s.toks) { s with toks:=s.toks + 1 }→wpAny (model X.prog X.w) X.A (f (.int i t) (.int j u)) Q E s):
  OpR X f (rI0 fun i j=>.int (g i j)):=by
 intro iw s σ H x y v u Q I G J h;obtain⟨i,j,rfl,rfl,q⟩:=h;obtain⟨t,rfl⟩:=G;obtain⟨t',rfl⟩:=J;exact F i j t t' s _ _ ⟨.int (g i j),H,I.tok _,⟨_,rfl⟩,q⟩
theorem aGD{f:Ad→Ad→Sem Ad}{g:Int→Int→Bool}
  (F:∀(i j:Int) (t u:Tok) (s:Af) (Q:Ad→Af→Prop) (E:Ad→Af→Prop),Q (.bool (g i j)) s→wpAny (model X.prog X.w) X.A (f (.int i t) (.int j u)) Q E s):
  OpR X f (rI0 fun i j=>.bl (g i j)):=by
 intro iw s σ H x y v u Q I G J h;obtain⟨i,j,rfl,rfl,q⟩:=h;obtain⟨t,rfl⟩:=G;obtain⟨t',rfl⟩:=J;exact F i j t t' s _ _ ⟨.bl (g i j),H,I,rfl,q⟩
def aIE(i j:Int):Prop:=0 < j∧j < 1073741824
def aIF(i j:Int):Prop:=0≤j∧j≤1000000∧i.natAbs < 2 ^ 64
def aGE(i j:Int):Prop:=(-(2 ^ 64) < i∧i < 2 ^ 64)∨(-(2 ^ 64) < j∧j < 2 ^ 64)
theorem aGE.ok{i j:Int}(h:aGE i j):IntMulOk i j:=by
 rcases h with⟨h1,h2⟩ | ⟨h1,h2⟩
 ·exact .of_left (intBits_le_64 h1 h2)
 ·exact .of_right (intBits_le_64 h1 h2)
theorem cZ:OpR X (binaryOp .Add) (rI0 fun i j=>.int (i + j)):=aHG fun _ _ _ _ _ _ _ q=>add_int q
theorem kU:OpR X (binaryOp .Sub) (rI0 fun i j=>.int (i - j)):=aHG fun _ _ _ _ _ _ _ q=>sub_int q
theorem gE:OpR X (binaryOp .Mult) (rI aGE fun i j=>.int (i * j)):=opI fun _ _ _ _ _ _ _ hc q=>mul_int q hc.ok
theorem m5:OpR X (binaryOp .FloorDiv) (rI aIE fun i j=>.int (i / j)):=opI fun i j _ _ _ _ _ hc q=>by
 have h1:(0:Int) < j:=hc.1;have h2:j < 1073741824:=hc.2;exact floordiv_int (by omega) (by rw[Int.fdiv_eq_ediv_of_nonneg i (by omega)];exact q) (.inl (PyProof.noPylong_small (by omega)))
theorem eU:OpR X (binaryOp .Mod) (rI (fun _ j=>0 < j) fun i j=>.int (i % j)):=opI fun i j _ _ _ _ _ hc q=>by
 have h1:(0:Int) < j:=hc;exact mod_int' (by omega) (by rw[Int.fmod_eq_emod_of_nonneg i (by omega)];exact q)
theorem nZ:OpR X (binaryOp .Pow) (rI aIF fun i j=>.int (i ^ j.toNat)):=opI fun _ _ _ _ _ _ _ hc q=>pow_int_small hc.1 hc.2.1 hc.2.2 q
theorem unI{f:Ad→Sem Ad}{g:Int→Int}
  (F:∀(i:Int) (t:Tok) (s:Af) (Q:Ad→Af→Prop) (E:Ad→Af→Prop),Q (.int (g i) s.toks) { s with toks:=s.toks + 1 }→wpAny (model X.prog X.w) X.A (f (.int i t)) Q E s):
  UnR X f (rU fun i=>.int (g i)):=by
 intro iw s σ H x v Q I G h;obtain⟨i,rfl,q⟩:=h;obtain⟨t,rfl⟩:=G;exact F i t s _ _ ⟨.int (g i),H,I.tok _,⟨_,rfl⟩,q⟩
theorem eZ:UnR X (unaryOp .USub) (rU fun i=>.int (-i)):=unI fun _ _ _ _ _ q=>neg_int q
end
def aHH:V→V→Bool
 | .non,.non=>true | .non,.int _=>true | .int _,.non=>true | .non,.bl _=>true | .bl _,.non=>true | .non,.str _=>true | .str _,.non=>true
 | .int _,.int _=>true | .bl _,.bl _=>true | .str _,.str _=>true | .byt _,.byt _=>true
 | .int _,.str _=>true | .str _,.int _=>true | .bl _,.str _=>true | .str _,.bl _=>true
 | _,_=>false
def rEq:R2:=fun x y H Q=>aHH x y=true∧Q (.bl (decide (x=y))) H
def rNe:R2:=fun x y H Q=>aHH x y=true∧Q (.bl (!decide (x=y))) H
theorem aBb{i j:Int}:decide (V.int i=V.int j)=(i == j):=by
 rw[CA];simp
theorem aDb{i j:Bool}:decide (V.bl i=V.bl j)=(i == j):=by
 rw[CA];simp
theorem aBc{i j:Str}:decide (V.str i=V.str j)=(i == j):=by
 rw[CA];simp
theorem aBd{i j:Array UInt8}:decide (V.byt i=V.byt j)=(i.toList == j.toList):=by
 rw[CA];cases i;cases j;simp
section
variable{X:Cx}{a b c:Ba}{ta tb tc:TE}{pos:Pos}
theorem cX{iw:Ih}{σ:St}{H:Hp}{s:Af}{Q:VK}{k F:Bool}(I:Inv X iw σ H s)(q:Q (.bl k) H)(e:k=F):EP X iw σ Q (.bool F) s:=by
 subst e;exact⟨.bl k,H,I,rfl,q⟩
theorem c3:OpR X (compareOp .Eq) rEq:=by
 intro iw s σ H x y v u Q I G F h;obtain⟨hs,q⟩:=h;cases x with
 | non=>
  cases G;cases y with
  | non=>cases F;exact PySem.EqNone.eq_none_none (cX I q (by simp))
  | bl j=>cases F;exact PySem.EqNone.eq_none_bool (cX I q (by simp))
  | int j=>obtain⟨t',rfl⟩:=F;exact PySem.EqNone.eq_none_int (cX I q (by simp))
  | str j=>obtain⟨t',rfl⟩:=F;exact PySem.EqNone.eq_none_str (cX I q (by simp))
  | _=>exact absurd (show false=true from hs) AB
 | bl i=>
  cases G;cases y with
  | non=>cases F;exact PySem.EqNone.eq_bool_none (cX I q (by simp))
  | bl j=>cases F;exact eq_bool (cX I q aDb)
  | str j=>obtain⟨t',rfl⟩:=F;exact PySem.EqMixed.eq_bool_str (cX I q (by simp))
  | _=>exact absurd (show false=true from hs) AB
 | int i=>
  obtain⟨t,rfl⟩:=G;cases y with
  | non=>cases F;exact PySem.EqNone.eq_int_none (cX I q (by simp))
  | int j=>obtain⟨t',rfl⟩:=F;exact eq_int (cX I q aBb)
  | str j=>obtain⟨t',rfl⟩:=F;exact PySem.EqMixed.eq_int_str (cX I q (by simp))
  | _=>exact absurd (show false=true from hs) AB
 | str i=>
  obtain⟨t,rfl⟩:=G;cases y with
  | non=>cases F;exact PySem.EqNone.eq_str_none (cX I q (by simp))
  | bl j=>cases F;exact PySem.EqMixed.eq_str_bool (cX I q (by simp))
  | int j=>obtain⟨t',rfl⟩:=F;exact PySem.EqMixed.eq_str_int (cX I q (by simp))
  | str j=>obtain⟨t',rfl⟩:=F;exact eq_str (cX I q aBc)
  | _=>exact absurd (show false=true from hs) AB
 | byt i=>
  obtain⟨t,rfl⟩:=G;cases y with
  | byt j=>obtain⟨t',rfl⟩:=F;exact PySem.W.eq_bytes (cX I q aBd)
  | _=>exact absurd (show false=true from hs) AB
 | _=>cases y <;> exact absurd (show false=true from hs) AB
theorem oT:OpR X (compareOp .NotEq) rNe:=by
 intro iw s σ H x y v u Q I G F h;obtain⟨hs,q⟩:=h;cases x with
 | non=>
  cases G;cases y with
  | non=>cases F;exact PySem.EqNone.ne_none_none (cX I q (by simp))
  | bl j=>cases F;exact PySem.EqNone.ne_none_bool (cX I q (by simp))
  | int j=>obtain⟨t',rfl⟩:=F;exact PySem.EqNone.ne_none_int (cX I q (by simp))
  | str j=>obtain⟨t',rfl⟩:=F;exact PySem.EqNone.ne_none_str (cX I q (by simp))
  | _=>exact absurd (show false=true from hs) AB
 | bl i=>
  cases G;cases y with
  | non=>cases F;exact PySem.EqNone.ne_bool_none (cX I q (by simp))
  | bl j=>cases F;exact ne_bool (cX I q (congrArg not aDb))
  | str j=>obtain⟨t',rfl⟩:=F;exact PySem.EqMixed.ne_bool_str (cX I q (by simp))
  | _=>exact absurd (show false=true from hs) AB
 | int i=>
  obtain⟨t,rfl⟩:=G;cases y with
  | non=>cases F;exact PySem.EqNone.ne_int_none (cX I q (by simp))
  | int j=>obtain⟨t',rfl⟩:=F;exact ne_int (cX I q (congrArg not aBb))
  | str j=>obtain⟨t',rfl⟩:=F;exact PySem.EqMixed.ne_int_str (cX I q (by simp))
  | _=>exact absurd (show false=true from hs) AB
 | str i=>
  obtain⟨t,rfl⟩:=G;cases y with
  | non=>cases F;exact PySem.EqNone.ne_str_none (cX I q (by simp))
  | bl j=>cases F;exact PySem.EqMixed.ne_str_bool (cX I q (by simp))
  | int j=>obtain⟨t',rfl⟩:=F;exact PySem.EqMixed.ne_str_int (cX I q (by simp))
  | str j=>obtain⟨t',rfl⟩:=F;exact ne_str (cX I q (congrArg not aBc))
  | _=>exact absurd (show false=true from hs) AB
 | byt i=>
  obtain⟨t,rfl⟩:=G;cases y with
  | byt j=>obtain⟨t',rfl⟩:=F;exact PySem.W.ne_bytes (cX I q (congrArg not aBd))
  | _=>exact absurd (show false=true from hs) AB
 | _=>cases y <;> exact absurd (show false=true from hs) AB
theorem oU:OpR X (compareOp .Lt) (rI0 fun i j=>.bl (decide (i < j))):=aGD fun _ _ _ _ _ _ _ q=>lt_int q
theorem aBe:OpR X (compareOp .Gt) (rI0 fun i j=>.bl (decide (j < i))):=aGD fun _ _ _ _ _ _ _ q=>gt_int q
theorem aGa:OpR X (compareOp .GtE) (rI0 fun i j=>.bl (decide (j≤i))):=aGD fun _ _ _ _ _ _ _ q=>ge_int q
theorem bH(b:Ba){op:Ht}(h:op≠.In:=by decide)(h2:op≠.NotIn:=by decide):behindInMarks op b=false:=by
 have F:(op == CmpOp.In)=false:=by cases op <;> first | rfl | exact absurd rfl h
 have q:(op == CmpOp.NotIn)=false:=by cases op <;> first | rfl | exact absurd rfl h2
 cases b <;> simp[behindInMarks,F,q]
theorem m6{op:Ht}{r:R2}(ho:OpR X (compareOp op) r)(ha:PE X a ta)(F:PE X b tb)(hm:behindInMarks op b=false):PE X (.Compare a [op] [b] pos) (tOp r ta tb):=by
 constructor;intro iw s σ H Q I h;exact wpAny_Compare1 (aGC ha F I h fun v u s2 x y H2 M G J q=>ho iw s2 σ H2 x y v u Q M G J q) hm
def aHI(t:TE):TT:=fun σ H Q=>t σ H fun x H'=>As V.bl x fun k=>Q k H'
theorem aX{op:Ht}{r:R2}(ho:OpR X (compareOp op) r)(ha:PE X a ta)(G:PE X b tb)(hm:behindInMarks op b=false):PT X (.Compare a [op] [b] pos) (aHI (tOp r ta tb)):=by
 constructor;intro iw s σ H Q I h;refine wpAny_isTrue_Compare1 (thn (ha iw s σ H _ I h) fun v s1 ⟨x,H1,J,M,q1⟩=>thn (G iw s1 σ H1 _ J q1) fun u s2 ⟨y,H2,Y,q,Z⟩=>
  thn (ho iw s2 σ H2 x y v u _ Y M q Z) fun c s3 ⟨z,O,F,r3,k,e,q3⟩=>?_) hm
 subst e;cases r3;exact CY ⟨O,F,q3⟩
def aHJ(K:Ah)(x:V)(H:Hp)(k:Bool):Prop:=
 match x with
 | .non=>k=false
 | .bl b=>k=b
 | .int i=>k=(i != 0)
 | .str y=>y.length≤sizeLine∧k=((y.length:Int) != 0)
 | .byt y=>y.size≤sizeLine∧k=((y.size:Int) != 0)
 | .ref p=>(∃ xs,SqL K H p xs∧k=!xs.isEmpty)∨(∃ xs,SqT K H p xs∧k=!xs.isEmpty)∨∃ iz,H p=some (.dK iz)∧k=!iz.isEmpty
 | _=>False
theorem aAq{κ:Type}{iz:List (κ×V)}{vs:List (κ×Ad)}(r:KV iz vs):(!vs.isEmpty)=!iz.isEmpty:=by
 cases r <;> rfl
theorem rT{xs:List V}{its:List Ad}(r:bX xs its):(!its.toArray.isEmpty)=!xs.isEmpty:=by
 cases r <;> simp
theorem n9:(sizeLine:Nat) < 2 ^ 63:=by rw[Er];decide
theorem aGF:aID X (fun x H Q=>∃ k,aHJ X.K x H k∧Q k H):=by
 intro iw s σ H x v Q I J h;obtain⟨k,e,q⟩:=h;have hl:=n9;have hs:sizeLine=16777216:=Er;cases x with
 | non=>
  cases J;have F:k=false:=e;subst F;exact truthy_none ⟨H,I,q⟩
 | bl b=>
  cases J;have F:k=b:=e;subst F;exact CY ⟨H,I,q⟩
 | int i=>
  obtain⟨t,rfl⟩:=J;have F:k=(i != 0):=e;subst F;exact PySem.P.truthy_int ⟨H,I,q⟩
 | str y=>
  obtain⟨t,rfl⟩:=J;obtain⟨hy,F⟩:y.length≤sizeLine∧k=((y.length:Int) != 0):=e;subst F;exact PySem.P.truthy_str (by omega) ⟨H,I.tok _,q⟩
 | byt y=>
  obtain⟨t,rfl⟩:=J;obtain⟨hy,F⟩:y.size≤sizeLine∧k=((y.size:Int) != 0):=e;subst F;exact PySem.W.truthy_bytes (by omega) ⟨H,I.tok _,q⟩
 | ref p=>
  cases J;have F:(∃ xs,SqL X.K H p xs∧k=!xs.isEmpty)∨(∃ xs,SqT X.K H p xs∧k=!xs.isEmpty)∨∃ iz,H p=some (.dK iz)∧k=!iz.isEmpty:=e;rcases F with⟨xs,hx,F⟩ | ⟨xs,hx,F⟩ | ⟨iz,hx,F⟩
  ·subst F;obtain⟨its,r,pl,hz⟩:=I.list hx;have G:=r.length;exact wpAny_truthy_list pl.isList (by simp only[Aq];omega) ⟨H,I.tok _,by rw[rT r];exact q⟩
  ·subst F;obtain⟨its,r,pl,hz⟩:=I.tuple hx;have G:=r.length;exact truthy_tuple pl (by simp only[Aq];omega) ⟨H,I.tok _,by rw[rT r];exact q⟩
  ·subst F;obtain⟨hz,hS,vs,r,m⟩:iz.length≤sizeLine∧(p == sysModules)=false∧∃ vs,KV iz vs∧s.heap.DictOf (cM X.prog X.w) p vs:=I.hok p _ hx;have G:iz.length=vs.length:=BB r;exact wpAny_truthy_dict hS m (by omega) ⟨H,I.tok _,by rw[aAq r];exact q⟩
 | _=>exact(show False from e).elim
theorem aDc(ha:PE X a ta)(J:∀ q,isTrue a X.env q=(do let v ← q;standAt a.pos;holding [v] (truthy v))):
  PT X a (fun σ H Q=>ta σ H fun x H'=>∃ k,aHJ X.K x H' k∧Q k H'):=by
 constructor;intro iw s σ H Q I h;exact isTrue_plain (thn (ha iw s σ H _ I h) fun v s1 ⟨x,H1,F,G,M⟩=>aGF iw s1 σ H1 x v Q F G M) (J _)
inductive lU(x:V)(y:V)(H:Hp)(Q:VK):Prop
 | mk (i:_) (j:_) (q0:x=.str i) (q1:y=.str j) (q2:i.length + j.length≤sizeLine) (q3:Q (.str (i ++ j)) H):lU x y H Q
def wE:V→V→Hp→VK→Prop:=fun x y H Q=>lU x y H Q
theorem iY:OpR X (binaryOp .Add) wE:=by
 intro iw s σ H x y v u Q I J G h;obtain⟨i,j,rfl,rfl,hz,q⟩:=h;obtain⟨t,rfl⟩:=J;obtain⟨F,rfl⟩:=G;exact add_str (fun F tk=>⟨.str (i ++ j),H,I.tok _,⟨_,rfl⟩,q⟩) hz
theorem fS{x:V}{q:List Ad}(r:bX [x] q):∃ u,q=[u]∧cF x u:=by
 cases r with
 | cons G F=>cases F;exact⟨_,rfl,G⟩
theorem aDd{x y:V}{F:List Ad}(r:bX [x,y] F):∃ u q,F=[u,q]∧cF x u∧cF y q:=by
 cases r with
 | cons M G=>
  cases G with
  | cons O J=>cases J;exact⟨_,_,rfl,M,O⟩
inductive oV(xs:List V)(H:Hp)(Q:VK):Prop
 | mk (i:_) (q0:xs=[.int i]) (q1:Q (.int (if i < 0 then -i else i)) H):oV xs H Q
def aAr:List V→Hp→VK→Prop:=fun xs H Q=>oV xs H Q
theorem rV:eY X (.builtin "abs") aAr:=by
 intro iw s σ H xs F Q I r h;obtain⟨i,rfl,q⟩:=h;obtain⟨u,rfl,t,rfl⟩:=fS r;exact call_abs_int fun u tk=>⟨.int (if i < 0 then -i else i),H,I.tok _,⟨_,rfl⟩,q⟩
inductive nP(xs:List V)(H:Hp)(Q:VK):Prop
 | mk (i:_) (j:_) (q0:xs=[.int i,.int j]) (q1:Q (.int (if j > i then j else i)) H):nP xs H Q
def xT:List V→Hp→VK→Prop:=fun xs H Q=>nP xs H Q
theorem uS(hc:X.calm=true):eY X (.builtin "max") xT:=by
 intro iw s σ H xs G Q I r h;obtain⟨i,j,rfl,q⟩:=h;obtain⟨u,w',rfl,⟨t,rfl⟩,⟨t',rfl⟩⟩:=aDd r;refine max_two_ints (I.ok.hd hc) fun h' tk k=>⟨_,H,I.kept k,?_,q⟩
 by_cases F:j > i
 ·rw[Ib F,Ib F];exact⟨_,rfl⟩
 ·rw[Ia F,Ia F];exact⟨_,rfl⟩
inductive nQ(xs:List V)(H:Hp)(Q:VK):Prop
 | mk (i:_) (j:_) (q0:xs=[.int i,.int j]) (q1:Q (.int (if j < i then j else i)) H):nQ xs H Q
def xU:List V→Hp→VK→Prop:=fun xs H Q=>nQ xs H Q
theorem m7(hc:X.calm=true):eY X (.builtin "min") xU:=by
 intro iw s σ H xs G Q I r h;obtain⟨i,j,rfl,q⟩:=h;obtain⟨u,w',rfl,⟨t,rfl⟩,⟨t',rfl⟩⟩:=aDd r;refine min_two_ints (I.ok.hd hc) fun h' tk k=>⟨_,H,I.kept k,?_,q⟩
 by_cases F:j < i
 ·rw[Ib F,Ib F];exact⟨_,rfl⟩
 ·rw[Ia F,Ia F];exact⟨_,rfl⟩
theorem p7:eY X (.type "int") (fun xs H Q=>(∃ i,xs=[.int i]∧Q (.int i) H)∨∃ k,xs=[.bl k]∧Q (.int (if k then 1 else 0)) H):=by
 intro iw s σ H xs F Q I r h;rcases h with⟨i,rfl,q⟩ | ⟨k,rfl,q⟩
 ·obtain⟨u,rfl,t,rfl⟩:=fS r;exact call_int_int ⟨.int i,H,I,⟨_,rfl⟩,q⟩
 ·obtain⟨u,rfl,r1⟩:=fS r;cases r1;exact call_int_bool ⟨.int (if k then 1 else 0),H,I.tok _,⟨_,rfl⟩,q⟩
end
structure aCf(h:Bi)(x dx C:Ag)(mA:Str→Option Ad):Prop where
 obj:h.get? x=some (CM C dx)
 ns:h.Ns1 dx mA
 ne:dx≠x
theorem aCg{h:Bi}{dx:Ag}{mA:Str→Option Ad}(n:h.Ns1 dx mA):∃ od,h.get? dx=some od∧∀ name,F5 name od=some (mA name):=by
 obtain⟨o,es,ep,ho,hd,hk,_,hm⟩:=n;refine⟨o,ho,fun name=>?_⟩;have e:=hm name;unfold nsFind findBy at e;rw[← Array.find?_toList]at e;unfold F5;rw[hd];dsimp only;split
 ·rename_i y q;rw[q]at e;exact congrArg some e
 ·rename_i q;rw[q]at e;have a:es.toList.any (·.refKey)=false:=by
   rw[List.any_eq_false];intro y F;obtain⟨z,t,hkey⟩:=hk y (Array.mem_toList_iff.mp F);simp[DictEntry.refKey,hkey]
  have a':¬ es.toList.any (·.refKey)=true:=by rw[a];exact AB
  rw[Ia a'];exact congrArg some e
theorem aCf.look{h:Bi}{x dx C:Ag}{mA:Str→Option Ad}(I:aCf h x dx C mA):∃ od,PySem.W.InstAt h x (CM C dx) C (some od)∧∀ name,F5 name od=some (mA name):=
 let ⟨od,ho,hl⟩:=aCg I.ns
 ⟨od,⟨I.obj,rfl,rfl,ho⟩,hl⟩
section
variable{prog:AD}{w:AV}{A:AS}{E:Ad→Af→Prop}{s:Af}{K:Ah}{x dx C f:Ag}{mA:Str→Option Ad}{name:Str}{v:Ad}
theorem aE9{q:Bool}{Q:Ad→Af→Prop}(X:K.In s.heap)(I:aCf s.heap x dx C mA)(M:EH K C name=true)(G:Ew K C=true)
  (ha:Bv K (.ref C) name=some none) (hv:mA name=some v) (F:PySem.W.handedIn v=true) (h:Q v { s with toks:=s.toks + 1 }):
  wpAny (model prog w) A (getAttr (.ref x) name q) Q E s:=by
 obtain⟨od,J,hl⟩:=I.look;exact PySem.W.get_value X J (PySem.W.plainGet_of M).1 (PySem.W.findObj_own G ha rfl (by rw[hl,hv])) F h
theorem aFa{ns:List Str}{Q:Unit→Af→Prop}(X:K.In s.heap)(I:aCf s.heap x dx C mA)
  (hs:Bv K (.ref C) "__setattr__"=some (some (.builtin "object.__setattr__"))) (G:Fy K C=true) (ht:FX K C name=some none) (M:Ew K C=true)
  (hw:Gy mA ns) (hsz:ns.length≤sizeLine)
  (h:∀ h',aCf h' x dx C (fun y=>if y=name then some v else mA y)→Dr dx s.heap h'→Q () { s with heap:=h',toks:=s.toks + 2 }):
  wpAny (model prog w) A (setAttr (.ref x) name v) Q E s:=by
 obtain⟨od,J,hl⟩:=I.look;refine PySem.W.set_plain X J hs (PySem.W.osa_open (s:={ s with toks:=s.toks + 1 }) (r:=none) X J G ht fun b=>?_);obtain⟨cd,hc,hd'⟩:=PySem.W.any_some M;have hx:s.heap.get? x=some ⟨.ref C,some dx,.plain,#[]⟩:=I.obj;refine Aa (Ae (Aa (Aa (wpAny_loadPart hx (Aa (PySem.W.Looks.here (s:={ s with toks:=s.toks + 1 }) (PySem.W.looks_clsIn X hc) ?_))))));rw[hd'];refine Ae (a:=some dx) (Aa (Ae (Aa ?_)));refine wpAny_nsSet1 (s:={ s with toks:=s.toks + 1 }) I.ns fun h' F q=>?_;obtain⟨oD,esD,epD,hoD,hdD,hcD⟩:=F.count (PySem.Within.cons name v hw);refine Aa (wpAny_lookBehind hoD (by rw[hdD];exact pastItsLine_dict (AG hcD (by rw[AI];omega))) ?_);exact Ae (h _ ⟨(q.2 _ (B4 I.ne)).trans I.obj,F,I.ne⟩ q)
theorem aDe{R:G7→Af→Prop}{vs:List Ad}{q:List (Str×Ad)}(X:K.In s.heap)(hm:FZ K C=true)
  (hi:Bv K (.ref C) "__init__"=some (some (.ref f))) (F:PySem.W.typeIn K (.ref f)=some (.type "function"))
  (h:codeAny (model prog w) (A.under (.builtin "type.__call__" ⟨.ref C :: vs,q⟩)) (.call (.ref f) ⟨.ref (s.heap.objs.size + 1) :: vs,q⟩) (PySem.W.InitBack (s.heap.objs.size + 1) R)
   { s with heap:=(s.heap.push Ci).push (CM C s.heap.objs.size) }):
  codeAny (model prog w) A (.call (.ref C) ⟨vs,q⟩) R s:=by
 obtain⟨hh,g,d,t,os⟩:=s;exact PySem.W.make_core (PySem.W.makes_of X hm) (PySem.W.looks_findIn X hi) (fun self=>PySem.W.bind_fn X self F) (.inl rfl) h
end
def gF(f:Str)(v:V):List (Str×V)→List (Str×V)
 | []=>[(f,v)]
 | (g,x) :: r=>if g=f then(g,v) :: r else(g,x) :: gF f v r
theorem qP(f g:Str)(v:V):∀ fs:List (Str×V),(gF f v fs).lookup g=if g=f then some v else fs.lookup g
 | []=>by
  show Dk g [(f,v)]=_;by_cases h:g=f
  ·have q:(g == f)=true:=beq_iff_eq.mpr h;simp only[Dk,q,Ib h]
  ·have q:(g == f)=false:=beq_eq_false_iff_ne.mpr h;simp only[Dk,q,Ia h]
 | (k,x) :: r=>by
  have G:=qP f g v r;rw[show gF f v ((k,x) :: r)=(if k=f then(k,v) :: r else(k,x) :: gF f v r) from rfl];by_cases F:k=f
  ·rw[Ib F];by_cases h:g=k
   ·have q:(g == k)=true:=beq_iff_eq.mpr h;simp only[Dk,q,Ib (h.trans F)]
   ·have q:(g == k)=false:=beq_eq_false_iff_ne.mpr h;simp only[Dk,q,Ia (fun e:g=f=>h (e.trans F.symm))]
  ·rw[Ia F];by_cases h:g=k
   ·have q:(g == k)=true:=beq_iff_eq.mpr h;simp only[Dk,q,Ia (fun e:g=f=>F (h.symm.trans e))]
   ·have q:(g == k)=false:=beq_eq_false_iff_ne.mpr h;simp only[Dk,q];exact G
theorem p8(f:Str)(v:V):∀ fs:List (Str×V),f∈(gF f v fs).map (·.1)∧∀ g,g∈fs.map (·.1)→g∈(gF f v fs).map (·.1)
 | []=>⟨by simp[gF],fun g h=>by simp at h⟩
 | (k,x) :: r=>by
  obtain⟨i1,i2⟩:=p8 f v r;rw[show gF f v ((k,x) :: r)=(if k=f then(k,v) :: r else(k,x) :: gF f v r) from rfl];by_cases q:k=f
  ·rw[Ib q];subst q;exact⟨by simp,fun g h=>by simpa using h⟩
  ·rw[Ia q];refine⟨?_,fun g h=>?_⟩
   ·rw[Au];exact An _ i1
   ·rw[Au]at h ⊢;rcases Ak.mp h with e | e
    ·exact Ak.mpr (.inl e)
    ·exact An _ (i2 g e)
theorem qQ(f:Str)(v:V):∀ fs:List (Str×V),(gF f v fs).length≤fs.length + 1
 | []=>by simp[gF]
 | (k,x) :: r=>by
  have F:=qQ f v r;rw[show gF f v ((k,x) :: r)=(if k=f then(k,v) :: r else(k,x) :: gF f v r) from rfl];by_cases q:k=f
  ·rw[Ib q,AI,AI];omega
  ·rw[Ia q,AI,AI];omega
theorem lQ.some_of{v:V}{o:Option Ad}(r:lQ (some v) o):∃ u,o=some u∧cF v u:=by
 cases o with
 | none=>exact(show False from r).elim
 | some u=>exact⟨u,rfl,r⟩
theorem aCh{v:V}{u:Ad}(r:cF v u):PySem.W.handedIn u=true:=by
 cases v with
 | non=>cases(show u=CU from r);rfl
 | bl b=>cases(show u=Gc b from r);rfl
 | int i=>obtain⟨t,e⟩:=(show∃ t,u=Bq i t from r);cases e;rfl
 | str x=>obtain⟨t,e⟩:=(show∃ t,u=BA x t from r);cases e;rfl
 | byt b=>obtain⟨t,e⟩:=(show∃ t,u=Value.bytes b t from r);cases e;rfl
 | flt b=>obtain⟨t,e⟩:=(show∃ t,u=GZ b t from r);cases e;rfl
 | ref a=>cases(show u=AF a from r);rfl
 | ty n=>cases(show u=Br n from r);rfl
section
variable{P:AD}{w:AV}{H H':Hp}{h h':Bi}{a C dx:Ag}{fs jt:List (Str×V)}
theorem wF(hok:HOk P w H h)(e:H a=some (.ins C dx fs)):∃ mA,aCf h a dx C mA∧(∀ f,lQ (fs.lookup f) (mA f))∧Gy mA (fs.map (·.1))∧fs.length≤1000∧H dx=some (.own a):=by
 obtain⟨d,z,ne,ob,mA,n,r,q⟩:=(show cP P w H h a (.ins C dx fs) from hok a _ e)
 exact⟨mA,⟨ob,n,ne⟩,r,q,z,d⟩
end
structure Cls(K:Ah)(C:Ag):Prop where
 pg:EH K C Str.empty=true
 hd:Ew K C=true
 po:Fy K C=true
 sa:Bv K (.ref C) "__setattr__"=some (some (.builtin "object.__setattr__"))
theorem Cls.get{K:Ah}{C:Ag}(c:Cls K C)(f:Str):EH K C f=true:=c.pg
def iZ(K:Ah)(C:Ag)(f:Str):Prop:=Bv K (.ref C) f=some none
theorem iZ.taker{K:Ah}{C:Ag}{f:Str}(n:iZ K C f):FX K C f=some none:=by
 unfold FX;rw[show Bv K (.ref C) f=some none from n];rfl
structure Con(K:Ah)(C:Ag)(f:Str)(v:V)(u:Ad):Prop where
 at_:Bv K (.ref C) f=some (some u)
 rel:cF v u
 get:PySem.W.specialIn K u "__get__"=some none
 cp:PySem.W.copiedNames.contains f=false
structure aJc(K:Ah)(C:Ag)(m:Str)(f:Ag):Prop where
 at_:Bv K (.ref C) m=some (some (.ref f))
 fn:Gr K (.ref f)=true
 kp:AT K (.ref f)=true
section
variable{X:Cx}{iw:Ih}{σ:St}{H:Hp}{s:Af}{a C dx:Ag}{fs:List (Str×V)}{f:Str}{v:V}{A:AS}{E:Ad→Af→Prop}
theorem aAs{b:Bool}{Q:Ad→Af→Prop}(I:Inv X iw σ H s)(e:H a=some (.ins C dx fs))(c:Cls X.K C)(n:iZ X.K C f)(l:fs.lookup f=some v)
  (h:∀ u s',Inv X iw σ H s'→cF v u→Q u s'):wpAny (model X.prog X.w) A (getAttr (.ref a) f b) Q E s:=by
 obtain⟨mA,O,r,_,_,_⟩:=wF I.hok e;obtain⟨u,hu,ru⟩:=lQ.some_of (v:=v) (o:=mA f) (by rw[← l];exact r f);exact aE9 I.kIn O (c.get f) c.hd n hu (aCh ru) (h u _ (I.tok _) ru)
theorem aAt{y:V}{u:Ad}{Q:Unit→Af→Prop}(I:Inv X iw σ H s)(e:H a=some (.ins C dx fs))(c:Cls X.K C)(n:iZ X.K C f)(hl:fs.length < 1000)(Y:cF y u)
  (h:∀ s',Inv X iw σ (upd H a (.ins C dx (gF f y fs))) s'→Q () s'):wpAny (model X.prog X.w) A (setAttr (.ref a) f u) Q E s:=by
 obtain⟨mA,O,r,wi,_,ho⟩:=wF I.hok e;have hz:(fs.map (·.1)).length≤sizeLine:=by rw[Ab,Er];omega
 refine aFa I.kIn O c.sa c.po n.taker c.hd wi hz fun h' F M=>h _ ?_;have hd:∃ o,h'.get? dx=some o:=let ⟨o,_,_,e',_⟩:=F.ns;⟨o,e'⟩
 refine I.write (x:=a) (e:=dx) (by rw[e];exact Cy) (.inr ho) (fun b q G z=>(M.2 b G).trans z) hd ?_;refine⟨by rw[aF O.ne];exact ho,?_,O.ne,F.obj,_,F.ns,fun g=>?_,fun g J=>?_⟩
 ·have:=qQ f y fs;omega
 ·show lQ ((gF f y fs).lookup g) (if g=f then some u else mA g);rw[qP];by_cases q:g=f
  ·rw[Ib q,Ib q];exact Y
  ·rw[Ia q,Ia q];exact r g
 ·by_cases q:g=f
  ·rw[q];exact(p8 f y fs).1
  ·refine(p8 f y fs).2 g (wi g fun z=>J ?_);show(if g=f then some u else mA g)=none;rw[Ia q];exact z
theorem Inv.made(I:Inv X iw σ H s):Inv X iw σ (upd (upd H s.heap.objs.size (.own (s.heap.objs.size + 1))) (s.heap.objs.size + 1) (.ins C s.heap.objs.size []))
  { s with heap:=(s.heap.push Ci).push (CM C s.heap.objs.size) }:=by
 have F:(s.heap.push Ci).get? s.heap.objs.size=some Ci:=At s.heap rfl;have O:((s.heap.push Ci).push (CM C s.heap.objs.size)).get? (s.heap.objs.size + 1)=some (CM C s.heap.objs.size):=by
  have:=At (s.heap.push Ci) (o:=CM C s.heap.objs.size) rfl
  rwa [B3]at this
 have Y:(s.heap.push Ci).Ns s.heap.objs.size (fun _=>none):=⟨Ci,#[],_,F,rfl,(fun e G=>absurd G (by simp)),fun _=>rfl⟩
 have J:=I.laid (a:=s.heap.objs.size) (o:=.own (s.heap.objs.size + 1)) (h':=s.heap.push Ci) (t':=s.toks) (fun b u q=>Ai _ q) (Am _) ⟨_,F⟩;refine J.laid (a:=s.heap.objs.size + 1) (o:=.ins C s.heap.objs.size []) (t':=s.toks) (fun b u q=>Ai _ q) (Es (B3 _ _)) ?_;have ne:s.heap.objs.size≠s.heap.objs.size + 1:=AA (Cr _);refine⟨by rw[aF ne,aA],Bc _,ne,O,fun _=>none,(Heap.Ns1.of_empty Y).at fun o q=>Ai _ q,fun _=>Cy,fun y M=>absurd rfl M⟩
theorem aFb{prog:AD}{w:AV}{env:Env}{e:Ba}{f:Str}{pos:Pos}{s:Af}{Q:Ad→Af→Prop}(F:attributeBase e f env (eval e env)=eval e env)
  (h:wpAny (model prog w) A (eval e env) (fun o q=>wpAny (model prog w) A (getAttr o f true) Q E q) E s):wpAny (model prog w) A (eval (.Attribute e f pos) env) Q E s:=
 Attribute_any_ h (by rw[arm_eval_Attribute,F])
end
def aHK(K:Ah)(ta:TE)(f:Str):TE:=fun σ H Q=>ta σ H fun x H1=>∃ a C dx fs v,x=.ref a∧H1 a=some (.ins C dx fs)∧Cls K C∧iZ K C f∧fs.lookup f=some v∧Q v H1
def aIG(K:Ah)(ta tv:TE)(f:Str):TS:=fun D σ H=>tv σ H fun y H1=>ta σ H1 fun x H2=>∃ a C dx fs,x=.ref a∧H2 a=some (.ins C dx fs)∧Cls K C∧iZ K C f∧fs.length < 1000∧
 D.nx σ (upd H2 a (.ins C dx (gF f y fs)))
section
variable{X:Cx}{o e value:Ba}{f:Str}{pos jq tpos:Pos}{ta tv:TE}
theorem dG(Y:PE X e ta)(Z:attributeBase e f X.env (eval e X.env)=eval e X.env):PE X (.Attribute e f pos) (aHK X.K ta f):=by
 constructor;intro iw s σ H Q I h;refine aFb Z (thn (Y iw s σ H _ I h) fun u s1 ⟨x,H1,M,G,a,C,dx,fs,v,ex,J,c,n,l,q⟩=>?_);subst ex;obtain rfl:u=AF a:=G;exact aAs M J c n l fun u' s2 O F=>⟨v,H1,O,F,q⟩
theorem rW(ha:PE X o ta)(hv:PE X value tv)(hs:swapsWith value (some (.Attribute o f jq)) pos.line X.env=pure false):PS X (.Assign [.Attribute o f jq] value pos) (aIG X.K ta tv f):=by
 constructor;intro iw s σ H D I h;refine plainObj_wpAny_Assign_Attribute (thn (hv iw s σ H _ I h) fun u s1 ⟨y,H1,Y,O,q⟩=>thn (ha iw s1 σ H1 _ Y q) fun F s2 ⟨x,H2,Z,J,a,C,dx,fs,ex,M,c,n,l,q2⟩=>?_) hs;subst ex;obtain rfl:F=AF a:=J;exact aAt Z M c n l O fun s3 G=>⟨σ,_,G,q2⟩
end
section
variable{X:Cx}{iw:Ih}{σ:St}{H:Hp}{s:Af}{A:AS}{E:Ad→Af→Prop}{Q:Ad→Af→Prop}{c:Ad}{b:Bool}
inductive oW(K:Ah)(H:Hp):V→Ad→Prop where
 | non:oW K H .non (.type "NoneType")
 | bl (x:Bool):oW K H (.bl x) (.type "bool")
 | int (i:Int):oW K H (.int i) (.type "int")
 | str (x:Str):oW K H (.str x) (.type "str")
 | flt (x:UInt64):oW K H (.flt x) (.type "float")
 | lst {a:Ag} {xs:List V} (e:H a=some (.lst xs)):oW K H (.ref a) (.type "list")
 | frz {a:Ag} {o:Obj} {xs:List V} (e:H a=some (.frz o (.lst xs))):oW K H (.ref a) (.type "list")
 | tup {a:Ag} {xs:List V} (e:H a=some (.tup xs)):oW K H (.ref a) (.type "tuple")
 | dK {a:Ag} {iz:List (Key×V)} (e:H a=some (.dK iz)):oW K H (.ref a) (.type "dict")
 | dT {a:Ag} {iz:List (List Key×V)} (e:H a=some (.dT iz)):oW K H (.ref a) (.type "dict")
 | ins {a C dx:Ag} {fs:List (Str×V)} (e:H a=some (.ins C dx fs)) (cl:Cls K C) (ha:Bv K (.ref C) "__class__"=some (some (.builtin "object.__class__")))
   (hn:PySem.W.specialIn K (.builtin "object.__class__") "__get__"=some (some (.builtin "getset_descriptor.__get__"))) (htk:PySem.W.takesIn K (.builtin "object.__class__")=some true)
   (hm:PySem.W.mroIn K C (.type "object")=some true):oW K H (.ref a) (.ref C)
theorem aCi{x:V}{u t:Ad}(I:Inv X iw σ H s)(F:cF x u)(ty:oW X.K H x t)(e:Fd X.K t c=some b)(h:∀ tk,Q (.bool b) { s with toks:=tk }):
  wpAny (model X.prog X.w) A (call (.builtin "isinstance") [u,c]) Q E s:=by
 cases ty with
 | non=>cases(show u=CU from F);exact Cb PySem.W.kitx_none I.kIn Cy e (fun z=>nomatch z) h
 | bl y=>cases(show u=Gc y from F);exact Cb PySem.W.kitx_bool I.kIn Cy e (fun z=>nomatch z) h
 | int i=>obtain⟨t,q⟩:=(show∃ t,u=Bq i t from F);cases q;exact Cb PySem.W.kitx_int I.kIn Cy e (fun z=>nomatch z) h
 | str y=>obtain⟨t,q⟩:=(show∃ t,u=BA y t from F);cases q;exact Cb PySem.W.kitx_str I.kIn Cy e (fun z=>nomatch z) h
 | flt y=>obtain⟨t,q⟩:=(show∃ t,u=GZ y t from F);cases q;exact Cb PySem.W.kitx_float I.kIn Cy e (fun z=>nomatch z) h
 | @lst a xs G=>
  cases(show u=AF a from F);obtain⟨_,_,n,_,h1⟩:=(show cP X.prog X.w H s.heap a (.lst xs) from I.hok a _ G)
  exact Cb PySem.W.kitx_list I.kIn ⟨_,h1,rfl⟩ e (fun z=>nomatch z) h
 | @frz a ob xs G=>
  cases(show u=AF a from F);obtain⟨_,_,_,n,_,h1⟩:=(show cP X.prog X.w H s.heap a (.frz ob (.lst xs)) from I.hok a _ G)
  exact Cb PySem.W.kitx_list I.kIn ⟨_,h1,rfl⟩ e (fun z=>nomatch z) h
 | @tup a xs G=>
  cases(show u=AF a from F);obtain⟨_,_,_,p⟩:=(show cP X.prog X.w H s.heap a (.tup xs) from I.hok a _ G)
  obtain⟨o,h1,h2,_⟩:=p;exact Cb PySem.W.kitx_tuple I.kIn ⟨o,h1,h2.1⟩ e (fun z=>nomatch z) h
 | @dK a iz G=>
  cases(show u=AF a from F);obtain⟨_,_,vs,_,p⟩:=(show cP X.prog X.w H s.heap a (.dK iz) from I.hok a _ G)
  obtain⟨o,es,ep,h1,h2,_⟩:=p;exact Cb PySem.W.kitx_dict I.kIn ⟨o,h1,h2.1⟩ e (fun z=>nomatch z) h
 | @dT a iz G=>
  cases(show u=AF a from F);obtain⟨_,_,xs,_,o,es,ep,h1,h2,_⟩:=(show cP X.prog X.w H s.heap a (.dT iz) from I.hok a _ G)
  exact Cb PySem.W.kitx_dict I.kIn ⟨o,h1,h2.1⟩ e (fun z=>nomatch z) h
 | @ins a C dx fs G cl ha hn M hm=>
  cases(show u=AF a from F);obtain⟨mA,O,_⟩:=wF I.hok G;obtain⟨od,J,_⟩:=O.look;exact Cb (PySem.W.kitx_own (cl.get _) cl.hd ha hn M hm) I.kIn J e (fun z=>nomatch z) h
end
structure dQ(k:Nat)(A:AS):Prop where
 hd:A.handled=none
 dp:A.depth + 3 * k + 5 < recursionLimit
 un:A.units + 16 * k + 200 < cLine
 gd:A.guards=some []
theorem dQ.mono{j k:Nat}{A:AS}(r:dQ k A)(h:j≤k):dQ j A:=⟨r.hd,by have:=r.dp;omega,by have:=r.un;omega,r.gd⟩
theorem dQ.deeper{k:Nat}{A:AS}(r:dQ (k + 1) A)(env:Env):dQ k (A.deeper env):=
 ⟨r.hd,by have:=r.dp;show A.depth + 1 + 3 * k + 5 < _;omega,by have:=r.un;show A.units + 3 + 16 * k + 200 < _;omega,r.gd⟩
theorem dQ.in1{k:Nat}{A:AS}(r:dQ (k + 1) A):dQ k A.in1:=
 ⟨r.hd,by have:=r.dp;show A.depth + 3 * k + 5 < _;omega,by have:=r.un;show A.units + 1 + 16 * k + 200 < _;omega,r.gd⟩
theorem aAu{A:AS}{C:Ag}{q:List Ad}{F:List (Str×Ad)}:(A.under (.builtin "type.__call__" ⟨.ref C :: q,F⟩)).depth=A.depth + 1:=by
 first | rfl | simp[FC,Code.weight,Code.isCreation,Code.isGuard,Code.isCaller,Code.frames,GB,guardIds]
theorem aAv{A:AS}{C:Ag}{q:List Ad}{F:List (Str×Ad)}:(A.under (.builtin "type.__call__" ⟨.ref C :: q,F⟩)).units=A.units + 1:=by
 first | rfl | simp[FC,Code.cUnits,Code.frames,GB]
theorem xV{A:AS}{C:Ag}{q:List Ad}{F:List (Str×Ad)}:(A.under (.builtin "type.__call__" ⟨.ref C :: q,F⟩)).guards=A.guards:=by
 first | rfl | (cases A;rename_i a b c g e;cases g <;> first | rfl | simp[FC,Code.guards,Code.isGuard,guardIds,pushGuards])
theorem dQ.make{k:Nat}{A:AS}(r:dQ (k + 1) A)(C:Ag)(q:List Ad)(F:List (Str×Ad)):dQ k (A.under (.builtin "type.__call__" ⟨.ref C :: q,F⟩)):=
 ⟨r.hd,by have:=r.dp;rw[aAu];omega,by have:=r.un;rw[aAv];omega,xV.trans r.gd⟩
theorem dQ.depth{k:Nat}{A:AS}(r:dQ k A):A.depth < recursionLimit:=by have:=r.dp;omega
theorem dQ.units{k:Nat}{A:AS}(r:dQ k A):A.units + 64 < cLine:=by have:=r.un;omega
def aGG:TA:=fun _ H Q=>Q [] H
def aBf(ta:TE)(tr:TA):TA:=fun σ H Q=>ta σ H fun x H1=>tr σ H1 fun xs H2=>Q (x :: xs) H2
section
variable{X:Cx}{e:Ba}{es:List Ba}{te:TE}{t:TA}{pos:Pos}
theorem aE:PA X [] aGG:=⟨fun _ _ _ _ H Q I h=>FQ ⟨[],H,I,.nil,h⟩⟩
theorem aFc(ha:PE X e te)(F:PA X es t)(hs:starEach (e :: es) X.env=(false,eval e X.env) :: starEach es X.env:=by rfl):PA X (e :: es) (aBf te t):=by
 constructor;intro pos iw s σ H Q I h;rw[hs];show wpAny _ _ (spliced ((false,eval e X.env) :: backTo pos (starEach es X.env))) _ _ s;refine Eu (thn (ha iw s σ H _ I h) fun u s1 ⟨x,H1,G,J,Y⟩=>?_);exact thn (F pos iw s1 σ H1 _ G Y) fun Z s2 ⟨xs,H2,M,q,O⟩=>⟨x :: xs,H2,M,.cons J q,O⟩
def aIH(t:TA):TE:=fun σ H Q=>t σ H fun xs H1=>xs.length≤sizeLine∧∀ p,H1 p=none→Q (.ref p) (upd H1 p (.tup xs))
def aII(t:TA):TE:=fun σ H Q=>t σ H fun xs H1=>xs.length≤sizeLine∧∀ p,H1 p=none→Q (.ref p) (upd H1 p (.lst xs))
theorem cJ{x1}(h:PA X es t):PE X (.Tuple es x1 pos) (aIH t):=by
 constructor;intro iw s σ H Q I J;refine wpAny_Tuple_spliced (thn (h pos iw s σ H _ I J) fun G s1 ⟨xs,H1,F,r,z,q⟩=>⟨by rw[← r.length];exact z,?_⟩);have M:H1 s1.heap.objs.size=none:=F.hok.fresh (Am _);refine⟨.ref s1.heap.objs.size,upd H1 s1.heap.objs.size (.tup xs),F.laid (t':=s1.toks) (fun b u e=>Ai _ e) (Am _) ?_,rfl,q _ M⟩;exact⟨z,G,r,⟨_,At _ rfl,⟨rfl,_,rfl⟩,rfl⟩⟩
theorem c7(h:PA X es t):PE X (.List es pos) (aII t):=by
 constructor;intro iw s σ H Q I J;refine wpAny_List_spliced (thn (h pos iw s σ H _ I J) fun G s1 ⟨xs,H1,F,r,z,q⟩=>⟨by rw[← r.length];exact z,?_⟩);have M:H1 s1.heap.objs.size=none:=F.hok.fresh (Am _);refine⟨.ref s1.heap.objs.size,upd H1 s1.heap.objs.size (.lst xs),F.laid (t':=s1.toks) (fun b u e=>Ai _ e) (Am _) ?_,rfl,q _ M⟩;exact⟨z,G,0,r,At _ rfl⟩
end
abbrev Sp:=List V→Hp→VK→XK→Prop
abbrev CXT:=List Env→Hp→Af→XK→Ad→Af→Prop
structure aAw(P:AD)(w:AV)(K:Ah)(mg:Str→Option Ad)(base:Bi)(A:AS)(outer:List Env)(s:Af)(H:Hp):Prop where
 frames:A.frames=some outer
 mod:Mod K mg base
 bs:∀ b o,base.get? b=some o→s.heap.get? b=some o∧H b=none
 bsz:base.objs.size≤s.heap.objs.size
 funs:s.heap.FunFrames base outer
 frf:∀ b∈frs outer,H b=none
 hok:HOk P w H s.heap
 bare:EL s.gens
inductive aHL(outer:List Env)(P:AD)(w:AV)(H:Hp)(s:Af)(Q:VK)(u:Ad)(s':Af):Prop
 | mk (v:_) (H':_) (q0:s'.os=s.os) (q1:EL s'.gens) (q2:Un (frs outer) [] H H' s.heap s'.heap) (q3:HOk P w H' s'.heap) (q4:cF v u) (q5:Q v H'):aHL outer P w H s Q u s'
def CE(outer:List Env)(P:AD)(w:AV)(H:Hp)(s:Af)(Q:VK)(u:Ad)(s':Af):Prop:=aHL outer P w H s Q u s'
def CR(CX:CXT)(outer:List Env)(P:AD)(w:AV)(H:Hp)(s:Af)(Q:VK)(E:XK)(r:G7)(s':Af):Prop:=
 match r with
 | .ok (.ret u)=>CE outer P w H s Q u s'
 | .ok _=>False
 | .error e=>CX outer H s E e s'
structure cY(P:AD)(w:AV)(K:Ah)(mg:Str→Option Ad)(base:Bi)(CX:CXT)(k:Nat)(f:Ag)(fd:A3)(ps:List Str)(sp:Sp):Prop where
 len:∀ vs H Q E,sp vs H Q E→vs.length=ps.length
 run:∀(A:AS) (outer:List Env) (s:Af) (H:Hp) (args:Args) (us:List Ad) (vs:List V) (Q:VK) (E:XK),dQ k A→aAw P w K mg base A outer s H→Gm s fd args (ps.zip us)→bX vs us→sp vs H Q E→
  codeAny (model P w) A (.call (.ref f) args) (CR CX outer P w H s Q E) s
theorem cY.mono{P:AD}{w:AV}{K:Ah}{mg:Str→Option Ad}{base:Bi}{CX:CXT}{j k:Nat}{f:Ag}{fd:A3}{ps:List Str}{sp:Sp}(F:cY P w K mg base CX j f fd ps sp)(h:j≤k):
  cY P w K mg base CX k f fd ps sp:=⟨F.len,fun A outer s H q G vs Q E J=>F.run A outer s H q G vs Q E (J.mono h)⟩
theorem aAw.make{P:AD}{w:AV}{K:Ah}{mg:Str→Option Ad}{base:Bi}{A:AS}{outer:List Env}{s:Af}{H:Hp}(e:aAw P w K mg base A outer s H)(C:Ag)(q:List Ad)(F:List (Str×Ad)):
  aAw P w K mg base (A.under (.builtin "type.__call__" ⟨.ref C :: q,F⟩)) outer s H:=⟨by first | exact e.frames | (simpa[FC,Code.envs,GB,pushEnvs]using e.frames),e.mod,e.bs,e.bsz,e.funs,e.frf,e.hok,e.bare⟩
section
variable{X:Cx}{iw:Ih}{σ:St}{H:Hp}{s s':Af}
theorem Inv.env0(I:Inv X iw σ H s):aAw X.prog X.w X.K X.mg X.base X.A X.stack s H:=
 ⟨I.ok.frames,I.ok.mod,I.bs,AG I.ok.bsz I.sz,I.stack,I.stkFree,I.hok,I.bare⟩
theorem Inv.after{Q:VK}{u:Ad}(I:Inv X iw σ H s)(h:CE X.stack X.prog X.w H s Q u s'):EP X iw σ Q u s':=by
 obtain⟨v,H',os,bare,un,hok,r,q⟩:=h;obtain⟨hh,g,d,t,os'⟩:=s';obtain rfl:os'=s.os:=os;exact⟨v,H',I.call (h':=hh) (g':=g) (d':=d) (t':=t) (ch:=[]) un hok bare (fun b z=>absurd z (by simp)),r,q⟩
end
def aGb(sp:Sp)(dvs:List V)(E:XK)(t:TA):TE:=fun σ H Q=>t σ H fun vs H1=>sp (vs ++ dvs) H1 Q E
def aHM(C:Ag)(sp:Sp)(dvs:List V)(E:XK)(t:TA):TE:=fun σ H Q=>t σ H fun vs H1=>∀ x dx,H1 x=none→H1 dx=none→dx≠x→
 sp (.ref x :: (vs ++ dvs)) (upd (upd H1 dx (.own x)) x (.ins C dx [])) (fun v H2=>v=.non∧Q (.ref x) H2) E
def fX(K:Ah)(fd:A3)(ps:List Str)(ds:List Ad):Prop:=
 ∀(s:Af) (us:List Ad),K.In s.heap→(us ++ ds).length=ps.length→Gm s fd ⟨us,[]⟩ (ps.zip (us ++ ds))
theorem fX.all{K:Ah}{fd:A3}{ps:List Str}(h:∀ q:List Ad,q.length=ps.length→bindArgs fd ⟨q,[]⟩=pure (ps.zip q)):fX K fd ps []:=fun s q _ hl=>by
 rw[BM]at hl ⊢;exact .of_eq (h q hl)
def rX(CX:CXT)(X:Cx)(E:XK):Prop:=∀(iw:Ih) (σ:St) (H:Hp) (s:Af) (e:Ad) (s':Af),Inv X iw σ H s→CX X.stack H s E e s'→X.xe e s'
section
variable{X:Cx}{CX:CXT}{k:Nat}{f C:Ag}{fd:A3}{ps:List Str}{sp:Sp}{dvs:List V}{ds:List Ad}{E:XK}{x m:Str}{p pos jk:Pos}{e o:Ba}{es:List Ba}{ta:TE}{t:TA}
theorem aDf{iw:Ih}{σ:St}{H:Hp}{s:Af}{Q:VK}{q:List Ad}{vs:List V}(F:cY X.prog X.w X.K X.mg X.base CX k f fd ps sp)(M:dQ k X.A)(O:fX X.K fd ps ds)(hd:bX dvs ds)(hx:rX CX X E)
  (I:Inv X iw σ H s) (r:bX vs q) (h:sp (vs ++ dvs) H Q E):wpAny (model X.prog X.w) X.A (call (.ref f) q) (EP X iw σ Q) X.xe s:=by
 have J:bX (vs ++ dvs) (q ++ ds):=r.append hd;have hl:(q ++ ds).length=ps.length:=by rw[← J.length];exact F.len _ _ _ _ h
 refine Fk (Ea (F.run X.A X.stack s H ⟨q,[]⟩ (q ++ ds) (vs ++ dvs) Q E M I.env0 (O s q I.kIn hl) J h) fun r s' G=>?_);cases r with
 | error e=>exact hx iw σ H s e s' I G
 | ok fl=>
  cases fl with
  | ret u=>exact I.after G
  | next=>exact B7 G
  | brk=>exact B7 G
  | cont=>exact B7 G
theorem cS(F:cY X.prog X.w X.K X.mg X.base CX k f fd ps sp)(Z:dQ k X.A)(Y:Gl X x)(hm:X.mg x=some (.ref f))(O:AT X.K (.ref f)=true)(hb:fX X.K fd ps ds)(hd:bX dvs ds)(hx:rX CX X E)
  (ha:PA X (e :: es) t) (J:(x == ("__debug__":Str))=false:=by decide) (he:starEach (e :: es) X.env=(false,eval e X.env) :: starEach es X.env:=by rfl) (G:(backTo pos (starEach es X.env)).any (·.1)=false:=by rfl):
  PE X (.Call (.Name x p) (e :: es) [] pos) (aGb sp dvs E t):=by
 constructor;intro iw s σ H Q I h;refine Dc (wB I Y hm ?_ J);refine Fq (h₀:=X.base) I.ok.mod.kin O (thn (ha pos iw s σ H _ I h) fun us s1 ⟨vs,H1,M,r,q⟩=>⟨M.kIn,?_⟩) he G;exact aDf F Z hb hd hx M r q
structure Mk(K:Ah)(C f:Ag):Prop where
 makes:FZ K C=true
 init:Bv K (.ref C) "__init__"=some (some (.ref f))
 fn:Gr K (.ref f)=true
 kp:AT K (.ref C)=true
theorem aDg{iw:Ih}{σ:St}{H:Hp}{s:Af}{Q:VK}{G:List Ad}{vs:List V}(M:Mk X.K C f)(F:cY X.prog X.w X.K X.mg X.base CX k f fd ps sp)(Z:dQ (k + 1) X.A)(hb:fX X.K fd ps ds)(hd:bX dvs ds)
  (hx:rX CX X E) (I:Inv X iw σ H s) (r:bX vs G)
  (h:∀ x dx,H x=none→H dx=none→dx≠x→sp (.ref x :: (vs ++ dvs)) (upd (upd H dx (.own x)) x (.ins C dx [])) (fun v H2=>v=.non∧Q (.ref x) H2) E):
  wpAny (model X.prog X.w) X.A (call (.ref C) G) (EP X iw σ Q) X.xe s:=by
 have Y:=h (s.heap.objs.size + 1) s.heap.objs.size (I.hok.fresh (CF _)) (I.hok.fresh (Am _)) (AA (Cr _));have J:=Inv.made (C:=C) I;have O:bX (V.ref (s.heap.objs.size + 1) :: (vs ++ dvs)) (AF (s.heap.objs.size + 1) :: (G ++ ds)):=.cons rfl (r.append hd);have hl:(AF (s.heap.objs.size + 1) :: G ++ ds).length=ps.length:=by
  have e:=O.length;rw[F.len _ _ _ _ Y]at e;exact e.symm
 refine Fk (aDe (f:=f) I.kIn M.makes M.init (beq_iff_eq.mp M.fn) (Ea (F.run _ X.stack _ _ ⟨AF (s.heap.objs.size + 1) :: G,[]⟩ (AF (s.heap.objs.size + 1) :: (G ++ ds)) _ _ E (Z.make C G [])
  (J.env0.make C G []) (hb _ (AF (s.heap.objs.size + 1) :: G) J.kIn hl) O Y) fun r s' q=>?_))
 cases r with
 | error e=>exact hx iw σ _ _ e s' J q
 | ok fl=>
  cases fl with
  | ret u=>
   obtain⟨v,H',I3,rv,ev,q3⟩:=J.after q;subst ev;exact⟨rv,⟨V.ref (s.heap.objs.size + 1),H',I3,rfl,q3⟩⟩
  | next=>exact B7 q
  | brk=>exact B7 q
  | cont=>exact B7 q
theorem aFd(M:Mk X.K C f)(F:cY X.prog X.w X.K X.mg X.base CX k f fd ps sp)(Z:dQ (k + 1) X.A)(Y:Gl X x)(hm:X.mg x=some (.ref C))(hb:fX X.K fd ps ds)(hd:bX dvs ds)(hx:rX CX X E)
  (ha:PA X (e :: es) t) (J:(x == ("__debug__":Str))=false:=by decide) (he:starEach (e :: es) X.env=(false,eval e X.env) :: starEach es X.env:=by rfl) (G:(backTo pos (starEach es X.env)).any (·.1)=false:=by rfl):
  PE X (.Call (.Name x p) (e :: es) [] pos) (aHM C sp dvs E t):=by
 constructor;intro iw s σ H Q I h;refine Dc (wB I Y hm ?_ J);refine Fq (h₀:=X.base) I.ok.mod.kin M.kp (thn (ha pos iw s σ H _ I h) fun us s1 ⟨vs,H1,O,r,q⟩=>⟨O.kIn,?_⟩) he G;exact aDg M F Z hb hd hx O r q
end
structure PK(X:Cx)(js:List Fr)(t:TA):Prop where
 run:
  ∀(pos:Pos) (iw:Ih) (s:Af) (σ:St) (H:Hp) (Q:List V→Hp→Prop),Inv X iw σ H s→t σ H Q→wpAny (model X.prog X.w) X.A (evalAll ((backToKw pos (keywordEach js X.env)).map (·.2))) (AP X iw σ Q) X.xe s
instance{X:Cx}{js:List Fr}{t:TA}:CoeFun (PK X js t) (fun _=>
 ∀(pos:Pos) (iw:Ih) (s:Af) (σ:St) (H:Hp) (Q:List V→Hp→Prop),Inv X iw σ H s→t σ H Q→wpAny (model X.prog X.w) X.A (evalAll ((backToKw pos (keywordEach js X.env)).map (·.2))) (AP X iw σ Q) X.xe s):=⟨fun h=>h.run⟩
section
variable{X:Cx}{CX:CXT}{k:Nat}{f C:Ag}{fd:A3}{ps ks:List Str}{sp:Sp}{E:XK}{x m:Str}{p pos jk kpos:Pos}{e o:Ba}{es:List Ba}{js:List Fr}{te ta:TE}{t tk:TA}{nm:Option Str}
theorem aGH:PK X [] aGG:=⟨fun _ _ _ _ H Q I h=>wpAny_evalAll_nil ⟨[],H,I,.nil,h⟩⟩
theorem aFe(ha:PE X e te)(F:PK X js t):PK X (⟨nm,e,kpos⟩ :: js) (aBf te t):=by
 constructor;intro pos iw s σ H Q I h;show wpAny _ _ (evalAll ((do let v ← eval e X.env;standAt pos;pure v) :: (backToKw pos (keywordEach js X.env)).map (·.2))) _ _ s
 refine wpAny_evalAll_cons (Aa (thn (ha iw s σ H _ I h) fun u s1 ⟨x,H1,G,J,Y⟩=>Aa (Fb (Ae ?_))));exact thn (F pos iw s1 σ H1 _ G Y) fun Z s2 ⟨xs,H2,M,q,O⟩=>⟨x :: xs,H2,M,.cons J q,O⟩
structure aIJ(K:Ah)(fd:A3)(ps ks:List Str)(g:List Ad→List Ad→List Ad)(gV:List V→List V→List V):Prop where
 to:∀(s:Af) (us ws:List Ad),K.In s.heap→(g us ws).length=ps.length→Gm s fd ⟨us,ks.zip ws⟩ (ps.zip (g us ws))
 rel:∀{vs:List V} {us:List Ad} {zs:List V} {ws:List Ad},bX vs us→bX zs ws→bX (gV vs zs) (g us ws)
variable{g:List Ad→List Ad→List Ad}{gV:List V→List V→List V}
end
structure cC(N P:List Str)(sc:C1):Prop where
 kind:sc.kind=.function
 co:sc.isCoroutine=false
 gen:sc.isGenerator=false
 nd:N.Nodup
 pre:N.take P.length=P
 par:∀ x∈P,sc.names.lookup x=some .local∨sc.names.lookup x=some .cell
 nofree:∀ y∈sc.names,y.2≠.free
theorem uT{kindOf:Str→Option Ec}{x:Str}:∀{binds:List (Str×Ad)}{m:Str→Option Ad},(∀ v,(x,v) ∉ binds)→bindL kindOf binds m x=m x
 | [],_,_=>rfl
 | (n,v) :: r,m,h=>by
  unfold bindL;rw[uT fun w hw=>h w (An _ hw)];split
  ·have:x≠n:=by rintro rfl;exact h v Al
   simp[this]
  ·rfl
theorem uU{kindOf:Str→Option Ec}{x:Str}:∀{binds:List (Str×Ad)}{m:Str→Option Ad},(∀ v,(x,v) ∉ binds)→bindC kindOf binds m x=m x
 | [],_,_=>rfl
 | (n,v) :: r,m,h=>by
  unfold bindC;rw[uU fun w hw=>h w (An _ hw)];split
  ·rfl
  ·have:x≠n:=by rintro rfl;exact h v Al
   simp[this]
theorem p9{kindOf:Str→Option Ec}{x:Str}{v:Ad}:∀{P:List Str}{vs:List Ad}{i:Nat}{m:Str→Option Ad},P.Nodup→P[i]?=some x→vs[i]?=some v→kindOf x=some .local→
  bindL kindOf (P.zip vs) m x=some v
 | [],_,_,_,_,h,_,_=>by simp at h
 | _ :: _,[],_,_,_,_,h,_=>by simp at h
 | p :: P,w :: vs,0,m,nd,h1,h2,q=>by
  simp at h1 h2;subst h1;subst h2;show bindL kindOf ((p,w) :: P.zip vs) m p=_;unfold bindL;rw[uT fun v hv=>(AY.mp nd).1 (DC hv).1,Ib q];simp
 | p :: P,w :: vs,i + 1,m,nd,h1,h2,q=>by
  show bindL kindOf ((p,w) :: P.zip vs) m x=_;unfold bindL;exact p9 (i:=i) (AY.mp nd).2 (by simpa using h1) (by simpa using h2) q
theorem uV{kindOf:Str→Option Ec}{x:Str}{v:Ad}:∀{P:List Str}{vs:List Ad}{i:Nat}{m:Str→Option Ad},P.Nodup→P[i]?=some x→vs[i]?=some v→kindOf x≠some .local→
  bindC kindOf (P.zip vs) m x=some v
 | [],_,_,_,_,h,_,_=>by simp at h
 | _ :: _,[],_,_,_,_,h,_=>by simp at h
 | p :: P,w :: vs,0,m,nd,h1,h2,q=>by
  simp at h1 h2;subst h1;subst h2;show bindC kindOf ((p,w) :: P.zip vs) m p=_;unfold bindC;rw[uU fun v hv=>(AY.mp nd).1 (DC hv).1,Ia q];simp
 | p :: P,w :: vs,i + 1,m,nd,h1,h2,q=>by
  show bindC kindOf ((p,w) :: P.zip vs) m x=_;unfold bindC;exact uV (i:=i) (AY.mp nd).2 (by simpa using h1) (by simpa using h2) q
def start(N:List Str)(vs:List V):St:=vs.map some ++ Bm (N.length - vs.length) none
def aAx(CX:CXT)(P:AD)(w:AV)(K:Ah)(mg:Str→Option Ad)(base:Bi)(N:List Str)(qual:Str)(scope:C1)(f:Ag)(cd:Ad)(A:AS)(outer:List Env)(s:Af)(H:Hp)(E:XK):Cx where
 prog:=P
 w:=w
 K:=K
 mg:=mg
 base:=base
 A:=A.deeper (envOfC qual scope s.heap.objs.size f cd)
 N:=N
 s₀:=s
 H₀:=H
 env:=envOfC qual scope s.heap.objs.size f cd
 outer:=outer
 stack:=envOfC qual scope s.heap.objs.size f cd :: outer
 ex:=[]
 calm:=true
 fn:=fun _=>true
 pn:=[]
 xe:=fun e s'=>wpAny (model P w) (A.deeper (envOfC qual scope s.heap.objs.size f cd)) (leaving (envOfC qual scope s.heap.objs.size f cd) e) (fun _ s''=>CX outer H s E e s'') (fun e' s''=>CX outer H s E e' s'') s'
theorem xW{sc:C1}{n:Nat}{x:Str}(h:sc.names.lookup x=some .cell):∃ c,(cellsFrom n sc.names []).lookup x=some c:=by
 have q:=PySem.W.cellsFrom_some sc.names n [] (.inl h);exact A7.mp q
theorem aCj{CX:CXT}{P:AD}{w:AV}{K:Ah}{mg:Str→Option Ad}{base:Bi}{N ps:List Str}{qual:Str}{scope:C1}{f:Ag}{cd:Ad}{A:AS}{outer:List Env}{s s1:Af}{H:Hp}{E:XK}{Y:List Ad}{vs:List V}
  (S:cC N ps scope) (hd:A.handled=none) (F:aAw P w K mg base A outer s H) (hl:vs.length=ps.length) (r:bX vs Y)
  (x:InCallC s s.heap.objs.size (bindL (envOfC qual scope s.heap.objs.size f cd).kindOf (ps.zip Y) fun _=>none) (cellsFrom (s.heap.objs.size + 1) scope.names []) (bindC (envOfC qual scope s.heap.objs.size f cd).kindOf (ps.zip Y) fun _=>none) s1):
  Inv (aAx CX P w K mg base N qual scope f cd A outer s H E) [] (start N vs) H s1:=by
 have Z:ps.length≤N.length:=by have:=congrArg Cg S.pre;rw[AM]at this;omega
 obtain⟨h1,tk,rfl,hk⟩:=x.done;have J:∀ b:Ag,b ∉ (aAx CX P w K mg base N qual scope f cd A outer s H E).ex:=fun b z=>absurd (show b∈([]:List Ag) from z) (by simp);refine⟨⟨F.mod,S.kind,rfl,rfl,Am _,fun y z c h1 h2=>?_,fun y G=>?_,fun y c _ h=>?_,fun _=>hd,Around.frames_deeper F.frames,.inr ⟨rfl,rfl⟩,fun b z=>absurd z (J b),F.bs,F.bsz,fun b _ _=>J b,fun b z=>absurd z (J b),F.funs,F.frf⟩,
  rfl,F.bare,Un.kept hk,⟨_,x.toInCall.ns,fun i y v h1 h2 h3=>?_⟩,fun y c h=>⟨_,x.cell y c h⟩,F.hok.fresh (Am _),fun y c h=>?_,fun p M=>absurd (show p∈([]:Ih) from M) (by simp),F.hok.kept hk,?_⟩
 ·exact name_of_addr x.apart (BT h1) (BT h2)
 ·have G:scope.names.lookup y=some .cell∨scope.names.lookup y=some .free:=G;rcases G with G | G
  ·exact xW G
  ·exact absurd rfl (S.nofree _ (BT G))
 ·exact Dv (x.above y c (BT h))
 ·have hi:i < vs.length:=by
   unfold start at h2;by_cases hi:i < vs.length
   ·exact hi
   ·rw[CH (by simpa using hi)]at h2;rw[List.getElem?_replicate]at h2;split at h2 <;> cases h2
  have ha:vs[i]?=some v:=by
   unfold start at h2;rw[CO (by simpa using hi),Ao]at h2;cases e:vs[i]? with
   | none=>rw[e]at h2;cases h2
   | some a=>rw[e]at h2;cases h2;rfl
  obtain⟨u,hu,rv⟩:=r.get ha;have M:ps[i]?=some y:=by
   rw[← S.pre,List.getElem?_take_of_lt (by omega)];exact h1
  have O:ps.Nodup:=by rw[← S.pre];exact S.nd.sublist (List.take_sublist _ _)
  refine⟨u,rv,?_⟩;rcases S.par y (AK M)with k | k
  ·exact .inl ⟨k,p9 O M hu k⟩
  ·obtain⟨c,e⟩:=xW (n:=s.heap.objs.size + 1) k;refine .inr ⟨.inl k,c,e,?_⟩;have q:=x.cell y c e;rw[uV O M hu (by show scope.names.lookup y≠_;rw[k];decide)]at q;exact q
 ·exact F.hok.fresh (Dv (x.above y c (BT h)))
 ·unfold start;show _=N.length;rw[Ay,Ab,List.length_replicate];omega
theorem aGc{CX:CXT}{P:AD}{w:AV}{K:Ah}{mg:Str→Option Ad}{base:Bi}{k:Nat}{f:Ag}{name qual:Str}{G:EN}{M:List Co}{scope:C1}{dV kV aa pm F ct oc:Ad}{an od:Option Ag}
  {ae:Array (Option Ad)} {N ps:List Str} {sp:Sp} (lk:K.lookup f=some ⟨oc,od,.func (BK name qual G M scope dV kV aa pm an F ct),ae⟩) (ag:BR K F qual=true) (S:cC N ps scope)
  (len:∀ vs H Q E,sp vs H Q E→vs.length=ps.length)
  (O:∀(A:AS) (outer:List Env) (s:Af) (H:Hp) (vs:List V) (Q:VK) (E:XK),dQ k (A.deeper (envOfC qual scope s.heap.objs.size f F))→sp vs H Q E→
   ∃ t,PSs (aAx CX P w K mg base N qual scope f F A outer s H E) M t∧t { nx:=fun _ H'=>Q .non H',rt:=Q } (start N vs) H):
  cY P w K mg base CX (k + 1) f (BK name qual G M scope dV kV aa pm an F ct) ps sp:=by
 refine⟨len,fun A outer s H ak us vs Q E hr e0 hb r Z=>?_⟩;have hl:=len _ _ _ _ Z;have KX:K.In s.heap:=e0.mod.kin.keeps fun b o e=>(e0.bs b o e).1;have af:s.heap.NoLimit:=e0.mod.nolimit.keeps fun b o e=>(e0.bs b o e).1;have Y:∀ y∈ps.zip us,scope.names.lookup y.1=some .local∨(scope.names.lookup y.1=some .cell∧((cellsFrom (s.heap.objs.size + 1) scope.names []).lookup y.1).isSome=true):=fun⟨n,v⟩ hy=>by
  rcases S.par n (DC hy).1 with q | q
  ·exact .inl q
  ·exact .inr ⟨q,PySem.W.cellsFrom_some _ _ _ (.inl q)⟩
 refine codeAny_call_function hr.depth (KX _ _ lk) rfl S.co S.gen rfl (PySem.W.codeRec_of KX ag) (hb _ _ _ _ ?_);refine wpAny_newFunctionEnv_cells S.kind Y fun env he s1 x=>?_;subst he;refine⟨af.keeps x.toInCall.keep,codeAny_func ?_⟩;obtain⟨t,ht,hq⟩:=O A outer s H vs Q E (hr.deeper _) Z;have I:Inv (aAx CX P w K mg base N qual scope f F A outer s H E) [] (start N vs) H s1:=aCj S hr.hd e0 hl r x;refine Cv (ht [] s1 (start N vs) H _ I hq) (fun fl s' hs=>?_) fun e s' hs=>hs;have fin:∀{σ':St} {H':Hp} {v:V} {u:Ad},Inv (aAx CX P w K mg base N qual scope f F A outer s H E) [] σ' H' s'→cF v u→Q v H'→CE outer P w H s Q u s':=
  fun{σ' H' v u} J rv q=>⟨v,H',J.os,J.bare,J.base,J.hok,rv,q⟩
 cases fl with
 | ret u=>
  obtain⟨v,σ',H',J,rv,q⟩:=hs;exact fin J rv q
 | next=>
  obtain⟨σ',H',J,q⟩:=hs;exact fin (v:=V.non) (u:=CU) J rfl q
 | brk=>
  obtain⟨_,_,_,q⟩:=hs;exact B7 q
 | cont=>
  obtain⟨_,_,_,q⟩:=hs;exact B7 q
section
variable{X:Cx}{x:Str}{p pos:Pos}{e:Ba}{es:List Ba}{t:TA}{id T:String}{r:List V→Hp→VK→Prop}
def tCB(r:List V→Hp→VK→Prop)(t:TA):TE:=fun σ H Q=>t σ H fun vs H1=>r vs H1 Q
theorem aV(hc:eY X (.builtin id) r)(J:Gl X x)(hm:X.mg x=none)(hv:bootBuiltins x=some (.builtin id))(ha:PA X (e :: es) t)(hn:x≠"__name__":=by decide)(F:(x == ("__debug__":Str))=false:=by decide)
  (Y:starEach (e :: es) X.env=(false,eval e X.env) :: starEach es X.env:=by rfl) (q:(backTo pos (starEach es X.env)).any (·.1)=false:=by rfl):PE X (.Call (.Name x p) (e :: es) [] pos) (tCB r t):=by
 constructor;intro iw s σ H Q I h;refine Dc (rR I J hm hv ?_ hn F);exact PyProof.Rows.callWith_builtin1 (thn (ha pos iw s σ H _ I h) fun G s1 ⟨vs,H1,M,O,Z⟩=>hc iw s1 σ H1 vs G Q M O Z) Y q
theorem dD(hc:eY X (.type T) r)(J:Gl X x)(hm:X.mg x=none)(hv:bootBuiltins x=some (.type T))(ha:PA X (e :: es) t)(hn:x≠"__name__":=by decide)(F:(x == ("__debug__":Str))=false:=by decide)
  (Y:starEach (e :: es) X.env=(false,eval e X.env) :: starEach es X.env:=by rfl) (q:(backTo pos (starEach es X.env)).any (·.1)=false:=by rfl):PE X (.Call (.Name x p) (e :: es) [] pos) (tCB r t):=by
 constructor;intro iw s σ H Q I h;refine Dc (rR I J hm hv ?_ hn F);exact PyProof.Rows.callWith_type1 (thn (ha pos iw s σ H _ I h) fun G s1 ⟨vs,H1,M,O,Z⟩=>hc iw s1 σ H1 vs G Q M O Z) Y q
end
end L2
namespace HT
open PySem PyProof.Rows
theorem eqAt_int(A:AS)(s:Af)(a:Int)(t:Tok)(c:Int)(u:Tok):∃ e,Gd A s (.int a t) (.int c u) e∧(e=true↔a=c):=
 ⟨(a == c),SeqAt.EqAt.int_int a t c u,by simp⟩
section
open PySem.SeqAt
open PySem.AutoSeq1 (wpAny_loadPart')
open PySem.MeetsSeq PySem.MeetsSeq2 PySem.MeetsSeq3
end
section
variable{prog:AD}{w:AV}{A:AS}{E:Ad→Af→Prop}{s:Af}
theorem cat_tup{t b:Ag}{vs ws:List Ad}{Q:Ad→Af→Prop}(ht:E9 s.heap t vs.toArray)(q:E9 s.heap b ws.toArray)(hv:vs≠[])
  (h1:ws=[]→Q (.ref t) s) (h2:ws≠[]→Q (.ref s.heap.objs.size) { s with heap:=s.heap.push { cls:=.type "tuple",data:=.seq (vs ++ ws).toArray } })
  (hsz:vs.length + ws.length≤sizeLine):wpAny (model prog w) A (binaryOp .Add (.ref t) (.ref b)) Q E s:=by
 obtain⟨⟨cls,dd,data,sl⟩,ho,hc,n,hd⟩:=id ht;obtain⟨⟨cls2,dd2,data2,sl2⟩,ho2,hc2,n2,hd2⟩:=id q;simp only at hc hd hc2 hd2;subst hc hd hc2 hd2;have e:vs.toArray ++ ws.toArray=(vs ++ ws).toArray:=by simp
 by_cases hw:ws=[]
 ·exact Hh ⟨_,ho,rfl⟩ ⟨_,ho2,rfl⟩ Gp Hd ER EI (EC _ _)
   (tuple_addW1 t b vs.toArray ws.toArray n n2 dd dd2 sl sl2 (by simpa using hv) (by simp[hw])) ⟨ho,ho2,h1 hw⟩
 ·refine Hh ⟨_,ho,rfl⟩ ⟨_,ho2,rfl⟩ Gp Hd ER EI (EC _ _)
   (tuple_addW2 t b vs.toArray ws.toArray n n2 dd dd2 sl sl2 (by simpa using hv) (by simpa using hw) (by rw[Aq,Aq];exact hsz)) ⟨ho,ho2,?_⟩
  rw[e];exact h2 hw
def sIx(n d:Nat):Option Int→Nat
 | none=>d
 | some v=>if v < 0 then(v + (n:Int)).toNat else min v.toNat n
theorem sIx_none(n d:Nat):sIx n d none=d:=rfl
theorem sIx_nat(n d k:Nat):sIx n d (some (k:Int))=min k n:=by
 show(if (k:Int) < 0 then((k:Int) + (n:Int)).toNat else min (k:Int).toNat n)=min k n;rw[Ia (by omega),A6]
theorem aGI(n d:Nat)(hd:d≤n)(o:Option Int):sIx n d o≤n:=by
 cases o with
 | none=>exact hd
 | some v=>
  show(if v < 0 then(v + (n:Int)).toNat else min v.toNat n)≤n;by_cases hv:v < 0
  ·rw[Ib hv];omega
  ·rw[Ia hv];exact Nat.min_le_right _ _
theorem aBg(v:Int)(n d:Nat):(if v < 0 then max (v + (n:Int)) 0 else min v (n:Int))=((sIx n d (some v):Nat):Int):=by
 show(if v < 0 then max (v + (n:Int)) 0 else min v (n:Int))=(((if v < 0 then(v + (n:Int)).toNat else min v.toNat n):Nat):Int)
 by_cases hv:v < 0
 ·simp only[Ib hv];omega
 ·simp only[Ia hv];omega
theorem aAy(lo hi:Option Int)(n:Nat):Ed lo hi 1 (n:Int)=(((sIx n 0 lo:Nat):Int),((sIx n n hi:Nat):Int)):=by
 have h1:¬ ((1:Int) < 0):=by omega
 unfold Ed;simp only[h1,if_false];refine FS ?_ ?_
 ·cases lo with
  | none=>rfl
  | some v=>exact aBg v n 0
 ·cases hi with
  | none=>rfl
  | some v=>exact aBg v n n
theorem aAz(i j:Nat):C9 (i:Int) (j:Int) 1=j - i:=by
 unfold C9;have h1:(1:Int) > 0:=by omega
 simp only[h1,if_true,Int.ediv_one];split <;> omega
theorem rY{v:Ad}{o:Option Int}{Q:Option Int→Af→Prop}(p:Fs v o)(h:Q o s):wpAny (model prog w) A (Builtin.Slice.slicePartIndex v) Q E s:=by
 cases p with
 | none=>exact slicePart_none h
 | int i t=>exact slicePart_int h
theorem sliceApplied_gen{G:Ag}{q F:Ad}{lo hi:Option Int}{n:Nat}{Q:Int×Int×Nat→Af→Prop}(hs:s.heap.IsSliceOf G q F .none)(pl:Fs q lo)(J:Fs F hi)
  (h:Q (((sIx n 0 lo:Nat):Int),1,sIx n n hi - sIx n 0 lo) s):wpAny (model prog w) A (Builtin.Slice.sliceApplied (.ref G) (pure (n:Int))) Q E s:=by
 obtain⟨os,hos,hcs,hds⟩:=id hs;unfold Builtin.Slice.sliceApplied Builtin.Slice.sliceFields;refine Aa (Aa (Hn hos hds (x:=q) rfl (Aa (Hn hos hds (x:=F) rfl (Aa (Hn hos hds (x:=.none) rfl (Ae ?_)))))));refine Aa (slicePart_none ?_);show wpAny _ _ (if ((1:Int) == 0)=true then _ else _) _ _ s;rw[Ia (by decide)];refine Aa (rY pl (Aa (rY J (Aa (Ae ?_)))));show wpAny _ _ (match Ed lo hi 1 (n:Int)with | (lo,hi)=>pure (lo,(1:Int),C9 lo hi 1)) _ _ s;rw[aAy lo hi n];show wpAny _ _ (pure (((sIx n 0 lo:Nat):Int),(1:Int),C9 ((sIx n 0 lo:Nat):Int) ((sIx n n hi:Nat):Int) 1)) _ _ s;rw[aAz];exact Ae h
theorem aDh(xs:Array Ad)(i k:Nat):((AU k).filterMap fun(m:Nat)=>xs[((i:Int) + (m:Int) * 1).toNat]?).toArray=((xs.toList.drop i).take k).toArray:=by
 have e:(fun(m:Nat)=>xs[((i:Int) + (m:Int) * 1).toNat]?)=fun m=>xs[i + m]?:=by
  funext m;have:((i:Int) + (m:Int) * 1).toNat=i + m:=by omega
  rw[this]
 rw[e];have:=pick_run xs i k;rw[List.filterMap_map]at this;have q:((fun x=>xs[x]?) ∘ fun x=>i + x)=fun m=>xs[i + m]?:=rfl;rw[q]at this;rw[this]
theorem getItem_tuple_cut{t J:Ag}{items:Array Ad}{O Y:Ad}{lo hi:Option Int}{Q:Ad→Af→Prop}(ht:E9 s.heap t items)(hs:s.heap.IsSliceOf J O Y .none)(pl:Fs O lo)(Z:Fs Y hi)
  (hw:¬ (sIx items.size 0 lo=0∧sIx items.size items.size hi=items.size))
  (h:Q (.ref s.heap.objs.size) { s with heap:=s.heap.push { cls:=.type "tuple",data:=.seq ((items.toList.drop (sIx items.size 0 lo)).take (sIx items.size items.size hi - sIx items.size 0 lo)).toArray } })
  (hsz:items.size≤sizeLine):wpAny (model prog w) A (getItem (.ref t) (.ref J)) Q E s:=by
 have F:sizeOk (.seq ((items.toList.drop (sIx items.size 0 lo)).take (sIx items.size items.size hi - sIx items.size 0 lo)).toArray):=by
  show((items.toList.drop (sIx items.size 0 lo)).take (sIx items.size items.size hi - sIx items.size 0 lo)).toArray.size≤sizeLine;rw[Aq,AM,B6,Bf];omega
 have hj:sIx items.size items.size hi≤items.size:=aGI _ _ (Am _) hi;obtain⟨os,hos,hcs,hds⟩:=id hs;have M:s.TypeIs (.ref J) "slice":=⟨os,hos,hcs⟩
 unfold getItem
 try with_reducible refine Bj ?_
 first | refine Aa (Ae ?_) | skip
 refine Aa (wpAny_sequenceKey ht.typeIs (by decide) ?_);refine Aa (Cj (name:=Bn "__getitem__") ht.typeIs BU
  (Bz BU ht.typeIs entry_tuple_getitem ?_ (args_tuple_getitem _ _)))
 show wpAny _ _ (Builtin.Tuple.tupleItemsOf (.ref t) >>= _) _ _ s;refine Aa (tupleItemsOf_ ht ?_);refine Aa (Cn M ?_);rw[Ib (by decide)];refine Aa (sliceApplied_gen hs pl Z ?_);have G:¬ ((((sIx items.size 0 lo:Nat):Int) == 0 && (1:Int) == 1 && (sIx items.size items.size hi - sIx items.size 0 lo) == items.size)=true):=by
  intro q;rw[Bu,Bu]at q;have q1:((sIx items.size 0 lo:Nat):Int)=0:=eq_of_beq q.1.1;have q2:sIx items.size items.size hi - sIx items.size 0 lo=items.size:=eq_of_beq q.2;exact hw ⟨by omega,by omega⟩
 show wpAny _ _ (if (((sIx items.size 0 lo:Nat):Int) == 0 && (1:Int) == 1 && (sIx items.size items.size hi - sIx items.size 0 lo) == items.size)=true then _ else _) _ _ s;rw[Ia G,aDh]
 first
  | exact Aa (m:=De _) (BJ (Ae ⟨_,rfl,Ae h⟩) F)
  | exact Aa (m:=De _) (BJ (Aa (Ae (Ae ⟨_,rfl,Ae h⟩))) F)
  | exact Aa (Aa (m:=De _) (BJ (Ae (Ae ⟨_,rfl,Ae h⟩)) F))
  | exact Aa (Aa (m:=De _) (BJ (Ae ⟨_,rfl,Ae h⟩) F))
end
end HT
namespace L2
open PySem PySem.Spec PyProof.Rows
abbrev TO:=St→Hp→(Option Int→Hp→Prop)→Prop
structure PO(X:Cx)(e:Option Ba)(t:TO):Prop where
 run:
  ∀(iw:Ih) (s:Af) (σ:St) (H:Hp) (Q:Option Int→Hp→Prop),Inv X iw σ H s→t σ H Q→
   wpAny (model X.prog X.w) X.A (evalPart e X.env) (fun u s'=>∃ o H',Inv X iw σ H' s'∧Fs u o∧Q o H') X.xe s
instance{X:Cx}{e:Option Ba}{t:TO}:CoeFun (PO X e t) (fun _=>
 ∀(iw:Ih) (s:Af) (σ:St) (H:Hp) (Q:Option Int→Hp→Prop),Inv X iw σ H s→t σ H Q→
  wpAny (model X.prog X.w) X.A (evalPart e X.env) (fun u s'=>∃ o H',Inv X iw σ H' s'∧Fs u o∧Q o H') X.xe s):=⟨fun h=>h.run⟩
def aFf:TO:=fun _ H Q=>Q none H
def aHN(t:TE):TO:=fun σ H Q=>t σ H fun x H1=>As V.int x fun i=>Q (some i) H1
theorem aAA{ns:List Int}:∀{q:List Ad},bX (ns.map V.int) q→Gf q ns:=by
 induction ns with
 | nil=>intro q r;rw[CS]at r;cases r;exact .nil
 | cons n ns G=>
  intro q r;rw[Au]at r;cases r with
  | cons J F=>
   obtain⟨t,e⟩:=J;subst e;exact .cons n t (G F)
section
variable{X:Cx}{e:Ba}{te:TE}{lo hi:Option Ba}{tl th:TO}{pos p2:Pos}
theorem gN:PO X none aFf:=by
 constructor;intro iw s σ H Q I h;rw[evalPart_none];exact Ae ⟨none,H,I,.none,h⟩
theorem gO(h:PE X e te):PO X (some e) (aHN te):=by
 constructor;intro iw s σ H Q I hw;rw[evalPart_some];refine thn (h iw s σ H _ I hw) fun u s1 ⟨x,H1,F,J,G⟩=>?_;obtain⟨i,rfl,q⟩:=G;obtain⟨t,rfl⟩:=J;exact⟨some i,H1,F,.int i t,q⟩
def SlR(X:Cx)(r:V→Option Int→Option Int→Hp→VK→Prop):Prop:=
 ∀(iw:Ih) (s:Af) (σ:St) (H:Hp) (x:V) (v vl vu:Ad) (lo hi:Option Int) (sl:Ag) (Q:VK),Inv X iw σ H s→cF x v→s.heap.IsSliceOf sl vl vu .none→Fs vl lo→Fs vu hi→r x lo hi H Q→
  ∃ T id,typeLookup (.type T) "__getitem__"=pure (some (.builtin id))∧s.TypeIs v T∧wpAny (model X.prog X.w) X.A (getItem v (.ref sl)) (EP X iw σ Q) X.xe s
def tSl(r:V→Option Int→Option Int→Hp→VK→Prop)(te:TE)(tl th:TO):TE:=fun σ H Q=>te σ H fun x H1=>tl σ H1 fun l H2=>th σ H2 fun u H3=>r x l u H3 Q
theorem e8{r:V→Option Int→Option Int→Hp→VK→Prop}(Y:SlR X r)(he:PE X e te)(hl:PO X lo tl)(hu:PO X hi th):PE X (.Subscript e (.Slice lo hi none p2) pos) (tSl r te tl th):=by
 constructor;intro iw s σ H Q I h;refine Subscript_ (thn (he iw s σ H _ I h) fun v s1 ⟨x,H1,Z,r1,q1⟩=>?_);refine wpAny_Slice (thn (hl iw s1 σ H1 _ Z q1) fun G s2 ⟨l,H2,I2,pl,q2⟩=>thn (hu iw s2 σ H2 _ I2 q2) fun J F ⟨u,M,O,pu,q3⟩=>?_);rw[evalPart_none];refine Ae ?_;have I4:Inv X iw σ M { F with heap:=F.heap.push { cls:=.type "slice",data:=.fields #[G,J,.none] } }:=O.kept (t':=F.toks) fun b ob q=>Ai _ q;obtain⟨T,id,hT,ht,hg⟩:=Y iw { F with heap:=F.heap.push { cls:=.type "slice",data:=.fields #[G,J,.none] } } σ M x v G J l u F.heap.objs.size Q I4 r1 (Heap.IsSliceOf.new ..) pl pu q3;show wpAny (model X.prog X.w) X.A (subscriptTail e (.Slice lo hi none p2) v (.ref F.heap.objs.size)) (EP X iw σ Q) X.xe { F with heap:=F.heap.push { cls:=.type "slice",data:=.fields #[G,J,.none] } };exact tail_any (ops:=[.ref F.heap.objs.size,v]) ht hT hg (by with_unfolding_all rfl)
def jZ(xs:List V)(lo hi:Option Int):List V:=(xs.drop (HT.sIx xs.length 0 lo)).take (HT.sIx xs.length xs.length hi - HT.sIx xs.length 0 lo)
theorem qR(xs:List V)(lo hi:Option Int):(jZ xs lo hi).length≤xs.length:=by
 unfold jZ;rw[AM,B6];omega
inductive aDi(K:Ah)(x:V)(lo:Option Int)(hi:Option Int)(H:Hp)(Q:VK):Prop
 | mk (a:_) (xs:_) (q0:x=.ref a) (q1:SqT K H a xs) (q2:¬ (HT.sIx xs.length 0 lo=0∧HT.sIx xs.length xs.length hi=xs.length)) (q3:∀ p,H p=none→Q (.ref p) (upd H p (.tup (jZ xs lo hi)))):aDi K x lo hi H Q
def aIK(K:Ah):V→Option Int→Option Int→Hp→VK→Prop:=fun x lo hi H Q=>aDi K x lo hi H Q
theorem aGJ:SlR X (aIK X.K):=by
 intro iw s σ H x v M Y lo hi O Q I G hs pl J h;obtain⟨a,xs,rfl,hx,hw,q⟩:=h;cases G;obtain⟨its,r,ht,hz⟩:=I.tuple hx;have F:its.toArray.size=xs.length:=by rw[Aq];exact r.length.symm
 refine⟨"tuple",_,BU.lookup,ht.typeIs,HT.getItem_tuple_cut ht hs pl J (by rw[F];exact hw) ?_ (by rw[F];exact hz)⟩;rw[F];refine⟨.ref s.heap.objs.size,_,I.laid (t':=s.toks) (o:=.tup (jZ xs lo hi)) (fun b ob q=>Ai _ q) (Am _) ?_,rfl,q _ (I.hok.fresh (Am _))⟩;exact⟨AG (qR xs lo hi) hz,_,(r.drop (HT.sIx xs.length 0 lo)).take (HT.sIx xs.length xs.length hi - HT.sIx xs.length 0 lo),⟨_,At _ rfl,⟨rfl,_,rfl⟩,rfl⟩⟩
inductive aBh(K:Ah)(x:V)(y:V)(H:Hp)(Q:VK):Prop
 | mk (a:_) (b:_) (xs:_) (ys:_) (q0:x=.ref a) (q1:y=.ref b) (q2:SqT K H a xs) (q3:SqT K H b ys) (q4:xs≠[]) (q5:xs.length + ys.length≤sizeLine) (q6:(ys=[]→Q (.ref a) H)) (q7:(ys≠[]→∀ p,H p=none→Q (.ref p) (upd H p (.tup (xs ++ ys))))):aBh K x y H Q
def aHO(K:Ah):R2:=fun x y H Q=>aBh K x y H Q
theorem bX.nil_iff{xs:List V}{q:List Ad}(r:bX xs q):q=[]↔xs=[]:=by
 cases r with
 | nil=>simp
 | cons _ _=>simp
theorem aFg:OpR X (binaryOp .Add) (aHO X.K):=by
 intro iw s σ H x y v u Q I G F h;obtain⟨a,b,xs,ys,rfl,rfl,ha,hb,hx,hz,q1,q2⟩:=h;cases G;cases F;obtain⟨its,r1,p1,_⟩:=I.tuple ha;obtain⟨its2,r2,p2,_⟩:=I.tuple hb;refine HT.cat_tup p1 p2 (fun z=>hx (r1.nil_iff.mp z)) (fun z=>⟨.ref a,H,I,rfl,q1 (r2.nil_iff.mp z)⟩) (fun z=>?_) (by rw[← r1.length,← r2.length];exact hz);refine⟨.ref s.heap.objs.size,_,I.laid (t':=s.toks) (o:=.tup (xs ++ ys)) (fun b ob q=>Ai _ q) (Am _) ?_,rfl,q2 (fun w=>z (r2.nil_iff.mpr w)) _ (I.hok.fresh (Am _))⟩;exact⟨by rw[Ay];exact hz,_,r1.append r2,⟨_,At _ rfl,⟨rfl,_,rfl⟩,rfl⟩⟩
end
def ixN(n:Nat)(i:Int):Option Nat:=if 0≤i then(if i < n then some i.toNat else none) else if -(n:Int)≤i then some (i + n).toNat else none
def atI{α:Type}(xs:List α)(i:Int):Option α:=(ixN xs.length i).bind fun j=>xs[j]?
theorem rL{n:Nat}{i:Int}{j:Nat}(h:ixN n i=some j):seqIndex? i n=some j∧j < n∧-(n:Int)≤i∧i < n:=by
 unfold ixN at h;by_cases q:0≤i
 ·rw[Ib q]at h;by_cases h1:i < n
  ·rw[Ib h1]at h;have e:i.toNat=j:=Cc.inj h;exact⟨by rw[Ho q h1,e],by omega,by omega,h1⟩
  ·rw[Ia h1]at h;cases h
 ·rw[Ia q]at h;by_cases h1:-(n:Int)≤i
  ·rw[Ib h1]at h;have e:(i + n).toNat=j:=Cc.inj h;exact⟨by rw[seqIndex_neg (by omega) h1,e],by omega,h1,by omega⟩
  ·rw[Ia h1]at h;cases h
theorem wG{α:Type}{xs:List α}{i:Int}{v:α}(h:atI xs i=some v):∃ j,seqIndex? i xs.length=some j∧xs[j]?=some v∧j < xs.length∧-(xs.length:Int)≤i∧i < xs.length:=by
 unfold atI at h;cases e:ixN xs.length i with
 | none=>rw[e]at h;cases h
 | some j=>
  rw[e]at h;obtain⟨h1,h2,h3,h4⟩:=rL e;exact⟨j,h1,h,h2,h3,h4⟩
theorem f9{α:Type}{xs:List α}{j:Nat}{v:α}(h:xs[j]?=some v):atI xs (j:Int)=some v:=by
 have q:j < xs.length:=(Ax.mp h).1;have e:ixN xs.length (j:Int)=some j:=by
  unfold ixN;rw[Ib (by omega),Ib (by omega)];simp
 unfold atI;rw[e];exact h
theorem i0{α:Type}(xs:List α)(v:α):atI (xs ++ [v]) (-1)=some v:=by
 have hl:(xs ++ [v]).length=xs.length + 1:=by simp
 have e:ixN (xs ++ [v]).length (-1)=some xs.length:=by
  unfold ixN;rw[hl,Ia (by decide),Ib (by omega)];congr 1;omega
 unfold atI;rw[e];show(xs ++ [v])[xs.length]?=some v;simp
def aFh(b:Ba):Prop:=∀ o i,subscripted b false o i=operate [o,i] (getItem o i)
def IxR(X:Cx)(r:R2):Prop:=
 ∀(value slice:Ba) (iw:Ih) (s:Af) (σ:St) (H:Hp) (x y:V) (v u:Ad) (Q:VK),Inv X iw σ H s→cF x v→cF y u→r x y H Q→
  subscripted slice false v u=operate [v,u] (getItem v u)→wpAny (model X.prog X.w) X.A (subscriptTail value slice v u) (EP X iw σ Q) X.xe s
def MtR(X:Cx)(id:String)(r:V→List V→Hp→VK→Prop):Prop:=
 ∀(iw:Ih) (s:Af) (σ:St) (H:Hp) (x:V) (xs:List V) (v:Ad) (us:List Ad) (Q:VK),Inv X iw σ H s→cF x v→bX xs us→r x xs H Q→
  wpAny (model X.prog X.w) X.A (call (.builtin id) (v :: us)) (EP X iw σ Q) X.xe s
section
variable{X:Cx}{a b:Ba}{ta tb:TE}{pos:Pos}
theorem aR{r:R2}(J:IxR X r)(ha:PE X a ta)(F:PE X b tb)(hs:aFh b):PE X (.Subscript a b pos) (tOp r ta tb):=by
 constructor;intro iw s σ H Q I h;exact Subscript_ (aGC ha F I h fun v u s2 x y H2 O G M q=>J a b iw s2 σ H2 x y v u Q O G M q (hs _ _))
inductive aDj(K:Ah)(x:V)(y:V)(H:Hp)(Q:VK):Prop
 | mk (p:_) (xs:_) (i:_) (v:_) (q0:x=.ref p) (q1:y=.int i) (q2:SqL K H p xs) (q3:atI xs i=some v) (q4:Q v H):aDj K x y H Q
def aDk(K:Ah):R2:=fun x y H Q=>aDj K x y H Q
inductive aDl(K:Ah)(x:V)(y:V)(H:Hp)(Q:VK):Prop
 | mk (p:_) (xs:_) (i:_) (v:_) (q0:x=.ref p) (q1:y=.int i) (q2:SqT K H p xs) (q3:atI xs i=some v) (q4:Q v H):aDl K x y H Q
def lV(K:Ah):R2:=fun x y H Q=>aDl K x y H Q
inductive aDm(x:V)(y:V)(H:Hp)(Q:VK):Prop
 | mk (z:_) (i:_) (c:_) (q0:x=.str z) (q1:y=.int i) (q2:z.length≤sizeLine) (q3:atI z.cps.toList i=some c) (q4:Q (.str ⟨#[c]⟩) H):aDm x y H Q
def aIL:R2:=fun x y H Q=>aDm x y H Q
theorem bZ:IxR X (aDk X.K):=by
 intro value F iw s σ H x y v u Q I M O h hs;obtain⟨p,xs,i,z,rfl,rfl,hq,he,q⟩:=h;cases M;obtain⟨t,rfl⟩:=O;obtain⟨its,r,pl,hz⟩:=I.list hq;obtain⟨j,h1,h2,h3,h4,h5⟩:=wG he;obtain⟨w,ew,rw'⟩:=r.get h2;have hl:=r.length;have hn:=n9;have fin:EP X iw σ Q w s:=⟨z,H,I,rw',q⟩
 by_cases J:0≤i
 ·have G:i.toNat=j:=by
   rw[Ho J h5]at h1;exact Cc.inj h1
  exact item_listR pl.isList J (by omega) (by rw[G];simpa using ew) fin hs
 ·have G:(i + (its.toArray.size:Int)).toNat=j:=by
   rw[seqIndex_neg (by omega) h4]at h1;rw[Aq,← hl];exact Cc.inj h1
  exact subscriptTail_builtinR (x:=w) pl.isList.typeIs slot_list_getitem.lookup
   (wpAny_getItem_list_neg (Q:=fun r s'=>r=w∧EP X iw σ Q r s') pl.isList (by omega) (by rw[Aq] <;> omega) (by omega) (by rw[G];simpa using ew) ⟨rfl,fin⟩) hs
theorem aW:IxR X (lV X.K):=by
 intro value F iw s σ H x y v u Q I G J h hs;obtain⟨p,xs,i,z,rfl,rfl,hq,he,q⟩:=h;cases G;obtain⟨t,rfl⟩:=J;obtain⟨its,r,pl,hz⟩:=I.tuple hq;obtain⟨j,h1,h2,h3,h4,h5⟩:=wG he;obtain⟨w,ew,rw'⟩:=r.get h2;have hl:=r.length;have hn:=n9;have fin:EP X iw σ Q w s:=⟨z,H,I,rw',q⟩
 exact subscriptTail_builtinR (x:=w) pl.typeIs slot_tuple_getitem.lookup
  (getItem_tuple (j:=j) (Q:=fun r s'=>r=w∧EP X iw σ Q r s') pl (by omega) (by omega) (by rw[Aq,← hl];exact h1) (by simpa using ew) ⟨rfl,fin⟩) hs
theorem qA:IxR X aIL:=by
 intro value F iw s σ H x y v u Q I G M h hs;obtain⟨z,i,c,rfl,rfl,hz,he,q⟩:=h;obtain⟨t,rfl⟩:=G;obtain⟨t',rfl⟩:=M;obtain⟨j,h1,h2,h3,h4,h5⟩:=wG he;have hl:z.cps.toList.length=z.length:=by simp[Str.length]
 rw[hl]at h1 h4 h5;have hn:=n9;exact tail_any (GQ s z t) slot_str_getitem.lookup (getItem_str (c:=c) (by
  have J:decide (i < -(2 ^ 63:Int))=false:=decide_eq_false (by omega);have O:decide (i ≥ 2 ^ 63)=false:=decide_eq_false (by omega);rw[J,O,Bool.or_false]) (by rw[h1];simpa using h2) ⟨.str ⟨#[c]⟩,H,I.tok _,⟨_,rfl⟩,q⟩) hs
theorem aAB(its:List Ad)(n j:Nat)(u:Ad):A5 (·.setIfInBounds j u) { cls:=.type "list",data:=.seq its.toArray n }={ cls:=.type "list",data:=.seq (its.set j u).toArray n }:=by
 simp[A5]
theorem Inv.lst{iw:Ih}{σ:St}{H:Hp}{s:Af}{p:Ag}{xs:List V}(I:Inv X iw σ H s)(h:H p=some (.lst xs)):
  ∃(its:List Ad) (n:Nat),bX xs its∧s.heap.get? p=some { cls:=.type "list",data:=.seq its.toArray n }∧xs.length≤sizeLine:=by
 obtain⟨z,its,n,r,e⟩:=I.hok p _ h;exact⟨its,n,r,e,z⟩
theorem Inv.lstUpd{iw:Ih}{σ:St}{H:Hp}{s:Af}{p:Ag}{xs ys:List V}{its its':List Ad}{n F:Nat}{f:Obj→Obj}(I:Inv X iw σ H s)(h:H p=some (.lst xs))
  (ho:s.heap.get? p=some { cls:=.type "list",data:=.seq its.toArray n }) (G:f { cls:=.type "list",data:=.seq its.toArray n }={ cls:=.type "list",data:=.seq its'.toArray F }) (r:bX ys its') (hz:ys.length≤sizeLine) (t:Nat):
  Inv X iw σ (upd H p (.lst ys)) { s with heap:=s.heap.update p f,toks:=t }:=by
 have e:(s.heap.update p f).get? p=some { cls:=.type "list",data:=.seq its'.toArray F }:=by
  rw[BY f ho (by rw[G] <;> rfl),G]
 refine I.write (x:=p) (e:=p) (by rw[h];trivial) (.inl rfl) (fun b u J q=>(DZ _ _ (B4 J)).trans q) ⟨_,e⟩ ?_;exact⟨hz,its',F,r,e⟩
inductive aBi(o:V)(i:V)(v:V)(H:Hp)(Q:(Hp→Prop)):Prop
 | mk (p:_) (xs:_) (k:_) (j:_) (q0:o=.ref p) (q1:i=.int k) (q2:H p=some (.lst xs)) (q3:ixN xs.length k=some j) (q4:Q (upd H p (.lst (xs.set j v)))):aBi o i v H Q
def aHP:V→V→V→Hp→(Hp→Prop)→Prop:=fun o i v H Q=>aBi o i v H Q
theorem j0:aHB X aHP:=by
 intro iw s σ H o i v Y Z u Q I O ri M h;obtain⟨p,xs,k,j,rfl,rfl,hp,hj,q⟩:=h;cases O;obtain⟨t,rfl⟩:=ri;obtain⟨its,n,r,ho,hz⟩:=I.lst hp;obtain⟨h1,h2,h3,h4⟩:=rL hj;have hl:=r.length;have hn:=n9;have J:Inv X iw σ (upd H p (.lst (xs.set j v))) { s with heap:=s.heap.update p (A5 (·.setIfInBounds j u)) }:=
  I.lstUpd hp ho (aAB its n j u) (r.set M j) (by rw[Cz];exact hz) s.toks
 by_cases G:0≤k
 ·have F:k.toNat=j:=by
   rw[Ho G h4]at h1;exact Cc.inj h1
  exact PySem.W.ki_setAt ho G (by omega) (by rw[Aq,← hl];exact h4) (by rw[F];exact⟨_,J,q⟩)
 ·have F:(k + (its.toArray.size:Int)).toNat=j:=by
   rw[seqIndex_neg (by omega) h3]at h1;rw[Aq,← hl];exact Cc.inj h1
  exact PySem.W.ki_setBack ho (by omega) (by rw[Aq,← hl];exact h3) (by omega) (by rw[F];exact⟨_,J,q⟩)
theorem wH(lo hi:Option Int)(n:Nat):(sliceBounds lo hi none n).1=((HT.sIx n 0 lo:Nat):Int)∧(sliceBounds lo hi none n).2.1=((HT.sIx n n hi:Nat):Int)∧(sliceBounds lo hi none n).2.2=1:=by
 refine⟨?_,?_,rfl⟩
 ·cases lo with
  | none=>simp[sliceBounds,HT.sIx]
  | some i=>
   simp only[sliceBounds,HT.sIx,Option.getD_none,show(1:Int) > 0 by decide,if_true];by_cases h:i < 0
   ·simp only[h,if_true] <;> omega
   ·simp only[h,if_false] <;> omega
 ·cases hi with
  | none=>simp[sliceBounds,HT.sIx]
  | some i=>
   simp only[sliceBounds,HT.sIx,Option.getD_none,show(1:Int) > 0 by decide,if_true];by_cases h:i < 0
   ·simp only[h,if_true] <;> omega
   ·simp only[h,if_false] <;> omega
theorem uH(its:List Ad)(lo hi:Option Int):slicePick its.toArray lo hi none=((its.drop (HT.sIx its.length 0 lo)).take (HT.sIx its.length its.length hi - HT.sIx its.length 0 lo)).toArray:=by
 obtain⟨h1,h2,h3⟩:=wH lo hi its.toArray.size;unfold slicePick;rw[h1,h2,h3];simp only[sliceRange_one,pick_run,Aq] <;> rfl
inductive aDn(K:Ah)(x:V)(lo:Option Int)(hi:Option Int)(H:Hp)(Q:VK):Prop
 | mk (a:_) (xs:_) (q0:x=.ref a) (q1:SqL K H a xs) (q2:∀ p,H p=none→Q (.ref p) (upd H p (.lst (jZ xs lo hi)))):aDn K x lo hi H Q
def aIM(K:Ah):V→Option Int→Option Int→Hp→VK→Prop:=fun x lo hi H Q=>aDn K x lo hi H Q
theorem m8:SlR X (aIM X.K):=by
 intro iw s σ H x v M Y lo hi O Q I G hs pl J h;obtain⟨a,xs,rfl,hx,q⟩:=h;cases G;obtain⟨its,r,ht,hz⟩:=I.list hx;have F:=r.length;refine⟨"list",_,slot_list_getitem.lookup,ht.isList.typeIs,wpAny_getItem_list_slice ht.isList hs pl J .none (by simp) ?_ (by rw[Aq] <;> omega)⟩;rw[uH,← F];refine⟨.ref s.heap.objs.size,_,I.laid (t':=s.toks) (o:=.lst (jZ xs lo hi)) (fun b ob q=>Ai _ q) (Am _) ?_,rfl,q _ (I.hok.fresh (Am _))⟩;exact⟨AG (qR xs lo hi) hz,_,0,(r.drop (HT.sIx xs.length 0 lo)).take (HT.sIx xs.length xs.length hi - HT.sIx xs.length 0 lo),At _ rfl⟩
def i4:V→Bool
 | .non=>true
 | .bl _=>true
 | .int _=>true
 | .str _=>true
 | _=>false
def eqV:V→V→Bool
 | .non,.non=>true
 | .bl a,.bl b=>a == b
 | .bl a,.int b=>(if a then 1 else 0) == b
 | .int a,.bl b=>a == (if b then 1 else 0)
 | .int a,.int b=>a == b
 | .str a,.str b=>a == b
 | _,_=>false
theorem aAC{A:AS}{s:Af}{y x:V}{u v:Ad}(F:cF y u)(q:cF x v)(J:i4 y=true)(G:i4 x=true):Gd A s u v (eqV y x):=by
 cases y with
 | non=>
  cases F;cases x with
  | non=>cases q;exact SeqAt.EqAt.same _
  | bl b=>cases q;exact SeqAt.EqAt.none_bool b
  | int b=>obtain⟨t,rfl⟩:=q;exact SeqAt.EqAt.none_int b t
  | str b=>obtain⟨t,rfl⟩:=q;exact SeqAt.EqAt.none_str b t
  | _=>exact absurd (show false=true from G) AB
 | bl a=>
  cases F;cases x with
  | non=>cases q;exact SeqAt.EqAt.bool_none a
  | bl b=>cases q;exact SeqAt.EqAt.bool_bool a b
  | int b=>obtain⟨t,rfl⟩:=q;exact SeqAt.EqAt.bool_int a b t
  | str b=>obtain⟨t,rfl⟩:=q;exact SeqAt.EqAt.bool_str a b t
  | _=>exact absurd (show false=true from G) AB
 | int a=>
  obtain⟨t',rfl⟩:=F;cases x with
  | non=>cases q;exact SeqAt.EqAt.int_none a t'
  | bl b=>cases q;exact SeqAt.EqAt.int_bool a t' b
  | int b=>obtain⟨t,rfl⟩:=q;exact SeqAt.EqAt.int_int a t' b t
  | str b=>obtain⟨t,rfl⟩:=q;exact SeqAt.EqAt.int_str a t' b t
  | _=>exact absurd (show false=true from G) AB
 | str a=>
  obtain⟨t',rfl⟩:=F;cases x with
  | non=>cases q;exact SeqAt.EqAt.str_none a t'
  | bl b=>cases q;exact SeqAt.EqAt.str_bool a t' b
  | int b=>obtain⟨t,rfl⟩:=q;exact SeqAt.EqAt.str_int a t' b t
  | str b=>obtain⟨t,rfl⟩:=q;exact Ff a t' b t
  | _=>exact absurd (show false=true from G) AB
 | _=>exact absurd (show false=true from J) AB
def eqU(x:V)(u:Ad):Bool:=match u with
 | .none=>eqV .non x
 | .bool b=>eqV (.bl b) x
 | .int i _=>eqV (.int i) x
 | .str z _=>eqV (.str z) x
 | _=>false
theorem aDo{x y:V}{u:Ad}(r:cF y u)(f:i4 y=true):eqU x u=eqV y x:=by
 cases y with
 | non=>cases r;rfl
 | bl b=>cases r;rfl
 | int i=>obtain⟨t,rfl⟩:=r;rfl
 | str z=>obtain⟨t,rfl⟩:=r;rfl
 | _=>exact absurd (show false=true from f) AB
theorem oX{x:V}:∀{xs:List V}{q:List Ad},bX xs q→xs.all i4=true→q.any (eqU x)=xs.any fun y=>eqV y x
 | _,_,.nil,_=>rfl
 | y :: xs,u :: q,.cons r t,f=>by
  rw[Gw,Bu]at f;rw[Da,Da,aDo r f.1,oX t f.2]
theorem lW{A:AS}{s:Af}{x:V}{v:Ad}(F:cF x v)(G:i4 x=true):∀{xs:List V}{q:List Ad},bX xs q→xs.all i4=true→∀ u∈q,Gd A s u v (eqU x u)
 | _,_,.nil,_=>fun u hu=>by cases hu
 | y :: xs,u :: q,.cons r t,f=>fun J hu=>by
  rw[Gw,Bu]at f;rcases Ak.mp hu with rfl | hu
  ·rw[aDo r f.1];exact aAC r F f.1 G
  ·exact lW F G t f.2 J hu
def inV(x:V)(xs:List V):Bool:=xs.any fun y=>eqV y x
inductive aGd(K:Ah)(neg:Bool)(x:V)(y:V)(H:Hp)(Q:VK):Prop
 | mk (p:_) (xs:_) (q0:y=.ref p) (q1:(SqL K H p xs∨SqT K H p xs)) (q2:i4 x=true) (q3:xs.all i4=true) (q4:Q (.bl (if neg then !inV x xs else inV x xs)) H):aGd K neg x y H Q
def rIn(K:Ah)(neg:Bool):R2:=fun x y H Q=>aGd K neg x y H Q
theorem gJ:OpR X (compareOp .In) (rIn X.K false):=by
 intro iw s σ H x y v u Q I G J h;obtain⟨p,xs,rfl,F,fx,fs,q⟩:=h;cases J;rcases F with F | F
 ·obtain⟨its,r,pl,hz⟩:=I.list F;refine SeqAt.in_listAt (eqU x) pl.isList (fun w hw=>lW G fx r fs w (by simpa using hw)) ⟨.bl _,H,I,rfl,?_⟩;rw[show its.toArray.any (eqU x)=its.any (eqU x) by simp,oX r fs];exact q
 ·obtain⟨its,r,pl,hz⟩:=I.tuple F;refine SeqAt.in_tupleAt (eqU x) pl (fun w hw=>lW G fx r fs w (by simpa using hw)) ⟨.bl _,H,I,rfl,?_⟩;rw[show its.toArray.any (eqU x)=its.any (eqU x) by simp,oX r fs];exact q
theorem kX:OpR X (compareOp .NotIn) (rIn X.K true):=by
 intro iw s σ H x y v u Q I G J h;obtain⟨p,xs,rfl,F,fx,fs,q⟩:=h;cases J;rcases F with F | F
 ·obtain⟨its,r,pl,hz⟩:=I.list F;refine SeqAt.notIn_listAt (eqU x) pl.isList (fun w hw=>lW G fx r fs w (by simpa using hw)) ⟨.bl _,H,I,rfl,?_⟩;rw[show its.toArray.any (eqU x)=its.any (eqU x) by simp,oX r fs];exact q
 ·obtain⟨its,r,pl,hz⟩:=I.tuple F;refine SeqAt.notIn_tupleAt (eqU x) pl (fun w hw=>lW G fx r fs w (by simpa using hw)) ⟨.bl _,H,I,rfl,?_⟩;rw[show its.toArray.any (eqU x)=its.any (eqU x) by simp,oX r fs];exact q
inductive j4(K:Ah)(xs:List V)(H:Hp)(Q:VK):Prop
 | mk (p:_) (ys:_) (q0:xs=[.ref p]) (q1:(SqL K H p ys∨SqT K H p ys)) (q2:Q (.int ys.length) H):j4 K xs H Q
def lX(K:Ah):List V→Hp→VK→Prop:=fun xs H Q=>j4 K xs H Q
theorem bK:eY X (.builtin "len") (lX X.K):=by
 intro iw s σ H xs J Q I r h;obtain⟨p,ys,rfl,G,q⟩:=h;obtain⟨u,rfl,rx⟩:=fS r;cases rx;have hn:=n9;rcases G with G | G
 ·obtain⟨its,r',pl,hz⟩:=I.list G;have F:=r'.length;exact Calls.call_len_list pl.isList (by simp only[Aq] <;> omega) ⟨.int ys.length,H,I.tok _,⟨s.toks + 1,by rw[Aq,F]⟩,q⟩
 ·obtain⟨its,r',pl,hz⟩:=I.tuple G;have F:=r'.length;exact len_tuple pl (by simp only[Aq] <;> omega) ⟨.int ys.length,H,I.tok _,⟨s.toks + 1,by rw[Aq,F]⟩,q⟩
inductive j5(xs:List V)(H:Hp)(Q:VK):Prop
 | mk (z:_) (q0:xs=[.str z]) (q1:z.length≤sizeLine) (q2:Q (.int z.length) H):j5 xs H Q
def rZ:List V→Hp→VK→Prop:=fun xs H Q=>j5 xs H Q
theorem oY:eY X (.builtin "len") rZ:=by
 intro iw s σ H xs F Q I r h;obtain⟨z,rfl,hz,q⟩:=h;obtain⟨u,rfl,t,rfl⟩:=fS r;have hn:=n9;exact len_str (by omega) ⟨.int z.length,H,I.tok _,⟨_,rfl⟩,q⟩
inductive jH(K:Ah)(xs:List V)(H:Hp)(Q:VK):Prop
 | mk (p:_) (ys:_) (q0:xs=[.ref p]) (q1:((SqL K H p ys∧∀ l,H l=none→Q (.ref l) (upd H l (.tup ys)))∨(SqT K H p ys∧Q (.ref p) H))):jH K xs H Q
def rD(K:Ah):List V→Hp→VK→Prop:=fun xs H Q=>jH K xs H Q
theorem eI:eY X (.type "tuple") (rD X.K):=by
 intro iw s σ H xs M Q I r h;obtain⟨p,ys,rfl,h⟩:=h;obtain⟨u,rfl,rx⟩:=fS r;cases rx;rcases h with⟨hq,q⟩ | ⟨hq,q⟩
 ·obtain⟨its,r',pl,hz⟩:=I.list hq;have F:=r'.length;refine call_tuple_list pl.isList (fun h' kp=>?_) (by simp only[Aq] <;> omega);have G:Inv X iw σ H { s with heap:=h' }:=I.kept (t':=s.toks) kp;have J:Inv X iw σ (upd H h'.objs.size (.tup ys)) { s with heap:=h'.push { cls:=.type "tuple",data:=.seq its.toArray } }:=
   G.laid (t':=s.toks) (fun b o e=>Ai _ e) (Am _) (show cP X.prog X.w _ _ _ (.tup ys) from⟨hz,its,r',⟨_,At _ rfl,⟨rfl,_,rfl⟩,rfl⟩⟩)
  exact⟨.ref h'.objs.size,_,J,rfl,q _ (G.hok.fresh (Am _))⟩
 ·obtain⟨its,r',pl,hz⟩:=I.tuple hq;exact call_tuple_same pl ⟨.ref p,H,I,rfl,q⟩
def tyV(K:Ah)(T:String)(x:V)(H:Hp):Prop:=match x with
 | .str _=>T="str"
 | .int _=>T="int"
 | .ref p=>(T="list"∧∃ xs,SqL K H p xs)∨(T="tuple"∧∃ o,K.lookup p=some o∧o.cls=.type "tuple"∧o.dict=none)∨
   (T="dict"∧((∃ iz,H p=some (.dK iz))∨∃ iz,H p=some (.dT iz)))∨(T="set"∧∃ S n,H p=some (.set S n))∨(T="tuple"∧∃ xs,H p=some (.tup xs))
 | _=>False
theorem aDp{iw:Ih}{σ:St}{H:Hp}{s:Af}{T:String}{x:V}{v:Ad}(I:Inv X iw σ H s)(r:cF x v)(ty:tyV X.K T x H):
  s.TypeIs v T∧∀ a,v=.ref a→∃ ob,s.heap.get? a=some ob∧ob.dict=none:=by
 cases x with
 | str z=>
  obtain⟨t,rfl⟩:=r;cases(show T="str" from ty);exact⟨GQ s z t,fun _ e=>nomatch e⟩
 | int i=>
  obtain⟨t,rfl⟩:=r;cases(show T="int" from ty);exact⟨GT s i t,fun _ e=>nomatch e⟩
 | ref p=>
  cases r;rcases ty with⟨rfl,xs,hq⟩ | ⟨rfl,o,hk,hc,hd⟩ | ⟨rfl,hk⟩ | ⟨rfl,S,n,hk⟩ | ⟨rfl,xs,hq⟩
  ·obtain⟨its,_,pl,_⟩:=I.list hq;refine⟨pl.isList.typeIs,fun a e=>?_⟩;cases e;obtain⟨o,n,e,c,hd,_⟩:=pl;exact⟨o,e,hd⟩
  ·refine⟨⟨o,I.kIn p o hk,hc⟩,fun a e=>?_⟩;cases e;exact⟨o,I.kIn _ o hk,hd⟩
  ·have z:∃ o,s.heap.get? p=some o∧o.ExactDict:=by
    rcases hk with⟨iz,hk⟩ | ⟨iz,hk⟩
    ·obtain⟨_,_,_,_,o,_,_,e,ex,_⟩:=I.hok p _ hk;exact⟨o,e,ex⟩
    ·obtain⟨_,_,_,_,o,_,_,e,ex,_⟩:=I.hok p _ hk;exact⟨o,e,ex⟩
   obtain⟨o,e,ex⟩:=z;refine⟨⟨o,e,ex.1⟩,fun a q=>?_⟩;cases q;exact⟨o,e,ex.2.1⟩
  ·obtain⟨o,_,_,_,e,ex,_⟩:=I.hok p _ hk;refine⟨⟨o,e,ex.1⟩,fun a q=>?_⟩;cases q;exact⟨o,e,ex.2.1⟩
  ·obtain⟨_,_,_,o,e,⟨c,_⟩,hd⟩:=(show cP X.prog X.w H s.heap p (.tup xs) from I.hok p _ hq)
   refine⟨⟨o,e,c⟩,fun a q=>?_⟩;cases q;exact⟨o,e,hd⟩
 | _=>exact B7 ty
def aHQ(K:Ah)(T:String)(r:V→List V→Hp→VK→Prop)(to:TE):TE:=fun σ H Q=>to σ H fun x H1=>tyV K T x H1∧r x [] H1 Q
def tBM(K:Ah)(T:String)(r:V→List V→Hp→VK→Prop)(to:TE)(t:TA):TE:=fun σ H Q=>to σ H fun x H1=>tyV K T x H1∧t σ H1 fun xs H2=>r x xs H2 Q
variable{o e:Ba}{es:List Ba}{to:TE}{t:TA}{name:Str}{jk ji:Pos}{T id:String}{r:V→List V→Hp→VK→Prop}
theorem aAD(O:PlainAttrs T)(slot:Slot T name id)(G:typeOf (.builtin id)=pure (.type "method_descriptor"))(hm:MtR X id r)(ho:PE X o to)
  (F:attributeBase o name X.env (eval o X.env)=eval o X.env:=by rfl) (q:(jk.endLine == ji.line)=true:=by rfl):PE X (.Call (.Attribute o name jk) [] [] ji) (aHQ X.K T r to):=by
 constructor;intro iw s σ H Q I h;refine wpAny_Call_method0_late F q (thn (ho iw s σ H _ I h) fun v s1 ⟨x,H1,J,M,ty,Y⟩=>?_);obtain⟨h1,h2⟩:=aDp J M ty;exact⟨T,id,O,slot,G,h1,h2,DQ rfl (PySem.evalArgs_none (hm iw s1 σ H1 x [] v [] Q J M .nil Y))⟩
theorem jI(pa:PlainAttrs T)(slot:Slot T name id)(M:typeOf (.builtin id)=pure (.type "method_descriptor"))(hm:MtR X id r)(ho:PE X o to)(ha:PA X (e :: es) t)
  (G:attributeBase o name X.env (eval o X.env)=eval o X.env:=by rfl)
  (J:((backTo ji (starEach (e :: es) X.env)).all (fun x=>!x.1) && (backToKw ji (keywordEach [] X.env)).all (fun x=>x.1.isSome)
   && decide ((e :: es).length + ([]:List Fr).length + (if ([]:List Fr).isEmpty then 0 else 1) < 30))=true:=by rfl)
  (F:(jk.endLine == ji.line)=true:=by rfl) (hs:starEach (e :: es) X.env=(false,eval e X.env) :: starEach es X.env:=by rfl) (q:(backTo ji (starEach es X.env)).any (·.1)=false:=by rfl):
  PE X (.Call (.Attribute o name jk) (e :: es) [] ji) (tBM X.K T r to t):=by
 constructor;intro iw s σ H Q I h;refine wpAny_Call_method_late G J F rfl (thn (ho iw s σ H _ I h) fun v s1 ⟨x,H1,Y,Z,ty,q1⟩=>?_);obtain⟨h1,h2⟩:=aDp Y Z ty;refine⟨T,id,pa,slot,M,h1,h2,?_⟩;have O:=ha ji iw s1 σ H1 _ Y q1;rw[hs]at O ⊢;refine DQ (by show(false || (backTo ji (starEach es X.env)).any (·.1))=false;rw[q] <;> rfl) (Fg ?_)
 exact thn O fun us s2 ⟨vs,H2,I2,r2,q2⟩=>hm iw s2 σ H2 x vs v us Q I2 Z r2 q2
end
def MtM(X:Cx)(id:String)(r:V→List V→Hp→VK→Prop):Prop:=
 ∀(iw:Ih) (s:Af) (σ:St) (H:Hp) (x:V) (xs:List V) (v:Ad) (us:List Ad) (Q:VK),Inv X iw σ H s→cF x v→bX xs us→r x xs H Q→
  wpAny (model X.prog X.w) X.A (call (.builtin id) (v :: us)) (EP X iw σ Q) X.xe s
theorem bX.one:∀{x:V}{q:List Ad},bX [x] q→∃ u,q=[u]∧cF x u
 | _,_,.cons r .nil=>⟨_,rfl,r⟩
theorem bX.zero:∀{q:List Ad},bX [] q→q=[]
 | _,.nil=>rfl
theorem bX.dropLast{xs:List V}{F:List Ad}(h:bX xs F):bX xs.dropLast F.dropLast:=by
 induction h with
 | nil=>exact .nil
 | cons r t G=>
  cases t with
  | nil=>exact .nil
  | cons q J=>exact .cons r G
theorem bX.eraseIdx:∀{xs:List V}{q:List Ad} (i:Nat),bX xs q→bX (xs.eraseIdx i) (q.eraseIdx i)
 | _,_,_,.nil=>.nil
 | _,_,0,.cons _ t=>t
 | _,_,i + 1,.cons r t=>.cons r (bX.eraseIdx i t)
theorem bX.reverse{xs:List V}{q:List Ad}(h:bX xs q):bX xs.reverse q.reverse:=by
 induction h with
 | nil=>exact .nil
 | cons r t F=>rw[FT,FT];exact bX.append F (.cons r .nil)
theorem bX.rep{xs:List V}{q:List Ad}(h:bX xs q):∀ k:Nat,bX (Bm k xs).flatten (Bm k q).flatten
 | 0=>.nil
 | k + 1=>by
  rw[CB,CB,DV,DV];exact bX.append h (bX.rep h k)
theorem aAE{α:Type}(l:List α):l.eraseIdx (l.length - 1)=l.dropLast:=by
 induction l with
 | nil=>rfl
 | cons a r q=>
  cases r with
  | nil=>rfl
  | cons b r=>
   have e:(a :: b :: r).length - 1=((b :: r).length - 1) + 1:=by
    have h1:(a :: b :: r).length=r.length + 2:=rfl;have h2:(b :: r).length=r.length + 1:=rfl;omega
   rw[e,List.eraseIdx_cons_succ,q]
   all_goals rfl
theorem uW{α:Type}:∀(l:List α) (i:Nat),(l.eraseIdx i).length≤l.length
 | [],_=>Am _
 | _ :: _,0=>CF _
 | _ :: r,i + 1=>Nat.succ_le_succ (uW r i)
theorem uX(its:List Ad):∀(k:Nat) (q:List Ad),
  Go (fun G F=>G ++ F) q.toArray (Bm k its.toArray)=(q ++ (Bm k its).flatten).toArray
 | 0,q=>by simp
 | k + 1,q=>by
  have e:q.toArray ++ its.toArray=(q ++ its).toArray:=by simp
  have J:(q ++ its) ++ (Bm k its).flatten=q ++ (Bm (k + 1) its).flatten:=by
   rw[CB,DV,AX]
  rw[← J,← uX its k (q ++ its),← e,CB,BL]
section
variable{X:Cx}{iw:Ih}{σ:St}{H:Hp}{s:Af}{l b:Ag}{xs ys zs:List V}
theorem Inv.lset{its its':List Ad}{n:Nat}{f:Array Ad→Array Ad}{t':Nat}(I:Inv X iw σ H s)(F:H l=some (.lst xs))
  (e:s.heap.get? l=some { cls:=.type "list",data:=.seq its.toArray n }) (J:f its.toArray=its'.toArray) (hv:bX ys its') (hz:ys.length≤sizeLine):
  Inv X iw σ (upd H l (.lst ys)) { s with heap:=s.heap.update l (A5 f),toks:=t' }:=by
 have q:=PySem.IsL.update e f;rw[J]at q;refine I.write (x:=l) (e:=l) (by rw[F];exact trivial) (.inl rfl) (fun M u G hu=>(DZ s.heap (A5 f) (B4 G)).trans hu) ⟨_,q⟩ ?_;exact⟨hz,its',_,hv,q⟩
theorem Inv.lnew{its:List Ad}{t':Nat}(I:Inv X iw σ H s)(hv:bX ys its)(hz:ys.length≤sizeLine):
  Inv X iw σ (upd H s.heap.objs.size (.lst ys)) { s with heap:=s.heap.push { cls:=.type "list",data:=.seq its.toArray },toks:=t' }:=
 I.laid (fun _ _ q=>Ai _ q) (Am _) ⟨hz,its,0,hv,At _ rfl⟩
theorem Inv.fresh(I:Inv X iw σ H s):H s.heap.objs.size=none:=I.hok.fresh (Am _)
theorem Inv.lstM(I:Inv X iw σ H s)(q:H l=some (.lst xs)):xs.length≤sizeLine∧∃(its:List Ad) (n:Nat),bX xs its∧xs.length=its.length∧s.heap.get? l=some { cls:=.type "list",data:=.seq its.toArray n }:=by
 obtain⟨z,its,n,r,e⟩:=I.hok l _ q;exact⟨z,its,n,r,r.length,e⟩
theorem xX{n:Nat}(h:n≤sizeLine):Dg n=false:=by
 unfold Dg;exact decide_eq_false (by omega)
end
section
variable{X:Cx}
inductive uY(x:V)(vs:List V)(H:Hp)(Q:VK):Prop
 | mk (l:_) (xs:_) (y:_) (q0:x=.ref l) (q1:vs=[y]) (q2:H l=some (.lst xs)) (q3:xs.length < sizeLine) (q4:Q .non (upd H l (.lst (xs ++ [y])))):uY x vs H Q
def aFi:V→List V→Hp→VK→Prop:=fun x vs H Q=>uY x vs H Q
theorem eO:MtM X "list.append" aFi:=by
 intro iw s σ H x vs v M Q I G J h;obtain⟨l,xs,y,rfl,rfl,hH,hz,q⟩:=h;cases G;obtain⟨u,rfl,ru⟩:=J.one;obtain⟨z,its,n,r,hl,e⟩:=I.lstM hH;refine EQ F.slot_list_append ⟨_,e,rfl⟩ F.entry_list_append (F.args_list_append_2 _ _) (PySem.list_append l its.toArray n u (by rw[Aq];omega)) ⟨e,?_⟩;refine⟨.non,_,I.lset (its':=its ++ [u]) hH e (by simp) (r.append (.cons ru .nil)) ?_,rfl,q⟩;rw[Ay,CK];omega
inductive aDq(x:V)(vs:List V)(H:Hp)(Q:VK):Prop
 | mk (l:_) (xs:_) (y:_) (q0:x=.ref l) (q1:vs=[]) (q2:H l=some (.lst xs)) (q3:xs[xs.length - 1]?=some y) (q4:Q y (upd H l (.lst xs.dropLast))):aDq x vs H Q
def aIN:V→List V→Hp→VK→Prop:=fun x vs H Q=>aDq x vs H Q
theorem aDr:MtM X "list.pop" aIN:=by
 intro iw s σ H x vs v Y Q I M O h;obtain⟨l,xs,y,rfl,rfl,hH,hy,q⟩:=h;cases M;have G:=O.zero;subst G;obtain⟨z,its,n,r,hl,e⟩:=I.lstM hH;obtain⟨u,hu,ru⟩:=r.get hy;have J:its.toArray[its.toArray.size - 1]?=some u:=by
  show its.toArray[its.length - 1]?=some u;rw[← Ca,← hl];exact hu
 refine EQ F.slot_list_pop ⟨_,e,rfl⟩ F.entry_list_pop (F.args_list_pop_1 _) (MeetsSeq.list_pop_last l its.toArray n u J (by rw[Aq];omega)) ⟨e,?_⟩;refine⟨y,_,I.lset (its':=its.dropLast) hH e ?_ r.dropLast ?_,ru,q⟩
 ·show its.toArray.eraseIdxIfInBounds (its.toArray.size - 1)=its.dropLast.toArray;rw[Aq,List.eraseIdxIfInBounds_toArray,aAE]
 ·rw[CT];omega
inductive xY(x:V)(vs:List V)(H:Hp)(Q:VK):Prop
 | mk (l:_) (xs:_) (i:_) (k:_) (y:_) (q0:x=.ref l) (q1:vs=[.int i]) (q2:H l=some (.lst xs)) (q3:-(2 ^ 63)≤i) (q4:i < 2 ^ 63) (q5:seqIndex? i xs.length=some k) (q6:xs[k]?=some y) (q7:Q y (upd H l (.lst (xs.eraseIdx k)))):xY x vs H Q
def aGK:V→List V→Hp→VK→Prop:=fun x vs H Q=>xY x vs H Q
theorem xZ:MtM X "list.pop" aGK:=by
 intro iw s σ H x vs v M Q I G J h;obtain⟨l,xs,i,k,y,rfl,rfl,hH,h1,h2,hk,hy,q⟩:=h;cases G;obtain⟨u,rfl,ru⟩:=J.one;obtain⟨t,rfl⟩:=ru;obtain⟨z,its,n,r,hl,e⟩:=I.lstM hH;obtain⟨w,hw,rw'⟩:=r.get hy;refine EQ F.slot_list_pop ⟨_,e,rfl⟩ F.entry_list_pop (F.args_list_pop_2 _ _)
  (MeetsSeq.list_pop_at l its.toArray n i t k w (fitsIndex_both h1 h2) (by rw[Aq,← hl];exact hk) (by rw[← Ca];exact hw) (by rw[Aq];omega)) ⟨e,?_⟩
 refine⟨y,_,I.lset (its':=its.eraseIdx k) hH e ?_ (r.eraseIdx k) ?_,rw',q⟩
 ·show its.toArray.eraseIdxIfInBounds k=(its.eraseIdx k).toArray;rw[List.eraseIdxIfInBounds_toArray]
 ·have:=uW xs k;omega
inductive sB(x:V)(vs:List V)(H:Hp)(Q:VK):Prop
 | mk (l:_) (xs:_) (q0:x=.ref l) (q1:vs=[]) (q2:H l=some (.lst xs)) (q3:Q .non (upd H l (.lst xs.reverse))):sB x vs H Q
def aDs:V→List V→Hp→VK→Prop:=fun x vs H Q=>sB x vs H Q
theorem aAF:MtM X "list.reverse" aDs:=by
 intro iw s σ H x vs v O Q I J M h;obtain⟨l,xs,rfl,rfl,hH,q⟩:=h;cases J;have G:=M.zero;subst G;obtain⟨z,its,n,r,hl,e⟩:=I.lstM hH;refine EQ F.slot_list_reverse ⟨_,e,rfl⟩ F.entry_list_reverse (F.args_list_reverse_1 _) (AutoSeq1.list_reverse_list_0 l its.toArray n (by rw[Aq];omega)) ⟨e,?_⟩;refine⟨.non,_,I.lset (its':=its.reverse) hH e (by simp) r.reverse ?_,rfl,q⟩;rw[Fx];omega
inductive aDt(x:V)(y:V)(H:Hp)(Q:VK):Prop
 | mk (l:_) (b:_) (xs:_) (zs:_) (q0:x=.ref l) (q1:y=.ref b) (q2:H l=some (.lst xs)) (q3:H b=some (.lst zs)) (q4:xs.length + zs.length≤sizeLine) (q5:∀ p,H p=none→Q (.ref p) (upd H p (.lst (xs ++ zs)))):aDt x y H Q
def aIO:R2:=fun x y H Q=>aDt x y H Q
theorem sC:OpR X (binaryOp .Add) aIO:=by
 intro iw s σ H x y v u Q I J G h;obtain⟨l,b,xs,zs,rfl,rfl,hH,hB,hz,q⟩:=h;cases J;cases G;obtain⟨z,its,n,r,hl,e⟩:=I.lstM hH;obtain⟨z2,its2,n2,r2,hl2,e2⟩:=I.lstM hB;refine PySem.P.add_list e e2 ?_ (by rw[Aq,Aq];omega);have F:its.toArray ++ its2.toArray=(its ++ its2).toArray:=by simp
 rw[F];exact⟨.ref _,_,I.lnew (t':=s.toks) (r.append r2) (by rw[Ay];omega),rfl,q _ I.fresh⟩
inductive aDu(x:V)(y:V)(H:Hp)(Q:VK):Prop
 | mk (l:_) (k:_) (xs:_) (q0:x=.ref l) (q1:y=.int k) (q2:H l=some (.lst xs)) (q3:-(2 ^ 63)≤k) (q4:k < 2 ^ 63) (q5:xs.length * k.toNat≤sizeLine) (q6:∀ p,H p=none→Q (.ref p) (upd H p (.lst (Bm k.toNat xs).flatten))):aDu x y H Q
def aIP:R2:=fun x y H Q=>aDu x y H Q
theorem aFj{α:Type}(xs:List α)(k:Nat):(Bm k xs).flatten.length=k * xs.length:=by
 induction k with
 | zero=>simp
 | succ k q=>rw[CB,DV,Ay,q,Nat.succ_mul,Nat.add_comm]
theorem aGL:OpR X (binaryOp .Mult) aIP:=by
 intro iw s σ H x y v u Q I rx ry h;obtain⟨l,k,xs,rfl,rfl,hH,h1,h2,hz,q⟩:=h;cases rx;obtain⟨t,rfl⟩:=ry;obtain⟨z,its,n,r,hl,e⟩:=I.lstM hH;have J:its.toArray.size * k.toNat≤sizeLine:=by rw[Aq,← hl];exact hz
 have O:¬ its.toArray.size * k.toNat > (2 ^ 63 - 1) / 8:=by
  have:(sizeLine:Nat)≤(2 ^ 63 - 1) / 8:=by decide
  omega
 have M:¬ (!Builtin.List.listFitsIndex k)=true:=by
  rw[fitsIndex_both h1 h2];exact AB
 have G:¬ Dg (its.toArray.size * k.toNat)=true:=by
  rw[xX J];exact AB
 have Y:Go (fun x1 Z=>x1 ++ Z) #[] (Bm (if its.toArray.isEmpty=true then 0 else k.toNat) its.toArray)=(Bm k.toNat its).flatten.toArray:=by
  have f0:∀ m:Nat,Go (fun x1 Z=>x1 ++ Z) #[] (Bm m its.toArray)=(Bm m its).flatten.toArray:=fun m=>by
   have:=uX its m [];rw[List.nil_append]at this;exact this
  rw[f0];cases its with
  | nil=>simp
  | cons a r'=>rw[Ia (by simp)]
 refine wpAny_binaryOp_repeat_ref (T:="list") (U:="int") (by decide) ⟨_,e,rfl⟩ (fun s'=>GT s' k t) noFill_list_mul F.fills_int_mul F.slot_int_rmul repeat_list F.slot_int_index.lookup
  (EQ F.slot_int_rmul (GT s k t) F.entry_int_rmul (F.args_int_rmul_2 _ _) (int___rmul___int_list k t l its.toArray n)
   ⟨e,rfl,⟨_,e,rfl⟩,EQ F.slot_list_mul ⟨_,e,rfl⟩ F.entry_list_mul (F.args_list_mul_2 _ _) (AutoListH.list___mul___list_int_3 l its.toArray n k t M O G) ⟨e,?_⟩⟩)
 rw[Y];exact⟨.ref _,_,I.lnew (t':=s.toks) (r.rep k.toNat) (by rw[aFj,Nat.mul_comm];exact hz),rfl,q _ I.fresh⟩
end
section
variable{prog:AD}{w:AV}{A:AS}{E:Ad→Af→Prop}{s:Af}
end
section
variable{X:Cx}
end
section
variable{κ:Type}[DecidableEq κ]
def bF(iz:List (κ×V))(k:κ):Option V:=(iz.find? fun kv=>decide (kv.1=k)).map (·.2)
def bS(iz:List (κ×V))(k:κ)(v:V):List (κ×V):=
 if (iz.any fun kv=>decide (kv.1=k))=true then iz.map (fun kv=>if kv.1=k then(kv.1,v) else kv) else iz ++ [(k,v)]
def bV(iz:List (κ×V))(k:κ):List (κ×V):=iz.filter fun kv=>decide (kv.1≠k)
theorem sG{k:κ}:bF ([]:List (κ×V)) k=none:=rfl
theorem c4{p:κ×V}{r:List (κ×V)}{k:κ}(e:p.1=k):bF (p :: r) k=some p.2:=by simp[bF,DD,e]
theorem cN{p:κ×V}{r:List (κ×V)}{k:κ}(e:¬ p.1=k):bF (p :: r) k=bF r k:=by simp[bF,DD,e]
theorem dR(k:κ):∀ iz:List (κ×V),(iz.any fun q=>decide (q.1=k))=(bF iz k).isSome
 | []=>rfl
 | p :: r=>by
  rw[Da];by_cases e:p.1=k
  ·simp only[c4 e,Ic e,Bool.true_or,Option.isSome_some]
  ·rw[cN e,decide_eq_false e,Bool.false_or];exact dR k r
theorem x8(k j:κ)(y:V):∀ iz:List (κ×V),bF (iz.map fun q=>if q.1=k then(q.1,y) else q) j=(bF iz j).map fun x=>if j=k then y else x
 | []=>rfl
 | p :: r=>by
  have F:=x8 k j y r;rw[Au];by_cases h:p.1=k
  ·rw[Ib h];by_cases e:p.1=j
   ·rw[c4 (p:=(p.1,y)) e,c4 e,EY,Ib (e.symm.trans h)]
   ·rw[cN (p:=(p.1,y)) e,cN e,F]
  ·rw[Ia h];by_cases e:p.1=j
   ·rw[c4 (p:=p) e,c4 e,EY,Ia (fun z=>h (e.trans z))]
   ·rw[cN (p:=p) e,cN e,F]
theorem uZ(k j:κ)(y:V):∀ iz:List (κ×V),bF iz k=none→bF (iz ++ [(k,y)]) j=if j=k then some y else bF iz j
 | [],_=>by
  by_cases e:k=j
  ·rw[Ib e.symm];exact c4 (p:=(k,y)) e
  ·rw[Ia (fun z=>e z.symm)];exact cN (p:=(k,y)) e
 | p :: r,hn=>by
  rw[List.cons_append];have q:¬ p.1=k:=fun z=>by rw[c4 z]at hn;cases hn
  rw[cN q]at hn;have F:=uZ k j y r hn;by_cases e:p.1=j
  ·rw[c4 e,c4 e,Ia (fun z=>q (e.trans z))]
  ·rw[cN e,cN e,F]
theorem dJ(iz:List (κ×V))(k j:κ)(y:V):bF (bS iz k y) j=if j=k then some y else bF iz j:=by
 unfold bS;by_cases a:(iz.any fun F=>decide (F.1=k))=true
 ·rw[Ib a,x8];rw[dR]at a;by_cases e:j=k
  ·obtain⟨x,hx⟩:=A7.mp a;rw[Ib e,e,hx,EY,Ib rfl]
  ·rw[Ia e];cases bF iz j with
   | none=>rfl
   | some x=>rw[EY,Ia e]
 ·rw[Ia a];refine uZ k j y iz ?_;rw[dR]at a;cases q:bF iz k with
  | none=>rfl
  | some x=>rw[q]at a;exact(a rfl).elim
theorem cD(iz:List (κ×V))(k:κ)(v:V):(bS iz k v).length≤iz.length + 1:=by
 unfold bS;split
 ·rw[Ab];omega
 ·rw[Ay,AI,List.length_nil];omega
theorem i5{iz:List (κ×V)}{k:κ}(v:V)(h:bF iz k=none):bS iz k v=iz ++ [(k,v)]:=by
 unfold bS;rw[dR,h];exact Ia (by decide)
theorem lQ.isSome_eq{o:Option V}{u:Option Ad}(r:lQ o u):o.isSome=u.isSome:=by
 cases o with
 | none=>cases u with
  | none=>rfl
  | some _=>exact(show False from r).elim
 | some _=>cases u with
  | none=>exact(show False from r).elim
  | some _=>rfl
theorem lQ.getD{o:Option V}{u:Option Ad}{d:V}{d':Ad}(r:lQ o u)(rd:cF d d'):cF (o.getD d) (u.getD d'):=by
 cases o with
 | none=>cases u with
  | none=>exact rd
  | some _=>exact(show False from r).elim
 | some _=>cases u with
  | none=>exact(show False from r).elim
  | some _=>exact r
theorem KV.val{iz:List (κ×V)}{vs:List (κ×Ad)}(r:KV iz vs)(k:κ):lQ (bF iz k) (valueAt vs k):=by
 unfold KV at r
 induction r with
 | nil=>exact Cy
 | @cons p q ps F h t J=>
  obtain⟨h1,h2⟩:=h;by_cases e:p.1=k
  ·have G:q.1=k:=h1.symm.trans e;have b:valueAt (q :: F) k=some q.2:=by simp[valueAt,DD,G]
   rw[c4 e,b];exact h2
  ·have G:¬ q.1=k:=fun z=>e (h1.trans z);have b:valueAt (q :: F) k=valueAt F k:=by simp[valueAt,DD,G]
   rw[cN e,b];exact J
theorem KV.any{iz:List (κ×V)}{vs:List (κ×Ad)}(r:KV iz vs)(k:κ):(iz.any fun q=>decide (q.1=k))=vs.any fun q=>decide (q.1=k):=by
 unfold KV at r
 induction r with
 | nil=>rfl
 | cons h t F=>rw[Da,Da,F,h.1]
theorem KV.repl{iz:List (κ×V)}{vs:List (κ×Ad)}(r:KV iz vs)(k:κ){y:V}{u:Ad}(J:cF y u):
  KV (iz.map fun F=>if F.1=k then(F.1,y) else F) (vs.map fun F=>if F.1=k then(F.1,u) else F):=by
 unfold KV at r ⊢
 induction r with
 | nil=>exact .nil
 | @cons p q ps M h t G=>
  rw[Au,Au];refine .cons ?_ G;obtain⟨h1,h2⟩:=h;by_cases e:p.1=k
  ·rw[Ib e,Ib (h1.symm.trans e)];exact⟨h1,J⟩
  ·rw[Ia e,Ia (fun z=>e (h1.trans z))];exact⟨h1,h2⟩
theorem KV.put{iz:List (κ×V)}{vs:List (κ×Ad)}(r:KV iz vs)(k:κ){y:V}{u:Ad}(q:cF y u):KV (bS iz k y) (stored vs k u):=by
 unfold bS stored;rw[r.any k];by_cases e:(vs.any fun F=>decide (F.1=k))=true
 ·rw[Ib e,Ib e];exact r.repl k q
 ·rw[Ia e,Ia e];exact Paired.snoc r ⟨rfl,q⟩
theorem KV.drop{iz:List (κ×V)}{vs:List (κ×Ad)}(r:KV iz vs)(k:κ):KV (bV iz k) (without vs k):=by
 unfold KV at r ⊢;unfold bV without
 induction r with
 | nil=>exact .nil
 | @cons p q ps J h t F=>
  obtain⟨h1,h2⟩:=h;rw[BF,BF];by_cases e:p.1=k
  ·have a:¬ decide (p.1≠k)=true:=by simp[e]
   have b:¬ decide (q.1≠k)=true:=by simp[h1.symm.trans e]
   rw[Ia a,Ia b];exact F
  ·have G:¬ q.1=k:=fun z=>e (h1.trans z);have a:decide (p.1≠k)=true:=by simp[e]
   have b:decide (q.1≠k)=true:=by simp[G]
   rw[Ib a,Ib b];exact .cons ⟨h1,h2⟩ F
theorem KV.length{iz:List (κ×V)}{vs:List (κ×Ad)}(r:KV iz vs):iz.length=vs.length:=BB r
theorem oZ(iz:List (κ×V))(k:κ):(bV iz k).length≤iz.length:=BX _ _
end
theorem nS{P:AD}{w:AV}{k:Key}{u:Ad}(r:cF (kV k) u):(cM P w).is k u=true:=by
 cases k with
 | inl i=>obtain⟨t,e⟩:=(show∃ t,u=Bq i t from r);subst e;exact xN P w i t
 | inr x=>obtain⟨t,e⟩:=(show∃ t,u=BA x t from r);subst e;exact xO P w x t
theorem vA{P:AD}{w:AV}:∀{ks:List Key}{q:List Ad},bX (ks.map kV) q→ItemsAre (cM P w) ks q
 | [],_,r=>by rw[CS]at r;cases r;exact .nil
 | k :: ks,_,r=>by
  rw[Au]at r;cases r with
  | cons h t=>exact .cons (nS h) (vA t)
abbrev KT(H:Hp):List (List Key×V)→List (List Key×Ag×Ad)→Prop:=Ce fun p q=>p.1=q.1∧H q.2.1=some (.tup (p.1.map kV))∧cF p.2 q.2.2
theorem KT.val{H:Hp}{iz:List (List Key×V)}{xs:List (List Key×Ag×Ad)}(r:KT H iz xs)(k:List Key):lQ (bF iz k) ((atKey xs k).map (·.2)):=by
 induction r with
 | nil=>exact Cy
 | @cons p q ps F h t J=>
  obtain⟨h1,_,h2⟩:=h;by_cases e:p.1=k
  ·have G:q.1=k:=h1.symm.trans e;have b:atKey (q :: F) k=some q.2:=by simp[atKey,DD,G]
   rw[c4 e,b];exact h2
  ·have G:¬ q.1=k:=fun z=>e (h1.trans z);have b:atKey (q :: F) k=atKey F k:=by simp[atKey,DD,G]
   rw[cN e,b];exact J
theorem KT.repl{H:Hp}{iz:List (List Key×V)}{xs:List (List Key×Ag×Ad)}(r:KT H iz xs)(k:List Key){y:V}{u:Ad}(J:cF y u):
  KT H (iz.map fun F=>if F.1=k then(F.1,y) else F) (xs.map (putAt k u)):=by
 induction r with
 | nil=>exact .nil
 | @cons p q ps M h t G=>
  rw[Au,Au];refine .cons ?_ G;obtain⟨h1,h2,h3⟩:=h;unfold putAt;by_cases e:p.1=k
  ·rw[Ib e,Ib (h1.symm.trans e)];exact⟨h1,h2,J⟩
  ·rw[Ia e,Ia (fun z=>e (h1.trans z))];exact⟨h1,h2,h3⟩
theorem KT.put{H:Hp}{iz:List (List Key×V)}{xs:List (List Key×Ag×Ad)}(r:KT H iz xs)(k:List Key){b:Ag}{y:V}{u:Ad}(J:H b=some (.tup (k.map kV)))(F:cF y u):
  KT H (bS iz k y) (storedH xs k b u):=by
 have e:(iz.any fun G=>decide (G.1=k))=(atKey xs k).isSome:=by
  rw[dR,(r.val k).isSome_eq,FA]
 unfold bS storedH;rw[e];by_cases q:(atKey xs k).isSome=true
 ·rw[Ib q,Ib q];exact r.repl k F
 ·rw[Ia q,Ia q];exact Paired.snoc r ⟨rfl,J,F⟩
theorem KT.keeps{H H':Hp}{iz:List (List Key×V)}{xs:List (List Key×Ag×Ad)}(r:KT H iz xs)(ht:∀ b ys,H b=some (.tup ys)→H' b=some (.tup ys)):KT H' iz xs:=
 Paired.mapP r fun _ _ z=>⟨z.1,ht _ _ z.2.1,z.2.2⟩
section
variable{P:AD}{w:AV}{H:Hp}{h:Bi}{a:Ag}
theorem aGe{u:HO}(ok:HOk P w H h)(e:Rd H a u):cP P w H h a u:=e.ok ok
theorem qS{iz:List (Key×V)}(ok:HOk P w H h)(e:Rd H a (.dK iz)):iz.length≤sizeLine∧(a == sysModules)=false∧∃ vs,KV iz vs∧h.DictOf (cM P w) a vs:=
 show cP P w H h a (.dK iz) from aGe ok e
theorem aDv{iz:List (Key×V)}(ok:HOk P w H h)(e:H a=some (.dK iz)):iz.length≤sizeLine∧(a == sysModules)=false∧∃ vs,KV iz vs∧h.DictOf (cM P w) a vs:=qS ok (.inl e)
theorem qB{ks:List Key}(ok:HOk P w H h)(e:H a=some (.tup (ks.map kV))):(tupleKind (cM P w)).is h ks a:=by
 obtain⟨_,its,r,o,h1,⟨h2,n,h3⟩,_⟩:=(show cP P w H h a (.tup (ks.map kV)) from ok a _ e)
 exact⟨o,its.toArray,n,h1,h2,h3,by simpa using vA r⟩
theorem sH{iz:List (List Key×V)}(ok:HOk P w H h)(e:Rd H a (.dT iz)):iz.length≤sizeLine∧(a == sysModules)=false∧
  ∃ xs,KT H iz xs∧h.DictOfH (tupleKind (cM P w)) a xs:=by
 obtain⟨z,y,xs,r,o,es,ep,h1,h2,h3,h4,h5⟩:=(show cP P w H h a (.dT iz) from aGe ok e)
 refine⟨z,y,xs,r,o,es,ep,h1,h2,h3,h4,fun x hx=>?_,h5⟩;have all:∀{l:List (List Key×V)} {m:List (List Key×Ag×Ad)},KT H l m→∀ x∈m,(tupleKind (cM P w)).is h x.1 x.2.1:=by
  intro l m q
  induction q with
  | nil=>intro x hx;exact nomatch hx
  | @cons p q ps J F t G=>
   intro x hx;rcases Ak.mp hx with e | hx
   ·subst e;exact qB ok (by rw[← F.1];exact F.2.1)
   ·exact G x hx
 exact all r x hx
theorem aHR{iz:List (List Key×V)}(ok:HOk P w H h)(e:H a=some (.dT iz)):iz.length≤sizeLine∧(a == sysModules)=false∧
  ∃ xs,KT H iz xs∧h.DictOfH (tupleKind (cM P w)) a xs:=sH ok (.inl e)
end
def gR(H:Hp)(a:Ag)(y:V)(r:Option V):Prop:=
 (∃ iz k,Rd H a (.dK iz)∧y=kV k∧r=bF iz k)∨∃ iz k b,Rd H a (.dT iz)∧y=.ref b∧H b=some (.tup (k.map kV))∧r=bF iz k
def gP(H:Hp)(a:Ag)(y v:V)(H':Hp):Prop:=
 (∃ iz k,H a=some (.dK iz)∧y=kV k∧iz.length < sizeLine∧H'=upd H a (.dK (bS iz k v)))∨
 ∃ iz k b,H a=some (.dT iz)∧y=.ref b∧H b=some (.tup (k.map kV))∧iz.length < sizeLine∧H'=upd H a (.dT (bS iz k v))
theorem gR.k{H:Hp}{a:Ag}{iz:List (Key×V)}{k:Key}(e:H a=some (.dK iz)):gR H a (kV k) (bF iz k):=.inl ⟨iz,k,.inl e,rfl,rfl⟩
theorem gR.t{H:Hp}{a b:Ag}{iz:List (List Key×V)}{k:List Key}(e:H a=some (.dT iz))(q:H b=some (.tup (k.map kV))):gR H a (.ref b) (bF iz k):=.inr ⟨iz,k,b,.inl e,rfl,q,rfl⟩
theorem gP.k{H:Hp}{a:Ag}{iz:List (Key×V)}{k:Key}{v:V}(e:H a=some (.dK iz))(hl:iz.length < sizeLine):gP H a (kV k) v (upd H a (.dK (bS iz k v))):=.inl ⟨iz,k,e,rfl,hl,rfl⟩
theorem gP.t{H:Hp}{a b:Ag}{iz:List (List Key×V)}{k:List Key}{v:V}(e:H a=some (.dT iz))(q:H b=some (.tup (k.map kV)))(hl:iz.length < sizeLine):
  gP H a (.ref b) v (upd H a (.dT (bS iz k v))):=.inr ⟨iz,k,b,e,rfl,q,hl,rfl⟩
section
variable{X:Cx}{iw:Ih}{σ:St}{H:Hp}{s:Af}{a:Ag}{y v:V}{u r:Ad}{o:Option V}{A:AS}{E:Ad→Af→Prop}
theorem Inv.big(I:Inv X iw σ H s):sysModules < s.heap.objs.size:=by
 have h:mainGlobals < s.heap.objs.size:=(I.mod.glob.keeps I.bk).lt;exact Fe (by decide) h
theorem aCk{Q:Ad→Af→Prop}(hu:A.units + 1 < cLine)(I:Inv X iw σ H s)(g:gR H a y (some v))(F:cF y u)(h:∀ q s',Inv X iw σ H s'→cF v q→Q q s'):
  wpAny (model X.prog X.w) A (getItem (.ref a) u) Q E s:=by
 rcases g with⟨iz,k,e,ey,l⟩ | ⟨iz,k,b,e,ey,eb,l⟩
 ·subst ey;obtain⟨z,hd,vs,rel,dd⟩:=qS I.hok e;obtain⟨q,hw,rw'⟩:=lQ.some_of (v:=v) (o:=valueAt vs k) (by rw[l];exact rel.val k);exact wpAny_getItem_of (nS F) dd.mapOf hw (h q _ (I.tok _) rw')
 ·subst ey;cases(show u=AF b from F);obtain⟨z,hd,xs,rel,dd⟩:=sH I.hok e;obtain⟨q,hw,rw'⟩:=lQ.some_of (v:=v) (o:=(atKey xs k).map (·.2)) (by rw[l];exact rel.val k)
  obtain⟨p,hp,hp2⟩:=AL.mp hw;refine wpAny_getItem_heap (D5 hu) (qB I.hok eb) dd hp ?_;rw[hp2];exact h q _ (I.tok _) rw'
theorem aIQ{Q:Ad→Af→Prop}(hu:A.units + 1 < cLine)(I:Inv X iw σ H s)(g:gR H a y o)(F:cF y u)(h:∀ s',Inv X iw σ H s'→Q (.bool o.isSome) s'):
  wpAny (model X.prog X.w) A (compareOp .In u (.ref a)) Q E s:=by
 rcases g with⟨iz,k,e,ey,l⟩ | ⟨iz,k,b,e,ey,eb,l⟩
 ·subst ey;obtain⟨z,hd,vs,rel,dd⟩:=qS I.hok e;refine wpAny_in_of (nS F) hd dd.mapOf ?_;rw[← (rel.val k).isSome_eq,← l];exact h _ (I.tok _)
 ·subst ey;cases(show u=AF b from F);obtain⟨z,hd,xs,rel,dd⟩:=sH I.hok e;refine wpAny_in_heap (D5 hu) (qB I.hok eb) hd dd ?_;have q:=(rel.val k).isSome_eq;rw[FA]at q;rw[← q,← l];exact h _ (I.tok _)
theorem aFk{Q:Ad→Af→Prop}(hu:A.units + 1 < cLine)(I:Inv X iw σ H s)(g:gR H a y o)(F:cF y u)(h:∀ s',Inv X iw σ H s'→Q (.bool (!o.isSome)) s'):
  wpAny (model X.prog X.w) A (compareOp .NotIn u (.ref a)) Q E s:=by
 rcases g with⟨iz,k,e,ey,l⟩ | ⟨iz,k,b,e,ey,eb,l⟩
 ·subst ey;obtain⟨z,hd,vs,rel,dd⟩:=qS I.hok e;refine wpAny_notIn_of (nS F) hd dd.mapOf ?_;rw[← (rel.val k).isSome_eq,← l];exact h _ (I.tok _)
 ·subst ey;cases(show u=AF b from F);obtain⟨z,hd,xs,rel,dd⟩:=sH I.hok e;refine wpAny_notIn_heap (D5 hu) (qB I.hok eb) hd dd ?_;have q:=(rel.val k).isSome_eq;rw[FA]at q;rw[← q,← l];exact h _ (I.tok _)
theorem rM{h':Bi}{t':Nat}{ob:HO}(I:Inv X iw σ H s)(F:Mut (H a))(hs:Dr a s.heap h')(G:∃ q,h'.get? a=some q)(new:cP X.prog X.w (upd H a ob) h' a ob):
  Inv X iw σ (upd H a ob) { s with heap:=h',toks:=t' }:=
 I.write (x:=a) (e:=a) F (.inl rfl) (fun b q J z=>(hs.2 b J).trans z) G new
theorem wI{P:AD}{w:AV}{H':Hp}{h':Bi}{iz:List (Key×V)}{vs:List (Key×Ad)}(z:iz.length≤sizeLine)(hd:(a == sysModules)=false)(rel:KV iz vs)(q:h'.DictOf (cM P w) a vs):
  cP P w H' h' a (.dK iz):=⟨z,hd,vs,rel,q⟩
theorem aCl{H':Hp}{Q:Unit→Af→Prop}(hu:A.units + 1 < cLine)(I:Inv X iw σ H s)(g:gP H a y v H')(M:cF y u)(J:cF v r)(h:∀ s',Inv X iw σ H' s'→Q () s'):
  wpAny (model X.prog X.w) A (setItem (.ref a) u r) Q E s:=by
 rcases g with⟨iz,k,e,ey,l,eH⟩ | ⟨iz,k,b,e,ey,eb,l,eH⟩
 ·subst ey eH;obtain⟨z,hd,vs,rel,dd⟩:=aDv I.hok e;have hz:vs.length≤sizeLine:=by rw[← rel.length];exact z
  have hl:(bS iz k v).length≤sizeLine:=by have:=cD iz k v;omega
  refine wpAny_setItem_pairs (hsz:=hz) (nS M) dd fun h' F hs=>h _ ?_;have O:∃ q,h'.get? a=some q:=let ⟨q,_,_,hq,_⟩:=F;⟨q,hq⟩
  exact rM I (by rw[e];exact Cy) hs O (wI hl hd (rel.put k J) F)
 ·subst ey eH;cases(show u=AF b from M);obtain⟨z,hd,xs,rel,dd⟩:=aHR I.hok e;have hz:xs.length≤sizeLine:=by rw[← BB rel];exact z
  have hl:(bS iz k v).length≤sizeLine:=by have:=cD iz k v;omega
  refine wpAny_setItem_heap (hsz:=hz) (D5 hu) (qB I.hok eb) dd fun h' F hs=>h _ ?_;obtain⟨q,es,ep,hq,h2,h3,h4,_,h5⟩:=F;refine rM I (by rw[e];exact Cy) hs ⟨q,hq⟩ ⟨hl,hd,_,(rel.put k eb J).keeps fun c ys G=>?_,q,es,ep,hq,h2,h3,h4,h5⟩;rw[aF (bT G e (fun z=>nomatch z))];exact G
end
section
variable{X:Cx}{iw:Ih}{σ:St}{H:Hp}{s:Af}{a:Ag}{iz:List (Key×V)}{k:Key}{u:Ad}{A:AS}{E:Ad→Af→Prop}
theorem aHS{v:V}{more:List Ad}{Q:Ad→Af→Prop}(I:Inv X iw σ H s)(e:H a=some (.dK iz))(M:cF (kV k) u)(l:bF iz k=some v)(hm:more=[]∨∃ x,more=[x])
  (h:∀ J s',Inv X iw σ (upd H a (.dK (bV iz k))) s'→cF v J→Q J s'):wpAny (model X.prog X.w) A (call (.builtin "dict.pop") (.ref a :: u :: more)) Q E s:=by
 obtain⟨z,hd,vs,rel,dd⟩:=aDv I.hok e;obtain⟨J,hw,rw'⟩:=lQ.some_of (v:=v) (o:=valueAt vs k) (by rw[← l];exact rel.val k);have O:(keyPart u).isSome=true:=by
  cases k with
  | inl i=>obtain⟨t,q⟩:=(show∃ t,u=Bq i t from M);subst q;rfl
  | inr x=>obtain⟨t,q⟩:=(show∃ t,u=BA x t from M);subst q;rfl
 have ha:argsOk "dict.pop" ⟨.ref a :: u :: more,[]⟩:=by
  rcases hm with q | ⟨x,q⟩
  ·subst q;exact PySem.F.args_dict_pop_2 _ _
  ·subst q;exact PySem.F.args_dict_pop_3 _ _ _
 refine Hj PySem.F.slot_dict_pop dd.typeIs PySem.F.entry_dict_pop ha (meets_dict_pop_there (cM X.prog X.w) a (nS M) more hm O)
  ⟨vs,J,dd,by rw[← rel.length];exact z,hw,fun h' G hs=>h J _ ?_ rw'⟩
 have Y:∃ q,h'.get? a=some q:=let ⟨q,_,_,hq,_⟩:=G;⟨q,hq⟩
 exact rM I (by rw[e];exact Cy) hs Y (wI (AG (oZ iz k) z) hd (rel.drop k) G)
theorem aHT{Q:Ad→Af→Prop}(I:Inv X iw σ H s)(e:Rd H a (.dK iz))(h:∀ t s',Inv X iw σ H s'→Q (.int iz.length t) s'):wpAny (model X.prog X.w) A (call (.builtin "len") [.ref a]) Q E s:=by
 obtain⟨z,hd,vs,rel,dd⟩:=qS I.hok e;refine call_len_dict hd dd (by rw[← rel.length];rw[Er]at z;omega) ?_;rw[← rel.length];exact h _ _ (I.tok _)
end
def aGM(i:Ba):Prop:=∀ ov iv,subscripted i false ov iv=operate [ov,iv] (getItem ov iv)
theorem aBj{prog:AD}{w:AV}{A:AS}{E:Ad→Af→Prop}{s:Af}{env:Env}{value q:Ba}{pos:Pos}{T id:String}{Q:Ad→Af→Prop}
  (hl:typeLookup (.type T) "__getitem__"=pure (some (.builtin id))) (hs:aGM q)
  (h:wpAny (model prog w) A (eval value env) (fun o M=>wpAny (model prog w) A (eval q env) (fun i F=>F.TypeIs o T∧wpAny (model prog w) A (getItem o i) Q E F) E M) E s):
  wpAny (model prog w) A (eval (.Subscript value q pos) env) Q E s:=by
 refine Subscript_ (Cv h (fun o M Y=>Cv Y (fun i F G=>?_) fun _ _ x=>x) fun _ _ x=>x);obtain⟨hT,G⟩:=G;unfold subscriptTail;refine Aa ?_;rw[getitemInPython_of_ne hT.not_modules];refine Aa (Gx hT hl ?_);have fin:wpAny (model prog w) A (subscripted q false o i) (fun r J=>wpAny (model prog w) A (letTemporaryGo value o r >>= fun _=>pure r) Q E J) E F:=by
  rw[hs o i];exact wpAny_operating (Cv G (fun r J O=>Aa (wpAny_letTemporaryGo (Ae O))) fun _ _ x=>x)
 first
  | exact Ae (Aa fin)
  | exact Aa (Ae (Aa fin))
  | exact Aa fin
theorem x9{X:Cx}{iw:Ih}{σ:St}{H:Hp}{s:Af}{a:Ag}{y:V}{o:Option V}(I:Inv X iw σ H s)(g:gR H a y o):s.TypeIs (.ref a) "dict":=by
 rcases g with⟨iz,k,e,_,_⟩ | ⟨iz,k,b,e,_,_,_⟩
 ·obtain⟨_,_,vs,_,dd⟩:=qS I.hok e;exact dd.typeIs
 ·obtain⟨_,_,xs,_,dd⟩:=sH I.hok e;exact dd.typeIs
def aHU(td ty:TE):TE:=fun σ H Q=>td σ H fun x H1=>ty σ H1 fun y H2=>∃ a v,x=.ref a∧gR H2 a y (some v)∧Q v H2
def aIR(ty td:TE):TE:=fun σ H Q=>ty σ H fun y H1=>td σ H1 fun x H2=>∃ a o,x=.ref a∧gR H2 a y o∧Q (.bl o.isSome) H2
def aFl(ty td:TE):TE:=fun σ H Q=>ty σ H fun y H1=>td σ H1 fun x H2=>∃ a o,x=.ref a∧gR H2 a y o∧Q (.bl (!o.isSome)) H2
def aHV(td ty tv:TE):TS:=fun D σ H=>tv σ H fun v H1=>td σ H1 fun x H2=>ty σ H2 fun y H3=>∃ a H4,x=.ref a∧gP H3 a y v H4∧D.nx σ H4
section
variable{X:Cx}{o i e value:Ba}{pos jq tpos:Pos}{td ty tv:TE}
theorem bG(hu:X.A.units + 1 < cLine)(ho:PE X o td)(hi:PE X i ty)(hs:aGM i):PE X (.Subscript o i pos) (aHU td ty):=by
 constructor;intro iw s σ H Q I h;refine aBj PySem.F.slot_dict_getitem.lookup hs (thn (ho iw s σ H _ I h) fun u s1 ⟨x,H1,Y,M,q1⟩=>thn (hi iw s1 σ H1 _ Y q1) fun iv s2 ⟨y,H2,G,O,a,v,ex,g,Z⟩=>?_);subst ex;obtain rfl:u=AF a:=M;exact⟨x9 G g,aCk hu G g O fun w' s3 J q=>⟨v,H2,J,q,Z⟩⟩
theorem lY(hu:X.A.units + 1 < cLine)(hi:PE X i ty)(ho:PE X o td):PC X .In i o (aIR ty td):=by
 constructor;intro iw s σ H Q I h;refine thn (hi iw s σ H _ I h) fun iv s1 ⟨y,H1,M,J,Z⟩=>thn (ho iw s1 σ H1 _ M Z) fun u s2 ⟨x,H2,O,G,a,q,ex,g,Y⟩=>?_;subst ex;obtain rfl:u=AF a:=G;exact aIQ hu O g J fun s3 F=>⟨.bl q.isSome,H2,F,rfl,Y⟩
theorem iT(hu:X.A.units + 1 < cLine)(hi:PE X i ty)(ho:PE X o td):PC X .NotIn i o (aFl ty td):=by
 constructor;intro iw s σ H Q I h;refine thn (hi iw s σ H _ I h) fun iv s1 ⟨y,H1,M,J,Z⟩=>thn (ho iw s1 σ H1 _ M Z) fun u s2 ⟨x,H2,O,G,a,q,ex,g,Y⟩=>?_;subst ex;obtain rfl:u=AF a:=G;exact aFk hu O g J fun s3 F=>⟨.bl (!q.isSome),H2,F,rfl,Y⟩
theorem c8(hu:X.A.units + 1 < cLine)(ho:PE X o td)(hi:PE X i ty)(hv:PE X value tv)(hs:swapsWith value (some (.Subscript o i jq)) pos.line X.env=pure false):
  PS X (.Assign [.Subscript o i jq] value pos) (aHV td ty tv):=by
 constructor;intro iw s σ H D I h;refine wpAny_Assign_Subscript (thn (hv iw s σ H _ I h) fun r s1 ⟨v,H1,M,G,q1⟩=>thn (ho iw s1 σ H1 _ M q1) fun u s2 ⟨x,H2,O,F,q2⟩=>thn (hi iw s2 σ H2 _ O q2) fun iv s3 ⟨y,H3,q,J,a,Y,ex,g,q3⟩=>?_) hs;subst ex;obtain rfl:u=AF a:=F;exact aCl hu q g J G fun s4 Z=>⟨σ,Y,Z,q3⟩
end
theorem yA{P:AD}{w:AV}{H:Hp}(h:Bi)(q:sysModules < h.objs.size):cP P w H (h.push { cls:=.type "dict",data:=.dict #[] }) h.objs.size (.dK []):=
 ⟨Bc _,beq_eq_false_iff_ne.mpr (B4 (AA q)),[],.nil,Heap.DictOf.new h⟩
theorem aDw{P:AD}{w:AV}{H:Hp}(h:Bi)(q:sysModules < h.objs.size):cP P w H (h.push { cls:=.type "dict",data:=.dict #[] }) h.objs.size (.dT []):=
 ⟨Bc _,beq_eq_false_iff_ne.mpr (B4 (AA q)),[],.nil,_,#[],0,At _ rfl,⟨rfl,rfl,rfl⟩,rfl,rfl,DU⟩
def aGN:TE:=fun _ H Q=>∀ p,H p=none→Q (.ref p) (upd H p (.dK []))
def aGO:TE:=fun _ H Q=>∀ p,H p=none→Q (.ref p) (upd H p (.dT []))
section
variable{X:Cx}{pos:Pos}
theorem j6:PE X (.Dict [] [] pos) aGN:=⟨fun iw s σ H Q I h=>
 wpAny_Dict_empty ⟨.ref s.heap.objs.size,_,I.laid (a:=s.heap.objs.size) (o:=.dK []) (t':=s.toks) (fun _ _ q=>Ai _ q) (Am _) (yA s.heap I.big),rfl,h _ (I.hok.fresh (Am _))⟩⟩
theorem aDx:PE X (.Dict [] [] pos) aGO:=⟨fun iw s σ H Q I h=>
 wpAny_Dict_empty ⟨.ref s.heap.objs.size,_,I.laid (a:=s.heap.objs.size) (o:=.dT []) (t':=s.toks) (fun _ _ q=>Ai _ q) (Am _) (aDw s.heap I.big),rfl,h _ (I.hok.fresh (Am _))⟩⟩
end
def aAG:List (TE×TE)→St→Hp→(List (V×V)→Hp→Prop)→Prop
 | [],_,H,Q=>Q [] H
 | (tk,tv) :: r,σ,H,Q=>tk σ H fun x H1=>tv σ H1 fun y H2=>aAG r σ H2 fun ps H3=>Q ((x,y) :: ps) H3
abbrev VV:List (V×V)→List (Ad×Ad)→Prop:=Ce fun p q=>cF p.1 q.1∧cF p.2 q.2
def PPs(X:Cx)(pos:Pos)(keys:List (Option Ba))(values:List Ba)(trs:List (TE×TE)):Prop:=
 ∀(iw:Ih) (s:Af) (σ:St) (H:Hp) (Q:List (V×V)→Hp→Prop),Inv X iw σ H s→aAG trs σ H Q→
  wpAny (model X.prog X.w) X.A (evalPairs (pairTrees keys values X.env pos)) (fun vs s'=>∃ ps H',Inv X iw σ H' s'∧VV ps vs∧Q ps H') X.xe s
theorem wJ{X:Cx}{pos:Pos}:PPs X pos [] [] []:=fun iw s σ H Q I h=>pairTrees_nil_walk ⟨[],H,I,.nil,h⟩
theorem d7{X:Cx}{pos:Pos}{k v:Ba}{ks:List (Option Ba)}{vs:List Ba}{tk tv:TE}{q:List (TE×TE)}(G:PE X k tk)(hv:PE X v tv)(M:PPs X pos ks vs q):
  PPs X pos (some k :: ks) (v :: vs) ((tk,tv) :: q):=fun iw s σ H Q I h=>
 pairTrees_cons_walk (thn (G iw s σ H _ I h) fun u s1 ⟨x,H1,Y,J,q1⟩=>thn (hv iw s1 σ H1 _ Y q1) fun w2 s2 ⟨y,H2,I2,O,q2⟩=>
  thn (M iw s2 σ H2 _ I2 q2) fun ws s3 ⟨ps,Z,F,rel,q3⟩=>⟨(x,y) :: ps,Z,F,.cons ⟨J,O⟩ rel,q3⟩)
def c5(iz more:List (Key×V)):List (Key×V):=more.foldl (fun acc kv=>bS acc kv.1 kv.2) iz
theorem KV.merge:∀{more:List (Key×V)}{rs:List (Key×Ad)}{iz:List (Key×V)}{vs:List (Key×Ad)},KV more rs→KV iz vs→KV (c5 iz more) (merged vs rs):=by
 intro more rs iz vs r;unfold KV at r
 induction r generalizing iz vs with
 | nil=>intro q;exact q
 | @cons p q ps J h t F=>
  intro G;have e:KV (bS iz p.1 p.2) (stored vs q.1 q.2):=by
   have:=G.put p.1 h.2;rw[← h.1];exact this
  exact F e
theorem nU:∀(more iz:List (Key×V)),(c5 iz more).length≤iz.length + more.length
 | [],iz=>by show iz.length≤iz.length + 0;omega
 | p :: r,iz=>by
  have h1:=nU r (bS iz p.1 p.2);have h2:=cD iz p.1 p.2;show(c5 (bS iz p.1 p.2) r).length≤_;rw[AI];omega
theorem sI{P:AD}{w:AV}:∀{iz:List (Key×V)}{ws:List (Ad×Ad)},VV (iz.map fun F=>(kV F.1,F.2)) ws→∃ rs,Carries (cM P w) ws rs∧KV iz rs
 | [],_,r=>by rw[CS]at r;cases r;exact⟨[],Cy,.nil⟩
 | p :: iz,_,r=>by
  rw[Au]at r;cases r with
  | @cons a b as bs h t=>
   obtain⟨rs,c,q⟩:=sI (P:=P) (w:=w) t;obtain⟨b1,b2⟩:=b;exact⟨(p.1,b2) :: rs,⟨nS h.1,rfl,c⟩,.cons ⟨rfl,h.2⟩ q⟩
def aHW(trs:List (TE×TE)):TE:=fun σ H Q=>∀ p,H p=none→aAG trs σ (upd H p (.dK [])) fun ps H2=>H2 p=some (.dK [])∧∃ iz:List (Key×V),ps=iz.map (fun kv=>(kV kv.1,kv.2))∧iz.length≤15∧Q (.ref p) (upd H2 p (.dK (c5 [] iz)))
theorem wK{X:Cx}{pos:Pos}{keys:List (Option Ba)}{F:List Ba}{M:List (TE×TE)}(h:PPs X pos keys F M)(G:keys.all (·.isSome)=true)(hl:keys.length=F.length)(Z:keys≠[])
  (O:keys.length≤15):PE X (.Dict keys F pos) (aHW M):=by
 constructor;intro iw s σ H Q I q;have hn:=I.hok.fresh (Am s.heap.objs.size);have I1:=I.laid (a:=s.heap.objs.size) (o:=.dK []) (h':=s.heap.push { cls:=.type "dict",data:=.dict #[] }) (t':=s.toks) (fun _ _ q=>Ai _ q) (Am _) (yA s.heap I.big);refine wpAny_Dict_walk (knd:=cM X.prog X.w) G hl Z O (thn (h iw _ σ _ _ I1 (q _ hn)) fun ws s2 ⟨ps,H2,Y,rel,e,iz,ep,lk,q2⟩=>?_);subst ep;obtain⟨rs,c,rk⟩:=sI (P:=X.prog) (w:=X.w) rel;obtain⟨z,hd,vs0,r0,dd⟩:=aDv Y.hok e;cases r0;refine⟨rs,c,dd,fun h' J hs=>⟨.ref s.heap.objs.size,_,?_,rfl,q2⟩⟩;have hz:(c5 [] iz).length≤sizeLine:=by
  have h1:=nU iz [];rw[List.length_nil]at h1;rw[Er];omega
 have he:∃ q,h'.get? s.heap.objs.size=some q:=let ⟨q,_,_,hq,_⟩:=J;⟨q,hq⟩
 exact rM Y (by rw[e];exact Cy) hs he (wI hz hd (rk.merge .nil) J)
structure M1(X:Cx)(o:Ba)(m:Str)(jk:Pos)(e:Ba)(ji:Pos):Prop where
 base:attributeBase o m X.env (eval o X.env)=eval o X.env
 few:((backTo ji (starEach [e] X.env)).all (fun x=>!x.1) && (backToKw ji (keywordEach [] X.env)).all (fun x=>x.1.isSome)
  && decide (([e]:List Ba).length + ([]:List Fr).length + (if ([]:List Fr).isEmpty then 0 else 1) < 30))=true
 line:(jk.endLine == ji.line)=true
 trees:backTo ji (starEach [e] X.env)=[(false,eval e X.env)]
structure M2(X:Cx)(o:Ba)(m:Str)(jk:Pos)(e f:Ba)(ji:Pos):Prop where
 base:attributeBase o m X.env (eval o X.env)=eval o X.env
 few:((backTo ji (starEach [e,f] X.env)).all (fun x=>!x.1) && (backToKw ji (keywordEach [] X.env)).all (fun x=>x.1.isSome)
  && decide (([e,f]:List Ba).length + ([]:List Fr).length + (if ([]:List Fr).isEmpty then 0 else 1) < 30))=true
 line:(jk.endLine == ji.line)=true
 trees:backTo ji (starEach [e,f] X.env)=[(false,eval e X.env),(false,eval f X.env)]
def IsD(H:Hp)(a:Ag):Prop:=(∃ iz,Rd H a (.dK iz))∨∃ iz,Rd H a (.dT iz)
theorem aDy{X:Cx}{iw:Ih}{σ:St}{H:Hp}{s:Af}{a:Ag}(I:Inv X iw σ H s)(d:IsD H a):
  s.TypeIs (.ref a) "dict"∧(∀ b,AF a=.ref b→∃ ob,s.heap.get? b=some ob∧ob.dict=none)∧(a == sysModules)=false:=by
 rcases d with⟨iz,e⟩ | ⟨iz,e⟩
 ·obtain⟨_,hd,vs,_,dd⟩:=qS I.hok e;refine⟨dd.typeIs,fun b q=>?_,hd⟩;cases q;obtain⟨ob,_,_,h1,h2,_⟩:=dd;exact⟨ob,h1,h2.2.1⟩
 ·obtain⟨_,hd,xs,_,dd⟩:=sH I.hok e;refine⟨dd.typeIs,fun b q=>?_,hd⟩;cases q;obtain⟨ob,_,_,h1,h2,_⟩:=dd;exact⟨ob,h1,h2.2.1⟩
section
variable{X:Cx}{iw:Ih}{σ:St}{H:Hp}{s:Af}{a:Ag}{y d:V}{u r:Ad}{o:Option V}{A:AS}{E:Ad→Af→Prop}
theorem aGP{Q:Ad→Af→Prop}(hu:A.units + 1 < cLine)(I:Inv X iw σ H s)(g:gR H a y o)(G:cF y u)(rd:cF d r)(h:∀ q s',Inv X iw σ H s'→cF (o.getD d) q→Q q s'):
  wpAny (model X.prog X.w) A (call (.builtin "dict.get") [.ref a,u,r]) Q E s:=by
 rcases g with⟨iz,k,e,ey,l⟩ | ⟨iz,k,b,e,ey,eb,l⟩
 ·subst ey;obtain⟨z,hd,vs,rel,dd⟩:=qS I.hok e;refine Hj EW dd.typeIs PySem.F.entry_dict_get (PySem.F.args_dict_get_3 _ _ _) (meets_dict_get_default (cM X.prog X.w) a (nS G) hd r) ⟨_,dd.mapOf,h _ _ (I.tok _) ?_⟩;rw[l];exact(rel.val k).getD rd
 ·subst ey;cases(show u=AF b from G);obtain⟨z,hd,xs,rel,dd⟩:=sH I.hok e;refine Hj EW dd.typeIs PySem.F.entry_dict_get (PySem.F.args_dict_get_3 _ _ _) (meetsH_dict_get_default (tupleKind (cM X.prog X.w)) a b hd r) ⟨D5 hu,k,xs,qB I.hok eb,dd,h _ _ (I.tok _) ?_⟩;rw[l];exact(rel.val k).getD rd
end
def aGQ(td ty tx:TE):TE:=fun σ H Q=>td σ H fun x H1=>∃ a,x=.ref a∧IsD H1 a∧ty σ H1 fun y H2=>tx σ H2 fun z H3=>∃ o,gR H3 a y o∧Q (o.getD z) H3
def aGR(td ty:TE):TE:=fun σ H Q=>td σ H fun x H1=>∃ a,x=.ref a∧IsD H1 a∧ty σ H1 fun y H2=>∃ iz k v,H2 a=some (.dK iz)∧y=kV k∧bF iz k=some v∧Q v (upd H2 a (.dK (bV iz k)))
section
variable{X:Cx}{o e f:Ba}{jk ji:Pos}{td ty tx:TE}
theorem aDz(hu:X.A.units + 1 < cLine)(ho:PE X o td)(he:PE X e ty)(Z:PE X f tx)(m:M2 X o "get" jk e f ji):PE X (.Call (.Attribute o "get" jk) [e,f] [] ji) (aGQ td ty tx):=by
 constructor;intro iw s σ H Q I h;refine wpAny_Call_method m.base m.few m.line PySem.F.plainAttrs_dict EW PySem.F.type_dict_get (thn (ho iw s σ H _ I h) fun u s1 ⟨x,H1,G,O,a,ex,d,q1⟩=>?_);subst ex;obtain rfl:u=AF a:=O;obtain⟨t1,t2,_⟩:=aDy G d;refine⟨t1,t2,?_⟩;rw[m.trees];refine DQ rfl (Fg (Eu (thn (he iw s1 σ H1 _ G q1) fun iv s2 ⟨y,H2,I2,Y,q2⟩=>
  Eu (thn (Z iw s2 σ H2 _ I2 q2) fun fv s3 ⟨z,H3,J,M,ov,g,q3⟩=>FQ ?_))))
 exact aGP hu J g Y M fun w' s4 I4 q=>⟨_,H3,I4,q,q3⟩
theorem j7(ho:PE X o td)(he:PE X e ty)(m:M1 X o "pop" jk e ji):PE X (.Call (.Attribute o "pop" jk) [e] [] ji) (aGR td ty):=by
 constructor;intro iw s σ H Q I h;refine wpAny_Call_method m.base m.few m.line PySem.F.plainAttrs_dict PySem.F.slot_dict_pop PySem.F.type_dict_pop (thn (ho iw s σ H _ I h) fun u s1 ⟨x,H1,G,M,a,ex,d,q1⟩=>?_);subst ex;obtain rfl:u=AF a:=M;obtain⟨t1,t2,_⟩:=aDy G d;refine⟨t1,t2,?_⟩;rw[m.trees];refine DQ rfl (Fg (Eu (thn (he iw s1 σ H1 _ G q1) fun iv s2 ⟨y,H2,Z,Y,iz,k,v,O,ey,l,q2⟩=>FQ ?_)));subst ey;exact aHS Z O Y l (.inl rfl) fun w' s3 J q=>⟨v,_,J,q,q2⟩
end
section
variable{X:Cx}{iw:Ih}{σ:St}{H:Hp}{s:Af}{a:Ag}{iz:List (Key×V)}{A:AS}{E:Ad→Af→Prop}
end
section
variable{X:Cx}{iw:Ih}{σ:St}{H:Hp}{s:Af}{a:Ag}{y:V}{u:Ad}{A:AS}{E:Ad→Af→Prop}
end
end L2
namespace Att
open PySem PySem.W PySem.Calls PyProof.Rows
theorem rE{P:Params}{h:Bi}:∀(ns:List Int) (vs:List Ad),WellAll P h vs (ns.map WData.int)→Gf vs ns:=by
 intro ns
 induction ns with
 | nil=>
  intro vs w;rw[CS]at w;cases w;exact .nil
 | cons n ns q=>
  intro vs w;rw[Au]at w;cases w with
  | cons a b=>
   cases a;exact .cons _ _ (q _ b)
theorem aCm{l:OpenLaw}{n:Nat}(hn:l.most=some n){P:Params}{h:Bi}{args:List WData}{G:List Ad}
  (F:l.row.toRowW.claim.pre args=true) (aa:WellAll P h G args):
  ∃ a vs ns,G=[AF a]∧args=[WData.list (ns.map WData.int)]∧h.get? a=some { cls:=.type "list",data:=.seq vs.toArray }∧Gf vs ns∧ns.length≤n:=by
 have Z:WShape.hasAll [] args [.list .int]=true:=(pre_splitW F).1;have hc:l.pre.holds [] { args:=args }=true:=(pre_splitW F).2;obtain⟨d,r,rfl,h1,h2⟩:=hasAllW_cons Z;obtain rfl:=hasAllW_nil h2;obtain⟨xs,rfl,h3⟩:=hasW_list h1;obtain⟨ns,rfl⟩:=items_int h3;have J:ns.length≤n:=by
  unfold OpenLaw.pre at hc;have Y:(WTm.not (.lt (.lit (.int (n:Int))) (.len (.arg 0)))).holds [] { args:=[.list (ns.map .int)] }=true:=by
   have Y:=(holds_andW hc).1;rw[hn]at Y;exact Y
  have O:=condW_of Y (w_not (w_lt w_lit (w_len_list (w_arg rfl))));rw[Ab]at O;refine Nat.le_of_not_lt fun q=>?_;have q':(n:Int) < ((ns.length:Nat):Int):=by omega
  first
   | (rw[Ic q']at O;exact absurd O (by decide))
   | (simp at O;omega)
 cases aa with
 | cons w1 w2=>
  cases w2;cases w1 with
  | list ho M=>exact⟨_,_,ns,rfl,rfl,ho,rE ns _ M,J⟩
theorem aCn(l:OpenLaw)(args:List WData):l.row.toRowW.claim.post args (.bool true) args=true:=
 postW_of (r:=l.row.toRowW) (X:=(true == true))
  (show WShape.has [] (.bool true) .bool=true by first | rfl | decide | simp[WShape.has,WShape.arms,WShape.armsAll])
  (show(WTm.eq .res (.lit (.bool true))).value [] { args:=args,res:=some (.bool true),after:=args }=some (.bool (true == true)) from w_eq_bool (w_res rfl) w_lit) rfl
theorem attach_call{l:OpenLaw}{n:Nat}{q:AD}{J:List Str}{XP:(Str→Option Ad)→Bi→Prop}{YP:AV→Bi→Prop}{d:DefRec}
  (hn:l.most=some n) (aa:d.params.defaults=[])
  (call:∀(w:AV) (s₀ F:Af) (mg mb:Str→Option Ad) (O:Ag) (o:Obj) (pm cd M:Ad) (a:Ag) (vs:List Ad) (ns:List Int),
   Ground q J [] XP w s₀ mg mb F.heap→YP w F.heap→
   F.heap.get? O=some o→o.data=.func (docDef d.name d.params d.body d.scope pm cd M)→F.heap.CodeRec cd d.name→mg d.name=some (.ref O)→
   F.heap.get? a=some { cls:=.type "list",data:=.seq vs.toArray }→Gf vs ns→ns.length≤n→F.gens=#[]→
   codeAny (model l.prog w) callerA (.call (.ref O) ⟨[.ref a],[]⟩) (fun r s'=>r=.ok (.ret (.bool true))∧OldK F.heap s'.heap∧s'.os=F.os∧EL s'.gens) F):
  WalkO q J XP YP l.row.toRowW d [] (fun f vs=>He f vs):=by
 intro w s₀ F mg mb G Y O o pm cd M dV kV ho hd ad hD ab hg ai ak as Z ag ap ae ao;obtain rfl:dV=.none:=Dflts.none hD aa;obtain rfl:kV=.none:=Dflts.noKw hD;obtain⟨a,vs,ns,rfl,rfl,hobj,hints,hlen⟩:=aCm hn Z ae;refine enter_call (Ea (call w s₀ F mg mb O o pm cd M a vs ns G Y ho (fd_plain hd) ad ab hobj hints hlen hg) fun r s' hq=>?_);obtain⟨rfl,h2,h3,h4⟩:=hq;exact⟨.inl ⟨.bool true,.bool true,[],rfl,fun _=>rfl,.bool true,aCn l _,fun _=>⟨List.Pairwise.nil,fun _ hm=>(nomatch hm)⟩⟩,h2,h3,h4⟩
section
variable{prog:AD}{w:AV}{A:AS}{E:Ad→Af→Prop}{s:Af}{K:Frag}
end
end Att
namespace L2
open PySem PySem.Spec PyProof.Rows
theorem vB:∀{vs:List Ad}{ns:List Int},Gf vs ns→bX (ns.map V.int) vs
 | _,_,.nil=>.nil
 | _,_,.cons n t h=>.cons ⟨t,rfl⟩ (vB h)
def aJd(H:Hp):Prop:=∀ b,H b=none∨∃ o xs,H b=some (.frz o (.lst xs))
abbrev KOf{K:Ah}{h:Bi}(_:K.In h):Ah:=K
def aFm(s:Co)(j:Nat):Co:=match s with
 | .ClassDef _ _ _ body _ _ _ _ _ _ _=>body.getD j (.Pass ⟨0,0,0,0⟩)
 | _=>.Pass ⟨0,0,0,0⟩
def dW(s:Co):EN:=match s with
 | .FunctionDef _ a _ _ _ _ _ _ _ _=>a
 | _=>{ posonlyargs:=[],args:=[],vararg:=none,kwonlyargs:=[],kw_defaults:=[],kwarg:=none,defaults:=[] }
def dM(s:Co):List Co:=match s with
 | .FunctionDef _ _ b _ _ _ _ _ _ _=>b
 | _=>[]
def aO(s:Co):C1:=match s with
 | .FunctionDef _ _ _ _ _ _ sc _ _ _=>sc
 | _=>{ kind:=.function,names:=[],isGenerator:=false,isCoroutine:=false }
abbrev CX0:CXT:=fun _ _ _ _ _ _=>False
abbrev E0:XK:=fun _ _ _=>False
theorem dX{X:Cx}:rX CX0 X E0:=fun _ _ _ _ _ _ _ h=>h.elim
structure Fun(K:Ah)(x qual:Str)(st:Co)(f:Ag)(fd:A3):Prop where
 ex:∃(oc:Ad) (od:Option Ag) (kV doc pm:Ad) (an:Option Ag) (cdv ct:Ad) (osl:Array (Option Ad)),
  fd=BK x qual (dW st) (dM st) (aO st) .none kV doc pm an cdv ct∧K.lookup f=some ⟨oc,od,.func fd,osl⟩∧BR K cdv qual=true
 kp:AT K (.ref f)=true
section
variable{P:AD}{w:AV}{K:Ah}{mg:Str→Option Ad}{base:Bi}
theorem Fun.ok{x qual:Str}{st:Co}{f:Ag}{fd:A3}{N ps:List Str}{k:Nat}{sp:Sp}(F:Fun K x qual st f fd)(S:cC N ps (aO st))(len:∀ vs H Q E,sp vs H Q E→vs.length=ps.length)
  (J:∀(G:Ad) (A:AS) (outer:List Env) (s:Af) (H:Hp) (vs:List V) (Q:VK) (E:XK),dQ k (A.deeper (envOfC qual (aO st) s.heap.objs.size f G))→sp vs H Q E→
   ∃ t,PSs (aAx CX0 P w K mg base N qual (aO st) f G A outer s H E).nox (dM st) t∧t { nx:=fun _ H'=>Q .non H',rt:=Q } (start N vs) H):cY P w K mg base CX0 (k + 1) f fd ps sp:=by
 obtain⟨oc,od,kV,doc,pm,an,G,ct,osl,rfl,lk,hcd⟩:=F.ex;refine aGc lk hcd S len fun A outer s H vs Q E O M=>?_;obtain⟨t,h,q⟩:=J G A outer s H vs Q E O M;exact⟨t,h.nox,q⟩
theorem Fun.binds{x qual:Str}{st:Co}{f:Ag}{fd:A3}{ps:List Str}(F:Fun K x qual st f fd)
  (h:∀(kV G J:Ad) (O:Option Ag) (q ct:Ad) (M:List Ad),M.length=ps.length→bindArgs (BK x qual (dW st) (dM st) (aO st) .none kV G J O q ct) ⟨M,[]⟩=pure (ps.zip M)):fX K fd ps []:=by
 obtain⟨oc,od,kV,G,J,O,q,ct,osl,rfl,lk,hcd⟩:=F.ex;exact .all (h kV G J O q ct)
theorem i6{x qual:Str}{st:Co}{f:Ag}{O:Ad}{od M:Option Ag}{G:Array (Option Ad)}{kV F J q ct:Ad}(l:K.lookup f=some ⟨O,od,.func (BK x qual (dW st) (dM st) (aO st) .none kV F J M q ct),G⟩)
  (c:BR K q qual=true) (k:AT K (.ref f)=true):Fun K x qual st f (BK x qual (dW st) (dM st) (aO st) .none kV F J M q ct):=⟨⟨O,od,kV,F,J,M,q,ct,G,rfl,l,c⟩,k⟩
end
theorem d8{A:AS}{k:Nat}(q:dQ k A):A.units + 1 < cLine:=BS (Nat.add_le_add_left (by decide:1≤64) _) q.units
theorem cU{n:Nat}(h:n≤1000):n < sizeLine:=BS h (by decide)
section
variable{X:Cx}
theorem pv(i:Nat){x:Str}{pos:Pos}(hN:X.N[i]?=some x:=by rfl)(hv:Vis X.env.scope x:=by first | exact Av rfl | exact DK (Av rfl) | exact DK (DK rfl))(hd:(x == ("__debug__":Str))=false:=by decide)
  (q:(x == ("__classdict__":Str))=false:=by decide):PE X (.Name x pos) (aHx i):=aGx hN hv hd q
end
theorem dU{A B:Prop}(h:B):if false=true then A else B:=by
 rw[Ia AB];exact h
theorem fU{A B:Prop}(h:A):if true=true then A else B:=by
 rw[Ib rfl];exact h
theorem cT{c A B:Prop}[Decidable c](h1:c→A)(h2:¬ c→B):if c then A else B:=by
 by_cases h:c
 ·rw[Ib h];exact h1 h
 ·rw[Ia h];exact h2 h
def cA(H H':Hp):Prop:=∀ b o,H b=some o→H' b=some o
theorem cA.refl(H:Hp):cA H H:=fun _ _ h=>h
theorem cA.trans{H H1 H2:Hp}(a:cA H H1)(b:cA H1 H2):cA H H2:=fun c o h=>b c o (a c o h)
theorem cA.free{H H':Hp}(e:cA H H'){l:Ag}(h:H' l=Option.none):H l=Option.none:=by
 cases q:H l with
 | none=>rfl
 | some o=>
  rw[e l o q]at h;cases h
theorem cA.seq{K:Ah}{H H':Hp}{a:Ag}{xs:List V}(e:cA H H')(h:SqL K H a xs):SqL K H' a xs:=by
 rcases h with(h | ⟨o,h⟩) | h
 ·exact .inl (.inl (e _ _ h))
 ·exact .inl (.inr ⟨o,e _ _ h⟩)
 ·exact .inr h
section
variable{X:Cx}
inductive nV(xs:List V)(H:Hp)(Q:VK):Prop
 | mk (a:_) (iz:_) (q0:xs=[V.ref a]) (q1:H a=some (.dK iz)) (q2:Q (.int iz.length) H):nV xs H Q
def yB:List V→Hp→VK→Prop:=fun xs H Q=>nV xs H Q
theorem aCo:eY X (.builtin "len") yB:=by
 intro iw s σ H xs G Q I r h;obtain⟨a,iz,rfl,ha,q⟩:=h;obtain⟨u,rfl,ru⟩:=fS r;cases ru;exact aHT I (.inl ha) fun t s' F=>⟨.int iz.length,H,F,⟨t,rfl⟩,q⟩
end
section
variable{κ:Type}[DecidableEq κ]
theorem aDA{iz:List (κ×V)}{k:κ}(h:bF iz k=none):¬ k∈iz.map (·.1):=by
 intro m;obtain⟨p,hp,e⟩:=AQ.mp m;have q:(iz.any fun F=>decide (F.1=k))=true:=BG.mpr ⟨p,hp,Ic e⟩;rw[dR,h]at q;exact absurd q (by simp)
theorem aFn{iz:List (κ×V)}{k:κ}{v:V}(h:bF iz k=some v):k∈iz.map (·.1):=by
 have q:(iz.any fun F=>decide (F.1=k))=true:=by
  rw[dR,h]
  all_goals rfl
 obtain⟨p,hp,e⟩:=BG.mp q;exact AQ.mpr ⟨p,hp,Ie e⟩
theorem aBk:∀{l:List κ}{k:κ},l.Nodup→¬ k∈l→(l ++ [k]).Nodup
 | [],k,_,_=>by simp
 | a :: r,k,h,F=>by
  obtain⟨h1,h2⟩:=AY.mp h;show(a :: (r ++ [k])).Nodup;refine AY.mpr ⟨fun m=>?_,aBk h2 fun m=>F (Ak.mpr (DK m))⟩;rcases AO.mp m with q | q
  ·exact h1 q
  ·exact F (Ak.mpr (Av (AE.mp q).symm))
theorem aFp{iz:List (κ×V)}{k:κ}(v:V)(hn:(iz.map (·.1)).Nodup)(h:bF iz k=none):((bS iz k v).map (·.1)).Nodup:=by
 rw[i5 v h,Aw];exact aBk hn (aDA h)
theorem iU{p:κ×V}{r:List (κ×V)}{k:κ}(e:p.1=k):bV (p :: r) k=bV r k:=by
 unfold bV;rw[BF,Ia (by simp[e])]
theorem iV{p:κ×V}{r:List (κ×V)}{k:κ}(e:¬ p.1=k):bV (p :: r) k=p :: bV r k:=by
 unfold bV;rw[BF,Ib (by simp[e])]
theorem vC{iz:List (κ×V)}{k:κ}{p:κ×V}(h:p∈bV iz k):p∈iz:=(BD.mp h).1
theorem iD:∀{iz:List (κ×V)}{k:κ},(iz.map (·.1)).Nodup→((bV iz k).map (·.1)).Nodup
 | [],_,_=>DU
 | p :: r,k,h=>by
  have h:(p.1 :: r.map (·.1)).Nodup:=h
  obtain⟨h1,h2⟩:=AY.mp h;by_cases e:p.1=k
  ·rw[iU e];exact iD h2
  ·rw[iV e];show(p.1 :: (bV r k).map (·.1)).Nodup
   refine AY.mpr ⟨fun m=>h1 ?_,iD h2⟩;obtain⟨q,hq,eq⟩:=AQ.mp m;exact AQ.mpr ⟨q,vC hq,eq⟩
end
section
variable{X:Cx}{iw:Ih}{σ:St}{H:Hp}{s:Af}
theorem Inv.track{D:Ag}{ob:HO}(I:Inv X iw σ H s)(J:lP X iw H D)(new:cP X.prog X.w (upd H D ob) s.heap D ob):Inv X iw σ (upd H D ob) s:=by
 obtain⟨hn,hL,hfs,hex,hce,hpi⟩:=J;have F:∀ b u,H b=some u→b≠D:=fun b u e=>aJ e hn;refine I.step (g':=s.gens) (t':=s.toks) (d':=s.drawn) (h':=s.heap) (H':=upd H D ob) (ch:=[D]) (fun b G=>?_) (fun b o _ _ _ e _=>e) (fun b o _ _ _ e _=>⟨o.slots,e⟩) (fun b o hc e n=>?_)
  (fun b o _ e=>⟨o,e⟩) (fun b xs e=>by rw[aF (F b _ e)];exact e) (fun b o u e=>by rw[aF (F b _ e)];exact e) (fun b ps e=>⟨#[],by rw[aF (F b _ e),e];simp⟩) (fun m hm=>hm) (fun b u e=>?_) I.bare
 ·have e:b=D:=by simpa using G
  subst e;exact⟨hex,hL,hce,hpi⟩
 ·rw[aF (fun z=>hc (by simp[z]))];exact n
 ·by_cases G:b=D
  ·subst G;rw[aA]at e;cases e;exact new
  ·rw[aF G]at e;exact(I.hok b u e).stay (fun c v _ q=>q) (fun c q=>by rw[aF (F c _ q)];exact q) fun c xs q=>by rw[aF (F c _ q)];exact q
end
def iO(env:Env):List (Str×Ec)→List (Str×Ag)→List (Str×Ag)
 | [],cs=>cs
 | (n,k) :: r,cs=>iO env r (if k=.free then(match env.cells.lookup n with | some c=>(n,c) :: cs | none=>cs) else cs)
theorem sJ{α β:Type}(f:α→β→Sem (ForInStep β))(g:α→β→β):∀(l:List α) (b:β),(∀ y∈l,∀ b,f y b=pure (.yield (g y b)))→(forIn l b f:Sem β)=pure (l.foldl (fun b y=>g y b) b)
 | [],b,_=>rfl
 | a :: r,b,h=>by
  rw[C8,h a Al b];exact sJ f g r (g a b) fun y q=>h y (An _ q)
def vD(env:Env)(y:Str×Ec)(cs:List (Str×Ag)):List (Str×Ag):=if y.2=.free then(match env.cells.lookup y.1 with | some c=>(y.1,c) :: cs | none=>cs) else cs
theorem sK(env:Env):∀(l:List (Str×Ec)) (q:List (Str×Ag)),l.foldl (fun b y=>vD env y b) q=iO env l q
 | [],q=>rfl
 | (n,k) :: r,q=>by
  rw[BL,sK env r];rfl
theorem o0{scope:C1}{env:Env}(h:∀ y∈scope.names,y.2=.free→∃ c,env.cells.lookup y.1=some c):closureFor scope env=pure (iO env scope.names []):=by
 simp only[closureFor];rw[sJ _ (vD env) scope.names [] (fun y G b=>?_)]
 ·rw[sK];rfl
 ·obtain⟨n,k⟩:=y;by_cases q:k=.free
  ·obtain⟨c,hc⟩:=h (n,k) G q;subst q;have e:cellOf env n=pure c:=by unfold cellOf;rw[hc]
   have F:vD env (n,Bh) b=(n,c) :: b:=by unfold vD;rw[Ib rfl,hc]
   simp only[e,F];rfl
  ·have e:(k == Bh)=false:=by simpa using q
   have F:vD env (n,k) b=b:=by unfold vD;rw[Ia q]
   simp only[e,F,Cd,if_false]
theorem qC{env:Env}:∀(l:List (Str×Ec)) (q:List (Str×Ag)),(∀ x c,q.lookup x=some c→env.cells.lookup x=some c)→∀ x c,(iO env l q).lookup x=some c→env.cells.lookup x=some c
 | [],q,h,x,c,e=>h x c e
 | (n,k) :: r,q,h,x,c,e=>by
  unfold iO at e;refine qC r _ (fun x c e=>?_) x c e;by_cases F:k=.free
  ·rw[Ib F]at e;cases hc:env.cells.lookup n with
   | none=>rw[hc]at e;exact h x c e
   | some d=>
    rw[hc]at e;by_cases hx:x=n
    ·subst hx;simp at e;rw[← e];exact hc
    ·have:(x == n)=false:=by simpa using hx
     rw[BE,this]at e;exact h x c e
  ·rw[Ia F]at e;exact h x c e
theorem qE{env:Env}:∀(l:List (Str×Ec)) (q:List (Str×Ag)) (x:Str),(∀ y∈l,y.2=.free→∃ c,env.cells.lookup y.1=some c)→((∃ c,q.lookup x=some c)∨(x,Bh)∈l)→∃ c,(iO env l q).lookup x=some c
 | [],q,x,_,h=>by
  rcases h with h | h
  ·exact h
  ·simp at h
 | (n,k) :: r,q,x,hc,h=>by
  unfold iO;refine qE r _ x (fun y G=>hc y (An _ G)) ?_;rcases h with⟨c,h⟩ | h
  ·refine .inl ?_;split
   ·split
    ·rename_i d _;by_cases hx:x=n
     ·subst hx;exact⟨d,by simp⟩
     ·have:(x == n)=false:=by simpa using hx
      exact⟨c,by rw[BE,this];exact h⟩
    ·exact⟨c,h⟩
   ·exact⟨c,h⟩
  ·rcases Ak.mp h with h | h
   ·cases h;obtain⟨d,hd⟩:=hc (n,Bh) Al rfl;refine .inl ⟨d,?_⟩;rw[Ib rfl];have F:env.cells.lookup n=some d:=hd;rw[F];simp
   ·exact .inr h
theorem sM{env : Env} : ∀{names : List (Str × Ec)}{x : Str}, (∀ y ∈ names, y.2 ≠ .cell) →
    ((names.map fun(n, k) => if (k == Bh && env.scope.kind == .function && env.kindOf n == some .cell) then(n, D7) else(n, k)).lookup x = some .cell ∨
     (names.map fun(n, k) => if (k == Bh && env.scope.kind == .function && env.kindOf n == some .cell) then(n, D7) else(n, k)).lookup x = some .free) → names.lookup x = some .free
  | [], x, _, h => by simp at h
  | (n, k) :: r, x, hc, h => by
    have F := @sM env r x fun y J => hc y (An _ J);have G := hc (n, k) Al;rw[Au]at h;by_cases hx : x = n
    · subst hx
      rw[BE, beq_self_eq_true];simp only;by_cases q : (k == Bh && env.scope.kind == .function && env.kindOf x == some .cell) = true
      · have : (k == Bh) = true := by
          rw[Bu, Bu]at q;exact q.1.1
        simpa using this
      · simp only[Ia q, BE, beq_self_eq_true]at h
        rcases h with h | h
        · exact absurd (Cc.inj h) G
        · exact h
    · have e : (x == n) = false := by simpa using hx
      rw[BE, e];refine F ?_;by_cases q : (k == Bh && env.scope.kind == .function && env.kindOf n == some .cell) = true
      · simp only[Ib q, BE, e]at h
        exact h
      · simp only[Ia q, BE, e]at h
        exact h
theorem pA{env : Env} : ∀{names : List (Str × Ec)}{x : Str}, names.lookup x = some .free →
    ((names.map fun(n, k) => if (k == Bh && env.scope.kind == .function && env.kindOf n == some .cell) then(n, D7) else(n, k)).lookup x = some .cell ∨
     (names.map fun(n, k) => if (k == Bh && env.scope.kind == .function && env.kindOf n == some .cell) then(n, D7) else(n, k)).lookup x = some .free)
  | [], x, h => by simp at h
  | (n, k) :: r, x, h => by
    have F := @pA env r x;rw[Au];by_cases hx : x = n
    · subst hx
      rw[BE, beq_self_eq_true]at h;simp only at h;cases h;by_cases q : (Bh == Bh && env.scope.kind == .function && env.kindOf x == some .cell) = true
      · refine .inl ?_
        show Dk x ((if (Bh == Bh && env.scope.kind == .function && env.kindOf x == some .cell) = true then(x, D7) else(x, Bh)) :: _) = _;rw[Ib q, BE, beq_self_eq_true]
      · refine .inr ?_
        show Dk x ((if (Bh == Bh && env.scope.kind == .function && env.kindOf x == some .cell) = true then(x, D7) else(x, Bh)) :: _) = _;rw[Ia q, BE, beq_self_eq_true]
    · have e : (x == n) = false := by simpa using hx
      rw[BE, e]at h;have := F h;by_cases q : (k == Bh && env.scope.kind == .function && env.kindOf n == some .cell) = true
      · simp only[Ib q, BE, e]
        exact this
      · simp only[Ia q, BE, e]
        exact this
def blk(X:Cx)(N:List Str)(scope:C1)(cl:List (Str×Ag))(s:Af)(H:Hp)(fp:List Ag)(iw:Ih)(C:Ag):Cx where
 prog:=X.prog
 w:=X.w
 K:=X.K
 mg:=X.mg
 base:=X.base
 A:=X.A
 N:=N
 s₀:=s
 H₀:=H
 env:=compEnvC scope cl C X.env
 outer:=X.stack
 stack:=X.stack
 ex:=fp
 fn:=fun _=>false
 calm:=X.calm
 pn:=X.pn ++ iw
 xe:=fun _ _=>False
def aGf(N:List Str)(src:List (Option Nat))(scope:C1)(oN:List Str):Bool:=
 (N.zip src).all fun p=>match p.2 with | none=>true | some j=>(oN[j]? == some p.1) && (scope.names.lookup p.1 == some .free)
structure yC(N:List Str)(src:List (Option Nat))(scope osc:C1)(oN:List Str):Prop where
 kind:scope.kind=.function
 nocell:∀ y∈scope.names,y.2≠.cell
 names:∀ y∈scope.names,y.2=.local→scope.names.lookup y.1=some .local
 fr:∀ y∈scope.names,y.2=.free→osc.names.lookup y.1=some .cell∨osc.names.lookup y.1=some .free
 len:src.length=N.length
 srcs:aGf N src scope oN=true
def sub(src:List (Option Nat))(σ:St):St:=src.map fun o=>match o with | none=>none | some j=>(σ[j]?).getD none
theorem aDB{N:List Str}{src:List (Option Nat)}{scope:C1}{oN:List Str}(h:aGf N src scope oN=true){i j:Nat}{x:Str}(h1:N[i]?=some x)(h2:src[i]?=some (some j)):oN[j]?=some x∧scope.names.lookup x=some .free:=by
 have hm:(x,some j)∈N.zip src:=by
  refine AK (i:=i) ?_;rw[List.getElem?_zip_eq_some];exact⟨h1,h2⟩
 have:=A2.mp h _ hm;simp only[Bu,beq_iff_eq]at this;exact this
theorem aGS{src:List (Option Nat)}{σ:St}{i:Nat}{v:V}(h:(sub src σ)[i]?=some (some v)):∃ j,src[i]?=some (some j)∧σ[j]?=some (some v):=by
 unfold sub at h;rw[Ao]at h;cases e:src[i]? with
 | none=>rw[e]at h;simp at h
 | some o=>
  rw[e]at h;cases o with
  | none=>simp at h
  | some j=>
   refine⟨j,rfl,?_⟩;cases q:σ[j]? with
   | none=>simp[q]at h
   | some F=>
    simp[q]at h;rw[h]
structure PTs(X:Cx)(ifs:List Ba)(t:TT):Prop where
 run:
  ∀(iw:Ih) (s:Af) (σ:St) (H:Hp) (Q:Bool→Hp→Prop),Inv X iw σ H s→t σ H Q→
   wpAny (model X.prog X.w) X.A (forIn ifs true fun c r=>if r=true then do let ok ← isTrue c X.env (eval c X.env);pure (Cs ok) else pure (Cs r)) (TP X iw σ Q) X.xe s
instance{X:Cx}{ifs:List Ba}{t:TT}:CoeFun (PTs X ifs t) (fun _=>
 ∀(iw:Ih) (s:Af) (σ:St) (H:Hp) (Q:Bool→Hp→Prop),Inv X iw σ H s→t σ H Q→
  wpAny (model X.prog X.w) X.A (forIn ifs true fun c r=>if r=true then do let ok ← isTrue c X.env (eval c X.env);pure (Cs ok) else pure (Cs r)) (TP X iw σ Q) X.xe s):=⟨fun h=>h.run⟩
theorem dN{X:Cx}:PTs X [] (fun _ H Q=>Q true H):=⟨fun _ _ _ H _ I h=>wpAny_tests_nil ⟨H,I,h⟩⟩
theorem pB{X:Cx}{c:Ba}{t:TT}(h:PT X c t):PTs X [c] t:=⟨fun iw s σ H Q I q=>wpAny_tests_one (h iw s σ H Q I q)⟩
section
variable{X:Cx}{iw:Ih}{σ:St}{H:Hp}{s:Af}
theorem Inv.clos{N:List Str}{src:List (Option Nat)}{scope:C1}(B:yC N src scope X.env.scope X.N)(I:Inv X iw σ H s):∀ y∈scope.names,y.2=.free→∃ c,X.env.cells.lookup y.1=some c:=
 fun y q F=>I.ok.has y.1 (B.fr y q F)
theorem Inv.block{N:List Str}{src:List (Option Nat)}{scope:C1}{fp:List Ag}{s1:Af}{C:Ag}{m:Str→Option Ad}(B:yC N src scope X.env.scope X.N)(I:Inv X iw σ H s)
  (O:∀ b∈fp,lP X iw H b) (aa:∀ b∈fp,b < s.heap.objs.size) (hC:s.heap.objs.size≤C) (ho:s1.os=s.os) (G:EL s1.gens) (M:∀ b o,s.heap.get? b=some o→s1.heap.get? b=some o) (hn:s1.heap.Ns C m):
  Inv (blk X N scope (iO X.env scope.names []) s H fp iw C) [] (sub src σ) H s1:=by
 have F:=I.clos B;have q:∀ x c,(iO X.env scope.names []).lookup x=some c→X.env.cells.lookup x=some c:=qC _ _ (fun x c e=>by simp at e);have ae:∀ b∈frs X.stack,b < s.heap.objs.size:=fun b G=>by
  obtain⟨_,o,ho,_⟩:=I.stack.mem G;exact Ar ho
 refine⟨⟨I.ok.mod,B.kind,I.ok.glob,I.ok.blt,hC,fun x y c Z e2=>I.ok.inj x y c (q x c Z) (q y c e2),fun x hx=>?_,fun x c hx=>absurd hx AB,I.ok.hd,I.ok.frames,.inl rfl,fun b G=>⟨?_,fun x c e=>?_⟩,fun b o e=>?_,AG I.ok.bsz I.sz,fun b o e G=>?_,fun b G hz=>?_,I.stack,I.stkFree⟩,
  ho,G,Un.kept M,⟨m,hn,fun i x v Z e2 e3=>?_⟩,fun x c e=>?_,?_,fun x c e=>I.freeC x c (q x c e),fun p hp=>?_,I.hok.kept M,?_⟩
 ·have ab:=sM (env:=X.env) B.nocell hx;exact qE _ _ x F (.inr (BT ab))
 ·exact AA (AZ (aa b G) hC)
 ·exact(O b G).2.2.2.2.1 x c (q x c e)
 ·exact I.bs b o e
 ·rcases(O b G).2.2.2.1 with z | z
  ·exact I.ok.noex b o e z
  ·exact absurd (AZ (Ar e) (AG I.ok.bsz z)) (CD _)
 ·rcases Ak.mp (I.stkSub b hz)with e | z
  ·exact(O b G).2.1 e
  ·exact(O b G).2.2.1 z
 ·obtain⟨j,ej,ev⟩:=aGS e2;obtain⟨oj,fj⟩:=aDB B.srcs Z ej;have J:=B.fr _ (BT fj) rfl;obtain⟨m0,hn0,hl0⟩:=id I.loc;obtain⟨u,ru,lk⟩:=hl0 j x v oj ev (.inr J);refine⟨u,ru,.inr ⟨pA fj,?_⟩⟩;rcases lk with⟨k,_⟩ | ⟨k,c,hc,hcell⟩
  ·have k':X.env.scope.names.lookup x=some .local:=k;rcases J with z | z <;> (rw[k']at z;cases z)
  ·obtain⟨c',hc'⟩:=qE (env:=X.env) scope.names [] x F (.inr (BT fj));have e:=q x c' hc';rw[hc]at e;cases e;obtain⟨o,ho,hd⟩:=hcell;exact⟨c,hc',o,M _ _ ho,hd⟩
 ·obtain⟨v,o,ho,hd⟩:=I.cell x c (q x c e);exact⟨v,o,M _ _ ho,hd⟩
 ·exact I.hok.fresh hC
 ·have Y:p∈X.pn ++ iw:=by
   rcases AO.mp hp with z | z
   ·exact z
   ·simp at z
  obtain⟨q1,q2,q3,q4,q5⟩:=I.pin p Y;refine⟨M _ _ q1,q2,AA (AZ (Ar q1) hC),fun z=>?_,q5⟩;rcases Ak.mp (I.stkSub _ z)with e | z
  ·exact q3 e
  ·exact q4 z
 ·show(sub src σ).length=N.length;unfold sub;rw[Ab];exact B.len
end
section
variable{prog:AD}{w:AV}{A:AS}{R:G7→Af→Prop}{s:Af}
theorem yD{J q F:Ba}{M:List Ba}{scope:C1}{pos:Pos}{it G:Ad}{env:Env}(I:Nat→Af→Prop)
  (Y:∀ n s,I n s→wpAny (model prog w) A (pyNext it) (fun r s₁=>match r with
   | none=>R (.ok .next) s₁
   | some v=>wpAny (model prog w) A (letOwnedTupleGo q it v) (fun _ O=>wpAny (model prog w) A (assign q env v) (fun _ s₂=>
     wpAny (model prog w) A (forIn M true fun c r=>if r=true then do let ok ← isTrue c env (eval c env);pure (Cs ok) else pure (Cs r)) (fun ok Z=>
      if ok=true then wpAny (model prog w) A (eval J env) (fun x s₄=>
       wpAny (model prog w) A (call (.builtin "list.append") [G,x]) (fun _ s₅=>∃ m,m < n∧I m s₅) (fun _ _=>False) s₄) (fun _ _=>False) Z
      else∃ m,m < n∧I m Z) (fun _ _=>False) s₂) (fun _ _=>False) O) (fun _ _=>False) s₁) (fun _ _=>False) s)
  (n:Nat) (h:I n s):
  codeAny (model prog w) A (.compLoop (.ListComp J [⟨q,F,M,0⟩] scope pos) 0 it G env) R s:=by
 have nv:∀{α:Type} {t:Sem α} {Q:α→Af→Prop} {E:Ad→Af→Prop} {s:Af},wpAny (model prog w) A t Q (fun _ _=>False) s→wpAny (model prog w) A t Q E s:=fun h=>Cv h (fun _ _ x=>x) fun _ _ x=>x.elim;refine codeAny_loop rfl I (fun n s hI=>?_) n h;show wpAny _ A ((compTurn (.ListComp J [⟨q,F,M,0⟩] scope pos) 0 it G env).onRaise (fun x=>do noteFrame x env;theTreesLotGoes x)) _ _ s;refine wpAny_noted ?_;rw[compTurn_list];refine Aa (Fb (Aa (nv (thn (Y n s hI) (fun r s₁ h₁=>?_)))));cases r with
 | none=>exact Ae h₁
 | some v=>
  refine Aa (Cv h₁ (fun _ O ab=>?_) fun _ _ x=>x.elim);refine Aa (Cv ab (fun _ s₂ h₂=>Aa (Cv h₂ (fun ok Z h₃=>?_) fun _ _ h'=>h'.elim)) fun _ _ h'=>h'.elim);cases ok with
  | false=>exact Ae ⟨rfl,h₃⟩
  | true=>
   exact Aa (Aa (Cv h₃ (fun x s₄ h₄=>Aa (Cv h₄ (fun _ s₅ h₅=>Ae (Ae ⟨rfl,h₅⟩)) fun _ _ h'=>h'.elim)) fun _ _ h'=>h'.elim))
end
inductive aBl(J : It)(g : TG)(tt : TT)(te : TE)(σ₀ : St)(H₀ : Hp)(Q : VK) : Prop
  | mk (W : Nat → Nat → List V → St → Hp → Prop) (q0 : (∃ m, W 0 m [] σ₀ H₀)) (q1 : ∀ i m ys σ H, W i m ys σ H → ys.length ≤ sizeLine ∧
    ((J.stop i H ∧ ∀ D, H D = none → Q (.ref D) (upd H D (.lst ys))) ∨
     (J.go i H ∧ ∃ N : List V → St → Hp → Prop, (∀ zs σ' H', N zs σ' H' → ∃ m', m' < m ∧ W (i + 1) m' zs σ' H') ∧
       ∀ x H', J.yld i H x H' → g x σ H' fun σ2 H2 => tt σ2 H2 fun b H3 => if b = true then te σ2 H3 fun v H4 => N (ys ++ [v]) σ2 H4 else N ys σ2 H3))) : aBl J g tt te σ₀ H₀ Q
def vE(J:It)(g:TG)(tt:TT)(te:TE)(σ₀:St)(H₀:Hp)(Q:VK):Prop:=aBl J g tt te σ₀ H₀ Q
section
variable{X:Cx}{iw:Ih}{σ:St}
theorem vF{tg aq a0:Ba}{ba:List Ba}{scope:C1}{pos:Pos}{N:List Str}{src:List (Option Nat)}{g:TG}{tt:TT}{te:TE}{J:It}{fp:List Ag}{it:Ag}{tn:Nat→Bi→Prop}{H2:Hp}{s2:Af}{Q:VK}{E:Ad→Af→Prop}
  {RR:Ad→Ag→G7→Af→Prop} (B:yC N src scope X.env.scope X.N) (hc:X.calm=true)
  (F:∀ cl s H fp iw C,PG (blk X N scope cl s H fp iw C) tg g∧PTs (blk X N scope cl s H fp iw C) ba tt∧PE (blk X N scope cl s H fp iw C) a0 te)
  (I2:Inv X iw σ H2 s2) (T:aC8 X.prog X.w X.K tg J fp it tn) (bi:tn 0 s2.heap) (f2:∀ b∈fp,lP X iw H2 b) (cw:vE J g tt te (sub src σ) H2 Q)
  (cc:∀ D C H' m s',Inv X iw σ H' s'→s'.heap.Ns C m→lP X iw H' C→D≠C→Q (.ref D) H'→RR (.ref D) C (.ok .next) s'):
  wpAny (model X.prog X.w) X.A (newList []) (fun bf s₃=>wpAny (model X.prog X.w) X.A (newFunctionEnv scope X.env.globals (iO X.env scope.names []) [] X.env.qual none .none (some X.env)) (fun ap s₄=>
   codeAny (model X.prog X.w) X.A (.compStart (.ListComp a0 [⟨tg,aq,ba,0⟩] scope pos) 0 (.ref it) bf { ap with scope:=relabel scope X.env }) (RR bf ap.locals) s₄) E s₃) E s2:=by
 refine BJ (wpAny_newFunctionEnv B.nocell (by intro y hy;simp at hy) (fun h₁ ah aa=>?_) B.kind);dsimp only at ah aa ⊢;generalize aI:s2.heap.push { cls:=.type "list",dict:=none,data:=.seq ([]:List Ad).toArray }=HH at ah aa ⊢;have aT:HH.objs.size=s2.heap.objs.size + 1:=by rw[← aI,B3]
 have af:s2.heap.objs.size≠HH.objs.size:=by rw[aT];exact AA (Cr _)
 have ai:s2.heap.objs.size≤HH.objs.size:=by rw[aT];exact CF _
 have ao:∀ b∈fp,b < s2.heap.objs.size:=fun b F=>by
  obtain⟨o,e,_⟩:=T.obj _ _ bi b F;exact Ar e
 have bq:∀ b o,s2.heap.get? b=some o→h₁.get? b=some o:=fun b o e=>
  aa.extBut b o (by rw[aT];exact AA (By (Ar e))) (Ai _ (aI ▸ Ai _ e))
 have bo:h₁.PlainList s2.heap.objs.size #[]:=⟨_,aa.extBut _ _ af (Ai _ (aI ▸ At _ rfl))⟩
 have bw:tn 0 h₁:=T.keep _ _ _ bi fun b _ o e=>bq b o e;obtain⟨W,⟨m0,w0⟩,turn⟩:=cw;have bt:∀ b∈frs X.stack,b < s2.heap.objs.size:=fun b F=>by
  obtain⟨_,o,ho,_⟩:=I2.stack.mem F;exact Ar ho
 generalize q:blk X N scope (iO X.env scope.names []) s2 H2 fp iw HH.objs.size=G;have bp:=F (iO X.env scope.names []) s2 H2 fp iw HH.objs.size;rw[q]at bp;have eP:G.prog=X.prog:=by rw[← q];rfl
 have eW:G.w=X.w:=by rw[← q];rfl
 have eK:G.K=X.K:=by rw[← q];rfl
 have eA:G.A=X.A:=by rw[← q];rfl
 have eE:G.env=compEnvC scope (iO X.env scope.names []) HH.objs.size X.env:=by rw[← q];rfl
 have eL:G.env.locals=HH.objs.size:=by rw[eE];rfl
 have eF:G.fs=frs X.stack:=by rw[← q];rfl
 have eX:G.ex=fp:=by rw[← q];rfl
 have eS:G.s₀=s2:=by rw[← q];rfl
 have eH:G.H₀=H2:=by rw[← q];rfl
 have eC:G.calm=true:=by rw[← q];exact hc
 have bv:G.pn=X.pn ++ iw:=by rw[← q];rfl
 have aC:G.xe=fun _ _=>False:=by rw[← q];rfl
 have Z:∀ x c,G.env.cells.lookup x=some c→X.env.cells.lookup x=some c:=fun x c e=>by
  rw[eE]at e;exact qC scope.names [] (fun x c e=>by simp at e) x c e
 have ab:∀ x c,G.env.cells.lookup x=some c→c < s2.heap.objs.size:=fun x c e=>by
  obtain⟨v,o,ho,_⟩:=I2.cell x c (Z x c e);exact Ar ho
 have ae:∀ p∈X.pn ++ iw,p.1 < s2.heap.objs.size:=fun p O=>Ar (I2.pin p O).1;generalize hD:s2.heap.objs.size=D at *;generalize db:HH.objs.size=C at *;have au:∀ s₃:Af,s₃={ s2 with heap:=h₁,toks:=s2.toks + ([]:List (Str×Ad)).length }→
   codeAny (model X.prog X.w) X.A (.compLoop (.ListComp a0 [⟨tg,aq,ba,0⟩] scope pos) 0 (.ref it) (.ref D) (compEnvC scope (iO X.env scope.names []) C X.env)) (RR (.ref D) C) s₃:=by
  rintro s₃ rfl;have I3:Inv G [] (sub src σ) H2 { s2 with heap:=h₁,toks:=s2.toks + ([]:List (Str×Ad)).length }:=by
   rw[← q];exact I2.block B f2 (by rw[hD];exact ao) (by rw[hD];exact ai) rfl I2.bare bq ah
  have cb:H2 D=none:=I2.hok.fresh (Es hD);have b7:D ∉ G.fs:=fun z=>by rw[eF]at z;exact absurd (bt D z) (CD _)
  have ar:∀{M:St} {H':Hp} {s':Af} {pl:Ih} {its:List Ad} {n:Nat},Inv G pl M H' s'→H' D=none→s'.heap.get? D=some { cls:=.type "list",data:=.seq its.toArray n }→
    Inv G ((D,{ cls:=.type "list",data:=.seq its.toArray n }) :: pl) M H' s':=fun{M H' s' pl its n} I' hn hg=>
   I'.pins_of fun p O=>by
    rcases Ak.mp O with e | O
    ·subst e;exact⟨hg,hn,by rw[eL];exact af,b7,fun v z=>by cases z⟩
    ·exact I'.pin p (AN _ O)
  obtain⟨n0,hg0⟩:=bo;have b5:=ar (its:=[]) I3 cb hg0;have aw:∀{H':Hp} {pl:Ih},(∀ p∈pl,p.1=D)→(∀ b∈fp,H' b=none)→∀ b∈fp,lP G pl H' b:=fun{H' pl} hpl hn b F=>by
   refine⟨hn b F,by rw[eL];exact AA (AZ (ao b F) ai),fun z=>?_,.inl (by rw[eX];exact F),fun x c e=>(f2 b F).2.2.2.2.1 x c (Z x c e),fun p O=>?_⟩
   ·rw[eF]at z;rcases Ak.mp (I2.stkSub b z)with e | z
    ·exact(f2 b F).2.1 e
    ·exact(f2 b F).2.2.1 z
   ·rw[bv]at O;rcases AO.mp O with z | z
    ·exact(f2 b F).2.2.2.2.2 p z
    ·rw[hpl p z];exact Du (ao b F)
  refine yD (fun n s'=>∃ i ys its nn M H',Inv G [(D,{ cls:=.type "list",data:=.seq its.toArray nn })] M H' s'∧tn i s'.heap∧(∀ b∈fp,H' b=none)∧bX ys its∧W i n ys M H') ?_ m0
   ⟨0,[],[],n0,sub src σ,H2,b5,bw,fun b F=>(f2 b F).1,.nil,w0⟩
  rintro n s4 ⟨i,ys,its,nn,σ4,H4,I4,bx,bg,an,w4⟩;obtain⟨hsz,hcase⟩:=turn i n ys σ4 H4 w4;have one:∀{o:Obj},∀ p∈[(D,o)],p.1=D:=fun{o} p O=>by
   have:=AE.mp O;rw[this]
  rcases hcase with⟨stop,qn⟩ | ⟨go,Nx,hN,step⟩
  ·have ag:=T.done G eP eW eK eC i _ s4 σ4 H4 (fun _ _=>False) I4 (aw one bg) bx stop;rw[eA]at ag;refine thn ag fun r s5 ⟨hr,I5⟩=>?_;subst hr;have pd:=I5.pin _ (AN _ Al);have bY:Un (frs X.stack) fp H2 H4 s2.heap s5.heap:=by
    have:=I5.base;rw[eF,eX,eS,eH]at this;exact this
   have bn:HOk X.prog X.w H4 s5.heap:=by
    have:=I5.hok;rw[eP,eW]at this;exact this
   have ca:s5.os=s2.os:=by
    have:=I5.os;rw[eS]at this;exact this
   have J5:Inv X iw σ H4 s5:=I2.call' ca bY bn I5.bare fun b F=>⟨(f2 b F).2.2.2.1,(f2 b F).2.1,(f2 b F).2.2.2.2.1,(f2 b F).2.2.2.2.2⟩
   have fD:lP X iw H4 D:=I2.fpOk (Es hD) pd.2.1;have J6:Inv X iw σ (upd H4 D (.lst ys)) s5:=J5.track fD ⟨hsz,its,nn,an,pd.1⟩;obtain⟨mm,nsC,_⟩:=I5.loc;rw[eL]at nsC;have b2:H4 C=none:=by
    have:=I5.free;rw[eL]at this;exact this
   have fC:lP X iw (upd H4 D (.lst ys)) C:=I2.fpOk (by rw[hD];exact ai) (by rw[aF (B4 af)];exact b2);exact cc D C _ mm s5 J6 nsC fC af (qn D pd.2.1)
  ·have ad:=T.item G eP eW eK eC i _ s4 σ4 H4 (fun _ _=>False) I4 (aw one bg) bx go;rw[eA]at ad;refine thn ad fun r s5 ⟨u,hr,h5⟩=>?_;subst hr;refine thn h5 fun _ s6 ⟨x,H6,I6,r6,y6,az,bW⟩=>?_;have b0:=I6.pinned (aw one bW) (T.obj _ _ az);obtain⟨hg,ht,he⟩:=bp;have e1:=hg _ s6 σ4 H6 x u _ b0 r6 (step x H6 y6);rw[eP,eW,eA,eE,aC]at e1;refine thn e1 fun _ s7 ⟨σ7,H7,I7,q7⟩=>?_;have e2:=ht _ s7 σ7 H7 _ I7 q7;rw[eP,eW,eA,eE,aC]at e2;refine thn e2 fun ok s8 ⟨H8,I8,q8⟩=>?_;have fin:∀{M:St} {H':Hp} {s':Af} {Y:List Ad} {aj:Nat} {zs:List V},Inv G ([(D,{ cls:=.type "list",data:=.seq Y.toArray aj })] ++ nY fp s6.heap) M H' s'→bX zs Y→Nx zs M H'→
     ∃ m,m < n∧∃ i ys its nn M H',Inv G [(D,{ cls:=.type "list",data:=.seq its.toArray nn })] M H' s'∧tn i s'.heap∧(∀ b∈fp,H' b=none)∧bX ys its∧W i m ys M H':=fun{M H' s' Y aj zs} I' vs' n'=>by
    obtain⟨m',hm,w'⟩:=hN zs M H' n';refine⟨m',hm,i + 1,zs,Y,aj,M,H',I'.unpinned,T.keep _ _ _ az fun b F o e=>(I'.pin (b,o) (AN _ (AN _ (kT F e)))).1,fun b F=>?_,vs',w'⟩;obtain⟨o,e,d⟩:=T.obj _ _ az b F;exact(I'.pin (b,o) (AN _ (AN _ (kT F e)))).2.1
   cases ok with
   | false=>
    simp only[Cd,if_false]at q8 ⊢;exact fin I8 an q8
   | true=>
    simp only[if_true]at q8 ⊢;have e3:=he _ s8 σ7 H8 _ I8 q8;rw[eP,eW,eA,eE,aC]at e3;refine thn e3 fun v s9 ⟨y,H9,I9,r9,q9⟩=>?_;have pd:=I9.pin _ (AN _ (BH _ Al));have cI:=an.length;refine wpAny_list_append_plain (hsz:=by simp only[Aq];omega) (⟨nn,pd.1⟩:s9.heap.PlainList D its.toArray) fun h' ⟨aj,b6⟩ b4=>?_;have bR:Inv G (nY fp s6.heap) σ7 H9 s9:=I9.pins_of fun p O=>I9.pin p (AN _ (AN _ O));have cg:Inv G (nY fp s6.heap) σ7 H9 { s9 with heap:=h' }:=bR.turned (t':=s9.toks) (it:=D) (fun b o F e=>(b4.2 b F).trans e) pd.2.1 (by rw[eL];exact af) (.inr (by rw[eS];exact Es hD))
     (fun x c e=>AA (ab x c e)) fun p O=>by
      rw[bv]at O;rcases AO.mp O with z | z
      ·exact AA (ae p z)
      ·exact AA (ao _ (uR z).1)
    have bh:h'.get? D=some { cls:=.type "list",data:=.seq (its ++ [v]).toArray aj }:=by
     rw[b6];simp
    exact fin (ar (s':={ s9 with heap:=h' }) cg pd.2.1 bh) (an.append (.cons r9 .nil)) q9
 exact codeAny_compStart_list (au _ rfl) (T.self X.A 0 _ _ _ bw (au _ rfl))
end
def aGg(src:List (Option Nat))(wi:TI)(g:TG)(tt:TT)(te:TE):TE:=fun σ H Q=>wi σ H fun J H1=>vE J g tt te (sub src σ) H1 Q
section
variable{X:Cx}
theorem dO{tg F G:Ba}{M:List Ba}{scope osc:C1}{pos:Pos}{N oN:List Str}{src:List (Option Nat)}{wi:TI}{g:TG}{Z:TT}{te:TE}(B:yC N src scope osc oN)(hi:PI X tg F wi)
  (Y:∀ cl s H fp iw C,PG (blk X N scope cl s H fp iw C) tg g∧PTs (blk X N scope cl s H fp iw C) M Z∧PE (blk X N scope cl s H fp iw C) G te)
  (hc:X.calm=true:=by rfl) (eo:X.env.scope=osc:=by rfl) (eN:X.N=oN:=by rfl)
  (hs:∀ x,foldedSetIterable F X.env x=pure x:=by intro _;rfl):PE X (.ListComp G [⟨tg,F,M,0⟩] scope pos) (aGg src wi g Z te):=by
 subst eo eN;constructor;intro iw s σ H Q I h;rw[eval_ListComp];refine wpAny_comprehension_free (use:=none) (cl:=iO X.env scope.names []) rfl hs (o0 (I.clos B)) B.kind B.names (thn (hi iw s σ H _ I h) fun xv s1 h1=>thn h1 fun ag s2 h2=>?_);obtain⟨it,fp,tn,J,H2,e,I2,T,st2,f2,cw⟩:=h2;subst e;refine vF B hc Y I2 T st2 f2 cw fun D C H' m s' J' O fC ab q=>?_;refine⟨m,O,fun h' sb=>⟨.ref D,H',?_,rfl,q⟩⟩;obtain⟨f0,f1,_,f3,f4,f5⟩:=fC;exact J'.turned (t':=s'.toks) (fun b o Y e=>(sb.2 b Y).trans e) f0 f1 f3 f4 f5
theorem i7{tg F M:Ba}{G:List Ba}{scope osc:C1}{pos ps Y:Pos}{y:Str}{i:Nat}{N oN:List Str}{src:List (Option Nat)}{wi:TI}{g:TG}{tt:TT}{te:TE}(B:yC N src scope osc oN)(hN:X.N.Nodup)(hy:X.N[i]?=some y)(hi:PI X tg F wi)
  (hb:∀ cl s H fp iw C,PG (blk X N scope cl s H fp iw C) tg g∧PTs (blk X N scope cl s H fp iw C) G tt∧PE (blk X N scope cl s H fp iw C) M te)
  (O:X.env.scope.names.lookup y=some .local:=by rfl)
  (ad:swapsWith (.ListComp M [⟨tg,F,G,0⟩] scope pos) (some (.Name y Y)) ps.line X.env=pure true:=by rfl)
  (hc:X.calm=true:=by rfl) (eo:X.env.scope=osc:=by rfl) (eN:X.N=oN:=by rfl)
  (hs:∀ x,foldedSetIterable F X.env x=pure x:=by intro _;rfl):PS X (.Assign [.Name y Y] (.ListComp M [⟨tg,F,G,0⟩] scope pos) ps) (aGA (aGg src wi g tt te) (aY i)):=by
 subst eo eN;constructor;intro iw s σ H D I h;rw[exec_Assign_Name_used _ _ _ _ ad];refine Aa (Fb (Aa ?_));show wpAny _ _ (evalThenUse (.ListComp M [⟨tg,F,G,0⟩] scope pos) X.env (assign (.Name y Y) X.env)) _ _ s;have e:evalThenUse (.ListComp M [⟨tg,F,G,0⟩] scope pos) X.env (assign (.Name y Y) X.env)=(do
   let _ ← comprehension (.ListComp M [⟨tg,F,G,0⟩] scope pos) scope X.env (firstIterPos [⟨tg,F,G,0⟩] pos) (newList []) (firstAsync [⟨tg,F,G,0⟩]) (firstIter [⟨tg,F,G,0⟩] X.env) (some (assign (.Name y Y) X.env))):=rfl
 rw[e];refine Aa ?_;refine wpAny_comprehension_free (use:=some (assign (.Name y Y) X.env)) (cl:=iO X.env scope.names []) rfl hs (o0 (I.clos B)) B.kind B.names (thn (hi iw s σ H _ I h) fun xv s1 h1=>thn h1 fun ap s2 h2=>?_);obtain⟨it,fp,tn,J,H2,e,I2,T,st2,f2,cw⟩:=h2;subst e;refine vF B hc hb I2 T st2 f2 cw fun D' C H' m s' J' ab fC aj q=>?_;obtain⟨f0,f1,_,f3,f4,f5⟩:=fC;refine wpAny_assign_Name (uQ J' hN hy (.inl O) (v:=.ref D') rfl (fun ae af ⟨a,sb,ha⟩=>?_) (.inr O));have Z:C≠a:=by
  rcases ha with rfl | ha
  ·exact f1
  ·exact fun z=>f4 y a ha z.symm
 refine⟨m,ab.sameBut sb Z,fun h' aa=>Ae (Ae ⟨_,H',af.turned (t':=ae.toks) (fun b o hb e=>(aa.2 b hb).trans e) f0 f1 f3 f4 f5,q⟩)⟩
end
section
variable{X:Cx}
inductive lM(K:Ah)(xs:List V)(H:Hp)(Q:VK):Prop
 | mk (x:_) (n:_) (t:_) (b:_) (q0:xs=[x,.ty n]) (q1:oW K H x t) (q2:Fd K t (.type n)=some b) (q3:Q (.bl b) H):lM K xs H Q
def uI(K:Ah):List V→Hp→VK→Prop:=fun xs H Q=>lM K xs H Q
theorem yE:eY X (.builtin "isinstance") (uI X.K):=by
 intro iw s σ H xs F Q I r h;obtain⟨x,n,t,b,rfl,ty,e,q⟩:=h;obtain⟨u,w',rfl,r1,r2⟩:=aDd r;cases r2;exact aCi I r1 ty e fun tk=>⟨.bl b,H,I.tok _,rfl,q⟩
def vG(i j:Int):Prop:=0 < j∧j.natAbs.log2 < 9000
theorem vG.of{i j:Int}(h:0 < j)(h2:j < 2 ^ 512):vG i j:=by
 refine⟨h,?_⟩;have q:j.natAbs≠0:=by omega
 have:j.natAbs.log2 < 512:=(Nat.log2_lt q).mpr (by
  have e:((2:Int) ^ 512)=((2 ^ 512:Nat):Int):=by decide
  rw[e]at h2;omega)
 omega
theorem sO:OpR X (binaryOp .FloorDiv) (rI vG fun i j=>.int (i / j)):=opI fun i j _ _ _ _ _ hc q=>by
 have h1:(0:Int) < j:=hc.1;refine floordiv_int (by omega) ?_ (Av (PyProof.noPylong_of_log2 hc.2));rw[Int.fdiv_eq_ediv_of_nonneg i (by omega)];exact q
inductive sQ(x:V)(lo:Option Int)(hi:Option Int)(H:Hp)(Q:VK):Prop
 | mk (z:_) (q0:x=.str z) (q1:z.length≤sizeLine) (q2:Q (.str (Ev z lo hi)) H):sQ x lo hi H Q
def aDC:V→Option Int→Option Int→Hp→VK→Prop:=fun x lo hi H Q=>sQ x lo hi H Q
theorem aAH:SlR X aDC:=by
 intro iw s σ H x v Z vu lo hi sl Q I Y hs pl O h;obtain⟨z,rfl,hz,q⟩:=h;obtain⟨t,rfl⟩:=Y;refine⟨"str",_,F.slot_str_getitem.lookup,GQ _ _ _,?_⟩;have fin:∀ J k,EP X iw σ Q (.str (Ev z lo hi) J) { s with toks:=k }:=fun J k=>⟨.str _,H,I.tok _,⟨_,rfl⟩,q⟩
 obtain⟨o,ho,hc,hd⟩:=hs;cases pl with
 | none=>
  cases O with
  | none=>exact D8 (l:=none) (u:=none) (st:=none) ⟨o,ho,hc,hd⟩ rfl (Fv ⟨AG (Fc z _ _) hz,fin⟩)
  | int j G=>exact D8 (l:=none) (u:=some (j,G)) (st:=none) ⟨o,ho,hc,hd⟩ rfl (Fv ⟨AG (Fc z _ _) hz,fin⟩)
 | int i M=>
  cases O with
  | none=>exact D8 (l:=some (i,M)) (u:=none) (st:=none) ⟨o,ho,hc,hd⟩ rfl (Fv ⟨AG (Fc z _ _) hz,fin⟩)
  | int j G=>exact D8 (l:=some (i,M)) (u:=some (j,G)) (st:=none) ⟨o,ho,hc,hd⟩ rfl (Fv ⟨AG (Fc z _ _) hz,fin⟩)
theorem m9:∀{ys:List Str}{q:List Ad},bX (ys.map V.str) q→Eb q ys
 | [],_,.nil=>.nil
 | y :: ys,_,.cons ⟨t,rfl⟩ r=>.cons y t (m9 r)
inductive qT(K:Ah)(x:V)(xs:List V)(H:Hp)(Q:VK):Prop
 | mk (z:_) (p:_) (ys:_) (q0:x=.str z) (q1:xs=[.ref p]) (q2:SqL K H p (ys.map V.str)) (q3:(ys.map (·.length)).sum + ys.length * z.length≤16777216) (q4:Q (.str (Txt.join z ys)) H):qT K x xs H Q
def aCp(K:Ah):V→List V→Hp→VK→Prop:=fun x xs H Q=>qT K x xs H Q
theorem aFq:MtR X "str.join" (aCp X.K):=by
 intro iw s σ H x xs v J Q I F r h;obtain⟨z,p,ys,rfl,rfl,hx,hz,q⟩:=h;obtain⟨t,rfl⟩:=F;obtain⟨u,rfl,ru⟩:=fS r;cases ru;obtain⟨its,rv,pl,_⟩:=I.list hx;exact join_list pl.isList (by simpa using m9 rv) hz fun G k=>⟨.str _,H,I.tok _,⟨_,rfl⟩,q⟩
theorem sU:∀{bs:List Bool}{q:List Ad},bX (bs.map V.bl) q→∀(i:Nat) v,q[i]?=some v→∃ b,bs[i]?=some b∧v=.bool b
 | [],_,.nil,i,v,e=>by simp at e
 | b :: bs,_,.cons rfl r,0,v,e=>by simp at e;exact⟨b,rfl,e.symm⟩
 | b :: bs,_,.cons rfl r,i + 1,v,e=>by
  obtain⟨c,h1,h2⟩:=sU r i v (by simpa using e);exact⟨c,by simpa using h1,h2⟩
theorem aAI(bs:List Bool):((AU bs.length).all fun i=>(bs[i]?).getD true)=bs.all id:=by
 rw[CA,A2,A2];constructor
 ·intro h b F;obtain⟨i,hi,e⟩:=Fh.mp F;have:=h i (Ck.mpr hi);rw[Aj hi]at this;simpa[e]using this
 ·intro h i hi;have q:=Ck.mp hi;rw[Aj q];exact h _ (BO q)
theorem aAJ(bs:List Bool):((AU bs.length).any fun i=>(bs[i]?).getD false)=bs.any id:=by
 rw[CA,BG,BG];constructor
 ·rintro⟨i,hi,e⟩;have q:=Ck.mp hi;rw[Aj q]at e;exact⟨_,BO q,e⟩
 ·rintro⟨b,hb,e⟩;obtain⟨i,hi,e2⟩:=Fh.mp hb;refine⟨i,Ck.mpr hi,?_⟩;rw[Aj hi,e2];exact e
inductive pC(K:Ah)(xs:List V)(H:Hp)(Q:VK):Prop
 | mk (p:Ag) (bs:List Bool) (q0:xs=[.ref p]) (q1:SqL K H p (bs.map V.bl)) (q2:Q (.bl (bs.all id)) H):pC K xs H Q
def aAK(K:Ah):List V→Hp→VK→Prop:=fun xs H Q=>pC K xs H Q
theorem aDD(hc:X.calm=true):eY X (.builtin "all") (aAK X.K):=by
 intro iw s σ H xs Y Q I r h;obtain⟨p,bs,rfl,hx,q⟩:=h;obtain⟨u,rfl,ru⟩:=fS r;cases ru;obtain⟨its,rv,pl,_⟩:=I.list hx;have hl:=pl.isList;have F:its.length=bs.length:=by have:=rv.length;simpa using this.symm
 have G:p < s.heap.objs.size:=by obtain⟨_,e,_⟩:=hl;exact Ar e
 refine call_all_walk (D9 hl ?_);refine⟨s.heap.objs.size,[s.heap.objs.size,p],[s.heap.objs.size],its.toArray.size,_,_,fun i=>(bs[i]?).getD true,rfl,Gb (A:=X.A.in1) (I.ok.hd hc) _ p (AA G) its.toArray,
  ⟨⟨_,At _ rfl,rfl,rfl⟩,hl.push _⟩,fun i v s' Q' Z M J=>?_,fun h' tk O=>?_⟩
 ·obtain⟨b,e,rfl⟩:=sU rv i v (by simpa using M);simp only[e,Option.getD_some]at J;exact CY J
 ·rw[Aq,F,aAI];exact⟨.bl _,H,I.kept fun b x e=>O b x (fun hm=>by rw[AE.mp hm]at e;exact CD _ (Ar e)) (Ai _ e),rfl,q⟩
inductive pE(K:Ah)(xs:List V)(H:Hp)(Q:VK):Prop
 | mk (p:Ag) (bs:List Bool) (q0:xs=[.ref p]) (q1:SqL K H p (bs.map V.bl)) (q2:Q (.bl (bs.any id)) H):pE K xs H Q
def aAL(K:Ah):List V→Hp→VK→Prop:=fun xs H Q=>pE K xs H Q
theorem yF(hc:X.calm=true):eY X (.builtin "any") (aAL X.K):=by
 intro iw s σ H xs Y Q I r h;obtain⟨p,bs,rfl,hx,q⟩:=h;obtain⟨u,rfl,ru⟩:=fS r;cases ru;obtain⟨its,rv,pl,_⟩:=I.list hx;have hl:=pl.isList;have F:its.length=bs.length:=by have:=rv.length;simpa using this.symm
 have G:p < s.heap.objs.size:=by obtain⟨_,e,_⟩:=hl;exact Ar e
 refine call_any_walk (D9 hl ?_);refine⟨s.heap.objs.size,[s.heap.objs.size,p],[s.heap.objs.size],its.toArray.size,_,_,fun i=>(bs[i]?).getD false,rfl,Gb (A:=X.A.in1) (I.ok.hd hc) _ p (AA G) its.toArray,
  ⟨⟨_,At _ rfl,rfl,rfl⟩,hl.push _⟩,fun i v s' Q' Z M J=>?_,fun h' tk O=>?_⟩
 ·obtain⟨b,e,rfl⟩:=sU rv i v (by simpa using M);simp only[e,Option.getD_some]at J;exact CY J
 ·rw[Aq,F,aAJ];exact⟨.bl _,H,I.kept fun b x e=>O b x (fun hm=>by rw[AE.mp hm]at e;exact CD _ (Ar e)) (Ai _ e),rfl,q⟩
def aCq:List V→List V→Bool
 | [],[]=>true
 | x :: xs,y :: ys=>eqV x y && aCq xs ys
 | _,_=>false
theorem yG:∀{xs ys:List V},xs.length≠ys.length→aCq xs ys=false
 | [],[],h=>absurd rfl h
 | [],_ :: _,_=>rfl
 | _ :: _,[],_=>rfl
 | x :: xs,y :: ys,h=>by
  show(eqV x y && aCq xs ys)=false;rw[yG (fun e=>h (by simp[e])),D0]
theorem yH:∀{xs ys:List V},xs.length=ys.length→((AU xs.length).all fun i=>eqV (xs[i]?.getD .non) (ys[i]?.getD .non))=aCq xs ys
 | [],[],_=>rfl
 | x :: xs,y :: ys,h=>by
  have q:=yH (xs:=xs) (ys:=ys) (by simpa using h);rw[AI,List.range_succ_eq_map,Gw,List.all_map];show(eqV x y && _)=(eqV x y && aCq xs ys)
  rw[← q];rfl
theorem aDE{A:AS}{s:Af}{xs ys:List V}{G ws:List Ad}(M:bX xs G)(J:bX ys ws)(f1:xs.all i4=true)(Y:ys.all i4=true)(j:Nat)(h1:j < G.toArray.size)(h2:j < ws.toArray.size):
  Gd A s G.toArray[j] ws.toArray[j] (eqV (xs[j]?.getD .non) (ys[j]?.getD .non)):=by
 have l1:=M.length;have O:=J.length;have F:j < xs.length:=by simpa[l1]using h1
 have q:j < ys.length:=by simpa[O]using h2
 obtain⟨u,eu,ru⟩:=M.get (Aj F);obtain⟨w',ew,rw'⟩:=J.get (Aj q);have Z:G.toArray[j]=u:=by
  rw[Aj (by simpa using h1)]at eu;simpa using eu
 have e2:ws.toArray[j]=w':=by
  rw[Aj (by simpa using h2)]at ew;simpa using ew
 rw[Z,e2,Aj F,Aj q];exact aAC ru rw' (A2.mp f1 _ (BO F)) (A2.mp Y _ (BO q))
inductive sV(K:Ah)(x:V)(y:V)(H:Hp)(Q:VK):Prop
 | mk (p:_) (q:_) (xs:_) (ys:_) (q0:x=.ref p) (q1:y=.ref q) (q2:SqL K H p xs) (q3:SqL K H q ys) (q4:xs.all i4=true) (q5:ys.all i4=true) (q6:Q (.bl (!aCq xs ys)) H):sV K x y H Q
def aDF(K:Ah):V→V→Hp→VK→Prop:=fun x y H Q=>sV K x y H Q
theorem aGT(hu:X.A.units < cLine):OpR X (compareOp .NotEq) (aDF X.K):=by
 intro iw s σ H x y v u Q I J F h;obtain⟨p,q,xs,ys,rfl,rfl,h1,h2,f1,f2,hq⟩:=h;cases J;cases F;obtain⟨us,r1,p1,_⟩:=I.list h1;obtain⟨ws,r2,p2,_⟩:=I.list h2;have G:=r1.length;have M:=r2.length;by_cases e:xs.length=ys.length
 ·refine SeqAt.RcNeAt.lists p1.isList p2.isList (by simp;omega) hu (aDE r1 r2 f1 f2) X.prog X.w _ _ ?_;rw[Aq,← G,yH e];exact⟨.bl _,H,I,rfl,hq⟩
 ·refine SeqAt.RcNeAt.lists_lengths p1.isList p2.isList (by simp;omega) hu X.prog X.w _ _ ?_;rw[yG e]at hq;exact⟨.bl _,H,I,rfl,hq⟩
end
theorem aQ{n:Nat}(h:n≤1000000):n≤sizeLine:=by
 have:sizeLine=16777216:=Er;omega
theorem wL{J:It}{g:TG}{Z:TT}{te:TE}{σ₀:St}{H₀:Hp}{Q:VK}(n:Nat)(q:Nat→List V→St→Hp→Prop)(h0:q 0 [] σ₀ H₀)(hn:n≤sizeLine)(M:∀ i ys σ H,q i ys σ H→ys.length≤i)
  (Y:∀ i ys σ H,i < n→q i ys σ H→J.go i H) (F:∀ ys σ H,q n ys σ H→J.stop n H)
  (hs:∀ i ys σ H x H',i < n→q i ys σ H→J.yld i H x H'→g x σ H' fun O H2=>Z O H2 fun b H3=>if b=true then te O H3 fun v H4=>q (i + 1) (ys ++ [v]) O H4 else q (i + 1) ys O H3)
  (hd:∀ ys σ H,q n ys σ H→∀ D,H D=none→Q (.ref D) (upd H D (.lst ys))):vE J g Z te σ₀ H₀ Q:=by
 refine⟨fun i m ys σ H=>m=n - i∧i≤n∧q i ys σ H,⟨n,by simp,Bc _,h0⟩,?_⟩;rintro i m ys σ H ⟨rfl,hi,p⟩;refine⟨AG (M i ys σ H p) (AG hi hn),?_⟩;by_cases G:i < n
 ·exact .inr ⟨Y i ys σ H G p,q (i + 1),fun zs σ' H' p'=>⟨n - (i + 1),by omega,rfl,G,p'⟩,fun x H' y=>hs i ys σ H x H' G p y⟩
 ·have e:i=n:=by omega
  subst e;exact .inl ⟨F ys σ H p,hd ys σ H p⟩
theorem gU{lo:Int}{n:Nat}{g:TG}{J:TT}{te:TE}{M:St}{H₀:Hp}{Q:VK}(q:Nat→List V→St→Hp→Prop)(Y:q 0 [] M H₀)(hn:n≤sizeLine)(F:∀ i ys σ H,q i ys σ H→ys.length≤i)
  (hs:∀ i ys σ H,i < n→q i ys σ H→g (.int (lo + i)) σ H fun G H2=>J G H2 fun b O=>if b=true then te G O fun v Z=>q (i + 1) (ys ++ [v]) G Z else q (i + 1) ys G O)
  (hd:∀ ys σ H,q n ys σ H→∀ D,H D=none→Q (.ref D) (upd H D (.lst ys))):vE (Itr lo n) g J te M H₀ Q:=
 wL n q Y hn F (fun i _ _ _ h _=>h) (fun _ _ _ _=>Am _) (fun i ys σ H v H' hi p y=>by
  obtain⟨e,rfl⟩:=y;subst e;exact hs i ys σ _ hi p) hd
theorem nB{K:Ah}{a:Ag}{xs:List V}{g:TG}{J:TT}{te:TE}{M:St}{H₀:Hp}{Q:VK}(q:Nat→List V→St→Hp→Prop)(Y:q 0 [] M H₀)(hn:xs.length≤sizeLine)(F:∀ i ys σ H,q i ys σ H→ys.length≤i)
  (hl:∀ i ys σ H,q i ys σ H→SqL K H a xs)
  (hs:∀ i x ys σ H,xs[i]?=some x→q i ys σ H→g x σ H fun G H2=>J G H2 fun b O=>if b=true then te G O fun v Z=>q (i + 1) (ys ++ [v]) G Z else q (i + 1) ys G O)
  (hd:∀ ys σ H,q xs.length ys σ H→∀ D,H D=none→Q (.ref D) (upd H D (.lst ys))):vE (Itl K a) g J te M H₀ Q:=
 wL xs.length q Y hn F (fun i ys σ H h p=>⟨xs,xs[i],hl i ys σ H p,by simp[h]⟩) (fun ys σ H p=>⟨xs,hl _ ys σ H p,Am _⟩) (fun i ys σ H v H' hi p y=>by
  obtain⟨e,y⟩:=y;subst e;exact hs i v ys σ _ (y xs (hl i ys σ _ p)) p) hd
theorem dY{K:Ah}{a:Ag}{xs:List V}{g:TG}{J:TT}{te:TE}{M:St}{H₀:Hp}{Q:VK}(q:Nat→List V→St→Hp→Prop)(Y:q 0 [] M H₀)(hn:xs.length≤sizeLine)(F:∀ i ys σ H,q i ys σ H→ys.length≤i)
  (hl:∀ i ys σ H,q i ys σ H→SqT K H a xs)
  (hs:∀ i x ys σ H,xs[i]?=some x→q i ys σ H→g x σ H fun G H2=>J G H2 fun b O=>if b=true then te G O fun v Z=>q (i + 1) (ys ++ [v]) G Z else q (i + 1) ys G O)
  (hd:∀ ys σ H,q xs.length ys σ H→∀ D,H D=none→Q (.ref D) (upd H D (.lst ys))):vE (Itt K a) g J te M H₀ Q:=
 wL xs.length q Y hn F (fun i ys σ H h p=>⟨xs,xs[i],hl i ys σ H p,by simp[h]⟩) (fun ys σ H p=>⟨xs,hl _ ys σ H p,Am _⟩) (fun i ys σ H v H' hi p y=>by
  obtain⟨e,y⟩:=y;subst e;exact hs i v ys σ _ (y xs (hl i ys σ _ p)) p) hd
def bA(p:Ag)(H H':Hp):Prop:=∀ b o,H b=some o→b≠p→H' b=some o
theorem bA.refl(p:Ag)(H:Hp):bA p H H:=fun _ _ e _=>e
theorem bA.trans{p:Ag}{H H1 H2:Hp}(a:bA p H H1)(b:bA p H1 H2):bA p H H2:=fun c o e h=>b c o (a c o e h) h
theorem bA.same{p:Ag}{H H1 H2:Hp}(a:bA p H H1)(b:cA H1 H2):bA p H H2:=fun c o e h=>b c o (a c o e h)
theorem cA.but{p:Ag}{H H1:Hp}(a:cA H H1):bA p H H1:=fun c o e _=>a c o e
theorem bA.upd{p:Ag}{o:HO}{H H1:Hp}(a:bA p H H1):bA p H (upd H1 p o):=fun c u e h=>by rw[aF h];exact a c u e h
theorem aK{p:Ag}{o:HO}{H:Hp}(h:H p=none):cA H (upd H p o):=fun c u e=>by rw[aF (aJ e h)];exact e
section
variable{X:Cx}
end
section
variable{X:Cx}
inductive aDG(t:TS)(D:Ends)(σ:St)(H:Hp):Prop
 | mk (R:St→Hp→Prop) (q0:t { D with nx:=R } σ H) (q1:∀ σ' H',R σ' H'→D.nx σ' H'):aDG t D σ H
def aIS(t:TS):TS:=fun D σ H=>aDG t D σ H
theorem d6{st:Co}{t:TS}(h:PS X st t):PS X st (aIS t):=by
 constructor;intro iw s σ H D I q;obtain⟨R,q1,q2⟩:=q;refine thn (h iw s σ H _ I q1) fun f s' z=>?_;cases f with
 | next=>obtain⟨σ',H',I',r⟩:=z;exact⟨σ',H',I',q2 _ _ r⟩
 | brk=>exact z
 | cont=>exact z
 | ret u=>exact z
inductive aBm(t:TT)(σ:St)(H:Hp)(Q:(Bool→Hp→Prop)):Prop
 | mk (R:Bool→Hp→Prop) (q0:t σ H R) (q1:∀ b H',R b H'→Q b H'):aBm t σ H Q
def aHX(t:TT):TT:=fun σ H Q=>aBm t σ H Q
theorem aAM{e:Ba}{t:TT}(h:PT X e t):PT X e (aHX t):=by
 constructor;intro iw s σ H Q I q;obtain⟨R,q1,q2⟩:=q;exact thn (h iw s σ H _ I q1) fun b s' ⟨H',F,z⟩=>⟨H',F,q2 _ _ z⟩
end
theorem aDH{K:Ah}{T:String}:Fd K (.type T) (.type T)=some true:=by
 unfold Fd;rw[Ib (by rw[beq_self_eq_true])]
theorem aGU{xs:List V}{i:Int}(F:0≤i)(h1:i < xs.length):∃ v,v∈xs∧atI xs i=some v:=by
 have q:i.toNat < xs.length:=by omega
 refine⟨xs[i.toNat],BO q,?_⟩;have e:=f9 (xs:=xs) (j:=i.toNat) (v:=xs[i.toNat]) (Aj q);rw[En F]at e;exact e
def aDI:Ba→Bool
 | .Starred ..=>false
 | _=>true
theorem aCr{e:Ba}{es:List Ba}{env:Env}(h:aDI e=true):starEach (e :: es) env=(false,eval e env) :: starEach es env:=by
 cases e <;> first | rfl | cases h
theorem aG{X:Cx}{e:Ba}{es:List Ba}{te:TE}{t:TA}(ha:PE X e te)(q:PA X es t)(hs:aDI e=true:=by rfl):PA X (e :: es) (aBf te t):=aFc ha q (aCr hs)
section
variable{X:Cx}
inductive pF(K:Ah)(xs:List V)(H:Hp)(Q:VK):Prop
 | mk (p:Ag) (ns:List Int) (q0:xs=[.ref p]) (q1:SqL K H p (ns.map V.int)) (q2:Q (.int ns.sum) H):pF K xs H Q
def aAN(K:Ah):List V→Hp→VK→Prop:=fun xs H Q=>pF K xs H Q
theorem sW(hc:X.calm=true):eY X (.builtin "sum") (aAN X.K):=by
 intro iw s σ H xs Y Q I r h;obtain⟨p,ns,rfl,hx,q⟩:=h;obtain⟨u,rfl,ru⟩:=fS r;cases ru;obtain⟨its,rv,pl,_⟩:=I.list hx;have hi:Gf its ns:=aAA rv;have hl:=pl.isList;obtain⟨xs,hx'⟩:=hi.allInts.items;have F:s.heap.IsList p (intItems xs):=hx' ▸ hl;refine sum_intListG (I.ok.hd hc) F fun h' tk O G=>?_;have J:ns=xs.toList.map (·.1):=by
  rw[← nums_intItems,← hx'];exact(show numsOf its.toArray.toList=ns from hi.numsOf).symm
 have M:preSum (numAt xs) xs.size=ns.sum:=by
  rw[preSum_eq,Bk (by simp),J]
 rw[M];exact⟨.int ns.sum,H,I.kept G,⟨_,rfl⟩,q⟩
theorem Inv.turnedL{iw:Ih}{σ:St}{H:Hp}{s:Af}{h':Bi}{t':Nat}{fp:List Ag}(I:Inv X iw σ H s)(k:∀ b o,b ∉ fp→s.heap.get? b=some o→h'.get? b=some o)(G:∀ b∈fp,lP X iw H b):
  Inv X iw σ H { s with heap:=h',toks:=t' }:=by
 have F:∀ b u,H b=some u→b ∉ fp:=fun b u e z=>by rw[(G b z).1]at e;cases e
 refine I.step (g':=s.gens) (d':=s.drawn) (ch:=fp) (fun b J=>?_) (fun b o _ _ hc e _=>k b o hc e) (fun b o _ _ hc e _=>⟨o.slots,k b o hc e⟩) (fun _ _ _ _ n=>n)
  (fun b o hc e=>⟨o,k b o hc e⟩) (fun _ _ e=>e) (fun _ _ _ e=>e) (fun b ps e=>⟨#[],by rw[e];simp⟩) (fun m hm=>?_) (fun b u e=>?_) I.bare
 ·obtain⟨_,h1,_,h3,h4,h5⟩:=G b J;exact⟨h3,h1,h4,h5⟩
 ·obtain⟨o,es,ep,ho,r⟩:=hm;exact⟨o,es,ep,k _ o (fun z=>(G _ z).2.1 rfl) ho,r⟩
 ·refine(I.hok b u e).stay (fun c v hc q=>k c v ?_ q) (fun _ q=>q) fun _ _ q=>q;rcases hc with z | z
  ·rw[z];exact F b u e
  ·exact F c _ z
structure ZA(z TI TO i1 i2:Ag):Prop where
 a1:TI≠z
 a2:TO≠z
 a3:i1≠z
 a4:i2≠z
 a5:TI≠TO
 a6:TI≠i1
 a7:TI≠i2
 a8:TO≠i1
 a9:TO≠i2
 a10:i1≠i2
end
def j8(σ:List Str)(v:Str):List Str:=if v∈σ then σ else σ ++ [v]
def iE(val:Nat→Str):Nat→List Str
 | 0=>[]
 | i + 1=>j8 (iE val i) (val i)
theorem pG(σ:List Str)(k:Str):(σ.any fun x=>x == k)=decide (k∈σ):=by
 rw[CA,BG,decide_eq_true_iff];constructor
 ·rintro⟨x,hx,e⟩;rw[beq_iff_eq]at e;exact e ▸ hx
 ·intro h;exact⟨k,h,beq_self_eq_true k⟩
theorem aCs(σ:List Str)(v k:Str):((j8 σ v).any fun x=>x == k)=((σ.any fun x=>x == k) || decide (k=v)):=by
 rw[pG,pG];unfold j8;split
 ·next h=>
  rw[CA];simp only[decide_eq_true_eq,Bool.or_eq_true];constructor
  ·intro z;exact .inl z
  ·rintro(z | z)
   ·exact z
   ·exact z ▸ h
 ·rw[CA];simp
theorem kZ(σ:List Str)(v:Str):(j8 σ v).length=if (σ.any fun x=>x == v)=true then σ.length else σ.length + 1:=by
 rw[pG];unfold j8;by_cases h:v∈σ
 ·rw[Ib h,Ib (Ic h)]
 ·rw[Ia h,Ia (by simpa using h),Ay];rfl
theorem lA(val:Nat→Str):∀ i,(iE val i).length≤i
 | 0=>Am _
 | i + 1=>by
  have q:=lA val i;show(j8 _ _).length≤_;rw[kZ];split <;> omega
section
variable{X:Cx}
theorem tD(val:Nat→Str):∀ i k,k∈iE val i↔∃ j,j < i∧val j=k
 | 0,k=>by
  show k∈[]↔_;simp
 | i + 1,k=>by
  show k∈j8 (iE val i) (val i)↔_;have q:=tD val i;unfold j8;by_cases h:val i∈iE val i
  ·rw[Ib h,q k];constructor
   ·rintro⟨j,hj,e⟩;exact⟨j,by omega,e⟩
   ·rintro⟨j,hj,e⟩;by_cases z:j=i
    ·subst z;obtain⟨j',hj',e'⟩:=(q _).mp h;exact⟨j',hj',e'.trans e⟩
    ·exact⟨j,by omega,e⟩
  ·rw[Ia h,AO,q k,AE];constructor
   ·rintro(⟨j,hj,e⟩ | e)
    ·exact⟨j,by omega,e⟩
    ·exact⟨i,by omega,e.symm⟩
   ·rintro⟨j,hj,e⟩;by_cases z:j=i
    ·subst z;exact .inr e.symm
    ·exact .inl ⟨j,by omega,e⟩
theorem vH(val:Nat→Str):∀ i,(iE val i).length=i↔((AU i).map val).Nodup
 | 0=>by simp[iE]
 | i + 1=>by
  have F:=vH val i;have G:=lA val i;show(j8 (iE val i) (val i)).length=_↔_;rw[kZ,pG,DB,Aw,Bw];have hm:val i∈iE val i↔val i∈(AU i).map val:=by
   rw[tD,AQ];constructor
   ·rintro⟨j,hj,e⟩;exact⟨j,Ck.mpr hj,e⟩
   ·rintro⟨j,hj,e⟩;exact⟨j,Ck.mp hj,e⟩
  by_cases h:val i∈iE val i
  ·rw[Ib (Ic h)];constructor
   ·intro z;omega
   ·rintro⟨_,_,z⟩;exact absurd rfl (z _ (hm.mp h) _ (by simp))
  ·rw[Ia (by simpa using h)];constructor
   ·intro z;refine⟨F.mp (by omega),by simp,fun a ha b J e=>?_⟩;have q:b=val i:=by simpa using J
    subst q;exact h (hm.mpr (e ▸ ha))
   ·rintro⟨z,_,_⟩;rw[F.mpr z]
theorem aCt(ss:List Str):decide (((iE (fun i=>ss.getD i "") ss.length).length:Int)=(ss.length:Int))=decide ss.Nodup:=by
 have e:(AU ss.length).map (fun i=>ss.getD i "")=ss:=by
  apply DW;intro j;rw[Ao];by_cases h:j < ss.length
  ·rw[List.getElem?_range h,Aj h];simp[h]
  ·rw[Bo (by rw[FW];omega),Bo (by omega)];rfl
 have:=vH (fun i=>ss.getD i "") ss.length;rw[e]at this;rw[decide_eq_decide,← this];omega
inductive yI(K:Ah)(x:V)(y:V)(H:Hp)(Q:VK):Prop
 | mk (a:_) (b:_) (ys:_) (q0:x=.ref a) (q1:y=.ref b) (q2:SqT K H a []) (q3:SqT K H b ys) (q4:Q (.ref b) H):yI K x y H Q
def aGV(K:Ah):R2:=fun x y H Q=>yI K x y H Q
theorem aDJ:OpR X (binaryOp .Add) (aGV X.K):=by
 intro iw s σ H x y v u Q I G F h;obtain⟨a,b,ys,rfl,rfl,ha,hb,q⟩:=h;cases G;cases F;obtain⟨its,r1,p1,_⟩:=I.tuple ha;obtain⟨its2,r2,p2,_⟩:=I.tuple hb;cases r1;obtain⟨⟨cls,dd,data,sl⟩,ho,hc,n,hd⟩:=id p1;obtain⟨⟨cls2,dd2,data2,sl2⟩,ho2,hc2,n2,hd2⟩:=id p2;simp only at hc hd hc2 hd2;subst hc hd hc2 hd2;exact Hh ⟨_,ho,rfl⟩ ⟨_,ho2,rfl⟩ Gp Hd ER EI (EC _ _)
   (tuple_addW0 a b _ _ n n2 dd dd2 sl sl2 (by simp)) ⟨ho,ho2,⟨.ref b,H,I,rfl,q⟩⟩
end
section
variable{prog:AD}{w:AV}{A:AS}{E:Ad→Af→Prop}{s:Af}
end
section
variable{X:Cx}{e st:Ba}{te ts:TE}{pos p2:Pos}
end
section
variable{X:Cx}
end
mutual
inductive RdV(m:Bool)(H:Hp):V→A8→Prop
 | non:RdV m H .non .none
 | bl (b:Bool):RdV m H (.bl b) (.bool b)
 | int (i:Int):RdV m H (.int i) (.int i)
 | str (z:Str) (h:z.length≤1000):RdV m H (.str z) (.str z)
 | lst {a:Ag} {xs:List V} {ds:List A8} (hm:m=true) (e:H a=some (.lst xs)) (hl:xs.length≤1000) (r:cE m H xs ds):RdV m H (.ref a) (.list ds)
 | tup {a:Ag} {xs:List V} {ds:List A8} (e:H a=some (.tup xs)) (hl:xs.length≤1000) (r:cE m H xs ds):RdV m H (.ref a) (.tuple ds)
 | dct {a:Ag} (hm:m=false) (e:H a=some (.dK [])):RdV m H (.ref a) (.dict [])
inductive cE(m:Bool)(H:Hp):List V→List A8→Prop
 | nil:cE m H [] []
 | cons {x:V} {d:A8} {xs:List V} {ds:List A8} (a:RdV m H x d) (r:cE m H xs ds):cE m H (x :: xs) (d :: ds)
end
mutual
theorem RdV.keep{m:Bool}{H H':Hp}(k:∀ a o,H a=some o→(∀ q r,o≠.dK (q :: r))→H' a=some o):∀{x:V}{d:A8},RdV m H x d→RdV m H' x d
 | _,_,.non=>.non
 | _,_,.bl b=>.bl b
 | _,_,.int i=>.int i
 | _,_,.str z h=>.str z h
 | _,_,.lst hm e hl r=>.lst hm (k _ _ e (fun _ _ z=>nomatch z)) hl (cE.keep k r)
 | _,_,.tup e hl r=>.tup (k _ _ e (fun _ _ z=>nomatch z)) hl (cE.keep k r)
 | _,_,.dct hm e=>.dct hm (k _ _ e (fun _ _ z=>nomatch z))
theorem cE.keep{m:Bool}{H H':Hp}(k:∀ a o,H a=some o→(∀ q r,o≠.dK (q :: r))→H' a=some o):∀{xs:List V}{ds:List A8},cE m H xs ds→cE m H' xs ds
 | _,_,.nil=>.nil
 | _,_,.cons a r=>.cons (RdV.keep k a) (cE.keep k r)
end
theorem cE.same{m:Bool}{H H':Hp}{x:List V}{d:List A8}(h:cE m H x d)(s:cA H H'):cE m H' x d:=h.keep fun a o e _=>s a o e
theorem cE.len{m:Bool}{H:Hp}:∀{xs:List V}{ds:List A8},cE m H xs ds→xs.length=ds.length
 | _,_,.nil=>rfl
 | _,_,.cons _ r=>by rw[AI,AI,cE.len r]
theorem cE.app{m:Bool}{H:Hp}:∀{xs:List V}{ds:List A8}{ys:List V}{es:List A8},cE m H xs ds→cE m H ys es→cE m H (xs ++ ys) (ds ++ es)
 | _,_,_,_,.nil,h=>h
 | _,_,_,_,.cons a r,h=>.cons a (cE.app r h)
theorem cE.at{m:Bool}{H:Hp}:∀{xs:List V}{ds:List A8}{i:Nat}{x:V},cE m H xs ds→xs[i]?=some x→∃ d,ds[i]?=some d∧RdV m H x d
 | _,_,0,_,.cons a r,e=>by simp at e;subst e;exact⟨_,rfl,a⟩
 | _,_,i + 1,_,.cons a r,e=>by simp at e;simpa using cE.at r e
section
variable{X:Cx}
mutual
theorem RdV.reads{iw:Ih}{σ:St}{m:Bool}{H:Hp}{s:Af}(I:Inv X iw σ H s):∀{x:V}{d:A8}{v:Ad},RdV m H x d→cF x v→∃ as,Reads s.heap v d as∧(m=true→d.hasDict=false)∧(m=false→¬ sysModules∈as)
 | _,_,_,.non,r=>by cases r;exact⟨[],.none,fun _=>rfl,fun _=>by simp⟩
 | _,_,_,.bl b,r=>by cases r;exact⟨[],.bool b,fun _=>rfl,fun _=>by simp⟩
 | _,_,_,.int i,r=>by obtain⟨t,rfl⟩:=r;exact⟨[],.int i t,fun _=>rfl,fun _=>by simp⟩
 | _,_,_,.str z _,r=>by obtain⟨t,rfl⟩:=r;exact⟨[],.str z t,fun _=>rfl,fun _=>by simp⟩
 | _,_,_,.lst hm e _ rs,r=>by
  cases r;obtain⟨_,its,n,rv,eo⟩:cP X.prog X.w H s.heap _ (.lst _):=I.hok _ _ e;obtain⟨as,ra,h1,h2⟩:=cE.reads I rs rv;exact⟨_,.list eo rfl rfl (by simpa using ra),fun _=>h1 hm,fun z=>by rw[hm]at z;cases z⟩
 | _,_,_,.tup e _ rs,r=>by
  cases r;obtain⟨_,its,rv,pt⟩:cP X.prog X.w H s.heap _ (.tup _):=I.hok _ _ e;obtain⟨as,ra,h1,h2⟩:=cE.reads I rs rv;obtain⟨o,eo,⟨hc,n,hd⟩,_⟩:=pt;exact⟨as,.tuple eo hc hd (by simpa using ra),h1,h2⟩
 | _,_,_,.dct hm e,r=>by
  cases r;obtain⟨_,hs,vs,kv,o,es,ep,eo,hx,hd,hk,hp,_⟩:cP X.prog X.w H s.heap _ (.dK []):=I.hok _ _ e;cases kv;have q:es.toList=[]:=by
   cases h:es.toList with
   | nil=>rfl
   | cons y r=>rw[h]at hp;cases hp
  refine⟨_,Reads.dict (kvs:=[]) (as:=[]) (bs:=[]) eo hx.1 hd (by rw[q];exact .nil) (by rw[q];exact .nil),(fun z=>by rw[hm]at z;cases z),fun _=>?_⟩;intro z;simp at z;rw[z]at hs;simp at hs
theorem cE.reads{iw:Ih}{σ:St}{m:Bool}{H:Hp}{s:Af}(I:Inv X iw σ H s):∀{xs:List V}{ds:List A8}{vs:List Ad},cE m H xs ds→bX xs vs→∃ as,ReadsAll s.heap vs ds as∧(m=true→A9 ds=false)∧(m=false→¬ sysModules∈as)
 | _,_,_,.nil,.nil=>⟨[],.nil,fun _=>rfl,fun _=>by simp⟩
 | _,_,_,.cons a r,.cons q F=>by
  obtain⟨as,h1,h2,h3⟩:=RdV.reads I a q;obtain⟨bs,g1,g2,g3⟩:=cE.reads I r F;refine⟨as ++ bs,.cons h1 g1,fun z=>?_,fun z w=>?_⟩
  ·unfold A9;rw[h2 z,g2 z];rfl
  ·rcases AO.mp w with w | w
   ·exact h3 z w
   ·exact g3 z w
end
inductive nX(xs:List V)(H:Hp)(Q:VK):Prop
 | mk (a:Ag) (m:Bool) (d:A8) (q0:xs=[.ref a]) (q1:RdV m H (.ref a) d) (q2:d.showable=true) (q3:d.depth≤20) (q4:d.shown.length≤sizeLine) (q5:Q (.str d.shown) H):nX xs H Q
def yJ:List V→Hp→VK→Prop:=fun xs H Q=>nX xs H Q
theorem aCu{k:Nat}(F:dQ k X.A):eY X (.builtin "repr") yJ:=by
 intro iw s σ H xs J Q I r h;obtain⟨a,m,d,rfl,hx,hs,hd,hz,q⟩:=h;obtain⟨u,rfl,ru⟩:=fS r;cases ru;obtain⟨as,hrd,h1,h2⟩:=RdV.reads I hx rfl;refine repr_of_reads' hrd hs (fun z=>?_) F.gd (by have:=F.un;omega) (fun b o e=>e) (fun h' u tk G=>⟨.str d.shown,H,I.kept (t':=tk) G,⟨u,rfl⟩,q⟩) hz;cases m with
 | true=>rw[h1 rfl]at z;cases z
 | false=>exact h2 rfl
end
section
variable{prog:AD}{w:AV}{A:AS}{E:Ad→Af→Prop}{s:Af}
theorem pH{t F:Ag}{items:Array Ad}{J M:Ad}{lo hi:Option Int}{Q:Ad→Af→Prop}(ht:E9 s.heap t items)(hs:s.heap.IsSliceOf F J M .none)(pl:Fs J lo)(O:Fs M hi)
  (hw:HT.sIx items.size 0 lo=0∧HT.sIx items.size items.size hi=items.size) (h:Q (.ref t) s):wpAny (model prog w) A (getItem (.ref t) (.ref F)) Q E s:=by
 obtain⟨os,hos,hcs,hds⟩:=id hs;have G:s.TypeIs (.ref F) "slice":=⟨os,hos,hcs⟩
 unfold getItem
 try with_reducible refine Bj ?_
 first | refine Aa (Ae ?_) | skip
 refine Aa (wpAny_sequenceKey ht.typeIs (by decide) ?_);refine Aa (Cj (name:=Bn "__getitem__") ht.typeIs BU
  (Bz BU ht.typeIs entry_tuple_getitem ?_ (args_tuple_getitem _ _)))
 show wpAny _ _ (Builtin.Tuple.tupleItemsOf (.ref t) >>= _) _ _ s;refine Aa (tupleItemsOf_ ht ?_);refine Aa (Cn G ?_);rw[Ib (by decide)];refine Aa (HT.sliceApplied_gen hs pl O ?_);have q:(((HT.sIx items.size 0 lo:Nat):Int) == 0 && (1:Int) == 1 && (HT.sIx items.size items.size hi - HT.sIx items.size 0 lo) == items.size)=true:=by
  rw[hw.1,hw.2];simp
 show wpAny _ _ (if (((HT.sIx items.size 0 lo:Nat):Int) == 0 && (1:Int) == 1 && (HT.sIx items.size items.size hi - HT.sIx items.size 0 lo) == items.size)=true then _ else _) _ _ s;rw[Ib q];obtain⟨⟨cls,dd,data,sl'⟩,ho,hc,n,hd⟩:=id ht;simp only at hc hd;subst hc hd
 wp_walk
 exact⟨_,rfl,Ae h⟩
end
section
variable{X:Cx}
inductive aDK(K:Ah)(x:V)(lo:Option Int)(hi:Option Int)(H:Hp)(Q:VK):Prop
 | mk (a:_) (xs:_) (q0:x=.ref a) (q1:H a=some (.tup xs)) (q2:∀ r H',cA H H'→H' r=some (.tup (jZ xs lo hi))→Q (.ref r) H'):aDK K x lo hi H Q
def aIT(K:Ah):V→Option Int→Option Int→Hp→VK→Prop:=fun x lo hi H Q=>aDK K x lo hi H Q
theorem aBn:SlR X (aIT X.K):=by
 intro iw s σ H x v O Z lo hi Y Q I G hs pl J h;obtain⟨a,xs,rfl,hx,q⟩:=h;by_cases hw:HT.sIx xs.length 0 lo=0∧HT.sIx xs.length xs.length hi=xs.length
 ·cases G;obtain⟨its,r,ht,hz⟩:=I.tuple (aH hx);have F:its.toArray.size=xs.length:=by rw[Aq];exact r.length.symm
  refine⟨"tuple",_,BU.lookup,ht.typeIs,pH ht hs pl J (by rw[F];exact hw) ⟨.ref a,H,I,rfl,q a H (cA.refl H) ?_⟩⟩;have e:jZ xs lo hi=xs:=by
   unfold jZ;rw[hw.1,hw.2,DX,F1,AH]
  rw[e];exact hx
 ·exact aGJ iw s σ H _ v O Z lo hi Y Q I G hs pl J ⟨a,xs,rfl,aH hx,hw,fun p M=>q p _ (aK M) aA⟩
inductive aBo(x:V)(y:V)(H:Hp)(Q:VK):Prop
 | mk (a:_) (b:_) (xs:_) (ys:_) (q0:x=.ref a) (q1:y=.ref b) (q2:H a=some (.tup xs)) (q3:H b=some (.tup ys)) (q4:xs.length + ys.length≤1000000) (q5:∀ r H',cA H H'→H' r=some (.tup (xs ++ ys))→Q (.ref r) H'):aBo x y H Q
def aHY:R2:=fun x y H Q=>aBo x y H Q
theorem aFr:OpR X (binaryOp .Add) aHY:=by
 intro iw s σ H x y v u Q I J G h;obtain⟨a,b,xs,ys,rfl,rfl,ha,hb,hz,q⟩:=h;by_cases F:xs=[]
 ·subst F;exact aDJ iw s σ H _ _ v u Q I J G ⟨a,b,ys,rfl,rfl,aH ha,aH hb,q b H (cA.refl H) hb⟩
 ·refine aFg iw s σ H _ _ v u Q I J G ⟨a,b,xs,ys,rfl,rfl,aH ha,aH hb,F,aQ hz,fun h1=>?_,fun h1 p M=>q p _ (aK M) aA⟩;subst h1;exact q a H (cA.refl H) (by rw[BM];exact ha)
theorem wM{α:Type}(xs:List V)(n:Nat):jZ xs none (some (n:Int))=xs.take n:=by
 unfold jZ;rw[HT.sIx_none,HT.sIx_nat,DX,F1];by_cases h:n≤xs.length
 ·rw[Ek h]
 ·rw[Nat.min_eq_right (by omega),AH,Bk (by omega)]
theorem aDL{α:Type}(xs:List V)(n:Nat):jZ xs (some (n:Int)) none=xs.drop n:=by
 unfold jZ;rw[HT.sIx_none,HT.sIx_nat];by_cases h:n≤xs.length
 ·rw[Ek h];exact Bk (by rw[B6];exact Am _)
 ·rw[Nat.min_eq_right (by omega),DY (Am _),DY (by omega),List.take_nil]
mutual
theorem RdV.flip{H:Hp}:∀{x:V}{d:A8},RdV false H x d→d.hasDict=false→∀ m,RdV m H x d
 | _,_,.non,_,_=>.non
 | _,_,.bl b,_,_=>.bl b
 | _,_,.int i,_,_=>.int i
 | _,_,.str z h,_,_=>.str z h
 | _,_,.lst hm _ _ _,_,_=>nomatch hm
 | _,_,.tup e hl r,h,m=>.tup e hl (cE.flip r (by unfold DJ at h;exact h) m)
 | _,_,.dct _ _,h,_=>by unfold DJ at h;cases h
theorem cE.flip{H:Hp}:∀{xs:List V}{ds:List A8},cE false H xs ds→A9 ds=false→∀ m,cE m H xs ds
 | _,_,.nil,_,_=>.nil
 | _,_,.cons a r,h,m=>by
  unfold A9 at h;rw[Bool.or_eq_false_iff]at h;exact .cons (RdV.flip a h.1 m) (cE.flip r h.2 m)
end
mutual
theorem RdV.keepF{H H':Hp}(k:∀ a o,H a=some o→(∀ q r,o≠.dK (q :: r))→(∀ xs,o≠.lst xs)→H' a=some o):∀{x:V}{d:A8},RdV false H x d→RdV false H' x d
 | _,_,.non=>.non
 | _,_,.bl b=>.bl b
 | _,_,.int i=>.int i
 | _,_,.str z h=>.str z h
 | _,_,.lst hm _ _ _=>nomatch hm
 | _,_,.tup e hl r=>.tup (k _ _ e (fun _ _ z=>nomatch z) (fun _ z=>nomatch z)) hl (cE.keepF k r)
 | _,_,.dct hm e=>.dct hm (k _ _ e (fun _ _ z=>nomatch z) (fun _ z=>nomatch z))
theorem cE.keepF{H H':Hp}(k:∀ a o,H a=some o→(∀ q r,o≠.dK (q :: r))→(∀ xs,o≠.lst xs)→H' a=some o):∀{xs:List V}{ds:List A8},cE false H xs ds→cE false H' xs ds
 | _,_,.nil=>.nil
 | _,_,.cons a r=>.cons (RdV.keepF k a) (cE.keepF k r)
end
end
open PySem PySem.Spec PyProof.Rows PySem.W
def aIU{α:Type}(n:Nat)(P:α→Prop):KasT α→Prop
 | .ret a=>P a
 | .ask i j k=>i < n∧j < n∧∀ b,aIU n P (k b)
def Pm(n:Nat)(p:Array Nat):Prop:=p.Perm (AU n).toArray
section
variable{n:Nat}(hn:0 < n)
include hn
end
section
variable{prog:AD}{w:AV}{A:AS}{E:Ad→Af→Prop}{s:Af}
theorem aBp{a b:Int}{t u:Tok}{Q:Bool→Af→Prop}(h:∀ b,Q b s):wpAny (model prog w) A (oneLt' false (Bq a t) (Bq b u)) Q E s:=by
 rw[oneLt'_eq];show wpAny _ _ (compareOp .Lt (Bq a t) (Bq b u) >>= _) _ _ _;refine Aa (lt_int ?_)
 wp_walk
 exact h _
theorem gW{x:Ag}{its:Array Ad}{Q:Array Ad→Af→Prop}(hx:E9 s.heap x its)(h:Q its s):wpAny (model prog w) A (CW (AF x)) Q E s:=by
 obtain⟨⟨cls,dd,data,sl⟩,ho,hc,n,hd⟩:=id hx;simp only at hc hd;subst hc hd;unfold CW
 wp_walk
 exact h
end
section
variable{prog:AD}{w:AV}{A:AS}{E:Ad→Af→Prop}{s:Af}
inductive aDM(h:Bi)(v:Ad):Prop
 | mk (t:_) (a:_) (b:_) (c:_) (u1:_) (u2:_) (u3:_) (q0:v=.ref t) (q1:E9 h t #[.int a u1,.int b u2,.str c u3]):aDM h v
def aJe(h:Bi)(v:Ad):Prop:=aDM h v
theorem lZ{α β:Type}{f:α→Sem β}{R:α→β→Prop}:∀(l:List α) {Q:List β→Af→Prop},(∀ v∈l,∃ r,R v r∧∀ J:β→Af→Prop,J r s→wpAny (model prog w) A (f v) J E s)→(∀ rs:List β,rs.length=l.length→(∀ r∈rs,∃ v∈l,R v r)→Q rs s)→wpAny (model prog w) A (List.mapM f l) Q E s
 | [],Q,_,q=>by
  rw[List.mapM_nil];exact Ae (q [] rfl fun r G=>by simp at G)
 | a :: l,Q,h,q=>by
  rw[List.mapM_cons];obtain⟨r,G,hw⟩:=h a Al;refine Aa (hw _ (Aa (lZ l (fun v hv=>h v (An _ hv)) fun rs hl F=>Ae (q (r :: rs) (by rw[AI,AI,hl]) fun z hz=>?_))));rcases Ak.mp hz with rfl | hz
  ·exact⟨a,Al,G⟩
  ·obtain⟨v,hv,hR⟩:=F z hz;exact⟨v,An _ hv,hR⟩
end
section
variable{prog:AD}{w:AV}{A:AS}{E:Ad→Af→Prop}{s:Af}
theorem aHZ{a kS:Ag}{st:Bl}{keys:Array Ad}{e e1:Nat}{P:Gu→Af→Prop}(ha:s.heap.get? a=some (seqObj "list" #[] e1))(J:s.heap.get? kS=some (seqObj "list" keys e))(F:a≠kS)(G:keys.size≤sizeLine)(hz:(arrOf st).size≤sizeLine)(M:failedOf st=none)
  (h:P (Fin.done (Hb CU)) { s with heap:=(s.heap.update kS (A5 fun _=>#[])).update a (A5 fun _=>(arrOf st).map (·.2)) }):wpAny (model prog w) A (ksk_tail a false e1 (.ref kS) st) P E s:=by
 unfold ksk_tail;refine Aa (Di J rfl ?_ G (Bc _));refine Aa (wpAny_letGo ?_);have q:(s.heap.update kS (A5 fun _=>#[])).get? a=some (seqObj "list" #[] e1):=by
  rw[BV _ _ _ _ F];exact ha
 refine Aa (FG q rfl ?_);refine Aa (Di q rfl ?_ (Bc _) (by show((arrOf st).map (·.2)).size≤_;rw[Array.size_map];omega))
 rw[M];refine AR (by simp) ?_;exact Ae h
end
theorem aCv:∀{out its:List Ad},out.Perm its→∀{xs:List V},bX xs its→∃ ys:List V,ys.Perm xs∧bX ys out:=by
 intro out its O
 induction O with
 | nil=>intro xs r;exact⟨xs,.refl _,r⟩
 | cons a _ M=>
  intro xs r;cases r with
  | cons J q=>
   obtain⟨ys,h1,h2⟩:=M q;exact⟨_ :: ys,h1.cons _,.cons J h2⟩
 | swap a b l=>
  intro xs r;cases r with
  | cons J q=>
   cases q with
   | cons Z Y=>exact⟨_ :: _ :: _,.swap _ _ _,.cons Z (.cons J Y)⟩
 | trans _ _ G F=>
  intro xs r;obtain⟨ys,h1,h2⟩:=F r;obtain⟨zs,h3,h4⟩:=G h2;exact⟨zs,h3.trans h1,h4⟩
section
variable{X:Cx}{iw:Ih}{σ:St}
inductive aDN(H:Hp)(v:Ad):Prop
 | mk (t:_) (a:_) (b:_) (c:_) (q0:v=.ref t) (q1:H t=some (.tup [.int a,.int b,.str c])):aDN H v
def aJf(H:Hp)(v:Ad):Prop:=aDN H v
end
section
variable{X:Cx}{iw:Ih}{σ:St}{H:Hp}{s:Af}
end
section
variable{X:Cx}{e:Ba}{ta:TA}
end
open PySem.SeqAt
open PySem.AutoSeq1 (wpAny_loadPart')
open PySem.MeetsSeq PySem.MeetsSeq2 PySem.MeetsSeq3
theorem yK{X:Cx}{iw:Ih}{σ:St}{H:Hp}{s:Af}{t:Ag}{a b:Int}{c:Str}(I:Inv X iw σ H s)(ht:H t=some (.tup [.int a,.int b,.str c])):∃ F G J,E9 s.heap t #[.int a F,.int b G,.str c J]:=by
 obtain⟨_,its,q,hT⟩:cP X.prog X.w H s.heap t (.tup [.int a,.int b,.str c]):=I.hok _ _ ht;cases q with
 | cons O q=>
  cases q with
  | cons M q=>
   cases q with
   | cons Y q=>
    cases q;obtain⟨F,e1⟩:=O;obtain⟨G,e2⟩:=M;obtain⟨J,e3⟩:=Y;subst e1 e2 e3;exact⟨F,G,J,hT⟩
inductive aGh(X:Cx)(k:Nat)(ps:List Str)(f:Ag)(sp:Sp):Prop
 | mk (fd:A3) (q0:cY X.prog X.w X.K X.mg X.base CX0 k f fd ps sp) (q1:AT X.K (.ref f)=true) (q2:fX X.K fd ps []):aGh X k ps f sp
def FnV(X:Cx)(k:Nat)(ps:List Str)(f:Ag)(sp:Sp):Prop:=aGh X k ps f sp
def aGW(X:Cx)(k:Nat)(ps:List Str)(tv:TE)(t:TA):TE:=fun σ H Q=>tv σ H fun v H1=>∃(f:Ag) (sp:Sp),v=.ref f∧FnV X k ps f sp∧t σ H1 fun vs H2=>sp vs H2 Q E0
theorem aDO{X:Cx}{k:Nat}{ps:List Str}{x:Str}{p pos:Pos}{e:Ba}{es:List Ba}{tv:TE}{t:TA}(hv:PE X (.Name x p) tv)(Z:dQ k X.A)(ha:PA X (e :: es) t)
  (he:starEach (e :: es) X.env=(false,eval e X.env) :: starEach es X.env:=by rfl) (G:(backTo pos (starEach es X.env)).any (·.1)=false:=by rfl):
  PE X (.Call (.Name x p) (e :: es) [] pos) (aGW X k ps tv t):=by
 constructor;intro iw s σ H Q I h;refine Dc (thn (hv iw s σ H _ I h) fun u s1 ⟨y,H1,J,ry,f,sp,ey,⟨fd,F,Y,O⟩,h2⟩=>?_);subst ey;cases ry;refine Fq (h₀:=X.base) J.ok.mod.kin Y (thn (ha pos iw s1 σ H1 _ J h2) fun us s2 ⟨vs,H2,M,r,q⟩=>⟨M.kIn,?_⟩) he G;exact aDf F Z O .nil dX M r (by rw[BM];exact q)
def aH0(iz:List (Key×V))(ty:TE):TE:=fun σ H Q=>ty σ H fun y H2=>∃ k v,y=kV k∧bF iz k=some v∧Q v H2
theorem aFs{X:Cx}{i:Ba}{x:Str}{ty:TE}{a:Ag}{vs:List (Key×Ad)}{iz:List (Key×V)}{p pos:Pos}(hd:∀ h:Bi,X.K.In h→h.DictOf (cM X.prog X.w) a vs)(rel:KV iz vs)(O:Gl X x)(hm:X.mg x=some (.ref a))(hi:PE X i ty)(hs:aGM i)(q:(x == ("__debug__":Str))=false:=by decide):
  PE X (.Subscript (.Name x p) i pos) (aH0 iz ty):=by
 constructor;intro iw s σ H Q I h;have ho:PE X (.Name x p) (tC (.ref a)):=aE7 O hm rfl q;refine aBj PySem.F.slot_dict_getitem.lookup hs (thn (ho iw s σ H (fun v H1=>v=.ref a∧ty σ H1 fun y H2=>∃ k v,y=kV k∧bF iz k=some v∧Q v H2) I ⟨rfl,h⟩) fun u s1 ⟨x,H1,Z,M,ex,q1⟩=>thn (hi iw s1 σ H1 _ Z q1) fun iv s2 ⟨y,H2,J,Y,k,v,ey,l,q2⟩=>?_);subst ex ey;obtain rfl:u=AF a:=M;have G:=hd s2.heap J.kIn;refine⟨?_,?_⟩
 ·obtain⟨o,es,ep,e,hx,_⟩:=G;exact⟨o,e,hx.1⟩
 ·obtain⟨w',hw,rw'⟩:=lQ.some_of (v:=v) (o:=valueAt vs k) (by rw[← l];exact rel.val k);exact wpAny_getItem_of (nS Y) G.mapOf hw ⟨v,H2,J.tok _,rw',q2⟩
section
variable{X:Cx}{iw:Ih}{σ:St}{H:Hp}{s:Af}{A:AS}{E:Ad→Af→Prop}{Q:Ad→Af→Prop}{b:Bool}
end
theorem tE:∀{ss:List Str}{q:List Ad},bX (ss.map V.str) q→Eb q ss
 | [],_,r=>by rw[CS]at r;cases r;exact .nil
 | s :: ss,_,r=>by
  rw[Au]at r;cases r with
  | cons G F=>
   obtain⟨t,e⟩:=G;subst e;exact .cons s t (tE F)
theorem iQ:∀{q:List Ad}{ns:List Str},Eb q ns→bX (ns.map V.str) q
 | _,_,.nil=>.nil
 | _,_,.cons i t r=>.cons ⟨t,rfl⟩ (iQ r)
def tF(w:AV)(es:Array (Int×Ad))(t:C5):Prop:=t.led=!w.params.followText "set-order"∧(es.size=0∨t.plain=false)
def lB(prog:AD)(w:AV)(h:Bi)(a:Ag)(S:Str→Bool)(n:Nat):Prop:=
 ∃ o es ep t,h.get? a=some o∧o.ExactSet∧o.data=.set es ep t∧ElemsOf (BP prog w) es.toList∧(∀ k,S k=true↔∃ e∈es.toList,(BP prog w).is k e.2=true)
  ∧es.size < scanBound∧t.fits es.size=true∧es.size=n∧tF w es t
theorem lB.at{prog:AD}{w:AV}{h h':Bi}{a:Ag}{S:Str→Bool}{n:Nat}(x:lB prog w h a S n)(e:∀ o,h.get? a=some o→h'.get? a=some o):lB prog w h' a S n:=by
 obtain⟨o,es,ep,t,h1,r⟩:=x;exact⟨o,es,ep,t,e o h1,r⟩
theorem lB.congr{prog:AD}{w:AV}{h:Bi}{a:Ag}{S S':Str→Bool}{n q:Nat}(x:lB prog w h a S n)(e:∀ k,S k=S' k)(F:n=q):lB prog w h a S' q:=by
 have G:S=S':=funext e;subst G F;exact x
theorem uJ(t:C5)(n:Nat):(t.orStandIn n).led=t.led:=by
 unfold SetTable.orStandIn;split <;> rfl
theorem aAO(t:C5)(es:Array (Int×Ad))(h:Int)(x:Ad):(layNew t es h x).2.1.led=t.led:=by
 unfold layNew;split
 ·exact uJ _ _
 ·rfl
theorem uK(t:C5)(es:Array (Int×Ad))(n:Nat)(F:t.plain=false):(relayAll t es n).2.1.led=t.led∧(relayAll t es n).2.1.plain=false:=by
 unfold relayAll;split
 ·next t' ord e=>
  dsimp only;split
  ·dsimp only;unfold SetTable.relaid SetTable.laid at e;cases q:SetTable.layClean (SetTable.sizeAbove n - 1) (es.map (·.1))with
   | none=>rw[q]at e;cases e
   | some ow=>
    rw[q]at e;cases e;exact⟨rfl,F⟩
  ·exact⟨rfl,rfl⟩
 ·exact⟨rfl,rfl⟩
theorem lB.stored{prog:AD}{w:AV}{h:Bi}{a:Ag}{o:Obj}{es:Array (Int×Ad)}{ep:Nat}{t:C5}(ho:h.get? a=some o)(J:o.ExactSet)(hd:o.data=.set es ep t)
  {q:Array (Int×Ad)} {t':C5} {S':Str→Bool} (G:ElemsOf (BP prog w) q.toList) (F:∀ k,S' k=true↔∃ e∈q.toList,(BP prog w).is k e.2=true) (O:q.size < scanBound) (M:t'.fits q.size=true) (Y:tF w q t'):
  (h.update a (Hl q t')).get? a=some { o with data:=.set q (ep + 1) t' }∧lB prog w (h.update a (Hl q t')) a S' q.size:=by
 obtain⟨hg,_⟩:=SetOf_store (knd:=BP prog w) (S':=S') ho J hd G F O M;exact⟨hg,_,q,ep + 1,t',hg,J,rfl,G,F,O,M,rfl,Y⟩
theorem aH1{prog:AD}{w:AV}{A:AS}{E:Ad→Af→Prop}{s:Af}{a:Ag}{S:Str→Bool}{n:Nat}{k:Str}{tk:Tok}{Q:Bool→Af→Prop}(hS:lB prog w s.heap a S n)(Y:n + 1 < scanBound)
  (h:∀ h',Dr a s.heap h'→lB prog w h' a (fun k'=>S k' || decide (k'=k)) (if S k then n else n + 1)→Q (!S k) { s with heap:=h' }):
  wpAny (model prog w) A (setAddHashed a (.str k tk) ((BP prog w).hash k)) Q E s:=by
 have aa:=strKind_is prog w k tk;obtain⟨o,es,ep,t,ho,hex,hd,hel,hmem,hb,hf,hn,hTab⟩:=hS;have ay:es.size + 1 < scanBound:=by rw[hn];exact Y
 unfold setAddHashed setAddHashedIn;refine Bj (Aa (Dp ho hd hf ?_));dsimp only;rw[byScan_of (x:=BA k tk) rfl hb hel,Ib rfl];unfold setAddByScan;refine Aa (Aa (Ch (Aa (wpAny_setScan_of aa ho hd hf hel ?_))));cases hr:List.findIdx? (fun e=>(BP prog w).is k e.2) es.toList with
 | some j=>
  dsimp only;obtain⟨hj,hpj,_⟩:=List.findIdx?_eq_some_iff_getElem.mp hr;have Z:S k=true:=(hmem k).mpr ⟨es.toList[j],BO hj,hpj⟩;refine Ae (Ae ?_);have q:=h s.heap (Heap.SameBut.refl a s.heap) ⟨o,es,ep,t,ho,hex,hd,hel,fun z=>by
   rw[Bool.or_eq_true,decide_eq_true_eq,← hmem z];exact⟨fun hz=>hz.elim id (fun e=>e ▸ Z),.inl⟩,hb,hf,by rw[Z];exact hn,hTab⟩
  rw[Z]at q;exact q
 | none=>
  dsimp only;have Z:S k=false:=by
   cases hz:S k with
   | false=>rfl
   | true=>
    obtain⟨e,he,hp⟩:=(hmem k).mp hz;have z:=List.findIdx?_eq_none_iff.mp hr e he;rw[hp]at z;exact Bool.noConfusion z
  have F:=layNew_perm t es ((BP prog w).hash k) (BA k tk);have G:=layNew_fits t es ((BP prog w).hash k) (BA k tk);have M:=aAO t es ((BP prog w).hash k) (BA k tk);generalize hL:layNew t es ((BP prog w).hash k) (BA k tk)=L at F G M ⊢;obtain⟨es1,t1,wasD,gave⟩:=L;dsimp only at F G M ⊢;rw[Cw]at F;have ah:ElemsOf (BP prog w) es1.toList:=(hel.push aa rfl).perm F;have O:=mem_push_iff aa hmem F;have ag:es1.size=n + 1:=by rw[← Bf,F.length_eq,Ay,Bf,hn];rfl
  have ai:es1.size < scanBound:=by rw[ag];exact Y
  have gw:∀(b:Bool) {s₁:Af} {Q':Unit→Af→Prop},Q' () s₁→wpAny (model prog w) A (match b with | true=>rule "set.scan.the-table-gave-way" | false=>pure ()) Q' E s₁:=fun b s₁ Q' hq=>by cases b <;> first | exact Ae hq | exact Ch hq
  have ae:∀ h',Dr a s.heap h'→lB prog w h' a (fun k'=>S k' || decide (k'=k)) es1.size→Q true { s with heap:=h' }:=fun h' x1 x2=>by
   have q:=h h' x1;rw[Z]at q;rw[ag]at x2;exact q x2
  have af:∀ J:C5,J.led=t.led→J.plain=false→J.fits es1.size=true→
    wpAny (model prog w) A (do
     storeSet a es1 J
     if (!wasD && J.tooFull)=true then do
       (match (relayAll J es1 (Db es1.size)).2.2 with | true=>rule "set.scan.the-table-gave-way" | false=>pure ())
       storeSet a (relayAll J es1 (Db es1.size)).1 (relayAll J es1 (Db es1.size)).2.1
       pure (some true)
      else pure (some true)) (fun r s'=>wpAny (model prog w) A (match r with | some added=>pure added | none=>setAddHashedIn a (.str k tk) ((BP prog w).hash k) 99999) Q E s') E s:=by
   intro J l2 p2 f2;refine Aa (wpAny_storeSet_of ho hd ?_ (E4 ai));obtain⟨ho1,hS1⟩:=lB.stored (prog:=prog) (w:=w) ho hex hd ah O ai f2 ⟨by rw[l2];exact hTab.1,.inr p2⟩;have al:=BI s.heap a (Hl es1 J);split
   ·have hp:=relayAll_perm J es1 (Db es1.size);have aj:=relayAll_fits J es1 (Db es1.size);obtain⟨rl,rp⟩:=uK J es1 (Db es1.size) p2;generalize relayAll J es1 (Db es1.size)=R at hp aj rl rp ⊢;obtain⟨es2,t3,g2⟩:=R;dsimp only at hp aj rl rp ⊢;have ao:ElemsOf (BP prog w) es2.toList:=ah.perm hp;have ak:∀ z,(S z || decide (z=k))=true↔∃ e∈es2.toList,(BP prog w).is z e.2=true:=fun z=>(O z).trans ⟨fun⟨e,he,q⟩=>⟨e,hp.mem_iff.mpr he,q⟩,fun⟨e,he,q⟩=>⟨e,hp.mem_iff.mp he,q⟩⟩;have ad:es2.size=es1.size:=by rw[← Bf,hp.length_eq,Bf]
    have am:es2.size < scanBound:=by rw[ad];exact ai
    refine Aa (gw _ (Aa (wpAny_storeSet_of ho1 rfl ?_ (E4 am))));obtain⟨_,hS2⟩:=lB.stored (prog:=prog) (w:=w) ho1 hex rfl ao ak am aj ⟨by rw[rl,l2];exact hTab.1,.inr rp⟩;rw[ad]at hS2;exact Ae (Ae (ae _ (al.trans (BI _ a _)) hS2))
   ·exact Ae (Ae (ae _ al hS1))
  refine Aa (gw _ ?_);split
  ·next hpl=>
   rw[hashByValue_scannable 8 (x:=BA k tk) rfl];refine Aa (Ae ?_);exact af { t1 with plain:=false } M rfl (SetTable.fits_plain_off G)
  ·next hpl=>
   refine Aa (Ae ?_);exact af t1 M (by simpa using hpl) G
theorem aGX{prog:AD}{w:AV}{A:AS}{R:G7→Af→Prop}{I:Ag}{fp wr:List Ag}{G:Array Gk→Array Gk→Prop}{n:Nat}{P:Nat→Ad→Prop}{St:Nat→Af→Prop}
  (W:WalksS prog w A.in1 I fp wr G n P St) (S:Ag) (Z:¬ S∈fp) (val:Nat→Str) (ah:∀(i:Nat) (v:Ad),P i v→∃ t,v=BA (val i) t) (Y:n + 1 < scanBound):
  ∀(k i:Nat) (s:Af),n - i=k→i≤n→St i s→lB prog w s.heap S (fun O=>(iE val i).any fun x=>x == O) (iE val i).length→
   (∀ s':Af,Moved (S :: wr) G s s'→lB prog w s'.heap S (fun O=>(iE val n).any fun x=>x == O) (iE val n).length→R (Hg (Hb CU)) s')→
   codeAny (model prog w) A (Code.builtin "set.update.loop" { pos:=[AF S,AF I] }) R s:=by
 have ab:¬ S∈wr:=fun h=>Z (W.sub S h);have q:∀ b,b∈wr→b∈S :: wr:=fun b Y=>An S Y;intro k
 induction k with
 | zero=>
  intro i s hk hi J hS hR;have al:i=n:=by omega
  subst al;refine Cp PyProof.Rows.F.entry_set_update_loop ?_;rw[B1 C7];refine Aa (W.done s _ _ J fun s' hm=>?_);refine Ae (hR s' (Ge hm q) ?_);exact hS.at fun o ho=>hm.heap S o ab ho
 | succ k ih=>
  intro i s hk hi J hS hR;have ag:i < n:=by omega
  refine Cp PyProof.Rows.F.entry_set_update_loop ?_;rw[B1 C7];refine Aa (W.item i s _ _ ag J fun v s' hP ae hm=>?_);obtain⟨t,rfl⟩:=ah i v hP;have ak:lB prog w s'.heap S (fun O=>(iE val i).any fun x=>x == O) (iE val i).length:=by
   exact hS.at fun o ho=>hm.heap S o ab ho
  have M:(iE val i).length + 1 < scanBound:=by
   have:=lA val i;omega
  refine Aa (Bj (Bj (Aa ((BP prog w).pyHash (strKind_is prog w (val i) t) ?_))));refine aH1 ak M fun h' ai aj=>?_;refine Ae ⟨DP C7 _,?_⟩;refine ih (i + 1) _ (by omega) ag (W.frame (i + 1) s' h' _ ae (CF s'.toks) fun b Y o e=>?_) ?_ fun an ad aa=>?_
  ·rw[ai.right b fun h=>Z (h ▸ Y)];exact e
  ·refine aj.congr (fun O=>?_) ?_
   ·show _=((j8 _ _).any _)
    rw[aCs]
   ·show _=(j8 _ _).length;rw[kZ]
  ·refine hR an (Moved.trans W.gtrans (Moved.then_heap (Ge hm q) (CF s'.toks) fun b o Y e=>?_) ad) aa;rw[ai.right b fun h=>Y (h ▸ Al)];exact e
theorem aH2{prog:AD}{w:AV}{A:AS}{E:Ad→Af→Prop}{s:Af}(a:Ad){Q₁:Ad→Af→Prop}
  (h:Q₁ (.ref s.heap.objs.size) { s with heap:=s.heap.push { cls:=.type "set",dict:=none,data:=.set #[] 0 (.fresh 0 0 (!w.params.followText "set-order")) } }):
  codeAny (model prog w) A (.call (.builtin "set.__new__") ⟨[.type "set",a],[]⟩) (wants Q₁ E) s:=by
 apply codeAny_of_tree;show wpAny (model prog w) A.in1 (checkBuiltinCall "set.__new__" ⟨[.type "set",a],[]⟩ >>= fun _=>again (.builtin "set.__new__" ⟨[.type "set",a],[]⟩)) _ _ s;apply Aa;refine E3 (F.newCall_set_1 a) (Ae ⟨DP F.plain_set_new _,?_⟩);apply Cp F.entry_set_new;rw[B1 F.plain_set_new];unfold Builtin.«set.__new__» Builtin.Frozenset.newClass;have q:=sub_set_self;obtain⟨hp,gs,dr,tk,os⟩:=s;dsimp only
 wp_walk
 apply DA;apply Ae;dsimp only;simp only[newObj];apply Aa;apply wpAny_alloc;exact Ae (Ae h)
theorem yL{prog:AD}{w:AV}{A:AS}{E:Ad→Af→Prop}{s:Af}{l:Ag}{items:Array Ad}{val:Nat→Str}{Q:Ad→Af→Prop}(hh:A.handled=none)(hl:s.heap.IsList l items)
  (hi:∀(i:Nat) (v:Ad),items[i]?=some v→∃ t,v=BA (val i) t) (hb:items.size + 1 < scanBound)
  (h:∀(h':Bi) (tk:Nat),lB prog w h' s.heap.objs.size (fun k'=>(iE val items.size).any fun x=>x == k') (iE val items.size).length→
   (∀(b:Nat) (o:Obj),b < s.heap.objs.size→s.heap.get? b=some o→h'.get? b=some o)→Q (AF s.heap.objs.size) { s with heap:=h',toks:=tk }):
  wpAny (model prog w) A (call (Br "set") [AF l]) Q E s:=by
 obtain⟨c,tl,hmro⟩:=ED.mro;have O:=ED.made;have ad:=ED.sub;have ak:=F.typeCall_set_1 (AF l);refine Fk (codeAny_of_tree (Ae ⟨Code.quiet_builtin _ (by decide),Cp F.entry_type_call ?_⟩));rw[Around.under_plain (weight_type_call_type "set" [AF l] []) rfl];unfold Builtin.«type.__call__»;dsimp only
 iterate 2 refine AR (by first | rfl | decide) ?_
 refine Aa (E3 ak ?_);refine Aa (E3 hmro ?_);refine AR (by first | rfl | decide) ?_;refine Aa (E3 O ?_);refine Aa (Ae ?_);refine Aa (Bj (Fk (Ea (aH2 (Q₁:=fun obj s₁=>∃ led,led=(!w.params.followText "set-order")∧obj=AF s.heap.objs.size∧s₁={ s with heap:=s.heap.push { cls:=Br "set",data:=Ez #[] 0 (CC 0 0 led) } }) (E:=E) (AF l) ⟨_,rfl,rfl,rfl⟩) fun r s₁ G=>?_)));cases r with
 | error e=>exact G
 | ok fl=>
  cases fl with
  | next=>exact G.elim
  | brk=>exact G.elim
  | cont=>exact G.elim
  | ret v=>
   obtain⟨led,hled,rfl,rfl⟩:=G;have hS:=At s.heap (o:={ cls:=Br "set",data:=Ez #[] 0 (CC 0 0 led) }) rfl;have hT:Fp { s with heap:=s.heap.push { cls:=Br "set",data:=Ez #[] 0 (CC 0 0 led) } } (AF s.heap.objs.size) "set":=⟨_,hS,rfl⟩
   have an:=ED.init.lookup;have ai:=ED.init.bind (AF s.heap.objs.size);obtain⟨ol,hol,hcl,nl,hdl⟩:=hl;have J:=Ai { cls:=Br "set",data:=Ez #[] 0 (CC 0 0 led) } hol;have Z:Heap.IsList (s.heap.push { cls:=Br "set",data:=Ez #[] 0 (CC 0 0 led) }) l items:=⟨ol,J,hcl,nl,hdl⟩
   refine Aa (C4 hT ad ?_);refine AR (by first | rfl | decide) ?_;refine Aa (Bj ?_);unfold callSpecial?;refine Aa (Gx hT an ?_);dsimp only;refine Bj ?_;refine Aa (E3 ai ?_);refine Aa (Fk (Ea (codeAny_call_builtin ED.init.plain F.entry_set_init (R:=fun r s'=>match r with | .ok (.ret v)=>v=.none∧Q (.ref s.heap.objs.size) s' | _=>False) (check_set_init_1 hT ?_)) fun r s₁ G=>?_))
   ·unfold Builtin.«set.__init__»;refine Aa (BZ (by first | rfl | decide) (Ae ?_));refine Aa (Aa (Aa (Cn hT (AR (by first | rfl | decide) (Ae ?_)))));refine Ae ?_;refine Aa ?_;unfold checkCount
    iterate 2 refine AR (by first | rfl | decide) ?_
    refine AR (by first | rfl | decide) (Ae ?_);refine Aa (Ae ?_);refine Aa ?_;unfold setUsed setState;refine Aa (Aa (wpAny_load' hS ?_));dsimp only;refine AR (by first | rfl | decide) (Ae ?_);refine Ae ?_;refine AR (by first | rfl | decide) ?_;show wpAny _ _ (do let ar ← Builtin.Frozenset.updateFrom "set.__init__" s.heap.objs.size (AF l);ret CU) _ _ _;refine Aa ?_;unfold Builtin.Frozenset.updateFrom;refine Aa ?_;have M:Fp { s with heap:=s.heap.push { cls:=Br "set",data:=Ez #[] 0 (CC 0 0 led) } } (AF l) "list":=⟨ol,J,hcl⟩
    unfold Builtin.Frozenset.isAnySet;refine Aa (C4 M F.sub_list_set ?_);refine C4 M F.sub_list_frozenset ?_;refine AR (by first | rfl | decide) ?_;refine Aa (Cn M ?_);refine AR (by first | rfl | decide) ?_;refine Aa (D9 Z ?_);refine Aa (GF ?_);have aa:l < s.heap.objs.size:=Ar hol;have Y:(s.heap.push { cls:=Br "set",data:=Ez #[] 0 (CC 0 0 led) }).objs.size=s.heap.objs.size + 1:=B3 _ _;have ae:l≠(s.heap.push { cls:=Br "set",data:=Ez #[] 0 (CC 0 0 led) }).objs.size:=by rw[Y];exact AA (By aa)
    have ah:¬ s.heap.objs.size∈[(s.heap.push { cls:=Br "set",data:=Ez #[] 0 (CC 0 0 led) }).objs.size,l]:=by
     rw[Y];simp only[Ak,Ap,or_false,not_or];exact⟨AA (Cr _),Du aa⟩
    have am:A.in1.in1.in1.handled=none:=hh;refine aGX (Hk (Gb am _ l ae items)) s.heap.objs.size ah val hi hb (items.size - 0) 0 _ rfl (Bc _) ⟨⟨_,At _ rfl,rfl,rfl⟩,Heap.IsList.push Z _⟩ ?_ ?_
    ·have ab:=Ai { cls:=Br "list_iterator",data:=Data.fields #[AF l,Bq 0 0] } hS;exact⟨_,#[],0,_,ab,⟨rfl,rfl,rfl⟩,rfl,(fun e he=>by simp at he),(fun k=>by show(false=true)↔_;simp),(by decide),rfl,rfl,hled,.inl rfl⟩
    ·rintro⟨h',g',d',tk',os'⟩ hm hS';refine Ae (Ae ⟨rfl,?_⟩);have e1:=hm.gens;have e2:=hm.drawn;have e3:=hm.os;dsimp only at e1 e2 e3;subst e1 e2 e3;refine h h' tk' hS' fun b o hb e=>hm.heap b o ?_ ?_
     ·simp only[Ak,Ap,or_false,not_or];rw[Y];exact⟨AA hb,AA (By hb)⟩
     ·exact Ai _ (Ai _ e)
   ·cases r with
    | error e=>exact G.elim
    | ok fl=>
     cases fl with
     | next=>exact G.elim
     | brk=>exact G.elim
     | cont=>exact G.elim
     | ret v=>
      obtain⟨rfl,q⟩:=G;refine Ae ?_;refine AR (by first | rfl | decide) ?_;exact Ae q
theorem mB{α:Type}:∀(l:List α) (j:Nat) (y:α),l[j]?=some y→(y :: l.eraseIdx j).Perm l
 | [],j,y,h=>by simp at h
 | x :: r,0,y,h=>by
  simp at h;subst h;simp
 | x :: r,j + 1,y,h=>by
  simp at h;rw[List.eraseIdx_cons_succ];exact(List.Perm.swap x y _).trans ((mB r j y h).cons x)
theorem aFt{M:G8}{A:AS}{Q:Nat→Af→Prop}{E:Ad→Af→Prop}{s:Af}{src:Source}{n:Nat}(hn:n≠0)(h:∀ i d,i < n→Q i { s with drawn:=d }):wpAny M A (choose src n) Q E s:=
 fun _ _ _=>⟨hn,h _ _ (Gs _ (Nat.pos_of_ne_zero hn))⟩
theorem aAP{α:Type}{M:G8}{A:AS}{E:Ad→Af→Prop}:∀(n:Nat) (xs:List α) (s:Af) (Q:List α→Af→Prop),xs.length=n→(∀ ys d,ys.Perm xs→Q ys { s with drawn:=d })→wpAny M A (drawOrder n xs) Q E s:=by
 intro n
 induction n with
 | zero=>
  intro xs s Q hl h;obtain rfl:xs=[]:=List.eq_nil_of_length_eq_zero hl;exact Ae (h [] s.drawn (EZ _))
 | succ n F=>
  intro xs s Q hl h;cases xs with
  | nil=>simp at hl
  | cons x r=>
   unfold drawOrder;refine Aa (aFt (by simp) fun i d hi=>?_);obtain⟨y,hy⟩:∃ y,(x :: r)[i]?=some y:=⟨_,Aj hi⟩
   rw[hy];dsimp only;refine Aa (F _ _ _ (by rw[Dl hi];simp at hl ⊢;exact hl) fun ys G q=>Ae (h _ _ ((q.cons y).trans (mB _ i y hy))))
theorem c6:Slot "set_iterator" "__next__" "set_iterator.__next__":=
 .of (owner:="set_iterator") (n:="__next__") (by rw[typeLookup_type,builtinLookup_eq_fast];kernel_rfl) (by decide) (by decide) (by decide) (by first | exact .inl (by decide) | exact .inr (by decide)) (by rw[isSubtype_type];kernel_rfl)
theorem pI:Slot "set_iterator" "__iter__" "set_iterator.__iter__":=
 .of (owner:="set_iterator") (n:="__iter__") (by rw[typeLookup_type,builtinLookup_eq_fast];kernel_rfl) (by decide) (by decide) (by decide) (by first | exact .inl (by decide) | exact .inr (by decide)) (by rw[isSubtype_type];kernel_rfl)
theorem hZ:entryFor table "set_iterator.__next__"=some Builtin.«set_iterator.__next__»:=entryFor_of_tree (by kernel_rfl)
theorem uL:entryFor table "set_iterator.__iter__"=some Builtin.«dict_keyiterator.__iter__»:=entryFor_alias (id':="dict_keyiterator.__iter__") (by kernel_rfl) rfl (by decide) (by kernel_rfl)
theorem rF:entryFor table "set.__iter__"=some Builtin.«frozenset.__iter__»:=entryFor_alias (id':="frozenset.__iter__") (by kernel_rfl) rfl (by decide) (by kernel_rfl)
theorem yM:Manifest.owners.lookup (String.ofList ("set_iterator".toList.reverse).reverse)=some Manifest.sig_set_iterator:=by kernel_rfl
theorem iR(a:Ad):argsOk "set_iterator.__next__" ⟨[a],[]⟩:=by
 unfold argsOk;rw[signature?_of (id:="set_iterator.__next__") (n:="__next__".toList.reverse) (o:="set_iterator".toList.reverse) (by kernel_rfl) yM]
 kernel_rfl
theorem wN(a:Ad):argsOk "set_iterator.__iter__" ⟨[a],[]⟩:=by
 unfold argsOk;rw[signature?_of (id:="set_iterator.__iter__") (n:="__iter__".toList.reverse) (o:="set_iterator".toList.reverse) (by kernel_rfl) yM]
 kernel_rfl
def i8(first:Ad)(i:Nat)(S:Ag)(n ep:Nat):Obj:={ cls:=.type "set_iterator",dict:=none,data:=.fields #[first,.int i 0,.ref S,.int n 0,.int ep 0],slots:=#[] }
section
variable{prog:AD}{w:AV}{A:AS}{E:Ad→Af→Prop}{s:Af}{I S T:Ag}{i m ep:Nat}{o ot:Obj}{es:Array (Int×Ad)}{t:C5}{jj:Array Ad}{x:Ad}
theorem oA{M:G8}{B:AS}{q:Ad→Af→Prop}{Q:Fin→Af→Prop}{s:Af}(F:B.handled=none)(h:∀(e:Ad) (h':Bi),(∀ b u,s.heap.get? b=some u→h'.get? b=some u)→Fp { s with heap:=h' } e "StopIteration"→q e { s with heap:=h' }):
  wpAny M B (newExc (.type "StopIteration") [] >>= fun e=>raiseNew e) Q q s:=by
 refine Aa ?_;simp only[newExc,newTuple];apply Aa;refine BJ ?_ (by size_fits);apply Aa (m:=firstArgMember _ _);refine E3 (a:=CU) (by first | rfl | (simp only[firstArgMember];rfl)) ?_;refine BJ (h:=?_) (by size_fits);simp only[raiseNew];refine Aa (wpAny_handled ?_);rw[F];refine Aa (Ae (wpAny_throw (h (.ref _) _ (fun b u e=>Ai _ (Ai _ e)) ⟨_,At _ rfl,rfl⟩)))
theorem aCw(F:s.heap.get? I=some (i8 (.ref T) i S es.size ep))(J:s.heap.get? S=some o)(hd:o.data=.set es ep t)(M:t.fits es.size=true)(Y:s.heap.get? T=some ot)(G:ot.data=.seq jj m){p:Nat}{tk:Tok}{hs:Int}(O:jj[i]?=some (.int p tk))(hx:es[p]?=some (hs,x)){Q:Option Ad→Af→Prop}
  (Z:∀ h',h'.get? I=some (i8 (.ref T) (i + 1) S es.size ep)→Dr I s.heap h'→Q (some x) { s with heap:=h' }):wpAny (model prog w) A (pyNext (.ref I)) Q E s:=by
 have q:s.TypeIs (.ref I) "set_iterator":=⟨_,F,rfl⟩
 unfold pyNext;apply Aa;apply DO;refine Cj (name:=Bn "__next__") q c6 (Bz c6 q hZ ?_ (iR _));unfold Builtin.«set_iterator.__next__»;refine Aa (Ae ?_);refine Aa (EO F rfl ?_);dsimp only;refine Aa (DH J hd M ?_);rw[Ia (show¬ ((((es.size:Nat):Int) != ((es.size:Nat):Int))=true) by simp)];refine Aa (wpAny_seqItems Y G ?_);dsimp only;rw[show((i:Nat):Int).toNat=i from A6 i,O];dsimp only;unfold setNextDrawn;refine Aa (Aa (Dp J hd M ?_));dsimp only;rw[Ia (show¬ ((ep != ((ep:Nat):Int).toNat)=true) by simp)];rw[show((p:Nat):Int).toNat=p from A6 p,hx];refine Ae ?_;refine Aa (C3 F rfl (by simp[i8]) (Ae ⟨x,rfl,Ae (Z _ ?_ (BI ..))⟩));rw[BY _ F (CN (Cf rfl _))];rfl
theorem aDP(hh:A.handled=none)(F:s.heap.get? I=some (i8 (.ref T) i S es.size ep))(hS:s.heap.get? S=some o)(hd:o.data=.set es ep t)(hf:t.fits es.size=true)(hT:s.heap.get? T=some ot)(G:ot.data=.seq jj m)(M:jj[i]?=none){Q:Option Ad→Af→Prop}
  (O:∀ h',(∀ b u,b≠I→s.heap.get? b=some u→h'.get? b=some u)→Q none { s with heap:=h' }):wpAny (model prog w) A (pyNext (.ref I)) Q E s:=by
 have q:s.TypeIs (.ref I) "set_iterator":=⟨_,F,rfl⟩
 unfold pyNext;apply Aa;apply DO;refine Cj (name:=Bn "__next__") q c6 (Bz c6 q hZ ?_ (iR _));unfold Builtin.«set_iterator.__next__»;refine Aa (Ae ?_);refine Aa (EO F rfl ?_);dsimp only;refine Aa (DH hS hd hf ?_);rw[Ia (show¬ ((((es.size:Nat):Int) != ((es.size:Nat):Int))=true) by simp)];refine Aa (wpAny_seqItems hT G ?_);dsimp only;rw[show((i:Nat):Int).toNat=i from A6 i,M];dsimp only;refine Aa (C3 F rfl (by simp[i8]) ?_);have J:=BY (ES (·.setIfInBounds 0 (rawInt 0))) F (CN (Cf rfl _))
 refine Aa (C3 J (Cf rfl _) (by simp[i8]) ?_);refine oA (show A.in1.handled=none from hh) fun e h' k Y=>?_;refine Aa (C4 (T:="StopIteration") (b:=true) Y GX ?_);refine Ae (O h' fun b u nb Z=>k b u ?_);exact(BI _ I _).extBut b u nb ((BI _ I _).extBut b u nb Z)
theorem aCx{G nx:Nat}(J:s.heap.get? I=some (i8 (rawInt G) i S es.size ep))(Y:s.heap.get? S=some o)(hd:o.data=.set es ep t)(hf:t.fits es.size=true)
  (hN:∀(B:AS) (Z:Ad→Af→Prop) (M:Option (Ad×Nat)→Af→Prop),M (some (x,nx)) s→wpAny (model prog w) B (setNext S G i ep) M Z s) {Q:Option Ad→Af→Prop}
  (O:∀ h',h'.get? I=some (i8 (rawInt nx) (i + 1) S es.size ep)→Dr I s.heap h'→Q (some x) { s with heap:=h' }):wpAny (model prog w) A (pyNext (.ref I)) Q E s:=by
 have F:s.TypeIs (.ref I) "set_iterator":=⟨_,J,rfl⟩
 unfold pyNext;apply Aa;apply DO;refine Cj (name:=Bn "__next__") F c6 (Bz c6 F hZ ?_ (iR _));unfold Builtin.«set_iterator.__next__»;refine Aa (Ae ?_);refine Aa (EO J rfl ?_);dsimp only;refine Aa (DH Y hd hf ?_);rw[Ia (show¬ ((((es.size:Nat):Int) != ((es.size:Nat):Int))=true) by simp)];dsimp only[rawInt];refine Aa ?_;rw[show((i:Nat):Int).toNat=i from A6 i,show((G:Nat):Int).toNat=G from A6 G,show((ep:Nat):Int).toNat=ep from A6 ep];refine hN _ _ _ ?_;dsimp only;refine Aa (C3 J rfl (by simp[i8]) ?_);have q:=BY (ES (·.setIfInBounds 0 (rawInt nx))) J (CN (Cf rfl _))
 refine Aa (C3 q (Cf rfl _) (by simp[i8]) (Ae ⟨x,rfl,Ae (O _ ?_ ((BI ..).trans (BI ..)))⟩));exact(BY _ q (CN (Cf (Cf rfl _) _))).trans rfl
theorem aDQ{q:Nat}(hh:A.handled=none)(G:s.heap.get? I=some (i8 (rawInt q) i S es.size ep))(Z:s.heap.get? S=some o)(hd:o.data=.set es ep t)(hf:t.fits es.size=true)
  (hN:∀(B:AS) (E':Ad→Af→Prop) (J:Option (Ad×Nat)→Af→Prop),J none s→wpAny (model prog w) B (setNext S q i ep) J E' s) {Q:Option Ad→Af→Prop}
  (M:∀ h',(∀ b u,b≠I→s.heap.get? b=some u→h'.get? b=some u)→Q none { s with heap:=h' }):wpAny (model prog w) A (pyNext (.ref I)) Q E s:=by
 have F:s.TypeIs (.ref I) "set_iterator":=⟨_,G,rfl⟩
 unfold pyNext;apply Aa;apply DO;refine Cj (name:=Bn "__next__") F c6 (Bz c6 F hZ ?_ (iR _));unfold Builtin.«set_iterator.__next__»;refine Aa (Ae ?_);refine Aa (EO G rfl ?_);dsimp only;refine Aa (DH Z hd hf ?_);rw[Ia (show¬ ((((es.size:Nat):Int) != ((es.size:Nat):Int))=true) by simp)];dsimp only[rawInt];refine Aa ?_;rw[show((i:Nat):Int).toNat=i from A6 i,show((q:Nat):Int).toNat=q from A6 q,show((ep:Nat):Int).toNat=ep from A6 ep];refine hN _ _ _ ?_;dsimp only;refine Aa (C3 G rfl (by simp[i8]) ?_);refine oA (show A.in1.handled=none from hh) fun e h' k O=>?_;refine Aa (C4 (T:="StopIteration") (b:=true) O GX ?_);refine Ae (M h' fun b u nb Y=>k b u ?_);exact(BI _ I _).extBut b u nb Y
theorem aBq{first:Ad}(F:s.heap.get? I=some (i8 first i S es.size ep)){Q:Ad→Af→Prop}(h:Q (.ref I) s):wpAny (model prog w) A (pyIter (.ref I)) Q E s:=by
 have q:s.TypeIs (.ref I) "set_iterator":=⟨_,F,rfl⟩
 refine F8 q pI (Bz pI q uL ?_ (wN _));exact Ae ⟨_,rfl,"set_iterator",_,q,c6.lookup,h⟩
end
theorem vI{α:Type}(next:Nat→Nat):∀(q k:Nat) (left:List α) (out:Array α),left.length=q→(pickOrder.go next q k left out).toList.Perm (out.toList ++ left)
 | 0,k,[],out,_=>by
  unfold pickOrder.go;rw[BM]
 | q + 1,k,x :: r,out,hl=>by
  unfold pickOrder.go;have hi:next k % (x :: r).length < (x :: r).length:=Gs _ (by simp)
  obtain⟨y,hy⟩:∃ y,(x :: r)[next k % (x :: r).length]?=some y:=⟨_,Aj hi⟩
  rw[hy];dsimp only;refine(vI next q (k + 1) _ _ (by rw[Dl hi];simp at hl ⊢;exact hl)).trans ?_;rw[Cw,AX];exact Bx _ (mB _ _ y hy)
theorem tH{α:Type}(next:Nat→Nat)(xs:Array α):(pickOrder next xs).toList.Perm xs.toList:=by
 unfold pickOrder;have h:=vI next xs.size 0 xs.toList #[] (by simp)
 simpa using h
section
variable{prog:AD}{w:AV}{A:AS}{I S T:Ag}{m ep:Nat}{o ot:Obj}{es:Array (Int×Ad)}{t:C5}{jj:Array Ad}
theorem aGY(hh:A.handled=none)(hS:S≠I)(Z:T≠I)(hd:o.data=.set es ep t)(O:t.fits es.size=true)(F:ot.data=.seq jj m)(Y:∀ i,i < jj.size→∃(p:Nat) (tk:Tok) (z:Int×Ad),jj[i]?=some (.int p tk)∧es[p]?=some z):
  Walks prog w A I [I,S,T] [I] jj.size (fun i v=>∃(p:Nat) (tk:Tok) (z:Int),jj[i]?=some (.int p tk)∧es[p]?=some (z,v)) (fun i h=>h.get? I=some (i8 (.ref T) i S es.size ep)∧h.get? S=some o∧h.get? T=some ot) where
 sub:=fun b M=>by simp at M;simp[M]
 frame:=fun _ _ _ st G=>⟨G I (by simp) _ st.1,G S (by simp) _ st.2.1,G T (by simp) _ st.2.2⟩
 item:=fun i s Q E hi st q=>by
  obtain⟨p,tk,⟨z,v⟩,h1,h2⟩:=Y i hi;refine aCw st.1 st.2.1 hd O st.2.2 F h1 h2 fun h' hI J=>?_;exact q v h' s.toks ⟨p,tk,z,h1,h2⟩ ⟨hI,J.extBut S _ hS st.2.1,J.extBut T _ Z st.2.2⟩ fun b u nb e=>J.extBut b u (by simpa using nb) e
 done:=fun s Q E st q=>aDP hh st.1 st.2.1 hd O st.2.2 F (by simp) fun h' k=>q h' s.toks fun b u nb e=>k b u (by simpa using nb) e
 self:=fun i s Q E st q=>aBq st.1 q
theorem aGZ(hh:A.handled=none)(hS:S≠I)(hd:o.data=.set es ep t)(hf:t.fits es.size=true)(M:Nat→Nat)(ord:List Ad)
  (hN:∀(i:Nat) (s:Af),s.heap.get? S=some o→i≤ord.length→∀(B:AS) (J:Ad→Af→Prop) (F:Option (Ad×Nat)→Af→Prop),F ((ord[i]?).map fun v=>(v,M (i + 1))) s→wpAny (model prog w) B (setNext S (M i) i ep) F J s):
  Walks prog w A I [I,S] [I] ord.length (fun i v=>ord[i]?=some v) (fun i h=>h.get? I=some (i8 (rawInt (M i)) i S es.size ep)∧h.get? S=some o) where
 sub:=fun b O=>by simp at O;simp[O]
 frame:=fun _ _ _ st Y=>⟨Y I (by simp) _ st.1,Y S (by simp) _ st.2⟩
 item:=fun i s Q E hi st G=>by
  obtain⟨v,hv⟩:∃ v,ord[i]?=some v:=⟨_,Aj hi⟩
  refine aCx (x:=v) (nx:=M (i + 1)) st.1 st.2 hd hf (fun B J F q=>hN i s st.2 (Dv hi) B J F (by rw[hv];exact q)) fun h' hI Z=>?_;exact G v h' s.toks hv ⟨hI,Z.extBut S _ hS st.2⟩ fun b u nb e=>Z.extBut b u (by simpa using nb) e
 done:=fun s Q E st G=>aDQ hh st.1 st.2 hd hf (fun B J F q=>hN _ s st.2 (Am _) B J F (by rw[Bo (Am _)];exact q)) fun h' k=>G h' s.toks fun b u nb e=>k b u (by simpa using nb) e
 self:=fun i s Q E st G=>aBq st.1 G
structure aIV(prog:AD)(w:AV)(A:AS)(S:Ag)(el:List Ad)(s s2:Af)(I:Ag):Prop where
 w:∃(fp:List Ag) (P:Nat→Ad→Prop) (St:Nat→Bi→Prop),Walks prog w A I fp [I] el.length P St∧St 0 s2.heap∧I∈fp∧(∀ b∈fp,b < s2.heap.objs.size∧(b=S∨s.heap.objs.size≤b))∧∀ acc,Hm P acc el.length→acc.toList.Perm el
 keep:∀ b u,s.heap.get? b=some u→s2.heap.get? b=some u
 new:s.heap.objs.size≤I
 gens:s2.gens=s.gens
 os:s2.os=s.os
 toks:s2.toks=s.toks
theorem aDR{ord:List Ad}{q:Array Ad}(h:Hm (fun i v=>ord[i]?=some v) q ord.length):q.toList=ord:=by
 obtain⟨hl,h⟩:=h;apply DW;intro j;by_cases F:j < q.size
 ·have:=h j q[j] (by simp[F]);rw[this];simp[F]
 ·rw[Bo (by simpa using F),Bo (by omega)]
end
section
variable{prog:AD}{w:AV}{A:AS}{S:Ag}{ep:Nat}{o:Obj}{es:Array (Int×Ad)}{t:C5}
theorem yN{ys:List Nat}{n:Nat}(G:ys.Perm (AU n))(hn:n=es.size):∀ i,i < (ys.map fun(i:Nat)=>rawInt i).toArray.size→∃(p:Nat) (tk:Tok) (z:Int×Ad),(ys.map fun(i:Nat)=>rawInt i).toArray[i]?=some (.int p tk)∧es[p]?=some z:=by
 intro i hi;have q:i < ys.length:=by simpa using hi
 have hm:ys[i]∈AU n:=G.mem_iff.mp (BO q);have F:ys[i] < es.size:=by rw[← hn];exact Ck.mp hm
 exact⟨ys[i],0,es[ys[i]],by simp[q,rawInt],by simp[F]⟩
theorem wO{ys:List Nat}{n:Nat}(O:ys.Perm (AU n))(hn:n=es.size){q:Array Ad}(h:Hm (fun i v=>∃(p:Nat) (tk:Tok) (z:Int),(ys.map fun(i:Nat)=>rawInt i).toArray[i]?=some (.int p tk)∧es[p]?=some (z,v)) q ys.length):q.toList.Perm (es.toList.map (·.2)):=by
 have e:q.toList=ys.map fun p=>(es.toList.getD p (0,.none)).2:=by
  apply DW;intro j;by_cases G:j < ys.length
  ·have F:j < q.size:=by rw[h.1];exact G
   obtain⟨p,tk,z,h1,h2⟩:=h.2 j q[j] (by simp[F]);simp[G,rawInt]at h1;obtain⟨h1,_⟩:=h1;have J:ys[j]=p:=by exact_mod_cast h1
   rw[Ao,Aj G,J];have M:es.toList[p]?=some (z,q[j]):=by simpa using h2
   simp[List.getD,h2,M,F]
  ·rw[Bo (by have:=h.1;simp;omega),Bo (by simpa using G)]
 rw[e];refine(O.map _).trans (List.Perm.of_eq ?_);apply DW;intro j;rw[Ao,Ao];by_cases G:j < n
 ·rw[List.getElem?_range G];have F:j < es.size:=by omega
  simp[List.getD,F]
 ·rw[Bo (by simpa using G),Bo (by simp;omega)];rfl
theorem aDS(hh:A.handled=none)(ak:o.cls=.type "set")(hd:o.data=.set es ep t)(M:t.fits es.size=true)(hb:es.size < scanBound)(ab:tF w es t){E:Ad→Af→Prop}{s:Af}{R:Ad→Af→Prop}(hS:s.heap.get? S=some o)
  (h:∀(I:Ag) (s2:Af),aIV prog w A S (es.toList.map (·.2)) s s2 I→R (.ref I) s2):wpAny (model prog w) A (pyIter (.ref S)) R E s:=by
 have am:s.TypeIs (.ref S) "set":=⟨_,hS,ak⟩
 have aa:=Ar hS;refine F8 am F.slot_set_iter (Bz F.slot_set_iter am rF ?_ (F.args_set_iter_1 _));unfold Builtin.«frozenset.__iter__» Builtin.Frozenset.slot0 Builtin.Frozenset.sizeOf;refine Aa (Aa (Ae (Ae ?_)));refine Aa (Aa (DH hS hd M (Ae ?_)));refine Aa ?_;unfold setDrawn setsByText;refine Aa (Dp hS hd M (Aa (Aa (DA (Ae (Ae ?_))))));have ax:(es.toList.map (·.2)).length=es.size:=by simp
 have fin:(∀(i:Nat) (s:Af),s.heap.get? S=some o→i≤es.size→True)→∀(sl:Nat→Nat) (ord:List Ad),sl 0=0→ord.Perm (es.toList.map (·.2))→
   (∀(i:Nat) (s:Af),s.heap.get? S=some o→i≤ord.length→∀(B:AS) (E':Ad→Af→Prop) (Q':Option (Ad×Nat)→Af→Prop),Q' ((ord[i]?).map fun v=>(v,sl (i + 1))) s→wpAny (model prog w) B (setNext S (sl i) i ep) Q' E' s)→
   wpAny (model prog w) A.in1 (do ret (← newFields "set_iterator" [rawInt 0,rawInt 0,.ref S,rawInt es.size,rawInt (← setEpoch S)])) (fun fin s'=>∃ v,fin=.done (.ret v)∧∃ T' r,s'.TypeIs v T'∧typeLookup (.type T') "__next__"=pure (some r)∧R v s') E s:=by
  intro _ sl ord h0 G hN;refine Aa (wpAny_setEpoch_of hS hd M ?_);refine Aa (BJ (Ae ⟨_,rfl,"set_iterator",_,⟨_,At _ rfl,rfl⟩,c6.lookup,h _ _ ?_⟩));have aj:ord.length=(es.toList.map (·.2)).length:=G.length_eq
  refine⟨⟨[s.heap.objs.size,S],_,_,aj ▸ aGZ hh (AA aa) hd M sl ord hN,⟨by rw[h0];exact At _ rfl,Ai _ hS⟩,by simp,?_,fun ap ha=>?_⟩,fun b u e=>Ai _ e,Am _,rfl,rfl,rfl⟩
  ·intro b hb;rw[B3];simp at hb;rcases hb with rfl | rfl
   ·exact⟨Cr _,.inr (Am _)⟩
   ·exact⟨By aa,.inl rfl⟩
  ·rw[← aj]at ha;rw[aDR ha];exact G
 dsimp only;cases Z:(model prog w).w.params.followText "set-order" with
 | true=>
  rw[Ia (by simp)];refine Aa (Ae ?_);refine fin (fun _ _ _ _=>trivial) (fun _=>0) ((pickOrder ((model prog w).w.params.setOrder S ep) es).toList.map (·.2)) rfl ((tH _ es).map _) fun i s1 J hi B E' Q' q=>?_
  unfold setNext setsByText setWalk setsByText;refine Aa (Dp J hd M ?_);refine Aa (Aa (DA (Ae ?_)));dsimp only;rw[Z,Ib rfl];rw[Ia (show¬ ((ep != ep)=true) by simp)];refine Aa (Aa (Dp J hd M ?_));refine Aa (Aa (DA (Ae ?_)));dsimp only;rw[Z,Ib rfl];refine Aa (DA (Ae (Ae ?_)));simpa[Function.comp_def]using q
 | false=>
  by_cases h1:es.size > 1
  ·have O:t.plain=false:=ab.2.resolve_left (by omega);refine BZ (Ic (show((!false) && (!t.plain && decide (es.size > 1)))=true by rw[O];simp[h1])) ?_;refine Aa (aAP es.size (AU es.size) s _ (by simp) fun ys d G=>?_);have ah:ys.length=es.size:=by rw[G.length_eq];simp
   refine Aa (GG ?_ (by rw[Ab,ah];exact E4 hb));have J:(s.heap.push { cls:=.type "tuple",data:=.seq (ys.map fun(i:Nat)=>rawInt i).toArray }).get? S=some o:=Ai _ hS;refine Aa (wpAny_setEpoch_of J hd M ?_);refine Aa (BJ (Ae ⟨_,rfl,"set_iterator",_,⟨_,At _ rfl,rfl⟩,c6.lookup,h _ _ ?_⟩));have Y:(s.heap.push { cls:=.type "tuple",data:=.seq (ys.map fun(i:Nat)=>rawInt i).toArray }).objs.size=s.heap.objs.size + 1:=B3 _ _;have ai:(ys.map fun(i:Nat)=>rawInt i).toArray.size=(es.toList.map (·.2)).length:=by simp[ah]
   have hw:=aGY (prog:=prog) (w:=w) (A:=A) (I:=(s.heap.push { cls:=.type "tuple",data:=.seq (ys.map fun(i:Nat)=>rawInt i).toArray }).objs.size) (S:=S) (T:=s.heap.objs.size) (o:=o) (ot:={ cls:=.type "tuple",data:=.seq (ys.map fun(i:Nat)=>rawInt i).toArray }) hh (by rw[Y];exact AA (By aa)) (by rw[Y];exact AA (Cr _)) hd M rfl (yN G rfl);rw[ai]at hw;refine⟨⟨_,_,_,hw,⟨At _ rfl,Ai _ J,Ai _ (At _ rfl)⟩,by simp,?_,fun ap ha=>?_⟩,fun b u e=>Ai _ (Ai _ e),by dsimp only;rw[Y];exact CF _,rfl,rfl,rfl⟩
   ·intro b hb;have h3:b=s.heap.objs.size + 1∨b=S∨b=s.heap.objs.size:=by
     rw[Y]at hb;simpa using hb
    dsimp only;rw[B3,Y];rcases h3 with rfl | rfl | rfl
    ·exact⟨Cr _,.inr (CF _)⟩
    ·exact⟨By (By aa),.inl rfl⟩
    ·exact⟨By (Cr _),.inr (Am _)⟩
   ·rw[← ai,Aq,Ab]at ha;exact wO G rfl ha
  ·refine AR (decide_eq_false (show¬ (((!false) && (!t.plain && decide (es.size > 1)))=true) by simp[h1])) ?_;refine Aa (Ae ?_);have aq:(!t.plain && decide (es.size > 1))=false:=by simp[h1]
   have an:t.led=true:=by
    have z:=ab.1;rw[show w.params.followText "set-order"=false from Z]at z;exact z
   have au:t.place.size=es.size:=by
    unfold SetTable.fits at M;simp at M;exact M.1
   refine fin (fun _ _ _ _=>trivial) (fun i=>if i=0 then 0 else t.place.getD 0 0 + 1) (es.toList.map (·.2)) rfl (EZ _) fun i s1 J hi B E' Q' q=>?_
   unfold setNext setsByText;refine Aa (Dp J hd M ?_);refine Aa (Aa (DA (Ae ?_)));dsimp only;rw[Z,Ia (by simp)];refine AR (decide_eq_false (show¬ ((!t.plain && decide (es.size > 1))=true) by rw[aq];simp)) ?_;refine Aa (AR (decide_eq_false (show¬ ((!t.led && !es.isEmpty)=true) by rw[an];simp)) (Ae (Ae ?_)));have af:es.size=0∨es.size=1:=by omega
   rcases af with hz | hz
   ·have ae:es=#[]:=Array.eq_empty_of_size_eq_zero hz;have O:t.place=#[]:=Array.eq_empty_of_size_eq_zero (by omega);subst ae;have aw:i=0:=by simpa using hi
    subst aw;rw[O];simpa[DE,DE.go]using q
   ·obtain⟨e,ae⟩:=Array.size_eq_one_iff.mp hz;obtain⟨j,O⟩:=Array.size_eq_one_iff.mp (au.trans hz);subst ae;have av:i=0∨i=1:=by
     have:i≤1:=by simpa using hi
     omega
    rw[O]at q ⊢;rcases av with rfl | rfl
    ·simpa[DE,DE.go]using q
    ·simpa[DE,DE.go]using q
end
section
variable{prog:AD}{w:AV}{A:AS}{S:Ag}{ep:Nat}{o:Obj}{es:Array (Int×Ad)}{t:C5}
theorem yO(hh:A.handled=none)(q:o.cls=.type "set")(hd:o.data=.set es ep t)(hf:t.fits es.size=true)(hb:es.size < scanBound)(ai:tF w es t){E:Ad→Af→Prop}{s:Af}{Q:List Ad→Af→Prop}(hS:s.heap.get? S=some o)
  (h:∀(O:List Ad) (h':Bi) (d:Drawn) (tk:Nat),O.Perm (es.toList.map (·.2))→(∀ b u,s.heap.get? b=some u→h'.get? b=some u)→s.heap.objs.size < h'.objs.size→Q O { s with heap:=h',drawn:=d,toks:=tk }):wpAny (model prog w) A (collect (.ref S)) Q E s:=by
 have ag:=Ar hS;unfold collect;apply Aa;apply GF;apply Cp F.entry_proto_collect;rw[B1 F.plain_proto_collect];show wpAny _ A.in1 (newList [] >>= fun l=>again (.builtin "list.__iadd__" ⟨[l,.ref S],[]⟩)) _ _ s;apply Aa;refine BJ (Ae ⟨DP EV _,Cp F.entry_list_iadd ?_⟩);rw[B1 EV];have M:(s.heap.push { cls:=.type "list",data:=.seq ([]:List Ad).toArray }).get? S=some o:=Ai _ hS;have aq:(s.heap.push { cls:=.type "list",data:=.seq ([]:List Ad).toArray }).get? s.heap.objs.size=some { cls:=.type "list",data:=.seq ([]:List Ad).toArray }:=At _ rfl;have e1:Builtin.List.listSameRef (.ref s.heap.objs.size) (.ref S)=false:=by
  show(s.heap.objs.size == S)=false;simpa using Du ag
 show wpAny _ A.in1 (Cu (.ref s.heap.objs.size) (.ref S) (.ref s.heap.objs.size)) _ _ _;unfold Cu;refine Aa (Cn (T:="set") ⟨o,M,q⟩ ?_);rw[Ia (by rw[e1];decide)];refine Aa (aDS (A:=A.in1) hh q hd hf hb ai M fun I s2 it=>?_);have J:=it.keep S o M;have ah:=it.keep _ _ aq;refine Aa (Bj ?_);unfold Builtin.List.listLengthHint;refine Aa (Gx (T:="set") ⟨o,J,q⟩ F.slot_set_len.lookup ?_);generalize ae:("set.__len__":String)=ap
 wp_delta
 rw[show splitId ap=some ("set","__len__") from by subst ae;decide];subst ae;refine Aa (C4 (b:=true) (T:="set") ⟨o,J,q⟩ sub_set_self ?_);refine AR (by rfl) ?_;refine BZ (by decide) ?_;refine Aa (Cn (T:="set") ⟨o,J,q⟩ ?_);refine Ae ?_;refine BZ (by decide) ?_;refine Aa (Ch ?_);obtain⟨fp,P,St,W,st0,hI,hfp,hit⟩:=it.w;have ab:(s.heap.push { cls:=.type "list",data:=.seq ([]:List Ad).toArray }).objs.size=s.heap.objs.size + 1:=B3 _ _;have Y:s.heap.objs.size ∉ fp:=fun hm=>by
  rcases(hfp _ hm).2 with z | z
  ·exact absurd z (Du ag)
  ·dsimp only at z;rw[ab]at z;exact absurd z (Nat.not_succ_le_self _)
 apply Aa;show wpAny _ A.in1 (updateSeq s.heap.objs.size (·.push .none) >>= fun _=>updateSeq s.heap.objs.size (·.pop)) _ _ _
 apply Aa;refine wpAny_updateSeq ah rfl ?_;have aj:=BY (A5 (·.push CU)) ah rfl
 refine wpAny_updateSeq aj rfl ?_;have ao:=BY (A5 (·.pop)) aj rfl
 have aa:∀ b u,b≠s.heap.objs.size→s2.heap.get? b=some u→((s2.heap.update s.heap.objs.size (A5 (·.push CU))).update s.heap.objs.size (A5 (·.pop))).get? b=some u:=
  fun b u nb e=>(DZ _ _ (B4 nb)).trans ((DZ _ _ (B4 nb)).trans e)
 have an:(es.toList.map (·.2)).length≤sizeLine:=by
  rw[Ab,Bf];exact E4 hb
 refine Ae ⟨DP F.plain_extend_loop _,codeAny_extend_loopS (Hk W) an s.heap.objs.size Y _ _ 0 _ _ _ rfl (Bc _) (W.frame 0 _ _ st0 fun b hb u e=>aa b u (fun z=>Y (z ▸ hb)) e) ao (ItemsOf.nil P) fun s' G c' hm Z ad=>?_⟩;show wpAny _ A (load s.heap.objs.size >>= _) _ _ s';apply Aa;refine GK Z (Ae ?_);obtain⟨h',g',d',tk',os'⟩:=s';have g1:=hm.gens;have g2:=hm.os;dsimp only at g1 g2;have g3:=it.gens;have g4:=it.os;rw[g3]at g1;rw[g4]at g2;dsimp only at g1 g2;subst g1 g2;refine h G.toList h' d' tk' (hit G ad) (fun b u e=>?_) (Ar Z);have af:=Ar e;have nb:b≠s.heap.objs.size:=AA af;have nI:b≠I:=fun z=>by
  have z2:=it.new;dsimp only at z2;rw[ab,← z]at z2;exact absurd (Fe af z2) (CD _)
 refine hm.heap b u (by simp[nb,nI]) (aa b u nb (it.keep b u (Ai _ e)))
end
theorem pJ{α:Type}[DecidableEq α]:∀(L M:List α),L.Nodup→(∀ x∈L,x∈M)→M.length=L.length→M.Perm L
 | [],M,_,_,hl=>by
  have:M=[]:=List.eq_nil_of_length_eq_zero hl;rw[this]
 | x :: r,M,hn,hm,hl=>by
  obtain⟨hx,hr⟩:=AY.mp hn;have q:=hm x (by simp);have G:=pJ r (M.erase x) hr (fun y F=>(List.mem_erase_of_ne (show y≠x from fun z=>hx (by rw[← z];exact F))).mpr (hm y (by simp[F]))) (by rw[List.length_erase_of_mem q,hl];simp);exact(List.perm_cons_erase q).trans (G.cons x)
section
variable{prog:AD}{w:AV}{A:AS}{S:Ag}{E:Ad→Af→Prop}{s:Af}
theorem yP(hh:A.handled=none){f:Str→Bool}{n:Nat}(hS:lB prog w s.heap S f n){J:List Str}(ah:J.Nodup)(M:∀ k,f k=true↔k∈J)(hn:n=J.length)(an:n < 64){Q:Ad→Af→Prop}
  (h:∀(l:Ag) (h':Bi) (d:Drawn) (tk e:Nat) (out:Array Ad) (Z:List Str),s.heap.objs.size≤l→(∀ b u,s.heap.get? b=some u→h'.get? b=some u)→h'.get? l=some (seqObj "list" out e)→Eb out.toList Z→Z.Perm J→sortedS Z=true→Q (.ref l) { s with heap:=h',drawn:=d,toks:=tk }):
  wpAny (model prog w) A (call (.builtin "sorted") [.ref S]) Q E s:=by
 obtain⟨o,es,ep,t,ho,hex,hd,hel,hm,hb,hf,hsz,hTab⟩:=hS;refine Ds FH Fl Fn (Ga _) ?_;unfold Builtin.«sorted»;apply Aa (m:=checkCount "sorted" 1 1 _);apply Ae;refine Aa (yO (A:=A.in1) hh hex.1 hd hf hb hTab ho fun q h1 d tk hp G ag=>?_);have O:∀ v,v∈q→∃ x t,v=.str x t:=fun v hv=>by
  obtain⟨e,he,rfl⟩:=AQ.mp (hp.mem_iff.mp hv);obtain⟨⟨k,G,_⟩,_⟩:=hel e he;obtain⟨t,ht⟩:=Fo G;exact⟨k,t,ht⟩
 have hA:=strsAre_map q O;have ai:q.length=n:=by rw[hp.length_eq,Ab,Bf];exact hsz
 have hM:(q.map strOf).Perm J:=by
  refine((hp.map strOf)).trans (pJ J _ ah (fun x hx=>?_) (by rw[Ab,Ab,Bf,hsz,hn]));obtain⟨e,he,G⟩:=(hm x).mp ((M x).mpr hx);obtain⟨t,ht⟩:=Fo G;exact AQ.mpr ⟨e.2,AQ.mpr ⟨e,he,rfl⟩,by rw[ht];rfl⟩
 have ae:q.length≤sizeLine:=by rw[Er];omega
 apply Aa;refine DN ?_ ae;have F:(h1.push (seqObj "list" q.toArray 0)).get? h1.objs.size=some (seqObj "list" q.toArray 0):=At _ rfl;refine Aa (Bj (Bz slot_list_sort ⟨_,F,rfl⟩ entry_list_sort (list_sort_treeK strKind_oneLt F hA.keysOf (fun v₁ v₂ b8 e=>keyKind_strs (by rw[← e];exact hA)) (by omega) fun af a1 a2=>⟨_,rfl,?_⟩) (FJ _)));obtain⟨Z,b1,b2,b3⟩:=sorted_out_str hA a1 a2;refine Ae ⟨_,rfl,?_⟩;obtain⟨e,he⟩:=Hc (vs:=q) (out:=(arrOf af).map (·.2)) F
 have aa:s.heap.objs.size≤h1.objs.size:=Dv ag;refine h _ _ d tk e _ Z aa (fun b u eb=>?_) he b1 (b2.trans hM) b3;have Y:=Ar (G b u eb);rw[GV (AA Y) (by rw[B3];exact By Y)];exact Ai _ (G b u eb)
end
section
variable{X:Cx}{iw:Ih}{σ:St}{H H':Hp}{s:Af}{h':Bi}
theorem Inv.laidD{a:Ag}{o:HO}{t':Nat}{d':Drawn}(I:Inv X iw σ H s)(k:∀ b u,s.heap.get? b=some u→h'.get? b=some u)(q:s.heap.objs.size≤a)(new:cP X.prog X.w (upd H a o) h' a o):
  Inv X iw σ (upd H a o) { s with heap:=h',drawn:=d',toks:=t' }:=by
 have u:Un (frs X.stack) [] H (upd H a o) s.heap h':=Un.laid k q (I.hok.fresh q);exact I.call (g':=s.gens) (d':=d') u (I.hok.laid k q new) I.bare (fun _ z=>nomatch z)
theorem tI(val:Nat→Str):∀ i,(iE val i).Nodup
 | 0=>DU
 | i + 1=>by
  show(j8 (iE val i) (val i)).Nodup;have q:=tI val i;unfold j8;split
  ·exact q
  ·next hne=>
   rw[Bw];exact⟨q,by simp,fun x hx y F e=>hne (by rw[← (show y=val i from by simpa using F),← e];exact hx)⟩
def oB(ss:List Str):List Str:=iE (fun i=>ss.getD i "") ss.length
theorem tJ(ss:List Str)(k:Str):k∈oB ss↔k∈ss:=by
 unfold oB;rw[tD];constructor
 ·rintro⟨j,hj,e⟩;rw[← e,Dm,Aj hj];exact BO hj
 ·intro q;obtain⟨j,hj,e⟩:=Fh.mp q;exact⟨j,hj,by rw[Dm,Aj hj];exact e⟩
theorem oC(ss:List Str):(oB ss).Nodup:=tI _ _
def tK(P:AD)(w:AV)(a:Ag)(ss:List Str):HO:=.ext fun h=>lB P w h a (fun k=>(oB ss).any fun x=>x == k) (oB ss).length
theorem aDT{ss:List Str}{its:List Ad}(G:bX (ss.map V.str) its){i:Nat}{v:Ad}(hv:its.toArray[i]?=some v):∃ t,v=BA (ss.getD i "") t:=by
 have q:=G.length;rw[Ab]at q;have F:its[i]?=some v:=by simpa using hv
 have hi:i < ss.length:=by
  rw[q];exact(Ax.mp F).1
 have e:(ss.map V.str)[i]?=some (V.str (ss.getD i "")):=by
  rw[Ao,Aj hi];simp[hi]
 obtain⟨u,hu,ru⟩:=G.get e;rw[F]at hu;cases hu;exact ru
theorem wP(hc:X.calm=true):eY X (.builtin "sorted") (fun xs H Q=>∃(p:Ag) (ss:List Str),xs=[.ref p]∧H p=some (tK X.prog X.w p ss)∧ss.length < 64∧∀(l:Ag) (F:List Str),H l=none→F.Perm (oB ss)→sortedS F=true→Q (.ref l) (upd H l (.lst (F.map V.str)))):=by
 intro iw s σ H xs Y Q I r h;obtain⟨p,ss,rfl,hx,h64,q⟩:=h;obtain⟨u,rfl,ru⟩:=fS r;cases ru;obtain⟨hS,_,_⟩:cP X.prog X.w H s.heap p (tK X.prog X.w p ss):=I.hok p _ hx;have J:(oB ss).length≤ss.length:=lA (fun i=>ss.getD i "") ss.length;refine yP (I.ok.hd hc) hS (oC ss) (fun k=>by rw[pG];simp) rfl (by omega) fun l h' d tk e out F hl M ho ha G hs=>?_;have hv:bX (F.map V.str) out.toList:=iQ ha;have O:=G.length_eq;exact⟨.ref l,_,I.laidD (t':=tk) (d':=d) (o:=.lst (F.map V.str)) M hl ⟨aQ (by rw[Ab];omega),out.toList,e,hv,by rw[ho] <;> rfl⟩,rfl,q l F (I.hok.fresh hl) G hs⟩
end
def aIW{α:Type}(o:Nat→Nat→Bool):KasT α→α
 | .ret a=>a
 | .ask i j k=>aIW o (k (o i j))
abbrev P3:=Str×Str×Int
def aH3(x y:P3):Bool:=if x.1 == y.1 then(if x.2.1 == y.2.1 then(if x.2.2 == y.2.2 then false else decide (x.2.2 < y.2.2)) else decide (x.2.1.cps.toList < y.2.1.cps.toList)) else decide (x.1.cps.toList < y.1.cps.toList)
inductive aBr(h:Bi)(v:Ad)(x:P3):Prop
 | mk (t:_) (u1:_) (u2:_) (u3:_) (q0:v=.ref t) (q1:E9 h t #[.str x.1 u1,.str x.2.1 u2,.int x.2.2 u3]):aBr h v x
def pK(h:Bi)(v:Ad)(x:P3):Prop:=aBr h v x
section
variable{prog:AD}{w:AV}{A:AS}{E:Ad→Af→Prop}{s:Af}
theorem aFu{a b:Int}{t u:Tok}{Q:Bool→Af→Prop}(h:Q (decide (a < b)) s):wpAny (model prog w) A (oneLt' false (Bq a t) (Bq b u)) Q E s:=by
 rw[oneLt'_eq];show wpAny _ _ (compareOp .Lt (Bq a t) (Bq b u) >>= _) _ _ _;apply Aa;refine lt_int ?_
 wp_walk
 exact h
theorem aBs{a b:Str}{t u:Tok}{Q:Bool→Af→Prop}(h:Q (decide (a.cps.toList < b.cps.toList)) s):wpAny (model prog w) A (oneLt' false (BA a t) (BA b u)) Q E s:=by
 rw[oneLt'_eq];show wpAny _ _ (compareOp .Lt (BA a t) (BA b u) >>= _) _ _ _;apply Aa;refine lt_str ?_
 wp_walk
 exact h
theorem ltP{F:Bool}{Z Y:Ad}{x y:P3}{C:Bool→Af→Prop}(hx:pK s.heap Z x)(M:pK s.heap Y y)(h:C (aH3 x y) s):wpAny (model prog w) A (keyLt' (tuples' F) Z Y) C E s:=by
 obtain⟨a1,b1,c1⟩:=x;obtain⟨a2,b2,c2⟩:=y;obtain⟨p1,t1,t2,t3,rfl,hx⟩:=hx;obtain⟨p2,u1,u2,u3,rfl,M⟩:=M;dsimp only at hx M;unfold aH3 at h;dsimp only at h;show wpAny _ _ (CW (.ref p1) >>= _) _ _ _;refine Aa (gW hx ?_);refine Aa (gW M ?_);dsimp only[List.zip_cons_cons,F2,List.zip_nil_left];rw[List.zipIdx_nil];have e1:∀{Q:Bool→Af→Prop} {a b:Int} {t u:Tok},Q (a == b) s→wpAny (model prog w) A (eqBool (.int a t) (.int b u)) Q E s:=fun{Q a b t u} q=>aAC (y:=.int a) (x:=.int b) ⟨t,rfl⟩ ⟨u,rfl⟩ rfl rfl prog w _ _ q;have e2:∀{Q:Bool→Af→Prop} {a b:Str} {t u:Tok},Q (a == b) s→wpAny (model prog w) A (eqBool (.str a t) (.str b u)) Q E s:=fun{Q a b t u} q=>Ff a t b u prog w _ _ q;refine Aa ?_;rw[C8];refine Aa (Aa (e2 ?_));cases hz:(a1 == a2)with
 | false=>
  rw[hz]at h;refine BZ (by decide) ?_;refine Aa ?_;show wpAny _ _ (oneLt' (F && 0 == 0) (BA a1 t1) (BA a2 u1)) _ _ _;cases F
  ·exact aBs (Ae (Ae (Ae h)))
  ·exact oneLt_str (Ae (Ae (Ae h)))
 | true=>
  rw[hz,Ib rfl]at h;refine AR (by decide) (Ae ?_);dsimp only;rw[C8];refine Aa (Aa (e2 ?_));cases G:(b1 == b2)with
  | false=>
   rw[G]at h;refine BZ (by decide) ?_;refine Aa ?_;have O:(F && ((0 + 1:Nat) == 0))=false:=by cases F <;> rfl
   show wpAny _ _ (oneLt' (F && (0 + 1 == 0)) (BA b1 t2) (BA b2 u2)) _ _ _;rw[O];exact aBs (Ae (Ae (Ae h)))
  | true=>
   rw[G,Ib rfl]at h;refine AR (by decide) (Ae ?_);dsimp only;rw[C8];refine Aa (Aa (e1 ?_));cases J:(c1 == c2)with
   | false=>
    rw[J]at h;refine BZ (by decide) ?_;refine Aa ?_;have O:(F && ((0 + 1 + 1:Nat) == 0))=false:=by cases F <;> rfl
    show wpAny _ _ (oneLt' (F && (0 + 1 + 1 == 0)) (Bq c1 t3) (Bq c2 u3)) _ _ _;rw[O];exact aFu (Ae (Ae (Ae h)))
   | true=>
    rw[J,Ib rfl]at h;refine AR (by decide) (Ae ?_);dsimp only;rw[Gn];exact Ae (Ae h)
end
section
variable{prog:AD}{w:AV}{A:AS}{E:Ad→Af→Prop}{s:Af}
theorem aH4{ks:List Ad}{Q:Dy→Af→Prop}(Y:∀ v∈ks,∃ x,pK s.heap v x)(h:∀ b,Q (tuples' b) s):wpAny (model prog w) A (keyKind' ks.toArray) Q E s:=by
 rw[keyKind'_eq,Dt];refine Aa ?_;rw[← bind_pure_comp];refine Aa (lZ (R:=fun _ r=>∃ a u,r=some (BA a u)) ks (fun v hv=>?_) fun rs hl G=>Ae ?_)
 ·obtain⟨x,t,u1,u2,u3,rfl,ht⟩:=Y v hv;refine⟨some (.str x.1 u1),⟨x.1,u1,rfl⟩,fun Q' q=>?_⟩;rw[kas_first_eq];refine Aa (Cn ht.typeIs ?_);refine AR (by decide) ?_;refine Aa (gW ht ?_);exact Ae q
 ·have F:(rs.toArray.all fun x=>x.isSome)=true:=by
   rw[List.all_toArray,A2];intro r Z;obtain⟨v,_,a,u,rfl⟩:=G r Z;rfl
  refine BZ (by rw[F];rfl) ?_;refine Aa (Ch ?_);rw[oneTypeOnly'_eq,Dt]
  iterate 2 refine Aa ?_
  rw[← bind_pure_comp];refine Aa (lZ (R:=fun _ r=>r=Br "str") _ (fun v hv=>?_) fun ts aa O=>Ae ?_)
  ·have J:some v∈rs:=by simpa using hv
   obtain⟨_,_,a,u,e⟩:=G _ J;cases e;exact⟨_,rfl,fun Q' q=>Cn (GQ s a u) q⟩
  ·cases M:ts.toArray[0]? with
   | none=>exact Ae (Ae (h _))
   | some t=>exact Ae (Ae (h _))
theorem pK.keep{h h':Bi}{v:Ad}{x:P3}(p:pK h v x)(k:∀ b o,h.get? b=some o→o.cls=.type "tuple"→h'.get? b=some o):pK h' v x:=by
 obtain⟨t,u1,u2,u3,e,o,ho,hc,r⟩:=p;exact⟨t,u1,u2,u3,e,o,k t o ho hc,hc,r⟩
end
section
variable{prog:AD}{w:AV}{A:AS}{E:Ad→Af→Prop}{s:Af}
end
section
variable{X:Cx}
inductive aBt(H:Hp)(v:V)(x:P3):Prop
 | mk (t:_) (q0:v=.ref t) (q1:H t=some (.tup [.str x.1,.str x.2.1,.int x.2.2])):aBt H v x
def aDU(H:Hp)(v:V)(x:P3):Prop:=aBt H v x
theorem aDU.real{iw:Ih}{σ:St}{H:Hp}{s:Af}{v:V}{u:Ad}{x:P3}(I:Inv X iw σ H s)(h:aDU H v x)(r:cF v u):pK s.heap u x:=by
 obtain⟨t,rfl,ht⟩:=h;cases r;obtain⟨_,its,q,hT⟩:cP X.prog X.w H s.heap t (.tup [.str x.1,.str x.2.1,.int x.2.2]):=I.hok _ _ ht;cases q with
 | cons G q=>
  cases q with
  | cons F q=>
   cases q with
   | cons J q=>
    cases q;obtain⟨u1,e1⟩:=G;obtain⟨u2,e2⟩:=F;obtain⟨u3,e3⟩:=J;subst e1 e2 e3;exact⟨t,u1,u2,u3,rfl,hT⟩
end
section
variable{n:Nat}{π:Nat→Nat}
abbrev ord(π:Nat→Nat):Nat→Nat→Bool:=fun i j=>decide (π i < π j)
variable(hn:0 < n)(hπ:∀ i j,i < n→j < n→π i=π j→i=j)
include hn hπ
omit hn hπ in
omit hn hπ in
end
abbrev K3:=Int×Int×Str
abbrev k0:K3:=(0,0,"")
inductive aDV(h:Bi)(v:Ad)(k:K3):Prop
 | mk (t:_) (u1:_) (u2:_) (u3:_) (q0:v=.ref t) (q1:E9 h t #[.int k.1 u1,.int k.2.1 u2,.str k.2.2 u3]):aDV h v k
def aJg(h:Bi)(v:Ad)(k:K3):Prop:=aDV h v k
section
variable{prog:AD}{w:AV}{A:AS}{E:Ad→Af→Prop}{s:Af}
end
section
variable{prog:AD}{w:AV}{A:AS}{E:Ad→Af→Prop}{s:Af}
end
section
variable{X:Cx}{iw:Ih}{σ:St}
inductive aBu(H:Hp)(v:Ad)(k:K3):Prop
 | mk (t:_) (q0:v=.ref t) (q1:H t=some (.tup [.int k.1,.int k.2.1,.str k.2.2])):aBu H v k
def aH5(H:Hp)(v:Ad)(k:K3):Prop:=aBu H v k
structure KsX(KR:V→K3→Prop)(H:Hp)(xd:List V)(ks:List Ad)(kk:List K3):Prop where
 len:ks.length=xd.length∧kk.length=xd.length
 key:∀ i,i < xd.length→aH5 H (ks.getD i .none) (kk.getD i k0)
 kr:∀ i,i < xd.length→KR (xd.getD i .non) (kk.getD i k0)
end
section
variable{X:Cx}{iw:Ih}{σ:St}{H:Hp}{s:Af}
end
section
variable{X:Cx}{iw:Ih}{σ:St}{H:Hp}{s:Af}{a:Ag}{iz:List (Key×V)}{k:Key}{u r:Ad}{A:AS}{E:Ad→Af→Prop}
end
section
variable{X:Cx}{o e f:Ba}{jk ji:Pos}{td ty tx:TE}
end
section
variable{X:Cx}{o:Ba}{jk ji:Pos}{td:TE}
end
section
variable{prog:AD}{w:AV}{A:AS}{v d:Ag}{vs:List (Key×Ad)}
end
section
variable{X:Cx}{e:Ba}{ta:TA}
end
inductive Fm:V→Str→Prop
 | str (z:Str) (h:z.length≤sizeLine):Fm (.str z) z
 | int (i:Int) (h:i.natAbs.log2 < 1920):Fm (.int i) (toString i)
abbrev TJ:=Str→St→Hp→VK→Prop
structure PJ(X:Cx)(es:List Ba)(t:TJ):Prop where
 run:∀(iw:Ih) (s:Af) (σ:St) (H:Hp) (Q:VK) (acc:Str),Inv X iw σ H s→t acc σ H Q→wpAny (model X.prog X.w) X.A (joinParts acc (evalEach es X.env)) (EP X iw σ Q) X.xe s
inductive J0(acc:Str)(σ:St)(H:Hp)(Q:VK):Prop
 | mk (h:acc.length≤sizeLine) (q:Q (.str acc) H):J0 acc σ H Q
inductive JC(z:Str)(t:TJ)(acc:Str)(σ:St)(H:Hp)(Q:VK):Prop
 | mk (h:(acc ++ z).length≤sizeLine) (q:t (acc ++ z) σ H Q):JC z t acc σ H Q
inductive JF(t:TJ)(acc:Str)(σ:St)(x:V)(H:Hp)(Q:VK):Prop
 | mk (z:Str) (f:Fm x z) (h:(acc ++ z).length≤sizeLine) (q:t (acc ++ z) σ H Q):JF t acc σ x H Q
section
variable{X:Cx}{es:List Ba}{t:TJ}{te:TE}
end
open PySem PySem.Spec PyProof.Rows PySem.Builtin PySem.Builtin.Str
inductive aFv(x:V)(xs:List V)(H:Hp)(Q:VK):Prop
 | mk (z y:PySem.Str) (h0:x=.str z) (h1:xs=[.str y]) (hy:(y.length == 0)=false) (hz:z.length + 2≤sizeLine) (q:∀ L,H L=none→Q (.ref L) (upd H L (.lst ((Txt.split z y).map V.str)))):aFv x xs H Q
open PySem PySem.Spec PyProof.Rows PySem.NumText
inductive aH6(xs:List V)(H:Hp)(Q:VK):Prop
 | mk (x:V) (z:Str) (h0:xs=[x]) (f:Fm x z) (q:Q (.str z) H):aH6 xs H Q
inductive aH7(xs:List V)(H:Hp)(Q:VK):Prop
 | mk (z:Str) (n:Int) (h0:xs=[.str z]) (hn:PySem.intText? z=some n) (hl:z.length≤640) (q:Q (.int n) H):aH7 xs H Q
section
variable{prog:AD}{w:AV}{K:Type}[DecidableEq K]{knd:HeapKind prog w K}{A:AS}{E:Ad→Af→Prop}{s:Af}
end
open PySem PySem.SetTable
inductive aDW(t:C5):Probe→Nat→Prop
 | here {p:Probe} {n:Nat}:t.slot p.j=.empty→aDW t p n
 | step {p:Probe} {n:Nat}:aDW t (t.advance p) n→aDW t p (n + 1)
def aI5(t:C5)(i perturb:Nat):Probe:={ j:=i,more:=runEnd t.mask i - i,i:=i,perturb:=perturb,dummy:=none }
def orb(m:Nat):Nat→Nat→Nat
 | 0,i=>i
 | k + 1,i=>orb m k ((i * 5 + 1) % m)
structure aH8(t:C5)(n:Nat):Prop where
 size:t.place.size=n
 nod:t.dummies=#[]
 mask:(t.mask=7∧n≤4)∨(t.mask=31∧n≤18)
inductive aDX(owner:Array (Option Nat)):Nat→Nat→Nat→Prop
 | here {i p n:Nat}:(owner.getD i (some 0)).isNone=true→aDX owner i p (n + 1)
 | step {i p n:Nat}:aDX owner (SetTable.leap 31 i p).1 (SetTable.leap 31 i p).2 n→aDX owner i p (n + 1)
structure aJh(owner:Array (Option Nat))(k:Nat):Prop where
 size:owner.size=32
 perm:((AU 32).filterMap fun j=>owner.getD j none).Perm (AU k)
section
variable{prog:AD}{w:AV}{A:AS}{E:Ad→Af→Prop}{s:Af}
inductive aGi(prog:AD)(w:AV)(h:Bi)(ks:List (List Str))(v:Ad):Prop
 | mk (b:_) (k:_) (q0:v=.ref b) (q1:IsTupleKey (strKind prog w) h k b) (q2:k∈ks):aGi prog w h ks v
def ElT(prog:AD)(w:AV)(h:Bi)(ks:List (List Str))(v:Ad):Prop:=aGi prog w h ks v
end
section
variable{prog:AD}{w:AV}{A:AS}{E:Ad→Af→Prop}{s:Af}
structure aJi(prog:AD)(w:AV)(h:Bi)(a:Ag)(rs:List Ag)(ks:List (List Str))(o:Obj)(es:Array (Int×Ad))(ep:Nat)(t:C5):Prop where
 at_:h.get? a=some o
 ex:o.ExactSet
 data:o.data=.set es ep t
 perm:(es.toList.map (·.2)).Perm (rs.map AF)
 els:∀ e∈es.toList,ElT prog w h ks e.2
 tab:aH8 t es.size
 led:tF w es t
end
abbrev P2:=Str×Str
def aIX(x y:P2):Bool:=if x.1 == y.1 then(if x.2 == y.2 then false else decide (x.2.cps.toList < y.2.cps.toList)) else decide (x.1.cps.toList < y.1.cps.toList)
inductive aBv(h:Bi)(v:Ad)(x:P2):Prop
 | mk (t:_) (u1:_) (u2:_) (q0:v=.ref t) (q1:E9 h t #[.str x.1 u1,.str x.2 u2]):aBv h v x
def aI6(h:Bi)(v:Ad)(x:P2):Prop:=aBv h v x
section
variable{prog:AD}{w:AV}{A:AS}{E:Ad→Af→Prop}{s:Af}
end
section
variable{prog:AD}{w:AV}{A:AS}{E:Ad→Af→Prop}{s:Af}
end
def aI7(R:List P2):Prop:=R.Pairwise fun a b=>aIX a b=true
def aDY(H:Hp)(r:Ag):P2:=match H r with
 | some (.tup [.str x,.str y])=>(x,y)
 | _=>("","")
def Pairs(H:Hp)(rs:List Ag):Prop:=∀ r∈rs,H r=some (.tup [.str (aDY H r).1,.str (aDY H r).2])
section
variable{P:AD}{w:AV}{H:Hp}{h:Bi}{a:Ag}
end
theorem aBw:∀{rs:List Ag}{its:List Ad},bX (rs.map V.ref) its→its=rs.map AF
 | [],_,.nil=>rfl
 | r :: rs,_,.cons e q=>by
  rw[aBw q];cases e;rfl
theorem vJ:∀(rs:List Ag),bX (rs.map V.ref) (rs.map AF)
 | []=>.nil
 | r :: rs=>.cons rfl (vJ rs)
section
variable{X:Cx}{iw:Ih}{σ:St}{H:Hp}{s:Af}
end
section
variable{prog:AD}{w:AV}{A:AS}{E:Ad→Af→Prop}{s:Af}{d I:Ag}{od:Obj}{es:Array DictEntry}{ep i:Nat}
def qU(d:Ag)(i n ep:Nat):Obj:={ cls:=.type "dict_keyiterator",dict:=none,data:=.fields #[.ref d,.int i 0,.int n 0,.int ep 0],slots:=#[] }
theorem aFw{n:Nat}(h:s.heap.get? I=some (qU d i n ep)):s.TypeIs (.ref I) "dict_keyiterator":=⟨_,h,rfl⟩
theorem aBx{Q:Option Ad→Af→Prop}(M:s.heap.get? I=some (qU d i es.size ep))(hd:s.heap.get? d=some od)(J:od.data=.dict es ep)
  (h:∀(key:Ad),es[i]?.map (·.key)=some key→Q (some key) { s with heap:=s.heap.update I (ES (·.setIfInBounds 1 (rawInt ((i:Int) + 1)))) })
  (he:es.size≤i→A.handled=none∧∀ h',(∀ b u,b≠I→s.heap.get? b=some u→h'.get? b=some u)→Q none { s with heap:=h' }):wpAny (model prog w) A (pyNext (.ref I)) Q E s:=by
 have G:=aFw M;have own:Builtin.Dict_items.ownsTuple "dict_keyiterator"=false:=by decide
 unfold pyNext;refine Aa (DO (Cj (name:=Bn "__next__") G Dz (Bz Dz G PySem.F.entry_dict_keyiterator_next ?_ (PySem.F.args_dict_keyiterator_next_1 _))));refine Aa (Ae (Aa (Aa ?_)))
 first | refine Aa (Ep G (Ae ?_)) | refine Aa (Fa G (Ae ?_))
 refine Aa (EO M rfl ?_);rw[own];refine AR (by rfl) ?_;refine Aa (Ae (Aa (wpAny_dictEntries hd J ?_)));refine AR (by simp) ?_;refine Aa (Ae (Aa (wpAny_dictEpoch hd J ?_)));refine AR (by simp) (Ae ?_);by_cases hi:i < es.size
 ·simp only[show¬ ((i:Int) < 0) from by omega,if_false,A6,BQ hi];refine Aa ?_
  first | refine Aa (Ep G (Ae ?_)) | refine Aa (Fa G (Ae ?_))
  refine Aa (wpAny_isOneOf_keyiter G ?_);show wpAny _ _ (setField (.ref I) 1 (rawInt ((i:Int) + 1)) >>= _) _ _ s;refine Aa (C3 M rfl (by simp[qU]) ?_);have O:Fp { s with heap:=s.heap.update I (ES (·.setIfInBounds 1 (rawInt ((i:Int) + 1)))) } (.ref I) "dict_keyiterator":=
   ⟨_,BY _ M (CN (Cf rfl _)),Obj.cls_mapFields ..⟩
  refine Aa (Bj (Aa (wpAny_isOneOf_keyiter O ?_)));show wpAny _ _ (pure es[i].key) _ _ _;exact Ae (Ae ⟨_,rfl,Ae (h _ (by simp[hi]))⟩)
 ·obtain⟨hh,q⟩:=he (by omega);simp only[show¬ ((i:Int) < 0) from by omega,if_false,A6,Array.getElem?_eq_none (show es.size≤i by omega)];refine Aa ?_
  first | refine Aa (Ep G (Ae ?_)) | refine Aa (Fa G (Ae ?_))
  show wpAny _ _ (setField (.ref I) 0 .none >>= _) _ _ s;refine Aa (C3 M rfl (by simp[qU]) ?_);refine oA (show A.in1.handled=none from hh) fun e h' k Y=>?_;refine Aa (C4 (T:="StopIteration") (b:=true) Y GX ?_);exact Ae (q h' fun b u nb Z=>k b u ((BI _ I _).extBut b u nb Z))
theorem aG0(Y:A.handled=none)(J:d≠I)(G:od.data=.dict es ep):
  Walks prog w A I [I,d] [I] es.size (fun i v=>es[i]?.map (·.key)=some v) (fun i h=>h.get? I=some (qU d i es.size ep)∧h.get? d=some od) where
 sub:=fun b M=>by simp at M;simp[M]
 frame:=fun _ _ _ st O=>⟨O I (by simp) _ st.1,O d (by simp) _ st.2⟩
 item:=fun i s Q E hi st F=>by
  refine aBx st.1 st.2 G (fun key q=>?_) fun z=>absurd z (by omega);refine F key _ s.toks q ⟨?_,(BI ..).extBut d _ J st.2⟩ fun b u nb e=>(BI ..).extBut b u (by simpa using nb) e;rw[BY _ st.1 (CN (Cf rfl _))];simp[qU,ES,rawInt]
 done:=fun s Q E st F=>aBx st.1 st.2 G (fun key q=>by simp at q) fun _=>⟨Y,fun h' k=>F h' s.toks fun b u nb e=>k b u (by simpa using nb) e⟩
 self:=fun i s Q E st F=>wpAny_pyIter_keyiter (n:=es.size) (ep:=ep) (d:=d) (i:=i) ⟨_,st.1,rfl,rfl⟩ F
theorem aG1{Q:Ad→Af→Prop}(hm:(d == sysModules)=false)(hd:s.heap.get? d=some od)(J:od.ExactDict)(q:od.data=.dict es ep)
  (M:Q (.ref s.heap.objs.size) { s with heap:=s.heap.push (qU d 0 es.size ep) }):wpAny (model prog w) A (pyIter (.ref d)) Q E s:=by
 have G:s.TypeIs (.ref d) "dict":=⟨od,hd,J.1⟩
 refine F8 G PySem.F.slot_dict_iter (Bz PySem.F.slot_dict_iter G PySem.F.entry_dict_iter ?_ (PySem.F.args_dict_iter_1 _));unfold Builtin.«dict.__iter__» Builtin.Dict.dictSlotNone;refine Aa (Aa (wpAny_notOrdered_dict G ?_));show wpAny _ _ (pure (AF d)) _ _ s;refine Ae ?_;show wpAny _ _ (Builtin.Dict.showsAll d >>= _) _ _ s;unfold Builtin.Dict.showsAll;rw[Ia (by rw[hm];exact AB)];refine Aa (Ae (Aa (wpAny_dictEntries hd q (Aa (wpAny_dictEpoch hd q ?_)))));refine Aa (BJ (Ae ⟨_,rfl,"dict_keyiterator",_,⟨_,At _ rfl,rfl⟩,Dz.lookup,?_⟩));exact M
theorem aH9(hm:(d == sysModules)=false)(q:od.ExactDict)(F:od.data=.dict es ep):KdlSrc prog w "dict" d d es.size (fun i v=>es[i]?.map (·.key)=some v) (fun h=>h.get? d=some od) where
 type:=fun _ hd=>⟨od,hd,q.1⟩
 there:=fun _ hd=>⟨Ar hd,Ar hd⟩
 keep:=fun _ _ hd J=>J d (.inl rfl) _ hd
 notList:=by decide
 notTuple:=by decide
 hint:=fun _ _ _ _ hd G=>kdl_hint_dict ⟨od,hd,q.1⟩ G
 iter:=fun _ s M hd=>⟨qU d 0 es.size ep,_,(fun _ _ G=>aG1 hm hd q F G),aG0 M (AA (Ar hd)) F,⟨At _ rfl,Ai _ hd⟩⟩
end
section
variable{X:Cx}
end
section
variable{X:Cx}{e st:Ba}{te ts:TE}{pos p2:Pos}
end
structure Fly(P:AD)(w:AV)(outer:List Env)(H H':Hp)(s:Af)(x:Ag)(C:Ad)(s':Af):Prop where
 os:s'.os=s.os
 bare:EL s'.gens
 ex:∃(B:Bi) (a0:Ad),Heap.FlyingW B outer x C a0 s'.heap∧HOk P w H' B∧(∀ b o,s.heap.get? b=some o→H b=none→b ∉ frs outer→B.get? b=some o)∧∀ b o,s.heap.get? b=some o→b ∉ frs outer→∃ o',B.get? b=some o'
 frf:∀ b∈frs outer,H b=none
 slot:∀ b o,s.heap.get? b=some o→H b=none→b∈frs outer→∃ sl,s'.heap.get? b=some { o with slots:=sl }
 free:∀ b o,s.heap.get? b=some o→H b=none→H' b=none
 tups:∀ b xs,H b=some (.tup xs)→H' b=some (.tup xs)
 frzs:∀ b o u,H b=some (.frz o u)→H' b=some (.frz o u)
 tbls:∀ b ps,H b=some (.tbl ps)→∃ more,H' b=some (.tbl (ps ++ more))
def CXr(P:AD)(w:AV):CXT:=fun outer H s E e s'=>∃(x:Ag) (C:Ad) (H':Hp),e=.ref x∧Fly P w outer H H' s x C s'∧E C none H'
section
variable{P:AD}{w:AV}{K:Ah}{mg:Str→Option Ad}{base:Bi}{N:List Str}{qual:Str}{scope:C1}{f:Ag}{cd:Ad}{A:AS}{outer:List Env}{s:Af}{H:Hp}{E:XK}
end
structure aI8(h:Bi)(C:Ag)(bmB:List Ad)(newId:String)(tl:List Ad)(N':Ag)(nm q:Str)(bs:List Ad)(hdct:Bool)(sn:List Str)(sub:List Ad)(ab:Bool)(col:Option Bool)(dd:Option Ag)(k0 k1 k2 k3 k5:Option Ad)(mN:Str→Option Ad):Prop where
 ob:h.get? C=some (excClassObj nm q C N' bs tl hdct sn sub ab col dd k0 k1 k2 k3 k5 newId)
 ns:h.Ns N' mN
 ni:mN "__init__"=none
 tl:OwnTail h bmB tl
section
variable{P:AD}{w:AV}{K:Ah}{mg:Str→Option Ad}{base:Bi}{N:List Str}{qual:Str}{scope:C1}{f:Ag}{cd:Ad}{A:AS}{outer:List Env}{s:Af}{H:Hp}{E:XK}
end
def aFx:Bool→BN→Array BN→Nat→Nat→Nat→StateT Bl Sem (Option Nat):=sortPriv% PySem.Builtin.gallop
def aDZ:Array BN→Array BN→StateT Bl Sem (Array BN):=sortPriv% PySem.Builtin.mergeLo
def aD0:Array BN→Array BN→StateT Bl Sem (Array BN):=sortPriv% PySem.Builtin.mergeHi
section
variable{prog:AD}{w:AV}{A:AS}{E:Ad→Af→Prop}{s:Af}{κ:Dy}{it:Array BN}
def oE(prog:AD)(w:AV)(A:AS)(s:Af)(κ:Dy)(it:Array BN):Prop:=
 ∀ x y,x∈it.toList→y∈it.toList→∀ C:Bool→Af→Prop,(∀ b,C b s)→wpAny (model prog w) A (keyLt' κ x.1 y.1) C (fun _ _=>False) s
theorem e9{arr:Array BN}{i:Nat}{p:BN}{st:Bl}{Q:BN→Bl→Prop}(hi:arr[i]?=some p)(h:Q p st):wpS (model prog w) A E s (elem' arr i) Q st:=by
 rw[elem'_eq,hi];exact AJ h
variable(hc:oE prog w A s κ it)
include hc
theorem tL{x y:BN}{st:Bl}{Q:Option Bool→Bl→Prop}(q:kindOf st=κ)(hx:x∈it.toList)(F:y∈it.toList)(h:∀ b,Q (some b) st):wpS (model prog w) A E s (lt' x y) Q st:=by
 rw[lt'_eq];refine Az (EG ?_);rw[q];refine Az (FF (DO (Cv (hc x y hx F (fun b s'=>s'=s) fun _=>rfl) (fun b s' e=>⟨e,?_⟩) fun _ _ e=>e.elim)));exact AJ (h b)
theorem gY{left:Bool}{key:BN}{arr:Array BN}{base n J:Nat}{st:Bl}{Q:Option Nat→Bl→Prop}(M:key∈it.toList)(Y:∀ i,i < n→∃ p,arr[base + i]?=some p∧p∈it.toList)(hh:J < n)(hk:kindOf st=κ)
  (h:∀ k,k≤n→Q (some k) st):wpS (model prog w) A E s (aFx left key arr base n J) Q st:=by
 have O:∀(i:Nat) (Q':Option Bool→Bl→Prop),i < n→(∀ b,Q' (some b) st)→wpS (model prog w) A E s (do
   let x ← elem' arr (base + i)
   if left=true then lt' x key else do
    let r ← lt' key x
    pure (r.map fun b=>!b)) Q' st:=fun i Q' hi q=>by
  obtain⟨p,e,hp⟩:=Y i hi;refine Az (e9 e ?_);split
  ·exact tL hc hk hp M q
  ·exact Az (tL hc hk M hp fun b=>AJ (q _))
 refine Az (O J _ hh fun b=>?_);dsimp only;split <;>
 ·refine Az (C2 (B8 (I:=fun _ c F=>F=st∧c.1=none) (Q:=fun c F=>F=st∧c.1=none) ?_ (fun c F z=>z) ⟨rfl,rfl⟩) ?_)
  ·rintro x ⟨r,lo,aa⟩ F _ _ ⟨rfl,z⟩;cases z;dsimp only;split
   ·exact AJ ⟨rfl,rfl⟩
   ·refine Az (O _ _ (by omega) fun b=>?_);dsimp only;split <;> exact AJ ⟨rfl,rfl⟩
  ·rintro⟨r,lo,aa⟩ F ⟨rfl,z⟩;cases z;dsimp only;refine Az (C2 (B8 (I:=fun _ c G=>G=F∧c.1=none∧c.2.2≤n) (Q:=fun c G=>G=F∧c.1=none∧c.2.2≤n) ?_ (fun c F z=>z) ⟨rfl,rfl,?_⟩) ?_)
   ·rintro x ⟨r,lo,hi⟩ G _ _ ⟨rfl,z,Z⟩;cases z;dsimp only at Z ⊢;split
    ·exact AJ ⟨rfl,rfl,Z⟩
    ·refine Az (O _ _ (by omega) fun b=>?_);dsimp only;split
     ·exact AJ ⟨rfl,rfl,Z⟩
     ·exact AJ ⟨rfl,rfl,by dsimp only;omega⟩
   ·dsimp only;omega
   ·rintro⟨r,lo,hi⟩ G ⟨rfl,z,Z⟩;cases z;exact AJ (h _ Z)
end
theorem pr3{α β γ:Type}{P:α×β×γ→Prop}(h:∀ a b c,P (a,b,c)):∀ x,P x:=fun⟨a,b,c⟩=>h a b c
def Pl(a b out:Array BN)(ia ib:Nat):Prop:=(out.toList ++ (a.toList.drop ia ++ b.toList.drop ib)).Perm (a.toList ++ b.toList)
section
variable{a b out:Array BN}{ia ib k:Nat}
theorem vK{c:Array BN}{i:Nat}{p:BN}(e:c[i]?=some p):c.toList.drop i=p :: c.toList.drop (i + 1):=by
 have q:c.toList[i]?=some p:=by rw[Ca];exact e
 obtain⟨h1,h2⟩:=Ax.mp q;rw[← h2];exact EF h1
theorem d9{c:Array BN}{i j:Nat}:(c.extract i j).toList=(c.toList.drop i).take (j - i):=by simp
theorem rN{c:Array BN}{i:Nat}:(c.extract i c.size).toList=c.toList.drop i:=by
 rw[d9,Bk];simp
theorem Pl.pushA{p:BN}(h:Pl a b out ia ib)(e:a[ia]?=some p):Pl a b (out.push p) (ia + 1) ib:=by
 unfold Pl at h ⊢;rw[vK e]at h;rw[Cw,AX];exact h
theorem Pl.pushB{p:BN}(h:Pl a b out ia ib)(e:b[ib]?=some p):Pl a b (out.push p) ia (ib + 1):=by
 unfold Pl at h ⊢;rw[vK e]at h;rw[Cw,AX];exact(Bx _ (List.perm_middle (l₁:=a.toList.drop ia) (a:=p)).symm).trans h
theorem Pl.runA(h:Pl a b out ia ib):Pl a b (out ++ a.extract ia (ia + k)) (ia + k) ib:=by
 unfold Pl at h ⊢;rw[A1,d9,DL,AX,← AX (Gz _ _),← Fi,BW];exact h
theorem Pl.runB(h:Pl a b out ia ib):Pl a b (out ++ b.extract ib (ib + k)) ia (ib + k):=by
 unfold Pl at h ⊢;refine Dq ?_ h;rw[A1,d9,DL,AX];refine Bx _ ?_;refine(Em _ _ _).trans (Bx _ ?_);rw[← Fi,BW]
theorem Pl.fin(h:Pl a b out ia ib):(out ++ a.extract ia a.size ++ b.extract ib b.size).Perm (a ++ b):=by
 rw[Bd,A1,A1,A1,rN,rN,AX];exact h
theorem Pl.fin2(h:Pl a b out ia ib):(out ++ b.extract ib b.size ++ a.extract ia a.size).Perm (a ++ b):=by
 rw[Bd,A1,A1,A1,rN,rN,AX];exact(Bx _ CJ).trans h
theorem Pl.start{p:BN}(e:b[0]?=some p):Pl a b #[p] 0 1:=by
 have h:Pl a b #[] 0 0:=EZ _;exact h.pushB e
end
theorem bQ{M:G8}{A:AS}{E:Ad→Af→Prop}{s:Af}{σ α:Type}{c:Prop}[Decidable c]{F q:StateT σ Sem α}{Q:α→σ→Prop}{st:σ}(h1:c→wpS M A E s F Q st)(h2:¬ c→wpS M A E s q Q st):wpS M A E s (if c then F else q) Q st:=by
 split
 ·exact h1 ‹_›
 ·exact h2 ‹_›
structure Sg(st st':Bl):Prop where
 kind:kindOf st'=kindOf st
 arr:arrOf st'=arrOf st
 pend:pendingOf st'=pendingOf st
 fail:failedOf st'=failedOf st
theorem Sg.refl(st:Bl):Sg st st:=⟨rfl,rfl,rfl,rfl⟩
theorem iF{i j:Nat}(h:¬ (i == j)=true):i≠j:=fun z=>h (by rw[z];exact beq_self_eq_true _)
structure GL(a b:Array BN)(x:Nat)(out:Array BN)(ia ib:Nat):Prop where
 pl:Pl a b out ia ib
 la:ia + 1 < a.size
 lb:ib < b.size
 on:x≤ia + ib
section
variable{prog:AD}{w:AV}{A:AS}{E:Ad→Af→Prop}{s:Af}{κ:Dy}{it:Array BN}(hc:oE prog w A s κ it)
include hc
theorem yQ{a b:Array BN}{st:Bl}{Q:Array BN→Bl→Prop}(ha:1≤a.size)(hb:1≤b.size)(iA:∀ p∈a.toList,p∈it.toList)(iB:∀ p∈b.toList,p∈it.toList)(hk:kindOf st=κ)
  (h:∀ out F,out.Perm (a ++ b)→Sg st F→Q out F):wpS (model prog w) A E s (aDZ a b) Q st:=by
 have gA:∀ i,i < a.size→∃ p,a[i]?=some p∧p∈it.toList:=fun i hi=>⟨_,BQ hi,iA _ (by simp)⟩
 have gB:∀ i,i < b.size→∃ p,b[i]?=some p∧p∈it.toList:=fun i hi=>⟨_,BQ hi,iB _ (by simp)⟩
 refine Az (FF (Ch ⟨rfl,?_⟩));obtain⟨p0,e0,_⟩:=gB 0 hb;refine Az (e9 e0 ?_);refine bQ (fun _=>AJ (h _ _ (Pl.start e0).fin (Sg.refl _))) fun n1=>?_;have ar:1≠b.size:=fun z=>n1 (by rw[← z];rfl);refine bQ (fun _=>AJ (h _ _ (Pl.start e0).fin2 (Sg.refl _))) fun n2=>?_;have ax:1≠a.size:=fun z=>n2 (by rw[← z];rfl);refine Az (EG ?_);dsimp only;have O:∀(i:Nat) (Q':BN→Bl→Prop) (F:Bl),i < a.size→(∀ p,a[i]?=some p→p∈it.toList→Q' p F)→wpS (model prog w) A E s (elem' a i) Q' F:=fun i Q' F hi q=>by
  obtain⟨p,e,Y⟩:=gA i hi;exact e9 e (q p e Y)
 have J:∀(i:Nat) (Q':BN→Bl→Prop) (F:Bl),i < b.size→(∀ p,b[i]?=some p→p∈it.toList→Q' p F)→wpS (model prog w) A E s (elem' b i) Q' F:=fun i Q' F hi q=>by
  obtain⟨p,e,Y⟩:=gB i hi;exact e9 e (q p e Y)
 refine Az (C2 (B8 (I:=fun x c F=>c.1=none∧GL a b x c.2.1 c.2.2.1 c.2.2.2.1∧Sg st F) (Q:=fun c F=>∃ r,c.1=some r∧r.Perm (a ++ b)∧Sg st F) ?_ (fun c F z=>?_) ⟨rfl,⟨Pl.start e0,by dsimp only;omega,by dsimp only;omega,by dsimp only;omega⟩,Sg.refl _⟩) ?_)
 ·refine fun x=>pr3 fun r out=>pr3 fun ia ib mg F _ hx=>?_;rintro⟨z,g,sg⟩;cases z;dsimp only at g ⊢;refine Az (C2 (B8 (I:=fun y c F=>c.1=none∧GL a b (x + y) c.2.1 c.2.2.1 c.2.2.2.1∧Sg st F) (Q:=fun c F=>Sg st F∧((∃ r,c.1=some r∧r.Perm (a ++ b))∨(c.1=none∧GL a b (x + 1) c.2.1 c.2.2.1 c.2.2.2.1))) ?_ (fun c F z=>?_) ⟨rfl,g,sg⟩) ?_)
  ·refine fun y=>pr3 fun r out=>pr3 fun ia ib=>Prod.rec fun ac bc F _ hy=>?_;rintro⟨z,g,sg⟩;cases z;obtain⟨hP,h1,h2,h3⟩:=g;dsimp only at hP h1 h2 h3 ⊢;refine Az (J _ _ _ h2 fun p ep Y=>Az (O _ _ _ (by omega) fun q eq hq=>Az (tL hc (sg.kind.trans hk) Y hq fun bw=>?_)));refine bQ (fun _=>?_) fun _=>?_
   ·refine Az (J _ _ _ h2 fun p' G _=>?_);refine bQ (fun _=>AJ ⟨sg,.inl ⟨_,rfl,(hP.pushB G).fin⟩⟩) fun n=>?_;have n':ib + 1≠b.size:=fun z=>n (by rw[z];exact beq_self_eq_true _);exact bQ (fun _=>AJ ⟨sg,.inr ⟨rfl,hP.pushB G,h1,by dsimp only;omega,by dsimp only;omega⟩⟩) fun _=>AJ ⟨rfl,⟨hP.pushB G,h1,by dsimp only;omega,by dsimp only;omega⟩,sg⟩
   ·refine Az (O _ _ _ (by omega) fun p' G _=>?_);refine bQ (fun _=>AJ ⟨sg,.inl ⟨_,rfl,(hP.pushA G).fin2⟩⟩) fun n=>?_;have n':ia + 1 + 1≠a.size:=fun z=>n (by rw[z];exact beq_self_eq_true _);exact bQ (fun _=>AJ ⟨sg,.inr ⟨rfl,hP.pushA G,by dsimp only;omega,h2,by dsimp only;omega⟩⟩) fun _=>AJ ⟨rfl,⟨hP.pushA G,by dsimp only;omega,h2,by dsimp only;omega⟩,sg⟩
  ·obtain⟨z1,⟨hP,h1,h2,h3⟩,sg⟩:=z;exact⟨sg,.inr ⟨z1,hP,h1,h2,by omega⟩⟩
  ·rintro⟨r,out,ia,ib,ac,bc⟩ F ⟨sg,⟨r',z,hr⟩ | ⟨z,g⟩⟩
   ·cases z;exact AJ ⟨_,rfl,hr,sg⟩
   ·cases z;dsimp only at g ⊢;refine Az (FF (Ch ⟨rfl,?_⟩));refine Az (C2 (B8 (I:=fun y c F=>c.1=none∧GL a b (x + 1) c.2.1 c.2.2.1 c.2.2.2.1∧Sg st F) (Q:=fun c F=>Sg st F∧((∃ r,c.1=some r∧r.Perm (a ++ b))∨(c.1=none∧GL a b (x + 1) c.2.1 c.2.2.1 c.2.2.2.1))) ?_ (fun c F z=>⟨z.2.2,.inr ⟨z.1,z.2.1⟩⟩) ⟨rfl,g,sg⟩) ?_)
    ·refine fun y=>pr3 fun r out=>pr3 fun ia ib=>pr3 fun mg ac bc F _ hy=>?_;rintro⟨z,g,sg⟩;cases z;obtain⟨hP,h1,h2,h3⟩:=g;dsimp only at hP h1 h2 h3 ⊢;refine bQ (fun _=>Az (CP ?_)) fun _=>Az (CP ?_)
     all_goals
      refine Az (J _ _ _ h2 fun p ep Y=>Az (gY hc Y (fun i hi=>gA _ (by omega)) (by omega) (sg.kind.trans hk) fun k aq=>?_));dsimp only;refine bQ (fun kp=>bQ (fun _=>AJ ⟨⟨sg.1,sg.2,sg.3,sg.4⟩,.inl ⟨_,rfl,(hP.runA (k:=k)).fin2⟩⟩) fun na=>bQ (fun _=>AJ ⟨⟨sg.1,sg.2,sg.3,sg.4⟩,.inl ⟨_,rfl,(hP.runA (k:=k)).fin⟩⟩) fun nb=>?_) fun _=>?_
      all_goals
       first | (have e1:=iF na;have e2:=iF nb;have aa:=hP.runA (k:=k);have ai:ia + k + 1 < a.size:=by omega) | (have aa:=hP;have ai:=h1)
       refine Az (J _ _ _ h2 fun p' G _=>bQ (fun _=>AJ ⟨⟨sg.1,sg.2,sg.3,sg.4⟩,.inl ⟨_,rfl,(aa.pushB G).fin⟩⟩) fun n=>?_);have n':=iF n;have Z:=aa.pushB G;refine Az (O _ _ _ (by omega) fun q eq hq=>Az (gY hc hq (fun i hi=>gB _ (by omega)) (by omega) (sg.kind.trans hk) fun k2 av=>?_));dsimp only;refine bQ (fun an=>bQ (fun _=>AJ ⟨⟨sg.1,sg.2,sg.3,sg.4⟩,.inl ⟨_,rfl,(Z.runB (k:=k2)).fin⟩⟩) fun nc=>?_) fun _=>?_
       all_goals
        first | (have e3:=iF nc;have M:=Z.runB (k:=k2)) | have M:=Z
        refine Az (O _ _ _ (by omega) fun q' ab _=>bQ (fun _=>AJ ⟨⟨sg.1,sg.2,sg.3,sg.4⟩,.inl ⟨_,rfl,(M.pushA ab).fin2⟩⟩) fun nd=>?_);have e4:=iF nd;exact bQ (fun _=>AJ ⟨⟨sg.1,sg.2,sg.3,sg.4⟩,.inr ⟨rfl,M.pushA ab,by dsimp only;omega,by dsimp only;omega,by dsimp only;omega⟩⟩) fun _=>AJ ⟨rfl,⟨M.pushA ab,by dsimp only;omega,by dsimp only;omega,by dsimp only;omega⟩,sg.1,sg.2,sg.3,sg.4⟩
    ·rintro⟨r,out,ia,ib,mg,ac,bc⟩ F ⟨sg,⟨r',z,hr⟩ | ⟨z,g⟩⟩
     ·cases z;exact AJ ⟨_,rfl,hr,sg⟩
     ·cases z;exact Az (CP (AJ ⟨rfl,g,sg.1,sg.2,sg.3,sg.4⟩))
 ·obtain⟨z1,⟨hP,h1,h2,h3⟩,sg⟩:=z;exfalso;omega
 ·rintro⟨r,out,ia,ib,mg⟩ F ⟨r',z,hr,sg⟩;cases z;exact AJ (h _ _ hr sg)
end
def Ph(a b out:Array BN)(na nb:Nat):Prop:=(out.toList ++ (a.toList.take na ++ b.toList.take nb)).Perm (a.toList ++ b.toList)
section
variable{a b out:Array BN}{na nb k:Nat}
theorem vL{c:Array BN}{i:Nat}{p:BN}(h:1≤i)(e:c[i - 1]?=some p):c.toList.take i=c.toList.take (i - 1) ++ [p]:=by
 obtain⟨j,rfl⟩:∃ j,i=j + 1:=⟨i - 1,by omega⟩
 rw[Nat.add_sub_cancel]at e ⊢;rw[List.take_succ,Ca,e];rfl
theorem yR{c:Array BN}{i j:Nat}(h:i≤j):c.toList.take j=c.toList.take i ++ (c.extract i j).toList:=by
 rw[d9];obtain⟨d,rfl⟩:∃ d,j=i + d:=⟨j - i,by omega⟩
 rw[DL];exact List.take_add
theorem Ph.pushA{p:BN}(h:Ph a b out na nb)(h1:1≤na)(e:a[na - 1]?=some p):Ph a b (out.push p) (na - 1) nb:=by
 unfold Ph at h ⊢;refine Dq ?_ h;rw[vL h1 e,Cw,AX,AX];exact Bx _ (Em _ _ _)
theorem Ph.pushB{p:BN}(h:Ph a b out na nb)(h1:1≤nb)(e:b[nb - 1]?=some p):Ph a b (out.push p) na (nb - 1):=by
 unfold Ph at h ⊢;refine Dq ?_ h;rw[vL h1 e,Cw,AX,← AX (Gz na _)];exact Bx _ CJ
theorem Ph.runA(h:Ph a b out na nb)(h1:k≤na):Ph a b (out ++ (a.extract k na).reverse) k nb:=by
 unfold Ph at h ⊢;refine Dq ?_ h;rw[yR h1,A1,Ee,AX,AX];exact Bx _ ((CZ _ (DT _)).trans (Em _ _ _))
theorem Ph.runB(h:Ph a b out na nb)(h1:k≤nb):Ph a b (out ++ (b.extract k nb).reverse) na k:=by
 unfold Ph at h ⊢;refine Dq ?_ h;rw[yR h1,A1,Ee,AX,← AX (Gz na _)];exact Bx _ ((CZ _ (DT _)).trans CJ)
theorem Ph.fin(h:Ph a b out na nb):(a.extract 0 na ++ b.extract 0 nb ++ out.reverse).Perm (a ++ b):=by
 rw[Bd,A1,A1,A1,d9,d9,Ee];exact(CJ.trans (CZ _ (DT _))).trans h
theorem Ph.fin2(h:Ph a b out na nb):(b.extract 0 nb ++ a.extract 0 na ++ out.reverse).Perm (a ++ b):=by
 rw[Bd,A1,A1,A1,d9,d9,Ee];exact((CJ.trans (CZ _ (DT _))).trans (Bx _ CJ)).trans h
theorem Ph.start{p:BN}(h:1≤a.size)(e:a[a.size - 1]?=some p):Ph a b #[p] (a.size - 1) b.size:=by
 have q:Ph a b #[] a.size b.size:=by
  unfold Ph;rw[Bk (by simp),Bk (by simp)];exact EZ _
 exact q.pushA h e
end
structure GH(a b:Array BN)(x:Nat)(out:Array BN)(na nb:Nat):Prop where
 pl:Ph a b out na nb
 la:1≤na
 lb:2≤nb
 ua:na≤a.size
 ub:nb≤b.size
 on:x + na + nb≤a.size + b.size
section
variable{prog:AD}{w:AV}{A:AS}{E:Ad→Af→Prop}{s:Af}{κ:Dy}{it:Array BN}(hc:oE prog w A s κ it)
include hc
theorem yS{a b:Array BN}{st:Bl}{Q:Array BN→Bl→Prop}(ha:1≤a.size)(hb:1≤b.size)(iA:∀ p∈a.toList,p∈it.toList)(iB:∀ p∈b.toList,p∈it.toList)(hk:kindOf st=κ)
  (h:∀ out F,out.Perm (a ++ b)→Sg st F→Q out F):wpS (model prog w) A E s (aD0 a b) Q st:=by
 have gA:∀ i,i < a.size→∃ p,a[i]?=some p∧p∈it.toList:=fun i hi=>⟨_,BQ hi,iA _ (by simp)⟩
 have gB:∀ i,i < b.size→∃ p,b[i]?=some p∧p∈it.toList:=fun i hi=>⟨_,BQ hi,iB _ (by simp)⟩
 refine Az (FF (Ch ⟨rfl,?_⟩));obtain⟨p0,e0,_⟩:=gA (a.size - 1) (by omega);refine Az (e9 e0 ?_);refine bQ (fun _=>AJ (h _ _ (Ph.start ha e0).fin (Sg.refl _))) fun n1=>?_;have aq:=iF n1;refine bQ (fun _=>AJ (h _ _ (Ph.start ha e0).fin2 (Sg.refl _))) fun n2=>?_;have aw:=iF n2;refine Az (EG ?_);dsimp only;have Z:∀(i:Nat) (Q':BN→Bl→Prop) (F:Bl),i < a.size→(∀ p,a[i]?=some p→p∈it.toList→Q' p F)→wpS (model prog w) A E s (elem' a i) Q' F:=fun i Q' F hi q=>by
  obtain⟨p,e,hp⟩:=gA i hi;exact e9 e (q p e hp)
 have O:∀(i:Nat) (Q':BN→Bl→Prop) (F:Bl),i < b.size→(∀ p,b[i]?=some p→p∈it.toList→Q' p F)→wpS (model prog w) A E s (elem' b i) Q' F:=fun i Q' F hi q=>by
  obtain⟨p,e,hp⟩:=gB i hi;exact e9 e (q p e hp)
 refine Az (C2 (B8 (I:=fun x c F=>c.1=none∧GH a b x c.2.2.2.1 c.2.1 c.2.2.1∧Sg st F) (Q:=fun c F=>∃ r,c.1=some r∧r.Perm (a ++ b)∧Sg st F) ?_ (fun c F z=>?_) ⟨rfl,⟨Ph.start ha e0,by dsimp only;omega,by dsimp only;omega,by dsimp only;omega,by dsimp only;omega,by dsimp only;omega⟩,Sg.refl _⟩) ?_)
 ·refine fun x=>pr3 fun r na=>pr3 fun nb out mg F _ hx=>?_;rintro⟨z,g,sg⟩;cases z;dsimp only at g ⊢;refine Az (C2 (B8 (I:=fun y c F=>c.1=none∧GH a b (x + y) c.2.2.2.1 c.2.1 c.2.2.1∧Sg st F) (Q:=fun c F=>Sg st F∧((∃ r,c.1=some r∧r.Perm (a ++ b))∨(c.1=none∧GH a b (x + 1) c.2.2.2.1 c.2.1 c.2.2.1))) ?_ (fun c F z=>?_) ⟨rfl,g,sg⟩) ?_)
  ·refine fun y=>pr3 fun r na=>pr3 fun nb out=>Prod.rec fun ac bc F _ hy=>?_;rintro⟨z,g,sg⟩;cases z;obtain⟨hP,h1,h2,h3,h4,h5⟩:=g;dsimp only at hP h1 h2 h3 h4 h5 ⊢;refine Az (O _ _ _ (by omega) fun p ep hp=>Az (Z _ _ _ (by omega) fun q eq hq=>Az (tL hc (sg.kind.trans hk) hp hq fun bw=>?_)));refine bQ (fun _=>?_) fun _=>?_
   ·refine Az (Z _ _ _ (by omega) fun p' G _=>?_);refine bQ (fun _=>AJ ⟨sg,.inl ⟨_,rfl,(hP.pushA h1 G).fin⟩⟩) fun n=>?_;have n':=iF n;exact bQ (fun _=>AJ ⟨sg,.inr ⟨rfl,hP.pushA h1 G,by dsimp only;omega,h2,by dsimp only;omega,h4,by dsimp only;omega⟩⟩) fun _=>AJ ⟨rfl,⟨hP.pushA h1 G,by dsimp only;omega,h2,by dsimp only;omega,h4,by dsimp only;omega⟩,sg⟩
   ·refine Az (O _ _ _ (by omega) fun p' G _=>?_);refine bQ (fun _=>AJ ⟨sg,.inl ⟨_,rfl,(hP.pushB (by omega) G).fin2⟩⟩) fun n=>?_;have n':=iF n;exact bQ (fun _=>AJ ⟨sg,.inr ⟨rfl,hP.pushB (by omega) G,h1,by dsimp only;omega,h3,by dsimp only;omega,by dsimp only;omega⟩⟩) fun _=>AJ ⟨rfl,⟨hP.pushB (by omega) G,h1,by dsimp only;omega,h3,by dsimp only;omega,by dsimp only;omega⟩,sg⟩
  ·obtain⟨z1,⟨hP,h1,h2,h3,h4,h5⟩,sg⟩:=z;exact⟨sg,.inr ⟨z1,hP,h1,h2,h3,h4,by omega⟩⟩
  ·rintro⟨r,na,nb,out,ac,bc⟩ F ⟨sg,⟨r',z,hr⟩ | ⟨z,g⟩⟩
   ·cases z;exact AJ ⟨_,rfl,hr,sg⟩
   ·cases z;dsimp only at g ⊢;refine Az (FF (Ch ⟨rfl,?_⟩));refine Az (C2 (B8 (I:=fun y c F=>c.1=none∧GH a b (x + 1) c.2.2.2.1 c.2.1 c.2.2.1∧Sg st F) (Q:=fun c F=>Sg st F∧((∃ r,c.1=some r∧r.Perm (a ++ b))∨(c.1=none∧GH a b (x + 1) c.2.2.2.1 c.2.1 c.2.2.1))) ?_ (fun c F z=>⟨z.2.2,.inr ⟨z.1,z.2.1⟩⟩) ⟨rfl,g,sg⟩) ?_)
    ·refine fun y=>pr3 fun r na=>pr3 fun nb out=>pr3 fun mg ac bc F _ hy=>?_;rintro⟨z,g,sg⟩;cases z;obtain⟨hP,h1,h2,h3,h4,h5⟩:=g;dsimp only at hP h1 h2 h3 h4 h5 ⊢;refine bQ (fun _=>Az (CP ?_)) fun _=>Az (CP ?_)
     all_goals
      refine Az (O _ _ _ (by omega) fun p ep hp=>Az (gY hc hp (fun i hi=>gA _ (by omega)) (by omega) (sg.kind.trans hk) fun k ag=>?_));dsimp only;refine bQ (fun kp=>bQ (fun _=>AJ ⟨⟨sg.1,sg.2,sg.3,sg.4⟩,.inl ⟨_,rfl,(hP.runA ag).fin⟩⟩) fun na=>?_) fun kz=>?_
      all_goals
       first | (have e1:=iF na;have ab:=hP.runA ag;have M:1≤k:=by omega) | (have ab:=hP;have M:=h1)
       refine Az (O _ _ _ (by omega) fun p' G _=>bQ (fun _=>AJ ⟨⟨sg.1,sg.2,sg.3,sg.4⟩,.inl ⟨_,rfl,(ab.pushB (by omega) G).fin2⟩⟩) fun n=>?_);have n':=iF n;have J:=ab.pushB (by omega) G;refine Az (Z _ _ _ (by omega) fun q eq hq=>Az (gY hc hq (fun i hi=>gB _ (by omega)) (by omega) (sg.kind.trans hk) fun k2 ad=>?_));dsimp only;refine bQ (fun ao=>bQ (fun _=>AJ ⟨⟨sg.1,sg.2,sg.3,sg.4⟩,.inl ⟨_,rfl,(J.runB ad).fin2⟩⟩) fun nc=>bQ (fun _=>AJ ⟨⟨sg.1,sg.2,sg.3,sg.4⟩,.inl ⟨_,rfl,(J.runB ad).fin⟩⟩) fun nd=>?_) fun _=>?_
       all_goals
        first | (have e3:=iF nc;have av:=iF nd;have Y:=J.runB ad) | have Y:=J
        refine Az (Z _ _ _ (by omega) fun q' ae _=>bQ (fun _=>AJ ⟨⟨sg.1,sg.2,sg.3,sg.4⟩,.inl ⟨_,rfl,(Y.pushA M ae).fin⟩⟩) fun nd=>?_);have e4:=iF nd;exact bQ (fun _=>AJ ⟨⟨sg.1,sg.2,sg.3,sg.4⟩,.inr ⟨rfl,Y.pushA M ae,by dsimp only;omega,by dsimp only;omega,by dsimp only;omega,by dsimp only;omega,by dsimp only;omega⟩⟩) fun _=>AJ ⟨rfl,⟨Y.pushA M ae,by dsimp only;omega,by dsimp only;omega,by dsimp only;omega,by dsimp only;omega,by dsimp only;omega⟩,sg.1,sg.2,sg.3,sg.4⟩
    ·rintro⟨r,na,nb,out,mg,ac,bc⟩ F ⟨sg,⟨r',z,hr⟩ | ⟨z,g⟩⟩
     ·cases z;exact AJ ⟨_,rfl,hr,sg⟩
     ·cases z;exact Az (CP (AJ ⟨rfl,g,sg.1,sg.2,sg.3,sg.4⟩))
 ·obtain⟨z1,⟨hP,h1,h2,h3,h4,h5⟩,sg⟩:=z;exfalso;omega
 ·rintro⟨r,na,nb,out,mg⟩ F ⟨r',z,hr,sg⟩;cases z;exact AJ (h _ _ hr sg)
end
structure Sm(st st':Bl):Prop where
 kind:kindOf st'=kindOf st
 arr:(arrOf st').Perm (arrOf st)
 pend:pendingOf st'=pendingOf st
 fail:failedOf st'=failedOf st
theorem Sm.refl(st:Bl):Sm st st:=⟨rfl,Do _,rfl,rfl⟩
theorem Sm.trans{st F q:Bl}(a:Sm st F)(b:Sm F q):Sm st q:=⟨b.1.trans a.1,b.2.trans a.2,b.3.trans a.3,b.4.trans a.4⟩
theorem Sm.rev(st:Bl)(i j k:Nat):Sm st (setArr st (mirror (arrOf st) i j k)):=⟨rfl,mirror_perm _ _ _ _,rfl,rfl⟩
theorem Sm.bub(st:Bl)(i j:Nat):Sm st (setArr st (bubble (arrOf st) i j)):=⟨rfl,bubble_perm _ _ _,rfl,rfl⟩
structure GS(κ:Dy)(it:Array BN)(st:Bl):Prop where
 kind:kindOf st=κ
 perm:(arrOf st).Perm it
 fail:failedOf st=none
theorem GS.on{κ:Dy}{it:Array BN}{st q:Bl}(g:GS κ it st)(m:Sm st q):GS κ it q:=⟨m.1.trans g.1,m.2.trans g.2,m.4.trans g.3⟩
section
variable{prog:AD}{w:AV}{A:AS}{E:Ad→Af→Prop}{s:Af}{κ:Dy}{it:Array BN}
theorem GS.get{st:Bl}(g:GS κ it st){i:Nat}(hi:i < it.size):∃ p,(arrOf st)[i]?=some p∧p∈it.toList:=by
 have q:i < (arrOf st).size:=by rw[g.perm.size_eq];exact hi
 exact⟨_,BQ q,(Bd.mp g.perm).mem_iff.mp (by simp)⟩
theorem pL{st:Bl}{i j:Nat}{Q:Unit→Bl→Prop}(h:∀ q,Sm st q→Q () q):wpS (model prog w) A E s (reverseSlice' i j) Q st:=by
 rw[reverseSlice'_eq];exact CP (h _ (Sm.rev _ _ _ _))
theorem aD1{st:Bl}{i j:Nat}{Q:Unit→Bl→Prop}(h:∀ q,Sm st q→Q () q):wpS (model prog w) A E s (moveDown' i j) Q st:=by
 rw[moveDown'_eq];exact CP (h _ (Sm.bub _ _ _))
variable(hc:oE prog w A s κ it)
include hc
theorem j9{st:Bl}{i j:Nat}{Q:Option Bool→Bl→Prop}(g:GS κ it st)(hi:i < it.size)(F:j < it.size)(h:∀ b,Q (some b) st):wpS (model prog w) A E s (ltAt' i j) Q st:=by
 obtain⟨p,e1,hp⟩:=g.get hi;obtain⟨q,e2,hq⟩:=g.get F;rw[ltAt'_eq];exact Az (EG (Az (e9 e1 (Az (e9 e2 (tL hc g.kind hp hq h))))))
theorem aCy{lo G:Nat}{st:Bl}{Q:Option Nat→Bl→Prop}(g:GS κ it st)(h1:1≤G)(hz:lo + G≤it.size)(h:∀ n F,1≤n→n≤G→Sm st F→Q (some n) F):wpS (model prog w) A E s (countRun' lo G) Q st:=by
 have O:∀(n0:Nat) (st0:Bl) (Q':Option (Option Nat)×Nat→Bl→Prop),GS κ it st0→1≤n0→n0≤G→(∀ n,n0≤n→n≤G→Q' (none,n) st0)→wpS (model prog w) A E s (forIn [n0:G] (none,n0) fun _ c=>do
   let r ← ltAt' (lo + c.2) (lo + c.2 - 1)
   match r with
   | some b=>if b=true then pure (ForInStep.done (none,c.2)) else pure (Cs (none,c.2 + 1))
   | _=>pure (ForInStep.done (some none,c.2))) Q' st0:=fun n0 st0 Q' g0 au Z q=>by
  refine C2 (B8 (I:=fun x c F=>F=st0∧c=(none,x)) (Q:=fun c F=>F=st0∧∃ n,c=(none,n)∧n0≤n∧n≤G) ?_ (fun c F z=>⟨z.1,_,z.2,by omega,by omega⟩) ⟨rfl,rfl⟩) fun c F z=>?_
  ·rintro x c F ae ak ⟨rfl,rfl⟩;refine Az (j9 hc g0 (by dsimp only;omega) (by dsimp only;omega) fun b=>?_);refine bQ (fun _=>AJ ⟨rfl,_,rfl,ae,by omega⟩) fun _=>AJ ⟨rfl,rfl⟩
  ·obtain⟨rfl,n,rfl,z1,Y⟩:=z;exact q n z1 Y
 rw[countRun'_eq];refine Az (O 1 st _ g (Am _) h1 fun n Z ah=>?_);dsimp only;refine bQ (fun _=>AJ (h n st Z ah (Sm.refl _))) fun ne=>?_;have ao:=iF ne;refine bQ (fun _=>Az (j9 hc g (by omega) (by omega) fun b=>bQ (fun _=>AJ (h n st Z ah (Sm.refl _))) fun _=>Az (pL fun aq m1=>?_))) fun _=>?_
 all_goals
  first | (have g1:=g.on m1;have ag:=m1) | (have g1:=g;have ag:=Sm.refl st)
  refine Az (FF (Ch ⟨rfl,?_⟩));refine Az (C2 (B8 (I:=fun x c F=>c.1=none∧c.2.1=x∧Sm st F) (Q:=fun c F=>c.1=none∧1≤c.2.1∧c.2.1≤G∧Sm st F) ?_ (fun c F z=>⟨z.1,by have:=z.2.1;omega,by have:=z.2.1;omega,z.2.2⟩) ⟨rfl,rfl,ag⟩) ?_)
  ·rintro x ⟨r,n',q⟩ F ae ak ⟨z1,Y,J⟩;dsimp only at z1 Y ⊢;subst z1 Y;refine Az (j9 hc (g.on J) (by omega) (by omega) fun b=>?_);refine bQ (fun _=>bQ (fun _=>Az (pL fun al m3=>AJ ⟨rfl,rfl,J.trans m3⟩)) fun _=>AJ ⟨rfl,rfl,J⟩) fun _=>?_;refine Az (j9 hc (g.on J) (by omega) (by omega) fun b=>?_);exact bQ (fun _=>AJ ⟨rfl,by dsimp only;omega,by dsimp only;omega,J⟩) fun _=>AJ ⟨rfl,rfl,J⟩
  ·rintro⟨r,n',q⟩ F ⟨z1,Y,z3,J⟩;dsimp only at z1 Y z3 ⊢;subst z1;refine bQ (fun _=>Az (pL fun al m3=>Az (pL fun M m4=>?_))) fun _=>Az (pL fun M m4=>?_)
   ·exact Az (O n' M _ (g.on ((J.trans m3).trans m4)) Y z3 fun aa a1 a2=>AJ (h aa M (by omega) a2 ((J.trans m3).trans m4)))
   ·exact Az (O n' M _ (g.on (J.trans m4)) Y z3 fun aa a1 a2=>AJ (h aa M (by omega) a2 (J.trans m4)))
theorem aAQ{lo n ok:Nat}{st:Bl}{Q:Bool→Bl→Prop}(g:GS κ it st)(hz:lo + n≤it.size)(h:∀ F,Sm st F→Q true F):wpS (model prog w) A E s (binarySort' lo n ok) Q st:=by
 rw[binarySort'_eq];refine Az (C2 (B8 (I:=fun x c F=>c.1=none∧Sm st F) (Q:=fun c F=>c.1=none∧Sm st F) ?_ (fun c F z=>z) ⟨rfl,Sm.refl _⟩) ?_)
 ·rintro k ⟨r,u⟩ F Y Z ⟨J,m⟩;dsimp only at J ⊢;subst J;refine Az (C2 (B8 (I:=fun x c G=>c.1=none∧c.2.2≤k∧G=F) (Q:=fun c G=>c.1=none∧G=F) ?_ (fun c F z=>⟨z.1,z.2.2⟩) ⟨rfl,Am _,rfl⟩) ?_)
  ·rintro x ⟨r,l,q⟩ G _ hx ⟨J,z2,rfl⟩;dsimp only at J z2 ⊢;subst J;refine bQ (fun _=>AJ ⟨rfl,rfl⟩) fun O=>?_;refine Az (j9 hc (g.on m) (by omega) (by omega) fun b=>?_);exact bQ (fun _=>AJ ⟨rfl,by dsimp only;omega,rfl⟩) fun _=>AJ ⟨rfl,by dsimp only;omega,rfl⟩
  ·rintro⟨r,l,q⟩ G ⟨J,rfl⟩;dsimp only at J ⊢;subst J;exact Az (aD1 fun aa M=>AJ ⟨rfl,m.trans M⟩)
 ·rintro⟨r,u⟩ F ⟨J,m⟩;dsimp only at J ⊢;subst J;exact AJ (h F m)
end
def gZ:List (Nat×Nat×Nat)→Nat→Nat→Prop
 | [],a,b=>a=b
 | r :: l,a,b=>r.1=a∧1≤r.2.1∧gZ l (a + r.2.1) b
theorem gZ.le:∀{l:List (Nat×Nat×Nat)}{a b:Nat},gZ l a b→a≤b
 | [],a,b,h=>Es h
 | r :: l,a,b,h=>by have:=gZ.le h.2.2;omega
theorem gZ.snoc{n x:Nat}(hn:1≤n):∀{l:List (Nat×Nat×Nat)}{a b:Nat},gZ l a b→gZ (l ++ [(b,n,x)]) a (b + n)
 | [],a,b,h=>⟨(show a=b from h).symm,hn,by show a + n=b + n;rw[show a=b from h]⟩
 | r :: l,a,b,h=>⟨h.1,h.2.1,gZ.snoc hn h.2.2⟩
theorem gZ.mod{f:Nat×Nat×Nat→Nat×Nat×Nat}(q:∀ r,(f r).1=r.1∧(f r).2.1=r.2.1):∀{l:List (Nat×Nat×Nat)}{a b:Nat} (i:Nat),gZ l a b→gZ (l.modify i f) a b
 | [],a,b,i,h=>by rw[List.modify_nil];exact h
 | r :: l,a,b,0,h=>by
  rw[List.modify_zero_cons];exact⟨(q r).1.trans h.1,by rw[(q r).2];exact h.2.1,by rw[(q r).2];exact h.2.2⟩
 | r :: l,a,b,i + 1,h=>by
  rw[List.modify_succ_cons];exact⟨h.1,h.2.1,gZ.mod q i h.2.2⟩
theorem gZ.two{sa na pw F nb pv:Nat}:∀{l:List (Nat×Nat×Nat)}{a b:Nat} (i:Nat),gZ l a b→l[i]?=some (sa,na,pw)→l[i + 1]?=some (F,nb,pv)→sa + na=F∧1≤na∧1≤nb∧F + nb≤b∧gZ ((l.set i (sa,na + nb,pw)).eraseIdx (i + 1)) a b
 | [],a,b,i,h,e1,q=>by simp at e1
 | [r],a,b,0,h,e1,q=>by simp at q
 | r :: G :: l,a,b,0,h,e1,q=>by
  simp at e1 q;subst e1 q;obtain⟨h1,h2,h3,h4,h5⟩:=h;dsimp only at h1 h2 h3 h4 h5;have:=h5.le;refine⟨by omega,h2,h4,by omega,h1,by dsimp only;omega,?_⟩;dsimp only;rw[← Nat.add_assoc];exact h5
 | r :: l,a,b,i + 1,h,e1,q=>by
  obtain⟨x1,x2,x3,x4,x5⟩:=gZ.two i h.2.2 (by simpa using e1) (by simpa using q);exact⟨x1,x2,x3,x4,h.1,h.2.1,x5⟩
theorem aBy:∀(l:List BN) (j k:Nat) (c:Array BN),((l.zipIdx j).foldl (fun a q=>a.setIfInBounds (k + q.2) q.1) c).toList=c.toList.take (k + j) ++ (l ++ c.toList.drop (k + j + l.length))∨c.size < k + j + l.length
 | [],j,k,c=>.inl (by simp)
 | p :: l,j,k,c=>by
  by_cases hz:c.size < k + j + (p :: l).length
  ·exact .inr hz
  ·refine .inl ?_;rw[F2,BL];have hl:k + j < c.toList.length:=by simp at hz ⊢;omega
   rcases aBy l (j + 1) k (c.setIfInBounds (k + j) p)with e | e
   ·rw[e,Array.toList_setIfInBounds];have G:(c.toList.set (k + j) p).take (k + (j + 1))=c.toList.take (k + j) ++ [p]:=by
     rw[← Nat.add_assoc,List.take_succ,E7 hl,List.take_set_of_le (Am _)];rfl
    have F:(c.toList.set (k + j) p).drop (k + (j + 1) + l.length)=c.toList.drop (k + j + (p :: l).length):=by
     rw[List.drop_set_of_lt (by omega),AI];congr 1;omega
    rw[G,F,AX];rfl
   ·exfalso;simp at e hz;omega
theorem aD2{c x:Array BN}{sa n:Nat}(hx:x.toList.Perm ((c.toList.drop sa).take n))(hz:sa + n≤c.size):(x.toList.zipIdx.foldl (fun a q=>a.setIfInBounds (sa + q.2) q.1) c).Perm c:=by
 have hl:x.toList.length=n:=by
  rw[hx.length_eq];simp;omega
 rcases aBy x.toList 0 sa c with e | e
 ·rw[Bd,e];rw[Nat.add_zero,hl];have F:c.toList=c.toList.take sa ++ ((c.toList.drop sa).take n ++ c.toList.drop (sa + n)):=by
   rw[← Fi,BW,BW]
  refine Dq (Bx _ (CZ _ hx)) ?_;rw[← F]
 ·rw[hl]at e;omega
section
variable{prog:AD}{w:AV}{A:AS}{E:Ad→Af→Prop}{s:Af}{κ:Dy}{it:Array BN}
theorem aFy{M:G8}{σ:Type}{a:σ}{Q:PUnit→σ→Prop}{st:σ}(h:Q ⟨⟩ a):wpS M A E s (set a:StateT σ Sem PUnit) Q st:=by
 unfold wpS;rw[StateT.run_set];exact Ae ⟨rfl,h⟩
variable(hc:oE prog w A s κ it)
include hc
theorem qV{i lo:Nat}{st:Bl}{Q:Bool→Bl→Prop}(g:GS κ it st)(hs:gZ (pendingOf st).toList 0 lo)(an:lo≤it.size)(hi:i + 1 < (pendingOf st).size)(h:∀ F,GS κ it F→gZ (pendingOf F).toList 0 lo→(pendingOf F).size + 1=(pendingOf st).size→Q true F):
  wpS (model prog w) A E s (mergeAt' i) Q st:=by
 obtain⟨⟨sa,na,pw⟩,ea⟩:∃ r,(pendingOf st)[i]?=some r:=⟨_,BQ (by omega)⟩
 obtain⟨⟨sb,nb,pv⟩,eb⟩:∃ r,(pendingOf st)[i + 1]?=some r:=⟨_,BQ hi⟩
 have ad:(pendingOf st).toList[i]?=some (sa,na,pw):=by rw[Ca];exact ea
 have ab:(pendingOf st).toList[i + 1]?=some (sb,nb,pv):=by rw[Ca];exact eb
 obtain⟨x1,x2,x3,x4,x5⟩:=gZ.two i hs ad ab;have O:(((pendingOf st).setIfInBounds i (sa,na + nb,pw)).eraseIdxIfInBounds (i + 1)).toList=((pendingOf st).toList.set i (sa,na + nb,pw)).eraseIdx (i + 1):=by simp
 have ae:(((pendingOf st).setIfInBounds i (sa,na + nb,pw)).eraseIdxIfInBounds (i + 1)).size + 1=(pendingOf st).size:=by
  rw[← Bf,O,Dl (by rw[Cz,Bf];exact hi),Cz,Bf];omega
 have hz:(arrOf st).size=it.size:=g.perm.size_eq;refine Az (EG ?_);rw[ea,eb];dsimp only;refine Az (aFy ?_);have Z:∀ j,j < it.size→∃ p,(arrOf st)[j]?=some p∧p∈it.toList:=fun j hj=>g.get hj;have fin:∀(F:Bl),Sg (setPending st (((pendingOf st).setIfInBounds i (sa,na + nb,pw)).eraseIdxIfInBounds (i + 1))) F→∀ c:Array BN,c.Perm (arrOf st)→Q true (setArr F c):=fun F sg c hp=>
  h _ ⟨sg.kind.trans g.kind,hp.trans g.perm,sg.fail.trans g.fail⟩ (by show gZ (pendingOf F).toList 0 lo;rw[sg.pend];show gZ (((pendingOf st).setIfInBounds i (sa,na + nb,pw)).eraseIdxIfInBounds (i + 1)).toList 0 lo;rw[O];exact x5) (by show(pendingOf F).size + 1=_;rw[sg.pend];exact ae)
 have G:Q true (setPending st (((pendingOf st).setIfInBounds i (sa,na + nb,pw)).eraseIdxIfInBounds (i + 1))):=fin _ (Sg.refl _) _ (Do _);obtain⟨p1,e1,i1⟩:=Z sb (by omega);refine Az (e9 e1 (Az (gY hc i1 (fun j hj=>Z _ (by omega)) (by omega) g.kind fun k hk=>?_)));dsimp only;refine bQ (fun _=>AJ G) fun n0=>?_;have ak:=iF n0;obtain⟨p2,e2,i2⟩:=Z (sa + k + (na - k) - 1) (by omega);refine Az (e9 e2 (Az (gY hc i2 (fun j hj=>Z _ (by omega)) (by omega) g.kind fun k2 al=>?_)));dsimp only;refine bQ (fun _=>AJ G) fun n1=>?_;have aj:=iF n1;have M:∀ q∈((arrOf st).extract (sa + k) sb).toList,q∈it.toList:=fun q J=>by
  rw[d9]at J;exact(Bd.mp g.perm).mem_iff.mp (CQ (B2 J))
 have Y:∀ q∈((arrOf st).extract sb (sb + k2)).toList,q∈it.toList:=fun q J=>by
  rw[d9]at J;exact(Bd.mp g.perm).mem_iff.mp (CQ (B2 J))
 have sX:1≤((arrOf st).extract (sa + k) sb).size:=by rw[Array.size_extract];omega
 have sY:1≤((arrOf st).extract sb (sb + k2)).size:=by rw[Array.size_extract];omega
 have fin2:∀(out:Array BN) (F:Bl),out.Perm ((arrOf st).extract (sa + k) sb ++ (arrOf st).extract sb (sb + k2))→Sg (setPending st (((pendingOf st).setIfInBounds i (sa,na + nb,pw)).eraseIdxIfInBounds (i + 1))) F→
   Q (failedOf (setArr F (out.toList.zipIdx.foldl (fun a q=>a.setIfInBounds (sa + k + q.2) q.1) (arrOf F)))).isNone (setArr F (out.toList.zipIdx.foldl (fun a q=>a.setIfInBounds (sa + k + q.2) q.1) (arrOf F))):=fun out F ho sg=>by
  have hf:(failedOf (setArr F (out.toList.zipIdx.foldl (fun a q=>a.setIfInBounds (sa + k + q.2) q.1) (arrOf F)))).isNone=true:=by
   show(failedOf F).isNone=true;rw[sg.fail.trans g.fail];rfl
  rw[hf];refine fin F sg _ ?_;rw[sg.arr];refine aD2 (n:=na - k + k2) ?_ (by show _≤(arrOf st).size;omega);refine(Bd.mp ho).trans ?_;rw[A1,d9,d9];have e3:(arrOf st).toList.drop sb=((arrOf st).toList.drop (sa + k)).drop (na - k):=by
   rw[Fi];congr 1;omega
  rw[e3,show sb - (sa + k)=na - k by omega,DL,← List.take_add]
 refine bQ (fun _=>Az (yQ hc sX sY M Y g.kind fun out F ho sg=>?_)) fun _=>Az (yS hc sX sY M Y g.kind fun out F ho sg=>?_)
 ·exact Az (CP (Az (EG (AJ (fin2 out F ho sg)))))
 ·exact Az (CP (Az (EG (AJ (fin2 out F ho sg)))))
end
section
variable{prog:AD}{w:AV}{A:AS}{E:Ad→Af→Prop}{s:Af}{κ:Dy}{it:Array BN}
structure SR(κ:Dy)(it:Array BN)(lo:Nat)(st:Bl):Prop where
 gs:GS κ it st
 le:lo≤it.size
 sg:gZ (pendingOf st).toList 0 lo
variable(hc:oE prog w A s κ it)
include hc
theorem aD3{st:Bl}{Q:Unit→Bl→Prop}(g:GS κ it st)(hp:pendingOf st=#[])(h:∀ q,(arrOf q).Perm it→failedOf q=none→Q () q):wpS (model prog w) A E s sortRuns' Q st:=by
 rw[sortRuns'_eq];refine Az (EG ?_);dsimp only;have hz:(arrOf st).size=it.size:=g.perm.size_eq;rw[hz];generalize minRun' it.size it.size 0=mr;refine Az (C2 (B8 (I:=fun x c q=>c.1=none∧SR κ it c.2 q) (Q:=fun c q=>c.1=none∧∃ lo,SR κ it lo q) ?_ (fun c q z=>⟨z.1,_,z.2⟩) ⟨rfl,g,Bc _,?_⟩) ?_)
 ·rintro x ⟨r,lo⟩ q _ _ ⟨G,J,F,hs⟩;dsimp only at G F hs ⊢;subst G;refine bQ (fun _=>AJ ⟨rfl,lo,J,F,hs⟩) fun hl=>?_;refine Az (aCy hc J (by omega) (by omega) fun n ar an av m1=>?_);dsimp only;refine bQ (fun hm=>Az (FF (Ch ⟨rfl,Az (aAQ hc (J.on m1) (by omega) fun af m2=>bQ (fun z=>nomatch z) fun _=>?_)⟩))) fun hm=>?_
  all_goals
   first | (have mm:=m1.trans m2;have ez:1≤min (it.size - lo) mr∧lo + min (it.size - lo) mr≤it.size:=by omega) | (have mm:=m1;have ez:1≤n∧lo + n≤it.size:=by omega)
   have gg:=J.on mm;have O:=hs;rw[← mm.pend]at O;refine Az (EG ?_);split
   ·rename_i s1 n1 _ ah;refine Az (C2 (B8 (I:=fun x c q=>c.1=none∧SR κ it lo q) (Q:=fun c q=>c.1=none∧SR κ it lo q) ?_ (fun c q z=>z) ⟨rfl,gg,F,O⟩) ?_)
    ·rintro x ⟨r,u⟩ Y _ _ ⟨G,g3,_,M⟩;dsimp only at G ⊢;subst G;refine Az (EG ?_);split
     ·rename_i a1 a2 ag Z;refine bQ (fun _=>AJ ⟨rfl,g3,F,M⟩) fun _=>?_;have h2:(pendingOf Y).size > 1:=by
       by_cases h2:(pendingOf Y).size > 1
       ·exact h2
       ·rw[Ia h2]at Z;cases Z
      refine Az (qV hc g3 M F (by omega) fun au g4 ai _=>?_);exact bQ (fun z=>nomatch z) fun _=>AJ ⟨rfl,g4,F,ai⟩
     ·exact AJ ⟨rfl,g3,F,M⟩
    ·rintro⟨r,u⟩ Y ⟨G,g3,_,M⟩;dsimp only at G ⊢;subst G;refine Az (CP (Az (CP (AJ ⟨rfl,⟨g3.kind,g3.perm,g3.fail⟩,ez.2,?_⟩))));show gZ (((pendingOf Y).modify _ _).push _).toList 0 _;rw[Cw,Array.toList_modify];refine gZ.snoc ez.1 (gZ.mod ?_ _ M);exact fun _=>⟨rfl,rfl⟩
   ·refine Az (CP (AJ ⟨rfl,⟨gg.kind,gg.perm,gg.fail⟩,ez.2,?_⟩));show gZ ((pendingOf _).push _).toList 0 _;rw[Cw];exact O.snoc ez.1
 ·show gZ (pendingOf st).toList 0 0;rw[hp];rfl
 ·rintro⟨r,lo⟩ q ⟨G,lo',J,F,hs⟩;dsimp only at G ⊢;subst G;refine Az (C2 (B8 (I:=fun x c q=>c.1=none∧SR κ it lo' q) (Q:=fun c q=>c.1=none∧SR κ it lo' q) ?_ (fun c q z=>z) ⟨rfl,J,F,hs⟩) ?_)
  ·rintro x ⟨r,u⟩ q _ _ ⟨G,J,F,hs⟩;dsimp only at G ⊢;subst G;refine Az (EG ?_);refine bQ (fun _=>AJ ⟨rfl,J,F,hs⟩) fun h2=>?_;have am:¬ (pendingOf q).size≤1:=h2;have hi:∀ b:Bool,(if b=true then(pendingOf q).size - 2 - 1 else(pendingOf q).size - 2) + 1 < (pendingOf q).size:=fun b=>by
    cases b <;> simp <;> omega
   refine Az (qV hc J hs F (hi _) fun af g2 O _=>?_);exact AJ ⟨rfl,g2,F,O⟩
  ·rintro⟨r,u⟩ q ⟨G,J,F,hs⟩;dsimp only at G ⊢;subst G;exact AJ (h _ J.perm J.fail)
theorem yT{Q:Unit×Bl→Af→Prop}(h:∀ st:Bl,(arrOf st).Perm it→failedOf st=none→Q ((),st) s):wpAny (model prog w) A (sortRuns'.run (F7 κ it #[] 7 none)) Q E s:=by
 refine Cv (aD3 (E:=E) hc (st:=F7 κ it #[] 7 none) (Q:=fun u st=>Q (u,st) s) ⟨rfl,Do _,rfl⟩ rfl h) (fun r s' z=>?_) fun _ _ z=>z;obtain⟨rfl,q⟩:=z;exact q
end
def oF(c:Ag)(qual:Str):HO:=.ext fun h=>h.CodeRec (.ref c) qual
def qW(f:Ag)(qual:Str)(params:EN)(body:Ba)(scope:C1)(cl:List (Str×Ag))(c:Ag):HO:=.ext fun h=>∃ pm ctv,h.get? f=some (kla_obj "<lambda>" qual params body scope cl pm c ctv)
theorem aFz{P:AD}{w:AV}{H:Hp}{h:Bi}{c:Ag}{qual:Str}(e:h.CodeRec (.ref c) qual):cP P w H h c (oF c qual):=by
 obtain⟨c',o,vs,t,e1,e2,e3,e4⟩:=id e;cases e1;exact⟨e,⟨o,e2⟩,fun h1 h2 x k=>by
  obtain⟨c',o,vs,t,e1,e2,e3,e4⟩:=x;cases e1;exact⟨c,o,vs,t,rfl,k o e2,e3,e4⟩⟩
theorem aD4{P:AD}{w:AV}{H:Hp}{h:Bi}{f c:Ag}{qual:Str}{q:EN}{G:Ba}{scope:C1}{cl:List (Str×Ag)}{J F:Ad}(e:h.get? f=some (kla_obj "<lambda>" qual q G scope cl J c F)):cP P w H h f (qW f qual q G scope cl c):=
 ⟨⟨J,F,e⟩,⟨_,e⟩,fun h1 h2 x k=>by
  obtain⟨J,F,e⟩:=x;exact⟨J,F,k _ e⟩⟩
structure lN(T:Ag)(pos:Pos)(qual:Str)(H:Hp):Prop where
 ex:∃ ps,H T=some (.tbl ps)∧TriplesOk ps.toList∧(codeAmong pos ps.toList=none∨∃ c,codeAmong pos ps.toList=some (.ref c)∧H c=some (oF c qual))
theorem lN.same{T:Ag}{pos:Pos}{qual:Str}{H H':Hp}(g:lN T pos qual H)(s:cA H H'):lN T pos qual H':=by
 obtain⟨ps,h1,h2,q⟩:=g.ex;refine⟨ps,s _ _ h1,h2,?_⟩;rcases q with q | ⟨c,q,F⟩
 ·exact .inl q
 ·exact .inr ⟨c,q,s _ _ F⟩
def fY(T:Ag)(H H':Hp):Prop:=∀ b o,b≠T→H b=some o→H' b=some o
theorem cA.butT{T:Ag}{H H':Hp}(s:cA H H'):fY T H H':=fun b o _ e=>s b o e
theorem fY.trans{T:Ag}{H H1 H2:Hp}(a:fY T H H1)(b:fY T H1 H2):fY T H H2:=fun c o n h=>b c o n (a c o n h)
section
variable{X:Cx}{iw:Ih}{σ:St}{H:Hp}{s:Af}
theorem Inv.table{T:Ag}{ps more:Array Ad}{h':Bi}{t':Nat}(I:Inv X iw σ H s)(J:H T=some (.tbl ps))(k:∀ b o,b≠T→s.heap.get? b=some o→h'.get? b=some o)(e:h'.get? T=some (tabObj (ps ++ more))):
  Inv X iw σ (upd H T (.tbl (ps ++ more))) { s with heap:=h',toks:=t' }:=by
 have F:∀ b u,H b=some u→(∀ ps,u≠.tbl ps)→b≠T:=fun b u q n z=>by
  subst z;rw[J]at q;cases q;exact n _ rfl
 refine I.un ⟨fun b o q n _ _=>?_,fun b o q n _ _=>?_,fun b o q n _=>?_,fun b o q _=>?_,fun b xs q=>?_,fun b o u q=>?_,fun b M q=>?_⟩ fun b u q=>?_
 ·exact k b o (fun z=>by subst z;rw[J]at n;cases n) q
 ·exact⟨o.slots,k b o (fun z=>by subst z;rw[J]at n;cases n) q⟩
 ·rw[aF (fun z=>by subst z;rw[J]at n;cases n)];exact n
 ·by_cases G:b=T
  ·subst G;exact⟨_,e⟩
  ·exact⟨o,k b o G q⟩
 ·rw[aF (F b _ q fun _ z=>nomatch z)];exact q
 ·rw[aF (F b _ q fun _ z=>nomatch z)];exact q
 ·by_cases G:b=T
  ·subst G;rw[J]at q;cases q;exact⟨more,aA⟩
  ·exact⟨#[],by rw[aF G,q];simp⟩
 ·by_cases G:b=T
  ·subst G;rw[aA]at q;cases q;exact e
  ·rw[aF G]at q;refine(I.hok b u q).stay (fun c v hc r=>k c v ?_ r) (fun c r=>?_) fun c xs r=>?_
   ·rcases hc with rfl | hc
    ·exact G
    ·exact F c _ hc fun _ z=>nomatch z
   ·rw[aF (F c _ r fun _ z=>nomatch z)];exact r
   ·rw[aF (F c _ r fun _ z=>nomatch z)];exact r
def aIa(T:Ag)(pos:Pos)(qual:Str)(params:EN)(body:Ba)(scope:C1)(cl:List (Str×Ag)):TE:=fun _ H Q=>lN T pos qual H∧
 ∀ f c H',fY T H H'→lN T pos qual H'→H' c=some (oF c qual)→H' f=some (qW f qual params body scope cl c)→Q (.ref f) H'
inductive aD5(mg:Str→Option Ad)(base:Bi):Prop
 | mk (bm:_) (o:_) (q0:mg "__builtins__"=some (.ref bm)) (q1:bm≠builtinsNs) (q2:bm≠mainGlobals) (q3:base.get? bm=some o) (q4:o.cls=.type "module") (q5:o.dict=some builtinsNs) (q6:o.data=.plain):aD5 mg base
def uM(mg:Str→Option Ad)(base:Bi):Prop:=aD5 mg base
theorem aG2{c T:Ag}{F:EN}{G:Ba}{scope:C1}{pos:Pos}{cl:List (Str×Ag)}(M:X.env.code=.ref c)(hC:codeHdIn X.K c T=true)(hB:uM X.mg X.base)(ah:closureFor scope X.env=pure cl:=by rfl)(ab:defaultsOf F X.env=([],[]):=by rfl):
  PE X (.Lambda F G scope pos) (aIa T pos (X.env.qual ++ "<lambda>") F G scope cl):=by
 constructor;intro iw s σ H Q I h;obtain⟨g,q⟩:=h;obtain⟨ps,hT,ht,hor⟩:=g.ex;have gT:s.heap.get? T=some (tabObj ps):=I.hok T _ hT;have af:∀ b o,X.base.get? b=some o→b≠T:=fun b o e z=>by
  have:=(I.bs b o e).2;rw[z,hT]at this;cases this
 obtain⟨bm,ob,b1,b2,b3,b4,b5,b6,b7⟩:=hB;have ad:s.heap.Ns mainGlobals X.mg:=by
  obtain⟨o,es,ep,e,r⟩:=I.mod.glob;exact⟨o,es,ep,I.bk _ _ e,r⟩
 have ar:mainGlobals≠T:=by
  obtain⟨o,es,ep,e,r⟩:=I.mod.glob;exact af _ _ e
 have aj:s.heap.BuiltinsAt X.mg T:=⟨bm,ob,b1,b2,b3,af _ _ b4,I.bk _ _ b4,b5,b6,b7⟩
 refine kla_eval ab ?_;rcases hor with aa | ⟨J,hf,ao⟩
 ·refine kla_makeFunction (mg:=X.mg) ah I.ok.glob ad M (Hq I.kIn hC) gT ht aa ar aj fun J Z h' tk hx O ag ae am=>?_;have I1:=I.table (t':=tk) (more:=#[rawInt pos.line,rawInt pos.col,.ref J]) hT (fun b o n e=>hx b o n e) am;have nT:∀ b,s.heap.objs.size≤b→b≠T:=fun b hb z=>absurd (Ar gT) (Nat.not_lt.mpr (z ▸ hb));have ai:=nT J O;have an:upd H T (.tbl (ps ++ #[rawInt pos.line,rawInt pos.col,.ref J])) J=none:=by
   rw[aF ai];exact I.hok.fresh O
  have I2:=I1.track (ob:=oF J (X.env.qual ++ "<lambda>")) (I.fpOk O an) (aFz ae);have Y:s.heap.objs.size≤h'.objs.size:=by omega
  have al:=nT _ Y;have I3:=I2.laid (a:=h'.objs.size) (o:=qW h'.objs.size (X.env.qual ++ "<lambda>") F G scope cl J) (t':=tk) (h':=h'.push (kla_obj "<lambda>" (X.env.qual ++ "<lambda>") F G scope cl ((X.mg "__name__").getD .none) J Z)) (fun b u e=>Ai _ e) (Am _) (aD4 (At _ rfl));refine⟨.ref _,_,I3,rfl,q _ J _ (fun b o n e=>?_) ⟨ps ++ #[rawInt pos.line,rawInt pos.col,.ref J],?_,?_,.inr ⟨J,?_,?_⟩⟩ ?_ aA⟩
  ·rw[aF (AA (AZ (I.hok.lt e) Y)),aF (AA (AZ (I.hok.lt e) O)),aF n];exact e
  ·rw[aF al.symm,aF ai.symm];exact aA
  ·rw[A1];exact TriplesOk_snoc _ _ _ _ ht
  ·rw[A1];exact codeAmong_snoc _ ht aa
  ·rw[aF (AA ag)];exact aA
  ·rw[aF (AA ag)];exact aA
 ·refine kla_makeFunctionHit (mg:=X.mg) ah I.ok.glob ad M (Hq I.kIn hC) gT ht hf aj fun Z h' tk hk Y=>?_;have I1:=I.kept (h':=h') (t':=tk) hk;have I3:=I1.laid (a:=h'.objs.size) (o:=qW h'.objs.size (X.env.qual ++ "<lambda>") F G scope cl J) (t':=tk) (h':=h'.push (kla_obj "<lambda>" (X.env.qual ++ "<lambda>") F G scope cl ((X.mg "__name__").getD .none) J Z)) (fun b u e=>Ai _ e) (Am _) (aD4 (At _ rfl));have hs:cA H (upd H h'.objs.size (qW h'.objs.size (X.env.qual ++ "<lambda>") F G scope cl J)):=fun b o e=>by
   rw[aF (AA (AZ (I.hok.lt e) Y))];exact e
  exact⟨.ref _,_,I3,rfl,q _ J _ hs.butT (g.same hs) (hs _ _ ao) aA⟩
end
def yU(X:Cx)(N:List Str)(qual:Str)(scope:C1)(f:Ag)(cd:Ad)(cl:List (Str×Ag))(A:AS)(s:Af)(H:Hp):Cx where
 prog:=X.prog
 w:=X.w
 K:=X.K
 mg:=X.mg
 base:=X.base
 A:=A.deeper (envX qual scope s.heap.objs.size f cd cl)
 N:=N
 s₀:=s
 H₀:=H
 env:=envX qual scope s.heap.objs.size f cd cl
 outer:=X.stack
 stack:=envX qual scope s.heap.objs.size f cd cl :: X.stack
 ex:=[]
 calm:=true
 fn:=fun _=>false
 pn:=[]
 xe:=fun _ _=>False
structure yV(ps fs:List Str)(sc:C1):Prop where
 kind:sc.kind=.function
 co:sc.isCoroutine=false
 gen:sc.isGenerator=false
 nd:ps.Nodup
 par:∀ x∈ps,sc.names.lookup x=some .local
 fr:∀ x∈fs,sc.names.lookup x=some .free
 nocell:∀ y∈sc.names,y.2≠.cell
section
variable{X:Cx}{iw:Ih}{σ:St}{H:Hp}{s:Af}
theorem Paired.at{α β:Type}{R:α→β→Prop}:∀{as:List α}{bs:List β}{i:Nat}{a:α}{b:β},Ce R as bs→as[i]?=some a→bs[i]?=some b→R a b
 | _,_,_,_,_,.nil,e,_=>by simp at e
 | _,_,0,_,_,.cons r _,e1,q=>by simp at e1 q;subst e1 q;exact r
 | _,_,i + 1,_,_,.cons _ t,e1,q=>Paired.at (i:=i) t (by simpa using e1) (by simpa using q)
def aGj(X:Cx)(σ:St)(fs:List Str)(zs:List V):Prop:=Ce (fun(x:Str) (v:V)=>∃ i:Nat,X.N[i]?=some x∧σ[i]?=some (some v)∧X.env.kindOf x=some .cell) fs zs
theorem aD6{ps fs:List Str}{f c:Ag}{qual:Str}{F:EN}{G:Ba}{scope:C1}{cl:List (Str×Ag)}{A:AS}{us:List Ad}{vs zs:List V}{Q:VK}{k:Nat}{te:TE}
  (I:Inv X iw σ H s) (hA:A.frames=some X.stack) (hr:dQ (k + 1) A) (S:yV ps fs scope) (Y:∀ x b,cl.lookup x=some b→X.env.cells.lookup x=some b) (hhas:∀ x,scope.names.lookup x=some .free→∃ b,cl.lookup x=some b)
  (hf:H f=some (qW f qual F G scope cl c)) (hc:H c=some (oF c qual)) (hb:∀(pm am ah:Ad),bindArgs (kla_fn "<lambda>" qual F G scope cl pm am ah) ⟨us,[]⟩=pure (ps.zip us)) (r:bX vs us) (hl:vs.length=ps.length) (ht:aGj X σ fs zs)
  (ad:PE (yU X (ps ++ fs) qual scope f (.ref c) cl A s H) G te) (hq:te (vs.map some ++ zs.map some) H Q):codeAny (model X.prog X.w) A (.call (.ref f) ⟨us,[]⟩) (CR CX0 X.stack X.prog X.w H s Q E0) s:=by
 obtain⟨⟨pm,ah,ho⟩,_,_⟩:cP X.prog X.w H s.heap f (qW f qual F G scope cl c):=I.hok _ _ hf;obtain⟨hrec,_,_⟩:cP X.prog X.w H s.heap c (oF c qual):=I.hok _ _ hc;have lu:us.length=ps.length:=by rw[← r.length];exact hl
 have aa:∀ y∈ps.zip us,scope.names.lookup y.1=some .local:=fun⟨n,v⟩ hy=>S.par n (DC hy).1;refine kla_callFunE hr.depth ho rfl S.co S.gen rfl hrec ?_;rw[hb];refine Ae (wpAny_newFunctionEnv S.nocell aa (fun h₁ ai al=>?_) S.kind);have O:∀ b o,s.heap.get? b=some o→h₁.get? b=some o:=fun b o e=>al.extBut b o (AA (Ar e)) (Ai _ e);refine⟨I.nolimit.keeps O,?_⟩;show codeAny _ _ (.expr G (envX qual scope s.heap.objs.size f (.ref c) cl)) _ _;have Z:=I.env0;have af:∀ b:Ag,b ∉ (yU X (ps ++ fs) qual scope f (.ref c) cl A s H).ex:=fun b z=>absurd (show b∈([]:List Ag) from z) (by simp);have J:Inv (yU X (ps ++ fs) qual scope f (.ref c) cl A s H) [] (vs.map some ++ zs.map some) H { s with heap:=h₁,toks:=s.toks + (ps.zip us).length }:=by
  refine⟨⟨Z.mod,S.kind,rfl,rfl,Am _,fun y z b h1 h2=>?_,fun y hy=>?_,fun y b z _=>absurd z (by simp[yU]),fun _=>hr.hd,Around.frames_deeper hA,.inr ⟨rfl,rfl⟩,fun b z=>absurd z (af b),Z.bs,Z.bsz,fun b _ _=>af b,fun b z=>absurd z (af b),Z.funs,Z.frf⟩,
   rfl,Z.bare,Un.kept O,⟨_,ai,fun i y v h1 h2 h3=>?_⟩,fun y b h=>?_,Z.hok.fresh (Am _),fun y b h=>?_,fun p hp=>absurd (show p∈([]:Ih) from hp) (by simp),Z.hok.kept O,?_⟩
  ·exact I.ok.inj y z b (Y y b h1) (Y z b h2)
  ·rcases hy with hy | hy
   ·exact absurd rfl (S.nocell _ (BT (show scope.names.lookup y=some .cell from hy)))
   ·exact hhas y hy
  ·have M:(ps ++ fs)[i]?=some y:=h1;by_cases hi:i < ps.length
   ·rw[CO hi]at M;have hv:vs[i]?=some v:=by
     rw[CO (by simpa[hl]using hi),Ao]at h2;cases e:vs[i]? with
     | none=>rw[e]at h2;cases h2
     | some a=>rw[e]at h2;cases h2;rfl
    obtain⟨u,hu,rv⟩:=r.get hv;refine⟨u,rv,.inl ⟨S.par y (AK M),?_⟩⟩;have e1:=p9 (kindOf:=fun x=>scope.names.lookup x) (m:=fun _=>none) S.nd M hu (S.par y (AK M));have e2:∀(l:List (Str×Ad)) (m:Str→Option Ad) (x:Str),(∀ q∈l,scope.names.lookup q.1=some .local)→bindL (fun x=>scope.names.lookup x) l m x=(l.reverse.lookup x).or (m x):=by
     intro l
     induction l with
     | nil=>intro m x _;rfl
     | cons q l ih=>
      intro m x hl;obtain⟨n,v⟩:=q;unfold bindL;rw[Ib (hl (n,v) Al),ih _ _ fun q hq=>hl q (An _ hq),FT,List.lookup_append,Option.or_assoc];congr 1;rw[BE,List.lookup_nil];by_cases hx:x=n
      ·subst hx;simp
      ·have ak:(x == n)=false:=by simpa using hx
       simp[hx,ak]
    rw[e2 _ _ _ aa,Option.or_none]at e1;exact e1
   ·rw[CH (by omega)]at M;rw[CH (by rw[Ab,hl];omega),Ab,hl,Ao]at h2;have hz:zs[i - ps.length]?=some v:=by
     cases e:zs[i - ps.length]? with
     | none=>rw[e]at h2;cases h2
     | some a=>rw[e]at h2;cases h2;rfl
    obtain⟨j,a1,a2,a3⟩:=Paired.at ht M hz;obtain⟨m,_,lk⟩:=I.loc;obtain⟨u,ru,lo⟩:=lk j y v a1 a2 (.inr (.inl a3));rcases lo with⟨a4,_⟩ | ⟨_,b,a4,a5⟩
    ·rw[a3]at a4;cases a4
    ·have ag:=S.fr y (AK M);obtain⟨b',hb'⟩:=hhas y ag;have:=Y y b' hb';rw[a4]at this;cases this;obtain⟨o,ho',hd⟩:=a5;exact⟨u,ru,.inr ⟨.inr ag,b,hb',o,O _ _ ho',hd⟩⟩
  ·obtain⟨v,o,ho',hd⟩:=I.cell y b (Y y b h);exact⟨v,o,O _ _ ho',hd⟩
  ·exact I.freeC y b (Y y b h)
  ·show _=(ps ++ fs).length;rw[Ay,Ay,Ab,Ab,hl,ht.length]
 refine kla_codeExpr (Cv (ad [] _ _ H Q J hq) (fun u s' hu=>?_) fun e s' z=>z.elim);obtain⟨v,H',J',rv,q⟩:=hu;exact⟨v,H',J'.os,J'.bare,J'.base,J'.hok,rv,q⟩
end
section
variable{prog:AD}{w:AV}{A:AS}{E:Ad→Af→Prop}{s:Af}
inductive aBz(h:Bi)(v:Ad):Prop
 | mk (t:_) (a:_) (b:_) (u1:_) (u2:_) (q0:v=.ref t) (q1:E9 h t #[.int a u1,.int b u2]):aBz h v
def aBA(h:Bi)(v:Ad):Prop:=aBz h v
theorem aIY{F:Bool}{x y:Ag}{a1 a2 G b2:Int}{Y Z J M:Tok}{C:Bool→Af→Prop}(hx:E9 s.heap x #[.int a1 Y,.int G Z])(hy:E9 s.heap y #[.int a2 J,.int b2 M])(h:∀ b,C b s):
  wpAny (model prog w) A (keyLt' (tuples' F) (.ref x) (.ref y)) C E s:=by
 show wpAny _ _ (CW (.ref x) >>= _) _ _ _;refine Aa (gW hx ?_);refine Aa (gW hy ?_);dsimp only[List.zip_cons_cons,F2,List.zip_nil_left];rw[List.zipIdx_nil];have O:∀{Q:Bool→Af→Prop} {a b:Int} {t u:Tok},(∀ z,Q z s)→wpAny (model prog w) A (eqBool (.int a t) (.int b u)) Q E s:=fun{Q a b t u} q=>by
  obtain⟨z,hz,_⟩:=HT.eqAt_int A s a t b u;exact hz prog w _ _ (q z)
 refine Aa ?_;rw[C8];refine Aa (Aa (O fun z=>?_));cases z with
 | false=>
  refine BZ (by decide) ?_;refine Aa ?_;show wpAny _ _ (oneLt' (F && 0 == 0) (Bq a1 Y) (Bq a2 J)) _ _ _;cases F
  ·exact aBp fun z=>Ae (Ae (Ae (h z)))
  ·exact oneLt_int (Ae (Ae (Ae (h _))))
 | true=>
  refine AR (by decide) (Ae ?_);dsimp only;rw[C8];refine Aa (Aa (O fun z=>?_));cases z with
  | false=>
   refine BZ (by decide) ?_;refine Aa ?_;have ez:(F && ((0 + 1:Nat) == 0))=false:=by cases F <;> rfl
   show wpAny _ _ (oneLt' (F && (0 + 1 == 0)) (Bq G Z) (Bq b2 M)) _ _ _;rw[ez];exact aBp fun z=>Ae (Ae (Ae (h z)))
  | true=>
   refine AR (by decide) (Ae ?_);dsimp only;rw[Gn];exact Ae (Ae (h _))
theorem aG3{ks:List Ad}{Q:Dy→Af→Prop}(Y:∀ v∈ks,aBA s.heap v)(h:∀ b,Q (tuples' b) s):wpAny (model prog w) A (keyKind' ks.toArray) Q E s:=by
 rw[keyKind'_eq,Dt];refine Aa ?_;rw[← bind_pure_comp];refine Aa (lZ (R:=fun _ r=>∃ a u,r=some (Bq a u)) ks (fun v hv=>?_) fun rs hl G=>Ae ?_)
 ·obtain⟨t,a,b,u1,u2,rfl,ht⟩:=Y v hv;refine⟨some (.int a u1),⟨a,u1,rfl⟩,fun Q' q=>?_⟩;rw[kas_first_eq];refine Aa (Cn ht.typeIs ?_);refine AR (by decide) ?_;refine Aa (gW ht ?_);exact Ae q
 ·have F:(rs.toArray.all fun x=>x.isSome)=true:=by
   rw[List.all_toArray,A2];intro r Z;obtain⟨v,_,a,u,rfl⟩:=G r Z;rfl
  refine BZ (by rw[F];rfl) ?_;refine Aa (Ch ?_);rw[oneTypeOnly'_eq,Dt]
  iterate 2 refine Aa ?_
  rw[← bind_pure_comp];refine Aa (lZ (R:=fun _ r=>r=Br "int") _ (fun v hv=>?_) fun ts aa O=>Ae ?_)
  ·have J:some v∈rs:=by simpa using hv
   obtain⟨_,_,a,u,e⟩:=G _ J;cases e;exact⟨_,rfl,fun Q' q=>Cn (GT s a u) q⟩
  ·cases M:ts.toArray[0]? with
   | none=>exact Ae (Ae (h _))
   | some t=>exact Ae (Ae (h _))
theorem aIb{a kS:Ag}{ks its:List Ad}{e e1:Nat}{P:Gu→Af→Prop}(ha:s.heap.get? a=some (seqObj "list" #[] e1))(hk:s.heap.get? kS=some (seqObj "list" ks.toArray e))(Z:a≠kS)(hl:ks.length=its.length)(M:its.length≤sizeLine)(hK:∀ v∈ks,aBA s.heap v)
  (h:∀ out:List Ad,out.Perm its→P (Fin.done (Hb CU)) { s with heap:=(s.heap.update kS (A5 fun _=>#[])).update a (A5 fun _=>out.toArray) }):wpAny (model prog w) A (ksk_end a false its.toArray e1 (.ref kS) ks.toArray) P E s:=by
 have F:(ks.toArray.zip its.toArray).size=its.length:=by simp[hl]
 have fin:∀ st:Bl,(arrOf st).Perm (ks.toArray.zip its.toArray)→failedOf st=none→wpAny (model prog w) A (ksk_tail a false e1 (.ref kS) st) P E s:=fun st O hf=>by
  refine aHZ ha hk Z (by rw[Aq,hl];exact M) (by rw[O.size_eq,F];exact M) hf ?_;have Y:((arrOf st).map (·.2)).toList.Perm its:=by
   rw[Array.toList_map];have:=(Bd.mp O).map (·.2)
   have e2:(ks.toArray.zip its.toArray).toList.map (·.2)=its:=by
    rw[Array.toList_zip];exact List.map_snd_zip (by simp[hl])
   rw[e2]at this;exact this
  have:=h _ Y;rw[Array.toArray_toList]at this;exact this
 unfold ksk_end;dsimp only;by_cases h2:its.length < 2
 ·have G:its.toArray.size < 2:=by simpa using h2
  rw[Ia AB,Ib G];refine Aa (Ae ?_);rw[Ib G,Ia AB];refine Aa (Ae ?_);exact fin _ (Do _) rfl
 ·have G:¬ its.toArray.size < 2:=by simpa using h2
  rw[Ia AB,Ia G];refine Aa (aG3 hK fun b=>?_);rw[Ia G,Ia AB];refine Aa (yT (fun x y hx hy C hC=>?_) fun st O hf=>fin st O hf);have J:∀ z:BN,z∈(ks.toArray.zip its.toArray).toList→aBA s.heap z.1:=fun z hz=>by
   rw[Array.toList_zip]at hz;obtain⟨p,q⟩:=z;exact hK _ (DC hz).1
  obtain⟨t,a1,b1,u1,u2,e1,ht⟩:=J x hx;obtain⟨t',a2,b2,v1,v2,e2,ht'⟩:=J y hy;rw[e1,e2];exact aIY ht ht' hC
end
section
variable{X:Cx}{iw:Ih}{σ:St}
inductive aBB(H:Hp)(v:Ad):Prop
 | mk (t:_) (a:_) (b:_) (q0:v=.ref t) (q1:H t=some (.tup [.int a,.int b])):aBB H v
def tM(H:Hp)(v:Ad):Prop:=aBB H v
theorem tM.same{H H':Hp}{v:Ad}(h:tM H v)(s:cA H H'):tM H' v:=by
 obtain⟨t,a,b,e,ht⟩:=h;exact⟨t,a,b,e,s _ _ ht⟩
theorem tM.real{H:Hp}{s:Af}{v:Ad}(I:Inv X iw σ H s)(h:tM H v):aBA s.heap v:=by
 obtain⟨t,a,b,rfl,ht⟩:=h;obtain⟨_,its,q,hT⟩:cP X.prog X.w H s.heap t (.tup [.int a,.int b]):=I.hok _ _ ht;cases q with
 | cons G q=>
  cases q with
  | cons F q=>
   cases q;obtain⟨u1,e1⟩:=G;obtain⟨u2,e2⟩:=F;subst e1 e2;exact⟨t,a,b,u1,u2,rfl,hT⟩
theorem aCz{f:Ag}{A':AS}{E:Ad→Af→Prop}
  {D kS:Ag} {H0:Hp} {e1:Nat} {xs:List V} (fD:∀ H',H' D=none→lP X iw H' D) (fK:∀ H',H' kS=none→lP X iw H' kS) (an:D≠kS)
  (ah:∀ y∈xs,∀(v:Ad) (M:Ih) (H':Hp) (s':Af),cF y v→Inv X M σ H' s'→cA H0 H'→codeAny (model X.prog X.w) A' (.call (.ref f) ⟨[v],[]⟩) (CR CX0 X.stack X.prog X.w H' s' (fun u G=>∃ t a b,u=.ref t∧G t=some (.tup [.int a,.int b])∧cA H' G) E0) s') {er:Ad→Ad→Sem (ForInStep PUnit)} {Q:Af→Prop}
  {J:Ad→PUnit→Sem (ForInStep PUnit)} (Z:∀ v u,J v u=(do
   let r ← (call (.ref f) [v]).attempt
   match r with
   | Hg k=>do
    Eo (.ref kS) fun x=>x.push k
    pure (Cs Hf)
   | Except.error e=>er v e)):
  ∀(b8:List Ad) (xr:List V) (s:Af) (H:Hp) (ks:List Ad) (e:Nat),bX xr b8→(∀ y∈xr,y∈xs)→Inv X iw σ H s→cA H0 H→H D=none→H kS=none→s.heap.get? D=some (seqObj "list" #[] e1)→s.heap.get? kS=some (seqObj "list" ks.toArray e)→(∀ v∈ks,tM H v)→ks.length + b8.length≤sizeLine→
   (∀(s':Af) (H':Hp) (O:List Ad) (e':Nat),Inv X iw σ H' s'→cA H0 H'→H' D=none→H' kS=none→s'.heap.get? D=some (seqObj "list" #[] e1)→s'.heap.get? kS=some (seqObj "list" O.toArray e')→(∀ v∈O,tM H' v)→O.length=ks.length + b8.length→Q s')→
   wpAny (model X.prog X.w) A' (forIn b8 Hf J) (fun _ s'=>Q s') E s:=by
 intro b8
 induction b8 with
 | nil=>
  intro xr s H ks e r F I S hD hK gD gK hk af q;rw[Gn];exact Ae (q s H ks e I S hD hK gD gK hk rfl)
 | cons v b8 ih=>
  intro xr s H ks e r F I S hD hK gD gK hk af q;rw[AI]at af;cases r with
  | @cons y _ ar _ r1 r2=>
  rw[C8,Z];refine Aa (Aa (DO ?_));have I3:Inv X ((D,seqObj "list" #[] e1) :: (kS,seqObj "list" ks.toArray e) :: iw) σ H s:=I.pins_of fun p Y=>by
   rcases Ak.mp Y with z | Y
   ·subst z;exact⟨gD,hD,(fD H hD).2.1,(fD H hD).2.2.1,fun v z=>by cases z⟩
   ·rcases Ak.mp Y with z | Y
    ·subst z;exact⟨gK,hK,(fK H hK).2.1,(fK H hK).2.2.1,fun v z=>by cases z⟩
    ·exact I.pin p (AN _ Y)
  refine Fk (Ea (ah y (F y Al) v _ H s r1 I3 S) fun r s' hq=>?_);cases r with
  | error e=>exact B7 hq
  | ok fl=>
   cases fl with
   | next=>exact B7 hq
   | brk=>exact B7 hq
   | cont=>exact B7 hq
   | ret u=>
    obtain⟨vv,H',I',r',t,a,b,rfl,ht,S'⟩:=I3.after hq;cases r';obtain⟨gD',hD',_⟩:=I'.pin (D,seqObj "list" #[] e1) (AN _ Al);obtain⟨gK',hK',_⟩:=I'.pin (kS,seqObj "list" ks.toArray e) (AN _ (An _ Al));have I4:Inv X iw σ H' s':=I'.pins_of fun p Y=>I'.pin p (AN _ (An _ (An _ Y)));refine Aa (Di gK' rfl ?_ (by rw[Aq];omega) (by rw[Array.size_push,Aq];omega));refine Ae ?_;have ad:=get?_update_seq gK' (fun x=>x.push (.ref t));have ep:(ks.toArray.push (.ref t))=(ks ++ [AF t]).toArray:=by simp
    rw[ep]at ad;have I5:Inv X iw σ H' { s' with heap:=s'.heap.update kS (A5 fun x=>x.push (.ref t)) }:=I4.turnedL (t':=s'.toks) (fp:=[kS]) (fun b o hb e=>by
     rw[BV _ _ _ _ (fun z=>hb (by simp[z]))];exact e) fun b hb=>by
      rw[AE.mp hb];exact fK H' hK'
    refine ih ar _ H' (ks ++ [AF t]) _ r2 (fun y hy=>F y (An _ hy)) I5 (S.trans S') hD' hK' ?_ ad (fun z hz=>?_) (by rw[Ay,CK];omega) fun aj G aa ak a1 a2 a3 a4 a5 a6 a7 a8=>?_
    ·show(s'.heap.update kS _).get? D=_;rw[BV _ _ _ _ an];exact gD'
    ·rcases AO.mp hz with hz | hz
     ·exact(hk z hz).same S'
     ·rw[AE.mp hz];exact⟨t,a,b,rfl,ht⟩
    ·exact q aj G aa ak a1 a2 a3 a4 a5 a6 a7 (by rw[a8,Ay,CK,AI];omega)
end
section
variable{X:Cx}{iw:Ih}{σ:St}{H:Hp}{s:Af}
theorem aD7{f l:Ag}{xs:List V}{Q:VK}{E:Ad→Af→Prop}
  (I:Inv X iw σ H s) (hl:SqL X.K H l xs) (bf:xs.length≤sizeLine)
  (ap:∀ y∈xs,∀(v:Ad) (ad:Ih) (H':Hp) (s':Af),cF y v→Inv X ad σ H' s'→cA H H'→codeAny (model X.prog X.w) X.A.in1.in1 (.call (.ref f) ⟨[v],[]⟩) (CR CX0 X.stack X.prog X.w H' s' (fun u an=>∃ t a b,u=.ref t∧an t=some (.tup [.int a,.int b])∧cA H' an) E0) s')
  (q:∀ D ys H',cA H H'→H D=none→ys.Perm xs→H' D=some (.lst ys)→Q (.ref D) H'):
  wpAny (model X.prog X.w) X.A (call (.builtin "sorted") [.ref l] [(Bn "key",.ref f)]) (EP X iw σ Q) E s:=by
 obtain⟨its,rv,pl,_⟩:=I.list hl;have ba:=rv.length;have zz:its.length≤sizeLine:=by omega
 refine call_function_entry_kw FH Fl Fn (ksk_s1 _ _) ?_;refine Aa (Ae ?_);refine Aa (Hi pl.isList ?_ zz);refine Aa (DN ?_ zz);have F:((s.heap.push (seqObj "list" #[] 0)).update s.heap.objs.size (A5 fun x=>x ++ its.toArray)).objs.size=s.heap.objs.size + 1:=by
  rw[CG,F3]
 generalize aw:(s.heap.push (seqObj "list" #[] 0)).update s.heap.objs.size (A5 fun x=>x ++ its.toArray)=h1 at F ⊢;have al:∀ b o,s.heap.get? b=some o→h1.get? b=some o:=fun b o e=>by
  rw[← aw,BV _ _ _ _ (AA (Ar e))];exact Ai _ e
 dsimp only;obtain⟨D,hD⟩:∃ D,D=h1.objs.size:=⟨_,rfl⟩
 have G:(h1.push (seqObj "list" its.toArray 0)).get? D=some (seqObj "list" its.toArray 0):=by
  rw[hD];exact At _ rfl
 have aa:∀ b o,s.heap.get? b=some o→(h1.push (seqObj "list" its.toArray 0)).get? b=some o:=fun b o e=>Ai _ (al b o e);have Y:(h1.push (seqObj "list" its.toArray 0)).objs.size=s.heap.objs.size + 2:=by rw[F3,F]
 change wpAny _ _ (do let _ ← holding [AF h1.objs.size] (call (.builtin "list.sort") [AF h1.objs.size] [(Bn "key",.ref f)]);ret (AF h1.objs.size)) _ _ { s with heap:=h1.push (seqObj "list" its.toArray 0) };rw[← hD];generalize h1.push (seqObj "list" its.toArray 0)=h2 at G aa Y ⊢;have ae:D=s.heap.objs.size + 1:=by rw[hD,F]
 refine Aa (Bj (wpAny_call_entry_kw slot_list_sort ⟨_,G,rfl⟩ entry_list_sort ?_ (ksk_l1 _ _)));rw[ksk_t1];unfold ksk_tree;refine Aa (F9 G rfl ?_);refine Aa (Di G rfl ?_ (by rw[Aq];exact zz) (Bc _));have J:=get?_update_seq G (fun _=>#[]);generalize (if ((#[]:Array Ad).size == its.toArray.size)=true then 0 else 0 + 1)=e1 at J;have O:∀ b o,s.heap.get? b=some o→(h2.update D (A5 fun _=>#[])).get? b=some o:=fun b o e=>by
  rw[BV _ _ _ _ (AA (by rw[ae];exact By (Ar e)))];exact aa b o e
 have M:(h2.update D (A5 fun _=>#[])).objs.size=s.heap.objs.size + 2:=by rw[CG,Y]
 dsimp only;generalize h2.update D (A5 fun _=>#[])=h3 at J O M ⊢;refine Aa (FG J rfl ?_);refine Aa (GG ?_ (by simpa using zz));refine Aa (DN ?_ (Bc _));dsimp only;refine Bj ?_;obtain⟨kS,hkS⟩:∃ kS,kS=(h3.push { cls:=Br "tuple",data:=EA its.toArray.toList.toArray }).objs.size:=⟨_,rfl⟩
 have aj:((h3.push { cls:=Br "tuple",data:=EA its.toArray.toList.toArray }).push { cls:=Br "list",data:=EA ([]:List Ad).toArray }).get? kS=some (seqObj "list" ([]:List Ad).toArray 0):=by
  rw[hkS];exact At _ rfl
 have am:((h3.push { cls:=Br "tuple",data:=EA its.toArray.toList.toArray }).push { cls:=Br "list",data:=EA ([]:List Ad).toArray }).get? D=some (seqObj "list" #[] e1):=Ai _ (Ai _ J);have ab:∀ b o,s.heap.get? b=some o→((h3.push { cls:=Br "tuple",data:=EA its.toArray.toList.toArray }).push { cls:=Br "list",data:=EA ([]:List Ad).toArray }).get? b=some o:=fun b o e=>Ai _ (Ai _ (O b o e));have Z:kS=s.heap.objs.size + 3:=by rw[hkS,B3,M]
 rw[← hkS];generalize (h3.push { cls:=Br "tuple",data:=EA its.toArray.toList.toArray }).push { cls:=Br "list",data:=EA ([]:List Ad).toArray }=h4 at aj am ab ⊢;have af:D≠kS:=AA (by rw[ae,Z];omega);have I4:Inv X iw σ H { s with heap:=h4 }:=I.kept (t':=s.toks) ab;have lD:s.heap.objs.size≤D:=by rw[ae];exact CF _
 have lK:s.heap.objs.size≤kS:=by rw[Z];exact Nat.le_add_right _ _
 have nD:H D=none:=I.hok.fresh lD;have nK:H kS=none:=I.hok.fresh lK;have fD:∀ H',H' D=none→lP X iw H' D:=fun H' hn=>I.fpOk lD hn;have fK:∀ H',H' kS=none→lP X iw H' kS:=fun H' hn=>I.fpOk lK hn;unfold ksk_rest;refine Aa (Ch ?_);refine Aa ?_;rw[← Array.forIn_toList];refine aCz (X:=X) (iw:=iw) (σ:=σ) (f:=f) (A':=X.A.in1.in1) (D:=D) (kS:=kS) (H0:=H) (e1:=e1) (xs:=xs) fD fK af ap (er:=fun v e=>do
     rule "list.sort.key-raised"
     let made ← CW (.ref kS)
     Eo (.ref kS) fun x=>#[]
     letGo made.toList.reverse [e]
     Eo (AF D) fun x=>its.toArray
     throw e
     pure (Cs Hf)) (fun v u=>by congr 1) its xs _ H [] 0 rv (fun y hy=>hy) I4 (cA.refl H) nD nK am aj (fun v hv=>by simp at hv) (by simp;omega) ?_
 intro s' H' ks e' I' S ag av ao ah au ay;refine Aa (F9 ah rfl ?_);refine aIb ao ah af (by simpa using ay) (by omega) (fun v hv=>(au v hv).real I') fun out hp=>?_;refine⟨_,rfl,Ae ⟨_,rfl,?_⟩⟩;obtain⟨ys,hys,rys⟩:=aCv hp rv;have I6:Inv X iw σ H' { s' with heap:=(s'.heap.update kS (A5 fun _=>#[])).update D (A5 fun _=>out.toArray) }:=I'.turnedL (t':=s'.toks) (fp:=[kS,D]) (fun b o hb e=>by
  rw[BV _ _ _ _ (fun z=>hb (by simp[z])),BV _ _ _ _ (fun z=>hb (by simp[z]))];exact e) fun b hb=>by
   simp only[Ak,Ap,or_false]at hb;rcases hb with rfl | rfl
   ·exact fK H' av
   ·exact fD H' ag
 have ar:((s'.heap.update kS (A5 fun _=>#[])).update D (A5 fun _=>out.toArray)).get? D=_:=get?_update_seq (c:="list") (xs:=#[]) (n:=e1) (by
  rw[BV _ _ _ _ af];exact ao) fun _=>out.toArray
 have ax:ys.length≤sizeLine:=by rw[hys.length_eq];omega
 exact⟨.ref D,_,I6.track (ob:=.lst ys) (fD H' ag) ⟨ax,out,_,rys,ar⟩,rfl,q D ys _ (S.trans (aK ag)) nD hys aA⟩
end
theorem fY.seq{K:Ah}{T:Ag}{H H':Hp}{a:Ag}{xs:List V}{ps:Array Ad}(e:fY T H H')(q:H T=some (.tbl ps))(h:SqL K H a xs):SqL K H' a xs:=by
 rcases h with(h | ⟨o,h⟩) | h
 ·exact .inl (.inl (e _ _ (fun z=>by rw[z,q]at h;cases h) h))
 ·exact .inl (.inr ⟨o,e _ _ (fun z=>by rw[z,q]at h;cases h) h⟩)
 ·exact .inr h
section
variable{X:Cx}{e:Ba}{ta:TA}
def tSL(X:Cx)(T:Ag)(uP:Pos)(fs:List Str)(te:TE)(ta:TA):TE:=fun σ H Q=>ta σ H fun vs H1=>∃ l xs zs,vs=[V.ref l]∧SqL X.K H1 l xs∧xs.length≤sizeLine∧aGj X σ fs zs∧lN T uP (X.env.qual ++ "<lambda>") H1∧
 (∀ y∈xs,∀ H',fY T H1 H'→te (some y :: zs.map some) H' fun u H''=>∃ t a b,u=.ref t∧H'' t=some (.tup [.int a,.int b])∧cA H' H'')∧
 ∀ D ys H',fY T H1 H'→lN T uP (X.env.qual ++ "<lambda>") H'→H1 D=none→ys.Perm xs→H' D=some (.lst ys)→Q (.ref D) H'
theorem aAR{k:Nat}{c T:Ag}{x:Str}{fs:List Str}{F:EN}{G:Ba}{scope:C1}{cl:List (Str×Ag)}{te:TE}{p uP kp pos:Pos}(hr:dQ (k + 3) X.A)(O:X.env.code=.ref c)(hC:codeHdIn X.K c T=true)(hB:uM X.mg X.base)(hg:Gl X "sorted")(hm:X.mg "sorted"=none)(S:yV [x] fs scope)
  (hc:∀ x b,cl.lookup x=some b→X.env.cells.lookup x=some b) (hhas:∀ x,scope.names.lookup x=some .free→∃ b,cl.lookup x=some b) (hb:∀(pm Y M u:Ad),bindArgs (kla_fn "<lambda>" (X.env.qual ++ "<lambda>") F G scope cl pm Y M) ⟨[u],[]⟩=pure [(x,u)])
  (Z:∀(f c:Ag) (s:Af) (H:Hp),PE (yU X ([x] ++ fs) (X.env.qual ++ "<lambda>") scope f (.ref c) cl X.A.in1.in1 s H) G te) (ha:PA X [e] ta)
  (af:closureFor scope X.env=pure cl:=by rfl) (aa:defaultsOf F X.env=([],[]):=by rfl) (he:starEach [e] X.env=[(false,eval e X.env)]:=by rfl):
  PE X (.Call (.Name "sorted" p) [e] [⟨some "key",.Lambda F G scope uP,kp⟩] pos) (tSL X T uP fs te ta):=by
 constructor;intro iw s σ H Q I h;refine Dc (rR I hg hm boot_sorted ?_ (by decide) (by decide));refine callWith_builtin_kwB (by rw[he];rfl) (by rfl) ?_;have J:=ha pos iw s σ H _ I h;rw[he]at J ⊢;refine evalArgs_kwB (by rfl) (thn J fun us s1 ⟨vs,H1,I1,r,q1⟩=>?_);obtain⟨l,xs,zs,rfl,hl,hlen,ht,gt,hkey,q⟩:=q1;obtain⟨ps,hT,_⟩:=gt.ex;have ab:PK X [⟨some "key",.Lambda F G scope uP,kp⟩] (aBf (aIa T uP (X.env.qual ++ "<lambda>") F G scope cl) aGG):=aFe (aG2 O hC hB af aa) aGH;refine thn (ab pos iw s1 σ H1 (fun ws H2=>∃ f c,ws=[V.ref f]∧fY T H1 H2∧lN T uP (X.env.qual ++ "<lambda>") H2∧H2 c=some (oF c (X.env.qual ++ "<lambda>"))∧H2 f=some (qW f (X.env.qual ++ "<lambda>") F G scope cl c)) I1 ⟨gt,fun f c H2 a1 a2 a3 a4=>⟨f,c,rfl,a1,a2,a3,a4⟩⟩) fun ws s2 ⟨az,H2,I2,rz,f,c',ez,a1,a2,a3,a4⟩=>?_;subst ez;cases rz with
 | cons r1 r2=>
  cases r1;cases r2;cases r with
  | cons r3 r4=>
   cases r3;cases r4;refine aD7 I2 (a1.seq hT hl) hlen (fun y hy v ad H' s' rv I' S'=>?_) fun D ys H' s' n1 n2 n3=>q D ys H' (a1.trans s'.butT) (a2.same s') ?_ n2 n3
   ·exact aD6 (k:=k) (ps:=[x]) (fs:=fs) I' I'.ok.frames ((hr.in1).in1) S hc hhas (S' _ _ a4) (S' _ _ a3) (fun pm Y M=>hb pm Y M v) (.cons rv .nil) rfl ht (Z f c' s' H') (hkey y hy H' (a1.trans S'.butT))
   ·cases qD:H1 D with
    | none=>rfl
    | some o=>
     by_cases hD:D=T
     ·subst hD;obtain⟨ps',hT',_⟩:=a2.ex;rw[hT']at n1;cases n1
     ·rw[a1 _ _ hD qD]at n1;cases n1
end
theorem Fun.okC{P:AD}{w:AV}{K:Ah}{mg:Str→Option Ad}{base:Bi}{x qual:Str}{st:Co}{f:Ag}{fd:A3}{N ps:List Str}{k:Nat}{sp:Sp}(F:Fun K x qual st f fd)(S:cC N ps (aO st))(len:∀ vs H Q E,sp vs H Q E→vs.length=ps.length)
  (J:∀(G:Ad) (A:AS) (outer:List Env) (s:Af) (H:Hp) (vs:List V) (Q:VK) (E:XK),fd.code=G→dQ k (A.deeper (envOfC qual (aO st) s.heap.objs.size f G))→sp vs H Q E→
   ∃ t,PSs (aAx CX0 P w K mg base N qual (aO st) f G A outer s H E).nox (dM st) t∧t { nx:=fun _ H'=>Q .non H',rt:=Q } (start N vs) H):cY P w K mg base CX0 (k + 1) f fd ps sp:=by
 obtain⟨oc,od,kV,doc,pm,an,G,ct,osl,rfl,lk,hcd⟩:=F.ex;refine aGc lk hcd S len fun A outer s H vs Q E O M=>?_;obtain⟨t,h,q⟩:=J G A outer s H vs Q E rfl O M;exact⟨t,h.nox,q⟩
theorem lN.start{T:Ag}{pos:Pos}{qual:Str}{H:Hp}(h:H T=some (.tbl #[])):lN T pos qual H:=⟨#[],h,trivial,.inl rfl⟩
theorem aCA{P:AD}{w:AV}{K:Ah}{mg mb:Str→Option Ad}{k:Nat}{fa a:Ag}{fd:A3}{x:Str}{sp:Sp}{G:Af}{vs:List Ad}{ns:List Int}{Ts:List Ag}
  (KX:K.In G.heap) (af:G.heap.Ns mainGlobals mg) (J:G.heap.Ns builtinsNs mb) (ao:∀ x:Str,x≠"__name__"→mb x=bootBuiltins x) (ae:G.heap.NoLimit) (hg:G.gens=#[]) (hB:uM mg G.heap)
  (hT:∀ T∈Ts,G.heap.get? T=some (tabObj #[])∧K.lookup T=none∧isCodeTable G.heap T)
  (ha:G.heap.get? a=some { cls:=.type "list",data:=.seq vs.toArray }) (hi:Gf vs ns) (hl:ns.length≤sizeLine) (hr:dQ k callerA)
  (F:∀ base:Bi,K.In base→base.Ns mainGlobals mg→uM mg base→cY P w K mg base CX0 k fa fd [x] sp) (ab:∀(s:Af) (u:Ad),Gm s fd ⟨[u],[]⟩ [(x,u)])
  (an:∀ H:Hp,(∀ T∈Ts,H T=some (.tbl #[]))→SqL K H a (ns.map V.int)→sp [.ref a] H (fun v _=>v=.bl true) fun _ _ _=>False):
  codeAny (model P w) callerA (.call (.ref fa) ⟨[.ref a],[]⟩) (fun r s'=>r=.ok (.ret (.bool true))∧OldK G.heap s'.heap∧s'.os=G.os∧EL s'.gens) G:=by
 have rv:=vB hi;have ah:=hi.length;have aT:∀ T∈Ts,T≠a:=fun T h z=>by
  have:=(hT T h).1;rw[z,ha]at this;cases this
 have aa:∀ H:Hp,(∀ T∈Ts,H T=some (.tbl #[]))→SqL K H a (ns.map V.int)→HOk P w H G.heap→(∀ b,H b≠none→b∈Ts∨(b=a∧K.lookup a=none∧H a=some (.frz { cls:=.type "list",data:=.seq vs.toArray } (.lst (ns.map V.int)))))→
   codeAny (model P w) callerA (.call (.ref fa) ⟨[.ref a],[]⟩) (fun r s'=>r=.ok (.ret (.bool true))∧OldK G.heap s'.heap∧s'.os=G.os∧EL s'.gens) G:=by
  intro H hO hS hok hA;have free:∀{b:Ag} {o:Obj},G.heap.get? b=some o→(∀ xs n,o.data≠.seq xs n)→(∀ vs,o.data≠.fields vs)→H b=none:=fun{b o} e d1 d2=>by
   cases q:H b with
   | none=>rfl
   | some u=>
    rcases hA b (by rw[q];simp)with z | ⟨z,_,_⟩
    ·rw[(hT b z).1]at e;cases e;exact absurd rfl (d2 _)
    ·rw[z,ha]at e;cases e;exact absurd rfl (d1 _ _)
  have Z:∀{b:Ag} {m:Str→Option Ad},G.heap.Ns b m→(wA G.heap H).Ns b m:=fun{b m} ⟨o,es,ep,e,d,r⟩=>⟨o,es,ep,rQ e (free e (fun _ _ z=>by rw[d]at z;cases z) fun _ z=>by rw[d]at z;cases z),d,r⟩
  have ad:K.In (wA G.heap H):=fun b o e=>rQ (KX b o e) (by
   cases q:H b with
   | none=>rfl
   | some u=>
    rcases hA b (by rw[q];simp)with z | ⟨z,z2,_⟩
    ·rw[(hT b z).2.1]at e;cases e
    ·rw[z,z2]at e;cases e)
  have ai:uM mg (wA G.heap H):=by
   obtain⟨bm,o,b1,b2,b3,b4,b5,b6,b7⟩:=hB;exact⟨bm,o,b1,b2,b3,rQ b4 (free b4 (fun _ _ z=>by rw[b7]at z;cases z) fun _ z=>by rw[b7]at z;cases z),b5,b6,b7⟩
  have hM:Mod K mg (wA G.heap H):=⟨ad,Z af,⟨mb,Z J,ao⟩,let ⟨mc,h1,h2⟩:=ae;⟨mc,Z h1,h2⟩⟩
  have e0:aAw P w K mg (wA G.heap H) callerA [] G H:=⟨rfl,hM,fun b o e=>aE5 e,Es (aCd _ _),trivial,fun b J=>absurd (show b∈([]:List Ag) from J) (by simp),hok,.of_eq hg⟩
  refine Ea ((F _ ad (Z af) ai).run callerA [] G H ⟨[.ref a],[]⟩ [.ref a] [.ref a] _ _ hr e0 (ab G (.ref a)) (.cons rfl .nil) (an H hO hS)) fun r s' h=>?_;cases r with
  | error e=>exact B7 h
  | ok fl=>
   cases fl with
   | next=>exact B7 h
   | brk=>exact B7 h
   | cont=>exact B7 h
   | ret u=>
    obtain⟨v,H',os,bare,un,hok',r',q⟩:=h;have q':v=.bl true:=q;subst q';obtain rfl:u=Gc true:=r';refine⟨rfl,⟨fun b o e=>?_,fun b o e=>un.there b o e (by simp)⟩,os,bare⟩;cases q:H b with
    | none=>exact .inl (un.keep b o e q (by intro z;exact absurd (show b∈([]:List Ag) from z) (by simp)) (by simp))
    | some u=>
     rcases hA b (by rw[q];simp)with z | ⟨z,_,z2⟩
     ·obtain⟨e1,_,e3⟩:=hT b z;rw[e1]at e;cases e;obtain⟨more,e4⟩:=un.tbls b _ (hO b z);exact .inr (.inl ⟨e3,rfl,#[],more,rfl,hok' b _ e4⟩)
     ·subst z;have z3:=un.frzs _ _ _ z2;obtain⟨e1,_⟩:=hok _ _ z2;obtain⟨e2,_⟩:=hok' _ _ z3;rw[e]at e1;cases e1;exact .inl e2
 have O:∀(H:Hp) T,T∈Ts→cP P w H G.heap T (.tbl #[]):=fun H T h=>(hT T h).1;cases hk:K.lookup a with
 | some o=>
  have e:=KX a o hk;rw[ha]at e;cases e;refine aa (fun b=>if b∈Ts then some (.tbl #[]) else none) (fun T h=>Ib h) (.inr ⟨_,vs.toArray,_,hk,rfl,rfl,rfl,by rw[Aq,ah];exact hl,by simpa using rv⟩) (fun b u z=>?_) fun b z=>?_
  ·by_cases J:b∈Ts
   ·have Y:=(Ib J).symm.trans z;cases Y;exact O _ b J
   ·have Y:=(Ia J).symm.trans z;cases Y
  ·by_cases J:b∈Ts
   ·exact .inl J
   ·exact absurd (Ia J) z
 | none=>
  have am:∀ T∈Ts,(if T=a then some (HO.frz { cls:=.type "list",data:=.seq vs.toArray } (.lst (ns.map V.int))) else if T∈Ts then some (.tbl #[]) else none)=some (.tbl #[]):=fun T h=>by
   rw[Ia (aT T h),Ib h]
  refine aa (fun b=>if b=a then some (.frz { cls:=.type "list",data:=.seq vs.toArray } (.lst (ns.map V.int))) else if b∈Ts then some (.tbl #[]) else none) am (.inl (.inr ⟨{ cls:=.type "list",data:=.seq vs.toArray },Ib rfl⟩)) (fun b u z=>?_) fun b z=>?_
  ·by_cases J:b=a
   ·have Y:=(Ib J).symm.trans z;cases Y;subst J;exact⟨ha,by rw[Ab];exact hl,vs,_,rv,ha⟩
   ·have z1:=(Ia J).symm.trans z;by_cases M:b∈Ts
    ·have Y:=(Ib M).symm.trans z1;cases Y;exact O _ b M
    ·have Y:=(Ia M).symm.trans z1;cases Y
  ·by_cases J:b=a
   ·exact .inr ⟨J,hk,Ib rfl⟩
   ·by_cases M:b∈Ts
    ·exact .inl M
    ·exact absurd ((Ia J).trans (Ia M)) z
theorem walk_ofT{l:F0}{n k:Nat}{q:AD}{O:List Str}{XP:(Str→Option Ad)→Bi→Prop}{YP:AV→Bi→Prop}{d:DefRec}{K:Params→Ah}{sp:AV→Sp}{x:Str}{cts:List (Ag×Ag)}
  (hn:l.most=some n) (af:n≤sizeLine) (ab:d.params.defaults=[]) (hr:dQ k callerA)
  (hY:∀(w:AV) (h:Bi),YP w h→(K w.params).In h∧∀ T∈cts.map (·.2),h.get? T=some (tabObj #[]))
  (hC:∀(w:AV),∀ p∈cts,codeHdIn (K w.params) p.1 p.2=true∧(K w.params).lookup p.2=none)
  (F:∀(w:AV) (mg:Str→Option Ad) (fa:Ag) (h:Bi),(K w.params).In h→h.Ns mainGlobals mg→mg d.name=some (.ref fa)→
   ∃ fd:A3,(∀(s:Af) (u:Ad),Gm s fd ⟨[u],[]⟩ [(x,u)])∧
    ∀ base:Bi,(K w.params).In base→base.Ns mainGlobals mg→uM mg base→cY l.prog w (K w.params) mg base CX0 k fa fd [x] (sp w))
  (ae:∀(w:AV) (H:Hp) (a:Ag) (ns:List Int),ns.length≤n→(∀ T∈cts.map (·.2),H T=some (.tbl #[]))→SqL (K w.params) H a (ns.map V.int)→sp w [.ref a] H (fun v _=>v=.bl true) fun _ _ _=>False):
  PySem.W.WalkO q O XP YP l.row.toRowW d [] (fun f vs=>He f vs):=by
 refine Att.attach_call hn ab fun w s₀ s₁ mg mb fa o pm cd am a vs ns G Y ho hd ah ad Z M J hg=>?_;obtain⟨KX,TX⟩:=hY w _ Y;obtain⟨fd,hb,hF⟩:=F w mg fa _ KX G.T.g ad;have hB:uM mg s₁.heap:=by
  obtain⟨bm,ob,b1,b2,b3,b4,b5,b6⟩:=G.T.bmain;refine⟨bm,ob,b1,b2,fun z=>?_,b3,b4,b5,b6⟩;obtain⟨o',es,ep,e,r⟩:=G.T.g;rw[z,e]at b3;cases b3;rw[r.1]at b6;cases b6
 refine aCA KX G.T.g G.T.b G.T.builtins G.T.nolimit hg hB (Ts:=cts.map (·.2)) (fun T h=>?_) Z M (AG J af) hr hF hb fun H hO hS=>ae w H a ns J hO hS
 obtain⟨p,hp,rfl⟩:=AQ.mp h;obtain⟨h1,h2⟩:=hC w p hp;exact⟨TX _ h,h2,((Hq KX h1).tab (TX _ h)).isCodeTable⟩
section
variable{X:Cx}
inductive tN(x:V)(vs:List V)(H:Hp)(Q:VK):Prop
 | mk (l:_) (b:_) (xs:_) (zs:_) (q0:x=.ref l) (q1:vs=[.ref b]) (q2:H l=some (.lst xs)) (q3:H b=some (.tup zs)) (q4:xs.length + zs.length≤sizeLine) (q5:Q .non (upd H l (.lst (xs ++ zs)))):tN x vs H Q
def aD8:V→List V→Hp→VK→Prop:=fun x vs H Q=>tN x vs H Q
theorem aAS:MtM X "list.extend" aD8:=by
 intro iw s σ H x vs v Z Q I O Y h;obtain⟨l,b,xs,zs,rfl,rfl,hH,hB,hz,q⟩:=h;cases O;obtain⟨u,rfl,ru⟩:=Y.one;cases ru;obtain⟨z,its,n,r,hl,e⟩:=I.lstM hH;obtain⟨its2,r2,p,_⟩:=I.tuple (aH (K:=X.K) hB);have M:=r2.length;have J:its.toArray.size + its2.toArray.size≤sizeLine:=by rw[Aq,Aq];omega
 have G:¬ (!its.toArray.isEmpty && Dg (its.toArray.size + its2.toArray.size))=true:=by
  rw[xX J,D0];exact AB
 refine Bz F.slot_list_extend ⟨_,e,rfl⟩ F.entry_list_extend ?_ (F.args_list_extend_2 _ _);show wpAny _ _ (Cu (.ref l) (.ref b) .none) _ _ _;unfold Cu;refine Aa (Cn p.typeIs ?_);rw[Ib (by
  have ht:(Br "tuple" == Br "tuple")=true:=by rfl
  rw[ht];simp)]
 refine Aa (gW p ?_);refine Aa (F9 e rfl ?_);rw[Ia G];refine Aa (Di e rfl ?_ (by rw[Aq];omega) (by rw[Array.size_append];omega));refine Ae ⟨_,rfl,?_⟩;refine⟨.non,_,I.lset (its':=its ++ its2) (t':=s.toks) hH e (by simp) (r.append r2) ?_,rfl,q⟩;rw[Ay];omega
end
section
variable{X:Cx}{tg:Ba}
end
section
variable{X:Cx}
inductive aAT(H:Hp):V→Prop
 | str (z:Str):aAT H (.str z)
 | non:aAT H .non
 | int (i:Int):aAT H (.int i)
 | bl (b:Bool):aAT H (.bl b)
 | lst {a:Ag} {xs:List V} (e:H a=some (.lst xs)):aAT H (.ref a)
 | tup {a:Ag} {xs:List V} (e:H a=some (.tup xs)):aAT H (.ref a)
inductive Thg(H:Hp):V→Option (List V)→Prop
 | lst {a:Ag} {xs:List V} (e:H a=some (.lst xs)) (h:∀ v∈xs,aAT H v):Thg H (.ref a) (some xs)
 | tup {a:Ag} {xs:List V} (e:H a=some (.tup xs)):Thg H (.ref a) none
 | dct {a:Ag} {iz:List (Key×V)} (e:H a=some (.dK iz)):Thg H (.ref a) none
 | non:Thg H .non none
 | str (z:Str):Thg H (.str z) none
 | bl (b:Bool):Thg H (.bl b) none
end
section
variable{X:Cx}
inductive RpV(H:Hp):V→Str→Prop
 | non:RpV H .non "None"
 | bl (b:Bool):RpV H (.bl b) (if b then "True" else "False")
 | str (z:Str) (h:(reprText z).length≤sizeLine):RpV H (.str z) (reprText z)
 | ref {a:Ag} {m:Bool} {d:A8} (r:RdV m H (.ref a) d) (h1:d.showable=true) (h2:d.depth≤20) (h3:d.shown.length≤sizeLine):RpV H (.ref a) d.shown
inductive mG(xs:List V)(H:Hp)(Q:VK):Prop
 | mk (x:V) (z:Str) (q0:xs=[x]) (q1:RpV H x z) (q2:Q (.str z) H):mG xs H Q
def wQ:List V→Hp→VK→Prop:=fun xs H Q=>mG xs H Q
theorem fF{k:Nat}(G:dQ k X.A):eY X (.builtin "repr") wQ:=by
 intro iw s σ H xs F Q I r h;obtain⟨x,z,rfl,hx,q⟩:=h;cases hx with
 | non=>
  obtain⟨u,rfl,ru⟩:=fS r;cases ru;exact P.repr_of_none ⟨.str _,H,I.tok _,⟨_,rfl⟩,q⟩
 | bl b=>
  obtain⟨u,rfl,ru⟩:=fS r;cases ru;exact P.repr_of_bool ⟨.str _,H,I.tok _,⟨_,by cases b <;> rfl⟩,q⟩
 | str z h=>
  obtain⟨u,rfl,ru⟩:=fS r;obtain⟨t,rfl⟩:=ru;exact P.repr_of_str ⟨.str _,H,I.tok _,⟨_,rfl⟩,q⟩ h
 | @ref a m d rd h1 h2 J=>exact aCu G iw s σ H _ F Q I r ⟨a,m,d,rfl,rd,h1,h2,J,q⟩
end
mutual
theorem RdV.uniq{H:Hp}:∀{x:V}{d d':A8},RdV false H x d→RdV false H x d'→d=d'
 | _,_,_,.non,h=>by cases h;rfl
 | _,_,_,.bl b,h=>by cases h;rfl
 | _,_,_,.int i,h=>by cases h;rfl
 | _,_,_,.str z _,h=>by cases h;rfl
 | _,_,_,.lst hm _ _ _,_=>nomatch hm
 | _,_,_,.tup e hl r,h=>by
  cases h with
  | lst hm=>cases hm
  | tup q F G=>
   rw[e]at q;cases q;rw[cE.uniq r G]
  | dct _ q=>rw[e]at q;cases q
 | _,_,_,.dct _ e,h=>by
  cases h with
  | lst hm=>cases hm
  | tup q _ _=>rw[e]at q;cases q
  | dct _ q=>rfl
theorem cE.uniq{H:Hp}:∀{xs:List V}{ds q:List A8},cE false H xs ds→cE false H xs q→ds=q
 | _,_,_,.nil,h=>by cases h;rfl
 | _,_,_,.cons a r,h=>by
  cases h with
  | cons a' F=>rw[RdV.uniq a a',cE.uniq r F]
end
def OkS:Nat→A8→Prop
 | 0,d=>(∃ z,d=.str z)∨∃ i,d=.int i
 | n + 1,d=>(∃ z,d=.str z)∨(∃ i,d=.int i)∨∃ ds,d=.tuple ds∧∀ e∈ds,OkS n e
open Classical in
section
variable{X:Cx}{iw:Ih}{σ:St}{H:Hp}{s:Af}
open Classical in
end
section
variable{X:Cx}
open Classical in
end
section
variable{X:Cx}
end
inductive aIc(X:Cx)(iw:Ih)(σ:St)(E':XK)(x:Ad)(s':Af):Prop
 | mk (H1:_) (s1:_) (q0:Inv X iw σ H1 s1) (q1:CXr X.prog X.w X.stack H1 s1 E' x s'):aIc X iw σ E' x s'
def XP(X:Cx)(iw:Ih)(σ:St)(E':XK)(x:Ad)(s':Af):Prop:=aIc X iw σ E' x s'
structure PX(X:Cx)(e:Ba)(te:XK→TE):Prop where
 run:∀(E':XK) (iw:Ih) (s:Af) (σ:St) (H:Hp) (Q:VK),Inv X iw σ H s→te E' σ H Q→wpAny (model X.prog X.w) X.A (eval e X.env) (EP X iw σ Q) (XP X iw σ E') s
structure PXs(X:Cx)(b:List Co)(tb:XK→TS):Prop where
 run:∀(E':XK) (iw:Ih) (s:Af) (σ:St) (H:Hp) (D:Ends),Inv X iw σ H s→tb E' D σ H→wpAny (model X.prog X.w) X.A (execs b X.env) (SP X iw D) (XP X iw σ E') s
section
variable{X:Cx}{k:Nat}{f:Ag}{fd:A3}{ps:List Str}{sp:Sp}{x:Str}{p pos:Pos}{e:Ba}{es:List Ba}{t:TA}{te:XK→TE}
end
section
variable{X:Cx}{iw:Ih}{σ:St}{H:Hp}{s:Af}{v:Ad}
end
def aI9(y:Ag)(C:Ad):HO:=.ext fun h=>∃ ob vs,h.get? y=some ob∧ob.cls=C∧ob.data=.fields vs
open PySem PySem.Spec PyProof.Rows PySem.W Builtin Builtin.ObjectAttr PySem.Calls Builtin.Getset_descriptor
structure aJj(K:Ah)(D:Ag):Prop where
 ga:findIn K (.ref D) "__getattribute__"=some (some (.builtin "BaseException.__getattribute__"))
 gn:findIn K (.ref D) "__getattr__"=some none
 mb:mroIn K D (.type "BaseException")=some true
 hd:hasDictIn K D=true
 ha:findIn K (.ref D) "__class__"=some (some (.builtin "object.__class__"))
 hm:mroIn K D (.type "object")=some true
 hn:specialIn K (.builtin "object.__class__") "__get__"=some (some (.builtin "getset_descriptor.__get__"))
 ht:takesIn K (.builtin "object.__class__")=some true
def aJa(y:Ag)(C:Ad)(h:Bi):Prop:=∃ ob vs,h.get? y=some ob∧ob.cls=C∧ob.data=.fields vs
section
variable{X:Cx}
end
section
variable{H H':Hp}{L:Ih}{b:Ag}{o:Obj}
variable{P:AD}{w:AV}{h h':Bi}{fs:List Ag}
end
section
variable{P:AD}{w:AV}{K:Ah}{mg:Str→Option Ad}{base:Bi}{N:List Str}{qual:Str}{scope:C1}{f:Ag}{cd:Ad}{A:AS}{outer:List Env}{s:Af}{H:Hp}{E:XK}
structure aJb(cl:List (Str×Ag))(L:Ih)(fs:List Str)(zs:List V):Prop where
 pr:Ce (fun(x:Str) (v:V)=>∃ b o u,cl.lookup x=some b∧L.lookup b=some o∧o.data=.cell (some u)∧cF v u) fs zs
 all:∀ x b,cl.lookup x=some b→∃ o u,L.lookup b=some o∧o.data=.cell u
 inj:∀ x y b,cl.lookup x=some b→cl.lookup y=some b→x=y
end
section
variable{X:Cx}{k:Nat}{x:Str}{p pos:Pos}
end
inductive Thn(H:Hp):V→Prop
 | non:Thn H .non
 | bl (b:Bool):Thn H (.bl b)
 | int (i:Int):Thn H (.int i)
 | str (z:Str):Thn H (.str z)
 | lst {a:Ag} {xs:List V} (e:H a=some (.lst xs)):Thn H (.ref a)
 | tup {a:Ag} {xs:List V} (e:H a=some (.tup xs)):Thn H (.ref a)
 | dct {a:Ag} {iz:List (Key×V)} (e:H a=some (.dK iz)):Thn H (.ref a)
section
variable{X:Cx}
end
section
variable{prog:AD}{w:AV}{A:AS}{E:Ad→Af→Prop}{s:Af}
theorem yX{a:Ag}{vs:List Ad}{n:Nat}{P:Gu→Af→Prop}(ho:s.heap.get? a=some (seqObj "list" vs.toArray n))(hK:∀(G F:Ad) (b8:List Ad),vs=G :: F :: b8→∀(s':Af) (Q:Dy→Af→Prop),(∀ b u,b≠a→s.heap.get? b=some u→s'.heap.get? b=some u)→(∀ κ,oE prog w A s' κ (pairsOf vs)→Q κ s')→wpAny (model prog w) A (keyKind' vs.toArray) Q E s')(hz:vs.length≤sizeLine)
  (h:∀ out:List Ad,out.Perm vs→P (.done (.ret .none)) { s with heap:=sortedHeap s.heap a vs out.toArray }):wpAny (model prog w) A (Builtin.«list.sort» ⟨[.ref a],[]⟩) P E s:=by
 rw[list_sort_plain];have ha:a < s.heap.objs.size:=Ar ho;refine Aa (F9 ho rfl (Aa (Di ho rfl ?_)));obtain⟨Y,ho1⟩:∃ Y,(s.heap.update a (A5 fun _=>#[])).get? a=some (seqObj "list" #[] Y):=⟨_,get?_update_seq ho (fun _=>#[])⟩
 refine Aa (FG ho1 rfl (Aa (GG (Aa (DN (Bj ?_))))));have n1:a≠((s.heap.update a (A5 fun _=>#[])).push (seqObj "tuple" vs.toArray 0)).objs.size:=by rw[F3,CG];exact AA (By ha)
 have Z:a≠(s.heap.update a (A5 fun _=>#[])).objs.size:=by rw[CG];exact AA ha
 have q:(((s.heap.update a (A5 fun _=>#[])).push (seqObj "tuple" vs.toArray 0)).push (seqObj "list" #[] 0)).get? a=some (seqObj "list" #[] Y):=by
  rw[EK _ _ _ n1,EK _ _ _ Z];exact ho1
 show wpAny (model prog w) A _ P E { s with heap:=((s.heap.update a (A5 fun _=>#[])).push (seqObj "tuple" vs.toArray 0)).push (seqObj "list" #[] 0) };dsimp only;have fin:∀ st:Bl,(arrOf st).Perm (pairsOf vs)→P (.done (.ret .none)) { s with heap:=sortedHeap s.heap a vs ((arrOf st).map (·.2)) }:=fun st J=>by
  have O:((arrOf st).map (·.2)).toList.Perm vs:=by
   rw[Array.toList_map];have:=(Bd.mp J).map (·.2)
   rw[pairsOf_toList,List.map_snd_zip (Am _)]at this;exact this
  have:=h _ O
  rwa [Array.toArray_toList]at this
 have le:∀ st:Bl,(arrOf st).Perm (pairsOf vs)→((arrOf st).map (·.2)).size≤sizeLine + 1:=fun st J=>by
  rw[Array.size_map,J.size_eq,pairsOf_size];omega
 by_cases h2:vs.toArray.size < 2
 ·rw[Ib h2,Ib h2];refine Aa (Ae ?_);rw[StateT.run_pure];refine Aa (Ae ?_);dsimp only;refine Aa (FG q rfl (Aa (Di q rfl ?_ (hsz2:=le (F7 general' (vs.toArray.zip vs.toArray) #[] 7 none) (Do _)))));simp only[bne_self_eq_false,Cd,if_false];exact Ae (fin (F7 general' (vs.toArray.zip vs.toArray) #[] 7 none) (Do _))
 ·rw[Ia h2,Ia h2];obtain⟨G,F,b8,rfl⟩:∃ G F b8,vs=G :: F :: b8:=by
   match vs,h2 with
   | [],h2=>simp at h2
   | [_],h2=>simp at h2
   | G :: F :: b8,_=>exact⟨G,F,b8,rfl⟩
  refine Aa (hK G F b8 rfl _ _ (fun b u nb e=>?_) fun κ hc=>Aa (yT hc fun st J hf=>?_))
  ·have M:=Ar e;rw[EK _ _ _ (by rw[F3,CG];exact AA (By M)),EK _ _ _ (by rw[CG];exact AA M),BV _ _ _ _ nb];exact e
  ·dsimp only;refine Aa (FG q rfl (Aa (Di q rfl ?_ (hsz2:=le st J))));rw[hf];simp only[bne_self_eq_false,Cd,if_false];exact Ae (fin st J)
theorem vM{a:Ag}{vs:List Ad}{ss:List Str}{n:Nat}{P:Gu→Af→Prop}(ho:s.heap.get? a=some (seqObj "list" vs.toArray n))(F:Eb vs ss)(hz:vs.length≤sizeLine)
  (h:∀ out:List Ad,out.Perm vs→P (.done (.ret .none)) { s with heap:=sortedHeap s.heap a vs out.toArray }):wpAny (model prog w) A (Builtin.«list.sort» ⟨[.ref a],[]⟩) P E s:=by
 refine yX ho (fun O M b8 e s' Q _ q=>?_) hz h;subst e;rw[keyKind_strs F];refine Ae (q _ fun x y hx J C hC=>?_);have G:=F.keysOf;obtain⟨a1,k1⟩:=G x hx;obtain⟨a2,k2⟩:=G y J;rw[keyLt'_oneType];exact strKind_oneLt prog w A _ _ x.1 y.1 a1 a2 k1 k2 (hC _)
theorem vN{vs out:List Ad}(p:out.Perm vs):∀{ss:List Str},Eb vs ss→∃ q,Eb out q∧q.Perm ss:=by
 induction p with
 | nil=>intro ss h;exact⟨ss,h,.refl _⟩
 | cons x _ M=>
  intro ss h;cases h with
  | cons i t r=>
   obtain⟨q,h1,h2⟩:=M r;exact⟨i :: q,.cons i t h1,h2.cons i⟩
 | swap x y l=>
  intro ss h;cases h with
  | cons i t r=>
   cases r with
   | cons j u J=>exact⟨j :: i :: _,.cons j u (.cons i t J),.swap _ _ _⟩
 | trans _ _ G F=>
  intro ss h;obtain⟨s1,h1,h2⟩:=F h;obtain⟨s2,h3,h4⟩:=G h1;exact⟨s2,h3,h4.trans h2⟩
theorem yY{l:Ag}{vs:List Ad}{ss:List Str}{Q:Ad→Af→Prop}(hl:s.heap.IsList l vs.toArray)(J:Eb vs ss)(hz:vs.length≤sizeLine)
  (h:∀(out:List Ad) (q:List Str),Eb out q→q.Perm ss→Q (.ref (s.heap.objs.size + 1)) { s with heap:=sortedAll s.heap vs out.toArray }):
  wpAny (model prog w) A (call (.builtin "sorted") [.ref l]) Q E s:=by
 refine Ds FH Fl Fn (Ga _) ?_;unfold Builtin.«sorted»;refine Aa (m:=checkCount "sorted" 1 1 _) (Ae (Aa (Hi hl (Aa (DN ?_)))));have F:((s.heap.push (seqObj "list" #[] 0)).update s.heap.objs.size (A5 (· ++ vs.toArray))).objs.size=s.heap.objs.size + 1:=by
  rw[CG,F3]
 have G:(((s.heap.push (seqObj "list" #[] 0)).update s.heap.objs.size (A5 (· ++ vs.toArray))).push (seqObj "list" vs.toArray 0)).get? (s.heap.objs.size + 1)=some (seqObj "list" vs.toArray 0):=by
  rw[← F];exact At _ rfl
 show wpAny _ _ _ _ _ { s with heap:=((s.heap.push (seqObj "list" #[] 0)).update s.heap.objs.size (A5 (· ++ vs.toArray))).push (seqObj "list" vs.toArray 0) }
 rw[F];refine Aa (Bj (Bz slot_list_sort ⟨_,G,rfl⟩ entry_list_sort (vM G J hz fun out M=>⟨_,rfl,?_⟩) (FJ _)));obtain⟨q,h1,h2⟩:=vN M J;exact Ae ⟨_,rfl,h out q h1 h2⟩
end
section
variable{X:Cx}
inductive jJ(K:Ah)(xs:List V)(H:Hp)(Q:VK):Prop
 | mk (p:Ag) (ns:List Str) (q0:xs=[.ref p]) (q1:SqL K H p (ns.map V.str)) (q2:ns.length≤sizeLine) (q3:∀(l:Ag) (ms:List Str),H l=none→ms.Perm ns→Q (.ref l) (upd H l (.lst (ms.map V.str)))):jJ K xs H Q
def rG(K:Ah):List V→Hp→VK→Prop:=fun xs H Q=>jJ K xs H Q
theorem uN:eY X (.builtin "sorted") (rG X.K):=by
 intro iw s σ H xs Z Q I r h;obtain⟨p,ns,rfl,hx,hz,q⟩:=h;obtain⟨u,rfl,ru⟩:=fS r;cases ru;obtain⟨its,rv,pl,_⟩:=I.list hx;have hi:Eb its ns:=tE rv;have F:=rv.length;rw[Ab]at F;refine yY pl.isList hi (by omega) fun out G Y J=>?_;have O:∀ b o,s.heap.get? b=some o→(sortedAll s.heap its out.toArray).get? b=some o:=fun b o e=>sortedAll_old e;obtain⟨e,he⟩:=sortedAll_at s.heap its out.toArray;have hn:H (s.heap.objs.size + 1)=none:=I.hok.fresh (CF _);have M:=J.length_eq;have hv:bX (G.map V.str) out:=iQ Y;exact⟨.ref (s.heap.objs.size + 1),_,I.laid (t':=s.toks) (o:=.lst (G.map V.str)) O (CF _) ⟨by rw[Ab];omega,out,e,hv,by rw[he] <;> rfl⟩,rfl,q _ G hn J⟩
end
section
variable{prog:AD}{w:AV}{A:AS}{E:Ad→Af→Prop}{s:Af}{T:String}{r d:Ag}{n:Nat}{P:Nat→Ad→Prop}{OK:Bi→Prop}
theorem yZ(K:KdlSrc prog w T r d n P OK)(hh:A.handled=none)(hok:OK s.heap)(hn:n≤sizeLine){Q:List Ad→Af→Prop}
  (O:∀(q:Array Ad) (h':Bi) (tk:Nat),(∀ b o,s.heap.get? b=some o→h'.get? b=some o)→s.heap.objs.size < h'.objs.size→Hm P q n→Q q.toList { s with heap:=h',toks:=tk }):wpAny (model prog w) A (collect (.ref r)) Q E s:=by
 unfold collect;refine Aa (GF (Cp F.entry_proto_collect ?_));rw[B1 F.plain_proto_collect _];show wpAny _ A.in1 (newList [] >>= fun l=>again (.builtin "list.__iadd__" ⟨[l,.ref r],[]⟩)) _ _ s;refine Aa (BJ (Ae ⟨DP EV _,Cp F.entry_list_iadd ?_⟩));rw[B1 EV _];obtain⟨t1,t2⟩:=K.there _ hok;have Z:(s.heap.push { cls:=.type "list",data:=.seq ([]:List Ad).toArray }).get? s.heap.objs.size=some { cls:=.type "list",data:=.seq ([]:List Ad).toArray }:=At _ rfl;have J:OK (s.heap.push { cls:=.type "list",data:=.seq ([]:List Ad).toArray }):=K.keep _ _ hok fun b _ o e=>Ai _ e;show wpAny _ A.in1 (Cu (.ref s.heap.objs.size) (.ref r) (.ref s.heap.objs.size)) _ _ _;refine kdl_extend (R:=fun(r:G7) s'=>match r with
  | .ok (.ret v)=>wpAny (model prog w) A (match v with
   | .ref a=>(do
    let o ← load a
    match o.data with
    | .seq xs _=>pure xs.toList
    | _=>unsupported "internal:collect")
   | _=>unsupported "internal:collect") Q E s'
  | .ok _=>False
  | .error e=>E e s') (s:={ s with heap:=s.heap.push { cls:=.type "list",data:=.seq ([]:List Ad).toArray } }) K hh J s.heap.objs.size (Du t1) (Du t2) _ _ Z (fun h' tk q c Y M G=>?_) hn
 show wpAny _ A (load s.heap.objs.size >>= _) _ _ _;refine Aa (GK M ?_);exact Ae (O q h' tk (fun b o e=>Y b o (AA (Ar e)) (Ai _ e)) (Ar M) G)
theorem aAU(K:KdlSrc prog w T r d n P OK)(hh:A.handled=none)(hok:OK s.heap)(hn:n≤sizeLine){ss:List Str}(hS:∀ q,Hm P q n→Eb q.toList ss){Q:Ad→Af→Prop}
  (h:∀(l:Ag) (h':Bi) (tk e:Nat) (out:List Ad) (M:List Str),s.heap.objs.size≤l→(∀ b u,s.heap.get? b=some u→h'.get? b=some u)→h'.get? l=some (seqObj "list" out.toArray e)→Eb out M→M.Perm ss→Q (.ref l) { s with heap:=h',toks:=tk }):
  wpAny (model prog w) A (call (.builtin "sorted") [.ref r]) Q E s:=by
 refine Ds FH Fl Fn (Ga _) ?_;unfold Builtin.«sorted»;refine Aa (m:=checkCount "sorted" 1 1 _) (Ae (Aa (yZ (A:=A.in1) K hh hok hn fun q h1 tk Z O F=>?_)));have Y:=hS q F;have hz:q.toList.length≤sizeLine:=by rw[Bf,F.1];exact hn
 refine Aa (DN ?_ hz);have G:(h1.push (seqObj "list" q.toList.toArray 0)).get? h1.objs.size=some (seqObj "list" q.toList.toArray 0):=At _ rfl;refine Aa (Bj (Bz slot_list_sort ⟨_,G,rfl⟩ entry_list_sort (vM G Y hz fun out hp=>⟨_,rfl,?_⟩) (FJ _)));obtain⟨M,b1,b2⟩:=vN hp Y;refine Ae ⟨_,rfl,?_⟩;obtain⟨e,he⟩:=Hc (vs:=q.toList) (out:=out.toArray) G;refine h _ _ tk e _ M (Dv O) (fun b u eb=>?_) he b1 b2;have J:=Ar (Z b u eb);rw[GV (AA J) (by rw[B3];exact By J)];exact Ai _ (Z b u eb)
end
section
theorem aAV{P:AD}{w:AV}:∀{es:List DictEntry}{vs:List (Key×Ad)}{ss:List Str},PySem.Pairs (cM P w) es vs→vs.map (·.1)=ss.map Ac→Eb (es.map (·.key)) ss:=by
 intro es vs ss h
 induction h generalizing ss with
 | nil=>
  intro e;cases ss with
  | nil=>exact .nil
  | cons _ _=>simp at e
 | cons G hv _ F=>
  intro e;cases ss with
  | nil=>simp at e
  | cons z ss=>
   rw[Au,Au]at e;injection e with e1 e2;rcases dH (show qO _ _=true from G)with⟨i,t,q,_⟩ | ⟨x,t,q,q2⟩
   ·skip
    rw[q]at e1;cases e1
   ·skip
    rw[q]at e1;cases e1;rw[Au,q2];exact .cons z t (F e2)
theorem aBC:∀{iz:List (Key×V)}{vs:List (Key×Ad)},KV iz vs→iz.map (·.1)=vs.map (·.1)
 | _,_,.nil=>rfl
 | _,_,.cons r t=>by rw[Au,Au,aBC t,r.1]
variable{X:Cx}
inductive kB(xs:List V)(H:Hp)(Q:VK):Prop
 | mk (p:Ag) (iz:List (Key×V)) (ss:List Str) (q0:xs=[.ref p]) (q1:H p=some (.dK iz)) (q2:iz.map (·.1)=ss.map Ac) (q3:∀(l:Ag) (ms:List Str),H l=none→ms.Perm ss→Q (.ref l) (upd H l (.lst (ms.map V.str)))):kB xs H Q
def tO:List V→Hp→VK→Prop:=fun xs H Q=>kB xs H Q
theorem iS(hc:X.calm=true):eY X (.builtin "sorted") tO:=by
 intro iw s σ H xs us Q I r h;obtain⟨p,iz,ss,rfl,hx,hks,q⟩:=h;obtain⟨u,rfl,ru⟩:=fS r;cases ru;obtain⟨hz,hsm,vs,kv,o,es,ep,ho,hex,hd,hes,hpr,hnd⟩:cP X.prog X.w H s.heap p (.dK iz):=I.hok p _ hx;have Z:=aBC kv;have ad:es.size=iz.length:=by
  have h1:=hpr.length;have h2:=congrArg Cg Z;rw[Ab,Ab]at h2;rw[← Bf,h1,h2]
 refine aAU (aH9 hsm hex hd) (I.ok.hd hc) ho (by omega) (ss:=ss) (fun F G=>?_) fun l h' tk e out O hl hk hL hA Y=>?_
 ·have J:F.toList=es.toList.map (·.key):=by
   apply DW;intro j;by_cases M:j < F.size
   ·have e2:es[j]?.map (·.key)=some F[j]:=G.2 j F[j] (by simp[M])
    rw[Ao,Ca,Ca,e2];simp[M]
   ·have h1:=G.1;rw[Bo (by simpa using M),Bo (by simp;omega)]
  rw[J];exact aAV hpr (by rw[← Z,hks])
 ·have hv:bX (O.map V.str) out:=iQ hA;have af:=Y.length_eq;have ab:ss.length=iz.length:=by
   have:=congrArg Cg hks;rw[Ab,Ab]at this;exact this.symm
  exact⟨.ref l,_,I.laid (t':=tk) (o:=.lst (O.map V.str)) hk hl ⟨by rw[Ab];omega,out,e,hv,by rw[hL] <;> rfl⟩,rfl,q l O (I.hok.fresh hl) Y⟩
end
section
variable{prog:AD}{w:AV}{A:AS}{E:Ad→Af→Prop}{s:Af}
theorem aFA:typeLookup (.type "list") "keys"=pure none:=am_miss_of_fast (by kernel_rfl)
theorem aCB{a:Ag}{o:Obj}{xs:Array Ad}{k:Nat}{Q:Option Ad→Af→Prop}(hx:s.heap.get? a=some o)(hc:o.cls=.type "list")(q:o.data=.seq xs k)(hd:o.dict=none)(O:A.handled=none)
  (h:∀ h' tk,(∀ b u,s.heap.get? b=some u→h'.get? b=some u)→Q none { s with heap:=h',toks:=tk }):wpAny (model prog w) A (getAttr? (.ref a) "keys") Q E s:=by
 obtain⟨c,dct,dat,sl⟩:=o;simp only at hc q hd;subst hc q hd;obtain⟨hp,g,d,tk,os⟩:=s;have M:∀ G,(⟨hp,g,d,G,os⟩:Af).TypeIs (.ref a) "list":=fun _=>⟨_,hx,rfl⟩
 have f1:=sub_AttributeError;have Y:=E1.lookup;have Z:=E1.bind (.ref a);have f5:=am_list_getattr_none;unfold getAttr? getAttrBy? getAttrBy
 repeat any_goals first | assumption | exact M _ | ((with_reducible show wpAny _ _ (call (Value.builtin "list.__getattribute__") _ _) _ _ _);refine EQ E1 (M _) am_entry_list_getattribute (F.args_list_getattribute_2 _ _) (meets_getattribute_miss_list a xs k sl "keys" _ aFA (by decide) (by size_fits)) ⟨hx,O,fun h' G e J=>?_⟩) | wp_step
 obtain⟨t',u',he⟩:=J.there;show wpAny _ _ (getattributeRaised _ _ _ _ _ _ _) _ _ _;unfold getattributeRaised
 repeat any_goals first | assumption | wp_step
 exact h h' G J.keeps
def iK(vs:List (Key×Ad)):List (Key×Ad):=vs.foldl (fun d kv=>stored d kv.1 kv.2) []
theorem y0(vs:List (Key×Ad))(q:Key×Ad):iK (vs ++ [q])=stored (iK vs) q.1 q.2:=by
 unfold iK;rw[Dd];rfl
theorem aCC(l:List (Key×Ad))(k:Key)(v:Ad):(stored l k v).length≤l.length + 1:=by
 unfold stored;split
 ·rw[Ab];omega
 ·rw[Ay];exact Am _
theorem aCD:∀ vs:List (Key×Ad),(iK vs).length≤vs.length:=by
 intro vs;have:∀(vs d:List (Key×Ad)),(vs.foldl (fun d q=>stored d q.1 q.2) d).length≤d.length + vs.length:=by
  intro vs
  induction vs with
  | nil=>intro d;exact Am _
  | cons x r F=>
   intro d;rw[BL,AI];have h1:=F (stored d x.1 x.2);have h2:=aCC d x.1 x.2;omega
 have:=this vs [];unfold iK;simpa using this
def oG(P:AD)(w:AV)(h:Bi)(q:Ag)(kv:Key×Ad):Prop:=∃ o key n,h.get? q=some o∧o.cls=.type "tuple"∧o.data=.seq #[key,kv.2] n∧(cM P w).is kv.1 key=true
theorem oG.on{P:AD}{w:AV}{h h':Bi}{q:Ag}{F:Key×Ad}(p:oG P w h q F)(k:∀ o,h.get? q=some o→h'.get? q=some o):oG P w h' q F:=by
 obtain⟨o,key,n,h1,h2⟩:=p;exact⟨o,key,n,k _ h1,h2⟩
theorem aAW{R:G7→Af→Prop}{I:Ag}{fp wr:List Ag}{G:Array Gk→Array Gk→Prop}{n:Nat}{P:Nat→Ad→Prop}{St:Nat→Af→Prop}
  (W:WalksS prog w A.in1 I fp wr G n P St) (D:Ag) (ad:¬ D∈fp) (vs:List (Key×Ad)) (qs:List Ag) (am:∀(i:Nat) (v:Ad),P i v→∃ q,v=.ref q∧qs[i]?=some q) (hn:vs.length=n) (hb:n≤sizeLine) (ah:∀ q∈qs,q ∉ wr∧q≠D):
  ∀(k i:Nat) (s:Af),n - i=k→i≤n→St i s→s.heap.DictOf (cM prog w) D (iK (vs.take i))→(∀(j:Nat) q F,qs[j]?=some q→vs[j]?=some F→oG prog w s.heap q F)→
   (∀ s':Af,Moved (D :: wr) G s s'→s'.heap.DictOf (cM prog w) D (iK vs)→R (Hg (Hb CU)) s')→
   codeAny (model prog w) A (Code.builtin "dict.update.loop" { pos:=[AF D,AF I,rawInt i,.none] }) R s:=by
 have an:¬ D∈wr:=fun h=>ad (W.sub D h);have O:∀ b,b∈wr→b∈D :: wr:=fun b hb=>An D hb;have M:entryFor table "dict.update.loop"=some Builtin.«dict.update.loop»:=entryFor_of_tree (by kernel_rfl);have J:plainId "dict.update.loop"=true:=by decide
 intro k
 induction k with
 | zero=>
  intro i s hk hi Y hD hT hR;have aq:i=n:=by omega
  subst aq;refine Cp M ?_;rw[B1 J];refine Aa (W.done s _ _ Y fun s' hm=>?_);refine Aa (m:=Builtin.Dict.addKeywords _ _) (Ae (Ae (hR s' (Ge hm O) ?_)));rw[Bk (by omega)]at hD;obtain⟨o,es,ep,ho,b8⟩:=hD;exact⟨o,es,ep,hm.heap D o an ho,b8⟩
 | succ k ih=>
  intro i s hk hi Y hD hT hR;have ak:i < n:=by omega
  refine Cp M ?_;rw[B1 J];refine Aa (W.item i s _ _ ak Y fun v s' hP ai hm=>?_);obtain⟨q,rfl,hq⟩:=am i v hP;obtain⟨F,hkv⟩:∃ F,vs[i]?=some F:=⟨_,Aj (by omega)⟩
  have ag:∀(j:Nat) q F,qs[j]?=some q→vs[j]?=some F→oG prog w s'.heap q F:=fun j q F e1 e2=>(hT j q F e1 e2).on fun o eo=>hm.heap q o (ah q (AK e1)).1 eo;obtain⟨o,key,m,ho,hc,hd,hkey⟩:=ag i q F hq hkv;have ay:s'.heap.DictOf (cM prog w) D (iK (vs.take i)):=by
   obtain⟨o,es,ep,ho,b8⟩:=hD;exact⟨o,es,ep,hm.heap D o an ho,b8⟩
  have ar:s'.TypeIs (.ref q) "tuple":=⟨o,ho,hc⟩
  refine Aa (Bj (Aa (wpAny_tryCatch ?_)));unfold Builtin.Dict.pairItems;refine Aa (Cn ar ?_);rw[Ib (by decide)];refine Aa (m:=seqItems? (.ref q)) ?_;show wpAny _ _ (load q >>= _) _ _ _;refine Aa (GK ho ?_);rw[hd];refine Ae (Ae ?_);refine Bj (wpAny_dictSet_pairs hkey ay (fun h' al Z=>?_) (AG (aCD _) (by rw[AM];omega)));refine Ae ⟨DP J _,?_⟩;have et:iK (vs.take (i + 1))=stored (iK (vs.take i)) F.1 F.2:=by
   rw[AC,hkv];exact y0 _ _
  rw[← et]at al;refine ih (i + 1) _ (by omega) ak (W.frame (i + 1) s' h' _ ai (CF s'.toks) fun b hb o e=>?_) al (fun j q F e1 e2=>(ag j q F e1 e2).on fun o eo=>?_) fun au ae aj=>?_
  ·rw[Z.right b fun h=>ad (h ▸ hb)];exact e
  ·rw[Z.right q (ah q (AK e1)).2];exact eo
  ·refine hR au (Moved.trans W.gtrans (Moved.then_heap (Ge hm O) (CF s'.toks) fun b o hb e=>?_) ae) aj;rw[Z.right b fun h=>hb (h ▸ Al)];exact e
theorem rH{n0:Nat}{l:Ag}{qs:List Ag}{vs:List (Key×Ad)}{Q:Ad→Af→Prop}(hh:A.handled=none)(hl:s.heap.get? l=some { cls:=.type "list",data:=.seq (qs.map AF).toArray n0,slots:=#[] })(hT:∀(j:Nat) q kv,qs[j]?=some q→vs[j]?=some kv→oG prog w s.heap q kv)(ae:qs.length=vs.length)(hb:vs.length≤sizeLine)
  (h:∀(h':Bi) (tk:Nat),h'.DictOf (cM prog w) s.heap.objs.size (iK vs)→(∀ b o,s.heap.get? b=some o→h'.get? b=some o)→Q (.ref s.heap.objs.size) { s with heap:=h',toks:=tk }):
  wpAny (model prog w) A (call (.type "dict") [.ref l]) Q E s:=by
 refine callType_codes (Q₁:=fun obj s₁=>obj=.ref s.heap.objs.size∧s₁={ s with heap:=s.heap.push { cls:=.type "dict",data:=.dict #[] } }) F.kt_called_dict (F.kt_typeCall_dict_1 _) F.entry_dict_init (kt_code_dict_new _ ⟨rfl,rfl⟩) ?_;rintro obj s₁ ⟨rfl,rfl⟩;have M:(s.heap.push { cls:=.type "dict",data:=.dict #[] }).DictOf (cM prog w) s.heap.objs.size []:=Heap.DictOf.new s.heap;refine⟨M.typeIs,F.args_dict_init_2 _ _,?_⟩;unfold Builtin.«dict.__init__»;refine Aa ?_;unfold Builtin.Dict.selfAndRest;refine Aa (wpAny_notOrdered_dict M.typeIs ?_);show wpAny _ _ (pure (s.heap.objs.size,[AF l])) _ _ _;refine Ae ?_;show wpAny _ _ (Builtin.Dict.updateFrom "dict.__init__" s.heap.objs.size (.ref l) [] .none) _ _ _;unfold Builtin.Dict.updateFrom;have Z:=Ai { cls:=.type "dict",data:=.dict #[] } hl;refine Aa (Cn ⟨_,Z,rfl⟩ ?_);rw[Ib (by decide)];refine Aa (aCB Z rfl rfl rfl hh fun h2 aq Y=>?_);rw[Ib (by rfl)];have af:=Y _ _ Z;refine Aa (Ch (Aa (D9 ⟨_,af,rfl,_,rfl⟩ ?_)));have aj:h2.DictOf (cM prog w) s.heap.objs.size []:=by
  obtain⟨o,es,ep,ho,b8⟩:=M;exact⟨o,es,ep,Y _ _ ho,b8⟩
 have O:s.heap.objs.size < h2.objs.size:=Ar (Y _ _ (At s.heap rfl));have ag:l < s.heap.objs.size:=Ar hl;have ak:l≠h2.objs.size:=AA (Fe ag O);refine Ae ⟨DP (by decide) _,?_⟩;have G:∀{b:Ag} {o:Obj},h2.get? b=some o→(h2.push { cls:=.type "list_iterator",data:=.fields #[.ref l,.int 0 0] }).get? b=some o:=fun e=>Ai _ e;have al:A.in1.in1.handled=none:=hh;have ah:∀{b:Ag} {o:Obj},s.heap.get? b=some o→h2.get? b=some o:=fun e=>Y _ _ (Ai _ e);refine aAW (n:=(qs.map AF).toArray.size) (Hk (Gb al _ l ak (qs.map AF).toArray)) s.heap.objs.size ?_ vs qs (fun i v hv=>?_) (by simp[ae]) (by simp;omega) (fun q hq=>?_) ((qs.map AF).toArray.size - 0) 0 _ rfl (Bc _) ⟨⟨_,At _ rfl,rfl,rfl⟩,Heap.IsList.push ⟨_,af,rfl,_,rfl⟩ _⟩ ?_ (fun j q kv e1 e2=>(hT j q kv e1 e2).on fun o e=>G (ah e)) ?_
 ·simp only[Ak,Ap,or_false,not_or];exact⟨AA O,Du ag⟩
 ·rw[List.getElem?_toArray,Ao]at hv;obtain⟨q,e1,e2⟩:=AL.mp hv;exact⟨q,e2.symm,e1⟩
 ·obtain⟨j,hj⟩:=Ct hq;obtain⟨hj1,_⟩:=Ax.mp hj;obtain⟨o,key,n,e,_⟩:=hT j q _ hj (Aj (by omega));have J:=Ar e;simp only[Ak,Ap,or_false];exact⟨AA (Fe J O),AA J⟩
 ·obtain⟨o,es,ep,ho,b8⟩:=aj;exact⟨o,es,ep,G ho,b8⟩
 ·rintro⟨h',g',d',tk',os'⟩ hm hS';have e1:=hm.gens;have e2:=hm.drawn;have e3:=hm.os;dsimp only at e1 e2 e3;subst e1 e2 e3;refine⟨rfl,h h' tk' hS' fun b o e=>hm.heap b o ?_ (G (ah e))⟩;have J:=Ar e;simp only[Ak,Ap,or_false,not_or];exact⟨AA J,AA (Fe J O)⟩
end
section
theorem aG4{iz:List (Key×V)}{vs:List (Key×Ad)}(r:KV iz vs):KV (c5 [] iz) (iK vs):=by
 have:∀{iz:List (Key×V)} {vs:List (Key×Ad)},KV iz vs→∀{a:List (Key×V)} {b:List (Key×Ad)},KV a b→KV (c5 a iz) (vs.foldl (fun d q=>stored d q.1 q.2) b):=by
  intro iz vs r
  induction r with
  | nil=>intro a b h;exact h
  | @cons x y _ _ h _ F=>
   intro a b G;obtain⟨h1,h2⟩:=h;have:=G.put x.1 h2;rw[h1]at this;have e:=F this;unfold c5 at e ⊢;rw[BL,BL,h1];exact e
 exact this r .nil
theorem mH:∀(iz a:List (Key×V)),(c5 a iz).length≤a.length + iz.length
 | [],a=>Am _
 | x :: r,a=>by
  have h1:=mH r (bS a x.1 x.2);have h2:=cD a x.1 x.2;show(c5 (bS a x.1 x.2) r).length≤_;rw[AI];omega
variable{X:Cx}
inductive mI(xs:List V)(H:Hp)(Q:VK):Prop
 | mk (p:Ag) (rs:List Ag) (iz:List (Key×V)) (q0:xs=[.ref p]) (q1:H p=some (.lst (rs.map V.ref))) (q2:Ce (fun(r:Ag) (kv:Key×V)=>H r=some (.tup [kV kv.1,kv.2])) rs iz) (q3:∀(d:Ag),H d=none→Q (.ref d) (upd H d (.dK (c5 [] iz)))):mI xs H Q
def wR:List V→Hp→VK→Prop:=fun xs H Q=>mI xs H Q
theorem tP(hc:X.calm=true):eY X (.type "dict") wR:=by
 intro iw s σ H xs us Q I r h;obtain⟨p,rs,iz,rfl,hx,hP,q⟩:=h;obtain⟨u,rfl,ru⟩:=fS r;cases ru;obtain⟨hz,F,n,hv,ho⟩:cP X.prog X.w H s.heap p (.lst (rs.map V.ref)):=I.hok p _ hx;have J:F=rs.map AF:=by
  have:∀{rs:List Ag} {F:List Ad},bX (rs.map V.ref) F→F=rs.map AF:=by
   intro rs
   induction rs with
   | nil=>intro F h;cases h;rfl
   | cons a r Z=>
    intro F h;cases h with
    | cons h1 h2=>
     cases h1;rw[Z h2];rfl
  exact this hv
 subst J;obtain⟨vs,hvs,hT⟩:∃ vs:List (Key×Ad),KV iz vs∧∀(j:Nat) q G,rs[j]?=some q→vs[j]?=some G→oG X.prog X.w s.heap q G:=by
  clear hx ho hv hz q r
  induction hP with
  | nil=>exact⟨[],.nil,fun j q G e=>by simp at e⟩
  | @cons a G as bs h _ Z=>
   obtain⟨vs,h1,h2⟩:=Z;obtain⟨_,F,hv,o,ho,⟨hc,n,hd⟩,_⟩:cP X.prog X.w H s.heap a (.tup [kV G.1,G.2]):=I.hok a _ h;cases hv with
   | cons r1 hv=>
   cases hv with
   | @cons _ u2 _ _ r2 hv=>
   cases hv;refine⟨(G.1,u2) :: vs,.cons ⟨rfl,r2⟩ h1,fun j q Y M O=>?_⟩;cases j with
   | zero=>
    simp only[List.getElem?_cons_zero,Cc.injEq]at M O;subst M O;exact⟨o,_,n,ho,hc,hd,nS r1⟩
   | succ j=>
    rw[List.getElem?_cons_succ]at M O;exact h2 j q Y M O
 have ab:=hvs.length;have af:=hP.length;rw[Ab]at hz;refine rH (I.ok.hd hc) ho hT (by omega) (by omega) fun h' tk hd hk=>?_;have:=mH iz [];exact⟨.ref s.heap.objs.size,_,I.laid (t':=tk) (o:=.dK (c5 [] iz)) hk (Am _) (wI (by simp at this;omega) (beq_eq_false_iff_ne.mpr (B4 (AA I.big))) (aG4 hvs) hd),rfl,q _ (I.hok.fresh (Am _))⟩
end
def leK(a1 b1:Int)(c1:Str)(a2 b2:Int)(c2:Str):Bool:=if a1=a2 then(if b1=b2 then(if c1=c2 then true else !decide (c2.cps.toList < c1.cps.toList)) else decide (b1≤b2)) else decide (a1≤a2)
theorem aCE(l b:Ag)(n n2:Nat)(dd ae:Option Ag)(sl ad:Array (Option Ad))(a1 G:Int)(F:Str)(a2 J:Int)(q:Str)(Z t2 t3 M O Y:Tok):
  Meets (Builtin.«tuple.__le__» ⟨[.ref l,.ref b],[]⟩)
   (fun _ R s=>s.heap.get? l=some { cls:=.type "tuple",dict:=dd,data:=.seq #[.int a1 Z,.int G t2,.str F t3] n,slots:=sl }∧s.heap.get? b=some { cls:=.type "tuple",dict:=ae,data:=.seq #[.int a2 M,.int J O,.str q Y] n2,slots:=ad }∧
    R (.ok (.ret (.bool (leK a1 G F a2 J q)))) s):=
 .of_wp fun prog w A R s h=>by
  obtain⟨hp,g,d,tk,os⟩:=s;obtain⟨hl,hb,h⟩:=h;have f2:=AutoSeq1.sub_tuple_tuple
  wp_walk using Ft hl,Ft hb
  show wpAny (model prog w) A.in1 (eqBool (Bq a1 Z) (Bq a2 M)) _ _ _;obtain⟨e,he,hiff⟩:=HT.eqAt_int A.in1 ⟨hp,g,d,tk,os⟩ a1 Z a2 M;refine he prog w _ _ ?_;unfold leK at h;cases e with
  | false=>
   rw[Ia (fun z=>AB (hiff.mpr z))]at h;refine BZ (by decide) ?_;refine Aa (Ch ?_);refine Aa ?_;show wpAny _ _ (compareOp .LtE (Bq a1 Z) (Bq a2 M)) _ _ _;refine le_int ?_
   wp_walk
   exact⟨_,rfl,h⟩
  | true=>
   rw[Ib (hiff.mp rfl)]at h;refine AR (by decide) (Ae ?_)
   wp_walk
   show wpAny (model prog w) A.in1 (eqBool (Bq G t2) (Bq J O)) _ _ _;obtain⟨e,he,hiff⟩:=HT.eqAt_int A.in1 ⟨hp,g,d,tk,os⟩ G t2 J O;refine he prog w _ _ ?_;cases e with
   | false=>
    rw[Ia (fun z=>AB (hiff.mpr z))]at h;refine BZ (by decide) ?_;refine Aa (Ch ?_);refine Aa ?_;show wpAny _ _ (compareOp .LtE (Bq G t2) (Bq J O)) _ _ _;refine le_int ?_
    wp_walk
    exact⟨_,rfl,h⟩
   | true=>
    rw[Ib (hiff.mp rfl)]at h;refine AR (by decide) (Ae ?_)
    wp_walk
    show wpAny (model prog w) A.in1 (eqBool (BA F t3) (BA q Y)) _ _ _;refine Ff F t3 q Y prog w _ _ ?_;cases hc:(F == q)with
    | false=>
     rw[Ia (fun z=>by rw[z,beq_self_eq_true]at hc;cases hc)]at h;refine BZ (by decide) ?_;refine Aa (Ch ?_);refine Aa ?_;show wpAny _ _ (compareOp .LtE (BA F t3) (BA q Y)) _ _ _;refine PySem.P.le_str ?_
     wp_walk
     exact⟨_,rfl,h⟩
    | true=>
     rw[Ib (eq_of_beq hc)]at h;refine AR (by decide) (Ae ?_)
     wp_walk
     exact⟨_,rfl,h⟩
inductive tQ(x:V)(y:V)(H:Hp)(Q:VK):Prop
 | mk (p:_) (q:_) (a1:_) (b1:_) (c1:_) (a2:_) (b2:_) (c2:_) (q0:x=.ref p) (q1:y=.ref q) (q2:H p=some (.tup [.int a1,.int b1,.str c1])) (q3:H q=some (.tup [.int a2,.int b2,.str c2])) (q4:Q (.bl (leK a1 b1 c1 a2 b2 c2)) H):tQ x y H Q
def aD9:V→V→Hp→VK→Prop:=fun x y H Q=>tQ x y H Q
theorem aG5{X:Cx}(hu:X.A.units < cLine):OpR X (compareOp .LtE) aD9:=by
 intro iw s σ H x y v u Q I J G h;obtain⟨p,q,a1,b1,c1,a2,b2,c2,rfl,rfl,hp,hq,k⟩:=h;cases J;cases G;obtain⟨t1,t2,t3,hl⟩:=yK I hp;obtain⟨u1,u2,u3,hb⟩:=yK I hq;obtain⟨⟨cls,dd,data,sl⟩,ho,hc,n,hd⟩:=id hl;obtain⟨⟨cls2,dd2,data2,sl2⟩,ho2,hc2,n2,hd2⟩:=id hb;simp only at hc hd hc2 hd2;subst hc hd hc2 hd2;exact richCompare_meets_room (op:=.LtE) ⟨_,ho,rfl⟩ ⟨_,ho2,rfl⟩ PySem.F.slot_tuple_le PySem.F.entry_tuple_le (PySem.F.args_tuple_le_2 _ _) (aCE p q n n2 dd dd2 sl sl2 a1 b1 c1 a2 b2 c2 t1 t2 t3 u1 u2 u3)
  ⟨ho,ho2,⟨(fun x=>nomatch x),⟨.bl _,H,I,rfl,k⟩⟩⟩ hu
theorem aFB{X:Cx}{K:Ah}{o:Ba}{to:TE}{name:Str}{jk ji:Pos}{T id:String}{r:V→List V→Hp→VK→Prop}(M:PlainAttrs T)(slot:Slot T name id)(G:typeOf (.builtin id)=pure (.type "method_descriptor"))(hm:MtR X id r)(ho:PE X o to)(J:X.K=K:=by rfl)
  (F:attributeBase o name X.env (eval o X.env)=eval o X.env:=by rfl) (q:(jk.endLine == ji.line)=true:=by rfl):PE X (.Call (.Attribute o name jk) [] [] ji) (aHQ K T r to):=by
 subst J;exact aAD M slot G hm ho F q
open PySem.W in
section
variable{X:Cx}
def aCF(H:Hp)(r:Ag)(x:P3):Prop:=H r=some (.tup [.str x.1,.str x.2.1,.int x.2.2])
theorem aCG{out:List Ad}:∀{rs:List Ag},out.Perm (rs.map AF)→∃ q:List Ag,out=q.map AF∧q.Perm rs:=by
 intro rs h;generalize hm:rs.map AF=m at h
 induction h generalizing rs with
 | nil=>exact⟨[],rfl,by cases rs with | nil=>exact .refl _ | cons _ _=>simp at hm⟩
 | cons x _ J=>
  cases rs with
  | nil=>simp at hm
  | cons a r=>
   rw[Au]at hm;injection hm with h1 h2;obtain⟨r',e,p⟩:=J h2;exact⟨a :: r',by rw[e,← h1];rfl,p.cons a⟩
 | swap x y l=>
  cases rs with
  | nil=>simp at hm
  | cons a r=>
   cases r with
   | nil=>simp at hm
   | cons b r=>
    rw[Au,Au]at hm;injection hm with h1 h2;injection h2 with h2 h3;exact⟨b :: a :: r,by rw[← h1,← h2,← h3];rfl,.swap _ _ _⟩
 | trans _ _ F G=>
  obtain⟨r2,e2,p2⟩:=G hm;obtain⟨r1,e1,p1⟩:=F e2.symm;exact⟨r1,e1,p1.trans p2⟩
theorem y7{α β:Type}{R:α→β→Prop}{F as:List α}(h:F.Perm as):∀{bs:List β},Ce R as bs→∃ q,q.Perm bs∧Ce R F q:=by
 induction h with
 | nil=>intro bs p;exact⟨bs,.refl _,p⟩
 | cons x _ O=>
  intro bs p;cases p with
  | cons r t=>
   obtain⟨b',p1,p2⟩:=O t;exact⟨_ :: b',p1.cons _,.cons r p2⟩
 | swap x y l=>
  intro bs p;cases p with
  | cons r t=>
   cases t with
   | cons M t=>exact⟨_,.swap _ _ _,.cons M (.cons r t)⟩
 | trans _ _ J G=>
  intro bs p;obtain⟨b2,p2,q2⟩:=G p;obtain⟨b1,p1,q1⟩:=J q2;exact⟨b1,p1.trans p2,q1⟩
inductive jK(xs:List V)(H:Hp)(Q:VK):Prop
 | mk (p:Ag) (rs:List Ag) (T:List P3) (q0:xs=[.ref p]) (q1:H p=some (.lst (rs.map V.ref))) (q2:Ce (aCF H) rs T) (q3:T.length≤60) (q4:∀(l:Ag) (rs':List Ag) (R:List P3),H l=none→R.Perm T→Ce (aCF H) rs' R→Q (.ref l) (upd H l (.lst (rs'.map V.ref)))):jK xs H Q
def rJ:List V→Hp→VK→Prop:=fun xs H Q=>jK xs H Q
theorem uO:eY X (.builtin "sorted") rJ:=by
 intro iw s σ H xs us Q I r h;obtain⟨p,rs,T,rfl,hx,hP,h6,q⟩:=h;obtain⟨u,rfl,ru⟩:=fS r;cases ru;obtain⟨its,rv,pl,_⟩:=I.list (aU hx);have ai:=hP.length;have ah:=rv.length;rw[Ab]at ah;refine Ds FH Fl Fn (Ga _) ?_;unfold Builtin.«sorted»;apply Aa (m:=checkCount "sorted" 1 1 _);apply Ae;refine Aa (Hi pl.isList ?_ (aQ (by omega)));have hk:∀ b u,s.heap.get? b=some u→((s.heap.push (seqObj "list" #[] 0)).update s.heap.objs.size (A5 (· ++ its.toArray))).get? b=some u:=fun b u e=>by
  rw[BV _ _ _ _ (AA (Ar e))];exact Ai _ e
 have ab:s.heap.objs.size < ((s.heap.push (seqObj "list" #[] 0)).update s.heap.objs.size (A5 (· ++ its.toArray))).objs.size:=by
  rw[CG,B3];exact Cr _
 dsimp only;generalize (s.heap.push (seqObj "list" #[] 0)).update s.heap.objs.size (A5 (· ++ its.toArray))=h1 at hk ab ⊢
 have Y:its.length≤sizeLine:=aQ (by omega);apply Aa;refine DN ?_ Y;have J:(h1.push (seqObj "list" its.toArray 0)).get? h1.objs.size=some (seqObj "list" its.toArray 0):=At _ rfl;have ad:∀ b u,s.heap.get? b=some u→(h1.push (seqObj "list" its.toArray 0)).get? b=some u:=fun b u e=>Ai _ (hk b u e);have M:its=rs.map AF:=aBw rv;subst M;have ag:∀ v∈rs.map AF,∃ x,pK s.heap v x:=fun v hv=>by
  obtain⟨r,hr,rfl⟩:=AQ.mp hv;obtain⟨i,hi⟩:=Ct hr;obtain⟨hlt,_⟩:=Ax.mp hi;have hp:=Paired.at hP hi (Aj (by omega:i < T.length));exact⟨_,aDU.real I ⟨_,rfl,hp⟩ rfl⟩
 refine Aa (Bj (Bz slot_list_sort ⟨_,J,rfl⟩ entry_list_sort (yX J (fun v1 v2 b8 e s' Q' ks q'=>?_) Y fun out hp=>⟨_,rfl,?_⟩) (FJ _)))
 ·have G:∀ v∈rs.map AF,∃ x,pK s'.heap v x:=fun v hv=>by
   obtain⟨x,hx⟩:=ag v hv;exact⟨x,hx.keep fun b o eb _=>ks b o (AA (Ar (hk b o eb))) (ad b o eb)⟩
  refine aH4 G fun fb=>q' _ fun x y hx hy C hC=>?_;have O:∀ z∈(pairsOf (rs.map AF)).toList,z.1∈rs.map AF:=fun z hz=>by
   rw[pairsOf_toList]at hz;exact(DC hz).1
  obtain⟨x',hx'⟩:=G _ (O x hx);obtain⟨y',hy'⟩:=G _ (O y hy);exact ltP hx' hy' (hC _)
 ·refine Ae ⟨_,rfl,?_⟩;have F:s.heap.objs.size≤h1.objs.size:=Dv ab;obtain⟨rs',rfl,pr⟩:=aCG hp;obtain⟨R,p1,p2⟩:=y7 pr hP;obtain⟨e,he⟩:=Hc (vs:=rs.map AF) (out:=(rs'.map AF).toArray) J;refine⟨.ref h1.objs.size,_,I.laid (t':=s.toks) (o:=.lst (rs'.map V.ref)) (fun b u eb=>?_) F ⟨aQ (by rw[Ab,pr.length_eq];omega),rs'.map AF,e,vJ rs',by rw[he] <;> rfl⟩,rfl,q _ rs' R (I.hok.fresh F) p1 p2⟩;have Z:=Ar (hk b u eb);rw[GV (AA Z) (by rw[B3];exact By Z)];exact ad b u eb
theorem qF(hc:X.calm=true):eY X (.type "set") (fun xs H Q=>∃(p:Ag) (ss:List Str),xs=[.ref p]∧SqL X.K H p (ss.map V.str)∧ss.length≤1000∧∀ a,H a=none→Q (.ref a) (upd H a (tK X.prog X.w a ss))):=by
 intro iw s σ H xs O Q I r h;obtain⟨p,ss,rfl,hx,h1000,q⟩:=h;obtain⟨u,rfl,ru⟩:=fS r;cases ru;obtain⟨its,rv,pl,_⟩:=I.list hx;have hl:=rv.length;rw[Ab]at hl;refine yL (val:=fun i=>ss.getD i "") (I.ok.hd hc) pl.isList (fun i v hv=>aDT rv hv) (by rw[Aq,← hl];show _ < 4096;omega) fun h' tk J M=>?_;have G:its.toArray.size=ss.length:=by rw[Aq,hl]
 rw[G]at J;have F:∀ b u,s.heap.get? b=some u→h'.get? b=some u:=fun b u e=>M b u (Ar e) e;have hn:H s.heap.objs.size=none:=I.hok.fresh (Am _);refine⟨.ref s.heap.objs.size,_,I.laid (t':=tk) (o:=tK X.prog X.w s.heap.objs.size ss) F (Am _) ⟨J,?_,fun h1 h2 f g=>f.at g⟩,rfl,q _ hn⟩;obtain⟨o,_,_,_,e,_⟩:=J;exact⟨o,e⟩
theorem vO:eY X (.builtin "len") (fun xs H Q=>∃(p:Ag) (ss:List Str),xs=[.ref p]∧H p=some (tK X.prog X.w p ss)∧ss.length≤1000∧Q (.int ((iE (fun i=>ss.getD i "") ss.length).length:Nat)) H):=by
 intro iw s σ H xs J Q I r h;obtain⟨p,ss,rfl,hx,h1000,q⟩:=h;obtain⟨u,rfl,ru⟩:=fS r;cases ru;obtain⟨⟨o,es,ep,t,ho,hex,hd,_,_,_,hf,hn,_⟩,_,_⟩:cP X.prog X.w H s.heap p (tK X.prog X.w p ss):=I.hok p _ hx;have G:=lA (fun i=>ss.getD i "") ss.length;have F:es.size=(iE (fun i=>ss.getD i "") ss.length).length:=hn;exact call_len_set ho hex hd hf (by omega) ⟨.int _,H,I.tok _,⟨_,by rw[F]⟩,q⟩
end
end L2
namespace K13
open PySem L2
theorem nW{a b:Str}{X Y:Prop}(n:a≠b)(h:Y):if decide (V.str a=V.str b)=true then X else Y:=cT (fun g=>absurd (V.str.inj (Ie g)) n) fun _=>h
theorem yW{a:Str}{X Y:Prop}(h:X):if decide (V.str a=V.str a)=true then X else Y:=cT (fun _=>h) fun g=>absurd (Ic rfl) g
theorem zZ1{q:V}:[q].length≤sizeLine:=aQ (show 1≤1000000 by decide)
theorem zZ2{q a1:V}:[q,a1].length≤sizeLine:=aQ (show 2≤1000000 by decide)
theorem zZ3{q a1 a2:V}:[q,a1,a2].length≤sizeLine:=aQ (show 3≤1000000 by decide)
theorem zZ4{q a1 a2 a3:V}:[q,a1,a2,a3].length≤sizeLine:=aQ (show 4≤1000000 by decide)
theorem zZ5{q a1 a2 a3 a4:V}:[q,a1,a2,a3,a4].length≤sizeLine:=aQ (show 5≤1000000 by decide)
theorem zZ6{q a1 a2 a3 a4 a5:V}:[q,a1,a2,a3,a4,a5].length≤sizeLine:=aQ (show 6≤1000000 by decide)
theorem zZ8{q a1 a2 a3 a4 a5 a6 a7:V}:[q,a1,a2,a3,a4,a5,a6,a7].length≤sizeLine:=aQ (show 8≤1000000 by decide)
theorem zZ9{q a1 a2 a3 a4 a5 a6 a7 a8:V}:[q,a1,a2,a3,a4,a5,a6,a7,a8].length≤sizeLine:=aQ (show 9≤1000000 by decide)
theorem aIZ{F a1 a2 a3 a4 a5 a6 a7 a8 a9 a10 q:V}:[F,a1,a2,a3,a4,a5,a6,a7,a8,a9,a10,q].length≤sizeLine:=aQ (show 12≤1000000 by decide)
def Cl(P:AD)(w:AV)(K:Ah)(mg:Str→Option Ad)(base:Bi)(k:Nat)(n:Str)(ps:List Str)(sp:Sp):Prop:=∃ f fd,cY P w K mg base CX0 k f fd ps sp∧mg n=some (.ref f)∧AT K (.ref f)=true∧fX K fd ps []
theorem cG{X:Cx}{k:Nat}{ps:List Str}{sp:Sp}{x:Str}{p pos:Pos}{e:Ba}{es:List Ba}{t:TA}(c:Cl X.prog X.w X.K X.mg X.base k x ps sp)(O:dQ k X.A)(ha:PA X (e::es) t)(M:Gl X x:=by rfl)(q:(x==("__debug__":Str))=false:=by decide)(J:starEach (e::es) X.env=(false,eval e X.env)::starEach es X.env:=by rfl)(G:(backTo pos (starEach es X.env)).any (·.1)=false:=by rfl):PE X (.Call (.Name x p) (e::es) [] pos) (aGb sp [] E0 t):=by
 obtain⟨f,fd,F,hm,hk,hb⟩:=c;exact cS F O M hm hk hb .nil dX ha q J G
abbrev Mnd:=List (Key×V)
def nxt(m:Mnd)(h:Str):Option Str:=match bF m (Ac h)with
 | some (.str o)=>some o
 | _=>none
inductive Ends(m:Mnd):Str→List Str→Prop
 | stop {h:Str} (e:nxt m h=none):Ends m h [h]
 | on {h o:Str} {l:List Str} (e:nxt m h=some o) (r:Ends m o l):Ends m h (h :: l)
theorem Ends.uniq{m:Mnd}{h:Str}{l F:List Str}(a:Ends m h l)(b:Ends m h F):l=F:=by
 induction a generalizing F with
 | stop e=>
  cases b with
  | stop _=>rfl
  | on q _=>rw[e]at q;cases q
 | on e _ G=>
  cases b with
  | stop q=>rw[e]at q;cases q
  | on q J=>
   rw[e]at q;cases q;rw[G J]
theorem Ends.from{m:Mnd}{h x:Str}{l:List Str}(a:Ends m h l)(hx:x∈l):∃ p r,l=p ++ r∧Ends m x r:=by
 induction a with
 | @stop h e=>
  rw[AE.mp hx];exact⟨[],[h],rfl,.stop e⟩
 | @on h o l e r F=>
  rcases Ak.mp hx with rfl | hx
  ·exact⟨[],x :: l,rfl,.on e r⟩
  ·obtain⟨p,q,rfl,z⟩:=F hx;exact⟨h :: p,q,rfl,z⟩
theorem Ends.nodup{m:Mnd}{h:Str}{l:List Str}(a:Ends m h l):l.Nodup:=by
 induction a with
 | stop _=>exact AY.mpr ⟨by simp,DU⟩
 | @on h o l e r F=>
  refine AY.mpr ⟨fun hx=>?_,F⟩;obtain⟨p,q,rfl,z⟩:=r.from hx;have:=congrArg Cg (z.uniq (.on e r));simp at this;omega
theorem aEa:∀{l k:List Str},l.Nodup→(∀ x∈l,x∈k)→l.length≤k.length
 | [],k,_,_=>Bc _
 | a :: l,k,hn,hs=>by
  obtain⟨h1,h2⟩:=AY.mp hn;have ha:=hs a Al;have:=aEa (k:=k.erase a) h2 fun x hx=>(List.mem_erase_of_ne (fun e=>h1 (by rw[← e];exact hx))).mpr (hs x (An _ hx));rw[List.length_erase_of_mem ha]at this;have:0 < k.length:=E6 ha;rw[AI];omega
theorem Ends.keys{m:Mnd}{h:Str}{l:List Str}(a:Ends m h l):∃ r x,l=r ++ [x]∧∀ y∈r,y∈m.filterMap fun p=>match p.1 with | .inr z=>some z | _=>none:=by
 induction a with
 | @stop h e=>exact⟨[],h,rfl,fun y F=>by simp at F⟩
 | @on h o l e r G=>
  obtain⟨q,x,rfl,hq⟩:=G;refine⟨h :: q,x,rfl,fun y F=>?_⟩;rcases Ak.mp F with rfl | F
  ·unfold nxt at e;cases hv:bF m (Ac y)with
   | none=>rw[hv]at e;cases e
   | some v=>
    obtain⟨p,hp,e2⟩:=AQ.mp (aFn hv);exact FB.mpr ⟨p,hp,by rw[e2]⟩
  ·exact hq y F
theorem Ends.len{m:Mnd}{h:Str}{l:List Str}(a:Ends m h l):l.length≤m.length + 1:=by
 obtain⟨r,x,rfl,hr⟩:=a.keys;have h1:=aEa (Bw.mp a.nodup).1 hr;have h2:=List.length_filterMap_le (fun p:Key×V=>match p.1 with | .inr z=>some z | _=>none) m;simp;omega
theorem aBD(m:Mnd)(h o x:Str):nxt (bS m (Ac h) (.str o)) x=if x=h then some o else nxt m x:=by
 unfold nxt;rw[dJ];by_cases e:x=h
 ·subst e;rw[Ib rfl,Ib rfl]
 ·rw[Ia e,Ia fun z=>e (Ac.inj z)]
theorem g8(m:Mnd)(k j:Key):bF (bV m k) j=if j=k then none else bF m j:=by
 induction m with
 | nil=>split <;> rfl
 | cons p m F=>
  by_cases e:p.1=k
  ·rw[iU e,F];by_cases q:j=k
   ·rw[Ib q,Ib q]
   ·rw[Ia q,Ia q,cN fun z=>q (z.symm.trans e)]
  ·rw[iV e];by_cases q:p.1=j
   ·rw[c4 q,c4 q,Ia fun z=>e (q.trans z)]
   ·rw[cN q,cN q,F]
theorem y8(m:Mnd)(h x:Str):nxt (bV m (Ac h)) x=if x=h then none else nxt m x:=by
 unfold nxt;rw[g8];by_cases e:x=h
 ·subst e;rw[Ib rfl,Ib rfl]
 ·rw[Ia e,Ia fun z=>e (Ac.inj z)]
theorem Ends.keep{m F:Mnd}{h x:Str}{l:List Str}(a:Ends m x l)(hn:h ∉ l)(e:∀ y,y≠h→nxt F y=nxt m y):Ends F x l:=by
 induction a with
 | @stop y q=>exact .stop ((e y fun z=>hn (by rw[z];exact Al)).trans q)
 | @on y o l q r G=>exact .on ((e y fun z=>hn (by rw[z];exact Al)).trans q) (G fun z=>hn (An _ z))
theorem Ends.bend{m F:Mnd}{h x:Str}{l G:List Str}(a:Ends m x l)(O:Ends F h G)(e:∀ y,y≠h→nxt F y=nxt m y):∃ M,Ends F x M:=by
 induction a with
 | @stop y J=>
  by_cases z:y=h
  ·rw[z];exact⟨G,O⟩
  ·exact⟨_,.stop ((e y z).trans J)⟩
 | @on y o l J r q=>
  by_cases z:y=h
  ·rw[z];exact⟨G,O⟩
  ·obtain⟨M,q⟩:=q;exact⟨_,.on ((e y z).trans J) q⟩
structure iL(m:Mnd):Prop where
 tx:∀ p∈m,∃ o,p.2=.str o
 ends : ∀ h, ∃ l, Ends m h l
theorem iL.nil:iL []:=⟨fun p q=>by simp at q,fun h=>⟨[h],.stop rfl⟩⟩
theorem aEb{m:Mnd}{k:Key}{v:V}{p:Key×V}(F:p∈bS m k v):p∈m∨p.2=v:=by
 unfold bS at F;split at F
 ·obtain⟨q,hq,e⟩:=AQ.mp F;split at e
  ·exact .inr (by rw[← e])
  ·exact .inl (by rw[← e];exact hq)
 ·rcases AO.mp F with F | F
  ·exact .inl F
  ·exact .inr (by rw[AE.mp F])
theorem iL.put{m:Mnd}{h o:Str}{l:List Str}(a:iL m)(e:Ends m o l)(hn:h ∉ l):iL (bS m (Ac h) (.str o)):=by
 have q:∀ y,y≠h→nxt (bS m (Ac h) (.str o)) y=nxt m y:=fun y z=>by rw[aBD,Ia z]
 have G:Ends (bS m (Ac h) (.str o)) h (h :: l):=.on (by rw[aBD,Ib rfl]) (e.keep hn q);refine⟨fun p F=>?_,fun x=>?_⟩
 ·rcases aEb F with z | z
  ·exact a.tx p z
  ·exact⟨o,z⟩
 ·obtain⟨lx,hx⟩:=a.ends x;exact hx.bend G q
theorem iL.drop{m:Mnd}{h:Str}(a:iL m):iL (bV m (Ac h)):=by
 have F:∀ y,y≠h→nxt (bV m (Ac h)) y=nxt m y:=fun y z=>by rw[y8,Ia z]
 refine⟨fun p q=>a.tx p (vC q),fun x=>?_⟩;obtain⟨lx,hx⟩:=a.ends x;exact hx.bend (h:=h) (.stop (by rw[y8,Ib rfl])) F
open Classical in
noncomputable def rd(m:Mnd)(h:Str):List Str:=if e:∃ l,Ends m h l then e.choose else[h]
theorem iL.rd{m:Mnd}(a:iL m)(h:Str):Ends m h (rd m h):=by
 unfold K13.rd;rw[dif_pos (a.ends h)];exact(a.ends h).choose_spec
theorem iL.val{m:Mnd}(a:iL m)(h:Str):bF m (Ac h)=(nxt m h).map V.str:=by
 unfold nxt;cases e:bF m (Ac h)with
 | none=>rfl
 | some v=>
  have:∃ p∈m,p.2=v:=by
   unfold bF at e;obtain⟨p,hp,e2⟩:=AL.mp e;exact⟨p,List.mem_of_find?_eq_some hp,e2⟩
  obtain⟨p,hp,e2⟩:=this;obtain⟨o,e3⟩:=a.tx p hp;rw[e2]at e3;subst e3;rfl
noncomputable def lO(m:Mnd)(h o:Str):Mnd:=if h∈rd m o then m else bS m (Ac h) (.str o)
def i9(m:Mnd)(h:Str):Mnd:=if (bF m (Ac h)).isSome=true then bV m (Ac h) else m
theorem iL.mend{m:Mnd}(a:iL m)(h o:Str):iL (lO m h o):=by
 unfold lO;split
 ·exact a
 ·exact a.put (a.rd o) ‹_›
theorem iL.alone{m:Mnd}(a:iL m)(h:Str):iL (i9 m h):=by
 unfold i9;split
 ·exact a.drop
 ·exact a
theorem aCH(m:Mnd)(h o:Str):(lO m h o).length≤m.length + 1:=by
 unfold lO;split
 ·omega
 ·exact cD _ _ _
def top(i:Nat):Co:=PySem.Challenge.pw_dykelengths_k13_why_rows_are_idle.main.body.getD i (.Pass ⟨0,0,0,0⟩)
abbrev aFC:Co:=top 1
abbrev wS:Co:=top 2
abbrev aG6:Co:=top 3
abbrev qG:Co:=top 4
abbrev qH:Co:=top 5
abbrev jL:Co:=top 6
abbrev jM:Co:=top 7
abbrev g9:Co:=top 8
abbrev hG:Co:=top 9
abbrev nC:Co:=top 10
abbrev kC:Co:=top 11
abbrev nE:Co:=top 12
abbrev aAX:Co:=top 14
abbrev wT:Co:=top 16
abbrev aG7:Co:=top 18
abbrev aEc:Co:=top 19
abbrev oH:Co:=top 20
abbrev tR:Co:=top 21
abbrev wU:Co:=top 22
abbrev aAY:Co:=top 23
abbrev kG:Co:=top 24
abbrev kH:Co:=top 25
abbrev aEd:Co:=top 26
abbrev sDo:Co:=top 27
abbrev qI:Co:=top 28
abbrev vP:Co:=top 29
abbrev aBE:Co:=top 30
abbrev aEe:Co:=top 31
abbrev aEf:Co:=top 32
abbrev wV:Co:=top 33
abbrev y9:Co:=top 34
abbrev wW:Co:=top 35
def cH(z:Str):Bool:=decide (1≤z.length∧z.length≤8) && z.cps.toList.all fun c=>decide (97≤c∧c≤122)
def isL(c:Nat):Bool:=decide (97≤c∧c≤122)
def fP(i:Nat):Nat:=97 + i % 26
theorem tS(i:Nat):isL (fP i)=true:=by
 unfold isL fP;exact Ic (by omega)
abbrev abc:Str:=Bn "abcdefghijklmnopqrstuvwxyz"
theorem aEg:abc.cps.toList=F6 97 26:=by decide
theorem wX{i:Int}(q:0≤i)(h1:i < 26):atI abc.cps.toList i=some (fP i.toNat):=by
 obtain⟨j,rfl⟩:∃ j:Nat,i=j:=⟨i.toNat,by omega⟩
 unfold atI ixN;rw[aEg,Ib q,Ib (by simpa using h1)];simp only[A6,Option.bind_some];rw[List.getElem?_range' (by omega)];unfold fP;congr 1;omega
theorem aFD:abc.length=26:=by decide
def mk(l:List Nat):Str:=⟨l.toArray⟩
theorem aAZ{a b:List Nat}(h:mk a=mk b):a=b:=by
 have:=congrArg (fun z:Str=>z.cps.toList) h;simpa[mk]using this
theorem iM(l:List Nat):(mk l).length=l.length:=by
 show l.toArray.size=_;simp
theorem aEh(a b:List Nat):mk a ++ mk b=mk (a ++ b):=by
 show(⟨a.toArray ++ b.toArray⟩:Str)=_;simp[mk]
def aI0(t k:Nat):List Nat:=[fP (t + 7 * k),fP (t + k / 26)]
def bij:Nat→Nat→List Nat
 | 0,_=>[]
 | f + 1,n=>if n=0 then[] else bij f ((n - 1) / 2) ++ [n % 2]
def bin(t n:Nat):List Nat:=(bij 6 n).map fun d=>fP (t + 9 * d)
def word(one:Bool)(b:List Nat)(sp t k:Nat):List Nat:=if one then bin t (k + 1) else b.take sp ++ aI0 t k ++ b.drop sp
theorem aG8{α:Type}{f:Nat→α}{n m:Nat}(h:((AU n).map f).Nodup)(hm:m≤n):((AU m).map f).Nodup:=by
 obtain⟨d,rfl⟩:∃ d,n=m + d:=⟨n - m,by omega⟩
 rw[List.range_add,Aw]at h;exact(Bw.mp h).1
theorem tT{l:List Nat}(h1:1≤l.length)(q:l.length≤8)(ha:∀ c∈l,isL c=true):cH (mk l)=true:=by
 unfold cH;rw[iM,Ic ⟨h1,q⟩,EM];have e:(mk l).cps.toList=l:=by simp[mk]
 rw[e,A2];exact ha
theorem qJ{z:Str}(h:cH z=true):1≤z.length∧z.length≤8:=by
 unfold cH at h;rw[Bu]at h;exact Ie h.1
theorem hJ:∀ ns:List Str,(ns.map V.str).all i4=true
 | []=>rfl
 | _ :: r=>by simpa[i4]using hJ r
abbrev pM:Key:=Ac ("script":Str)
abbrev kAt:Key:=Ac ("at":Str)
abbrev jN:Key:=Ac ("left":Str)
def gG(c:Ag)(a l:Int):List (Key×V):=[(pM,.ref c),(kAt,.int a),(jN,.int l)]
theorem aG9:¬ (pM=kAt):=by decide
theorem aHa:¬ (pM=jN):=by decide
theorem aFE:¬ (kAt=jN):=by decide
theorem aI1:¬ (jN=kAt):=fun e=>aFE e.symm
theorem aFF(c:Ag)(a l:Int):bF (gG c a l) pM=some (.ref c):=by
 unfold gG;rw[c4 rfl]
theorem aHb(c:Ag)(a l:Int):bF (gG c a l) kAt=some (.int a):=by
 unfold gG;rw[cN aG9,c4 rfl]
theorem aEi(c:Ag)(a l:Int):bF (gG c a l) jN=some (.int l):=by
 unfold gG;rw[cN aHa,cN aFE,c4 rfl]
theorem aHc(c:Ag)(a l a':Int):bS (gG c a l) kAt (.int a')=gG c a' l:=by
 unfold bS gG;rw[Ib (by rw[BG];exact⟨(kAt,.int a),by simp,Ic rfl⟩)];simp only[Au,CS,Ia aG9,Ia aI1,Ib]
theorem aEj(c:Ag)(a l q:Int):bS (gG c a l) jN (.int q)=gG c a q:=by
 unfold bS gG;rw[Ib (by rw[BG];exact⟨(jN,.int l),by simp,Ic rfl⟩)];simp only[Au,CS,Ia aHa,Ia aFE,Ib]
theorem aHd{H:Hp}{p c:Ag}{a l:Int}(h:H p=some (.dK (gG c a l))):gR H p (.str "left") (some (.int l)):=by
 have:=gR.k (k:=jN) h;rw[aEi]at this;exact this
theorem aI2{H:Hp}{p c:Ag}{a l:Int}(h:H p=some (.dK (gG c a l))):gR H p (.str "at") (some (.int a)):=by
 have:=gR.k (k:=kAt) h;rw[aHb]at this;exact this
theorem aI3{H:Hp}{p c:Ag}{a l:Int}(h:H p=some (.dK (gG c a l))):gR H p (.str "script") (some (.ref c)):=by
 have:=gR.k (k:=pM) h;rw[aFF]at this;exact this
theorem aId{H:Hp}{p c:Ag}{a l:Int}(q:Int)(h:H p=some (.dK (gG c a l))):gP H p (.str "left") (.int q) (upd H p (.dK (gG c a q))):=by
 have:=gP.k (k:=jN) (v:=.int q) h (cU (by show 3≤1000;decide));rw[aEj]at this;exact this
theorem aI4{H:Hp}{p c:Ag}{a l:Int}(a':Int)(h:H p=some (.dK (gG c a l))):gP H p (.str "at") (.int a') (upd H p (.dK (gG c a' l))):=by
 have:=gP.k (k:=kAt) (v:=.int a') h (cU (by show 3≤1000;decide));rw[aHc]at this;exact this
structure dB(K:Ah)(H:Hp)(p c:Ag)(ns:List Int)(a:Int):Prop where
 ob:∃ l,0≤l∧H p=some (.dK (gG c a l))
 ce:SqL K H c (ns.map V.int)
 ge:0≤a
 sm:ns.length≤63
theorem dB.same{K:Ah}{H H':Hp}{p c:Ag}{ns:List Int}{a:Int}(x:dB K H p c ns a)(h:cA H H'):dB K H' p c ns a:=by
 obtain⟨⟨l,hl,e⟩,ce,ge,sm⟩:=x;exact⟨⟨l,hl,h _ _ e⟩,h.seq ce,ge,sm⟩
theorem aHe{K:Ah}{H H':Hp}{p c:Ag}{ys:List V}{iz:List (Key×V)}(h:SqL K H c ys)(e:H p=some (.dK iz))(k:bA p H H'):SqL K H' c ys:=by
 rcases h with(h | ⟨o',h⟩) | h
 ·exact .inl (.inl (k _ _ h (bT h e (fun z=>nomatch z))))
 ·exact .inl (.inr ⟨o',k _ _ h (bT h e (fun z=>nomatch z))⟩)
 ·exact .inr h
theorem dB.put{K:Ah}{H H':Hp}{p c:Ag}{ns:List Int}{a a' l:Int}(x:dB K H p c ns a)(k:bA p H H')(hl:0≤l)(ha:0≤a')(e:H' p=some (.dK (gG c a' l))):dB K H' p c ns a':=by
 obtain⟨⟨l0,hl0,e0⟩,ce,ge,sm⟩:=x;exact⟨⟨l,hl,e⟩,aHe ce e0 k,ha,sm⟩
theorem aIe{x j:Int}(q:0 < j)(h1:j≤2 ^ 63):-(2 ^ 64) < x % j∧x % j < 2 ^ 64:=by
 have G:=DF x (show j≠0 by omega);have F:=DI x q;omega
inductive aBF(K:Ah)(vs:List V)(H:Hp)(Q:VK)(u3_:XK):Prop
 | mk (c:Ag) (ns:List Int) (q0:vs=[.ref c]) (q1:SqL K H c (ns.map V.int)) (q2:ns.length≤63) (q3:∀ p H',dB K H' p c ns 0→cA H H'→H p=none→Q (.ref p) H'):aBF K vs H Q u3_
def aGk(K:Ah):Sp:=fun vs H Q u3_=>aBF K vs H Q u3_
inductive zC(K:Ah)(vs:List V)(H:Hp)(Q:VK)(u3_:XK):Prop
 | mk (p c:Ag) (ns:List Int) (a m:Int) (q0:vs=[.ref p,.int m]) (q1:dB K H p c ns a) (q2:a≤1000000) (q3:0 < m) (q4:m < 2 ^ 512) (q5:∀ r a' H',0≤r→r < m→a≤a'→a'≤a + 1→dB K H' p c ns a'→bA p H H'→Q (.int r) H'):zC K vs H Q u3_
def mJ(K:Ah):Sp:=fun vs H Q u3_=>zC K vs H Q u3_
variable{P:AD}{w:AV}{K:Ah}{mg:Str→Option Ad}{base:Bi}
theorem aIf:cC ["_law_script"] ["_law_script"] (aO aG7):=⟨rfl,rfl,rfl,by decide,rfl,by decide,by decide⟩
theorem aHf{f:Ag}{fd:A3}(F:Fun K "_law_pen" "_law_pen" aG7 f fd):cY P w K mg base CX0 1 f fd ["_law_script"] (aGk K):=by
 refine F.ok aIf (fun vs H Q E h=>?_) (fun O A outer s H vs Q E Z h=>?_)
 ·obtain⟨a,ns,rfl,_⟩:=h;rfl
 ·obtain⟨c,ns,rfl,hS,hn,k⟩:=h;refine⟨_,aM (bJ (wK (d7 aN (pv 0) (d7 aN aD (d7 aN aD wJ))) rfl rfl (by simp) (by decide))),?_⟩;intro p q;have sp:=aK (o:=.dK []) q;refine⟨_,rfl,aA,[(pM,.ref c),(kAt,.int 0),(jN,.int 0)],rfl,by show 3≤15;decide,?_⟩;have J:c5 [] [(pM,V.ref c),(kAt,.int 0),(jN,.int 0)]=gG c 0 0:=by
   have M:bS ([]:List (Key×V)) pM (.ref c)=[(pM,.ref c)]:=by rw[i5 _ sG];rfl
   have Y:bS [(pM,V.ref c)] kAt (.int 0)=[(pM,.ref c),(kAt,.int 0)]:=by rw[i5 _ (by rw[cN aG9,sG])];rfl
   have G:bS [(pM,V.ref c),(kAt,.int 0)] jN (.int 0)=[(pM,.ref c),(kAt,.int 0),(jN,.int 0)]:=by rw[i5 _ (by rw[cN aHa,cN aFE,sG])];rfl
   show bS (bS (bS [] pM (.ref c)) kAt (.int 0)) jN (.int 0)=_;rw[M,Y,G];rfl
  rw[J];have S:cA H (upd (upd H p (.dK [])) p (.dK (gG c 0 0))):=fun b o e=>by rw[aF (aJ e q),aF (aJ e q)];exact e
  exact k p _ ⟨⟨0,CV _,aA⟩,S.seq hS,CV _,hn⟩ S q
theorem aEk:cC ["_law_pen_here","_law_many","_law_script","_law_found","_law_at","_law_cell","_law_number"] ["_law_pen_here","_law_many"] (aO aEc):=⟨rfl,rfl,rfl,by decide,rfl,by decide,by decide⟩
theorem aFG{f:Ag}{fd:A3}(F:Fun K "_law_draw" "_law_draw" aEc f fd)(J:mg "len"=none)(M:mg "abs"=none)
  :cY P w K mg base CX0 1 f fd ["_law_pen_here","_law_many"] (mJ K):=by
 refine F.ok aEk (fun vs H Q E h=>?_) (fun ai A outer s H vs Q E hr h=>?_)
 ·obtain⟨p,c,ns,a,m,rfl,_⟩:=h;rfl
 ·obtain⟨p,c,ns,a,m,rfl,hp,ha,hm,hm2,k⟩:=h;have hu:=d8 hr;have nd:=aEk.nd;refine⟨_,(aB (aS (i:=2) nd rfl (Av rfl) (bG hu (pv 0) aN Ig))
   (aB (cB (aX aBe (bG hu (pv 0) aN Ig) aD (bH _)) (aB (aS (i:=3) nd rfl (Av rfl) (bC eU (bG hu (pv 0) aN Ig) (pv 1)))
    (aB (c8 hu (pv 0) aN (bC sO (bG hu (pv 0) aN Ig) (pv 1)) rfl)
    (aM (bJ (pv 3))))) bB)
   (aB (aS (i:=4) nd rfl (Av rfl) (bG hu (pv 0) aN Ig))
   (aB (c8 hu (pv 0) aN (bC cZ (pv 4) aD) rfl)
   (aB (aS (i:=5) nd rfl (Av rfl) (bC cZ (bC cZ (bC gE (bC gE aD (pv 4)) (pv 4)) (bC gE aD (pv 4))) aD))
   (aB (d6 <| cB (aX oU (pv 4) (aV bK (by rfl) J AW (aG (pv 2) aE)) (bH _)) (aB (aS (i:=5) nd rfl (Av rfl) (aR bZ (pv 2) (pv 4) Ig))
    (aM (cB (aX aGa (aV rV (by rfl) M (by kernel_rfl) (aG (pv 5) aE)) (bC nZ aD aD) (bH _)) (aB (c8 hu (pv 0) aN (bC sO (aV rV (by rfl) M (by kernel_rfl) (aG (pv 5) aE)) (pv 1)) rfl)
     (aM (bJ (bC eU (aV rV (by rfl) M (by kernel_rfl) (aG (pv 5) aE)) (pv 1))))) bB))) (aM (cB (aX aBe (aV bK (by rfl) J AW (aG (pv 2) aE)) aD (bH _)) (aM (aS (i:=5) nd rfl (Av rfl) (bC cZ (bC eU (aR bZ (pv 2) (bC eU (pv 4) (aV bK (by rfl) J AW (aG (pv 2) aE))) Ig) (bC nZ aD aD)) (bC gE aD (pv 4))))) bB)))
   (aB (aS (i:=6) nd rfl (Av rfl) (bC eU (bC gE (bC cZ (bC cZ (bC eU (pv 5) aD) (bC gE aD (pv 4))) aD) aD) aD))
   (aB (aS (i:=6) nd rfl (Av rfl) (bC eU (bC cZ (bC gE (pv 6) (bC cZ (bC eU (pv 6) aD) aD)) (bC gE aD (pv 4))) aD))
   (aM (bJ (bC eU (bC sO (bC eU (bC gE (pv 6) (bC cZ (bC eU (pv 6) aD) aD)) aD) aD) (pv 1)))))))))))),?_⟩
  obtain⟨⟨l,hl0,hob⟩,hce,hge,hsm⟩:=id hp;refine⟨_,rfl,p,_,rfl,aI3 hob,_,rfl,p,_,rfl,aHd hob,_,_,rfl,rfl,_,rfl,cT (fun h0=>?_) (fun h0=>?_)⟩
  ·exact⟨_,rfl,p,_,rfl,aHd hob,_,rfl,_,_,rfl,rfl,hm,_,rfl,p,_,rfl,aHd hob,_,rfl,_,_,rfl,rfl,vG.of hm hm2,_,rfl,p,_,rfl,aId _ hob,_,rfl,k (l % m) a _ (DF _ (by omega)) (DI _ hm) (CV _) (by omega) (hp.put (bA.refl p H).upd (DG hl0 (by omega)) hge aA) (bA.refl p H).upd⟩
  ·refine⟨_,rfl,p,_,rfl,aI2 hob,_,rfl,_,_,rfl,rfl,_,rfl,p,_,rfl,aI4 _ hob,_,rfl,_,_,rfl,rfl,.inl (by decide),_,rfl,_,_,rfl,rfl,.inr (by omega),_,rfl,_,_,rfl,rfl,.inl (by decide),_,_,rfl,rfl,_,_,rfl,rfl,?_⟩;have q:bA p H (upd H p (.dK (gG c (a + 1) l))):=(bA.refl p H).upd;have Y:dB K (upd H p (.dK (gG c (a + 1) l))) p c ns (a + 1):=hp.put q hl0 (by omega) aA;have ep:upd H p (.dK (gG c (a + 1) l)) p=some (.dK (gG c (a + 1) l)):=aA;generalize upd H p (.dK (gG c (a + 1) l))=H1 at q Y ep ⊢;have G:=Y.ce;refine⟨fun σ' H'=>∃ O:Int,σ'=[some (.ref p),some (.int m),some (.ref c),none,some (.int a),some (.int O),none]∧H'=H1,?_,?_⟩
   ·refine⟨_,rfl,_,rfl,c,_,rfl,.inl G,_,_,rfl,rfl,_,rfl,cT (fun h1=>?_) (fun h1=>?_)⟩
    ·have ab:a < ((ns.map V.int).length:Nat):=Ie h1;rw[Ab]at ab;obtain⟨O,hcv⟩:∃ O,ns[a.toNat]?=some O:=⟨_,Aj (by omega)⟩
     have Z:atI (ns.map V.int) a=some (.int O):=by
      have e:=f9 (xs:=ns.map V.int) (j:=a.toNat) (v:=.int O) (by rw[Ao,hcv];rfl);rw[En hge]at e;exact e
     refine⟨_,rfl,_,rfl,c,_,_,_,rfl,rfl,G,Z,_,rfl,_,rfl,_,_,rfl,rfl,⟨by decide,by decide,by decide⟩,_,_,rfl,rfl,_,rfl,cT (fun h2=>?_) (fun h2=>?_)⟩
     ·refine⟨_,rfl,_,rfl,_,rfl,_,_,rfl,rfl,vG.of hm hm2,_,rfl,p,_,rfl,aId _ ep,_,rfl,_,rfl,_,rfl,_,_,rfl,rfl,hm,?_⟩;have aa:0≤(if O < 0 then -O else O):=by split <;> omega
      exact k _ (a + 1) _ (DF _ (by omega)) (DI _ hm) (by omega) (CV _) (Y.put (bA.refl p H1).upd (DG aa (by omega)) (by omega) aA) q.upd
     ·exact⟨O,rfl,rfl⟩
    ·refine⟨_,rfl,c,_,rfl,.inl G,_,_,rfl,rfl,_,rfl,cT (fun h2=>?_) (fun h2=>⟨_,rfl,rfl⟩)⟩;have af:0 < ns.length:=by
      have:=Ie h2;rw[Ab]at this;omega
     have ad:(a % (ns.length:Int)).toNat < ns.length:=by
      have h1:=DI a (show(0:Int) < ns.length by omega);have h2:=DF a (show(ns.length:Int)≠0 by omega);omega
     have Z:atI (ns.map V.int) (a % ((ns.map V.int).length:Int))=some (.int (ns[(a % (ns.length:Int)).toNat])):=by
      rw[Ab];have h2:=DF a (show(ns.length:Int)≠0 by omega);have e:=f9 (xs:=ns.map V.int) (j:=(a % (ns.length:Int)).toNat) (v:=.int (ns[(a % (ns.length:Int)).toNat])) (by rw[Ao,Aj ad];rfl);rw[En h2]at e;exact e
     exact⟨_,rfl,_,rfl,_,rfl,c,_,rfl,.inl G,_,_,rfl,rfl,(by rw[Ab];omega),c,_,_,_,rfl,rfl,G,Z,_,_,rfl,rfl,⟨by decide,by decide,by decide⟩,_,_,rfl,rfl,(by show(0:Int) < 10 ^ Int.toNat 17;decide),_,rfl,_,_,rfl,rfl,.inl (by decide),_,_,rfl,rfl,_,rfl,rfl⟩
   ·rintro σ' H' ⟨O,rfl,rfl⟩;have c0:∀{j:Int},0 < j→(0:Int) < j:=fun h=>h;exact⟨_,rfl,_,_,rfl,rfl,(by show(0:Int) < _;decide),_,rfl,_,_,rfl,rfl,.inl (by decide),_,_,rfl,rfl,_,_,rfl,rfl,_,_,rfl,rfl,.inr (by decide),_,_,rfl,rfl,(by show(0:Int) < _;decide),_,rfl,_,rfl,_,_,rfl,rfl,(by show(0:Int) < _;decide),_,_,rfl,rfl,_,_,rfl,rfl,.inl (aIe (by decide) (by decide)),_,rfl,_,_,rfl,rfl,.inl (by decide),_,_,rfl,rfl,_,_,rfl,rfl,(by show(0:Int) < _;decide),_,rfl,_,rfl,_,_,rfl,rfl,(by show(0:Int) < _;decide),_,_,rfl,rfl,_,_,rfl,rfl,.inl (aIe (by decide) (by decide)),_,_,rfl,rfl,(by show(0:Int) < _;decide),_,_,rfl,rfl,vG.of (by decide) (by decide),_,rfl,_,_,rfl,rfl,hm,k _ (a + 1) _ (DF _ (by omega)) (DI _ hm) (by omega) (CV _) Y q⟩
structure Nms(ws:List Str):Prop where
 nd:ws.Nodup
 ok:∀ w∈ws,cH w=true
inductive vQ(K:Ah)(vs:List V)(H:Hp)(Q:VK)(u3_:XK):Prop
 | mk (p c:Ag) (ns:List Int) (a:Int) (m:Nat) (q0:vs=[.ref p,.int m]) (q1:dB K H p c ns a) (q2:a≤900000) (q3:m≤300) (q4:∀ l ws a' H',H l=none→H' l=some (.lst (ws.map V.str))→ws.length=m→Nms ws→a≤a'→a'≤a + 320→dB K H' p c ns a'→bA p H H'→Q (.ref l) H'):vQ K vs H Q u3_
def wY(K:Ah):Sp:=fun vs H Q u3_=>vQ K vs H Q u3_
theorem oI(l:List Nat):∀(m s:Nat),(F6 s m).filterMap (fun j=>l.toArray[j]?)=(l.drop s).take m
 | 0,s=>by simp
 | m + 1,s=>by
  rw[List.range'_succ,El];have q:=oI l m (s + 1);by_cases h:s < l.length
  ·have e:l.toArray[s]?=some l[s]:=by simp[h]
   rw[e];dsimp only;rw[q,EF h,List.take_succ_cons]
  ·have e:l.toArray[s]?=none:=by simp;omega
   rw[e];dsimp only;rw[q,DY (by omega),DY (by omega)];simp
theorem aFH:∀ n:Nat,n < 7→∀ s:Nat,s < 7→s≤n→Builtin.Str.strSliceIndices none (some (s:Int)) 1 n=F6 0 s:=by decide
theorem aCI:∀ n:Nat,n < 7→∀ s:Nat,s < 7→s≤n→Builtin.Str.strSliceIndices (some (s:Int)) none 1 n=F6 s (n - s):=by decide
theorem aGl{b:List Nat}{s:Nat}(q:b.length≤6)(hs:s≤b.length):Ev (mk b) none (some (s:Int))=mk (b.take s):=by
 unfold Ev;rw[iM,aFH _ (by omega) _ (by omega) hs];split
 ·next h=>
  simp at h;rw[h,AH]
 ·have e:=oI b s 0;rw[DX]at e;exact congrArg mk e
theorem aFI{b:List Nat}{s:Nat}(F:b.length≤6)(hs:s≤b.length):Ev (mk b) (some (s:Int)) none=mk (b.drop s):=by
 unfold Ev;rw[iM,aCI _ (by omega) _ (by omega) hs];split
 ·next h=>
  simp at h;have:s=0∨b.length=0:=by omega
  rcases this with rfl | q
  ·rfl
  ·rw[List.length_eq_zero_iff.mp q];simp
 ·have e:=oI b (b.length - s) s;rw[show(b.drop s).take (b.length - s)=b.drop s from Bk (by rw[B6];exact Am _)]at e;exact congrArg mk e
theorem aCJ(bs:List Nat):∀ q:Array Nat,(bs.map fun c=>mk [c]).foldl (fun(q:Array Nat) (p:Str)=>q ++ (Bn "").cps ++ p.cps) q=q ++ bs.toArray:=by
 have G:(Bn "").cps=#[]:=by decide
 induction bs with
 | nil=>intro q;simp
 | cons x r F=>
  intro q;rw[Au,BL,F,G];simp[mk]
theorem aFJ(bs:List Nat):Txt.join "" (bs.map fun c=>mk [c])=mk bs:=by
 show Builtin.Str.glued _ _=_;unfold Builtin.Str.glued;cases bs with
 | nil=>rfl
 | cons x r=>
  have:=aCJ r #[x];simp only[Au,List.headD_cons,List.drop_succ_cons,DX];show(⟨Go _ _ _⟩:Str)=_;rw[show(mk [x]).cps=#[x] from rfl];rw[this];simp[mk]
theorem wZ(x:Nat){j:Int}(F:j=(x:Int) % 26):atI abc.cps.toList j=some (fP x):=by
 have q:0≤j:=by omega
 have h1:j < 26:=by omega
 rw[wX q h1];unfold fP;congr 1;omega
def t12:List Str:=["part","join","forfeit","measure","mend","alone","breach","view","field","as","with","none"]
def w0(f k:Nat):Str:=t12.getD ((f + 7 * k) % 12) ""
def q0(k:Nat):Str:=mk [113,fP (k / 26),fP k]
def w1(f k:Nat):Str:=mk [fP (f + 5 * k)]
def w2(b:List Nat)(sp n t:Nat):Str:=mk (b.take sp ++ [fP (n / 26),fP n] ++ (b.drop sp).take t)
theorem aHg(f k:Nat):w0 f k=w0 (f % 12) k:=by
 unfold w0;congr 1;omega
theorem aIg:∀ g < 12,((AU 12).map (w0 g)).Nodup:=by decide
theorem aGm(f k:Nat):w0 f k∈t12:=by
 unfold w0;have h:(f + 7 * k) % 12 < t12.length:=by show _ < 12;omega
 rw[Dm,Aj h];exact BO h
theorem aEl:∀ z∈t12,cH z=true∧z.cps.toList.head?≠some 113:=by decide
theorem aGn(k:Nat):cH (q0 k)=true∧(q0 k).cps.toList.head?=some 113:=by
 refine⟨tT (by show 1≤3;decide) (by show 3≤8;decide) fun c hc=>?_,rfl⟩;simp only[Ak,Ap,or_false]at hc;rcases hc with rfl | rfl | rfl
 ·decide
 ·exact tS _
 ·exact tS _
theorem aHh{j k:Nat}(F:j < 676)(q:k < 676)(e:q0 j=q0 k):j=k:=by
 have:=aAZ e;injection this with _ this;injection this with h1 this;injection this with h2 _;unfold fP at h1 h2;omega
theorem vR{α:Type}{f:Nat→α}{n:Nat}(h:∀ i j,i < n→j < n→f i=f j→i=j):((AU n).map f).Nodup:=by
 unfold List.Nodup;rw[List.pairwise_map];exact(List.nodup_range (n:=n)).imp_of_mem fun{i j} hi hj ne e=>ne (h i j (Ck.mp hi) (Ck.mp hj) e)
theorem nm0{f m:Nat}(hm:m≤300):Nms ((AU (min m 12)).map (w0 f) ++ (AU (m - min m 12)).map q0):=by
 refine⟨Bw.mpr ⟨?_,vR fun i j hi F e=>aHh (by omega) (by omega) e,fun x hx y q e=>?_⟩,fun z hz=>?_⟩
 ·have h:=aG8 (aIg (f % 12) (by omega)) (show min m 12≤12 by omega);have e:(AU (min m 12)).map (w0 f)=(AU (min m 12)).map (w0 (f % 12)):=List.map_congr_left fun k _=>aHg f k;rw[e];exact h
 ·obtain⟨k,_,rfl⟩:=AQ.mp hx;obtain⟨j,_,rfl⟩:=AQ.mp q;have:=(aEl _ (aGm f k)).2;rw[e]at this;exact this (aGn j).2
 ·rcases AO.mp hz with hz | hz
  ·obtain⟨k,_,rfl⟩:=AQ.mp hz;exact(aEl _ (aGm f k)).1
  ·obtain⟨k,_,rfl⟩:=AQ.mp hz;exact(aGn k).1
theorem nm1{f m:Nat}(hm:m < 27):Nms ((AU m).map (w1 f)):=by
 refine⟨vR fun i j hi q e=>?_,fun z hz=>?_⟩
 ·have:=aAZ e;injection this with h1 _;unfold fP at h1;omega
 ·obtain⟨k,_,rfl⟩:=AQ.mp hz;refine tT (by show 1≤1;decide) (by show 1≤8;decide) fun c hc=>?_;rw[AE.mp hc];exact tS _
theorem aHi{b:List Nat}{sp n q t t':Nat}(hn:n < 676)(F:q < 676)(e:w2 b sp n t=w2 b sp q t'):n=q:=by
 have:=aAZ e;rw[AX,AX]at this;have h:=List.append_cancel_left this;injection h with h1 h;injection h with h2 _;unfold fP at h1 h2;omega
theorem aIh{b:List Nat}{sp n t:Nat}(q:b.length≤6)(ha:∀ c∈b,isL c=true):cH (w2 b sp n t)=true:=by
 refine tT (by simp;omega) (by simp;omega) fun c hc=>?_;rcases AO.mp hc with hc | hc
 ·rcases AO.mp hc with hc | hc
  ·exact ha c (B2 hc)
  ·simp only[Ak,Ap,or_false]at hc;rcases hc with rfl | rfl <;> exact tS _
 ·exact ha c (CQ (B2 hc))
theorem aFK{s f i k:Nat}(hs:s∈[1,5,27,85,181,335])(hi:i < 676)(q:k < 676)(e:(f + s * i) % 676=(f + s * k) % 676):i=k:=by
 have c:=(by decide:∀ s∈[1,5,27,85,181,335],Nat.Coprime 676 s) s hs;have g:∀{a b:Nat},b < 676→(f + s * a) % 676=(f + s * b) % 676→b≤a:=fun{a b} h e=>by
  have d:=Nat.dvd_of_mod_eq_zero (Nat.sub_mod_eq_zero_of_mod_eq e.symm);rw[Nat.add_sub_add_left,← Nat.mul_sub]at d;have:=Nat.eq_zero_of_dvd_of_lt (c.dvd_of_dvd_mul_left d) (by omega);omega
 exact Nat.le_antisymm (g hi e.symm) (g q e)
theorem aEm{K:Ah}{H:Hp}{p c a:Ag}{ns:List Int}{t:Int}{o:HO}(F:dB K H p c ns t)(e:H a=some o)(h:∀ q r,o≠.dK (q :: r)):a≠p:=by
 obtain⟨l,_,e2⟩:=F.ob;exact bT e e2 (h _ _)
theorem cW{K:Ah}{H H':Hp}{p c a:Ag}{ns:List Int}{t:Int}{xs:List V}(e:H a=some (.lst xs))(q:dB K H p c ns t)(k:bA p H H'):H' a=some (.lst xs):=k a _ e (aEm q e (fun _ _ z=>nomatch z))
theorem lC{K:Ah}{H H':Hp}{p c L:Ag}{ns:List Int}{t:Int}(q:dB K H' p c ns t)(k:bA p H H')(h:H' L=none):H L=none:=by
 cases e:H L with
 | none=>rfl
 | some x=>
  obtain⟨l,_,z⟩:=q.ob;rw[k L x e (aJ z h).symm]at h;cases h
theorem aFL{ws:List Str}(h:∀ w∈ws,w.length=1):(ws.map (·.length)).sum=ws.length:=by
 induction ws with
 | nil=>rfl
 | cons x r q=>
  rw[Au,B5,q fun w hw=>h w (An _ hw),h x Al,AI];omega
theorem dB.app{K:Ah}{H H':Hp}{p c L:Ag}{ns:List Int}{a a':Int}{xs ys:List V}(J:dB K H p c ns a)(x:dB K H' p c ns a')(k:bA p H H')(h:H L=none)(e:H' L=some (.lst xs)):
  dB K (upd H' L (.lst ys)) p c ns a'∧bA p H (upd H' L (.lst ys)):=by
 have G:bA p H (upd H' L (.lst ys)):=fun b o z n=>by
  by_cases F:b=L
  ·rw[F,h]at z;cases z
  ·rw[aF F];exact k b o z n
 obtain⟨l,hl,z⟩:=x.ob;exact⟨J.put G hl x.ge (by rw[aF (bT z e (fun q=>nomatch q))];exact z),G⟩
theorem aIi{s:Nat}(hs:s∈[1,5,27,85,181,335]):s≤335:=by
 simp only[Ak,Ap,or_false]at hs;omega
theorem aBG:cC ["_law_pen_here","_law_many","_law_letters","_law_terms","_law_way","_law_first","_law_found","_law_step","_law_base","_law_spot","_law_k","_law_number","_law_tail","_law_pair"] ["_law_pen_here","_law_many"] (aO oH):=⟨rfl,rfl,rfl,by decide,rfl,by decide,by decide⟩
theorem aEn{f fD:Ag}{fd bf:A3}(F:Fun K "_law_names" "_law_names" oH f fd)(Y:mg "len"=none)(J:mg "range"=none)(bb:mg "min"=none)
  (GD:cY P w K mg base CX0 1 fD bf ["_law_pen_here","_law_many"] (mJ K)) (mD:mg "_law_draw"=some (.ref fD)) (Z:AT K (.ref fD)=true) (bD:fX K bf ["_law_pen_here","_law_many"] [])
  :cY P w K mg base CX0 2 f fd ["_law_pen_here","_law_many"] (wY K):=by
 refine F.ok aBG (fun vs H Q E h=>?_) (fun dd A outer s H vs Q E hr h=>?_)
 ·obtain⟨p,c,ns,a,m,rfl,_⟩:=h;rfl
 ·obtain⟨p,c,ns,a,m,rfl,hp,ha,hm,k⟩:=h;have nd:=aBG.nd;refine⟨_,(aB (aS (i:=2) nd rfl (DK rfl) aN)
   (aB (aS (i:=3) nd rfl (DK rfl) (c7 (aG aN (aG aN (aG aN (aG aN (aG aN (aG aN (aG aN (aG aN (aG aN (aG aN (aG aN (aG aN aE))))))))))))))
   (aB (aS (i:=4) nd rfl (Av rfl) (cS GD hr rfl mD Z bD .nil dX (aG (pv 0) (aG aD aE))))
   (aB (aS (i:=5) nd rfl (DK rfl) (cS GD hr rfl mD Z bD .nil dX (aG (pv 0) (aG aD aE))))
   (aB (cB (aX c3 (pv 4) aD (bH _)) (aB (i7 (i:=6) (N:=["_law_k","_law_terms","_law_first"]) (src:=[none,some 3,some 5]) (osc:=aO oH) (oN:=["_law_pen_here","_law_many","_law_letters","_law_terms","_law_way","_law_first","_law_found","_law_step","_law_base","_law_spot","_law_k","_law_number","_law_tail","_law_pair"]) ⟨by rfl,by decide,by decide,by decide,rfl,by rfl⟩ nd rfl (fJ rfl J (aG (aV (m7 rfl) (by rfl) bb (by kernel_rfl) (aG (pv 1) (aG aD aE))) aE)) (fun cl s H fp iw C=>⟨aZ (i:=0) (show(["_law_k","_law_terms","_law_first"]:List Str).Nodup by decide) rfl (Av rfl),dN,aR (r:=aDk K) bZ (pv 1) (bC eU (bC cZ (pv 2) (bC gE aD (pv 0))) aD) Ig⟩))
    (aM (bJ (bC sC (pv 6) (dO (N:=["_law_k","_law_letters"]) (src:=[none,some 2]) (osc:=aO oH) (oN:=["_law_pen_here","_law_many","_law_letters","_law_terms","_law_way","_law_first","_law_found","_law_step","_law_base","_law_spot","_law_k","_law_number","_law_tail","_law_pair"]) ⟨by rfl,by decide,by decide,by decide,rfl,by rfl⟩ (fJ rfl J (aG (bC kU (pv 1) (aV bK (by rfl) Y AW (aG (pv 6) aE))) aE)) (fun cl s H fp iw C=>⟨aZ (i:=0) (show(["_law_k","_law_letters"]:List Str).Nodup by decide) rfl (Av rfl),dN,bC iY (bC iY aN (aR qA (pv 1) (bC m5 (pv 0) aD) Ig)) (aR qA (pv 1) (bC eU (pv 0) aD) Ig)⟩)))))) bB)
   (aB (d6 <| cB (PW.pt (iJ (aX c3 (pv 4) aD (bH _)) (gL (aX oU (pv 1) aD (bH _))))) (aM (bJ (dO (N:=["_law_k","_law_letters","_law_first"]) (src:=[none,some 2,some 5]) (osc:=aO oH) (oN:=["_law_pen_here","_law_many","_law_letters","_law_terms","_law_way","_law_first","_law_found","_law_step","_law_base","_law_spot","_law_k","_law_number","_law_tail","_law_pair"]) ⟨by rfl,by decide,by decide,by decide,rfl,by rfl⟩ (fJ rfl J (aG (pv 1) aE)) (fun cl s H fp iw C=>⟨aZ (i:=0) (show(["_law_k","_law_letters","_law_first"]:List Str).Nodup by decide) rfl (Av rfl),dN,aR qA (pv 1) (bC eU (bC cZ (pv 2) (bC gE aD (pv 0))) aD) Ig⟩)))) bB)
   (aB (aS (i:=7) nd rfl (Av rfl) (aR bZ (c7 (aG aD (aG aD (aG aD (aG aD (aG aD (aG aD aE))))))) (cS GD hr rfl mD Z bD .nil dX (aG (pv 0) (aG aD aE))) Ig))
   (aB (aS (i:=8) nd rfl (Av rfl) (jI PySem.F.plainAttrs_str PySem.F.slot_str_join PySem.F.type_str_join aFq aN (aG (dO (N:=["_law_k","_law_pen_here","_law_letters"]) (src:=[none,some 0,some 2]) (osc:=aO oH) (oN:=["_law_pen_here","_law_many","_law_letters","_law_terms","_law_way","_law_first","_law_found","_law_step","_law_base","_law_spot","_law_k","_law_number","_law_tail","_law_pair"]) ⟨by rfl,by decide,by decide,by decide,rfl,by rfl⟩ (fJ rfl J (aG (cS GD hr rfl mD Z bD .nil dX (aG (pv 0) (aG aD aE))) aE)) (fun cl s H fp iw C=>⟨aZ (i:=0) (show(["_law_k","_law_pen_here","_law_letters"]:List Str).Nodup by decide) rfl (Av rfl),dN,aR qA (pv 2) (cS GD hr rfl mD Z bD .nil dX (aG (pv 1) (aG aD aE))) Ig⟩)) aE)))
   (aB (aS (i:=9) nd rfl (Av rfl) (cS GD hr rfl mD Z bD .nil dX (aG (pv 0) (aG (bC cZ (aV oY (by rfl) Y AW (aG (pv 8) aE)) aD) aE))))
   (aB (aS (i:=6) nd rfl (Av rfl) (c7 aE))
   (aB (fT Be rfl (fJ rfl J (aG (pv 1) aE)) (g:=aY 10) (aZ (i:=10) nd rfl (Av rfl))
   (aB (aS (i:=11) nd rfl (Av rfl) (bC eU (bC cZ (pv 5) (bC gE (pv 7) (pv 10))) aD))
    (aB (aS (i:=12) nd rfl (Av rfl) (e8 aAH (pv 8) (gO (pv 9)) gN))
    (aB (d6 <| cB (aX c3 (pv 4) aD (bH _)) (aM (aS (i:=12) nd rfl (Av rfl) (e8 aAH (pv 12) gN (gO (cS GD hr rfl mD Z bD .nil dX (aG (pv 0) (aG (bC cZ (aV oY (by rfl) Y AW (aG (pv 12) aE)) aD) aE))))))) bB)
    (aB (aS (i:=13) nd rfl (Av rfl) (bC iY (aR qA (pv 2) (bC m5 (pv 11) aD) Ig) (aR qA (pv 2) (bC eU (pv 11) aD) Ig)))
    (aM (dC (jI A0 Bt Bs eO (pv 6) (aG (bC iY (bC iY (e8 aAH (pv 8) gN (gO (pv 9))) (pv 13)) (pv 12)) aE)))))))))
   (aM (bJ (pv 6)))))))))))))),?_⟩
  have zA:abc.length≤sizeLine:=aQ (by rw[aFD];decide);refine⟨aIZ,fun lt bw=>?_⟩;have st:=aK (o:=.lst (t12.map V.str)) bw;refine⟨_,rfl,p,c,ns,a,5,rfl,hp.same st,by omega,by decide,by decide,fun am a1 H1 de w5 db dh aC aq=>?_⟩;refine⟨_,rfl,p,c,ns,a1,676,rfl,aC,by omega,by decide,by decide,fun fi a2 H2 f0 b5 c0 dl M bd=>?_⟩;obtain⟨f,rfl⟩:∃ f:Nat,fi=f:=⟨fi.toNat,by omega⟩
  have k2:bA p H H2:=(st.but.trans aq).trans bd;have bM:H2 lt=some (.lst (t12.map V.str)):=cW (cW aA (hp.same st) aq) aC bd;clear aC aq st;refine⟨_,rfl,rfl,_,rfl,cT (fun g0=>?_) (fun g0=>?_)⟩
  ·refine⟨_,rfl,_,_,rfl,_,rfl,?_⟩;have a0:(if (12:Int) < (m:Int) then(12:Int) else(m:Int))=((min m 12:Nat):Int):=by
    split <;> omega
   rw[a0];refine⟨by omega,by omega,?_⟩;rw[A6];refine gU (n:=min m 12) (fun i ys G H'=>∃(o:Option V),G=[o,some (.ref lt),some (.int f)]∧H'=H2∧ys=((AU i).map (w0 f)).map V.str) ⟨none,rfl,rfl,rfl⟩ (aQ (by omega)) (fun i ys σ H p=>by obtain⟨_,_,_,e⟩:=p;rw[e];simp) ?_ ?_
   ·rintro i ys G H' hi ⟨o,rfl,rfl,rfl⟩;dsimp only[aY];refine fU ?_;have ai:atI (t12.map V.str) (((f:Int) + 7 * (0 + (i:Int))) % 12)=some (.str (w0 f i)):=by
     have h:(f + 7 * i) % 12 < t12.length:=by show _ < 12;omega
     have e:=f9 (xs:=t12.map V.str) (j:=(f + 7 * i) % 12) (v:=.str (w0 f i)) (by
      rw[Ao,Aj h];unfold w0;rw[Dm,Aj h];rfl)
     rw[show(((f:Int) + 7 * (0 + (i:Int))) % 12)=(((f + 7 * i) % 12:Nat):Int) by omega];exact e
    exact⟨_,rfl,_,rfl,_,rfl,_,_,rfl,rfl,.inl ⟨by decide,by decide⟩,_,_,rfl,rfl,_,_,rfl,rfl,(by show(0:Int) < 12;decide),lt,_,_,_,rfl,rfl,aU bM,ai,_,rfl,rfl,by rw[DB];simp⟩
   ·rintro ys G H' ⟨o,rfl,rfl,rfl⟩ D hD;have sD:=aK (o:=.lst (((AU (min m 12)).map (w0 f)).map V.str)) hD;have eD:upd H' D (.lst (((AU (min m 12)).map (w0 f)).map V.str)) D=some (.lst (((AU (min m 12)).map (w0 f)).map V.str)):=aA;have an:=M.same sD;have Z:=k2.same sD;generalize upd H' D (.lst (((AU (min m 12)).map (w0 f)).map V.str))=H3 at eD an Z ⊢;refine⟨_,rfl,_,rfl,_,rfl,D,_,rfl,.inl (aU eD),_,_,rfl,rfl,_,rfl,?_⟩;rw[show((m:Int) - ((((AU (min m 12)).map (w0 f)).map V.str).length:Nat))=((m - min m 12:Nat):Int) by simp;omega];refine⟨by omega,by omega,?_⟩;rw[A6];refine gU (n:=m - min m 12) (fun i ys G H'=>∃(o:Option V),G=[o,some (.str abc)]∧H'=H3∧ys=((AU i).map q0).map V.str) ⟨none,rfl,rfl,rfl⟩ (aQ (by omega)) (fun i ys σ H p=>by obtain⟨_,_,_,e⟩:=p;rw[e];simp) ?_ ?_
    ·rintro i ys G H' hi ⟨o,rfl,rfl,rfl⟩;dsimp only[aY];refine fU ?_;refine⟨_,rfl,_,rfl,_,_,rfl,rfl,⟨by decide,by decide⟩,_,_,fP (i / 26),rfl,rfl,zA,?_,_,_,rfl,rfl,aQ (by show 1 + 1≤1000000;decide),_,rfl,_,rfl,_,_,rfl,rfl,(by show(0:Int) < 26;decide),_,_,fP i,rfl,rfl,zA,?_,_,_,rfl,rfl,aQ (by show 2 + 1≤1000000;decide),?_⟩
     ·rw[wX (by omega) (by omega)];unfold fP;congr 1;omega
     ·exact wZ _ (by omega)
     ·exact⟨_,rfl,rfl,by rw[DB];simp;rfl⟩
    ·rintro ys G H' ⟨o,rfl,rfl,rfl⟩ E2 bz;have sE:=aK (o:=.lst (((AU (m - min m 12)).map q0).map V.str)) bz;refine⟨D,E2,_,_,rfl,rfl,sE _ _ eD,aA,aQ (by simp;omega),fun L hL=>?_⟩;have sL:=aK (o:=.lst (((AU (min m 12)).map (w0 f)).map V.str ++ ((AU (m - min m 12)).map q0).map V.str)) hL;refine k L _ a2 _ ?_ (by rw[aA,← Aw]) (by simp;omega) (nm0 hm) (by omega) (by omega) ((an.same sE).same sL) ((Z.same sE).same sL);exact lC (an.same sE) (Z.same sE) hL
  ·refine⟨fun G H'=>G=[some (.ref p),some (.int m),some (.str abc),some (.ref lt),some (.int am),some (.int f),none,none,none,none,none,none,none,none]∧H'=H2,?_,?_⟩
   ·refine⟨_,rfl,rfl,_,rfl,cT (fun g1=>?_) (fun g1=>dU ⟨rfl,rfl⟩)⟩;refine⟨_,rfl,_,_,rfl,rfl,_,rfl,cT (fun g2=>?_) (fun g2=>⟨rfl,rfl⟩)⟩;have bi:m < 27:=by have:=Ie g2;omega
    refine⟨_,rfl,_,rfl,by omega,by omega,?_⟩;rw[A6];refine gU (n:=m) (fun i ys G H'=>∃(o:Option V),G=[o,some (.str abc),some (.int f)]∧H'=H2∧ys=((AU i).map (w1 f)).map V.str) ⟨none,rfl,rfl,rfl⟩ (aQ (by omega)) (fun i ys σ H p=>by obtain⟨_,_,_,e⟩:=p;rw[e];simp) ?_ ?_
    ·rintro i ys G H' hi ⟨o,rfl,rfl,rfl⟩;dsimp only[aY];refine fU ?_;exact⟨_,rfl,_,rfl,_,rfl,_,_,rfl,rfl,.inl ⟨by decide,by decide⟩,_,_,rfl,rfl,_,_,rfl,rfl,(by show(0:Int) < 26;decide),_,_,fP (f + 5 * i),rfl,rfl,zA,wZ _ (by omega),_,rfl,rfl,by rw[DB];simp;rfl⟩
    ·rintro ys G H' ⟨o,rfl,rfl,rfl⟩ L hL;have sL:=aK (o:=.lst (((AU m).map (w1 f)).map V.str)) hL;exact k L _ a2 _ (lC M k2 hL) aA (by simp) (nm1 bi) (by omega) (by omega) (M.same sL) (k2.same sL)
   ·rintro G H' ⟨rfl,rfl⟩;refine⟨zZ6,fun q hq=>?_⟩;have sq:=aK (o:=.lst [V.int 1,.int 5,.int 27,.int 85,.int 181,.int 335]) hq;refine⟨_,rfl,p,c,ns,a2,6,rfl,M.same sq,by omega,by decide,by decide,fun r3 a3 H3 bE c9 cj ck bN bh=>?_⟩;obtain⟨v,hv,ai⟩:=aGU (xs:=[V.int 1,.int 5,.int 27,.int 85,.int 181,.int 335]) (i:=r3) bE (by show r3 < 6;omega);obtain⟨sp,rfl,hsp⟩:∃ s:Nat,v=.int s∧s∈[1,5,27,85,181,335]:=by
     simp only[Ak,Ap,or_false]at hv;rcases hv with rfl | rfl | rfl | rfl | rfl | rfl
     ·exact⟨1,rfl,by simp⟩
     ·exact⟨5,rfl,by simp⟩
     ·exact⟨27,rfl,by simp⟩
     ·exact⟨85,rfl,by simp⟩
     ·exact⟨181,rfl,by simp⟩
     ·exact⟨335,rfl,by simp⟩
    have k3:=(k2.same sq).trans bh;refine⟨q,_,r3,_,rfl,rfl,aU (cW aA (M.same sq) bh),ai,rfl,_,rfl,p,c,ns,a3,7,rfl,bN,by omega,by decide,by decide,fun n4 a4 H4 c2 cb cy dk br bP=>?_⟩;refine⟨n4,rfl,by omega,by omega,?_⟩;have k4:=k3.trans bP;refine gU (fun i ys G H'=>∃(a':Int) (bs:List Nat) (o:Option V),G=[o,some (.ref p),some (.str abc)]∧dB K H' p c ns a'∧bA p H H'∧a4≤a'∧a'≤a4 + i∧ys=(bs.map fun c=>mk [c]).map V.str∧bs.length=i∧(∀ c∈bs,isL c=true))
     ⟨a4,[],none,rfl,br,k4,by omega,by omega,rfl,rfl,fun w hw=>by simp at hw⟩ (aQ (by omega)) (fun i ys σ H p=>by obtain⟨_,bs,_,_,_,_,_,_,rfl,e,_⟩:=p;rw[Ab,Ab,e];exact Am _) ?_ ?_
    ·rintro i' ys G H5 cc ⟨a',bs,o,rfl,aj,ay,cI,c1,rfl,hl,hb⟩;dsimp only[aY];refine fU ?_;refine⟨_,rfl,_,rfl,p,c,ns,a',_,rfl,aj,by omega,by decide,by decide,fun r6 a6 H6 bI bx l6 u6 ae ad=>?_⟩;refine⟨_,r6,fP r6.toNat,rfl,rfl,zA,wX bI bx,a6,bs ++ [fP r6.toNat],_,rfl,ae,ay.trans ad,by omega,by omega,by rw[Aw,Aw];rfl,by rw[Ay,hl];rfl,fun c hc=>?_⟩;rcases AO.mp hc with z | z
     ·exact hb c z
     ·rw[AE.mp z];exact tS _
    ·rintro ys G H5 ⟨a5,b,o,rfl,aj,ay,l5,u5,rfl,cx,hb⟩ D hD;have al:b.length≤6:=by omega
     have e0:(Bn "").length=0:=by decide
     refine⟨_,D,b.map (fun c=>mk [c]),rfl,rfl,aU aA,by
      rw[aFL (fun w hw=>by obtain⟨x,_,rfl⟩:=AQ.mp hw;rfl),Ab,e0];omega,?_⟩
     rw[aFJ];have ae:=aj.same (aK (o:=.lst ((b.map fun c=>mk [c]).map V.str)) hD);have ad:bA p H _:=ay.same (aK (o:=.lst ((b.map fun c=>mk [c]).map V.str)) hD);generalize upd H5 D (.lst ((b.map fun c=>mk [c]).map V.str))=H6 at ae ad ⊢;refine⟨_,rfl,_,rfl,mk b,rfl,aQ (by rw[iM];omega),_,_,rfl,rfl,p,c,ns,a5,_,rfl,ae,by omega,by omega,by rw[iM];omega,fun ss a7 H7 s0 s1 l7 u7 bc bq=>?_⟩;rw[iM]at s1;obtain⟨st,rfl⟩:∃ st:Nat,ss=st:=⟨ss.toNat,by omega⟩
     refine⟨Bc _,fun L hL=>?_⟩;have aT:=ad.trans bq;have ba:=lC bc aT hL;have sL:=aK (o:=.lst []) hL;have di:=aIi hsp;refine⟨_,rfl,m,rfl,by omega,by omega,p6 (n:=(m:Int).toNat) (fun i σ H'=>Ex3 fun(az aw ar:Option V)=>Ex3 fun(ab:Option V) (a':Int) (ws:List Str)=>Aw6 (σ=[some (.ref p),some (.int m),some (.str abc),some (.ref lt),some (.int am),some (.int f),some (.ref L),some (.int sp),some (.str (mk b)),some (.int st),az,aw,ar,ab]) (dB K H' p c ns a') (bA p H H') (a7≤a') (a'≤a7 + i) (Aw3 (H' L=some (.lst (ws.map V.str))) (ws.length=i) (Nms ws∧∀ z∈ws,∃ k t,k < i∧z=w2 b st ((f + sp * k) % 676) t)))
      ⟨_,_,_,_,a7,[],rfl,bc.same sL,aT.same sL,by omega,by omega,aA,rfl,⟨DU,fun z hz=>by simp at hz⟩,fun z hz=>by simp at hz⟩ ?_ ?_⟩
     ·rintro i σ H8 hi ⟨az,aw,ar,ab,a8,ws,rfl,O,k8,l8,u8,eL,aL,hN,hW⟩;dsimp only[aY];have zB:(mk b).length≤sizeLine:=aQ (by rw[iM];omega);refine⟨_,rfl,_,rfl,_,rfl,_,_,rfl,rfl,.inl ⟨by omega,by omega⟩,_,_,rfl,rfl,_,_,rfl,rfl,(by show(0:Int) < 676;decide),?_⟩;dsimp only[aY];rw[show(((f:Int) + (sp:Int) * (0 + (i:Int))) % 676)=(((f + sp * i) % 676:Nat):Int) by rw[Et,← Int.natCast_mul,← Gi];rfl];have hn:(f + sp * i) % 676 < 676:=Gs _ (by decide);have ag:∀ k,k < i→(f + sp * k) % 676≠(f + sp * i) % 676:=fun k hk e=>by
       have:=aFK hsp (by omega) (by omega) e;omega
      generalize bv:(f + sp * i) % 676=n at hn ag ⊢;refine⟨_,rfl,_,rfl,_,rfl,mk b,rfl,zB,?_⟩;rw[aFI al (by omega)];refine⟨fun G H'=>∃(t:Nat) (a':Int),G=[some (.ref p),some (.int m),some (.str abc),some (.ref lt),some (.int am),some (.int f),some (.ref L),some (.int sp),some (.str (mk b)),some (.int st),some (.int (0 + i)),some (.int n),some (.str (mk ((b.drop st).take t))),ab]∧dB K H' p c ns a'∧bA p H H'∧a8≤a'∧a'≤a8 + 1∧H' L=some (.lst (ws.map V.str)),?_,?_⟩
      ·refine⟨_,rfl,rfl,_,rfl,cT (fun g=>?_) (fun g=>?_)⟩
       ·have zT:(mk (b.drop st)).length≤sizeLine:=aQ (by rw[iM,B6];omega);refine⟨_,rfl,_,rfl,_,rfl,mk (b.drop st),rfl,zT,_,_,rfl,rfl,p,c,ns,a8,_,rfl,O,by omega,by omega,by rw[iM,B6];omega,fun r a9 H9 r0 r1 l9 u9 ak k9=>?_⟩;rw[iM]at r1;obtain⟨t,rfl⟩:∃ t:Nat,r=t:=⟨r.toNat,by omega⟩
        refine⟨_,rfl,_,rfl,zT,?_⟩;rw[aGl (by rw[B6];omega) (by omega)];exact⟨t,a9,rfl,ak,k8.trans k9,by omega,by omega,cW eL O k9⟩
       ·exact⟨b.length,a8,by rw[Bk (by rw[B6];omega)];rfl,O,k8,by omega,by omega,eL⟩
      ·rintro G H9 ⟨t,a9,rfl,ak,k9,l9,u9,ax⟩;refine⟨_,rfl,_,rfl,_,_,rfl,rfl,⟨by decide,by decide⟩,_,_,fP (n / 26),rfl,rfl,zA,?_,_,rfl,_,rfl,_,_,rfl,rfl,(by show(0:Int) < 26;decide),_,_,fP n,rfl,rfl,zA,?_,_,_,rfl,rfl,aQ (by show 1 + 1≤1000000;decide),?_⟩
       ·rw[wX (by omega) (by omega)];unfold fP;congr 1
       ·exact wZ _ (by omega)
       have bg:∀{x y},(Ev (mk b) x y).length≤6:=fun{x y}=>AG (Fc _ x y) (by rw[iM];omega);have h2:((⟨#[fP (n / 26)]⟩:Str) ++ ⟨#[fP n]⟩).length=2:=rfl;have h3:(mk ((b.drop st).take t)).length≤6:=by rw[iM,AM,B6];omega
       refine⟨_,rfl,.inl ⟨rfl,_,aU ax⟩,_,rfl,_,rfl,_,rfl,mk b,rfl,zB,_,rfl,_,_,rfl,rfl,aQ (by have:=bg (x:=none) (y:=some (st:Int));omega),_,rfl,_,_,rfl,rfl,aQ (by have:=bg (x:=none) (y:=some (st:Int));rw[D6];omega),L,_,_,rfl,rfl,ax,by rw[Ab];exact cU (by omega),?_⟩;have ew:(Ev (mk b) none (some (st:Int)) ++ ((⟨#[fP (n / 26)]⟩:Str) ++ ⟨#[fP n]⟩)) ++ mk ((b.drop st).take t)=w2 b st n t:=by
        rw[aGl al (by omega)];rw[show((⟨#[fP (n / 26)]⟩:Str) ++ ⟨#[fP n]⟩)=mk [fP (n / 26),fP n] from rfl,aEh,aEh];rfl
       rw[ew];obtain⟨hpA,kA⟩:=dB.app (ys:=ws.map V.str ++ [V.str (w2 b st n t)]) hp ak k9 ba ax;refine⟨_,_,_,_,a9,ws ++ [w2 b st n t],rfl,hpA,kA,by omega,by omega,by rw[aA,Aw];rfl,by rw[Ay,aL];rfl,⟨Bw.mpr ⟨hN.nd,(by simp),fun x hx y hy e=>?_⟩,fun z hz=>?_⟩,fun z hz=>?_⟩
       ·rw[AE.mp hy]at e;obtain⟨k',t',hk',rfl⟩:=hW x hx;exact ag k' hk' (aHi (Gs _ (by decide)) hn e)
       ·rcases AO.mp hz with hz | hz
        ·exact hN.ok z hz
        ·rw[AE.mp hz];exact aIh al hb
       ·rcases AO.mp hz with hz | hz
        ·obtain⟨k',t',hk',e⟩:=hW z hz;exact⟨k',t',by omega,e⟩
        ·exact⟨i,t,by omega,by rw[bv];exact AE.mp hz⟩
     ·rintro σ H8 ⟨az,aw,ar,ab,a8,ws,rfl,O,k8,l8,u8,eL,aL,hN,hW⟩;exact⟨_,rfl,k L ws a8 H8 ba eL (by omega) hN (by omega) (by omega) O k8⟩
abbrev Pc:=Str×Int×Int
def pcT(p:Pc):HO:=.tup [.str p.1,.int p.2.1,.int p.2.2]
def eB(H:Hp)(xs:List V)(ps:List Pc):Prop:=Ce (fun(x:V) (p:Pc)=>∃ q,x=.ref q∧H q=some (pcT p)) xs ps
def fQ(H H':Hp):Prop:=∀ q xs,H q=some (.tup xs)→H' q=some (.tup xs)
theorem bU{H H':Hp}(s:cA H H'):fQ H H':=fun q xs e=>s _ _ e
theorem eB.on{H H':Hp}{xs:List V}{ps:List Pc}(h:eB H xs ps)(t:fQ H H'):eB H' xs ps:=Paired.mapP h fun x p ⟨q,e,F⟩=>⟨q,e,t _ _ F⟩
theorem eB.same{H H':Hp}{xs:List V}{ps:List Pc}(h:eB H xs ps)(s:cA H H'):eB H' xs ps:=h.on fun q xs e=>s _ _ e
theorem Paired.snoc{α β:Type}{R:α→β→Prop}{a:α}{b:β}(r:R a b):∀{as:List α}{bs:List β},Ce R as bs→Ce R (as ++ [a]) (bs ++ [b])
 | _,_,.nil=>.cons r .nil
 | _,_,.cons q t=>.cons q (Paired.snoc r t)
theorem Paired.app{α β:Type}{R:α→β→Prop}:∀{as F:List α}{bs G:List β},Ce R as bs→Ce R F G→Ce R (as ++ F) (bs ++ G)
 | _,_,_,_,.nil,s=>s
 | _,_,_,_,.cons q t,s=>.cons q (Paired.app t s)
theorem eB.at{H:Hp}{xs:List V}{ps:List Pc}(h:eB H xs ps){i:Nat}{x:V}(e:xs[i]?=some x):∃ p q,ps[i]?=some p∧x=.ref q∧H q=some (pcT p):=by
 have hl:=BB h;obtain⟨hi,_⟩:=Ax.mp e;obtain⟨q,e1,e2⟩:=Paired.at h e (Aj (show i < ps.length by omega));exact⟨_,q,Aj (by omega),e1,e2⟩
def dA(p:Pc):Int:=p.2.2 - p.2.1
def acr(ps:List Pc):Int:=(ps.map dA).sum
theorem pN(p:Pc)(ps:List Pc):acr (p :: ps)=dA p + acr ps:=by simp[acr]
theorem jO(ps q:List Pc):acr (ps ++ q)=acr ps + acr q:=by simp[acr]
structure f6(ws:List Str)(ps:List Pc):Prop where
 ok:∀ p∈ps,p.1∈ws∧p.2.1 < p.2.2
theorem f6.app{ws:List Str}{ps q:List Pc}(a:f6 ws ps)(b:f6 ws q):f6 ws (ps ++ q):=⟨fun p F=>(AO.mp F).elim (a.ok p) (b.ok p)⟩
theorem f6.len{ws:List Str}:∀{ps:List Pc},f6 ws ps→(ps.length:Int)≤acr ps
 | [],_=>by simp[acr]
 | p :: ps,h=>by
  have h1:=f6.len (ps:=ps) ⟨fun q F=>h.ok q (An _ F)⟩;have h2:=(h.ok p Al).2;rw[pN,AI];unfold dA;omega
def pO(f:Str)(s e:Int):List Pc:=if s < e then[(f,s,e)] else[]
def iN(p:Pc)(lo hi:Int):List Pc:=pO p.1 (if p.2.1 + lo > p.2.1 then p.2.1 + lo else p.2.1) (if p.2.1 + hi < p.2.2 then p.2.1 + hi else p.2.2)
def mK:List Pc→Int→Int→List Pc
 | [],_,_=>[]
 | p :: r,lo,hi=>iN p lo hi ++ mK r (lo - dA p) (hi - dA p)
theorem vS(p:Pc):∀(ps:List Pc) (lo hi:Int),mK (ps ++ [p]) lo hi=mK ps lo hi ++ iN p (lo - acr ps) (hi - acr ps)
 | [],lo,hi=>by simp[mK,acr]
 | q :: ps,lo,hi=>by
  show iN q lo hi ++ mK (ps ++ [p]) (lo - dA q) (hi - dA q)=(iN q lo hi ++ mK ps (lo - dA q) (hi - dA q)) ++ _;rw[vS p ps,AX,pN,Int.sub_sub,Int.sub_sub]
def bef:List Pc→Int→Int
 | [],_=>0
 | p :: r,x=>(if x≤0 then 0 else if x≤dA p then x else dA p) + bef r (x - dA p)
theorem aBH{ws:List Str}:∀{ps:List Pc}{lo hi:Int},f6 ws ps→lo≤hi→acr (mK ps lo hi)=bef ps hi - bef ps lo
 | [],lo,hi,_,_=>by simp[mK,acr,bef]
 | p :: r,lo,hi,h,hl=>by
  have F:=aBH (ps:=r) (lo:=lo - dA p) (hi:=hi - dA p) ⟨fun q G=>h.ok q (An _ G)⟩ (by omega);have h2:=(h.ok p Al).2;show acr (iN p lo hi ++ mK r (lo - dA p) (hi - dA p))=((if hi≤0 then 0 else if hi≤dA p then hi else dA p) + bef r (hi - dA p)) - ((if lo≤0 then 0 else if lo≤dA p then lo else dA p) + bef r (lo - dA p));rw[jO,F];have:acr (iN p lo hi)=(if hi≤0 then 0 else if hi≤dA p then hi else dA p) - (if lo≤0 then 0 else if lo≤dA p then lo else dA p):=by
   unfold iN pO dA at *
   repeat' split
   all_goals simp only[acr,Au,CS,B5,List.sum_nil,dA]
   all_goals omega
  omega
theorem aA0{ws:List Str}{f:Str}{s e:Int}(G:f∈ws):∀ q∈pO f s e,q.1∈ws∧q.2.1 < q.2.2:=fun q F=>by
 unfold pO at F;split at F
 ·rw[AE.mp F];exact⟨G,by assumption⟩
 ·simp at F
theorem aCK(f:Str)(s e:Int):(pO f s e).length≤1:=by
 unfold pO;split <;> simp
theorem aCL(p:Pc)(lo hi a:Int):iN p (lo - a) (hi - a)=pO p.1 (if p.2.1 + lo - a > p.2.1 then p.2.1 + lo - a else p.2.1) (if p.2.1 + hi - a < p.2.2 then p.2.1 + hi - a else p.2.2):=by
 unfold iN;rw[Int.add_sub_assoc,Int.add_sub_assoc]
theorem tU{ws:List Str}:∀{ps:List Pc}{lo hi:Int},f6 ws ps→f6 ws (mK ps lo hi)
 | [],_,_,_=>⟨fun p G=>by simp[mK]at G⟩
 | p :: r,lo,hi,h=>by
  refine f6.app ⟨fun q F=>?_⟩ (tU ⟨fun q F=>h.ok q (An _ F)⟩);unfold iN at F;exact aA0 (h.ok p Al).1 q F
theorem aEo:∀(ps:List Pc) (x:Int),(∀ p∈ps,p.2.1 < p.2.2)→x≤0→bef ps x=0
 | [],_,_,_=>rfl
 | p :: r,x,h,hx=>by
  have h2:=h p Al;have F:=aEo r (x - dA p) (fun q G=>h q (An _ G)) (by unfold dA;omega);show(if x≤0 then 0 else _) + bef r (x - dA p)=0;rw[F,Ib hx];rfl
theorem aEp:∀(ps:List Pc) (x:Int),(∀ p∈ps,p.2.1 < p.2.2)→bef ps x≤acr ps
 | [],_,_=>by simp[bef,acr]
 | p :: r,x,h=>by
  have h2:=h p Al;have G:=aEp r (x - dA p) fun q F=>h q (An _ F);rw[pN];show(if x≤0 then 0 else if x≤dA p then x else dA p) + bef r (x - dA p)≤_;have:(if x≤0 then 0 else if x≤dA p then x else dA p)≤dA p:=by
   unfold dA
   repeat' split
   all_goals omega
  omega
theorem zF:∀(ps:List Pc) (lo hi:Int),(mK ps lo hi).length≤ps.length
 | [],_,_=>Am _
 | p :: r,lo,hi=>by
  have:=zF r (lo - dA p) (hi - dA p);have h2:(iN p lo hi).length≤1:=aCK _ _ _;show(iN p lo hi ++ mK r (lo - dA p) (hi - dA p)).length≤_;rw[Ay,AI];omega
inductive vT(vs:List V)(H:Hp)(Q:VK)(u3_:XK):Prop
 | mk (t:Ag) (xs:List V) (ps:List Pc) (q0:vs=[.ref t]) (q1:H t=some (.tup xs)) (q2:eB H xs ps) (q3:xs.length≤sizeLine) (q4:∀ H',cA H H'→Q (.int (acr ps)) H'):vT vs H Q u3_
def aBI:Sp:=fun vs H Q u3_=>vT vs H Q u3_
inductive aBJ(vs:List V)(H:Hp)(Q:VK)(u3_:XK):Prop
 | mk (t:Ag) (xs:List V) (ps:List Pc) (lo hi:Int) (q0:vs=[.ref t,.int lo,.int hi]) (q1:H t=some (.tup xs)) (q2:eB H xs ps) (q3:xs.length≤sizeLine) (q4:∀(t':Ag) (ys:List V) (H':Hp),cA H H'→H' t'=some (.tup ys)→eB H' ys (mK ps lo hi)→Q (.ref t') H'):aBJ vs H Q u3_
def aGo:Sp:=fun vs H Q u3_=>aBJ vs H Q u3_
theorem aFM:cC ["pieces"] ["pieces"] (aO wS):=⟨rfl,rfl,rfl,by decide,rfl,by decide,by decide⟩
theorem aEq{f:Ag}{fd:A3}(F:Fun K "acres_in" "acres_in" wS f fd)(G:mg "sum"=none):cY P w K mg base CX0 1 f fd ["pieces"] aBI:=by
 refine F.ok aFM (fun vs H Q E h=>?_) (fun aa A outer s H vs Q E hr h=>?_)
 ·obtain⟨t,xs,ps,rfl,_⟩:=h;rfl
 ·obtain⟨t,xs,ps,rfl,ht,hps,hz,k⟩:=h;have nd:(["field","low","high"]:List Str).Nodup:=by decide
  refine⟨_,aM (bJ (aV (sW rfl) (by rfl) G EE (aG (dO (N:=["field","low","high"]) (src:=[none,none,none]) (osc:=aO wS) (oN:=["pieces"]) (g:=xR K 3 (eV (aY 0) (eV (aY 1) (eV (aY 2) xQ)))) ⟨by rfl,by decide,by decide,by decide,rfl,by rfl⟩ (dS (pv 0))
   fun cl s H fp iw C=>⟨iX rfl (b9 (aZ (i:=0) nd rfl (Av rfl)) (b9 (aZ (i:=1) nd rfl (Av rfl)) (b9 (aZ (i:=2) nd rfl (Av rfl)) gM))),dN,bC kU (pv 2) (pv 1)⟩) aE))),?_⟩
  have hl:=BB hps;refine⟨_,rfl,t,rfl,⟨_,aH ht⟩,?_⟩;refine dY (K:=K) (xs:=xs) (fun i ys M H'=>Ex3 fun(O Y J:Option V)=>Aw3 (M=[O,Y,J]) (cA H H') (ys=((ps.take i).map dA).map V.int)) ⟨none,none,none,rfl,cA.refl H,by simp⟩
   hz (fun i ys σ H' p=>by obtain⟨_,_,_,_,_,rfl⟩:=p;simp;omega) (fun i ys σ H' p=>by obtain⟨_,_,_,_,S,_⟩:=p;exact aH (S _ _ ht)) ?_ ?_
  ·rintro i v ys M H1 hv ⟨O,Y,J,rfl,S,rfl⟩;obtain⟨p,q,hp,rfl,hq⟩:=hps.at hv;refine⟨q,_,rfl,aH (S _ _ hq),rfl,_,_,rfl,_,_,rfl,_,_,rfl,rfl,fU ?_⟩;refine⟨_,rfl,_,rfl,_,_,rfl,rfl,_,_,_,rfl,S,?_⟩;rw[AC,hp];simp[dA]
  ·rintro ys M H1 ⟨O,Y,J,rfl,S,rfl⟩ D Z;rw[hl,AH];exact⟨D,ps.map dA,rfl,aU aA,k _ (S.trans (aK Z))⟩
theorem pP:cC ["pieces","low","high","told","ahead","field","first","last","start","end"] ["pieces","low","high"] (aO aG6):=⟨rfl,rfl,rfl,by decide,rfl,by decide,by decide⟩
theorem aHj{f:Ag}{fd:A3}(F:Fun K "cut" "cut" aG6 f fd)(Y:mg "max"=none)(Z:mg "min"=none)(aa:mg "tuple"=none):cY P w K mg base CX0 1 f fd ["pieces","low","high"] aGo:=by
 refine F.ok pP (fun vs H Q E h=>?_) (fun av A outer s H vs Q E hr h=>?_)
 ·obtain⟨t,xs,ps,lo,hi,rfl,_⟩:=h;rfl
 ·obtain⟨t,xs,ps,lo,hi,rfl,ht,hps,hz,k⟩:=h;refine⟨_,aB (aS (i:=3) pP.nd rfl (Av rfl) (c7 aE))
   (aB (aS (i:=4) pP.nd rfl (Av rfl) aD)
   (aB (fT Be rfl (dS (pv 0)) (g:=xR K 3 (eV (aY 5) (eV (aY 6) (eV (aY 7) xQ)))) (iX rfl (b9 (aZ (i:=5) pP.nd rfl (Av rfl)) (b9 (aZ (i:=6) pP.nd rfl (Av rfl)) (b9 (aZ (i:=7) pP.nd rfl (Av rfl)) gM))))
    (aB (aS (i:=8) pP.nd rfl (Av rfl) (aV (uS rfl) (by rfl) Y (by kernel_rfl) (aG (pv 6) (aG (bC kU (bC cZ (pv 6) (pv 1)) (pv 4)) aE))))
    (aB (aS (i:=9) pP.nd rfl (Av rfl) (aV (m7 rfl) (by rfl) Z (by kernel_rfl) (aG (pv 7) (aG (bC kU (bC cZ (pv 6) (pv 2)) (pv 4)) aE))))
    (aB (cB (aX oU (pv 8) (pv 9) (bH _)) (aM (dC (jI A0 Bt Bs eO (pv 3) (aG (cJ (aG (pv 5) (aG (pv 8) (aG (pv 9) aE)))) aE)))) bB)
    (aM (aC6 (i:=4) pP.nd rfl (Av rfl) (bC kU (pv 7) (pv 6)) aC7))))))
   (aM (bJ (dD eI (by rfl) aa (by kernel_rfl) (aG (pv 3) aE)))))),?_⟩
  have hl:=BB hps;refine⟨Bc _,fun L hL=>?_⟩;have sL:=aK (o:=.lst []) hL;refine⟨_,rfl,t,rfl,⟨_,aH (sL _ _ ht)⟩,?_⟩;refine jG (K:=K) (xs:=xs) (fun i σ H'=>Ex3 fun(o5 o6 o7:Option V)=>Ex3 fun(o8 o9:Option V) (ys:List V)=>Aw3 (σ=[some (.ref t),some (.int lo),some (.int hi),some (.ref L),some (.int (acr (ps.take i))),o5,o6,o7,o8,o9]) (cA H H') (H' L=some (.lst ys)∧eB H' ys (mK (ps.take i) lo hi)))
   ⟨none,none,none,none,none,[],rfl,sL,aA,.nil⟩ (fun i σ H' _ p=>by obtain⟨_,_,_,_,_,_,_,S,_⟩:=p;exact aH (S _ _ ht)) ?_ ?_
  ·rintro i v σ H1 hv ⟨o5,o6,o7,o8,o9,ys,rfl,S,G,M⟩;obtain⟨p,q,hp,rfl,hq⟩:=hps.at hv;refine⟨q,_,rfl,aH (S _ _ hq),rfl,_,_,rfl,_,_,rfl,_,_,rfl,rfl,_,rfl,_,rfl,_,rfl,_,_,rfl,rfl,_,rfl,_,_,rfl,rfl,_,_,rfl,_,rfl,_,rfl,_,rfl,_,_,rfl,rfl,_,rfl,_,_,rfl,rfl,_,_,rfl,_,rfl,_,rfl,_,_,rfl,rfl,_,rfl,?_⟩;have ea:acr (ps.take (i + 1))=acr (ps.take i) + (p.2.2 - p.2.1):=by
    rw[AC,hp,jO];simp[acr,dA]
   have J:=vS p (ps.take i) lo hi;rw[aCL]at J;have et:ps.take (i + 1)=ps.take i ++ [p]:=by rw[AC,hp];rfl
   rw[← et]at J;have au:=BB M;have ah:=zF (ps.take i) lo hi;have aj:=List.length_take_le i ps;refine cT (fun g=>?_) fun g=>?_
   ·have g':=Ie g;unfold pO at J;rw[Ib g']at J;refine⟨_,rfl,.inl ⟨rfl,_,aU G⟩,_,rfl,_,rfl,_,rfl,zZ3,fun q2 O=>?_⟩;have s2:=aK (o:=pcT (p.1,(if p.2.1 + lo - acr (ps.take i) > p.2.1 then p.2.1 + lo - acr (ps.take i) else p.2.1),(if p.2.1 + hi - acr (ps.take i) < p.2.2 then p.2.1 + hi - acr (ps.take i) else p.2.2))) O;have ai:L≠q2:=aJ G O;refine⟨L,ys,_,rfl,rfl,s2 _ _ G,?_,?_⟩
    ·obtain⟨hi',_⟩:=Ax.mp hp;rw[AM]at aj ah;omega
    ·refine⟨_,rfl,_,rfl,_,rfl,_,_,rfl,rfl,_,_,rfl,rfl,_,_,_,_,_,ys ++ [.ref q2],by rw[ea];rfl,fun b o e=>?_,aA,?_⟩
     ·rw[aF (aJ e hL)];exact s2 _ _ (S _ _ e)
     ·rw[J];have ak:=M.on (H':=upd (upd H1 q2 _) L (.lst (ys ++ [.ref q2]))) fun b us e=>by
       rw[aF (fun z=>by rw[z,G]at e;cases e)];exact s2 _ _ e
      exact Paired.snoc ⟨q2,rfl,by rw[aF ai.symm];exact aA⟩ ak
   ·have g':¬ _:=fun z=>g (Ic z);unfold pO at J;rw[Ia g',BM]at J;exact⟨_,rfl,_,rfl,_,rfl,_,_,rfl,rfl,_,_,rfl,rfl,_,_,_,_,_,ys,by rw[ea];rfl,S,G,by rw[J];exact M⟩
  ·rintro σ H1 ⟨o5,o6,o7,o8,o9,ys,rfl,S,G,M⟩;rw[hl,AH]at M;refine⟨_,rfl,L,ys,rfl,.inl ⟨aU G,fun t' am=>?_⟩⟩;have s2:=aK (o:=.tup ys) am;exact k t' ys _ (S.trans s2) aA (M.same s2)
def uP:Pos:=⟨29,47,29,88⟩
def aIj:Str:=(("in_one":Str) ++ ".<locals>.") ++ "<lambda>"
abbrev Tb(T:Ag)(H:Hp):Prop:=lN T uP aIj H
theorem dL{T:Ag}{H H':Hp}(s:fY T H H')(g:Tb T H):fQ H H':=fun q xs e=>s _ _ (fun z=>by
 obtain⟨ps,hT,_⟩:=g.ex;rw[z,hT]at e;cases e) e
theorem aEr{H:Hp}{xs ys:List V}(Y:ys.Perm xs):∀{ps:List Pc},eB H xs ps→∃ q,q.Perm ps∧eB H ys q:=by
 induction Y with
 | nil=>intro ps h;exact⟨ps,.refl _,h⟩
 | cons a _ M=>
  intro ps h;cases h with
  | cons r t=>
   obtain⟨q,h1,h2⟩:=M t;exact⟨_ :: q,h1.cons _,.cons r h2⟩
 | swap a b l=>
  intro ps h;cases h with
  | cons r t=>
   cases t with
   | cons J O=>exact⟨_ :: _ :: _,.swap _ _ _,.cons J (.cons r O)⟩
 | trans _ _ F G=>
  intro ps h;obtain⟨q,h1,h2⟩:=G h;obtain⟨rs,h3,h4⟩:=F h2;exact⟨rs,h3.trans h1,h4⟩
theorem aEs{ps q:List Pc}(h:q.Perm ps):acr q=acr ps:=by
 unfold acr
 induction h with
 | nil=>rfl
 | cons a _ F=>simp[F]
 | swap a b l=>simp;omega
 | trans _ _ h1 h2=>exact h1.trans h2
theorem f6.perm{ws:List Str}{ps q:List Pc}(g:f6 ws ps)(h:q.Perm ps):f6 ws q:=⟨fun p F=>g.ok p (h.mem_iff.mp F)⟩
theorem qY{α β:Type}{R:α→β→Prop}{a:α}:∀{as:List α}{bs:List β},Ce R (as ++ [a]) bs→∃ q b,bs=q ++ [b]∧Ce R as q∧R a b
 | [],_,h=>by
  cases h with
  | cons r t=>
   cases t;exact⟨[],_,rfl,.nil,r⟩
 | x :: as,_,h=>by
  cases h with
  | cons r t=>
   obtain⟨q,b,rfl,h1,h2⟩:=qY t;exact⟨_ :: q,b,rfl,.cons r h1,h2⟩
theorem zG{α:Type}(l:List α):l=[]∨∃ r x,l=r ++ [x]:=by
 rcases List.eq_nil_or_concat l with h | ⟨r,x,h⟩
 ·exact .inl h
 ·exact .inr ⟨r,x,by rw[h,List.concat_eq_append]⟩
theorem aEt{T:Ag}{H H':Hp}(g:Tb T H)(k:∀ b o,H b=some o→¬ (∃ xs,H b=some (.lst xs))→H' b=some o):Tb T H':=by
 obtain⟨ps,h1,h2,q⟩:=g.ex;refine⟨ps,k _ _ h1 (fun⟨xs,z⟩=>by rw[h1]at z;cases z),h2,?_⟩;rcases q with q | ⟨c,q,F⟩
 ·exact .inl q
 ·exact .inr ⟨c,q,k _ _ F fun⟨xs,z⟩=>by rw[F]at z;cases z⟩
def mQ(rks:List (Key×V))(ws:List Str):Prop:=∀ w∈ws,∃ n:Int,bF rks (Ac w)=some (.int n)
inductive vU(T:Ag)(vs:List V)(H:Hp)(Q:VK)(u3_:XK):Prop
 | mk (r l:Ag) (rks:List (Key×V)) (xs:List V) (ps:List Pc) (ws:List Str) (q0:vs=[.ref r,.ref l]) (q1:H r=some (.dK rks)) (q2:mQ rks ws) (q3:H l=some (.lst xs)) (q4:eB H xs ps) (q5:f6 ws ps) (q6:xs.length < sizeLine) (q7:Tb T H) (q8:∀(t:Ag) (ys:List V) (qs:List Pc) (H':Hp),fY T H H'→Tb T H'→H' t=some (.tup ys)→eB H' ys qs→f6 ws qs→acr qs=acr ps→Q (.ref t) H'):vU T vs H Q u3_
def aBK(T:Ag):Sp:=fun vs H Q u3_=>vU T vs H Q u3_
theorem aBL:cC ["ranks","pieces","told","field","low","high"] ["ranks","pieces"] (aO qG):=⟨rfl,rfl,rfl,by decide,rfl,by decide,by decide⟩
theorem aEu{f c T:Ag}{fd:A3}(F:Fun K "in_one" "in_one" qG f fd)(bc:fd.code=.ref c)(hC:FK K c T=true)(hB:uM mg base)(ap:mg "sorted"=none)(aw:mg "tuple"=none):cY P w K mg base CX0 4 f fd ["ranks","pieces"] (aBK T):=by
 refine F.okC aBL (fun vs H Q E h=>?_) (fun bL A outer s H vs Q E av hr h=>?_)
 ·obtain⟨r,l,rks,xs,ps,ws,rfl,_⟩:=h;rfl
 ·obtain⟨r,l,rks,xs,ps,ws,rfl,hR,hok,hl,hps,hg,hz,hT,k⟩:=h;rw[bc]at av;subst av;have nd:=aBL.nd;refine⟨_,aB (aS (i:=2) nd rfl (Av rfl) (c7 aE))
   (aB (fT Be rfl (iP (aAR (k:=0) (x:="piece") (fs:=["ranks"]) (cl:=[("ranks",s.heap.objs.size + 1)]) (T:=T) hr rfl hC hB (by rfl) ap ⟨rfl,rfl,rfl,by decide,by decide,by decide,by decide⟩ ?hc ?hhas (fun _ _ _ _=>rfl)
     (fun f c s H=>cJ (aG (bG ?hu (pv 1) (aR (r:=lV K) aW (pv 0) aD Ig) Ig) (aG (aR (r:=lV K) aW (pv 0) aD Ig) aE))) (aG (pv 1) aE)))
    (g:=xR K 3 (eV (aY 3) (eV (aY 4) (eV (aY 5) xQ)))) (iX rfl (b9 (aZ (i:=3) nd rfl (Av rfl)) (b9 (aZ (i:=4) nd rfl (Av rfl)) (b9 (aZ (i:=5) nd rfl (Av rfl)) gM))))
    (aM (cB (aAM (PW.pt (iJ (aDc (pv 2) (fun _=>rfl)) (iJ (aX c3 (aR aW (aR bZ (pv 2) (iC eZ aD) Ig) aD Ig) (pv 3) (bH _)) (gL (aX c3 (aR aW (aR bZ (pv 2) (iC eZ aD) Ig) aD Ig) (pv 4) (bH _)))))))
     (aM (jR (cJ (aG (pv 3) (aG (aR aW (aR bZ (pv 2) (iC eZ aD) Ig) aD Ig) (aG (pv 5) aE)))) (p5 (pv 2) (iC eZ aD) j0)))
     (aM (dC (jI A0 Bt Bs eO (pv 2) (aG (cJ (aG (pv 3) (aG (pv 4) (aG (pv 5) aE)))) aE)))))))
   (aM (bJ (dD eI (by rfl) aw (by kernel_rfl) (aG (pv 2) aE))))),?_⟩
  case hc=>exact fun x b h=>h
  case hhas=>
   intro x h;have hm:=BT h;obtain rfl:x="ranks":=(show∀ y∈_,y.2=Bh→y.1=("ranks":Str) from by decide) (x,Bh) hm rfl;exact⟨_,rfl⟩
  case hu=>exact d8 ((hr.in1).in1.deeper _)
  refine⟨Bc _,fun L hL=>?_⟩;have sL:=aK (o:=.lst []) hL;have bo:=sL _ _ hl;have aj:=hps.same sL;have ai:Tb T _:=hT.same sL;have al:=sL _ _ hR;obtain⟨tps,hTt,_⟩:=ai.ex;refine⟨_,rfl,l,xs,[.ref r],rfl,aU bo,Dv hz,.cons ⟨0,rfl,rfl,rfl⟩ .nil,ai,fun y hy H' sT=>?_,fun D ys H1 sT gT nD hp hD=>?_⟩
  ·obtain⟨i,hi⟩:=Ct hy;obtain⟨p,q,hp,rfl,hq⟩:=aj.at hi;have aq:=dL sT ai _ _ hq;obtain⟨n,hn⟩:=hok p.1 (hg.ok p (AK hp)).1;have bg:H' r=some (.dK rks):=sT _ _ (fun z=>by rw[z,hTt]at al;cases al) al;refine⟨_,rfl,_,rfl,q,_,0,_,rfl,rfl,aH aq,rfl,r,.int n,rfl,.inl ⟨rks,Ac p.1,.inl bg,rfl,hn.symm⟩,_,rfl,q,_,1,_,rfl,rfl,aH aq,rfl,zZ2,fun t2 be=>?_⟩;exact⟨t2,n,p.2.1,rfl,aA,aK be⟩
  ·obtain⟨ps',hpp,hY⟩:=aEr hp aj;have bj:=hY.on (dL sT ai);have bh:=hg.perm hpp;have au:D≠L:=fun z=>by rw[z,aA]at nD;cases nD
   have bm:L≠T:=fun z=>by rw[← z,aA]at hTt;cases hTt
   have bf:=BB hY;have bP:=hp.length_eq;refine⟨D,rfl,⟨_,aU hD⟩,?_⟩;refine lT (K:=K) (xs:=ys) (fun i σ H'=>Ex3 fun(o3 o4 o5:Option V)=>∃(zs:List V) (qs:List Pc),Aw6 (σ=[some (.ref r),some (.ref l),some (.ref L),o3,o4,o5]) (fY T H H') (Tb T H') (H' D=some (.lst ys)) (H' L=some (.lst zs)) (Aw3 (eB H' ys ps') (eB H' zs qs) (Aw3 (f6 ws qs) (acr qs=acr (ps'.take i)) (qs.length≤i))))
    ⟨none,none,none,[],[],rfl,sL.butT.trans sT,gT,hD,sT _ _ bm aA,bj,.nil,⟨fun p hp=>by simp at hp⟩,by simp[acr],Am _⟩ (fun i σ H' _ p=>by obtain⟨_,_,_,_,_,_,_,_,e,_⟩:=p;exact aU e) ?_ ?_
   ·rintro i v σ H2 hv ⟨o3,o4,o5,zs,qs,rfl,S2,T2,ak,G,ag,ab,Z,ad,az⟩;obtain⟨p,q,hp,rfl,hq⟩:=ag.at hv;have ay:=bh.ok p (AK hp);have bM:=BB ab;have ea:acr (ps'.take (i + 1))=acr (ps'.take i) + dA p:=by
     rw[AC,hp,jO];simp[acr]
    have bv:i < ys.length:=(Ax.mp hv).1;refine⟨q,_,rfl,aH hq,rfl,_,_,rfl,_,_,rfl,_,_,rfl,rfl,fun b H3=>H3=H2∧(b=true→∃ J Y M p2,zs=J ++ [.ref Y]∧qs=M ++ [p2]∧eB H2 J M∧H2 Y=some (pcT p2)∧p2.1=p.1∧p2.2.2=p.2.1),?_,fun b H3 hb=>?_⟩
    ·refine⟨_,rfl,!zs.isEmpty,.inl ⟨zs,aU G,rfl⟩,?_⟩;rcases zG zs with rfl | ⟨J,z,rfl⟩
     ·exact dU ⟨rfl,fun z=>nomatch z⟩
     ·obtain⟨M,p2,rfl,hZ',Y,rfl,hq2⟩:∃ M p2,qs=M ++ [p2]∧eB H2 J M∧∃ Y,z=.ref Y∧H2 Y=some (pcT p2):=qY ab;rw[show(!(J ++ [V.ref Y]).isEmpty)=true by cases J <;> rfl];refine fU ?_;refine⟨_,rfl,_,rfl,L,_,-1,_,rfl,rfl,aU G,i0 _ _,Y,_,0,_,rfl,rfl,aH hq2,rfl,_,rfl,rfl,_,rfl,cT (fun g1=>?_) fun g1=>⟨rfl,fun z=>nomatch z⟩⟩;refine⟨_,rfl,_,rfl,L,_,-1,_,rfl,rfl,aU G,i0 _ _,Y,_,2,_,rfl,rfl,aH hq2,rfl,_,rfl,rfl,_,rfl,rfl,fun g2=>?_⟩;have e1:=Ie g1;have e2:=Ie g2;injection e1 with e1;injection e2 with e2;exact⟨J,Y,M,p2,rfl,rfl,hZ',hq2,e1,e2⟩
    ·obtain⟨rfl,hb⟩:=hb;have bO:H L=none:=hL;cases b with
     | true=>
      obtain⟨J,Y,M,p2,rfl,rfl,hZ',hq2,e1,e2⟩:=hb rfl;refine fU ?_;refine⟨_,rfl,_,rfl,_,rfl,L,_,-1,_,rfl,rfl,aU G,i0 _ _,Y,_,1,_,rfl,rfl,aH hq2,rfl,_,rfl,zZ3,fun O aa=>?_⟩;have s3:=aK (o:=pcT (p.1,p2.2.1,p.2.2)) aa;have am:L≠O:=aJ G aa;refine⟨_,rfl,_,rfl,L,_,-1,J.length,rfl,rfl,s3 _ _ G,?_,?_⟩
      ·unfold ixN;rw[Ay,CK,Ia (by decide),Ib (by omega)];congr 1;omega
      ·have es:(J ++ [V.ref Y]).set J.length (.ref O)=J ++ [.ref O]:=by simp
       rw[es];have keep:∀ b o,b≠L→H3 b=some o→upd (upd H3 O (pcT (p.1,p2.2.1,p.2.2))) L (.lst (J ++ [.ref O])) b=some o:=fun b o n e=>by
        rw[aF n];exact s3 _ _ e
       have kt:fQ H3 (upd (upd H3 O (pcT (p.1,p2.2.1,p.2.2))) L (.lst (J ++ [.ref O]))):=fun b us e=>keep b _ (fun z=>by rw[z,G]at e;cases e) e;refine⟨_,_,_,J ++ [.ref O],M ++ [(p.1,p2.2.1,p.2.2)],rfl,fun b o n e=>keep b o (aJ e hL) (S2 b o n e),?_,keep _ _ au ak,aA,ag.on kt,?_,?_,?_,by rw[Ay,CK]at az ⊢;omega⟩
       ·exact aEt T2 fun b o e n=>keep b o (fun z=>n ⟨_,z ▸ G⟩) e
       ·exact Paired.snoc ⟨O,rfl,by rw[aF am.symm];exact aA⟩ (hZ'.on kt)
       ·have h2:=Z.ok p2 (AN _ Al);exact f6.app ⟨fun x hx=>Z.ok x (BH _ hx)⟩ ⟨fun x hx=>by rw[AE.mp hx];exact⟨ay.1,by dsimp only;omega⟩⟩
       ·rw[ea,← ad,jO,jO];simp only[acr,dA,Au,CS,B5,List.sum_nil];omega
     | false=>
      refine dU ?_;refine⟨_,rfl,.inl ⟨rfl,_,aU G⟩,_,rfl,_,rfl,_,rfl,zZ3,fun O aa=>?_⟩;have s3:=aK (o:=pcT p) aa;have am:L≠O:=aJ G aa;refine⟨L,zs,_,rfl,rfl,s3 _ _ G,by omega,?_⟩;have keep:∀ b o,b≠L→H3 b=some o→upd (upd H3 O (pcT p)) L (.lst (zs ++ [.ref O])) b=some o:=fun b o n e=>by
       rw[aF n];exact s3 _ _ e
      have kt:fQ H3 (upd (upd H3 O (pcT p)) L (.lst (zs ++ [.ref O]))):=fun b us e=>keep b _ (fun z=>by rw[z,G]at e;cases e) e;refine⟨_,_,_,zs ++ [.ref O],qs ++ [p],rfl,fun b o n e=>keep b o (aJ e hL) (S2 b o n e),?_,keep _ _ au ak,aA,ag.on kt,?_,?_,?_,by rw[Ay,CK];omega⟩
      ·exact aEt T2 fun b o e n=>keep b o (fun z=>n ⟨_,z ▸ G⟩) e
      ·exact Paired.snoc ⟨O,rfl,by rw[aF am.symm];exact aA⟩ (ab.on kt)
      ·exact Z.app ⟨fun x hx=>by rw[AE.mp hx];exact ay⟩
      ·rw[ea,← ad,jO];simp[acr]
   ·rintro σ H2 ⟨o3,o4,o5,zs,qs,rfl,S2,T2,ak,G,ag,ab,Z,ad,az⟩;rw[bf,AH]at ad;refine⟨_,rfl,L,zs,rfl,.inl ⟨aU G,fun t' bd=>?_⟩⟩;have s2:=aK (o:=.tup zs) bd;exact k t' zs qs _ (S2.trans s2.butT) (T2.same s2) aA (ab.same s2) Z (ad.trans (aEs hpp))
inductive zH(vs:List V)(H:Hp)(Q:VK)(u3_:XK):Prop
 | mk (me:Ag) (h:Str) (m:Mnd) (q0:vs=[.ref me,.str h]) (q1:H me=some (.dK m)) (q2:iL m) (q3:m.length≤100000) (q4:∀(L:Ag) (H':Hp),H L=none→cA H H'→H' L=some (.lst ((rd m h).map V.str))→Q (.ref L) H'):zH vs H Q u3_
def aEv:Sp:=fun vs H Q u3_=>zH vs H Q u3_
theorem tV:cC ["menders","house","road"] ["menders","house"] (aO qH):=⟨rfl,rfl,rfl,by decide,rfl,by decide,by decide⟩
theorem zI{f:Ag}{fd:A3}(F:Fun K "road_from" "road_from" qH f fd):cY P w K mg base CX0 1 f fd ["menders","house"] aEv:=by
 refine F.ok tV (fun vs H Q E h=>?_) (fun ae A outer s H vs Q E hr h=>?_)
 ·obtain⟨me,h,m,rfl,_⟩:=h;rfl
 ·obtain⟨me,h,m,rfl,hm,ha,hlen,k⟩:=h;have hu:=d8 hr;refine⟨_,aB (aS (i:=2) tV.nd rfl (Av rfl) (c7 (aG (pv 1) aE)))
   (aB (rS Be (iW (lY hu (aR bZ (pv 2) (iC eZ aD) Ig) (pv 0)))
    (aM (dC (jI A0 Bt Bs eO (pv 2) (aG (bG hu (pv 0) (aR bZ (pv 2) (iC eZ aD) Ig) Ig) aE)))))
   (aM (bJ (pv 2)))),?_⟩
  refine⟨_,rfl,zZ1,fun L Z=>?_⟩;have sL:=aK (o:=.lst [V.str h]) Z;have J:=ha.rd h;have ad:=J.len;refine⟨fun n σ H'=>∃(pre l:List Str) (x:Str),σ=[some (.ref me),some (.str h),some (.ref L)]∧cA H H'∧H' L=some (.lst ((pre ++ [x]).map V.str))∧rd m h=pre ++ l∧Ends m x l∧n=l.length,⟨_,[],rd m h,h,rfl,sL,aA,rfl,J,rfl⟩,?_⟩;rintro n σ H1 ⟨pre,l,x,rfl,S,q,Y,hx,rfl⟩;have G:atI ((pre ++ [x]).map V.str) (-1)=some (.str x):=by
   rw[Aw];exact i0 _ _
  refine⟨_,rfl,_,rfl,L,_,-1,_,rfl,rfl,aU q,G,_,rfl,me,_,rfl,.inl ⟨m,Ac x,.inl (S _ _ hm),rfl,rfl⟩,_,rfl,?_⟩;rw[ha.val x];cases hx with
  | stop e=>
   rw[e];refine dU ?_;refine⟨_,rfl,k L H1 Z S ?_⟩;rw[Y];exact q
  | @on _ y l e r=>
   rw[e];refine fU ?_;refine⟨fun σ' H'=>∃(pre O:List Str) (x:Str),σ'=[some (.ref me),some (.str h),some (.ref L)]∧cA H H'∧H' L=some (.lst ((pre ++ [x]).map V.str))∧rd m h=pre ++ O∧Ends m x O∧l.length=O.length,fun σ' H' z=>⟨l.length,by simp,z⟩,?_⟩;have M:some (V.str y)=bF m (Ac x):=by rw[ha.val x,e];rfl
   refine⟨_,rfl,.inl ⟨rfl,_,aU q⟩,_,rfl,_,rfl,_,rfl,L,_,-1,_,rfl,rfl,aU q,G,me,_,rfl,.inl ⟨m,Ac x,.inl (S _ _ hm),rfl,M⟩,L,_,_,rfl,rfl,q,?_,?_⟩
   ·have:=congrArg Cg Y;simp at this ⊢;exact BS (show pre.length + 1≤1000000 by omega) (by decide)
   ·refine⟨pre ++ [x],l,y,rfl,fun b o z=>?_,?_,by rw[Y];simp,r,rfl⟩
    ·rw[aF (aJ z Z)];exact S _ _ z
    ·rw[aA];simp
def zJ:A8→Bool | .str z=>cH z | _=>false
def aA1(lo hi:Int):A8→Bool | .int i=>decide (lo≤i∧i≤hi) | _=>false
def qZ:A8→Bool
 | .tuple [l,h,a]=>zJ l && zJ h && aA1 1 10000000 a
 | _=>false
def gH:List Str:=["part","join","forfeit","measure","mend","alone","breach","view"]
def pD(x:P3):A8:=.tuple [.str x.1,.str x.2.1,.int x.2.2]
theorem qK{m:Bool}{H:Hp}:∀{T:List Str},(∀ z∈T,z.length≤1000)→cE m H (T.map V.str) (T.map BC)
 | [],_=>.nil
 | t :: T,h=>.cons (.str t (h t (by simp))) (qK fun z hz=>h z (by simp[hz]))
theorem aEw{z:Str}(h:cH z=true):Eg z=true:=by
 unfold cH at h;rw[Bu,A2]at h;unfold Eg;rw[Array.all_eq_true_iff_forall_mem];intro c hc;have:=Ie (h.2 c (by simpa using hc));exact Ic (by omega)
theorem pQ:∀ R:List P3,A9 (R.map pD)=false
 | []=>rfl
 | x :: R=>by
  show((pD x).hasDict || A9 (R.map pD))=false;rw[pQ R];rfl
theorem rA:∀ R:List Str,A9 (R.map BC)=false
 | []=>rfl
 | x :: R=>by
  show((BC x).hasDict || A9 (R.map BC))=false;rw[rA R];rfl
inductive lE:Str→List A8→Prop
 | part {land:Str} {R:List P3} (hl:cH land=true) (hr:(R.map (·.1)).Nodup) (h2:2≤R.length) (h6:R.length≤6) (ha:(R.map pD).all qZ=true):lE "part" [.str land,.tuple (R.map pD)]
 | join {land:Str} {R:List Str} (hl:cH land=true) (hr:R.Nodup) (h2:2≤R.length) (h6:R.length≤6) (ha:(R.map BC).all zJ=true):lE "join" [.tuple (R.map BC),.str land]
 | forfeit {land house:Str} (hl:cH land=true) (hh:cH house=true):lE "forfeit" [.str land,.str house]
 | measure {field:Str} {n:Int} (hf:cH field=true) (h0:0≤n) (h1:n≤10000000):lE "measure" [.str field,.int n]
 | mend {house other:Str} (hh:cH house=true) (ho:cH other=true) (hne:house≠other):lE "mend" [.str house,.str other]
 | alone {house:Str} (hh:cH house=true):lE "alone" [.str house]
 | breach {field:Str} {n1 n2 n3:Int} (hf:cH field=true) (h10:0≤n1) (h11:n1≤9999999) (h20:0≤n2) (h21:n2≤1000000000) (h30:0≤n3) (h31:n3≤1000000):lE "breach" [.str field,.int n1,.int n2,.int n3]
 | view {field house:Str} {n1:Int} (hf:cH field=true) (h10:0≤n1) (h11:n1≤9999999) (hh:cH house=true):lE "view" [.str field,.int n1,.str house]
def w6(word name:Str)(day:Int)(ds:List A8):A8:=.tuple (.str word :: .str name :: .int day :: ds)
theorem iG{m:Bool}{H:Hp}{z:Str}(h:cH z=true):RdV m H (.str z) (.str z):=.str z (by have:=(qJ h).2;omega)
theorem aEx{w:Str}(h:w∈gH):w.length≤1000:=by
 have:∀ w∈gH,w.length≤1000:=by decide
 exact this w h
def FIn(word:Str)(ds:List A8)(fs:List Str):Prop:=inV (.str word) [V.str "measure",.str "breach",.str "view"]=true→∀ z b8,ds=.str z :: b8→z∈fs
theorem lE.word{word:Str}{ds:List A8}(h:lE word ds):word∈gH:=by
 cases h <;> decide
theorem lE.len{word:Str}{ds:List A8}(h:lE word ds):ds.length≤4:=by
 cases h <;> simp
theorem lE.nodict{word:Str}{ds:List A8}(h:lE word ds):A9 ds=false:=by
 cases h with
 | @part q R _ _ _ _ _=>
  show(false || (A9 (R.map pD) || false))=false;rw[pQ];rfl
 | @join q R _ _ _ _ _=>
  show(A9 (R.map BC) || (false || false))=false;rw[rA];rfl
 | _=>rfl
theorem iH(w:AV)(s:Str):Bp w.params s=aGs w (Ac s):=by
 first | rfl | (unfold aGs hashStr Bp;rfl)
theorem isS(s:Str)(t:Tok):qO (Ac s) (.str s t)=true:=by
 show Fw s (.str s t)=true;simp[Fw]
def fmV(g0 g1 g2 g3 g4 g5 g6 g7:Ag):List (Key×V):=[(Ac "part",.ref g0),(Ac "join",.ref g1),(Ac "forfeit",.ref g2),(Ac "measure",.ref g3),(Ac "mend",.ref g4),(Ac "alone",.ref g5),(Ac "breach",.ref g6),(Ac "view",.ref g7)]
def fmR(g0 g1 g2 g3 g4 g5 g6 g7:Ag):List (Key×Ad):=[(Ac "part",.ref g0),(Ac "join",.ref g1),(Ac "forfeit",.ref g2),(Ac "measure",.ref g3),(Ac "mend",.ref g4),(Ac "alone",.ref g5),(Ac "breach",.ref g6),(Ac "view",.ref g7)]
theorem aHk(Y F J Z G M O q:Ag):KV (fmV Y F J Z G M O q) (fmR Y F J Z G M O q):=.cons ⟨rfl,rfl⟩ (.cons ⟨rfl,rfl⟩ (.cons ⟨rfl,rfl⟩ (.cons ⟨rfl,rfl⟩ (.cons ⟨rfl,rfl⟩ (.cons ⟨rfl,rfl⟩ (.cons ⟨rfl,rfl⟩ (.cons ⟨rfl,rfl⟩ (.nil))))))))
theorem aFN{P:AD}{w:AV}{K:Ah}{a:Ag}{e:Nat}{q Z G M F O Y J:Tok}{g0 g1 g2 g3 g4 g5 g6 g7:Ag}(l:K.lookup a=some { cls:=.type "dict",data:=.dict #[⟨Bp w.params "part",.str "part" q,.ref g0⟩,⟨Bp w.params "join",.str "join" Z,.ref g1⟩,⟨Bp w.params "forfeit",.str "forfeit" G,.ref g2⟩,⟨Bp w.params "measure",.str "measure" M,.ref g3⟩,⟨Bp w.params "mend",.str "mend" F,.ref g4⟩,⟨Bp w.params "alone",.str "alone" O,.ref g5⟩,⟨Bp w.params "breach",.str "breach" Y,.ref g6⟩,⟨Bp w.params "view",.str "view" J,.ref g7⟩] e }):∀ h:Bi,K.In h→h.DictOf (cM P w) a (fmR g0 g1 g2 g3 g4 g5 g6 g7):=by
 intro h hK;refine⟨_,_,_,hK _ _ l,⟨rfl,rfl,rfl⟩,rfl,?_,?_,?_⟩
 ·intro en he;simp only[List.mem_toArray,Ak,Ap,or_false]at he;rcases he with rfl | rfl | rfl | rfl | rfl | rfl | rfl | rfl
  ·exact⟨Ac "part",isS "part" q,iH w "part"⟩
  ·exact⟨Ac "join",isS "join" Z,iH w "join"⟩
  ·exact⟨Ac "forfeit",isS "forfeit" G,iH w "forfeit"⟩
  ·exact⟨Ac "measure",isS "measure" M,iH w "measure"⟩
  ·exact⟨Ac "mend",isS "mend" F,iH w "mend"⟩
  ·exact⟨Ac "alone",isS "alone" O,iH w "alone"⟩
  ·exact⟨Ac "breach",isS "breach" Y,iH w "breach"⟩
  ·exact⟨Ac "view",isS "view" J,iH w "view"⟩
 ·exact .cons (isS "part" q) rfl (.cons (isS "join" Z) rfl (.cons (isS "forfeit" G) rfl (.cons (isS "measure" M) rfl (.cons (isS "mend" F) rfl (.cons (isS "alone" O) rfl (.cons (isS "breach" Y) rfl (.cons (isS "view" J) rfl (.nil))))))))
 ·show([Ac "part",Ac "join",Ac "forfeit",Ac "measure",Ac "mend",Ac "alone",Ac "breach",Ac "view"]:List Key).Nodup;decide
theorem aHl{word name:Str}{day:Int}{b8:List V}:atI (V.str word :: .str name :: .int day :: b8) 0=some (.str word)∧atI (V.str word :: .str name :: .int day :: b8) 1=some (.str name)∧atI (V.str word :: .str name :: .int day :: b8) 2=some (.int day):=by
 have hl:(V.str word :: V.str name :: V.int day :: b8).length=b8.length + 3:=rfl;unfold atI ixN;rw[hl,Ib (by decide),Ib (by omega),Ib (by decide),Ib (by omega),Ib (by decide),Ib (by omega)];exact⟨rfl,rfl,rfl⟩
structure cV where
 word:Str
 name:Str
 day:Int
 ds:List A8
def cV.d(r:cV):A8:=w6 r.word r.name r.day r.ds
structure cV.Ok(r:cV)(fs:List Str):Prop where
 rs:lE r.word r.ds
 nm:cH r.name=true
 d0:0≤r.day
 d1:r.day≤9999
 fi:FIn r.word r.ds fs
structure jS(H:Hp)(xs:List V)(us:List cV)(fs:List Str):Prop where
 len:xs.length=us.length
 at':∀(i:Nat) (x:V),xs[i]?=some x→∃ u,us[i]?=some u∧RdV false H x u.d∧u.Ok fs
end K13
namespace L2
open PySem PySem.Spec PyProof.Rows
mutual
theorem RdV.onT{H H':Hp}(t:∀ q xs,H q=some (.tup xs)→H' q=some (.tup xs)):∀{x:V}{d:A8},RdV false H x d→d.hasDict=false→RdV false H' x d
 | _,_,.non,_=>.non
 | _,_,.bl b,_=>.bl b
 | _,_,.int i,_=>.int i
 | _,_,.str z h,_=>.str z h
 | _,_,.lst hm _ _ _,_=>nomatch hm
 | _,_,.tup e hl r,h=>.tup (t _ _ e) hl (cE.onT t r (by unfold DJ at h;exact h))
 | _,_,.dct _ _,h=>by unfold DJ at h;cases h
theorem cE.onT{H H':Hp}(t:∀ q xs,H q=some (.tup xs)→H' q=some (.tup xs)):∀{xs:List V}{ds:List A8},cE false H xs ds→A9 ds=false→cE false H' xs ds
 | _,_,.nil,_=>.nil
 | _,_,.cons a r,h=>by
  unfold A9 at h;rw[Bool.or_eq_false_iff]at h;exact .cons (RdV.onT t a h.1) (cE.onT t r h.2)
end
end L2
namespace K13
open PySem L2
theorem cV.Ok.nd{r:cV}{fs:List Str}(h:r.Ok fs):r.d.hasDict=false:=by
 unfold cV.d w6;unfold DJ;show(false || (false || (false || A9 r.ds)))=false;rw[h.rs.nodict];rfl
theorem cV.Ok.on{r:cV}{fs:List Str}(h:r.Ok fs){H H':Hp}{x:V}(rd:RdV false H x r.d)(t:fQ H H'):RdV false H' x r.d:=RdV.onT t rd h.nd
theorem cV.Ok.tup{r:cV}{fs:List Str}{H:Hp}{x:V}(rd:RdV false H x r.d):∃ t b8,x=.ref t∧H t=some (.tup (.str r.word :: .str r.name :: .int r.day :: b8))∧cE false H b8 r.ds:=by
 unfold cV.d w6 at rd;cases rd with
 | tup e hl q=>
  cases q with
  | cons G q=>
   cases q with
   | cons F q=>
    cases q with
    | cons J q=>
     cases G;cases F;cases J;exact⟨_,_,rfl,e,q⟩
def oJ(H:Hp)(ws:List Str)(v:V)(n:Int):Prop:=∃(t tp:Ag) (hs:Str) (xs:List V) (ps:List Pc),v=.ref t∧H t=some (.tup [.str hs,.ref tp])∧H tp=some (.tup xs)∧eB H xs ps∧f6 ws ps∧acr ps=n
theorem oJ.on{H H':Hp}{ws:List Str}{v:V}{n:Int}(h:oJ H ws v n)(t:fQ H H'):oJ H' ws v n:=by
 obtain⟨a,b,hs,xs,ps,h1,h2,h3,h4,h5⟩:=h;exact⟨a,b,hs,xs,ps,h1,t _ _ h2,t _ _ h3,h4.on t,h5⟩
theorem oJ.pos{H:Hp}{ws:List Str}{v:V}{n:Int}(h:oJ H ws v n):0≤n:=by
 obtain⟨_,_,_,_,ps,_,_,_,_,g,rfl⟩:=h;have:=g.len;omega
inductive f7(H:Hp)(ws:List Str):List (Key×V)→Int→Prop
 | nil:f7 H ws [] 0
 | cons {k:Key} {v:V} {r:List (Key×V)} {n m:Int} (h:oJ H ws v n) (t:f7 H ws r m):f7 H ws ((k,v) :: r) (n + m)
theorem f7.on{H H':Hp}{ws:List Str}{l:List (Key×V)}{n:Int}(h:f7 H ws l n)(t:fQ H H'):f7 H' ws l n:=by
 induction h with
 | nil=>exact .nil
 | cons h _ q=>exact .cons (h.on t) q
theorem f7.pos{H:Hp}{ws:List Str}{l:List (Key×V)}{n:Int}(h:f7 H ws l n):0≤n:=by
 induction h with
 | nil=>exact CV _
 | cons h _ q=>
  have:=h.pos;omega
theorem f7.dropLe{H:Hp}{ws:List Str}{l:List (Key×V)}{n:Int}(h:f7 H ws l n)(k:Key):∃ q,f7 H ws (bV l k) q∧q≤n:=by
 induction h with
 | nil=>exact⟨0,.nil,CV _⟩
 | @cons j v r a m h t F=>
  obtain⟨q,h1,h2⟩:=F;have:=h.pos;by_cases e:j=k
  ·rw[iU (p:=(j,v)) e];exact⟨q,h1,by omega⟩
  ·rw[iV (p:=(j,v)) e];exact⟨a + q,.cons h h1,by omega⟩
theorem f7.take{H:Hp}{ws:List Str}{l:List (Key×V)}{n:Int}(h:f7 H ws l n){k:Key}{v:V}(e:bF l k=some v):∃ a q,oJ H ws v a∧f7 H ws (bV l k) q∧a + q≤n:=by
 induction h with
 | nil=>cases e
 | @cons j u r a m h t G=>
  by_cases F:j=k
  ·rw[c4 (p:=(j,u)) F]at e;cases e;obtain⟨q,h1,h2⟩:=t.dropLe k;rw[iU (p:=(j,u)) F];exact⟨a,q,h,h1,by omega⟩
  ·rw[cN (p:=(j,u)) F]at e;obtain⟨b,q,h1,h2,h3⟩:=G e;rw[iV (p:=(j,u)) F];exact⟨b,a + q,h1,.cons h h2,by omega⟩
theorem f7.snoc{H:Hp}{ws:List Str}{l:List (Key×V)}{n a:Int}{k:Key}{v:V}(h:f7 H ws l n)(hv:oJ H ws v a):f7 H ws (l ++ [(k,v)]) (n + a):=by
 induction h with
 | nil=>
  have:=f7.cons (k:=k) hv (f7.nil (H:=H) (ws:=ws));rw[Int.add_zero]at this;rw[Et];exact this
 | cons h _ q=>
  rw[Int.add_assoc];exact .cons h q
theorem oK:∀{l:List (Key×V)}{k:Key}{v:V},¬ k∈l.map (·.1)→l.map (fun q=>if q.1=k then(q.1,v) else q)=l
 | [],_,_,_=>rfl
 | p :: l,k,v,h=>by
  rw[Au,Ia (fun z=>h (by rw[← z];exact Al)),oK fun z=>h (An _ z)]
theorem f7.put{H:Hp}{ws:List Str}{l:List (Key×V)}{n a:Int}{k:Key}{v:V}(h:f7 H ws l n)(G:(l.map (·.1)).Nodup)(hv:oJ H ws v a):∃ F,f7 H ws (bS l k v) F∧F≤n + a:=by
 unfold bS;split
 ·rename_i q;clear q
  induction h with
  | nil=>exact⟨0,.nil,by have:=hv.pos;omega⟩
  | @cons j u r b m h t J=>
   obtain⟨h1,h2⟩:=AY.mp G;rw[Au];by_cases e:j=k
   ·rw[Ib e,oK (by rw[← e];exact h1)];exact⟨a + m,.cons hv t,by have:=h.pos;omega⟩
   ·rw[Ia e];obtain⟨F,h3,h4⟩:=J h2;exact⟨b + F,.cons h h3,by omega⟩
 ·exact⟨n + a,h.snoc hv,CV _⟩
theorem lF{l:List (Key×V)}{k:Key}(v:V)(hn:(l.map (·.1)).Nodup):((bS l k v).map (·.1)).Nodup:=by
 cases e:bF l k with
 | none=>exact aFp v hn e
 | some u=>
  have F:(l.any fun q=>decide (q.1=k))=true:=by rw[dR,e];rfl
  unfold bS;rw[Ib F,E5];have:((fun x:Key×V=>x.1) ∘ fun q:Key×V=>if q.1=k then(q.1,v) else q)=(·.1):=by
   funext q;show(if q.1=k then(q.1,v) else q).1=q.1;split <;> rfl
  rw[this];exact hn
structure MA where
 dx:Ag
 r:Ag
 h:Ag
 a:Ag
 i:Ag
 me:Ag
def aA2(A:MA):List (Str×V):=[("ranks",.ref A.r),("holdings",.ref A.h),("acres",.ref A.a),("inches",.ref A.i),("menders",.ref A.me)]
structure MC(K:Ah)(C:Ag):Prop where
 cl:Cls K C
 r:iZ K C "ranks"
 h:iZ K C "holdings"
 a:iZ K C "acres"
 i:iZ K C "inches"
 m:iZ K C "menders"
structure Mom(H:Hp)(C M:Ag)(A:MA)(ws:List Str)(n:Nat)(m:Mnd):Prop where
 ins:H M=some (.ins C A.dx (aA2 A))
 r:∃ rks,H A.r=some (.dK rks)∧mQ rks ws
 h:∃ hol b,H A.h=some (.dK hol)∧(hol.map (·.1)).Nodup∧hol.length≤n∧f7 H ws hol b∧b≤8000000
 i:∃ inc,H A.i=some (.dK inc)∧mQ inc ws∧inc.length≤n
 me:H A.me=some (.dK m)
 ac:iL m
 ml:m.length≤n
 rh:A.r≠A.h
 ri:A.r≠A.i
 rm:A.r≠A.me
 hi:A.h≠A.i
 hm:A.h≠A.me
 im:A.i≠A.me
def cQ(E:List Ag)(H H':Hp):Prop:=∀ b o,b ∉ E→H b=some o→H' b=some o
theorem cQ.trans{E:List Ag}{H H1 H2:Hp}(a:cQ E H H1)(b:cQ E H1 H2):cQ E H H2:=fun c o n h=>b c o n (a c o n h)
theorem cQ.refl{E:List Ag}(H:Hp):cQ E H H:=fun _ _ _ h=>h
theorem cQ.same{E:List Ag}{H H1 H2:Hp}(a:cQ E H H1)(b:cA H1 H2):cQ E H H2:=fun c o n h=>b c o (a c o n h)
theorem dE{E:List Ag}{H H1:Hp}(a:cA H H1):cQ E H H1:=fun c o _ h=>a c o h
theorem Mom.ne{H:Hp}{C M:Ag}{A:MA}{ws:List Str}{n:Nat}{m:Mnd}(h:Mom H C M A ws n m):M≠A.r∧M≠A.h∧M≠A.i∧M≠A.me:=by
 obtain⟨rks,hr,_⟩:=h.r;obtain⟨hol,b,hh,_⟩:=h.h;obtain⟨inc,hi,_⟩:=h.i;exact⟨bT h.ins hr (fun z=>nomatch z),bT h.ins hh (fun z=>nomatch z),bT h.ins hi (fun z=>nomatch z),bT h.ins h.me (fun z=>nomatch z)⟩
theorem Mom.same{H H':Hp}{C M:Ag}{A:MA}{ws:List Str}{n:Nat}{m:Mnd}(h:Mom H C M A ws n m)(s:cA H H'):Mom H' C M A ws n m:=by
 obtain⟨rks,hr,r2⟩:=h.r;obtain⟨hol,b,hh,h2,h3,h4,h5⟩:=h.h;obtain⟨inc,hi,i2⟩:=h.i;exact⟨s _ _ h.ins,⟨rks,s _ _ hr,r2⟩,⟨hol,b,s _ _ hh,h2,h3,h4.on fun q xs e=>s _ _ e,h5⟩,⟨inc,s _ _ hi,i2⟩,s _ _ h.me,h.ac,h.ml,h.rh,h.ri,h.rm,h.hi,h.hm,h.im⟩
theorem Mom.mono{H:Hp}{C M:Ag}{A:MA}{ws:List Str}{n k:Nat}{m:Mnd}(h:Mom H C M A ws n m)(q:n≤k):Mom H C M A ws k m:=by
 obtain⟨hol,b,hh,h2,h3,h4,h5⟩:=h.h;obtain⟨inc,hi,i2,i3⟩:=h.i;exact⟨h.ins,h.r,⟨hol,b,hh,h2,by omega,h4,h5⟩,⟨inc,hi,i2,by omega⟩,h.me,h.ac,by have:=h.ml;omega,h.rh,h.ri,h.rm,h.hi,h.hm,h.im⟩
theorem Mom.setM{H:Hp}{C M:Ag}{A:MA}{ws:List Str}{n:Nat}{m F:Mnd}(h:Mom H C M A ws n m)(ac:iL F)(hl:F.length≤n):Mom (upd H A.me (.dK F)) C M A ws n F:=by
 obtain⟨n1,n2,n3,n4⟩:=h.ne;obtain⟨rks,hr,r2⟩:=h.r;obtain⟨hol,b,hh,h2,h3,h4,h5⟩:=h.h;obtain⟨inc,hi,i2⟩:=h.i;have t:fQ H (upd H A.me (.dK F)):=fun q xs e=>by rw[aF (bT e h.me (fun z=>nomatch z))];exact e
 exact⟨by rw[aF n4];exact h.ins,⟨rks,by rw[aF h.rm];exact hr,r2⟩,⟨hol,b,by rw[aF h.hm];exact hh,h2,h3,h4.on t,h5⟩,⟨inc,by rw[aF h.im];exact hi,i2⟩,aA,ac,hl,h.rh,h.ri,h.rm,h.hi,h.hm,h.im⟩
theorem Mom.setI{H:Hp}{C M:Ag}{A:MA}{ws:List Str}{n:Nat}{m:Mnd}{inc:List (Key×V)}(h:Mom H C M A ws n m)(ok:mQ inc ws)(hl:inc.length≤n):Mom (upd H A.i (.dK inc)) C M A ws n m:=by
 obtain⟨n1,n2,n3,n4⟩:=h.ne;obtain⟨rks,hr,r2⟩:=h.r;obtain⟨hol,b,hh,h2,h3,h4,h5⟩:=h.h;obtain⟨aIp,hi,i2⟩:=h.i;have t:fQ H (upd H A.i (.dK inc)):=fun q xs e=>by rw[aF (bT e hi (fun z=>nomatch z))];exact e
 exact⟨by rw[aF n3];exact h.ins,⟨rks,by rw[aF h.ri];exact hr,r2⟩,⟨hol,b,by rw[aF h.hi];exact hh,h2,h3,h4.on t,h5⟩,⟨inc,aA,ok,hl⟩,by rw[aF h.im.symm];exact h.me,h.ac,h.ml,h.rh,h.ri,h.rm,h.hi,h.hm,h.im⟩
theorem Mom.setH{H:Hp}{C M:Ag}{A:MA}{ws:List Str}{n k:Nat}{m:Mnd}{F:List (Key×V)}{b:Int}(h:Mom H C M A ws n m)(G:(F.map (·.1)).Nodup)(hl:F.length≤k)(O:n≤k)(ht:f7 H ws F b)(J:b≤8000000):Mom (upd H A.h (.dK F)) C M A ws k m:=by
 obtain⟨n1,n2,n3,n4⟩:=h.ne;obtain⟨rks,hr,r2⟩:=h.r;obtain⟨hol0,b0,hh,_⟩:=h.h;obtain⟨inc,hi,i2,i3⟩:=h.i;have t:fQ H (upd H A.h (.dK F)):=fun q xs e=>by rw[aF (bT e hh (fun z=>nomatch z))];exact e
 exact⟨by rw[aF n2];exact h.ins,⟨rks,by rw[aF h.rh];exact hr,r2⟩,⟨F,b,aA,G,hl,ht.on t,J⟩,⟨inc,by rw[aF h.hi.symm];exact hi,i2,by omega⟩,by rw[aF h.hm.symm];exact h.me,h.ac,by have:=h.ml;omega,h.rh,h.ri,h.rm,h.hi,h.hm,h.im⟩
def dv:A8→Option V
 | .str z=>some (.str z)
 | .int i=>some (.int i)
 | _=>none
def dvs:List A8→Option (List V)
 | []=>some []
 | d :: ds=>match dv d,dvs ds with
  | some v,some vs=>some (v :: vs)
  | _,_=>none
theorem aIk{m:Bool}{H:Hp}:∀{xs:List V}{ds:List A8}{vs:List V},cE m H xs ds→dvs ds=some vs→xs=vs
 | _,_,_,.nil,e=>by cases e;rfl
 | _,_,_,@cE.cons _ _ x d xs ds a r,e=>by
  unfold dvs at e;split at e
  ·next v vs e1 e2=>
   cases e;rw[aIk r e2];cases a <;> cases e1 <;> rfl
  ·cases e
theorem nO{m:Bool}{H:Hp}{xs:List V}{ds:List A8}{vs:List V}(h:cE m H xs ds)(e:dvs ds=some vs:=by rfl):xs=vs:=aIk h e
inductive Rd2(m:Bool)(H:Hp)(d e:A8):List V→Prop
 | mk {x y:V} (a:RdV m H x d) (b:RdV m H y e):Rd2 m H d e [x,y]
theorem rd2{m:Bool}{H:Hp}{xs:List V}{d e:A8}(h:cE m H xs [d,e]):Rd2 m H d e xs:=by
 cases h with
 | cons a h=>
 cases h with
 | cons b h=>
 cases h;exact⟨a,b⟩
def pR(H:Hp)(ws:List Str)(v:V)(hs:Str)(n:Int):Prop:=∃(t tp:Ag) (xs:List V) (ps:List Pc),v=.ref t∧H t=some (.tup [.str hs,.ref tp])∧H tp=some (.tup xs)∧eB H xs ps∧f6 ws ps∧acr ps=n
theorem pR.on{H H':Hp}{ws:List Str}{v:V}{hs:Str}{n:Int}(h:pR H ws v hs n)(t:fQ H H'):pR H' ws v hs n:=by
 obtain⟨a,b,xs,ps,h1,h2,h3,h4,h5⟩:=h;exact⟨a,b,xs,ps,h1,t _ _ h2,t _ _ h3,h4.on t,h5⟩
structure Ex where
 hs:List (Key×V)
 ac:Str→Int
 inc:List (Key×V)
 men:Mnd
def lG(ac:Str→Int)(z:Str)(n:Int):Str→Int:=fun y=>if y=z then n else ac y
structure oM(H:Hp)(ws:List Str)(hol hs:List (Key×V))(ac:Str→Int):Prop where
 ks:hol.map (·.1)=hs.map (·.1)
 at':∀ k v,bF hol k=some v→∃ z house,k=Ac z∧bF hs k=some (.str house)∧pR H ws v house (ac z)
theorem pS(k:Key):∀ l:List (Key×V),(l.any fun q=>decide (q.1=k))=(l.map (·.1)).any fun j=>decide (j=k)
 | []=>rfl
 | p :: r=>by rw[Da,Au,Da,pS k r]
theorem pT{l q:List (Key×V)}(h:l.map (·.1)=q.map (·.1))(k:Key):(bF l k).isSome=(bF q k).isSome:=by
 rw[← dR,← dR,pS,pS,h]
theorem aA3(l:List (Key×V))(k:Key)(v:V):(bS l k v).map (·.1)=if (bF l k).isSome=true then l.map (·.1) else l.map (·.1) ++ [k]:=by
 unfold bS;rw[dR];split
 ·rw[E5];congr 1;funext q;show(if q.1=k then(q.1,v) else q).1=q.1;split <;> rfl
 ·rw[Aw];rfl
theorem w8(k:Key):∀ l:List (Key×V),(bV l k).map (·.1)=(l.map (·.1)).filter fun j=>decide (j≠k)
 | []=>rfl
 | p :: r=>by
  have q:=w8 k r;by_cases e:p.1=k
  ·rw[iU e,q,Au,BF,Ia (by simp[e])]
  ·rw[iV e,Au,q,Au,BF,Ib (by simp[e])]
theorem oM.on{H H':Hp}{ws:List Str}{q hs:List (Key×V)}{ac:Str→Int}(h:oM H ws q hs ac)(t:fQ H H'):oM H' ws q hs ac:=⟨h.ks,fun k v e=>by
 obtain⟨z,house,h1,h2,h3⟩:=h.at' k v e;exact⟨z,house,h1,h2,h3.on t⟩⟩
theorem oM.put{H:Hp}{ws:List Str}{G hs:List (Key×V)}{ac:Str→Int}{z:Str}{v:V}{house:Str}{n:Int}(h:oM H ws G hs ac)(hv:pR H ws v house n):oM H ws (bS G (Ac z) v) (bS hs (Ac z) (.str house)) (lG ac z n):=by
 refine⟨by rw[aA3,aA3,pT h.ks,h.ks],fun k u e=>?_⟩;rw[dJ]at e;by_cases F:k=Ac z
 ·rw[Ib F]at e;cases e;refine⟨z,house,F,by rw[dJ,Ib F],?_⟩;unfold lG;rw[Ib rfl];exact hv
 ·rw[Ia F]at e;obtain⟨y,hy,h1,h2,h3⟩:=h.at' k u e;refine⟨y,hy,h1,by rw[dJ,Ia F];exact h2,?_⟩;unfold lG;rw[Ia (fun q=>F (by rw[h1,q]))];exact h3
theorem oM.drop{H:Hp}{ws:List Str}{q hs:List (Key×V)}{ac:Str→Int}(h:oM H ws q hs ac)(k:Key):oM H ws (bV q k) (bV hs k) ac:=by
 refine⟨by rw[w8,w8,h.ks],fun j u e=>?_⟩;rw[g8]at e;by_cases F:j=k
 ·rw[Ib F]at e;cases e
 ·rw[Ia F]at e;obtain⟨y,hy,h1,h2,h3⟩:=h.at' j u e;exact⟨y,hy,h1,by rw[g8,Ia F];exact h2,h3⟩
theorem oM.none{H:Hp}{ws:List Str}{F hs:List (Key×V)}{ac:Str→Int}(h:oM H ws F hs ac){k:Key}(e:bF F k=none):bF hs k=none:=by
 have:=pT h.ks k;rw[e]at this;cases q:bF hs k with
 | none=>rfl
 | some x=>rw[q]at this;cases this
structure gQ(H:Hp)(C M:Ag)(A:MA)(ws:List Str)(n:Nat)(S:Ex):Prop where
 mo:Mom H C M A ws n S.men
 hx:∃ hol,H A.h=some (.dK hol)∧oM H ws hol S.hs S.ac
 ix:H A.i=some (.dK S.inc)
theorem gQ.same{H H':Hp}{C M:Ag}{A:MA}{ws:List Str}{n:Nat}{S:Ex}(h:gQ H C M A ws n S)(s:cA H H'):gQ H' C M A ws n S:=by
 obtain⟨hol,h1,h2⟩:=h.hx;exact⟨h.mo.same s,⟨hol,s _ _ h1,h2.on (bU s)⟩,s _ _ h.ix⟩
theorem gQ.mono{H:Hp}{C M:Ag}{A:MA}{ws:List Str}{n k:Nat}{S:Ex}(h:gQ H C M A ws n S)(q:n≤k):gQ H C M A ws k S:=⟨h.mo.mono q,h.hx,h.ix⟩
theorem gQ.setM{H:Hp}{C M:Ag}{A:MA}{ws:List Str}{n:Nat}{S:Ex}{F:Mnd}(h:gQ H C M A ws n S)(ac:iL F)(hl:F.length≤n):gQ (upd H A.me (.dK F)) C M A ws n { S with men:=F }:=by
 obtain⟨hol,h1,h2⟩:=h.hx;exact⟨h.mo.setM ac hl,⟨hol,by rw[aF h.mo.hm];exact h1,h2.on fun q xs e=>by rw[aF (bT e h.mo.me (fun z=>nomatch z))];exact e⟩,by rw[aF h.mo.im];exact h.ix⟩
theorem gQ.setI{H:Hp}{C M:Ag}{A:MA}{ws:List Str}{n:Nat}{S:Ex}{inc:List (Key×V)}(h:gQ H C M A ws n S)(ok:mQ inc ws)(hl:inc.length≤n):gQ (upd H A.i (.dK inc)) C M A ws n { S with inc:=inc }:=by
 obtain⟨hol,h1,h2⟩:=h.hx;exact⟨h.mo.setI ok hl,⟨hol,by rw[aF h.mo.hi];exact h1,h2.on fun q xs e=>by rw[aF (bT e h.ix (fun z=>nomatch z))];exact e⟩,aA⟩
theorem gQ.setH{H:Hp}{C M:Ag}{A:MA}{ws:List Str}{n k:Nat}{S:Ex}{F hs:List (Key×V)}{ac:Str→Int}{b:Int}(h:gQ H C M A ws n S)(G:(F.map (·.1)).Nodup)(hl:F.length≤k)(J:n≤k)(ht:f7 H ws F b)(O:b≤8000000)(hx:oM H ws F hs ac):
  gQ (upd H A.h (.dK F)) C M A ws k { S with hs:=hs,ac:=ac }:=by
 obtain⟨hol0,h1,h2⟩:=h.hx;exact⟨h.mo.setH G hl J ht O,⟨F,aA,hx.on fun q xs e=>by rw[aF (bT e h1 (fun z=>nomatch z))];exact e⟩,by rw[aF h.mo.hi.symm];exact h.ix⟩
def aP(S:Ex)(z:Str):Bool:=(bF S.hs (Ac z)).isSome
def cO(S:Ex)(land:Str)(R:List P3):Str:=if aP S land=false then "land" else if (R.map fun p=>p.2.2).sum≠S.ac land then "acres" else if (R.any fun p=>decide (p.1≠land) && aP S p.1)=true then "name" else "done"
def fG(S:Ex)(land:Str)(R:List P3):Ex:=R.foldl (fun S p=>{ S with hs:=bS S.hs (Ac p.1) (.str p.2.1),ac:=lG S.ac p.1 p.2.2 }) { S with hs:=bV S.hs (Ac land) }
def cK(S:Ex)(R:List Str)(land:Str):Str:=if R.all (aP S)=false then "land" else if (R.any fun z=>decide (bF S.hs (Ac z)≠bF S.hs (Ac (R.headD ""))))=true then "houses" else if (!decide (land∈R) && aP S land)=true then "name" else "done"
def fV(S:Ex)(R:List Str)(land:Str):Ex:={ S with hs:=bS (R.foldl (fun d z=>bV d (Ac z)) S.hs) (Ac land) ((bF S.hs (Ac (R.headD ""))).getD .non),ac:=lG S.ac land (R.map S.ac).sum }
def dF(S:Ex)(land house:Str):Str:=if aP S land=false then "land" else if bF S.hs (Ac land)=some (.str house) then "same" else "done"
def dZ(S:Ex)(field:Str)(n:Int):Str:=match bF S.inc (Ac field)with
 | some (.int k)=>if n < k then "done" else "inch"
 | _=>"inch"
inductive f8(S:Ex):Str→List A8→Str→Ex→Prop
 | part {land:Str} {R:List P3}:f8 S "part" [.str land,.tuple (R.map pD)] (cO S land R) (if cO S land R="done" then fG S land R else S)
 | join {land:Str} {R:List Str}:f8 S "join" [.tuple (R.map BC),.str land] (cK S R land) (if cK S R land="done" then fV S R land else S)
 | forfeit {land house:Str}:f8 S "forfeit" [.str land,.str house] (dF S land house) (if dF S land house="done" then{ S with hs:=bS S.hs (Ac land) (.str house) } else S)
 | measure {field:Str} {n:Int}:f8 S "measure" [.str field,.int n] "done" { S with inc:=bS S.inc (Ac field) (.int n) }
 | mend {a b:Str}:f8 S "mend" [.str a,.str b] (if a∈rd S.men b then "ring" else "done") { S with men:=lO S.men a b }
 | alone {a:Str}:f8 S "alone" [.str a] (if (bF S.men (Ac a)).isSome=true then "done" else "none") { S with men:=i9 S.men a }
 | breach {field:Str} {n:Int} {r:List A8}:f8 S "breach" (.str field :: .int n :: r) (dZ S field n) S
 | view {field:Str} {n:Int} {r:List A8}:f8 S "view" (.str field :: .int n :: r) (dZ S field n) S
inductive zK(C T:Ag)(W:List Str)(vs:List V)(H:Hp)(Q:VK)(u3_:XK):Prop
 | mk (M:Ag) (A:MA) (ws:List Str) (n:Nat) (S:Ex) (x:V) (r:cV) (q0:vs=[.ref M,x]) (q1:gQ H C M A ws n S) (q2:n≤10000) (q3:Tb T H) (q4:RdV false H x r.d) (q5:r.Ok ws) (q6:r.word∈W) (q7:∀ z S' H',f8 S r.word r.ds z S'→cQ [T,A.h,A.i,A.me] H H'→Tb T H'→gQ H' C M A ws (n + 6) S'→Q (.str z) H'):zK C T W vs H Q u3_
def jA(C T:Ag)(W:List Str):Sp:=fun vs H Q u3_=>zK C T W vs H Q u3_
theorem jP{T a:Ag}{iz kvs':List (Key×V)}{H:Hp}(g:Tb T H)(e:H a=some (.dK iz)):Tb T (upd H a (.dK kvs')):=by
 obtain⟨ps,h1,h2,q⟩:=g.ex;refine⟨ps,by rw[aF (bT h1 e (fun z=>nomatch z))];exact h1,h2,?_⟩;rcases q with q | ⟨c,q,F⟩
 ·exact .inl q
 ·exact .inr ⟨c,q,by rw[aF (bT F e (fun z=>nomatch z))];exact F⟩
theorem cR{E:List Ag}{a:Ag}{o:HO}{H:Hp}(h:a∈E):cQ E H (upd H a o):=fun b u n e=>by
 rw[aF (fun z=>n (by rw[z];exact h))];exact e
theorem mS{H:Hp}:∀{xs:List V}{ps F:List Pc},eB H xs ps→eB H xs F→ps=F
 | _,_,_,.nil,.nil=>rfl
 | _,_,_,.cons r t,.cons G t'=>by
  obtain⟨q,e,h⟩:=r;obtain⟨q',e',h'⟩:=G;rw[e]at e';cases e';rw[h]at h';unfold pcT at h';injection h' with h';injection h' with h';injection h' with h1 h';injection h' with h2 h';injection h' with h3 h';injection h1 with h1;injection h2 with h2;injection h3 with h3;rw[mS t t',FS h1 (FS h2 h3)]
theorem zQ{H:Hp}{ws:List Str}{l:List (Key×V)}{n a:Int}{k:Key}{v u:V}(h:f7 H ws l n)(J:(l.map (·.1)).Nodup)(e:bF l k=some v)(hu:oJ H ws u a)(hv:oJ H ws v a):∃ G,f7 H ws (bS l k u) G∧G≤n:=by
 have q:(l.any fun M=>decide (M.1=k))=true:=by rw[dR,e];rfl
 unfold bS;rw[Ib q];clear q
 induction h with
 | nil=>cases e
 | @cons j x r b m h t O=>
  obtain⟨h1,h2⟩:=AY.mp J;rw[Au];by_cases F:j=k
  ·rw[c4 (p:=(j,x)) F]at e;cases e;rw[Ib F,oK (by rw[← F];exact h1)];have:a=b:=by
    obtain⟨t1,tp1,s1,xs1,ps1,e1,f1,g1,p1,_,q1⟩:=hv;obtain⟨t2,tp2,s2,xs2,ps2,e2,f2,g2,p2,_,q2⟩:=h;subst e1;cases e2;rw[f1]at f2;injection f2 with f2;injection f2 with f2;injection f2 with f3 f4;injection f4 with f4;injection f4 with f4;subst f4;rw[g1]at g2;injection g2 with g2;injection g2 with g2;subst g2;rw[← q1,← q2,mS p1 p2]
   exact⟨a + m,.cons hu t,by omega⟩
  ·rw[cN (p:=(j,x)) F]at e;rw[Ia F];obtain⟨G,h3,h4⟩:=O h2 e;exact⟨b + G,.cons h h3,by omega⟩
theorem vV:cC ["moment","row","land","house","holding","pieces"] ["moment","row"] (aO g9):=⟨rfl,rfl,rfl,by decide,rfl,by decide,by decide⟩
theorem w9{f C T:Ag}{fd:A3}(F:Fun K "do_forfeit" "do_forfeit" g9 f fd)(hc:MC K C):cY P w K mg base CX0 1 f fd ["moment","row"] (jA C T ["forfeit"]):=by
 refine F.ok vV (fun vs H Q E h=>?_) (fun ao A outer s H vs Q E hr h=>?_)
 ·obtain⟨M,A,ws,n,S,x,r,rfl,_⟩:=h;rfl
 ·obtain⟨M,MA,ws,n,S,x,r,rfl,mx,hn,tb,rdv,ok,hw,k⟩:=h;have O:=mx.mo;have hu:=d8 hr;have nd:=vV.nd;refine⟨_,aB (aAn (i:=2) (j:=3) rfl nd rfl rfl (by decide) rfl rfl (aG (aR aW (pv 1) aD Ig) (aG (aR aW (pv 1) aD Ig) aE)) rfl)
   (aB (cB (iW (iT hu (pv 2) (dG (pv 0) rfl))) (aM (bJ aN)) bB)
   (aB (jR (bG hu (dG (pv 0) rfl) (pv 2) Ig) (iX rfl (b9 (aZ (i:=4) nd rfl (Av rfl)) (b9 (aZ (i:=5) nd rfl (Av rfl)) gM))))
   (aB (cB (aX c3 (pv 4) (pv 3) (bH _)) (aM (bJ aN)) bB)
   (aB (c8 hu (dG (pv 0) rfl) (pv 2) (cJ (aG (pv 3) (aG (pv 5) aE))) rfl)
   (aM (bJ aN)))))),?_⟩
  obtain⟨t,b8,rfl,ht,hrest⟩:=cV.Ok.tup (fs:=ws) rdv;have aa:r.word="forfeit":=by simpa using hw
  have rs:=ok.rs;obtain⟨word,name,day,ds⟩:=r;dsimp only at aa rs hrest ht k;subst aa;cases rs with
  | @forfeit q G hl hh=>
  obtain rfl:=nO hrest;refine⟨_,rfl,t,_,3,_,rfl,rfl,aH ht,rfl,_,rfl,t,_,4,_,rfl,rfl,aH ht,rfl,_,_,rfl,?_⟩;obtain⟨hol,b,hh1,hnd,hlen,hT,hb⟩:=O.h;obtain⟨hol',hh1',hX⟩:=mx.hx;rw[hh1]at hh1';cases hh1';have kF:∀(z:Str) (S':Ex),dF S q G=z→(if z="done" then{ S with hs:=bS S.hs (Ac q) (.str G) } else S)=S'→f8 S "forfeit" [.str q,.str G] z S':=by
   rintro z S' rfl rfl;exact .forfeit
  refine⟨_,rfl,_,rfl,M,C,_,_,_,rfl,O.ins,hc.cl,hc.h,rfl,MA.h,_,rfl,.inl ⟨hol,Ac q,.inl hh1,rfl,rfl⟩,_,rfl,?_⟩;cases hv:bF hol (Ac q)with
  | none=>
   have e0:dF S q G="land":=by
    unfold dF aP;rw[hX.none hv];rfl
   exact fU (k _ _ _ (kF _ _ e0 (Ia (by decide))) (cQ.refl H) tb (mx.mono (by omega)))
  | some v=>
   refine dU ?_;obtain⟨a,b',he,hT',hab⟩:=hT.take hv;obtain⟨_,hs,hz,hsv,t3,tp,xs,ps,rfl,e1,e2,e3,e4,e5⟩:=hX.at' _ _ hv;cases hz;have Z:aP S q=true:=by unfold aP;rw[hsv];rfl
   refine⟨_,rfl,M,C,_,_,_,rfl,O.ins,hc.cl,hc.h,rfl,_,rfl,MA.h,_,rfl,.inl ⟨hol,Ac q,.inl hh1,rfl,hv.symm⟩,t3,_,rfl,aH e1,rfl,_,_,rfl,_,_,rfl,rfl,_,rfl,_,rfl,rfl,_,rfl,cT (fun g=>?_) fun g=>?_⟩
   ·have g':hs=G:=V.str.inj (Ie g);have e0:dF S q G="same":=by
     unfold dF;rw[Z,Ia (by decide),hsv,g',Ib rfl]
    exact k _ _ _ (kF _ _ e0 (Ia (by decide))) (cQ.refl H) tb (mx.mono (by omega))
   have e0:dF S q G="done":=by
    unfold dF;rw[Z,Ia (by decide),hsv,Ia (fun z=>g (Ic (Cc.inj z)))]
   refine⟨_,rfl,_,rfl,zZ2,fun Y ak=>?_⟩;have J:=aK (o:=.tup [V.str G,.ref tp]) ak;have ab:=O.same J;have ag:Tb T _:=tb.same J;refine⟨_,rfl,M,C,_,_,_,rfl,ab.ins,hc.cl,hc.h,rfl,_,rfl,MA.h,_,rfl,gP.k (k:=Ac q) (J _ _ hh1) (BS hlen (by rw[B0];omega)),?_⟩;have af:pR (upd H Y (.tup [V.str G,.ref tp])) ws (.ref Y) G (S.ac q):=⟨Y,tp,xs,ps,rfl,aA,J _ _ e2,e3.same J,e4,e5⟩
   have ae:=(hX.on (bU J)).put (z:=q) af;have al:lG S.ac q (S.ac q)=S.ac:=by
    funext y;unfold lG;split
    ·rename_i e;rw[e]
    ·rfl
   rw[al]at ae;have ah:a=S.ac q:=by
    obtain⟨_,_,_,_,_,r1,r2,r3,r4,_,r5⟩:=he;cases r1;rw[e1]at r2;cases r2;rw[e2]at r3;cases r3;rw[← r5,← e5,mS r4 e3]
   have ai:oJ (upd H Y (.tup [V.str G,.ref tp])) ws (.ref Y) a:=⟨Y,tp,G,xs,ps,rfl,aA,J _ _ e2,e3.same J,e4,by rw[ah];exact e5⟩
   obtain⟨b2,hT2,hb2⟩:=zQ (k:=Ac q) (hT.on (bU J)) hnd hv ai (he.on (bU J));refine k _ _ _ (kF _ _ e0 (Ib rfl)) ((dE J).trans (cR (by simp))) (jP ag (J _ _ hh1)) ((mx.same J).setH (lF _ hnd) ?_ (by omega) hT2 (by omega) ae);have:=cD hol (Ac q) (.ref Y);omega
theorem lH(x:Str):∀ l:List Str,inV (.str x) (l.map V.str)=decide (x∈l)
 | []=>by simp[inV]
 | y :: l=>by
  have q:=lH x l;unfold inV at q ⊢;rw[Au,Da,q];by_cases e:y=x
  ·subst e;simp[eqV]
  ·have:x≠y:=fun z=>e z.symm;simp[eqV,e,this]
theorem aCM:cC ["moment","row"] ["moment","row"] (aO hG):=⟨rfl,rfl,rfl,by decide,rfl,by decide,by decide⟩
theorem xA{f C T:Ag}{fd:A3}(F:Fun K "do_measure" "do_measure" hG f fd)(hc:MC K C):cY P w K mg base CX0 1 f fd ["moment","row"] (jA C T ["measure"]):=by
 refine F.ok aCM (fun vs H Q E h=>?_) (fun ab A outer s H vs Q E hr h=>?_)
 ·obtain⟨M,A,ws,n,S,x,r,rfl,_⟩:=h;rfl
 ·obtain⟨M,MA,ws,n,S,x,r,rfl,mx,hn,tb,rdv,ok,hw,k⟩:=h;have Y:=mx.mo;have hu:=d8 hr;refine⟨_,aB (c8 hu (dG (pv 0) rfl) (aR aW (pv 1) aD Ig) (aR aW (pv 1) aD Ig) rfl) (aM (bJ aN)),?_⟩;obtain⟨t,b8,rfl,ht,hrest⟩:=cV.Ok.tup (fs:=ws) rdv;have O:r.word="measure":=by simpa using hw
  have rs:=ok.rs;have fi:=ok.fi;obtain⟨word,name,day,ds⟩:=r;dsimp only at O rs hrest ht fi k;subst O;cases rs with
  | @measure q G hf h0 h1=>
  obtain rfl:=nO hrest;obtain⟨inc,hi,i2,i3⟩:=Y.i;have Z:=mx.ix;rw[hi]at Z;have J:inc=S.inc:=by injection Z with z;injection z
  subst J;refine⟨_,rfl,t,_,4,_,rfl,rfl,aH ht,rfl,_,rfl,M,C,_,_,_,rfl,Y.ins,hc.cl,hc.i,rfl,_,rfl,t,_,3,_,rfl,rfl,aH ht,rfl,MA.i,_,rfl,gP.k (k:=Ac q) hi (BS i3 (by rw[B0];omega)),?_⟩;have hl:=cD S.inc (Ac q) (.int G);refine k _ _ _ .measure (cR (by simp)) (jP tb hi) ((mx.mono (show n≤n + 6 by omega)).setI (fun w hw=>?_) (by omega));rw[dJ];by_cases e:w=q
  ·rw[Ib (by rw[e])];exact⟨G,rfl⟩
  ·rw[Ia (fun z=>e (Ac.inj z))];exact i2 w hw
theorem aHm:cC ["moment","row"] ["moment","row"] (aO nE):=⟨rfl,rfl,rfl,by decide,rfl,by decide,by decide⟩
theorem aCN{f C T:Ag}{fd:A3}(F:Fun K "do_look" "do_look" nE f fd)(hc:MC K C):cY P w K mg base CX0 1 f fd ["moment","row"] (jA C T ["breach","view"]):=by
 refine F.ok aHm (fun vs H Q E h=>?_) (fun ag A outer s H vs Q E hr h=>?_)
 ·obtain⟨M,A,ws,n,S,x,r,rfl,_⟩:=h;rfl
 ·obtain⟨M,MA,ws,n,S,x,r,rfl,mx,hn,tb,rdv,ok,hw,k⟩:=h;have aa:=mx.mo;have hu:=d8 hr;refine⟨_,aM (bJ (aC3 (aX oU (aR aW (pv 1) aD Ig) (bG hu (dG (pv 0) rfl) (aR aW (pv 1) aD Ig) Ig) (bH _)) aN aN)),?_⟩;obtain⟨t,b8,rfl,ht,G⟩:=cV.Ok.tup (fs:=ws) rdv;have Z:r.word="breach"∨r.word="view":=by simpa using hw
  obtain⟨q,J,O,hds,hin⟩:∃ q J O,r.ds=.str q :: .int J :: O∧q∈ws:=by
   have rs:=ok.rs;have fi:=ok.fi;rcases Z with e | e
   ·rw[e]at rs fi;cases hd:r.ds with
    | nil=>rw[hd]at rs;cases rs
    | cons d0 ad=>
     rw[hd]at rs fi;cases rs;exact⟨_,_,_,rfl,fi (by decide) _ _ rfl⟩
   ·rw[e]at rs fi;cases hd:r.ds with
    | nil=>rw[hd]at rs;cases rs
    | cons d0 ad=>
     rw[hd]at rs fi;cases rs;exact⟨_,_,_,rfl,fi (by decide) _ _ rfl⟩
  have kL:∀ z,dZ S q J=z→f8 S r.word r.ds z S:=by
   rintro z rfl;rw[hds];rcases Z with e | e
   ·rw[e];exact .breach
   ·rw[e];exact .view
  rw[hds]at G;cases G with
  | cons q1 G=>
  cases G with
  | cons q2 G=>
  cases q1;cases q2;have hz:=ht;obtain⟨inc,hi,i2,i3⟩:=aa.i;have ab:=mx.ix;rw[hi]at ab;have Y:inc=S.inc:=by injection ab with z;injection z
  subst Y;obtain⟨v,hv⟩:=i2 q hin;have a3:∀(a b c d e:V) (r:List V),atI (a :: b :: c :: d :: e :: r) 3=some d∧atI (a :: b :: c :: d :: e :: r) 4=some e:=fun a b c d e r=>by
   have hl:(a :: b :: c :: d :: e :: r).length=r.length + 5:=rfl;unfold atI ixN;rw[hl,Ib (by decide),Ib (by omega),Ib (by decide),Ib (by omega)];exact⟨rfl,rfl⟩
  refine⟨_,rfl,t,_,4,_,rfl,rfl,aH ht,(a3 _ _ _ _ _ _).2,_,rfl,M,C,_,_,_,rfl,aa.ins,hc.cl,hc.i,rfl,_,rfl,t,_,3,_,rfl,rfl,aH ht,(a3 _ _ _ _ _ _).1,MA.i,_,rfl,.inl ⟨S.inc,Ac q,.inl hi,rfl,hv.symm⟩,_,_,rfl,rfl,_,rfl,?_⟩;have el:dZ S q J=if J < v then("done":Str) else "inch":=by
   unfold dZ;rw[hv]
  exact cT (fun g=>k _ _ _ (kL _ (by rw[el,Ib (Ie g)])) (cQ.refl H) tb (mx.mono (by omega))) fun g=>k _ _ _ (kL _ (by rw[el,Ia (fun z=>g (Ic z))])) (cQ.refl H) tb (mx.mono (by omega))
theorem aEy:cC ["moment","row","house","other"] ["moment","row"] (aO nC):=⟨rfl,rfl,rfl,by decide,rfl,by decide,by decide⟩
theorem aCO{f C T:Ag}{fd:A3}(F:Fun K "do_mend" "do_mend" nC f fd)(hc:MC K C)
  (GR:Cl P w K mg base 1 "road_from" ["menders","house"] aEv):cY P w K mg base CX0 2 f fd ["moment","row"] (jA C T ["mend"]):=by
 refine F.ok aEy (fun vs H Q E h=>?_) (fun ak A outer s H vs Q E hr h=>?_)
 ·obtain⟨M,A,ws,n,S,x,r,rfl,_⟩:=h;rfl
 ·obtain⟨M,MA,ws,n,S,x,r,rfl,mx,hn,tb,rdv,ok,hw,k⟩:=h;have J:=mx.mo;have hu:=d8 hr;have nd:=aEy.nd;refine⟨_,aB (aAn (i:=2) (j:=3) rfl nd rfl rfl (by decide) rfl rfl (aG (aR aW (pv 1) aD Ig) (aG (aR aW (pv 1) aD Ig) aE)) rfl)
   (aB (cB (aX gJ (pv 2) (cG GR hr (aG (dG (pv 0) rfl) (aG (pv 3) aE))) (by with_unfolding_all rfl)) (aM (bJ aN)) bB)
   (aB (c8 hu (dG (pv 0) rfl) (pv 2) (pv 3) rfl)
   (aM (bJ aN)))),?_⟩
  obtain⟨t,b8,rfl,ht,hrest⟩:=cV.Ok.tup (fs:=ws) rdv;have Z:r.word="mend":=by simpa using hw
  have rs:=ok.rs;obtain⟨word,name,day,ds⟩:=r;dsimp only at Z rs hrest ht k;subst Z;cases rs with
  | @mend q G hh ho aj=>
  obtain rfl:=nO hrest;have ml:=J.ml;refine⟨_,rfl,t,_,3,_,rfl,rfl,aH ht,rfl,_,rfl,t,_,4,_,rfl,rfl,aH ht,rfl,_,_,rfl,_,rfl,_,rfl,M,C,_,_,_,rfl,J.ins,hc.cl,hc.m,rfl,_,rfl,MA.me,G,S.men,rfl,J.me,J.ac,by omega,fun L H1 hL Y ab=>?_⟩;refine⟨L,_,rfl,.inl (aU ab),rfl,hJ _,_,rfl,?_⟩;have O:=J.same Y;have aa:Tb T H1:=tb.same Y;have kM:∀(z:Str) (m':Mnd),(if q∈rd S.men G then("ring":Str) else "done")=z→lO S.men q G=m'→f8 S "mend" [.str q,.str G] z { S with men:=m' }:=by
   rintro z m' rfl rfl;exact .mend
  show if (if false=true then !inV (V.str q) ((rd S.men G).map V.str) else inV (V.str q) ((rd S.men G).map V.str))=true then _ else _
  rw[Ia AB,lH];by_cases g:q∈rd S.men G
  ·rw[Ic g];exact fU (k _ _ _ (kM _ _ (Ib g) (Ib g)) (dE Y) aa ((mx.same Y).mono (by omega)))
  ·rw[decide_eq_false g];refine dU ?_;refine⟨_,rfl,_,rfl,M,C,_,_,_,rfl,O.ins,hc.cl,hc.m,rfl,_,rfl,MA.me,_,rfl,gP.k (k:=Ac q) O.me (BS ml (by rw[B0];omega)),?_⟩;have ad:=aCH S.men q G;have ac:=J.ac.mend q G;have em:lO S.men q G=bS S.men (Ac q) (.str G):=Ia g;rw[em]at ad ac;exact k _ _ _ (kM _ _ (Ia g) em) ((dE Y).trans (cR (by simp))) (jP aa O.me) (((mx.same Y).mono (show n≤n + 6 by omega)).setM ac (by omega))
theorem aFO:cC ["moment","row"] ["moment","row"] (aO kC):=⟨rfl,rfl,rfl,by decide,rfl,by decide,by decide⟩
theorem aA4{f C T:Ag}{fd:A3}(F:Fun K "do_alone" "do_alone" kC f fd)(hc:MC K C):cY P w K mg base CX0 1 f fd ["moment","row"] (jA C T ["alone"]):=by
 refine F.ok aFO (fun vs H Q E h=>?_) (fun ab A outer s H vs Q E Z h=>?_)
 ·obtain⟨M,A,ws,n,S,x,r,rfl,_⟩:=h;rfl
 ·obtain⟨M,MA,ws,n,S,x,r,rfl,mx,hn,tb,rdv,ok,hw,k⟩:=h;have G:=mx.mo;have hu:=d8 Z;refine⟨_,aB (cB (iW (iT hu (aR aW (pv 1) aD Ig) (dG (pv 0) rfl))) (aM (bJ aN)) bB)
   (aB (dC (j7 (dG (pv 0) rfl) (aR aW (pv 1) aD Ig) ⟨rfl,rfl,rfl,rfl⟩))
   (aM (bJ aN))),?_⟩
  obtain⟨t,b8,rfl,ht,hrest⟩:=cV.Ok.tup (fs:=ws) rdv;have J:r.word="alone":=by simpa using hw
  have rs:=ok.rs;obtain⟨word,name,day,ds⟩:=r;dsimp only at J rs hrest ht k;subst J;cases rs with
  | @alone q hh=>
  obtain rfl:=nO hrest;have Y:∀(z:Str) (O:Mnd),(if (bF S.men (Ac q)).isSome=true then("done":Str) else "none")=z→i9 S.men q=O→f8 S "alone" [.str q] z { S with men:=O }:=by
   rintro z O rfl rfl;exact .alone
  refine⟨_,rfl,t,_,3,_,rfl,rfl,aH ht,rfl,_,rfl,M,C,_,_,_,rfl,G.ins,hc.cl,hc.m,rfl,MA.me,_,rfl,.inl ⟨S.men,Ac q,.inl G.me,rfl,rfl⟩,_,rfl,?_⟩;cases hv:bF S.men (Ac q)with
  | none=>
   exact fU (k _ _ _ (Y _ S.men (by rw[hv];rfl) (by unfold i9;rw[hv];rfl)) (cQ.refl H) tb (mx.mono (by omega)))
  | some v=>
   refine dU ?_;refine⟨_,rfl,M,C,_,_,_,rfl,G.ins,hc.cl,hc.m,rfl,MA.me,rfl,.inl ⟨S.men,.inl G.me⟩,_,rfl,t,_,3,_,rfl,rfl,aH ht,rfl,S.men,Ac q,v,G.me,rfl,hv,?_⟩;have ea:i9 S.men q=bV S.men (Ac q):=Ib (by rw[hv];rfl);have ml:=G.ml;have hd:=oZ S.men (Ac q);exact k _ _ _ (Y _ _ (by rw[hv];rfl) ea) (cR (by simp)) (jP tb G.me) ((mx.mono (show n≤n + 6 by omega)).setM G.ac.drop (by omega))
end K13
namespace L2
open PySem PySem.Spec PyProof.Rows
theorem xB{X:Cx}{K:Ah}{e:Ba}{f:Str}{pos:Pos}{ta:TE}(q:PE X e ta)(G:attributeBase e f X.env (eval e X.env)=eval e X.env:=by rfl)(F:X.K=K:=by rfl):PE X (.Attribute e f pos) (aHK K ta f):=by
 subst F;exact dG q G
end L2
namespace K13
open PySem L2
theorem jB{H:Hp}:∀{F:List V}{R:List P3},cE false H F (R.map pD)→∀{i:Nat}{v:V},F[i]?=some v→∃ p q,R[i]?=some p∧v=.ref q∧H q=some (.tup [.str p.1,.str p.2.1,.int p.2.2])
 | _,[],h,i,v,e=>by cases h;simp at e
 | _,p :: R,h,i,v,e=>by
  rw[Au]at h;cases h with
  | cons a r=>
   cases i with
   | zero=>
    simp at e;subst e;unfold pD at a;cases a with
    | tup e hl q=>
     cases q with
     | cons J q=>
      cases q with
      | cons G q=>
       cases q with
       | cons M q=>
        cases q;cases J;cases G;cases M;exact⟨p,_,rfl,rfl,e⟩
   | succ i=>
    obtain⟨p',q,e1,e2⟩:=jB r (i:=i) (by simpa using e);exact⟨p',q,by simpa using e1,e2⟩
theorem tW{p:P3}(h:qZ (pD p)=true):1≤p.2.2:=by
 simp only[pD,qZ,aA1,Bu,decide_eq_true_eq]at h;omega
theorem aA5:∀(ps:List Pc) (x:Int),(∀ p∈ps,p.2.1 < p.2.2)→0≤x→x≤acr ps→bef ps x=x
 | [],x,_,G,h1=>by
  simp[acr]at h1;show(0:Int)=x;omega
 | p :: r,x,h,G,h1=>by
  have h2:=h p Al;have F:∀ q∈r,q.2.1 < q.2.2:=fun q J=>h q (An _ J);rw[pN]at h1;show(if x≤0 then 0 else if x≤dA p then x else dA p) + bef r (x - dA p)=x;by_cases hx:x≤dA p
  ·rw[aEo r _ F (by omega)];split <;> omega
  ·rw[aA5 r _ F (by omega) (by omega),Ia (by unfold dA at hx;omega),Ia hx];omega
theorem mT:∀(R:List P3),(∀ p∈R,0≤p.2.2)→∀ i,((R.take i).map fun p=>p.2.2).sum≤(R.map fun p=>p.2.2).sum
 | [],_,i=>by simp
 | p :: R,h,0=>by
  have G:=mT R (fun q F=>h q (An _ F)) 0;have:=h p Al;simp at G ⊢;omega
 | p :: R,h,i + 1=>by
  have G:=mT R (fun q F=>h q (An _ F)) i;rw[List.take_succ_cons,Au,Au,B5,B5];omega
theorem aEz:cC ["moment","row","parted","parts","pieces","low","land","house","acres"] ["moment","row"] (aO jL):=⟨rfl,rfl,rfl,by decide,rfl,by decide,by decide⟩
theorem aCP{f C T:Ag}{fd:A3}(F:Fun K "do_part" "do_part" jL f fd)(hc:MC K C)(bu:mg "sum"=none)(bp:mg "any"=none)
  (GA:Cl P w K mg base 1 "acres_in" ["pieces"] aBI)
  (GC:Cl P w K mg base 1 "cut" ["pieces","low","high"] aGo):cY P w K mg base CX0 2 f fd ["moment","row"] (jA C T ["part"]):=by
 refine F.ok aEz (fun vs H Q E h=>?_) (fun dl A outer s H vs Q E hr h=>?_)
 ·obtain⟨M,A,ws,n,S,x,r,rfl,_⟩:=h;rfl
 ·obtain⟨M,MA,ws,n,S,x,r,rfl,mx,hn,tb,rdv,ok,hw,k⟩:=h;have dk:=mx.mo;have hu:=d8 hr;have nd:=aEz.nd;have cj:(["part","moment","parted"]:List Str).Nodup:=by decide
  refine⟨_,aB (jR (cJ (aG (aR aW (pv 1) aD Ig) (aG (aR aW (pv 1) aD Ig) aE))) (iX rfl (b9 (aZ (i:=2) nd rfl (DK rfl)) (b9 (aZ (i:=3) nd rfl (Av rfl)) gM))))
   (aB (cB (iW (iT hu (pv 2) (dG (pv 0) rfl))) (aM (bJ aN)) bB)
   (aB (aS (i:=4) nd rfl (Av rfl) (aR aW (bG hu (dG (pv 0) rfl) (pv 2) Ig) aD Ig))
   (aB (cB (aX oT (aV (sW rfl) (by rfl) bu EE (aG (dO (N:=["part"]) (src:=[none]) (osc:=aO jL) (oN:=["moment","row","parted","parts","pieces","low","land","house","acres"]) ⟨by rfl,by decide,by decide,by decide,rfl,by rfl⟩ (dS (pv 3))
     fun cl s H fp iw C=>⟨aZ (i:=0) (show(["part"]:List Str).Nodup by decide) rfl (Av rfl),dN,aR (r:=lV K) aW (pv 0) aD Ig⟩) aE))
     (cG GA hr (aG (pv 4) aE)) (bH _)) (aM (bJ aN)) bB)
   (aB (cB (wC (aV (yF rfl) (by rfl) bp (by kernel_rfl) (aG (dO (N:=["part","moment","parted"]) (src:=[none,some 0,some 2]) (osc:=aO jL) (oN:=["moment","row","parted","parts","pieces","low","land","house","acres"]) ⟨by rfl,by decide,by decide,by decide,rfl,by rfl⟩ (dS (pv 3))
     fun cl s H fp iw C=>⟨aZ (i:=0) cj rfl (Av rfl),dN,aC2 (m6 oT (aR (r:=lV K) aW (pv 0) aD Ig) (pv 2) (bH _)) (aC1 (aAm (lY hu (aR (r:=lV K) aW (pv 0) aD Ig) (xB (K:=K) (pv 1)))))⟩) aE))) (aM (bJ aN)) bB)
   (aB (dC (j7 (dG (pv 0) rfl) (pv 2) ⟨rfl,rfl,rfl,rfl⟩))
   (aB (aS (i:=5) nd rfl (Av rfl) aD)
   (aB (fT Be rfl (dS (pv 3)) (g:=xR K 3 (eV (aY 6) (eV (aY 7) (eV (aY 8) xQ)))) (iX rfl (b9 (aZ (i:=6) nd rfl (Av rfl)) (b9 (aZ (i:=7) nd rfl (Av rfl)) (b9 (aZ (i:=8) nd rfl (Av rfl)) gM))))
    (aB (c8 hu (dG (pv 0) rfl) (pv 6) (cJ (aG (pv 7) (aG (cG GC hr (aG (pv 4) (aG (pv 5) (aG (bC cZ (pv 5) (pv 8)) aE)))) aE))) rfl)
    (aM (aC6 (i:=5) nd rfl (Av rfl) (pv 8) aC7))))
   (aM (bJ aN))))))))),?_⟩
  obtain⟨t,b8,rfl,ht,hrest⟩:=cV.Ok.tup (fs:=ws) rdv;have bx:r.word="part":=by simpa using hw
  have rs:=ok.rs;obtain⟨word,name,day,ds⟩:=r;dsimp only at bx rs hrest ht k;subst bx;cases rs with
  | @part G R hl cq h2 h6 ay=>
  obtain⟨q1,q2⟩:=rd2 hrest;cases q1;cases q2 with
  | @tup tp us _ cv dg bR=>
  have an:=bR.len;rw[Ab]at an;refine⟨_,rfl,t,_,3,_,rfl,rfl,aH ht,rfl,_,rfl,t,_,4,_,rfl,rfl,aH ht,rfl,zZ2,fun u b6=>?_⟩;have su:=aK (o:=.tup [V.str G,.ref tp]) b6;refine⟨u,_,rfl,aH aA,rfl,_,_,rfl,_,_,rfl,rfl,?_⟩;generalize upd H u (.tup [V.str G,.ref tp])=H0 at su ⊢;have ai:=mx.same su;have Y:=ai.mo;have a0:Tb T H0:=tb.same su;have O:=su _ _ cv;have ag:=bR.same su;obtain⟨hol,b,hh1,hnd,hlen,hT,hb⟩:=Y.h;obtain⟨hol',hh1',hX⟩:=ai.hx;rw[hh1]at hh1';cases hh1';have kP:∀(z:Str) (S':Ex),cO S G R=z→(if z="done" then fG S G R else S)=S'→f8 S "part" [.str G,.tuple (R.map pD)] z S':=by
   rintro z S' rfl rfl;exact .part
  refine⟨_,rfl,_,rfl,M,C,_,_,_,rfl,Y.ins,hc.cl,hc.h,rfl,MA.h,_,rfl,.inl ⟨hol,Ac G,.inl hh1,rfl,rfl⟩,_,rfl,?_⟩;cases hv:bF hol (Ac G)with
  | none=>
   have e0:cO S G R="land":=by
    unfold cO aP;rw[hX.none hv];rfl
   exact fU (k _ _ _ (kP _ _ e0 (Ia (by decide))) (dE su) a0 (ai.mono (by omega)))
  | some v=>
  refine dU ?_;obtain⟨a,b',he,hT',hab⟩:=hT.take hv;obtain⟨t3,tp3,hs,xs,ps,rfl,e1,e2,e3,e4,e5⟩:=he;obtain⟨_,hs',hz,hsv,heX⟩:=hX.at' _ _ hv;cases hz;have bb:aP S G=true:=by unfold aP;rw[hsv];rfl
  have bg:acr ps=S.ac G:=by
   obtain⟨_,_,_,_,r1,r2,r3,r4,_,r5⟩:=heX;cases r1;rw[e1]at r2;cases r2;rw[e2]at r3;cases r3;rw[← r5,mS r4 e3]
  refine⟨_,rfl,M,C,_,_,_,rfl,Y.ins,hc.cl,hc.h,rfl,_,rfl,MA.h,_,rfl,.inl ⟨hol,Ac G,.inl hh1,rfl,hv.symm⟩,t3,_,1,_,rfl,rfl,aH e1,rfl,?_⟩;have dq:=e4.len;have c9:=BB e3;have c1:=hT'.pos;have bL:xs.length≤8000000:=by omega
  have z8:∀ i,i≤8000000→i≤sizeLine:=fun i h=>by rw[B0];omega
  refine⟨_,rfl,tp,rfl,⟨_,aH O⟩,?_⟩;refine dY (K:=K) (xs:=us) (fun i ys σ' H'=>∃ o1:Option V,σ'=[o1]∧cA H0 H'∧ys=((R.take i).map fun p=>p.2.2).map V.int) ⟨none,rfl,cA.refl H0,by simp⟩
   (z8 _ (by omega)) (fun i ys σ H' p=>by obtain⟨_,_,_,rfl⟩:=p;simp;omega) (fun i ys σ H' p=>by obtain⟨_,_,S,_⟩:=p;exact aH (S _ _ O)) ?_ ?_
  ·rintro i v ys σ' H1 hv ⟨o1,rfl,S,rfl⟩;obtain⟨p,q,hp,rfl,hq⟩:=jB ag hv;dsimp only[aY];refine fU ?_;refine⟨_,rfl,q,_,2,_,rfl,rfl,aH (S _ _ hq),rfl,_,rfl,S,?_⟩;rw[AC,hp];simp
  rintro ys σ' H1 ⟨o1,rfl,S1,rfl⟩ D hD;rw[an,AH];have S2:=S1.trans (aK (o:=.lst ((R.map fun p=>p.2.2).map V.int)) hD);refine⟨D,R.map fun p=>p.2.2,rfl,aU aA,_,rfl,tp3,xs,ps,rfl,S2 _ _ e2,e3.same S2,z8 _ bL,fun H3 S3=>?_⟩;have S4:=S2.trans S3;generalize upd H1 D _=H2 at S2 S3;refine⟨rfl,_,rfl,cT (fun g=>?_) fun g=>?_⟩
  ·have g':(R.map fun p=>p.2.2).sum≠S.ac G:=by
    rw[← bg];simpa using g
   have e0:cO S G R="acres":=by
    unfold cO;rw[bb,Ia (by decide),Ib g']
   exact k _ _ _ (kP _ _ e0 (Ia (by decide))) (dE (su.trans S4)) (a0.same S4) ((ai.same S4).mono (by omega))
  have g':(R.map fun p=>p.2.2).sum=S.ac G:=by
   rw[← bg];simpa using g
  refine⟨_,rfl,tp,rfl,⟨_,aH (S4 _ _ O)⟩,?_⟩;refine dY (K:=K) (xs:=us) (fun i ys σ' H'=>∃(o1:Option V) (bs:List Bool),σ'=[o1,some (.ref M),some (.str G)]∧cA H3 H'∧ys=bs.map V.bl∧bs.length=i∧bs=(R.take i).map fun p=>decide (p.1≠G) && aP S p.1) ⟨none,[],rfl,cA.refl H3,rfl,rfl,by simp⟩
   (z8 _ (by omega)) (fun i ys σ H' p=>by obtain⟨_,_,_,_,rfl,e,_⟩:=p;simp;omega) (fun i ys σ H' p=>by obtain⟨_,_,_,S,_⟩:=p;exact aH (S _ _ (S4 _ _ O))) ?_ ?_
  ·rintro i v ys σ' H5 hv ⟨o1,bs,rfl,S5,rfl,bv,au⟩;obtain⟨p,q,hp,rfl,hq⟩:=jB ag hv;have bI:=S5 _ _ (S4 _ _ hq);have bM:=(Y.same S4).same S5;have nx:∀ c:Bool,(decide (p.1≠G) && aP S p.1)=c→∃(o1:Option V) (ba:List Bool),[some (V.ref q),some (V.ref M),some (.str G)]=[o1,some (.ref M),some (.str G)]∧cA H3 H5∧bs.map V.bl ++ [.bl c]=ba.map V.bl∧ba.length=i + 1∧ba=(R.take (i + 1)).map fun p=>decide (p.1≠G) && aP S p.1:=fun c hc=>⟨_,bs ++ [c],rfl,S5,by simp,by simp[bv],by rw[AC,hp,Aw,← au,← hc];rfl⟩
   dsimp only[aY];refine fU ?_;refine⟨_,rfl,q,_,0,_,rfl,rfl,aH bI,rfl,_,rfl,rfl,_,rfl,cT (fun g2=>?_) fun g2=>nx false (by rw[show decide (p.1≠G)=false by simpa using g2];rfl)⟩;refine⟨_,rfl,q,_,0,_,rfl,rfl,aH bI,rfl,_,rfl,M,C,_,_,_,rfl,bM.ins,hc.cl,hc.h,rfl,MA.h,_,rfl,.inl ⟨hol,Ac p.1,.inl (S5 _ _ (S4 _ _ hh1)),rfl,rfl⟩,nx _ (by rw[show decide (p.1≠G)=true by simpa using g2,EM];unfold aP;exact(pT hX.ks _).symm)⟩
  rintro ys σ' H5 ⟨o1,bs,rfl,S5,rfl,bv,au⟩ D2 cf;rw[an,AH]at au;have S6:=(S4.trans S5).trans (aK (o:=.lst (bs.map V.bl)) cf);refine⟨D2,bs,rfl,aU aA,_,rfl,?_⟩;generalize upd H5 D2 _=H6 at S6 ⊢;have bf:=ai.same S6;have bq:=bf.mo;have b1:Tb T H6:=a0.same S6;have aj:(R.any fun p=>decide (p.1≠G) && aP S p.1)=bs.any id:=by
   rw[au,List.any_map];rfl
  refine cT (fun g2=>?_) fun g2=>?_
  ·have e0:cO S G R="name":=by
    unfold cO;rw[bb,Ia (by decide),Ia (fun z=>z g'),Ib (by rw[aj];simpa using g2)]
   exact k _ _ _ (kP _ _ e0 (Ia (by decide))) (dE (su.trans S6)) b1 (bf.mono (by omega))
  have e0:cO S G R="done":=by
   unfold cO;rw[bb,Ia (by decide),Ia (fun z=>z g'),Ia (by rw[aj];simpa using g2)]
  refine⟨_,rfl,M,C,_,_,_,rfl,bq.ins,hc.cl,hc.h,rfl,MA.h,rfl,.inl ⟨hol,.inl (S6 _ _ hh1)⟩,_,rfl,hol,Ac G,_,S6 _ _ hh1,rfl,hv,?_⟩;have da:=oZ hol (Ac G);have bm:gQ (upd H6 MA.h (.dK (bV hol (Ac G)))) C M MA ws n { S with hs:=bV S.hs (Ac G) }:=bf.setH (iD hnd) (by omega) (Am _) (hT'.on (bU S6)) (by omega) ((hX.on (bU S6)).drop _);have bE:Tb T (upd H6 MA.h (.dK (bV hol (Ac G)))):=jP b1 (S6 _ _ hh1);have K7:cQ [T,MA.h,MA.i,MA.me] H (upd H6 MA.h (.dK (bV hol (Ac G)))):=(dE (su.trans S6)).trans (cR (by simp));have T7:fQ H0 (upd H6 MA.h (.dK (bV hol (Ac G)))):=fun q us e=>by
   rw[aF (bT (S6 _ _ e) (S6 _ _ hh1) (fun z=>nomatch z))];exact S6 _ _ e
  have bD:f7 (upd H6 MA.h (.dK (bV hol (Ac G)))) ws (bV hol (Ac G)) b':=hT'.on T7;have b0:upd H6 MA.h (.dK (bV hol (Ac G))) MA.h=some (.dK (bV hol (Ac G))):=aA;generalize upd H6 MA.h (.dK (bV hol (Ac G)))=H7 at bm bE K7 T7 bD b0 ⊢;have av:∀ p∈ps,p.2.1 < p.2.2:=fun p hp=>(e4.ok p hp).2;refine⟨_,rfl,tp,rfl,⟨_,aH (T7 _ _ O)⟩,?_⟩;refine jG (K:=K) (xs:=us) (fun i σ H'=>Ex3 fun(o6 o7 o8:Option V)=>Ex3 fun(lo c:Int) (hl:List (Key×V))=>Aw6 (σ=[some (.ref M),some (.ref t),some (.str G),some (.ref tp),some (.ref tp3),some (.int lo),o6,o7,o8]) (cQ [T,MA.h,MA.i,MA.me] H H') (fQ H0 H') (Tb T H') (gQ H' C M MA ws (n + i) (fG S G (R.take i))) (Aw6 (lo=((R.take i).map fun p=>p.2.2).sum) (H' MA.h=some (.dK hl)) ((hl.map (·.1)).Nodup) (hl.length≤n + i) (f7 H' ws hl c) (0≤lo∧c≤b' + bef ps lo)))
   ⟨none,none,none,0,b',bV hol (Ac G),rfl,K7,T7,bE,bm,by simp,b0,iD hnd,by omega,bD,CV _,by rw[aEo ps 0 av (CV _)];omega⟩ (fun i σ H' _ p=>by obtain⟨_,_,_,_,_,_,_,_,tt,_⟩:=p;exact aH (tt _ _ O)) ?_ ?_
  ·rintro i v σ H8 cb ⟨o6,o7,o8,lo,c,aq,rfl,K8,T8,aI,ab,bn,ae,Z,af,bz,bN,cw⟩;obtain⟨p,q,hp,rfl,hq⟩:=jB ag cb;have bW:=ab.mo;obtain⟨hl8',hh8',hX8⟩:=ab.hx;rw[ae]at hh8';cases hh8';have dh:1≤p.2.2:=tW (A2.mp ay _ (Bg (AK hp)));have db:i < R.length:=(Ax.mp hp).1;refine⟨q,_,rfl,aH (T8 _ _ hq),rfl,_,_,rfl,_,_,rfl,_,_,rfl,rfl,_,rfl,_,rfl,_,rfl,_,rfl,_,rfl,_,_,rfl,rfl,tp3,xs,ps,lo,lo + p.2.2,rfl,T8 _ _ e2,e3.on T8,z8 _ bL,fun t9 br H9 S9 ci cu=>?_⟩;refine⟨zZ2,fun u9 bc=>?_⟩;have J:=S9.trans (aK (o:=.tup [V.str p.2.1,.ref t9]) bc);have ak:=cu.same (aK (o:=.tup [V.str p.2.1,.ref t9]) bc);have ah:=(aK (o:=.tup [V.str p.2.1,.ref t9]) bc) _ _ ci;have al:upd H9 u9 (.tup [V.str p.2.1,.ref t9]) u9=_:=aA;generalize upd H9 u9 (.tup [V.str p.2.1,.ref t9])=aw at J ak ah al ⊢;have aC:=bW.same J;have hE:oJ aw ws (.ref u9) (acr (mK ps lo (lo + p.2.2))):=⟨u9,t9,p.2.1,br,_,rfl,al,ah,ak,tU e4,rfl⟩
   obtain⟨c',hT10,hc10⟩:=(bz.on (bU J)).put (k:=Ac p.1) Z hE;have bY:=aBH (lo:=lo) (hi:=lo + p.2.2) e4 (by omega);have cL:=aEp ps (lo + p.2.2) av;have ax:lo + p.2.2=((R.take (i + 1)).map fun p=>p.2.2).sum:=by
    rw[AC,hp,bn];simp
   have ca:lo + p.2.2≤acr ps:=by
    rw[ax,bg,← g'];exact mT R (fun p hp=>by have:=tW (A2.mp ay _ (Bg hp));omega) _
   have bP:acr (mK ps lo (lo + p.2.2))=p.2.2:=by
    rw[bY,aA5 ps _ av (by omega) ca,aA5 ps lo av bN (by omega)];omega
   have cx:pR aw ws (.ref u9) p.2.1 p.2.2:=⟨u9,t9,br,_,rfl,al,ah,ak,tU e4,bP⟩
   have bO:=(hX8.on (bU J)).put (z:=p.1) cx;have eS:fG S G (R.take (i + 1))={ fG S G (R.take i)with hs:=bS (fG S G (R.take i)).hs (Ac p.1) (.str p.2.1),ac:=lG (fG S G (R.take i)).ac p.1 p.2.2 }:=by
    unfold fG;rw[AC,hp,Dd];rfl
   have dd:=cD aq (Ac p.1) (.ref u9);refine⟨_,rfl,M,C,_,_,_,rfl,aC.ins,hc.cl,hc.h,rfl,_,rfl,MA.h,_,rfl,gP.k (k:=Ac p.1) (J _ _ ae) (BS af (by rw[B0];omega)),_,rfl,_,rfl,_,_,rfl,rfl,?_⟩;have bt:fQ aw (upd aw MA.h (.dK (bS aq (Ac p.1) (.ref u9)))):=fun q us e=>by
    rw[aF (bT e (J _ _ ae) (fun z=>nomatch z))];exact e
   exact⟨_,_,_,lo + p.2.2,c',bS aq (Ac p.1) (.ref u9),rfl,(K8.same J).trans (cR (by simp)),fun q us e=>bt _ _ (J _ _ (T8 _ _ e)),jP (aI.same J) (J _ _ ae),by rw[eS];exact(ab.same J).setH (lF _ Z) (by omega) (by omega) hT10 (by omega) bO,ax,aA,lF _ Z,by omega,hT10.on bt,by omega,by omega⟩
  ·rintro σ H8 ⟨o6,o7,o8,lo,c,aq,rfl,K8,T8,aI,ab,bn,ae,Z,af,bz,bN,cw⟩;rw[an,AH]at ab;exact k _ _ _ (kP _ _ e0 (Ib rfl)) K8 aI (ab.mono (by omega))
theorem Mom.sameT{H H':Hp}{C M T:Ag}{A:MA}{ws:List Str}{n:Nat}{m:Mnd}(h:Mom H C M A ws n m)(s:fY T H H')(g:Tb T H):Mom H' C M A ws n m:=by
 obtain⟨tps,hT,_⟩:=g.ex;have go:∀ b o,H b=some o→(∀ ps,o≠.tbl ps)→H' b=some o:=fun b o e ne=>s b o (fun z=>by rw[z,hT]at e;cases e;exact ne _ rfl) e;obtain⟨rks,hr,r2⟩:=h.r;obtain⟨hol,b,hh,h2,h3,h4,h5⟩:=h.h;obtain⟨inc,hi,i2⟩:=h.i;exact⟨go _ _ h.ins (fun _ z=>nomatch z),⟨rks,go _ _ hr (fun _ z=>nomatch z),r2⟩,⟨hol,b,go _ _ hh (fun _ z=>nomatch z),h2,h3,h4.on (dL s g),h5⟩,⟨inc,go _ _ hi (fun _ z=>nomatch z),i2⟩,go _ _ h.me (fun _ z=>nomatch z),h.ac,h.ml,h.rh,h.ri,h.rm,h.hi,h.hm,h.im⟩
theorem Mom.list{H:Hp}{C M L:Ag}{A:MA}{ws:List Str}{n:Nat}{m:Mnd}{xs ys:List V}(h:Mom H C M A ws n m)(e:H L=some (.lst xs)):Mom (upd H L (.lst ys)) C M A ws n m:=by
 have go:∀ b o,H b=some o→(∀ xs,o≠.lst xs)→upd H L (.lst ys) b=some o:=fun b o q ne=>by
  rw[aF (fun z=>by rw[z,e]at q;cases q;exact ne _ rfl)];exact q
 obtain⟨rks,hr,r2⟩:=h.r;obtain⟨hol,b,hh,h2,h3,h4,h5⟩:=h.h;obtain⟨inc,hi,i2⟩:=h.i;exact⟨go _ _ h.ins (fun _ z=>nomatch z),⟨rks,go _ _ hr (fun _ z=>nomatch z),r2⟩,⟨hol,b,go _ _ hh (fun _ z=>nomatch z),h2,h3,h4.on (fun q F z=>go _ _ z (fun _ z=>nomatch z)),h5⟩,⟨inc,go _ _ hi (fun _ z=>nomatch z),i2⟩,go _ _ h.me (fun _ z=>nomatch z),h.ac,h.ml,h.rh,h.ri,h.rm,h.hi,h.hm,h.im⟩
theorem gQ.sameT{H H':Hp}{C M T:Ag}{A:MA}{ws:List Str}{n:Nat}{S:Ex}(h:gQ H C M A ws n S)(s:fY T H H')(g:Tb T H):gQ H' C M A ws n S:=by
 obtain⟨tps,hT,_⟩:=g.ex;have go:∀ b o,H b=some o→(∀ ps,o≠.tbl ps)→H' b=some o:=fun b o e ne=>s b o (fun z=>by rw[z,hT]at e;cases e;exact ne _ rfl) e;obtain⟨hol,h1,h2⟩:=h.hx;exact⟨h.mo.sameT s g,⟨hol,go _ _ h1 (fun _ z=>nomatch z),h2.on (dL s g)⟩,go _ _ h.ix (fun _ z=>nomatch z)⟩
theorem gQ.list{H:Hp}{C M L:Ag}{A:MA}{ws:List Str}{n:Nat}{S:Ex}{xs ys:List V}(h:gQ H C M A ws n S)(e:H L=some (.lst xs)):gQ (upd H L (.lst ys)) C M A ws n S:=by
 have go:∀ b o,H b=some o→(∀ xs,o≠.lst xs)→upd H L (.lst ys) b=some o:=fun b o q ne=>by
  rw[aF (fun z=>by rw[z,e]at q;cases q;exact ne _ rfl)];exact q
 obtain⟨hol,h1,h2⟩:=h.hx;exact⟨h.mo.list e,⟨hol,go _ _ h1 (fun _ z=>nomatch z),h2.on (fun q F z=>go _ _ z (fun _ z=>nomatch z))⟩,go _ _ h.ix (fun _ z=>nomatch z)⟩
theorem aFP{T L:Ag}{xs ys:List V}{H:Hp}(g:Tb T H)(e:H L=some (.lst xs)):Tb T (upd H L (.lst ys)):=aEt g fun b o q n=>by
 rw[aF (fun z=>n ⟨xs,by rw[z];exact e⟩)];exact q
theorem xC{R:List Str}(h:R.Nodup):R.Nodup:=h
theorem nF{m:Bool}{H:Hp}:∀{q:List V}{R:List Str},cE m H q (R.map BC)→q=R.map V.str
 | _,[],h=>by cases h;rfl
 | _,z :: R,h=>by
  rw[Au]at h;cases h with
  | cons a r=>
   cases a;rw[nF r];rfl
theorem aEA:cC ["moment","row","joined","land","house","pieces","name"] ["moment","row"] (aO jM):=⟨rfl,rfl,rfl,by decide,rfl,by decide,by decide⟩
theorem aCQ{f C T:Ag}{fd:A3}(F:Fun K "do_join" "do_join" jM f fd)(hc:MC K C)(bW:mg "all"=none)(bN:mg "any"=none)
  (GI:Cl P w K mg base 4 "in_one" ["ranks","pieces"] (aBK T)):cY P w K mg base CX0 5 f fd ["moment","row"] (jA C T ["join"]):=by
 refine F.ok aEA (fun vs H Q E h=>?_) (fun eh A outer s H vs Q E hr h=>?_)
 ·obtain⟨M,A,ws,n,S,x,r,rfl,_⟩:=h;rfl
 ·obtain⟨M,MA,ws,n,S0,x,r,rfl,mx,hn,tb,rdv,ok,hw,k⟩:=h;have cf:=mx.mo;have hu:=d8 hr;have nd:=aEA.nd;have dc:(["name","moment"]:List Str).Nodup:=by decide
  have c1:(["name","moment","house"]:List Str).Nodup:=by decide
  refine⟨_,aB (aAn (i:=2) (j:=3) rfl nd rfl rfl (by decide) rfl rfl (aG (aR aW (pv 1) aD Ig) (aG (aR aW (pv 1) aD Ig) aE)) rfl)
   (aB (cB (aC0 (wC (aV (aDD rfl) (by rfl) bW (by kernel_rfl) (aG (dO (N:=["name","moment"]) (src:=[none,some 0]) (osc:=aO jM) (oN:=["moment","row","joined","land","house","pieces","name"]) ⟨by rfl,by decide,by decide,by decide,rfl,by rfl⟩ (dS (pv 2))
     fun cl s H fp iw C=>⟨aZ (i:=0) dc rfl (Av rfl),dN,aAm (lY hu (pv 0) (xB (K:=K) (pv 1)))⟩) aE)))) (aM (bJ aN)) bB)
   (aB (aS (i:=4) nd rfl (DK rfl) (aR aW (bG hu (dG (pv 0) rfl) (aR aW (pv 2) aD Ig) Ig) aD Ig))
   (aB (cB (wC (aV (yF rfl) (by rfl) bN (by kernel_rfl) (aG (dO (N:=["name","moment","house"]) (src:=[none,some 0,some 4]) (osc:=aO jM) (oN:=["moment","row","joined","land","house","pieces","name"]) ⟨by rfl,by decide,by decide,by decide,rfl,by rfl⟩ (dS (pv 2))
     fun cl s H fp iw C=>⟨aZ (i:=0) c1 rfl (Av rfl),dN,m6 oT (aR (r:=lV K) aW (bG hu (xB (K:=K) (pv 1)) (pv 0) Ig) aD Ig) (pv 2) (bH _)⟩) aE))) (aM (bJ aN)) bB)
   (aB (cB (aAM (PW.pt (iJ (aX kX (pv 3) (pv 2) (by with_unfolding_all rfl)) (gL (iW (lY hu (pv 3) (dG (pv 0) rfl))))))) (aM (bJ aN)) bB)
   (aB (aS (i:=5) nd rfl (Av rfl) (c7 aE))
   (aB (fT Be rfl (dS (pv 2)) (aZ (i:=6) nd rfl (Av rfl))
    (aM (dC (jI A0 PySem.F.slot_list_extend PySem.F.type_list_extend aAS (pv 5) (aG (aR aW (j7 (dG (pv 0) rfl) (pv 6) ⟨rfl,rfl,rfl,rfl⟩) aD Ig) aE)))))
   (aB (c8 hu (dG (pv 0) rfl) (pv 3) (cJ (aG (pv 4) (aG (cG GI hr (aG (dG (pv 0) rfl) (aG (pv 5) aE))) aE))) rfl)
   (aM (bJ aN))))))))),?_⟩
  obtain⟨t,b8,rfl,ht,hrest⟩:=cV.Ok.tup (fs:=ws) rdv;have b6:r.word="join":=by simpa using hw
  have rs:=ok.rs;obtain⟨word,name,day,ds⟩:=r;dsimp only at b6 rs hrest ht k;subst b6;cases rs with
  | @join G R hl bt h2 h6 dg=>
  obtain⟨q1,q2⟩:=rd2 hrest;cases q2;cases q1 with
  | @tup tp us _ ar ed dh=>
  obtain rfl:=nF dh;have de:=xC bt;refine⟨_,rfl,t,_,3,_,rfl,rfl,aH ht,rfl,_,rfl,t,_,4,_,rfl,rfl,aH ht,rfl,_,_,rfl,?_⟩;obtain⟨hol,b,hh1,hnd,hlen,hT,hb⟩:=cf.h;obtain⟨hol',hh1',hX⟩:=mx.hx;rw[hh1]at hh1';cases hh1';have kJ:∀(z:Str) (S':Ex),cK S0 R G=z→(if z="done" then fV S0 R G else S0)=S'→f8 S0 "join" [.tuple (R.map BC),.str G] z S':=by
   rintro z S' rfl rfl;exact .join
  have bf:R.all (aP S0)=(R.map fun z=>(bF hol (Ac z)).isSome).all id:=by
   rw[List.all_map];congr 1;funext z;exact(pT hX.ks _).symm
  have zs:∀ i,i≤8000000→i≤sizeLine:=fun i h=>by rw[B0];omega
  have bp:(R.map V.str).length=R.length:=Ab _;refine⟨_,rfl,tp,rfl,⟨_,aH ar⟩,?_⟩;refine dY (K:=K) (xs:=R.map V.str) (fun i ys σ' H'=>∃(o1:Option V),σ'=[o1,some (.ref M)]∧cA H H'∧ys=((R.take i).map fun z=>(bF hol (Ac z)).isSome).map V.bl) ⟨none,rfl,cA.refl H,by simp⟩
   (zs _ (by omega)) (fun i ys σ H' p=>by obtain⟨_,_,_,rfl⟩:=p;simp;omega) (fun i ys σ H' p=>by obtain⟨_,_,S,_⟩:=p;exact aH (S _ _ ar)) ?_ ?_
  ·rintro i v ys σ' H1 hv ⟨o1,rfl,S,rfl⟩;rw[Ao]at hv;obtain⟨z,hz,rfl⟩:=AL.mp hv;dsimp only[aY];refine fU ?_;refine⟨_,rfl,_,rfl,M,C,_,_,_,rfl,(cf.same S).ins,hc.cl,hc.h,rfl,MA.h,_,rfl,.inl ⟨hol,Ac z,.inl (S _ _ hh1),rfl,rfl⟩,_,rfl,S,?_⟩;rw[AC,hz];simp
  rintro ys σ' H1 ⟨o1,rfl,S1,rfl⟩ D hD;rw[bp,AH];have S2:=S1.trans (aK (o:=.lst ((R.map fun z=>(bF hol (Ac z)).isSome).map V.bl)) hD);refine⟨D,R.map fun z=>(bF hol (Ac z)).isSome,rfl,aU aA,_,rfl,?_⟩;generalize upd H1 D _=H2 at S2 ⊢;have bo:=mx.same S2;have bj:=bo.mo;have bO:=hX.on (bU S2);have b0:Tb T H2:=tb.same S2;refine cT (fun g=>?_) fun g=>?_
  ·have e0:cK S0 R G="land":=by
    unfold cK;rw[Ib];rw[bf];cases hh:((R.map fun z=>(bF hol (Ac z)).isSome).all id)with
    | true=>rw[hh]at g;cases g
    | false=>rfl
   exact k _ _ _ (kJ _ _ e0 (Ia (by decide))) (dE S2) b0 (bo.mono (by omega))
  have bv:∀ z∈R,∃ v,bF hol (Ac z)=some v:=fun z hz=>by
   have g':((R.map fun z=>(bF hol (Ac z)).isSome).all id)=true:=by
    cases hh:((R.map fun z=>(bF hol (Ac z)).isSome).all id)with
    | true=>rfl
    | false=>rw[hh]at g;exact absurd rfl g
   have:=A2.mp g' _ (Bg hz);exact A7.mp this
  have el:=hT.on (bU S2);have ab:=S2 _ _ ar;have bx:=S2 _ _ hh1;have av:¬ R.all (aP S0)=false:=by
   rw[bf];cases hh:((R.map fun z=>(bF hol (Ac z)).isSome).all id)with
   | true=>decide
   | false=>rw[hh]at g;exact absurd rfl g
  obtain⟨z0,R',rfl⟩:∃ z0 R',R=z0 :: R':=by
   cases R with
   | nil=>simp at h2
   | cons z0 R'=>exact⟨z0,R',rfl⟩
  obtain⟨v0,hv0⟩:=bv z0 Al;obtain⟨_,hs0,hz0,hsv0,t0,tp0,xs0,ps0,rfl,e1,_⟩:=bO.at' _ _ hv0;cases hz0;have al:(z0 :: R').headD ""=z0:=rfl;have da:atI ((z0 :: R').map V.str) 0=some (.str z0):=f9 (xs:=(z0 :: R').map V.str) (j:=0) rfl;refine⟨_,rfl,M,C,_,_,_,rfl,bj.ins,hc.cl,hc.h,rfl,_,rfl,tp,_,0,_,rfl,rfl,aH ab,da,MA.h,_,rfl,.inl ⟨hol,Ac z0,.inl bx,rfl,hv0.symm⟩,t0,_,0,_,rfl,rfl,aH e1,rfl,?_⟩;generalize ek:z0 :: R'=R at *;refine⟨_,rfl,tp,rfl,⟨_,aH ab⟩,?_⟩;refine dY (K:=K) (xs:=R.map V.str) (fun i ys σ' H'=>∃(o1:Option V) (bs:List Bool),σ'=[o1,some (.ref M),some (.str hs0)]∧cA H2 H'∧ys=bs.map V.bl∧bs.length=i∧bs=(R.take i).map fun z=>decide (bF S0.hs (Ac z)≠bF S0.hs (Ac (R.headD "")))) ⟨none,[],rfl,cA.refl H2,rfl,rfl,by simp⟩
   (zs _ (by omega)) (fun i ys σ H' p=>by obtain⟨_,_,_,_,rfl,e,_⟩:=p;simp;omega) (fun i ys σ H' p=>by obtain⟨_,_,_,S,_⟩:=p;exact aH (S _ _ ab)) ?_ ?_
  ·rintro i v ys σ' H5 hv ⟨o1,bs,rfl,S,rfl,b5,aL⟩;rw[Ao]at hv;obtain⟨z,hz,rfl⟩:=AL.mp hv;obtain⟨v1,hv1⟩:=bv z (AK hz);obtain⟨_,hs5,hz5,hsv5,t5,tp5,xs5,ps5,rfl,e5,_⟩:=bO.at' _ _ hv1;cases hz5;dsimp only[aY];refine fU ?_;refine⟨_,rfl,M,C,_,_,_,rfl,(bj.same S).ins,hc.cl,hc.h,rfl,_,rfl,MA.h,_,rfl,.inl ⟨hol,Ac z,.inl (S _ _ bx),rfl,hv1.symm⟩,t5,_,0,_,rfl,rfl,aH (S _ _ e5),rfl,_,rfl,rfl,?_⟩;exact⟨_,bs ++ [!decide (V.str hs5=V.str hs0)],rfl,S,by rw[Aw];rfl,by simp[b5],by
    rw[AC,hz,Aw,← aL,al];congr 1;show[_]=[decide (bF S0.hs (Ac z)≠bF S0.hs (Ac z0))]
    rw[hsv5,hsv0];simp⟩
  rintro ys σ' H5 ⟨o1,bs,rfl,S5,rfl,b5,aL⟩ D2 c0;rw[bp,AH]at aL;have S6:=S5.trans (aK (o:=.lst (bs.map V.bl)) c0);refine⟨D2,bs,rfl,aU aA,_,rfl,?_⟩;generalize upd H5 D2 _=H6 at S6 ⊢;have bc:=bo.same S6;have bR:=bc.mo;have bz:Tb T H6:=b0.same S6;have aT:=S2.trans S6;have ak:(R.any fun z=>decide (bF S0.hs (Ac z)≠bF S0.hs (Ac (R.headD ""))))=bs.any id:=by
   rw[aL,List.any_map];rfl
  refine cT (fun g2=>?_) fun g2=>?_
  ·have e0:cK S0 R G="houses":=by
    unfold cK;rw[Ia av,Ib (by rw[ak];simpa using g2)]
   exact k _ _ _ (kJ _ _ e0 (Ia (by decide))) (dE aT) bz (bc.mono (by omega))
  have bg:¬ (R.any fun z=>decide (bF S0.hs (Ac z)≠bF S0.hs (Ac (R.headD ""))))=true:=by
   rw[ak];simpa using g2
  refine⟨fun bb H'=>H'=H6∧bb=(!decide (G∈R) && aP S0 G),?_,fun bb H' e=>?_⟩
  ·refine⟨_,rfl,_,rfl,tp,_,rfl,.inr (aH (S6 _ _ ab)),rfl,hJ _,_,rfl,?_⟩;rw[lH];refine cT (fun g3=>?_) fun g3=>?_
   ·exact⟨_,rfl,_,rfl,M,C,_,_,_,rfl,bR.ins,hc.cl,hc.h,rfl,MA.h,_,rfl,.inl ⟨hol,Ac G,.inl (S6 _ _ bx),rfl,rfl⟩,_,rfl,rfl,by
     rw[show(!decide (G∈R))=true by simpa using g3,EM];unfold aP;exact pT hX.ks _⟩
   ·exact⟨rfl,by rw[show(!decide (G∈R))=false by simpa using g3];rfl⟩
  obtain⟨rfl,ebb⟩:=e;refine cT (fun g3=>?_) fun g3=>?_
  ·have e0:cK S0 R G="name":=by
    unfold cK;rw[Ia av,Ia bg,Ib (by rw[← ebb];exact g3)]
   exact k _ _ _ (kJ _ _ e0 (Ia (by decide))) (dE aT) bz (bc.mono (by omega))
  have e0:cK S0 R G="done":=by
   unfold cK;rw[Ia av,Ia bg,Ia (by rw[← ebb];exact g3)]
  refine⟨Bc _,fun L hL=>?_⟩;have sL:=aK (o:=.lst []) hL;have bM:=bc.same sL;have ca:Tb T _:=bz.same sL;have cg:upd H' L (.lst []) L=some (.lst []):=aA;have ag:=aT.trans sL;have c2:H L=none:=aT.free hL;generalize upd H' L (.lst [])=H7 at sL bM ca cg ag ⊢;have cj:=ag _ _ ar;refine⟨_,rfl,tp,rfl,⟨_,aH cj⟩,?_⟩;refine jG (K:=K) (xs:=R.map V.str) (fun i σ H'=>Ex3 fun(o6:Option V) (hl:List (Key×V)) (c:Int)=>∃(xs:List V) (ps:List Pc),Aw6 (σ=[some (.ref M),some (.ref t),some (.ref tp),some (.str G),some (.str hs0),some (.ref L),o6]) (cQ [T,MA.h,MA.i,MA.me] H H') (fQ H H') (Tb T H') (gQ H' C M MA ws n { S0 with hs:=(R.take i).foldl (fun d z=>bV d (Ac z)) S0.hs }) (Aw6 (acr ps=((R.take i).map S0.ac).sum) (H' MA.h=some (.dK hl)) ((hl.map (·.1)).Nodup) (hl.length≤n) (f7 H' ws hl c) (Aw3 (H' L=some (.lst xs)) (eB H' xs ps) (Aw3 (f6 ws ps) (acr ps + c≤b) (∀ j z,i≤j→R[j]?=some z→∃ v,bF hl (Ac z)=some v)))))
   ⟨none,hol,b,[],[],rfl,dE ag,bU ag,ca,bM,by simp[acr],ag _ _ hh1,hnd,hlen,hT.on (bU ag),cg,.nil,⟨fun p hp=>by simp at hp⟩,by simp[acr],fun j z _ e=>bv z (AK e)⟩ (fun i σ H' _ p=>by obtain⟨_,_,_,_,_,_,_,tt,_⟩:=p;exact aH (tt _ _ ar)) ?_ ?_
  ·rintro i v σ H8 bY ⟨o6,J,c,xs,ps,rfl,K8,T8,ae,aa,bd,O,Z,ah,aI,an,ao,ai,cw,aj⟩;rw[Ao]at bY;obtain⟨z,hz,rfl⟩:=AL.mp bY;have ad:=aa.mo;obtain⟨hl8',hh8',hX8⟩:=aa.hx;rw[O]at hh8';cases hh8';obtain⟨v1,hv1⟩:=aj i z (Am _) hz;obtain⟨a9,c9,⟨t9,tp9,hs9,xs9,ps9,rfl,f1,f2,f3,f4,f5⟩,hT9,hac9⟩:=aI.take hv1;obtain⟨_,hs9',hz9,hsv9,heX9⟩:=hX8.at' _ _ hv1;cases hz9;have cc:acr ps9=S0.ac z:=by
    obtain⟨_,_,_,_,r1,r2,r3,r4,_,r5⟩:=heX9;cases r1;rw[f1]at r2;cases r2;rw[f2]at r3;cases r3;rw[mS f3 r4];exact r5
   have db:(R.take (i + 1)).foldl (fun d z=>bV d (Ac z)) S0.hs=bV ((R.take i).foldl (fun d z=>bV d (Ac z)) S0.hs) (Ac z):=by
    rw[AC,hz,Dd];rfl
   have df:=hT9.pos;have ec:=f4.len;have cy:=ai.len;have cv:=BB ao;have dl:=BB f3;have d3:=oZ J (Ac z);dsimp only[aY];have ck:L≠MA.h:=bT an O (fun z=>nomatch z);have bL:gQ (upd H8 MA.h (.dK (bV J (Ac z)))) C M MA ws n { S0 with hs:=(R.take (i + 1)).foldl (fun d z=>bV d (Ac z)) S0.hs }:=by
    rw[db];exact aa.setH (iD Z) (by omega) (Am _) hT9 (by omega) (hX8.drop _)
   have T9:fQ H8 (upd H8 MA.h (.dK (bV J (Ac z)))):=fun q us e=>by
    rw[aF (bT e O (fun z=>nomatch z))];exact e
   have ax:upd H8 MA.h (.dK (bV J (Ac z))) L=some (.lst xs):=by
    rw[aF ck];exact an
   have a0:Tb T (upd H8 MA.h (.dK (bV J (Ac z)))):=jP ae O;have K9:cQ [T,MA.h,MA.i,MA.me] H (upd H8 MA.h (.dK (bV J (Ac z)))):=K8.trans (cR (by simp));have cb:upd H8 MA.h (.dK (bV J (Ac z))) MA.h=some (.dK (bV J (Ac z))):=aA;refine⟨_,rfl,.inl ⟨rfl,_,aU an⟩,_,rfl,M,C,_,_,_,rfl,ad.ins,hc.cl,hc.h,rfl,MA.h,rfl,.inl ⟨J,.inl O⟩,_,rfl,J,Ac z,_,O,rfl,hv1,t9,_,1,_,rfl,rfl,aH (T9 _ _ f1),rfl,L,tp9,xs,xs9,rfl,rfl,ax,T9 _ _ f2,zs _ (by omega),?_⟩;generalize upd H8 MA.h (.dK (bV J (Ac z)))=H9 at bL T9 ax a0 K9 cb ⊢;have ba:fQ H9 (upd H9 L (.lst (xs ++ xs9))):=fun q us e=>by
    rw[aF (bT e ax (fun z=>nomatch z))];exact e
   have aC:fQ H8 (upd H9 L (.lst (xs ++ xs9))):=fun q us e=>ba _ _ (T9 _ _ e);refine⟨_,bV J (Ac z),c9,xs ++ xs9,ps ++ ps9,rfl,fun bb o nn e=>?_,fun q us e=>aC _ _ (T8 _ _ e),aFP a0 ax,bL.list ax,by rw[jO,bd,cc,AC,hz];simp,by rw[aF ck.symm];exact cb,iD Z,by omega,hT9.on aC,aA,Paired.app (ao.on aC) (f3.on aC),ai.app f4,by rw[jO];omega,fun j y hj ey=>?_⟩
   ·rw[aF (aJ e c2)];exact K9 bb o nn e
   ·obtain⟨vy,hvy⟩:=aj j y (by omega) ey;rw[g8,Ia]
    ·exact⟨vy,hvy⟩
    ·intro zz;have cx:=Ac.inj zz;subst cx;obtain⟨h1,e1⟩:=Ax.mp hz;obtain⟨h2',e2⟩:=Ax.mp ey;have:=(List.getElem_inj de).mp (e1.trans e2.symm);omega
  ·rintro σ H8 ⟨o6,J,c,xs,ps,rfl,K8,T8,ae,aa,bd,O,Z,ah,aI,an,ao,ai,cw,aj⟩;rw[bp,AH]at aa bd;have ad:=aa.mo;obtain⟨hl8',hh8',hX8⟩:=aa.hx;rw[O]at hh8';cases hh8';obtain⟨rks,hr8,hrk8⟩:=ad.r;have dk:=aI.pos;have cy:=ai.len;have cv:=BB ao;refine⟨_,rfl,_,rfl,M,C,_,_,_,rfl,ad.ins,hc.cl,hc.r,rfl,_,rfl,MA.r,L,rks,xs,ps,ws,rfl,hr8,hrk8,an,ao,ai,BS (show xs.length≤8000000 by omega) (by rw[B0];omega),ae,fun t9 b1 bq H9 S9 a0 b2 ci b3 di=>?_⟩;refine⟨zZ2,fun u9 dd=>?_⟩;have Y:=aK (o:=.tup [V.str hs0,.ref t9]) dd;have au:=(aa.sameT S9 ae).same Y;have be:Tb T _:=a0.same Y;have am:upd H9 u9 (.tup [V.str hs0,.ref t9]) MA.h=some (.dK J):=by
    obtain⟨tps,hTT,_⟩:=ae.ex;exact Y _ _ (S9 _ _ (fun z=>by rw[z,hTT]at O;cases O) O)
   have ba:fQ H8 (upd H9 u9 (.tup [V.str hs0,.ref t9])):=fun q us e=>Y _ _ (dL S9 ae _ _ e);have b4:cQ [T,MA.h,MA.i,MA.me] H (upd H9 u9 (.tup [V.str hs0,.ref t9])):=fun bb o nn e=>Y _ _ (S9 _ _ (fun z=>nn (by rw[z];simp)) (K8 bb o nn e));have hE:oJ (upd H9 u9 (.tup [V.str hs0,.ref t9])) ws (.ref u9) (acr bq):=⟨u9,t9,hs0,b1,bq,rfl,aA,Y _ _ b2,ci.same Y,b3,rfl⟩
   have dj:pR (upd H9 u9 (.tup [V.str hs0,.ref t9])) ws (.ref u9) hs0 (R.map S0.ac).sum:=⟨u9,t9,b1,bq,rfl,aA,Y _ _ b2,ci.same Y,b3,by rw[di,bd]⟩
   have bi:=(hX8.on ba).put (z:=G) dj;obtain⟨c',hT11,hc11⟩:=(aI.on ba).put (k:=Ac G) Z hE;have eb:=cD J (Ac G) (.ref u9);generalize upd H9 u9 (.tup [V.str hs0,.ref t9])=ej at au be am b4 hT11 bi ⊢;have bm:=au.mo;have eJ:fV S0 R G={ S0 with hs:=bS (R.foldl (fun d z=>bV d (Ac z)) S0.hs) (Ac G) (.str hs0),ac:=lG S0.ac G (R.map S0.ac).sum }:=by
    unfold fV;rw[al,hsv0];rfl
   exact⟨_,rfl,M,C,_,_,_,rfl,bm.ins,hc.cl,hc.h,rfl,_,rfl,MA.h,_,rfl,gP.k (k:=Ac G) am (BS ah (by rw[B0];omega)),k _ _ _ (kJ _ _ e0 ((Ib rfl).trans eJ)) (b4.trans (cR (by simp))) (jP be am) (au.setH (lF _ Z) (by omega) (by omega) hT11 (by omega) bi)⟩
structure oO(P:AD)(w:AV)(K:Ah)(mg:Str→Option Ad)(base:Bi)(C T:Ag)(g:Ag)(W:List Str):Prop where
 ex:∃ fd,cY P w K mg base CX0 5 g fd ["moment","row"] (jA C T W)∧AT K (.ref g)=true∧fX K fd ["moment","row"] []
theorem aBM:cC ["moment","row","deed"] ["moment","row"] (aO aAX):=⟨rfl,rfl,rfl,by decide,rfl,by decide,by decide⟩
theorem aEB{f C T ra Z g1 Y g3 O J q:Ag}{fd:A3}(F:Fun K "carry_out" "carry_out" aAX f fd)
  (ad:∀ h:Bi,K.In h→h.DictOf (cM P w) ra (fmR Z g1 Y g3 O J q q)) (mF:mg "DEEDS"=some (.ref ra))
  (G0:oO P w K mg base C T Z ["part"]) (G1:oO P w K mg base C T g1 ["join"]) (G2:oO P w K mg base C T Y ["forfeit"]) (G3:oO P w K mg base C T g3 ["measure"]) (G4:oO P w K mg base C T O ["mend"]) (G5:oO P w K mg base C T J ["alone"]) (G6:oO P w K mg base C T q ["breach","view"]):
  cY P w K mg base CX0 6 f fd ["moment","row"] (jA C T gH):=by
 refine F.ok aBM (fun vs H Q E h=>?_) (fun ao A outer s H vs Q E hr h=>?_)
 ·obtain⟨M,A,ws,n,S,x,r,rfl,_⟩:=h;rfl
 ·obtain⟨M,MA,ws,n,S,x,r,rfl,mx,hn,tb,rdv,ok,hw,k⟩:=h;have nd:=aBM.nd;refine⟨_,aB (aS (i:=2) nd rfl (Av rfl) (aFs ad (aHk Z g1 Y g3 O J q q) (by rfl) mF (aR aW (pv 1) aD Ig) Ig))
   (aM (bJ (aDO (k:=5) (ps:=["moment","row"]) (pv 2) hr (aG (pv 0) (aG (pv 1) aE))))),?_⟩
  obtain⟨t,b8,rfl,ht,hrest⟩:=cV.Ok.tup (fs:=ws) rdv;have a0:=(aHl (word:=r.word) (name:=r.name) (day:=r.day) (b8:=b8)).1;obtain⟨g,W,hg,hW,fdg,Gg,kg,bg⟩:∃ g W,bF (fmV Z g1 Y g3 O J q q) (Ac r.word)=some (.ref g)∧r.word∈W∧∃ fd,cY P w K mg base CX0 5 g fd ["moment","row"] (jA C T W)∧AT K (.ref g)=true∧fX K fd ["moment","row"] []:=by
   have G:=ok.rs.word;unfold gH at G;simp only[Ak,Ap,or_false]at G;rcases G with e | e | e | e | e | e | e | e <;> rw[e]
   ·exact⟨Z,_,rfl,Al,G0.ex⟩
   ·exact⟨g1,_,rfl,Al,G1.ex⟩
   ·exact⟨Y,_,rfl,Al,G2.ex⟩
   ·exact⟨g3,_,rfl,Al,G3.ex⟩
   ·exact⟨O,_,rfl,Al,G4.ex⟩
   ·exact⟨J,_,rfl,Al,G5.ex⟩
   ·exact⟨q,_,rfl,Al,G6.ex⟩
   ·exact⟨q,_,rfl,An _ Al,G6.ex⟩
  exact⟨_,rfl,t,_,0,_,rfl,rfl,aH ht,a0,Ac r.word,.ref g,rfl,hg,_,rfl,g,_,rfl,⟨fdg,Gg,kg,bg⟩,_,rfl,_,rfl,M,MA,ws,n,S,_,r,rfl,mx,hn,tb,rdv,ok,hW,k⟩
abbrev L4:=Str×Str×Int×Int
def mU(l:L4):A8:=.tuple [.str l.1,.str l.2.1,.int l.2.2.1,.int l.2.2.2]
structure LOk(l:L4):Prop where
 f:cH l.1=true
 h:cH l.2.1=true
 a1:1≤l.2.2.1
 a2:l.2.2.1≤1000000
 i1:0≤l.2.2.2
 i2:l.2.2.2≤10000000
def jQ(S:Ex)(l:L4):Ex:={ S with hs:=bS S.hs (Ac l.1) (.str l.2.1),ac:=lG S.ac l.1 l.2.2.1,inc:=bS S.inc (Ac l.1) (.int l.2.2.2) }
def ex0(Ls:List L4):Ex:=Ls.foldl jQ ⟨[],fun _=>0,[],[]⟩
theorem vW:∀(Ls:List L4) (S:Ex),(Ls.foldl jQ S).men=S.men
 | [],_=>rfl
 | l :: Ls,S=>vW Ls (jQ S l)
theorem pU(Ls:List L4):(ex0 Ls).men=[]:=vW Ls _
theorem gI:∀(Ls:List L4),A9 (Ls.map mU)=false
 | []=>by simp[A9]
 | l :: Ls=>by
  rw[Au];unfold A9;rw[gI Ls];simp[mU,DJ,A9]
inductive zS(C:Ag)(vs:List V)(H:Hp)(Q:VK)(u3_:XK):Prop
 | mk (x dx lay:Ag) (xs:List V) (Ls:List L4) (q0:vs=[.ref x,.ref lay]) (q1:H x=some (.ins C dx [])) (q2:H lay=some (.tup xs)) (q3:cE false H xs (Ls.map mU)) (q4:(∀ l∈Ls,LOk l)) (q5:Ls.length≤8) (q6:∀(A:MA) (H':Hp),bA x H H'→H A.h=none→H A.i=none→H A.me=none→gQ H' C x A (Ls.map (·.1)) 8 (ex0 Ls)→Q .non H'):zS C vs H Q u3_
def aEC(C:Ag):Sp:=fun vs H Q u3_=>zS C vs H Q u3_
structure aIl(H:Hp)(C x:Ag)(A:MA)(ws:List Str)(i:Nat)(S:Ex):Prop where
 ins:H x=some (.ins C A.dx (aA2 A))
 r:∃ rks,H A.r=some (.dK rks)∧mQ rks (ws.take i)∧rks.length≤i
 h:∃ hol b,H A.h=some (.dK hol)∧(hol.map (·.1)).Nodup∧hol.length≤i∧f7 H ws hol b∧b≤i * 1000000∧oM H ws hol S.hs S.ac
 a:∃ acs,H A.a=some (.dK acs)∧acs.length≤i
 i:H A.i=some (.dK S.inc)∧mQ S.inc (ws.take i)∧S.inc.length≤i
 me:H A.me=some (.dK [])
 nd:[A.r,A.h,A.a,A.i,A.me].Nodup
theorem aBN{G:List (Key×V)}{ws:List Str}{i:Nat}{z:Str}{n:Int}(h:mQ G (ws.take i))(e:ws[i]?=some z):mQ (bS G (Ac z) (.int n)) (ws.take (i + 1)):=fun y F=>by
 rw[dJ];by_cases J:y=z
 ·rw[Ib (by rw[J])];exact⟨n,rfl⟩
 ·rw[Ia fun q=>J (Ac.inj q)];rw[AC,e]at F;rcases AO.mp F with F | F
  ·exact h y F
  ·exact absurd (by simpa using F) J
theorem mV{H:Hp}{x:V}{l:L4}(r:RdV false H x (mU l)):∃(q:Ag),x=.ref q∧H q=some (.tup [.str l.1,.str l.2.1,.int l.2.2.1,.int l.2.2.2]):=by
 unfold mU at r;cases r with
 | tup e hl q=>
  cases q with
  | cons J q=>
   cases q with
   | cons G q=>
    cases q with
    | cons M q=>
     cases q with
     | cons F q=>
      cases q;cases J;cases G;cases M;cases F;exact⟨_,rfl,e⟩
abbrev vX:Co:=aFm aFC 0
theorem aED:cC ["self","laying","field","house","acres","inches"] ["self","laying"] (aO vX):=⟨rfl,rfl,rfl,by decide,rfl,by decide,by decide⟩
theorem aFQ{f C:Ag}{fd:A3}(F:Fun K "__init__" "Moment.__init__" vX f fd)(hc:MC K C)(bd:mg "len"=none):cY P w K mg base CX0 1 f fd ["self","laying"] (aEC C):=by
 refine F.ok aED (fun vs H Q E h=>?_) (fun dc A outer s H vs Q E hr h=>?_)
 ·obtain⟨x,dx,lay,xs,Ls,rfl,_⟩:=h;rfl
 ·obtain⟨x,dx,lay,xs,Ls,rfl,hx,hlay,hrd,hfl,h8,k⟩:=h;obtain⟨ws,hws⟩:∃ ws,ws=Ls.map (·.1):=⟨_,rfl⟩
  rw[← hws]at k;have hu:=d8 hr;have nd:=aED.nd;refine⟨_,aB (rW (pv 0) j6 rfl) (aB (rW (pv 0) j6 rfl) (aB (rW (pv 0) j6 rfl) (aB (rW (pv 0) j6 rfl) (aB (rW (pv 0) j6 rfl)
   (aM (fT Be rfl (dS (pv 1)) (g:=xR K 4 (eV (aY 2) (eV (aY 3) (eV (aY 4) (eV (aY 5) xQ))))) (iX rfl (b9 (aZ (i:=2) nd rfl (Av rfl)) (b9 (aZ (i:=3) nd rfl (Av rfl)) (b9 (aZ (i:=4) nd rfl (Av rfl)) (b9 (aZ (i:=5) nd rfl (Av rfl)) gM)))))
    (aB (c8 hu (dG (pv 0) rfl) (pv 2) (aV aCo (by rfl) bd AW (aG (dG (pv 0) rfl) aE)) rfl)
    (aB (c8 hu (dG (pv 0) rfl) (pv 2) (cJ (aG (pv 3) (aG (cJ (aG (cJ (aG (pv 2) (aG aD (aG (pv 4) aE)))) aE)) aE))) rfl)
    (aB (c8 hu (dG (pv 0) rfl) (pv 2) (pv 4) rfl)
    (aM (c8 hu (dG (pv 0) rfl) (pv 2) (pv 5) rfl))))))))))),?_⟩
  have st:∀(H0:Hp) (d:Ag) (fs jt:List (Str×V)),H0 d=none→H0 x=some (.ins C dx fs)→upd (upd H0 d (.dK [])) x (.ins C dx jt) x=some (.ins C dx jt)∧upd (upd H0 d (.dK [])) x (.ins C dx jt) d=some (.dK [])∧∀ b o,b≠x→H0 b=some o→upd (upd H0 d (.dK [])) x (.ins C dx jt) b=some o:=fun H0 d fs jt hd bp=>by
   have dx:d≠x:=(aJ bp hd).symm;refine⟨aA,by rw[aF dx];exact aA,fun b o n e=>?_⟩;rw[aF n,aF (aJ e hd)];exact e
  refine fun d1 am=>⟨_,rfl,x,C,dx,_,rfl,(by rw[aF (aJ hx am)];exact hx),hc.cl,hc.r,by decide,?_⟩
  obtain⟨x1,y1,k1⟩:=st H d1 _ (gF "ranks" (.ref d1) []) am hx;generalize upd (upd H d1 (.dK [])) x _=H1 at x1 y1 k1 ⊢;refine fun Y aj=>⟨_,rfl,x,C,dx,_,rfl,(by rw[aF (aJ x1 aj)];exact x1),hc.cl,hc.h,(by show(1:Nat) < 1000;decide),?_⟩
  obtain⟨x2,y2,k2⟩:=st H1 Y _ (gF "holdings" (.ref Y) (gF "ranks" (.ref d1) [])) aj x1;generalize upd (upd H1 Y (.dK [])) x _=H2 at x2 y2 k2 ⊢;refine fun d3 af=>⟨_,rfl,x,C,dx,_,rfl,(by rw[aF (aJ x2 af)];exact x2),hc.cl,hc.a,(by show(2:Nat) < 1000;decide),?_⟩
  obtain⟨x3,y3,k3⟩:=st H2 d3 _ (gF "acres" (.ref d3) (gF "holdings" (.ref Y) (gF "ranks" (.ref d1) []))) af x2;generalize upd (upd H2 d3 (.dK [])) x _=H3 at x3 y3 k3 ⊢;refine fun d4 Z=>⟨_,rfl,x,C,dx,_,rfl,(by rw[aF (aJ x3 Z)];exact x3),hc.cl,hc.i,(by show(3:Nat) < 1000;decide),?_⟩
  obtain⟨x4,y4,k4⟩:=st H3 d4 _ (gF "inches" (.ref d4) (gF "acres" (.ref d3) (gF "holdings" (.ref Y) (gF "ranks" (.ref d1) [])))) Z x3;generalize upd (upd H3 d4 (.dK [])) x _=H4 at x4 y4 k4 ⊢;refine fun d5 O=>⟨_,rfl,x,C,dx,_,rfl,(by rw[aF (aJ x4 O)];exact x4),hc.cl,hc.m,(by show(4:Nat) < 1000;decide),?_⟩
  obtain⟨x5,y5,k5⟩:=st H4 d5 _ (aA2 ⟨dx,d1,Y,d3,d4,d5⟩) O x4;have ef:gF "menders" (.ref d5) (gF "inches" (.ref d4) (gF "acres" (.ref d3) (gF "holdings" (.ref Y) (gF "ranks" (.ref d1) []))))=aA2 ⟨dx,d1,Y,d3,d4,d5⟩:=rfl;rw[ef];generalize upd (upd H4 d5 (.dK [])) x _=H5 at x5 y5 k5 ⊢;have nx:∀{G:Hp} {d:Ag} {iz:List (Key×V)} {fs:List (Str×V)},G d=some (.dK iz)→G x=some (.ins C dx fs)→d≠x:=fun a b=>bT a b (fun z=>nomatch z);have e1:=k5 _ _ (nx y1 x1) (k4 _ _ (nx y1 x1) (k3 _ _ (nx y1 x1) (k2 _ _ (nx y1 x1) y1)));have e2:=k5 _ _ (nx y2 x2) (k4 _ _ (nx y2 x2) (k3 _ _ (nx y2 x2) y2));have e3:=k5 _ _ (nx y3 x3) (k4 _ _ (nx y3 x3) y3);have e4:=k5 _ _ (nx y4 x4) y4;have K0:bA x H H5:=fun b o e n=>k5 _ _ n (k4 _ _ n (k3 _ _ n (k2 _ _ n (k1 _ _ n e))));have bc:[d1,Y,d3,d4,d5].Nodup:=by
   have bu:d1≠Y:=aJ y1 aj;have bO:d1≠d3:=aJ (k2 _ _ (nx y1 x1) y1) af;have bj:Y≠d3:=aJ y2 af;have bP:d1≠d4:=aJ (k3 _ _ (nx y1 x1) (k2 _ _ (nx y1 x1) y1)) Z;have bh:Y≠d4:=aJ (k3 _ _ (nx y2 x2) y2) Z;have bm:d3≠d4:=aJ y3 Z;have bq:d1≠d5:=aJ (k4 _ _ (nx y1 x1) (k3 _ _ (nx y1 x1) (k2 _ _ (nx y1 x1) y1))) O;have bz:Y≠d5:=aJ (k4 _ _ (nx y2 x2) (k3 _ _ (nx y2 x2) y2)) O;have bx:d3≠d5:=aJ (k4 _ _ (nx y3 x3) y3) O;have b3:d4≠d5:=aJ y4 O;simp[bu,bO,bP,bq,bj,bh,bz,bm,bx,b3]
  have fr:∀{G G':Hp} {d:Ag},(∀ b o,b≠x→G b=some o→G' b=some o)→(∃ o,G' x=some o)→G' d=none→G d=none:=fun{G G' d} kq hx' hd=>by
   cases q:G d with
   | none=>rfl
   | some o=>
    by_cases e:d=x
    ·obtain⟨o',hx'⟩:=hx';rw[e,hx']at hd;cases hd
    ·rw[kq d o e q]at hd;cases hd
  have f2:H Y=none:=fr k1 ⟨_,x1⟩ aj;have f3:H d3=none:=fr k1 ⟨_,x1⟩ (fr k2 ⟨_,x2⟩ af);have f4:H d4=none:=fr k1 ⟨_,x1⟩ (fr k2 ⟨_,x2⟩ (fr k3 ⟨_,x3⟩ Z));have f5:H d5=none:=fr k1 ⟨_,x1⟩ (fr k2 ⟨_,x2⟩ (fr k3 ⟨_,x3⟩ (fr k4 ⟨_,x4⟩ O)));obtain⟨MA,hMA⟩:∃ MA:MA,MA=⟨dx,d1,Y,d3,d4,d5⟩:=⟨_,rfl⟩
  have I0:aIl H5 C x MA ws 0 (ex0 (Ls.take 0)):=by
   subst hMA;exact⟨x5,⟨[],e1,fun y hy=>by simp at hy,Am _⟩,⟨[],0,e2,by simp,Am _,.nil,by simp,⟨rfl,fun k v e=>by cases e⟩⟩,⟨[],e3,Am _⟩,⟨e4,fun y hy=>by simp at hy,Am _⟩,y5,bc⟩
  have ap:H MA.r=none∧H MA.h=none∧H MA.a=none∧H MA.i=none:=by
   subst hMA;exact⟨am,f2,f3,f4⟩
  have bw:H MA.me=none:=by
   subst hMA;exact f5
  have ao:H5 lay=some (.tup xs):=K0 _ _ hlay (bT hlay hx (fun z=>nomatch z));have ay:=hrd.len;refine⟨_,rfl,lay,rfl,⟨_,aH ao⟩,?_⟩;refine jG (K:=K) (xs:=xs) (fun i σ H'=>Ex3 fun(o2 o3 o4:Option V)=>∃(o5:Option V),Aw3 (σ=[some (.ref x),some (.ref lay),o2,o3,o4,o5]) (bA x H H') (aIl H' C x MA ws i (ex0 (Ls.take i)))) ⟨none,none,none,none,rfl,K0,I0⟩ (fun i σ H' _ p=>by obtain⟨_,_,_,_,_,kk,_⟩:=p;exact aH (kk _ _ hlay (bT hlay hx (fun z=>nomatch z)))) ?_ ?_
  ·rintro i v σ M hv ⟨o2,o3,o4,o5,rfl,kk,I⟩;clear x1 y1 k1 x2 y2 k2 x3 y3 k3 x4 y4 k4 x5 y5 k5 e1 e2 e3 e4 I0 bc am aj af Z O st nx ef fr f2 f3 f4 f5;obtain⟨d,hd,rd'⟩:=hrd.at hv;rw[Ao]at hd;obtain⟨l,hl,rfl⟩:=AL.mp hd;obtain⟨f1,g1,a1,i1⟩:=l;have bb:=hfl _ (AK hl);have dd:1≤a1:=bb.a1;have cL:a1≤1000000:=bb.a2;have b5:∀ b us,H b=some (.tup us)→M b=some (.tup us):=fun b us e=>kk _ _ e (bT e hx (fun z=>nomatch z));obtain⟨q,rfl,hq0⟩:=mV rd';have hq:M q=some (.tup [.str f1,.str g1,.int a1,.int i1]):=b5 _ _ hq0;have an:ws[i]?=some f1:=by rw[hws,Ao,hl];rfl
   have a0:f1∈ws:=AK an;have c0:i < Ls.length:=(Ax.mp hl).1;have eS:ex0 (Ls.take (i + 1))=jQ (ex0 (Ls.take i)) (f1,g1,a1,i1):=by
    unfold ex0;rw[AC,hl,Dd];rfl
   generalize ex0 (Ls.take i)=S at eS I;have hn:=I.nd;simp only[AY,Ak,Ap,or_false,not_or]at hn;obtain⟨⟨n12,n13,n14,n15⟩,⟨n23,n24,n25⟩,⟨n34,n35⟩,n45,_⟩:=hn;obtain⟨rks,r1,r2,r3⟩:=I.r;obtain⟨hol,b,h1,h2,h3,h4,h5,hX⟩:=I.h;obtain⟨acs,c1,c2⟩:=I.a;obtain⟨j1,j2,j3⟩:=I.i;generalize ai:S.inc=inc at j1 j2 j3;have me:=I.me;have ins:=I.ins;have zl:∀ k,k≤8→k < sizeLine:=fun k h=>by rw[B0];omega
   have al:∀{G:Hp} {d:Ag} {iz:List (Key×V)} {fs:List (Str×V)},G d=some (.dK iz)→G x=some (.ins C MA.dx fs)→x≠d:=fun a b=>(bT a b (fun z=>nomatch z)).symm;refine⟨q,_,rfl,aH hq,rfl,_,_,rfl,_,_,rfl,_,_,rfl,_,_,rfl,rfl,_,rfl,x,C,_,_,_,rfl,ins,hc.cl,hc.r,rfl,MA.r,rks,rfl,r1,_,rfl,x,C,_,_,_,rfl,ins,hc.cl,hc.r,rfl,_,rfl,MA.r,_,rfl,gP.k (k:=Ac f1) r1 (zl _ (by omega)),?_⟩;have L1:=cD rks (Ac f1) (.int (rks.length:Int));have R2:=aBN (n:=(rks.length:Int)) r2 an;obtain⟨fr1,fr2,fr3,fr4⟩:=ap;have aL:bA x H (upd M MA.r (.dK (bS rks (Ac f1) (.int (rks.length:Int))))):=fun b o e n=>by
    rw[aF (aJ e fr1)];exact kk b o e n
   have aT:upd M MA.r (.dK (bS rks (Ac f1) (.int (rks.length:Int)))) MA.r=some (.dK (bS rks (Ac f1) (.int (rks.length:Int)))):=aA;have g2:upd M MA.r (.dK (bS rks (Ac f1) (.int (rks.length:Int)))) MA.h=some (.dK hol):=by rw[aF (B4 n12)];exact h1
   have g3:upd M MA.r (.dK (bS rks (Ac f1) (.int (rks.length:Int)))) MA.a=some (.dK acs):=by rw[aF (B4 n13)];exact c1
   have g4:upd M MA.r (.dK (bS rks (Ac f1) (.int (rks.length:Int)))) MA.i=some (.dK inc):=by rw[aF (B4 n14)];exact j1
   have g5:upd M MA.r (.dK (bS rks (Ac f1) (.int (rks.length:Int)))) MA.me=some (.dK []):=by rw[aF (B4 n15)];exact me
   have g6:upd M MA.r (.dK (bS rks (Ac f1) (.int (rks.length:Int)))) x=some (.ins C MA.dx (aA2 MA)):=by rw[aF (al r1 ins)];exact ins
   have g7:f7 (upd M MA.r (.dK (bS rks (Ac f1) (.int (rks.length:Int))))) ws hol b:=h4.on fun b us e=>by rw[aF (bT e r1 (fun z=>nomatch z))];exact e
   have gX:oM (upd M MA.r (.dK (bS rks (Ac f1) (.int (rks.length:Int))))) ws hol S.hs S.ac:=hX.on fun b us e=>by rw[aF (bT e r1 (fun z=>nomatch z))];exact e
   generalize upd M MA.r (.dK (bS rks (Ac f1) (.int (rks.length:Int))))=G1 at aL aT g2 g3 g4 g5 g6 g7 gX ⊢;refine⟨_,rfl,_,rfl,_,rfl,zZ3,fun u1 b2=>?_⟩;have s1:=aK (o:=.tup [V.str f1,.int 0,.int a1]) b2;refine⟨zZ1,fun u2 bI=>?_⟩;have s2:=aK (o:=.tup [V.ref u1]) bI;refine⟨zZ2,fun u3 b0=>?_⟩;have s3:=aK (o:=.tup [V.str g1,.ref u2]) b0;have J:=(s1.trans s2).trans s3;have he:oJ (upd (upd (upd G1 u1 (.tup [V.str f1,.int 0,.int a1])) u2 (.tup [V.ref u1])) u3 (.tup [V.str g1,.ref u2])) ws (.ref u3) a1:=⟨u3,u2,g1,[.ref u1],[(f1,0,a1)],rfl,aA,s3 _ _ aA,.cons ⟨u1,rfl,s3 _ _ (s2 _ _ aA)⟩ .nil,⟨fun p hp=>by rw[AE.mp hp];exact⟨a0,by dsimp only;omega⟩⟩,by simp[acr,dA]⟩
   have ax:pR (upd (upd (upd G1 u1 (.tup [V.str f1,.int 0,.int a1])) u2 (.tup [V.ref u1])) u3 (.tup [V.str g1,.ref u2])) ws (.ref u3) g1 a1:=⟨u3,u2,[.ref u1],[(f1,0,a1)],rfl,aA,s3 _ _ aA,.cons ⟨u1,rfl,s3 _ _ (s2 _ _ aA)⟩ .nil,⟨fun p hp=>by rw[AE.mp hp];exact⟨a0,by dsimp only;omega⟩⟩,by simp[acr,dA]⟩
   have aI:bA x H (upd (upd (upd G1 u1 (.tup [V.str f1,.int 0,.int a1])) u2 (.tup [V.ref u1])) u3 (.tup [V.str g1,.ref u2])):=aL.same J;refine⟨_,rfl,x,C,_,_,_,rfl,J _ _ g6,hc.cl,hc.h,rfl,_,rfl,MA.h,_,rfl,gP.k (k:=Ac f1) (J _ _ g2) (zl _ (by omega)),?_⟩;have q1:=J _ _ aT;have q2:=J _ _ g2;have q3:=J _ _ g3;have q4:=J _ _ g4;have q5:=J _ _ g5;have q6:=J _ _ g6;have q7:=g7.on (bU J);have qX:=(gX.on (bU J)).put (z:=f1) ax;generalize upd (upd (upd G1 u1 (.tup [V.str f1,.int 0,.int a1])) u2 (.tup [V.ref u1])) u3 (.tup [V.str g1,.ref u2])=G2 at he ax aI q1 q2 q3 q4 q5 q6 q7 qX ⊢;obtain⟨b',hT',hb'⟩:=q7.put (k:=Ac f1) h2 he;have L2:=cD hol (Ac f1) (.ref u3);have L3:=cD acs (Ac f1) (.int a1);have L4:=cD inc (Ac f1) (.int i1);have R4:=aBN (n:=i1) j2 an;have e6:upd G2 MA.h (.dK (bS hol (Ac f1) (.ref u3))) x=some (.ins C MA.dx (aA2 MA)):=by rw[aF (al q2 q6)];exact q6
   have e3:upd G2 MA.h (.dK (bS hol (Ac f1) (.ref u3))) MA.a=some (.dK acs):=by rw[aF (B4 n23)];exact q3
   refine⟨_,rfl,_,rfl,x,C,_,_,_,rfl,e6,hc.cl,hc.a,rfl,_,rfl,MA.a,_,rfl,gP.k (k:=Ac f1) e3 (zl _ (by omega)),?_⟩;have aq:upd (upd G2 MA.h (.dK (bS hol (Ac f1) (.ref u3)))) MA.a (.dK (bS acs (Ac f1) (.int a1))) x=some (.ins C MA.dx (aA2 MA)):=by rw[aF (al e3 e6)];exact e6
   have e4:upd (upd G2 MA.h (.dK (bS hol (Ac f1) (.ref u3)))) MA.a (.dK (bS acs (Ac f1) (.int a1))) MA.i=some (.dK inc):=by rw[aF (B4 n34),aF (B4 n24)];exact q4
   refine⟨_,rfl,_,rfl,x,C,_,_,_,rfl,aq,hc.cl,hc.i,rfl,_,rfl,MA.i,_,rfl,gP.k (k:=Ac f1) e4 (zl _ (by omega)),?_⟩;have tt:fQ G2 (upd (upd (upd G2 MA.h (.dK (bS hol (Ac f1) (.ref u3)))) MA.a (.dK (bS acs (Ac f1) (.int a1)))) MA.i (.dK (bS inc (Ac f1) (.int i1)))):=fun b us e=>by
    rw[aF (bT e q4 (fun z=>nomatch z)),aF (bT e q3 (fun z=>nomatch z)),aF (bT e q2 (fun z=>nomatch z))];exact e
   have bn:b'≤((i + 1:Nat):Int) * 1000000:=by
    rw[Gi];omega
   refine⟨_,_,_,_,rfl,fun b o e n=>?_,?_,⟨_,?_,R2,by omega⟩,⟨_,b',?_,lF _ h2,by omega,hT'.on tt,bn,by rw[eS];exact qX.on tt⟩,⟨bS acs (Ac f1) (.int a1),?_,by omega⟩,⟨by rw[eS];unfold jQ;rw[ai];exact aA,by rw[eS];unfold jQ;rw[ai];exact R4,by rw[eS];unfold jQ;rw[ai];exact AG L4 (by omega)⟩,?_,I.nd⟩
   ·rw[aF (aJ e fr4),aF (aJ e fr3),aF (aJ e fr2)];exact aI b o e n
   ·rw[aF (al e4 aq)];exact aq
   ·rw[aF n14,aF n13,aF n12];exact q1
   ·rw[aF n24,aF n23];exact aA
   ·rw[aF n34];exact aA
   ·rw[aF (B4 n45),aF (B4 n35),aF (B4 n25)];exact q5
  ·rintro σ H' ⟨o2,o3,o4,o5,rfl,kk,I⟩;rw[Ab]at ay;rw[ay,AH]at I;have bo:ws.length=Ls.length:=by rw[hws,Ab]
   obtain⟨rks,r1,r2,r3⟩:=I.r;obtain⟨hol,b,h1,h2,h3,h4,h5,hX⟩:=I.h;obtain⟨i1,i2,i3⟩:=I.i;rw[← bo,AH]at r2 i2;have hn:=I.nd;simp only[AY,Ak,Ap,or_false,not_or]at hn;exact k MA H' kk ap.2.1 ap.2.2.2 bw ⟨by rw[pU];exact⟨I.ins,⟨rks,r1,r2⟩,⟨hol,b,h1,h2,by omega,h4,by omega⟩,⟨_,i1,i2,by omega⟩,I.me,iL.nil,Bc _,hn.1.1,hn.1.2.2.1,hn.1.2.2.2,hn.2.1.2.1,hn.2.1.2.2,hn.2.2.2.1⟩,⟨hol,h1,hX⟩,i1⟩
inductive Run(S:Ex):List cV→List Str→Ex→Prop
 | nil:Run S [] [] S
 | snoc {us:List cV} {zs:List Str} {S1 S2:Ex} {r:cV} {z:Str} (h:Run S us zs S1) (s:f8 S1 r.word r.ds z S2):Run S (us ++ [r]) (zs ++ [z]) S2
theorem Run.len{S S':Ex}{q:List cV}{zs:List Str}(h:Run S q zs S'):zs.length=q.length:=by
 induction h with
 | nil=>rfl
 | snoc _ _ F=>rw[Ay,Ay,F];rfl
structure jC(H:Hp)(t:Ag)(Ls:List L4)(us:List cV):Prop where
 ex:∃(lay rw:Ag) (xs ys:List V),H t=some (.tup [.ref lay,.ref rw])∧H lay=some (.tup xs)∧cE false H xs (Ls.map mU)∧(∀ l∈Ls,LOk l)∧Ls.length≤8∧H rw=some (.tup ys)∧jS H ys us (Ls.map (·.1))∧us.length≤40
theorem jS.on{H H':Hp}{xs:List V}{q:List cV}{fs:List Str}(h:jS H xs q fs)(t:fQ H H'):jS H' xs q fs:=⟨h.len,fun i x hx=>by
 obtain⟨u,h1,h2,h3⟩:=h.at' i x hx;exact⟨u,h1,h3.on h2 t,h3⟩⟩
theorem jC.on{H H':Hp}{t:Ag}{Ls:List L4}{q:List cV}(h:jC H t Ls q)(k:fQ H H'):jC H' t Ls q:=by
 obtain⟨lay,rw,xs,ys,h1,h2,h3,h4,h6,h7,h8,h9⟩:=h.ex;exact⟨lay,rw,xs,ys,k _ _ h1,k _ _ h2,cE.onT k h3 (gI Ls),h4,h6,k _ _ h7,h8.on k,h9⟩
theorem aHn{T x C dx:Ag}{fs:List (Str×V)}{H H':Hp}(g:Tb T H)(e:H x=some (.ins C dx fs))(k:bA x H H'):Tb T H':=by
 obtain⟨ps,h1,h2,q⟩:=g.ex;refine⟨ps,k _ _ h1 (bT h1 e (fun z=>nomatch z)),h2,?_⟩;rcases q with q | ⟨c,q,F⟩
 ·exact .inl q
 ·exact .inr ⟨c,q,k _ _ F (bT F e (fun z=>nomatch z))⟩
theorem aFR{T L:Ag}{H H':Hp}(g:Tb T H')(s:fY T H H')(h:H' L=none):H L=none:=by
 cases q:H L with
 | none=>rfl
 | some o=>
  obtain⟨ps,h1,_⟩:=g.ex;rw[s _ _ (fun z=>by rw[z,h1]at h;cases h) q]at h;cases h
inductive vY(C T:Ag)(vs:List V)(H:Hp)(Q:VK)(u3_:XK):Prop
 | mk (t:Ag) (Ls:List L4) (us:List cV) (q0:vs=[.ref t]) (q1:jC H t Ls us) (q2:Tb T H) (q3:∀ l zs S H',Run (ex0 Ls) us zs S→H l=none→fY T H H'→Tb T H'→H' l=some (.lst (zs.map V.str))→Q (.ref l) H'):vY C T vs H Q u3_
def aBO(C T:Ag):Sp:=fun vs H Q u3_=>vY C T vs H Q u3_
theorem aBP:cC ["roll","laying","rows","moment"] ["roll"] (aO wT):=⟨rfl,rfl,rfl,by decide,rfl,by decide,by decide⟩
theorem aEE{f fI C T:Ag}{fd aa:A3}(F:Fun K "words" "words" wT f fd)(mk:Mk K C fI)(GI:cY P w K mg base CX0 1 fI aa ["self","laying"] (aEC C))(mC:mg "Moment"=some (.ref C))(bI:fX K aa ["self","laying"] [])
  (GD:Cl P w K mg base 6 "carry_out" ["moment","row"] (jA C T gH))
  :cY P w K mg base CX0 7 f fd ["roll"] (aBO C T):=by
 refine F.ok aBP (fun vs H Q E h=>?_) (fun aI A outer s H vs Q E hr h=>?_)
 ·obtain⟨t,Ls,us,rfl,_⟩:=h;rfl
 ·obtain⟨t,Ls,us,rfl,roll,tb,k⟩:=h;have ae:dQ 2 _:=hr.mono (by decide);have nd:=aBP.nd;refine⟨_,(aB (jR (pv 0) (iX rfl (b9 (aZ (i:=1) nd rfl (Av rfl)) (b9 (aZ (i:=2) nd rfl (Av rfl)) gM))))
   (aB (aS (i:=3) nd rfl (DK rfl) (aFd mk GI ae rfl mC bI .nil dX (aG (pv 1) aE)))
   (aM (bJ (dO (N:=["row","moment"]) (src:=[none,some 3]) (osc:=aO wT) (oN:=["roll","laying","rows","moment"]) ⟨by rfl,by decide,by decide,by decide,rfl,by rfl⟩ (dS (pv 2)) (fun cl s H fp iw C=>⟨aZ (i:=0) (show(["row","moment"]:List Str).Nodup by decide) rfl (Av rfl),dN,cG GD hr (aG (pv 1) (aG (pv 0) aE))⟩)))))),?_⟩
  obtain⟨lay,rw,xs,ys,h1,h2,h3,h4,h6,h7,h8,h9⟩:=roll.ex;refine⟨_,rfl,t,_,rfl,aH h1,rfl,_,_,rfl,_,_,rfl,rfl,_,rfl,fun x dx hx ag ne=>?_⟩;have s1:=aK (o:=.own x) ag;have s2:=aK (H:=upd H dx (.own x)) (o:=.ins C dx []) (p:=x) (by rw[aF (B4 ne)];exact hx);have G:=s1.trans s2;have ex:upd (upd H dx (.own x)) x (.ins C dx []) x=some (.ins C dx []):=aA;generalize upd (upd H dx (.own x)) x (.ins C dx [])=H0 at G ex ⊢;clear s2;refine⟨x,dx,lay,xs,Ls,rfl,ex,G _ _ h2,h3.same G,h4,h6,fun MA H1 k1 n1 n2 n3 ah=>⟨rfl,?_⟩⟩;have f:∀{a:Ag},H0 a=none→H a=none:=fun{a} z=>by
   cases q:H a with
   | none=>rfl
   | some o=>rw[G _ _ q]at z;cases z
  have f1:=f n1;have f2:=f n2;have f3:=f n3;have S1:fY T H H1:=fun b o _ e=>k1 b o (G _ _ e) (aJ e hx);have ai:Tb T H1:=aHn (tb.same G) ex k1;have hl:=h8.len;have z8:ys.length≤sizeLine:=aQ (by omega);refine⟨_,rfl,rw,rfl,⟨_,aH (dL S1 tb _ _ h7)⟩,?_⟩;refine dY (K:=K) (xs:=ys) (fun i O σ' H'=>Ex3 fun(o:Option V) (zs:List Str) (S:Ex)=>Aw6 (σ'=[o,some (.ref x)]) (O=zs.map V.str) (fY T H H') (Tb T H') (gQ H' C x MA (Ls.map (·.1)) (8 + 6 * i) S) (Run (ex0 Ls) (us.take i) zs S∧zs.length=i)) ⟨none,[],ex0 Ls,rfl,rfl,S1,ai,ah,.nil,rfl⟩
   z8 (fun i ys σ H' p=>by obtain⟨_,_,_,_,rfl,_,_,_,_,e⟩:=p;rw[Ab];omega) (fun i ys σ H' p=>by obtain⟨_,_,_,_,_,S,_⟩:=p;exact aH (dL S tb _ _ h7)) ?_ ?_
  ·rintro i v O σ' H3 hv ⟨o,zs,S,rfl,rfl,Y,J,M,run,Z⟩;dsimp only[aY];refine fU ?_;have hi:i < ys.length:=(Ax.mp hv).1;obtain⟨u,hu,rdu,oku⟩:=h8.at' i v hv;have T3:=dL Y tb;refine⟨_,rfl,_,rfl,x,MA,_,8 + 6 * i,_,v,u,rfl,M,by omega,J,oku.on rdu T3,oku,oku.rs.word,fun z S' H4 st k4 ad ab=>?_⟩;refine⟨_,zs ++ [z],S',rfl,by rw[Aw];rfl,fun b o nb e=>k4 b o (fun z=>?_) (Y b o nb e),ad,ab,?_,by rw[Ay,Z];rfl⟩
   ·simp only[Ak,Ap,or_false]at z;rcases z with z | z | z | z
    ·exact nb z
    ·rw[z,f1]at e;cases e
    ·rw[z,f2]at e;cases e
    ·rw[z,f3]at e;cases e
   ·rw[AC,hu];exact .snoc run st
  ·rintro O σ' H3 ⟨o,zs,S,rfl,rfl,Y,J,M,run,Z⟩ L hL;have sL:=aK (o:=.lst (zs.map V.str)) hL;rw[hl,AH]at run;exact k L zs S _ run (aFR J Y hL) (Y.trans sL.butT) (J.same sL) aA
structure WA where
 o:Ag
 ow:Ag
 me:Ag
 ho:Ag
 ic:Ag
abbrev jT:Key:=Ac "scale"
abbrev jU:Key:=Ac "order"
abbrev jV:Key:=Ac "owner"
abbrev jW:Key:=Ac "menders"
abbrev qL:Key:=Ac "houses"
abbrev aFS:Key:=Ac "inches"
def jF(sc:Int)(B:WA):List (Key×V):=[(jT,.int sc),(jU,.ref B.o),(jV,.ref B.ow),(jW,.ref B.me),(qL,.ref B.ho),(aFS,.ref B.ic)]
abbrev UK:=Str×Nat
def jD(os:List UK)(own:UK→Str):List (List Key×V):=os.map fun k=>([Ac k.1,Cm (k.2:Int)],.str (own k))
structure eG(H:Hp)(W:Ag)(B:WA)(sc:Int)(os:List UK)(own:UK→Str)(S:Ex):Prop where
 d:H W=some (.dK (jF sc B))
 o:∃ qs:List Ag,H B.o=some (.lst (qs.map V.ref))∧Ce (fun(q:Ag) (k:UK)=>H q=some (.tup [.str k.1,.int (k.2:Int)])) qs os
 ow:H B.ow=some (.dT (jD os own))
 me:H B.me=some (.dK S.men)
 ho:H B.ho=some (.dK S.hs)
 ic:H B.ic=some (.dK S.inc)
 ac:iL S.men
 ml:S.men.length≤1000
 nd:os.Nodup
 ol:os.length≤80
 s1:1≤sc
 s2:sc≤100000
 cn:∀ z,aP S z=true→sc * ((os.filter fun k=>decide (own k=z)).length:Int)=S.ac z
 ne:[W,B.me,B.ho,B.ic].Nodup
 hv:∀ k v,bF S.hs k=some v→∃ h z,v=.str h∧k=Ac z
 ks:(S.hs.map (·.1)).Nodup
 hl:S.hs.length≤1000
 so:∀ k∈os,aP S (own k)=true
theorem eG.same{H H':Hp}{W:Ag}{B:WA}{sc:Int}{os:List UK}{own:UK→Str}{S:Ex}(h:eG H W B sc os own S)(s:cA H H'):eG H' W B sc os own S:=by
 obtain⟨qs,o1,o2⟩:=h.o;exact⟨s _ _ h.d,⟨qs,s _ _ o1,Paired.mapP o2 fun q k e=>s _ _ e⟩,s _ _ h.ow,s _ _ h.me,s _ _ h.ho,s _ _ h.ic,h.ac,h.ml,h.nd,h.ol,h.s1,h.s2,h.cn,h.ne,h.hv,h.ks,h.hl,h.so⟩
theorem aBQ(sc:Int)(B:WA):bF (jF sc B) jT=some (.int sc):=rfl
theorem aEF(sc:Int)(B:WA):bF (jF sc B) jU=some (.ref B.o):=rfl
theorem zU(sc:Int)(B:WA):bF (jF sc B) jV=some (.ref B.ow):=rfl
theorem zV(sc:Int)(B:WA):bF (jF sc B) jW=some (.ref B.me):=rfl
theorem fH(sc:Int)(B:WA):bF (jF sc B) qL=some (.ref B.ho):=rfl
theorem zW(sc:Int)(B:WA):bF (jF sc B) aFS=some (.ref B.ic):=rfl
theorem eG.get{H:Hp}{W:Ag}{B:WA}{sc:Int}{os:List UK}{own:UK→Str}{S:Ex}(h:eG H W B sc os own S){z:Str}{v:V}(e:bF (jF sc B) (Ac z)=some v):gR H W (.str z) (some v):=by
 have:=gR.k (k:=Ac z) h.d;rw[e]at this;exact this
inductive vZ(vs:List V)(H:Hp)(Q:VK)(u3_:XK):Prop
 | mk (W:Ag) (B:WA) (sc:Int) (os:List UK) (own:UK→Str) (S:Ex) (h:Str) (q0:vs=[.ref W,.str h]) (q1:eG H W B sc os own S) (q2:∀(L:Ag) (H':Hp),H L=none→cA H H'→H' L=some (.lst ((rd S.men h).map V.str))→Q (.ref L) H'):vZ vs H Q u3_
def aBR:Sp:=fun vs H Q u3_=>vZ vs H Q u3_
theorem aBS:cC ["_law_world_here","_law_house","_law_houses_on"] ["_law_world_here","_law_house"] (aO aAY):=⟨rfl,rfl,rfl,by decide,rfl,by decide,by decide⟩
theorem aEG{f:Ag}{fd:A3}(F:Fun K "_law_road" "_law_road" aAY f fd)
  :cY P w K mg base CX0 1 f fd ["_law_world_here","_law_house"] aBR:=by
 refine F.ok aBS (fun vs H Q E h=>?_) (fun aj A outer s H vs Q E hr h=>?_)
 ·obtain⟨W,B,sc,os,own,S,h,rfl,_⟩:=h;rfl
 ·obtain⟨W,B,sc,os,own,S,h,rfl,wl,k⟩:=h;have hu:=d8 hr;have nd:=aBS.nd;refine⟨_,(aB (aS (i:=2) nd rfl (Av rfl) (c7 (aG (pv 1) aE)))
   (aB (rS Be (iW (lY hu (aR bZ (pv 2) (iC eZ aD) Ig) (bG hu (pv 0) aN Ig)))
   (aM (dC (jI A0 Bt Bs eO (pv 2) (aG (bG hu (bG hu (pv 0) aN Ig) (aR bZ (pv 2) (iC eZ aD) Ig) Ig) aE)))))
   (aM (bJ (pv 2))))),?_⟩
  have ha:=wl.ac;have O:=wl.ml;refine⟨_,rfl,zZ1,fun L hL=>?_⟩;have sL:=aK (o:=.lst [V.str h]) hL;have J:=ha.rd h;have ad:=J.len;generalize Z:S.men=m at ha O J ad;refine⟨fun n σ H'=>∃(pre l:List Str) (x:Str),σ=[some (.ref W),some (.str h),some (.ref L)]∧cA H H'∧H' L=some (.lst ((pre ++ [x]).map V.str))∧rd m h=pre ++ l∧Ends m x l∧n=l.length,⟨_,[],rd m h,h,rfl,sL,aA,rfl,J,rfl⟩,?_⟩;rintro n σ H1 ⟨pre,l,x,rfl,S1,q,er,hx,rfl⟩;have Y:atI ((pre ++ [x]).map V.str) (-1)=some (.str x):=by
   rw[Aw];exact i0 _ _
  have G:=wl.same S1;have M:=G.me;rw[Z]at M;refine⟨_,rfl,_,rfl,L,_,-1,_,rfl,rfl,aU q,Y,_,rfl,W,_,rfl,G.get (zV _ _),B.me,_,rfl,.inl ⟨m,Ac x,.inl M,rfl,rfl⟩,_,rfl,?_⟩;rw[ha.val x];cases hx with
  | stop e=>
   rw[e];refine dU ?_;refine⟨_,rfl,k L H1 hL S1 ?_⟩;rw[Z,er];exact q
  | @on _ y l e r=>
   rw[e];refine fU ?_;refine⟨fun σ' H'=>∃(pre l':List Str) (x:Str),σ'=[some (.ref W),some (.str h),some (.ref L)]∧cA H H'∧H' L=some (.lst ((pre ++ [x]).map V.str))∧rd m h=pre ++ l'∧Ends m x l'∧l.length=l'.length,fun σ' H' z=>⟨l.length,by simp,z⟩,?_⟩;have ab:some (V.str y)=bF m (Ac x):=by rw[ha.val x,e];rfl
   refine⟨_,rfl,.inl ⟨rfl,_,aU q⟩,_,rfl,W,_,rfl,G.get (zV _ _),_,rfl,_,rfl,L,_,-1,_,rfl,rfl,aU q,Y,B.me,_,rfl,.inl ⟨m,Ac x,.inl M,rfl,ab⟩,L,_,_,rfl,rfl,q,?_,?_⟩
   ·have:=congrArg Cg er;simp at this ⊢;exact BS (show pre.length + 1≤1000000 by omega) (by decide)
   ·refine⟨pre ++ [x],l,y,rfl,fun b o z=>?_,?_,by rw[er];simp,r,rfl⟩
    ·rw[aF (aJ z hL)];exact S1 _ _ z
    ·rw[aA];simp
def UAt(H:Hp)(rs:List Ag)(ks:List UK):Prop:=Ce (fun(q:Ag) (k:UK)=>H q=some (.tup [.str k.1,.int (k.2:Int)])) rs ks
inductive v3(vs:List V)(H:Hp)(Q:VK)(u3_:XK):Prop
 | mk (W:Ag) (B:WA) (sc:Int) (os:List UK) (own:UK→Str) (S:Ex) (z:Str) (q0:vs=[.ref W,.str z]) (q1:eG H W B sc os own S) (q2:∀(L:Ag) (rs:List Ag) (H':Hp),H L=none→cA H H'→H' L=some (.lst (rs.map V.ref))→UAt H' rs (os.filter fun k=>decide (own k=z))→Q (.ref L) H'):v3 vs H Q u3_
def rO:Sp:=fun vs H Q u3_=>v3 vs H Q u3_
theorem xD{own:UK→Str}:∀{os:List UK}{k:UK},k∈os→bF (jD os own) [Ac k.1,Cm (k.2:Int)]=some (.str (own k))
 | [],_,h=>by simp at h
 | k' :: os,k,h=>by
  show bF (([Ac k'.1,Cm (k'.2:Int)],V.str (own k')) :: jD os own) _=_;by_cases e:k'=k
  ·subst e;exact c4 rfl
  ·have q:k∈os:=(Ak.mp h).resolve_left fun z=>e z.symm;rw[cN]
   ·exact xD q
   ·intro z;injection z with z1 z2;injection z2 with z2;injection z1 with z1;injection z2 with z2;exact e (FS z1 (Hr.inj z2))
theorem aBT:cC ["_law_world_here","_law_land"] ["_law_world_here","_law_land"] (aO wU):=⟨rfl,rfl,rfl,by decide,rfl,by decide,by decide⟩
theorem aEH{f:Ag}{fd:A3}(F:Fun K "_law_units" "_law_units" wU f fd)
  :cY P w K mg base CX0 1 f fd ["_law_world_here","_law_land"] rO:=by
 refine F.ok aBT (fun vs H Q E h=>?_) (fun ag A outer s H vs Q E hr h=>?_)
 ·obtain⟨W,B,sc,os,own,S,z,rfl,_⟩:=h;rfl
 ·obtain⟨W,B,sc,os,own,S,z,rfl,wl,k⟩:=h;have hu:=d8 hr;have nd:=aBT.nd;refine⟨_,(aM (bJ (dO (N:=["_law_key","_law_world_here","_law_land"]) (src:=[none,some 0,some 1]) (osc:=aO wU) (oN:=["_law_world_here","_law_land"]) ⟨by rfl,by decide,by decide,by decide,rfl,by rfl⟩ (iP (bG hu (pv 0) aN Ig)) (fun cl s H fp iw C=>⟨aZ (i:=0) (show(["_law_key","_law_world_here","_law_land"]:List Str).Nodup by decide) rfl (Av rfl),pB (aX c3 (bG hu (bG hu (pv 1) aN Ig) (pv 0) Ig) (pv 2) (bH _)),pv 0⟩)))),?_⟩;obtain⟨qs,o1,o2⟩:=wl.o;have Z:=BB o2;have ae:=wl.ol;refine⟨_,rfl,W,_,rfl,wl.get (aEF _ _),B.o,rfl,⟨_,aU o1⟩,?_⟩;refine nB (K:=K) (xs:=qs.map V.ref) (fun i ys O H'=>∃(o:Option V) (rs:List Ag),Aw3 (O=[o,some (.ref W),some (.str z)]) (H'=H) (Aw3 (ys=rs.map V.ref) (rs.length≤i) (UAt H rs ((os.take i).filter fun k=>decide (own k=z))))) ⟨none,[],rfl,rfl,rfl,Am _,.nil⟩
   (aQ (by rw[Ab];omega)) (fun i ys σ H' p=>by obtain⟨_,rs,_,_,rfl,e,_⟩:=p;rw[Ab];exact e) (fun i ys σ H' p=>by obtain⟨_,_,_,rfl,_⟩:=p;exact aU o1) ?_ ?_
  ·rintro i x ys O H' hx ⟨o,rs,rfl,rfl,rfl,G,M⟩;rw[Ao]at hx;obtain⟨q,hq,rfl⟩:=AL.mp hx;obtain⟨hi,_⟩:=Ax.mp hq;obtain⟨u,hu'⟩:∃ u,os[i]?=some u:=⟨_,Aj (by omega)⟩
   have J:=Paired.at o2 hq hu';have hD:gR H' B.ow (.ref q) (some (.str (own u))):=by
    have:=gR.t (k:=[Ac u.1,Cm (u.2:Int)]) wl.ow J;rw[xD (AK hu')]at this;exact this
   dsimp only[aY];refine⟨_,rfl,W,_,rfl,wl.get (zU _ _),_,rfl,B.ow,_,rfl,hD,_,rfl,rfl,_,rfl,cT (fun g=>?_) fun g=>?_⟩
   ·have Y:own u=z:=V.str.inj (Ie g);refine⟨_,rfl,_,rs ++ [q],rfl,rfl,by rw[Aw];rfl,by rw[Ay];exact Nat.succ_le_succ G,?_⟩;rw[AC,hu',CI];show UAt H' _ (_ ++ EJ _ [u]);rw[BF,Ib (Ic Y)];exact Paired.snoc (R:=fun(q:Ag) (k:UK)=>H' q=some (.tup [.str k.1,.int (k.2:Int)])) J M
   ·have Y:¬ own u=z:=fun e=>g (Ic (by rw[e]));refine⟨_,rs,rfl,rfl,rfl,Df G,?_⟩;rw[AC,hu',CI];show UAt H' _ (_ ++ EJ _ [u]);rw[BF,Ia (by simpa using Y),Eh,BM];exact M
  ·rintro ys O H' ⟨o,rs,rfl,rfl,rfl,G,M⟩ L hL;have sL:=aK (o:=.lst (rs.map V.ref)) hL;rw[Ab,Z,AH]at M;exact k L rs _ hL sL aA (Paired.mapP M fun q k e=>sL _ _ e)
inductive pV(vs:List V)(H:Hp)(Q:VK)(u3_:XK):Prop
 | mk (W:Ag) (B:WA) (sc:Int) (os:List UK) (own:UK→Str) (S:Ex) (x:V) (r:cV) (ws:List Str) (land:Str) (R:List P3) (q0:vs=[.ref W,x]) (q1:eG H W B sc os own S) (q2:RdV false H x r.d) (q3:r.Ok ws) (q4:r.word="part") (q5:r.ds=[.str land,.tuple (R.map pD)]) (q6:∀ H',cA H H'→Q (.str (cO S land R)) H'):pV vs H Q u3_
def tX:Sp:=fun vs H Q u3_=>pV vs H Q u3_
theorem tY:cC ["_law_world_here","_law_row","_law_stand","_law_taken"] ["_law_world_here","_law_row"] (aO kG):=⟨rfl,rfl,rfl,by decide,rfl,by decide,by decide⟩
theorem zX{f:Ag}{fd:A3}(F:Fun K "_law_part_word" "_law_part_word" kG f fd)(ai:mg "len"=none)(ah:mg "sum"=none)(ak:mg "int"=none)
  (GU:Cl P w K mg base 1 "_law_units" ["_law_world_here","_law_land"] rO)
  :cY P w K mg base CX0 2 f fd ["_law_world_here","_law_row"] tX:=by
 refine F.ok tY (fun vs H Q E h=>?_) (fun br A outer s H vs Q E hr h=>?_)
 ·obtain⟨W,B,sc,os,own,S,x,r,ws,land,R,rfl,_⟩:=h;rfl
 ·obtain⟨W,B,sc,os,own,S,x,r,ws,land,R,rfl,wl,rdv,ok,hwd,hds,k⟩:=h;have hu:=d8 hr;have nd:=tY.nd;refine⟨_,(aB (aS (i:=2) nd rfl (DK rfl) (bG hu (pv 0) aN Ig))
   (aB (cB (iW (iT hu (aR aW (pv 1) aD Ig) (pv 2))) (aM (bJ aN)) bB)
   (aB (cB (aX oT (bC gE (aV bK (by rfl) ai AW (aG (cG GU hr (aG (pv 0) (aG (aR aW (pv 1) aD Ig) aE))) aE)) (bG hu (pv 0) aN Ig)) (aV (sW rfl) (by rfl) ah EE (aG (dO (N:=["_law_part_here"]) (src:=[none]) (osc:=aO kG) (oN:=["_law_world_here","_law_row","_law_stand","_law_taken"]) ⟨by rfl,by decide,by decide,by decide,rfl,by rfl⟩ (dS (aR aW (pv 1) aD Ig)) (fun cl s H fp iw C=>⟨aZ (i:=0) (show(["_law_part_here"]:List Str).Nodup by decide) rfl (Av rfl),dN,aR (r:=lV K) aW (pv 0) aD Ig⟩)) aE)) (bH _)) (aM (bJ aN)) bB)
   (aB (i7 (i:=3) (N:=["_law_part_here","_law_row","_law_stand"]) (src:=[none,some 1,some 2]) (osc:=aO kG) (oN:=["_law_world_here","_law_row","_law_stand","_law_taken"]) ⟨by rfl,by decide,by decide,by decide,rfl,by rfl⟩ nd rfl (dS (aR aW (pv 1) aD Ig)) (fun cl s H fp iw C=>⟨aZ (i:=0) (show(["_law_part_here","_law_row","_law_stand"]:List Str).Nodup by decide) rfl (Av rfl),pB (PW.pt (iJ (iW (lY hu (aR (r:=lV K) aW (pv 0) aD Ig) (pv 2))) (gL (aX oT (aR (r:=lV K) aW (pv 0) aD Ig) (aR (r:=lV K) aW (pv 1) aD Ig) (bH _))))),aR (r:=lV K) aW (pv 0) aD Ig⟩))
   (aM (bJ (aR bZ (c7 (aG aN (aG aN aE))) (dD p7 (by rfl) ak (by kernel_rfl) (aG (m6 (aGT (Nat.lt_of_succ_lt hu)) (pv 3) (c7 aE) (bH _)) aE)) Ig))))))),?_⟩
  obtain⟨t,b8,rfl,ht,hrest⟩:=cV.Ok.tup (fs:=ws) rdv;rw[hds]at hrest;obtain⟨q1,q2⟩:=rd2 hrest;cases q1;cases q2 with
  | @tup tp us _ M bj ae=>
  have O:=ae.len;rw[Ab]at O;have bi:R.length≤6:=by
   have rs:=ok.rs;rw[hwd,hds]at rs;generalize hg:R.map pD=ps at rs;have aj:=congrArg Cg hg;rw[Ab]at aj;cases rs with
   | part _ _ _ h6 _=>rw[aj,Ab];exact h6
  have z8:us.length≤sizeLine:=aQ (by omega);refine⟨_,rfl,W,_,rfl,wl.get (fH _ _),_,rfl,t,_,3,_,rfl,rfl,aH ht,rfl,_,rfl,B.ho,_,rfl,.inl ⟨S.hs,Ac land,.inl wl.ho,rfl,rfl⟩,_,rfl,?_⟩;cases hv:bF S.hs (Ac land)with
  | none=>
   have e0:cO S land R="land":=by
    unfold cO aP;rw[hv];rfl
   rw[e0]at k;exact fU (k H (cA.refl H))
  | some v=>
  refine dU ?_;have J:aP S land=true:=by unfold aP;rw[hv];rfl
  refine⟨_,rfl,_,rfl,t,_,3,_,rfl,rfl,aH ht,rfl,W,B,sc,os,own,S,land,rfl,wl,fun L rs H1 hL S1 aL hU=>?_⟩;have aw:=BB hU;have ay:=wl.cn land J;have s1:=wl.s1;have s2:=wl.s2;refine⟨L,_,rfl,.inl (aU aL),_,rfl,W,_,rfl,(wl.same S1).get (aBQ _ _),_,_,rfl,rfl,.inr ⟨by omega,by omega⟩,_,rfl,t,_,4,_,rfl,rfl,aH (S1 _ _ ht),rfl,tp,rfl,⟨_,aH (S1 _ _ M)⟩,?_⟩;refine dY (K:=K) (xs:=us) (fun i ys σ' H'=>∃ Y:Option V,σ'=[Y]∧cA H1 H'∧ys=((R.take i).map fun p=>p.2.2).map V.int) ⟨none,rfl,cA.refl H1,by simp⟩
   z8 (fun i ys σ H' p=>by obtain⟨_,_,_,rfl⟩:=p;simp;omega) (fun i ys σ H' p=>by obtain⟨_,_,S,_⟩:=p;exact aH (S _ _ (S1 _ _ M))) ?_ ?_
  ·rintro i v ys σ' H2 ab ⟨Y,rfl,S2,rfl⟩;obtain⟨p,q,hp,rfl,hq⟩:=jB ae ab;dsimp only[aY];refine fU ?_;refine⟨_,rfl,q,_,2,_,rfl,rfl,aH (S2 _ _ (S1 _ _ hq)),rfl,_,rfl,S2,?_⟩;rw[AC,hp];simp
  rintro ys σ' H2 ⟨Y,rfl,S2,rfl⟩ D hD;rw[O,AH];have G:=(S1.trans S2).trans (aK (o:=.lst ((R.map fun p=>p.2.2).map V.int)) hD);refine⟨D,R.map fun p=>p.2.2,rfl,aU aA,rfl,_,rfl,?_⟩;generalize upd H2 D _=H3 at G ⊢;have aT:(((rs.map V.ref).length:Nat):Int) * sc=S.ac land:=by
   rw[Ab,aw,Int.mul_comm];exact ay
  rw[show V.int ((((rs.map V.ref).length:Nat):Int) * sc)=V.int (S.ac land) from congrArg V.int aT];refine cT (fun g=>?_) fun g=>?_
  ·have g':(R.map fun p=>p.2.2).sum≠S.ac land:=fun z=>by
    rw[z]at g;simp at g
   have e0:cO S land R="acres":=by
    unfold cO;rw[J,Ia (by decide),Ib g']
   rw[e0]at k;exact k H3 G
  have g':(R.map fun p=>p.2.2).sum=S.ac land:=by
   have:S.ac land=(R.map fun p=>p.2.2).sum:=by simpa using g
   exact this.symm
  have az:=wl.same G;refine⟨_,rfl,t,_,4,_,rfl,rfl,aH (G _ _ ht),rfl,tp,rfl,⟨_,aH (G _ _ M)⟩,?_⟩;refine dY (K:=K) (xs:=us) (fun i ys σ' H'=>∃ Y:Option V,σ'=[Y,some (.ref t),some (.ref B.ho)]∧H'=H3∧ys=((R.take i).filter fun p=>decide (p.1≠land) && aP S p.1).map fun p=>V.str p.1) ⟨none,rfl,rfl,by simp⟩
   z8 (fun i ys σ H' p=>by obtain⟨_,_,_,rfl⟩:=p;rw[Ab];exact AG (BX _ _) (by rw[AM];exact Ej _ _)) (fun i ys σ H' p=>by obtain⟨_,_,rfl,_⟩:=p;exact aH (G _ _ M)) ?_ ?_
  ·rintro i v ys σ' H4 ab ⟨Y,rfl,rfl,rfl⟩;obtain⟨p,q,hp,rfl,hq⟩:=jB ae ab;have Z:=G _ _ hq;have et:(R.take (i + 1)).filter (fun p=>decide (p.1≠land) && aP S p.1)=(R.take i).filter (fun p=>decide (p.1≠land) && aP S p.1) ++ if (decide (p.1≠land) && aP S p.1)=true then[p] else[]:=by
    rw[AC,hp,CI];congr 1;show EJ _ [p]=_;rw[BF,Eh]
   dsimp only[aY];refine⟨_,rfl,q,_,0,_,rfl,rfl,aH Z,rfl,_,rfl,B.ho,_,rfl,.inl ⟨S.hs,Ac p.1,.inl az.ho,rfl,rfl⟩,_,rfl,cT (fun g1=>?_) fun g1=>?_⟩
   ·refine⟨_,rfl,q,_,0,_,rfl,rfl,aH Z,rfl,_,rfl,t,_,3,_,rfl,rfl,aH (G _ _ ht),rfl,rfl,_,rfl,cT (fun g2=>?_) fun g2=>?_⟩
    ·refine⟨_,rfl,q,_,0,_,rfl,rfl,aH Z,rfl,_,rfl,rfl,?_⟩;rw[et,Ib,Aw]
     ·rfl
     ·rw[show decide (p.1≠land)=true by simpa using g2,EM];exact g1
    ·refine⟨_,rfl,rfl,?_⟩;rw[et,Ia,BM];rw[show decide (p.1≠land)=false by simpa using g2];simp
   ·refine dU ⟨_,rfl,rfl,?_⟩;rw[et,Ia,BM];intro z;exact g1 (Bool.and_eq_true_iff.mp z).2
  rintro ys σ' H4 ⟨Y,rfl,rfl,rfl⟩ D4 ar;rw[O,AH];have S4:=G.trans (aK (o:=.lst ((R.filter fun p=>decide (p.1≠land) && aP S p.1).map fun p=>V.str p.1)) ar);have ag:upd H4 D4 (.lst ((R.filter fun p=>decide (p.1≠land) && aP S p.1).map fun p=>V.str p.1)) D4=some (.lst ((R.filter fun p=>decide (p.1≠land) && aP S p.1).map fun p=>V.str p.1)):=aA;generalize upd H4 D4 _=H5 at S4 ag ⊢;refine⟨zZ2,fun L6 ax=>?_⟩;have s6:=aK (o:=.lst [V.str "done",.str "name"]) ax;refine⟨_,rfl,Bc _,fun L7 aI=>?_⟩;have s7:=aK (o:=.lst []) aI;refine⟨D4,L7,_,_,rfl,rfl,aU (s7 _ _ (s6 _ _ ag)),aU aA,by simp[i4],rfl,.inr ⟨_,rfl,?_⟩⟩;have hS:=(S4.trans s6).trans s7;cases hf:R.filter (fun p=>decide (p.1≠land) && aP S p.1)with
  | nil=>
   have e0:cO S land R="done":=by
    unfold cO;rw[J,Ia (by decide),Ia (fun z=>z g'),Ia];intro z;obtain⟨p,hp,hz⟩:=BG.mp z;have:p∈R.filter (fun p=>decide (p.1≠land) && aP S p.1):=BD.mpr ⟨hp,hz⟩;rw[hf]at this;simp at this
   rw[e0]at k;exact⟨L6,_,_,_,rfl,rfl,aU (s7 _ _ aA),rfl,k _ hS⟩
  | cons p ps=>
   have e0:cO S land R="name":=by
    unfold cO;rw[J,Ia (by decide),Ia (fun z=>z g'),Ib];have:p∈R.filter (fun p=>decide (p.1≠land) && aP S p.1):=by rw[hf];exact Al
    exact BG.mpr ⟨p,(BD.mp this).1,(BD.mp this).2⟩
   rw[e0]at k;exact⟨L6,_,_,_,rfl,rfl,aU (s7 _ _ aA),rfl,k _ hS⟩
inductive pW(vs:List V)(H:Hp)(Q:VK)(u3_:XK):Prop
 | mk (W:Ag) (B:WA) (sc:Int) (os:List UK) (own:UK→Str) (S:Ex) (x:V) (r:cV) (ws:List Str) (land:Str) (R:List Str) (q0:vs=[.ref W,x]) (q1:eG H W B sc os own S) (q2:RdV false H x r.d) (q3:r.Ok ws) (q4:r.word="join") (q5:r.ds=[.tuple (R.map BC),.str land]) (q6:∀ H',(∀ b o,H b=some o→H' b=some o)→Q (.str (cK S R land)) H'):pW vs H Q u3_
def tZ:Sp:=fun vs H Q u3_=>pW vs H Q u3_
def hof(S:Ex)(z:Str):Str:=match bF S.hs (Ac z)with
 | some (.str h)=>h
 | _=>""
theorem aEI{a:Str}{l:List Str}:1 < (oB (a :: l)).length↔∃ z∈a :: l,z≠a:=by
 have nd:=oC (a :: l);have mem:=tJ (a :: l);constructor
 ·intro h;cases hm:oB (a :: l)with
  | nil=>rw[hm]at h;simp at h
  | cons x r=>
   cases r with
   | nil=>rw[hm]at h;simp at h
   | cons y r=>
    rw[hm]at nd mem;have q:x≠y:=fun e=>(AY.mp nd).1 (by rw[e];exact Al);by_cases e:x=a
    ·exact⟨y,(mem y).mp (by simp),fun z=>q (by rw[e,z])⟩
    ·exact⟨x,(mem x).mp (by simp),e⟩
 ·rintro⟨z,hz,hne⟩;have h1:=(mem z).mpr hz;have h2:=(mem a).mpr Al;cases hm:oB (a :: l)with
  | nil=>rw[hm]at h1;simp at h1
  | cons x r=>
   cases r with
   | nil=>
    rw[hm]at h1 h2;simp at h1 h2;exact absurd (h1.trans h2.symm) hne
   | cons y r=>simp
theorem t4:cC ["_law_world_here","_law_row","_law_stand"] ["_law_world_here","_law_row"] (aO kH):=⟨rfl,rfl,rfl,by decide,rfl,by decide,by decide⟩
theorem zZ{f:Ag}{fd:A3}(F:Fun K "_law_join_word" "_law_join_word" kH f fd)(O:mg "len"=none)(an:mg "set"=none)(am:mg "int"=none)
  :cY P w K mg base CX0 1 f fd ["_law_world_here","_law_row"] tZ:=by
 refine F.ok t4 (fun vs H Q E h=>?_) (fun bo A outer s H vs Q E hr h=>?_)
 ·obtain⟨W,B,sc,os,own,S,x,r,ws,land,R,rfl,_⟩:=h;rfl
 ·obtain⟨W,B,sc,os,own,S,x,r,ws,land,R,rfl,wl,rdv,ok,hwd,hds,k⟩:=h;have hu:=d8 hr;have nd:=t4.nd;refine⟨_,(aB (aS (i:=2) nd rfl (DK rfl) (bG hu (pv 0) aN Ig))
   (aB (cB (aX oU (aV bK (by rfl) O AW (aG (dO (N:=["_law_land","_law_stand"]) (src:=[none,some 2]) (osc:=aO kH) (oN:=["_law_world_here","_law_row","_law_stand"]) ⟨by rfl,by decide,by decide,by decide,rfl,by rfl⟩ (dS (aR aW (pv 1) aD Ig)) (fun cl s H fp iw C=>⟨aZ (i:=0) (show(["_law_land","_law_stand"]:List Str).Nodup by decide) rfl (Av rfl),pB (iW (lY hu (pv 0) (pv 1))),pv 0⟩)) aE)) (aV bK (by rfl) O AW (aG (aR aW (pv 1) aD Ig) aE)) (bH _)) (aM (bJ aN)) bB)
   (aB (cB (aX aBe (aV vO (by rfl) O AW (aG (dD (qF rfl) (by rfl) an (by kernel_rfl) (aG (dO (N:=["_law_land","_law_stand"]) (src:=[none,some 2]) (osc:=aO kH) (oN:=["_law_world_here","_law_row","_law_stand"]) ⟨by rfl,by decide,by decide,by decide,rfl,by rfl⟩ (dS (aR aW (pv 1) aD Ig)) (fun cl s H fp iw C=>⟨aZ (i:=0) (show(["_law_land","_law_stand"]:List Str).Nodup by decide) rfl (Av rfl),dN,bG hu (pv 1) (pv 0) Ig⟩)) aE)) aE)) aD (bH _)) (aM (bJ aN)) bB)
   (aM (bJ (aR bZ (c7 (aG aN (aG aN aE))) (dD p7 (by rfl) am (by kernel_rfl) (aG (aC2 (aAm (lY hu (aR aW (pv 1) aD Ig) (pv 2))) (aC1 (m6 kX (aR aW (pv 1) aD Ig) (aR aW (pv 1) aD Ig) (by with_unfolding_all rfl)))) aE)) Ig)))))),?_⟩
  obtain⟨t,b8,rfl,ht,hrest⟩:=cV.Ok.tup (fs:=ws) rdv;rw[hds]at hrest;obtain⟨q1,q2⟩:=rd2 hrest;cases q2;cases q1 with
  | @tup tp us _ J bf aL=>
  obtain rfl:=nF aL;obtain⟨hR2,hR6⟩:2≤R.length∧R.length≤6:=by
   have rs:=ok.rs;rw[hwd,hds]at rs;generalize hg:R.map BC=ps at rs;have al:=congrArg Cg hg;rw[Ab]at al;cases rs with
   | join _ _ h2 h6 _=>rw[al,Ab];exact⟨h2,h6⟩
  have ak:(R.map V.str).length=R.length:=Ab _;have z8:(R.map V.str).length≤sizeLine:=aQ (by omega);refine⟨_,rfl,W,_,rfl,wl.get (fH _ _),_,rfl,t,_,3,_,rfl,rfl,aH ht,rfl,tp,rfl,⟨_,aH J⟩,?_⟩;refine dY (K:=K) (xs:=R.map V.str) (fun i ys σ' H'=>∃ o1:Option V,σ'=[o1,some (.ref B.ho)]∧H'=H∧ys=((R.take i).filter (aP S)).map V.str) ⟨none,rfl,rfl,by simp⟩
   z8 (fun i ys σ H' p=>by obtain⟨_,_,_,rfl⟩:=p;rw[Ab];exact AG (BX _ _) (by rw[AM];exact Ej _ _)) (fun i ys σ H' p=>by obtain⟨_,_,rfl,_⟩:=p;exact aH J) ?_ ?_
  ·rintro i v ys σ' H1 hv ⟨o1,rfl,rfl,rfl⟩;rw[Ao]at hv;obtain⟨z,hz,rfl⟩:=AL.mp hv;have et:(R.take (i + 1)).filter (aP S)=(R.take i).filter (aP S) ++ if aP S z=true then[z] else[]:=by
    rw[AC,hz,CI];congr 1;show EJ _ [z]=_;rw[BF,Eh]
   dsimp only[aY];refine⟨_,rfl,_,rfl,B.ho,_,rfl,.inl ⟨S.hs,Ac z,.inl wl.ho,rfl,rfl⟩,_,rfl,cT (fun g1=>?_) fun g1=>?_⟩
   ·refine⟨_,rfl,_,rfl,rfl,?_⟩;rw[et,Ib (show aP S z=true from g1),Aw];rfl
   ·refine⟨_,rfl,rfl,?_⟩;rw[et,Ia (show¬ aP S z=true from g1),BM]
  rintro ys σ' H1 ⟨o1,rfl,rfl,rfl⟩ D hD;rw[ak,AH];have Z:=aK (o:=.lst ((R.filter (aP S)).map V.str)) hD;have ao:upd H1 D (.lst ((R.filter (aP S)).map V.str)) D=some (.lst ((R.filter (aP S)).map V.str)):=aA;generalize upd H1 D _=H2 at Z ao ⊢;refine⟨D,_,rfl,.inl (aU ao),_,rfl,t,_,3,_,rfl,rfl,aH (Z _ _ ht),rfl,tp,_,rfl,.inr (aH (Z _ _ J)),_,_,rfl,rfl,_,rfl,?_⟩;have ap:(R.filter (aP S)).length < R.length↔R.all (aP S)=false:=by
   constructor
   ·intro h;cases e:R.all (aP S)with
    | false=>rfl
    | true=>
     rw[List.filter_eq_self.mpr (A2.mp e)]at h;omega
   ·intro h;have h1:=BX (aP S) R;rcases Nat.lt_or_ge (R.filter (aP S)).length R.length with z | z
    ·exact z
    ·have e:=List.length_filter_eq_length_iff.mp (Nat.le_antisymm h1 z);rw[A2.mpr e]at h;cases h
  refine cT (fun g=>?_) fun g=>?_
  ·have g':=ap.mp (by have:=Ie g;rw[Ab,Ab]at this;omega);have e0:cK S R land="land":=by
    unfold cK;rw[Ib g']
   rw[e0]at k;exact k H2 Z
  have q:¬ R.all (aP S)=false:=fun z=>g (Ic (by rw[Ab,Ab];exact G9.mpr (ap.mpr z)));have Y:∀ z∈R,bF S.hs (Ac z)=some (.str (hof S z)):=fun z hz=>by
   have ha:R.all (aP S)=true:=by
    cases e:R.all (aP S)with
    | true=>rfl
    | false=>exact absurd e q
   have h1:(bF S.hs (Ac z)).isSome=true:=A2.mp ha z hz;cases e:bF S.hs (Ac z)with
   | none=>rw[e]at h1;cases h1
   | some v=>
    obtain⟨h,y,rfl,_⟩:=wl.hv _ _ e;unfold hof;rw[e]
  have aw:=wl.same Z;refine⟨_,rfl,t,_,3,_,rfl,rfl,aH (Z _ _ ht),rfl,tp,rfl,⟨_,aH (Z _ _ J)⟩,?_⟩;refine dY (K:=K) (xs:=R.map V.str) (fun i ys σ' H'=>∃ o1:Option V,σ'=[o1,some (.ref B.ho)]∧H'=H2∧ys=((R.take i).map (hof S)).map V.str) ⟨none,rfl,rfl,by simp⟩
   z8 (fun i ys σ H' p=>by obtain⟨_,_,_,rfl⟩:=p;rw[Ab,Ab,AM];exact Ej _ _) (fun i ys σ H' p=>by obtain⟨_,_,rfl,_⟩:=p;exact aH (Z _ _ J)) ?_ ?_
  ·rintro i v ys σ' H3 hv ⟨o1,rfl,rfl,rfl⟩;rw[Ao]at hv;obtain⟨z,hz,rfl⟩:=AL.mp hv;dsimp only[aY];refine fU ?_;refine⟨_,rfl,_,rfl,B.ho,_,rfl,.inl ⟨S.hs,Ac z,.inl aw.ho,rfl,(Y z (AK hz)).symm⟩,_,rfl,rfl,?_⟩;rw[AC,hz];simp
  rintro ys σ' H3 ⟨o1,rfl,rfl,rfl⟩ D2 au;rw[ak,AH];have s3:=aK (o:=.lst ((R.map (hof S)).map V.str)) au;refine⟨D2,R.map (hof S),rfl,aU aA,by rw[Ab];omega,fun a ha=>⟨a,R.map (hof S),rfl,aA,by rw[Ab];omega,?_⟩⟩;have s4:=(Z.trans s3).trans (aK (o:=tK P w a (R.map (hof S))) ha);obtain⟨z0,R',eR⟩:∃ z0 R',R=z0 :: R':=by
   cases R with
   | nil=>simp at hR2
   | cons z0 R'=>exact⟨z0,R',rfl⟩
  have ag:R.headD ""=z0:=by rw[eR];rfl
  have ab:(R.any fun z=>decide (bF S.hs (Ac z)≠bF S.hs (Ac (R.headD ""))))=true↔1 < (oB (R.map (hof S))).length:=by
   have e2:oB (R.map (hof S))=oB (hof S z0 :: R'.map (hof S)):=by rw[eR];rfl
   rw[e2,aEI,ag,BG];have e3:hof S z0 :: R'.map (hof S)=R.map (hof S):=by rw[eR];rfl
   rw[e3];have h0:=Y z0 (by rw[eR];exact Al);constructor
   ·rintro⟨z,hz,hne⟩;refine⟨hof S z,Bg hz,fun e=>?_⟩;rw[Y z hz,h0,e]at hne;simp at hne
   ·rintro⟨y,hy,hne⟩;obtain⟨z,hz,rfl⟩:=AQ.mp hy;refine⟨z,hz,Ic fun e=>hne ?_⟩;rw[Y z hz,h0]at e;injection e with e;injection e with e
  refine⟨_,_,rfl,rfl,_,rfl,cT (fun g2=>?_) fun g2=>?_⟩
  ·have g3:1 < (oB (R.map (hof S))).length:=by
    have:=Ie g2;exact G9.mp this
   have e0:cK S R land="houses":=by
    unfold cK;rw[Ia q,Ib (ab.mpr g3)]
   rw[e0]at k;exact k _ s4
  have M:¬ (R.any fun z=>decide (bF S.hs (Ac z)≠bF S.hs (Ac (R.headD ""))))=true:=fun z=>g2 (Ic (G9.mpr (ab.mp z)));have aI:=wl.same s4;refine⟨zZ2,fun L6 ay=>?_⟩;have s6:=aK (o:=.lst [V.str "done",.str "name"]) ay;have G:=s4.trans s6;have aC:=aI.same s6;refine⟨_,rfl,t,_,4,_,rfl,rfl,aH (G _ _ ht),rfl,_,rfl,B.ho,_,rfl,.inl ⟨S.hs,Ac land,.inl aC.ho,rfl,rfl⟩,_,rfl,cT (fun g3=>?_) fun g3=>?_⟩
  ·refine⟨_,rfl,t,_,4,_,rfl,rfl,aH (G _ _ ht),rfl,_,rfl,t,_,3,_,rfl,rfl,aH (G _ _ ht),rfl,tp,_,rfl,.inr (aH (G _ _ J)),rfl,hJ _,.inr ⟨_,rfl,?_⟩⟩;have ae:aP S land=true:=g3;rw[Ib rfl,lH];by_cases e:land∈R
   ·have e0:cK S R land="done":=by
     unfold cK;rw[Ia q,Ia M,Ia (by rw[Ic e];simp)]
    rw[e0]at k;rw[Ic e];exact⟨L6,_,_,_,rfl,rfl,aU aA,rfl,k _ G⟩
   ·have e0:cK S R land="name":=by
     unfold cK;rw[Ia q,Ia M,Ib (by rw[decide_eq_false e,ae];rfl)]
    rw[e0]at k;rw[decide_eq_false e];exact⟨L6,_,_,_,rfl,rfl,aU aA,rfl,k _ G⟩
  ·have ae:aP S land=false:=by
    cases e:aP S land with
    | false=>rfl
    | true=>exact absurd e g3
   have e0:cK S R land="done":=by
    unfold cK;rw[Ia q,Ia M,Ia (by rw[ae,D0];exact AB)]
   rw[e0]at k;exact .inr ⟨_,rfl,L6,_,_,_,rfl,rfl,aU aA,rfl,k _ G⟩
theorem aGp{α β γ:Type}{T:α→β→γ→Prop}{a:α}{b:β}{c:γ}(h:∀ q,q=T→q a b c):T a b c:=h T rfl
inductive z4(vs:List V)(H:Hp)(Q:VK)(u3_:XK):Prop
 | mk (W:Ag) (B:WA) (sc:Int) (os:List UK) (own:UK→Str) (S:Ex) (x:V) (r:cV) (ws:List Str) (q0:vs=[.ref W,x]) (q1:eG H W B sc os own S) (q2:mQ S.inc ws) (q3:RdV false H x r.d) (q4:r.Ok ws) (q5:∀ z S' H',f8 S r.word r.ds z S'→cA H H'→Q (.str z) H'):z4 vs H Q u3_
def aA6:Sp:=fun vs H Q u3_=>z4 vs H Q u3_
theorem aEJ:cC ["_law_world_here","_law_row","_law_stand"] ["_law_world_here","_law_row"] (aO aEd):=⟨rfl,rfl,rfl,by decide,rfl,by decide,by decide⟩
theorem aFT{f:Ag}{fd:A3}(F:Fun K "_law_word" "_law_word" aEd f fd)
  (GP:Cl P w K mg base 2 "_law_part_word" ["_law_world_here","_law_row"] tX)
  (GJ:Cl P w K mg base 1 "_law_join_word" ["_law_world_here","_law_row"] tZ)
  (GR:Cl P w K mg base 1 "_law_road" ["_law_world_here","_law_house"] aBR)
  :cY P w K mg base CX0 3 f fd ["_law_world_here","_law_row"] aA6:=by
 refine F.ok aEJ (fun vs H Q E h=>?_) (fun ba A outer s H vs Q E hr h=>?_)
 ·obtain⟨W,B,sc,os,own,S,x,r,ws,rfl,_⟩:=h;rfl
 ·obtain⟨W,B,sc,os,own,S,x,r,ws,rfl,wl,hrk,rdv,ok,k⟩:=h;have hu:=d8 hr;have ad:dQ 1 _:=hr.mono (by decide);have nd:=aEJ.nd;refine⟨_,(aB (aS (i:=2) nd rfl (Av rfl) (bG hu (pv 0) aN Ig))
   (aB (cB (aX c3 (aR aW (pv 1) aD Ig) aN (bH _)) (aM (bJ (cG GP hr (aG (pv 0) (aG (pv 1) aE))))) bB)
   (aB (cB (aX c3 (aR aW (pv 1) aD Ig) aN (bH _)) (aM (bJ (cG GJ ad (aG (pv 0) (aG (pv 1) aE))))) bB)
   (aB (cB (PW.pt (iJ (aX c3 (aR aW (pv 1) aD Ig) aN (bH _)) (gL (iW (iT hu (aR aW (pv 1) aD Ig) (pv 2)))))) (aM (bJ aN)) bB)
   (aB (cB (PW.pt (iJ (aX c3 (aR aW (pv 1) aD Ig) aN (bH _)) (gL (aX c3 (bG hu (pv 2) (aR aW (pv 1) aD Ig) Ig) (aR aW (pv 1) aD Ig) (bH _))))) (aM (bJ aN)) bB)
   (aB (cB (PW.pt (iJ (aX c3 (aR aW (pv 1) aD Ig) aN (bH _)) (gL (aX gJ (aR aW (pv 1) aD Ig) (cG GR ad (aG (pv 0) (aG (aR aW (pv 1) aD Ig) aE))) (by with_unfolding_all rfl))))) (aM (bJ aN)) bB)
   (aB (cB (PW.pt (iJ (aX c3 (aR aW (pv 1) aD Ig) aN (bH _)) (gL (iW (iT hu (aR aW (pv 1) aD Ig) (bG hu (pv 0) aN Ig)))))) (aM (bJ aN)) bB)
   (aB (cB (PW.pt (iJ (aX gJ (aR aW (pv 1) aD Ig) (cJ (aG aN (aG aN aE))) (by with_unfolding_all rfl)) (gL (aX aGa (aR aW (pv 1) aD Ig) (bG hu (bG hu (pv 0) aN Ig) (aR aW (pv 1) aD Ig) Ig) (bH _))))) (aM (bJ aN)) bB)
   (aM (bJ aN)))))))))),?_⟩
  refine aGp fun T hT=>?_;obtain⟨t,b8,rfl,ht,hrest⟩:=cV.Ok.tup (fs:=ws) rdv;have rs:=ok.rs;have fi:=ok.fi;obtain⟨word,name,day,ds⟩:=r;dsimp only at rs hrest ht k fi;cases rs with
  | @part J R hl ab h2 h6 ae=>
   obtain⟨q1,q2⟩:=rd2 hrest;subst hT;refine⟨_,rfl,W,_,rfl,wl.get (fH _ _),_,rfl,t,_,0,_,rfl,rfl,aH ht,rfl,rfl,_,rfl,yW ?_⟩;exact⟨_,rfl,_,rfl,W,B,sc,os,own,S,_,_,ws,J,R,rfl,wl,rdv,ok,rfl,rfl,fun H' s=>k _ _ _ .part s⟩
  | @join J R hl ab h2 h6 ae=>
   obtain⟨q1,q2⟩:=rd2 hrest;subst hT;refine⟨_,rfl,W,_,rfl,wl.get (fH _ _),_,rfl,t,_,0,_,rfl,rfl,aH ht,rfl,rfl,_,rfl,nW (by decide) ?_⟩;refine⟨_,rfl,t,_,0,_,rfl,rfl,aH ht,rfl,rfl,_,rfl,yW ?_⟩;exact⟨_,rfl,_,rfl,W,B,sc,os,own,S,_,_,ws,J,R,rfl,wl,rdv,ok,rfl,rfl,fun H' s=>k _ _ _ .join s⟩
  | @forfeit J q hl hh=>
   obtain rfl:=nO hrest;have kF:∀(z:Str),dF S J q=z→∃ S',f8 S "forfeit" [.str J,.str q] z S':=by
    rintro z rfl;exact⟨_,.forfeit⟩
   subst hT;refine⟨_,rfl,W,_,rfl,wl.get (fH _ _),_,rfl,t,_,0,_,rfl,rfl,aH ht,rfl,rfl,_,rfl,nW (by decide) ?_⟩;refine⟨_,rfl,t,_,0,_,rfl,rfl,aH ht,rfl,rfl,_,rfl,nW (by decide) ?_⟩;refine⟨_,rfl,t,_,0,_,rfl,rfl,aH ht,rfl,rfl,_,rfl,yW ?_⟩;refine⟨_,rfl,t,_,3,_,rfl,rfl,aH ht,rfl,_,rfl,B.ho,_,rfl,.inl ⟨S.hs,Ac J,.inl wl.ho,rfl,rfl⟩,_,rfl,?_⟩;cases hv:bF S.hs (Ac J)with
   | none=>
    obtain⟨S',st⟩:=kF "land" (by unfold dF aP;rw[hv];rfl);exact fU (k _ _ _ st (cA.refl H))
   | some v=>
   refine dU ?_;obtain⟨hs,_,rfl,_⟩:=wl.hv _ _ hv;have ag:aP S J=true:=by unfold aP;rw[hv];rfl
   refine⟨_,rfl,t,_,0,_,rfl,rfl,aH ht,rfl,rfl,_,rfl,yW ?_⟩;refine⟨_,rfl,_,rfl,t,_,3,_,rfl,rfl,aH ht,rfl,B.ho,_,rfl,.inl ⟨S.hs,Ac J,.inl wl.ho,rfl,hv.symm⟩,_,rfl,t,_,4,_,rfl,rfl,aH ht,rfl,rfl,_,rfl,cT (fun g=>?_) fun g=>?_⟩
   ·obtain⟨S',st⟩:=kF "same" (by unfold dF;rw[ag,Ia (by decide),hv,V.str.inj (Ie g),Ib rfl]);exact k _ _ _ st (cA.refl H)
   obtain⟨S',st⟩:=kF "done" (by unfold dF;rw[ag,Ia (by decide),hv,Ia (fun z=>g (Ic (Cc.inj z)))]);refine⟨_,rfl,t,_,0,_,rfl,rfl,aH ht,rfl,rfl,_,rfl,nW (by decide) ?_⟩;refine dU ?_;refine⟨_,rfl,t,_,0,_,rfl,rfl,aH ht,rfl,rfl,_,rfl,nW (by decide) ?_⟩;refine dU ?_;refine⟨_,rfl,t,_,0,_,rfl,rfl,aH ht,rfl,zZ2,fun u O=>?_⟩;have Y:=(aK (o:=.tup [V.str "breach",.str "view"]) O)
   refine⟨u,_,rfl,.inr (aH aA),rfl,rfl,_,rfl,cT (fun g=>absurd g (by decide)) fun _=>?_⟩;refine dU ?_;exact k _ _ _ st Y
  | @measure G ar hf h0 h1=>
   obtain rfl:=nO hrest;subst hT;refine⟨_,rfl,W,_,rfl,wl.get (fH _ _),_,rfl,t,_,0,_,rfl,rfl,aH ht,rfl,rfl,_,rfl,nW (by decide) ?_⟩
   iterate 2 refine⟨_,rfl,t,_,0,_,rfl,rfl,aH ht,rfl,rfl,_,rfl,nW (by decide) ?_⟩
   refine dU ?_;refine⟨_,rfl,t,_,0,_,rfl,rfl,aH ht,rfl,rfl,_,rfl,nW (by decide) ?_⟩;refine dU ?_;refine⟨_,rfl,t,_,0,_,rfl,rfl,aH ht,rfl,rfl,_,rfl,nW (by decide) ?_⟩;refine dU ?_;refine⟨_,rfl,t,_,0,_,rfl,rfl,aH ht,rfl,rfl,_,rfl,nW (by decide) ?_⟩;refine dU ?_;refine⟨_,rfl,t,_,0,_,rfl,rfl,aH ht,rfl,zZ2,fun u O=>?_⟩;have Y:=(aK (o:=.tup [V.str "breach",.str "view"]) O)
   refine⟨u,_,rfl,.inr (aH aA),rfl,rfl,_,rfl,cT (fun g=>absurd g (by decide)) fun _=>?_⟩;refine dU ?_;exact k _ _ _ .measure Y
  | @mend q M hh ho az=>
   obtain rfl:=nO hrest;have kM:∀(z:Str),(if q∈rd S.men M then("ring":Str) else "done")=z→∃ S',f8 S "mend" [.str q,.str M] z S':=by
    rintro z rfl;exact⟨_,.mend⟩
   subst hT;refine⟨_,rfl,W,_,rfl,wl.get (fH _ _),_,rfl,t,_,0,_,rfl,rfl,aH ht,rfl,rfl,_,rfl,nW (by decide) ?_⟩
   iterate 2 refine⟨_,rfl,t,_,0,_,rfl,rfl,aH ht,rfl,rfl,_,rfl,nW (by decide) ?_⟩
   refine dU ?_;refine⟨_,rfl,t,_,0,_,rfl,rfl,aH ht,rfl,rfl,_,rfl,nW (by decide) ?_⟩;refine dU ?_;refine⟨_,rfl,t,_,0,_,rfl,rfl,aH ht,rfl,rfl,_,rfl,yW ?_⟩;refine⟨_,rfl,t,_,3,_,rfl,rfl,aH ht,rfl,_,rfl,_,rfl,t,_,4,_,rfl,rfl,aH ht,rfl,W,B,sc,os,own,S,M,rfl,wl,fun L H1 hL S1 am=>?_⟩;refine⟨L,_,rfl,.inl (aU am),rfl,hJ _,_,rfl,?_⟩;show if (if false=true then !inV (V.str q) ((rd S.men M).map V.str) else inV (V.str q) ((rd S.men M).map V.str))=true then _ else _
   rw[Ia AB,lH];by_cases g:q∈rd S.men M
   ·rw[Ic g];obtain⟨S',st⟩:=kM "ring" (Ib g);exact fU (k _ _ _ st S1)
   rw[decide_eq_false g];obtain⟨S',st⟩:=kM "done" (Ia g);refine dU ?_;refine⟨_,rfl,t,_,0,_,rfl,rfl,aH (S1 _ _ ht),rfl,rfl,_,rfl,nW (by decide) ?_⟩;refine dU ?_;refine⟨_,rfl,t,_,0,_,rfl,rfl,aH (S1 _ _ ht),rfl,zZ2,fun u O=>?_⟩;have Y:=S1.trans (aK (o:=.tup [V.str "breach",.str "view"]) O);refine⟨u,_,rfl,.inr (aH aA),rfl,rfl,_,rfl,cT (fun g=>absurd g (by decide)) fun _=>?_⟩;refine dU ?_;exact k _ _ _ st Y
  | @alone q hh=>
   obtain rfl:=nO hrest;have kA:∀(z:Str),(if (bF S.men (Ac q)).isSome=true then("done":Str) else "none")=z→∃ S',f8 S "alone" [.str q] z S':=by
    rintro z rfl;exact⟨_,.alone⟩
   subst hT;refine⟨_,rfl,W,_,rfl,wl.get (fH _ _),_,rfl,t,_,0,_,rfl,rfl,aH ht,rfl,rfl,_,rfl,nW (by decide) ?_⟩
   iterate 2 refine⟨_,rfl,t,_,0,_,rfl,rfl,aH ht,rfl,rfl,_,rfl,nW (by decide) ?_⟩
   refine dU ?_;refine⟨_,rfl,t,_,0,_,rfl,rfl,aH ht,rfl,rfl,_,rfl,nW (by decide) ?_⟩;refine dU ?_;refine⟨_,rfl,t,_,0,_,rfl,rfl,aH ht,rfl,rfl,_,rfl,nW (by decide) ?_⟩;refine dU ?_;refine⟨_,rfl,t,_,0,_,rfl,rfl,aH ht,rfl,rfl,_,rfl,yW ?_⟩;refine⟨_,rfl,t,_,3,_,rfl,rfl,aH ht,rfl,_,rfl,W,_,rfl,wl.get (zV _ _),B.me,_,rfl,.inl ⟨S.men,Ac q,.inl wl.me,rfl,rfl⟩,_,rfl,?_⟩;cases hv:bF S.men (Ac q)with
   | none=>
    obtain⟨S',st⟩:=kA "none" (by rw[hv];rfl);exact fU (k _ _ _ st (cA.refl H))
   | some v=>
   obtain⟨S',st⟩:=kA "done" (by rw[hv];rfl);refine dU ?_;refine⟨_,rfl,t,_,0,_,rfl,rfl,aH ht,rfl,zZ2,fun u O=>?_⟩;have Y:=(aK (o:=.tup [V.str "breach",.str "view"]) O)
   refine⟨u,_,rfl,.inr (aH aA),rfl,rfl,_,rfl,cT (fun g=>absurd g (by decide)) fun _=>?_⟩;refine dU ?_;exact k _ _ _ st Y
  | @breach G n1 n2 n3 hf an aj av aC aI aw=>
   obtain rfl:=nO hrest;obtain⟨v,hv⟩:=hrk G (fi (by decide) _ _ rfl);have el:dZ S G n1=if n1 < v then("done":Str) else "inch":=by
    unfold dZ;rw[hv]
   have kL:∀ z,dZ S G n1=z→f8 S "breach" (.str G :: .int n1 :: [.int n2,.int n3]) z S:=by
    rintro z rfl;exact .breach
   subst hT;refine⟨_,rfl,W,_,rfl,wl.get (fH _ _),_,rfl,t,_,0,_,rfl,rfl,aH ht,rfl,rfl,_,rfl,nW (by decide) ?_⟩
   iterate 2 refine⟨_,rfl,t,_,0,_,rfl,rfl,aH ht,rfl,rfl,_,rfl,nW (by decide) ?_⟩
   refine dU ?_;refine⟨_,rfl,t,_,0,_,rfl,rfl,aH ht,rfl,rfl,_,rfl,nW (by decide) ?_⟩;refine dU ?_;refine⟨_,rfl,t,_,0,_,rfl,rfl,aH ht,rfl,rfl,_,rfl,nW (by decide) ?_⟩;refine dU ?_;refine⟨_,rfl,t,_,0,_,rfl,rfl,aH ht,rfl,rfl,_,rfl,nW (by decide) ?_⟩;refine dU ?_;refine⟨_,rfl,t,_,0,_,rfl,rfl,aH ht,rfl,zZ2,fun u O=>?_⟩;have Y:=(aK (o:=.tup [V.str "breach",.str "view"]) O)
   refine⟨u,_,rfl,.inr (aH aA),rfl,rfl,_,rfl,cT (fun _=>?_) fun g=>absurd (by decide) g⟩;have Z:=wl.same Y;refine⟨_,rfl,t,_,4,_,rfl,rfl,aH (Y _ _ ht),rfl,_,rfl,W,_,rfl,Z.get (zW _ _),_,rfl,t,_,3,_,rfl,rfl,aH (Y _ _ ht),rfl,B.ic,_,rfl,.inl ⟨S.inc,Ac G,.inl Z.ic,rfl,hv.symm⟩,_,_,rfl,rfl,_,rfl,cT (fun g=>?_) fun g=>?_⟩
   ·exact k _ _ _ (kL _ (by rw[el,Ia (by have:=Ie g;omega)])) Y
   ·exact k _ _ _ (kL _ (by rw[el,Ib (by have:¬ v≤n1:=fun z=>g (Ic z);omega)])) Y
  | @view G q n1 hf an aj hh=>
   obtain rfl:=nO hrest;obtain⟨v,hv⟩:=hrk G (fi (by decide) _ _ rfl);have el:dZ S G n1=if n1 < v then("done":Str) else "inch":=by
    unfold dZ;rw[hv]
   have kL:∀ z,dZ S G n1=z→f8 S "view" (.str G :: .int n1 :: [.str q]) z S:=by
    rintro z rfl;exact .view
   subst hT;refine⟨_,rfl,W,_,rfl,wl.get (fH _ _),_,rfl,t,_,0,_,rfl,rfl,aH ht,rfl,rfl,_,rfl,nW (by decide) ?_⟩
   iterate 2 refine⟨_,rfl,t,_,0,_,rfl,rfl,aH ht,rfl,rfl,_,rfl,nW (by decide) ?_⟩
   refine dU ?_;refine⟨_,rfl,t,_,0,_,rfl,rfl,aH ht,rfl,rfl,_,rfl,nW (by decide) ?_⟩;refine dU ?_;refine⟨_,rfl,t,_,0,_,rfl,rfl,aH ht,rfl,rfl,_,rfl,nW (by decide) ?_⟩;refine dU ?_;refine⟨_,rfl,t,_,0,_,rfl,rfl,aH ht,rfl,rfl,_,rfl,nW (by decide) ?_⟩;refine dU ?_;refine⟨_,rfl,t,_,0,_,rfl,rfl,aH ht,rfl,zZ2,fun u O=>?_⟩;have Y:=(aK (o:=.tup [V.str "breach",.str "view"]) O)
   refine⟨u,_,rfl,.inr (aH aA),rfl,rfl,_,rfl,cT (fun _=>?_) fun g=>absurd (by decide) g⟩;have Z:=wl.same Y;refine⟨_,rfl,t,_,4,_,rfl,rfl,aH (Y _ _ ht),rfl,_,rfl,W,_,rfl,Z.get (zW _ _),_,rfl,t,_,3,_,rfl,rfl,aH (Y _ _ ht),rfl,B.ic,_,rfl,.inl ⟨S.inc,Ac G,.inl Z.ic,rfl,hv.symm⟩,_,_,rfl,rfl,_,rfl,cT (fun g=>?_) fun g=>?_⟩
   ·exact k _ _ _ (kL _ (by rw[el,Ia (by have:=Ie g;omega)])) Y
   ·exact k _ _ _ (kL _ (by rw[el,Ib (by have:¬ v≤n1:=fun z=>g (Ic z);omega)])) Y
theorem aA7:∀{a b:P3},pD a=pD b→a=b
 | (a1,a2,a3),(b1,b2,b3),h=>by
  unfold pD at h;injection h with h;injection h with h1 h;injection h with h2 h;injection h with h3 h;injection h1 with h1;injection h2 with h2;injection h3 with h3;dsimp only at h1 h2 h3;rw[h1,h2,h3]
theorem nG{α β:Type}{f:α→β}(q:∀{a b:α},f a=f b→a=b):∀{l m:List α},l.map f=m.map f→l=m
 | [],[],_=>rfl
 | [],_ :: _,h=>by simp at h
 | _ :: _,[],h=>by simp at h
 | a :: l,b :: m,h=>by
  rw[Au,Au]at h;injection h with h1 h2;rw[q h1,nG q h2]
theorem f8.fn{S:Ex}{word:Str}{ds:List A8}{z M:Str}{G J:Ex}(h:f8 S word ds z G)(h':f8 S word ds M J):z=M∧G=J:=by
 generalize hw:word=w0 at h';generalize hd:ds=d0 at h';cases h with
 | @part F R=>
  cases h' with
  | @part q O=>
   injection hd with h1 h2;injection h2 with h2 _;injection h1 with h1;injection h2 with h2;subst h1;have:=nG aA7 h2;subst this;exact⟨rfl,rfl⟩
  | _=>exact absurd hw (by decide)
 | @join F R=>
  cases h' with
  | @join q O=>
   injection hd with h1 h2;injection h2 with h2 _;injection h1 with h1;injection h2 with h2;subst h2;have:=nG (fun{a b} (e:BC a=BC b)=>by injection e) h1;subst this;exact⟨rfl,rfl⟩
  | _=>exact absurd hw (by decide)
 | forfeit=>
  cases h' with
  | forfeit=>cases hd;exact⟨rfl,rfl⟩
  | _=>exact absurd hw (by decide)
 | measure=>
  cases h' with
  | measure=>cases hd;exact⟨rfl,rfl⟩
  | _=>exact absurd hw (by decide)
 | mend=>
  cases h' with
  | mend=>cases hd;exact⟨rfl,rfl⟩
  | _=>exact absurd hw (by decide)
 | alone=>
  cases h' with
  | alone=>cases hd;exact⟨rfl,rfl⟩
  | _=>exact absurd hw (by decide)
 | breach=>
  cases h' with
  | breach=>cases hd;exact⟨rfl,rfl⟩
  | _=>exact absurd hw (by decide)
 | view=>
  cases h' with
  | view=>cases hd;exact⟨rfl,rfl⟩
  | _=>exact absurd hw (by decide)
theorem Run.fn{S:Ex}{F:List cV}{zs q:List Str}{M J:Ex}(h:Run S F zs M):Run S F q J→zs=q∧M=J:=by
 induction h generalizing q J with
 | nil=>
  intro h';generalize hu:([]:List cV)=Z at h';cases h' with
  | nil=>exact⟨rfl,rfl⟩
  | snoc _ _=>simp at hu
 | @snoc F zs Sa Sb r z _ st Y=>
  intro h';generalize hu:F ++ [r]=Z at h';cases h' with
  | nil=>simp at hu
  | @snoc O aa Sc _ r' z1 h1 G=>
   obtain⟨e1,e2⟩:=List.append_inj' hu rfl;injection e2 with e2;subst e1 e2;obtain⟨rfl,rfl⟩:=Y h1;obtain⟨rfl,rfl⟩:=st.fn G;exact⟨rfl,rfl⟩
def rkD:List (Key×V):=[(Ac "measure",.int 0),(Ac "mend",.int 2),(Ac "alone",.int 2),(Ac "breach",.int 3),(Ac "view",.int 3)]
def rk(w:Str):Int:=if w="measure" then 0 else if w="mend"∨w="alone" then 2 else if w="breach"∨w="view" then 3 else 1
theorem aHo:∀ w∈gH,(bF rkD (Ac w)).getD (.int 1)=.int (rk w):=by decide
inductive z5(vs:List V)(H:Hp)(Q:VK)(u3_:XK):Prop
 | mk (word:Str) (q0:vs=[.str word]) (q1:word∈gH) (q2:∀ H',cA H H'→Q (.int (rk word)) H'):z5 vs H Q u3_
def aEK:Sp:=fun vs H Q u3_=>z5 vs H Q u3_
theorem aHp:cC ["_law_word_here"] ["_law_word_here"] (aO aEf):=⟨rfl,rfl,rfl,by decide,rfl,by decide,by decide⟩
theorem aFU{f:Ag}{fd:A3}(F:Fun K "_law_rank" "_law_rank" aEf f fd):cY P w K mg base CX0 1 f fd ["_law_word_here"] aEK:=by
 refine F.ok aHp (fun vs H Q E h=>?_) (fun M A outer s H vs Q E J h=>?_)
 ·obtain⟨word,rfl,_⟩:=h;rfl
 ·obtain⟨word,rfl,hw,k⟩:=h;have hu:=d8 J;refine⟨_,aM (bJ (aDz hu (wK (d7 aN aD (d7 aN aD (d7 aN aD (d7 aN aD (d7 aN aD wJ))))) rfl rfl (by simp) (by decide)) (pv 0) aD ⟨rfl,rfl,rfl,rfl⟩)),fun d hd=>?_⟩;refine⟨aA,rkD,rfl,(by show 5≤15;decide),?_⟩;rw[show c5 [] rkD=rkD by first | rfl | decide];have G:cA H (upd (upd H d (.dK [])) d (.dK rkD)):=fun b o e=>by rw[rK,aF (aJ e hd)];exact e
  have q:upd (upd H d (.dK [])) d (.dK rkD) d=some (.dK rkD):=aA;generalize upd (upd H d (.dK [])) d (.dK rkD)=H2 at G q ⊢;refine⟨d,rfl,.inl ⟨rkD,.inl q⟩,_,rfl,_,.inl ⟨rkD,Ac word,.inl q,rfl,rfl⟩,?_⟩;rw[aHo word hw];exact k H2 G
theorem gC{ps:List Str}{r:Int}(q:0≤r)(h1:r < ((ps.map V.str).length:Nat)):∃ z,z∈ps∧atI (ps.map V.str) r=some (.str z):=by
 obtain⟨j,rfl⟩:∃ j:Nat,r=j:=⟨r.toNat,by omega⟩
 rw[Ab]at h1;obtain⟨z,hz⟩:∃ z,ps[j]?=some z:=⟨_,Aj (by omega)⟩
 exact⟨z,AK hz,f9 (by rw[Ao,hz];rfl)⟩
theorem jE{K:Ah}{H H':Hp}{p c:Ag}{ns:List Int}{a:Int}(q:dB K H p c ns a)(k:bA p H H'):fQ H H':=fun b F e=>k _ _ e (aEm q e (fun _ _ z=>nomatch z))
theorem gS{i:Int}(h:i≤1000000000):i < 2 ^ 512:=C6 h (by decide)
inductive t6(K:Ah)(vs:List V)(H:Hp)(Q:VK)(u3_:XK):Prop
 | mk (p c:Ag) (ns:List Int) (a:Int) (lp:Ag) (ps:List Str) (sc m:Int) (q0:vs=[.ref p,.ref lp,.int sc,.int m]) (q1:dB K H p c ns a) (q2:a≤500000) (q3:H lp=some (.lst (ps.map V.str))) (q4:Nms ps) (q5:1≤ps.length) (q6:ps.length≤300) (q7:1≤sc) (q8:sc≤100000) (q9:m=10) (q10:∀(t:Ag) (xs:List V) (Ls:List L4) (a':Int) (H':Hp),H' t=some (.tup xs)→cE false H' xs (Ls.map mU)→(∀ l∈Ls,LOk l∧sc ∣ l.2.2.1∧l.2.2.1≤10 * sc)→(Ls.map (·.1)).Nodup→1≤Ls.length→Ls.length≤8→a≤a'→a'≤a + 400→dB K H' p c ns a'→bA p H H'→Q (.ref t) H'):t6 K vs H Q u3_
def z6(K:Ah):Sp:=fun vs H Q u3_=>t6 K vs H Q u3_
theorem z7:cC ["_law_pen_here","_law_pool","_law_scale","_law_most","_law_laying_here","_law_field","_law_inches","_law_way"] ["_law_pen_here","_law_pool","_law_scale","_law_most"] (aO wV):=⟨rfl,rfl,rfl,by decide,rfl,by decide,by decide⟩
theorem aCR{f:Ag}{fd:A3}(F:Fun K "_law_laying" "_law_laying" wV f fd)(aT:mg "len"=none)(az:mg "tuple"=none)
  (GN:Cl P w K mg base 2 "_law_names" ["_law_pen_here","_law_many"] (wY K))
  (GD:Cl P w K mg base 1 "_law_draw" ["_law_pen_here","_law_many"] (mJ K))
  :cY P w K mg base CX0 3 f fd ["_law_pen_here","_law_pool","_law_scale","_law_most"] (z6 K):=by
 refine F.ok z7 (fun vs H Q E h=>?_) (fun cI A outer s H vs Q E hr h=>?_)
 ·obtain⟨p,c,ns,a,lp,ps,sc,m,rfl,_⟩:=h;rfl
 ·obtain⟨p,c,ns,a,lp,ps,sc,m,rfl,hp,ha,hlp,hps,hp1x,hp3x,s1,s2,hm,k⟩:=h;have M:dQ 1 _:=hr.mono (by decide);have nd:=z7.nd;refine⟨_,(aB (aS (i:=4) nd rfl (Av rfl) (c7 aE))
   (aB (fT Be rfl (iP (cG GN hr (aG (pv 0) (aG (aR bZ (c7 (aG aD (aG aD (aG aD (aG aD (aG aD (aG aD (aG aD (aG aD aE))))))))) (cG GD M (aG (pv 0) (aG aD aE))) Ig) aE)))) (g:=aY 5) (aZ (i:=5) nd rfl (Av rfl))
   (aB (aS (i:=6) nd rfl (Av rfl) (cG GD M (aG (pv 0) (aG aD aE))))
    (aB (aS (i:=7) nd rfl (Av rfl) (cG GD M (aG (pv 0) (aG aD aE))))
    (aB (d6 (cB (aX oU (pv 7) aD (bH _)) (aM (aS (i:=6) nd rfl (Av rfl) (aR bZ (c7 (aG (bC kU (bC nZ aD aD) (cG GD M (aG (pv 0) (aG aD aE)))) (aG aD aE))) (pv 7) Ig))) bB))
    (aM (dC (jI A0 Bt Bs eO (pv 4) (aG (cJ (aG (pv 5) (aG (aR bZ (pv 1) (cG GD M (aG (pv 0) (aG (aV bK (by rfl) aT AW (aG (pv 1) aE)) aE))) Ig) (aG (bC gE (bC cZ aD (cG GD M (aG (pv 0) (aG (pv 3) aE)))) (pv 2)) (aG (pv 6) aE))))) aE))))))))
   (aM (bJ (dD eI (by rfl) az (by kernel_rfl) (aG (pv 4) aE)))))),?_⟩
  refine⟨Bc _,fun L hL=>?_⟩;have sL:=aK (o:=.lst []) hL;have ae:=hp.same sL;have kL:bA p H _:=(bA.refl p H).same sL;have eL:upd H L (.lst []) L=some (.lst []):=aA;generalize upd H L (.lst [])=H0 at sL ae kL eL ⊢;refine⟨_,rfl,zZ8,fun q hq=>?_⟩;have sq:=aK (o:=.lst [V.int 1,.int 2,.int 2,.int 3,.int 3,.int 4,.int 5,.int 8]) hq;refine⟨_,rfl,p,c,ns,a,8,rfl,ae.same sq,by omega,by decide,by decide,fun r1 a1 H1 cy cr l1 u1 bb q1=>?_⟩;obtain⟨n,hn1,hn8,hat⟩:∃ n:Nat,1≤n∧n≤8∧atI [V.int 1,.int 2,.int 2,.int 3,.int 3,.int 4,.int 5,.int 8] r1=some (.int n):=by
   obtain⟨j,rfl⟩:∃ j:Nat,r1=j:=⟨r1.toNat,by omega⟩
   have hj:j < 8:=by omega
   have:∀ j:Nat,j < 8→∃ n:Nat,n < 9∧1≤n∧n≤8∧atI [V.int 1,.int 2,.int 2,.int 3,.int 3,.int 4,.int 5,.int 8] (j:Int)=some (.int n):=by decide
   obtain⟨n,_,h1,h2,h3⟩:=this j hj;exact⟨n,h1,h2,h3⟩
  refine⟨q,_,r1,_,rfl,rfl,aU (cW aA (ae.same sq) q1),hat,?_⟩;have k1:=(kL.same sq).trans q1;have av:=cW (sq _ _ eL) (ae.same sq) q1;refine⟨p,c,ns,a1,n,rfl,bb,by omega,by omega,fun l ws a2 H2 aL an au hN l2 u2 bt q2=>?_⟩;have k2:=k1.trans q2;have bq:=cW av bb q2;have cv:=hL;have bi:l≠L:=fun e=>by rw[e,av]at aL;cases aL
  refine⟨l,rfl,⟨_,aU an⟩,?_⟩;refine lT (K:=K) (xs:=ws.map V.str) (fun i σ H'=>Ex3 fun(o5 o6 o7:Option V)=>Ex3 fun(a':Int) (qs:List Ag) (J:List L4)=>Aw6 (σ=[some (.ref p),some (.ref lp),some (.int sc),some (.int m),some (.ref L),o5,o6,o7]) (dB K H' p c ns a') (bA p H H') (a2≤a') (a'≤a2 + 5 * i) (Aw3 (H' L=some (.lst (qs.map V.ref))) (H' l=some (.lst (ws.map V.str))) (Aw3 (cE false H' (qs.map V.ref) (J.map mU)) ((∀ l∈J,LOk l∧sc ∣ l.2.2.1∧l.2.2.1≤10 * sc)) (J.map (·.1)=ws.take i)))) ⟨_,_,_,a2,[],[],rfl,bt,k2,by omega,by omega,bq,an,.nil,fun l hl=>by simp at hl,rfl⟩ (fun i σ H' _ p=>by obtain⟨_,_,_,_,_,_,_,_,_,_,_,_,e,_⟩:=p;exact aU e) ?_ ?_
  ·rintro i v σ H3 hv ⟨o5,o6,o7,a3,qs,J,rfl,Y,k3,l3,u3,al,aC,ah,hok,O⟩;rw[Ao]at hv;obtain⟨z,hz,rfl⟩:=AL.mp hv;have ap:=hN.ok z (AK hz);have cg:i < n:=by rw[← au];exact(Ax.mp hz).1
   have bE:J.length=i:=by
    have:=congrArg Cg O;rw[Ab,AM]at this;omega
   dsimp only[aY];refine⟨_,rfl,p,c,ns,a3,40,rfl,Y,by omega,by decide,by decide,fun r4 a4 H4 cm c9 l4 u4 ab q4=>?_⟩;dsimp only[aY];refine⟨_,rfl,p,c,ns,a4,8,rfl,ab,by omega,by decide,by decide,fun r5 a5 H5 cx db l5 u5 Z q5=>?_⟩;have k5:=(k3.trans q4).trans q5;have bz:=cW (cW al Y q4) ab q5;have bD:=cW (cW aC Y q4) ab q5;have br:cE false H5 (qs.map V.ref) (J.map mU):=cE.onT (fun b us e=>jE ab q5 _ _ (jE Y q4 _ _ e)) ah (gI J);refine⟨fun σ' H'=>∃(x a':Int),σ'=[some (.ref p),some (.ref lp),some (.int sc),some (.int m),some (.ref L),some (.str z),some (.int x),some (.int r5)]∧dB K H' p c ns a'∧bA p H5 H'∧a5≤a'∧a'≤a5 + 1∧0≤x∧x≤10000000,?_,?_⟩
   ·refine⟨_,rfl,_,_,rfl,rfl,_,rfl,cT (fun g=>?_) fun g=>?_⟩
    ·have g':r5 < 2:=Ie g;refine⟨_,_,rfl,rfl,⟨by decide,by decide,by decide⟩,_,rfl,p,c,ns,a5,3,rfl,Z,by omega,by decide,by decide,fun r6 a6 H6 cL cw l6 u6 G q6=>?_⟩;refine⟨_,_,rfl,rfl,zZ2,fun q hq=>?_⟩;have af:=aK (o:=.lst [V.int (10 ^ (7:Int).toNat - r6),.int 0]) hq;have e7:(10:Int) ^ (7:Int).toNat=10000000:=by decide
     have bn:r5=0∨r5=1:=by omega
     rcases bn with rfl | rfl
     ·exact⟨_,rfl,q,_,0,_,rfl,rfl,aU aA,rfl,_,a6,rfl,G.same af,q6.same af,by omega,by omega,by rw[e7];omega,by rw[e7];omega⟩
     ·exact⟨_,rfl,q,_,1,_,rfl,rfl,aU aA,rfl,_,a6,rfl,G.same af,q6.same af,by omega,by omega,by omega,by omega⟩
    ·exact⟨r4,a5,rfl,Z,bA.refl _ _,by omega,by omega,by omega,by omega⟩
   ·rintro σ' H6 ⟨x,a6,rfl,G,q6,l6,u6,bm,bh⟩;have k6:=k5.trans q6;have aw:=cW bz Z q6;have bP:=cW bD Z q6;have ai:H6 lp=some (.lst (ps.map V.str)):=cW hlp hp k6;refine⟨_,rfl,.inl ⟨rfl,_,aU aw⟩,_,rfl,_,rfl,_,rfl,_,rfl,lp,_,rfl,.inl (aU ai),p,c,ns,a6,_,rfl,G,by omega,by rw[Ab];omega,gS (by rw[Ab];omega),fun r7 a7 H7 bx bI l7 u7 ad q7=>?_⟩;obtain⟨hz7,hh7,hat7⟩:=gC bx bI;refine⟨lp,_,_,_,rfl,rfl,aU (cW ai G q7),hat7,_,rfl,_,rfl,p,c,ns,a7,_,rfl,ad,by omega,by omega,gS (by omega),fun r8 a8 H8 cj cf l8 u8 bw q8=>?_⟩;refine⟨_,_,rfl,rfl,_,rfl,_,_,rfl,rfl,.inr ⟨by omega,by omega⟩,_,rfl,zZ4,fun t ht=>?_⟩;have st:=aK (o:=.tup [V.str z,.str hz7,.int ((1 + r8) * sc),.int x]) ht;have k8:=((k6.trans q7).trans q8).same st;have aq:=bw.same st;have ag:=st _ _ (cW (cW aw G q7) ad q8);have aI:=st _ _ (cW (cW bP G q7) ad q8);refine⟨L,_,_,rfl,rfl,ag,by rw[Ab];exact cU (by have:=ah.len;rw[Ab,Ab]at this;omega),?_⟩;have cb:1 * sc≤(1 + r8) * sc∧(1 + r8) * sc≤10 * sc:=⟨C0 (by omega) (by omega),C0 (by omega) (by omega)⟩
    have ar:LOk (z,hz7,(1 + r8) * sc,x):=⟨ap,hps.ok _ hh7,by dsimp only;omega,by dsimp only;omega,bm,bh⟩
    have ao:RdV false (upd H8 t (.tup [V.str z,.str hz7,.int ((1 + r8) * sc),.int x])) (.ref t) (mU (z,hz7,(1 + r8) * sc,x)):=.tup aA (by show 4≤_;decide) (.cons (iG ap) (.cons (iG (hps.ok _ hh7)) (.cons (.int _) (.cons (.int _) .nil))));have ba:cE false (upd H8 t (.tup [V.str z,.str hz7,.int ((1 + r8) * sc),.int x])) (qs.map V.ref) (J.map mU):=cE.onT (fun b us e=>st _ _ (jE ad q8 _ _ (jE G q7 _ _ (jE Z q6 _ _ e)))) br (gI J);generalize upd H8 t _=H9 at k8 aq ag aI ao ba ⊢;obtain⟨hpA,kA⟩:=dB.app (ys:=qs.map V.ref ++ [V.ref t]) hp aq k8 hL ag;have tA:fQ H9 (upd H9 L (.lst (qs.map V.ref ++ [V.ref t]))):=fun b us e=>by rw[aF (bT e ag (fun z=>nomatch z))];exact e
    refine⟨_,_,_,a8,qs ++ [t],J ++ [(z,hz7,(1 + r8) * sc,x)],rfl,hpA,kA,by omega,by omega,by rw[aA,Aw];rfl,by rw[aF bi];exact aI,?_,fun y hy=>?_,?_⟩
    ·rw[Aw,Aw];exact cE.app (cE.onT tA ba (gI J)) (.cons (RdV.onT tA ao rfl) .nil)
    ·rcases AO.mp hy with hy | hy
     ·exact hok y hy
     ·rw[AE.mp hy];exact⟨ar,Int.dvd_mul_left _ _,by dsimp only;omega⟩
    ·rw[Aw,O,AC,hz];rfl
  ·rintro σ H3 ⟨o5,o6,o7,a3,qs,J,rfl,Y,k3,l3,u3,al,aC,ah,hok,O⟩;rw[Ab,AH]at O;have bE:J.length=n:=by rw[← au,← O,Ab]
   rw[Ab]at u3;refine⟨_,rfl,L,_,rfl,.inl ⟨aU al,fun t ht=>?_⟩⟩;have st:=aK (o:=.tup (qs.map V.ref)) ht;exact k t _ J a3 _ aA (cE.onT (bU st) ah (gI J)) hok (by rw[O];exact hN.nd) (by omega) (by omega) (by omega) (by omega) (Y.same st) (k3.same st)
def hV(sc:Int)(l:L4):List UK:=(AU (l.2.2.1 / sc).toNat).map fun u=>(l.1,u)
def mX(sc:Int)(Ls:List L4):List UK:=Ls.flatMap (hV sc)
def xE(k:UK):Str:=k.1
theorem lJ:∀(Ls:List L4) (S:Ex),(Ls.foldl jQ S).hs=c5 S.hs (Ls.map fun l=>(Ac l.1,V.str l.2.1))
 | [],_=>rfl
 | l :: Ls,S=>lJ Ls (jQ S l)
theorem kK:∀(Ls:List L4) (S:Ex),(Ls.foldl jQ S).inc=c5 S.inc (Ls.map fun l=>(Ac l.1,V.int l.2.2.2))
 | [],_=>rfl
 | l :: Ls,S=>kK Ls (jQ S l)
theorem z9:∀(Ls:List L4) (S:Ex) (z:Str),z ∉ Ls.map (·.1)→(Ls.foldl jQ S).ac z=S.ac z
 | [],_,_,_=>rfl
 | l :: Ls,S,z,h=>by
  rw[Au,Ak,not_or]at h;rw[BL,z9 Ls (jQ S l) z h.2];show lG S.ac l.1 l.2.2.1 z=_;unfold lG;rw[Ia h.1]
theorem aBU:∀(Ls:List L4) (S:Ex),(Ls.map (·.1)).Nodup→∀ l∈Ls,(Ls.foldl jQ S).ac l.1=l.2.2.1
 | [],_,_,_,h=>by simp at h
 | a :: Ls,S,hn,l,h=>by
  rw[Au,AY]at hn;rw[BL];rcases Ak.mp h with rfl | h
  ·rw[z9 Ls _ _ hn.1];show lG S.ac l.1 l.2.2.1 l.1=_;unfold lG;rw[Ib rfl]
  ·exact aBU Ls _ hn.2 l h
theorem kQ{α:Type}(f:α→Str)(g:α→V)(k:Key)(v:V):∀(Ls:List α) (d:List (Key×V)),bF (c5 d (Ls.map fun l=>(Ac (f l),g l))) k=some v→bF d k=some v∨∃ l∈Ls,k=Ac (f l)∧v=g l
 | [],d,h=>.inl h
 | l :: Ls,d,h=>by
  rcases kQ f g k v Ls (bS d (Ac (f l)) (g l)) h with h | ⟨q,h1,h2⟩
  ·rw[dJ]at h;by_cases e:k=Ac (f l)
   ·rw[Ib e]at h;cases h;exact .inr ⟨l,by simp,e,rfl⟩
   ·rw[Ia e]at h;exact .inl h
  ·exact .inr ⟨q,by simp[h1],h2⟩
theorem pX{α:Type}(f:α→Str)(g:α→V)(k:Key):∀(Ls:List α) (d:List (Key×V)),((bF d k).isSome=true∨∃ l∈Ls,k=Ac (f l))→(bF (c5 d (Ls.map fun l=>(Ac (f l),g l))) k).isSome=true
 | [],d,h=>h.elim id fun⟨l,h,_⟩=>by simp at h
 | l :: Ls,d,h=>by
  refine pX f g k Ls (bS d (Ac (f l)) (g l)) ?_;rw[dJ];by_cases e:k=Ac (f l)
  ·rw[Ib e];exact .inl rfl
  ·rw[Ia e];rcases h with h | ⟨q,h1,h2⟩
   ·exact .inl h
   ·rcases Ak.mp h1 with rfl | h1
    ·exact absurd h2 e
    ·exact .inr ⟨q,h1,h2⟩
theorem aAa:∀(iz d:List (Key×V)),(d.map (·.1)).Nodup→((c5 d iz).map (·.1)).Nodup
 | [],d,h=>h
 | kv :: iz,d,h=>aAa iz (bS d kv.1 kv.2) (lF _ h)
theorem st0{Ls:List L4}{z:Str}:aP (ex0 Ls) z=true↔z∈Ls.map (·.1):=by
 unfold aP ex0;rw[lJ];constructor
 ·intro h;obtain⟨v,hv⟩:=A7.mp h;rcases kQ _ _ _ _ _ _ hv with h | ⟨l,h1,h2,_⟩
  ·cases h
  ·injection h2 with h2;rw[h2];exact Bg h1
 ·intro h;obtain⟨l,h1,rfl⟩:=AQ.mp h;exact pX _ _ _ _ _ (.inr ⟨l,h1,rfl⟩)
theorem xF{sc:Int}:∀{Ls:List L4}{k:UK},k∈mX sc Ls→k.1∈Ls.map (·.1):=by
 intro Ls k h;unfold mX at h;obtain⟨l,h1,h2⟩:=List.mem_flatMap.mp h;unfold hV at h2;obtain⟨u,_,rfl⟩:=AQ.mp h2;exact Bg h1
theorem aEL{sc:Int}:∀{Ls:List L4},(Ls.map (·.1)).Nodup→∀ l∈Ls,((mX sc Ls).filter fun k=>decide (xE k=l.1)).length=(l.2.2.1 / sc).toNat
 | [],_,_,h=>by simp at h
 | a :: Ls,hn,l,h=>by
  rw[Au,AY]at hn;show((hV sc a ++ mX sc Ls).filter _).length=_;rw[CI,Ay];rcases Ak.mp h with rfl | h
  ·rw[List.filter_eq_self.mpr,E8.mpr]
   ·unfold hV;simp
   ·intro k q z;exact hn.1 (by rw[← Ie z];exact xF q)
   ·intro k q;unfold hV at q;obtain⟨u,_,rfl⟩:=AQ.mp q;exact Ic rfl
  ·rw[E8.mpr,aEL hn.2 l h]
   ·simp
   ·intro k q z;unfold hV at q;obtain⟨u,_,rfl⟩:=AQ.mp q;have:a.1=l.1:=Ie z;exact hn.1 (by show a.1∈_;rw[this];exact Bg h)
theorem aGq{sc:Int}:∀{Ls:List L4},(Ls.map (·.1)).Nodup→(mX sc Ls).Nodup
 | [],_=>DU
 | a :: Ls,hn=>by
  rw[Au,AY]at hn;show(hV sc a ++ mX sc Ls).Nodup;refine Bw.mpr ⟨?_,aGq hn.2,fun x hx y q e=>?_⟩
  ·unfold hV;rw[Ey,List.pairwise_map];exact List.Pairwise.imp (fun{x y} hxy e=>hxy (congrArg Prod.snd e)) (Ey.mp List.nodup_range)
  ·subst e;unfold hV at hx;obtain⟨u,_,rfl⟩:=AQ.mp hx;exact hn.1 (xF q)
theorem aA8{sc:Int}(h1:1≤sc):∀{Ls:List L4},(∀ l∈Ls,1≤l.2.2.1∧l.2.2.1≤10 * sc)→(mX sc Ls).length≤10 * Ls.length
 | [],_=>Am _
 | a :: Ls,h=>by
  have q:=aA8 h1 (Ls:=Ls) fun l hl=>h l (by simp[hl]);have ha:=h a (by simp);have:a.2.2.1 / sc≤10:=Int.ediv_le_of_le_mul (by omega) ha.2;show(hV sc a ++ mX sc Ls).length≤_;rw[Ay,AI];unfold hV;rw[Ab,FW];omega
theorem oP{α β γ:Type}{R:α→β→Prop}{S:α→γ→Prop}{f:β→γ}(h:∀ a b,R a b→S a (f b)):∀{as:List α}{bs:List β},Ce R as bs→Ce S as (bs.map f)
 | _,_,.nil=>.nil
 | _,_,.cons r t=>.cons (h _ _ r) (oP h t)
theorem aFV(sc:Int)(o ow me:Ag):c5 [] [(jT,V.int sc),(jU,.ref o),(jV,.ref ow),(jW,.ref me)]=[(jT,V.int sc),(jU,.ref o),(jV,.ref ow),(jW,.ref me)]:=by
 first | rfl | decide
theorem aFW(sc:Int)(o ow me ho:Ag):bS [(jT,V.int sc),(jU,.ref o),(jV,.ref ow),(jW,.ref me)] qL (.ref ho)=[(jT,V.int sc),(jU,.ref o),(jV,.ref ow),(jW,.ref me),(qL,.ref ho)]:=by
 first | rfl | decide
theorem aFX(sc:Int)(o ow me ho ic:Ag):bS [(jT,V.int sc),(jU,.ref o),(jV,.ref ow),(jW,.ref me),(qL,.ref ho)] aFS (.ref ic)=jF sc ⟨o,ow,me,ho,ic⟩:=by
 first | rfl | decide
theorem eQ{H H':Hp}{a:Ag}(s:cA H H')(h:H' a=none):H a=none:=by
 cases q:H a with
 | none=>rfl
 | some o=>rw[s _ _ q]at h;cases h
def LP(g:L4→V)(H:Hp)(r:Ag)(l:L4):Prop:=H r=some (.tup [.str l.1,g l])
structure WB(H:Hp)(d:Ag)(B:WA)(sc:Int)(os:List UK)(hs ic:List (Key×V)):Prop where
 d:H d=some (.dK (jF sc B))
 o:∃ qs:List Ag,H B.o=some (.lst (qs.map V.ref))∧UAt H qs os
 ow:H B.ow=some (.dT (jD os xE))
 me:H B.me=some (.dK [])
 ho:H B.ho=some (.dK hs)
 ic:H B.ic=some (.dK ic)
theorem aHq{H:Hp}{W:Ag}{B:WA}{sc:Int}(h:H W=some (.dK (jF sc B))){z:Str}{v:V}(e:bF (jF sc B) (Ac z)=some v):gR H W (.str z) (some v):=by
 have:=gR.k (k:=Ac z) h;rw[e]at this;exact this
theorem aFY{own:UK→Str}{os:List UK}{k:UK}(h:k ∉ os):bF (jD os own) [Ac k.1,Cm (k.2:Int)]=none:=by
 induction os with
 | nil=>rfl
 | cons a r q=>
  show bF (([Ac a.1,Cm (a.2:Int)],V.str (own a)) :: jD r own) _=_;rw[cN]
  ·exact q fun z=>h (by simp[z])
  ·intro z;injection z with z1 z2;injection z2 with z2;injection z1 with z1;injection z2 with z2;exact h (by rw[show a=k from FS z1 (Hr.inj z2)];simp)
theorem aFZ{sc:Int}{Ls:List L4}{i:Nat}{l:L4}(h:Ls[i]?=some l):mX sc (Ls.take (i + 1))=mX sc (Ls.take i) ++ hV sc l:=by
 unfold mX;rw[AC,h,List.flatMap_append];show _ ++ (hV sc l ++ [])=_;rw[BM]
theorem UAt.snoc{H:Hp}{F:List Ag}{ks:List UK}{q:Ag}{k:UK}(h:H q=some (.tup [.str k.1,.int (k.2:Int)]))(u:UAt H F ks):UAt H (F ++ [q]) (ks ++ [k]):=Paired.snoc (R:=fun(q:Ag) (k:UK)=>H q=some (.tup [.str k.1,.int (k.2:Int)])) h u
theorem UAt.on{H H':Hp}{F:List Ag}{ks:List UK}(u:UAt H F ks)(t:fQ H H'):UAt H' F ks:=Paired.mapP u fun q k e=>t _ _ e
inductive v4(vs:List V)(H:Hp)(Q:VK)(u3_:XK):Prop
 | mk (lay:Ag) (xs:List V) (Ls:List L4) (sc:Int) (q0:vs=[.ref lay,.int sc]) (q1:H lay=some (.tup xs)) (q2:cE false H xs (Ls.map mU)) (q3:(∀ l∈Ls,LOk l∧sc ∣ l.2.2.1∧l.2.2.1≤10 * sc)) (q4:(Ls.map (·.1)).Nodup) (q5:1≤Ls.length) (q6:Ls.length≤8) (q7:1≤sc) (q8:sc≤100000) (q9:∀(W:Ag) (B:WA) (os:List UK) (own:UK→Str) (H':Hp),cA H H'→(∀ x∈[W,B.o,B.ow,B.me,B.ho,B.ic],H x=none)→eG H' W B sc os own (ex0 Ls)→Q (.ref W) H'):v4 vs H Q u3_
def xG:Sp:=fun vs H Q u3_=>v4 vs H Q u3_
theorem aBV:cC ["_law_laying_here","_law_scale","_law_world_here","_law_field","_law_house","_law_acres","_law_inches","_law_unit"] ["_law_laying_here","_law_scale"] (aO tR):=⟨rfl,rfl,rfl,by decide,rfl,by decide,by decide⟩
theorem aEM{f:Ag}{fd:A3}(F:Fun K "_law_world" "_law_world" tR f fd)(ak:mg "dict"=none)(bx:mg "range"=none)
  :cY P w K mg base CX0 2 f fd ["_law_laying_here","_law_scale"] xG:=by
 refine F.ok aBV (fun vs H Q E h=>?_) (fun dn A outer s H vs Q E hr h=>?_)
 ·obtain⟨lay,xs,Ls,sc,rfl,_⟩:=h;rfl
 ·obtain⟨lay,xs,Ls,sc,rfl,hlay,rdl,hok,hnd,h1,h8,s1,s2,k⟩:=h;have hu:=d8 hr;have nd:=aBV.nd;refine⟨_,(aB (aS (i:=2) nd rfl (Av rfl) (wK (d7 aN (pv 1) (d7 aN (c7 aE) (d7 aN aDx (d7 aN j6 wJ)))) rfl rfl (by simp) (by decide)))
   (aB (c8 hu (pv 2) aN (dD (tP rfl) (by rfl) ak (by kernel_rfl) (aG (dO (N:=["_law_row"]) (src:=[none]) (osc:=aO tR) (oN:=["_law_laying_here","_law_scale","_law_world_here","_law_field","_law_house","_law_acres","_law_inches","_law_unit"]) ⟨by rfl,by decide,by decide,by decide,rfl,by rfl⟩ (dS (pv 0)) (fun cl s H fp iw C=>⟨aZ (i:=0) (show(["_law_row"]:List Str).Nodup by decide) rfl (Av rfl),dN,cJ (aG (aR (r:=lV K) aW (pv 0) aD Ig) (aG (aR (r:=lV K) aW (pv 0) aD Ig) aE))⟩)) aE)) rfl)
   (aB (c8 hu (pv 2) aN (dD (tP rfl) (by rfl) ak (by kernel_rfl) (aG (dO (N:=["_law_row"]) (src:=[none]) (osc:=aO tR) (oN:=["_law_laying_here","_law_scale","_law_world_here","_law_field","_law_house","_law_acres","_law_inches","_law_unit"]) ⟨by rfl,by decide,by decide,by decide,rfl,by rfl⟩ (dS (pv 0)) (fun cl s H fp iw C=>⟨aZ (i:=0) (show(["_law_row"]:List Str).Nodup by decide) rfl (Av rfl),dN,cJ (aG (aR (r:=lV K) aW (pv 0) aD Ig) (aG (aR (r:=lV K) aW (pv 0) aD Ig) aE))⟩)) aE)) rfl)
   (aB (fT Be rfl (dS (pv 0)) (g:=xR K 4 (eV (aY 3) (eV (aY 4) (eV (aY 5) (eV (aY 6) xQ))))) (iX rfl (b9 (aZ (i:=3) nd rfl (Av rfl)) (b9 (aZ (i:=4) nd rfl (Av rfl)) (b9 (aZ (i:=5) nd rfl (Av rfl)) (b9 (aZ (i:=6) nd rfl (Av rfl)) gM)))))
   (aM (fT Be rfl (fJ rfl bx (aG (bC m5 (pv 5) (pv 1)) aE)) (g:=aY 7) (aZ (i:=7) nd rfl (Av rfl))
    (aB (dC (jI A0 Bt Bs eO (bG hu (pv 2) aN Ig) (aG (cJ (aG (pv 3) (aG (pv 7) aE))) aE)))
     (aM (c8 hu (bG hu (pv 2) aN Ig) (cJ (aG (pv 3) (aG (pv 7) aE))) (pv 3) rfl))))))
   (aM (bJ (pv 2))))))),?_⟩
  have am:=rdl.len;rw[Ab]at am;have z8:xs.length≤sizeLine:=aQ (by omega);refine fun d hd=>⟨_,rfl,Bc _,fun o ho=>fun ow O=>fun me ah=>?_⟩
  have bm:=aK (o:=.dK []) hd;have az:=bm.trans (aK (o:=.lst []) ho);have bj:=az.trans (aK (o:=.dT []) O);have aI:=bj.trans (aK (o:=.dK []) ah);have fo:H o=none:=eQ bm ho;have di:H ow=none:=eQ az O;have de:H me=none:=eQ bj ah;have dm:d≠me:=aJ (H:=upd (upd (upd H d (.dK [])) o (.lst [])) ow (.dT [])) (by rw[aF (aJ (H:=upd (upd H d (.dK [])) o (.lst [])) (by rw[aF (aJ (aA) ho)];exact aA) O),aF (aJ aA ho)];exact aA) ah;have ed:upd (upd (upd (upd H d (.dK [])) o (.lst [])) ow (.dT [])) me (.dK []) d=some (.dK []):=by
   rw[aF dm,aF (aJ (H:=upd (upd H d (.dK [])) o (.lst [])) (by rw[aF (aJ (aA) ho)];exact aA) O),aF (aJ aA ho)];exact aA
  have ay:upd (upd (upd (upd H d (.dK [])) o (.lst [])) ow (.dT [])) me (.dK []) me=some (.dK []):=aA;have ar:upd (upd (upd (upd H d (.dK [])) o (.lst [])) ow (.dT [])) me (.dK []) ow=some (.dT []):=by
   rw[aF (aJ aA ah)];exact aA
  have eo:upd (upd (upd (upd H d (.dK [])) o (.lst [])) ow (.dT [])) me (.dK []) o=some (.lst []):=by
   rw[aF (aJ (H:=upd (upd (upd H d (.dK [])) o (.lst [])) ow (.dT [])) (by rw[aF (aJ aA O)];exact aA) ah),aF (aJ aA O)];exact aA
  generalize upd (upd (upd (upd H d (.dK [])) o (.lst [])) ow (.dT [])) me (.dK [])=G at aI ed ay ar eo ⊢;clear bm az bj ho O ah;refine⟨ed,[(jT,V.int sc),(jU,.ref o),(jV,.ref ow),(jW,.ref me)],rfl,(by show 4≤15;decide),?_⟩;rw[aFV];have S1:cA H (upd G d (.dK [(jT,V.int sc),(jU,.ref o),(jV,.ref ow),(jW,.ref me)])):=fun b u e=>by
   rw[aF (aJ e hd)];exact aI _ _ e
  have ae:upd G d (.dK [(jT,V.int sc),(jU,.ref o),(jV,.ref ow),(jW,.ref me)]) d=some (.dK [(jT,V.int sc),(jU,.ref o),(jV,.ref ow),(jW,.ref me)]):=aA;have Z:upd G d (.dK [(jT,V.int sc),(jU,.ref o),(jV,.ref ow),(jW,.ref me)]) me=some (.dK []):=by rw[aF (B4 dm)];exact ay
  have aa:upd G d (.dK [(jT,V.int sc),(jU,.ref o),(jV,.ref ow),(jW,.ref me)]) ow=some (.dT []):=by rw[aF (bT ar ed (fun z=>nomatch z))];exact ar
  have ao:upd G d (.dK [(jT,V.int sc),(jU,.ref o),(jV,.ref ow),(jW,.ref me)]) o=some (.lst []):=by rw[aF (bT eo ed (fun z=>nomatch z))];exact eo
  generalize upd G d _=G1 at S1 ae Z aa ao ⊢;clear aI ed ay ar eo;refine⟨_,rfl,lay,rfl,⟨_,aH (S1 _ _ hlay)⟩,?_⟩;refine dY (K:=K) (xs:=xs) (fun i ys σ' H'=>∃(o1:Option V) (rs:List Ag),Aw3 (σ'=[o1]) (cA G1 H') (ys=rs.map V.ref∧Ce (LP (fun l=>V.str l.2.1) H') rs (Ls.take i))) ⟨none,[],rfl,cA.refl _,rfl,.nil⟩
   z8 (fun i ys σ H' p=>by
    obtain⟨_,rs,_,_,rfl,pr⟩:=p;have:=pr.length;rw[AM]at this;rw[Ab];omega) (fun i ys σ H' p=>by obtain⟨_,_,_,S,_⟩:=p;exact aH (S _ _ (S1 _ _ hlay))) ?_ ?_
  ·rintro i v ys σ' H' hv ⟨o1,rs,rfl,S',rfl,pr⟩;obtain⟨dd,hdd,rd'⟩:=rdl.at hv;rw[Ao]at hdd;obtain⟨l,hl,rfl⟩:=AL.mp hdd;obtain⟨f1,g1,a1,i1⟩:=l;obtain⟨q,rfl,hq0⟩:=mV rd';have hq:=S' _ _ (S1 _ _ hq0);dsimp only[aY];refine fU ?_;refine⟨_,rfl,q,_,0,_,rfl,rfl,aH hq,rfl,_,rfl,q,_,1,_,rfl,rfl,aH hq,rfl,zZ2,fun u bq=>?_⟩;have su:=aK (o:=.tup [V.str f1,V.str g1]) bq;refine⟨_,rs ++ [u],rfl,S'.trans su,by rw[Aw];rfl,?_⟩;rw[AC,hl];exact Paired.snoc (R:=LP (fun l=>V.str l.2.1) _) aA (Paired.mapP pr fun r l e=>su _ _ e)
  rintro ys σ' H' ⟨o1,rs,rfl,S',rfl,pr⟩ D hD;rw[am,AH]at pr;have sD:=aK (o:=.lst (rs.map V.ref)) hD;refine⟨D,rs,Ls.map fun l=>(Ac l.1,V.str l.2.1),rfl,aA,oP (f:=fun l=>(Ac l.1,V.str l.2.1)) (fun r l e=>sD _ _ e) pr,fun h hh=>?_⟩;have S2:=(S'.trans sD).trans (aK (o:=.dK (c5 [] (Ls.map fun l=>(Ac l.1,V.str l.2.1)))) hh);have eh:upd (upd H' D (.lst (rs.map V.ref))) h (.dK (c5 [] (Ls.map fun l=>(Ac l.1,V.str l.2.1)))) h=some (.dK (c5 [] (Ls.map fun l=>(Ac l.1,V.str l.2.1)))):=aA;have fh:G1 h=none:=eQ (S'.trans sD) hh;generalize upd (upd H' D (.lst (rs.map V.ref))) h _=Gh at S2 eh ⊢;refine⟨_,rfl,d,_,rfl,gP.k (k:=qL) (S2 _ _ ae) (cU (by show 4≤1000;decide)),?_⟩;rw[aFW];have dq:H h=none:=eQ S1 fh;have a0:h≠d:=(aJ ae fh).symm;have S3:cA H (upd Gh d (.dK [(jT,V.int sc),(jU,.ref o),(jV,.ref ow),(jW,.ref me),(qL,.ref h)])):=fun b u e=>by
   rw[aF (aJ e hd)];exact S2 _ _ (S1 _ _ e)
  have ag:upd Gh d (.dK [(jT,V.int sc),(jU,.ref o),(jV,.ref ow),(jW,.ref me),(qL,.ref h)]) d=some (.dK [(jT,V.int sc),(jU,.ref o),(jV,.ref ow),(jW,.ref me),(qL,.ref h)]):=aA;have ab:upd Gh d (.dK [(jT,V.int sc),(jU,.ref o),(jV,.ref ow),(jW,.ref me),(qL,.ref h)]) me=some (.dK []):=by rw[aF (B4 dm)];exact S2 _ _ Z
  have ad:upd Gh d (.dK [(jT,V.int sc),(jU,.ref o),(jV,.ref ow),(jW,.ref me),(qL,.ref h)]) ow=some (.dT []):=by rw[aF (bT aa ae (fun z=>nomatch z))];exact S2 _ _ aa
  have aq:upd Gh d (.dK [(jT,V.int sc),(jU,.ref o),(jV,.ref ow),(jW,.ref me),(qL,.ref h)]) o=some (.lst []):=by rw[aF (bT ao ae (fun z=>nomatch z))];exact S2 _ _ ao
  have an:upd Gh d (.dK [(jT,V.int sc),(jU,.ref o),(jV,.ref ow),(jW,.ref me),(qL,.ref h)]) h=some (.dK (c5 [] (Ls.map fun l=>(Ac l.1,V.str l.2.1)))):=by rw[aF a0];exact eh
  have bu:me≠h:=aJ Z fh;generalize upd Gh d _=G3 at S3 ag ab ad aq an ⊢;clear S2 eh S1 ae Z aa ao fh S' sD;refine⟨_,rfl,lay,rfl,⟨_,aH (S3 _ _ hlay)⟩,?_⟩;refine dY (K:=K) (xs:=xs) (fun i ys σ' H'=>∃(o1:Option V) (rs:List Ag),Aw3 (σ'=[o1]) (cA G3 H') (ys=rs.map V.ref∧Ce (LP (fun l=>V.int l.2.2.2) H') rs (Ls.take i))) ⟨none,[],rfl,cA.refl _,rfl,.nil⟩
   z8 (fun i ys σ H' p=>by
    obtain⟨_,rs,_,_,rfl,pr⟩:=p;have:=pr.length;rw[AM]at this;rw[Ab];omega) (fun i ys σ H' p=>by obtain⟨_,_,_,S,_⟩:=p;exact aH (S _ _ (S3 _ _ hlay))) ?_ ?_
  ·rintro i v ys σ' H' hv ⟨o1,rs,rfl,S',rfl,pr⟩;obtain⟨dd,hdd,rd'⟩:=rdl.at hv;rw[Ao]at hdd;obtain⟨l,hl,rfl⟩:=AL.mp hdd;obtain⟨f1,g1,a1,i1⟩:=l;obtain⟨q,rfl,hq0⟩:=mV rd';have hq:=S' _ _ (S3 _ _ hq0);dsimp only[aY];refine fU ?_;refine⟨_,rfl,q,_,0,_,rfl,rfl,aH hq,rfl,_,rfl,q,_,3,_,rfl,rfl,aH hq,rfl,zZ2,fun u bq=>?_⟩;have su:=aK (o:=.tup [V.str f1,V.int i1]) bq;refine⟨_,rs ++ [u],rfl,S'.trans su,by rw[Aw];rfl,?_⟩;rw[AC,hl];exact Paired.snoc (R:=LP (fun l=>V.int l.2.2.2) _) aA (Paired.mapP pr fun r l e=>su _ _ e)
  rintro ys σ' H' ⟨o1,rs,rfl,S',rfl,pr⟩ D hD;rw[am,AH]at pr;have sD:=aK (o:=.lst (rs.map V.ref)) hD;refine⟨D,rs,Ls.map fun l=>(Ac l.1,V.int l.2.2.2),rfl,aA,oP (f:=fun l=>(Ac l.1,V.int l.2.2.2)) (fun r l e=>sD _ _ e) pr,fun j hj=>?_⟩;have S4:=(S'.trans sD).trans (aK (o:=.dK (c5 [] (Ls.map fun l=>(Ac l.1,V.int l.2.2.2)))) hj);have ej:upd (upd H' D (.lst (rs.map V.ref))) j (.dK (c5 [] (Ls.map fun l=>(Ac l.1,V.int l.2.2.2)))) j=some (.dK (c5 [] (Ls.map fun l=>(Ac l.1,V.int l.2.2.2)))):=aA;have fj:G3 j=none:=eQ (S'.trans sD) hj;generalize upd (upd H' D (.lst (rs.map V.ref))) j _=Gj at S4 ej ⊢;refine⟨_,rfl,d,_,rfl,gP.k (k:=aFS) (S4 _ _ ag) (cU (by show 5≤1000;decide)),?_⟩;rw[aFX];have df:H j=none:=eQ S3 fj;have bL:j≠d:=(aJ ag fj).symm;have ca:me≠j:=aJ ab fj;have cw:h≠j:=aJ an fj;obtain⟨B,hB⟩:∃ B:WA,B=⟨o,ow,me,h,j⟩:=⟨_,rfl⟩
  rw[← hB];have S5:cA H (upd Gj d (.dK (jF sc B))):=fun b u e=>by
   rw[aF (aJ e hd)];exact S4 _ _ (S3 _ _ e)
  have bo:upd Gj d (.dK (jF sc B)) d=some (.dK (jF sc B)):=aA;have aj:upd Gj d (.dK (jF sc B)) B.me=some (.dK []):=by rw[hB];dsimp only;rw[aF (B4 dm)];exact S4 _ _ ab
  have ai:upd Gj d (.dK (jF sc B)) B.ow=some (.dT []):=by rw[hB];dsimp only;rw[aF (bT ad ag (fun z=>nomatch z))];exact S4 _ _ ad
  have be:upd Gj d (.dK (jF sc B)) B.o=some (.lst []):=by rw[hB];dsimp only;rw[aF (bT aq ag (fun z=>nomatch z))];exact S4 _ _ aq
  have bg:upd Gj d (.dK (jF sc B)) B.ho=some (.dK (ex0 Ls).hs):=by unfold ex0;rw[lJ,hB];dsimp only;rw[aF a0];exact S4 _ _ an
  have bp:upd Gj d (.dK (jF sc B)) B.ic=some (.dK (ex0 Ls).inc):=by unfold ex0;rw[kK,hB];dsimp only;rw[aF bL];exact ej
  have cf:[d,B.me,B.ho,B.ic].Nodup:=by rw[hB];simp[dm,B4 a0,B4 bL,bu,ca,cw]
  have bh:∀ x∈[d,B.o,B.ow,B.me,B.ho,B.ic],H x=none:=by
   rw[hB];simp only[Ak,Ap,or_false];rintro x (rfl | rfl | rfl | rfl | rfl | rfl) <;> assumption
  generalize upd Gj d _=G5 at S5 bo aj ai be bg bp ⊢;clear S4 ej S3 ag ab ad aq an fj S' sD hB;refine⟨_,rfl,lay,rfl,⟨_,aH (S5 _ _ hlay)⟩,?_⟩;have zL:∀ l∈Ls,1≤l.2.2.1∧l.2.2.1≤10 * sc:=fun l hl=>⟨(hok l hl).1.a1,(hok l hl).2.2⟩
  refine jG (K:=K) (xs:=xs) (fun i σ H'=>Ex3 fun(o3 o4 o5:Option V)=>∃(o6 o7:Option V),Aw3 (σ=[some (.ref lay),some (.int sc),some (.ref d),o3,o4,o5,o6,o7]) (cA H H') (WB H' d B sc (mX sc (Ls.take i)) (ex0 Ls).hs (ex0 Ls).inc)) ⟨none,none,none,none,none,rfl,S5,bo,⟨[],be,.nil⟩,ai,aj,bg,bp⟩ (fun i σ H' _ p=>by obtain⟨_,_,_,_,_,_,S,_⟩:=p;exact aH (S _ _ hlay)) ?_ ?_
  ·rintro i v σ H1 hv ⟨o3,o4,o5,o6,o7,rfl,S6,wb⟩;clear S5 bo aj ai be bg bp;obtain⟨dd,hdd,rd'⟩:=rdl.at hv;rw[Ao]at hdd;obtain⟨l,hl,rfl⟩:=AL.mp hdd;have bD:=aFZ (sc:=sc) hl;have aw:=zL l (AK hl);have bn:∀ u:Nat,(l.1,u) ∉ mX sc (Ls.take i):=fun u hm=>by
    have h1:=xF hm;rw[Gv]at h1;have hi:=(Ax.mp hl).1;have e1:(Ls.map (·.1))[i]?=some l.1:=by rw[Ao,hl];rfl
    have h2:(Gz i (Ls.map fun x=>x.1) ++ List.drop i (Ls.map fun x=>x.1)).Nodup:=by rw[BW];exact hnd
    have h3:=(Bw.mp h2).2.2 _ h1 l.1 (by
     rw[List.mem_iff_getElem?];exact⟨0,by rw[List.getElem?_drop,Nat.add_zero];exact e1⟩)
    exact h3 rfl
   have cc:(mX sc (Ls.take i)).length≤80:=by
    have:=aA8 s1 (Ls:=Ls.take i) fun l hl=>zL l (B2 hl);rw[AM]at this;omega
   generalize da:mX sc (Ls.take i)=J at wb bD bn cc;obtain⟨f1,g1,a1,i1⟩:=l;obtain⟨q,rfl,hq0⟩:=mV rd';dsimp only at hq0;have hq:=S6 _ _ hq0;dsimp only at aw bn;have c2:a1 / sc≤10:=Int.ediv_le_of_le_mul (by omega) aw.2;have dr:0≤a1 / sc:=DG (by omega) (by omega);refine⟨q,_,rfl,aH hq,rfl,_,_,rfl,_,_,rfl,_,_,rfl,_,_,rfl,rfl,_,rfl,_,rfl,_,_,rfl,rfl,⟨by omega,by omega⟩,_,rfl,by omega,by omega,?_⟩;refine p6 (n:=(a1 / sc).toNat) (fun j σ H'=>∃(o7:Option V),σ=[some (.ref lay),some (.int sc),some (.ref d),some (.str f1),some (.str g1),some (.int a1),some (.int i1),o7]∧cA H H'∧WB H' d B sc (J ++ (AU j).map fun u=>(f1,u)) (ex0 Ls).hs (ex0 Ls).inc) ⟨o7,rfl,S6,by rw[List.range_zero,CS,BM];exact wb⟩ ?_ ?_
   ·rintro j σ H2 hj ⟨o7,rfl,S7,M⟩;obtain⟨qs,p1,p2⟩:=M.o;have cy:=BB p2;rw[Ay,Ab,FW]at cy;dsimp only[aY];refine⟨_,rfl,d,_,rfl,aHq M.d (aEF _ _),.inl ⟨rfl,_,aU p1⟩,_,rfl,_,rfl,zZ2,fun t ht=>?_⟩;have st:=aK (o:=.tup [V.str f1,.int (0 + (j:Int))]) ht;refine⟨B.o,_,_,rfl,rfl,st _ _ p1,by rw[Ab];exact cU (by omega),?_⟩;have b7:t≠B.o:=(aJ p1 ht).symm;have gq:∀{G:Hp},cA H2 G→∀{b:Ag} {o:HO},H2 b=some o→G b=some o:=fun z _ _ e=>z _ _ e;have af:∀{b:Ag} {o:HO},H2 b=some o→(∀ xs,o≠.lst xs)→upd (upd H2 t (.tup [V.str f1,.int (0 + (j:Int))])) B.o (.lst (qs.map V.ref ++ [V.ref t])) b=some o:=fun{b o} e n=>by
     rw[aF (bT e p1 (n _))];exact st _ _ e
    have bd:=af M.d (fun _ z=>nomatch z);have br:=af M.ow (fun _ z=>nomatch z);have bN:=af M.me (fun _ z=>nomatch z);have bv:=af M.ho (fun _ z=>nomatch z);have bt:=af M.ic (fun _ z=>nomatch z);have bw:∀ b us,H2 b=some (.tup us)→upd (upd H2 t (.tup [V.str f1,.int (0 + (j:Int))])) B.o (.lst (qs.map V.ref ++ [V.ref t])) b=some (.tup us):=fun b us e=>af e (fun _ z=>nomatch z);have bR:upd (upd H2 t (.tup [V.str f1,.int (0 + (j:Int))])) B.o (.lst (qs.map V.ref ++ [V.ref t])) B.o=some (.lst ((qs ++ [t]).map V.ref)):=by rw[aA,Aw];rfl
    have bO:upd (upd H2 t (.tup [V.str f1,.int (0 + (j:Int))])) B.o (.lst (qs.map V.ref ++ [V.ref t])) t=some (.tup [V.str f1,.int (j:Int)]):=by rw[aF b7,aA,Et]
    have S8:cA H (upd (upd H2 t (.tup [V.str f1,.int (0 + (j:Int))])) B.o (.lst (qs.map V.ref ++ [V.ref t]))):=fun b u e=>by
     rw[aF (aJ e (bh B.o (by simp)))];exact st _ _ (S7 _ _ e)
    generalize upd (upd H2 t (.tup [V.str f1,.int (0 + (j:Int))])) B.o _=H3 at bd br bN bv bt bw bR bO S8 ⊢;refine⟨_,rfl,_,rfl,d,_,rfl,aHq bd (zU _ _),_,rfl,_,rfl,zZ2,fun t2 cr=>?_⟩;have aC:=aK (o:=.tup [V.str f1,.int (0 + (j:Int))]) cr;have cm:upd H3 t2 (.tup [V.str f1,.int (0 + (j:Int))]) t2=some (.tup (([Ac f1,Cm (j:Int)]:List Key).map kV)):=by rw[aA,Et];rfl
    have dg:(jD (J ++ (AU j).map fun u=>(f1,u)) xE).length=J.length + j:=by
     unfold jD;simp
    refine⟨B.ow,_,rfl,gP.t (k:=[Ac f1,Cm (j:Int)]) (aC _ _ br) cm (cU (by omega)),?_⟩;have bW:(f1,j) ∉ J ++ (AU j).map fun u=>(f1,u):=by
     rw[AO,not_or];refine⟨bn j,fun hm=>?_⟩;obtain⟨u,hu1,hu2⟩:=AQ.mp hm;have:=Ck.mp hu1;injection hu2 with _ hu2;omega
    rw[i5 _ (aFY (own:=xE) bW)];have bI:jD (J ++ (AU j).map fun u=>(f1,u)) xE ++ [([Ac f1,Cm (j:Int)],V.str f1)]=jD (J ++ (AU (j + 1)).map fun u=>(f1,u)) xE:=by
     rw[DB,Aw,← AX];unfold jD;rw[Aw (l₂:=List.map _ [j])];rfl
    rw[bI];have Y:∀{b:Ag} {o:HO},H3 b=some o→(∀ xs,o≠.dT xs)→upd (upd H3 t2 (.tup [V.str f1,.int (0 + (j:Int))])) B.ow (.dT (jD (J ++ (AU (j + 1)).map fun u=>(f1,u)) xE)) b=some o:=fun{b o} e n=>by
     rw[aF (bT e br (n _))];exact aC _ _ e
    refine⟨_,rfl,fun b u e=>?_,Y bd (fun _ z=>nomatch z),⟨qs ++ [t],Y bR (fun _ z=>nomatch z),?_⟩,aA,Y bN (fun _ z=>nomatch z),Y bv (fun _ z=>nomatch z),Y bt (fun _ z=>nomatch z)⟩
    ·rw[aF (aJ e (bh B.ow (by simp)))];exact aC _ _ (S8 _ _ e)
    ·have b5:J ++ (AU (j + 1)).map (fun u=>(f1,u))=(J ++ (AU j).map fun u=>(f1,u)) ++ [(f1,j)]:=by
      rw[DB,Aw,← AX];rfl
     have u9:=UAt.snoc (k:=(f1,j)) (Y bO (fun _ z=>nomatch z)) (UAt.on p2 fun q us e=>Y (bw _ _ e) (fun _ z=>nomatch z));rw[← b5]at u9;exact u9
   ·rintro σ H2 ⟨o7,rfl,S7,M⟩;refine⟨_,_,_,_,_,rfl,S7,?_⟩;rw[bD];exact M
  ·rintro σ H1 ⟨o3,o4,o5,o6,o7,rfl,S6,wb⟩;rw[am,AH]at wb;have cu:∀ k∈mX sc Ls,aP (ex0 Ls) (xE k)=true:=fun k hk=>st0.mpr (xF hk);have dh:=aA8 s1 zL;refine⟨_,rfl,k d B (mX sc Ls) xE H1 S6 bh ⟨wb.d,wb.o,wb.ow,by rw[pU];exact wb.me,wb.ho,wb.ic,by rw[pU];exact iL.nil,by rw[pU];exact Bc _,aGq hnd,by omega,s1,s2,fun z hz=>?_,cf,fun kk v hv=>?_,?_,?_,cu⟩⟩
   ·obtain⟨l,hl,rfl⟩:=AQ.mp (st0.mp hz);rw[aEL hnd l hl];unfold ex0;rw[aBU _ _ hnd l hl];obtain⟨h1,h2,h3⟩:=hok l hl;rw[En (DG (by have:=h1.a1;omega) (by omega))];exact Int.mul_ediv_cancel' h2
   ·unfold ex0 at hv;rw[lJ]at hv;rcases kQ _ _ _ _ _ _ hv with h | ⟨l,_,h2,h3⟩
    ·cases h
    ·exact⟨_,_,h3,h2⟩
   ·unfold ex0;rw[lJ];exact aAa _ _ (by simp)
   ·unfold ex0;rw[lJ];have:=mH (Ls.map fun l=>((Ac l.1:Key),V.str l.2.1)) [];rw[Ab]at this;simp at this;exact AG this (by omega)
theorem aHr{os ks:List UK}(ho:os.Nodup)(q:ks.Nodup)(h:∀ k∈ks,k∈os):(os.filter fun k=>decide (k∈ks)).length=ks.length:=by
 have:(os.filter fun k=>decide (k∈ks)).Perm ks:=by
  rw[List.perm_ext_iff_of_nodup (ho.filter _) q];intro k;rw[BD];constructor
  ·intro z;exact Ie z.2
  ·intro z;exact⟨h k z,Ic z⟩
 exact this.length_eq
theorem dI{α:Type}{f g:α→Bool}{l:List α}(h:∀ x∈l,f x=g x):(l.filter f).length=(l.filter g).length:=by
 rw[List.filter_congr h]
theorem aBW{own:UK→Str}{z:Str}:∀{os:List UK}{k:UK},k∈os→bS (jD os own) [Ac k.1,Cm (k.2:Int)] (.str z)=jD os (fun F=>if F=k then z else own F):=by
 intro os k h;unfold bS;have h1:((jD os own).any fun G=>decide (G.1=[Ac k.1,Cm (k.2:Int)]))=true:=by
  rw[BG];exact⟨([Ac k.1,Cm (k.2:Int)],.str (own k)),AQ.mpr ⟨k,h,rfl⟩,Ic rfl⟩
 rw[Ib h1];unfold jD;rw[E5];refine List.map_congr_left fun F _=>?_;show(if ([Ac F.1,Cm (F.2:Int)]:List Key)=[Ac k.1,Cm (k.2:Int)] then _ else _)=_;by_cases e:F=k
 ·rw[Ib (by rw[e])];dsimp only;rw[Ib e]
 ·rw[Ia]
  ·dsimp only;rw[Ia e]
  intro q;injection q with z1 z2;injection z2 with z2;injection z1 with z1;injection z2 with z2;exact e (FS z1 (Hr.inj z2))
structure t7(os:List UK)(sc:Int)(rem:List UK)(own:UK→Str)(S:Ex):Prop where
 cn:∀ z,aP S z=true→sc * ((os.filter fun k=>decide (k ∉ rem) && decide (own k=z)).length:Int)=S.ac z
 so:∀ k∈os,k ∉ rem→aP S (own k)=true
def oQ(S:Ex)(z h:Str)(a:Int):Ex:={ S with hs:=bS S.hs (Ac z) (.str h),ac:=lG S.ac z a }
theorem xH{S:Ex}{z h:Str}{a:Int}{y:Str}:aP (oQ S z h a) y=true↔y=z∨aP S y=true:=by
 unfold aP oQ;dsimp only;rw[dJ];by_cases e:y=z
 ·rw[Ib (by rw[e])];exact⟨fun _=>.inl e,fun _=>rfl⟩
 ·rw[Ia (fun q=>e (by injection q))];exact⟨.inr,fun q=>q.resolve_left e⟩
theorem t7.step{os ks G:List UK}{sc:Int}{own:UK→Str}{S:Ex}{z h:Str}{a:Int}(p:t7 os sc (ks ++ G) own S)(hn:(ks ++ G).Nodup)(hi:∀ k∈ks ++ G,k∈os)(ho:os.Nodup)(hz:aP S z=false)(ha:sc * (ks.length:Int)=a):t7 os sc G (fun k=>if k∈ks then z else own k) (oQ S z h a):=by
 obtain⟨Y,hr,hd⟩:=Bw.mp hn;refine⟨fun y hy=>?_,fun k O Z=>?_⟩
 ·by_cases e:y=z
  ·subst e;rw[show(oQ S y h a).ac y=a by unfold oQ lG;dsimp only;rw[Ib rfl],← ha,← aHr ho Y fun k Y=>hi k (BH _ Y)];congr 2;refine dI fun k M=>?_;by_cases F:k∈ks
   ·have:k ∉ G:=fun q=>hd k F k q rfl;rw[Ib F,Ic this,Ic rfl,Ic F];rfl
   ·rw[Ia F,decide_eq_false F];by_cases J:k∈G
    ·rw[decide_eq_false (fun q=>q J)];rfl
    ·have hs:=p.so k M (fun q=>(AO.mp q).elim F J);have:own k≠y:=fun q=>by rw[q,hz]at hs;cases hs
     rw[decide_eq_false this,D0]
  ·have aa:=(xH.mp hy).resolve_left e;rw[show(oQ S z h a).ac y=S.ac y by unfold oQ lG;dsimp only;rw[Ia e],← p.cn y aa];congr 2;refine dI fun k M=>?_;by_cases F:k∈ks
   ·rw[Ib F,decide_eq_false (show¬ z=y from fun q=>e q.symm),D0,decide_eq_false (show¬ k ∉ ks ++ G from fun q=>q (BH _ F))];rfl
   ·rw[Ia F];congr 1;by_cases J:k∈G
    ·rw[decide_eq_false (show¬ k ∉ G from fun q=>q J),decide_eq_false (show¬ k ∉ ks ++ G from fun q=>q (AN _ J))]
    ·rw[Ic J,Ic (show k ∉ ks ++ G from fun q=>(AO.mp q).elim F J)]
 ·by_cases F:k∈ks
  ·rw[Ib F];exact xH.mpr (.inl rfl)
  ·rw[Ia F];exact xH.mpr (.inr (p.so k O fun q=>(AO.mp q).elim F Z))
theorem xI{S:Ex}{z y:Str}:aP { S with hs:=bV S.hs (Ac z) } y=true↔y≠z∧aP S y=true:=by
 unfold aP;dsimp only;rw[g8];by_cases e:y=z
 ·rw[Ib (by rw[e])];exact⟨fun q=>(by cases q),fun q=>absurd e q.1⟩
 ·rw[Ia (fun q=>e (by injection q))];exact⟨fun q=>⟨e,q⟩,fun q=>q.2⟩
theorem t7.start{os:List UK}{sc:Int}{own:UK→Str}{S:Ex}{land:Str}(cn:∀ z,aP S z=true→sc * ((os.filter fun k=>decide (own k=z)).length:Int)=S.ac z)(so:∀ k∈os,aP S (own k)=true):t7 os sc (os.filter fun k=>decide (own k=land)) own { S with hs:=bV S.hs (Ac land) }:=by
 refine⟨fun z hz=>?_,fun k F hn=>?_⟩
 ·obtain⟨h1,h2⟩:=xI.mp hz;rw[← cn z h2];congr 2;refine dI fun k G=>?_;by_cases e:own k=z
  ·rw[Ic e,Ic,EM];intro q;exact h1 (by rw[← e];exact Ie (BD.mp q).2)
  ·rw[decide_eq_false e,D0]
 ·exact xI.mpr ⟨fun e=>hn (BD.mpr ⟨F,Ic e⟩),so k F⟩
theorem t7.fin{os:List UK}{sc:Int}{own:UK→Str}{S:Ex}(p:t7 os sc [] own S):(∀ z,aP S z=true→sc * ((os.filter fun k=>decide (own k=z)).length:Int)=S.ac z)∧∀ k∈os,aP S (own k)=true:=by
 refine⟨fun z hz=>?_,fun k q=>p.so k q (by simp)⟩;rw[← p.cn z hz];congr 2
theorem t8{y:Str}:∀{R:List Str}{d:List (Key×V)},(bF (R.foldl (fun d z=>bV d (Ac z)) d) (Ac y)).isSome=true↔y ∉ R∧(bF d (Ac y)).isSome=true
 | [],d=>by simp
 | z :: R,d=>by
  rw[BL,t8,g8,Ak,not_or];by_cases e:y=z
  ·rw[Ib (by rw[e])];exact⟨fun q=>(by cases q.2),fun q=>absurd e q.1.1⟩
  ·rw[Ia (fun q=>e (by injection q))];exact⟨fun q=>⟨⟨e,q.1⟩,q.2⟩,fun q=>⟨q.1.2,q.2⟩⟩
theorem pY{S:Ex}{R:List Str}{land y:Str}:aP (fV S R land) y=true↔y=land∨(y ∉ R∧aP S y=true):=by
 unfold aP fV;dsimp only;rw[dJ];by_cases e:y=land
 ·rw[Ib (by rw[e])];exact⟨fun _=>.inl e,fun _=>rfl⟩
 ·rw[Ia (fun q=>e (by injection q)),t8];exact⟨.inr,fun q=>q.resolve_left e⟩
theorem aBX{os:List UK}{own:UK→Str}{sc:Int}{ac:Str→Int}:∀{R:List Str},R.Nodup→(∀ z∈R,sc * ((os.filter fun k=>decide (own k=z)).length:Int)=ac z)→sc * ((os.filter fun k=>decide (own k∈R)).length:Int)=(R.map ac).sum
 | [],_,_=>by rw[E8.mpr (by simp)];simp
 | z :: R,hn,h=>by
  obtain⟨h1,h2⟩:=AY.mp hn;have M:=aBX h2 fun y O=>h y (An _ O);have hz:=h z Al;have e:(os.filter fun k=>decide (own k∈z :: R)).length=(os.filter fun k=>decide (own k=z)).length + (os.filter fun k=>decide (own k∈R)).length:=by
   clear M hz h
   induction os with
   | nil=>rfl
   | cons a r J=>
    simp only[BF];by_cases F:own a=z
    ·have G:own a ∉ R:=by rw[F];exact h1
     rw[Ic F,decide_eq_false G,Ic (by rw[F];exact Al)];simp only[if_true,if_false,AI,Cd];omega
    ·by_cases G:own a∈R
     ·rw[decide_eq_false F,Ic G,Ic (An _ G)];simp only[if_true,if_false,AI,Cd];omega
     ·rw[decide_eq_false F,decide_eq_false G,decide_eq_false (fun q=>(Ak.mp q).elim F G)];simp only[if_false,Cd];exact J
  rw[e,Gi,Int.mul_add,hz,M,Au,B5]
theorem aEN{os:List UK}{own:UK→Str}{sc:Int}{S:Ex}{R:List Str}{land:Str}(cn:∀ z,aP S z=true→sc * ((os.filter fun k=>decide (own k=z)).length:Int)=S.ac z)(so:∀ k∈os,aP S (own k)=true)(hn:R.Nodup)(hs:∀ z∈R,aP S z=true)(hl:land∈R∨aP S land=false):
  (∀ z,aP (fV S R land) z=true→sc * ((os.filter fun k=>decide ((if own k∈R then land else own k)=z)).length:Int)=(fV S R land).ac z)∧∀ k∈os,aP (fV S R land) (if own k∈R then land else own k)=true:=by
 refine⟨fun z hz=>?_,fun k F=>?_⟩
 ·by_cases e:z=land
  ·subst e;rw[show(fV S R z).ac z=(R.map S.ac).sum by unfold fV lG;dsimp only;rw[Ib rfl],← aBX hn fun y M=>cn y (hs y M)];congr 2;refine dI fun k J=>?_;by_cases F:own k∈R
   ·rw[Ib F,Ic rfl,Ic F]
   ·rw[Ia F,decide_eq_false F,decide_eq_false];intro q;rcases hl with hl | hl
    ·exact F (by rw[q];exact hl)
    ·have:=so k J;rw[q,hl]at this;cases this
  ·obtain⟨h1,h2⟩:=(pY.mp hz).resolve_left e;rw[show(fV S R land).ac z=S.ac z by unfold fV lG;dsimp only;rw[Ia e],← cn z h2];congr 2;refine dI fun k J=>?_;by_cases F:own k∈R
   ·rw[Ib F,decide_eq_false (show¬ land=z from fun q=>e q.symm),decide_eq_false];intro q;exact h1 (by rw[← q];exact F)
   ·rw[Ia F]
 ·by_cases G:own k∈R
  ·rw[Ib G];exact pY.mpr (.inl rfl)
  ·rw[Ia G];exact pY.mpr (.inr ⟨G,so k F⟩)
structure WH(H:Hp)(W:Ag)(B:WA)(sc:Int)(os:List UK)(own:UK→Str)(hs men inc:List (Key×V)):Prop where
 d:H W=some (.dK (jF sc B))
 o:∃ qs:List Ag,H B.o=some (.lst (qs.map V.ref))∧UAt H qs os
 ow:H B.ow=some (.dT (jD os own))
 me:H B.me=some (.dK men)
 ho:H B.ho=some (.dK hs)
 ic:H B.ic=some (.dK inc)
 ne:[W,B.me,B.ho,B.ic].Nodup
section
variable{H:Hp}{W:Ag}{B:WA}{sc:Int}{os:List UK}{own:UK→Str}{hs men inc:List (Key×V)}
theorem eG.wh{S:Ex}(h:eG H W B sc os own S):WH H W B sc os own S.hs S.men S.inc:=⟨h.d,h.o,h.ow,h.me,h.ho,h.ic,h.ne⟩
theorem WH.same{H':Hp}(h:WH H W B sc os own hs men inc)(s:cA H H'):WH H' W B sc os own hs men inc:=by
 obtain⟨qs,o1,o2⟩:=h.o;exact⟨s _ _ h.d,⟨qs,s _ _ o1,o2.on (bU s)⟩,s _ _ h.ow,s _ _ h.me,s _ _ h.ho,s _ _ h.ic,h.ne⟩
theorem WH.get(h:WH H W B sc os own hs men inc){z:Str}{v:V}(e:bF (jF sc B) (Ac z)=some v):gR H W (.str z) (some v):=aHq h.d e
theorem WH.setO(h:WH H W B sc os own hs men inc)(je:UK→Str):WH (upd H B.ow (.dT (jD os je))) W B sc os je hs men inc:=by
 obtain⟨qs,o1,o2⟩:=h.o;have k:∀{b:Ag} {o:HO},H b=some o→(∀ xs,o≠.dT xs)→upd H B.ow (.dT (jD os je)) b=some o:=fun{b o} e n=>by
  rw[aF (bT e h.ow (n _))];exact e
 exact⟨k h.d (fun _ z=>nomatch z),⟨qs,k o1 (fun _ z=>nomatch z),o2.on fun q F e=>k e (fun _ z=>nomatch z)⟩,aA,k h.me (fun _ z=>nomatch z),k h.ho (fun _ z=>nomatch z),k h.ic (fun _ z=>nomatch z),h.ne⟩
theorem WH.setD{a:Ag}{iz kvs':List (Key×V)}(h:WH H W B sc os own hs men inc)(e:H a=some (.dK iz)):upd H a (.dK kvs') B.ow=some (.dT (jD os own))∧∃ F:List Ag,upd H a (.dK kvs') B.o=some (.lst (F.map V.ref))∧UAt (upd H a (.dK kvs')) F os:=by
 obtain⟨F,o1,o2⟩:=h.o;have k:∀{b:Ag} {o:HO},H b=some o→(∀ xs,o≠.dK xs)→upd H a (.dK kvs') b=some o:=fun{b o} e' n=>by
  rw[aF (bT e' e (n _))];exact e'
 exact⟨k h.ow (fun _ z=>nomatch z),F,k o1 (fun _ z=>nomatch z),o2.on fun q G e=>k e (fun _ z=>nomatch z)⟩
theorem WH.nes(h:WH H W B sc os own hs men inc):W≠B.me∧W≠B.ho∧W≠B.ic∧B.me≠B.ho∧B.me≠B.ic∧B.ho≠B.ic:=by
 have hn:=h.ne;simp only[AY,Ak,Ap,or_false,not_or]at hn;exact⟨hn.1.1,hn.1.2.1,hn.1.2.2,hn.2.1.1,hn.2.1.2,hn.2.2.1⟩
theorem WH.setH(h:WH H W B sc os own hs men inc)(q:List (Key×V)):WH (upd H B.ho (.dK q)) W B sc os own q men inc:=by
 obtain⟨n1,n2,n3,n4,n5,n6⟩:=h.nes;obtain⟨k1,k2⟩:=h.setD (kvs':=q) h.ho;exact⟨by rw[aF n2];exact h.d,k2,k1,by rw[aF n4];exact h.me,aA,by rw[aF n6.symm];exact h.ic,h.ne⟩
theorem WH.setM(h:WH H W B sc os own hs men inc)(q:List (Key×V)):WH (upd H B.me (.dK q)) W B sc os own hs q inc:=by
 obtain⟨n1,n2,n3,n4,n5,n6⟩:=h.nes;obtain⟨k1,k2⟩:=h.setD (kvs':=q) h.me;exact⟨by rw[aF n1];exact h.d,k2,k1,aA,by rw[aF n4.symm];exact h.ho,by rw[aF n5.symm];exact h.ic,h.ne⟩
theorem WH.setI(h:WH H W B sc os own hs men inc)(q:List (Key×V)):WH (upd H B.ic (.dK q)) W B sc os own hs men q:=by
 obtain⟨n1,n2,n3,n4,n5,n6⟩:=h.nes;obtain⟨k1,k2⟩:=h.setD (kvs':=q) h.ic;exact⟨by rw[aF n3];exact h.d,k2,k1,by rw[aF n5];exact h.me,by rw[aF n6];exact h.ho,aA,h.ne⟩
end
theorem aBY{hs:List (Key×V)}{z y:Str}{v:V}:(bF (bS hs (Ac z) v) (Ac y)).isSome=true↔y=z∨(bF hs (Ac y)).isSome=true:=by
 rw[dJ];by_cases e:y=z
 ·rw[Ib (by rw[e])];exact⟨fun _=>.inl e,fun _=>rfl⟩
 ·rw[Ia (fun q=>e (by injection q))];exact⟨.inr,fun q=>q.resolve_left e⟩
def oR(hs:List (Key×V)):Prop:=∀ k v,bF hs k=some v→∃ h z,v=.str h∧k=Ac z
theorem oR.put{hs:List (Key×V)}{z h:Str}(o:oR hs):oR (bS hs (Ac z) (.str h)):=fun k v e=>by
 rw[dJ]at e;by_cases q:k=Ac z
 ·rw[Ib q]at e;cases e;exact⟨h,z,rfl,q⟩
 ·rw[Ia q]at e;exact o k v e
theorem oR.drop{hs:List (Key×V)}{z:Str}(o:oR hs):oR (bV hs (Ac z)):=fun k v e=>by
 rw[g8]at e;by_cases q:k=Ac z
 ·rw[Ib q]at e;cases e
 ·rw[Ia q]at e;exact o k v e
theorem aCS{S:Ex}{land:Str}{R:List P3}(h:cO S land R="done"):aP S land=true∧(R.map fun p=>p.2.2).sum=S.ac land∧∀ p∈R,p.1=land∨aP S p.1=false:=by
 unfold cO at h;by_cases h1:aP S land=false
 ·rw[Ib h1]at h;exact absurd h (by decide)
 rw[Ia h1]at h;by_cases h2:(R.map fun p=>p.2.2).sum≠S.ac land
 ·rw[Ib h2]at h;exact absurd h (by decide)
 rw[Ia h2]at h;by_cases F:(R.any fun p=>decide (p.1≠land) && aP S p.1)=true
 ·rw[Ib F]at h;exact absurd h (by decide)
 refine⟨by simpa using h1,Decidable.not_not.mp h2,fun p G=>?_⟩;by_cases e:p.1=land
 ·exact .inl e
 ·refine .inr ?_;cases q:aP S p.1 with
  | false=>rfl
  | true=>exact absurd (BG.mpr ⟨p,G,by rw[Ic e,q];rfl⟩) F
theorem nJ(iz:List (Key×V))(k:Key):(bV iz k).length≤iz.length:=by
 induction iz with
 | nil=>exact Am _
 | cons p r q=>
  by_cases e:p.1=k
  ·rw[iU e,AI];omega
  ·rw[iV e,AI,AI];omega
theorem aAb{R:List P3}(h:(R.map pD).all qZ=true){p:P3}(q:p∈R):1≤p.2.2∧p.2.2≤10000000:=by
 have:=A2.mp h (pD p) (Bg q);unfold pD qZ aA1 at this;simp only[Bu,decide_eq_true_eq]at this;exact this.2
theorem aBZ:∀{R:List P3},(∀ p∈R,0≤p.2.2)→0≤(R.map fun p=>p.2.2).sum
 | [],_=>CV _
 | p :: R,h=>by
  rw[Au,B5];have h1:=h p (by simp);have h2:=aBZ (R:=R) fun q F=>h q (by simp[F]);omega
theorem aB0{y:Str}:∀{R:List P3}{S:Ex},aP (R.foldl (fun S p=>oQ S p.1 p.2.1 p.2.2) S) y=true↔y∈R.map (·.1)∨aP S y=true
 | [],S=>by simp
 | p :: R,S=>by
  rw[BL,aB0,xH,Au,Ak];constructor
  ·rintro(h | h | h)
   ·exact .inl (.inr h)
   ·exact .inl (.inl h)
   ·exact .inr h
  ·rintro((h | h) | h)
   ·exact .inr (.inl h)
   ·exact .inl h
   ·exact .inr (.inr h)
theorem xJ{S:Ex}{land y:Str}{R:List P3}:aP (fG S land R) y=true↔y∈R.map (·.1)∨(y≠land∧aP S y=true):=by
 refine Hs (aB0 (R:=R)) ?_;rw[xI]
theorem aEO{α:Type}{l:List α}(h:l.Nodup){i j:Nat}{x:α}(a:l[i]?=some x)(b:l[j]?=some x):i=j:=by
 obtain⟨h1,e1⟩:=Ax.mp a;obtain⟨h2,e2⟩:=Ax.mp b;have q:=List.pairwise_iff_getElem.mp (Ey.mp h);rcases Nat.lt_trichotomy i j with z | z | z
 ·exact absurd (e1.trans e2.symm) (q i j h1 h2 z)
 ·exact z
 ·exact absurd (e2.trans e1.symm) (q j i h2 h1 z)
theorem aEP{R:List P3}(h:(R.map (·.1)).Nodup){i:Nat}{p:P3}(G:R[i]?=some p):p.1 ∉ (R.take i).map (·.1):=fun hm=>by
 obtain⟨q,hq,e⟩:=AQ.mp hm;obtain⟨j,hj⟩:=Ct hq;rw[Cq]at hj;by_cases F:j < i
 ·rw[Ib F]at hj;have:=aEO h (i:=j) (j:=i) (x:=p.1) (by rw[Ao,hj,← e];rfl) (by rw[Ao,G];rfl);omega
 ·rw[Ia F]at hj;cases hj
theorem rB{α β:Type}{R:α→β→Prop}:∀{n:Nat}{as:List α}{bs:List β},Ce R as bs→Ce R (as.drop n) (bs.drop n)
 | 0,_,_,h=>h
 | _ + 1,_,_,.nil=>.nil
 | n + 1,_,_,.cons _ t=>rB (n:=n) t
theorem uA{S:Ex}{land:Str}:∀{R:List P3},(fG S land R).men=S.men:=by
 intro R;have:∀(R:List P3) (S:Ex),(R.foldl (fun S p=>oQ S p.1 p.2.1 p.2.2) S).men=S.men:=by
  intro R
  induction R with
  | nil=>intro S;rfl
  | cons p R q=>intro S;rw[BL,q];rfl
 exact this R _
theorem mZ{S:Ex}{land:Str}:∀{R:List P3},(fG S land R).inc=S.inc:=by
 intro R;have:∀(R:List P3) (S:Ex),(R.foldl (fun S p=>oQ S p.1 p.2.1 p.2.2) S).inc=S.inc:=by
  intro R
  induction R with
  | nil=>intro S;rfl
  | cons p R q=>intro S;rw[BL,q];rfl
 exact this R _
theorem aF0{S:Ex}{land:Str}{R:List P3}(h:oR S.hs):oR (fG S land R).hs:=by
 have:∀(R:List P3) (S:Ex),oR S.hs→oR (R.foldl (fun S p=>oQ S p.1 p.2.1 p.2.2) S).hs:=by
  intro R
  induction R with
  | nil=>intro S h;exact h
  | cons p R q=>intro S h;exact q _ h.put
 exact this R _ h.drop
theorem aF1{S:Ex}{land:Str}{R:List P3}(h:(S.hs.map (·.1)).Nodup):((fG S land R).hs.map (·.1)).Nodup:=by
 have:∀(R:List P3) (S:Ex),(S.hs.map (·.1)).Nodup→((R.foldl (fun S p=>oQ S p.1 p.2.1 p.2.2) S).hs.map (·.1)).Nodup:=by
  intro R
  induction R with
  | nil=>intro S h;exact h
  | cons p R q=>intro S h;exact q _ (lF _ h)
 exact this R _ (iD h)
theorem v5{S:Ex}{R:List Str}{land:Str}(h:cK S R land="done"):(∀ z∈R,aP S z=true)∧(land∈R∨aP S land=false):=by
 unfold cK at h;by_cases h1:R.all (aP S)=false
 ·rw[Ib h1]at h;exact absurd h (by decide)
 rw[Ia h1]at h;by_cases h2:(R.any fun z=>decide (bF S.hs (Ac z)≠bF S.hs (Ac (R.headD ""))))=true
 ·rw[Ib h2]at h;exact absurd h (by decide)
 rw[Ia h2]at h;by_cases F:(!decide (land∈R) && aP S land)=true
 ·rw[Ib F]at h;exact absurd h (by decide)
 have ha:R.all (aP S)=true:=by simpa using h1
 refine⟨A2.mp ha,?_⟩;by_cases e:land∈R
 ·exact .inl e
 ·refine .inr ?_;cases q:aP S land with
  | false=>rfl
  | true=>exact absurd (by rw[decide_eq_false e,q];rfl) F
theorem aCT{R:List Str}(h:R.Nodup):R.Nodup:=h
theorem qM:∀(R:List Str) (d:List (Key×V)),(R.foldl (fun d z=>bV d (Ac z)) d).length≤d.length
 | [],_=>Am _
 | z :: R,d=>AG (qM R _) (nJ _ _)
theorem aAc:∀{R:List Str}{d:List (Key×V)},oR d→oR (R.foldl (fun d z=>bV d (Ac z)) d)
 | [],_,h=>h
 | z :: R,d,h=>aAc (R:=R) h.drop
theorem aAd:∀{R:List Str}{d:List (Key×V)},(d.map (·.1)).Nodup→((R.foldl (fun d z=>bV d (Ac z)) d).map (·.1)).Nodup
 | [],_,h=>h
 | z :: R,d,h=>aAd (R:=R) (iD h)
def RSc(sc:Int)(r:cV):Prop:=∀(land:Str) (R:List P3),r.word="part"→r.ds=[.str land,.tuple (R.map pD)]→(∀ p∈R,sc ∣ p.2.2)∨¬ sc ∣ (R.map fun p=>p.2.2).sum
inductive aEQ(vs:List V)(H:Hp)(Q:VK)(u3_:XK):Prop
 | mk (W:Ag) (B:WA) (sc:Int) (os:List UK) (own:UK→Str) (S S':Ex) (x:V) (r:cV) (ws:List Str) (q0:vs=[.ref W,x]) (q1:eG H W B sc os own S) (q2:RdV false H x r.d) (q3:r.Ok ws) (q4:RSc sc r) (q5:f8 S r.word r.ds "done" S') (q6:S'.men.length≤1000) (q7:S'.hs.length≤1000) (q8:S.inc.length≤1000) (q9:∀ je H',cQ [B.ow,B.me,B.ho,B.ic] H H'→eG H' W B sc os je S'→Q .non H'):aEQ vs H Q u3_
def aHs:Sp:=fun vs H Q u3_=>aEQ vs H Q u3_
theorem aIm:cC ["_law_world_here","_law_row","_law_stand","_law_units_here","_law_land","_law_house","_law_acres","_law_key"] ["_law_world_here","_law_row"] (aO sDo):=⟨rfl,rfl,rfl,by decide,rfl,by decide,by decide⟩
theorem aIo{f:Ag}{fd:A3}(F:Fun K "_law_do" "_law_do" sDo f fd)
  (GU:Cl P w K mg base 1 "_law_units" ["_law_world_here","_law_land"] rO)
  :cY P w K mg base CX0 2 f fd ["_law_world_here","_law_row"] aHs:=by
 refine F.ok aIm (fun vs H Q E h=>?_) (fun eq A outer s H vs Q E hr h=>?_)
 ·obtain⟨W,B,sc,os,own,S,S2,x,r,ws,rfl,_⟩:=h;rfl
 ·obtain⟨W,B,sc,os,own,S,S2,x,r,ws,rfl,wl,rdv,ok,rsc,stp,hm1,hh1,hi0,k⟩:=h;have hu:=d8 hr;have nd:=aIm.nd;refine⟨_,(aB (aS (i:=2) nd rfl (Av rfl) (bG hu (pv 0) aN Ig))
   (aB (cB (aX c3 (aR aW (pv 1) aD Ig) aN (bH _)) (aB (aS (i:=3) nd rfl (Av rfl) (cG GU hr (aG (pv 0) (aG (aR aW (pv 1) aD Ig) aE))))
    (aB (dC (j7 (pv 2) (aR aW (pv 1) aD Ig) ⟨rfl,rfl,rfl,rfl⟩))
    (aM (fT Be rfl (dS (aR aW (pv 1) aD Ig)) (g:=xR K 3 (eV (aY 4) (eV (aY 5) (eV (aY 6) xQ)))) (iX rfl (b9 (aZ (i:=4) nd rfl (Av rfl)) (b9 (aZ (i:=5) nd rfl (Av rfl)) (b9 (aZ (i:=6) nd rfl (Av rfl)) gM))))
    (aB (c8 hu (pv 2) (pv 4) (pv 5) rfl)
     (aB (fT Be rfl (iP (e8 m8 (pv 3) gN (gO (bC m5 (pv 6) (bG hu (pv 0) aN Ig))))) (g:=aY 7) (aZ (i:=7) nd rfl (Av rfl))
     (aM (c8 hu (bG hu (pv 0) aN Ig) (pv 7) (pv 4) rfl)))
     (aM (aS (i:=3) nd rfl (Av rfl) (e8 m8 (pv 3) (gO (bC m5 (pv 6) (bG hu (pv 0) aN Ig))) gN))))))))) bB)
   (aB (cB (aX c3 (aR aW (pv 1) aD Ig) aN (bH _)) (aB (aS (i:=5) nd rfl (Av rfl) (bG hu (pv 2) (aR aW (aR aW (pv 1) aD Ig) aD Ig) Ig))
    (aB (fT Be rfl (iP (bG hu (pv 0) aN Ig)) (g:=aY 7) (aZ (i:=7) nd rfl (Av rfl))
    (aM (cB (aX gJ (bG hu (bG hu (pv 0) aN Ig) (pv 7) Ig) (aR aW (pv 1) aD Ig) (by with_unfolding_all rfl)) (aM (c8 hu (bG hu (pv 0) aN Ig) (pv 7) (aR aW (pv 1) aD Ig) rfl)) bB)))
    (aB (fT Be rfl (dS (aR aW (pv 1) aD Ig)) (g:=aY 4) (aZ (i:=4) nd rfl (Av rfl))
    (aM (dC (j7 (pv 2) (pv 4) ⟨rfl,rfl,rfl,rfl⟩))))
    (aM (c8 hu (pv 2) (aR aW (pv 1) aD Ig) (pv 5) rfl))))) bB)
   (aB (cB (aX c3 (aR aW (pv 1) aD Ig) aN (bH _)) (aM (c8 hu (pv 2) (aR aW (pv 1) aD Ig) (aR aW (pv 1) aD Ig) rfl)) bB)
   (aB (cB (aX c3 (aR aW (pv 1) aD Ig) aN (bH _)) (aM (c8 hu (bG hu (pv 0) aN Ig) (aR aW (pv 1) aD Ig) (aR aW (pv 1) aD Ig) rfl)) bB)
   (aB (cB (aX c3 (aR aW (pv 1) aD Ig) aN (bH _)) (aM (c8 hu (bG hu (pv 0) aN Ig) (aR aW (pv 1) aD Ig) (aR aW (pv 1) aD Ig) rfl)) bB)
   (aM (cB (aX c3 (aR aW (pv 1) aD Ig) aN (bH _)) (aM (dC (j7 (bG hu (pv 0) aN Ig) (aR aW (pv 1) aD Ig) ⟨rfl,rfl,rfl,rfl⟩))) bB)))))))),?_⟩
  refine aGp fun T hT=>?_;obtain⟨t,b8,rfl,ht,hrest⟩:=cV.Ok.tup (fs:=ws) rdv;have rs:=ok.rs;obtain⟨word,name,day,ds⟩:=r;dsimp only at rs hrest ht k stp;have wh:=wl.wh;have dj:S.inc.length < sizeLine:=cU hi0;have z3:S.hs.length < sizeLine:=cU wl.hl;cases rs with
  | @part land R hl an h2 h6 aC=>
   obtain⟨q1,q2⟩:=rd2 hrest;cases q1;cases q2 with
   | @tup tp us _ ao dk bh=>
   have bq:=bh.len;rw[Ab]at bq;obtain⟨e1,Z⟩:=stp.fn (.part (land:=land) (R:=R));rw[← e1,Ib rfl]at Z;subst Z;obtain⟨aL,hsum,hnm⟩:=aCS e1.symm;have dV:∀ p∈R,sc ∣ p.2.2:=by
    rcases rsc land R rfl rfl with h | h
    ·exact h
    ·exact absurd ⟨_,by rw[hsum];exact(wl.cn land aL).symm⟩ h
   have b3:=aL;unfold aP at b3;obtain⟨v,hv⟩:=A7.mp b3;subst hT;refine⟨_,rfl,W,_,rfl,wl.get (fH _ _),_,rfl,t,_,0,_,rfl,rfl,aH ht,rfl,rfl,_,rfl,yW ?_⟩;refine⟨_,rfl,_,rfl,t,_,3,_,rfl,rfl,aH ht,rfl,W,B,sc,os,own,S,land,rfl,wl,fun L rs H1 hL S1 cy hU=>?_⟩;have aa:=wh.same S1;refine⟨_,rfl,B.ho,rfl,.inl ⟨_,.inl aa.ho⟩,_,rfl,t,_,3,_,rfl,rfl,aH (S1 _ _ ht),rfl,_,Ac land,v,aa.ho,rfl,hv,?_⟩;have ag:=aa.setH (bV S.hs (Ac land));have aj:cQ [B.ow,B.me,B.ho,B.ic] H (upd H1 B.ho (.dK (bV S.hs (Ac land)))):=(dE S1).trans (cR (by simp));have b5:upd H1 B.ho (.dK (bV S.hs (Ac land))) L=some (.lst (rs.map V.ref)):=by rw[aF (bT cy aa.ho (fun z=>nomatch z))];exact cy
   have cr:UAt (upd H1 B.ho (.dK (bV S.hs (Ac land)))) rs (os.filter fun k=>decide (own k=land)):=hU.on fun b us e=>by rw[aF (bT e aa.ho (fun z=>nomatch z))];exact e
   generalize upd H1 B.ho _=H2 at ag aj b5 cr ⊢;have tk:∀{G:Hp} {b:Ag} {us:List V},cQ [B.ow,B.me,B.ho,B.ic] H G→H b=some (.tup us)→G b=some (.tup us):=fun{G b us} kx e=>kx b _ (fun z=>by
    simp only[Ak,Ap,or_false]at z;rcases z with z | z | z | z <;> rw[z]at e
    ·rw[wl.ow]at e;cases e
    ·rw[wl.me]at e;cases e
    ·rw[wl.ho]at e;cases e
    ·rw[wl.ic]at e;cases e) e
   refine⟨_,rfl,t,_,4,_,rfl,rfl,aH (tk aj ht),rfl,tp,rfl,⟨_,aH (tk aj ao)⟩,?_⟩;have p0:=t7.start (land:=land) wl.cn wl.so;have cq:(os.filter fun k=>decide (own k=land)).Nodup:=wl.nd.filter _;have b4:∀ k∈os.filter (fun k=>decide (own k=land)),k∈os:=fun k hk=>(BD.mp hk).1;have dc:=wl.cn land aL;have s1:=wl.s1;refine jG (K:=K) (xs:=us) (fun i σ H'=>Ex3 fun(L:Ag) (qs:List Ag) (J:List UK)=>Ex3 fun(je:UK→Str) (Si:Ex) (o4:Option V)=>Ex3 fun(o5 o6 o7:Option V)=>Aw6 (σ=[some (.ref W),some (.ref t),some (.ref B.ho),some (.ref L),o4,o5,o6,o7]) (cQ [B.ow,B.me,B.ho,B.ic] H H') (WH H' W B sc os je Si.hs S.men S.inc) (H' L=some (.lst (qs.map V.ref))) (UAt H' qs J) (Aw6 (t7 os sc J je Si) (fG S land (R.take i)=Si) J.Nodup ((∀ k∈J,k∈os)) (sc * (J.length:Int)=((R.drop i).map fun p=>p.2.2).sum) (Si.hs.length≤1000 + i))) ⟨L,rs,_,own,_,none,none,none,none,rfl,aj,ag,b5,cr,p0,rfl,cq,b4,by rw[dc,DX,hsum],AG (nJ _ _) wl.hl⟩ (fun i σ H' _ p=>by obtain⟨_,_,_,_,_,_,_,_,_,_,kx,_⟩:=p;exact aH (tk kx ao)) ?_ ?_
   ·rintro i v σ H3 dw ⟨L3,qs,J,af,Si,o4,o5,o6,o7,rfl,ak,O,bv,cz,p3,au,ay,aq,bb,cs⟩;obtain⟨p,q,hp,rfl,hq⟩:=jB bh dw;have ed:i < R.length:=(Ax.mp hp).1;have bO:=AK hp;obtain⟨n,hn⟩:=dV p bO;refine⟨q,_,rfl,aH (tk ak hq),rfl,_,_,rfl,_,_,rfl,_,_,rfl,rfl,_,rfl,_,rfl,_,rfl,B.ho,_,rfl,gP.k (k:=Ac p.1) O.ho (BS cs (by rw[B0];omega)),?_⟩;have bE:=O.setH (bS Si.hs (Ac p.1) (.str p.2.1));have b1:cQ [B.ow,B.me,B.ho,B.ic] H (upd H3 B.ho (.dK (bS Si.hs (Ac p.1) (.str p.2.1)))):=ak.trans (cR (by simp));have bz:upd H3 B.ho (.dK (bS Si.hs (Ac p.1) (.str p.2.1))) L3=some (.lst (qs.map V.ref)):=by rw[aF (bT bv O.ho (fun z=>nomatch z))];exact bv
    have bx:UAt (upd H3 B.ho (.dK (bS Si.hs (Ac p.1) (.str p.2.1)))) qs J:=cz.on fun b us e=>by rw[aF (bT e O.ho (fun z=>nomatch z))];exact e
    generalize upd H3 B.ho _=H4 at bE b1 bz bx ⊢;have aI:p.2.2 / sc=n:=by rw[hn,Int.mul_ediv_cancel_left _ (by omega)]
    refine⟨_,rfl,_,rfl,?_⟩;have ek:=aAb aC bO;obtain⟨m,rfl⟩:∃ m:Nat,n=m:=by
     have:0≤n:=by
      rw[← aI];exact DG (by omega) (by omega)
     exact⟨n.toNat,by omega⟩
    have br:R.drop i=p :: R.drop (i + 1):=by
     obtain⟨h1,h2⟩:=Ax.mp hp;rw[EF h1,h2]
    have ea:0≤((R.drop (i + 1)).map fun p=>p.2.2).sum:=aBZ fun q hq=>by
     have:=aAb aC (CQ hq);omega
    rw[br,Au,B5,hn]at bb;have dg:sc * ((J.length:Int) - m)=((R.drop (i + 1)).map fun p=>p.2.2).sum:=by
     rw[Int.mul_sub];omega
    have dt:m≤J.length:=by
     rcases Nat.lt_or_ge J.length m with z | z
     ·exfalso;have:sc * ((J.length:Int) - m)≤sc * (-1):=Int.mul_le_mul_of_nonneg_left (by omega) (by omega);omega
     ·exact z
    have el:=bx.length;have cL:J.length≤80:=AG (DM ay aq) wl.ol;refine⟨_,rfl,W,_,rfl,bE.get (aBQ _ _),_,_,rfl,rfl,⟨by omega,by have:=wl.s2;omega⟩,_,rfl,L3,_,rfl,aU bz,fun D hD=>?_⟩;rw[aI,wM (α:=Unit),← Gv];have sD:=aK (o:=.lst ((qs.take m).map V.ref)) hD;have bY:=bE.same sD;have cg:=b1.same sD;have cm:=sD _ _ bz;have b2:=bx.on (bU sD);have bw:upd H4 D (.lst ((qs.take m).map V.ref)) D=some (.lst ((qs.take m).map V.ref)):=aA;generalize upd H4 D _=H5 at bY cg cm b2 bw ⊢;refine⟨D,rfl,⟨_,aU bw⟩,?_⟩;refine lT (K:=K) (xs:=(qs.take m).map V.ref) (fun j σ H'=>∃(o7:Option V),Aw6 (σ=[some (.ref W),some (.ref t),some (.ref B.ho),some (.ref L3),some (.str p.1),some (.str p.2.1),some (.int p.2.2),o7]) (cQ [B.ow,B.me,B.ho,B.ic] H H') (WH H' W B sc os (fun k=>if k∈(J.take m).take j then p.1 else af k) (bS Si.hs (Ac p.1) (.str p.2.1)) S.men S.inc) (H' L3=some (.lst (qs.map V.ref))) (H' D=some (.lst ((qs.take m).map V.ref))) (UAt H' qs J)) ⟨_,rfl,cg,by simp only[List.take_zero,Ap,if_false];exact bY,cm,bw,b2⟩ (fun i σ H' _ p=>by obtain⟨_,_,_,_,_,e,_⟩:=p;exact aU e) ?_ ?_
    ·rintro j v σ H6 cc ⟨o7,rfl,bN,al,bI,ca,ba⟩;rw[Ao]at cc;obtain⟨q6,hq6,rfl⟩:=AL.mp cc;rw[Cq]at hq6;by_cases bu:j < m
     ·rw[Ib bu]at hq6;have ci:j < J.length:=by omega
      have ar:J[j]?=some J[j]:=Aj ci;have be:=Paired.at ba hq6 ar;have bi:J[j]∈os:=aq _ (BO ci);dsimp only[aY];refine⟨_,rfl,_,rfl,W,_,rfl,al.get (zU _ _),_,rfl,B.ow,_,rfl,gP.t (k:=[Ac J[j].1,Cm (J[j].2:Int)]) al.ow be (by unfold jD;rw[Ab];exact cU (AG wl.ol (by decide))),?_⟩;rw[aBW bi];have aw:(fun k'=>if k'=J[j] then p.1 else(fun k=>if k∈(J.take m).take j then p.1 else af k) k')=fun k=>if k∈(J.take m).take (j + 1) then p.1 else af k:=by
       funext k';dsimp only;have et:(J.take m).take (j + 1)=(J.take m).take j ++ [J[j]]:=by
        rw[AC,Cq,Ib bu,ar];rfl
       rw[et];by_cases e1:k'=J[j]
       ·rw[Ib e1,Ib (by rw[e1];simp)]
       ·rw[Ia e1];by_cases Z:k'∈(J.take m).take j
        ·rw[Ib Z,Ib (BH _ Z)]
        ·rw[Ia Z,Ia (fun z=>(AO.mp z).elim Z fun z=>e1 (AE.mp z))]
      rw[aw];have kO:∀{b:Ag} {o:HO},H6 b=some o→(∀ xs,o≠.dT xs)→upd H6 B.ow (.dT (jD os fun k=>if k∈(J.take m).take (j + 1) then p.1 else af k)) b=some o:=fun{b o} e n=>by
       rw[aF (bT e al.ow (n _))];exact e
      exact⟨_,rfl,bN.trans (cR (by simp)),al.setO _,kO bI (fun _ z=>nomatch z),kO ca (fun _ z=>nomatch z),ba.on fun b us e=>kO e (fun _ z=>nomatch z)⟩
     ·rw[Ia bu]at hq6;cases hq6
    ·rintro σ H6 ⟨o7,rfl,bN,al,bI,ca,ba⟩;have cv:((qs.take m).map V.ref).length=m:=by rw[Ab,AM];omega
     rw[cv,Bk (by rw[AM];omega)]at al;refine⟨_,rfl,_,rfl,_,rfl,W,_,rfl,al.get (aBQ _ _),_,_,rfl,rfl,⟨by omega,by have:=wl.s2;omega⟩,_,rfl,L3,_,rfl,aU bI,fun D2 dh=>?_⟩;rw[aI,aDL (α:=Unit),← List.map_drop];have bt:=aK (o:=.lst ((qs.drop m).map V.ref)) dh;have cI:(J.take m ++ J.drop m).Nodup:=by rw[BW];exact ay
     have cf:∀ k∈J.take m ++ J.drop m,k∈os:=by rw[BW];exact aq
     have df:t7 os sc (J.take m ++ J.drop m) af Si:=by rw[BW];exact p3
     have bW:aP Si p.1=false:=by
      cases hq:aP Si p.1 with
      | false=>rfl
      | true=>
       rw[← au]at hq;rcases xJ.mp hq with z | ⟨z1,z2⟩
       ·exact absurd z (aEP an hp)
       ·rcases hnm p bO with z | z
        ·exact absurd z z1
        ·rw[z]at z2;cases z2
     have pn:=t7.step (h:=p.2.1) df cI cf wl.nd bW (show sc * (((J.take m).length:Nat):Int)=p.2.2 by rw[AM,Ek dt,hn]);have dr:UAt H6 (qs.drop m) (J.drop m):=rB ba;refine⟨D2,qs.drop m,J.drop m,_,_,_,_,_,_,rfl,bN.same bt,al.same bt,aA,dr.on (bU bt),pn,?_,(Bw.mp cI).2.1,fun k hk=>cf k (AN _ hk),?_,?_⟩
     ·unfold fG at au ⊢;rw[AC,hp,Dd,au];rfl
     ·rw[B6,← dg];congr 1;omega
     ·show(bS Si.hs (Ac p.1) (V.str p.2.1)).length≤_;have:=cD Si.hs (Ac p.1) (V.str p.2.1);omega
   ·rintro σ H3 ⟨L3,qs,J,af,Si,o4,o5,o6,o7,rfl,ak,O,bv,cz,p3,au,ay,aq,bb,cs⟩;rw[bq,AH]at au;rw[bq,List.drop_length]at bb;have du:J=[]:=by
     have:sc * (J.length:Int)=0:=bb;rcases Int.mul_eq_zero.mp this with z | z
     ·omega
     ·exact List.length_eq_zero_iff.mp (by omega)
    subst du au;obtain⟨c1,c2⟩:=p3.fin;have ad:=tk ak ht
    iterate 5 refine⟨_,rfl,t,_,0,_,rfl,rfl,aH ad,rfl,rfl,_,rfl,nW (by decide) ?_⟩
    exact k af H3 ak ⟨O.d,O.o,O.ow,by rw[uA];exact O.me,O.ho,by rw[mZ];exact O.ic,by rw[uA];exact wl.ac,hm1,wl.nd,wl.ol,wl.s1,wl.s2,c1,wl.ne,aF0 wl.hv,aF1 wl.ks,hh1,c2⟩
  | @join land R hl an h2 h6 aC=>
   obtain⟨q1,q2⟩:=rd2 hrest;cases q2;cases q1 with
   | @tup tp us _ ao dk bh=>
   obtain rfl:=nF bh;obtain⟨e1,Z⟩:=stp.fn (.join (land:=land) (R:=R));rw[← e1,Ib rfl]at Z;subst Z;obtain⟨hall',hlR⟩:=v5 e1.symm;have bo:=aCT an;obtain⟨z0,R',eR⟩:∃ z0 R',R=z0 :: R':=by
    cases R with
    | nil=>simp at h2
    | cons z0 R'=>exact⟨z0,R',rfl⟩
   obtain⟨v0,hv0⟩:=A7.mp (show(bF S.hs (Ac z0)).isSome=true from hall' z0 (by rw[eR];exact Al));obtain⟨h0,_,rfl,_⟩:=wl.hv _ _ hv0;have tk:∀{G:Hp} {b:Ag} {us:List V},cQ [B.ow,B.me,B.ho,B.ic] H G→H b=some (.tup us)→G b=some (.tup us):=fun{G b us} kx e=>kx b _ (fun z=>by
    simp only[Ak,Ap,or_false]at z;rcases z with z | z | z | z <;> rw[z]at e
    ·rw[wl.ow]at e;cases e
    ·rw[wl.me]at e;cases e
    ·rw[wl.ho]at e;cases e
    ·rw[wl.ic]at e;cases e) e
   subst hT;refine⟨_,rfl,W,_,rfl,wl.get (fH _ _),_,rfl,t,_,0,_,rfl,rfl,aH ht,rfl,rfl,_,rfl,nW (by decide) ?_⟩;refine⟨_,rfl,t,_,0,_,rfl,rfl,aH ht,rfl,rfl,_,rfl,yW ?_⟩;refine⟨_,rfl,_,rfl,t,_,3,_,rfl,rfl,aH ht,rfl,tp,_,0,.str z0,rfl,rfl,aH ao,f9 (j:=0) (by rw[eR];rfl),B.ho,_,rfl,.inl ⟨S.hs,Ac z0,.inl wl.ho,rfl,hv0.symm⟩,?_⟩;obtain⟨qs,o1,o2⟩:=wl.o;have cb:=BB o2;refine⟨_,rfl,W,_,rfl,wl.get (aEF _ _),B.o,rfl,⟨_,aU o1⟩,?_⟩;refine lT (K:=K) (xs:=qs.map V.ref) (fun j σ H'=>∃(o7:Option V),Aw3 (σ=[some (.ref W),some (.ref t),some (.ref B.ho),none,none,some (.str h0),none,o7]) (cQ [B.ow,B.me,B.ho,B.ic] H H') (WH H' W B sc os (fun k=>if k∈os.take j∧own k∈R then land else own k) S.hs S.men S.inc∧H' B.o=some (.lst (qs.map V.ref)))) ⟨none,rfl,cQ.refl H,by simp only[List.take_zero,Ap,false_and,if_false];exact wh,o1⟩ (fun i σ H' _ p=>by obtain⟨_,_,_,_,e⟩:=p;exact aU e) ?_ ?_
   ·rintro j v σ H1 b6 ⟨o7,rfl,ah,aa,bg⟩;rw[Ao]at b6;obtain⟨q,hq,rfl⟩:=AL.mp b6;have hj:j < os.length:=by rw[← cb];exact(Ax.mp hq).1
    have ar:os[j]?=some os[j]:=Aj hj;have b7:=Paired.at o2 hq ar;have be:=tk ah b7;have bi:os[j]∈os:=BO hj;have cx:os[j] ∉ os.take j:=fun z=>by
     obtain⟨i,hi⟩:=Ct z;rw[Cq]at hi;by_cases a0:i < j
     ·rw[Ib a0]at hi;exact absurd (aEO wl.nd hi ar) (by omega)
     ·rw[Ia a0]at hi;cases hi
    have hD:gR H1 B.ow (.ref q) (some (.str (own os[j]))):=by
     have:=gR.t (k:=[Ac os[j].1,Cm (os[j].2:Int)]) aa.ow be;rw[xD bi,Ia (fun z=>cx z.1)]at this;exact this
    dsimp only[aY];refine⟨_,rfl,W,_,rfl,aa.get (zU _ _),_,rfl,B.ow,_,rfl,hD,_,rfl,t,_,3,_,rfl,rfl,aH (tk ah ht),rfl,tp,_,rfl,.inr (aH (tk ah ao)),rfl,hJ _,_,rfl,?_⟩;show if (if false=true then !inV (V.str (own os[j])) (R.map V.str) else inV (V.str (own os[j])) (R.map V.str))=true then _ else _
    rw[Ia AB,lH];have et:os.take (j + 1)=os.take j ++ [os[j]]:=by
     rw[AC,ar];rfl
    by_cases g:own os[j]∈R
    ·rw[Ic g];refine fU ?_;refine⟨_,rfl,t,_,4,_,rfl,rfl,aH (tk ah ht),rfl,_,rfl,W,_,rfl,aa.get (zU _ _),_,rfl,B.ow,_,rfl,gP.t (k:=[Ac os[j].1,Cm (os[j].2:Int)]) aa.ow be (by unfold jD;rw[Ab];exact cU (AG wl.ol (by decide))),?_⟩;rw[aBW bi];have aw:(fun k'=>if k'=os[j] then land else(fun k=>if k∈os.take j∧own k∈R then land else own k) k')=fun k=>if k∈os.take (j + 1)∧own k∈R then land else own k:=by
      funext k';dsimp only;rw[et];by_cases e1:k'=os[j]
      ·rw[Ib e1,Ib (by rw[e1];exact⟨AN _ (AE.mpr rfl),g⟩)]
      ·rw[Ia e1];by_cases Z:k'∈os.take j∧own k'∈R
       ·rw[Ib Z,Ib ⟨BH _ Z.1,Z.2⟩]
       ·rw[Ia Z,Ia (fun z=>(AO.mp z.1).elim (fun y=>Z ⟨y,z.2⟩) fun y=>e1 (AE.mp y))]
     rw[aw];exact⟨_,rfl,ah.trans (cR (by simp)),aa.setO _,by rw[aF (bT bg aa.ow (fun z=>nomatch z))];exact bg⟩
    ·rw[decide_eq_false g];refine dU ⟨_,rfl,ah,?_,bg⟩;have aw:(fun k=>if k∈os.take j∧own k∈R then land else own k)=fun k=>if k∈os.take (j + 1)∧own k∈R then land else own k:=by
      funext k';rw[et];by_cases Z:k'∈os.take j∧own k'∈R
      ·rw[Ib Z,Ib ⟨BH _ Z.1,Z.2⟩]
      ·rw[Ia Z,Ia (fun z=>(AO.mp z.1).elim (fun y=>Z ⟨y,z.2⟩) fun y=>g (by rw[← AE.mp y];exact z.2))]
     rw[← aw];exact aa
   ·rintro σ H1 ⟨o7,rfl,ah,aa,bg⟩;rw[Ab,cb]at aa;refine⟨_,rfl,t,_,3,_,rfl,rfl,aH (tk ah ht),rfl,tp,rfl,⟨_,aH (tk ah ao)⟩,?_⟩;refine jG (K:=K) (xs:=R.map V.str) (fun i σ H'=>∃(o4:Option V),σ=[some (.ref W),some (.ref t),some (.ref B.ho),none,o4,some (.str h0),none,o7]∧cQ [B.ow,B.me,B.ho,B.ic] H H'∧WH H' W B sc os (fun k=>if k∈os.take os.length∧own k∈R then land else own k) ((R.take i).foldl (fun d z=>bV d (Ac z)) S.hs) S.men S.inc) ⟨none,rfl,ah,aa⟩ (fun i σ H' _ p=>by obtain⟨_,_,kx,_⟩:=p;exact aH (tk kx ao)) ?_ ?_
    ·rintro i v σ H2 ck ⟨o4,rfl,aj,ag⟩;rw[Ao]at ck;obtain⟨z,hz,rfl⟩:=AL.mp ck;have dd:z ∉ R.take i:=fun y=>by
      obtain⟨j,hj⟩:=Ct y;rw[Cq]at hj;by_cases a0:j < i
      ·rw[Ib a0]at hj;exact absurd (aEO bo hj hz) (by omega)
      ·rw[Ia a0]at hj;cases hj
     obtain⟨v2,hv2'⟩:=A7.mp (t8.mpr ⟨dd,hall' z (AK hz)⟩);dsimp only[aY];refine⟨_,rfl,B.ho,rfl,.inl ⟨_,.inl ag.ho⟩,_,rfl,_,Ac z,v2,ag.ho,rfl,hv2',_,rfl,aj.trans (cR (by simp)),?_⟩;rw[AC,hz,Dd];exact ag.setH _
    ·rintro σ H2 ⟨o4,rfl,aj,ag⟩;rw[Ab,AH]at ag;rw[AH]at ag;have cu:(R.foldl (fun d z=>bV d (Ac z)) S.hs).length≤S.hs.length:=qM R S.hs;refine⟨_,rfl,_,rfl,_,rfl,t,_,4,_,rfl,rfl,aH (tk aj ht),rfl,B.ho,_,rfl,gP.k (k:=Ac land) ag.ho (cU (AG cu wl.hl)),?_⟩;have O:=ag.setH (bS (R.foldl (fun d z=>bV d (Ac z)) S.hs) (Ac land) (.str h0));have ak:cQ [B.ow,B.me,B.ho,B.ic] H (upd H2 B.ho (.dK (bS (R.foldl (fun d z=>bV d (Ac z)) S.hs) (Ac land) (.str h0)))):=aj.trans (cR (by simp));have ad:=tk ak ht;generalize upd H2 B.ho _=H3 at O ak ad ⊢
     iterate 4 refine⟨_,rfl,t,_,0,_,rfl,rfl,aH ad,rfl,rfl,_,rfl,nW (by decide) ?_⟩
     have bM:(fV S R land).hs=bS (R.foldl (fun d z=>bV d (Ac z)) S.hs) (Ac land) (.str h0):=by
      unfold fV;rw[eR];dsimp only[List.headD];rw[hv0];rfl
     obtain⟨c1,c2⟩:=aEN (R:=R) (land:=land) wl.cn wl.so bo hall' hlR;have aw:(fun k=>if k∈os∧own k∈R then land else own k)=fun k=>if k∈os∧own k∈R then land else own k:=rfl
     have ef:∀ k∈os,(if k∈os∧own k∈R then land else own k)=if own k∈R then land else own k:=fun k hk=>by
      by_cases e:own k∈R
      ·rw[Ib ⟨hk,e⟩,Ib e]
      ·rw[Ia (fun z=>e z.2),Ia e]
     refine k _ H3 ak ⟨O.d,O.o,O.ow,O.me,by rw[bM];exact O.ho,O.ic,wl.ac,hm1,wl.nd,wl.ol,wl.s1,wl.s2,fun z hz=>?_,wl.ne,by rw[bM];exact oR.put (aAc wl.hv),by rw[bM];exact lF _ (aAd wl.ks),hh1,fun u bd=>?_⟩
     ·rw[← c1 z hz];congr 2;refine dI fun k hk=>?_;rw[ef k hk]
     ·rw[ef u bd];exact c2 u bd
  | @forfeit land house hl hh=>
   obtain rfl:=nO hrest;obtain⟨e1,Z⟩:=stp.fn (.forfeit (land:=land) (house:=house));rw[← e1,Ib rfl]at Z;subst Z;have aL:aP S land=true:=by
    unfold dF at e1;by_cases z:aP S land=false
    ·rw[Ib z]at e1;exact absurd e1 (by decide)
    ·simpa using z
   subst hT;refine⟨_,rfl,W,_,rfl,wl.get (fH _ _),_,rfl,t,_,0,_,rfl,rfl,aH ht,rfl,rfl,_,rfl,nW (by decide) ?_⟩;refine⟨_,rfl,t,_,0,_,rfl,rfl,aH ht,rfl,rfl,_,rfl,nW (by decide) ?_⟩;refine⟨_,rfl,t,_,0,_,rfl,rfl,aH ht,rfl,rfl,_,rfl,yW ?_⟩;refine⟨_,rfl,t,_,4,_,rfl,rfl,aH ht,rfl,_,rfl,_,rfl,t,_,3,_,rfl,rfl,aH ht,rfl,B.ho,_,rfl,gP.k (k:=Ac land) wl.ho z3,?_⟩;have M:=wh.setH (bS S.hs (Ac land) (.str house));have kx:cQ [B.ow,B.me,B.ho,B.ic] H (upd H B.ho (.dK (bS S.hs (Ac land) (.str house)))):=cR (by simp);have ae:upd H B.ho (.dK (bS S.hs (Ac land) (.str house))) t=some (.tup [.str "forfeit",.str name,.int day,.str land,.str house]):=by rw[aF (bT ht wl.ho (fun z=>nomatch z))];exact ht
   generalize upd H B.ho _=H1 at M kx ae ⊢
   iterate 3 refine⟨_,rfl,t,_,0,_,rfl,rfl,aH ae,rfl,rfl,_,rfl,nW (by decide) ?_⟩
   have b0:∀ z,aP { S with hs:=bS S.hs (Ac land) (.str house) } z=true↔aP S z=true:=fun z=>by
    refine Hs aBY ⟨fun q=>?_,.inr⟩;rcases q with rfl | q
    ·exact aL
    ·exact q
   exact k own H1 kx ⟨M.d,M.o,M.ow,M.me,M.ho,M.ic,wl.ac,hm1,wl.nd,wl.ol,wl.s1,wl.s2,fun z hz=>wl.cn z ((b0 z).mp hz),wl.ne,oR.put wl.hv,lF _ wl.ks,hh1,fun u bd=>(b0 _).mpr (wl.so u bd)⟩
  | @measure field az hf h0 h1=>
   obtain rfl:=nO hrest;obtain⟨_,Z⟩:=stp.fn (.measure (field:=field) (n:=az));subst Z;subst hT;refine⟨_,rfl,W,_,rfl,wl.get (fH _ _),_,rfl,t,_,0,_,rfl,rfl,aH ht,rfl,rfl,_,rfl,nW (by decide) ?_⟩
   iterate 2 refine⟨_,rfl,t,_,0,_,rfl,rfl,aH ht,rfl,rfl,_,rfl,nW (by decide) ?_⟩
   refine⟨_,rfl,t,_,0,_,rfl,rfl,aH ht,rfl,rfl,_,rfl,yW ?_⟩;refine⟨_,rfl,t,_,4,_,rfl,rfl,aH ht,rfl,_,rfl,W,_,rfl,wl.get (zW _ _),_,rfl,t,_,3,_,rfl,rfl,aH ht,rfl,B.ic,_,rfl,gP.k (k:=Ac field) wl.ic dj,?_⟩;have M:=wh.setI (bS S.inc (Ac field) (.int az));have kx:cQ [B.ow,B.me,B.ho,B.ic] H (upd H B.ic (.dK (bS S.inc (Ac field) (.int az)))):=cR (by simp);have ae:upd H B.ic (.dK (bS S.inc (Ac field) (.int az))) t=some (.tup [.str "measure",.str name,.int day,.str field,.int az]):=by rw[aF (bT ht wl.ic (fun z=>nomatch z))];exact ht
   generalize upd H B.ic _=H1 at M kx ae ⊢
   iterate 2 refine⟨_,rfl,t,_,0,_,rfl,rfl,aH ae,rfl,rfl,_,rfl,nW (by decide) ?_⟩
   exact k own H1 kx ⟨M.d,M.o,M.ow,M.me,M.ho,M.ic,wl.ac,hm1,wl.nd,wl.ol,wl.s1,wl.s2,wl.cn,wl.ne,wl.hv,wl.ks,hh1,wl.so⟩
  | @mend house Y hh ho eg=>
   obtain rfl:=nO hrest;obtain⟨e1,Z⟩:=stp.fn (.mend (a:=house) (b:=Y));have bf:house ∉ rd S.men Y:=fun z=>by rw[Ib z]at e1;exact absurd e1 (by decide)
   subst Z;have aT:=wl.ac.mend house Y;have em:lO S.men house Y=bS S.men (Ac house) (.str Y):=by unfold lO;rw[Ia bf]
   rw[em]at aT;dsimp only at hm1;rw[em]at hm1 k;subst hT;refine⟨_,rfl,W,_,rfl,wl.get (fH _ _),_,rfl,t,_,0,_,rfl,rfl,aH ht,rfl,rfl,_,rfl,nW (by decide) ?_⟩
   iterate 3 refine⟨_,rfl,t,_,0,_,rfl,rfl,aH ht,rfl,rfl,_,rfl,nW (by decide) ?_⟩
   refine⟨_,rfl,t,_,0,_,rfl,rfl,aH ht,rfl,rfl,_,rfl,yW ?_⟩;refine⟨_,rfl,t,_,4,_,rfl,rfl,aH ht,rfl,_,rfl,W,_,rfl,wl.get (zV _ _),_,rfl,t,_,3,_,rfl,rfl,aH ht,rfl,B.me,_,rfl,gP.k (k:=Ac house) wl.me (cU wl.ml),?_⟩;have M:=wh.setM (bS S.men (Ac house) (.str Y));have kx:cQ [B.ow,B.me,B.ho,B.ic] H (upd H B.me (.dK (bS S.men (Ac house) (.str Y)))):=cR (by simp);have ae:upd H B.me (.dK (bS S.men (Ac house) (.str Y))) t=some (.tup [.str "mend",.str name,.int day,.str house,.str Y]):=by rw[aF (bT ht wl.me (fun z=>nomatch z))];exact ht
   generalize upd H B.me _=H1 at M kx ae ⊢;refine⟨_,rfl,t,_,0,_,rfl,rfl,aH ae,rfl,rfl,_,rfl,nW (by decide) ?_⟩;exact k own H1 kx ⟨M.d,M.o,M.ow,M.me,M.ho,M.ic,aT,hm1,wl.nd,wl.ol,wl.s1,wl.s2,wl.cn,wl.ne,wl.hv,wl.ks,hh1,wl.so⟩
  | @alone house hh=>
   obtain rfl:=nO hrest;obtain⟨e1,Z⟩:=stp.fn (.alone (a:=house));have bf:(bF S.men (Ac house)).isSome=true:=by
    by_cases z:(bF S.men (Ac house)).isSome=true
    ·exact z
    ·rw[Ia z]at e1;exact absurd e1 (by decide)
   subst Z;have aT:=wl.ac.alone house;have em:i9 S.men house=bV S.men (Ac house):=by unfold i9;rw[Ib bf]
   rw[em]at aT;dsimp only at hm1;rw[em]at hm1 k;obtain⟨v,hv⟩:=A7.mp bf;subst hT;refine⟨_,rfl,W,_,rfl,wl.get (fH _ _),_,rfl,t,_,0,_,rfl,rfl,aH ht,rfl,rfl,_,rfl,nW (by decide) ?_⟩
   iterate 4 refine⟨_,rfl,t,_,0,_,rfl,rfl,aH ht,rfl,rfl,_,rfl,nW (by decide) ?_⟩
   refine⟨_,rfl,t,_,0,_,rfl,rfl,aH ht,rfl,rfl,_,rfl,yW ?_⟩;refine⟨_,rfl,W,_,rfl,wl.get (zV _ _),B.me,rfl,.inl ⟨_,.inl wl.me⟩,_,rfl,t,_,3,_,rfl,rfl,aH ht,rfl,_,Ac house,v,wl.me,rfl,hv,?_⟩;have M:=wh.setM (bV S.men (Ac house));exact k own _ (cR (by simp)) ⟨M.d,M.o,M.ow,M.me,M.ho,M.ic,aT,hm1,wl.nd,wl.ol,wl.s1,wl.s2,wl.cn,wl.ne,wl.hv,wl.ks,hh1,wl.so⟩
  | @breach field n1 n2 n3 hf dl dy ee eb eo eu=>
   obtain rfl:=nO hrest;obtain⟨_,Z⟩:=stp.fn .breach;subst Z;subst hT;refine⟨_,rfl,W,_,rfl,wl.get (fH _ _),_,rfl,t,_,0,_,rfl,rfl,aH ht,rfl,rfl,_,rfl,nW (by decide) ?_⟩
   iterate 5 refine⟨_,rfl,t,_,0,_,rfl,rfl,aH ht,rfl,rfl,_,rfl,nW (by decide) ?_⟩
   exact k own H (cQ.refl H) wl
  | @view field house n1 hf dl dy hh=>
   obtain rfl:=nO hrest;obtain⟨_,Z⟩:=stp.fn .view;subst Z;subst hT;refine⟨_,rfl,W,_,rfl,wl.get (fH _ _),_,rfl,t,_,0,_,rfl,rfl,aH ht,rfl,rfl,_,rfl,nW (by decide) ?_⟩
   iterate 5 refine⟨_,rfl,t,_,0,_,rfl,rfl,aH ht,rfl,rfl,_,rfl,nW (by decide) ?_⟩
   exact k own H (cQ.refl H) wl
structure EB(S:Ex)(n:Nat)(ws:List Str):Prop where
 m:S.men.length≤n
 h:S.hs.length≤8 + 6 * n
 i:S.inc.length≤8 + n
 k:mQ S.inc ws
theorem aAe:∀(R:List P3) (S:Ex),(R.foldl (fun S p=>oQ S p.1 p.2.1 p.2.2) S).hs.length≤S.hs.length + R.length
 | [],S=>Am _
 | p :: R,S=>by
  rw[BL,AI];have h1:=aAe R (oQ S p.1 p.2.1 p.2.2);have h2:(oQ S p.1 p.2.1 p.2.2).hs.length≤S.hs.length + 1:=cD _ _ _;omega
theorem EB.step{S S':Ex}{n:Nat}{ws:List Str}{r:cV}{z:Str}(h:EB S n ws)(ok:r.Ok ws)(st:f8 S r.word r.ds z S'):EB S' (n + 1) ws:=by
 have rs:=ok.rs;have fi:=ok.fi;obtain⟨word,name,day,ds⟩:=r;obtain⟨a1,a2,a3,a4⟩:=h;dsimp only at rs st fi;cases rs with
 | @part land R hl hr h2 h6 ha=>
  obtain⟨_,rfl⟩:=st.fn (.part (land:=land) (R:=R));split
  ·refine⟨by rw[uA];omega,?_,by rw[mZ];omega,by rw[mZ];exact a4⟩;have h1:=aAe R { S with hs:=bV S.hs (Ac land) };have F:=nJ S.hs (Ac land);have h4:(fG S land R).hs.length≤(bV S.hs (Ac land)).length + R.length:=h1;omega
  ·exact⟨by omega,by omega,by omega,a4⟩
 | @join land R hl hr h2 h6 ha=>
  obtain⟨_,rfl⟩:=st.fn (.join (land:=land) (R:=R));split
  ·refine⟨Df a1,?_,Df a3,a4⟩;have h1:=qM R S.hs;have F:=cD (R.foldl (fun d z=>bV d (Ac z)) S.hs) (Ac land) ((bF S.hs (Ac (R.headD ""))).getD .non);exact AG F (by omega)
  ·exact⟨by omega,by omega,by omega,a4⟩
 | @forfeit land house hl M=>
  obtain⟨_,rfl⟩:=st.fn (.forfeit (land:=land) (house:=house));split
  ·have F:=cD S.hs (Ac land) (.str house);exact⟨Df a1,by show(bS _ _ _).length≤_;omega,Df a3,a4⟩
  ·exact⟨by omega,by omega,by omega,a4⟩
 | @measure field G Y h0 h1=>
  obtain⟨_,rfl⟩:=st.fn (.measure (field:=field) (n:=G));have F:=cD S.inc (Ac field) (.int G);refine⟨Df a1,by show S.hs.length≤_;omega,by show(bS _ _ _).length≤_;omega,fun y hy=>?_⟩;show∃ n,bF (bS _ _ _) _=_;rw[dJ];by_cases e:(Ac y:Key)=Ac field
  ·rw[Ib e];exact⟨_,rfl⟩
  ·rw[Ia e];exact a4 y hy
 | @mend house q M ho ae=>
  obtain⟨_,rfl⟩:=st.fn (.mend (a:=house) (b:=q));have F:=cD S.men (Ac house) (.str q);refine⟨?_,by show S.hs.length≤_;omega,by show S.inc.length≤_;omega,a4⟩;show(lO _ _ _).length≤_;unfold lO;split <;> omega
 | @alone house M=>
  obtain⟨_,rfl⟩:=st.fn (.alone (a:=house));have F:=nJ S.men (Ac house);refine⟨?_,by show S.hs.length≤_;omega,by show S.inc.length≤_;omega,a4⟩;show(i9 _ _).length≤_;unfold i9;split <;> omega
 | @breach field n1 n2 n3 Y O J Z af ag aa=>
  obtain⟨_,rfl⟩:=st.fn .breach;exact⟨by omega,by omega,by omega,a4⟩
 | @view field house n1 Y O J M=>
  obtain⟨_,rfl⟩:=st.fn .view;exact⟨by omega,by omega,by omega,a4⟩
theorem EB.zero{Ls:List L4}(h:Ls.length≤8):EB (ex0 Ls) 0 (Ls.map (·.1)):=by
 refine⟨by rw[pU];exact Am _,?_,?_,fun y q=>?_⟩
 ·unfold ex0;rw[lJ];have:=mH (Ls.map fun l=>((Ac l.1:Key),V.str l.2.1)) [];rw[Ab]at this;exact AG this (by simp;omega)
 ·unfold ex0;rw[kK];have:=mH (Ls.map fun l=>((Ac l.1:Key),V.int l.2.2.2)) [];rw[Ab]at this;exact AG this (by simp;omega)
 ·unfold ex0;rw[kK];obtain⟨l,hl,rfl⟩:=AQ.mp q;obtain⟨v,hv⟩:=A7.mp (pX (fun l:L4=>l.1) (fun l:L4=>V.int l.2.2.2) (Ac l.1) Ls [] (.inr ⟨l,hl,rfl⟩));rcases kQ _ _ _ _ _ _ hv with h | ⟨G,_,_,F⟩
  ·cases h
  ·exact⟨_,by rw[hv,F]⟩
theorem f8.idle{S S':Ex}{word:Str}{ds:List A8}{z:Str}(h:f8 S word ds z S')(n:z≠"done"):S'=S:=by
 cases h with
 | part=>exact Ia n
 | join=>exact Ia n
 | forfeit=>exact Ia n
 | measure=>exact absurd rfl n
 | @mend a b=>
  have:a∈rd S.men b:=by
   by_cases e:a∈rd S.men b
   ·exact e
   ·exact absurd (Ia e) n
  unfold lO;rw[Ib this]
 | @alone a=>
  have:¬ (bF S.men (Ac a)).isSome=true:=fun e=>n (Ib e);unfold i9;rw[Ia this]
 | breach=>rfl
 | view=>rfl
theorem eG.lst{H:Hp}{W L:Ag}{B:WA}{sc:Int}{os:List UK}{own:UK→Str}{S:Ex}{xs ys:List V}(h:eG H W B sc os own S)(e:H L=some (.lst xs))(n:L≠B.o):eG (upd H L (.lst ys)) W B sc os own S:=by
 obtain⟨qs,o1,o2⟩:=h.o;have k:∀{b:Ag} {o:HO},H b=some o→(∀ xs,o≠.lst xs)→upd H L (.lst ys) b=some o:=fun{b o} e' n=>by
  rw[aF (bT e' e (n _))];exact e'
 exact⟨k h.d (fun _ z=>nomatch z),⟨qs,by rw[aF n.symm];exact o1,Paired.mapP o2 fun q u e=>k e (fun _ z=>nomatch z)⟩,k h.ow (fun _ z=>nomatch z),k h.me (fun _ z=>nomatch z),k h.ho (fun _ z=>nomatch z),k h.ic (fun _ z=>nomatch z),h.ac,h.ml,h.nd,h.ol,h.s1,h.s2,h.cn,h.ne,h.hv,h.ks,h.hl,h.so⟩
theorem eG.kept{H H':Hp}{W:Ag}{B:WA}{sc:Int}{os:List UK}{own:UK→Str}{S:Ex}(h:eG H W B sc os own S)(k:cQ [B.ow,B.me,B.ho,B.ic] H H'){b:Ag}{o:HO}(e:H b=some o)(n1:∀ xs,o≠.dT xs)(q:∀ xs,o≠.dK xs):H' b=some o:=k b o (fun z=>by
 simp only[Ak,Ap,or_false]at z;rcases z with z | z | z | z <;> rw[z]at e
 ·rw[h.ow]at e;cases e;exact n1 _ rfl
 ·rw[h.me]at e;cases e;exact q _ rfl
 ·rw[h.ho]at e;cases e;exact q _ rfl
 ·rw[h.ic]at e;cases e;exact q _ rfl) e
inductive pZ(vs:List V)(H:Hp)(Q:VK)(u3_:XK):Prop
 | mk (t:Ag) (Ls:List L4) (us:List cV) (sc:Int) (q0:vs=[.ref t,.int sc,.int us.length]) (q1:jC H t Ls us) (q2:(∀ l∈Ls,LOk l∧sc ∣ l.2.2.1∧l.2.2.1≤10 * sc)) (q3:(Ls.map (·.1)).Nodup) (q4:1≤Ls.length) (q5:1≤sc) (q6:sc≤100000) (q7:(∀ u∈us,RSc sc u)) (q8:∀(t2 W L:Ag) (zs:List Str) (S:Ex) (H':Hp),Run (ex0 Ls) us zs S→cA H H'→H L=none→H' t2=some (.tup [.ref W,.ref L])→H' L=some (.lst (zs.map V.str))→Q (.ref t2) H'):pZ vs H Q u3_
def uB:Sp:=fun vs H Q u3_=>pZ vs H Q u3_
theorem uC:cC ["_law_roll_here","_law_scale","_law_at","_law_world_here","_law_terms","_law_row"] ["_law_roll_here","_law_scale","_law_at"] (aO qI):=⟨rfl,rfl,rfl,by decide,rfl,by decide,by decide⟩
theorem aAf{f:Ag}{fd:A3}(F:Fun K "_law_replayed" "_law_replayed" qI f fd)
  (GW:Cl P w K mg base 2 "_law_world" ["_law_laying_here","_law_scale"] xG)
  (GO:Cl P w K mg base 3 "_law_word" ["_law_world_here","_law_row"] aA6)
  (GD:Cl P w K mg base 2 "_law_do" ["_law_world_here","_law_row"] aHs)
  :cY P w K mg base CX0 4 f fd ["_law_roll_here","_law_scale","_law_at"] uB:=by
 refine F.ok uC (fun vs H Q E h=>?_) (fun bu A outer s H vs Q E hr h=>?_)
 ·obtain⟨t,Ls,us,sc,rfl,_⟩:=h;rfl
 ·obtain⟨t,Ls,us,sc,rfl,roll,hok,hnd,hl1,s1,s2,hrs,k⟩:=h;have hu:=d8 hr;have ag:dQ 2 _:=hr.mono (by decide);have nd:=uC.nd;refine⟨_,(aB (aS (i:=3) nd rfl (Av rfl) (cG GW ag (aG (aR aW (pv 0) aD Ig) (aG (pv 1) aE))))
   (aB (aS (i:=4) nd rfl (Av rfl) (c7 aE))
   (aB (fT Be rfl (dS (e8 aBn (aR aW (pv 0) aD Ig) gN (gO (pv 2)))) (g:=aY 5) (aZ (i:=5) nd rfl (Av rfl))
   (aB (dC (jI A0 Bt Bs eO (pv 4) (aG (cG GO hr (aG (pv 3) (aG (pv 5) aE))) aE)))
    (aM (d6 (cB (aX c3 (aR bZ (pv 4) (iC eZ aD) Ig) aN (bH _)) (aM (dC (cG GD ag (aG (pv 3) (aG (pv 5) aE))))) bB)))))
   (aM (bJ (cJ (aG (pv 3) (aG (pv 4) aE)))))))),?_⟩
  obtain⟨lay,rw,xs,ys,h1,h2,h3,h4,h6,h7,h8,h9⟩:=roll.ex;refine⟨_,rfl,t,_,0,_,rfl,rfl,aH h1,rfl,_,rfl,lay,xs,Ls,sc,rfl,h2,h3,hok,hnd,hl1,h6,s1,s2,fun W B os own H1 S1 az wl=>?_⟩;refine⟨Bc _,fun L hL=>?_⟩;have sL:=aK (o:=.lst []) hL;have fL:H L=none:=eQ S1 hL;have ah:=wl.same sL;have S2:=S1.trans sL;have eL:upd H1 L (.lst []) L=some (.lst []):=aA;generalize upd H1 L (.lst [])=H2 at ah S2 eL ⊢;obtain⟨qo,ho1,_⟩:=wl.o;have a0:L≠B.o:=(aJ ho1 hL).symm;have aI:=h8.len;refine⟨_,rfl,t,_,1,_,rfl,rfl,aH (S2 _ _ h1),rfl,_,rfl,_,rfl,rw,_,rfl,S2 _ _ h7,fun r H3 S3 ae=>?_⟩;rw[wM (α:=Unit),Bk (by omega)]at ae;refine⟨r,rfl,⟨_,aH ae⟩,?_⟩;refine jG (K:=K) (xs:=ys) (fun i σ H'=>Ex3 fun(o5:Option V) (zs:List Str) (je:UK→Str)=>∃(S':Ex),Aw6 (σ=[some (.ref t),some (.int sc),some (.int us.length),some (.ref W),some (.ref L),o5]) (cA H H') (eG H' W B sc os je S') (H' L=some (.lst (zs.map V.str))) (H' r=some (.tup ys)) (Run (ex0 Ls) (us.take i) zs S'∧EB S' i (Ls.map (·.1)))) ⟨none,[],own,ex0 Ls,rfl,S2.trans S3,ah.same S3,S3 _ _ eL,ae,.nil,EB.zero h6⟩ (fun i σ H' _ p=>by obtain⟨_,_,_,_,_,_,_,_,e,_⟩:=p;exact aH e) ?_ ?_
  ·rintro i v σ H4 hv ⟨o5,zs,je,S',rfl,S4,Z,q,ab,run,eb⟩;obtain⟨u,hu',rdu,oku⟩:=h8.at' i v hv;have aj:=oku.on rdu (bU S4);have aL:=run.len;have bh:i < 40:=by have:=(Ax.mp hu').1;omega
   rw[AM]at aL;have be:zs.length≤i:=by omega
   dsimp only[aY];refine⟨_,rfl,.inl ⟨rfl,_,aU q⟩,_,rfl,_,rfl,W,B,sc,os,je,S',v,u,_,rfl,Z,eb.k,aj,oku,fun z S5 H5 st O=>?_⟩;refine⟨L,_,_,rfl,rfl,O _ _ q,by rw[Ab];exact cU (by omega),?_⟩;have G:=(Z.same O).lst (ys:=zs.map V.str ++ [V.str z]) (O _ _ q) a0;have J:upd H5 L (.lst (zs.map V.str ++ [V.str z])) L=some (.lst ((zs ++ [z]).map V.str)):=by rw[aA,Aw];rfl
   have S6:cA H (upd H5 L (.lst (zs.map V.str ++ [V.str z]))):=fun b o e=>by
    rw[aF (aJ e fL)];exact O _ _ (S4 _ _ e)
   have aa:upd H5 L (.lst (zs.map V.str ++ [V.str z])) r=some (.tup ys):=by
    rw[aF (bT (O _ _ ab) (O _ _ q) (fun z=>nomatch z))];exact O _ _ ab
   have M:=oku.on rdu (bU S6);generalize upd H5 L _=H6 at G J S6 aa M ⊢;have ak:Run (ex0 Ls) (us.take (i + 1)) (zs ++ [z]) S5:=by
    rw[AC,hu'];exact .snoc run st
   have ad:=eb.step oku st;have ar:atI ((zs ++ [z]).map V.str) (-1)=some (.str z):=by
    rw[Aw];exact i0 _ _
   refine⟨fun σ' H'=>∃ je,σ'=[some (.ref t),some (.int sc),some (.int us.length),some (.ref W),some (.ref L),some v]∧cA H H'∧eG H' W B sc os je S5∧H' L=some (.lst ((zs ++ [z]).map V.str))∧H' r=some (.tup ys),?_,fun σ' H' ⟨je,e1,e2,e3,e4,e5⟩=>⟨_,_,je,S5,e1,e2,e3,e4,e5,ak,ad⟩⟩;refine⟨_,rfl,_,rfl,L,_,-1,_,rfl,rfl,aU J,ar,rfl,_,rfl,cT (fun g=>?_) fun g=>?_⟩
   ·have g':z="done":=V.str.inj (Ie g);subst g';refine⟨_,rfl,_,rfl,W,B,sc,os,je,S',S5,v,u,_,rfl,G,M,oku,hrs u (AK hu'),st,AG ad.m (by omega),AG ad.h (by omega),AG eb.i (by omega),fun ai H7 Y aw=>?_⟩;refine⟨ai,rfl,fun b o e=>?_,aw,G.kept Y J (fun _ z=>nomatch z) (fun _ z=>nomatch z),G.kept Y aa (fun _ z=>nomatch z) (fun _ z=>nomatch z)⟩;refine Y b o (fun z=>?_) (S6 _ _ e);have hn:=az b;simp only[Ak,Ap,or_false]at z hn;rw[hn (by rcases z with z | z | z | z <;> simp[z])]at e;cases e
   ·have g':z≠"done":=fun e=>g (Ic (by rw[e]));have e5:=st.idle g';subst e5;exact⟨je,rfl,S6,G,J,aa⟩
  ·rintro σ H4 ⟨o5,zs,je,S',rfl,S4,Z,q,ab,run,eb⟩;rw[aI,AH]at run;refine⟨_,rfl,_,rfl,zZ2,fun t2 ay=>?_⟩;have af:=aK (o:=.tup [V.ref W,.ref L]) ay;exact k t2 W L zs S' _ run (S4.trans af) fL aA (af _ _ q)
structure RSB(K:Ah)(H:Hp)(p c:Ag)(ns:List Int)(W:Ag)(B:WA)(sc:Int)(os:List UK)(own:UK→Str)(S:Ex)(fl lp:Ag)(ps:List Str):Prop where
 ce:(Rd H c (.lst (ns.map V.int))∧c≠fl)∨∀ H',SqL K H' c (ns.map V.int)
 sm:ns.length≤63
 wl:eG H W B sc os own S
 ep:H lp=some (.lst (ps.map V.str))
 np:Nms ps
 p1:1≤ps.length
 p3:ps.length≤300
 pw:p ∉ [W,B.me,B.ho,B.ic]
 fo:fl≠B.o
 fp:fl≠lp
 pk:∃ iz,H p=some (.dK iz)
 fk:∃ xs,H fl=some (.lst xs)
structure Cur(H0 H:Hp)(p c:Ag)(a:Int)(fl:Ag)(fr:List Str):Prop where
 kx:cQ [p,fl] H0 H
 ob:∃ l,0≤l∧H p=some (.dK (gG c a l))
 ge:0≤a
 ef:H fl=some (.lst (fr.map V.str))
section
variable{K:Ah}{H0 H H':Hp}{p c:Ag}{ns:List Int}{a a':Int}{W:Ag}{B:WA}{sc:Int}{os:List UK}{own:UK→Str}{S:Ex}{fl lp:Ag}{fr:List Str}{ps:List Str}
theorem Cur.keep(b:RSB K H0 p c ns W B sc os own S fl lp ps)(h:Cur H0 H p c a fl fr){q:Ag}{o:HO}(e:H0 q=some o)(n1:q≠p)(F:q≠fl):H q=some o:=h.kx q o (by simp[n1,F]) e
theorem Cur.rd(b:RSB K H0 p c ns W B sc os own S fl lp ps)(h:Cur H0 H p c a fl fr):(Rd H c (.lst (ns.map V.int))∧c≠fl)∨∀ H',SqL K H' c (ns.map V.int):=by
 obtain⟨iz,hp⟩:=b.pk;rcases b.ce with⟨e | ⟨o',e⟩,n⟩ | e
 ·exact .inl ⟨.inl (Cur.keep b h e (bT e hp (fun z=>nomatch z)) n),n⟩
 ·exact .inl ⟨.inr ⟨o',Cur.keep b h e (bT e hp (fun z=>nomatch z)) n⟩,n⟩
 ·exact .inr e
theorem Cur.pen(b:RSB K H0 p c ns W B sc os own S fl lp ps)(h:Cur H0 H p c a fl fr):dB K H p c ns a:=
 ⟨h.ob,(h.rd b).elim (fun z=>.inl z.1) (fun z=>z H),h.ge,b.sm⟩
theorem Cur.tups(b:RSB K H0 p c ns W B sc os own S fl lp ps)(h:Cur H0 H p c a fl fr):fQ H0 H:=fun q xs e=>by
 obtain⟨iz,hp⟩:=b.pk;obtain⟨ys,hf⟩:=b.fk;exact Cur.keep b h e (bT e hp (fun z=>nomatch z)) (bT e hf (fun z=>nomatch z))
theorem Cur.wl(b:RSB K H0 p c ns W B sc os own S fl lp ps)(h:Cur H0 H p c a fl fr):eG H W B sc os own S:=by
 have w:=b.wl;obtain⟨iz,hp⟩:=b.pk;obtain⟨ys,hf⟩:=b.fk;have F:=b.pw;simp only[Ak,Ap,or_false,not_or]at F;obtain⟨n1,n2,n3,n4⟩:=F;obtain⟨qs,o1,o2⟩:=w.o;have G:∀{q:Ag} {iz:List (Key×V)},H0 q=some (.dK iz)→p≠q→H q=some (.dK iz):=fun{q _} e n=>Cur.keep b h e n.symm (bT e hf (fun z=>nomatch z));exact⟨G w.d n1,⟨qs,Cur.keep b h o1 (bT o1 hp (fun z=>nomatch z)) b.fo.symm,UAt.on o2 (h.tups b)⟩,Cur.keep b h w.ow (bT w.ow hp (fun z=>nomatch z)) (bT w.ow hf (fun z=>nomatch z)),G w.me n2,G w.ho n3,G w.ic n4,w.ac,w.ml,w.nd,w.ol,w.s1,w.s2,w.cn,w.ne,w.hv,w.ks,w.hl,w.so⟩
theorem Cur.ep(b:RSB K H0 p c ns W B sc os own S fl lp ps)(h:Cur H0 H p c a fl fr):H lp=some (.lst (ps.map V.str)):=by
 obtain⟨iz,hp⟩:=b.pk;exact Cur.keep b h b.ep (bT b.ep hp (fun z=>nomatch z)) b.fp.symm
theorem Cur.draw(h:Cur H0 H p c a fl fr)(k:bA p H H')(G:dB K H' p c ns a'):Cur H0 H' p c a' fl fr:=by
 obtain⟨l,_,e⟩:=h.ob;have F:fl≠p:=bT h.ef e (fun z=>nomatch z);exact⟨fun q o n e=>k q o (h.kx q o n e) (fun z=>n (by simp[z])),G.ob,G.ge,k _ _ h.ef F⟩
theorem Cur.same(h:Cur H0 H p c a fl fr)(s:cA H H'):Cur H0 H' p c a fl fr:=by
 obtain⟨l,hl,e⟩:=h.ob;exact⟨fun q o n e=>s _ _ (h.kx q o n e),⟨l,hl,s _ _ e⟩,h.ge,s _ _ h.ef⟩
theorem Cur.upd(b:RSB K H0 p c ns W B sc os own S fl lp ps)(h:Cur H0 H p c a fl fr){L:Ag}{o:HO}(n:H0 L=none):Cur H0 (L2.upd H L o) p c a fl fr:=by
 obtain⟨l,hl,e⟩:=h.ob;obtain⟨iz,hp⟩:=b.pk;obtain⟨ys,hf⟩:=b.fk;refine⟨fun q o F e=>?_,⟨l,hl,?_⟩,h.ge,?_⟩
 ·rw[aF (aJ e n)];exact h.kx q o F e
 ·rw[aF (aJ hp n)];exact e
 ·rw[aF (aJ hf n)];exact h.ef
theorem Cur.setF(h:Cur H0 H p c a fl fr)(jo:List Str):Cur H0 (L2.upd H fl (.lst (jo.map V.str))) p c a fl jo:=by
 obtain⟨l,hl,e⟩:=h.ob;have F:fl≠p:=bT h.ef e (fun z=>nomatch z);refine⟨fun q o G e=>?_,⟨l,hl,?_⟩,h.ge,aA⟩
 ·rw[aF (fun z=>G (by simp[z]))];exact h.kx q o G e
 ·rw[aF F.symm];exact e
theorem Cur.back(b:RSB K H0 p c ns W B sc os own S fl lp ps)(h:Cur H0 H p c a fl fr){L:Ag}(n:H L=none):H0 L=none:=by
 obtain⟨l,hl,e⟩:=h.ob;cases q:H0 L with
 | none=>rfl
 | some o=>
  rw[h.kx L o (by
   simp only[Ak,Ap,or_false,not_or];refine⟨fun z=>?_,fun z=>?_⟩
   ·rw[z,e]at n;cases n
   ·rw[z,h.ef]at n;cases n) q]at n
  cases n
theorem Cur.lst(h:Cur H0 H p c a fl fr){L:Ag}{xs:List V}(e:H L=some (.lst xs))(k:bA p H H'):H' L=some (.lst xs):=by
 obtain⟨l,hl,e2⟩:=h.ob;exact k _ _ e (bT e e2 (fun z=>nomatch z))
theorem Cur.tup(h:Cur H0 H p c a fl fr)(k:bA p H H'):fQ H H':=fun q xs e=>by
 obtain⟨l,hl,e2⟩:=h.ob;exact k _ _ e (bT e e2 (fun z=>nomatch z))
end
theorem uD{hs:List (Key×V)}(h:oR hs)(nd:(hs.map (·.1)).Nodup):∃ ks:List Str,hs.map (·.1)=ks.map Ac∧(∀ z∈ks,(bF hs (Ac z)).isSome=true)∧ks.Nodup:=by
 have q:∀ k∈hs.map (·.1),∃ z:Str,k=Ac z:=fun k G=>by
  have:(bF hs k).isSome=true:=by
   rw[← dR,BG];obtain⟨kv,h1,h2⟩:=AQ.mp G;exact⟨kv,h1,Ic h2⟩
  obtain⟨v,hv⟩:=A7.mp this;obtain⟨_,z,_,e⟩:=h k v hv;exact⟨z,e⟩
 have conv:∀ l:List Key,(∀ k∈l,∃ z:Str,k=Ac z)→∃ ks:List Str,l=ks.map Ac:=by
  intro l
  induction l with
  | nil=>intro _;exact⟨[],rfl⟩
  | cons k l F=>
   intro hl;obtain⟨z,rfl⟩:=hl k Al;obtain⟨ks,rfl⟩:=F fun j J=>hl j (An _ J);exact⟨z :: ks,rfl⟩
 obtain⟨ks,hks⟩:=conv _ q
 refine⟨ks,hks,fun z hz=>?_,?_⟩
 ·rw[← dR,pS,hks,BG];exact⟨Ac z,Bg hz,Ic rfl⟩
 ·rw[hks]at nd;exact List.Pairwise.of_map Ac (fun a b h e=>h (by rw[e])) nd
theorem aER(k:Nat):(Bm k [V.int 1]).flatten=(Bm k (1:Int)).map V.int:=by
 induction k with
 | zero=>rfl
 | succ k q=>rw[CB,DV,q,CB];rfl
structure xK(sc:Int)(ws:List Str)(word:Str)(ds:List A8)(fr:List Str):Prop where
 rs:lE word ds
 fi:FIn word ds ws
 sc:∀ name day,RSc sc ⟨word,name,day,ds⟩
 np:∀(land:Str) (R:List P3),word="part"→ds=[.str land,.tuple (R.map pD)]→∀ x∈R,x.1 ∉ fr
 nj:∀(land:Str) (R:List Str),word="join"→ds=[.tuple (R.map BC),.str land]→land ∉ fr∨∃ z∈R,z∈fr
def uE(S:Ex)(fr:List Str):Prop:=∀ z,aP S z=true→cH z=true∧z ∉ fr
theorem aAg{l:List Str}{M:Nat}{y:Str}(h:l.length=M):(l.set (M - 1) y).dropLast=l.dropLast:=by
 rw[CL,CL,Cz,h,List.take_set_of_le (Am _)]
theorem aES{l:List Str}{M:Nat}{y:Str}(h:l.length=M)(h1:1≤M):l.set (M - 1) y=l.dropLast ++ [y]:=by
 have e:(l.set (M - 1) y).dropLast ++ [y]=l.set (M - 1) y:=by
  have q:l.set (M - 1) y≠[]:=fun e=>by
   have:=congrArg Cg e;rw[Cz,h]at this;simp at this;omega
  have F:(l.set (M - 1) y).getLast q=y:=by
   rw[List.getLast_eq_getElem];simp[h]
  have:=Ei q;rw[F]at this;exact this
 rw[← e,aAg h]
theorem xL{l:List Str}(q:l≠[]):atI (l.map V.str) (-1)=some (.str (l.getLast q)):=by
 have e:l.map V.str=l.dropLast.map V.str ++ [V.str (l.getLast q)]:=by
  have:=congrArg (List.map V.str) (Ei q);rw[Aw]at this;exact this.symm
 rw[e];exact i0 _ _
theorem aB1{sc:Int}:∀{l:List Int},(∀ y∈l,sc ∣ y)→sc ∣ l.sum
 | [],_=>⟨0,by simp⟩
 | x :: r,h=>by
  rw[B5];exact Int.dvd_add (h x (by simp)) (aB1 fun y q=>h y (by simp[q]))
theorem _root_.List.Perm.sum_int{l m:List Int}(h:l.Perm m):l.sum=m.sum:=by
 induction h with
 | nil=>rfl
 | cons x _ q=>rw[B5,B5,q]
 | swap x y l=>simp only[B5];omega
 | trans _ _ h1 h2=>rw[h1,h2]
theorem aAh{H:Hp}:∀{rs:List Ag}{R:List P3},Ce (aCF H) rs R→(∀ x∈R,cH x.1=true∧cH x.2.1=true)→cE false H (rs.map V.ref) (R.map pD)
 | _,_,.nil,_=>.nil
 | _,_,.cons (b:=x) h t,hn=>.cons (.tup h (by show 3≤_;decide) (.cons (iG (hn x (by simp)).1) (.cons (iG (hn x (by simp)).2) (.cons (.int _) .nil)))) (aAh t fun y q=>hn y (by simp[q]))
inductive v6(K:Ah)(vs:List V)(H:Hp)(Q:VK)(u3_:XK):Prop
 | mk (p c:Ag) (ns:List Int) (W:Ag) (B:WA) (sc:Int) (os:List UK) (own:UK→Str) (S:Ex) (fl lp:Ag) (ps fr:List Str) (a:Int) (q0:vs=[.ref p,.ref W,.ref fl,.ref lp]) (q1:RSB K H p c ns W B sc os own S fl lp ps) (q2:Cur H H p c a fl fr) (q3:a≤800000) (q4:Nms fr) (q5:8≤fr.length) (q6:fr.length≤300) (q7:uE S fr) (q8:1≤S.hs.length) (q9:∀(t:Ag) (b8:List V) (ds:List A8) (a':Int) (jo:List Str) (H':Hp),Cur H H' p c a' fl jo→a≤a'→a'≤a + 200→(∀ z∈jo,z∈fr)→jo.Nodup→fr.length≤jo.length + 7→H' t=some (.tup b8)→cE false H' b8 ds→(∀ ws,xK sc ws "part" ds jo)→Q (.ref t) H'):v6 K vs H Q u3_
def aB2(K:Ah):Sp:=fun vs H Q u3_=>v6 K vs H Q u3_
theorem aB3:cC ["_law_pen_here","_law_world_here","_law_fresh","_law_pool","_law_stand","_law_land","_law_size","_law_many","_law_sizes","_law_k","_law_at","_law_names_here","_law_way","_law_acres","_law_parts"] ["_law_pen_here","_law_world_here","_law_fresh","_law_pool"] (aO vP):=⟨rfl,rfl,rfl,by decide,rfl,by decide,by decide⟩
theorem tl{A B:TS}{σ:St}{H:Hp}{E:L2.Ends}(h:∀ R,R=B→aGy A R E σ H):aGy A B E σ H:=h B rfl
theorem aET{f:Ag}{fd:A3}(F:Fun K "_law_part" "_law_part" vP f fd)(aq:mg "len"=none)(cv:mg "sorted"=none)(eN:mg "min"=none)(eF:mg "max"=none)(bN:mg "range"=none)(bI:mg "set"=none)(d5:mg "tuple"=none)
  (GD:Cl P w K mg base 1 "_law_draw" ["_law_pen_here","_law_many"] (mJ K))
  (GU:Cl P w K mg base 1 "_law_units" ["_law_world_here","_law_land"] rO)
  :cY P w K mg base CX0 2 f fd ["_law_pen_here","_law_world_here","_law_fresh","_law_pool"] (aB2 K):=by
 refine F.ok aB3 (fun vs H Q E h=>?_) (fun h9 A outer s H vs Q E hr h=>?_)
 ·obtain⟨p,c,ns,W,B,sc,os,own,S,fl,lp,ps,fr,a,rfl,_⟩:=h;rfl
 ·obtain⟨p,c,ns,W,B,sc,os,own,S,fl,lp,ps,fr,a,rfl,rb,cu,ha,hfr,hf8,hf3,hso,hh1,k⟩:=h;have hu:=d8 hr;have au:dQ 1 _:=hr.mono (by decide);have nd:=aB3.nd;refine⟨_,(aB (aS (i:=4) nd rfl (Av rfl) (aV (iS rfl) (by rfl) cv (by kernel_rfl) (aG (bG hu (pv 1) aN Ig) aE)))
   (aB (aS (i:=5) nd rfl (Av rfl) (aR bZ (pv 4) (cG GD au (aG (pv 0) (aG (aV bK (by rfl) aq AW (aG (pv 4) aE)) aE))) Ig))
   (aB (aS (i:=6) nd rfl (Av rfl) (aV bK (by rfl) aq AW (aG (cG GU au (aG (pv 1) (aG (pv 5) aE))) aE)))
   (aB (aS (i:=7) nd rfl (Av rfl) (bC cZ aD (cG GD au (aG (pv 0) (aG (aV (m7 rfl) (by rfl) eN (by kernel_rfl) (aG aD (aG (aV (uS rfl) (by rfl) eF (by kernel_rfl) (aG aD (aG (bC kU (pv 6) aD) aE))) aE))) aE)))))
   (aB (aS (i:=8) nd rfl (Av rfl) (bC aGL (c7 (aG aD aE)) (pv 7)))
   (aB (fT Be rfl (fJ rfl bN (aG (bC kU (pv 6) (pv 7)) aE)) (g:=aY 9) (aZ (i:=9) nd rfl (Av rfl))
   (aB (aS (i:=10) nd rfl (Av rfl) (cG GD au (aG (pv 0) (aG (pv 7) aE))))
    (aM (jR (bC cZ (aR bZ (pv 8) (pv 10) Ig) aD) (p5 (pv 8) (pv 10) j0)))))
   (aB (aS (i:=11) nd rfl (DK rfl) (dO (N:=["_law_k","_law_fresh"]) (src:=[none,some 2]) (osc:=aO vP) (oN:=["_law_pen_here","_law_world_here","_law_fresh","_law_pool","_law_stand","_law_land","_law_size","_law_many","_law_sizes","_law_k","_law_at","_law_names_here","_law_way","_law_acres","_law_parts"]) ⟨by rfl,by decide,by decide,by decide,rfl,by rfl⟩ (fJ rfl bN (aG (pv 7) aE)) (fun cl s H fp iw C=>⟨aZ (i:=0) (show(["_law_k","_law_fresh"]:List Str).Nodup by decide) rfl (Av rfl),dN,aFB (K:=K) A0 DS DR aDr (pv 1)⟩)))
   (aB (aS (i:=12) nd rfl (Av rfl) (cG GD au (aG (pv 0) (aG aD aE))))
   (aB (d6 (cB (aX oU (pv 12) aD (bH _)) (aM (jR (pv 5) (p5 (pv 11) aD j0))) bB))
   (aB (d6 (cB (aX c3 (cG GD au (aG (pv 0) (aG aD aE))) aD (bH _)) (aM (jR (aR bZ (pv 4) (cG GD au (aG (pv 0) (aG (aV bK (by rfl) aq AW (aG (pv 4) aE)) aE))) Ig) (p5 (pv 11) (iC eZ aD) j0))) bB))
   (aB (d6 (cB (aX oU (aV vO (by rfl) aq AW (aG (dD (qF rfl) (by rfl) bI (by kernel_rfl) (aG (pv 11) aE)) aE)) (pv 7) (bH _)) (aM (jR (aAD A0 DS DR aDr (pv 2)) (p5 (pv 11) (iC eZ aD) j0))) bB))
   (aB (aS (i:=13) nd rfl (DK rfl) (dO (N:=["_law_one","_law_world_here"]) (src:=[none,some 1]) (osc:=aO vP) (oN:=["_law_pen_here","_law_world_here","_law_fresh","_law_pool","_law_stand","_law_land","_law_size","_law_many","_law_sizes","_law_k","_law_at","_law_names_here","_law_way","_law_acres","_law_parts"]) ⟨by rfl,by decide,by decide,by decide,rfl,by rfl⟩ (iP (pv 8)) (fun cl s H fp iw C=>⟨aZ (i:=0) (show(["_law_one","_law_world_here"]:List Str).Nodup by decide) rfl (Av rfl),dN,bC gE (pv 0) (bG hu (pv 1) aN Ig)⟩)))
   (aB (d6 (cB (aX gJ (pv 12) (cJ (aG aD (aG aD aE))) (by with_unfolding_all rfl)) (aM (jR (bC cZ (aR bZ (pv 13) aD Ig) aD) (p5 (pv 13) aD j0))) bB))
   (aB (d6 (cB (aX gJ (pv 12) (cJ (aG aD (aG aD aE))) (by with_unfolding_all rfl)) (aM (aS (i:=5) nd rfl (Av rfl) (aR bZ (pv 2) (iC eZ aD) Ig))) bB))
   (aB (i7 (i:=14) (N:=["_law_k","_law_pen_here","_law_pool","_law_names_here","_law_acres"]) (src:=[none,some 0,some 3,some 11,some 13]) (osc:=aO vP) (oN:=["_law_pen_here","_law_world_here","_law_fresh","_law_pool","_law_stand","_law_land","_law_size","_law_many","_law_sizes","_law_k","_law_at","_law_names_here","_law_way","_law_acres","_law_parts"]) ⟨by rfl,by decide,by decide,by decide,rfl,by rfl⟩ nd rfl (fJ rfl bN (aG (pv 7) aE)) (fun cl s H fp iw C=>⟨aZ (i:=0) (show(["_law_k","_law_pen_here","_law_pool","_law_names_here","_law_acres"]:List Str).Nodup by decide) rfl (Av rfl),dN,cJ (aG (aR (r:=aDk K) bZ (pv 3) (pv 0) Ig) (aG (aR (r:=aDk K) bZ (pv 2) (cG GD au (aG (pv 1) (aG (aV (r:=lX K) bK (by rfl) aq AW (aG (pv 2) aE)) aE))) Ig) (aG (aR (r:=aDk K) bZ (pv 4) (pv 0) Ig) aE)))⟩))
   (aM (bJ (cJ (aG (pv 5) (aG (dD eI (by rfl) d5 (by kernel_rfl) (aG (aV uO (by rfl) cv (by kernel_rfl) (aG (pv 14) aE)) aE)) aE)))))))))))))))))))),?_⟩
  refine tl fun R hR=>?_;obtain⟨ks,hks,b0,hkn⟩:=uD rb.wl.hv rb.wl.ks;have fE:ks.length=S.hs.length:=by
   have:=congrArg Cg hks;rw[Ab,Ab]at this;exact this.symm
  have hW:=rb.wl.hl;refine⟨_,rfl,W,_,rfl,(cu.wl rb).get (fH _ _),B.ho,S.hs,ks,rfl,(cu.wl rb).ho,hks,fun LS ms ew pm=>?_⟩;have sS:=aK (o:=.lst (ms.map V.str)) ew;have b2:=cu.same sS;have eS:upd H LS (.lst (ms.map V.str)) LS=some (.lst (ms.map V.str)):=aA;have ej:=cu.back rb ew;generalize upd H LS _=HS at b2 eS ⊢;have hI:ms.length=S.hs.length:=by rw[pm.length_eq,fE]
  have eu:∀ z∈ms,aP S z=true:=fun z hz=>b0 z (pm.mem_iff.mp hz);dsimp only[aY];subst hR;refine tl fun R hR=>?_;refine⟨_,rfl,_,rfl,_,rfl,LS,_,rfl,.inl (aU eS),p,c,ns,_,_,rfl,b2.pen rb,by omega,by rw[Ab];omega,gS (by rw[Ab];omega),fun r1 a1 H1 ey fe l1 u1 fM q1=>?_⟩;have dw:=b2.draw q1 fM;have eo:=b2.lst eS q1;obtain⟨land,hland,hat1⟩:=gC ey fe;refine⟨LS,_,_,_,rfl,rfl,aU eo,hat1,?_⟩;have gy:=eu land hland;obtain⟨hlnm,hlfr⟩:=hso land gy;dsimp only[aY];subst hR;refine tl fun R hR=>?_;refine⟨_,rfl,_,rfl,W,B,sc,os,own,S,land,rfl,dw.wl rb,fun LU rs H2 ij S2 e4 hU=>?_⟩;have dj:=dw.same S2;have gx:=S2 _ _ eo;have f1:=hU.length;have gr:rs.length≤80:=by
   rw[f1];exact AG (BX _ _) rb.wl.ol
  refine⟨LU,_,rfl,.inl (aU e4),?_⟩;rw[Ab];generalize rs.length=z at gr ⊢;dsimp only[aY];subst hR;refine tl fun R hR=>?_;refine⟨_,rfl,_,rfl,_,_,rfl,rfl,_,_,rfl,_,_,rfl,p,c,ns,_,_,rfl,dj.pen rb,by omega,by split <;> split <;> omega,gS (by split <;> split <;> omega),fun r3 a3 H3 hK eg l3 u3 fI q3=>?_⟩;have he:r3 < 5:=by
   split at eg <;> split at eg <;> omega
  have fg:=dj.draw q3 fI;have en:=dj.lst gx q3;refine⟨_,_,rfl,rfl,?_⟩;obtain⟨M,hM⟩:∃ M:Nat,2 + r3=M:=⟨(2 + r3).toNat,by omega⟩
  rw[show V.int (2 + r3)=V.int (M:Int) from congrArg V.int hM];have hL:2≤M:=by omega
  have hC:M≤6:=by omega
  dsimp only[aY];subst hR;refine tl fun R hR=>?_;refine⟨zZ1,fun q hq=>⟨_,rfl,q,_,_,rfl,rfl,aA,by omega,by omega,aQ (by show 1 * _≤1000000;omega),fun LZ dn=>?_⟩⟩;have sZ:=(aK (o:=.lst [V.int 1]) hq).trans (aK (o:=.lst (Bm (M:Int).toNat [V.int 1]).flatten) dn);have eM:=fg.same sZ;have e6:=sZ _ _ en;have fZ:H LZ=none:=fg.back rb (eQ (aK (o:=.lst [V.int 1]) hq) dn);have dz:upd (upd H3 q (.lst [V.int 1])) LZ (.lst (Bm (M:Int).toNat [V.int 1]).flatten) LZ=some (.lst ((Bm M (1:Int)).map V.int)):=by rw[aA,A6,aER]
  generalize upd (upd H3 q (.lst [V.int 1])) LZ _=H4 at sZ eM e6 dz ⊢;dsimp only[aY];subst hR;refine tl fun R hR=>?_;have fz:LS≠LZ:=aJ en (eQ (aK (o:=.lst [V.int 1]) hq) dn);refine⟨_,rfl,_,rfl,_,_,rfl,rfl,_,rfl,by omega,by omega,?_⟩;have hk:((z:Int) - (M:Int)).toNat≤78:=by omega
  refine p6 (n:=((z:Int) - (M:Int)).toNat) (fun i σ H'=>Ex3 fun(o9 ay:Option V) (a':Int)=>∃(zs:List Int),Aw6 (σ=[some (.ref p),some (.ref W),some (.ref fl),some (.ref lp),some (.ref LS),some (.str land),some (.int z),some (.int M),some (.ref LZ),o9,ay,none,none,none,none]) (Cur H H' p c a' fl fr) (a3≤a') (a'≤a3 + i) (H' LS=some (.lst (ms.map V.str))) (Aw3 (H' LZ=some (.lst (zs.map V.int))) (zs.length=M) (∀ x∈zs,1≤x∧x≤1 + i))) ⟨none,none,a3,Bm M 1,rfl,eM,by omega,by omega,e6,dz,by simp,fun x hx=>by rw[(List.mem_replicate.mp hx).2];omega⟩ ?_ ?_
  ·rintro i σ H5 hi ⟨o9,ay,a5,zs,rfl,a0,l5,u5,b6,bW,dq,bM⟩;dsimp only[aY];refine⟨_,rfl,_,rfl,p,c,ns,_,_,rfl,a0.pen rb,by omega,by omega,gS (by omega),fun r6 a6 H6 ir hP l6 u6 gl q6=>?_⟩;have ah:=a0.draw q6 gl;have aT:=a0.lst b6 q6;have aw:=a0.lst bW q6;obtain⟨j,rfl⟩:∃ j:Nat,r6=j:=⟨r6.toNat,by omega⟩
   have hj:j < zs.length:=by omega
   have c2:atI (zs.map V.int) (j:Int)=some (.int zs[j]):=f9 (by rw[Ao,Aj hj];rfl);have gw:ixN (zs.map V.int).length (j:Int)=some j:=by
    unfold ixN;rw[Ib (by omega),Ib (by rw[Ab];omega)];rfl
   dsimp only[aY];refine⟨_,rfl,_,rfl,LZ,_,_,_,rfl,rfl,aU aw,c2,_,_,rfl,rfl,_,rfl,_,rfl,LZ,_,_,j,rfl,rfl,aw,gw,?_⟩;have es:(zs.map V.int).set j (.int (zs[j] + 1))=(zs.set j (zs[j] + 1)).map V.int:=by rw[FU]
   rw[es];refine⟨_,_,a6,zs.set j (zs[j] + 1),rfl,ah.upd rb fZ,by omega,by omega,by rw[aF fz];exact aT,aA,by rw[Cz];exact dq,fun x hx=>?_⟩;rcases Dw hx with h | h
   ·have:=bM x h;omega
   ·have:=bM zs[j] (BO hj);omega
  ·rintro σ H5 ⟨o9,ay,a5,zs,rfl,a0,l5,u5,b6,bW,dq,bM⟩;have eP:∀ x∈zs,1≤x∧x≤79:=fun x hx=>by
    have:=bM x hx;omega
   clear bM;have bg:(fr.reverse.take M).length=M:=by rw[AM,Fx];omega
   subst hR;refine⟨_,rfl,_,rfl,by omega,by omega,?_⟩;refine gU (fun i ys σ' H'=>∃(o:Option V),Aw3 (σ'=[o,some (.ref fl)]) (Cur H H' p c a5 fl (fr.take (fr.length - i))) (Aw3 (H' LS=some (.lst (ms.map V.str))) (H' LZ=some (.lst (zs.map V.int))) (ys=(fr.reverse.take i).map V.str)))
    ⟨none,rfl,by rw[F1,AH];exact a0,b6,bW,rfl⟩ (aQ (by omega)) (fun i ys σ H p=>by obtain⟨_,_,_,_,_,rfl⟩:=p;rw[Ab,AM];omega) ?_ ?_
   ·rintro i ys σ' H6 hi ⟨o,rfl,ah,aT,aw,rfl⟩;have h6:i < 6:=by omega
    dsimp only[aY];refine fU ?_;have eh:fr.length - i - 1 < fr.length:=by omega
    have hy:((fr.take (fr.length - i)).map V.str)[((fr.take (fr.length - i)).map V.str).length - 1]?=some (.str fr[fr.length - i - 1]):=by
     rw[Ab,AM,Ek (by omega),Ao,Cq,Ib (by omega),Aj eh];rfl
    refine⟨_,rfl,.inl ⟨rfl,_,aU ah.ef⟩,fl,_,_,rfl,rfl,ah.ef,hy,?_⟩;have ed:((fr.take (fr.length - i)).map V.str).dropLast=(fr.take (fr.length - (i + 1))).map V.str:=by
     rw[← FV,CL,AM,List.take_take,Ek (by omega:fr.length - i≤fr.length)];congr 2;omega
    rw[ed];have fN:LS≠fl:=fun e=>by rw[e,cu.ef]at ej;cases ej
    have du:LZ≠fl:=fun e=>by rw[e,cu.ef]at fZ;cases fZ
    refine⟨_,rfl,ah.setF _,by rw[aF fN];exact aT,by rw[aF du];exact aw,?_⟩;rw[AC,Aw];congr 1;rw[List.getElem?_reverse (by omega),show fr.length - 1 - i=fr.length - i - 1 by omega,Aj eh];rfl
   rintro ys σ' H6 ⟨o,rfl,ah,aT,aw,rfl⟩ LN b1;rw[A6]at ah ⊢;have bu:=ah.back rb b1;have sN:=aK (o:=.lst ((fr.reverse.take M).map V.str)) b1;have gp:LS≠LN:=aJ aT b1;have dr:LZ≠LN:=aJ aw b1;have ap:=ah.same sN;have dm:=sN _ _ aT;have dg:=sN _ _ aw;have cc:upd H6 LN (.lst ((fr.reverse.take M).map V.str)) LN=some (.lst ((fr.reverse.take M).map V.str)):=aA;generalize upd H6 LN _=H7 at ap dm dg cc ⊢;have b5:fr.reverse.take M=(fr.drop (fr.length - M)).reverse:=List.take_reverse;have de:fr.take (fr.length - M) ++ fr.drop (fr.length - M)=fr:=BW _ _;have bL:(fr.take (fr.length - M) ++ fr.drop (fr.length - M)).Nodup:=by rw[de];exact hfr.nd
   obtain⟨hndA,hndD,hdis⟩:=Bw.mp bL;have ar:∀ x∈fr.reverse.take M,cH x=true∧x∈fr∧x ∉ fr.take (fr.length - M):=fun x hx=>by
    rw[b5,List.mem_reverse]at hx;have ev:=CQ hx;exact⟨hfr.ok x ev,ev,fun h=>hdis x h x hx rfl⟩
   have ca:(fr.reverse.take M).Nodup:=by rw[b5];exact(DT _).nodup_iff.mpr hndD
   generalize fr.reverse.take M=nA at bg b5 ar ca cc ⊢;have bh:∀ x∈fr.take (fr.length - M),x∈fr:=fun x hx=>B2 hx;have fL:(fr.take (fr.length - M)).length=fr.length - M:=by rw[AM];omega
   generalize fr.take (fr.length - M)=G at ap hndA hdis ar bh fL de bL;clear b5 de bL hdis;dsimp only[aY];refine⟨_,rfl,p,c,ns,_,_,rfl,ap.pen rb,by omega,by decide,by decide,fun r8 a8 H8 ii hY l8 u8 gv q8=>?_⟩;have dc:=ap.draw q8 gv;have dh:=ap.lst dm q8;have c9:=ap.lst dg q8;have da:=ap.lst cc q8;have eE:land ∉ G:=fun h=>hlfr (bh _ h);dsimp only[aY];have e7:∀{l:List Str},l.length=M→ixN (l.map V.str).length (-1)=some (M - 1):=fun{l} e=>by
    unfold ixN;rw[Ia (by decide),Ib (by rw[Ab];omega),Ab,e];congr 1;omega
   have fa:∀{α:Type} {l:List α},l.length=M→ixN l.length 0=some 0:=fun{α l} e=>by
    unfold ixN;rw[Ib (by decide),Ib (by omega)];rfl
   refine⟨fun σ' H'=>∃(nm:List Str),σ'=[some (.ref p),some (.ref W),some (.ref fl),some (.ref lp),some (.ref LS),some (.str land),some (.int z),some (.int M),some (.ref LZ),o9,ay,some (.ref LN),some (.int r8),none,none]∧Cur H H' p c a8 fl G∧H' LS=some (.lst (ms.map V.str))∧H' LZ=some (.lst (zs.map V.int))∧H' LN=some (.lst (nm.map V.str))∧nm.length=M∧nm.Nodup∧∀ x∈nm,cH x=true∧x ∉ G,?_,?_⟩
   ·refine⟨_,rfl,_,_,rfl,rfl,_,rfl,cT (fun g=>?_) fun g=>?_⟩
    ·refine⟨_,rfl,_,rfl,LN,_,_,0,rfl,rfl,da,fa (by rw[Ab];exact bg),?_⟩;rw[show(nA.map V.str).set 0 (.str land)=(nA.set 0 land).map V.str by rw[FU]];have bI:nA.set 0 land=land :: nA.tail:=by
      cases nA with
      | nil=>simp at bg;omega
      | cons x r=>rfl
     refine⟨nA.set 0 land,rfl,dc.upd rb bu,by rw[aF gp];exact dh,by rw[aF dr];exact c9,aA,by rw[Cz];exact bg,?_,fun x hx=>?_⟩
     ·rw[bI];exact AY.mpr ⟨fun h=>hlfr (ar _ (List.mem_of_mem_tail h)).2.1,Dn (List.tail_sublist _) ca⟩
     ·rcases Dw hx with h | h
      ·exact⟨(ar x h).1,(ar x h).2.2⟩
      ·rw[h];exact⟨hlnm,eE⟩
    ·exact⟨nA,rfl,dc,dh,c9,da,bg,ca,fun x hx=>⟨(ar x hx).1,(ar x hx).2.2⟩⟩
   rintro σ' H9 ⟨nm,rfl,bi,fq,el,ff,ax,bn,bE⟩;clear dh c9 da dm dg cc ap dc bg ca ar aT aw ah b6 bW a0;refine⟨fun σ' H'=>∃(nm:List Str) (a':Int),σ'=[some (.ref p),some (.ref W),some (.ref fl),some (.ref lp),some (.ref LS),some (.str land),some (.int z),some (.int M),some (.ref LZ),o9,ay,some (.ref LN),some (.int r8),none,none]∧Cur H H' p c a' fl G∧a8≤a'∧a'≤a8 + 2∧H' LZ=some (.lst (zs.map V.int))∧H' LN=some (.lst (nm.map V.str))∧nm.length=M∧nm.dropLast.Nodup∧∀ x∈nm,cH x=true∧x ∉ G,?_,?_⟩
   ·refine⟨_,rfl,p,c,ns,_,_,rfl,bi.pen rb,by omega,by decide,by decide,fun ey a10 ig g5 hh is il et cf=>?_⟩;have an:=bi.draw cf et;have cI:=bi.lst fq cf;have cz:=bi.lst el cf;have cw:=bi.lst ff cf;refine⟨rfl,_,rfl,cT (fun g=>?_) fun g=>?_⟩
    ·refine⟨_,rfl,_,rfl,_,rfl,LS,_,rfl,.inl (aU cI),p,c,ns,_,_,rfl,an.pen rb,by omega,by rw[Ab];omega,gS (by rw[Ab];omega),fun fe fD io ee eb ih hT eR cg=>?_⟩;have e0:=an.draw cg eR;have fj:=an.lst cI cg;have eq:=an.lst cz cg;have eL:=an.lst cw cg;obtain⟨y,hy,haty⟩:=gC ee eb;obtain⟨hynm,hyfr⟩:=hso y (eu y hy);refine⟨LS,_,_,_,rfl,rfl,aU fj,haty,_,rfl,_,rfl,LN,_,_,M - 1,rfl,rfl,eL,e7 ax,?_⟩;rw[show(nm.map V.str).set (M - 1) (.str y)=(nm.set (M - 1) y).map V.str by rw[FU]];refine⟨nm.set (M - 1) y,fD,rfl,e0.upd rb bu,by omega,by omega,by rw[aF dr];exact eq,aA,by rw[Cz];exact ax,?_,fun x hx=>?_⟩
     ·rw[aAg ax];exact Dn (List.dropLast_sublist _) bn
     ·rcases Dw hx with h | h
      ·exact bE x h
      ·rw[h];exact⟨hynm,fun h=>hyfr (bh _ h)⟩
    ·exact⟨nm,a10,rfl,an,by omega,by omega,cz,cw,ax,Dn (List.dropLast_sublist _) bn,bE⟩
   rintro σ' em ⟨J,bf,rfl,cx,iq,hX,ci,bR,ae,bx,ag⟩;clear fq el ff bi ax bn bE;refine⟨fun σ' H'=>∃(nm:List Str) (fB:List Str),σ'=[some (.ref p),some (.ref W),some (.ref fl),some (.ref lp),some (.ref LS),some (.str land),some (.int z),some (.int M),some (.ref LZ),o9,ay,some (.ref LN),some (.int r8),none,none]∧Cur H H' p c bf fl fB∧(∀ x∈fB,x∈G)∧fB.Nodup∧G.length≤fB.length + 1∧H' LZ=some (.lst (zs.map V.int))∧H' LN=some (.lst (nm.map V.str))∧nm.length=M∧nm.Nodup∧∀ x∈nm,cH x=true∧x ∉ fB,?_,?_⟩
   ·refine⟨_,rfl,LN,J,rfl,aU bR,by omega,fun u dV=>?_⟩;have su:=aK (o:=tK P w u J) dV;have bc:=cx.same su;have cL:=su _ _ ci;have c1:=su _ _ bR;refine⟨u,J,rfl,aA,by omega,_,rfl,_,_,rfl,rfl,_,rfl,cT (fun g=>?_) fun g=>?_⟩
    ·have b3:G.length - 1 < G.length:=by omega
     have hy:(G.map V.str)[(G.map V.str).length - 1]?=some (.str G[G.length - 1]):=by
      rw[Ab,Ao,Aj b3];rfl
     refine⟨_,rfl,.inl ⟨rfl,_,aU bc.ef⟩,fl,_,_,rfl,rfl,bc.ef,hy,?_⟩;rw[← FV];have eD:=bc.setF G.dropLast;have gA:LN≠fl:=fun e=>by rw[e,cu.ef]at bu;cases bu
     have du:LZ≠fl:=fun e=>by rw[e,cu.ef]at fZ;cases fZ
     have ec:upd (upd em u (tK P w u J)) fl (.lst (G.dropLast.map V.str)) LN=some (.lst (J.map V.str)):=by rw[aF gA];exact c1
     have dy:upd (upd em u (tK P w u J)) fl (.lst (G.dropLast.map V.str)) LZ=some (.lst (zs.map V.int)):=by rw[aF du];exact cL
     refine⟨_,rfl,_,rfl,LN,_,_,M - 1,rfl,rfl,ec,e7 ae,?_⟩;have ck:G.dropLast ++ [G[G.length - 1]]=G:=by
      have bO:G≠[]:=fun e=>by rw[e]at b3;simp at b3
      rw[← List.getLast_eq_getElem bO];exact Ei bO
     have cj:(G.dropLast ++ [G[G.length - 1]]).Nodup:=by rw[ck];exact hndA
     obtain⟨hd1,_,hd3⟩:=Bw.mp cj;have bp:G[G.length - 1]∈G:=BO b3;generalize G[G.length - 1]=f0 at ck cj hd3 bp;rw[show(J.map V.str).set (M - 1) (.str f0)=(J.set (M - 1) f0).map V.str by rw[FU]];have cr:∀ x∈G.dropLast,x∈G:=fun x hx=>Fj _ hx;refine⟨J.set (M - 1) f0,G.dropLast,rfl,eD.upd rb bu,cr,hd1,by rw[CT];omega,by rw[aF dr];exact dy,aA,by rw[Cz];exact ae,?_,fun x hx=>?_⟩
     ·rw[aES ae (by omega)];refine Bw.mpr ⟨bx,by simp,fun x hx y hy e=>?_⟩;rw[AE.mp hy]at e;exact(ag x (Fj _ hx)).2 (by rw[e];exact bp)
     ·rcases Dw hx with h | h
      ·exact⟨(ag x h).1,fun h'=>(ag x h).2 (cr _ h')⟩
      ·rw[h];exact⟨hfr.ok _ (bh _ bp),fun h'=>hd3 f0 h' f0 (by simp) rfl⟩
    ·refine⟨J,G,rfl,bc,fun x hx=>hx,hndA,by omega,cL,c1,ae,?_,ag⟩;have h0:¬ (((iE (fun i=>J.getD i "") J.length).length:Nat):Int) < (M:Int):=fun h=>g (Ic h);have ik:=lA (fun i=>J.getD i "") J.length;have:=aCt J;rw[Ic (by omega)]at this;exact Ie this.symm
   rintro σ' gc ⟨O,fB,rfl,be,eX,gi,ez,bd,bP,fW,dd,bq⟩;clear ci bR cx ae bx ag;refine⟨_,rfl,LZ,rfl,⟨_,aU bd⟩,?_⟩;have s1:=rb.wl.s1;have s2:=rb.wl.s2;refine nB (K:=K) (xs:=zs.map V.int) (fun i ys σ' H'=>∃(o:Option V),σ'=[o,some (.ref W)]∧H'=gc∧ys=((zs.take i).map fun x=>x * sc).map V.int) ⟨none,rfl,rfl,rfl⟩ (aQ (by rw[Ab];omega)) (fun i ys σ H p=>by obtain⟨_,_,_,rfl⟩:=p;rw[Ab,Ab,AM];omega) (fun i ys σ H p=>by obtain⟨_,_,rfl,_⟩:=p;exact aU bd) ?_ ?_
   ·rintro i v ys σ' dl hv ⟨o,rfl,rfl,rfl⟩;rw[Ao]at hv;obtain⟨x,hx,rfl⟩:=AL.mp hv;dsimp only[aY];refine fU ?_;refine⟨_,rfl,_,rfl,W,_,rfl,(be.wl rb).get (aBQ _ _),_,_,rfl,rfl,.inr ⟨by omega,by omega⟩,_,rfl,rfl,?_⟩;rw[AC,hx,Aw,Aw];rfl
   rintro ys σ' dl ⟨o,rfl,rfl,rfl⟩ LA b7;rw[Ab,AH];have gf:=be.back rb b7;have hB:LZ≠LA:=aJ bd b7;have gz:LN≠LA:=aJ bP b7;have sA:=aK (o:=.lst ((zs.map fun x=>x * sc).map V.int)) b7;have br:=be.same sA;have bD:=sA _ _ bP;have bb:upd dl LA (.lst ((zs.map fun x=>x * sc).map V.int)) LA=some (.lst ((zs.map fun x=>x * sc).map V.int)):=aA;generalize upd dl LA _=gj at br bD bb ⊢;have az:∀ y∈zs.map (fun x=>x * sc),1≤y∧y≤9000000∧sc ∣ y:=fun y hy=>by
    obtain⟨x,hx,rfl⟩:=AQ.mp hy;have hb:=eP x hx;have h1:1 * sc≤x * sc:=C0 hb.1 (by omega);have h2:x * sc≤79 * sc:=C0 hb.2 (by omega);exact⟨by omega,by omega,Int.dvd_mul_left _ _⟩
   have aj:(zs.map fun x=>x * sc).length=M:=by rw[Ab];exact dq
   generalize zs.map (fun x=>x * sc)=as at az aj bb;dsimp only[aY];refine⟨fun σ' H'=>∃(bs:List Int),σ'=[some (.ref p),some (.ref W),some (.ref fl),some (.ref lp),some (.ref LS),some (.str land),some (.int z),some (.int M),some (.ref LZ),o9,ay,some (.ref LN),some (.int r8),some (.ref LA),none]∧Cur H H' p c bf fl fB∧H' LN=some (.lst (O.map V.str))∧H' LA=some (.lst (bs.map V.int))∧bs.length=M∧(∀ y∈bs,1≤y∧y≤10000000)∧((∀ y∈bs,sc ∣ y)∨¬ sc ∣ bs.sum),?_,?_⟩
   ·refine⟨_,rfl,zZ2,fun u bw=>?_⟩;have su:=aK (o:=.tup [V.int 5,.int 7]) bw;refine⟨u,_,rfl,.inr (aH aA),rfl,rfl,_,rfl,?_⟩;have ai:=br.same su;have ak:=su _ _ bD;have af:=su _ _ bb;generalize upd gj u _=fm at ai ak af ⊢;refine cT (fun g=>?_) fun g=>?_
    ·cases as with
     | nil=>simp at aj;omega
     | cons x r=>
     have f3:=az x Al;refine⟨_,rfl,LA,_,_,_,rfl,rfl,aU af,f9 (j:=0) rfl,_,_,rfl,rfl,_,rfl,LA,_,_,0,rfl,rfl,af,fa (by rw[Ab];exact aj),(x + 1) :: r,rfl,ai.upd rb gf,by rw[aF gz];exact ak,aA,aj,fun y hy=>?_,?_⟩
     ·rcases Ak.mp hy with rfl | hy
      ·omega
      ·have:=az y (An _ hy);omega
     ·by_cases e1:sc=1
      ·exact .inl fun y _=>by rw[e1];exact Int.one_dvd _
      ·refine .inr fun hd=>?_;rw[B5]at hd;have h1:sc ∣ r.sum:=aB1 fun y hy=>(az y (An _ hy)).2.2;have h2:sc ∣ x + r.sum:=Int.dvd_add f3.2.2 h1;have h3:sc ∣ 1:=by
        have:=Int.dvd_sub hd h2
        rwa [show x + 1 + r.sum - (x + r.sum)=1 by omega]at this
       have:=Int.le_of_dvd (by decide) h3;omega
    ·exact⟨as,rfl,ai,ak,af,aj,fun y hy=>⟨(az y hy).1,by have:=(az y hy).2.1;omega⟩,.inl fun y hy=>(az y hy).2.2⟩
   rintro σ' fm ⟨bs,rfl,ai,ak,af,h7,eJ,fC⟩;clear bD bb br az aj bd bP be;refine⟨fun σ' H'=>∃(Y:Str),σ'=[some (.ref p),some (.ref W),some (.ref fl),some (.ref lp),some (.ref LS),some (.str Y),some (.int z),some (.int M),some (.ref LZ),o9,ay,some (.ref LN),some (.int r8),some (.ref LA),none]∧Cur H H' p c bf fl fB∧H' LN=some (.lst (O.map V.str))∧H' LA=some (.lst (bs.map V.int))∧cH Y=true,?_,?_⟩
   ·refine⟨_,rfl,zZ2,fun u bw=>?_⟩;have su:=aK (o:=.tup [V.int 6,.int 7]) bw;refine⟨u,_,rfl,.inr (aH aA),rfl,rfl,_,rfl,?_⟩;have am:=ai.same su;have av:=su _ _ ak;have aC:=su _ _ af;generalize upd fm u _=fO at am av aC ⊢;refine cT (fun g=>?_) fun g=>?_
    ·have bO:fB≠[]:=fun e=>by rw[e]at ez;simp at ez;omega
     have c2:=xL bO;exact⟨_,rfl,_,rfl,fl,_,_,_,rfl,rfl,aU am.ef,c2,_,rfl,am,av,aC,hfr.ok _ (bh _ (eX _ (EU bO)))⟩
    ·exact⟨land,rfl,am,av,aC,hlnm⟩
   rintro σ' fO ⟨Y,rfl,am,av,aC,fu⟩;clear ak af ai;refine⟨_,rfl,_,rfl,by omega,by omega,?_⟩;refine gU (fun i ys σ' H'=>Ex3 fun(o:Option V) (a':Int) (rs:List Ag)=>∃(T:List P3),Aw6 (σ'=[o,some (.ref p),some (.ref lp),some (.ref LN),some (.ref LA)]) (Cur H H' p c a' fl fB) (bf≤a') (a'≤bf + i) (H' LN=some (.lst (O.map V.str))) (Aw6 (H' LA=some (.lst (bs.map V.int))) (ys=rs.map V.ref) (Ce (aCF H') rs T) (T.length=i) (T.map (·.1)=O.take i) ((T.map fun x=>x.2.2)=bs.take i∧∀ x∈T,cH x.2.1=true)))
    ⟨none,bf,[],[],rfl,am,by omega,by omega,av,aC,rfl,.nil,rfl,rfl,rfl,fun x hx=>by simp at hx⟩ (aQ (by omega)) (fun i ys σ H p=>by
     obtain⟨_,_,rs,T,_,_,_,_,_,_,rfl,pr,e,_⟩:=p;have:=pr.length;rw[Ab];omega) ?_ ?_
   ·rintro i ys σ' db hi ⟨o,d3,rs,T,rfl,Z,gg,ea,bo,cq,rfl,pr,bY,bj,aL,di⟩;have b0:i < O.length:=by omega
    have eA:i < bs.length:=by omega
    have eT:atI (O.map V.str) (0 + (i:Int))=some (.str O[i]):=by
     rw[Et];exact f9 (by rw[Ao,Aj b0];rfl)
    have eK:atI (bs.map V.int) (0 + (i:Int))=some (.int bs[i]):=by
     rw[Et];exact f9 (by rw[Ao,Aj eA];rfl)
    have gk:=Z.ep rb;have hp:=rb.p1;have gT:=rb.p3;dsimp only[aY];refine fU ?_;refine⟨_,rfl,_,rfl,LN,_,_,_,rfl,rfl,aU bo,eT,_,rfl,_,rfl,_,rfl,lp,_,rfl,.inl (aU gk),p,c,ns,_,_,rfl,Z.pen rb,by omega,by rw[Ab];omega,gS (by rw[Ab];omega),fun ip gB e3 ft eC hF hN eW b4=>?_⟩;have cm:=Z.draw b4 eW;have ek:=Z.lst bo b4;have cs:=Z.lst cq b4;obtain⟨hz,hhz,hatz⟩:=gC ft eC;refine⟨lp,_,_,_,rfl,rfl,aU (cm.ep rb),hatz,_,rfl,_,rfl,LA,_,_,_,rfl,rfl,aU cs,eK,zZ3,fun u bw=>?_⟩;have su:=aK (o:=.tup [V.str O[i],.str hz,.int bs[i]]) bw;refine⟨_,gB,rs ++ [u],T ++ [(O[i],hz,bs[i])],rfl,cm.same su,by omega,by omega,su _ _ ek,su _ _ cs,by rw[Aw];rfl,?_,by rw[Ay,bY];rfl,?_,?_,fun x hx=>?_⟩
    ·exact Paired.snoc (R:=aCF (upd e3 u (.tup [V.str O[i],.str hz,.int bs[i]]))) (a:=u) (b:=(O[i],hz,bs[i])) (show upd e3 u (.tup [V.str O[i],.str hz,.int bs[i]]) u=some (.tup [V.str O[i],.str hz,.int bs[i]]) from aA) (Paired.mapP pr fun r x e=>su _ _ (Z.tup b4 _ _ e))
    ·rw[Aw,bj,AC,Aj b0];rfl
    ·rw[Aw,aL,AC,Aj eA];rfl
    ·rcases AO.mp hx with hx | hx
     ·exact di x hx
     ·rw[AE.mp hx];exact rb.np.ok _ hhz
   rintro ys σ' db ⟨o,d3,rs,T,rfl,Z,gg,ea,bo,cq,rfl,pr,bY,bj,aL,di⟩ LP f2;rw[A6]at bY bj aL ea;rw[Bk (by omega)]at bj aL;have sP:=aK (o:=.lst (rs.map V.ref)) f2;have gq:Ce (aCF (upd db LP (.lst (rs.map V.ref)))) rs T:=Paired.mapP pr fun r x e=>sP _ _ e;refine⟨_,rfl,_,rfl,LP,rs,T,rfl,aA,gq,by omega,fun l bv R hl perm eH=>?_⟩;have sl:=aK (o:=.lst (bv.map V.ref)) hl;refine⟨l,_,rfl,.inl ⟨aU aA,fun tp fy=>?_⟩⟩;have ei:=aK (o:=.tup (bv.map V.ref)) fy;refine⟨zZ2,fun t ht=>?_⟩;have dk:=aK (o:=.tup [V.str Y,.ref tp]) ht;have fb:=((sP.trans sl).trans ei).trans dk;have hE:R.length=M:=by rw[perm.length_eq,bY]
   have cb:∀ x∈R,cH x.1=true∧cH x.2.1=true∧1≤x.2.2∧x.2.2≤10000000∧x.1 ∉ fB:=fun x hx=>by
    have dt:=perm.mem_iff.mp hx;have h1:x.1∈O:=by rw[← bj];exact Bg dt
    have h2:x.2.2∈bs:=by rw[← aL];exact Bg (f:=fun x:P3=>x.2.2) dt
    exact⟨(bq _ h1).1,di x dt,(eJ _ h2).1,(eJ _ h2).2,(bq _ h1).2⟩
   have fh:(R.map pD).all qZ=true:=by
    rw[A2];intro d hd;obtain⟨x,hx,rfl⟩:=AQ.mp hd;obtain⟨h1,h2,h3,h4,_⟩:=cb x hx;show(cH x.1 && cH x.2.1 && decide (1≤x.2.2∧x.2.2≤10000000))=true;rw[h1,h2,Ic ⟨h3,h4⟩];rfl
   have gb:cE false _ (bv.map V.ref) (R.map pD):=aAh (H:=upd (upd (upd (upd db LP (.lst (rs.map V.ref))) l (.lst (bv.map V.ref))) tp (.tup (bv.map V.ref))) t (.tup [V.str Y,.ref tp])) (Paired.mapP eH fun r x e=>dk _ _ (ei _ _ (sl _ _ e))) fun x hx=>⟨(cb x hx).1,(cb x hx).2.1⟩
   have d4:(R.map fun x=>x.2.2).sum=bs.sum:=by
    rw[← aL];exact(perm.map _).sum_int
   have ie:=eH.length;refine k t _ [.str Y,.tuple (R.map pD)] d3 fB _ (Z.same fb) (by omega) (by omega) (fun x hx=>bh _ (eX _ hx)) gi (by omega) aA (.cons (iG fu) (.cons (.tup (dk _ _ aA) (by rw[Ab];omega) gb) .nil)) fun ws=>⟨.part fu ((perm.map (·.1)).nodup_iff.mpr (by rw[bj];exact dd)) (by omega) (by omega) fh,fun h=>absurd h (by decide),fun name day bz R' _ e=>?_,fun bz R' _ e x hx=>?_,fun bz R' e=>absurd e (by decide)⟩
   ·injection e with e1 e2;injection e2 with e2;injection e2 with e2;have:=nG aA7 e2;subst this;rcases fC with h | h
    ·refine .inl fun x hx=>h _ ?_;rw[← aL];exact Bg (f:=fun x:P3=>x.2.2) (perm.mem_iff.mp hx)
    ·refine .inr ?_;rw[d4];exact h
   ·injection e with e1 e2;injection e2 with e2;injection e2 with e2;have:=nG aA7 e2;subst this;exact(cb x hx).2.2.2.2
theorem v7:∀(l:List Str) (j:Nat),(l.map V.str).eraseIdx j=(l.eraseIdx j).map V.str
 | [],_=>rfl
 | x :: r,0=>rfl
 | x :: r,j + 1=>by
  show V.str x :: (r.map V.str).eraseIdx j=V.str x :: (r.eraseIdx j).map V.str;rw[v7 r j]
theorem aB4{xs:List V}{lo hi:Option Int}{v:V}(h:v∈jZ xs lo hi):v∈xs:=CQ (B2 h)
theorem aCU{xs:List V}:(jZ xs (some (-1)) none).length≤1:=by
 unfold jZ;rw[AM,B6];have:xs.length - 1≤HT.sIx xs.length 0 (some (-1)):=by
  unfold HT.sIx;simp
  try omega
 omega
theorem m9{l:List Str}:∀{vs:List V},(∀ v∈vs,v∈l.map V.str)→∃ ss:List Str,vs=ss.map V.str∧∀ z∈ss,z∈l
 | [],_=>⟨[],rfl,fun z hz=>by simp at hz⟩
 | v :: vs,h=>by
  obtain⟨z,hz,rfl⟩:=AQ.mp (h v Al);obtain⟨ss,e,h2⟩:=m9 (vs:=vs) fun x hx=>h x (An _ hx);refine⟨z :: ss,by rw[e];rfl,fun x hx=>?_⟩;rcases Ak.mp hx with rfl | hx
  ·exact hz
  ·exact h2 x hx
inductive v8(K:Ah)(vs:List V)(H:Hp)(Q:VK)(u3_:XK):Prop
 | mk (p c:Ag) (ns:List Int) (W:Ag) (B:WA) (sc:Int) (os:List UK) (own:UK→Str) (S:Ex) (fl lp:Ag) (ps fr:List Str) (a:Int) (q0:vs=[.ref p,.ref W,.ref fl]) (q1:RSB K H p c ns W B sc os own S fl lp ps) (q2:Cur H H p c a fl fr) (q3:a≤800000) (q4:Nms fr) (q5:8≤fr.length) (q6:fr.length≤300) (q7:uE S fr) (q8:1≤S.hs.length) (q9:S.hs.length≤300) (q10:∀(t:Ag) (b8:List V) (ds:List A8) (a':Int) (jo:List Str) (H':Hp),Cur H H' p c a' fl jo→a≤a'→a'≤a + 400→(∀ z∈jo,z∈fr)→jo.Nodup→fr.length≤jo.length + 7→H' t=some (.tup b8)→cE false H' b8 ds→(∀ ws,xK sc ws "join" ds jo)→Q (.ref t) H'):v8 K vs H Q u3_
def aB5(K:Ah):Sp:=fun vs H Q u3_=>v8 K vs H Q u3_
theorem aB6:cC ["_law_pen_here","_law_world_here","_law_fresh","_law_stand","_law_way","_law_house","_law_some","_law_new","_law_name"] ["_law_pen_here","_law_world_here","_law_fresh"] (aO aBE):=⟨rfl,rfl,rfl,by decide,rfl,by decide,by decide⟩
theorem aEU{f:Ag}{fd:A3}(F:Fun K "_law_join" "_law_join" aBE f fd)(ad:mg "len"=none)(ay:mg "sorted"=none)(eb:mg "set"=none)(dd:mg "tuple"=none)
  (GD:Cl P w K mg base 1 "_law_draw" ["_law_pen_here","_law_many"] (mJ K))
  :cY P w K mg base CX0 2 f fd ["_law_pen_here","_law_world_here","_law_fresh"] (aB5 K):=by
 refine F.ok aB6 (fun vs H Q E h=>?_) (fun gk A outer s H vs Q E hr h=>?_)
 ·obtain⟨p,c,ns,W,B,sc,os,own,S,fl,lp,ps,fr,a,rfl,_⟩:=h;rfl
 ·obtain⟨p,c,ns,W,B,sc,os,own,S,fl,lp,ps,fr,a,rfl,rb,cu,ha,hfr,hf8,hf3,hso,hh1,hh3,k⟩:=h;have hu:=d8 hr;have nd:=aB6.nd;refine⟨_,(aB (aS (i:=3) nd rfl (Av rfl) (aV (iS rfl) (by rfl) ay (by kernel_rfl) (aG (bG hu (pv 1) aN Ig) aE)))
   (aB (aS (i:=4) nd rfl (DK rfl) (cG GD hr (aG (pv 0) (aG aD aE))))
   (aB (aS (i:=5) nd rfl (DK rfl) (bG hu (bG hu (pv 1) aN Ig) (aR bZ (pv 3) (cG GD hr (aG (pv 0) (aG (aV bK (by rfl) ad AW (aG (pv 3) aE)) aE))) Ig) Ig))
   (aB (i7 (i:=6) (N:=["_law_land","_law_world_here","_law_way","_law_house"]) (src:=[none,some 1,some 4,some 5]) (osc:=aO aBE) (oN:=["_law_pen_here","_law_world_here","_law_fresh","_law_stand","_law_way","_law_house","_law_some","_law_new","_law_name"]) ⟨by rfl,by decide,by decide,by decide,rfl,by rfl⟩ nd rfl (iP (pv 3)) (fun cl s H fp iw C=>⟨aZ (i:=0) (show(["_law_land","_law_world_here","_law_way","_law_house"]:List Str).Nodup by decide) rfl (Av rfl),pB (PW.pt (aA9 (aX c3 (bG hu (bG hu (pv 1) aN Ig) (pv 0) Ig) (pv 3) (bH _)) (wD (aX c3 (pv 2) aD (bH _))))),pv 0⟩))
   (aB (d6 (rS Be (aX aBe (aV bK (by rfl) ad AW (aG (pv 6) aE)) (bC cZ aD (bC eU (pv 4) aD)) (bH _))
   (aM (dC (jI A0 DS DR xZ (pv 6) (aG (cG GD hr (aG (pv 0) (aG (aV bK (by rfl) ad AW (aG (pv 6) aE)) aE))) aE))))))
   (aB (d6 (cB (aX gJ (pv 4) (cJ (aG aD (aG aD aE))) (by with_unfolding_all rfl)) (aM (aS (i:=6) nd rfl (Av rfl) (aV (wP rfl) (by rfl) ay (by kernel_rfl) (aG (dD (qF rfl) (by rfl) eb (by kernel_rfl) (aG (bC sC (bC sC (pv 6) (e8 m8 (pv 3) gN (gO aD))) (e8 m8 (pv 3) (gO (iC eZ aD)) gN)) aE)) aE)))) bB))
   (aB (d6 (cB (aAM (PW.pt (aA9 (aX oU (aV bK (by rfl) ad AW (aG (pv 6) aE)) aD (bH _)) (wD (aX gJ (pv 4) (cJ (aG aD (aG aD aE))) (by with_unfolding_all rfl)))))) (aM (aS (i:=6) nd rfl (Av rfl) (bC sC (e8 m8 (pv 6) gN (gO aD)) (c7 (aG (aR bZ (pv 2) (iC eZ aD) Ig) aE))))) bB))
   (aB (aS (i:=7) nd rfl (Av rfl) (jI A0 DS DR xZ (pv 2) (aG aD aE)))
   (aB (aS (i:=8) nd rfl (Av rfl) (cG GD hr (aG (pv 0) (aG aD aE))))
   (aB (d6 (cB (aX c3 (pv 8) aD (bH _)) (aM (aS (i:=7) nd rfl (Av rfl) (aR bZ (pv 6) (cG GD hr (aG (pv 0) (aG (aV bK (by rfl) ad AW (aG (pv 6) aE)) aE))) Ig))) bB))
   (aB (d6 (cB (aX c3 (pv 8) aD (bH _)) (aM (aS (i:=7) nd rfl (Av rfl) (aR bZ (pv 3) (cG GD hr (aG (pv 0) (aG (aV bK (by rfl) ad AW (aG (pv 3) aE)) aE))) Ig))) bB))
   (aM (bJ (cJ (aG (dD eI (by rfl) dd (by kernel_rfl) (aG (aV uN (by rfl) ay (by kernel_rfl) (aG (pv 6) aE)) aE)) (aG (pv 7) aE)))))))))))))))),?_⟩
  refine K13.tl fun R hR=>?_;obtain⟨ks,hks,hin,hkn⟩:=uD rb.wl.hv rb.wl.ks;have eR:ks.length=S.hs.length:=by
   have:=congrArg Cg hks;rw[Ab,Ab]at this;exact this.symm
  refine⟨_,rfl,W,_,rfl,(cu.wl rb).get (fH _ _),B.ho,S.hs,ks,rfl,(cu.wl rb).ho,hks,fun J q de pm=>?_⟩;have sS:=aK (o:=.lst (q.map V.str)) de;have bx:=cu.same sS;have eS:upd H J (.lst (q.map V.str)) J=some (.lst (q.map V.str)):=aA;have dm:=cu.back rb de;generalize upd H J _=HS at bx eS ⊢;have gm:q.length=S.hs.length:=by rw[pm.length_eq,eR]
  have am:∀ z∈q,aP S z=true:=fun z hz=>hin z (pm.mem_iff.mp hz);have ey:q.Nodup:=pm.nodup_iff.mpr hkn;dsimp only[aY];subst hR;refine K13.tl fun R hR=>?_;refine⟨_,rfl,p,c,ns,_,_,rfl,bx.pen rb,by omega,by decide,by decide,fun r1 a1 H1 gg fN l1 u1 eN q1=>?_⟩;have bi:=bx.draw q1 eN;have cw:=bx.lst eS q1;dsimp only[aY];subst hR;refine K13.tl fun R hR=>?_;refine⟨_,rfl,W,_,rfl,(bi.wl rb).get (fH _ _),_,rfl,_,rfl,_,rfl,J,_,rfl,.inl (aU cw),p,c,ns,_,_,rfl,bi.pen rb,by omega,by rw[Ab];omega,gS (by rw[Ab];omega),fun r2 a2 H2 eL eM l2 u2 ew q2=>?_⟩;have bd:=bi.draw q2 ew;have aL:=bi.lst cw q2;obtain⟨y,hy,haty⟩:=gC eL eM;obtain⟨vy,hvy⟩:=A7.mp (show(bF S.hs (Ac y)).isSome=true from am y hy);obtain⟨hou,_,rfl,_⟩:=rb.wl.hv _ _ hvy;refine⟨J,_,_,_,rfl,rfl,aU aL,haty,B.ho,_,rfl,.inl ⟨S.hs,Ac y,.inl (bd.wl rb).ho,rfl,hvy.symm⟩,?_⟩;dsimp only[aY];subst hR;obtain⟨ff,hff⟩:∃ ff:Str→Bool,ff=fun z=>decide (bF S.hs (Ac z)=some (.str hou)) || decide (r1=0):=⟨_,rfl⟩
  refine⟨_,rfl,J,rfl,⟨_,aU aL⟩,?_⟩;refine nB (K:=K) (xs:=q.map V.str) (fun i ys σ' H'=>∃(o:Option V),σ'=[o,some (.ref W),some (.int r1),some (.str hou)]∧H'=H2∧ys=((q.take i).filter ff).map V.str) ⟨none,rfl,rfl,rfl⟩ (aQ (by rw[Ab];omega)) (fun i ys σ H p=>by obtain⟨_,_,_,rfl⟩:=p;rw[Ab];exact AG (BX _ _) (by rw[AM];exact Ej _ _)) (fun i ys σ H p=>by obtain⟨_,_,rfl,_⟩:=p;exact aU aL) ?_ ?_
  ·rintro i v ys σ' H3 hv ⟨o,rfl,rfl,rfl⟩;rw[Ao]at hv;obtain⟨z,hz,rfl⟩:=AL.mp hv;obtain⟨vz,hvz⟩:=A7.mp (show(bF S.hs (Ac z)).isSome=true from am z (AK hz));obtain⟨hz2,_,rfl,_⟩:=rb.wl.hv _ _ hvz;have et:(q.take (i + 1)).filter ff=(q.take i).filter ff ++ if ff z=true then[z] else[]:=by
    rw[AC,hz,CI];congr 1;show EJ _ [z]=_;rw[BF,Eh]
   dsimp only[aY];refine⟨_,rfl,W,_,rfl,(bd.wl rb).get (fH _ _),_,rfl,B.ho,_,rfl,.inl ⟨S.hs,Ac z,.inl (bd.wl rb).ho,rfl,hvz.symm⟩,_,rfl,rfl,_,rfl,cT (fun g=>?_) fun g=>?_⟩
   ·have g':hz2=hou:=V.str.inj (Ie g);have ef:ff z=true:=by rw[hff];dsimp only;rw[hvz,g',Ic rfl];rfl
    refine fU ⟨_,rfl,_,rfl,rfl,?_⟩;rw[et,Ib ef,Aw];rfl
   ·have g':hz2≠hou:=fun e=>g (Ic (by rw[e]));refine⟨_,rfl,rfl,_,rfl,cT (fun g2=>?_) fun g2=>?_⟩
    ·have b1:r1=0:=V.int.inj (Ie g2);have ef:ff z=true:=by rw[hff];dsimp only;rw[b1,Ic rfl,Bool.or_true]
     refine⟨_,rfl,_,rfl,rfl,?_⟩;rw[et,Ib ef,Aw];rfl
    ·have b1:r1≠0:=fun e=>g2 (Ic (by rw[e]));have ef:¬ ff z=true:=by
      rw[hff];dsimp only;rw[hvz,decide_eq_false (show¬ some (V.str hz2)=some (V.str hou) from fun e=>g' (V.str.inj (Cc.inj e))),decide_eq_false b1];decide
     refine⟨_,rfl,rfl,?_⟩;rw[et,Ia ef,BM]
  rintro ys σ' H3 ⟨o,rfl,rfl,rfl⟩ O cg;rw[Ab,AH];have ci:=bd.back rb cg;have eK:J≠O:=aJ aL cg;have sL:=aK (o:=.lst ((q.filter ff).map V.str)) cg;have b2:=bd.same sL;have cj:=sL _ _ aL;have bv:upd H3 O (.lst ((q.filter ff).map V.str)) O=some (.lst ((q.filter ff).map V.str)):=aA;generalize upd H3 O _=H4 at b2 cj bv ⊢;have ck:(q.filter ff).Nodup:=ey.filter _;have cm:∀ z∈q.filter ff,z∈q:=fun z hz=>(BD.mp hz).1;have cq:1≤(q.filter ff).length:=E6 (BD.mpr ⟨hy,by rw[hff];dsimp only;rw[hvy,Ic rfl];rfl⟩);have du:(q.filter ff).length≤300:=AG (BX _ _) (by omega);generalize q.filter ff=ez at ck cm cq du bv;have fj:0≤r1 % 3∧r1 % 3 < 3:=by omega
  dsimp only[aY];refine⟨fun σ' H'=>∃(sm:List Str) (a':Int),σ'=[some (.ref p),some (.ref W),some (.ref fl),some (.ref J),some (.int r1),some (.str hou),some (.ref O),none,none]∧Cur H H' p c a' fl fr∧a2≤a'∧a'≤a2 + 300∧H' J=some (.lst (q.map V.str))∧H' O=some (.lst (sm.map V.str))∧sm.Nodup∧(∀ z∈sm,z∈q)∧1≤sm.length∧sm.length≤4,?_,?_⟩
  ·refine⟨fun n σ H'=>∃(sm:List Str) (a':Int),σ=[some (.ref p),some (.ref W),some (.ref fl),some (.ref J),some (.int r1),some (.str hou),some (.ref O),none,none]∧Cur H H' p c a' fl fr∧a2≤a'∧a' + sm.length≤a2 + 300∧H' J=some (.lst (q.map V.str))∧H' O=some (.lst (sm.map V.str))∧sm.Nodup∧(∀ z∈sm,z∈q)∧1≤sm.length∧sm.length=n,⟨_,ez,a2,rfl,b2,by omega,by omega,cj,bv,ck,cm,cq,rfl⟩,?_⟩;rintro n σ H5 ⟨sm,a5,rfl,aj,l5,u5,az,ah,ax,au,bo,rfl⟩;refine⟨_,rfl,O,_,rfl,.inl (aU ah),_,rfl,_,_,rfl,rfl,(by show(0:Int) < 3;decide),_,_,rfl,rfl,_,_,rfl,rfl,_,rfl,cT (fun g=>?_) fun g=>?_⟩
   ·have g':=Ie g;rw[Ab]at g';have g2:2 < sm.length:=by omega
    refine⟨fun σ' H'=>∃(ar:List Str) (a':Int),σ'=[some (.ref p),some (.ref W),some (.ref fl),some (.ref J),some (.int r1),some (.str hou),some (.ref O),none,none]∧Cur H H' p c a' fl fr∧a2≤a'∧a' + ar.length≤a2 + 300∧H' J=some (.lst (q.map V.str))∧H' O=some (.lst (ar.map V.str))∧ar.Nodup∧(∀ z∈ar,z∈q)∧1≤ar.length∧ar.length=sm.length - 1,fun σ' H' z=>⟨sm.length - 1,by omega,z⟩,_,rfl,.inl ⟨rfl,_,aU ah⟩,_,rfl,_,rfl,O,_,rfl,.inl (aU ah),p,c,ns,_,_,rfl,aj.pen rb,by omega,by rw[Ab];omega,gS (by rw[Ab];omega),fun r6 a6 H6 gq eF l6 u6 e3 q6=>?_⟩;have av:=aj.draw q6 e3;have al:=aj.lst az q6;have aC:=aj.lst ah q6;rw[Ab]at eF;obtain⟨j,rfl⟩:∃ j:Nat,r6=j:=⟨r6.toNat,by omega⟩
    have hj:j < sm.length:=by omega
    have eE:ixN (sm.map V.str).length (j:Int)=some j:=by
     unfold ixN;rw[Ib (by omega),Ib (by rw[Ab];omega)];rfl
    refine⟨O,_,_,j,.str sm[j],rfl,rfl,aC,by omega,by omega,(rL eE).1,by rw[Ao,Aj hj];rfl,?_⟩;rw[show(sm.map V.str).eraseIdx j=(sm.eraseIdx j).map V.str from v7 _ _];have cL:=Dl hj;exact⟨sm.eraseIdx j,a6,rfl,av.upd rb ci,by omega,by omega,by rw[aF eK];exact al,aA,Dn (List.eraseIdx_sublist _ _) ax,fun z hz=>au z (List.mem_of_mem_eraseIdx hz),by omega,cL⟩
   ·have g':¬ (2 + r1 % 3 < ((sm.map V.str).length:Nat)):=fun h=>g (Ic h);rw[Ab]at g';exact⟨sm,a5,rfl,aj,by omega,by omega,az,ah,ax,au,bo,by omega⟩
  rintro σ' H5 ⟨sm,a5,rfl,aj,l5,u5,az,ah,ax,au,bo,fx⟩;clear cj bv b2 ck cm cq du;refine⟨fun σ' H'=>∃(O:Ag) (sm:List Str),σ'=[some (.ref p),some (.ref W),some (.ref fl),some (.ref J),some (.int r1),some (.str hou),some (.ref O),none,none]∧Cur H H' p c a5 fl fr∧H' J=some (.lst (q.map V.str))∧H' O=some (.lst (sm.map V.str))∧O≠fl∧sm.Nodup∧(∀ z∈sm,z∈q)∧sm.length≤6∧1≤sm.length,?_,?_⟩
  ·refine⟨_,rfl,zZ2,fun u bY=>?_⟩;have su:=aK (o:=.tup [V.int 8,.int 9]) bY;refine⟨u,_,rfl,.inr (aH aA),rfl,rfl,_,rfl,?_⟩;have av:=aj.same su;have al:=su _ _ az;have aC:=su _ _ ah;generalize upd H5 u _=H6 at av al aC ⊢;refine cT (fun g=>?_) fun g=>?_
   ·obtain⟨c1,hc1,hc1m⟩:=m9 (l:=q) (vs:=jZ (q.map V.str) none (some 1)) fun v hv=>aB4 hv;obtain⟨c2,hc2,hc2m⟩:=m9 (l:=q) (vs:=jZ (q.map V.str) (some (-1)) none) fun v hv=>aB4 hv;have fw:c1.length≤1:=by
     have:=congrArg Cg hc1;rw[show(some (1:Int))=some ((1:Nat):Int) from rfl,wM (α:=Unit),AM]at this;simp only[Ab]at this;omega
    have fE:c2.length≤1:=by
     have:=congrArg Cg hc2;rw[Ab]at this;have:=aCU (xs:=q.map V.str);omega
    refine⟨_,rfl,_,rfl,_,rfl,J,_,rfl,aU al,fun D1 cr=>?_⟩;rw[hc1];have s1:=aK (o:=.lst (c1.map V.str)) cr;refine⟨O,D1,_,_,rfl,rfl,s1 _ _ aC,aA,aQ (by rw[Ab,Ab];omega),fun D2 bp=>?_⟩;have s2:=s1.trans (aK (o:=.lst (sm.map V.str ++ c1.map V.str)) bp);have e2:upd (upd H6 D1 (.lst (c1.map V.str))) D2 (.lst (sm.map V.str ++ c1.map V.str)) D2=some (.lst (sm.map V.str ++ c1.map V.str)):=aA;generalize upd (upd H6 D1 (.lst (c1.map V.str))) D2 _=H7 at s2 e2 ⊢;refine⟨_,rfl,_,rfl,_,rfl,J,_,rfl,aU (s2 _ _ al),fun D3 bg=>?_⟩;rw[hc2];have s3:=s2.trans (aK (o:=.lst (c2.map V.str)) bg);have eu:D2≠D3:=aJ e2 bg;refine⟨D2,D3,_,_,rfl,rfl,by rw[aF eu];exact e2,aA,aQ (by rw[Ay,Ab,Ab,Ab];omega),fun D4 ev=>?_⟩;have s4:=s3.trans (aK (o:=.lst ((sm.map V.str ++ c1.map V.str) ++ c2.map V.str)) ev);have e4:upd (upd H7 D3 (.lst (c2.map V.str))) D4 (.lst ((sm.map V.str ++ c1.map V.str) ++ c2.map V.str)) D4=some (.lst ((sm ++ c1 ++ c2).map V.str)):=by rw[aA,Aw,Aw]
    generalize upd (upd H7 D3 (.lst (c2.map V.str))) D4 _=H8 at s4 e4 ⊢;have f3:(sm ++ c1 ++ c2).length≤6:=by rw[Ay,Ay];omega
    refine⟨D4,sm ++ c1 ++ c2,rfl,aU e4,by omega,fun st eJ=>?_⟩;have s5:=s4.trans (aK (o:=tK P w st (sm ++ c1 ++ c2)) eJ);refine⟨st,sm ++ c1 ++ c2,rfl,aA,by omega,fun l m2 hl bn f4=>?_⟩;have s6:=s5.trans (aK (o:=.lst (m2.map V.str)) hl);have cL:(oB (sm ++ c1 ++ c2)).length≤(sm ++ c1 ++ c2).length:=lA (fun i=>(sm ++ c1 ++ c2).getD i "") (sm ++ c1 ++ c2).length;have cx:=(av.same s5).back rb hl;refine⟨l,m2,rfl,av.same s6,s6 _ _ al,aA,(fun e=>by rw[e,cu.ef]at cx;cases cx),bn.nodup_iff.mpr (oC _),fun z hz=>?_,by rw[bn.length_eq];omega,?_⟩
    rotate_left
    ·obtain⟨z,hz⟩:=Ef (show 0 < sm.length by omega);exact E6 (bn.mem_iff.mpr ((tJ _ z).mpr (BH _ (BH _ hz))))
    have:=(tJ _ z).mp (bn.mem_iff.mp hz);rcases AO.mp this with h | h
    ·rcases AO.mp h with h | h
     ·exact au z h
     ·exact hc1m z h
    ·exact hc2m z h
   ·exact⟨O,sm,rfl,av,al,aC,(fun e=>by rw[e,cu.ef]at ci;cases ci),ax,au,by omega,bo⟩
  rintro σ' H9 ⟨LM,s9,rfl,b0,b6,bw,eW,b3,aT,dq,fy⟩;clear az ah aj ax au bo;have ab:fr≠[]:=fun e=>by rw[e]at hf8;simp at hf8
  obtain⟨f0,M,hf0⟩:∃ f0 M,fr=f0 :: M:=by
   cases fr with
   | nil=>exact absurd rfl ab
   | cons f0 M=>exact⟨f0,M,rfl⟩
  have ba:fr.getLast ab∈M:=by
   have bO:M≠[]:=fun e=>by rw[hf0,e]at hf8;simp at hf8
   have:fr.getLast ab=M.getLast bO:=by
    subst hf0;exact List.getLast_cons bO
   rw[this];exact EU _
  have aw:fr.getLast ab∈fr:=EU _;have bN:=xL ab;generalize fr.getLast ab=fz at ba aw bN;refine⟨fun σ' H'=>∃(O:Ag) (sm:List Str),σ'=[some (.ref p),some (.ref W),some (.ref fl),some (.ref J),some (.int r1),some (.str hou),some (.ref O),none,none]∧Cur H H' p c a5 fl fr∧H' J=some (.lst (q.map V.str))∧H' O=some (.lst (sm.map V.str))∧O≠fl∧sm.Nodup∧(∀ z∈sm,cH z=true∧(z ∉ fr∨z∈M))∧2≤sm.length∧sm.length≤6,?_,?_⟩
  ·refine⟨fun b G=>Cur H G p c a5 fl fr∧G J=some (.lst (q.map V.str))∧G LM=some (.lst (s9.map V.str))∧(b=false→2≤s9.length),?_,?_⟩
   ·refine⟨_,rfl,LM,_,rfl,.inl (aU bw),_,_,rfl,rfl,_,rfl,cT (fun g=>?_) fun g=>?_⟩
    ·exact⟨b0,b6,bw,fun e=>by cases e⟩
    ·have g':¬ (((s9.map V.str).length:Nat):Int) < 2:=fun h=>g (Ic h);rw[Ab]at g';refine⟨_,rfl,zZ2,fun u bY=>?_⟩;have su:=aK (o:=.tup [V.int 1,.int 9]) bY;exact⟨u,_,rfl,.inr (aH aA),rfl,rfl,_,rfl,b0.same su,su _ _ b6,su _ _ bw,fun _=>by omega⟩
   rintro b G ⟨dw,dy,dh,hb⟩;refine cT (fun g=>?_) fun g=>?_
   ·refine⟨_,rfl,_,rfl,LM,_,rfl,aU dh,fun D1 cr=>?_⟩;rw[show(some (3:Int))=some ((3:Nat):Int) from rfl,wM (α:=Unit),← Gv];have s1:=aK (o:=.lst ((s9.take 3).map V.str)) cr;have Z:=dw.same s1;have aq:=s1 _ _ dy;have cc:upd G D1 (.lst ((s9.take 3).map V.str)) D1=some (.lst ((s9.take 3).map V.str)):=aA;generalize upd G D1 _=G1 at Z aq cc ⊢;refine⟨_,rfl,_,rfl,fl,_,_,_,rfl,rfl,aU Z.ef,bN,zZ1,fun D2 bp=>?_⟩;have s2:=aK (o:=.lst [V.str fz]) bp;have gh:D1≠D2:=aJ cc bp;refine⟨D1,D2,_,_,rfl,rfl,s2 _ _ cc,aA,aQ (by rw[Ab,AM];show _ + 1≤_;omega),fun D3 bg=>?_⟩;have s3:=s2.trans (aK (o:=.lst ((s9.take 3).map V.str ++ [V.str fz])) bg);have dc:=(Z.same s2).back rb bg;refine⟨D3,s9.take 3 ++ [fz],rfl,Z.same s3,s3 _ _ aq,by rw[aA,Aw];rfl,(fun e=>by rw[e,cu.ef]at dc;cases dc),?_,fun z hz=>?_,?_,?_⟩
    ·refine Bw.mpr ⟨Dn (List.take_sublist _ _) b3,by simp,fun x hx y hy e=>?_⟩;rw[AE.mp hy]at e;exact(hso x (am x (aT x (B2 hx)))).2 (by rw[e];exact aw)
    ·rcases AO.mp hz with h | h
     ·have:=hso z (am z (aT z (B2 h)));exact⟨this.1,.inl this.2⟩
     ·rw[AE.mp h];exact⟨hfr.ok _ aw,.inr ba⟩
    ·rw[Ay,AM];show 2≤_ + 1;omega
    ·rw[Ay,AM];show _ + 1≤6;omega
   ·exact⟨LM,s9,rfl,dw,dy,dh,eW,b3,fun z hz=>⟨(hso z (am z (aT z hz))).1,.inl (hso z (am z (aT z hz))).2⟩,hb (by simpa using g),dq⟩
  rintro σ' be ⟨LQ,ag,rfl,Z,aq,cI,eX,dj,bb,fg,e0⟩;clear b6 bw b0 b3 aT dq;have el:M.Nodup:=by have:=hfr.nd;rw[hf0]at this;exact(AY.mp this).2
  have d2:f0 ∉ M:=by have:=hfr.nd;rw[hf0]at this;exact(AY.mp this).1
  have bf:∀ z∈M,z∈fr:=fun z hz=>by rw[hf0];exact An _ hz
  have bI:be fl=some (.lst (V.str f0 :: M.map V.str)):=by have:=Z.ef;rw[hf0]at this;exact this
  refine⟨_,rfl,.inl ⟨rfl,_,aU bI⟩,fl,_,_,0,.str f0,rfl,rfl,bI,by decide,by decide,(rL (j:=0) (by unfold ixN;rw[Ib (by decide),Ib (by show(0:Int) < ((_ + 1:Nat):Int);omega)];rfl)).1,rfl,?_⟩;have ek:J≠fl:=fun e=>by rw[e,cu.ef]at dm;cases dm
  have ai:=Z.setF M;have bM:upd be fl (.lst (M.map V.str)) J=some (.lst (q.map V.str)):=by rw[aF ek];exact aq
  have bR:upd be fl (.lst (M.map V.str)) LQ=some (.lst (ag.map V.str)):=by rw[aF eX];exact cI
  show(aY 7) (V.str f0) _ (upd be fl (.lst (M.map V.str))) _;generalize upd be fl _=fZ at ai bM bR ⊢;dsimp only[aY];refine⟨_,rfl,p,c,ns,_,_,rfl,ai.pen rb,by omega,by decide,by decide,fun d4 b5 gt fB fb gl gy cy b7=>?_⟩;have Y:=ai.draw b7 cy;have a0:=ai.lst bM b7;have af:=ai.lst bR b7;dsimp only[aY];have ap:cH f0=true∧(f0 ∉ M∨∃ z∈ag,z∈M):=⟨hfr.ok _ (by rw[hf0];exact Al),.inl d2⟩
  refine⟨fun σ' H'=>∃(nw:Str) (a':Int),σ'=[some (.ref p),some (.ref W),some (.ref fl),some (.ref J),some (.int r1),some (.str hou),some (.ref LQ),some (.str nw),some (.int d4)]∧Cur H H' p c a' fl M∧b5≤a'∧a'≤b5 + 1∧H' J=some (.lst (q.map V.str))∧H' LQ=some (.lst (ag.map V.str))∧cH nw=true∧(nw ∉ M∨∃ z∈ag,z∈M),?_,?_⟩
  ·refine⟨_,rfl,rfl,_,rfl,cT (fun g=>?_) fun g=>?_⟩
   ·refine⟨_,rfl,_,rfl,_,rfl,LQ,_,rfl,.inl (aU af),p,c,ns,_,_,rfl,Y.pen rb,by omega,by rw[Ab];omega,gS (by rw[Ab];omega),fun gc eH f5 d3 db gw f2 dz bj=>?_⟩;have da:=Y.draw bj dz;obtain⟨nw,hnw,hatn⟩:=gC d3 db;refine⟨LQ,_,_,_,rfl,rfl,aU (Y.lst af bj),hatn,nw,eH,rfl,da,by omega,by omega,Y.lst a0 bj,Y.lst af bj,(bb nw hnw).1,?_⟩;rcases(bb nw hnw).2 with h | h
    ·exact .inl fun h'=>h (bf _ h')
    ·exact .inr ⟨nw,hnw,h⟩
   ·exact⟨f0,b5,rfl,Y,by omega,by omega,a0,af,ap.1,ap.2⟩
  rintro σ' gr ⟨nw,cf,rfl,ak,fK,fM,bD,bP,dg,di⟩;clear a0 af Y;refine⟨fun σ' H'=>∃(nw:Str) (a':Int),σ'=[some (.ref p),some (.ref W),some (.ref fl),some (.ref J),some (.int r1),some (.str hou),some (.ref LQ),some (.str nw),some (.int d4)]∧Cur H H' p c a' fl M∧cf≤a'∧a'≤cf + 1∧H' LQ=some (.lst (ag.map V.str))∧cH nw=true∧(nw ∉ M∨∃ z∈ag,z∈M),?_,?_⟩
  ·refine⟨_,rfl,rfl,_,rfl,cT (fun g=>?_) fun g=>?_⟩
   ·refine⟨_,rfl,_,rfl,_,rfl,J,_,rfl,.inl (aU bD),p,c,ns,_,_,rfl,ak.pen rb,by omega,by rw[Ab];omega,gS (by rw[Ab];omega),fun fL eo gx dt c9 gj gf cz ca=>?_⟩;have dk:=ak.draw ca cz;obtain⟨n2,hn2,hatn⟩:=gC dt c9;have:=hso n2 (am n2 hn2);exact⟨J,_,_,_,rfl,rfl,aU (ak.lst bD ca),hatn,n2,eo,rfl,dk,by omega,by omega,ak.lst bP ca,this.1,.inl fun h'=>this.2 (bf _ h')⟩
   ·exact⟨nw,cf,rfl,ak,by omega,by omega,bP,dg,di⟩
  rintro σ' ec ⟨n3,en,rfl,df,gb,f1,dr,bE,ea⟩;refine⟨_,rfl,LQ,ag,rfl,aU dr,aQ (by omega),fun l m3 hl bt=>?_⟩;have sl:=aK (o:=.lst (m3.map V.str)) hl;refine⟨l,_,rfl,.inl ⟨aU aA,fun tp em=>?_⟩⟩;have dl:=sl.trans (aK (o:=.tup (m3.map V.str)) em);have dV:upd (upd ec l (.lst (m3.map V.str))) tp (.tup (m3.map V.str)) tp=some (.tup (m3.map V.str)):=aA;generalize upd (upd ec l (.lst (m3.map V.str))) tp _=gp at dl dV ⊢;refine⟨_,rfl,zZ2,fun t ht=>?_⟩;have d5:=aK (o:=.tup [V.ref tp,.str n3]) ht;have gv:m3.length=ag.length:=bt.length_eq;have bL:∀ z∈m3,cH z=true:=fun z hz=>(bb z (bt.mem_iff.mp hz)).1;have c0:(m3.map BC).all zJ=true:=by
   rw[A2];intro d hd;obtain⟨z,hz,rfl⟩:=AQ.mp hd;exact bL z hz
  refine k t _ [.tuple (m3.map BC),.str n3] en M _ (df.same (dl.trans d5)) (by omega) (by omega) bf el (by rw[hf0,AI];omega) aA (.cons (.tup (d5 _ _ dV) (by rw[Ab];omega) (qK fun z hz=>by have:=(qJ (bL z hz)).2;omega)) (.cons (iG bE) .nil)) fun ws=>⟨.join bE (bt.nodup_iff.mpr dj) (by omega) (by omega) c0,fun h=>absurd h (by decide),fun name day bc R' e=>absurd (show("join":Str)="part" from e) (by decide),fun bc R' e=>absurd e (by decide),fun bc R' _ e=>?_⟩
  injection e with e1 e2;injection e2 with e2;injection e1 with e1;injection e2 with e2;have:=nG (fun{a b} (e:BC a=BC b)=>by injection e) e1;subst this e2;rcases ea with h | ⟨z,h1,h2⟩
  ·exact .inl h
  ·exact .inr ⟨z,bt.mem_iff.mpr h1,h2⟩
section
variable{K:Ah}{H0 H H':Hp}{p c:Ag}{ns:List Int}{a a':Int}{W:Ag}{B:WA}{sc:Int}{os:List UK}{own:UK→Str}{S:Ex}{fl lp:Ag}{fr jo:List Str}{ps:List Str}
theorem RSB.at(b:RSB K H0 p c ns W B sc os own S fl lp ps)(h:Cur H0 H p c a fl fr):RSB K H p c ns W B sc os own S fl lp ps:=by
 obtain⟨l,_,e⟩:=h.ob;exact⟨h.rd b,b.sm,h.wl b,h.ep b,b.np,b.p1,b.p3,b.pw,b.fo,b.fp,⟨_,e⟩,⟨_,h.ef⟩⟩
theorem Cur.here(h:Cur H0 H p c a fl fr):Cur H H p c a fl fr:=⟨cQ.refl H,h.ob,h.ge,h.ef⟩
theorem Cur.trans(h:Cur H0 H p c a fl fr)(h':Cur H H' p c a' fl jo):Cur H0 H' p c a' fl jo:=⟨h.kx.trans h'.kx,h'.ob,h'.ge,h'.ef⟩
end
structure uF(S:Ex)(ws:List Str):Prop where
 ks:S.inc.map (·.1)=ws.map Ac
 v:∀ f∈ws,cH f=true∧∃ n:Int,bF S.inc (Ac f)=some (.int n)∧0≤n∧n≤10000000
 n1:1≤ws.length
 n8:ws.length≤8
theorem uG{l:List Int}{r:Int}(q:0≤r)(h1:r < (l.length:Nat)):∃ z,z∈l∧atI (l.map V.int) r=some (.int z):=by
 obtain⟨j,rfl⟩:∃ j:Nat,r=j:=⟨r.toNat,by omega⟩
 obtain⟨z,hz⟩:∃ z,l[j]?=some z:=⟨_,Aj (by omega)⟩
 exact⟨z,AK hz,f9 (by rw[Ao,hz];rfl)⟩
def jX(word:Str)(b8:List V):Str:=if word="mend"∧b8.length=1 then "alone" else word
inductive aAi(K:Ah)(vs:List V)(H:Hp)(Q:VK)(u3_:XK):Prop
 | mk (p c:Ag) (ns:List Int) (W:Ag) (B:WA) (sc:Int) (os:List UK) (own:UK→Str) (S:Ex) (fl lp:Ag) (ps fr ws:List Str) (a:Int) (word:Str) (q0:vs=[.ref p,.ref W,.ref fl,.ref lp,.str word]) (q1:RSB K H p c ns W B sc os own S fl lp ps) (q2:Cur H H p c a fl fr) (q3:a≤700000) (q4:Nms fr) (q5:8≤fr.length) (q6:fr.length≤300) (q7:uE S fr) (q8:1≤S.hs.length) (q9:S.hs.length≤300) (q10:uF S ws) (q11:word∈gH) (q12:∀(t:Ag) (b8:List V) (ds:List A8) (a':Int) (jo:List Str) (H':Hp),Cur H H' p c a' fl jo→a≤a'→a'≤a + 500→(∀ z∈jo,z∈fr)→jo.Nodup→fr.length≤jo.length + 7→H' t=some (.tup b8)→cE false H' b8 ds→b8.length≤4→xK sc ws (jX word b8) ds jo→Q (.ref t) H'):aAi K vs H Q u3_
def aEV(K:Ah):Sp:=fun vs H Q u3_=>aAi K vs H Q u3_
theorem aEW:cC ["_law_pen_here","_law_world_here","_law_fresh","_law_pool","_law_word_here","_law_stand","_law_fields","_law_house","_law_other","_law_field","_law_inches","_law_inch"] ["_law_pen_here","_law_world_here","_law_fresh","_law_pool","_law_word_here"] (aO aEe):=⟨rfl,rfl,rfl,by decide,rfl,by decide,by decide⟩
theorem aF2{f:Ag}{fd:A3}(F:Fun K "_law_made" "_law_made" aEe f fd)(ab:mg "len"=none)(ay:mg "sorted"=none)(bi:mg "min"=none)
  (GD:Cl P w K mg base 1 "_law_draw" ["_law_pen_here","_law_many"] (mJ K))
  (GP:Cl P w K mg base 2 "_law_part" ["_law_pen_here","_law_world_here","_law_fresh","_law_pool"] (aB2 K))
  (GJ:Cl P w K mg base 2 "_law_join" ["_law_pen_here","_law_world_here","_law_fresh"] (aB5 K))
  :cY P w K mg base CX0 3 f fd ["_law_pen_here","_law_world_here","_law_fresh","_law_pool","_law_word_here"] (aEV K):=by
 refine F.ok aEW (fun vs H Q E h=>?_) (fun d4 A outer s H vs Q E hr h=>?_)
 ·obtain⟨p,c,ns,W,B,sc,os,own,S,fl,lp,ps,fr,ws,a,word,rfl,_⟩:=h;rfl
 ·obtain⟨p,c,ns,W,B,sc,os,own,S,fl,lp,ps,fr,ws,a,word,rfl,rb,cu,ha,hfr,hf8,hf3,hso,hh1,hh3,hic,hwd,k⟩:=h;have hu:=d8 hr;have Z:dQ 1 _:=hr.mono (by decide);have nd:=aEW.nd;refine⟨_,(aB (aS (i:=5) nd rfl (Av rfl) (aV (iS rfl) (by rfl) ay (by kernel_rfl) (aG (bG hu (pv 1) aN Ig) aE)))
   (aB (aS (i:=6) nd rfl (Av rfl) (aV (iS rfl) (by rfl) ay (by kernel_rfl) (aG (bG hu (pv 1) aN Ig) aE)))
   (aB (aS (i:=7) nd rfl (Av rfl) (aR bZ (pv 3) (cG GD Z (aG (pv 0) (aG (aV bK (by rfl) ab AW (aG (pv 3) aE)) aE))) Ig))
   (aB (aS (i:=8) nd rfl (Av rfl) (aR bZ (pv 3) (cG GD Z (aG (pv 0) (aG (aV bK (by rfl) ab AW (aG (pv 3) aE)) aE))) Ig))
   (aB (aS (i:=9) nd rfl (Av rfl) (aR bZ (pv 6) (cG GD Z (aG (pv 0) (aG (aV bK (by rfl) ab AW (aG (pv 6) aE)) aE))) Ig))
   (aB (aS (i:=10) nd rfl (Av rfl) (bG hu (bG hu (pv 1) aN Ig) (pv 9) Ig))
   (aB (aS (i:=11) nd rfl (Av rfl) (aV (m7 rfl) (by rfl) bi (by kernel_rfl) (aG (bC kU (bC nZ aD aD) aD) (aG (cG GD Z (aG (pv 0) (aG (bC cZ (bC cZ (pv 10) aD) (bC m5 (pv 10) aD)) aE))) aE))))
   (aB (cB (aX c3 (pv 4) aN (bH _)) (aM (bJ (cG GP hr (aG (pv 0) (aG (pv 1) (aG (pv 2) (aG (pv 3) aE))))))) bB)
   (aB (cB (aX c3 (pv 4) aN (bH _)) (aM (bJ (cG GJ hr (aG (pv 0) (aG (pv 1) (aG (pv 2) aE)))))) bB)
   (aB (cB (aX c3 (pv 4) aN (bH _)) (aM (bJ (cJ (aG (aR bZ (bC sC (pv 5) (c7 (aG (aR bZ (pv 2) (iC eZ aD) Ig) aE))) (cG GD Z (aG (pv 0) (aG (bC cZ (aV bK (by rfl) ab AW (aG (pv 5) aE)) aD) aE))) Ig) (aG (pv 7) aE))))) bB)
   (aB (cB (aX c3 (pv 4) aN (bH _)) (aM (bJ (cJ (aG (pv 9) (aG (aR bZ (c7 (aG aD (aG (bC nZ aD aD) (aG (cG GD Z (aG (pv 0) (aG aD aE))) (aG (cG GD Z (aG (pv 0) (aG aD aE))) (aG (pv 10) aE)))))) (cG GD Z (aG (pv 0) (aG aD aE))) Ig) aE))))) bB)
   (aB (cB (aX c3 (pv 4) aN (bH _)) (aM (bJ (cJ (aG (pv 9) (aG (pv 11) (aG (aR bZ (c7 (aG aD (aG (bC nZ aD aD) (aG (cG GD Z (aG (pv 0) (aG aD aE))) aE)))) (cG GD Z (aG (pv 0) (aG aD aE))) Ig) (aG (cG GD Z (aG (pv 0) (aG aD aE))) aE))))))) bB)
   (aB (cB (aX c3 (pv 4) aN (bH _)) (aM (bJ (cJ (aG (pv 9) (aG (pv 11) (aG (pv 7) aE)))))) bB)
   (aB (cB (PW.pt (iJ (aX c3 (pv 4) aN (bH _)) (gL (aX oT (pv 7) (pv 8) (bH _))))) (aM (bJ (cJ (aG (pv 7) (aG (pv 8) aE))))) bB)
   (aM (bJ (cJ (aG (pv 7) aE)))))))))))))))))),?_⟩
  refine K13.tl fun R hR=>?_;obtain⟨ks,hks,hin,hkn⟩:=uD rb.wl.hv rb.wl.ks;have cr:ks.length=S.hs.length:=by
   have:=congrArg Cg hks;rw[Ab,Ab]at this;exact this.symm
  have dc:=rb.p1;have da:=rb.p3;have d2:=hic.n1;have dj:=hic.n8;refine⟨_,rfl,W,_,rfl,(cu.wl rb).get (fH _ _),B.ho,S.hs,ks,rfl,(cu.wl rb).ho,hks,fun LS ms b6 pm=>?_⟩;have sS:=aK (o:=.lst (ms.map V.str)) b6;have aw:=cu.same sS;have eS:upd H LS (.lst (ms.map V.str)) LS=some (.lst (ms.map V.str)):=aA;generalize upd H LS _=HS at aw eS ⊢;have d5:ms.length=S.hs.length:=by rw[pm.length_eq,cr]
  have bY:∀ z∈ms,aP S z=true:=fun z hz=>hin z (pm.mem_iff.mp hz);dsimp only[aY];subst hR;refine K13.tl fun R hR=>?_;refine⟨_,rfl,W,_,rfl,(aw.wl rb).get (zW _ _),B.ic,S.inc,ws,rfl,(aw.wl rb).ic,hic.ks,fun LF fs bR pf=>?_⟩;have sF:=aK (o:=.lst (fs.map V.str)) bR;have ah:=aw.same sF;have bt:=sF _ _ eS;have eF:upd HS LF (.lst (fs.map V.str)) LF=some (.lst (fs.map V.str)):=aA;generalize upd HS LF _=HF at ah bt eF ⊢;have dm:fs.length=ws.length:=pf.length_eq;dsimp only[aY];subst hR;refine K13.tl fun R hR=>?_;refine⟨_,rfl,_,rfl,_,rfl,lp,_,rfl,.inl (aU (ah.ep rb)),p,c,ns,_,_,rfl,ah.pen rb,by omega,by rw[Ab];omega,gS (by rw[Ab];omega),fun r1 a1 H1 av bL l1 u1 cx q1=>?_⟩;have ae:=ah.draw q1 cx;have bD:=ah.lst bt q1;have cs:=ah.lst eF q1;obtain⟨house,hhou,hat1⟩:=gC av bL;have aa:=rb.np.ok _ hhou;refine⟨lp,_,_,_,rfl,rfl,aU (ae.ep rb),hat1,?_⟩;dsimp only[aY];subst hR;refine K13.tl fun R hR=>?_;refine⟨_,rfl,_,rfl,_,rfl,lp,_,rfl,.inl (aU (ae.ep rb)),p,c,ns,_,_,rfl,ae.pen rb,by omega,by rw[Ab];omega,gS (by rw[Ab];omega),fun r2 a2 H2 cg ci l2 u2 bW q2=>?_⟩;have am:=ae.draw q2 bW;have b4:=ae.lst bD q2;have bj:=ae.lst cs q2;obtain⟨other,hoth,hat2⟩:=gC cg ci;have br:=rb.np.ok _ hoth;refine⟨lp,_,_,_,rfl,rfl,aU (am.ep rb),hat2,?_⟩;dsimp only[aY];subst hR;refine K13.tl fun R hR=>?_;refine⟨_,rfl,_,rfl,_,rfl,LF,_,rfl,.inl (aU bj),p,c,ns,_,_,rfl,am.pen rb,by omega,by rw[Ab];omega,gS (by rw[Ab];omega),fun r3 a3 H3 cj cc l3 u3 cv q3=>?_⟩;have aj:=am.draw q3 cv;have cw:=am.lst b4 q3;have bP:=am.lst bj q3;obtain⟨field,hfie,hat3⟩:=gC cj cc
  have bm:field∈ws:=pf.mem_iff.mp hfie;obtain⟨hfn,inc,hinc,hi0,hi1⟩:=hic.v field bm;refine⟨LF,_,_,_,rfl,rfl,aU bP,hat3,?_⟩;dsimp only[aY];subst hR;refine K13.tl fun R hR=>?_;refine⟨_,rfl,W,_,rfl,(aj.wl rb).get (zW _ _),_,rfl,B.ic,_,rfl,.inl ⟨S.inc,Ac field,.inl (aj.wl rb).ic,rfl,hinc.symm⟩,?_⟩;dsimp only[aY];subst hR;refine K13.tl fun R hR=>?_;have c2:0≤inc / 4:=DG hi0 (by decide);have dh:inc / 4≤10000000:=by omega
  refine⟨_,_,rfl,rfl,⟨by decide,by decide,by decide⟩,_,_,rfl,rfl,_,rfl,_,rfl,_,_,rfl,rfl,_,rfl,_,_,rfl,rfl,⟨by decide,by decide⟩,_,_,rfl,rfl,p,c,ns,_,_,rfl,aj.pen rb,by omega,by omega,gS (by omega),fun r4 a4 H4 dk ea l4 u4 bE q4=>?_⟩;have J:=aj.draw q4 bE;have bu:=aj.lst cw q4;refine⟨_,_,rfl,?_⟩;obtain⟨M,heq,hin0,hin1⟩:∃ M:Int,(if r4 < 10 ^ (7:Int).toNat - 1 then r4 else 10 ^ (7:Int).toNat - 1)=M∧0≤M∧M≤9999999:=⟨_,rfl,by
   have e7:(10:Int) ^ (7:Int).toNat=10000000:=by decide
   rw[e7];split <;> omega,by
   have e7:(10:Int) ^ (7:Int).toNat=10000000:=by decide
   rw[e7];split <;> omega⟩
  rw[heq];dsimp only[aY];subst hR;have O:fr≠[]:=fun e=>by rw[e]at hf8;simp at hf8
  have fin:∀(q:Str) (t:Ag) (b8:List V) (ds:List A8) (a':Int) (G:Hp),Cur H G p c a' fl fr→a≤a'→a'≤a + 500→G t=some (.tup b8)→cE false G b8 ds→lE q ds→FIn q ds ws→jX word b8=q→(q≠"part")→(q≠"join")→Q (.ref t) G:=fun q t b8 ds a' G cq l u et rd rs fi ew n1 n2=>by
   have hl:=rd.len;have dt:=rs.len;refine k t b8 ds a' fr G cq l u (fun z hz=>hz) hfr.nd (by omega) et rd (by omega) ?_;rw[ew];exact⟨rs,fi,fun name day Y R e=>absurd e n1,fun Y R e=>absurd e n1,fun Y R e=>absurd e n2⟩
  have ax:∀{q:Str} {ds:List A8},inV (.str q) [V.str "measure",.str "breach",.str "view"]=false→FIn q ds ws:=fun e h=>by rw[e]at h;cases h
  have aC:∀{q:Str} {ds:List A8},FIn q (.str field :: ds) ws:=fun _ z b8 e=>by
   injection e with e1 e2;injection e1 with e1;rw[← e1];exact bm
  unfold gH at hwd;simp only[Ak,Ap,or_false]at hwd;rcases hwd with rfl | rfl | rfl | rfl | rfl | rfl | rfl | rfl
  ·refine⟨_,rfl,rfl,_,rfl,yW ?_⟩;exact⟨_,rfl,_,rfl,_,rfl,_,rfl,p,c,ns,W,B,sc,os,own,S,fl,lp,ps,fr,a4,rfl,rb.at J,J.here,by omega,hfr,hf8,hf3,hso,hh1,fun t b8 ds a' jo H' a0 l u ai aL ab et rd mo=>k t b8 ds a' jo H' (J.trans a0) (by omega) (by omega) ai aL (by omega) et rd (by have h1:=rd.len;have h2:=(mo ws).rs.len;omega) (by rw[show jX "part" b8="part" from Ia (fun z=>absurd z.1 (by decide))];exact mo ws)⟩
  ·refine⟨_,rfl,rfl,_,rfl,nW (by decide) ?_⟩;refine⟨_,rfl,rfl,_,rfl,yW ?_⟩;exact⟨_,rfl,_,rfl,_,rfl,p,c,ns,W,B,sc,os,own,S,fl,lp,ps,fr,a4,rfl,rb.at J,J.here,by omega,hfr,hf8,hf3,hso,hh1,hh3,fun t b8 ds a' jo H' a0 l u ai aL ab et rd mo=>k t b8 ds a' jo H' (J.trans a0) (by omega) (by omega) ai aL (by omega) et rd (by have h1:=rd.len;have h2:=(mo ws).rs.len;omega) (by rw[show jX "join" b8="join" from Ia (fun z=>absurd z.1 (by decide))];exact mo ws)⟩
  ·refine⟨_,rfl,rfl,_,rfl,nW (by decide) ?_⟩;refine⟨_,rfl,rfl,_,rfl,nW (by decide) ?_⟩;refine⟨_,rfl,rfl,_,rfl,yW ?_⟩;refine⟨_,rfl,_,rfl,_,rfl,fl,_,_,_,rfl,rfl,aU J.ef,xL O,zZ1,fun D1 bI=>?_⟩;have s1:=aK (o:=.lst [V.str (fr.getLast O)]) bI;refine⟨LS,D1,_,_,rfl,rfl,s1 _ _ bu,aA,aQ (by rw[Ab];show _ + 1≤_;omega),fun D2 b0=>?_⟩;have s2:=s1.trans (aK (o:=.lst (ms.map V.str ++ [V.str (fr.getLast O)])) b0);have e2:upd (upd H4 D1 (.lst [V.str (fr.getLast O)])) D2 (.lst (ms.map V.str ++ [V.str (fr.getLast O)])) D2=some (.lst ((ms ++ [fr.getLast O]).map V.str)):=by rw[aA,Aw];rfl
   have au:=J.same s2;have bh:=s2 _ _ bu;generalize upd (upd H4 D1 (.lst [V.str (fr.getLast O)])) D2 _=H5 at au bh e2 ⊢;refine⟨_,rfl,_,rfl,LS,_,rfl,.inl (aU bh),_,_,rfl,rfl,p,c,ns,_,_,rfl,au.pen rb,by omega,by rw[Ab];omega,gS (by rw[Ab];omega),fun r6 a6 H6 aT ar l6 u6 an q6=>?_⟩;have af:=au.draw q6 an;obtain⟨Y,hland,hat6⟩:=gC (ps:=ms ++ [fr.getLast O]) aT (by rw[Ab,Ay];rw[Ab]at ar;exact ar);have bf:cH Y=true:=by
    rcases AO.mp hland with h | h
    ·exact(hso Y (bY Y h)).1
    ·rw[AE.mp h];exact hfr.ok _ (EU _)
   refine⟨D2,_,_,_,rfl,rfl,aU (au.lst e2 q6),hat6,_,rfl,zZ2,fun t ht=>?_⟩;have st:=aK (o:=.tup [V.str Y,.str house]) ht;exact fin "forfeit" t _ [.str Y,.str house] a6 _ (af.same st) (by omega) (by omega) aA (.cons (iG bf) (.cons (iG aa) .nil)) (.forfeit bf aa) (ax (by decide)) (Ia (fun z=>absurd z.1 (by decide))) (by decide) (by decide)
  ·refine⟨_,rfl,rfl,_,rfl,nW (by decide) ?_⟩
   iterate 2 refine⟨_,rfl,rfl,_,rfl,nW (by decide) ?_⟩
   refine⟨_,rfl,rfl,_,rfl,yW ?_⟩;refine⟨_,rfl,_,_,rfl,rfl,⟨by decide,by decide,by decide⟩,_,rfl,p,c,ns,_,_,rfl,J.pen rb,by omega,by decide,by decide,fun r6 a6 H6 aT ar l6 u6 an q6=>?_⟩;have af:=J.draw q6 an;refine⟨_,rfl,p,c,ns,_,_,rfl,af.pen rb,by omega,by decide,by decide,fun r7 a7 H7 du d3 l7 u7 b1 q7=>?_⟩;have cf:=af.draw q7 b1;refine⟨_,rfl,zZ5,fun L hL=>?_⟩;have sL:=aK (o:=.lst [V.int 0,.int (10 ^ (7:Int).toNat),.int r6,.int r7,.int inc]) hL;have ad:=cf.same sL;have eL:upd H7 L (.lst [V.int 0,.int (10 ^ (7:Int).toNat),.int r6,.int r7,.int inc]) L=some (.lst ([(0:Int),10000000,r6,r7,inc].map V.int)):=aA;generalize upd H7 L _=H8 at ad eL ⊢;refine⟨_,rfl,p,c,ns,_,_,rfl,ad.pen rb,by omega,by decide,by decide,fun r9 a9 H9 aI ba l9 u9 az q9=>?_⟩;have ap:=ad.draw q9 az;obtain⟨num,hnum,hat9⟩:=uG (l:=[(0:Int),10000000,r6,r7,inc]) aI (by show r9 < 5;exact ba);have ak:0≤num∧num≤10000000:=by
    simp only[Ak,Ap,or_false]at hnum;rcases hnum with rfl | rfl | rfl | rfl | rfl <;> omega
   refine⟨L,_,_,_,rfl,rfl,aU (ad.lst eL q9),hat9,zZ2,fun t ht=>?_⟩;have st:=aK (o:=.tup [V.str field,.int num]) ht;exact fin "measure" t _ [.str field,.int num] a9 _ (ap.same st) (by omega) (by omega) aA (.cons (iG hfn) (.cons (.int _) .nil)) (.measure hfn ak.1 ak.2) aC (Ia (fun z=>absurd z.1 (by decide))) (by decide) (by decide)
  ·refine⟨_,rfl,rfl,_,rfl,nW (by decide) ?_⟩
   iterate 5 refine⟨_,rfl,rfl,_,rfl,nW (by decide) ?_⟩
   refine⟨_,rfl,rfl,_,rfl,yW ?_⟩;refine⟨_,rfl,_,rfl,rfl,_,rfl,cT (fun g=>?_) fun g=>?_⟩
   ·have b2:house≠other:=fun e=>by rw[e]at g;simp at g
    refine⟨_,rfl,_,rfl,zZ2,fun t ht=>?_⟩;have st:=aK (o:=.tup [V.str house,.str other]) ht;exact fin "mend" t _ [.str house,.str other] a4 _ (J.same st) (by omega) (by omega) aA (.cons (iG aa) (.cons (iG br) .nil)) (.mend aa br b2) (ax (by decide)) (Ia (fun z=>absurd (show(2:Nat)=1 from z.2) (by decide))) (by decide) (by decide)
   ·refine⟨_,rfl,zZ1,fun t ht=>?_⟩;have st:=aK (o:=.tup [V.str house]) ht;exact fin "alone" t _ [.str house] a4 _ (J.same st) (by omega) (by omega) aA (.cons (iG aa) .nil) (.alone aa) (ax (by decide)) (Ib ⟨rfl,rfl⟩) (by decide) (by decide)
  ·refine⟨_,rfl,rfl,_,rfl,nW (by decide) ?_⟩
   iterate 6 refine⟨_,rfl,rfl,_,rfl,nW (by decide) ?_⟩
   refine dU ?_;refine⟨_,rfl,zZ1,fun t ht=>?_⟩;have st:=aK (o:=.tup [V.str house]) ht;exact fin "alone" t _ [.str house] a4 _ (J.same st) (by omega) (by omega) aA (.cons (iG aa) .nil) (.alone aa) (ax (by decide)) (Ia (fun z=>absurd z.1 (by decide))) (by decide) (by decide)
  ·refine⟨_,rfl,rfl,_,rfl,nW (by decide) ?_⟩
   iterate 3 refine⟨_,rfl,rfl,_,rfl,nW (by decide) ?_⟩
   refine⟨_,rfl,rfl,_,rfl,yW ?_⟩;refine⟨_,rfl,_,rfl,_,_,rfl,rfl,⟨by decide,by decide,by decide⟩,_,rfl,p,c,ns,_,_,rfl,J.pen rb,by omega,by decide,by decide,fun r6 a6 H6 aT ar l6 u6 an q6=>?_⟩;have af:=J.draw q6 an;refine⟨zZ3,fun L hL=>?_⟩;have sL:=aK (o:=.lst [V.int 0,.int (10 ^ (9:Int).toNat),.int r6]) hL;have ad:=af.same sL;have eL:upd H6 L (.lst [V.int 0,.int (10 ^ (9:Int).toNat),.int r6]) L=some (.lst ([(0:Int),1000000000,r6].map V.int)):=aA;generalize upd H6 L _=H8 at ad eL ⊢;refine⟨_,rfl,p,c,ns,_,_,rfl,ad.pen rb,by omega,by decide,by decide,fun r9 a9 H9 aI ba l9 u9 az q9=>?_⟩;have ap:=ad.draw q9 az;obtain⟨num,hnum,hat9⟩:=uG (l:=[(0:Int),1000000000,r6]) aI (by show r9 < 3;exact ba);have ak:0≤num∧num≤1000000000:=by
    simp only[Ak,Ap,or_false]at hnum;rcases hnum with rfl | rfl | rfl <;> omega
   refine⟨L,_,_,_,rfl,rfl,aU (ad.lst eL q9),hat9,_,rfl,p,c,ns,_,_,rfl,ap.pen rb,by omega,by decide,by decide,fun av a10 ec bp db ed dq bg ck=>?_⟩;have bn:=ap.draw ck bg;refine⟨zZ4,fun t ht=>?_⟩;have st:=aK (o:=.tup [V.str field,.int M,.int num,.int av]) ht;exact fin "breach" t _ [.str field,.int M,.int num,.int av] a10 _ (bn.same st) (by omega) (by omega) aA (.cons (iG hfn) (.cons (.int _) (.cons (.int _) (.cons (.int _) .nil)))) (.breach hfn hin0 hin1 ak.1 ak.2 bp (by omega)) aC (Ia (fun z=>absurd z.1 (by decide))) (by decide) (by decide)
  ·refine⟨_,rfl,rfl,_,rfl,nW (by decide) ?_⟩
   iterate 4 refine⟨_,rfl,rfl,_,rfl,nW (by decide) ?_⟩
   refine⟨_,rfl,rfl,_,rfl,yW ?_⟩;refine⟨_,rfl,_,rfl,_,rfl,zZ3,fun t ht=>?_⟩;have st:=aK (o:=.tup [V.str field,.int M,.str house]) ht;exact fin "view" t _ [.str field,.int M,.str house] a4 _ (J.same st) (by omega) (by omega) aA (.cons (iG hfn) (.cons (.int _) (.cons (iG aa) .nil))) (.view hfn hin0 hin1 aa) aC (Ia (fun z=>absurd z.1 (by decide))) (by decide) (by decide)
theorem xM{S:Ex}{z:Str}(h:aP S z=true):1≤S.hs.length:=by
 unfold aP at h;cases e:S.hs with
 | nil=>rw[e]at h;cases h
 | cons _ _=>simp
theorem aCV{R:List P3}(h:(R.map pD).all qZ=true){p:P3}(q:p∈R):cH p.1=true:=by
 have:=A2.mp h (pD p) (Bg q);have e:(cH p.1 && cH p.2.1 && decide (1≤p.2.2∧p.2.2≤10000000))=true:=this;rw[Bu,Bu]at e;exact e.1.1
theorem aF3{S S':Ex}{sc:Int}{ws fr:List Str}{word z:Str}{ds:List A8}(st:f8 S word ds z S')(mo:xK sc ws word ds fr)(so:uE S fr)(h1:1≤S.hs.length)(ic:uF S ws):uE S' fr∧1≤S'.hs.length∧uF S' ws:=by
 by_cases hz:z="done"
 ·subst hz;have rs:=mo.rs;have fi:=mo.fi;have np:=mo.np;have nj:=mo.nj;clear mo;cases rs with
  | @part land R hl hr h2 h6 ha=>
   obtain⟨e1,e2⟩:=st.fn (.part (land:=land) (R:=R));rw[← e1,Ib rfl]at e2;subst e2;have J:uE (fG S land R) fr:=fun y G=>by
    rcases xJ.mp G with h | ⟨_,h⟩
    ·obtain⟨q,hq,rfl⟩:=AQ.mp h;exact⟨aCV ha hq,np land R rfl rfl q hq⟩
    ·exact so y h
   obtain⟨q,hq⟩:=Ef (show 0 < R.length by omega);exact⟨J,xM (xJ.mpr (.inl (Bg hq))),⟨by rw[mZ];exact ic.ks,by rw[mZ];exact ic.v,ic.n1,ic.n8⟩⟩
  | @join land R hl hr h2 h6 ha=>
   obtain⟨e1,e2⟩:=st.fn (.join (land:=land) (R:=R));rw[← e1,Ib rfl]at e2;subst e2;obtain⟨hall,_⟩:=v5 e1.symm;have aa:land ∉ fr:=by
    rcases nj land R rfl rfl with h | ⟨y,h3,h4⟩
    ·exact h
    ·exact absurd h4 (so y (hall y h3)).2
   have J:uE (fV S R land) fr:=fun y G=>by
    rcases pY.mp G with rfl | ⟨_,h⟩
    ·exact⟨hl,aa⟩
    ·exact so y h
   exact⟨J,xM (pY.mpr (.inl rfl)),⟨ic.ks,ic.v,ic.n1,ic.n8⟩⟩
  | @forfeit land house hl hh=>
   obtain⟨e1,e2⟩:=st.fn (.forfeit (land:=land) (house:=house));rw[← e1,Ib rfl]at e2;subst e2;have Y:aP S land=true:=by
    unfold dF at e1;by_cases q:aP S land=false
    ·rw[Ib q]at e1;exact absurd e1 (by decide)
    ·simpa using q
   have O:∀ y,aP { S with hs:=bS S.hs (Ac land) (.str house) } y=true↔aP S y=true:=fun y=>by
    refine Hs aBY ⟨fun q=>?_,.inr⟩;rcases q with rfl | q
    ·exact Y
    ·exact q
   exact⟨fun y G=>so y ((O y).mp G),xM ((O land).mpr Y),⟨ic.ks,ic.v,ic.n1,ic.n8⟩⟩
  | @measure field F hf h0 Z=>
   obtain⟨_,e2⟩:=st.fn (.measure (field:=field) (n:=F));subst e2;have af:field∈ws:=fi (by decide) _ _ rfl;refine⟨so,h1,⟨?_,fun y G=>⟨(ic.v y G).1,?_⟩,ic.n1,ic.n8⟩⟩
   ·show(bS S.inc (Ac field) (.int F)).map (·.1)=_
    obtain⟨_,n,hn,_⟩:=ic.v field af;rw[aA3,Ib (by rw[hn];rfl)];exact ic.ks
   ·show∃ n:Int,bF (bS S.inc (Ac field) (.int F)) (Ac y)=some (.int n)∧_;rw[dJ];by_cases e:(Ac y:Key)=Ac field
    ·rw[Ib e];exact⟨F,rfl,h0,Z⟩
    ·rw[Ia e];exact(ic.v y G).2
  | @mend house M hh ho ak=>
   obtain⟨_,e2⟩:=st.fn (.mend (a:=house) (b:=M));subst e2;exact⟨so,h1,⟨ic.ks,ic.v,ic.n1,ic.n8⟩⟩
  | @alone house hh=>
   obtain⟨_,e2⟩:=st.fn (.alone (a:=house));subst e2;exact⟨so,h1,⟨ic.ks,ic.v,ic.n1,ic.n8⟩⟩
  | @breach field n1 n2 n3 hf ae ab ah al an ai=>
   obtain⟨_,e2⟩:=st.fn .breach;subst e2;exact⟨so,h1,ic⟩
  | @view field house n1 hf ae ab hh=>
   obtain⟨_,e2⟩:=st.fn .view;subst e2;exact⟨so,h1,ic⟩
 ·have e:=st.idle hz;subst e;exact⟨so,h1,ic⟩
theorem v9:∀(iz d:List (Key×V)),(iz.map (·.1)).Nodup→(∀ k∈iz.map (·.1),bF d k=none)→c5 d iz=d ++ iz
 | [],d,_,_=>by rw[BM];rfl
 | kv :: iz,d,hn,h=>by
  rw[Au,AY]at hn;show c5 (bS d kv.1 kv.2) iz=_;rw[i5 _ (h kv.1 (by simp)),v9 iz _ hn.2,AX]
  ·rfl
  ·intro k q;rw[← i5 kv.2 (h kv.1 (by simp)),dJ,Ia (fun e=>hn.1 (by rw[← e];exact q))];exact h k (by rw[Au];exact An _ q)
theorem aIp{Ls:List L4}(hn:(Ls.map (·.1)).Nodup)(ho:∀ l∈Ls,LOk l)(h1:1≤Ls.length)(M:Ls.length≤8):uF (ex0 Ls) (Ls.map (·.1)):=by
 have G:(Ls.map fun l=>((Ac l.1:Key),V.int l.2.2.2)).map (·.1)=(Ls.map (·.1)).map Ac:=by
  rw[E5,E5];rfl
 have e:(ex0 Ls).inc=Ls.map fun l=>((Ac l.1:Key),V.int l.2.2.2):=by
  unfold ex0;rw[kK,v9 _ _ ?_ fun _ _=>rfl]
  ·rfl
  ·rw[G];refine List.Pairwise.map _ (fun a b h e=>h ?_) hn;injection e
 refine⟨by rw[e,G],fun f Y=>?_,by rw[Ab];exact h1,by rw[Ab];exact M⟩;obtain⟨l,hl,rfl⟩:=AQ.mp Y;refine⟨(ho l hl).f,?_⟩;obtain⟨v,hv⟩:=A7.mp (pX (fun l:L4=>l.1) (fun l:L4=>V.int l.2.2.2) (Ac l.1) Ls [] (.inr ⟨l,hl,rfl⟩));have F:bF (ex0 Ls).inc (Ac l.1)=some v:=by unfold ex0;rw[kK];exact hv
 rcases kQ _ _ _ _ _ _ hv with h | ⟨J,q,_,O⟩
 ·cases h
 ·exact⟨_,by rw[F,O],(ho J q).i1,(ho J q).i2⟩
theorem p4(f:Str→Bool):∀ l:List Str,(l.filter f).length + (l.filter fun z=>!f z).length=l.length
 | []=>rfl
 | x :: r=>by
  have q:=p4 f r;simp only[BF];cases h:f x
  ·simp only[Cd,if_false,Bool.not_false,if_true,AI];omega
  ·simp only[if_true,Bool.not_true,Cd,if_false,AI];omega
theorem aEX{K:Ah}{H H':Hp}{p c fl:Ag}{ns:List Int}{iz:List (Key×V)}(ce:SqL K H c (ns.map V.int))(F:H fl=none)(q:H p=some (.dK iz))(k:bA p H H'):(Rd H' c (.lst (ns.map V.int))∧c≠fl)∨∀ H',SqL K H' c (ns.map V.int):=by
 rcases ce with(e | ⟨o',e⟩) | e
 ·exact .inl ⟨.inl (k _ _ e (bT e q (fun z=>nomatch z))),aJ e F⟩
 ·exact .inl ⟨.inr ⟨o',k _ _ e (bT e q (fun z=>nomatch z))⟩,aJ e F⟩
 ·exact .inr fun H'=>.inr e
theorem aCW{H:Hp}{xs:List V}{F:List cV}{fs:List Str}{x:V}{u:cV}(h:jS H xs F fs)(rd:RdV false H x u.d)(ok:u.Ok fs):jS H (xs ++ [x]) (F ++ [u]) fs:=by
 refine⟨by rw[Ay,Ay,h.len];rfl,fun i y q=>?_⟩;have hl:=h.len;rcases Nat.lt_trichotomy i xs.length with z | z | z
 ·rw[CO z]at q;obtain⟨v,h1,h2⟩:=h.at' i y q;exact⟨v,by rw[CO (by omega)];exact h1,h2⟩
 ·rw[z,CH (Am _),Nat.sub_self]at q;cases q;exact⟨u,by rw[z,hl,CH (Am _),Nat.sub_self];rfl,rd,ok⟩
 ·rw[Bo (by rw[Ay];show xs.length + 1≤i;omega)]at q;cases q
section
variable{K:Ah}{H H':Hp}{p c:Ag}{ns:List Int}{a:Int}{W:Ag}{B:WA}{sc:Int}{os:List UK}{own je:UK→Str}{S S':Ex}{fl lp:Ag}{fr:List Str}{ps:List Str}
theorem RSB.done(b:RSB K H p c ns W B sc os own S fl lp ps)(h:Cur H H p c a fl fr)(kx:cQ [B.ow,B.me,B.ho,B.ic] H H')(wl:eG H' W B sc os je S')(ce:(Rd H' c (.lst (ns.map V.int))∧c≠fl)∨∀ H',SqL K H' c (ns.map V.int)):RSB K H' p c ns W B sc os je S' fl lp ps∧Cur H' H' p c a fl fr:=by
 obtain⟨l,hl,e⟩:=h.ob;have q:=b.pw;simp only[Ak,Ap,or_false,not_or]at q;have ep:H' p=some (.dK (gG c a l)):=kx p _ (by
  simp only[Ak,Ap,or_false,not_or];exact⟨bT e b.wl.ow (fun z=>nomatch z),q.2⟩) e
 have ef:=b.wl.kept kx h.ef (fun _ z=>nomatch z) (fun _ z=>nomatch z);exact⟨⟨ce,b.sm,wl,b.wl.kept kx b.ep (fun _ z=>nomatch z) (fun _ z=>nomatch z),b.np,b.p1,b.p3,b.pw,b.fo,b.fp,⟨_,ep⟩,⟨_,ef⟩⟩,⟨cQ.refl _,⟨l,hl,ep⟩,h.ge,ef⟩⟩
theorem RSB.app{q:Ag}{xs ys:List V}(b:RSB K H p c ns W B sc os own S fl lp ps)(h:Cur H H p c a fl fr)(e:H q=some (.lst xs))(n1:q≠fl)(J:q≠lp)(M:q≠B.o)(ce:(Rd (upd H q (.lst ys)) c (.lst (ns.map V.int))∧c≠fl)∨∀ H',SqL K H' c (ns.map V.int)):RSB K (upd H q (.lst ys)) p c ns W B sc os own S fl lp ps∧Cur (upd H q (.lst ys)) (upd H q (.lst ys)) p c a fl fr:=by
 obtain⟨l,hl,ep⟩:=h.ob;have G:upd H q (.lst ys) p=some (.dK (gG c a l)):=by rw[aF (bT ep e (fun z=>nomatch z))];exact ep
 have F:upd H q (.lst ys) fl=some (.lst (fr.map V.str)):=by rw[aF n1.symm];exact h.ef
 exact⟨⟨ce,b.sm,b.wl.lst e M,by rw[aF J.symm];exact b.ep,b.np,b.p1,b.p3,b.pw,b.fo,b.fp,⟨_,G⟩,⟨_,F⟩⟩,⟨cQ.refl _,⟨l,hl,G⟩,h.ge,F⟩⟩
end
inductive aAj(K:Ah)(vs:List V)(H:Hp)(Q:VK)(u3_:XK):Prop
 | mk (p c:Ag) (ns:List Int) (a:Int) (most:Nat) (lt:Ag) (tw:List Str) (q0:vs=[.ref p,.int most,.ref lt]) (q1:dB K H p c ns a) (q2:a≤100000) (q3:most≤40) (q4:H lt=some (.lst (tw.map V.str))) (q5:(∀ z∈tw,z∈gH)) (q6:1≤tw.length) (q7:tw.length≤20) (q8:∀(t2 t:Ag) (Ls:List L4) (us:List cV) (sc a':Int) (H':Hp),H' t2=some (.tup [.ref t,.int sc])→jC H' t Ls us→(∀ l∈Ls,LOk l∧sc ∣ l.2.2.1∧l.2.2.1≤10 * sc)→(Ls.map (·.1)).Nodup→1≤Ls.length→1≤sc→sc≤100000→(∀ u∈us,RSc sc u)→us.length≤most→a≤a'→a'≤a + 30000→dB K H' p c ns a'→bA p H H'→Q (.ref t2) H'):aAj K vs H Q u3_
def aEY(K:Ah):Sp:=fun vs H Q u3_=>aAj K vs H Q u3_
theorem aEZ:cC ["_law_pen_here","_law_most","_law_terms","_law_scale","_law_pool","_law_laying_here","_law_fields","_law_fresh","_law_world_here","_law_day","_law_last","_law_rows","_law_name","_law_word_here","_law_behind","_law_row"] ["_law_pen_here","_law_most","_law_terms"] (aO y9):=⟨rfl,rfl,rfl,by decide,rfl,by decide,by decide⟩
theorem aF4{f fN fL fW fD fM fR fO fE:Ag}{fd f3 gX hk gf gx fI ft e2:A3}(F:Fun K "_law_roll" "_law_roll" y9 f fd)(cL:mg "len"=none)(fc:mg "tuple"=none)
  (GN:cY P w K mg base CX0 2 fN f3 ["_law_pen_here","_law_many"] (wY K)) (mN:mg "_law_names"=some (.ref fN)) (kN:AT K (.ref fN)=true) (bN:fX K f3 ["_law_pen_here","_law_many"] [])
  (GL:cY P w K mg base CX0 3 fL gX ["_law_pen_here","_law_pool","_law_scale","_law_most"] (z6 K)) (mL:mg "_law_laying"=some (.ref fL)) (kL:AT K (.ref fL)=true) (bL:fX K gX ["_law_pen_here","_law_pool","_law_scale","_law_most"] [])
  (GW:cY P w K mg base CX0 2 fW hk ["_law_laying_here","_law_scale"] xG) (mW:mg "_law_world"=some (.ref fW)) (kW:AT K (.ref fW)=true) (bW:fX K hk ["_law_laying_here","_law_scale"] [])
  (GD:cY P w K mg base CX0 1 fD gf ["_law_pen_here","_law_many"] (mJ K)) (mD:mg "_law_draw"=some (.ref fD)) (kD:AT K (.ref fD)=true) (bD:fX K gf ["_law_pen_here","_law_many"] [])
  (GM:cY P w K mg base CX0 3 fM gx ["_law_pen_here","_law_world_here","_law_fresh","_law_pool","_law_word_here"] (aEV K)) (mM:mg "_law_made"=some (.ref fM)) (kM:AT K (.ref fM)=true) (bM:fX K gx ["_law_pen_here","_law_world_here","_law_fresh","_law_pool","_law_word_here"] [])
  (GR:cY P w K mg base CX0 1 fR fI ["_law_word_here"] aEK) (mR:mg "_law_rank"=some (.ref fR)) (kR:AT K (.ref fR)=true) (bR:fX K fI ["_law_word_here"] [])
  (GO:cY P w K mg base CX0 3 fO ft ["_law_world_here","_law_row"] aA6) (mO:mg "_law_word"=some (.ref fO)) (kO:AT K (.ref fO)=true) (bO:fX K ft ["_law_world_here","_law_row"] [])
  (GE:cY P w K mg base CX0 2 fE e2 ["_law_world_here","_law_row"] aHs) (mE:mg "_law_do"=some (.ref fE)) (kE:AT K (.ref fE)=true) (bE:fX K e2 ["_law_world_here","_law_row"] [])
  :cY P w K mg base CX0 4 f fd ["_law_pen_here","_law_most","_law_terms"] (aEY K):=by
 refine F.ok aEZ (fun vs H Q E h=>?_) (fun mj A outer s H vs Q E hr h=>?_)
 ·obtain⟨p,c,ns,a,most,lt,tw,rfl,_⟩:=h;rfl
 ·obtain⟨p,c,ns,a,most,lt,tw,rfl,hp,ha,hmost,elt,htw,ht1,ht20,k⟩:=h;have hu:=d8 hr;have ae:dQ 1 _:=hr.mono (by decide);have bi:dQ 2 _:=hr.mono (by decide);have eo:dQ 3 _:=hr.mono (by decide);have nd:=aEZ.nd;refine⟨_,(aB (aS (i:=3) nd rfl (Av rfl) (aR bZ (c7 (aG aD (aG aD (aG (bC nZ aD aD) aE)))) (cS GD ae rfl mD kD bD .nil dX (aG (pv 0) (aG aD aE))) Ig))
   (aB (aS (i:=4) nd rfl (Av rfl) (cS GN bi rfl mN kN bN .nil dX (aG (pv 0) (aG (bC cZ aD (cS GD ae rfl mD kD bD .nil dX (aG (pv 0) (aG aD aE)))) aE))))
   (aB (aS (i:=5) nd rfl (Av rfl) (cS GL eo rfl mL kL bL .nil dX (aG (pv 0) (aG (pv 4) (aG (pv 3) (aG aD aE))))))
   (aB (aS (i:=6) nd rfl (DK rfl) (dO (N:=["_law_row"]) (src:=[none]) (osc:=aO y9) (oN:=["_law_pen_here","_law_most","_law_terms","_law_scale","_law_pool","_law_laying_here","_law_fields","_law_fresh","_law_world_here","_law_day","_law_last","_law_rows","_law_name","_law_word_here","_law_behind","_law_row"]) ⟨by rfl,by decide,by decide,by decide,rfl,by rfl⟩ (dS (pv 5)) (fun cl s H fp iw C=>⟨aZ (i:=0) (show(["_law_row"]:List Str).Nodup by decide) rfl (Av rfl),dN,aR (r:=lV K) aW (pv 0) aD Ig⟩)))
   (aB (i7 (i:=7) (N:=["_law_name","_law_fields"]) (src:=[none,some 6]) (osc:=aO y9) (oN:=["_law_pen_here","_law_most","_law_terms","_law_scale","_law_pool","_law_laying_here","_law_fields","_law_fresh","_law_world_here","_law_day","_law_last","_law_rows","_law_name","_law_word_here","_law_behind","_law_row"]) ⟨by rfl,by decide,by decide,by decide,rfl,by rfl⟩ nd rfl (iP (cS GN bi rfl mN kN bN .nil dX (aG (pv 0) (aG aD aE)))) (fun cl s H fp iw C=>⟨aZ (i:=0) (show(["_law_name","_law_fields"]:List Str).Nodup by decide) rfl (Av rfl),pB (aX (r:=rIn K true) kX (pv 0) (pv 1) (by with_unfolding_all rfl)),pv 0⟩))
   (aB (aS (i:=8) nd rfl (Av rfl) (cS GW bi rfl mW kW bW .nil dX (aG (pv 5) (aG (pv 3) aE))))
   (aB (aS (i:=9) nd rfl (Av rfl) (aR bZ (c7 (aG aD (aG (cS GD ae rfl mD kD bD .nil dX (aG (pv 0) (aG aD aE))) aE))) (cS GD ae rfl mD kD bD .nil dX (aG (pv 0) (aG aD aE))) Ig))
   (aB (aS (i:=10) nd rfl (Av rfl) (cJ (aG aD (aG aD (aG aN aE)))))
   (aB (aS (i:=11) nd rfl (Av rfl) (c7 aE))
   (aB (fT Be rfl (iP (cS GN bi rfl mN kN bN .nil dX (aG (pv 0) (aG (cS GD ae rfl mD kD bD .nil dX (aG (pv 0) (aG (bC cZ (pv 1) aD) aE))) aE)))) (g:=aY 12) (aZ (i:=12) nd rfl (Av rfl))
   (aB (aS (i:=9) nd rfl (Av rfl) (bC cZ (pv 9) (aR bZ (c7 (aG aD (aG aD (aG aD (aG aD aE))))) (cS GD ae rfl mD kD bD .nil dX (aG (pv 0) (aG aD aE))) Ig)))
    (aB (aS (i:=13) nd rfl (Av rfl) (aR bZ (pv 2) (cS GD ae rfl mD kD bD .nil dX (aG (pv 0) (aG (aV bK (by rfl) cL AW (aG (pv 2) aE)) aE))) Ig))
    (aB (aS (i:=14) nd rfl (Av rfl) (cS GM eo rfl mM kM bM .nil dX (aG (pv 0) (aG (pv 8) (aG (pv 7) (aG (pv 4) (aG (pv 13) aE)))))))
    (aB (d6 (cB (PW.pt (iJ (aX c3 (pv 13) aN (bH _)) (gL (aX c3 (aV bK (by rfl) cL AW (aG (pv 14) aE)) aD (bH _))))) (aM (aS (i:=13) nd rfl (Av rfl) aN)) bB))
    (aB (d6 (cB (aX (aG5 (Nat.lt_of_succ_lt hu)) (cJ (aG (pv 9) (aG (cS GR ae rfl mR kR bR .nil dX (aG (pv 13) aE)) (aG (pv 12) aE)))) (pv 10) (bH _)) (aM (aS (i:=9) nd rfl (Av rfl) (bC cZ (pv 9) aD))) bB))
    (aB (aS (i:=10) nd rfl (Av rfl) (cJ (aG (pv 9) (aG (cS GR ae rfl mR kR bR .nil dX (aG (pv 13) aE)) (aG (pv 12) aE)))))
    (aB (aS (i:=15) nd rfl (Av rfl) (bC aFr (cJ (aG (pv 13) (aG (pv 12) (aG (pv 9) aE)))) (pv 14)))
    (aB (d6 (cB (aX c3 (cS GO eo rfl mO kO bO .nil dX (aG (pv 8) (aG (pv 15) aE))) aN (bH _)) (aM (dC (cS GE bi rfl mE kE bE .nil dX (aG (pv 8) (aG (pv 15) aE))))) bB))
    (aM (dC (jI A0 Bt Bs eO (pv 11) (aG (pv 15) aE)))))))))))))
   (aM (bJ (cJ (aG (cJ (aG (pv 5) (aG (dD eI (by rfl) fc (by kernel_rfl) (aG (pv 11) aE)) aE))) (aG (pv 3) aE))))))))))))))),?_⟩
  refine K13.tl fun R hR=>?_;refine⟨_,_,rfl,rfl,⟨by decide,by decide,by decide⟩,zZ3,fun L hL=>?_⟩;have sL:=aK (o:=.lst [V.int 1,.int 1,.int (10 ^ (5:Int).toNat)]) hL;have eL:upd H L (.lst [V.int 1,.int 1,.int (10 ^ (5:Int).toNat)]) L=some (.lst ([(1:Int),1,100000].map V.int)):=aA;have dn:=hp.same sL;have kL:bA p H _:=(bA.refl p H).same sL;generalize upd H L _=H0 at sL eL dn kL ⊢;refine⟨_,rfl,p,c,ns,a,_,rfl,dn,by omega,by decide,by decide,fun r1 a1 H1 il eF l1 u1 h4 q1=>?_⟩;obtain⟨sc,hsc,hat1⟩:=uG (l:=[(1:Int),1,100000]) il (by show r1 < 3;exact eF);have Y:1≤sc∧sc≤100000:=by
   simp only[Ak,Ap,or_false]at hsc;rcases hsc with rfl | rfl | rfl <;> omega
  refine⟨L,_,_,_,rfl,rfl,aU (cW eL dn q1),hat1,?_⟩;have k1:=kL.trans q1;dsimp only[aY];subst hR;refine K13.tl fun R hR=>?_;refine⟨_,rfl,_,rfl,p,c,ns,a1,_,rfl,h4,by omega,by decide,by decide,fun r2 a2 H2 kA he l2 u2 e6 q2=>?_⟩;refine⟨_,_,rfl,rfl,?_⟩;obtain⟨M,hM⟩:∃ M:Nat,2 + r2=M:=⟨(2 + r2).toNat,by omega⟩
  rw[show V.int (2 + r2)=V.int (M:Int) from congrArg V.int hM];have k2:=k1.trans q2;refine⟨p,c,ns,a2,M,rfl,e6,by omega,by omega,fun lp ps a3 H3 f4 gr mm fz l3 u3 fq q3=>?_⟩;have k3:=k2.trans q3;have kn:H lp=none:=lC e6 k2 f4;dsimp only[aY];subst hR;refine K13.tl fun R hR=>?_;refine⟨_,rfl,_,rfl,_,rfl,p,c,ns,a3,lp,ps,sc,10,rfl,fq,by omega,gr,fz,by omega,by omega,Y.1,Y.2,rfl,fun ag xs O a4 H4 bv du hok b7 dk b3 l4 u4 iy q4=>?_⟩;have k4:=k3.trans q4;have hf:=cW gr fq q4;have e0:=du.len;rw[Ab]at e0;dsimp only[aY];subst hR;refine K13.tl fun R hR=>?_;refine⟨_,rfl,ag,rfl,⟨_,aH bv⟩,?_⟩;refine dY (K:=K) (xs:=xs) (fun i ys σ' H'=>∃(o1:Option V),σ'=[o1]∧H'=H4∧ys=((O.take i).map (·.1)).map V.str) ⟨none,rfl,rfl,rfl⟩ (aQ (by omega)) (fun i ys σ H' p=>by obtain⟨_,_,_,rfl⟩:=p;rw[Ab,Ab,AM];omega) (fun i ys σ H' p=>by obtain⟨_,_,rfl,_⟩:=p;exact aH bv) ?_ ?_
  ·rintro i v ys σ' H' hv ⟨o1,rfl,rfl,rfl⟩;obtain⟨dd,hdd,rd'⟩:=du.at hv;rw[Ao]at hdd;obtain⟨l,hl,rfl⟩:=AL.mp hdd;obtain⟨q,rfl,hq⟩:=mV rd';dsimp only[aY];refine fU ?_;refine⟨_,rfl,q,_,0,_,rfl,rfl,aH hq,rfl,_,rfl,rfl,?_⟩;rw[AC,hl,Aw,Aw];rfl
  rintro ys σ' H' ⟨o1,rfl,rfl,rfl⟩ ah gk;rw[e0,AH];obtain⟨J,hws⟩:∃ J,J=O.map (·.1):=⟨_,rfl⟩
  rw[← hws]at b7 ⊢;have li:J.length=O.length:=by rw[hws,Ab]
  have aL:=aK (o:=.lst (J.map V.str)) gk;have gq:upd H' ah (.lst (J.map V.str)) ah=some (.lst (J.map V.str)):=aA;have aT:=iy.same aL;have k5:=k4.same aL;have c9:=aL _ _ hf;have be:=aL _ _ bv;have cz:=cE.onT (bU aL) du (gI O);generalize upd H' ah _=H5 at aL gq aT k5 c9 be cz ⊢;dsimp only[aY];subst hR;refine K13.tl fun R hR=>?_;refine⟨_,rfl,p,c,ns,a4,300,rfl,aT,by omega,by decide,fun LA nA a6 H6 l5 hh j1 dm l6 u6 gT q6=>?_⟩;have k6:=k5.trans q6;have db:=cW c9 aT q6;have g6:=cW gq aT q6;have eD:=jE aT q6 _ _ be;have f5:=cE.onT (jE aT q6) cz (gI O);refine⟨LA,rfl,⟨_,aU hh⟩,?_⟩;refine nB (K:=K) (xs:=nA.map V.str) (fun i ys σ' H'=>∃(o1:Option V),σ'=[o1,some (.ref ah)]∧H'=H6∧ys=((nA.take i).filter fun z=>decide (z ∉ J)).map V.str) ⟨none,rfl,rfl,rfl⟩ (aQ (by rw[Ab];omega)) (fun i ys σ H' p=>by obtain⟨_,_,_,rfl⟩:=p;rw[Ab];exact AG (BX _ _) (by rw[AM];exact Ej _ _)) (fun i ys σ H' p=>by obtain⟨_,_,rfl,_⟩:=p;exact aU hh) ?_ ?_
  ·rintro i v ys σ' H' hv ⟨o1,rfl,rfl,rfl⟩;rw[Ao]at hv;obtain⟨z,hz,rfl⟩:=AL.mp hv;have et:(nA.take (i + 1)).filter (fun z=>decide (z ∉ J))=(nA.take i).filter (fun z=>decide (z ∉ J)) ++ if decide (z ∉ J)=true then[z] else[]:=by
    rw[AC,hz,CI];congr 1;show EJ _ [z]=_;rw[BF,Eh]
   dsimp only[aY];refine⟨_,rfl,_,rfl,ah,_,rfl,.inl (aU g6),rfl,hJ _,_,rfl,?_⟩;show if (if true=true then !inV (V.str z) (J.map V.str) else inV (V.str z) (J.map V.str))=true then _ else _
   rw[Ib rfl,lH];by_cases g:z∈J
   ·rw[Ic g];refine dU ⟨_,rfl,rfl,?_⟩;rw[et,Ia (by simpa using g),BM]
   ·rw[decide_eq_false g];refine fU ⟨_,rfl,_,rfl,rfl,?_⟩;rw[et,Ib (by simpa using g),Aw];rfl
  rintro ys σ' H' ⟨o1,rfl,rfl,rfl⟩ fl ea;rw[Ab,AH];have cv:Nms (nA.filter fun z=>decide (z ∉ J)):=⟨dm.nd.filter _,fun z hz=>dm.ok z (BD.mp hz).1⟩
  have cI:∀ z∈nA.filter (fun z=>decide (z ∉ J)),z ∉ J:=fun z hz=>Ie (BD.mp hz).2;have fa:292≤(nA.filter fun z=>decide (z ∉ J)).length:=by
   have h1:=p4 (fun z=>decide (z ∉ J)) nA;have h2:(nA.filter fun z=>!decide (z ∉ J)).length≤J.length:=DM (dm.nd.filter _) fun z hz=>by simpa using(BD.mp hz).2
   omega
  have dc:(nA.filter fun z=>decide (z ∉ J)).length≤300:=AG (BX _ _) (by omega);generalize nA.filter (fun z=>decide (z ∉ J))=ba at cv cI fa dc ⊢;have ca:H fl=none:=lC gT k6 ea;have sF:=aK (o:=.lst (ba.map V.str)) ea;have eS:lp≠fl:=aJ db ea;have cj:=gT.same sF;have k7:=k6.same sF;have dh:=sF _ _ db;have av:=sF _ _ eD;have b1:=cE.onT (bU sF) f5 (gI O);have ao:upd H' fl (.lst (ba.map V.str)) fl=some (.lst (ba.map V.str)):=aA;generalize upd H' fl _=H7 at sF cj k7 dh av b1 ao ⊢;dsimp only[aY];subst hR;refine K13.tl fun R hR=>?_;refine⟨_,rfl,_,rfl,ag,xs,O,sc,rfl,av,b1,hok,by rw[← hws];exact b7,dk,b3,Y.1,Y.2,fun W B os own H8 S8 bw iu=>?_⟩;have k8:=k7.same S8;have g5:=cj.same S8;dsimp only[aY];subst hR;refine K13.tl fun R hR=>?_;obtain⟨l0,hl0,ep0⟩:=hp.ob;obtain⟨l7,hl7,ey⟩:=cj.ob;have ab:RSB K H8 p c ns W B sc os own (ex0 O) fl lp ps:=⟨aEX hp.ce ca ep0 k8,hp.sm,iu,S8 _ _ dh,fz,by omega,by omega,(fun z=>by
    have hn:=bw p;simp only[Ak,Ap,or_false]at z hn;rw[hn (by rcases z with z | z | z | z <;> simp[z])]at ey;cases ey),(fun e=>by rw[e,bw B.o (by simp)]at ao;cases ao),eS.symm,⟨_,S8 _ _ ey⟩,⟨_,S8 _ _ ao⟩⟩
  have f0:Cur H8 H8 p c a6 fl ba:=⟨cQ.refl _,g5.ob,g5.ge,S8 _ _ ao⟩
  have hO:∀ x∈[W,B.o,B.ow,B.me,B.ho,B.ic],H x=none:=fun x hx=>lC cj k7 (bw x hx);refine⟨_,rfl,p,c,ns,a6,_,rfl,(f0.pen ab),by omega,by decide,by decide,fun r9 a9 H9 mc mC l9 u9 jf q9=>?_⟩;have iA:=f0.draw q9 jf;refine⟨zZ2,fun L2 jh=>?_⟩;have s2:=aK (o:=.lst [V.int 0,.int r9]) jh;have ay:=iA.same s2;have f1:upd H9 L2 (.lst [V.int 0,.int r9]) L2=some (.lst ([(0:Int),r9].map V.int)):=aA;have fu:bA p H _:=(k8.trans q9).same s2;generalize upd H9 L2 _=mq at s2 ay f1 fu ⊢;refine⟨_,rfl,p,c,ns,a9,_,rfl,(ay.pen ab),by omega,by decide,by decide,fun eF hW g1 ff fe ms lx gv eT=>?_⟩;have gy:=ay.draw eT gv;have jb:=fu.trans eT;obtain⟨day0,hday,hat11⟩:=uG (l:=[(0:Int),r9]) ff (by show eF < 2;exact fe);have jp:0≤day0∧day0≤7899:=by
   simp only[Ak,Ap,or_false]at hday;rcases hday with rfl | rfl <;> omega
  refine⟨L2,_,_,_,rfl,rfl,aU (ay.lst f1 eT),hat11,?_⟩;dsimp only[aY];subst hR;refine K13.tl fun R hR=>?_;refine⟨zZ3,fun tl hT=>?_⟩;have ev:=aK (o:=.tup [V.int 0,.int 0,.str ""]) hT;have Z:=gy.same ev;have di:=jb.same ev;have gc:upd g1 tl (.tup [V.int 0,.int 0,.str ""]) tl=some (.tup [V.int 0,.int 0,.str ""]):=aA;generalize upd g1 tl _=fm at ev Z di gc ⊢;dsimp only[aY];subst hR;refine K13.tl fun R hR=>?_;refine⟨Bc _,fun LR bq=>?_⟩;have sR:=aK (o:=.lst []) bq;have io:H LR=none:=lC (Z.pen ab) di bq;have dg:LR≠fl:=(aJ Z.ef bq).symm;have hj:LR≠lp:=(aJ (Z.ep ab) bq).symm;obtain⟨qo,ho1,_⟩:=(Z.wl ab).o;have hI:LR≠B.o:=(aJ ho1 bq).symm;have an:=Z.same sR;have gg:=di.same sR;have bg:=sR _ _ gc;have fg:upd fm LR (.lst []) LR=some (.lst []):=aA;generalize upd fm LR (.lst [])=md at sR an gg bg fg ⊢;dsimp only[aY];subst hR;refine K13.tl fun R hR=>?_;refine⟨_,rfl,_,rfl,_,rfl,_,_,rfl,rfl,p,c,ns,hW,_,rfl,(an.pen ab),by omega,by omega,gS (by omega),fun gu hX lu j2 kf lz lI cx cb=>?_⟩;have ax:=an.draw cb cx;have h0:=gg.trans cb;have ee:=an.tup cb _ _ bg;have bP:=an.lst fg cb;obtain⟨nn,rfl⟩:∃ n:Nat,gu=n:=⟨gu.toNat,by omega⟩
  refine⟨p,c,ns,hX,nn,rfl,cx,by omega,by omega,fun LN en ew lw fw gt jd jc kJ mf fZ ck=>?_⟩;have az:=ax.draw ck fZ;have h5:=h0.trans ck;have dl:=ax.tup ck _ _ ee;have dj:=ax.lst bP ck;have f2:LN≠fl:=(aJ ax.ef fw).symm;have jl:LN≠LR:=(aJ bP fw).symm;have b6:=(az.tups ab) _ _ (S8 _ _ av);have eC:=cE.onT (az.tups ab) (cE.onT (bU S8) b1 (gI O)) (gI O);have h6:uE (ex0 O) ba:=fun z hz=>by
   have fB:=st0.mp hz;obtain⟨l,hl,rfl⟩:=AQ.mp fB;exact⟨(hok l hl).1.f,fun h=>cI _ h (by rw[hws];exact fB)⟩
  have iI:1≤(ex0 O).hs.length:=by
   obtain⟨l,hl⟩:=Ef (show 0 < O.length by omega);exact xM (st0.mpr (Bg hl))
  have ij:uF (ex0 O) J:=by
   rw[hws];exact aIp (by rw[← hws];exact b7) (fun l hl=>(hok l hl).1) dk b3
  have hF:EB (ex0 O) 0 J:=by
   rw[hws];exact EB.zero b3
  refine⟨LN,rfl,⟨_,aU gt⟩,?_⟩;refine lT (K:=K) (xs:=en.map V.str) (fun i σ H'=>Ex3 fun(dr eJ ei:Option V)=>Ex3 fun(bz:Option V) (day:Int) (tl:Ag)=>Ex3 fun(d1 d2:Int) (zl:Str)=>Ex3 fun(a':Int) (fr:List Str) (je:UK→Str)=>Ex3 fun(S':Ex) (qs:List Ag) (us:List cV)=>Aw6 (σ=[some (.ref p),some (.int most),some (.ref lt),some (.int sc),some (.ref lp),some (.ref ag),some (.ref ah),some (.ref fl),some (.ref W),some (.int day),some (.ref tl),some (.ref LR),dr,eJ,ei,bz]) (RSB K H' p c ns W B sc os je S' fl lp ps) (Cur H' H' p c a' fl fr) (bA p H H') (ew≤a') (Aw6 (a'≤ew + 600 * i) (H' ag=some (.tup xs)) (cE false H' xs (O.map mU)) (H' tl=some (.tup [.int d1,.int d2,.str zl])) (H' LR=some (.lst (qs.map V.ref))) (Aw6 (H' LN=some (.lst (en.map V.str))) (jS H' (qs.map V.ref) us J) (us.length=i) ((∀ u∈us,RSc sc u)) (0≤day) (Aw6 (day≤7899 + 51 * i) (Nms fr) (292≤fr.length + 7 * i) (fr.length≤300) (uE S' fr) (Aw3 (1≤S'.hs.length) (EB S' i J) (uF S' J))))))
   ⟨none,none,none,none,day0,tl,0,0,"",ew,ba,own,ex0 O,[],[],rfl,ab.at az,az.here,h5,by omega,by omega,b6,eC,dl,dj,gt,⟨rfl,fun i x hx=>by simp at hx⟩,rfl,fun u hu=>by simp at hu,jp.1,by omega,cv,by omega,dc,h6,iI,hF,ij⟩ (fun i σ H' _ p=>by obtain⟨_,_,_,_,_,_,_,_,_,_,_,_,_,_,_,_,_,_,_,_,_,_,_,_,_,e,_⟩:=p;exact aU e) ?_ ?_
  ·rintro i v σ G hv ⟨dr,eJ,ei,bz,day,cg,d1,d2,zl,a',fr,je,S',qs,us,rfl,rb,cu,kb,la,ua,eh,g3,fK,fb,g7,ai,dV,bp,lc,ls,gp,ky,gz,eg,gK,eb,ic⟩;rw[Ao]at hv;obtain⟨name,hname,rfl⟩:=AL.mp hv;have g0:=jc.ok name (AK hname);have kl:i < 40:=by have:=(Ax.mp hname).1;omega
   have ly:(i:Int) < 40:=by omega
   dsimp only[aY];refine K13.tl fun R2 au=>?_;refine⟨_,rfl,zZ4,fun q hq=>?_⟩;have sq:=aK (o:=.lst [V.int 0,.int 0,.int 1,.int 50]) hq;have b2:=cu.same sq;have eq:upd G q (.lst [V.int 0,.int 0,.int 1,.int 50]) q=some (.lst ([(0:Int),0,1,50].map V.int)):=aA;generalize upd G q _=Gq at sq b2 eq ⊢;refine⟨_,rfl,p,c,ns,_,_,rfl,b2.pen rb,by omega,by decide,by decide,fun he mF gB hb gj kz lh gw ej=>?_⟩;have bj:=b2.draw ej gw;obtain⟨st4,hst4,hat21⟩:=uG (l:=[(0:Int),0,1,50]) hb (by show he < 4;exact gj);have ka:0≤st4∧st4≤50:=by
    simp only[Ak,Ap,or_false]at hst4;rcases hst4 with rfl | rfl | rfl | rfl <;> omega
   refine⟨q,_,_,_,rfl,rfl,aU (b2.lst eq ej),hat21,_,_,rfl,rfl,?_⟩;obtain⟨dy,hdy⟩:∃ dy,day + st4=dy:=⟨_,rfl⟩
   rw[show V.int (day + st4)=V.int dy from congrArg V.int hdy];dsimp only[aY];subst au;refine K13.tl fun R2 au=>?_;have fv:bA p H gB:=(kb.same sq).trans ej;have bx:gB lt=some (.lst (tw.map V.str)):=cW elt hp fv;refine⟨_,rfl,_,rfl,_,rfl,lt,_,rfl,.inl (aU bx),p,c,ns,_,_,rfl,bj.pen rb,by omega,by rw[Ab];omega,gS (by rw[Ab];omega),fun lL ig ma gh fC l8 lv gl dq=>?_⟩;have br:=bj.draw dq gl;have jn:=fv.trans dq;obtain⟨word,hword,hat22⟩:=gC gh fC;refine⟨lt,_,_,_,rfl,rfl,aU (bj.lst bx dq),hat22,?_⟩;dsimp only[aY];subst au;refine K13.tl fun R2 au=>?_;have h7:=htw word hword;refine⟨_,rfl,_,rfl,_,rfl,_,rfl,_,rfl,p,c,ns,W,B,sc,os,je,S',fl,lp,ps,fr,J,ig,word,rfl,rb.at br,br.here,by omega,gp,by omega,gz,eg,gK,AG eb.h (by omega),ic,h7,fun t b8 ds e3 ci bc bI lf mz bm de ii et iB kw mo=>?_⟩;have aC:=br.trans bI;have kL:∀{b:Ag} {o:HO},G b=some o→(∀ xs,o≠.dK xs)→b≠fl→bc b=some o:=fun{b o} e n n2=>aC.kx b o (by
    obtain⟨iz,hpk⟩:=rb.pk;simp only[Ak,Ap,or_false,not_or];exact⟨bT e hpk (n _),n2⟩) e
   have i3:bA p H bc:=fun b o e n=>bI.kx b o (by
    simp only[Ak,Ap,or_false,not_or];exact⟨n,aJ e ca⟩) (jn b o e n)
   have tG:fQ G bc:=aC.tups rb;have eA:=kL fb (fun _ z=>nomatch z) dg;have eu:=kL g7 (fun _ z=>nomatch z) f2;have gm:=rb.at aC;have g4:=aC.here;have eR:=tG _ _ fK;have cc:=tG _ _ eh;have em:=cE.onT tG g3 (gI O);have cm:=ai.on tG;dsimp only[aY];subst au;have cq:jX word b8∈gH:=mo.rs.word;refine⟨fun σ' H'=>σ'=[some (.ref p),some (.int most),some (.ref lt),some (.int sc),some (.ref lp),some (.ref ag),some (.ref ah),some (.ref fl),some (.ref W),some (.int dy),some (.ref cg),some (.ref LR),some (.str name),some (.str (jX word b8)),some (.ref t),bz]∧H'=bc,?_,?_⟩
   ·refine⟨_,rfl,rfl,_,rfl,cT (fun g=>?_) fun g=>?_⟩
    ·have g':word="mend":=V.str.inj (Ie g);refine⟨_,rfl,t,_,rfl,.inr (aH et),rfl,_,rfl,cT (fun g2=>?_) fun g2=>?_⟩
     ·have d5:b8.length=1:=by have:=V.int.inj (Ie g2);omega
      exact⟨by rw[show jX word b8="alone" from Ib ⟨g',d5⟩];rfl,rfl⟩
     ·have d5:b8.length≠1:=fun e=>g2 (Ic (by rw[e];rfl));exact⟨by rw[show jX word b8=word from Ia (fun z=>d5 z.2)];rfl,rfl⟩
    ·have g':word≠"mend":=fun e=>g (Ic (by rw[e]));refine dU ?_;exact⟨by rw[show jX word b8=word from Ia (fun z=>g' z.1)];rfl,rfl⟩
   rintro σ' Hy ⟨rfl,eH⟩;rw[eH];clear eH;generalize jX word b8=wd at mo cq ⊢;refine⟨fun σ' H'=>∃ dz:Int,σ'=[some (.ref p),some (.int most),some (.ref lt),some (.int sc),some (.ref lp),some (.ref ag),some (.ref ah),some (.ref fl),some (.ref W),some (.int dz),some (.ref cg),some (.ref LR),some (.str name),some (.str wd),some (.ref t),bz]∧cA bc H'∧dy≤dz∧dz≤dy + 1,?_,?_⟩
   ·refine⟨_,rfl,_,rfl,wd,rfl,cq,fun Ha sa=>?_⟩;refine⟨_,rfl,zZ3,fun u d4=>?_⟩;have su:=sa.trans (aK (o:=.tup [V.int dy,.int (rk wd),.str name]) d4);refine⟨_,rfl,u,cg,_,_,_,_,_,_,rfl,rfl,aA,su _ _ eR,_,rfl,cT (fun g=>?_) fun g=>?_⟩
    ·exact⟨_,rfl,_,_,rfl,rfl,dy + 1,rfl,su,by omega,by omega⟩
    ·exact⟨dy,rfl,su,by omega,by omega⟩
   rintro σ' k9 ⟨dz,rfl,jg,jr,ju⟩;refine⟨_,rfl,_,rfl,wd,rfl,cq,fun Ha sa=>?_⟩;refine⟨_,rfl,zZ3,fun b0 fx=>?_⟩;have gD:=(jg.trans sa).trans (aK (o:=.tup [V.int dz,.int (rk wd),.str name]) fx);have bY:upd Ha b0 (.tup [V.int dz,.int (rk wd),.str name]) b0=some (.tup [V.int dz,.int (rk wd),.str name]):=aA;generalize upd Ha b0 _=ln at gD bY ⊢;dsimp only[aY];refine K13.tl fun R2 au=>?_;refine⟨_,rfl,_,rfl,_,rfl,zZ3,fun u d4=>?_⟩;have su:=aK (o:=.tup [V.str wd,.str name,.int dz]) d4;have fA:=gD.trans su;refine⟨_,rfl,u,t,_,_,rfl,rfl,aA,fA _ _ et,(by show 3 + b8.length≤_;omega),fun r dt c0 er=>?_⟩;have aw:=fA.trans c0;have eP:=c0 _ _ (su _ _ bY);dsimp only[aY];subst au;have aI:cV.Ok ⟨wd,name,dz,ds⟩ J:=⟨mo.rs,g0,by dsimp only;omega,by dsimp only;omega,mo.fi⟩
   have ar:RdV false dt (.ref r) (cV.d ⟨wd,name,dz,ds⟩):=.tup er (by simp;omega) (.cons (.str wd (aEx cq)) (.cons (iG g0) (.cons (.int _) (cE.onT (bU aw) iB mo.rs.nodict))));have df:=(g4.same aw).here;have c1:RSB K dt p c ns W B sc os je S' fl lp ps:=gm.at (g4.same aw);have h9:=i3.same aw;have da:=mo.sc name dz;have fy:uE S' ci:=fun z hz=>⟨(eg z hz).1,fun h=>(eg z hz).2 (bm _ h)⟩
   refine⟨fun σ' H'=>∃(ak:UK→Str) (S5:Ex),σ'=[some (.ref p),some (.int most),some (.ref lt),some (.int sc),some (.ref lp),some (.ref ag),some (.ref ah),some (.ref fl),some (.ref W),some (.int dz),some (.ref b0),some (.ref LR),some (.str name),some (.str wd),some (.ref t),some (.ref r)]∧RSB K H' p c ns W B sc os ak S5 fl lp ps∧Cur H' H' p c e3 fl ci∧bA p H H'∧fQ dt H'∧H' LR=some (.lst (qs.map V.ref))∧H' LN=some (.lst (en.map V.str))∧uE S5 ci∧1≤S5.hs.length∧EB S5 (i + 1) J∧uF S5 J,?_,?_⟩
   ·refine⟨_,rfl,_,rfl,W,B,sc,os,je,S',.ref r,⟨wd,name,dz,ds⟩,J,rfl,c1.wl,eb.k,ar,aI,fun z S5 lm st am=>?_⟩;have a0:=eb.step aI st;obtain⟨b5,cr,cs⟩:=aF3 st mo fy gK ic;have cw:=(df.same am).here;have aa:=c1.at (df.same am);have e7:=h9.same am;have bh:=am _ _ (aw _ _ eA);have bf:=am _ _ (aw _ _ eu);refine⟨rfl,_,rfl,cT (fun g=>?_) fun g=>?_⟩
    ·have g':z="done":=V.str.inj (Ie g);subst g';refine⟨_,rfl,_,rfl,W,B,sc,os,je,S',S5,.ref r,⟨wd,name,dz,ds⟩,J,rfl,aa.wl,aI.on ar (bU am),aI,da,st,AG a0.m (by omega),AG a0.h (by omega),AG eb.i (by omega),fun ak bb kx fj=>?_⟩;have b4:bA p H bb:=fun b o e n=>kx b o (fun z=>by
      have hn:=hO b;simp only[Ak,Ap,or_false]at z hn;rw[hn (by rcases z with z | z | z | z <;> simp[z])]at e;cases e) (e7 b o e n)
     obtain⟨bt,bn⟩:=aa.done cw kx fj (aEX hp.ce ca ep0 b4);exact⟨ak,S5,rfl,bt,bn,b4,fun b us e=>aa.wl.kept kx (am _ _ e) (fun _ z=>nomatch z) (fun _ z=>nomatch z),aa.wl.kept kx bh (fun _ z=>nomatch z) (fun _ z=>nomatch z),aa.wl.kept kx bf (fun _ z=>nomatch z) (fun _ z=>nomatch z),b5,cr,a0,cs⟩
    ·have g':z≠"done":=fun e=>g (Ic (by rw[e]));have e5:=st.idle g';subst e5;exact⟨je,S5,rfl,aa,cw,e7,bU am,bh,bf,b5,cr,a0,cs⟩
   rintro σ' bb ⟨ak,S5,rfl,bt,bn,b4,ek,aj,ed,b5,cr,a0,cs⟩;have hS:=ai.len;rw[Ab]at hS;refine⟨_,rfl,.inl ⟨rfl,_,aU aj⟩,_,rfl,LR,_,_,rfl,rfl,aj,by rw[Ab];exact cU (by omega),?_⟩;have fh:bA p H (upd bb LR (.lst (qs.map V.ref ++ [V.ref r]))):=fun b o e n=>by
    rw[aF (aJ e io)];exact b4 b o e n
   obtain⟨rb30,cu30⟩:=bt.app (ys:=qs.map V.ref ++ [V.ref r]) bn aj dg hj hI (aEX hp.ce ca ep0 fh);have eN:fQ bb (upd bb LR (.lst (qs.map V.ref ++ [V.ref r]))):=fun b us e=>by rw[aF (bT e aj (fun z=>nomatch z))];exact e
   have tA:fQ bc (upd bb LR (.lst (qs.map V.ref ++ [V.ref r]))):=fun b us e=>eN _ _ (ek _ _ (aw _ _ e));refine⟨_,_,_,_,dz,b0,dz,rk wd,name,e3,ci,ak,S5,qs ++ [r],us ++ [⟨wd,name,dz,ds⟩],rfl,rb30,cu30,fh,by omega,by omega,tA _ _ cc,cE.onT tA em (gI O),eN _ _ (ek _ _ eP),by rw[aA,Aw];rfl,by rw[aF jl];exact ed,?_,by rw[Ay,dV];rfl,fun x hx=>?_,by omega,by omega,⟨de,fun z hz=>gp.ok z (bm z hz)⟩,by omega,?_,b5,cr,a0,cs⟩
   ·rw[Aw];exact aCW (cm.on tA) (aI.on ar fun b us e=>eN _ _ (ek _ _ e)) aI
   ·rcases AO.mp hx with h | h
    ·exact bp x h
    ·rw[AE.mp h];exact da
   ·exact AG (DM de bm) gz
  ·rintro σ H' ⟨dr,eJ,ei,bz,day,cg,d1,d2,zl,a',fr,je,S',qs,us,rfl,rb,cu,kb,la,ua,dw,gA,kh,hw,jy,ai,dV,bp,_⟩;rw[Ab,jd]at ua dV;subst hR;refine⟨_,rfl,_,rfl,LR,_,rfl,.inl ⟨aU hw,fun rw hU=>?_⟩⟩;have jm:=aK (o:=.tup (qs.map V.ref)) hU;refine⟨zZ2,fun t ht=>?_⟩;have st:=aK (o:=.tup [V.ref ag,.ref rw]) ht;refine⟨_,rfl,zZ2,fun t2 ja=>?_⟩;have d3:=aK (o:=.tup [V.ref t,.int sc]) ja;have sA:=(jm.trans st).trans d3;refine k t2 t O us sc a' _ aA ⟨ag,rw,xs,qs.map V.ref,d3 _ _ aA,sA _ _ dw,cE.onT (bU sA) gA (gI O),fun l hl=>(hok l hl).1,b3,d3 _ _ (st _ _ aA),by rw[← hws];exact ai.on (bU sA),by omega⟩ hok (by rw[← hws];exact b7) dk Y.1 Y.2 bp (by omega) (by omega) (by omega) ((cu.pen rb).same sA) (kb.same sA)
structure OkD(b k:Nat)(d:A8):Prop where
 sh:d.showable=true
 dp:d.depth≤k
 len:d.shown.length≤b
theorem OkD.mono{b q k F:Nat}{d:A8}(h:OkD b k d)(J:b≤q)(G:k≤F):OkD q F d:=⟨h.sh,AG h.dp G,AG h.len J⟩
theorem aE0{b k:Nat}:∀{ds:List A8},(∀ d∈ds,OkD b k d)→PyData.showableAll ds=true∧PyData.depthAll ds≤k∧((ds.map Dj).map (·.length)).sum≤ds.length * b
 | [],_=>⟨rfl,Bc _,by simp⟩
 | d :: r,h=>by
  obtain⟨h1,h2,h3⟩:=aE0 (ds:=r) fun x hx=>h x (An _ hx);obtain⟨g1,g2,g3⟩:=h d Al;refine⟨?_,?_,?_⟩
  ·unfold PyData.showableAll;rw[g1,h1];rfl
  ·unfold PyData.depthAll;exact Nat.max_le.mpr ⟨g2,h2⟩
  ·rw[Au,Au,B5,AI,Nat.succ_mul];omega
theorem OkD.tuple{b k n:Nat}{ds:List A8}(h:∀ d∈ds,OkD b k d)(hn:ds.length≤n):OkD (n * (b + 2) + 3) (k + 1) (.tuple ds):=by
 obtain⟨h1,h2,h3⟩:=aE0 h;refine⟨?_,?_,?_⟩
 ·unfold EX;exact h1
 ·unfold ET;omega
 ·unfold Dj;rw[PyProof.Rows.shownAll_eq_map];unfold tupleText;have G:=StrLaws.join_length_le (Bn ", ") (ds.map Dj);have J:(Bn ", ").length=2:=by decide
  have q:(Bn "(").length=1:=by decide
  have F:∀ c:Bool,(Bn (if c=true then ",)" else ")")).length≤2:=by decide
  have M:=F ((ds.map Dj).length == 1);rw[J,Ab]at G;rw[D6,D6,q];have:ds.length * b + ds.length * 2≤n * (b + 2):=by
   rw[← Nat.mul_add];exact Nat.mul_le_mul_right _ hn
  omega
theorem OkD.list{b k n:Nat}{ds:List A8}(h:∀ d∈ds,OkD b k d)(hn:ds.length≤n):OkD (n * (b + 2) + 3) (k + 1) (.list ds):=by
 obtain⟨h1,h2,h3⟩:=aE0 h;refine⟨?_,?_,?_⟩
 ·unfold EX;exact h1
 ·unfold ET;omega
 ·unfold Dj;rw[PyProof.Rows.shownAll_eq_map,listText_eq_join];have G:=StrLaws.join_length_le (Bn ", ") (ds.map Dj);have J:(Bn ", ").length=2:=by decide
  have q:(Bn "[").length=1:=by decide
  have F:(Bn "]").length=1:=by decide
  rw[J,Ab]at G;rw[D6,D6,q,F];have:ds.length * b + ds.length * 2≤n * (b + 2):=by
   rw[← Nat.mul_add];exact Nat.mul_le_mul_right _ hn
  omega
theorem OkD.str{z:Str}(h:Eg z=true)(hl:z.length≤100):OkD 1002 0 (.str z):=by
 refine⟨by unfold EX;rfl,by unfold ET;exact Am _,?_⟩;have hz:z.cps.size≤100:=hl;have q:(BC z).layable0=true:=by
  unfold PyData.layable0 PyData.canLay0 ET PyData.weight;rw[h,Ic (show(0:Nat)≤64 by decide),Ic (show z.cps.size≤2 ^ 20 by omega)];rfl
 have:=PyProof.Rows.len_repr_of_layable q;unfold Dj;omega
theorem aF5{i:Int}(q:0≤i)(h1:i < 10 ^ 60):(Bn (toString i)).length≤60:=by
 obtain⟨n,rfl⟩:∃ n:Nat,i=n:=⟨i.toNat,by omega⟩
 rw[PySem.ofString_length];show(Int.repr (n:Int)).length≤60;have e:Int.repr (n:Int)=Nat.repr n:=rfl;rw[e];exact(Nat.length_repr_le_iff (by decide)).mpr (by omega)
theorem OkD.int{i:Int}(q:0≤i)(h1:i < 10 ^ 60):OkD 1002 0 (.int i):=by
 refine⟨?_,by unfold ET;exact Am _,?_⟩
 ·unfold EX;refine Ic ?_;have h2:i.natAbs < 2 ^ 200:=by
   have:(10:Int) ^ 60 < ((2 ^ 200:Nat):Int):=by decide
   omega
  by_cases hz:i.natAbs=0
  ·rw[hz];decide
  ·have:=(Nat.log2_lt hz).mpr h2;omega
 ·unfold Dj;have:=aF5 q h1;omega
theorem OkD.name{z:Str}(h:cH z=true):OkD 1002 0 (.str z):=OkD.str (aEw h) (by have:=qJ h;omega)
theorem aF6{R:List Str}(h:(R.map BC).all zJ=true)(q:R.length≤6):OkD 7000 1 (.tuple (R.map BC)):=by
 refine(OkD.tuple (n:=6) (b:=1002) (k:=0) (fun d hd=>?_) (by rw[Ab];exact q)).mono (by decide) (by decide);obtain⟨z,hz,rfl⟩:=AQ.mp hd;exact OkD.name (A2.mp h _ hd)
theorem aE1{x:P3}(h:qZ (pD x)=true):OkD 4000 1 (pD x):=by
 have e:(cH x.1 && cH x.2.1 && decide (1≤x.2.2∧x.2.2≤10000000))=true:=h;rw[Bu,Bu]at e;obtain⟨⟨h1,h2⟩,q⟩:=e;have q:=Ie q;unfold pD;refine(OkD.tuple (n:=3) (b:=1002) (k:=0) (fun d hd=>?_) (by show 3≤3;decide)).mono (by decide) (by decide);simp only[Ak,Ap,or_false]at hd;rcases hd with rfl | rfl | rfl
 ·exact OkD.name h1
 ·exact OkD.name h2
 ·exact OkD.int (by omega) (C6 q.2 (by decide))
theorem lE.okd{word:Str}{ds:List A8}(h:lE word ds):∀ d∈ds,OkD 25000 2 d:=by
 have nm:∀{z:Str},cH z=true→OkD 25000 2 (.str z):=fun h=>(OkD.name h).mono (by decide) (by decide);have O:∀{i:Int},0≤i→i≤1000000000→OkD 25000 2 (.int i):=fun h0 h1=>(OkD.int h0 (C6 h1 (by decide))).mono (by decide) (by decide);intro d hd;cases h with
 | @part G R hl hr h2 h6 ha=>
  simp only[Ak,Ap,or_false]at hd;rcases hd with rfl | rfl
  ·exact nm hl
  ·refine(OkD.tuple (n:=6) (b:=4000) (k:=1) (fun d hd=>?_) (by rw[Ab];exact h6)).mono (by decide) (by decide);obtain⟨x,hx,rfl⟩:=AQ.mp hd;exact aE1 (A2.mp ha _ hd)
 | @join G R hl hr h2 h6 ha=>
  simp only[Ak,Ap,or_false]at hd;rcases hd with rfl | rfl
  ·exact(aF6 ha h6).mono (by decide) (by decide)
  ·exact nm hl
 | @forfeit G q hl J=>
  simp only[Ak,Ap,or_false]at hd;rcases hd with rfl | rfl
  ·exact nm hl
  ·exact nm J
 | @measure F n Y h0 h1=>
  simp only[Ak,Ap,or_false]at hd;rcases hd with rfl | rfl
  ·exact nm Y
  ·exact O h0 (by omega)
 | @mend q ae J ho ai=>
  simp only[Ak,Ap,or_false]at hd;rcases hd with rfl | rfl
  ·exact nm J
  ·exact nm ho
 | @alone q J=>
  simp only[Ak,Ap,or_false]at hd;subst hd;exact nm J
 | @breach F n1 n2 n3 Y M aa Z aj ab ag=>
  simp only[Ak,Ap,or_false]at hd;rcases hd with rfl | rfl | rfl | rfl
  ·exact nm Y
  ·exact O M (by omega)
  ·exact O Z (by omega)
  ·exact O ab (by omega)
 | @view F q n1 Y M aa J=>
  simp only[Ak,Ap,or_false]at hd;rcases hd with rfl | rfl | rfl
  ·exact nm Y
  ·exact O M (by omega)
  ·exact nm J
theorem aB7{w:Str}(h:w∈gH):Eg w=true∧w.length≤100:=by
 have:∀ w∈gH,Eg w=true∧w.length≤100:=by decide
 exact this w h
theorem cV.Ok.okd{r:cV}{fs:List Str}(h:r.Ok fs):OkD 176000 3 r.d:=by
 unfold cV.d w6;have hl:=h.rs.len;refine(OkD.tuple (n:=7) (b:=25000) (k:=2) (fun d hd=>?_) (by simp only[AI];omega)).mono (by decide) (by decide);simp only[Ak]at hd;rcases hd with rfl | rfl | rfl | hd
 ·exact(OkD.str (aB7 h.rs.word).1 (aB7 h.rs.word).2).mono (by decide) (by decide)
 ·exact(OkD.name h.nm).mono (by decide) (by decide)
 ·exact(OkD.int h.d0 (C6 h.d1 (by decide))).mono (by decide) (by decide)
 ·exact h.rs.okd d hd
theorem LOk.okd{l:L4}(h:LOk l):OkD 5000 1 (mU l):=by
 unfold mU;refine(OkD.tuple (n:=4) (b:=1002) (k:=0) (fun d hd=>?_) (by show 4≤4;decide)).mono (by decide) (by decide);simp only[Ak,Ap,or_false]at hd;have a1:=h.a1;rcases hd with rfl | rfl | rfl | rfl
 ·exact OkD.name h.f
 ·exact OkD.name h.h
 ·exact OkD.int (by omega) (C6 h.a2 (by decide))
 ·exact OkD.int h.i1 (C6 h.i2 (by decide))
def rP(Ls:List L4)(us:List cV):A8:=.tuple [.tuple (Ls.map mU),.tuple (us.map cV.d)]
theorem aB8{H:Hp}{fs:List Str}:∀{ys:List V}{q:List cV},jS H ys q fs→cE false H ys (q.map cV.d)
 | [],[],_=>.nil
 | [],_ :: _,h=>by have:=h.len;simp at this
 | _ :: _,[],h=>by have:=h.len;simp at this
 | y :: ys,u :: q,h=>by
  obtain⟨u',h1,h2,_⟩:=h.at' 0 y rfl;cases h1;exact .cons h2 (aB8 ⟨by have:=h.len;simpa using this,fun i x hx=>h.at' (i + 1) x hx⟩)
theorem jC.rd{H:Hp}{t:Ag}{Ls:List L4}{q:List cV}(h:jC H t Ls q):RdV false H (.ref t) (rP Ls q):=by
 obtain⟨lay,rw,xs,ys,h1,h2,h3,h4,h6,h7,h8,h9⟩:=h.ex;have F:=h3.len;have G:=h8.len;rw[Ab]at F;exact .tup h1 (by show 2≤1000;decide) (.cons (.tup h2 (by omega) h3) (.cons (.tup h7 (by omega) (aB8 h8)) .nil))
theorem jC.ok{H:Hp}{t:Ag}{Ls:List L4}{q:List cV}(h:jC H t Ls q):OkD 16000000 20 (rP Ls q):=by
 obtain⟨lay,rw,xs,ys,h1,h2,h3,h4,h6,h7,h8,h9⟩:=h.ex;have F:∀ u∈q,OkD 176000 3 u.d:=fun u hu=>by
  obtain⟨i,hi⟩:=Ct hu;obtain⟨hl,_⟩:=Ax.mp hi;obtain⟨u',e1,_,e3⟩:=h8.at' i _ (Aj (by have:=h8.len;omega));rw[hi]at e1;cases e1;exact e3.okd
 have G:OkD 7100000 4 (.tuple (Ls.map mU)):=(OkD.tuple (n:=8) (b:=5000) (k:=1) (fun d hd=>by
  obtain⟨l,hl,rfl⟩:=AQ.mp hd;exact(h4 l hl).okd) (by rw[Ab];exact h6)).mono (by decide) (by decide)
 have J:OkD 7100000 4 (.tuple (q.map cV.d)):=(OkD.tuple (n:=40) (b:=176000) (k:=3) (fun d hd=>by
  obtain⟨u,hu,rfl⟩:=AQ.mp hd;exact F u hu) (by rw[Ab];exact h9)).mono (by decide) (by decide)
 refine(OkD.tuple (n:=2) (b:=7100000) (k:=4) (fun d hd=>?_) (by show 2≤2;decide)).mono (by decide) (by decide);simp only[Ak,Ap,or_false]at hd;rcases hd with rfl | rfl
 ·exact G
 ·exact J
theorem rC{H:Hp}{m:Bool}{a:Ag}{d:A8}(r:RdV m H (.ref a) d)(o:OkD 16000000 20 d):RpV H (.ref a) d.shown:=.ref r o.sh o.dp (AG o.len (by rw[B0];omega))
def oS:List Str:=["land","acres","name","houses","same","inch","ring","none","done"]
theorem f8.told{S S' : Ex}{word z : Str}{ds : List A8}(h : f8 S word ds z S') : z ∈ oS := by
  cases h with
  | part => unfold cO;split;· decide
            split;· decide
            split <;> decide
  | join => unfold cK;split;· decide
            split;· decide
            split <;> decide
  | forfeit => unfold dF;split;· decide
               split <;> decide
  | measure => decide
  | mend => split <;> decide
  | alone => split <;> decide
  | breach => unfold dZ;split
              · split <;> decide
              · decide
  | view => unfold dZ;split
            · split <;> decide
            · decide
theorem Run.told{S S':Ex}{F:List cV}{zs:List Str}(h:Run S F zs S'):∀ z∈zs,z∈oS:=by
 induction h with
 | nil=>intro z hz;simp at hz
 | snoc _ st q=>
  intro y G;rcases AO.mp G with h | h
  ·exact q y h
  ·rw[AE.mp h];exact st.told
theorem nL{zs:List Str}(h:∀ z∈zs,z∈oS)(hl:zs.length≤40):OkD 16000000 20 (.list (zs.map BC)):=by
 have hw:∀ z∈oS,Eg z=true∧z.length≤100:=by decide
 refine(OkD.list (n:=40) (b:=1002) (k:=0) (fun d hd=>?_) (by rw[Ab];exact hl)).mono (by decide) (by decide);obtain⟨z,hz,rfl⟩:=AQ.mp hd;exact OkD.str (hw z (h z hz)).1 (hw z (h z hz)).2
theorem nN{H:Hp}{l:Ag}{zs:List Str}(h:∀ z∈zs,z∈oS)(hl:zs.length≤40)(e:H l=some (.lst (zs.map V.str))):RdV true H (.ref l) (.list (zs.map BC)):=by
 have hw:∀ z∈oS,z.length≤1000:=by decide
 exact .lst rfl e (by rw[Ab];omega) (qK fun z hz=>hw z (h z hz))
theorem aE2{S O Y:Ex}{F:List cV}{zs q:List Str}(h:Run S F zs O)(h':Run S F.dropLast q Y):q=zs.dropLast:=by
 cases h with
 | nil=>exact(Run.fn h' .nil).1
 | @snoc J G Z _ r z M st=>
  rw[List.dropLast_concat]at h' ⊢;exact(Run.fn h' M).1
theorem aAk(xs:List V):jZ xs none (some (-1))=xs.dropLast:=by
 have e:HT.sIx xs.length xs.length (some (-1))=xs.length - 1:=by
  unfold HT.sIx;simp;omega
 unfold jZ;rw[HT.sIx_none,e,DX,F1,CL]
theorem aCX{H:Hp}{ys:List V}{q:List cV}{fs:List Str}(h:jS H ys q fs):jS H ys.dropLast q.dropLast fs:=by
 have hl:=h.len;refine⟨by rw[CT,CT,hl],fun i x hx=>?_⟩;rw[CL,Cq]at hx;by_cases hi:i < ys.length - 1
 ·rw[Ib hi]at hx;obtain⟨u,h1,h2⟩:=h.at' i x hx;refine⟨u,?_,h2⟩;rw[CL,Cq,Ib (by omega)];exact h1
 ·rw[Ia hi]at hx;cases hx
inductive aB9(K:Ah)(T:Ag)(vs:List V)(H:Hp)(Q:VK)(u3_:XK):Prop
 | mk (a:Ag) (ns:List Int) (q0:vs=[.ref a]) (q1:SqL K H a (ns.map V.int)) (q2:ns.length≤63) (q3:Tb T H) (q4:∀ H',Q (.bl true) H'):aB9 K T vs H Q u3_
def aCa(K:Ah)(T:Ag):Sp:=fun vs H Q u3_=>aB9 K T vs H Q u3_
theorem aE3{K:Ah}{T p c:Ag}{ns:List Int}{a:Int}{H H':Hp}(g:Tb T H)(G:dB K H p c ns a)(k:bA p H H'):Tb T H':=by
 obtain⟨z,_,e⟩:=G.ob;obtain⟨ps,h1,h2,q⟩:=g.ex;refine⟨ps,k _ _ h1 (bT h1 e (fun z=>nomatch z)),h2,?_⟩;rcases q with q | ⟨c,q,F⟩
 ·exact .inl q
 ·exact .inr ⟨c,q,k _ _ F (bT F e (fun z=>nomatch z))⟩
theorem qN{T L:Ag}{H H':Hp}{xs:List V}(s:fY T H H')(g:Tb T H)(e:H L=some (.lst xs)):H' L=some (.lst xs):=s _ _ (fun z=>by
 obtain⟨ps,h1,_⟩:=g.ex;rw[z,h1]at e;cases e) e
theorem aGr:cC ["_law_script","_law_pen_here","_law_great","_law_some","_law_roll_here","_law_scale","_law_kept","_law_must_be","_law_found","_law_shorter"] ["_law_script"] (aO wW):=⟨rfl,rfl,rfl,by decide,rfl,by decide,by decide⟩
theorem aHt{f:Ag}{fd:A3}(F:Fun K "law" "law" wW f fd){C T:Ag}(bE:mg "len"=none)(bL:mg "int"=none)(J:mg "repr"=none)(bw:mg "isinstance"=none)(bf:mg "list"=none)
  (GP:Cl P w K mg base 1 "_law_pen" ["_law_script"] (aGk K))
  (GD:Cl P w K mg base 1 "_law_draw" ["_law_pen_here","_law_many"] (mJ K))
  (GR:Cl P w K mg base 4 "_law_roll" ["_law_pen_here","_law_most","_law_terms"] (aEY K))
  (GO:Cl P w K mg base 7 "words" ["roll"] (aBO C T))
  (GY:Cl P w K mg base 4 "_law_replayed" ["_law_roll_here","_law_scale","_law_at"] uB)
  :cY P w K mg base CX0 8 f fd ["_law_script"] (aCa K T):=by
 refine F.ok aGr (fun vs H Q E h=>?_) (fun d3 A outer s H vs Q E hr h=>?_)
 ·obtain⟨c,ns,rfl,_⟩:=h;rfl
 ·obtain⟨c,ns,rfl,hS,hln,tb,k⟩:=h;have hu:=d8 hr;have aa:dQ 1 _:=hr.mono (by decide);have bo:dQ 4 _:=hr.mono (by decide);have nd:=aGr.nd;refine⟨_,(aB (aS (i:=1) nd rfl (Av rfl) (cG GP aa (aG (pv 0) aE)))
   (aB (aS (i:=2) nd rfl (Av rfl) (cG GD aa (aG (pv 1) (aG aD aE))))
   (aB (aS (i:=3) nd rfl (Av rfl) (c7 (aG aN (aG aN (aG aN (aG aN (aG aN (aG aN (aG aN (aG aN (aG aN aE)))))))))))
   (aB (d6 (cB (aX c3 (bC eU (pv 2) aD) aD (bH _)) (aM (aS (i:=3) nd rfl (Av rfl) (c7 (aG aN (aG aN (aG aN (aG aN (aG aN aE)))))))) bB))
   (aB (jR (cG GR bo (aG (pv 1) (aG (aR bZ (c7 (aG aD (aG aD aE))) (dD p7 (by rfl) bL (by kernel_rfl) (aG (m6 c3 (pv 2) aD (bH _)) aE)) Ig) (aG (pv 3) aE)))) (iX rfl (b9 (aZ (i:=4) nd rfl (Av rfl)) (b9 (aZ (i:=5) nd rfl (Av rfl)) gM))))
   (aB (aS (i:=6) nd rfl (Av rfl) (aV (fF aa) (by rfl) J (by kernel_rfl) (aG (pv 4) aE)))
   (aB (aS (i:=7) nd rfl (Av rfl) (aR aW (cG GY bo (aG (pv 4) (aG (pv 5) (aG (aV bK (by rfl) bE AW (aG (aR aW (pv 4) aD Ig) aE)) aE)))) aD Ig))
   (aB (aS (i:=8) nd rfl (Av rfl) (cG GO hr (aG (pv 4) aE)))
   (aB (cB (PW.pt (aA9 (aC0 (wC (aV yE (by rfl) bw (by kernel_rfl) (aG (pv 8) (aG (aE8 (v:=.ty "list") (by rfl) bf (by kernel_rfl) rfl) aE))))) (wD (aX oT (aV (fF aa) (by rfl) J (by kernel_rfl) (aG (pv 8) aE)) (aV (fF aa) (by rfl) J (by kernel_rfl) (aG (pv 7) aE)) (bH _))))) (aM (bJ aF7)) bB)
   (aB (dC (aAD A0 PySem.F.slot_list_reverse PySem.F.type_list_reverse aAF (pv 8)))
   (aB (dC (jI A0 Bt Bs eO (pv 8) (aG aN aE)))
   (aB (aS (i:=9) nd rfl (Av rfl) (cJ (aG (aR aW (pv 4) aD Ig) (aG (e8 aBn (aR aW (pv 4) aD Ig) gN (gO (iC eZ aD))) aE))))
   (aB (cB (PW.pt (aA9 (aX oT (aV (fF aa) (by rfl) J (by kernel_rfl) (aG (cG GO hr (aG (pv 9) aE)) aE)) (aV (fF aa) (by rfl) J (by kernel_rfl) (aG (e8 m8 (pv 7) gN (gO (iC eZ aD))) aE)) (bH _)) (wD (aX oT (aV (fF aa) (by rfl) J (by kernel_rfl) (aG (cG GO hr (aG (pv 4) aE)) aE)) (aV (fF aa) (by rfl) J (by kernel_rfl) (aG (pv 7) aE)) (bH _))))) (aM (bJ aF7)) bB)
   (aM (bJ (m6 c3 (aV (fF aa) (by rfl) J (by kernel_rfl) (aG (pv 4) aE)) (pv 6) (bH _))))))))))))))))),?_⟩
  refine⟨_,rfl,c,ns,rfl,hS,hln,fun p H1 bP S1 fp=>?_⟩;have cm:Tb T H1:=tb.same S1;dsimp only[aY];refine⟨_,rfl,p,c,ns,0,_,rfl,bP,by omega,by decide,by decide,fun ag a2 H2 g0 g1 l2 u2 ca q2=>?_⟩;have cb:=aE3 cm bP q2;dsimp only[aY];refine⟨zZ9,fun LT cy=>?_⟩;have sT:=aK (o:=.lst [V.str "part",.str "join",.str "forfeit",.str "measure",.str "mend",.str "mend",.str "alone",.str "breach",.str "view"]) cy;have eT:upd H2 LT (.lst [V.str "part",.str "join",.str "forfeit",.str "measure",.str "mend",.str "mend",.str "alone",.str "breach",.str "view"]) LT=some (.lst ((["part","join","forfeit","measure","mend","mend","alone","breach","view"]:List Str).map V.str)):=aA;have bd:=ca.same sT;have bc:=cb.same sT;generalize upd H2 LT _=H3 at sT eT bd bc ⊢;dsimp only[aY];refine⟨fun σ' H'=>∃(L:Ag) (tw:List Str),σ'=[some (.ref c),some (.ref p),some (.int ag),some (.ref L),none,none,none,none,none,none]∧dB K H' p c ns a2∧Tb T H'∧H' L=some (.lst (tw.map V.str))∧(∀ z∈tw,z∈gH)∧1≤tw.length∧tw.length≤20,?_,?_⟩
  ·refine⟨_,rfl,_,_,rfl,rfl,(by show(0:Int) < 3;decide),rfl,_,rfl,cT (fun g=>?_) fun g=>?_⟩
   ·refine⟨zZ5,fun L hL=>?_⟩;have sL:=aK (o:=.lst [V.str "mend",.str "mend",.str "mend",.str "alone",.str "forfeit"]) hL;exact⟨L,["mend","mend","mend","alone","forfeit"],rfl,bd.same sL,bc.same sL,aA,by decide,by decide,by decide⟩
   ·exact⟨LT,_,rfl,bd,bc,eT,by decide,by decide,by decide⟩
  rintro σ' H4 ⟨L,tw,rfl,b2,bY,cj,cr,cv,bq⟩;refine⟨_,rfl,zZ2,fun q hq=>?_⟩;have sq:=aK (o:=.lst [V.int 14,.int 40]) hq;have aT:=b2.same sq;have bz:=bY.same sq;have bu:=sq _ _ cj;have bj:upd H4 q (.lst [V.int 14,.int 40]) q=some (.lst [V.int 14,.int 40]):=aA;generalize upd H4 q _=H5 at aT bz bu bj ⊢;refine⟨_,rfl,rfl,.inr ⟨_,rfl,?_⟩⟩;obtain⟨ak,hmost,hatm⟩:∃ ak:Nat,ak≤40∧atI [V.int 14,.int 40] (if decide (V.int ag=V.int 1)=true then 1 else 0)=some (.int ak):=by
   by_cases g:decide (V.int ag=V.int 1)=true
   ·rw[Ib g];exact⟨40,by decide,rfl⟩
   ·rw[Ia g];exact⟨14,by decide,rfl⟩
  refine⟨q,_,_,_,rfl,rfl,aU bj,hatm,_,rfl,p,c,ns,a2,ak,L,tw,rfl,aT,by omega,hmost,bu,cr,cv,bq,fun t2 t Ls us sc a6 H6 cf ad hok ck b3 s1 s2 bp d2 l6 u6 eh q6=>?_⟩;have cx:=aE3 bz aT q6;refine⟨t2,_,rfl,aH cf,rfl,_,_,rfl,_,_,rfl,rfl,_,rfl,.ref t,_,rfl,rC ad.rd ad.ok,?_⟩;dsimp only[aY];obtain⟨lay,rw,xs,ys,h1,h2,h3,h4,h6,h7,h8,h9⟩:=ad.ex;have cg:=h8.len;refine⟨_,rfl,_,rfl,_,rfl,t,_,1,_,rfl,rfl,aH h1,rfl,rw,_,rfl,.inr (aH h7),t,Ls,us,sc,by rw[cg];rfl,ad,hok,ck,b3,s1,s2,bp,fun t3 W M zs S7 H7 ae bt fM cq eM=>?_⟩;refine⟨t3,_,1,_,rfl,rfl,aH cq,rfl,?_⟩;have aq:=ad.on (bU bt);have ba:=cx.same bt;have d5:=ae.len;have Y:zs.length≤40:=by omega
  have G:=ae.told;dsimp only[aY];refine⟨_,rfl,t,Ls,us,rfl,aq,ba,fun l O S8 H8 br b7 bv b6 am=>?_⟩;obtain⟨rfl,_⟩:=br.fn ae;have bN:=qN bv ba eM;have bb:=aq.on (dL bv ba);have cc:l≠M:=(aJ eM b7).symm;dsimp only[aY];have Z:∀{z:Str},¬ ((!decide (V.str z=V.str z))=true):=fun{z} h=>by simp at h
  refine⟨_,rfl,_,"list",_,true,rfl,oW.lst am,aDH,_,rfl,cT (fun g=>absurd g (by decide)) fun _=>?_⟩;have r8:=rC (nN G Y am) (nL G Y);refine⟨_,rfl,.ref l,_,rfl,r8,_,rfl,.ref M,_,rfl,rC (nN G Y bN) (nL G Y),rfl,_,rfl,cT (fun g=>absurd g Z) fun _=>?_⟩;refine⟨_,rfl,.inl ⟨rfl,_,aU am⟩,l,_,rfl,rfl,am,?_⟩;have eg:∀{b:Ag} {o:HO},H8 b=some o→b≠l→upd H8 l (.lst (O.map V.str).reverse) b=some o:=fun{b o} e n=>by rw[aF n];exact e
  refine⟨_,rfl,.inl ⟨rfl,_,aU aA⟩,l,_,_,rfl,rfl,aA,by rw[Fx,Ab];exact cU (by omega),?_⟩;have cz:∀(o:HO),Tb T (upd (upd H8 l (.lst (O.map V.str).reverse)) l o):=fun o=>by
   obtain⟨ps,g1,g2,g3⟩:=b6.ex;have k:∀{b:Ag} {o':HO},H8 b=some o'→(∀ xs,o'≠.lst xs)→upd (upd H8 l (.lst (O.map V.str).reverse)) l o b=some o':=fun{b o'} e n=>by
    rw[rK,aF (bT e am (n _))];exact e
   refine⟨ps,k g1 (fun _ z=>nomatch z),g2,?_⟩;rcases g3 with g3 | ⟨c,g3,g4⟩
   ·exact .inl g3
   ·exact .inr ⟨c,g3,k g4 (fun _ z=>nomatch z)⟩
  have tA:∀(o:HO),fQ H8 (upd (upd H8 l (.lst (O.map V.str).reverse)) l o):=fun o b us e=>by
   rw[rK,aF (bT e am (fun z=>nomatch z))];exact e
  have bx:=cz (.lst ((O.map V.str).reverse ++ [V.str "done"]));have af:=bb.on (tA (.lst ((O.map V.str).reverse ++ [V.str "done"])));have bm:upd (upd H8 l (.lst (O.map V.str).reverse)) l (.lst ((O.map V.str).reverse ++ [V.str "done"])) M=some (.lst (O.map V.str)):=by
   rw[rK,aF cc.symm];exact bN
  generalize upd (upd H8 l (.lst (O.map V.str).reverse)) l _=H9 at bx af bm ⊢;obtain⟨lay,rw,xs,ys,h1,h2,h3,h4,h6,h7,h8,h9⟩:=af.ex;refine⟨_,rfl,t,_,0,_,rfl,rfl,aH h1,rfl,_,rfl,t,_,1,_,rfl,rfl,aH h1,rfl,_,rfl,_,rfl,rw,_,rfl,h7,fun r bM b0 er=>?_⟩;rw[aAk]at er;refine⟨zZ2,fun ts b4=>?_⟩;have bn:=aK (o:=.tup [V.ref lay,.ref r]) b4;have an:=b0.trans bn;have ar:jC (upd bM ts (.tup [V.ref lay,.ref r])) ts Ls us.dropLast:=⟨lay,r,xs,ys.dropLast,aA,an _ _ h2,cE.onT (bU an) h3 (gI Ls),h4,h6,bn _ _ er,(aCX h8).on (bU an),by rw[CT];omega⟩
  have aj:=bx.same an;have ai:=af.on (bU an);have aC:=an _ _ bm;generalize upd bM ts _=dm at ar aj ai aC ⊢;dsimp only[aY];refine⟨_,rfl,ts,Ls,us.dropLast,rfl,ar,aj,fun l2 dz dh bI a0 du ao bD bW=>?_⟩;have cw:=aE2 ae a0;subst cw;have au:O.dropLast.length≤40:=by rw[CT];omega
  have av:∀ z∈O.dropLast,z∈oS:=fun z hz=>G z (Fj _ hz);have aI:=qN ao aj aC;have ax:=ai.on (dL ao aj);refine⟨.ref l2,_,rfl,rC (nN av au bW) (nL av au),_,rfl,_,rfl,_,rfl,M,_,rfl,aU aI,fun D hD=>?_⟩;rw[aAk,← FV];have sD:=aK (o:=.lst (O.dropLast.map V.str)) hD;have al:=bD.same sD;have ab:=ax.on (bU sD);have ay:=sD _ _ aI;have eD:upd bI D (.lst (O.dropLast.map V.str)) D=some (.lst (O.dropLast.map V.str)):=aA;generalize upd bI D _=dr at al ab ay eD ⊢;refine⟨.ref D,_,rfl,rC (nN av au eD) (nL av au),rfl,_,rfl,cT (fun g=>absurd g Z) fun _=>?_⟩;refine⟨_,rfl,t,Ls,us,rfl,ab,al,fun l3 dw d4 ec be ea ap da ci=>?_⟩;obtain⟨rfl,_⟩:=be.fn ae;have bO:=qN ap al ay;have ah:=ab.on (dL ap al);refine⟨.ref l3,_,rfl,rC (nN G Y ci) (nL G Y),_,rfl,.ref M,_,rfl,rC (nN G Y bO) (nL G Y),rfl,_,rfl,cT (fun g=>absurd g Z) fun _=>?_⟩;refine⟨_,rfl,.ref t,_,rfl,rC ah.rd ah.ok,_,rfl,rfl,?_⟩;have:V.bl (decide (V.str (rP Ls us).shown=V.str (rP Ls us).shown))=V.bl true:=by simp
  rw[this];exact k _
inductive aIq(K:Ah)(n:Str)(st:Co):Prop
 | mk (f:_) (q0:A4 K mainGlobals n=some (some (.ref f))) (q1:(∃ oc od kV dc pm an cd ct sl,K.lookup f=some ⟨oc,od,.func (BK n n (dW st) (dM st) (aO st) .none kV dc pm an cd ct),sl⟩∧BR K cd n=true)) (q2:AT K (.ref f)=true):aIq K n st
def Dx(K:Ah)(n:Str)(st:Co):Prop:=aIq K n st
theorem dP{K:Ah}{h:Bi}{mg:Str→Option Ad}{n:Str}{st:Co}(d:Dx K n st)(X:K.In h)(G:h.Ns mainGlobals mg):∃ f fd,Fun K n n st f fd∧mg n=some (.ref f)∧AT K (.ref f)=true:=by
 obtain⟨f,a,⟨_,_,_,_,_,_,_,_,_,l,c⟩,k⟩:=d;exact⟨f,_,i6 l c k,B9 X G a,k⟩
theorem all_mk{l:F0}{w:AV}{K:Ah}{h:Bi}{mg:Str→Option Ad}{fa:Ag}(X:K.In h)(G:h.Ns mainGlobals mg)(hfa:mg "law"=some (.ref fa))
  {fIn:Ag} {odIn anIn:Option Ag} {slIn:Array (Option Ad)} {ocIn kVIn dcIn pmIn ctIn:Ad} {fPa:Ag} {odPa anPa:Option Ag} {slPa:Array (Option Ad)} {ocPa kVPa dcPa pmPa cdPa ctPa:Ad} {fJo:Ag} {odJo anJo:Option Ag} {slJo:Array (Option Ad)} {ocJo kVJo dcJo pmJo cdJo ctJo:Ad} {fFo:Ag} {odFo anFo:Option Ag} {slFo:Array (Option Ad)} {ocFo kVFo dcFo pmFo cdFo ctFo:Ad} {fMe:Ag} {odMe anMe:Option Ag} {slMe:Array (Option Ad)} {ocMe kVMe dcMe pmMe cdMe ctMe:Ad} {fMn:Ag} {odMn anMn:Option Ag} {slMn:Array (Option Ad)} {ocMn kVMn dcMn pmMn cdMn ctMn:Ad} {fAl:Ag} {odAl anAl:Option Ag} {slAl:Array (Option Ad)} {ocAl kVAl dcAl pmAl cdAl ctAl:Ad} {fLo:Ag} {odLo anLo:Option Ag} {slLo:Array (Option Ad)} {ocLo kVLo dcLo pmLo cdLo ctLo:Ad} {fL:Ag} {odL anL:Option Ag} {slL:Array (Option Ad)} {ocL kVL dcL pmL cdL ctL:Ad}
  {t_DEEDS:Ag} {eF:Nat} {xk0 xk1 xk2 xk3 xk4 xk5 xk6 xk7:Tok}
  {C fI:Ag} {odI anI:Option Ag} {slI:Array (Option Ad)} {ocI kVI dcI pmI cdI ctI:Ad} {TT qIn:Ag}
  (aC:A4 K mainGlobals "Moment"=some (some (.ref C)))
  (aI:Bv K (.ref C) "__init__"=some (some (.ref fI))) (iI:Gr K (.ref fI)=true) (lI:K.lookup fI=some ⟨ocI,odI,.func (BK "__init__" "Moment.__init__" (dW vX) (dM vX) (aO vX) .none kVI dcI pmI anI cdI ctI),slI⟩) (cI:BR K cdI "Moment.__init__"=true) (kI:AT K (.ref fI)=true)
  (pg:EH K C Str.empty=true) (hd:Ew K C=true) (po:Fy K C=true) (sa:Bv K (.ref C) "__setattr__"=some (some (.builtin "object.__setattr__"))) (mk:FZ K C=true) (kc:AT K (.ref C)=true)
  (nR:Bv K (.ref C) "ranks"=some none) (nH:Bv K (.ref C) "holdings"=some none) (nA:Bv K (.ref C) "acres"=some none) (nI:Bv K (.ref C) "inches"=some none) (nM:Bv K (.ref C) "menders"=some none)
  (aIn:A4 K mainGlobals "in_one"=some (some (.ref fIn))) (lIn:K.lookup fIn=some ⟨ocIn,odIn,.func (BK "in_one" "in_one" (dW qG) (dM qG) (aO qG) .none kVIn dcIn pmIn anIn (.ref qIn) ctIn),slIn⟩) (cIn:BR K (.ref qIn) "in_one"=true) (kIn:AT K (.ref fIn)=true)
  (aPa:A4 K mainGlobals "do_part"=some (some (.ref fPa))) (lPa:K.lookup fPa=some ⟨ocPa,odPa,.func (BK "do_part" "do_part" (dW jL) (dM jL) (aO jL) .none kVPa dcPa pmPa anPa cdPa ctPa),slPa⟩) (cPa:BR K cdPa "do_part"=true) (kPa:AT K (.ref fPa)=true)
  (aJo:A4 K mainGlobals "do_join"=some (some (.ref fJo))) (lJo:K.lookup fJo=some ⟨ocJo,odJo,.func (BK "do_join" "do_join" (dW jM) (dM jM) (aO jM) .none kVJo dcJo pmJo anJo cdJo ctJo),slJo⟩) (cJo:BR K cdJo "do_join"=true) (kJo:AT K (.ref fJo)=true)
  (aFo:A4 K mainGlobals "do_forfeit"=some (some (.ref fFo))) (lFo:K.lookup fFo=some ⟨ocFo,odFo,.func (BK "do_forfeit" "do_forfeit" (dW g9) (dM g9) (aO g9) .none kVFo dcFo pmFo anFo cdFo ctFo),slFo⟩) (cFo:BR K cdFo "do_forfeit"=true) (kFo:AT K (.ref fFo)=true)
  (aMe:A4 K mainGlobals "do_measure"=some (some (.ref fMe))) (lMe:K.lookup fMe=some ⟨ocMe,odMe,.func (BK "do_measure" "do_measure" (dW hG) (dM hG) (aO hG) .none kVMe dcMe pmMe anMe cdMe ctMe),slMe⟩) (cMe:BR K cdMe "do_measure"=true) (kMe:AT K (.ref fMe)=true)
  (aMn:A4 K mainGlobals "do_mend"=some (some (.ref fMn))) (lMn:K.lookup fMn=some ⟨ocMn,odMn,.func (BK "do_mend" "do_mend" (dW nC) (dM nC) (aO nC) .none kVMn dcMn pmMn anMn cdMn ctMn),slMn⟩) (cMn:BR K cdMn "do_mend"=true) (kMn:AT K (.ref fMn)=true)
  (aAl:A4 K mainGlobals "do_alone"=some (some (.ref fAl))) (lAl:K.lookup fAl=some ⟨ocAl,odAl,.func (BK "do_alone" "do_alone" (dW kC) (dM kC) (aO kC) .none kVAl dcAl pmAl anAl cdAl ctAl),slAl⟩) (cAl:BR K cdAl "do_alone"=true) (kAl:AT K (.ref fAl)=true)
  (aLo:A4 K mainGlobals "do_look"=some (some (.ref fLo))) (lLo:K.lookup fLo=some ⟨ocLo,odLo,.func (BK "do_look" "do_look" (dW nE) (dM nE) (aO nE) .none kVLo dcLo pmLo anLo cdLo ctLo),slLo⟩) (cLo:BR K cdLo "do_look"=true) (kLo:AT K (.ref fLo)=true)
  (aL:A4 K mainGlobals "law"=some (some (.ref fL))) (lL:K.lookup fL=some ⟨ocL,odL,.func (BK "law" "law" (dW wW) (dM wW) (aO wW) .none kVL dcL pmL anL cdL ctL),slL⟩) (cL:BR K cdL "law"=true) (kL:AT K (.ref fL)=true)
  (z_len:A4 K mainGlobals "len"=some none)
  (z_sum:A4 K mainGlobals "sum"=some none)
  (z_max:A4 K mainGlobals "max"=some none)
  (z_min:A4 K mainGlobals "min"=some none)
  (z_tuple:A4 K mainGlobals "tuple"=some none)
  (z_sorted:A4 K mainGlobals "sorted"=some none)
  (z_any:A4 K mainGlobals "any"=some none)
  (z_all:A4 K mainGlobals "all"=some none)
  (z_abs:A4 K mainGlobals "abs"=some none)
  (z_range:A4 K mainGlobals "range"=some none)
  (z_int:A4 K mainGlobals "int"=some none)
  (z_set:A4 K mainGlobals "set"=some none)
  (z_dict:A4 K mainGlobals "dict"=some none)
  (z_repr:A4 K mainGlobals "repr"=some none)
  (z_isinstance:A4 K mainGlobals "isinstance"=some none)
  (z_list:A4 K mainGlobals "list"=some none)
  (q_DEEDS:A4 K mainGlobals "DEEDS"=some (some (.ref t_DEEDS)))
  (lFm:K.lookup t_DEEDS=some { cls:=.type "dict",data:=.dict #[⟨Bp w.params "part",.str "part" xk0,.ref fPa⟩,⟨Bp w.params "join",.str "join" xk1,.ref fJo⟩,⟨Bp w.params "forfeit",.str "forfeit" xk2,.ref fFo⟩,⟨Bp w.params "measure",.str "measure" xk3,.ref fMe⟩,⟨Bp w.params "mend",.str "mend" xk4,.ref fMn⟩,⟨Bp w.params "alone",.str "alone" xk5,.ref fAl⟩,⟨Bp w.params "breach",.str "breach" xk6,.ref fLo⟩,⟨Bp w.params "view",.str "view" xk7,.ref fLo⟩] eF }) (hcI:FK K qIn TT=true)
  (zAc:Dx K "acres_in" wS)
  (zCu:Dx K "cut" aG6)
  (zRf:Dx K "road_from" qH)
  (zCa:Dx K "carry_out" aAX)
  (zWd:Dx K "words" wT)
  (zP:Dx K "_law_pen" aG7)
  (zD:Dx K "_law_draw" aEc)
  (zN:Dx K "_law_names" oH)
  (zWo:Dx K "_law_world" tR)
  (zUn:Dx K "_law_units" wU)
  (zLr:Dx K "_law_road" aAY)
  (zPw:Dx K "_law_part_word" kG)
  (zJw:Dx K "_law_join_word" kH)
  (zO:Dx K "_law_word" aEd)
  (zE:Dx K "_law_do" sDo)
  (zY:Dx K "_law_replayed" qI)
  (zLP:Dx K "_law_part" vP)
  (zLJ:Dx K "_law_join" aBE)
  (zM:Dx K "_law_made" aEe)
  (zR:Dx K "_law_rank" aEf)
  (zLa:Dx K "_law_laying" wV)
  (zRo:Dx K "_law_roll" y9)
  :∃ fd:A3,(∀(s:Af) (v:Ad),Gm s fd ⟨[v],[]⟩ [("_law_script",v)])∧∀ base:Bi,K.In base→base.Ns mainGlobals mg→uM mg base→cY l.prog w K mg base CX0 8 fa fd ["_law_script"] (aCa K TT):=by
 have e:=hfa.symm.trans (B9 X G aL);cases e;have FIn:=i6 (st:=qG) lIn cIn kIn;have mIn:=B9 X G aIn;have bIn:=FIn.binds (ps:=["ranks","pieces"]) fun _ _ _ _ _ _ us hl=>by obtain⟨_,_,rfl⟩:=jY hl;rfl
 have FPa:=i6 (st:=jL) lPa cPa kPa;have mPa:=B9 X G aPa;have bPa:=FPa.binds (ps:=["moment","row"]) fun _ _ _ _ _ _ us hl=>by obtain⟨_,_,rfl⟩:=jY hl;rfl
 have FJo:=i6 (st:=jM) lJo cJo kJo;have mJo:=B9 X G aJo;have bJo:=FJo.binds (ps:=["moment","row"]) fun _ _ _ _ _ _ us hl=>by obtain⟨_,_,rfl⟩:=jY hl;rfl
 have FFo:=i6 (st:=g9) lFo cFo kFo;have mFo:=B9 X G aFo;have bFo:=FFo.binds (ps:=["moment","row"]) fun _ _ _ _ _ _ us hl=>by obtain⟨_,_,rfl⟩:=jY hl;rfl
 have FMe:=i6 (st:=hG) lMe cMe kMe;have mMe:=B9 X G aMe;have bMe:=FMe.binds (ps:=["moment","row"]) fun _ _ _ _ _ _ us hl=>by obtain⟨_,_,rfl⟩:=jY hl;rfl
 have FMn:=i6 (st:=nC) lMn cMn kMn;have mMn:=B9 X G aMn;have bMn:=FMn.binds (ps:=["moment","row"]) fun _ _ _ _ _ _ us hl=>by obtain⟨_,_,rfl⟩:=jY hl;rfl
 have FAl:=i6 (st:=kC) lAl cAl kAl;have mAl:=B9 X G aAl;have bAl:=FAl.binds (ps:=["moment","row"]) fun _ _ _ _ _ _ us hl=>by obtain⟨_,_,rfl⟩:=jY hl;rfl
 have FLo:=i6 (st:=nE) lLo cLo kLo;have mLo:=B9 X G aLo;have bLo:=FLo.binds (ps:=["moment","row"]) fun _ _ _ _ _ _ us hl=>by obtain⟨_,_,rfl⟩:=jY hl;rfl
 have FL:=i6 (st:=wW) lL cL kL;have mL:=B9 X G aL;have bL:=FL.binds (ps:=["_law_script"]) fun _ _ _ _ _ _ us hl=>by obtain⟨_,rfl⟩:=aCY hl;rfl
 have n_len:=Bb X G z_len;have n_sum:=Bb X G z_sum;have n_max:=Bb X G z_max;have n_min:=Bb X G z_min;have n_tuple:=Bb X G z_tuple;have n_sorted:=Bb X G z_sorted;have n_any:=Bb X G z_any;have n_all:=Bb X G z_all;have n_abs:=Bb X G z_abs;have n_range:=Bb X G z_range;have n_int:=Bb X G z_int;have n_set:=Bb X G z_set;have n_dict:=Bb X G z_dict;have n_repr:=Bb X G z_repr;have n_isinstance:=Bb X G z_isinstance;have n_list:=Bb X G z_list;have g_DEEDS:=B9 X G q_DEEDS;refine⟨BK "law" "law" (dW wW) (dM wW) (aO wW) .none kVL dcL pmL anL cdL ctL,fun s v=>.of_eq rfl,fun base _ _ hB=>?_⟩;obtain⟨_,_,FAc,mAc,kAc⟩:=dP zAc X G;have bAc:=FAc.binds (ps:=["pieces"]) fun _ _ _ _ _ _ us hl=>by obtain⟨_,rfl⟩:=aCY hl;rfl
 obtain⟨_,_,FCu,mCu,kCu⟩:=dP zCu X G;have bCu:=FCu.binds (ps:=["pieces","low","high"]) fun _ _ _ _ _ _ us hl=>by obtain⟨_,_,_,rfl⟩:=aE4 hl;rfl
 obtain⟨_,_,FRf,mRf,kRf⟩:=dP zRf X G;have bRf:=FRf.binds (ps:=["menders","house"]) fun _ _ _ _ _ _ us hl=>by obtain⟨_,_,rfl⟩:=jY hl;rfl
 obtain⟨_,_,FCa,mCa,kCa⟩:=dP zCa X G;have bCa:=FCa.binds (ps:=["moment","row"]) fun _ _ _ _ _ _ us hl=>by obtain⟨_,_,rfl⟩:=jY hl;rfl
 obtain⟨_,_,FWd,mWd,kWd⟩:=dP zWd X G;have bWd:=FWd.binds (ps:=["roll"]) fun _ _ _ _ _ _ us hl=>by obtain⟨_,rfl⟩:=aCY hl;rfl
 obtain⟨_,_,FP,mP,kP⟩:=dP zP X G;have bP:=FP.binds (ps:=["_law_script"]) fun _ _ _ _ _ _ us hl=>by obtain⟨_,rfl⟩:=aCY hl;rfl
 obtain⟨_,_,FD,mD,kD⟩:=dP zD X G;have bD:=FD.binds (ps:=["_law_pen_here","_law_many"]) fun _ _ _ _ _ _ us hl=>by obtain⟨_,_,rfl⟩:=jY hl;rfl
 obtain⟨_,_,FN,mN,kN⟩:=dP zN X G;have bN:=FN.binds (ps:=["_law_pen_here","_law_many"]) fun _ _ _ _ _ _ us hl=>by obtain⟨_,_,rfl⟩:=jY hl;rfl
 obtain⟨_,_,FWo,mWo,kWo⟩:=dP zWo X G;have bWo:=FWo.binds (ps:=["_law_laying_here","_law_scale"]) fun _ _ _ _ _ _ us hl=>by obtain⟨_,_,rfl⟩:=jY hl;rfl
 obtain⟨_,_,FUn,mUn,kUn⟩:=dP zUn X G;have bUn:=FUn.binds (ps:=["_law_world_here","_law_land"]) fun _ _ _ _ _ _ us hl=>by obtain⟨_,_,rfl⟩:=jY hl;rfl
 obtain⟨_,_,FLr,mLr,kLr⟩:=dP zLr X G;have bLr:=FLr.binds (ps:=["_law_world_here","_law_house"]) fun _ _ _ _ _ _ us hl=>by obtain⟨_,_,rfl⟩:=jY hl;rfl
 obtain⟨_,_,FPw,mPw,kPw⟩:=dP zPw X G;have bPw:=FPw.binds (ps:=["_law_world_here","_law_row"]) fun _ _ _ _ _ _ us hl=>by obtain⟨_,_,rfl⟩:=jY hl;rfl
 obtain⟨_,_,FJw,mJw,kJw⟩:=dP zJw X G;have bJw:=FJw.binds (ps:=["_law_world_here","_law_row"]) fun _ _ _ _ _ _ us hl=>by obtain⟨_,_,rfl⟩:=jY hl;rfl
 obtain⟨_,_,FO,mO,kO⟩:=dP zO X G;have bO:=FO.binds (ps:=["_law_world_here","_law_row"]) fun _ _ _ _ _ _ us hl=>by obtain⟨_,_,rfl⟩:=jY hl;rfl
 obtain⟨_,_,FE,mE,kE⟩:=dP zE X G;have bE:=FE.binds (ps:=["_law_world_here","_law_row"]) fun _ _ _ _ _ _ us hl=>by obtain⟨_,_,rfl⟩:=jY hl;rfl
 obtain⟨_,_,FY,mY,kY⟩:=dP zY X G;have bY:=FY.binds (ps:=["_law_roll_here","_law_scale","_law_at"]) fun _ _ _ _ _ _ us hl=>by obtain⟨_,_,_,rfl⟩:=aE4 hl;rfl
 obtain⟨_,_,FLP,mLP,kLP⟩:=dP zLP X G;have bLP:=FLP.binds (ps:=["_law_pen_here","_law_world_here","_law_fresh","_law_pool"]) fun _ _ _ _ _ _ us hl=>by obtain⟨_,_,_,_,rfl⟩:=aHu hl;rfl
 obtain⟨_,_,FLJ,mLJ,kLJ⟩:=dP zLJ X G;have bLJ:=FLJ.binds (ps:=["_law_pen_here","_law_world_here","_law_fresh"]) fun _ _ _ _ _ _ us hl=>by obtain⟨_,_,_,rfl⟩:=aE4 hl;rfl
 obtain⟨_,_,FM,mM,kM⟩:=dP zM X G;have bM:=FM.binds (ps:=["_law_pen_here","_law_world_here","_law_fresh","_law_pool","_law_word_here"]) fun _ _ _ _ _ _ us hl=>by obtain⟨_,_,_,_,_,rfl⟩:=aIr hl;rfl
 obtain⟨_,_,FR,mR,kR⟩:=dP zR X G;have bR:=FR.binds (ps:=["_law_word_here"]) fun _ _ _ _ _ _ us hl=>by obtain⟨_,rfl⟩:=aCY hl;rfl
 obtain⟨_,_,FLa,mLa,kLa⟩:=dP zLa X G;have bLa:=FLa.binds (ps:=["_law_pen_here","_law_pool","_law_scale","_law_most"]) fun _ _ _ _ _ _ us hl=>by obtain⟨_,_,_,_,rfl⟩:=aHu hl;rfl
 obtain⟨_,_,FRo,mRo,kRo⟩:=dP zRo X G;have bRo:=FRo.binds (ps:=["_law_pen_here","_law_most","_law_terms"]) fun _ _ _ _ _ _ us hl=>by obtain⟨_,_,_,rfl⟩:=aE4 hl;rfl
 have hc:MC K C:=⟨⟨pg,hd,po,sa⟩,nR,nH,nA,nI,nM⟩
 have mC:=B9 X G aC;have FI:=i6 (st:=vX) lI cI kI;have bI:=FI.binds (ps:=["self","laying"]) fun _ _ _ _ _ _ us hl=>by obtain⟨_,_,rfl⟩:=jY hl;rfl
 have GI:=aFQ (P:=l.prog) (w:=w) (base:=base) FI hc n_len;have GAc:=aEq (P:=l.prog) (w:=w) (base:=base) FAc n_sum;have GCu:=aHj (P:=l.prog) (w:=w) (base:=base) FCu n_max n_min n_tuple;have GIn:=aEu (P:=l.prog) (w:=w) FIn rfl hcI hB n_sorted n_tuple;have GRf:=zI (P:=l.prog) (w:=w) (mg:=mg) (base:=base) FRf;have GPa:=aCP (T:=TT) FPa hc n_sum n_any ⟨_,_,GAc,mAc,kAc,bAc⟩ ⟨_,_,GCu,mCu,kCu,bCu⟩;have GJo:=aCQ FJo hc n_all n_any ⟨_,_,GIn,mIn,kIn,bIn⟩;have GFo:=w9 (P:=l.prog) (w:=w) (mg:=mg) (base:=base) (T:=TT) FFo hc;have GMe:=xA (P:=l.prog) (w:=w) (mg:=mg) (base:=base) (T:=TT) FMe hc;have GMn:=aCO (T:=TT) FMn hc ⟨_,_,GRf,mRf,kRf,bRf⟩;have GAl:=aA4 (P:=l.prog) (w:=w) (mg:=mg) (base:=base) (T:=TT) FAl hc;have GLo:=aCN (P:=l.prog) (w:=w) (mg:=mg) (base:=base) (T:=TT) FLo hc;have GCa:=aEB FCa (aFN lFm) g_DEEDS ⟨⟨_,GPa.mono (by decide),kPa,bPa⟩⟩ ⟨⟨_,GJo.mono (by decide),kJo,bJo⟩⟩ ⟨⟨_,GFo.mono (by decide),kFo,bFo⟩⟩ ⟨⟨_,GMe.mono (by decide),kMe,bMe⟩⟩ ⟨⟨_,GMn.mono (by decide),kMn,bMn⟩⟩ ⟨⟨_,GAl.mono (by decide),kAl,bAl⟩⟩ ⟨⟨_,GLo.mono (by decide),kLo,bLo⟩⟩;have GWd:=aEE FWd ⟨mk,aI,iI,kc⟩ GI mC bI ⟨_,_,GCa,mCa,kCa,bCa⟩;have GD:=aFG (P:=l.prog) (w:=w) (base:=base) FD n_len n_abs;have GN:=aEn FN n_len n_range n_min GD mD kD bD;have GWo:=aEM (P:=l.prog) (w:=w) (base:=base) FWo n_dict n_range;have GUn:=aEH (P:=l.prog) (w:=w) (mg:=mg) (base:=base) FUn;have GLr:=aEG (P:=l.prog) (w:=w) (mg:=mg) (base:=base) FLr;have GPw:=zX FPw n_len n_sum n_int ⟨_,_,GUn,mUn,kUn,bUn⟩;have GJw:=zZ (P:=l.prog) (w:=w) (base:=base) FJw n_len n_set n_int
 have GO:=aFT FO ⟨_,_,GPw,mPw,kPw,bPw⟩ ⟨_,_,GJw,mJw,kJw,bJw⟩ ⟨_,_,GLr,mLr,kLr,bLr⟩;have GE:=aIo FE ⟨_,_,GUn,mUn,kUn,bUn⟩;have GY:=aAf FY ⟨_,_,GWo,mWo,kWo,bWo⟩ ⟨_,_,GO,mO,kO,bO⟩ ⟨_,_,GE,mE,kE,bE⟩;have GLP:=aET FLP n_len n_sorted n_min n_max n_range n_set n_tuple ⟨_,_,GD,mD,kD,bD⟩ ⟨_,_,GUn,mUn,kUn,bUn⟩;have GLJ:=aEU FLJ n_len n_sorted n_set n_tuple ⟨_,_,GD,mD,kD,bD⟩;have GM:=aF2 FM n_len n_sorted n_min ⟨_,_,GD,mD,kD,bD⟩ ⟨_,_,GLP,mLP,kLP,bLP⟩ ⟨_,_,GLJ,mLJ,kLJ,bLJ⟩;have GR:=aFU (P:=l.prog) (w:=w) (mg:=mg) (base:=base) FR;have GLa:=aCR FLa n_len n_tuple ⟨_,_,GN,mN,kN,bN⟩ ⟨_,_,GD,mD,kD,bD⟩;have GRo:=aF4 FRo n_len n_tuple GN mN kN bN GLa mLa kLa bLa GWo mWo kWo bWo GD mD kD bD GM mM kM bM GR mR kR bR GO mO kO bO GE mE kE bE;exact aHt FL n_len n_int n_repr n_isinstance n_list ⟨_,_,(aHf FP),mP,kP,bP⟩ ⟨_,_,GD,mD,kD,bD⟩ ⟨_,_,GRo,mRo,kRo,bRo⟩ ⟨_,_,GWd,mWd,kWd,bWd⟩ ⟨_,_,GY,mY,kY,bY⟩
theorem walk{l:F0}{q:AD}{loose:List Str}{XP:(Str→Option Ad)→Bi→Prop}{YP:AV→Bi→Prop}{d:DefRec}{K:Params→Ah}{c T:Ag}(hn:l.most=some 63)(hdf:d.params.defaults=[])
  (hY:∀(w:AV) (h:Bi),YP w h→(K w.params).In h∧∀ P∈[T],h.get? P=some (PySem.W.tabObj #[]))
  (F:∀(w:AV) (mg:Str→Option Ad) (fa:Ag) (h:Bi),(K w.params).In h→h.Ns mainGlobals mg→mg d.name=some (.ref fa)→
   ∃ fd:A3,(∀(s:Af) (u:Ad),Gm s fd ⟨[u],[]⟩ [("_law_script",u)])∧∀ base:Bi,(K w.params).In base→base.Ns mainGlobals mg→uM mg base→cY l.prog w (K w.params) mg base CX0 8 fa fd ["_law_script"] (aCa (K w.params) T))
  (hC:∀(w:AV),FK (K w.params) c T=true) (hN:∀(w:AV),(K w.params).lookup T=none):
  PySem.W.WalkO q loose XP YP l.row.toRowW d [] (fun f vs=>He f vs):=
 L2.walk_ofT (n:=63) (k:=8) (x:="_law_script") (cts:=[(c,T)]) (sp:=fun w=>aCa (K w.params) T) hn (by decide) hdf ⟨rfl,by decide,by decide,rfl⟩ hY (fun w p hp=>by
  rw[AE.mp hp];exact⟨hC w,hN w⟩) F fun w H a ns hl hT hS=>⟨a,ns,rfl,hS,hl,lN.start (hT T (AE.mpr rfl)),fun _=>rfl⟩
end K13
end
namespace PySem.W.Fast
def tw13517408584587708488:=0
def tw5157057534158229316:=0
def tw17848246221514115593:=0
def tw3921150511577285806:=0
def tw994157899345036939:=0
def tw11417150322656377723:=0
def tw5764323155228276639:=0
def tw3538320616050420238:=0
def tw5163223777602733709:=0
def tw16162503676594389001:=0
def tw983994937589216146:=0
def tw17704825399314333479:=0
def tw11179843844790880708:=0
def tw7691335677189824682:=0
def tw12972788780297661780:=0
def tw6304406966165248223:=0
def tw13527012263234615711:=0
def tw4754267143283713908:=0
def tw2259210298330194039:=0
def tw7857979227233420782:=0
def tw11753256037834204291:=0
def tw14264430970150082440:=0
def tw2696092477168383642:=0
def tw4663213352136416785:=0
def tw13030339997938942150:=0
def tw17402912553913424590:=0
def tw9982798828381411414:=0
def tw17970900313986077844:=0
def tw18413299669675696756:=0
def tw7660222983506210870:=0
def tw8569607400118120948:=0
def tw4887734342660090914:=0
def tw13305977910864329116:=0
def tw10352616520042312649:=0
def tw7192170401715379861:=0
def tw2987003978437084647:=0
def tw13162100507022880214:=0
def tw322416955794981484:=0
def tw2015298260751853796:=0
def tw5765500513520695160:=0
def tw1294503529934642742:=0
def tw1863715959526919187:=0
def tw15589411247408666972:=0
def tw9451470524793519633:=0
def tw9883064292701951066:=0
def tw7518107918534118436:=0
def tw10340989439298915004:=0
def tw10337934263560963521:=0
def tw14753467871622403948:=0
def tw1165000982077230208:=0
def tw6525692326622469243:=0
def tw2280027553055558941:=0
def tw2682471076387441889:=0
def tw708945145059932285:=0
def tw17454058431056404569:=0
def tw16861758061122606866:=0
def tw1847864820801675975:=0
def tw3054155521081029199:=0
def tw7408079404680797653:=0
def tw4861845853982622451:=0
def tw3426272662881414793:=0
def tw9396036206008257069:=0
def tw1268551493176451683:=0
def tw2137375419640539708:=0
def tw3735158691979791346:=0
def tw7297361531232553565:=0
def tw12513449267347834284:=0
def tw9236725085810588615:=0
def tw4690877747208703287:=0
def tw4567539326117160775:=0
def tw1043397118834317912:=0
def tw3229003078341211679:=0
def tw1290430382855225733:=0
def tw14244840539090660921:=0
def tw15051815673967415332:=0
def tw7810344186633140185:=0
def tw15162001462841628628:=0
def tw4368783993088349301:=0
def tw6502615128234115506:=0
def tw5473479725281139520:=0
def tw7219010135198464269:=0
def tw11774106077809603389:=0
def tw7537727378569811772:=0
def tw10761205219624993309:=0
def tw9722482371659089001:=0
def tw10944029193678438062:=0
def tw8219116191290445677:=0
def tw10515153996791085305:=0
def tw1937803943549145108:=0
def tw7808636342924633813:=0
def tw7727107178765513084:=0
def tw1255103136841482656:=0
def tw12914432589563676742:=0
def tw17469415995397625941:=0
def tw9175632264084416880:=0
def tw11719194124499535280:=0
def tw285604942958212029:=0
def tw17817940983044369314:=0
def tw5073306828892335426:=0
def tw10672343987501823347:=0
def tw9841976744132200429:=0
def tw16451838608064301235:=0
def tw11014342459821984716:=0
def tw9746462367194528792:=0
def tw15353627069189462970:=0
def tw1675093812373521373:=0
def tw4250002373937216414:=0
def tw17603705225266923482:=0
def tw6453869003325418164:=0
def tw17324804056930471402:=0
def tw9080579933503558976:=0
def tw10584491239378275646:=0
def tw4741602114823390193:=0
def tw8691573876408011705:=0
def tw16300953289399813261:=0
def tw5465209885697293161:=0
def tw16458689671683365594:=0
def tw12767157552211290001:=0
def tw14434688007774048085:=0
def tw5320250408102014085:=0
def tw12852280800645747825:=0
def tw17907914927426912895:=0
def tw13305224218191043559:=0
def tw13444987073207245256:=0
def tw8970410970676813281:=0
def tw12533086783773107391:=0
def tw10785852841061034951:=0
def tw7494857454258102966:=0
def tw11541461484258308375:=0
def tw11668202663760465395:=0
def tw15665353583211781426:=0
def tw16344472527324692721:=0
def tw2715408466992341021:=0
def tw3163901743926840416:=0
def tw5618692082626406126:=0
def tw13096056994639750571:=0
def tw5135037620359287943:=0
def tw10950010731573112483:=0
def tw2854776284343497855:=0
def tw3774035412062776252:=0
def tw16131864885455918800:=0
def tw10262278883008507158:=0
def tw3608837654872213645:=0
def tw8186997040937019961:=0
def tw3377232055474511348:=0
def tw3777707067358609776:=0
def tw4300144502107053705:=0
def tw10213381559043375200:=0
def tw16043664270041890589:=0
def tw2061245513212985213:=0
def tw4315846151400615626:=0
def tw563442892912755945:=0
def tw8741553237493070219:=0
def tw16810930574159821237:=0
def tw11167618325749650947:=0
def tw14344307450962455533:=0
def tw11810259174522736928:=0
def tw5196702948936660948:=0
def tw11077781380704234766:=0
def tw8958851922819109938:=0
def tw11758020373467980269:=0
def tw15479058269388340694:=0
def tw8899474160124911426:=0
def tw6439183624533555114:=0
def tw9483589239410823402:=0
def tw1214412633802536991:=0
def tw15898601728521599427:=0
def tw395860813075394799:=0
def tw1086468025717133643:=0
def tw12964830427760253497:=0
def tw13343032124614402847:=0
def tw11278475681004953329:=0
def tw5608367110382394250:=0
def tw17897908130089800703:=0
def tw11694428853608136345:=0
def tw4770823973583638502:=0
def tw5353622403539189786:=0
def tw8623790099949251162:=0
def tw2819769574845009866:=0
def tw2337781459732077980:=0
def tw16209410846307179643:=0
def tw11828497360694137773:=0
def tw877916389235022676:=0
def tw16540907798175116209:=0
def tw4843826817796185923:=0
def tw706049337653082505:=0
def tw10370927019735833364:=0
def tw17765960697499748501:=0
def tw17609441834595449479:=0
def tw2810680229452529940:=0
def tw2890539968337817701:=0
def tw8936838127640062911:=0
def tw10868300923650975771:=0
def tw6173343842606261131:=0
def tw14981356109484594790:=0
def tw9586291696264848139:=0
def tw12036343509843929921:=0
def tw6346564559786492312:=0
def tw13173743454736427601:=0
def tw6924972762828026817:=0
def tw11663281246080749230:=0
def tw8998171117139421404:=0
def tw8973253873553711891:=0
def tw17944220289193529408:=0
def tw1440201318798575955:=0
def tw7757404239041982119:=0
def tw12607596821733716507:=0
def tw13899057850865903211:=0
def tw14491946893073639908:=0
def tw77856100765920368:=0
def tw9958885523505711669:=0
def tw16283992534584014087:=0
def tw10868080531167739807:=0
def tw14025631462172718808:=0
def tw12455604831492266922:=0
def tw4020924231187955841:=0
def tw2960897672925683366:=0
def tw13186549408480423953:=0
def tw590277043428056399:=0
def tw7818034346075459200:=0
def tw7232806142383210373:=0
def tw18111889501058935850:=0
def tw17538459529036027:=0
def tw15036536276674259427:=0
def tw12589530403029329977:=0
def tw5676131395669708610:=0
def tw1385553805828726623:=0
def tw6785986075390348762:=0
def tw17614046161489274042:=0
def tw18015704136249470234:=0
def tw8337921515019851759:=0
def tw3002832713458803927:=0
def tw9962440420630287948:=0
def tw5090844687516595596:=0
def tw4896921149901709172:=0
def tw5099305375943072780:=0
def tw14311678325286693942:=0
def tw8515995057785096310:=0
def tw2441060527412223094:=0
def tw2071207368988887340:=0
def tw13922555517336803548:=0
def tw9736934637876880022:=0
def tw11171351824009286475:=0
end PySem.W.Fast
open PySem PySem.W PyProof.Rows
set_option maxRecDepth 100000 in
set_option maxHeartbeats 0 in
theorem PySem.Challenge.cw_dykelengths_k13_why_rows_are_idle_holds : PySem.Challenge.rw_dykelengths_k13_why_rows_are_idle.Holds := by
 w_on;o_law;k_head;(case hw=>w_witness2)
 k_fill
 refine K13.walk (l:=PySem.Challenge.rw_dykelengths_k13_why_rows_are_idle) (c:=53) (T:=49) rfl rfl (fun w h Y=>⟨PySem.W.km_in_of Y,PySem.W.km_tabs_of Y⟩) ?F ?hC ?hN
 case F=>
  intro w mg fa h KX G hmg
  refine' K13.all_mk KX G hmg ?aC ?aI ?iI ?lI ?cI ?kI ?pg ?hd ?po ?sa ?mk ?kc ?nR ?nH ?nA ?nI ?nM ?aIn ?lIn ?cIn ?kIn ?aPa ?lPa ?cPa ?kPa ?aJo ?lJo ?cJo ?kJo ?aFo ?lFo ?cFo ?kFo ?aMe ?lMe ?cMe ?kMe ?aMn ?lMn ?cMn ?kMn ?aAl ?lAl ?cAl ?kAl ?aLo ?lLo ?cLo ?kLo ?aL ?lL ?cL ?kL ?z_len ?z_sum ?z_max ?z_min ?z_tuple ?z_sorted ?z_any ?z_all ?z_abs ?z_range ?z_int ?z_set ?z_dict ?z_repr ?z_isinstance ?z_list ?q_DEEDS ?lFm ?hcI ?zAc ?zCu ?zRf ?zCa ?zWd ?zP ?zD ?zN ?zWo ?zUn ?zLr ?zPw ?zJw ?zO ?zE ?zY ?zLP ?zLJ ?zM ?zR ?zLa ?zRo
  case aC|aI|iI|lI|cI|kI|pg|hd|po|sa|mk|kc|nR|nH|nA|nI|nM|aIn|lIn|cIn|kIn|aPa|lPa|cPa|kPa|aJo|lJo|cJo|kJo|aFo|lFo|cFo|kFo|aMe|lMe|cMe|kMe|aMn|lMn|cMn|kMn|aAl|lAl|cAl|kAl|aLo|lLo|cLo|kLo|aL|lL|cL|kL|z_len|z_sum|z_max|z_min|z_tuple|z_sorted|z_any|z_all|z_abs|z_range|z_int|z_set|z_dict|z_repr|z_isinstance|z_list|q_DEEDS|lFm=>k_is
  case hcI=>kernel_rfl
  case zAc|zCu|zRf|zCa|zWd|zP|zD|zN|zWo|zUn|zLr|zPw|zJw|zO|zE|zY|zLP|zLJ|zM|zR|zLa|zRo=>exact ⟨_,by k_is,⟨_,_,_,_,_,_,_,_,_,by k_is,by k_is⟩,by k_is⟩
 case hC=>exact fun w=>by kernel_rfl
 case hN=>exact fun w=>by kernel_rfl
