import PyProof.Rows.All
import Wide.All
import OpenK.AllK
import Wide.FinOn
import Lean
import PyProof.EqAt
import PyProof.EqKinds
import PyProof.TupleCall
import KE.KIntText
import KE.KDictList
import PyProof.StationsW
import PyProof.ExcClass2
import OpenK.KRaise
import OpenK.KOwn
import KE.KTryMore
import PyProof.NsDelKeeps
import PyProof.Rows.Catch
import PyProof.ExcArgs
import PyProof.AttrMissHeap
import KE.KDictOf
import KE.KPairComp
import PyProof.P3In
import KE.KSortTup
import PySem.Challenge.RW_dykelengths_k60_names_taken_back
set_option linter.all false
set_option maxRecDepth 100000
set_option Elab.async false
set_option maxHeartbeats 16000000
noncomputable section
local macro_rules
|`(tactic|omega)=>`(tactic|lia)
local macro_rules
|`(tactic|decide)=>`(tactic|decide +kernel)
open PySem renaming wpAny_bind→Aa,Value→Ac,wpAny_pure→Ae,Shared→Af,Addr→Ah,PyData→Aj,wpAny_ite_false→Aq,Program→AD,FuncData→AK,boot_len→AN,Around→AU,World→AY,wpAny_holding→Ba,Heap→Bm,strKind→Bq,Expr→Br,wpAny_ite_true→BG,wpAny_typeOf→BM,codeAny_builtin→BS,wpAny_isInstance→BT,wpAny_newObj_type→BV,wpAny_call_entry→B4,Stmt→B6,wpAny_mono→B8,mem_of_lookup→Cj,wpAny_of_eq→Ct,wpAny_truthy_bool→CH,wpAny_callSpecial?_slot→CI,wpAny_rule→CK,codeAny_mono→C1,SetTable→Da,wpAny_call→Dg,wpAny_passesOwn→Dj,wpAny_newList→Dl,plainId_quiet→Dm,wpAny_setState_of→Dr,wpAny_askSetting→DA,wpAny_setEntries_of→DH,Scope→DM,wpAny_specialOf→DP,wpAny_Call_Name_kw→DT,wpAny_getItem_str_slice→DX,wpAny_setField→D6,wpAny_runValue→D7,NameKind→Ea,wpAny_attempt→El,wpAny_execs_nil→Eu,Keyword→EC,wpAny_newTuple→EH,ReadsAll→EJ,wpAny_pyIter_list→ER,fits_of_scanBound→ET,IsPart→E9,wpAny_updateSeq→Fe,wpAny_loadPart'→Ff,post_val_or_str→Fg,codeAny_of_tree→Fh,weight_type_call_type→Fn,wpAny_fieldsOf→Fv,sizeLine_eq→Fw,codeAny_call_builtin→Fx,Fin→FH,wpAny_standAt→FO,typeIs_str→FX,tupleKind_room_in1→FY,call_meetsIn→Ga,GenState→Gc,BindsTo→Gf,check_set_init_1→Gm,Paired→Gn,wpAny_load→Gu,strKind_is→Gv,isSubtype_type→Gx,Model→Gz,call→GM,Reads→GX,wpAny_load'→He,wpAny_field→Hf,seqIndex_of→Hg,CmpOp→Hi
open List renaming getElem?_eq_getElem→Ab,length_map→Ad,getD_eq_getElem?_getD→Ak,mem_cons→Ao,size_toArray→At,not_mem_nil→Az,mem_cons_self→AG,length_append→AH,mem_cons_of_mem→AJ,getElem?_map→AL,range→AO,map_append→AQ,mem_of_getElem?→AR,getElem?_eq_some_iff→AS,getElem?_eq_none→AV,mem_append_right→A0,map_cons→A1,length_take→A5,length_cons→A6,all_eq_true→Be,append_assoc→Bf,mem_append→Bh,getElem_mem→Bk,take_add_one→Bl,mem_map→Bn,take_of_length_le→Bu,take_length→BC,mem_singleton→BE,mem_range→BF,pairwise_map→BJ,getElem?_of_mem→BK,lookup_cons→BN,getElem?_append_right→BO,length_range→BR,getElem?_append_left→BU,mem_of_mem_take→B5,pairwise_cons→Cf,map_map→Ck,pairwise_iff_getElem→Cq,all_cons→Cw,ext_getElem?→CC,nodup_cons→CF,any_eq_true→CL,lt_irrefl→CM,length_eraseIdx_of_lt→CN,perm_append_comm→CP,forIn_cons→CT,append_nil→CU,nodup_append→CV,map_congr_left→C2,getElem?_range→C3,getElem_map→C5,not_lt→Do,mem_iff_getElem→Dp,take→Ds,all_map→Dt,length_nil→DB,find?_cons→DC,zip_cons_cons→DG,drop_zero→DQ,drop_eq_nil_of_le→DR,take_append_drop→DY,length_drop→D2,getElem_inj→D5,mem_append_left→Ed,eq_nil_of_length_eq_zero→Ee,mem_filter→Eh,filterMap_cons→Ek,perm_append_comm_assoc→En,map_nil→Eo,idxOf_lt_length_of_mem→Ep,zip_nil_left→EA,reverse_perm→EB,lt_trans→EF,any_cons→EG,le_antisymm→EN,getElem?_set_self→EU,length_set→EX,length_singleton→EZ,perm_cons→E4,mem_of_mem_drop→E5,drop_drop→E6,getElem_idxOf→Fr,zipIdx_cons→FQ,filter_cons→FS,ext_getElem→FU,countP_cons→FV,all_toArray→FW,range'→F2,of_mem_zip→F6,foldl_cons→F7,nodup_nil→Gi,forIn_nil→Gj,map→GC
open PySem.Heap renaming get?_push_of_some→Ag,get?_push_size→Av,lt_size→Aw,get?_update_ne→Bp,size_push→BY,get?_update_self→B2,get?_update_other→CJ,size_update→C6,SameBut→DS,get?_push_ne→ED,SetOf→Fs
open PySem.W renaming Frag→Ai,keepIn→Al,nsIn→Am,mg_of→An,codeIn→Ar,fnOf→Ay,mg_none_of→Bx,kitOne→BW,kas_sort→B3,kia_tup→Ca,kia_one→Cb,kitAny→Ei,findIn→Ej,kitx_list→Es,kitx_dict→Et,kas_item→EI,kas_item_eq→ES,methodObj→Fq,instObj→FE,OpenLaw→FF,lookIn→FZ,kas_tail3→GU,kas_count→GV,kas_st→GZ,kas_rev→G8,kas_first_eq→G9,kas_descPart→Ha,KasT→Hh
open Nat renaming le_refl→Ap,ne_of_lt→AC,lt_of_lt_of_le→A2,zero_le→A3,le_trans→Bg,lt_succ_of_lt→Bj,lt_succ_self→B1,lt_irrefl→Cz,ne_of_gt→CY,le_succ→CZ,le_of_lt→Db,add_sub_cancel_left→DK,lt_trans→DV,le_of_eq→EW,lt_of_le_of_lt→Fz,sub_zero→FI,lt_trichotomy→FJ,le_succ_of_le→FM,succ_le_succ→F0,min_le_right→F1
open Sum renaming inr→Au,inl→Fj
open PyProof.Rows renaming wpS_bind→Ax,wpS_pure→AM,SortSt→Bo,Keyed→BQ,slot_tuple_getitem→B0,wpS_forRange→B9,listUpdate_at→Co,wpS_modify→CS,wpS_mono→C9,SortKind→Dk,seqEpoch_at→Dy,listItems_at→D8,wpS_get→Ex,AllBare→EE,envOfC→EK,IsTup→E2,wpS_lift→Fu,args_list_sort→Fy,plain_sorted→F8,entry_sorted→F9,kind_sorted→Gq,list_sort_plain→Gr,StrsAre→Gs,sortedHeap_old→Gw,sortedHeap_at→GG,args_sorted1→Hb,IntsAre→Hd
open Bool renaming false_ne_true→AA,and_eq_true→AF,false_eq_true→A7,true_and→A8,eq_iff_iff→Cm,false_and→C7,or_eq_false_iff→E7,and_false→Gk
open PySem.Value renaming type→AB,ref→AI,str→By,none→Cd,int→Cg,isStrOf_shape→E8,isStrOf→Fi,bool→Fo,float→Gy
open Or renaming inl→AE,inr→Fk
open PySem.PyData renaming keyHash→AT,canLayAll0→AW,str→AX,hasDictAll→AZ,depthAll→Bd,eqv→Bz,depth→BA,canLay0→BX,eqvAll→CG,shown→Dn,tuple→Eg,hasDict→Em,strOk→EL,int→EM,showable→EQ
open Array renaming getElem?_eq_getElem→A4,perm_iff_toList_perm→Bb,toList_append→Bi,length_toList→Bt,getD_eq_getD_getElem?→BB,mapM_eq_mapM_toList→Cp,toList_push→CB,getElem?_toList→Dd,toList_map→DZ,toList_inj→D0,toList_reverse→Ec,size_map→Gg,map_map→Gp
open PySem.SetTable renaming fresh→A9,grown→De,below→DF
open PySem.Obj renaming mapSeq→Bc,data_mapFields→CO,isFreed_of_fields→D1,putSet→Hc
open PySem.Str renaming ofString→Bs,length_append→DU
open List.Perm renaming append_left→Bv,append_right→C4,trans→Du,refl→DD,eq_nil→Ev,of_eq→FA
open PySem.NameKind renaming free→Bw,cell→DW
open PySem.F renaming plainAttrs_list→BD,called_set→BP,type_list_append→Cr,slot_list_append→Cs,plain_list_iadd→Dq,plainAttrs_dict→Ez,slot_dict_get→EO,plain_proto_collect→Fb,entry_proto_collect→Fc,entry_type_call→F3,entry_list_iadd→F4,typeCall_set_1→Gd,entry_set_init→Ge
open PySem.Around renaming under_plainId→BH,under_plain→Fl
open PyProof.Rows.F renaming plain_set_update_loop→BI,entry_set_update_loop→Cu
open Int renaming toNat_natCast→BL,emod_lt_of_pos→CQ,emod_nonneg→CW,toNat→Df,toNat_of_nonneg→Dz,lt_of_le_of_lt→DI,le_refl→Fa,mul_nonneg→Go
open PySem.Data renaming set→BZ,seq→Ci,fields→F5
open PySem.Builtin.Frozenset renaming updateFrom→B7,isAnySet→DO
open PySem.Builtin.List renaming listExtendWith→Cc,listItems→C0,listUpdate→Er
open True renaming intro→Ce
open PySem.Heap.SameBut renaming update→Ch
open Option renaming some→Cv,map_eq_some_iff→DJ
open PySem.PassesOwn renaming never→Cy
open ForInStep renaming yield→CA
open False renaming elim→CD
open Array.Perm renaming refl→C8
open PySem.Builtin.Slice renaming slicePlaces→Dc,sliceAdjust→Eb
open PySem.Builtin.Tuple renaming tupleExact→Dh
open PyProof.Rows.SortSt renaming mk'→Di
open List.Pairwise renaming nil→Dv,imp→Dw
open PySem.Shared renaming TypeIs→Dx
open PySem.Calls renaming spliced_cons→DE,callWith_builtin→DN,call_function_entry→Ew,evalArgs_plain→E3,spliced_nil→FB
open List.Nodup renaming length_le_of_subset→DL
open PySem.Txt renaming slice→D9,slice_le→EV
open Ne renaming symm→Ef
open PySem.SeqAt.EqAt renaming same→Ey,str_str→EY
open Decidable renaming em→Fd
open PySem.SeqAt renaming EqAt→Fp
open PySem.Code renaming quiet_builtin→Ft
open PySem.Walks renaming toS→FC,list→GJ
open PySem.Moved renaming mono→Gb
open PySem.Paired renaming length→Gh
open PySem.Flow renaming ret→GE
open PUnit renaming unit→GQ
open Except renaming ok→GY
open Prod renaming ext→Hj
theorem Ia{c:Prop}{h:Decidable c}(n:¬c){α:Sort u}{t e:α}:ite c t e=e:=if_neg n
theorem Ib{c:Prop}{h:Decidable c}(n:c){α:Sort u}{t e:α}:ite c t e=t:=if_pos n
theorem Ic{p:Prop}[s:Decidable p](h:p):decide p=true:=decide_eq_true h
theorem Ie{p:Prop}[s:Decidable p](h:decide p=true):p:=of_decide_eq_true h
theorem Ig{α:Sort u}{β:Sort v}{γ:Sort w}{f:α→β→γ}:∀a b,f a b=f a b:=fun _ _=>rfl
abbrev Ih:=List (PySem.Addr×PySem.Obj)
namespace L2
open PySem PySem.Spec PyProof.Rows
inductive Ex3{α β γ:Type}(p:α→β→γ→Prop):Prop
 | mk (a:α) (b:β) (c:γ) (h:p a b c):Ex3 p
inductive Aw3(a b c:Prop):Prop
 | mk (h:a) (i:b) (j:c):Aw3 a b c
inductive Aw6(a b c d e f:Prop):Prop
 | mk (h:a) (i:b) (j:c) (k:d) (l:e) (m:f):Aw6 a b c d e f
theorem f8{α:Type}{us:List α}(h:us.length=1):∃ q,us=[q]:=by
 cases us with
 | nil=>simp at h
 | cons q z=>
  cases z with
  | nil=>exact⟨q,rfl⟩
  | cons _ _=>simp at h
theorem rQ{α:Type}{us:List α}(h:us.length=2):∃ q a1,us=[q,a1]:=by
 cases us with
 | nil=>simp at h
 | cons q z=>
  cases z with
  | nil=>simp at h
  | cons a1 B=>
   cases B with
   | nil=>exact⟨q,a1,rfl⟩
   | cons _ _=>simp at h
theorem aDZ{α:Type}{us:List α}(h:us.length=3):∃ q a1 a2,us=[q,a1,a2]:=by
 cases us with
 | nil=>simp at h
 | cons q B=>
  cases B with
  | nil=>simp at h
  | cons a1 F=>
   cases F with
   | nil=>simp at h
   | cons a2 z=>
    cases z with
    | nil=>exact⟨q,a1,a2,rfl⟩
    | cons _ _=>simp at h
theorem aIs{α:Type}{us:List α}(h:us.length=4):∃ q a1 a2 a3,us=[q,a1,a2,a3]:=by
 cases us with
 | nil=>simp at h
 | cons q B=>
  cases B with
  | nil=>simp at h
  | cons a1 J=>
   cases J with
   | nil=>simp at h
   | cons a2 z=>
    cases z with
    | nil=>simp at h
    | cons a3 F=>
     cases F with
     | nil=>exact⟨q,a1,a2,a3,rfl⟩
     | cons _ _=>simp at h
theorem aJp{α:Type}{us:List α}(h:us.length=5):∃ q a1 a2 a3 a4,us=[q,a1,a2,a3,a4]:=by
 cases us with
 | nil=>simp at h
 | cons q F=>
  cases F with
  | nil=>simp at h
  | cons a1 M=>
   cases M with
   | nil=>simp at h
   | cons a2 B=>
    cases B with
    | nil=>simp at h
    | cons a3 J=>
     cases J with
     | nil=>simp at h
     | cons a4 z=>
      cases z with
      | nil=>exact⟨q,a1,a2,a3,a4,rfl⟩
      | cons _ _=>simp at h
abbrev Key:=Sum Int Str
def sQ:Key→Ac→Bool
 | .inl k,v=>Value.isInt k v
 | .inr x,v=>Fi x v
def aHk(w:AY):Key→Int
 | .inl k=>hashInt k
 | .inr x=>hashStr w x
theorem d8:∀{k:Key}{v:Ac},sQ k v=true→(∃ i t,k=Fj i∧v=Cg i t)∨(∃ x t,k=Au x∧v=By x t)
 | .inl i,v,h=>by
  obtain⟨t,e⟩:=Value.isInt_shape (k:=i) (v:=v) h;exact .inl ⟨i,t,rfl,e⟩
 | .inr x,v,h=>by
  obtain⟨t,e⟩:=E8 (x:=x) (v:=v) h;exact .inr ⟨x,t,rfl,e⟩
theorem aC2(i:Int)(t:Tok):sQ (.inl i) (.int i t)=true:=by simp[sQ,Value.isInt]
theorem aC3(x:Str)(t:Tok):sQ (.inr x) (.str x t)=true:=by simp[sQ,Fi]
theorem aHl(a b:Int):decide ((Fj a:Key)=Fj b)=(a == b):=by
 by_cases e:a=b
 ·subst e;simp
 ·have h:¬ (Fj a:Key)=Fj b:=fun q=>e (Fj.inj q);rw[decide_eq_false h];exact(beq_eq_false_iff_ne.mpr e).symm
theorem aHm(a b:Str):decide ((Au a:Key)=Au b)=decide (a=b):=by
 by_cases e:a=b
 ·subst e;simp
 ·have h:¬ (Au a:Key)=Au b:=fun q=>e (Au.inj q);rw[decide_eq_false h,decide_eq_false e]
theorem aHn(a:Int)(b:Str):decide ((Fj a:Key)=Au b)=false:=decide_eq_false (fun q=>nomatch q)
theorem aHo(a:Str)(b:Int):decide ((Au a:Key)=Fj b)=false:=decide_eq_false (fun q=>nomatch q)
def c8(prog:AD)(w:AY):PySem.KeyKind prog w Key where
 is:=sQ
 hash:=aHk w
 inj:=fun v a b ha hb=>by
  rcases d8 ha with⟨i,t,rfl,rfl⟩ | ⟨x,t,rfl,rfl⟩
  ·rcases d8 hb with⟨j,u,rfl,e⟩ | ⟨y,u,rfl,e⟩
   ·injection e with e1 _;rw[e1]
   ·exact nomatch e
  ·rcases d8 hb with⟨j,u,rfl,e⟩ | ⟨y,u,rfl,e⟩
   ·exact nomatch e
   ·injection e with e1 _;rw[e1]
 byValue:=fun k v h=>by
  rcases d8 h with⟨i,t,rfl,rfl⟩ | ⟨x,t,rfl,rfl⟩ <;> rfl
 pyHash:=fun hv h=>by
  rcases d8 hv with⟨i,t,rfl,rfl⟩ | ⟨x,t,rfl,rfl⟩
  ·exact wpAny_pyHash_int h
  ·exact wpAny_pyHash_str h
 eqBool:=fun hu hv h=>by
  rcases d8 hu with⟨i,t,rfl,rfl⟩ | ⟨x,t,rfl,rfl⟩
  ·rcases d8 hv with⟨j,u,rfl,rfl⟩ | ⟨y,u,rfl,rfl⟩
   ·rw[aHl]at h;exact wpAny_eqBool_int h
   ·rw[aHn]at h;exact SeqAt.EqAt.int_str i t y u _ _ _ _ h
  ·rcases d8 hv with⟨j,u,rfl,rfl⟩ | ⟨y,u,rfl,rfl⟩
   ·rw[aHo]at h;exact SeqAt.EqAt.str_int x t j u _ _ _ _ h
   ·rw[aHm]at h;exact wpAny_eqBool_str h
 «strs»:=fun k x t v h=>by
  rcases d8 h with⟨i,u,rfl,e⟩ | ⟨y,u,rfl,e⟩
  ·exact nomatch e
  ·injection e with e1 _;subst e1;cases v <;> rfl
theorem yZ(prog:AD)(w:AY)(i:Int)(t:Tok):(c8 prog w).is (.inl i) (.int i t)=true:=aC2 i t
theorem y8(prog:AD)(w:AY)(x:Str)(t:Tok):(c8 prog w).is (.inr x) (.str x t)=true:=aC3 x t
inductive V where
 | non | bl (b:Bool) | int (i:Int) | str (x:Str) | byt (b:Array UInt8) | flt (b:UInt64) | ref (a:Ah) | ty (n:String)
 deriving DecidableEq
def c4:V→Ac→Prop
 | .non,u=>u=Cd
 | .bl b,u=>u=Fo b
 | .int i,u=>∃ t,u=Cg i t
 | .str x,u=>∃ t,u=By x t
 | .byt b,u=>∃ t,u=Value.bytes b t
 | .flt b,u=>∃ t,u=Gy b t
 | .ref a,u=>u=AI a
 | .ty n,u=>u=AB n
abbrev cW:List V→List Ac→Prop:=Gn c4
theorem cW.length{xs:List V}{us:List Ac}(r:cW xs us):xs.length=us.length:=Gh r
theorem cW.get:∀{xs:List V}{us:List Ac}{i:Nat}{x:V},cW xs us→xs[i]?=some x→∃ u,us[i]?=some u∧c4 x u
 | _,_,_,_,.nil,e=>by simp at e
 | _,_,0,_,.cons r _,e=>by simp at e;subst e;exact⟨_,rfl,r⟩
 | _,_,i + 1,x,.cons _ t,e=>by
  obtain⟨u,h1,h2⟩:=cW.get (i:=i) (x:=x) t (by simpa using e);exact⟨u,by simpa using h1,h2⟩
theorem cW.set{x:V}{u:Ac}(r:c4 x u):∀{xs:List V}{us:List Ac} (i:Nat),cW xs us→cW (xs.set i x) (us.set i u)
 | _,_,_,.nil=>.nil
 | _,_,0,.cons _ t=>.cons r t
 | _,_,i + 1,.cons q t=>.cons q (cW.set r i t)
theorem cW.append:∀{xs ys:List V}{us q:List Ac},cW xs us→cW ys q→cW (xs ++ ys) (us ++ q)
 | _,_,_,_,.nil,s=>s
 | _,_,_,_,.cons r t,s=>.cons r (cW.append t s)
theorem cW.take:∀{xs:List V}{us:List Ac} (n:Nat),cW xs us→cW (xs.take n) (us.take n)
 | _,_,0,_=>.nil
 | _,_,_ + 1,.nil=>.nil
 | _,_,n + 1,.cons r t=>.cons r (cW.take n t)
theorem cW.drop:∀{xs:List V}{us:List Ac} (n:Nat),cW xs us→cW (xs.drop n) (us.drop n)
 | _,_,0,r=>r
 | _,_,_ + 1,.nil=>.nil
 | _,_,n + 1,.cons _ t=>cW.drop n t
def nV:Option V→Option Ac→Prop
 | some v,some u=>c4 v u
 | none,none=>True
 | _,_=>False
def KV{κ:Type}:List (κ×V)→List (κ×Ac)→Prop:=Gn fun(p:κ×V) (q:κ×Ac)=>p.1=q.1∧c4 p.2 q.2
def kV:Key→V
 | .inl i=>.int i
 | .inr x=>.str x
inductive HO where
  | lst (xs:List V)
  | tup (xs:List V)
  | dK (fc:List (Key×V)) | dT (fc:List (List Key×V))
  | set (S:Int→Bool) (n:Nat)
  | ins (C dx:Ah) (fs:List (Str×V))
  | own (x:Ah)
  | xd (fs:List (Str×V))
  | met (f x:Ah)
  | rng (lo hi:Int)
  | frz (o:Obj) (u:HO)
  | tbl (ps:Array Ac)
  | ext (φ:Bm→Prop)
abbrev Hp:=Ah→Option HO
def upd(H:Hp)(a:Ah)(o:HO):Hp:=fun b=>if b=a then some o else H b
theorem aM{H:Hp}{a:Ah}{o:HO}:upd H a o a=some o:=by unfold upd;rw[Ib rfl]
theorem bI{H:Hp}{a b:Ah}{o:HO}(h:b≠a):upd H a o b=H b:=by unfold upd;rw[Ia h]
theorem aBW{H:Hp}{a:Ah}{o u:HO}:upd (upd H a o) a u=upd H a u:=by
 funext b;unfold upd;split <;> rfl
theorem aD0{H:Hp}{a b:Ah}{o u:HO}(h:H a=some o)(h':H b=some u)(d:o≠u):a≠b:=by
 intro e;subst e;rw[h]at h';exact d (Cv.inj h')
theorem aX{H:Hp}{a b:Ah}{o:HO}(h:H a=some o)(h':H b=none):a≠b:=by
 intro e;subst e;rw[h]at h';cases h'
section
variable(P:AD)(w:AY)
def mJ(h:Bm)(a:Ah)(items:Array Ac):Prop:=∃ o,h.get? a=some o∧(o.cls=.type "tuple"∧∃ n,o.data=.seq items n)∧o.dict=none
theorem mJ.tup{h:Bm}{a:Ah}{q:Array Ac}(x:mJ h a q):E2 h a q:=by
 obtain⟨o,e,c,_⟩:=x;exact⟨o,e,c⟩
instance mJ.coe{h:Bm}{a:Ah}{items:Array Ac}:Coe (mJ h a items) (E2 h a items):=⟨mJ.tup⟩
theorem mJ.lt{h:Bm}{a:Ah}{q:Array Ac}(x:mJ h a q):a < h.objs.size:=x.tup.lt
def dA(H:Hp)(h:Bm)(a:Ah):HO→Prop
 | .lst xs=>xs.length≤sizeLine∧∃(its:List Ac) (n:Nat),cW xs its∧h.get? a=some { cls:=.type "list",data:=.seq its.toArray n }
 | .tup xs=>xs.length≤sizeLine∧∃ its:List Ac,cW xs its∧mJ h a its.toArray
 | .dK fc=>fc.length≤sizeLine∧(a == sysModules)=false∧∃ vs,KV fc vs∧h.DictOf (c8 P w) a vs
 | .dT fc=>fc.length≤sizeLine∧(a == sysModules)=false∧∃ xs:List (List Key×Ah×Ac),
   Gn (fun(p:List Key×V) (q:List Key×Ah×Ac)=>p.1=q.1∧H q.2.1=some (.tup (p.1.map kV))∧c4 p.2 q.2.2) fc xs∧
   ∃ o es ep,h.get? a=some o∧o.ExactDict∧o.data=.dict es ep∧es.toList=xs.map (entryOfKey (tupleKind (c8 P w)))∧(xs.map (·.1)).Nodup
 | .set S n=>h.SetOf (intKind P w) a S n
 | .ins C dx fs=>H dx=some (.own a)∧fs.length≤1000∧dx≠a∧h.get? a=some (FE C dx)∧
   ∃ mA,h.Ns1 dx mA∧(∀ f,nV (fs.lookup f) (mA f))∧PySem.Within mA (fs.map (·.1))
 | .own _=>∃ o,h.get? a=some o
 | .xd fs=>∃ mA,h.Ns1 a mA∧∀ f,nV (fs.lookup f) (mA f)
 | .rng lo hi=>∃ t u v,h.get? a=some { cls:=.type "range",data:=.fields #[.int lo t,.int hi u,.int 1 v] }
 | .frz o u=>h.get? a=some o∧dA H h a u
 | .tbl ps=>h.get? a=some { cls:=.none,data:=.fields ps }
 | .met f x=>h.get? a=some (Fq (.ref f) (.ref x))
 | .ext φ=>φ h∧(∃ o,h.get? a=some o)∧∀ h1 h2:Bm,φ h1→(∀ o,h1.get? a=some o→h2.get? a=some o)→φ h2
def HOk(H:Hp)(h:Bm):Prop:=∀ a o,H a=some o→dA P w H h a o
end
section
variable{P:AD}{w:AY}{H H':Hp}{h h':Bm}{a:Ah}{o:HO}
theorem dA.lt(x:dA P w H h a o):a < h.objs.size:=by
 cases o with
 | lst xs=>obtain⟨_,_,_,_,e⟩:=x;exact Aw e
 | tup xs=>obtain⟨_,_,_,p⟩:=x;exact p.lt
 | dK fc=>obtain⟨_,_,_,_,o,_,_,e,_⟩:=x;exact Aw e
 | dT fc=>obtain⟨_,_,_,_,o,_,_,e,_⟩:=x;exact Aw e
 | set S n=>obtain⟨o,_,_,_,e,_⟩:=x;exact Aw e
 | ins C dx fs=>obtain⟨_,_,_,e,_⟩:=x;exact Aw e
 | own y=>obtain⟨_,e⟩:=x;exact Aw e
 | xd fs=>obtain⟨_,⟨_,_,_,e,_⟩,_⟩:=x;exact Aw e
 | rng lo hi=>obtain⟨_,_,_,e⟩:=x;exact Aw e
 | frz ob u=>obtain⟨e,_⟩:=x;exact Aw e
 | tbl ps=>exact Aw (show h.get? a=some _ from x)
 | met f y=>exact Aw (show h.get? a=some _ from x)
 | ext φ=>obtain⟨_,⟨_,e⟩,_⟩:=x;exact Aw e
theorem Paired.mapP{α β:Type}{F G:α→β→Prop}:∀{l₁:List α}{l₂:List β},Gn F l₁ l₂→(∀ a b,F a b→G a b)→Gn G l₁ l₂
 | _,_,.nil,_=>.nil
 | _,_,.cons r t,f=>.cons (f _ _ r) (Paired.mapP t f)
theorem dA.stay(x:dA P w H h a o)(k:∀ b u,(b=a∨H b=some (.own a))→h.get? b=some u→h'.get? b=some u)
  (B:∀ b,H b=some (.own a)→H' b=some (.own a)) (ht:∀ b xs,H b=some (.tup xs)→H' b=some (.tup xs)):dA P w H' h' a o:=by
 induction o with
 | lst xs=>obtain⟨z,its,n,r,e⟩:=x;exact⟨z,its,n,r,k _ _ (.inl rfl) e⟩
 | tup xs=>obtain⟨z,its,r,ob,e,c⟩:=x;exact⟨z,its,r,ob,k _ _ (.inl rfl) e,c⟩
 | dK fc=>obtain⟨z,y,vs,r,ob,es,ep,e,c⟩:=x;exact⟨z,y,vs,r,ob,es,ep,k _ _ (.inl rfl) e,c⟩
 | dT fc=>
  obtain⟨z,y,xs,r,ob,es,ep,e,c⟩:=x;exact⟨z,y,xs,Paired.mapP r fun p q z=>⟨z.1,ht _ _ z.2.1,z.2.2⟩,ob,es,ep,k _ _ (.inl rfl) e,c⟩
 | set S n=>obtain⟨ob,es,ep,t,e,c⟩:=x;exact⟨ob,es,ep,t,k _ _ (.inl rfl) e,c⟩
 | ins C dx fs=>
  obtain⟨d,z,ne,e,mA,⟨od,es,ep,e2,c⟩,r⟩:=x;exact⟨B _ d,z,ne,k _ _ (.inl rfl) e,mA,⟨od,es,ep,k _ _ (.inr d) e2,c⟩,r⟩
 | own y=>obtain⟨ob,e⟩:=x;exact⟨ob,k _ _ (.inl rfl) e⟩
 | xd fs=>obtain⟨mA,⟨od,es,ep,e,c⟩,r⟩:=x;exact⟨mA,⟨od,es,ep,k _ _ (.inl rfl) e,c⟩,r⟩
 | rng lo hi=>obtain⟨t,u,v,e⟩:=x;exact⟨t,u,v,k _ _ (.inl rfl) e⟩
 | frz ob u F=>obtain⟨e,q⟩:=x;exact⟨k _ _ (.inl rfl) e,F q⟩
 | tbl ps=>
  have e:h.get? a=some { cls:=.none,data:=.fields ps }:=x;show h'.get? a=some { cls:=.none,data:=.fields ps };exact k a _ (.inl rfl) e
 | met f y=>
  have e:h.get? a=some (Fq (.ref f) (.ref y)):=x;show h'.get? a=some (Fq (.ref f) (.ref y));exact k a _ (.inl rfl) e
 | ext φ=>obtain⟨p,⟨o,e⟩,st⟩:=x;exact⟨st _ _ p fun o q=>k _ _ (.inl rfl) q,⟨o,k _ _ (.inl rfl) e⟩,st⟩
theorem HOk.lt(x:HOk P w H h)(e:H a=some o):a < h.objs.size:=(x a o e).lt
theorem HOk.fresh(x:HOk P w H h)(e:h.objs.size≤a):H a=none:=by
 cases q:H a with
 | none=>rfl
 | some u=>exact absurd (A2 (x.lt q) e) (Cz _)
theorem HOk.kept(x:HOk P w H h)(k:∀ b u,h.get? b=some u→h'.get? b=some u):HOk P w H h':=fun a o e=>
 (x a o e).stay (fun b u _ q=>k b u q) (fun _ q=>q) fun _ _ q=>q
theorem HOk.laid(x:HOk P w H h)(k:∀ b u,h.get? b=some u→h'.get? b=some u)(B:h.objs.size≤a)(new:dA P w (upd H a o) h' a o):HOk P w (upd H a o) h':=fun b u e=>by
 have hn:=x.fresh B;by_cases z:b=a
 ·subst z;rw[aM]at e;cases e;exact new
 ·rw[bI z]at e;exact(x b u e).stay (fun c v _ q=>k c v q) (fun c q=>by rw[bI (aX q hn)];exact q) fun c xs q=>by rw[bI (aX q hn)];exact q
end
def Rd(H:Hp)(a:Ah)(u:HO):Prop:=H a=some u∨∃ o,H a=some (.frz o u)
theorem Rd.ok{P:AD}{w:AY}{H:Hp}{h:Bm}{a:Ah}{u:HO}(r:Rd H a u)(x:HOk P w H h):dA P w H h a u:=by
 rcases r with r | ⟨o,r⟩
 ·exact x a u r
 ·obtain⟨_,q⟩:=x a _ r;exact q
def Mut:Option HO→Prop
 | some (.lst _)=>True
 | some (.dK _)=>True
 | some (.dT _)=>True
 | some (.set _ _)=>True
 | some (.ins _ _ _)=>True
 | some (.ext _)=>True
 | _=>False
section
variable{P:AD}{w:AY}{H:Hp}{h h':Bm}{x e:Ah}{o':HO}
theorem HOk.write(ok:HOk P w H h)(M:Mut (H x))(Y:e=x∨H e=some (.own x))(k:∀ b u,b≠e→h.get? b=some u→h'.get? b=some u)(U:∃ u,h'.get? e=some u)
  (new:dA P w (upd H x o') h' x o'):HOk P w (upd H x o') h':=fun b u q=>by
 have F:∀ c y,H c=some (.own y)→c≠x:=fun c y r z=>by subst z;rw[r]at M;exact M
 have J:∀ c xs,H c=some (.tup xs)→c≠x:=fun c xs r z=>by subst z;rw[r]at M;exact M
 by_cases O:b=x
 ·subst O;rw[aM]at q;cases q;exact new
 ·rw[bI O]at q;by_cases B:b=e
  ·have W:H b=some (.own x):=by
    rcases Y with z | z
    ·exact absurd (B.trans z) O
    ·rw[B];exact z
   rw[q]at W;cases W;obtain⟨v,hv⟩:=U;exact⟨v,by rw[B];exact hv⟩
  ·refine(ok b u q).stay (fun c v hc r=>k c v ?_ r) (fun c r=>by rw[bI (F c b r)];exact r) fun c xs r=>by rw[bI (J c xs r)];exact r
   rcases hc with rfl | hc
   ·exact B
   ·rintro rfl;rcases Y with z | z
    ·exact F c b hc z
    ·rw[hc]at z;cases z;exact O rfl
end
structure Un(fs ex:List Ah)(H H':Hp)(h h':Bm):Prop where
 keep:∀ b o,h.get? b=some o→H b=none→b ∉ fs→b ∉ ex→h'.get? b=some o
 slot:∀ b o,h.get? b=some o→H b=none→b∈fs→b ∉ ex→∃ sl,h'.get? b=some { o with slots:=sl }
 free:∀ b o,h.get? b=some o→H b=none→b ∉ ex→H' b=none
 there:∀ b o,h.get? b=some o→b ∉ ex→∃ o',h'.get? b=some o'
 tups:∀ b xs,H b=some (.tup xs)→H' b=some (.tup xs)
 frzs:∀ b o u,H b=some (.frz o u)→H' b=some (.frz o u)
 tbls:∀ b ps,H b=some (.tbl ps)→∃ more,H' b=some (.tbl (ps ++ more))
section
variable{fs fs' ex ex':List Ah}{H H1 H2:Hp}{h h1 h2 h':Bm}{a x e:Ah}{o:HO}
theorem Un.any(u:Un fs ex H H1 h h1){b:Ah}{ob:Obj}(q:h.get? b=some ob)(n:H b=none)(z:b ∉ ex):∃ F,h1.get? b=some { ob with slots:=F }:=by
 by_cases B:b∈fs
 ·exact u.slot b ob q n B z
 ·exact⟨ob.slots,u.keep b ob q n B z⟩
theorem Un.kept(k:∀ b u,h.get? b=some u→h'.get? b=some u):Un fs ex H H h h':=
 ⟨fun b ob q _ _ _=>k b ob q,fun b ob q _ _ _=>⟨ob.slots,k b ob q⟩,fun _ _ _ n _=>n,fun b ob q _=>⟨ob,k b ob q⟩,fun _ _ q=>q,fun _ _ _ q=>q,fun _ ps q=>⟨#[],by rw[q];simp⟩⟩
theorem Un.refl:Un fs ex H H h h:=Un.kept fun _ _ q=>q
theorem Un.laid(k:∀ b u,h.get? b=some u→h'.get? b=some u)(z:h.objs.size≤a)(hn:H a=none):Un fs ex H (upd H a o) h h' where
 keep:=fun b u q _ _ _=>k b u q
 slot:=fun b u q _ _ _=>⟨u.slots,k b u q⟩
 free:=fun b u q n _=>by rw[bI (AC (A2 (Aw q) z))];exact n
 there:=fun b u q _=>⟨u,k b u q⟩
 tups:=fun b xs q=>by rw[bI (aX q hn)];exact q
 frzs:=fun b u xs q=>by rw[bI (aX q hn)];exact q
 tbls:=fun b ps q=>⟨#[],by rw[bI (aX q hn),q];simp⟩
theorem Un.write(F:Mut (H x))(U:e=x∨H e=some (.own x))(k:∀ b u,b≠e→h.get? b=some u→h'.get? b=some u)(J:∃ u,h'.get? e=some u):Un fs ex H (upd H x o) h h':=by
 have M:∀ b,H b=none→b≠x:=fun b n z=>by subst z;rw[n]at F;exact F
 have O:∀ b,H b=none→b≠e:=fun b n z=>by
  subst z;rcases U with r | r
  ·exact M b n r
  ·rw[n]at r;cases r
 have hm:∀ b u,H b=some u→¬ Mut (some u)→b≠x:=fun b u q nm z=>by subst z;rw[q]at F;exact nm F
 refine⟨fun b u q n _ _=>k b u (O b n) q,fun b u q n _ _=>⟨u.slots,k b u (O b n) q⟩,fun b u q n _=>by rw[bI (M b n)];exact n,fun b u q _=>?_,
  fun b xs q=>by rw[bI (hm b _ q fun z=>z)];exact q,fun b u xs q=>by rw[bI (hm b _ q fun z=>z)];exact q,fun b ps q=>⟨#[],by rw[bI (hm b _ q fun z=>z),q];simp⟩⟩
 by_cases B:b=e
 ·subst B;exact J
 ·exact⟨u,k b u B q⟩
end
def trk(h:Bm)(H:Hp):List Ah:=(AO h.objs.size).filter fun a=>(H a).isSome
def xX(h:Bm)(H:Hp):Bm:=PySem.W.hideAll h (trk h H)
theorem aC4(h:Bm)(H:Hp):(xX h H).objs.size=h.objs.size:=PySem.W.hideAll_size _ _
theorem aD1{h:Bm}{H:Hp}{b:Ah}{o:Obj}(e:h.get? b=some o)(n:H b=none):(xX h H).get? b=some o:=
 PySem.W.hideAll_get _ e fun hm=>by
  have q:(H b).isSome=true:=(Eh.mp hm).2;rw[n]at q;simp at q
theorem aFS{h:Bm}{H:Hp}{b:Ah}{o:Obj}(e:(xX h H).get? b=some o):h.get? b=some o∧H b=none:=by
 have B:h.get? b=some o:=PySem.W.of_hideAll (trk h H) e;refine⟨B,?_⟩;cases q:H b with
 | none=>rfl
 | some x=>
  have hm:b∈trk h H:=Eh.mpr ⟨BF.mpr (Aw B),by simp[q]⟩;have z:(xX h H).get? b=none:=PySem.W.hideAll_none (trk h H) hm;rw[z]at e;cases e
def aFT(g h:Bm)(L:Ah):List (Ah×Obj):=(AO h.objs.size).filterMap fun a=>if a=L∨(g.get? a).isSome=true then none else(h.get? a).map fun o=>(a,o)
def cM(g h:Bm)(L d:Ah):List (Ah×Obj):=(aFT g h L).filter fun p=>decide (p.1≠d)
structure Mod(K:Ai)(mg:Str→Option Ac)(base:Bm):Prop where
 kin:K.In base
 glob:base.Ns mainGlobals mg
 blt:∃ mb,base.Ns builtinsNs mb∧∀ x:Str,x≠"__name__"→mb x=bootBuiltins x
 nolimit:base.NoLimit
structure Cx where
 prog:AD
 w:AY
 K:Ai
 mg:Str→Option Ac
 base:Bm
 A:AU
 N:List Str
 s₀:Af
 H₀:Hp
 env:Env
 outer:List Env
 stack:List Env
 ex:List Ah
 fn:Str→Bool
 calm:Bool
 pn:List (Ah×Obj)
 xe:Ac→Af→Prop
def frs(l:List Env):List Ah:=l.filterMap (·.frame)
abbrev Cx.fs(X:Cx):List Ah:=frs X.outer
def Vis(sc:DM)(x:Str):Prop:=sc.names.lookup x=some .local∨sc.names.lookup x=some .cell∨sc.names.lookup x=some .free
def Loc(sc:DM)(x:Str):Prop:=sc.names.lookup x=some .local∨sc.names.lookup x=some .cell
def aJq(env:Env)(h:Bm)(m:Str→Option Ac)(x:Str)(u:Ac):Prop:=
 (env.kindOf x=some .local∧m x=some u)∨((env.kindOf x=some .cell∨env.kindOf x=some .free)∧∃ c,env.cells.lookup x=some c∧h.IsCell c (some u))
structure Cx.Ok(X:Cx):Prop where
 mod:Mod X.K X.mg X.base
 kind:X.env.scope.kind=.function
 glob:X.env.globals=mainGlobals
 blt:X.env.builtins=builtinsNs
 above:X.s₀.heap.objs.size≤X.env.locals
 inj:∀ x y c,X.env.cells.lookup x=some c→X.env.cells.lookup y=some c→x=y
 has:∀ x,(X.env.kindOf x=some .cell∨X.env.kindOf x=some .free)→∃ c,X.env.cells.lookup x=some c
 cab:∀ x c,X.fn x=true→X.env.cells.lookup x=some c→X.s₀.heap.objs.size≤c
 hd:X.calm=true→X.A.handled=none
 frames:X.A.frames=some X.stack
 stk:X.stack=X.outer∨(X.stack=X.env :: X.outer∧X.env.frame=some X.env.locals)
 exf:∀ b∈X.ex,b≠X.env.locals∧∀ x c,X.env.cells.lookup x=some c→c≠b
 bs:∀ b o,X.base.get? b=some o→X.s₀.heap.get? b=some o∧X.H₀ b=none
 bsz:X.base.objs.size≤X.s₀.heap.objs.size
 noex:∀ b o,X.base.get? b=some o→b ∉ X.ex
 exfs:∀ b∈X.ex,b ∉ X.fs
 funs:X.s₀.heap.FunFrames X.base X.outer
 frf:∀ b∈X.fs,X.H₀ b=none
structure Inv(X:Cx)(dt:List (Ah×Obj))(σ:List (Option V))(H:Hp)(s:Af):Prop where
 ok:X.Ok
 os:s.os=X.s₀.os
 bare:EE s.gens
 base:Un X.fs X.ex X.H₀ H X.s₀.heap s.heap
 loc:∃ m,s.heap.Ns X.env.locals m∧∀(i:Nat) (x:Str) (v:V),X.N[i]?=some x→σ[i]?=some (some v)→Vis X.env.scope x→∃ u,c4 v u∧aJq X.env s.heap m x u
 cell:∀ x c,X.env.cells.lookup x=some c→∃ v,s.heap.IsCell c v
 free:H X.env.locals=none
 freeC:∀ x c,X.env.cells.lookup x=some c→H c=none
 pin:∀ p∈X.pn ++ dt,s.heap.get? p.1=some p.2∧H p.1=none∧p.1≠X.env.locals∧p.1 ∉ X.fs∧∀ v,p.2.data≠.cell v
 hok:HOk X.prog X.w H s.heap
 len:σ.length=X.N.length
section
variable{X:Cx}{dt:List (Ah×Obj)}{σ:List (Option V)}{H H':Hp}{s:Af}{h':Bm}
theorem Cx.Ok.nofr(ok:X.Ok){b:Ah}{o:Obj}(e:X.base.get? b=some o):b ∉ X.fs:=fun q=>by
 have:=(ok.funs.mem q).1;rw[e]at this;cases this
theorem Inv.bs(I:Inv X dt σ H s):∀ b o,X.base.get? b=some o→s.heap.get? b=some o∧H b=none:=fun b o e=>
 ⟨I.base.keep b o (I.ok.bs b o e).1 (I.ok.bs b o e).2 (I.ok.nofr e) (I.ok.noex b o e),I.base.free b o (I.ok.bs b o e).1 (I.ok.bs b o e).2 (I.ok.noex b o e)⟩
theorem Inv.bk(I:Inv X dt σ H s):∀ b o,X.base.get? b=some o→s.heap.get? b=some o:=fun b o e=>(I.bs b o e).1
theorem Inv.mod(I:Inv X dt σ H s):Mod X.K X.mg X.base:=I.ok.mod
theorem Inv.kIn(I:Inv X dt σ H s):X.K.In s.heap:=I.ok.mod.kin.keeps I.bk
theorem Inv.lt(I:Inv X dt σ H s):X.env.locals < s.heap.objs.size:=let ⟨_,hn,_⟩:=I.loc;hn.lt
theorem Inv.sz(I:Inv X dt σ H s):X.s₀.heap.objs.size≤s.heap.objs.size:=Bg I.ok.above (Db I.lt)
theorem Inv.nofs(I:Inv X dt σ H s){a:Ah}(h:s.heap.objs.size≤a):a ∉ X.fs:=fun q=>by
 obtain⟨_,o,ho,_⟩:=I.ok.funs.mem q;exact absurd (A2 (Aw ho) (Bg I.sz h)) (Cz _)
theorem Inv.cne(I:Inv X dt σ H s):∀ x c,X.env.cells.lookup x=some c→c≠X.env.locals:=fun x c e z=>by
 obtain⟨v,o,ho,hd⟩:=I.cell x c e;obtain⟨m,⟨o',es,ep,ho',hd',_⟩,_⟩:=I.loc;rw[z,ho']at ho;cases ho;rw[hd']at hd;cases hd
theorem Inv.funs(I:Inv X dt σ H s):s.heap.FunFrames X.base X.outer:=by
 have all:∀(l:List Env),(∀ b∈frs l,b∈X.fs)→X.s₀.heap.FunFrames X.base l→s.heap.FunFrames X.base l:=by
  intro l
  induction l with
  | nil=>intro _ _;trivial
  | cons env r J=>
   intro B F;obtain⟨hk,⟨L,o,hf,hn,ho,hd⟩,hr⟩:=F;have hL:L∈X.fs:=B L (by unfold frs;rw[Ek,hf];exact AG);obtain⟨sl,e⟩:=I.base.slot L o ho (I.ok.frf L hL) hL fun z=>I.ok.exfs L z hL;exact⟨hk,⟨L,_,hf,hn,e,hd⟩,J (fun b q=>B b (by unfold frs;rw[Ek,hf];exact AJ _ q)) hr⟩
 exact all X.outer (fun _ q=>q) I.ok.funs
theorem Inv.stack(I:Inv X dt σ H s):s.heap.FunFrames X.base X.stack:=by
 rcases I.ok.stk with e | ⟨e,q⟩
 ·rw[e];exact I.funs
 ·rw[e];obtain⟨m,hn,_⟩:=I.loc;refine .cons (by rw[I.ok.kind];decide) q hn ?_ I.funs;exact Heap.get?_none_of_le (Bg I.ok.bsz I.ok.above)
theorem Inv.stkSub(I:Inv X dt σ H s):∀ b∈frs X.stack,b∈X.env.locals :: X.fs:=fun b q=>by
 rcases I.ok.stk with e | ⟨e,z⟩
 ·rw[e]at q;exact AJ _ q
 ·rw[e]at q;unfold frs at q;rw[Ek,z]at q;exact q
theorem Inv.stkFree(I:Inv X dt σ H s):∀ b∈frs X.stack,H b=none:=fun b q=>by
 rcases Ao.mp (I.stkSub b q)with e | q
 ·rw[e];exact I.free
 ·obtain⟨_,o,ho,_⟩:=I.ok.funs.mem q;exact I.base.free b o ho (I.ok.frf b q) fun z=>I.ok.exfs b z q
theorem Inv.step{g':Array Gc}{t':Nat}{d':Drawn}{ch:List Ah}(I:Inv X dt σ H s)
  (J:∀ b∈ch,(b∈X.ex∨X.s₀.heap.objs.size≤b)∧b≠X.env.locals∧(∀ x c,X.env.cells.lookup x=some c→c≠b)∧∀ p∈X.pn ++ dt,p.1≠b)
  (keep:∀ b o,b≠X.env.locals→b ∉ X.fs→b ∉ ch→s.heap.get? b=some o→H b=none→h'.get? b=some o)
  (slot:∀ b o,b≠X.env.locals→b∈X.fs→b ∉ ch→s.heap.get? b=some o→H b=none→∃ sl,h'.get? b=some { o with slots:=sl }) (free:∀ b o,b ∉ ch→s.heap.get? b=some o→H b=none→H' b=none)
  (there:∀ b o,b ∉ ch→s.heap.get? b=some o→∃ o',h'.get? b=some o')
  (tups:∀ b xs,H b=some (.tup xs)→H' b=some (.tup xs)) (frzs:∀ b o u,H b=some (.frz o u)→H' b=some (.frz o u)) (tbls:∀ b ps,H b=some (.tbl ps)→∃ ab,H' b=some (.tbl (ps ++ ab)))
  (ns:∀ m,s.heap.Ns X.env.locals m→h'.Ns X.env.locals m) (hok:HOk X.prog X.w H' h') (hg:EE g'):
  Inv X dt σ H' { s with heap:=h',gens:=g',drawn:=d',toks:=t' }:=by
 have aa:∀ b o,X.s₀.heap.get? b=some o→b≠X.env.locals:=fun b o e=>AC (A2 (Aw e) I.ok.above);have U:∀ b o,X.s₀.heap.get? b=some o→b ∉ X.ex→b ∉ ch:=fun b o e B W=>by
  rcases(J b W).1 with z | z
  ·exact B z
  ·exact absurd (A2 (Aw e) z) (Cz _)
 have F:∀ x c,X.env.cells.lookup x=some c→∀ v,s.heap.IsCell c v→h'.IsCell c v:=fun x c e v ⟨o,Y,hd⟩=>by
  have M:c ∉ ch:=fun z=>(J c z).2.2.1 x c e rfl;by_cases hc:c∈X.fs
  ·obtain⟨sl,q⟩:=slot c o (I.cne x c e) hc M Y (I.freeC x c e);exact⟨_,q,hd⟩
  ·exact⟨o,keep c o (I.cne x c e) hc M Y (I.freeC x c e),hd⟩
 refine⟨I.ok,I.os,hg,⟨fun b o e n W B=>?_,fun b o e n W B=>?_,fun b o e n B=>?_,fun b o e B=>?_,fun b xs e=>tups b xs (I.base.tups b xs e),fun b o xs e=>frzs b o xs (I.base.frzs b o xs e),fun b ps e=>?_⟩,?_,fun x c e=>?_,?_,fun x c e=>?_,fun p hp=>?_,hok,I.len⟩
 ·exact keep b o (aa b o e) W (U b o e B) (I.base.keep b o e n W B) (I.base.free b o e n B)
 ·obtain⟨sl,O⟩:=I.base.slot b o e n W B;obtain⟨sl',Z⟩:=slot b _ (aa b o e) W (U b o e B) O (I.base.free b o e n B);exact⟨sl',Z⟩
 ·obtain⟨o',O⟩:=I.base.there b o e B;exact free b o' (U b o e B) O (I.base.free b o e n B)
 ·obtain⟨o',O⟩:=I.base.there b o e B;exact there b o' (U b o e B) O
 ·obtain⟨m1,O⟩:=I.base.tbls b ps e;obtain⟨m2,Z⟩:=tbls b _ O;exact⟨m1 ++ m2,by rw[Z,Array.append_assoc]⟩
 ·obtain⟨m,hn,hl⟩:=I.loc;refine⟨m,ns m hn,fun i x v O Z e3=>?_⟩;obtain⟨u,r,l⟩:=hl i x v O Z e3;refine⟨u,r,?_⟩;rcases l with l | ⟨k,c,e,z⟩
  ·exact .inl l
  ·exact .inr ⟨k,c,e,F x c e _ z⟩
 ·obtain⟨v,z⟩:=I.cell x c e;exact⟨v,F x c e v z⟩
 ·obtain⟨m,⟨o,_,_,Y,_⟩,_⟩:=I.loc;exact free _ o (fun z=>(J _ z).2.1 rfl) Y I.free
 ·obtain⟨v,o,Y,hd⟩:=I.cell x c e;exact free c o (fun z=>(J c z).2.2.1 x c e rfl) Y (I.freeC x c e)
 ·obtain⟨e,n,ne,nf,d⟩:=I.pin p hp;have M:p.1 ∉ ch:=fun z=>(J p.1 z).2.2.2 p hp rfl;exact⟨keep p.1 p.2 ne nf M e n,free p.1 p.2 M e n,ne,nf,d⟩
theorem Inv.un{t':Nat}(I:Inv X dt σ H s)(u:Un X.fs [] H H' s.heap h')(hok:HOk X.prog X.w H' h'):Inv X dt σ H' { s with heap:=h',toks:=t' }:=by
 obtain⟨m,⟨o,es,ep,ho,r⟩,_⟩:=id I.loc;obtain⟨sl,hL⟩:=u.any ho I.free (by simp);exact I.step (g':=s.gens) (d':=s.drawn) (ch:=[]) (fun _ z=>nomatch z) (fun b o _ q _ e n=>u.keep b o e n q (by simp)) (fun b o _ q _ e n=>u.slot b o e n q (by simp)) (fun b o _ e n=>u.free b o e n (by simp)) (fun b o _ e=>u.there b o e (by simp)) u.tups u.frzs u.tbls (fun B hm=>by
  obtain⟨o',es',ep',ho',r'⟩:=hm;rw[ho]at ho';cases ho';exact⟨_,es',ep',hL,r'⟩) hok I.bare
theorem Inv.call{g':Array Gc}{t':Nat}{d':Drawn}{ch:List Ah}(I:Inv X dt σ H s)(u:Un (frs X.stack) ch H H' s.heap h')(hok:HOk X.prog X.w H' h')(B:EE g')
  (q:∀ b∈ch,(b∈X.ex∨X.s₀.heap.objs.size≤b)∧b≠X.env.locals∧(∀ x c,X.env.cells.lookup x=some c→c≠b)∧∀ p∈X.pn ++ dt,p.1≠b):
  Inv X dt σ H' { s with heap:=h',gens:=g',drawn:=d',toks:=t' }:=by
 obtain⟨m,⟨o,es,ep,ho,r⟩,_⟩:=id I.loc;obtain⟨sl,hL⟩:=u.any ho I.free fun z=>(q _ z).2.1 rfl;exact I.step (ch:=ch) q (fun b o hL F hc e n=>u.keep b o e n (fun z=>(Ao.mp (I.stkSub b z)).elim hL F) hc) (fun b o _ _ hc e n=>u.any e n hc) (fun b o hc e n=>u.free b o e n hc) (fun b o hc e=>u.there b o e hc) u.tups u.frzs u.tbls (fun J hm=>by
  obtain⟨o',es',ep',ho',r'⟩:=hm;rw[ho]at ho';cases ho';exact⟨_,es',ep',hL,r'⟩) hok B
theorem Inv.turned{t':Nat}{it:Ah}(I:Inv X dt σ H s)(k:∀ b o,b≠it→s.heap.get? b=some o→h'.get? b=some o)(hn:H it=none)(hL:it≠X.env.locals)
  (h1:it∈X.ex∨X.s₀.heap.objs.size≤it) (h2:∀ x c,X.env.cells.lookup x=some c→c≠it) (F:∀ p∈X.pn ++ dt,p.1≠it):Inv X dt σ H { s with heap:=h',toks:=t' }:=by
 have B:∀ b u,H b=some u→b≠it:=fun b u e z=>by rw[z,hn]at e;cases e
 refine I.step (g':=s.gens) (d':=s.drawn) (ch:=[it]) (fun b J=>?_) (fun b o _ _ hc e _=>k b o (fun z=>hc (by simp[z])) e) (fun b o _ _ hc e _=>⟨o.slots,k b o (fun z=>hc (by simp[z])) e⟩) (fun _ _ _ _ n=>n)
  (fun b o hc e=>⟨o,k b o (fun z=>hc (by simp[z])) e⟩) (fun _ _ e=>e) (fun _ _ _ e=>e) (fun b ps e=>⟨#[],by rw[e];simp⟩) (fun m hm=>?_) (fun b u e=>?_) I.bare
 ·have e:b=it:=by simpa using J
  subst e;exact⟨h1,hL,h2,F⟩
 ·obtain⟨o,es,ep,ho,r⟩:=hm;exact⟨o,es,ep,k _ o (Ef hL) ho,r⟩
 ·refine(I.hok b u e).stay (fun c v hc q=>k c v ?_ q) (fun _ q=>q) fun _ _ q=>q;rcases hc with z | z
  ·rw[z];exact B b u e
  ·exact B c _ z
theorem Inv.tok(I:Inv X dt σ H s)(t:Nat):Inv X dt σ H { s with toks:=t }:=I.un (h':=s.heap) (t':=t) Un.refl I.hok
theorem Inv.kept{t':Nat}(I:Inv X dt σ H s)(k:∀ b u,s.heap.get? b=some u→h'.get? b=some u):Inv X dt σ H { s with heap:=h',toks:=t' }:=I.un (Un.kept k) (I.hok.kept k)
theorem Inv.laid{a:Ah}{o:HO}{t':Nat}(I:Inv X dt σ H s)(k:∀ b u,s.heap.get? b=some u→h'.get? b=some u)(q:s.heap.objs.size≤a)(new:dA X.prog X.w (upd H a o) h' a o):
  Inv X dt σ (upd H a o) { s with heap:=h',toks:=t' }:=I.un (Un.laid k q (I.hok.fresh q)) (I.hok.laid k q new)
theorem Inv.write{x e:Ah}{o:HO}{t':Nat}(I:Inv X dt σ H s)(z:Mut (H x))(B:e=x∨H e=some (.own x))(k:∀ b u,b≠e→s.heap.get? b=some u→h'.get? b=some u)(q:∃ u,h'.get? e=some u)
  (new:dA X.prog X.w (upd H x o) h' x o):Inv X dt σ (upd H x o) { s with heap:=h',toks:=t' }:=I.un (Un.write z B k q) (I.hok.write z B k q new)
theorem Inv.pins_of{q:List (Ah×Obj)}(I:Inv X dt σ H s)(h:∀ p∈q,s.heap.get? p.1=some p.2∧H p.1=none∧p.1≠X.env.locals∧p.1 ∉ X.fs∧∀ v,p.2.data≠.cell v):Inv X q σ H s:=
 ⟨I.ok,I.os,I.bare,I.base,I.loc,I.cell,I.free,I.freeC,fun p B=>(Bh.mp B).elim (fun z=>I.pin p (Ed _ z)) (h p),I.hok,I.len⟩
theorem y9{N:List Str}(hN:N.Nodup){i j:Nat}{x:Str}(a:N[i]?=some x)(b:N[j]?=some x):i=j:=by
 obtain⟨h1,e1⟩:=AS.mp a;obtain⟨h2,e2⟩:=AS.mp b;exact(D5 hN).mp (e1.trans e2.symm)
theorem vZ{M:Gz}{A:AU}{E:Ac→Af→Prop}{i:Nat}{x:Str}{v:V}{u:Ac}{Q:Unit→Af→Prop}(I:Inv X dt σ H s)(hN:X.N.Nodup)(hi:X.N[i]?=some x)(O:Loc X.env.scope x)(r:c4 v u)
  (h:∀ s',Inv X dt (σ.set i (some v)) H s'→(∃ a,DS a s.heap s'.heap∧(a=X.env.locals∨X.env.cells.lookup x=some a))→Q () s') (hf:X.fn x=true∨X.env.scope.names.lookup x=some .local:=by first | exact .inl rfl | exact .inr rfl | assumption):wpAny M A (storeName X.env x u) Q E s:=by
 obtain⟨m,hn,hl⟩:=id I.loc;have ab:(X.env.scope.kind == .class || (X.env.scope.kind == .module && X.env.locals != X.env.globals))=false:=by rw[I.ok.kind];rfl
 have ac:i < σ.length:=by rw[I.len];exact(AS.mp hi).1
 have cne:=I.cne;have J:∀{a:Ah} {h':Bm},(∃ o,s.heap.get? a=some o∧H a=none)→DS a s.heap h'→HOk X.prog X.w H h':=fun{a h'} ha B b ob e=>by
  obtain⟨_,_,hfree⟩:=ha;refine(I.hok b ob e).stay (fun c w' hc q=>(B.2 c ?_).trans q) (fun _ q=>q) fun _ _ q=>q;rintro rfl;rcases hc with rfl | hc
  ·rw[hfree]at e;cases e
  ·rw[hfree]at hc;cases hc
 rcases O with W | W
 ·refine wpAny_storeName_local W hn (fun h' aj B=>?_) ab;obtain⟨oL,_,_,hoL,_⟩:=id hn;refine h _ ⟨I.ok,I.os,I.bare,⟨fun b o e n Z O=>?_,fun b o e n Z O=>?_,I.base.free,fun b o e O=>?_,I.base.tups,I.base.frzs,I.base.tbls⟩,⟨_,aj,fun j y v' F U e3=>?_⟩,fun y c e=>?_,I.free,I.freeC,fun p hp=>?_,J ⟨oL,hoL,I.free⟩ B,by simpa using I.len⟩ ⟨_,B,.inl rfl⟩
  ·exact(B.2 b (AC (A2 (Aw e) I.ok.above))).trans (I.base.keep b o e n Z O)
  ·obtain⟨sl,F⟩:=I.base.slot b o e n Z O;exact⟨sl,(B.2 b (AC (A2 (Aw e) I.ok.above))).trans F⟩
  ·obtain⟨o',F⟩:=I.base.there b o e O;exact⟨o',(B.2 b (AC (A2 (Aw e) I.ok.above))).trans F⟩
  ·by_cases Y:j=i
   ·subst Y;rw[hi]at F;cases F;rw[EU ac]at U;cases U;exact⟨u,r,.inl ⟨W,by simp⟩⟩
   ·rw[List.getElem?_set_ne (Ef Y)]at U;obtain⟨u',r',q⟩:=hl j y v' F U e3;refine⟨u',r',?_⟩;rcases q with⟨k,e⟩ | ⟨k,c,e,z⟩
    ·refine .inl ⟨k,?_⟩;have:y≠x:=fun e=>Y (y9 hN F (e ▸ hi));simp[this,e]
    ·exact .inr ⟨k,c,e,z.sameBut B (cne y c e)⟩
  ·obtain⟨w',z⟩:=I.cell y c e;exact⟨w',z.sameBut B (cne y c e)⟩
  ·obtain⟨e,n,ne,nf,d⟩:=I.pin p hp;exact⟨(B.2 p.1 ne).trans e,n,ne,nf,d⟩
 ·have aa:X.fn x=true:=by
   rcases hf with z | z
   ·exact z
   ·rw[z]at W;cases W
  obtain⟨c,hc⟩:=I.ok.has x (.inl W);obtain⟨w',z⟩:=I.cell x c hc;refine wpAny_storeName_cell I.ok.kind W hc z (fun h' ae B=>?_);obtain⟨oc,hoc,hocd⟩:=id z;refine h { s with heap:=h' } ⟨I.ok,I.os,I.bare,⟨fun b o e n Z O=>?_,fun b o e n Z O=>?_,I.base.free,fun b o e O=>?_,I.base.tups,I.base.frzs,I.base.tbls⟩,⟨m,hn.sameBut B (Ef (cne x c hc)),fun j y v' F U e3=>?_⟩,fun y c' e=>?_,I.free,I.freeC,fun p hp=>?_,J ⟨oc,hoc,I.freeC x c hc⟩ B,by simpa using I.len⟩ ⟨c,B,.inr hc⟩
  ·exact(B.2 b (AC (A2 (Aw e) (I.ok.cab x c aa hc)))).trans (I.base.keep b o e n Z O)
  ·obtain⟨sl,F⟩:=I.base.slot b o e n Z O;exact⟨sl,(B.2 b (AC (A2 (Aw e) (I.ok.cab x c aa hc)))).trans F⟩
  ·obtain⟨o',F⟩:=I.base.there b o e O;exact⟨o',(B.2 b (AC (A2 (Aw e) (I.ok.cab x c aa hc)))).trans F⟩
  ·by_cases Y:j=i
   ·subst Y;rw[hi]at F;cases F;rw[EU ac]at U;cases U;exact⟨u,r,.inr ⟨.inl W,c,hc,ae⟩⟩
   ·rw[List.getElem?_set_ne (Ef Y)]at U;obtain⟨u',r',q⟩:=hl j y v' F U e3;refine⟨u',r',?_⟩;rcases q with q | ⟨k,c',e,z'⟩
    ·exact .inl q
    ·refine .inr ⟨k,c',e,z'.sameBut B ?_⟩;rintro rfl;exact Y (y9 hN F (I.ok.inj _ _ _ e hc ▸ hi))
  ·by_cases ad:c'=c
   ·subst ad;exact⟨_,ae⟩
   ·obtain⟨w2,z2⟩:=I.cell y c' e;exact⟨w2,z2.sameBut B ad⟩
  ·obtain⟨e,n,ne,nf,d⟩:=I.pin p hp;refine⟨(B.2 p.1 ?_).trans e,n,ne,nf,d⟩;intro q;rw[q,hoc]at e;have q':oc=p.2:=Cv.inj e;exact d w' (by rw[← q'];exact hocd)
theorem zC{M:Gz}{A:AU}{E:Ac→Af→Prop}{i:Nat}{x:Str}{v:V}{u:Ac}{Q:Unit→Af→Prop}(I:Inv X dt σ H s)(hN:X.N.Nodup)(hi:X.N[i]?=some x)(q:Loc X.env.scope x)(r:c4 v u)
  (h:∀ s',Inv X dt (σ.set i (some v)) H s'→Q () s') (B:X.fn x=true∨X.env.scope.names.lookup x=some .local:=by first | exact .inl rfl | exact .inr rfl | assumption):wpAny M A (storeName X.env x u) Q E s:=
 vZ I hN hi q r (fun s' z _=>h s' z) B
theorem Inv.call'{s':Af}{ch:List Ah}(I:Inv X dt σ H s)(B:s'.os=s.os)(u:Un (frs X.stack) ch H H' s.heap s'.heap)(hok:HOk X.prog X.w H' s'.heap)(z:EE s'.gens)
  (q:∀ b∈ch,(b∈X.ex∨X.s₀.heap.objs.size≤b)∧b≠X.env.locals∧(∀ x c,X.env.cells.lookup x=some c→c≠b)∧∀ p∈X.pn ++ dt,p.1≠b):Inv X dt σ H' s':=by
 obtain⟨h',g',d',t',o'⟩:=s';have e:o'=s.os:=B;subst e;exact I.call (g':=g') (t':=t') (d':=d') u hok z q
end
abbrev XK:=Ac→Option Ah→Hp→Prop
abbrev St:=List (Option V)
abbrev VK:=V→Hp→Prop
abbrev TE:=St→Hp→VK→Prop
abbrev TT:=St→Hp→(Bool→Hp→Prop)→Prop
abbrev TA:=St→Hp→(List V→Hp→Prop)→Prop
structure p3 where
 nx:St→Hp→Prop
 rt:VK
 bk:St→Hp→Prop:=fun _ _=>False
 ct:St→Hp→Prop:=fun _ _=>False
abbrev TS:=p3→St→Hp→Prop
inductive aIt(X:Cx)(dt:List (Ah×Obj))(σ:St)(Q:VK)(u:Ac)(s':Af):Prop
 | mk (v:_) (H':_) (q0:Inv X dt σ H' s') (q1:c4 v u) (q2:Q v H'):aIt X dt σ Q u s'
def EP(X:Cx)(dt:List (Ah×Obj))(σ:St)(Q:VK)(u:Ac)(s':Af):Prop:=aIt X dt σ Q u s'
def TP(X:Cx)(dt:List (Ah×Obj))(σ:St)(Q:Bool→Hp→Prop)(b:Bool)(s':Af):Prop:=∃ H',Inv X dt σ H' s'∧Q b H'
inductive aIu(X:Cx)(dt:List (Ah×Obj))(σ:St)(Q:List V→Hp→Prop)(us:List Ac)(s':Af):Prop
 | mk (vs:_) (H':_) (q0:Inv X dt σ H' s') (q1:cW vs us) (q2:Q vs H'):aIu X dt σ Q us s'
def AP(X:Cx)(dt:List (Ah×Obj))(σ:St)(Q:List V→Hp→Prop)(us:List Ac)(s':Af):Prop:=aIu X dt σ Q us s'
def SP(X:Cx)(dt:List (Ah×Obj))(D:p3)(f:Flow)(s':Af):Prop:=
 match f with
 | .next=>∃ σ' H',Inv X dt σ' H' s'∧D.nx σ' H'
 | .brk=>∃ σ' H',Inv X dt σ' H' s'∧D.bk σ' H'
 | .cont=>∃ σ' H',Inv X dt σ' H' s'∧D.ct σ' H'
 | .ret u=>∃ v σ' H',Inv X dt σ' H' s'∧c4 v u∧D.rt v H'
structure PE(X:Cx)(e:Br)(t:TE):Prop where
 run:
  ∀(dt:List (Ah×Obj)) (s:Af) (σ:St) (H:Hp) (Q:VK),Inv X dt σ H s→t σ H Q→wpAny (model X.prog X.w) X.A (eval e X.env) (EP X dt σ Q) X.xe s
instance{X:Cx}{e:Br}{t:TE}:CoeFun (PE X e t) (fun _=>
 ∀(dt:List (Ah×Obj)) (s:Af) (σ:St) (H:Hp) (Q:VK),Inv X dt σ H s→t σ H Q→wpAny (model X.prog X.w) X.A (eval e X.env) (EP X dt σ Q) X.xe s):=⟨fun h=>h.run⟩
structure PT(X:Cx)(e:Br)(t:TT):Prop where
 run:
  ∀(dt:List (Ah×Obj)) (s:Af) (σ:St) (H:Hp) (Q:Bool→Hp→Prop),Inv X dt σ H s→t σ H Q→wpAny (model X.prog X.w) X.A (isTrue e X.env (eval e X.env)) (TP X dt σ Q) X.xe s
instance{X:Cx}{e:Br}{t:TT}:CoeFun (PT X e t) (fun _=>
 ∀(dt:List (Ah×Obj)) (s:Af) (σ:St) (H:Hp) (Q:Bool→Hp→Prop),Inv X dt σ H s→t σ H Q→wpAny (model X.prog X.w) X.A (isTrue e X.env (eval e X.env)) (TP X dt σ Q) X.xe s):=⟨fun h=>h.run⟩
structure PW(X:Cx)(e:Br)(t:TT):Prop where
 run:
  ∀(whole:Sem Ac) (dt:List (Ah×Obj)) (s:Af) (σ:St) (H:Hp) (Q:Bool→Hp→Prop),Inv X dt σ H s→t σ H Q→wpAny (model X.prog X.w) X.A (isTrue e X.env whole) (TP X dt σ Q) X.xe s
instance{X:Cx}{e:Br}{t:TT}:CoeFun (PW X e t) (fun _=>
 ∀(whole:Sem Ac) (dt:List (Ah×Obj)) (s:Af) (σ:St) (H:Hp) (Q:Bool→Hp→Prop),Inv X dt σ H s→t σ H Q→wpAny (model X.prog X.w) X.A (isTrue e X.env whole) (TP X dt σ Q) X.xe s):=⟨fun h=>h.run⟩
theorem PW.pt{X:Cx}{e:Br}{t:TT}(h:PW X e t):PT X e t:=⟨h.run _⟩
structure PA(X:Cx)(es:List Br)(t:TA):Prop where
 run:
  ∀(pos:Pos) (dt:List (Ah×Obj)) (s:Af) (σ:St) (H:Hp) (Q:List V→Hp→Prop),Inv X dt σ H s→t σ H Q→wpAny (model X.prog X.w) X.A (spliced (backTo pos (starEach es X.env))) (AP X dt σ Q) X.xe s
instance{X:Cx}{es:List Br}{t:TA}:CoeFun (PA X es t) (fun _=>
 ∀(pos:Pos) (dt:List (Ah×Obj)) (s:Af) (σ:St) (H:Hp) (Q:List V→Hp→Prop),Inv X dt σ H s→t σ H Q→wpAny (model X.prog X.w) X.A (spliced (backTo pos (starEach es X.env))) (AP X dt σ Q) X.xe s):=⟨fun h=>h.run⟩
structure PS(X:Cx)(st:B6)(t:TS):Prop where
 run:
  ∀(dt:List (Ah×Obj)) (s:Af) (σ:St) (H:Hp) (D:p3),Inv X dt σ H s→t D σ H→wpAny (model X.prog X.w) X.A (exec st X.env) (SP X dt D) X.xe s
instance{X:Cx}{st:B6}{t:TS}:CoeFun (PS X st t) (fun _=>
 ∀(dt:List (Ah×Obj)) (s:Af) (σ:St) (H:Hp) (D:p3),Inv X dt σ H s→t D σ H→wpAny (model X.prog X.w) X.A (exec st X.env) (SP X dt D) X.xe s):=⟨fun h=>h.run⟩
structure PSs(X:Cx)(st:List B6)(t:TS):Prop where
 run:
  ∀(dt:List (Ah×Obj)) (s:Af) (σ:St) (H:Hp) (D:p3),Inv X dt σ H s→t D σ H→wpAny (model X.prog X.w) X.A (execs st X.env) (SP X dt D) X.xe s
instance{X:Cx}{st:List B6}{t:TS}:CoeFun (PSs X st t) (fun _=>
 ∀(dt:List (Ah×Obj)) (s:Af) (σ:St) (H:Hp) (D:p3),Inv X dt σ H s→t D σ H→wpAny (model X.prog X.w) X.A (execs st X.env) (SP X dt D) X.xe s):=⟨fun h=>h.run⟩
theorem thn{α:Type}{t:Sem α}{Q q:α→Af→Prop}{M:Gz}{A:AU}{E:Ac→Af→Prop}{s:Af}(h:wpAny M A t Q E s)(z:∀ a s,Q a s→q a s):wpAny M A t q E s:=B8 h z fun _ _ x=>x
section
variable{X:Cx}
inductive aD2(i:Nat)(σ:St)(H:Hp)(Q:VK):Prop
 | mk (v:_) (q0:σ[i]?=some (some v)) (q1:Q v H):aD2 i σ H Q
def aIv(i:Nat):TE:=fun σ H Q=>aD2 i σ H Q
def tC(v:V):TE:=fun _ H Q=>Q v H
theorem aHp{i:Nat}{x:Str}{pos:Pos}(hN:X.N[i]?=some x)(B:Vis X.env.scope x)(hd:(x == ("__debug__":Str))=false:=by decide)(z:(x == ("__classdict__":Str))=false:=by decide):PE X (.Name x pos) (aIv i):=by
 constructor;intro dt s σ H Q I h;obtain⟨v,e,h⟩:=h;obtain⟨m,hn,hl⟩:=I.loc;obtain⟨u,r,l⟩:=hl i x v hN e B;have fin:EP X dt σ Q u s:=⟨v,H,I,r,h⟩
 rcases l with⟨q,hm⟩ | ⟨q,c,hc,hcell⟩
 ·exact wpAny_Name (wpAny_loadName_local I.ok.kind q hn hm fin) hd
 ·rcases q with q | q
  ·exact wpAny_Name (wpAny_loadName_cell I.ok.kind q hc hcell fin) hd
  ·exact wpAny_Name (wpAny_loadName_free I.ok.kind q hc hcell fin z) hd
theorem aQ{i j pos}:PE X (.Constant (.int i) j pos) (tC (.int i)):=⟨fun _ _ _ H _ I h=>wpAny_Constant_int ⟨.int i,H,I.tok _,⟨_,rfl⟩,h⟩⟩
theorem jJ{b j pos}:PE X (.Constant (.bool b) j pos) (tC (.bl b)):=⟨fun _ _ _ H _ I h=>Constant_bool ⟨.bl b,H,I,rfl,h⟩⟩
theorem aD3{j pos}:PE X (.Constant .none j pos) (tC .non):=⟨fun _ _ _ H _ I h=>Constant_none ⟨.non,H,I,rfl,h⟩⟩
theorem cG{x j pos}:PE X (.Constant (.str x) j pos) (tC (.str x)):=⟨fun _ _ _ H _ I h=>Calls.Constant_str ⟨.str x,H,I.tok _,⟨_,rfl⟩,h⟩⟩
def Gl(X:Cx)(x:Str):Prop:=X.env.kindOf x=some .globalImplicit
theorem aBX{E:Ac→Af→Prop}{dt:List (Ah×Obj)}{s:Af}{σ:St}{H:Hp}{x:Str}{u:Ac}{pos:Pos}{Q:Ac→Af→Prop}(I:Inv X dt σ H s)(q:Gl X x)(hm:X.mg x=some u)(h:Q u s)
  (hd:(x == ("__debug__":Str))=false:=by decide):wpAny (model X.prog X.w) X.A (eval (.Name x pos) X.env) Q E s:=
 Calls.Name_function_global I.ok.kind q (Calls.loadGlobal_global (by rw[I.ok.glob];exact I.mod.glob.keeps I.bk) hm h) hd
theorem sU{E:Ac→Af→Prop}{dt:List (Ah×Obj)}{s:Af}{σ:St}{H:Hp}{x:Str}{u:Ac}{pos:Pos}{Q:Ac→Af→Prop}(I:Inv X dt σ H s)(z:Gl X x)(hm:X.mg x=none)(q:bootBuiltins x=some u)(h:Q u s)
  (hn:x≠"__name__":=by decide) (hd:(x == ("__debug__":Str))=false:=by decide):wpAny (model X.prog X.w) X.A (eval (.Name x pos) X.env) Q E s:=by
 obtain⟨mb,h1,h2⟩:=I.mod.blt;exact Calls.Name_function_global I.ok.kind z (Calls.loadGlobal_builtin (by rw[I.ok.glob];exact I.mod.glob.keeps I.bk) hm (by rw[I.ok.blt];exact h1.keeps I.bk) ((h2 x hn).trans q) h) hd
theorem dE{x:Str}{v:V}{u:Ac}{pos:Pos}(q:Gl X x)(hm:X.mg x=some u)(r:c4 v u)(hd:(x == ("__debug__":Str))=false:=by decide):PE X (.Name x pos) (tC v):=
 ⟨fun _ _ _ H _ I h=>aBX I q hm ⟨v,H,I,r,h⟩ hd⟩
theorem dM{x:Str}{v:V}{u:Ac}{pos:Pos}(z:Gl X x)(hm:X.mg x=none)(q:bootBuiltins x=some u)(r:c4 v u)(hn:x≠"__name__":=by decide)(hd:(x == ("__debug__":Str))=false:=by decide):PE X (.Name x pos) (tC v):=
 ⟨fun _ _ _ H _ I h=>sU I z hm q ⟨v,H,I,r,h⟩ hn hd⟩
variable{a b:Br}{ta tb:TE}{pos:Pos}
structure PC(X:Cx)(op:Hi)(a b:Br)(t:TE):Prop where
 run:
  ∀(dt:List (Ah×Obj)) (s:Af) (σ:St) (H:Hp) (Q:VK),Inv X dt σ H s→t σ H Q→
   wpAny (model X.prog X.w) X.A (eval a X.env) (fun v s₁=>wpAny (model X.prog X.w) X.A (eval b X.env) (fun u s₂=>wpAny (model X.prog X.w) X.A (compareOp op v u) (EP X dt σ Q) X.xe s₂) X.xe s₁) X.xe s
instance{X:Cx}{op:Hi}{a b:Br}{t:TE}:CoeFun (PC X op a b t) (fun _=>
 ∀(dt:List (Ah×Obj)) (s:Af) (σ:St) (H:Hp) (Q:VK),Inv X dt σ H s→t σ H Q→
  wpAny (model X.prog X.w) X.A (eval a X.env) (fun v s₁=>wpAny (model X.prog X.w) X.A (eval b X.env) (fun u s₂=>wpAny (model X.prog X.w) X.A (compareOp op v u) (EP X dt σ Q) X.xe s₂) X.xe s₁) X.xe s):=⟨fun h=>h.run⟩
inductive As{α:Type}(f:α→V)(x:V)(Q:α→Prop):Prop
 | mk (c:α) (h:x=f c) (q:Q c):As f x Q
def tB(t:TE):TT:=fun σ H Q=>t σ H fun x H1=>As V.bl x fun c=>Q c H1
theorem dO{e:Br}{t:TE}(h:PE X e t)(M:∀ z,isTrue e X.env z=(do let v ← z;standAt e.pos;holding [v] (truthy v)):=by intro _;rfl):PT X e (tB t):=by
 constructor;intro dt s σ H Q I hw;refine isTrue_plain (thn (h dt s σ H _ I hw) fun v O ⟨x,H1,F,J,B⟩=>?_) (M _);obtain⟨d,rfl,q⟩:=B;cases J;exact CH ⟨H1,F,q⟩
variable{tA fw:TT}{cM:List Br}
def aJr(t u:TT):TT:=fun σ H Q=>t σ H fun c H1=>if c=true then u σ H1 Q else Q false H1
def tOr(t u:TT):TT:=fun σ H Q=>t σ H fun c H1=>if c=true then Q true H1 else u σ H1 Q
def aJs(t:TT):TT:=fun σ H Q=>t σ H fun c H1=>Q (!c) H1
theorem jK(ha:PT X a tA):PW X (.BoolOp .And [a] pos) tA:=by
 constructor;intro q dt s σ H Q I h;refine isTrue_and (thn (ha dt s σ H Q I h) fun c z e=>?_);cases c with
 | true=>exact isTrue_and_nil e
 | false=>exact e
theorem fI(ha:PT X a tA):PW X (.BoolOp .Or [a] pos) tA:=by
 constructor;intro q dt s σ H Q I h;refine isTrue_or (thn (ha dt s σ H Q I h) fun c z e=>?_);cases c with
 | false=>exact isTrue_or_nil e
 | true=>exact e
theorem mM(ha:PT X a tA)(B:PW X (.BoolOp .And (b :: cM) pos) fw):PW X (.BoolOp .And (a :: b :: cM) pos) (aJr tA fw):=by
 constructor;intro F dt s σ H Q I h;refine isTrue_and (thn (ha dt s σ H _ I h) fun c J ⟨H1,z,q⟩=>?_);cases c with
 | true=>exact B F dt J σ H1 Q z q
 | false=>exact⟨H1,z,q⟩
theorem gX(ha:PT X a tA)(B:PW X (.BoolOp .Or (b :: cM) pos) fw):PW X (.BoolOp .Or (a :: b :: cM) pos) (tOr tA fw):=by
 constructor;intro F dt s σ H Q I h;refine isTrue_or (thn (ha dt s σ H _ I h) fun c J ⟨H1,z,q⟩=>?_);cases c with
 | true=>exact⟨H1,z,q⟩
 | false=>exact B F dt J σ H1 Q z q
theorem dL(ha:PT X a tA):PT X (.UnaryOp .Not a pos) (aJs tA):=by
 constructor;intro dt s σ H Q I h;exact isTrue_not (ha dt s σ H (fun c H1=>Q (!c) H1) I h)
def aIw(ta tb:TE):TE:=fun σ H Q=>ta σ H fun x H1=>As V.bl x fun c=>if c=true then tb σ H1 Q else Q (.bl false) H1
def aIx(ta:TE):TE:=fun σ H Q=>ta σ H fun x H1=>As V.bl x fun c=>Q (.bl (!c)) H1
theorem f9{op}{t:TE}(h:PE X a t):PE X (.BoolOp op [a] pos) t:=⟨fun dt s σ H Q I hw=>BoolOp_one (h dt s σ H Q I hw)⟩
theorem dX(ha:PE X a ta)(F:PE X (.BoolOp .And (b :: cM) pos) tb):PE X (.BoolOp .And (a :: b :: cM) pos) (aIw ta tb):=by
 constructor;intro dt s σ H Q I h;refine BoolOp_and (thn (ha dt s σ H _ I h) fun v J ⟨x,H1,z,B,q⟩=>?_);obtain⟨c,rfl,q⟩:=q;cases B;refine CH ?_;cases c with
 | true=>exact F dt J σ H1 Q z q
 | false=>exact⟨.bl false,H1,z,rfl,q⟩
theorem aHq(ha:PE X a ta):PE X (.UnaryOp .Not a pos) (aIx ta):=by
 constructor;intro dt s σ H Q I h;refine UnaryOp_ (thn (ha dt s σ H _ I h) fun v F ⟨x,H1,B,z,q⟩=>?_);obtain⟨c,rfl,q⟩:=q;cases z;exact not_of (CH ⟨.bl (!c),H1,B,rfl,q⟩)
end
def SqL(K:Ai)(H:Hp)(a:Ah)(xs:List V):Prop:=
 Rd H a (.lst xs)∨
  ∃(o:Obj) (its:Array Ac) (n:Nat),K.lookup a=some o∧o.cls=.type "list"∧o.dict=none∧o.data=.seq its n∧its.size≤sizeLine∧cW xs its.toList
def SqT(K:Ai)(H:Hp)(a:Ah)(xs:List V):Prop:=
 Rd H a (.tup xs)∨
  ∃(o:Obj) (its:Array Ac) (n:Nat),K.lookup a=some o∧o.cls=.type "tuple"∧o.data=.seq its n∧its.size≤sizeLine∧cW xs its.toList
def aJt:Ac→Option V
 | .none=>some .non
 | .bool b=>some (.bl b)
 | .int i _=>some (.int i)
 | .str x _=>some (.str x)
 | .bytes b _=>some (.byt b)
 | .float b _=>some (.flt b)
 | .ref a=>some (.ref a)
 | .type n=>some (.ty n)
 | _=>none
theorem c4.abs{x:V}{u:Ac}(r:c4 x u):aJt u=some x:=by
 cases x with
 | non=>cases r;rfl
 | bl _=>cases r;rfl
 | int _=>obtain⟨t,rfl⟩:=r;rfl
 | str _=>obtain⟨t,rfl⟩:=r;rfl
 | byt _=>obtain⟨t,rfl⟩:=r;rfl
 | flt _=>obtain⟨t,rfl⟩:=r;rfl
 | ref _=>cases r;rfl
 | ty _=>cases r;rfl
theorem c4.inj{x y:V}{u:Ac}(r:c4 x u)(q:c4 y u):x=y:=Cv.inj (r.abs.symm.trans q.abs)
theorem cW.inj:∀{xs ys:List V}{us:List Ac},cW xs us→cW ys us→xs=ys
 | _,_,_,.nil,.nil=>rfl
 | _,_,_,.cons r t,.cons q t'=>by rw[r.inj q,cW.inj t t']
section
variable{X:Cx}{dt:List (Ah×Obj)}{σ:St}{H:Hp}{s:Af}{a:Ah}{xs ys:List V}
theorem bG{K:Ai}(h:H a=some (.lst xs)):SqL K H a xs:=.inl (.inl h)
theorem bF{K:Ai}(h:H a=some (.tup xs)):SqT K H a xs:=.inl (.inl h)
theorem Inv.list(I:Inv X dt σ H s)(h:SqL X.K H a xs):∃ its:List Ac,cW xs its∧PlainL s.heap a its.toArray∧xs.length≤sizeLine:=by
 rcases h with h | ⟨o,its,n,B,hc,hd,q,hz,r⟩
 ·obtain⟨z,its,n,r,e⟩:=h.ok I.hok;exact⟨its,r,⟨_,n,e,rfl,rfl,rfl⟩,z⟩
 ·refine⟨its.toList,r,⟨o,n,I.kIn a o B,hc,hd,by simpa using q⟩,?_⟩;have e:=r.length;simp only[Bt]at e;omega
theorem Inv.tuple(I:Inv X dt σ H s)(h:SqT X.K H a xs):∃ its:List Ac,cW xs its∧E2 s.heap a its.toArray∧xs.length≤sizeLine:=by
 rcases h with h | ⟨o,its,n,B,hc,q,hz,r⟩
 ·obtain⟨z,its,r,p⟩:=h.ok I.hok;exact⟨its,r,p.tup,z⟩
 ·refine⟨its.toList,r,⟨o,I.kIn a o B,hc,n,by simpa using q⟩,?_⟩;have e:=r.length;simp only[Bt]at e;omega
theorem Inv.list_inj(I:Inv X dt σ H s)(h:SqL X.K H a xs)(h':SqL X.K H a ys):xs=ys:=by
 obtain⟨its,r,⟨o,n,e,_,_,d⟩,_⟩:=I.list h;obtain⟨its',r',⟨o',n',e',_,_,d'⟩,_⟩:=I.list h';rw[e]at e';cases e';rw[d]at d';injection d' with d1 _;have:its=its':=by simpa using congrArg Array.toList d1
 subst this;exact r.inj r'
theorem Inv.tuple_inj(I:Inv X dt σ H s)(h:SqT X.K H a xs)(h':SqT X.K H a ys):xs=ys:=by
 obtain⟨its,r,⟨o,e,_,n,d⟩,_⟩:=I.tuple h;obtain⟨its',r',⟨o',e',_,n',d'⟩,_⟩:=I.tuple h';rw[e]at e';cases e';rw[d]at d';injection d' with d1 _;have:its=its':=by simpa using congrArg Array.toList d1
 subst this;exact r.inj r'
end
abbrev Cx.wish(X:Cx)(E:Ac→Af→Prop):Cx:={ X with xe:=E }
abbrev Cx.nox(X:Cx):Cx:=X.wish fun _ _=>False
theorem Cx.Ok.wish{X:Cx}(ok:X.Ok)(E:Ac→Af→Prop):(X.wish E).Ok:=
 ⟨ok.mod,ok.kind,ok.glob,ok.blt,ok.above,ok.inj,ok.has,ok.cab,ok.hd,ok.frames,ok.stk,ok.exf,ok.bs,ok.bsz,ok.noex,ok.exfs,ok.funs,ok.frf⟩
theorem Cx.Ok.unwish{X:Cx}{E:Ac→Af→Prop}(ok:(X.wish E).Ok):X.Ok:=
 ⟨ok.mod,ok.kind,ok.glob,ok.blt,ok.above,ok.inj,ok.has,ok.cab,ok.hd,ok.frames,ok.stk,ok.exf,ok.bs,ok.bsz,ok.noex,ok.exfs,ok.funs,ok.frf⟩
section
variable{X:Cx}{dt:List (Ah×Obj)}{σ:St}{H:Hp}{s:Af}{E:Ac→Af→Prop}
theorem Inv.wish(I:Inv X dt σ H s)(E:Ac→Af→Prop):Inv (X.wish E) dt σ H s:=⟨I.ok.wish E,I.os,I.bare,I.base,I.loc,I.cell,I.free,I.freeC,I.pin,I.hok,I.len⟩
theorem Inv.unwish(I:Inv (X.wish E) dt σ H s):Inv X dt σ H s:=⟨I.ok.unwish,I.os,I.bare,I.base,I.loc,I.cell,I.free,I.freeC,I.pin,I.hok,I.len⟩
theorem SP.unwish{D:p3}{f:Flow}{s':Af}(h:SP (X.wish E) dt D f s'):SP X dt D f s':=by
 cases f with
 | next=>obtain⟨σ',H',I,q⟩:=h;exact⟨σ',H',I.unwish,q⟩
 | brk=>obtain⟨σ',H',I,q⟩:=h;exact⟨σ',H',I.unwish,q⟩
 | cont=>obtain⟨σ',H',I,q⟩:=h;exact⟨σ',H',I.unwish,q⟩
 | ret u=>obtain⟨v,σ',H',I,r,q⟩:=h;exact⟨v,σ',H',I.unwish,r,q⟩
theorem PSs.nox{st:List B6}{t:TS}(h:PSs X.nox st t):PSs X st t:=⟨fun dt s σ H D I hw=>
 B8 (h dt s σ H D (I.wish _) hw) (fun _ _ q=>q.unwish) fun _ _ z=>CD z⟩
end
section
variable{X:Cx}{st:B6}{cM:List B6}{t u:TS}{e:Br}{te:TE}{pos:Pos}
def aIy:TS:=fun D σ H=>D.nx σ H
def aJu(t u:TS):TS:=fun D σ H=>t { D with nx:=u D } σ H
theorem bZ:PSs X [] aIy:=⟨fun _ _ σ H _ I h=>Eu ⟨σ,H,I,h⟩⟩
theorem aH(h1:PS X st t)(h2:PSs X cM u):PSs X (st :: cM) (aJu t u):=by
 constructor;intro dt s σ H D I h;refine wpAny_execs_cons (thn (h1 dt s σ H { D with nx:=u D } I h) fun f z q=>?_);cases f with
 | next=>
  obtain⟨σ',H',I',q⟩:=q;exact h2 dt z σ' H' D I' q
 | ret v=>exact q
 | brk=>exact q
 | cont=>exact q
theorem aV(h1:PS X st t):PSs X [st] t:=by
 constructor;intro dt s σ H D I h;refine wpAny_execs_cons (thn (h1 dt s σ H D I h) fun f z q=>?_);cases f with
 | next=>exact Eu q
 | ret v=>exact q
 | brk=>exact q
 | cont=>exact q
theorem Inv.quiet{dt:List (Ah×Obj)}{σ:St}{H:Hp}{s:Af}(I:Inv X dt σ H s):interactive X.env=false:=by simp[interactive,I.ok.kind]
def aIz(te:TE):TS:=fun D σ H=>te σ H fun _ H1=>D.nx σ H1
theorem m8(B:PE X e te)(z:swapsWith e none pos.line X.env=pure false:=by rfl):PS X (.Expr e pos) (aIz te):=by
 constructor;intro dt s σ H D I h;exact wpAny_Expr_any (thn (B dt s σ H _ I h) fun v M ⟨x,H1,F,J,q⟩=>⟨σ,H1,F,q⟩) I.quiet z
def aJv(te:TE):TS:=fun D σ H=>te σ H D.rt
theorem aY(z:PE X e te):PS X (.Return (some e) pos) (aJv te):=by
 constructor;intro dt s σ H D I h;exact wpAny_Return_some (thn (z dt s σ H _ I h) fun v J ⟨x,H1,F,B,q⟩=>⟨x,σ,H1,F,B,q⟩)
def aJw(c:TT)(t u:TS):TS:=fun D σ H=>c σ H fun b H1=>if b=true then t D σ H1 else u D σ H1
theorem c6{c:Br}{a b:List B6}{tc:TT}(hc:PT X c tc)(ha:PSs X a t)(F:PSs X b u):PS X (.If c a b pos) (aJw tc t u):=by
 constructor;intro dt s σ H D I h;refine wpAny_If (thn (hc dt s σ H _ I h) fun d z ⟨H1,B,q⟩=>?_);cases d with
 | true=>exact ha dt z σ H1 D B q
 | false=>exact F dt z σ H1 D B q
def aHr:TS:=fun _ _ _=>False
theorem fA{q:List B6}:PSs X q aHr:=⟨fun _ _ _ _ _ _ h=>h.elim⟩
end
abbrev TG:=V→St→Hp→(St→Hp→Prop)→Prop
abbrev TGs:=List V→St→Hp→(St→Hp→Prop)→Prop
structure PG(X:Cx)(target:Br)(t:TG):Prop where
 run:
  ∀(dt:List (Ah×Obj)) (s:Af) (σ:St) (H:Hp) (v:V) (u:Ac) (Q:St→Hp→Prop),Inv X dt σ H s→c4 v u→t v σ H Q→
   wpAny (model X.prog X.w) X.A (assign target X.env u) (fun _ s'=>∃ σ' H',Inv X dt σ' H' s'∧Q σ' H') X.xe s
instance{X:Cx}{target:Br}{t:TG}:CoeFun (PG X target t) (fun _=>
 ∀(dt:List (Ah×Obj)) (s:Af) (σ:St) (H:Hp) (v:V) (u:Ac) (Q:St→Hp→Prop),Inv X dt σ H s→c4 v u→t v σ H Q→
  wpAny (model X.prog X.w) X.A (assign target X.env u) (fun _ s'=>∃ σ' H',Inv X dt σ' H' s'∧Q σ' H') X.xe s):=⟨fun h=>h.run⟩
structure PGs(X:Cx)(ts:List Br)(t:TGs):Prop where
 run:
  ∀(dt:List (Ah×Obj)) (s:Af) (σ:St) (H:Hp) (vs:List V) (us:List Ac) (Q:St→Hp→Prop),Inv X dt σ H s→cW vs us→t vs σ H Q→
   wpAny (model X.prog X.w) X.A (assignInOrder ((assignEach ts X.env).map (·.2)) us) (fun _ s'=>∃ σ' H',Inv X dt σ' H' s'∧Q σ' H') X.xe s
instance{X:Cx}{ts:List Br}{t:TGs}:CoeFun (PGs X ts t) (fun _=>
 ∀(dt:List (Ah×Obj)) (s:Af) (σ:St) (H:Hp) (vs:List V) (us:List Ac) (Q:St→Hp→Prop),Inv X dt σ H s→cW vs us→t vs σ H Q→
  wpAny (model X.prog X.w) X.A (assignInOrder ((assignEach ts X.env).map (·.2)) us) (fun _ s'=>∃ σ' H',Inv X dt σ' H' s'∧Q σ' H') X.xe s):=⟨fun h=>h.run⟩
abbrev aHs:=V→V→V→Hp→(Hp→Prop)→Prop
def aIA(X:Cx)(t:aHs):Prop:=
 ∀(dt:List (Ah×Obj)) (s:Af) (σ:St) (H:Hp) (o i v:V) (ov iv u:Ac) (Q:Hp→Prop),Inv X dt σ H s→c4 o ov→c4 i iv→c4 v u→t o i v H Q→
  wpAny (model X.prog X.w) X.A (setItem ov iv u) (fun _ s'=>∃ H',Inv X dt σ H' s'∧Q H') X.xe s
section
variable{X:Cx}{pos:Pos}
def dI(i:Nat):TG:=fun v σ H Q=>Q (σ.set i (some v)) H
theorem bH{i:Nat}{x:Str}(hN:X.N.Nodup)(hi:X.N[i]?=some x)(q:Loc X.env.scope x)(B:X.fn x=true∨X.env.scope.names.lookup x=some .local:=by first | exact .inl rfl | exact .inr rfl | assumption):PG X (.Name x pos) (dI i):=by
 constructor;intro dt s σ H v u Q I r h;exact wpAny_assign_Name (zC I hN hi q r (fun s' z=>⟨_,H,z,h⟩) B)
def aJx:TGs:=fun vs σ H Q=>vs=[]∧Q σ H
inductive aBY(t:TG)(u:TGs)(vs:List V)(σ:St)(H:Hp)(Q:(St→Hp→Prop)):Prop
 | mk (v:_) (r:_) (q0:vs=v :: r) (q1:t v σ H fun σ' H'=>u r σ' H' Q):aBY t u vs σ H Q
def aIB(t:TG)(u:TGs):TGs:=fun vs σ H Q=>aBY t u vs σ H Q
theorem iE:PGs X [] aJx:=by
 constructor;intro dt s σ H vs us Q I r h;obtain⟨e,h⟩:=h;subst e;cases r;exact assignInOrder_nil ⟨σ,H,I,h⟩
theorem cH{e:Br}{es:List Br}{t:TG}{u:TGs}(h1:PG X e t)(h2:PGs X es u)
  (z:(assignEach (e :: es) X.env).map (·.2)=assign e X.env :: (assignEach es X.env).map (·.2):=by rfl):PGs X (e :: es) (aIB t u):=by
 constructor;intro dt s σ H vs us Q I r h;obtain⟨v,vr,e1,h⟩:=h;subst e1;cases r with
 | cons r M=>
  rw[z];refine assignInOrder_cons (thn (h1 dt s σ H _ _ _ I r h) fun _ B ⟨J,H1,F,q⟩=>?_);exact h2 dt B J H1 _ _ Q F M q
inductive aD4(K:Ai)(n:Nat)(t:TGs)(v:V)(σ:St)(H:Hp)(Q:(St→Hp→Prop)):Prop
 | mk (a:_) (xs:_) (q0:v=.ref a) (q1:SqT K H a xs) (q2:xs.length=n) (q3:t xs σ H Q):aD4 K n t v σ H Q
def aJy(K:Ai)(n:Nat)(t:TGs):TG:=fun v σ H Q=>aD4 K n t v σ H Q
theorem jV{es:List Br}{k:Nat}{t:TGs}{n:Nat}(hc:X.calm=true)(h:PGs X es t)
  (hn:(assignEach es X.env).length=n:=by rfl) (q:(assignEach es X.env).findIdx? (·.1)=none:=by rfl):PG X (.Tuple es k pos) (aJy X.K n t):=by
 constructor;intro dt s σ H v u Q I r hw;obtain⟨a,xs,e1,hq,hl,hw⟩:=hw;subst e1;cases r;obtain⟨its,rv,ht,hz⟩:=I.tuple hq;refine assign_Tuple_tuple (I.ok.hd hc) ht (by simp[hn,← hl,rv.length]) q fun h' z=>?_;have B:Inv X dt σ H { s with heap:=h' }:=I.kept (t':=s.toks) fun b o e=>z b o (AC (Aw e)) e;exact h dt _ σ H xs _ Q B (by simpa using rv) hw
def aJz(to ti:TE)(t:aHs):TG:=fun v σ H Q=>to σ H fun o H1=>ti σ H1 fun i H2=>t o i v H2 fun H3=>Q σ H3
theorem aHt{o i:Br}{to B:TE}{t:aHs}(U:PE X o to)(hi:PE X i B)(M:aIA X t)
  (ha:∀ v,assign (.Subscript o i pos) X.env v=(do
   let q ← holding [v] (eval o X.env)
   let z ← holding [v,q] (eval i X.env)
   standAt pos
   holding [v,q,z] (setItem q z v)
   release [v,q,z] []):=by intro _;rfl):PG X (.Subscript o i pos) (aJz to B t):=by
 constructor;intro dt s σ H v u Q I r h;rw[ha];refine Aa (Ba (thn (U dt s σ H _ I h) fun q W ⟨x,H1,Y,r1,F⟩=>?_));refine Aa (Ba (thn (hi dt W σ H1 _ Y F) fun z s2 ⟨y,H2,I2,Z,q2⟩=>?_));refine Aa (FO (Aa (Ba (thn (M dt s2 σ H2 x y v q z u _ I2 r1 Z r q2) fun _ s3 ⟨O,I3,J⟩=>?_))));exact wpAny_release ⟨σ,O,I3,J⟩
def aHu(te:TE)(g:TG):TS:=fun D σ H=>te σ H fun x H1=>g x σ H1 D.nx
theorem i5{tg e:Br}{te:TE}{g:TG}(U:PE X e te)(M:PG X tg g)(B:swapsWithSole [tg] e pos.line X.env=pure false:=by rfl)(hw:swappedStores [tg] e X.env=pure none:=by rfl)
  (h1:(assignEach [tg] X.env).map (·.2)=[assign tg X.env]:=by rfl):PS X (.Assign [tg] e pos) (aHu te g):=by
 constructor;intro dt s σ H D I h;refine wpAny_Assign_stores (thn (U dt s σ H _ I h) fun v F ⟨x,H1,J,O,z⟩=>?_) B hw;rw[h1];exact thn (M dt F σ H1 x v _ J O z) fun _ W q=>q
theorem bJ{i:Nat}{x:Str}{e:Br}{te:TE}{fq:Pos}(hN:X.N.Nodup)(hi:X.N[i]?=some x)(z:Loc X.env.scope x)(O:PE X e te)(B:swapsWith e (some (.Name x fq)) pos.line X.env=pure false:=by rfl)(U:X.fn x=true∨X.env.scope.names.lookup x=some .local:=by first | exact .inl rfl | exact .inr rfl | assumption):
  PS X (.Assign [.Name x fq] e pos) (aHu te (dI i)):=by
 constructor;intro dt s σ H D I h;refine wpAny_Assign_Name (thn (O dt s σ H _ I h) fun v W ⟨y,H1,F,J,q⟩=>?_) B;exact zC F hN hi z J (fun Y M=>⟨_,H1,M,q⟩) U
end
section
variable{X:Cx}{pos:Pos}
inductive zD(c:TT)(tb:TS)(D:p3)(σ:St)(H:Hp):Prop
 | mk (W:Nat→St→Hp→Prop) (q0:(∃ m,W m σ H)) (q1:∀ m σ H,W m σ H→
 c σ H fun b H1=>if b=true then∃ N:St→Hp→Prop,(∀ σ' H',N σ' H'→∃ m',m' < m∧W m' σ' H')∧tb { D with nx:=N,ct:=N,bk:=D.nx } σ H1 else D.nx σ H1):zD c tb D σ H
def aHv(c:TT)(tb:TS):TS:=fun D σ H=>zD c tb D σ H
theorem aD5{c:Br}{q:List B6}{tc:TT}{tb:TS}(O:PassesOwn (model X.prog X.w) X.A X.env X.xe)(hc:PT X c tc)(hb:PSs X q tb):PS X (.While c q [] pos) (aHv tc tb):=by
 constructor;intro dt s σ H D I h;obtain⟨W,⟨m0,w0⟩,turn⟩:=h;refine wpAny_While (codeAny_whileLoop (fun n s'=>∃ M H',Inv X dt M H' s'∧W n M H') ?_ m0 ⟨σ,H,I,w0⟩);rintro n U ⟨B,H1,Y,w1⟩;refine Dj O (thn (hc dt U B H1 _ Y (turn n B H1 w1)) fun b Z ⟨H2,J,F⟩=>?_);cases b with
 | true=>
  obtain⟨N,hN,F⟩:=F;rw[Ib rfl];refine Dj O (thn (hb dt Z B H2 _ J F) fun f s3 z=>?_);cases f with
  | next=>
   obtain⟨σ3,H3,I3,n3⟩:=z;obtain⟨m',hm,w3⟩:=hN σ3 H3 n3;exact⟨m',hm,σ3,H3,I3,w3⟩
  | cont=>
   obtain⟨σ3,H3,I3,n3⟩:=z;obtain⟨m',hm,w3⟩:=hN σ3 H3 n3;exact⟨m',hm,σ3,H3,I3,w3⟩
  | brk=>exact z
  | ret v=>exact z
 | false=>
  rw[Ia AA];exact Eu ⟨B,H2,J,F⟩
end
structure It where
 go:Nat→Hp→Prop
 yld:Nat→Hp→V→Hp→Prop
 stop:Nat→Hp→Prop
def mH(X:Cx)(dt:List (Ah×Obj))(H:Hp)(b:Ah):Prop:=
 H b=none∧b≠X.env.locals∧b ∉ X.fs∧(b∈X.ex∨X.s₀.heap.objs.size≤b)∧(∀ x c,X.env.cells.lookup x=some c→c≠b)∧∀ p∈X.pn ++ dt,p.1≠b
theorem Inv.fpOk{X:Cx}{dt:List (Ah×Obj)}{σ:St}{H H':Hp}{s:Af}{b:Ah}(I:Inv X dt σ H s)(B:s.heap.objs.size≤b)(hn:H' b=none):mH X dt H' b:=by
 refine⟨hn,CY (A2 I.lt B),I.nofs B,.inr (Bg I.sz B),fun x c e z=>?_,fun p F z=>?_⟩
 ·obtain⟨v,q⟩:=I.cell x c e;exact absurd (A2 q.lt (by rw[z];exact B)) (Cz _)
 ·exact absurd (A2 (Aw (I.pin p F).1) (by rw[z];exact B)) (Cz _)
structure aC5(P:AD)(w:AY)(K:Ai)(tg:Br)(J:It)(fp:List Ah)(it:Ah)(tn:Nat→Bm→Prop):Prop where
 mem:it∈fp
 obj:∀ i h,tn i h→∀ b∈fp,∃ o,h.get? b=some o∧∀ v,o.data≠.cell v
 keep:∀ i h h',tn i h→(∀ b∈fp,∀ o,h.get? b=some o→h'.get? b=some o)→tn i h'
 item:∀(X:Cx),X.prog=P→X.w=w→X.K=K→X.calm=true→∀(i:Nat) (dt:List (Ah×Obj)) (s:Af) (σ:St) (H:Hp) (E:Ac→Af→Prop),Inv X dt σ H s→(∀ b∈fp,mH X dt H b)→tn i s.heap→J.go i H→
  wpAny (model P w) X.A (pyNext (.ref it)) (fun r s1=>∃ u,r=some u∧
   wpAny (model P w) X.A (letOwnedTupleGo tg (.ref it) u) (fun _ s2=>∃ x H',Inv X dt σ H' s2∧c4 x u∧J.yld i H x H'∧tn (i + 1) s2.heap∧∀ b∈fp,H' b=none) E s1) E s
 done:∀(X:Cx),X.prog=P→X.w=w→X.K=K→X.calm=true→∀(i:Nat) (dt:List (Ah×Obj)) (s:Af) (σ:St) (H:Hp) (E:Ac→Af→Prop),Inv X dt σ H s→(∀ b∈fp,mH X dt H b)→tn i s.heap→J.stop i H→
  wpAny (model P w) X.A (pyNext (.ref it)) (fun r s1=>r=none∧Inv X dt σ H s1) E s
 self:∀(A:AU) (i:Nat) (s:Af) (Q:Ac→Af→Prop) (E:Ac→Af→Prop),tn i s.heap→Q (.ref it) s→wpAny (model P w) A (pyIter (.ref it)) Q E s
abbrev TI:=St→Hp→(It→Hp→Prop)→Prop
inductive aGU(X:Cx)(dt:List (Ah×Obj))(σ:St)(tg:Br)(R:It→Hp→Prop)(itv:Ac)(s2:Af):Prop
 | mk (it:Ah) (fp:List Ah) (tn:Nat→Bm→Prop) (J:It) (H':Hp) (q0:itv=.ref it) (q1:Inv X dt σ H' s2) (q2:aC5 X.prog X.w X.K tg J fp it tn) (q3:tn 0 s2.heap) (q4:(∀ b∈fp,mH X dt H' b)) (q5:R J H'):aGU X dt σ tg R itv s2
def PIE(X:Cx)(dt:List (Ah×Obj))(σ:St)(tg:Br)(R:It→Hp→Prop)(itv:Ac)(s2:Af):Prop:=aGU X dt σ tg R itv s2
structure PI(X:Cx)(tg iter:Br)(wi:TI):Prop where
 run:
  ∀(dt:List (Ah×Obj)) (s:Af) (σ:St) (H:Hp) (R:It→Hp→Prop),Inv X dt σ H s→wi σ H R→
   wpAny (model X.prog X.w) X.A (eval iter X.env) (fun v s1=>wpAny (model X.prog X.w) X.A (pyIter v) (PIE X dt σ tg R) X.xe s1) X.xe s
instance{X:Cx}{tg iter:Br}{wi:TI}:CoeFun (PI X tg iter wi) (fun _=>
 ∀(dt:List (Ah×Obj)) (s:Af) (σ:St) (H:Hp) (R:It→Hp→Prop),Inv X dt σ H s→wi σ H R→
  wpAny (model X.prog X.w) X.A (eval iter X.env) (fun v s1=>wpAny (model X.prog X.w) X.A (pyIter v) (PIE X dt σ tg R) X.xe s1) X.xe s):=⟨fun h=>h.run⟩
theorem aBZ{M : Gz}{A : AU}{E : Ac → Af → Prop}{s : Af}{tg : Br}{it : Ah}{u : Ac}{o : Obj}{n : String}{vs : Array Ac}{Q : Unit → Af → Prop}(z : s.heap.get? it = some o)(hc : o.cls = .type n)(hd : o.data = .fields vs)
    (hn : ["enumerate", "zip", "dict_itemiterator", "dict_reverseitemiterator", "odict_iterator", "itertools.zip_longest", "itertools.pairwise"].contains n = false) (q : Q () s) : wpAny M A (letOwnedTupleGo tg (.ref it) u) Q E s := by
  unfold letOwnedTupleGo;cases tg <;> first
    | exact Ae q
    | (cases u <;> first
        | exact Ae q
        | (refine Aa (Gu z ?_)
           rw[hc, hd];show wpAny M A (if (["enumerate", "zip", "dict_itemiterator", "dict_reverseitemiterator", "odict_iterator", "itertools.zip_longest", "itertools.pairwise"].contains n && vs[0]? == some (rawInt _)) = true then _ else _) Q E s;rw[Ia (by intro h;rw[hn, C7]at h;cases h)];exact Ae q))
def Itl(K:Ai)(a:Ah):It:=
 ⟨fun i H=>∃ xs x,SqL K H a xs∧xs[i]?=some x,fun i H x H'=>H'=H∧∀ xs,SqL K H a xs→xs[i]?=some x,fun i H=>∃ xs,SqL K H a xs∧xs.length≤i⟩
def Itt(K:Ai)(a:Ah):It:=
 ⟨fun i H=>∃ xs x,SqT K H a xs∧xs[i]?=some x,fun i H x H'=>H'=H∧∀ xs,SqT K H a xs→xs[i]?=some x,fun i H=>∃ xs,SqT K H a xs∧xs.length≤i⟩
def Itr(lo:Int)(n:Nat):It:=⟨fun i _=>i < n,fun i H x H'=>H'=H∧x=.int (lo + i),fun i _=>n≤i⟩
theorem aC6{P:AD}{w:AY}{K:Ai}{tg:Br}(a it:Ah):aC5 P w K tg (Itl K a) [it] it (fun i h=>h.IsListIter it a i) where
 mem:=by simp
 obj:=fun i h st b q=>by
  have e:b=it:=by simpa using q
  subst e;obtain⟨o,e,c,d⟩:=st;exact⟨o,e,fun v z=>by rw[d]at z;cases z⟩
 keep:=fun i h h' st k=>st.at fun o e=>k it (by simp) o e
 item:=by
  intro X J hw O hc i dt s σ H E I F st M;subst J hw O;obtain⟨xs,x,hq,hx⟩:=M;obtain⟨its,rv,p,hz⟩:=I.list hq;obtain⟨u,hu,ru⟩:=rv.get hx;obtain⟨f0,f1,f2,f3,f4,f5⟩:=F it (by simp);refine wpAny_pyNext_list_item st p.isList (x:=u) (by simpa using hu) fun h' B sb=>?_;have U:Inv X dt σ H { s with heap:=h' }:=I.turned (t':=s.toks) (fun b o q e=>(sb.2 b q).trans e) f0 f1 f3 f4 f5;obtain⟨o,e,c,d⟩:=id B;exact⟨u,rfl,aBZ (s:={ s with heap:=h' }) e c d (by decide) ⟨x,H,U,ru,⟨rfl,fun ys Y=>by rw[I.list_inj Y hq];exact hx⟩,B,fun b q=>(F b q).1⟩⟩
 done:=by
  intro X J hw O hc i dt s σ H E I F st M;subst J hw O;obtain⟨xs,hq,hx⟩:=M;obtain⟨its,rv,p,hz⟩:=I.list hq;obtain⟨f0,f1,f2,f3,f4,f5⟩:=F it (by simp);have Z:=rv.length;exact wpAny_pyNext_list_end (I.ok.hd hc) st p.isList (by simp;omega) fun h' W=>⟨rfl,I.turned (t':=s.toks) (fun b o q e=>W b o q e) f0 f1 f3 f4 f5⟩
 self:=fun _ _ _ _ _ st h=>wpAny_pyIter_listiter st h
theorem aA4{P:AD}{w:AY}{K:Ai}{tg:Br}(a it:Ah):aC5 P w K tg (Itt K a) [it] it (fun i h=>h.IsTupleIter it a i) where
 mem:=by simp
 obj:=fun i h st b q=>by
  have e:b=it:=by simpa using q
  subst e;obtain⟨o,e,c,d⟩:=st;exact⟨o,e,fun v z=>by rw[d]at z;cases z⟩
 keep:=fun i h h' st k=>st.at fun o e=>k it (by simp) o e
 item:=by
  intro X J hw O hc i dt s σ H E I F st M;subst J hw O;obtain⟨xs,x,hq,hx⟩:=M;obtain⟨its,rv,p,hz⟩:=I.tuple hq;obtain⟨u,hu,ru⟩:=rv.get hx;obtain⟨f0,f1,f2,f3,f4,f5⟩:=F it (by simp);refine wpAny_pyNext_tuple_item st (show s.heap.IsTuple a its.toArray from p) (x:=u) (by simpa using hu) fun h' B sb=>?_;have U:Inv X dt σ H { s with heap:=h' }:=I.turned (t':=s.toks) (fun b o q e=>(sb.2 b q).trans e) f0 f1 f3 f4 f5;obtain⟨o,e,c,d⟩:=id B;exact⟨u,rfl,aBZ (s:={ s with heap:=h' }) e c d (by decide) ⟨x,H,U,ru,⟨rfl,fun ys Y=>by rw[I.tuple_inj Y hq];exact hx⟩,B,fun b q=>(F b q).1⟩⟩
 done:=by
  intro X J hw O hc i dt s σ H E I F st M;subst J hw O;obtain⟨xs,hq,hx⟩:=M;obtain⟨its,rv,p,hz⟩:=I.tuple hq;obtain⟨f0,f1,f2,f3,f4,f5⟩:=F it (by simp);have Z:=rv.length;exact wpAny_pyNext_tuple_end (I.ok.hd hc) st (show s.heap.IsTuple a its.toArray from p) (by simp;omega) fun h' W=>⟨rfl,I.turned (t':=s.toks) (fun b o q e=>W b o q e) f0 f1 f3 f4 f5⟩
 self:=fun _ _ _ _ _ st h=>wpAny_pyIter_tupleiter st h
theorem aA5{P:AD}{w:AY}{K:Ai}{tg:Br}(it:Ah)(lo:Int)(n:Nat):aC5 P w K tg (Itr lo n) [it] it (fun i h=>IsRangeIter h it (lo + (i:Nat) * 1) ((n:Int) - (i:Nat)) 1) where
 mem:=by simp
 obj:=fun i h st b q=>by
  have e:b=it:=by simpa using q
  subst e;exact⟨_,st,fun v z=>by
   have z':F5 _=Data.cell v:=z;cases z'⟩
 keep:=fun i h h' st k=>k it (by simp) _ st
 item:=by
  intro X J hw O hc i dt s σ H E I F st M;subst J hw O;obtain⟨f0,f1,f2,f3,f4,f5⟩:=F it (by simp);have W:=Walks.range (prog:=X.prog) (w:=X.w) (I.ok.hd hc) it lo 1 n;refine W.item i s _ _ M st fun v h' tk Y B kk=>?_;obtain⟨t,rfl⟩:=Y;have U:Inv X dt σ H { s with heap:=h',toks:=tk }:=I.turned (fun b o q e=>kk b o (by simpa using q) e) f0 f1 f3 f4 f5;refine⟨_,rfl,aBZ (s:={ s with heap:=h',toks:=tk }) (n:="range_iterator") B rfl rfl (by decide) ⟨.int (lo + i),H,U,⟨t,?_⟩,⟨rfl,rfl⟩,B,fun b q=>(F b q).1⟩⟩;rw[Int.mul_one]
 done:=by
  intro X J hw O hc i dt s σ H E I F st M;subst J hw O;obtain⟨f0,f1,f2,f3,f4,f5⟩:=F it (by simp);exact wpAny_pyNext_range_end (I.ok.hd hc) st (by have:n≤i:=M;omega) fun h' Z=>⟨rfl,I.turned (t':=s.toks) (fun b o q e=>Z b o q e) f0 f1 f3 f4 f5⟩
 self:=fun _ _ _ _ _ st h=>wpAny_pyIter_rangeiter st h
section
variable{X:Cx}{tg:Br}
def aID(K:Ai)(tl:TE):TI:=fun σ H R=>tl σ H fun x H1=>As V.ref x fun a=>(∃ xs,SqL K H1 a xs)∧R (Itl K a) H1
def aJA(K:Ai)(tl:TE):TI:=fun σ H R=>tl σ H fun x H1=>As V.ref x fun a=>(∃ xs,SqT K H1 a xs)∧R (Itt K a) H1
theorem lH{l:Br}{tl:TE}(O:PE X l tl):PI X tg l (aID X.K tl):=by
 constructor;intro dt s σ H R I h;refine thn (O dt s σ H _ I h) fun v z ⟨x,H1,B,J,F⟩=>?_;obtain⟨a,e,⟨xs,hq⟩,q⟩:=F;subst e;cases J;obtain⟨its,rv,p,hz⟩:=B.list hq;refine ER p.isList ?_;refine⟨z.heap.objs.size,[z.heap.objs.size],_,_,H1,rfl,B.kept (t':=z.toks) fun b o e=>Ag _ e,aC6 a _,⟨_,Av _ rfl,rfl,rfl⟩,fun b M=>?_,q⟩;have e:b=z.heap.objs.size:=by simpa using M
 subst e;exact B.fpOk (Ap _) (B.hok.fresh (Ap _))
theorem iL{l:Br}{tl:TE}(O:PE X l tl):PI X tg l (aJA X.K tl):=by
 constructor;intro dt s σ H R I h;refine thn (O dt s σ H _ I h) fun v z ⟨x,H1,B,J,F⟩=>?_;obtain⟨a,e,⟨xs,hq⟩,q⟩:=F;subst e;cases J;obtain⟨its,rv,p,hz⟩:=B.tuple hq;refine wpAny_pyIter_tuple (show z.heap.IsTuple a its.toArray from p) ?_;refine⟨z.heap.objs.size,[z.heap.objs.size],_,_,H1,rfl,B.kept (t':=z.toks) fun b o e=>Ag _ e,aA4 a _,⟨_,Av _ rfl,rfl,rfl⟩,fun b M=>?_,q⟩;have e:b=z.heap.objs.size:=by simpa using M
 subst e;exact B.fpOk (Ap _) (B.hok.fresh (Ap _))
theorem aD6{dt:List (Ah×Obj)}{σ:St}{H:Hp}{s:Af}{R:It→Hp→Prop}{E:Ac→Af→Prop}{lo hi:Int}{t u v:Tok}{tk:Nat}(I:Inv X dt σ H s)(h1:-(2 ^ 62)≤lo)(h2:lo < 2 ^ 62)(J:-(2 ^ 62)≤hi)(O:hi < 2 ^ 62)
  (q:R (Itr lo (hi - lo).toNat) H):wpAny (model X.prog X.w) X.A (pyIter (.ref s.heap.objs.size)) (PIE X dt σ tg R) E { s with heap:=s.heap.push { cls:=.type "range",data:=.fields #[.int lo t,.int hi u,.int 1 v] },toks:=tk }:=by
 refine wpAny_pyIter_range (IsRange.new ..) (small_one h1 h2 J O) ?_;have z:Inv X dt σ H { s with heap:=s.heap.push { cls:=.type "range",data:=.fields #[.int lo t,.int hi u,.int 1 v] },toks:=tk }:=I.kept fun b o e=>Ag _ e;refine⟨(s.heap.push { cls:=.type "range",data:=.fields #[.int lo t,.int hi u,.int 1 v] }).objs.size,[(s.heap.push { cls:=.type "range",data:=.fields #[.int lo t,.int hi u,.int 1 v] }).objs.size],_,_,H,rfl,
  z.kept (t':=tk) fun b o e=>Ag _ e,aA5 _ lo (hi - lo).toNat,?_,fun b M=>?_,q⟩
 ·have F:lo + ((0:Nat):Int) * 1=lo:=by simp
  have B:(((hi - lo).toNat:Nat):Int) - ((0:Nat):Int)=Builtin.Range.rangeSize lo hi 1:=by rw[rangeSize_one];split <;> omega
  show IsRangeIter _ _ (lo + ((0:Nat):Int) * 1) ((((hi - lo).toNat:Nat):Int) - ((0:Nat):Int)) 1;rw[F,B];exact Av _ rfl
 ·have e:b=(s.heap.push { cls:=.type "range",data:=.fields #[.int lo t,.int hi u,.int 1 v] }).objs.size:=by simpa using M
  subst e;exact z.fpOk (Ap _) (z.hok.fresh (Ap _))
def aIE(ta:TA):TI:=fun σ H R=>ta σ H fun vs H1=>∃ j:Int,vs=[.int j]∧-(2 ^ 62)≤j∧j < 2 ^ 62∧R (Itr 0 j.toNat) H1
theorem gE{a:Br}{ta:TA}{p pos:Pos}(J:Gl X "range")(hm:X.mg "range"=none)(ha:PA X [a] ta)(B:starEach [a] X.env=[(false,eval a X.env)]:=by rfl):PI X tg (.Call (.Name "range" p) [a] [] pos) (aIE ta):=by
 constructor;intro dt s σ H R I h;refine Call_ (sU I J hm boot_range (PyProof.Rows.callWith_type1 (thn (ha pos dt s σ H _ I h) fun us U ⟨vs,H1,F,O,z⟩=>?_) B rfl));obtain⟨j,e,z,q2,q⟩:=z;subst e;cases O with
 | cons r M=>
  cases M;obtain⟨t,rfl⟩:=r;exact call_range_1 (aD6 F (by omega) (by omega) z q2 (by simpa using q))
def aJB(wi:TI)(g:TG)(tb:TS):TS:=fun D σ H=>wi σ H fun J H1=>∃ W:Nat→Nat→St→Hp→Prop,(∃ m,W 0 m σ H1)∧∀ i m σ H,W i m σ H→
 (J.stop i H∧D.nx σ H)∨(J.go i H∧∃ N:St→Hp→Prop,(∀ σ' H',N σ' H'→∃ m',m' < m∧W (i + 1) m' σ' H')∧∀ x H',J.yld i H x H'→g x σ H' fun σ2 H2=>tb { D with nx:=N,ct:=N,bk:=D.nx } σ2 H2)
def oH(fp:List Ah)(h:Bm):List (Ah×Obj):=fp.filterMap fun b=>(h.get? b).map fun o=>(b,o)
theorem lI{fp:List Ah}{h:Bm}{b:Ah}{o:Obj}(q:b∈fp)(e:h.get? b=some o):(b,o)∈oH fp h:=List.mem_filterMap.mpr ⟨b,q,by rw[e];rfl⟩
theorem v3{fp:List Ah}{h:Bm}{p:Ah×Obj}(B:p∈oH fp h):p.1∈fp∧h.get? p.1=some p.2:=by
 obtain⟨b,hb,e⟩:=List.mem_filterMap.mp B;cases q:h.get? b with
 | none=>rw[q]at e;cases e
 | some o=>
  rw[q]at e;have z:(b,o)=p:=Cv.inj e;subst z;exact⟨hb,q⟩
theorem Inv.pinned{dt:List (Ah×Obj)}{σ:St}{H:Hp}{s:Af}{fp:List Ah}(I:Inv X dt σ H s)(B:∀ b∈fp,mH X dt H b)(q:∀ b∈fp,∃ o,s.heap.get? b=some o∧∀ v,o.data≠.cell v):Inv X (dt ++ oH fp s.heap) σ H s:=
 I.pins_of fun p F=>(Bh.mp F).elim (fun z=>I.pin p (A0 _ z)) fun z=>by
  obtain⟨hb,e⟩:=v3 z;obtain⟨f0,f1,f2,_⟩:=B p.1 hb;obtain⟨o,e',d⟩:=q p.1 hb;rw[e]at e';cases e';exact⟨e,f0,f1,f2,d⟩
theorem Inv.unpinned{dt pl:List (Ah×Obj)}{σ:St}{H:Hp}{s:Af}(I:Inv X (dt ++ pl) σ H s):Inv X dt σ H s:=I.pins_of fun p q=>I.pin p (A0 _ (Ed _ q))
theorem mQ{q:Br}{U:List B6}{wi:TI}{g:TG}{tb:TS}{pos:Pos}(hp:PassesOwn (model X.prog X.w) X.A X.env X.xe)(hc:X.calm=true)(hi:PI X tg q wi)(hg:PG X tg g)(B:PSs X U tb)
  (hs:∀ x,foldedSetIterable q X.env x=pure x:=by intro _;rfl):PS X (.For tg q U [] pos) (aJB wi g tb):=by
 constructor;intro dt s σ H D I h;refine wpAny_For (thn (hi dt s σ H _ I h) fun v s1 h1=>thn h1 fun az s2 h2=>?_) hs;obtain⟨it,fp,tn,J,H2,e,I2,T,st2,f2,W,⟨m0,w0⟩,turn⟩:=h2;subst e;have F:∀{H':Hp},(∀ b∈fp,H' b=none)→∀ b∈fp,mH X dt H' b:=fun hn b B=>⟨hn b B,(f2 b B).2⟩
 refine codeAny_forLoop_any (fun n s'=>∃ i σ' H',Inv X dt σ' H' s'∧tn i s'.heap∧(∀ b∈fp,H' b=none)∧W i n σ' H') ?_ m0 ⟨0,σ,H2,I2,st2,fun b B=>(f2 b B).1,w0⟩;rintro n s3 ⟨i,σ3,H3,I3,aa,ab,w3⟩;rcases turn i n σ3 H3 w3 with⟨stop,qn⟩ | ⟨go,N,hN,step⟩
 ·refine Dj hp (thn (T.done X rfl rfl rfl hc i dt s3 σ3 H3 X.xe I3 (F ab) aa stop) fun r s4 ⟨hr,I4⟩=>?_);subst hr;exact Eu ⟨σ3,H3,I4,qn⟩
 ·refine Dj hp (thn (T.item X rfl rfl rfl hc i dt s3 σ3 H3 X.xe I3 (F ab) aa go) fun r s4 ⟨u,hr,h4⟩=>?_);subst hr;refine Dj hp (thn h4 fun _ s5 ⟨x,H5,I5,r5,y5,Z,ai⟩=>?_);have aj:=I5.pinned (F ai) (T.obj _ _ Z);refine Dj hp (thn (hg _ s5 σ3 H5 x u _ aj r5 (step x H5 y5)) fun _ s6 ⟨σ6,H6,I6,q6⟩=>?_);refine Dj hp (thn (B _ s6 σ6 H6 _ I6 q6) fun f s7 Y=>?_);have M:∀{O:St} {z:Hp},Inv X (dt ++ oH fp s5.heap) O z s7→N O z→∃ m,m < n∧∃ i σ' H',Inv X dt σ' H' s7∧tn i s7.heap∧(∀ b∈fp,H' b=none)∧W i m σ' H':=fun{O z} I7 n7=>by
   obtain⟨m',hm,w7⟩:=hN O z n7;refine⟨m',hm,i + 1,O,z,I7.unpinned,T.keep _ _ _ Z fun b B o e=>(I7.pin (b,o) (A0 _ (A0 _ (lI B e)))).1,fun b B=>?_,w7⟩;obtain⟨o,e,d⟩:=T.obj _ _ Z b B;exact(I7.pin (b,o) (A0 _ (A0 _ (lI B e)))).2.1
  cases f with
  | next=>obtain⟨O,z,I7,n7⟩:=Y;exact M I7 n7
  | cont=>obtain⟨O,z,I7,n7⟩:=Y;exact M I7 n7
  | brk=>obtain⟨O,z,I7,Y⟩:=Y;exact⟨O,z,I7.unpinned,Y⟩
  | ret v=>obtain⟨x7,O,z,I7,r7,Y⟩:=Y;exact⟨x7,O,z,I7.unpinned,r7,Y⟩
end
theorem zE{K:Ai}{a:Ah}{xs:List V}{g:TG}{tb:TS}{D:p3}{σ:St}{H:Hp}(Pv:Nat→St→Hp→Prop)(U:Pv 0 σ H)(Y:∀ i σ H,i≤xs.length→Pv i σ H→SqL K H a xs)
  (M:∀ i x σ H,xs[i]?=some x→Pv i σ H→g x σ H fun F H2=>tb { D with nx:=Pv (i + 1),ct:=Pv (i + 1),bk:=D.nx } F H2) (hd:∀ σ H,Pv xs.length σ H→D.nx σ H):
  ∃ W:Nat→Nat→St→Hp→Prop,(∃ m,W 0 m σ H)∧∀ i m σ H,W i m σ H→
   ((Itl K a).stop i H∧D.nx σ H)∨((Itl K a).go i H∧∃ N:St→Hp→Prop,(∀ B H',N B H'→∃ J,J < m∧W (i + 1) J B H')∧∀ x H',(Itl K a).yld i H x H'→g x σ H' fun F H2=>tb { D with nx:=N,ct:=N,bk:=D.nx } F H2):=by
 refine⟨fun i m σ H=>m=xs.length - i∧i≤xs.length∧Pv i σ H,⟨xs.length,by simp,A3 _,U⟩,?_⟩;rintro i m σ H ⟨rfl,hi,p⟩;have q:=Y i σ H hi p;by_cases z:i < xs.length
 ·refine .inr ⟨⟨xs,xs[i],q,by simp[z]⟩,Pv (i + 1),fun B H' O=>⟨xs.length - (i + 1),by omega,rfl,z,O⟩,fun x H' y=>?_⟩;obtain⟨e,y⟩:=y;subst e;exact M i x σ _ (y xs q) p
 ·have e:i=xs.length:=by omega
  subst e;exact .inl ⟨⟨xs,q,Ap _⟩,hd σ H p⟩
theorem aFU{K:Ai}{a:Ah}{xs:List V}{g:TG}{tb:TS}{D:p3}{σ:St}{H:Hp}(Pv:Nat→St→Hp→Prop)(U:Pv 0 σ H)(Y:∀ i σ H,i≤xs.length→Pv i σ H→SqT K H a xs)
  (M:∀ i x σ H,xs[i]?=some x→Pv i σ H→g x σ H fun F H2=>tb { D with nx:=Pv (i + 1),ct:=Pv (i + 1),bk:=D.nx } F H2) (hd:∀ σ H,Pv xs.length σ H→D.nx σ H):
  ∃ W:Nat→Nat→St→Hp→Prop,(∃ m,W 0 m σ H)∧∀ i m σ H,W i m σ H→
   ((Itt K a).stop i H∧D.nx σ H)∨((Itt K a).go i H∧∃ N:St→Hp→Prop,(∀ B H',N B H'→∃ J,J < m∧W (i + 1) J B H')∧∀ x H',(Itt K a).yld i H x H'→g x σ H' fun F H2=>tb { D with nx:=N,ct:=N,bk:=D.nx } F H2):=by
 refine⟨fun i m σ H=>m=xs.length - i∧i≤xs.length∧Pv i σ H,⟨xs.length,by simp,A3 _,U⟩,?_⟩;rintro i m σ H ⟨rfl,hi,p⟩;have q:=Y i σ H hi p;by_cases z:i < xs.length
 ·refine .inr ⟨⟨xs,xs[i],q,by simp[z]⟩,Pv (i + 1),fun B H' O=>⟨xs.length - (i + 1),by omega,rfl,z,O⟩,fun x H' y=>?_⟩;obtain⟨e,y⟩:=y;subst e;exact M i x σ _ (y xs q) p
 ·have e:i=xs.length:=by omega
  subst e;exact .inl ⟨⟨xs,q,Ap _⟩,hd σ H p⟩
theorem jZ{lo:Int}{n:Nat}{g:TG}{tb:TS}{D:p3}{σ:St}{H:Hp}(Pv:Nat→St→Hp→Prop)(O:Pv 0 σ H)
  (J:∀ i σ H,i < n→Pv i σ H→g (.int (lo + i)) σ H fun B H2=>tb { D with nx:=Pv (i + 1),ct:=Pv (i + 1),bk:=D.nx } B H2) (hd:∀ σ H,Pv n σ H→D.nx σ H):
  ∃ W:Nat→Nat→St→Hp→Prop,(∃ m,W 0 m σ H)∧∀ i m σ H,W i m σ H→
   ((Itr lo n).stop i H∧D.nx σ H)∨((Itr lo n).go i H∧∃ N:St→Hp→Prop,(∀ z H',N z H'→∃ F,F < m∧W (i + 1) F z H')∧∀ x H',(Itr lo n).yld i H x H'→g x σ H' fun B H2=>tb { D with nx:=N,ct:=N,bk:=D.nx } B H2):=by
 refine⟨fun i m σ H=>m=n - i∧i≤n∧Pv i σ H,⟨n,by simp,A3 _,O⟩,?_⟩;rintro i m σ H ⟨rfl,hi,p⟩;by_cases q:i < n
 ·refine .inr ⟨q,Pv (i + 1),fun z H' M=>⟨n - (i + 1),by omega,rfl,q,M⟩,fun x H' y=>?_⟩;obtain⟨e,y⟩:=y;subst e y;exact J i σ _ q p
 ·have e:i=n:=by omega
  subst e;exact .inl ⟨Ap _,hd σ H p⟩
abbrev R2:=V→V→Hp→VK→Prop
def OpR(X:Cx)(f:Ac→Ac→Sem Ac)(r:R2):Prop:=
 ∀(dt:List (Ah×Obj)) (s:Af) (σ:St) (H:Hp) (x y:V) (v u:Ac) (Q:VK),Inv X dt σ H s→c4 x v→c4 y u→r x y H Q→
  wpAny (model X.prog X.w) X.A (f v u) (EP X dt σ Q) X.xe s
def fJ(X:Cx)(f:Ac)(r:List V→Hp→VK→Prop):Prop:=
 ∀(dt:List (Ah×Obj)) (s:Af) (σ:St) (H:Hp) (xs:List V) (us:List Ac) (Q:VK),Inv X dt σ H s→cW xs us→r xs H Q→
  wpAny (model X.prog X.w) X.A (call f us) (EP X dt σ Q) X.xe s
def tOp(r:R2)(ta tb:TE):TE:=fun σ H Q=>ta σ H fun x H1=>tb σ H1 fun y H2=>r x y H2 Q
inductive aIF(C:Int→Int→Prop)(g:Int→Int→V)(x:V)(y:V)(H:Hp)(Q:VK):Prop
 | mk (i:_) (j:_) (q0:x=.int i) (q1:y=.int j) (q2:C i j) (q3:Q (g i j) H):aIF C g x y H Q
def rI(C:Int→Int→Prop)(g:Int→Int→V):R2:=fun x y H Q=>aIF C g x y H Q
inductive aGV(g:Int→Int→V)(x:V)(y:V)(H:Hp)(Q:VK):Prop
 | mk (i:_) (j:_) (q0:x=.int i) (q1:y=.int j) (q2:Q (g i j) H):aGV g x y H Q
def rI0(g:Int→Int→V):R2:=fun x y H Q=>aGV g x y H Q
section
variable{X:Cx}{a b c:Br}{ta tb tc:TE}{pos:Pos}
theorem aHw(ha:PE X a ta)(W:PE X b tb){dt:List (Ah×Obj)}{s:Af}{σ:St}{H:Hp}{R:V→V→Hp→Prop}(I:Inv X dt σ H s)
  (h:ta σ H fun x H1=>tb σ H1 fun y H2=>R x y H2) {Q:Ac→Af→Prop} {f:Ac→Ac→Sem Ac}
  (hf:∀ v u q x y H2,Inv X dt σ H2 q→c4 x v→c4 y u→R x y H2→wpAny (model X.prog X.w) X.A (f v u) Q X.xe q):
  wpAny (model X.prog X.w) X.A (eval a X.env) (fun v M=>wpAny (model X.prog X.w) X.A (eval b X.env) (fun u J=>wpAny (model X.prog X.w) X.A (f v u) Q X.xe J) X.xe M) X.xe s:=by
 refine thn (ha dt s σ H _ I h) fun v B ⟨x,H1,F,U,z⟩=>?_;refine thn (W dt B σ H1 _ F z) fun u q ⟨y,H2,Y,O,Z⟩=>?_;exact hf v u q x y H2 Y U O Z
theorem b8{op:Operator}{r:R2}(z:OpR X (binaryOp op) r)(ha:PE X a ta)(J:PE X b tb):PE X (.BinOp a op b pos) (tOp r ta tb):=by
 constructor;intro dt s σ H Q I h;exact wpAny_BinOp (aHw ha J I h fun v u F x y H2 M O B q=>z dt F σ H2 x y v u Q M O B q)
theorem opI{f:Ac→Ac→Sem Ac}{C:Int→Int→Prop}{g:Int→Int→Int}
  (z:∀(i j:Int) (t u:Tok) (s:Af) (Q:Ac→Af→Prop) (E:Ac→Af→Prop),C i j→Q (.int (g i j) s.toks) { s with toks:=s.toks + 1 }→wpAny (model X.prog X.w) X.A (f (.int i t) (.int j u)) Q E s):
  OpR X f (rI C fun i j=>.int (g i j)):=by
 intro dt s σ H x y v u Q I F B h;obtain⟨i,j,rfl,rfl,hc,q⟩:=h;obtain⟨t,rfl⟩:=F;obtain⟨t',rfl⟩:=B;exact z i j t t' s _ _ hc ⟨.int (g i j),H,I.tok _,⟨_,rfl⟩,q⟩
theorem aIG{f:Ac→Ac→Sem Ac}{g:Int→Int→Int}
  (z:∀(i j:Int) (t u:Tok) (s:Af) (Q:Ac→Af→Prop) (E:Ac→Af→Prop),Q (.int (g i j) s.toks) { s with toks:=s.toks + 1 }→wpAny (model X.prog X.w) X.A (f (.int i t) (.int j u)) Q E s):
  OpR X f (rI0 fun i j=>.int (g i j)):=by
 intro dt s σ H x y v u Q I F B h;obtain⟨i,j,rfl,rfl,q⟩:=h;obtain⟨t,rfl⟩:=F;obtain⟨t',rfl⟩:=B;exact z i j t t' s _ _ ⟨.int (g i j),H,I.tok _,⟨_,rfl⟩,q⟩
theorem aFV{f:Ac→Ac→Sem Ac}{g:Int→Int→Bool}
  (z:∀(i j:Int) (t u:Tok) (s:Af) (Q:Ac→Af→Prop) (E:Ac→Af→Prop),Q (.bool (g i j)) s→wpAny (model X.prog X.w) X.A (f (.int i t) (.int j u)) Q E s):
  OpR X f (rI0 fun i j=>.bl (g i j)):=by
 intro dt s σ H x y v u Q I F B h;obtain⟨i,j,rfl,rfl,q⟩:=h;obtain⟨t,rfl⟩:=F;obtain⟨t',rfl⟩:=B;exact z i j t t' s _ _ ⟨.bl (g i j),H,I,rfl,q⟩
def aJC(i j:Int):Prop:=0 < j∧j < 1073741824
def aHx(i j:Int):Prop:=0≤j∧j≤1000000∧i.natAbs < 2 ^ 64
def aHy(i j:Int):Prop:=(-(2 ^ 64) < i∧i < 2 ^ 64)∨(-(2 ^ 64) < j∧j < 2 ^ 64)
theorem aHy.ok{i j:Int}(h:aHy i j):IntMulOk i j:=by
 rcases h with⟨h1,h2⟩ | ⟨h1,h2⟩
 ·exact .of_left (intBits_le_64 h1 h2)
 ·exact .of_right (intBits_le_64 h1 h2)
theorem dR:OpR X (binaryOp .Add) (rI0 fun i j=>.int (i + j)):=aIG fun _ _ _ _ _ _ _ q=>add_int q
theorem jW:OpR X (binaryOp .Sub) (rI0 fun i j=>.int (i - j)):=aIG fun _ _ _ _ _ _ _ q=>sub_int q
theorem lJ:OpR X (binaryOp .Mult) (rI aHy fun i j=>.int (i * j)):=opI fun _ _ _ _ _ _ _ hc q=>mul_int q hc.ok
theorem aB0:OpR X (binaryOp .FloorDiv) (rI aJC fun i j=>.int (i / j)):=opI fun i j _ _ _ _ _ hc q=>by
 have h1:(0:Int) < j:=hc.1;have h2:j < 1073741824:=hc.2;exact floordiv_int (by omega) (by rw[Int.fdiv_eq_ediv_of_nonneg i (by omega)];exact q) (.inl (PyProof.noPylong_small (by omega)))
theorem gC:OpR X (binaryOp .Mod) (rI (fun _ j=>0 < j) fun i j=>.int (i % j)):=opI fun i j _ _ _ _ _ hc q=>by
 have h1:(0:Int) < j:=hc;exact mod_int' (by omega) (by rw[Int.fmod_eq_emod_of_nonneg i (by omega)];exact q)
theorem jX:OpR X (binaryOp .Pow) (rI aHx fun i j=>.int (i ^ j.toNat)):=opI fun _ _ _ _ _ _ _ hc q=>pow_int_small hc.1 hc.2.1 hc.2.2 q
end
def aIH:V→V→Bool
 | .non,.non=>true | .non,.int _=>true | .int _,.non=>true | .non,.bl _=>true | .bl _,.non=>true | .non,.str _=>true | .str _,.non=>true
 | .int _,.int _=>true | .bl _,.bl _=>true | .str _,.str _=>true | .byt _,.byt _=>true
 | .int _,.str _=>true | .str _,.int _=>true | .bl _,.str _=>true | .str _,.bl _=>true
 | _,_=>false
def rEq:R2:=fun x y H Q=>aIH x y=true∧Q (.bl (decide (x=y))) H
def rNe:R2:=fun x y H Q=>aIH x y=true∧Q (.bl (!decide (x=y))) H
theorem aB1{i j:Int}:decide (V.int i=V.int j)=(i == j):=by
 rw[Cm];simp
theorem aD7{i j:Bool}:decide (V.bl i=V.bl j)=(i == j):=by
 rw[Cm];simp
theorem aB2{i j:Str}:decide (V.str i=V.str j)=(i == j):=by
 rw[Cm];simp
theorem aB3{i j:Array UInt8}:decide (V.byt i=V.byt j)=(i.toList == j.toList):=by
 rw[Cm];cases i;cases j;simp
section
variable{X:Cx}{a b c:Br}{ta tb tc:TE}{pos:Pos}
theorem dC{dt:List (Ah×Obj)}{σ:St}{H:Hp}{s:Af}{Q:VK}{k z:Bool}(I:Inv X dt σ H s)(q:Q (.bl k) H)(e:k=z):EP X dt σ Q (.bool z) s:=by
 subst e;exact⟨.bl k,H,I,rfl,q⟩
theorem eI:OpR X (compareOp .Eq) rEq:=by
 intro dt s σ H x y v u Q I B z h;obtain⟨hs,q⟩:=h;cases x with
 | non=>
  cases B;cases y with
  | non=>cases z;exact PySem.EqNone.eq_none_none (dC I q (by simp))
  | bl j=>cases z;exact PySem.EqNone.eq_none_bool (dC I q (by simp))
  | int j=>obtain⟨t',rfl⟩:=z;exact PySem.EqNone.eq_none_int (dC I q (by simp))
  | str j=>obtain⟨t',rfl⟩:=z;exact PySem.EqNone.eq_none_str (dC I q (by simp))
  | _=>exact absurd (show false=true from hs) AA
 | bl i=>
  cases B;cases y with
  | non=>cases z;exact PySem.EqNone.eq_bool_none (dC I q (by simp))
  | bl j=>cases z;exact eq_bool (dC I q aD7)
  | str j=>obtain⟨t',rfl⟩:=z;exact PySem.EqMixed.eq_bool_str (dC I q (by simp))
  | _=>exact absurd (show false=true from hs) AA
 | int i=>
  obtain⟨t,rfl⟩:=B;cases y with
  | non=>cases z;exact PySem.EqNone.eq_int_none (dC I q (by simp))
  | int j=>obtain⟨t',rfl⟩:=z;exact eq_int (dC I q aB1)
  | str j=>obtain⟨t',rfl⟩:=z;exact PySem.EqMixed.eq_int_str (dC I q (by simp))
  | _=>exact absurd (show false=true from hs) AA
 | str i=>
  obtain⟨t,rfl⟩:=B;cases y with
  | non=>cases z;exact PySem.EqNone.eq_str_none (dC I q (by simp))
  | bl j=>cases z;exact PySem.EqMixed.eq_str_bool (dC I q (by simp))
  | int j=>obtain⟨t',rfl⟩:=z;exact PySem.EqMixed.eq_str_int (dC I q (by simp))
  | str j=>obtain⟨t',rfl⟩:=z;exact eq_str (dC I q aB2)
  | _=>exact absurd (show false=true from hs) AA
 | byt i=>
  obtain⟨t,rfl⟩:=B;cases y with
  | byt j=>obtain⟨t',rfl⟩:=z;exact PySem.W.eq_bytes (dC I q aB3)
  | _=>exact absurd (show false=true from hs) AA
 | _=>cases y <;> exact absurd (show false=true from hs) AA
theorem sV:OpR X (compareOp .NotEq) rNe:=by
 intro dt s σ H x y v u Q I B z h;obtain⟨hs,q⟩:=h;cases x with
 | non=>
  cases B;cases y with
  | non=>cases z;exact PySem.EqNone.ne_none_none (dC I q (by simp))
  | bl j=>cases z;exact PySem.EqNone.ne_none_bool (dC I q (by simp))
  | int j=>obtain⟨t',rfl⟩:=z;exact PySem.EqNone.ne_none_int (dC I q (by simp))
  | str j=>obtain⟨t',rfl⟩:=z;exact PySem.EqNone.ne_none_str (dC I q (by simp))
  | _=>exact absurd (show false=true from hs) AA
 | bl i=>
  cases B;cases y with
  | non=>cases z;exact PySem.EqNone.ne_bool_none (dC I q (by simp))
  | bl j=>cases z;exact ne_bool (dC I q (congrArg not aD7))
  | str j=>obtain⟨t',rfl⟩:=z;exact PySem.EqMixed.ne_bool_str (dC I q (by simp))
  | _=>exact absurd (show false=true from hs) AA
 | int i=>
  obtain⟨t,rfl⟩:=B;cases y with
  | non=>cases z;exact PySem.EqNone.ne_int_none (dC I q (by simp))
  | int j=>obtain⟨t',rfl⟩:=z;exact ne_int (dC I q (congrArg not aB1))
  | str j=>obtain⟨t',rfl⟩:=z;exact PySem.EqMixed.ne_int_str (dC I q (by simp))
  | _=>exact absurd (show false=true from hs) AA
 | str i=>
  obtain⟨t,rfl⟩:=B;cases y with
  | non=>cases z;exact PySem.EqNone.ne_str_none (dC I q (by simp))
  | bl j=>cases z;exact PySem.EqMixed.ne_str_bool (dC I q (by simp))
  | int j=>obtain⟨t',rfl⟩:=z;exact PySem.EqMixed.ne_str_int (dC I q (by simp))
  | str j=>obtain⟨t',rfl⟩:=z;exact ne_str (dC I q (congrArg not aB2))
  | _=>exact absurd (show false=true from hs) AA
 | byt i=>
  obtain⟨t,rfl⟩:=B;cases y with
  | byt j=>obtain⟨t',rfl⟩:=z;exact PySem.W.ne_bytes (dC I q (congrArg not aB3))
  | _=>exact absurd (show false=true from hs) AA
 | _=>cases y <;> exact absurd (show false=true from hs) AA
theorem aGW:OpR X (compareOp .Lt) (rI0 fun i j=>.bl (decide (i < j))):=aFV fun _ _ _ _ _ _ _ q=>lt_int q
theorem nX:OpR X (compareOp .LtE) (rI0 fun i j=>.bl (decide (i≤j))):=aFV fun _ _ _ _ _ _ _ q=>le_int q
theorem v4:OpR X (compareOp .Gt) (rI0 fun i j=>.bl (decide (j < i))):=aFV fun _ _ _ _ _ _ _ q=>gt_int q
theorem aGX:OpR X (compareOp .GtE) (rI0 fun i j=>.bl (decide (j≤i))):=aFV fun _ _ _ _ _ _ _ q=>ge_int q
theorem aFW:OpR X (compareOp .IsNot) (fun x y H Q=>y=.non∧Q (.bl (!decide (x=.non))) H):=by
 intro dt s σ H x y v u Q I z B h;obtain⟨rfl,q⟩:=h;cases B;refine isnot_none_gen (dC I q ?_);cases x <;> first
  | (cases z;rfl)
  | (obtain⟨t,rfl⟩:=z;rfl)
theorem cI(b:Br){op:Hi}(h:op≠.In:=by decide)(h2:op≠.NotIn:=by decide):behindInMarks op b=false:=by
 have q:(op == CmpOp.In)=false:=by cases op <;> first | rfl | exact absurd rfl h
 have z:(op == CmpOp.NotIn)=false:=by cases op <;> first | rfl | exact absurd rfl h2
 cases b <;> simp[behindInMarks,q,z]
theorem f7{op:Hi}{r:R2}(z:OpR X (compareOp op) r)(ha:PE X a ta)(J:PE X b tb)(hm:behindInMarks op b=false):PE X (.Compare a [op] [b] pos) (tOp r ta tb):=by
 constructor;intro dt s σ H Q I h;exact wpAny_Compare1 (aHw ha J I h fun v u F x y H2 M O B q=>z dt F σ H2 x y v u Q M O B q) hm
def aGY(t:TE):TT:=fun σ H Q=>t σ H fun x H'=>As V.bl x fun k=>Q k H'
theorem bY{op:Hi}{r:R2}(M:OpR X (compareOp op) r)(ha:PE X a ta)(hb:PE X b tb)(hm:behindInMarks op b=false):PT X (.Compare a [op] [b] pos) (aGY (tOp r ta tb)):=by
 constructor;intro dt s σ H Q I h;refine wpAny_isTrue_Compare1 (thn (ha dt s σ H _ I h) fun v O ⟨x,H1,U,Z,q⟩=>thn (hb dt O σ H1 _ U q) fun u Y ⟨y,H2,I2,W,q2⟩=>
  thn (M dt Y σ H2 x y v u _ I2 Z W q2) fun c s3 ⟨z,F,I3,J,k,e,B⟩=>?_) hm
 subst e;cases J;exact CH ⟨F,I3,B⟩
def aD8(r r':R2)(ta tb tc:TE):TE:=fun σ H Q=>ta σ H fun x H1=>tb σ H1 fun y H2=>r x y H2 fun z H3=>As V.bl z fun k=>
 (if k=true then tc σ H3 fun w' H4=>r' y w' H4 Q else Q (.bl false) H3)
theorem sW{op q:Hi}{r O:R2}(Z:OpR X (compareOp op) r)(B:OpR X (compareOp q) O)(ha:PE X a ta)(hb:PE X b tb)(hc:PE X c tc)
  (hm:lastMarks [op,q] [b,c]=false:=by with_unfolding_all rfl):PE X (.Compare a [op,q] [b,c] pos) (aD8 r O ta tb tc):=by
 constructor;intro dt s σ H Q I h;refine Compare_chain (thn (ha dt s σ H _ I h) fun v s1 ⟨x,H1,I1,r1,W⟩=>chain_link (thn (hb dt s1 σ H1 _ I1 W) fun u s2 ⟨y,H2,I2,M,q2⟩=>
  thn (Z dt s2 σ H2 x y v u _ I2 r1 M q2) fun d s3 ⟨z,J,U,Y,k,e,F⟩=>?_)) hm
 subst e;cases Y;refine CH ?_;cases k with
 | false=>exact ite_ff ⟨.bl false,J,U,rfl,F⟩
 | true=>exact ite_tt (chain_last (thn (hc dt s3 σ J _ U F) fun w' s4 ⟨z',H4,I4,r4,q4⟩=>B dt s4 σ H4 y z' u w' Q I4 M r4 q4))
theorem sZ{op q:Hi}{r O:R2}(ho:OpR X (compareOp op) r)(B:OpR X (compareOp q) O)(ha:PE X a ta)(hb:PE X b tb)(hc:PE X c tc)
  (hm:lastMarks [op,q] [b,c]=false:=by with_unfolding_all rfl):PT X (.Compare a [op,q] [b,c] pos) (aGY (aD8 r O ta tb tc)):=by
 constructor;intro dt s σ H Q I h;refine isTrue_chain (thn (ha dt s σ H _ I h) fun v s1 ⟨x,H1,I1,r1,Y⟩=>test_link (thn (hb dt s1 σ H1 _ I1 Y) fun u s2 ⟨y,H2,I2,M,q2⟩=>
  thn (ho dt s2 σ H2 x y v u _ I2 r1 M q2) fun d s3 ⟨z,J,U,r3,k,e,F⟩=>?_)) hm
 subst e;cases r3;refine CH ?_;cases k with
 | false=>
  obtain⟨k',e',q'⟩:=F;cases e';exact ite_ff ⟨J,U,q'⟩
 | true=>
  refine ite_tt (test_last (thn (hc dt s3 σ J _ U F) fun w' s4 ⟨z',H4,I4,r4,q4⟩=>thn (B dt s4 σ H4 y z' u w' _ I4 M r4 q4) fun d' s5 ⟨z2,H5,I5,W,k2,e2,Z⟩=>?_));subst e2;cases W;exact CH ⟨H5,I5,Z⟩
theorem p4:(sizeLine:Nat) < 2 ^ 63:=by rw[Fw];decide
inductive mS(x:V)(y:V)(H:Hp)(Q:VK):Prop
 | mk (i:_) (j:_) (q0:x=.str i) (q1:y=.str j) (q2:i.length + j.length≤sizeLine) (q3:Q (.str (i ++ j)) H):mS x y H Q
def xY:V→V→Hp→VK→Prop:=fun x y H Q=>mS x y H Q
theorem lM:OpR X (binaryOp .Add) xY:=by
 intro dt s σ H x y v u Q I F B h;obtain⟨i,j,rfl,rfl,hz,q⟩:=h;obtain⟨t,rfl⟩:=F;obtain⟨z,rfl⟩:=B;exact add_str (fun z tk=>⟨.str (i ++ j),H,I.tok _,⟨_,rfl⟩,q⟩) hz
theorem fM{x:V}{us:List Ac}(r:cW [x] us):∃ u,us=[u]∧c4 x u:=by
 cases r with
 | cons z q=>cases q;exact⟨_,rfl,z⟩
theorem aD9{x y:V}{us:List Ac}(r:cW [x,y] us):∃ u q,us=[u,q]∧c4 x u∧c4 y q:=by
 cases r with
 | cons J B=>
  cases B with
  | cons F z=>cases z;exact⟨_,_,rfl,J,F⟩
inductive oW(xs:List V)(H:Hp)(Q:VK):Prop
 | mk (i:_) (q0:xs=[.int i]) (q1:Q (.int (if i < 0 then -i else i)) H):oW xs H Q
def aA6:List V→Hp→VK→Prop:=fun xs H Q=>oW xs H Q
theorem tD:fJ X (.builtin "abs") aA6:=by
 intro dt s σ H xs us Q I r h;obtain⟨i,rfl,q⟩:=h;obtain⟨u,rfl,t,rfl⟩:=fM r;exact call_abs_int fun u tk=>⟨.int (if i < 0 then -i else i),H,I.tok _,⟨_,rfl⟩,q⟩
inductive nY(xs:List V)(H:Hp)(Q:VK):Prop
 | mk (i:_) (j:_) (q0:xs=[.int i,.int j]) (q1:Q (.int (if j < i then j else i)) H):nY xs H Q
def zF:List V→Hp→VK→Prop:=fun xs H Q=>nY xs H Q
theorem v5(hc:X.calm=true):fJ X (.builtin "min") zF:=by
 intro dt s σ H xs us Q I r h;obtain⟨i,j,rfl,q⟩:=h;obtain⟨u,w',rfl,⟨t,rfl⟩,⟨t',rfl⟩⟩:=aD9 r;refine min_two_ints (I.ok.hd hc) fun h' tk k=>⟨_,H,I.kept k,?_,q⟩
 by_cases z:j < i
 ·rw[Ib z,Ib z];exact⟨_,rfl⟩
 ·rw[Ia z,Ia z];exact⟨_,rfl⟩
theorem aC7:fJ X (.type "int") (fun xs H Q=>(∃ i,xs=[.int i]∧Q (.int i) H)∨∃ k,xs=[.bl k]∧Q (.int (if k then 1 else 0)) H):=by
 intro dt s σ H xs us Q I r h;rcases h with⟨i,rfl,q⟩ | ⟨k,rfl,q⟩
 ·obtain⟨u,rfl,t,rfl⟩:=fM r;exact call_int_int ⟨.int i,H,I,⟨_,rfl⟩,q⟩
 ·obtain⟨u,rfl,r1⟩:=fM r;cases r1;exact call_int_bool ⟨.int (if k then 1 else 0),H,I.tok _,⟨_,rfl⟩,q⟩
end
structure aHz(h:Bm)(x dx C:Ah)(mA:Str→Option Ac):Prop where
 obj:h.get? x=some (FE C dx)
 ns:h.Ns1 dx mA
 ne:dx≠x
theorem aC8{h:Bm}{dx:Ah}{mA:Str→Option Ac}(n:h.Ns1 dx mA):∃ od,h.get? dx=some od∧∀ name,FZ name od=some (mA name):=by
 obtain⟨o,es,ep,ho,hd,hk,_,hm⟩:=n;refine⟨o,ho,fun name=>?_⟩;have e:=hm name;unfold nsFind findBy at e;rw[← Array.find?_toList]at e;unfold FZ;rw[hd];dsimp only;split
 ·rename_i y q;rw[q]at e;exact congrArg some e
 ·rename_i q;rw[q]at e;have a:es.toList.any (·.refKey)=false:=by
   rw[List.any_eq_false];intro y B;obtain⟨z,t,hkey⟩:=hk y (Array.mem_toList_iff.mp B);simp[DictEntry.refKey,hkey]
  have a':¬ es.toList.any (·.refKey)=true:=by rw[a];exact AA
  rw[Ia a'];exact congrArg some e
theorem aHz.look{h:Bm}{x dx C:Ah}{mA:Str→Option Ac}(I:aHz h x dx C mA):∃ od,PySem.W.InstAt h x (FE C dx) C (some od)∧∀ name,FZ name od=some (mA name):=
 let ⟨od,ho,hl⟩:=aC8 I.ns
 ⟨od,⟨I.obj,rfl,rfl,ho⟩,hl⟩
section
variable{prog:AD}{w:AY}{A:AU}{E:Ac→Af→Prop}{s:Af}{K:Ai}{x dx C f:Ah}{mA:Str→Option Ac}{name:Str}{v:Ac}
end
theorem nV.some_of{v:V}{o:Option Ac}(r:nV (some v) o):∃ u,o=some u∧c4 v u:=by
 cases o with
 | none=>exact(show False from r).elim
 | some u=>exact⟨u,rfl,r⟩
section
variable{P:AD}{w:AY}{H H':Hp}{h h':Bm}{a C dx:Ah}{fs fs':List (Str×V)}
theorem aB4(hok:HOk P w H h)(e:H a=some (.ins C dx fs)):∃ mA,aHz h a dx C mA∧(∀ f,nV (fs.lookup f) (mA f))∧PySem.Within mA (fs.map (·.1))∧fs.length≤1000∧H dx=some (.own a):=by
 obtain⟨d,z,ne,ob,mA,n,r,q⟩:=(show dA P w H h a (.ins C dx fs) from hok a _ e)
 exact⟨mA,⟨ob,n,ne⟩,r,q,z,d⟩
end
structure Cls(K:Ai)(C:Ah):Prop where
 pg:PySem.W.plainGet K C Str.empty=true
 hd:PySem.W.hasDictIn K C=true
 po:PySem.W.plainOver K C=true
 sa:Ej K (.ref C) "__setattr__"=some (some (.builtin "object.__setattr__"))
theorem Cls.get{K:Ai}{C:Ah}(c:Cls K C)(f:Str):PySem.W.plainGet K C f=true:=c.pg
structure Con(K:Ai)(C:Ah)(f:Str)(v:V)(u:Ac):Prop where
 at_:Ej K (.ref C) f=some (some u)
 rel:c4 v u
 get:PySem.W.specialIn K u "__get__"=some none
 cp:PySem.W.copiedNames.contains f=false
structure aKd(K:Ai)(C:Ah)(m:Str)(f:Ah):Prop where
 at_:Ej K (.ref C) m=some (some (.ref f))
 fn:PySem.W.isFn K (.ref f)=true
 kp:Al K (.ref f)=true
section
variable{X:Cx}{dt:List (Ah×Obj)}{σ:St}{H:Hp}{s:Af}{a C dx:Ah}{fs:List (Str×V)}{f:Str}{v:V}{A:AU}{E:Ac→Af→Prop}
end
section
variable{X:Cx}{o e value:Br}{f:Str}{pos fq tpos:Pos}{ta tv:TE}
end
section
variable{X:Cx}{dt:List (Ah×Obj)}{σ:St}{H:Hp}{s:Af}{A:AU}{E:Ac→Af→Prop}{Q:Ac→Af→Prop}{c:Ac}{b:Bool}
inductive i6(K:Ai)(H:Hp):V→Ac→Prop where
 | non:i6 K H .non (.type "NoneType")
 | bl (x:Bool):i6 K H (.bl x) (.type "bool")
 | int (i:Int):i6 K H (.int i) (.type "int")
 | str (x:Str):i6 K H (.str x) (.type "str")
 | flt (x:UInt64):i6 K H (.flt x) (.type "float")
 | lst {a:Ah} {xs:List V} (e:H a=some (.lst xs)):i6 K H (.ref a) (.type "list")
 | frz {a:Ah} {o:Obj} {xs:List V} (e:H a=some (.frz o (.lst xs))):i6 K H (.ref a) (.type "list")
 | tup {a:Ah} {xs:List V} (e:H a=some (.tup xs)):i6 K H (.ref a) (.type "tuple")
 | dK {a:Ah} {fc:List (Key×V)} (e:H a=some (.dK fc)):i6 K H (.ref a) (.type "dict")
 | dT {a:Ah} {fc:List (List Key×V)} (e:H a=some (.dT fc)):i6 K H (.ref a) (.type "dict")
 | ins {a C dx:Ah} {fs:List (Str×V)} (e:H a=some (.ins C dx fs)) (cl:Cls K C) (ha:Ej K (.ref C) "__class__"=some (some (.builtin "object.__class__")))
   (hn:PySem.W.specialIn K (.builtin "object.__class__") "__get__"=some (some (.builtin "getset_descriptor.__get__"))) (htk:PySem.W.takesIn K (.builtin "object.__class__")=some true)
   (hm:PySem.W.mroIn K C (.type "object")=some true):i6 K H (.ref a) (.ref C)
theorem aC9{x:V}{u t:Ac}(I:Inv X dt σ H s)(B:c4 x u)(ty:i6 X.K H x t)(e:BW X.K t c=some b)(h:∀ tk,Q (.bool b) { s with toks:=tk }):
  wpAny (model X.prog X.w) A (call (.builtin "isinstance") [u,c]) Q E s:=by
 cases ty with
 | non=>cases(show u=Cd from B);exact Cb PySem.W.kitx_none I.kIn Ce e (fun z=>nomatch z) h
 | bl y=>cases(show u=Fo y from B);exact Cb PySem.W.kitx_bool I.kIn Ce e (fun z=>nomatch z) h
 | int i=>obtain⟨t,q⟩:=(show∃ t,u=Cg i t from B);cases q;exact Cb PySem.W.kitx_int I.kIn Ce e (fun z=>nomatch z) h
 | str y=>obtain⟨t,q⟩:=(show∃ t,u=By y t from B);cases q;exact Cb PySem.W.kitx_str I.kIn Ce e (fun z=>nomatch z) h
 | flt y=>obtain⟨t,q⟩:=(show∃ t,u=Gy y t from B);cases q;exact Cb PySem.W.kitx_float I.kIn Ce e (fun z=>nomatch z) h
 | @lst a xs F=>
  cases(show u=AI a from B);obtain⟨_,_,n,_,h1⟩:=(show dA X.prog X.w H s.heap a (.lst xs) from I.hok a _ F)
  exact Cb Es I.kIn ⟨_,h1,rfl⟩ e (fun z=>nomatch z) h
 | @frz a ob xs F=>
  cases(show u=AI a from B);obtain⟨_,_,_,n,_,h1⟩:=(show dA X.prog X.w H s.heap a (.frz ob (.lst xs)) from I.hok a _ F)
  exact Cb Es I.kIn ⟨_,h1,rfl⟩ e (fun z=>nomatch z) h
 | @tup a xs F=>
  cases(show u=AI a from B);obtain⟨_,_,_,p⟩:=(show dA X.prog X.w H s.heap a (.tup xs) from I.hok a _ F)
  obtain⟨o,h1,h2,_⟩:=p;exact Cb PySem.W.kitx_tuple I.kIn ⟨o,h1,h2.1⟩ e (fun z=>nomatch z) h
 | @dK a fc F=>
  cases(show u=AI a from B);obtain⟨_,_,vs,_,p⟩:=(show dA X.prog X.w H s.heap a (.dK fc) from I.hok a _ F)
  obtain⟨o,es,ep,h1,h2,_⟩:=p;exact Cb Et I.kIn ⟨o,h1,h2.1⟩ e (fun z=>nomatch z) h
 | @dT a fc F=>
  cases(show u=AI a from B);obtain⟨_,_,xs,_,o,es,ep,h1,h2,_⟩:=(show dA X.prog X.w H s.heap a (.dT fc) from I.hok a _ F)
  exact Cb Et I.kIn ⟨o,h1,h2.1⟩ e (fun z=>nomatch z) h
 | @ins a C dx fs F U ha hn M hm=>
  cases(show u=AI a from B);obtain⟨mA,O,_⟩:=aB4 I.hok F;obtain⟨od,J,_⟩:=O.look;exact Cb (PySem.W.kitx_own (U.get _) U.hd ha hn M hm) I.kIn J e (fun z=>nomatch z) h
end
structure cS(k:Nat)(A:AU):Prop where
 hd:A.handled=none
 dp:A.depth + 3 * k + 5 < recursionLimit
 un:A.units + 16 * k + 200 < cLine
 gd:A.guards=some []
theorem cS.mono{j k:Nat}{A:AU}(r:cS k A)(h:j≤k):cS j A:=⟨r.hd,by have:=r.dp;omega,by have:=r.un;omega,r.gd⟩
theorem cS.deeper{k:Nat}{A:AU}(r:cS (k + 1) A)(env:Env):cS k (A.deeper env):=
 ⟨r.hd,by have:=r.dp;show A.depth + 1 + 3 * k + 5 < _;omega,by have:=r.un;show A.units + 3 + 16 * k + 200 < _;omega,r.gd⟩
theorem cS.in1{k:Nat}{A:AU}(r:cS (k + 1) A):cS k A.in1:=
 ⟨r.hd,by have:=r.dp;show A.depth + 3 * k + 5 < _;omega,by have:=r.un;show A.units + 1 + 16 * k + 200 < _;omega,r.gd⟩
theorem cS.depth{k:Nat}{A:AU}(r:cS k A):A.depth < recursionLimit:=by have:=r.dp;omega
theorem cS.units{k:Nat}{A:AU}(r:cS k A):A.units + 64 < cLine:=by have:=r.un;omega
def aHA:TA:=fun _ H Q=>Q [] H
def aB5(ta:TE)(tr:TA):TA:=fun σ H Q=>ta σ H fun x H1=>tr σ H1 fun xs H2=>Q (x :: xs) H2
section
variable{X:Cx}{e:Br}{es:List Br}{te:TE}{t:TA}{pos:Pos}
theorem aF:PA X [] aHA:=⟨fun _ _ _ _ H Q I h=>FB ⟨[],H,I,.nil,h⟩⟩
theorem gO(ha:PE X e te)(J:PA X es t)(z:starEach (e :: es) X.env=(false,eval e X.env) :: starEach es X.env:=by rfl):PA X (e :: es) (aB5 te t):=by
 constructor;intro pos dt s σ H Q I h;rw[z];show wpAny _ _ (spliced ((false,eval e X.env) :: backTo pos (starEach es X.env))) _ _ s;refine DE (thn (ha dt s σ H _ I h) fun u B ⟨x,H1,F,O,q⟩=>?_);exact thn (J pos dt B σ H1 _ F q) fun us Y ⟨xs,H2,U,M,W⟩=>⟨x :: xs,H2,U,.cons O M,W⟩
def aJD(t:TA):TE:=fun σ H Q=>t σ H fun xs H1=>xs.length≤sizeLine∧∀ p,H1 p=none→Q (.ref p) (upd H1 p (.tup xs))
def aJE(t:TA):TE:=fun σ H Q=>t σ H fun xs H1=>xs.length≤sizeLine∧∀ p,H1 p=none→Q (.ref p) (upd H1 p (.lst xs))
theorem c9{x1}(h:PA X es t):PE X (.Tuple es x1 pos) (aJD t):=by
 constructor;intro dt s σ H Q I J;refine wpAny_Tuple_spliced (thn (h pos dt s σ H _ I J) fun us B ⟨xs,H1,F,r,z,q⟩=>⟨by rw[← r.length];exact z,?_⟩);have M:H1 B.heap.objs.size=none:=F.hok.fresh (Ap _);refine⟨.ref B.heap.objs.size,upd H1 B.heap.objs.size (.tup xs),F.laid (t':=B.toks) (fun b u e=>Ag _ e) (Ap _) ?_,rfl,q _ M⟩;exact⟨z,us,r,⟨_,Av _ rfl,⟨rfl,_,rfl⟩,rfl⟩⟩
theorem eV(h:PA X es t):PE X (.List es pos) (aJE t):=by
 constructor;intro dt s σ H Q I J;refine wpAny_List_spliced (thn (h pos dt s σ H _ I J) fun us B ⟨xs,H1,F,r,z,q⟩=>⟨by rw[← r.length];exact z,?_⟩);have M:H1 B.heap.objs.size=none:=F.hok.fresh (Ap _);refine⟨.ref B.heap.objs.size,upd H1 B.heap.objs.size (.lst xs),F.laid (t':=B.toks) (fun b u e=>Ag _ e) (Ap _) ?_,rfl,q _ M⟩;exact⟨z,us,0,r,Av _ rfl⟩
end
abbrev Sp:=List V→Hp→VK→XK→Prop
abbrev CXT:=List Env→Hp→Af→XK→Ac→Af→Prop
structure aEa(P:AD)(w:AY)(K:Ai)(mg:Str→Option Ac)(base:Bm)(A:AU)(outer:List Env)(s:Af)(H:Hp):Prop where
 frames:A.frames=some outer
 mod:Mod K mg base
 bs:∀ b o,base.get? b=some o→s.heap.get? b=some o∧H b=none
 bsz:base.objs.size≤s.heap.objs.size
 funs:s.heap.FunFrames base outer
 frf:∀ b∈frs outer,H b=none
 hok:HOk P w H s.heap
 bare:EE s.gens
inductive aII(outer:List Env)(P:AD)(w:AY)(H:Hp)(s:Af)(Q:VK)(u:Ac)(s':Af):Prop
 | mk (v:_) (H':_) (q0:s'.os=s.os) (q1:EE s'.gens) (q2:Un (frs outer) [] H H' s.heap s'.heap) (q3:HOk P w H' s'.heap) (q4:c4 v u) (q5:Q v H'):aII outer P w H s Q u s'
def CE(outer:List Env)(P:AD)(w:AY)(H:Hp)(s:Af)(Q:VK)(u:Ac)(s':Af):Prop:=aII outer P w H s Q u s'
def CR(CX:CXT)(outer:List Env)(P:AD)(w:AY)(H:Hp)(s:Af)(Q:VK)(E:XK)(r:Result)(s':Af):Prop:=
 match r with
 | .ok (.ret u)=>CE outer P w H s Q u s'
 | .ok _=>False
 | .error e=>CX outer H s E e s'
structure cQ(P:AD)(w:AY)(K:Ai)(mg:Str→Option Ac)(base:Bm)(CX:CXT)(k:Nat)(f:Ah)(fd:AK)(ps:List Str)(sp:Sp):Prop where
 len:∀ vs H Q E,sp vs H Q E→vs.length=ps.length
 run:∀(A:AU) (outer:List Env) (s:Af) (H:Hp) (args:Args) (us:List Ac) (vs:List V) (Q:VK) (E:XK),cS k A→aEa P w K mg base A outer s H→Gf s fd args (ps.zip us)→cW vs us→sp vs H Q E→
  codeAny (model P w) A (.call (.ref f) args) (CR CX outer P w H s Q E) s
section
variable{X:Cx}{dt:List (Ah×Obj)}{σ:St}{H:Hp}{s s':Af}
theorem Inv.env0(I:Inv X dt σ H s):aEa X.prog X.w X.K X.mg X.base X.A X.stack s H:=
 ⟨I.ok.frames,I.ok.mod,I.bs,Bg I.ok.bsz I.sz,I.stack,I.stkFree,I.hok,I.bare⟩
theorem Inv.after{Q:VK}{u:Ac}(I:Inv X dt σ H s)(h:CE X.stack X.prog X.w H s Q u s'):EP X dt σ Q u s':=by
 obtain⟨v,H',os,bare,un,hok,r,q⟩:=h;obtain⟨hh,g,d,t,os'⟩:=s';obtain rfl:os'=s.os:=os;exact⟨v,H',I.call (h':=hh) (g':=g) (d':=d) (t':=t) (ch:=[]) un hok bare (fun b z=>absurd z (by simp)),r,q⟩
end
def aGZ(sp:Sp)(ft:List V)(E:XK)(t:TA):TE:=fun σ H Q=>t σ H fun vs H1=>sp (vs ++ ft) H1 Q E
def dY(K:Ai)(fd:AK)(ps:List Str)(ds:List Ac):Prop:=
 ∀(s:Af) (us:List Ac),K.In s.heap→(us ++ ds).length=ps.length→Gf s fd ⟨us,[]⟩ (ps.zip (us ++ ds))
theorem dY.all{K:Ai}{fd:AK}{ps:List Str}(h:∀ us:List Ac,us.length=ps.length→bindArgs fd ⟨us,[]⟩=pure (ps.zip us)):dY K fd ps []:=fun s us _ q=>by
 rw[CU]at q ⊢;exact .of_eq (h us q)
def aA7(CX:CXT)(X:Cx)(E:XK):Prop:=∀(dt:List (Ah×Obj)) (σ:St) (H:Hp) (s:Af) (e:Ac) (s':Af),Inv X dt σ H s→CX X.stack H s E e s'→X.xe e s'
section
variable{X:Cx}{CX:CXT}{k:Nat}{f C:Ah}{fd:AK}{ps:List Str}{sp:Sp}{ft:List V}{ds:List Ac}{E:XK}{x m:Str}{p pos fh:Pos}{e o:Br}{es:List Br}{ta:TE}{t:TA}
theorem aEb{dt:List (Ah×Obj)}{σ:St}{H:Hp}{s:Af}{Q:VK}{us:List Ac}{vs:List V}(F:cQ X.prog X.w X.K X.mg X.base CX k f fd ps sp)(M:cS k X.A)(O:dY X.K fd ps ds)(hd:cW ft ds)(B:aA7 CX X E)
  (I:Inv X dt σ H s) (r:cW vs us) (h:sp (vs ++ ft) H Q E):wpAny (model X.prog X.w) X.A (call (.ref f) us) (EP X dt σ Q) X.xe s:=by
 have z:cW (vs ++ ft) (us ++ ds):=r.append hd;have U:(us ++ ds).length=ps.length:=by rw[← z.length];exact F.len _ _ _ _ h
 refine Dg (C1 (F.run X.A X.stack s H ⟨us,[]⟩ (us ++ ds) (vs ++ ft) Q E M I.env0 (O s us I.kIn U) z h) fun r s' q=>?_);cases r with
 | error e=>exact B dt σ H s e s' I q
 | ok J=>
  cases J with
  | ret u=>exact I.after q
  | next=>exact CD q
  | brk=>exact CD q
  | cont=>exact CD q
theorem eY(F:cQ X.prog X.w X.K X.mg X.base CX k f fd ps sp)(U:cS k X.A)(O:Gl X x)(hm:X.mg x=some (.ref f))(Y:Al X.K (.ref f)=true)(Z:dY X.K fd ps ds)(hd:cW ft ds)(M:aA7 CX X E)
  (ha:PA X (e :: es) t) (z:(x == ("__debug__":Str))=false:=by decide) (he:starEach (e :: es) X.env=(false,eval e X.env) :: starEach es X.env:=by rfl) (B:(backTo pos (starEach es X.env)).any (·.1)=false:=by rfl):
  PE X (.Call (.Name x p) (e :: es) [] pos) (aGZ sp ft E t):=by
 constructor;intro dt s σ H Q I h;refine DT (aBX I O hm ?_ z);refine PySem.W.callWith_K (h₀:=X.base) I.ok.mod.kin Y (thn (ha pos dt s σ H _ I h) fun us s1 ⟨vs,H1,J,r,q⟩=>⟨J.kIn,?_⟩) he B;exact aEb F U Z hd M J r q
structure Mk(K:Ai)(C f:Ah):Prop where
 makes:PySem.W.makesIn K C=true
 init:Ej K (.ref C) "__init__"=some (some (.ref f))
 fn:PySem.W.isFn K (.ref f)=true
 kp:Al K (.ref C)=true
end
structure PK(X:Cx)(fu:List EC)(t:TA):Prop where
 run:
  ∀(pos:Pos) (dt:List (Ah×Obj)) (s:Af) (σ:St) (H:Hp) (Q:List V→Hp→Prop),Inv X dt σ H s→t σ H Q→wpAny (model X.prog X.w) X.A (evalAll ((backToKw pos (keywordEach fu X.env)).map (·.2))) (AP X dt σ Q) X.xe s
instance{X:Cx}{fu:List EC}{t:TA}:CoeFun (PK X fu t) (fun _=>
 ∀(pos:Pos) (dt:List (Ah×Obj)) (s:Af) (σ:St) (H:Hp) (Q:List V→Hp→Prop),Inv X dt σ H s→t σ H Q→wpAny (model X.prog X.w) X.A (evalAll ((backToKw pos (keywordEach fu X.env)).map (·.2))) (AP X dt σ Q) X.xe s):=⟨fun h=>h.run⟩
section
variable{X:Cx}{CX:CXT}{k:Nat}{f C:Ah}{fd:AK}{ps ks:List Str}{sp:Sp}{E:XK}{x m:Str}{p pos fh kpos:Pos}{e o:Br}{es:List Br}{fu:List EC}{te ta:TE}{t tk:TA}{nm:Option Str}
theorem aHB:PK X [] aHA:=⟨fun _ _ _ _ H Q I h=>wpAny_evalAll_nil ⟨[],H,I,.nil,h⟩⟩
theorem aFX(ha:PE X e te)(F:PK X fu t):PK X (⟨nm,e,kpos⟩ :: fu) (aB5 te t):=by
 constructor;intro pos dt s σ H Q I h;show wpAny _ _ (evalAll ((do let v ← eval e X.env;standAt pos;pure v) :: (backToKw pos (keywordEach fu X.env)).map (·.2))) _ _ s
 refine wpAny_evalAll_cons (Aa (thn (ha dt s σ H _ I h) fun u z ⟨x,H1,B,M,q⟩=>Aa (FO (Ae ?_))));exact thn (F pos dt z σ H1 _ B q) fun us W ⟨xs,H2,O,J,U⟩=>⟨x :: xs,H2,O,.cons M J,U⟩
structure aJF(K:Ai)(fd:AK)(ps ks:List Str)(g:List Ac→List Ac→List Ac)(gV:List V→List V→List V):Prop where
 to:∀(s:Af) (us ws:List Ac),K.In s.heap→(g us ws).length=ps.length→Gf s fd ⟨us,ks.zip ws⟩ (ps.zip (g us ws))
 rel:∀{vs:List V} {us:List Ac} {zs:List V} {ws:List Ac},cW vs us→cW zs ws→cW (gV vs zs) (g us ws)
variable{g:List Ac→List Ac→List Ac}{gV:List V→List V→List V}
end
structure bV(N P:List Str)(sc:DM):Prop where
 kind:sc.kind=.function
 co:sc.isCoroutine=false
 gen:sc.isGenerator=false
 nd:N.Nodup
 pre:N.take P.length=P
 par:∀ x∈P,sc.names.lookup x=some .local∨sc.names.lookup x=some .cell
 nofree:∀ y∈sc.names,y.2≠.free
theorem v6{q:Str→Option Ea}{x:Str}:∀{binds:List (Str×Ac)}{m:Str→Option Ac},(∀ v,(x,v) ∉ binds)→bindL q binds m x=m x
 | [],_,_=>rfl
 | (n,v) :: r,m,h=>by
  unfold bindL;rw[v6 fun w hw=>h w (AJ _ hw)];split
  ·have:x≠n:=by rintro rfl;exact h v AG
   simp[this]
  ·rfl
theorem v7{q:Str→Option Ea}{x:Str}:∀{binds:List (Str×Ac)}{m:Str→Option Ac},(∀ v,(x,v) ∉ binds)→bindC q binds m x=m x
 | [],_,_=>rfl
 | (n,v) :: r,m,h=>by
  unfold bindC;rw[v7 fun w hw=>h w (AJ _ hw)];split
  ·rfl
  ·have:x≠n:=by rintro rfl;exact h v AG
   simp[this]
theorem v8{q:Str→Option Ea}{x:Str}{v:Ac}:∀{P:List Str}{vs:List Ac}{i:Nat}{m:Str→Option Ac},P.Nodup→P[i]?=some x→vs[i]?=some v→q x=some .local→
  bindL q (P.zip vs) m x=some v
 | [],_,_,_,_,h,_,_=>by simp at h
 | _ :: _,[],_,_,_,_,h,_=>by simp at h
 | p :: P,w :: vs,0,m,nd,h1,h2,z=>by
  simp at h1 h2;subst h1;subst h2;show bindL q ((p,w) :: P.zip vs) m p=_;unfold bindL;rw[v6 fun v B=>(CF.mp nd).1 (F6 B).1,Ib z];simp
 | p :: P,w :: vs,i + 1,m,nd,h1,h2,z=>by
  show bindL q ((p,w) :: P.zip vs) m x=_;unfold bindL;exact v8 (i:=i) (CF.mp nd).2 (by simpa using h1) (by simpa using h2) z
theorem v9{q:Str→Option Ea}{x:Str}{v:Ac}:∀{P:List Str}{vs:List Ac}{i:Nat}{m:Str→Option Ac},P.Nodup→P[i]?=some x→vs[i]?=some v→q x≠some .local→
  bindC q (P.zip vs) m x=some v
 | [],_,_,_,_,h,_,_=>by simp at h
 | _ :: _,[],_,_,_,_,h,_=>by simp at h
 | p :: P,w :: vs,0,m,nd,h1,h2,z=>by
  simp at h1 h2;subst h1;subst h2;show bindC q ((p,w) :: P.zip vs) m p=_;unfold bindC;rw[v7 fun v B=>(CF.mp nd).1 (F6 B).1,Ia z];simp
 | p :: P,w :: vs,i + 1,m,nd,h1,h2,z=>by
  show bindC q ((p,w) :: P.zip vs) m x=_;unfold bindC;exact v9 (i:=i) (CF.mp nd).2 (by simpa using h1) (by simpa using h2) z
def start(N:List Str)(vs:List V):St:=vs.map some ++ List.replicate (N.length - vs.length) none
def aDa(CX:CXT)(P:AD)(w:AY)(K:Ai)(mg:Str→Option Ac)(base:Bm)(N:List Str)(qual:Str)(scope:DM)(f:Ah)(cd:Ac)(A:AU)(outer:List Env)(s:Af)(H:Hp)(E:XK):Cx where
 prog:=P
 w:=w
 K:=K
 mg:=mg
 base:=base
 A:=A.deeper (envOfC qual scope s.heap.objs.size f cd)
 N:=N
 s₀:=s
 H₀:=H
 env:=envOfC qual scope s.heap.objs.size f cd
 outer:=outer
 stack:=envOfC qual scope s.heap.objs.size f cd :: outer
 ex:=[]
 calm:=true
 fn:=fun _=>true
 pn:=[]
 xe:=fun e s'=>wpAny (model P w) (A.deeper (envOfC qual scope s.heap.objs.size f cd)) (leaving (envOfC qual scope s.heap.objs.size f cd) e) (fun _ s''=>CX outer H s E e s'') (fun e' s''=>CX outer H s E e' s'') s'
theorem zG{z:DM}{n:Nat}{x:Str}(h:z.names.lookup x=some .cell):∃ c,(cellsFrom n z.names []).lookup x=some c:=by
 have q:=PySem.W.cellsFrom_some z.names n [] (.inl h);exact Option.isSome_iff_exists.mp q
theorem aDb{CX:CXT}{P:AD}{w:AY}{K:Ai}{mg:Str→Option Ac}{base:Bm}{N ps:List Str}{qual:Str}{scope:DM}{f:Ah}{cd:Ac}{A:AU}{outer:List Env}{s U:Af}{H:Hp}{E:XK}{us:List Ac}{vs:List V}
  (S:bV N ps scope) (hd:A.handled=none) (B:aEa P w K mg base A outer s H) (Z:vs.length=ps.length) (r:cW vs us)
  (x:InCallC s s.heap.objs.size (bindL (envOfC qual scope s.heap.objs.size f cd).kindOf (ps.zip us) fun _=>none) (cellsFrom (s.heap.objs.size + 1) scope.names []) (bindC (envOfC qual scope s.heap.objs.size f cd).kindOf (ps.zip us) fun _=>none) U):
  Inv (aDa CX P w K mg base N qual scope f cd A outer s H E) [] (start N vs) H U:=by
 have W:ps.length≤N.length:=by have:=congrArg List.length S.pre;rw[A5]at this;omega
 obtain⟨h1,tk,rfl,hk⟩:=x.done;have J:∀ b:Ah,b ∉ (aDa CX P w K mg base N qual scope f cd A outer s H E).ex:=fun b z=>absurd (show b∈([]:List Ah) from z) (by simp);refine⟨⟨B.mod,S.kind,rfl,rfl,Ap _,fun y z c h1 h2=>?_,fun y F=>?_,fun y c _ h=>?_,fun _=>hd,Around.frames_deeper B.frames,.inr ⟨rfl,rfl⟩,fun b z=>absurd z (J b),B.bs,B.bsz,fun b _ _=>J b,fun b z=>absurd z (J b),B.funs,B.frf⟩,
  rfl,B.bare,Un.kept hk,⟨_,x.toInCall.ns,fun i y v h1 h2 Y=>?_⟩,fun y c h=>⟨_,x.cell y c h⟩,B.hok.fresh (Ap _),fun y c h=>?_,fun p O=>absurd (show p∈([]:List (Ah×Obj)) from O) (by simp),B.hok.kept hk,?_⟩
 ·exact name_of_addr x.apart (Cj h1) (Cj h2)
 ·have F:scope.names.lookup y=some .cell∨scope.names.lookup y=some .free:=F;rcases F with F | F
  ·exact zG F
  ·exact absurd rfl (S.nofree _ (Cj F))
 ·exact Db (x.above y c (Cj h))
 ·have hi:i < vs.length:=by
   unfold start at h2;by_cases hi:i < vs.length
   ·exact hi
   ·rw[BO (by simpa using hi)]at h2;rw[List.getElem?_replicate]at h2;split at h2 <;> cases h2
  have ha:vs[i]?=some v:=by
   unfold start at h2;rw[BU (by simpa using hi),AL]at h2;cases e:vs[i]? with
   | none=>rw[e]at h2;cases h2
   | some a=>rw[e]at h2;cases h2;rfl
  obtain⟨u,hu,rv⟩:=r.get ha;have O:ps[i]?=some y:=by
   rw[← S.pre,List.getElem?_take_of_lt (by omega)];exact h1
  have M:ps.Nodup:=by rw[← S.pre];exact S.nd.sublist (List.take_sublist _ _)
  refine⟨u,rv,?_⟩;rcases S.par y (AR O)with k | k
  ·exact .inl ⟨k,v8 M O hu k⟩
  ·obtain⟨c,e⟩:=zG (n:=s.heap.objs.size + 1) k;refine .inr ⟨.inl k,c,e,?_⟩;have q:=x.cell y c e;rw[v9 M O hu (by show scope.names.lookup y≠_;rw[k];decide)]at q;exact q
 ·exact B.hok.fresh (Db (x.above y c (Cj h)))
 ·unfold start;show _=N.length;rw[AH,Ad,List.length_replicate];omega
theorem aIJ{CX:CXT}{P:AD}{w:AY}{K:Ai}{mg:Str→Option Ac}{base:Bm}{k:Nat}{f:Ah}{name qual:Str}{B:Arguments}{F:List B6}{scope:DM}{dV kV Z pm z ct oc:Ac}{an od:Option Ah}
  {af:Array (Option Ac)} {N ps:List Str} {sp:Sp} (lk:K.lookup f=some ⟨oc,od,.func (Ay name qual B F scope dV kV Z pm an z ct),af⟩) (ae:Ar K z qual=true) (S:bV N ps scope)
  (len:∀ vs H Q E,sp vs H Q E→vs.length=ps.length)
  (O:∀(A:AU) (outer:List Env) (s:Af) (H:Hp) (vs:List V) (Q:VK) (E:XK),cS k (A.deeper (envOfC qual scope s.heap.objs.size f z))→sp vs H Q E→
   ∃ t,PSs (aDa CX P w K mg base N qual scope f z A outer s H E) F t∧t { nx:=fun _ H'=>Q .non H',rt:=Q } (start N vs) H):
  cQ P w K mg base CX (k + 1) f (Ay name qual B F scope dV kV Z pm an z ct) ps sp:=by
 refine⟨len,fun A outer s H ak us vs Q E hr Y hb r aa=>?_⟩;have hl:=len _ _ _ _ aa;have KX:K.In s.heap:=Y.mod.kin.keeps fun b o e=>(Y.bs b o e).1;have ad:s.heap.NoLimit:=Y.mod.nolimit.keeps fun b o e=>(Y.bs b o e).1;have M:∀ y∈ps.zip us,scope.names.lookup y.1=some .local∨(scope.names.lookup y.1=some .cell∧((cellsFrom (s.heap.objs.size + 1) scope.names []).lookup y.1).isSome=true):=fun⟨n,v⟩ hy=>by
  rcases S.par n (F6 hy).1 with q | q
  ·exact .inl q
  ·exact .inr ⟨q,PySem.W.cellsFrom_some _ _ _ (.inl q)⟩
 refine codeAny_call_function hr.depth (KX _ _ lk) rfl S.co S.gen rfl (PySem.W.codeRec_of KX ae) (hb _ _ _ _ ?_);refine wpAny_newFunctionEnv_cells S.kind M fun env he s1 x=>?_;subst he;refine⟨ad.keeps x.toInCall.keep,codeAny_func ?_⟩;obtain⟨t,ht,hq⟩:=O A outer s H vs Q E (hr.deeper _) aa;have I:Inv (aDa CX P w K mg base N qual scope f z A outer s H E) [] (start N vs) H s1:=aDb S hr.hd Y hl r x;refine B8 (ht [] s1 (start N vs) H _ I hq) (fun fl s' U=>?_) fun e s' U=>U;have fin:∀{σ':St} {H':Hp} {v:V} {u:Ac},Inv (aDa CX P w K mg base N qual scope f z A outer s H E) [] σ' H' s'→c4 v u→Q v H'→CE outer P w H s Q u s':=
  fun{σ' H' v u} J rv q=>⟨v,H',J.os,J.bare,J.base,J.hok,rv,q⟩
 cases fl with
 | ret u=>
  obtain⟨v,σ',H',J,rv,q⟩:=U;exact fin J rv q
 | next=>
  obtain⟨σ',H',J,q⟩:=U;exact fin (v:=V.non) (u:=Cd) J rfl q
 | brk=>
  obtain⟨_,_,_,q⟩:=U;exact CD q
 | cont=>
  obtain⟨_,_,_,q⟩:=U;exact CD q
section
variable{X:Cx}{x:Str}{p pos:Pos}{e:Br}{es:List Br}{t:TA}{id T:String}{r:List V→Hp→VK→Prop}
def tCB(r:List V→Hp→VK→Prop)(t:TA):TE:=fun σ H Q=>t σ H fun vs H1=>r vs H1 Q
theorem aW(hc:fJ X (.builtin id) r)(M:Gl X x)(hm:X.mg x=none)(O:bootBuiltins x=some (.builtin id))(ha:PA X (e :: es) t)(hn:x≠"__name__":=by decide)(q:(x == ("__debug__":Str))=false:=by decide)
  (W:starEach (e :: es) X.env=(false,eval e X.env) :: starEach es X.env:=by rfl) (z:(backTo pos (starEach es X.env)).any (·.1)=false:=by rfl):PE X (.Call (.Name x p) (e :: es) [] pos) (tCB r t):=by
 constructor;intro dt s σ H Q I h;refine DT (sU I M hm O ?_ hn q);exact PyProof.Rows.callWith_builtin1 (thn (ha pos dt s σ H _ I h) fun us F ⟨vs,H1,J,U,B⟩=>hc dt F σ H1 vs us Q J U B) W z
theorem cV(hc:fJ X (.type T) r)(M:Gl X x)(hm:X.mg x=none)(O:bootBuiltins x=some (.type T))(ha:PA X (e :: es) t)(hn:x≠"__name__":=by decide)(q:(x == ("__debug__":Str))=false:=by decide)
  (W:starEach (e :: es) X.env=(false,eval e X.env) :: starEach es X.env:=by rfl) (z:(backTo pos (starEach es X.env)).any (·.1)=false:=by rfl):PE X (.Call (.Name x p) (e :: es) [] pos) (tCB r t):=by
 constructor;intro dt s σ H Q I h;refine DT (sU I M hm O ?_ hn q);exact PyProof.Rows.callWith_type1 (thn (ha pos dt s σ H _ I h) fun us F ⟨vs,H1,J,U,B⟩=>hc dt F σ H1 vs us Q J U B) W z
end
end L2
namespace HT
open PySem PyProof.Rows
section
open PySem.SeqAt
open PySem.AutoSeq1 (wpAny_loadPart')
open PySem.MeetsSeq PySem.MeetsSeq2 PySem.MeetsSeq3
end
section
variable{prog:AD}{w:AY}{A:AU}{E:Ac→Af→Prop}{s:Af}
def sIx(n d:Nat):Option Int→Nat
 | none=>d
 | some v=>if v < 0 then(v + (n:Int)).toNat else min v.toNat n
theorem sIx_none(n d:Nat):sIx n d none=d:=rfl
theorem sIx_nat(n d k:Nat):sIx n d (some (k:Int))=min k n:=by
 show(if (k:Int) < 0 then((k:Int) + (n:Int)).toNat else min (k:Int).toNat n)=min k n;rw[Ia (by omega),BL]
theorem aHC(n d:Nat)(hd:d≤n)(o:Option Int):sIx n d o≤n:=by
 cases o with
 | none=>exact hd
 | some v=>
  show(if v < 0 then(v + (n:Int)).toNat else min v.toNat n)≤n;by_cases q:v < 0
  ·rw[Ib q];omega
  ·rw[Ia q];exact F1 _ _
theorem aB6(v:Int)(n d:Nat):(if v < 0 then max (v + (n:Int)) 0 else min v (n:Int))=((sIx n d (some v):Nat):Int):=by
 show(if v < 0 then max (v + (n:Int)) 0 else min v (n:Int))=(((if v < 0 then(v + (n:Int)).toNat else min v.toNat n):Nat):Int)
 by_cases q:v < 0
 ·simp only[Ib q];omega
 ·simp only[Ia q];omega
theorem aA8(lo hi:Option Int)(n:Nat):Eb lo hi 1 (n:Int)=(((sIx n 0 lo:Nat):Int),((sIx n n hi:Nat):Int)):=by
 have h1:¬ ((1:Int) < 0):=by omega
 unfold Eb;simp only[h1,if_false];refine Hj ?_ ?_
 ·cases lo with
  | none=>rfl
  | some v=>exact aB6 v n 0
 ·cases hi with
  | none=>rfl
  | some v=>exact aB6 v n n
theorem aA9(i j:Nat):Dc (i:Int) (j:Int) 1=j - i:=by
 unfold Dc;have h1:(1:Int) > 0:=by omega
 simp only[h1,if_true,Int.ediv_one];split <;> omega
theorem tE{v:Ac}{o:Option Int}{Q:Option Int→Af→Prop}(p:E9 v o)(h:Q o s):wpAny (model prog w) A (Builtin.Slice.slicePartIndex v) Q E s:=by
 cases p with
 | none=>exact slicePart_none h
 | int i t=>exact slicePart_int h
theorem sliceApplied_gen{B:Ah}{z q:Ac}{lo hi:Option Int}{n:Nat}{Q:Int×Int×Nat→Af→Prop}(F:s.heap.IsSliceOf B z q .none)(pl:E9 z lo)(J:E9 q hi)
  (h:Q (((sIx n 0 lo:Nat):Int),1,sIx n n hi - sIx n 0 lo) s):wpAny (model prog w) A (Builtin.Slice.sliceApplied (.ref B) (pure (n:Int))) Q E s:=by
 obtain⟨os,hos,hcs,hds⟩:=id F;unfold Builtin.Slice.sliceApplied Builtin.Slice.sliceFields;refine Aa (Aa (Hf hos hds (x:=z) rfl (Aa (Hf hos hds (x:=q) rfl (Aa (Hf hos hds (x:=.none) rfl (Ae ?_)))))));refine Aa (slicePart_none ?_);show wpAny _ _ (if ((1:Int) == 0)=true then _ else _) _ _ s;rw[Ia (by decide)];refine Aa (tE pl (Aa (tE J (Aa (Ae ?_)))));show wpAny _ _ (match Eb lo hi 1 (n:Int)with | (lo,hi)=>pure (lo,(1:Int),Dc lo hi 1)) _ _ s;rw[aA8 lo hi n];show wpAny _ _ (pure (((sIx n 0 lo:Nat):Int),(1:Int),Dc ((sIx n 0 lo:Nat):Int) ((sIx n n hi:Nat):Int) 1)) _ _ s;rw[aA9];exact Ae h
theorem aEc(xs:Array Ac)(i k:Nat):((AO k).filterMap fun(m:Nat)=>xs[((i:Int) + (m:Int) * 1).toNat]?).toArray=((xs.toList.drop i).take k).toArray:=by
 have e:(fun(m:Nat)=>xs[((i:Int) + (m:Int) * 1).toNat]?)=fun m=>xs[i + m]?:=by
  funext m;have:((i:Int) + (m:Int) * 1).toNat=i + m:=by omega
  rw[this]
 rw[e];have:=pick_run xs i k;rw[List.filterMap_map]at this;have q:((fun x=>xs[x]?) ∘ fun x=>i + x)=fun m=>xs[i + m]?:=rfl;rw[q]at this;rw[this]
theorem getItem_tuple_cut{t F:Ah}{z:Array Ac}{U W:Ac}{lo hi:Option Int}{Q:Ac→Af→Prop}(ht:E2 s.heap t z)(O:s.heap.IsSliceOf F U W .none)(pl:E9 U lo)(Y:E9 W hi)
  (hw:¬ (sIx z.size 0 lo=0∧sIx z.size z.size hi=z.size))
  (h:Q (.ref s.heap.objs.size) { s with heap:=s.heap.push { cls:=.type "tuple",data:=.seq ((z.toList.drop (sIx z.size 0 lo)).take (sIx z.size z.size hi - sIx z.size 0 lo)).toArray } })
  (hsz:z.size≤sizeLine):wpAny (model prog w) A (getItem (.ref t) (.ref F)) Q E s:=by
 have B:sizeOk (.seq ((z.toList.drop (sIx z.size 0 lo)).take (sIx z.size z.size hi - sIx z.size 0 lo)).toArray):=by
  show((z.toList.drop (sIx z.size 0 lo)).take (sIx z.size z.size hi - sIx z.size 0 lo)).toArray.size≤sizeLine;rw[At,A5,D2,Bt];omega
 have hj:sIx z.size z.size hi≤z.size:=aHC _ _ (Ap _) hi;obtain⟨os,hos,hcs,hds⟩:=id O;have J:s.TypeIs (.ref F) "slice":=⟨os,hos,hcs⟩
 unfold getItem
 try with_reducible refine Ba ?_
 first | refine Aa (Ae ?_) | skip
 refine Aa (wpAny_sequenceKey ht.typeIs (by decide) ?_);refine Aa (CI (name:=Bs "__getitem__") ht.typeIs B0
  (B4 B0 ht.typeIs entry_tuple_getitem ?_ (args_tuple_getitem _ _)))
 show wpAny _ _ (Builtin.Tuple.tupleItemsOf (.ref t) >>= _) _ _ s;refine Aa (tupleItemsOf_ ht ?_);refine Aa (BM J ?_);rw[Ib (by decide)];refine Aa (sliceApplied_gen O pl Y ?_);have M:¬ ((((sIx z.size 0 lo:Nat):Int) == 0 && (1:Int) == 1 && (sIx z.size z.size hi - sIx z.size 0 lo) == z.size)=true):=by
  intro q;rw[AF,AF]at q;have Z:((sIx z.size 0 lo:Nat):Int)=0:=eq_of_beq q.1.1;have q2:sIx z.size z.size hi - sIx z.size 0 lo=z.size:=eq_of_beq q.2;exact hw ⟨by omega,by omega⟩
 show wpAny _ _ (if (((sIx z.size 0 lo:Nat):Int) == 0 && (1:Int) == 1 && (sIx z.size z.size hi - sIx z.size 0 lo) == z.size)=true then _ else _) _ _ s;rw[Ia M,aEc]
 first
  | exact Aa (m:=Dh _) (BV (Ae ⟨_,rfl,Ae h⟩) B)
  | exact Aa (m:=Dh _) (BV (Aa (Ae (Ae ⟨_,rfl,Ae h⟩))) B)
  | exact Aa (Aa (m:=Dh _) (BV (Ae (Ae ⟨_,rfl,Ae h⟩)) B))
  | exact Aa (Aa (m:=Dh _) (BV (Ae ⟨_,rfl,Ae h⟩) B))
end
end HT
namespace L2
open PySem PySem.Spec PyProof.Rows
abbrev TO:=St→Hp→(Option Int→Hp→Prop)→Prop
structure PO(X:Cx)(e:Option Br)(t:TO):Prop where
 run:
  ∀(dt:List (Ah×Obj)) (s:Af) (σ:St) (H:Hp) (Q:Option Int→Hp→Prop),Inv X dt σ H s→t σ H Q→
   wpAny (model X.prog X.w) X.A (evalPart e X.env) (fun u s'=>∃ o H',Inv X dt σ H' s'∧E9 u o∧Q o H') X.xe s
instance{X:Cx}{e:Option Br}{t:TO}:CoeFun (PO X e t) (fun _=>
 ∀(dt:List (Ah×Obj)) (s:Af) (σ:St) (H:Hp) (Q:Option Int→Hp→Prop),Inv X dt σ H s→t σ H Q→
  wpAny (model X.prog X.w) X.A (evalPart e X.env) (fun u s'=>∃ o H',Inv X dt σ H' s'∧E9 u o∧Q o H') X.xe s):=⟨fun h=>h.run⟩
def aFY:TO:=fun _ H Q=>Q none H
def aIK(t:TE):TO:=fun σ H Q=>t σ H fun x H1=>As V.int x fun i=>Q (some i) H1
section
variable{X:Cx}{e:Br}{te:TE}{lo hi:Option Br}{tl th:TO}{pos p2:Pos}
theorem iF:PO X none aFY:=by
 constructor;intro dt s σ H Q I h;rw[evalPart_none];exact Ae ⟨none,H,I,.none,h⟩
theorem iG(h:PE X e te):PO X (some e) (aIK te):=by
 constructor;intro dt s σ H Q I hw;rw[evalPart_some];refine thn (h dt s σ H _ I hw) fun u J ⟨x,H1,F,B,z⟩=>?_;obtain⟨i,rfl,q⟩:=z;obtain⟨t,rfl⟩:=B;exact⟨some i,H1,F,.int i t,q⟩
def SlR(X:Cx)(r:V→Option Int→Option Int→Hp→VK→Prop):Prop:=
 ∀(dt:List (Ah×Obj)) (s:Af) (σ:St) (H:Hp) (x:V) (v vl vu:Ac) (lo hi:Option Int) (sl:Ah) (Q:VK),Inv X dt σ H s→c4 x v→s.heap.IsSliceOf sl vl vu .none→E9 vl lo→E9 vu hi→r x lo hi H Q→
  ∃ T id,typeLookup (.type T) "__getitem__"=pure (some (.builtin id))∧s.TypeIs v T∧wpAny (model X.prog X.w) X.A (getItem v (.ref sl)) (EP X dt σ Q) X.xe s
def tSl(r:V→Option Int→Option Int→Hp→VK→Prop)(te:TE)(tl th:TO):TE:=fun σ H Q=>te σ H fun x H1=>tl σ H1 fun l H2=>th σ H2 fun u H3=>r x l u H3 Q
theorem f6{r:V→Option Int→Option Int→Hp→VK→Prop}(Y:SlR X r)(he:PE X e te)(hl:PO X lo tl)(hu:PO X hi th):PE X (.Subscript e (.Slice lo hi none p2) pos) (tSl r te tl th):=by
 constructor;intro dt s σ H Q I h;refine Subscript_ (thn (he dt s σ H _ I h) fun v U ⟨x,H1,W,r1,M⟩=>?_);refine wpAny_Slice (thn (hl dt U σ H1 _ W M) fun B Z ⟨l,H2,I2,pl,q2⟩=>thn (hu dt Z σ H2 _ I2 q2) fun F z ⟨u,J,I3,pu,O⟩=>?_);rw[evalPart_none];refine Ae ?_;have I4:Inv X dt σ J { z with heap:=z.heap.push { cls:=.type "slice",data:=.fields #[B,F,.none] } }:=I3.kept (t':=z.toks) fun b ob q=>Ag _ q;obtain⟨T,id,hT,ht,hg⟩:=Y dt { z with heap:=z.heap.push { cls:=.type "slice",data:=.fields #[B,F,.none] } } σ J x v B F l u z.heap.objs.size Q I4 r1 (Heap.IsSliceOf.new ..) pl pu O;show wpAny (model X.prog X.w) X.A (subscriptTail e (.Slice lo hi none p2) v (.ref z.heap.objs.size)) (EP X dt σ Q) X.xe { z with heap:=z.heap.push { cls:=.type "slice",data:=.fields #[B,F,.none] } };exact tail_any (ops:=[.ref z.heap.objs.size,v]) ht hT hg (by with_unfolding_all rfl)
def jI(xs:List V)(lo hi:Option Int):List V:=(xs.drop (HT.sIx xs.length 0 lo)).take (HT.sIx xs.length xs.length hi - HT.sIx xs.length 0 lo)
theorem qT(xs:List V)(lo hi:Option Int):(jI xs lo hi).length≤xs.length:=by
 unfold jI;rw[A5,D2];omega
inductive aEd(K:Ai)(x:V)(lo:Option Int)(hi:Option Int)(H:Hp)(Q:VK):Prop
 | mk (a:_) (xs:_) (q0:x=.ref a) (q1:SqT K H a xs) (q2:¬ (HT.sIx xs.length 0 lo=0∧HT.sIx xs.length xs.length hi=xs.length)) (q3:∀ p,H p=none→Q (.ref p) (upd H p (.tup (jI xs lo hi)))):aEd K x lo hi H Q
def aJG(K:Ai):V→Option Int→Option Int→Hp→VK→Prop:=fun x lo hi H Q=>aEd K x lo hi H Q
theorem aHD:SlR X (aJG X.K):=by
 intro dt s σ H x v O U lo hi M Q I F B pl J h;obtain⟨a,xs,rfl,hx,hw,q⟩:=h;cases F;obtain⟨its,r,ht,hz⟩:=I.tuple hx;have z:its.toArray.size=xs.length:=by rw[At];exact r.length.symm
 refine⟨"tuple",_,B0.lookup,ht.typeIs,HT.getItem_tuple_cut ht B pl J (by rw[z];exact hw) ?_ (by rw[z];exact hz)⟩;rw[z];refine⟨.ref s.heap.objs.size,_,I.laid (t':=s.toks) (o:=.tup (jI xs lo hi)) (fun b ob q=>Ag _ q) (Ap _) ?_,rfl,q _ (I.hok.fresh (Ap _))⟩;exact⟨Bg (qT xs lo hi) hz,_,(r.drop (HT.sIx xs.length 0 lo)).take (HT.sIx xs.length xs.length hi - HT.sIx xs.length 0 lo),⟨_,Av _ rfl,⟨rfl,_,rfl⟩,rfl⟩⟩
end
def ixN(n:Nat)(i:Int):Option Nat:=if 0≤i then(if i < n then some i.toNat else none) else if -(n:Int)≤i then some (i + n).toNat else none
def atI{α:Type}(xs:List α)(i:Int):Option α:=(ixN xs.length i).bind fun j=>xs[j]?
theorem aB7{n:Nat}{i:Int}{j:Nat}(h:ixN n i=some j):seqIndex? i n=some j∧j < n∧-(n:Int)≤i∧i < n:=by
 unfold ixN at h;by_cases q:0≤i
 ·rw[Ib q]at h;by_cases h1:i < n
  ·rw[Ib h1]at h;have e:i.toNat=j:=Cv.inj h;exact⟨by rw[Hg q h1,e],by omega,by omega,h1⟩
  ·rw[Ia h1]at h;cases h
 ·rw[Ia q]at h;by_cases h1:-(n:Int)≤i
  ·rw[Ib h1]at h;have e:(i + n).toNat=j:=Cv.inj h;exact⟨by rw[seqIndex_neg (by omega) h1,e],by omega,h1,by omega⟩
  ·rw[Ia h1]at h;cases h
theorem xZ{α:Type}{xs:List α}{i:Int}{v:α}(h:atI xs i=some v):∃ j,seqIndex? i xs.length=some j∧xs[j]?=some v∧j < xs.length∧-(xs.length:Int)≤i∧i < xs.length:=by
 unfold atI at h;cases e:ixN xs.length i with
 | none=>rw[e]at h;cases h
 | some j=>
  rw[e]at h;obtain⟨h1,h2,h3,h4⟩:=aB7 e;exact⟨j,h1,h,h2,h3,h4⟩
theorem fV{α:Type}{xs:List α}{j:Nat}{v:α}(h:xs[j]?=some v):atI xs (j:Int)=some v:=by
 have q:j < xs.length:=(AS.mp h).1;have e:ixN xs.length (j:Int)=some j:=by
  unfold ixN;rw[Ib (by omega),Ib (by omega)];simp
 unfold atI;rw[e];exact h
def aFZ(b:Br):Prop:=∀ o i,subscripted b false o i=operate [o,i] (getItem o i)
def IxR(X:Cx)(r:R2):Prop:=
 ∀(value slice:Br) (dt:List (Ah×Obj)) (s:Af) (σ:St) (H:Hp) (x y:V) (v u:Ac) (Q:VK),Inv X dt σ H s→c4 x v→c4 y u→r x y H Q→
  subscripted slice false v u=operate [v,u] (getItem v u)→wpAny (model X.prog X.w) X.A (subscriptTail value slice v u) (EP X dt σ Q) X.xe s
def MtR(X:Cx)(id:String)(r:V→List V→Hp→VK→Prop):Prop:=
 ∀(dt:List (Ah×Obj)) (s:Af) (σ:St) (H:Hp) (x:V) (xs:List V) (v:Ac) (us:List Ac) (Q:VK),Inv X dt σ H s→c4 x v→cW xs us→r x xs H Q→
  wpAny (model X.prog X.w) X.A (call (.builtin id) (v :: us)) (EP X dt σ Q) X.xe s
section
variable{X:Cx}{a b:Br}{ta tb:TE}{pos:Pos}
theorem cO{r:R2}(F:IxR X r)(ha:PE X a ta)(M:PE X b tb)(z:aFZ b):PE X (.Subscript a b pos) (tOp r ta tb):=by
 constructor;intro dt s σ H Q I h;exact Subscript_ (aHw ha M I h fun v u J x y H2 O U B q=>F a b dt J σ H2 x y v u Q O U B q (z _ _))
inductive aEe(K:Ai)(x:V)(y:V)(H:Hp)(Q:VK):Prop
 | mk (p:_) (xs:_) (i:_) (v:_) (q0:x=.ref p) (q1:y=.int i) (q2:SqL K H p xs) (q3:atI xs i=some v) (q4:Q v H):aEe K x y H Q
def aHE(K:Ai):R2:=fun x y H Q=>aEe K x y H Q
inductive aEf(K:Ai)(x:V)(y:V)(H:Hp)(Q:VK):Prop
 | mk (p:_) (xs:_) (i:_) (v:_) (q0:x=.ref p) (q1:y=.int i) (q2:SqT K H p xs) (q3:atI xs i=some v) (q4:Q v H):aEf K x y H Q
def tF(K:Ai):R2:=fun x y H Q=>aEf K x y H Q
inductive aEg(x:V)(y:V)(H:Hp)(Q:VK):Prop
 | mk (z:_) (i:_) (c:_) (q0:x=.str z) (q1:y=.int i) (q2:z.length≤sizeLine) (q3:atI z.cps.toList i=some c) (q4:Q (.str ⟨#[c]⟩) H):aEg x y H Q
def aJH:R2:=fun x y H Q=>aEg x y H Q
theorem dN:IxR X (aHE X.K):=by
 intro value F dt s σ H x y v u Q I U O h J;obtain⟨p,xs,i,z,rfl,rfl,hq,he,q⟩:=h;cases U;obtain⟨t,rfl⟩:=O;obtain⟨its,r,pl,hz⟩:=I.list hq;obtain⟨j,h1,h2,h3,h4,h5⟩:=xZ he;obtain⟨w,ew,rw'⟩:=r.get h2;have W:=r.length;have hn:=p4;have fin:EP X dt σ Q w s:=⟨z,H,I,rw',q⟩
 by_cases M:0≤i
 ·have B:i.toNat=j:=by
   rw[Hg M h5]at h1;exact Cv.inj h1
  exact item_listR pl.isList M (by omega) (by rw[B];simpa using ew) fin J
 ·have B:(i + (its.toArray.size:Int)).toNat=j:=by
   rw[seqIndex_neg (by omega) h4]at h1;rw[At,← W];exact Cv.inj h1
  exact subscriptTail_builtinR (x:=w) pl.isList.typeIs slot_list_getitem.lookup
   (wpAny_getItem_list_neg (Q:=fun r s'=>r=w∧EP X dt σ Q r s') pl.isList (by omega) (by rw[At] <;> omega) (by omega) (by rw[B];simpa using ew) ⟨rfl,fin⟩) J
theorem c0:IxR X (tF X.K):=by
 intro value B dt s σ H x y v u Q I M J h F;obtain⟨p,xs,i,z,rfl,rfl,hq,he,q⟩:=h;cases M;obtain⟨t,rfl⟩:=J;obtain⟨its,r,pl,hz⟩:=I.tuple hq;obtain⟨j,h1,h2,h3,h4,h5⟩:=xZ he;obtain⟨w,ew,rw'⟩:=r.get h2;have O:=r.length;have hn:=p4;have fin:EP X dt σ Q w s:=⟨z,H,I,rw',q⟩
 exact subscriptTail_builtinR (x:=w) pl.typeIs slot_tuple_getitem.lookup
  (getItem_tuple (j:=j) (Q:=fun r s'=>r=w∧EP X dt σ Q r s') pl (by omega) (by omega) (by rw[At,← O];exact h1) (by simpa using ew) ⟨rfl,fin⟩) F
theorem x8:IxR X aJH:=by
 intro value B dt s σ H x y v u Q I U M h F;obtain⟨z,i,c,rfl,rfl,hz,he,q⟩:=h;obtain⟨t,rfl⟩:=U;obtain⟨t',rfl⟩:=M;obtain⟨j,h1,h2,h3,h4,h5⟩:=xZ he;have W:z.cps.toList.length=z.length:=by simp[Str.length]
 rw[W]at h1 h4 h5;have hn:=p4;exact tail_any (FX s z t) slot_str_getitem.lookup (getItem_str (c:=c) (by
  have O:decide (i < -(2 ^ 63:Int))=false:=decide_eq_false (by omega);have J:decide (i ≥ 2 ^ 63)=false:=decide_eq_false (by omega);rw[O,J,Bool.or_false]) (by rw[h1];simpa using h2) ⟨.str ⟨#[c]⟩,H,I.tok _,⟨_,rfl⟩,q⟩) F
theorem aBa(its:List Ac)(n j:Nat)(u:Ac):Bc (·.setIfInBounds j u) { cls:=.type "list",data:=.seq its.toArray n }={ cls:=.type "list",data:=.seq (its.set j u).toArray n }:=by
 simp[Bc]
theorem Inv.lst{dt:List (Ah×Obj)}{σ:St}{H:Hp}{s:Af}{p:Ah}{xs:List V}(I:Inv X dt σ H s)(h:H p=some (.lst xs)):
  ∃(its:List Ac) (n:Nat),cW xs its∧s.heap.get? p=some { cls:=.type "list",data:=.seq its.toArray n }∧xs.length≤sizeLine:=by
 obtain⟨z,its,n,r,e⟩:=I.hok p _ h;exact⟨its,n,r,e,z⟩
theorem Inv.lstUpd{dt:List (Ah×Obj)}{σ:St}{H:Hp}{s:Af}{p:Ah}{xs ys:List V}{its its':List Ac}{n z:Nat}{f:Obj→Obj}(I:Inv X dt σ H s)(h:H p=some (.lst xs))
  (F:s.heap.get? p=some { cls:=.type "list",data:=.seq its.toArray n }) (B:f { cls:=.type "list",data:=.seq its.toArray n }={ cls:=.type "list",data:=.seq its'.toArray z }) (r:cW ys its') (hz:ys.length≤sizeLine) (t:Nat):
  Inv X dt σ (upd H p (.lst ys)) { s with heap:=s.heap.update p f,toks:=t }:=by
 have e:(s.heap.update p f).get? p=some { cls:=.type "list",data:=.seq its'.toArray z }:=by
  rw[B2 f F (by rw[B] <;> rfl),B]
 refine I.write (x:=p) (e:=p) (by rw[h];trivial) (.inl rfl) (fun b u J q=>(CJ _ _ (Ef J)).trans q) ⟨_,e⟩ ?_;exact⟨hz,its',z,r,e⟩
inductive aB8(o:V)(i:V)(v:V)(H:Hp)(Q:(Hp→Prop)):Prop
 | mk (p:_) (xs:_) (k:_) (j:_) (q0:o=.ref p) (q1:i=.int k) (q2:H p=some (.lst xs)) (q3:ixN xs.length k=some j) (q4:Q (upd H p (.lst (xs.set j v)))):aB8 o i v H Q
def aIL:V→V→V→Hp→(Hp→Prop)→Prop:=fun o i v H Q=>aB8 o i v H Q
theorem aEh:aIA X aIL:=by
 intro dt s σ H o i v Z Y u Q I M O U h;obtain⟨p,xs,k,j,rfl,rfl,hp,hj,q⟩:=h;cases M;obtain⟨t,rfl⟩:=O;obtain⟨its,n,r,ho,hz⟩:=I.lst hp;obtain⟨h1,h2,h3,h4⟩:=aB7 hj;have B:=r.length;have hn:=p4;have J:Inv X dt σ (upd H p (.lst (xs.set j v))) { s with heap:=s.heap.update p (Bc (·.setIfInBounds j u)) }:=
  I.lstUpd hp ho (aBa its n j u) (r.set U j) (by rw[EX];exact hz) s.toks
 by_cases F:0≤k
 ·have z:k.toNat=j:=by
   rw[Hg F h4]at h1;exact Cv.inj h1
  exact PySem.W.ki_setAt ho F (by omega) (by rw[At,← B];exact h4) (by rw[z];exact⟨_,J,q⟩)
 ·have z:(k + (its.toArray.size:Int)).toNat=j:=by
   rw[seqIndex_neg (by omega) h3]at h1;rw[At,← B];exact Cv.inj h1
  exact PySem.W.ki_setBack ho (by omega) (by rw[At,← B];exact h3) (by omega) (by rw[z];exact⟨_,J,q⟩)
theorem x9(lo hi:Option Int)(n:Nat):(sliceBounds lo hi none n).1=((HT.sIx n 0 lo:Nat):Int)∧(sliceBounds lo hi none n).2.1=((HT.sIx n n hi:Nat):Int)∧(sliceBounds lo hi none n).2.2=1:=by
 refine⟨?_,?_,rfl⟩
 ·cases lo with
  | none=>simp[sliceBounds,HT.sIx]
  | some i=>
   simp only[sliceBounds,HT.sIx,Option.getD_none,show(1:Int) > 0 by decide,if_true];by_cases h:i < 0
   ·simp only[h,if_true] <;> omega
   ·simp only[h,if_false] <;> omega
 ·cases hi with
  | none=>simp[sliceBounds,HT.sIx]
  | some i=>
   simp only[sliceBounds,HT.sIx,Option.getD_none,show(1:Int) > 0 by decide,if_true];by_cases h:i < 0
   ·simp only[h,if_true] <;> omega
   ·simp only[h,if_false] <;> omega
theorem vM(its:List Ac)(lo hi:Option Int):slicePick its.toArray lo hi none=((its.drop (HT.sIx its.length 0 lo)).take (HT.sIx its.length its.length hi - HT.sIx its.length 0 lo)).toArray:=by
 obtain⟨h1,h2,h3⟩:=x9 lo hi its.toArray.size;unfold slicePick;rw[h1,h2,h3];simp only[sliceRange_one,pick_run,At] <;> rfl
inductive aEi(K:Ai)(x:V)(lo:Option Int)(hi:Option Int)(H:Hp)(Q:VK):Prop
 | mk (a:_) (xs:_) (q0:x=.ref a) (q1:SqL K H a xs) (q2:∀ p,H p=none→Q (.ref p) (upd H p (.lst (jI xs lo hi)))):aEi K x lo hi H Q
def aJI(K:Ai):V→Option Int→Option Int→Hp→VK→Prop:=fun x lo hi H Q=>aEi K x lo hi H Q
theorem m9:SlR X (aJI X.K):=by
 intro dt s σ H x v O U lo hi M Q I F B pl J h;obtain⟨a,xs,rfl,hx,q⟩:=h;cases F;obtain⟨its,r,ht,hz⟩:=I.list hx;have z:=r.length;refine⟨"list",_,slot_list_getitem.lookup,ht.isList.typeIs,wpAny_getItem_list_slice ht.isList B pl J .none (by simp) ?_ (by rw[At] <;> omega)⟩;rw[vM,← z];refine⟨.ref s.heap.objs.size,_,I.laid (t':=s.toks) (o:=.lst (jI xs lo hi)) (fun b ob q=>Ag _ q) (Ap _) ?_,rfl,q _ (I.hok.fresh (Ap _))⟩;exact⟨Bg (qT xs lo hi) hz,_,0,(r.drop (HT.sIx xs.length 0 lo)).take (HT.sIx xs.length xs.length hi - HT.sIx xs.length 0 lo),Av _ rfl⟩
def iI:V→Bool
 | .non=>true
 | .bl _=>true
 | .int _=>true
 | .str _=>true
 | _=>false
def eqV:V→V→Bool
 | .non,.non=>true
 | .bl a,.bl b=>a == b
 | .bl a,.int b=>(if a then 1 else 0) == b
 | .int a,.bl b=>a == (if b then 1 else 0)
 | .int a,.int b=>a == b
 | .str a,.str b=>a == b
 | _,_=>false
theorem p5{A:AU}{s:Af}{y x:V}{u v:Ac}(B:c4 y u)(q:c4 x v)(F:iI y=true)(z:iI x=true):Fp A s u v (eqV y x):=by
 cases y with
 | non=>
  cases B;cases x with
  | non=>cases q;exact Ey _
  | bl b=>cases q;exact SeqAt.EqAt.none_bool b
  | int b=>obtain⟨t,rfl⟩:=q;exact SeqAt.EqAt.none_int b t
  | str b=>obtain⟨t,rfl⟩:=q;exact SeqAt.EqAt.none_str b t
  | _=>exact absurd (show false=true from z) AA
 | bl a=>
  cases B;cases x with
  | non=>cases q;exact SeqAt.EqAt.bool_none a
  | bl b=>cases q;exact SeqAt.EqAt.bool_bool a b
  | int b=>obtain⟨t,rfl⟩:=q;exact SeqAt.EqAt.bool_int a b t
  | str b=>obtain⟨t,rfl⟩:=q;exact SeqAt.EqAt.bool_str a b t
  | _=>exact absurd (show false=true from z) AA
 | int a=>
  obtain⟨t',rfl⟩:=B;cases x with
  | non=>cases q;exact SeqAt.EqAt.int_none a t'
  | bl b=>cases q;exact SeqAt.EqAt.int_bool a t' b
  | int b=>obtain⟨t,rfl⟩:=q;exact SeqAt.EqAt.int_int a t' b t
  | str b=>obtain⟨t,rfl⟩:=q;exact SeqAt.EqAt.int_str a t' b t
  | _=>exact absurd (show false=true from z) AA
 | str a=>
  obtain⟨t',rfl⟩:=B;cases x with
  | non=>cases q;exact SeqAt.EqAt.str_none a t'
  | bl b=>cases q;exact SeqAt.EqAt.str_bool a t' b
  | int b=>obtain⟨t,rfl⟩:=q;exact SeqAt.EqAt.str_int a t' b t
  | str b=>obtain⟨t,rfl⟩:=q;exact EY a t' b t
  | _=>exact absurd (show false=true from z) AA
 | _=>exact absurd (show false=true from F) AA
def eqU(x:V)(u:Ac):Bool:=match u with
 | .none=>eqV .non x
 | .bool b=>eqV (.bl b) x
 | .int i _=>eqV (.int i) x
 | .str z _=>eqV (.str z) x
 | _=>false
theorem aEj{x y:V}{u:Ac}(r:c4 y u)(f:iI y=true):eqU x u=eqV y x:=by
 cases y with
 | non=>cases r;rfl
 | bl b=>cases r;rfl
 | int i=>obtain⟨t,rfl⟩:=r;rfl
 | str z=>obtain⟨t,rfl⟩:=r;rfl
 | _=>exact absurd (show false=true from f) AA
theorem oX{x:V}:∀{xs:List V}{us:List Ac},cW xs us→xs.all iI=true→us.any (eqU x)=xs.any fun y=>eqV y x
 | _,_,.nil,_=>rfl
 | y :: xs,u :: us,.cons r t,f=>by
  rw[Cw,AF]at f;rw[EG,EG,aEj r f.1,oX t f.2]
theorem mU{A:AU}{s:Af}{x:V}{v:Ac}(B:c4 x v)(z:iI x=true):∀{xs:List V}{us:List Ac},cW xs us→xs.all iI=true→∀ u∈us,Fp A s u v (eqU x u)
 | _,_,.nil,_=>fun u q=>by cases q
 | y :: xs,u :: us,.cons r t,f=>fun F q=>by
  rw[Cw,AF]at f;rcases Ao.mp q with rfl | q
  ·rw[aEj r f.1];exact p5 r B f.1 z
  ·exact mU B z t f.2 F q
def inV(x:V)(xs:List V):Bool:=xs.any fun y=>eqV y x
inductive aG0(K:Ai)(neg:Bool)(x:V)(y:V)(H:Hp)(Q:VK):Prop
 | mk (p:_) (xs:_) (q0:y=.ref p) (q1:(SqL K H p xs∨SqT K H p xs)) (q2:iI x=true) (q3:xs.all iI=true) (q4:Q (.bl (if neg then !inV x xs else inV x xs)) H):aG0 K neg x y H Q
def rIn(K:Ai)(neg:Bool):R2:=fun x y H Q=>aG0 K neg x y H Q
theorem p8:OpR X (compareOp .In) (rIn X.K false):=by
 intro dt s σ H x y v u Q I B F h;obtain⟨p,xs,rfl,z,fx,fs,q⟩:=h;cases F;rcases z with z | z
 ·obtain⟨its,r,pl,hz⟩:=I.list z;refine SeqAt.in_listAt (eqU x) pl.isList (fun w hw=>mU B fx r fs w (by simpa using hw)) ⟨.bl _,H,I,rfl,?_⟩;rw[show its.toArray.any (eqU x)=its.any (eqU x) by simp,oX r fs];exact q
 ·obtain⟨its,r,pl,hz⟩:=I.tuple z;refine SeqAt.in_tupleAt (eqU x) pl (fun w hw=>mU B fx r fs w (by simpa using hw)) ⟨.bl _,H,I,rfl,?_⟩;rw[show its.toArray.any (eqU x)=its.any (eqU x) by simp,oX r fs];exact q
theorem gP:OpR X (compareOp .NotIn) (rIn X.K true):=by
 intro dt s σ H x y v u Q I B F h;obtain⟨p,xs,rfl,z,fx,fs,q⟩:=h;cases F;rcases z with z | z
 ·obtain⟨its,r,pl,hz⟩:=I.list z;refine SeqAt.notIn_listAt (eqU x) pl.isList (fun w hw=>mU B fx r fs w (by simpa using hw)) ⟨.bl _,H,I,rfl,?_⟩;rw[show its.toArray.any (eqU x)=its.any (eqU x) by simp,oX r fs];exact q
 ·obtain⟨its,r,pl,hz⟩:=I.tuple z;refine SeqAt.notIn_tupleAt (eqU x) pl (fun w hw=>mU B fx r fs w (by simpa using hw)) ⟨.bl _,H,I,rfl,?_⟩;rw[show its.toArray.any (eqU x)=its.any (eqU x) by simp,oX r fs];exact q
inductive j0(K:Ai)(xs:List V)(H:Hp)(Q:VK):Prop
 | mk (p:_) (ys:_) (q0:xs=[.ref p]) (q1:(SqL K H p ys∨SqT K H p ys)) (q2:Q (.int ys.length) H):j0 K xs H Q
def i7(K:Ai):List V→Hp→VK→Prop:=fun xs H Q=>j0 K xs H Q
theorem bC:fJ X (.builtin "len") (i7 X.K):=by
 intro dt s σ H xs us Q I r h;obtain⟨p,ys,rfl,B,q⟩:=h;obtain⟨u,rfl,rx⟩:=fM r;cases rx;have hn:=p4;rcases B with B | B
 ·obtain⟨its,r',pl,hz⟩:=I.list B;have z:=r'.length;exact Calls.call_len_list pl.isList (by simp only[At] <;> omega) ⟨.int ys.length,H,I.tok _,⟨s.toks + 1,by rw[At,z]⟩,q⟩
 ·obtain⟨its,r',pl,hz⟩:=I.tuple B;have z:=r'.length;exact len_tuple pl (by simp only[At] <;> omega) ⟨.int ys.length,H,I.tok _,⟨s.toks + 1,by rw[At,z]⟩,q⟩
inductive j5(xs:List V)(H:Hp)(Q:VK):Prop
 | mk (z:_) (q0:xs=[.str z]) (q1:z.length≤sizeLine) (q2:Q (.int z.length) H):j5 xs H Q
def tG:List V→Hp→VK→Prop:=fun xs H Q=>j5 xs H Q
theorem oY:fJ X (.builtin "len") tG:=by
 intro dt s σ H xs us Q I r h;obtain⟨z,rfl,hz,q⟩:=h;obtain⟨u,rfl,t,rfl⟩:=fM r;have hn:=p4;exact len_str (by omega) ⟨.int z.length,H,I.tok _,⟨_,rfl⟩,q⟩
inductive j6(K:Ai)(xs:List V)(H:Hp)(Q:VK):Prop
 | mk (p:_) (ys:_) (q0:xs=[.ref p]) (q1:(SqL K H p ys∨SqT K H p ys)) (q2:∀ l,H l=none→Q (.ref l) (upd H l (.lst ys))):j6 K xs H Q
def tH(K:Ai):List V→Hp→VK→Prop:=fun xs H Q=>j6 K xs H Q
theorem fW:fJ X (.type "list") (tH X.K):=by
 intro dt s σ H xs us Q I r h;obtain⟨p,ys,rfl,J,q⟩:=h;obtain⟨u,rfl,rx⟩:=fM r;cases rx;have fin:∀(z:List Ac),cW ys z→ys.length≤sizeLine→∀(h':Bm) (B:Nat),(∀ b o',s.heap.get? b=some o'→h'.get? b=some o')→
   h'.get? s.heap.objs.size=some { cls:=.type "list",dict:=none,data:=.seq z.toArray B,slots:=#[] }→EP X dt σ Q (.ref s.heap.objs.size) { s with heap:=h' }:=fun z F hz h' B kp e=>
  ⟨.ref s.heap.objs.size,_,I.laid (t':=s.toks) kp (Ap _) (show dA X.prog X.w _ h' _ (.lst ys) from⟨hz,z,B,F,e⟩),rfl,q _ (I.hok.fresh (Ap _))⟩
 rcases J with J | J
 ·obtain⟨z,F,pl,hz⟩:=I.list J;have M:=F.length;obtain⟨o,ho,hc,n,hd⟩:=pl.isList;exact call_list_seq p (.inl rfl) ho hc hd (fun h' B kp e=>fin z F hz h' B kp e) (by simp only[At] <;> omega)
 ·obtain⟨z,F,pl,hz⟩:=I.tuple J;have M:=F.length;obtain⟨o,ho,hc,n,hd⟩:=pl;exact call_list_seq p (.inr rfl) ho hc hd (fun h' B kp e=>fin z F hz h' B kp e) (by simp only[At] <;> omega)
inductive jM(K:Ai)(xs:List V)(H:Hp)(Q:VK):Prop
 | mk (p:_) (ys:_) (q0:xs=[.ref p]) (q1:((SqL K H p ys∧∀ l,H l=none→Q (.ref l) (upd H l (.tup ys)))∨(SqT K H p ys∧Q (.ref p) H))):jM K xs H Q
def rS(K:Ai):List V→Hp→VK→Prop:=fun xs H Q=>jM K xs H Q
theorem cU:fJ X (.type "tuple") (rS X.K):=by
 intro dt s σ H xs us Q I r h;obtain⟨p,ys,rfl,h⟩:=h;obtain⟨u,rfl,rx⟩:=fM r;cases rx;rcases h with⟨hq,q⟩ | ⟨hq,q⟩
 ·obtain⟨its,r',pl,hz⟩:=I.list hq;have z:=r'.length;refine call_tuple_list pl.isList (fun h' kp=>?_) (by simp only[At] <;> omega);have B:Inv X dt σ H { s with heap:=h' }:=I.kept (t':=s.toks) kp;have F:Inv X dt σ (upd H h'.objs.size (.tup ys)) { s with heap:=h'.push { cls:=.type "tuple",data:=.seq its.toArray } }:=
   B.laid (t':=s.toks) (fun b o e=>Ag _ e) (Ap _) (show dA X.prog X.w _ _ _ (.tup ys) from⟨hz,its,r',⟨_,Av _ rfl,⟨rfl,_,rfl⟩,rfl⟩⟩)
  exact⟨.ref h'.objs.size,_,F,rfl,q _ (B.hok.fresh (Ap _))⟩
 ·obtain⟨its,r',pl,hz⟩:=I.tuple hq;exact call_tuple_same pl ⟨.ref p,H,I,rfl,q⟩
def tyV(K:Ai)(T:String)(x:V)(H:Hp):Prop:=match x with
 | .str _=>T="str"
 | .int _=>T="int"
 | .ref p=>(T="list"∧∃ xs,SqL K H p xs)∨(T="tuple"∧∃ o,K.lookup p=some o∧o.cls=.type "tuple"∧o.dict=none)∨
   (T="dict"∧((∃ fc,H p=some (.dK fc))∨∃ fc,H p=some (.dT fc)))∨(T="set"∧∃ S n,H p=some (.set S n))∨(T="tuple"∧∃ xs,H p=some (.tup xs))
 | _=>False
theorem aHF{dt:List (Ah×Obj)}{σ:St}{H:Hp}{s:Af}{T:String}{x:V}{v:Ac}(I:Inv X dt σ H s)(r:c4 x v)(ty:tyV X.K T x H):
  s.TypeIs v T∧∀ a,v=.ref a→∃ ob,s.heap.get? a=some ob∧ob.dict=none:=by
 cases x with
 | str z=>
  obtain⟨t,rfl⟩:=r;cases(show T="str" from ty);exact⟨FX s z t,fun _ e=>nomatch e⟩
 | int i=>
  obtain⟨t,rfl⟩:=r;cases(show T="int" from ty);exact⟨typeIs_int s i t,fun _ e=>nomatch e⟩
 | ref p=>
  cases r;rcases ty with⟨rfl,xs,hq⟩ | ⟨rfl,o,hk,hc,hd⟩ | ⟨rfl,hk⟩ | ⟨rfl,S,n,hk⟩ | ⟨rfl,xs,hq⟩
  ·obtain⟨its,_,pl,_⟩:=I.list hq;refine⟨pl.isList.typeIs,fun a e=>?_⟩;cases e;obtain⟨o,n,e,c,hd,_⟩:=pl;exact⟨o,e,hd⟩
  ·refine⟨⟨o,I.kIn p o hk,hc⟩,fun a e=>?_⟩;cases e;exact⟨o,I.kIn _ o hk,hd⟩
  ·have z:∃ o,s.heap.get? p=some o∧o.ExactDict:=by
    rcases hk with⟨fc,hk⟩ | ⟨fc,hk⟩
    ·obtain⟨_,_,_,_,o,_,_,e,ex,_⟩:=I.hok p _ hk;exact⟨o,e,ex⟩
    ·obtain⟨_,_,_,_,o,_,_,e,ex,_⟩:=I.hok p _ hk;exact⟨o,e,ex⟩
   obtain⟨o,e,ex⟩:=z;refine⟨⟨o,e,ex.1⟩,fun a q=>?_⟩;cases q;exact⟨o,e,ex.2.1⟩
  ·obtain⟨o,_,_,_,e,ex,_⟩:=I.hok p _ hk;refine⟨⟨o,e,ex.1⟩,fun a q=>?_⟩;cases q;exact⟨o,e,ex.2.1⟩
  ·obtain⟨_,_,_,o,e,⟨c,_⟩,hd⟩:=(show dA X.prog X.w H s.heap p (.tup xs) from I.hok p _ hq)
   refine⟨⟨o,e,c⟩,fun a q=>?_⟩;cases q;exact⟨o,e,hd⟩
 | _=>exact CD ty
def tBM(K:Ai)(T:String)(r:V→List V→Hp→VK→Prop)(to:TE)(t:TA):TE:=fun σ H Q=>to σ H fun x H1=>tyV K T x H1∧t σ H1 fun xs H2=>r x xs H2 Q
variable{o e:Br}{es:List Br}{to:TE}{t:TA}{name:Str}{fh ff:Pos}{T id:String}{r:V→List V→Hp→VK→Prop}
theorem oZ(pa:PlainAttrs T)(slot:Slot T name id)(J:typeOf (.builtin id)=pure (.type "method_descriptor"))(hm:MtR X id r)(Z:PE X o to)(ha:PA X (e :: es) t)
  (z:attributeBase o name X.env (eval o X.env)=eval o X.env:=by rfl)
  (F:((backTo ff (starEach (e :: es) X.env)).all (fun x=>!x.1) && (backToKw ff (keywordEach [] X.env)).all (fun x=>x.1.isSome)
   && decide ((e :: es).length + ([]:List EC).length + (if ([]:List EC).isEmpty then 0 else 1) < 30))=true:=by rfl)
  (B:(fh.endLine == ff.line)=true:=by rfl) (Y:starEach (e :: es) X.env=(false,eval e X.env) :: starEach es X.env:=by rfl) (q:(backTo ff (starEach es X.env)).any (·.1)=false:=by rfl):
  PE X (.Call (.Attribute o name fh) (e :: es) [] ff) (tBM X.K T r to t):=by
 constructor;intro dt s σ H Q I h;refine wpAny_Call_method_late z F B rfl (thn (Z dt s σ H _ I h) fun v s1 ⟨x,H1,M,U,ty,W⟩=>?_);obtain⟨h1,h2⟩:=aHF M U ty;refine⟨T,id,pa,slot,J,h1,h2,?_⟩;have O:=ha ff dt s1 σ H1 _ M W;rw[Y]at O ⊢;refine DN (by show(false || (backTo ff (starEach es X.env)).any (·.1))=false;rw[q] <;> rfl) (E3 ?_)
 exact thn O fun us s2 ⟨vs,H2,I2,r2,q2⟩=>hm dt s2 σ H2 x vs v us Q I2 U r2 q2
end
def MtM(X:Cx)(id:String)(r:V→List V→Hp→VK→Prop):Prop:=
 ∀(dt:List (Ah×Obj)) (s:Af) (σ:St) (H:Hp) (x:V) (xs:List V) (v:Ac) (us:List Ac) (Q:VK),Inv X dt σ H s→c4 x v→cW xs us→r x xs H Q→
  wpAny (model X.prog X.w) X.A (call (.builtin id) (v :: us)) (EP X dt σ Q) X.xe s
theorem cW.one:∀{x:V}{us:List Ac},cW [x] us→∃ u,us=[u]∧c4 x u
 | _,_,.cons r .nil=>⟨_,rfl,r⟩
theorem cW.eraseIdx:∀{xs:List V}{us:List Ac} (i:Nat),cW xs us→cW (xs.eraseIdx i) (us.eraseIdx i)
 | _,_,_,.nil=>.nil
 | _,_,0,.cons _ t=>t
 | _,_,i + 1,.cons r t=>.cons r (cW.eraseIdx i t)
theorem wA{α:Type}:∀(l:List α) (i:Nat),(l.eraseIdx i).length≤l.length
 | [],_=>Ap _
 | _ :: _,0=>CZ _
 | _ :: r,i + 1=>F0 (wA r i)
section
variable{X:Cx}{dt:List (Ah×Obj)}{σ:St}{H:Hp}{s:Af}{l b:Ah}{xs ys zs:List V}
theorem Inv.lset{its its':List Ac}{n:Nat}{f:Array Ac→Array Ac}{t':Nat}(I:Inv X dt σ H s)(M:H l=some (.lst xs))
  (e:s.heap.get? l=some { cls:=.type "list",data:=.seq its.toArray n }) (F:f its.toArray=its'.toArray) (z:cW ys its') (hz:ys.length≤sizeLine):
  Inv X dt σ (upd H l (.lst ys)) { s with heap:=s.heap.update l (Bc f),toks:=t' }:=by
 have q:=PySem.IsL.update e f;rw[F]at q;refine I.write (x:=l) (e:=l) (by rw[M];exact trivial) (.inl rfl) (fun O u J B=>(CJ s.heap (Bc f) (Ef J)).trans B) ⟨_,q⟩ ?_;exact⟨hz,its',_,z,q⟩
theorem Inv.lnew{its:List Ac}{t':Nat}(I:Inv X dt σ H s)(z:cW ys its)(hz:ys.length≤sizeLine):
  Inv X dt σ (upd H s.heap.objs.size (.lst ys)) { s with heap:=s.heap.push { cls:=.type "list",data:=.seq its.toArray },toks:=t' }:=
 I.laid (fun _ _ q=>Ag _ q) (Ap _) ⟨hz,its,0,z,Av _ rfl⟩
theorem Inv.fresh(I:Inv X dt σ H s):H s.heap.objs.size=none:=I.hok.fresh (Ap _)
theorem Inv.lstM(I:Inv X dt σ H s)(q:H l=some (.lst xs)):xs.length≤sizeLine∧∃(its:List Ac) (n:Nat),cW xs its∧xs.length=its.length∧s.heap.get? l=some { cls:=.type "list",data:=.seq its.toArray n }:=by
 obtain⟨z,its,n,r,e⟩:=I.hok l _ q;exact⟨z,its,n,r,r.length,e⟩
end
section
variable{X:Cx}
inductive wB(x:V)(vs:List V)(H:Hp)(Q:VK):Prop
 | mk (l:_) (xs:_) (y:_) (q0:x=.ref l) (q1:vs=[y]) (q2:H l=some (.lst xs)) (q3:xs.length < sizeLine) (q4:Q .non (upd H l (.lst (xs ++ [y])))):wB x vs H Q
def aF8:V→List V→Hp→VK→Prop:=fun x vs H Q=>wB x vs H Q
theorem iW:MtM X "list.append" aF8:=by
 intro dt s σ H x vs v us Q I B J h;obtain⟨l,xs,y,rfl,rfl,hH,hz,q⟩:=h;cases B;obtain⟨u,rfl,ru⟩:=J.one;obtain⟨z,its,n,r,hl,e⟩:=I.lstM hH;refine call_meets F.slot_list_append ⟨_,e,rfl⟩ F.entry_list_append (F.args_list_append_2 _ _) (PySem.list_append l its.toArray n u (by rw[At];omega)) ⟨e,?_⟩;refine⟨.non,_,I.lset (its':=its ++ [u]) hH e (by simp) (r.append (.cons ru .nil)) ?_,rfl,q⟩;rw[AH,EZ];omega
inductive zH(x:V)(vs:List V)(H:Hp)(Q:VK):Prop
 | mk (l:_) (xs:_) (i:_) (k:_) (y:_) (q0:x=.ref l) (q1:vs=[.int i]) (q2:H l=some (.lst xs)) (q3:-(2 ^ 63)≤i) (q4:i < 2 ^ 63) (q5:seqIndex? i xs.length=some k) (q6:xs[k]?=some y) (q7:Q y (upd H l (.lst (xs.eraseIdx k)))):zH x vs H Q
def aHG:V→List V→Hp→VK→Prop:=fun x vs H Q=>zH x vs H Q
theorem zI:MtM X "list.pop" aHG:=by
 intro dt s σ H x vs v us Q I B J h;obtain⟨l,xs,i,k,y,rfl,rfl,hH,h1,h2,hk,hy,q⟩:=h;cases B;obtain⟨u,rfl,ru⟩:=J.one;obtain⟨t,rfl⟩:=ru;obtain⟨z,its,n,r,hl,e⟩:=I.lstM hH;obtain⟨w,hw,rw'⟩:=r.get hy;refine call_meets F.slot_list_pop ⟨_,e,rfl⟩ F.entry_list_pop (F.args_list_pop_2 _ _)
  (MeetsSeq.list_pop_at l its.toArray n i t k w (fitsIndex_both h1 h2) (by rw[At,← hl];exact hk) (by rw[← Dd];exact hw) (by rw[At];omega)) ⟨e,?_⟩
 refine⟨y,_,I.lset (its':=its.eraseIdx k) hH e ?_ (r.eraseIdx k) ?_,rw',q⟩
 ·show its.toArray.eraseIdxIfInBounds k=(its.eraseIdx k).toArray;rw[List.eraseIdxIfInBounds_toArray]
 ·have:=wA xs k;omega
inductive aEk(x:V)(y:V)(H:Hp)(Q:VK):Prop
 | mk (l:_) (b:_) (xs:_) (zs:_) (q0:x=.ref l) (q1:y=.ref b) (q2:H l=some (.lst xs)) (q3:H b=some (.lst zs)) (q4:xs.length + zs.length≤sizeLine) (q5:∀ p,H p=none→Q (.ref p) (upd H p (.lst (xs ++ zs)))):aEk x y H Q
def aJJ:R2:=fun x y H Q=>aEk x y H Q
theorem aBb:OpR X (binaryOp .Add) aJJ:=by
 intro dt s σ H x y v u Q I J F h;obtain⟨l,b,xs,zs,rfl,rfl,hH,hB,hz,q⟩:=h;cases J;cases F;obtain⟨z,its,n,r,hl,e⟩:=I.lstM hH;obtain⟨z2,its2,n2,r2,hl2,e2⟩:=I.lstM hB;refine PySem.P.add_list e e2 ?_ (by rw[At,At];omega);have B:its.toArray ++ its2.toArray=(its ++ its2).toArray:=by simp
 rw[B];exact⟨.ref _,_,I.lnew (t':=s.toks) (r.append r2) (by rw[AH];omega),rfl,q _ I.fresh⟩
end
section
variable{prog:AD}{w:AY}{A:AU}{E:Ac→Af→Prop}{s:Af}
end
section
variable{X:Cx}
end
section
variable{κ:Type}[DecidableEq κ]
def fF(fc:List (κ×V))(k:κ):Option V:=(fc.find? fun kv=>decide (kv.1=k)).map (·.2)
def fZ(fc:List (κ×V))(k:κ)(v:V):List (κ×V):=
 if (fc.any fun kv=>decide (kv.1=k))=true then fc.map (fun kv=>if kv.1=k then(kv.1,v) else kv) else fc ++ [(k,v)]
def aJ1(fc:List (κ×V))(k:κ):List (κ×V):=fc.filter fun kv=>decide (kv.1≠k)
theorem tI{k:κ}:fF ([]:List (κ×V)) k=none:=rfl
theorem j7{p:κ×V}{r:List (κ×V)}{k:κ}(e:p.1=k):fF (p :: r) k=some p.2:=by simp[fF,DC,e]
theorem dP{p:κ×V}{r:List (κ×V)}{k:κ}(e:¬ p.1=k):fF (p :: r) k=fF r k:=by simp[fF,DC,e]
theorem tJ(k:κ):∀ fc:List (κ×V),(fc.any fun q=>decide (q.1=k))=(fF fc k).isSome
 | []=>rfl
 | p :: r=>by
  rw[EG];by_cases e:p.1=k
  ·simp only[j7 e,Ic e,Bool.true_or,Option.isSome_some]
  ·rw[dP e,decide_eq_false e,Bool.false_or];exact tJ k r
theorem jN(fc:List (κ×V))(k:κ)(v:V):(fZ fc k v).length≤fc.length + 1:=by
 unfold fZ;split
 ·rw[Ad];omega
 ·rw[AH,A6,DB];omega
theorem tK{fc:List (κ×V)}{k:κ}(v:V)(h:fF fc k=none):fZ fc k v=fc ++ [(k,v)]:=by
 unfold fZ;rw[tJ,h];exact Ia (by decide)
theorem nV.isSome_eq{o:Option V}{u:Option Ac}(r:nV o u):o.isSome=u.isSome:=by
 cases o with
 | none=>cases u with
  | none=>rfl
  | some _=>exact(show False from r).elim
 | some _=>cases u with
  | none=>exact(show False from r).elim
  | some _=>rfl
theorem nV.getD{o:Option V}{u:Option Ac}{d:V}{d':Ac}(r:nV o u)(rd:c4 d d'):c4 (o.getD d) (u.getD d'):=by
 cases o with
 | none=>cases u with
  | none=>exact rd
  | some _=>exact(show False from r).elim
 | some _=>cases u with
  | none=>exact(show False from r).elim
  | some _=>exact r
theorem KV.val{fc:List (κ×V)}{vs:List (κ×Ac)}(r:KV fc vs)(k:κ):nV (fF fc k) (valueAt vs k):=by
 unfold KV at r
 induction r with
 | nil=>exact Ce
 | @cons p q ps F h t J=>
  obtain⟨h1,h2⟩:=h;by_cases e:p.1=k
  ·have B:q.1=k:=h1.symm.trans e;have b:valueAt (q :: F) k=some q.2:=by simp[valueAt,DC,B]
   rw[j7 e,b];exact h2
  ·have B:¬ q.1=k:=fun z=>e (h1.trans z);have b:valueAt (q :: F) k=valueAt F k:=by simp[valueAt,DC,B]
   rw[dP e,b];exact J
theorem KV.any{fc:List (κ×V)}{vs:List (κ×Ac)}(r:KV fc vs)(k:κ):(fc.any fun q=>decide (q.1=k))=vs.any fun q=>decide (q.1=k):=by
 unfold KV at r
 induction r with
 | nil=>rfl
 | cons h t z=>rw[EG,EG,z,h.1]
theorem KV.repl{fc:List (κ×V)}{vs:List (κ×Ac)}(r:KV fc vs)(k:κ){y:V}{u:Ac}(F:c4 y u):
  KV (fc.map fun B=>if B.1=k then(B.1,y) else B) (vs.map fun B=>if B.1=k then(B.1,u) else B):=by
 unfold KV at r ⊢
 induction r with
 | nil=>exact .nil
 | @cons p q ps M h t J=>
  rw[A1,A1];refine .cons ?_ J;obtain⟨h1,h2⟩:=h;by_cases e:p.1=k
  ·rw[Ib e,Ib (h1.symm.trans e)];exact⟨h1,F⟩
  ·rw[Ia e,Ia (fun z=>e (h1.trans z))];exact⟨h1,h2⟩
theorem KV.put{fc:List (κ×V)}{vs:List (κ×Ac)}(r:KV fc vs)(k:κ){y:V}{u:Ac}(q:c4 y u):KV (fZ fc k y) (stored vs k u):=by
 unfold fZ stored;rw[r.any k];by_cases e:(vs.any fun z=>decide (z.1=k))=true
 ·rw[Ib e,Ib e];exact r.repl k q
 ·rw[Ia e,Ia e];exact Paired.snoc r ⟨rfl,q⟩
theorem KV.length{fc:List (κ×V)}{vs:List (κ×Ac)}(r:KV fc vs):fc.length=vs.length:=Gh r
end
theorem qU{P:AD}{w:AY}{k:Key}{u:Ac}(r:c4 (kV k) u):(c8 P w).is k u=true:=by
 cases k with
 | inl i=>obtain⟨t,e⟩:=(show∃ t,u=Cg i t from r);subst e;exact yZ P w i t
 | inr x=>obtain⟨t,e⟩:=(show∃ t,u=By x t from r);subst e;exact y8 P w x t
theorem wC{P:AD}{w:AY}:∀{ks:List Key}{us:List Ac},cW (ks.map kV) us→ItemsAre (c8 P w) ks us
 | [],_,r=>by rw[Eo]at r;cases r;exact .nil
 | k :: ks,_,r=>by
  rw[A1]at r;cases r with
  | cons h t=>exact .cons (qU h) (wC t)
abbrev KT(H:Hp):List (List Key×V)→List (List Key×Ah×Ac)→Prop:=Gn fun p q=>p.1=q.1∧H q.2.1=some (.tup (p.1.map kV))∧c4 p.2 q.2.2
theorem KT.val{H:Hp}{fc:List (List Key×V)}{xs:List (List Key×Ah×Ac)}(r:KT H fc xs)(k:List Key):nV (fF fc k) ((atKey xs k).map (·.2)):=by
 induction r with
 | nil=>exact Ce
 | @cons p q ps F h t J=>
  obtain⟨h1,_,h2⟩:=h;by_cases e:p.1=k
  ·have B:q.1=k:=h1.symm.trans e;have b:atKey (q :: F) k=some q.2:=by simp[atKey,DC,B]
   rw[j7 e,b];exact h2
  ·have B:¬ q.1=k:=fun z=>e (h1.trans z);have b:atKey (q :: F) k=atKey F k:=by simp[atKey,DC,B]
   rw[dP e,b];exact J
theorem KT.repl{H:Hp}{fc:List (List Key×V)}{xs:List (List Key×Ah×Ac)}(r:KT H fc xs)(k:List Key){y:V}{u:Ac}(F:c4 y u):
  KT H (fc.map fun B=>if B.1=k then(B.1,y) else B) (xs.map (putAt k u)):=by
 induction r with
 | nil=>exact .nil
 | @cons p q ps M h t J=>
  rw[A1,A1];refine .cons ?_ J;obtain⟨h1,h2,h3⟩:=h;unfold putAt;by_cases e:p.1=k
  ·rw[Ib e,Ib (h1.symm.trans e)];exact⟨h1,h2,F⟩
  ·rw[Ia e,Ia (fun z=>e (h1.trans z))];exact⟨h1,h2,h3⟩
theorem KT.put{H:Hp}{fc:List (List Key×V)}{xs:List (List Key×Ah×Ac)}(r:KT H fc xs)(k:List Key){b:Ah}{y:V}{u:Ac}(B:H b=some (.tup (k.map kV)))(z:c4 y u):
  KT H (fZ fc k y) (storedH xs k b u):=by
 have e:(fc.any fun F=>decide (F.1=k))=(atKey xs k).isSome:=by
  rw[tJ,(r.val k).isSome_eq,Option.isSome_map]
 unfold fZ storedH;rw[e];by_cases q:(atKey xs k).isSome=true
 ·rw[Ib q,Ib q];exact r.repl k z
 ·rw[Ia q,Ia q];exact Paired.snoc r ⟨rfl,B,z⟩
theorem KT.keeps{H H':Hp}{fc:List (List Key×V)}{xs:List (List Key×Ah×Ac)}(r:KT H fc xs)(ht:∀ b ys,H b=some (.tup ys)→H' b=some (.tup ys)):KT H' fc xs:=
 Paired.mapP r fun _ _ z=>⟨z.1,ht _ _ z.2.1,z.2.2⟩
section
variable{P:AD}{w:AY}{H:Hp}{h:Bm}{a:Ah}
theorem aG1{u:HO}(ok:HOk P w H h)(e:Rd H a u):dA P w H h a u:=e.ok ok
theorem wD{fc:List (Key×V)}(ok:HOk P w H h)(e:Rd H a (.dK fc)):fc.length≤sizeLine∧(a == sysModules)=false∧∃ vs,KV fc vs∧h.DictOf (c8 P w) a vs:=
 show dA P w H h a (.dK fc) from aG1 ok e
theorem zJ{fc:List (Key×V)}(ok:HOk P w H h)(e:H a=some (.dK fc)):fc.length≤sizeLine∧(a == sysModules)=false∧∃ vs,KV fc vs∧h.DictOf (c8 P w) a vs:=wD ok (.inl e)
theorem yA{ks:List Key}(ok:HOk P w H h)(e:H a=some (.tup (ks.map kV))):(tupleKind (c8 P w)).is h ks a:=by
 obtain⟨_,its,r,o,h1,⟨h2,n,h3⟩,_⟩:=(show dA P w H h a (.tup (ks.map kV)) from ok a _ e)
 exact⟨o,its.toArray,n,h1,h2,h3,by simpa using wC r⟩
theorem zK{fc:List (List Key×V)}(ok:HOk P w H h)(e:Rd H a (.dT fc)):fc.length≤sizeLine∧(a == sysModules)=false∧
  ∃ xs,KT H fc xs∧h.DictOfH (tupleKind (c8 P w)) a xs:=by
 obtain⟨z,y,xs,r,o,es,ep,h1,h2,h3,h4,h5⟩:=(show dA P w H h a (.dT fc) from aG1 ok e)
 refine⟨z,y,xs,r,o,es,ep,h1,h2,h3,h4,fun x B=>?_,h5⟩;have all:∀{l:List (List Key×V)} {m:List (List Key×Ah×Ac)},KT H l m→∀ x∈m,(tupleKind (c8 P w)).is h x.1 x.2.1:=by
  intro l m q
  induction q with
  | nil=>intro x B;exact nomatch B
  | @cons p q ps M F t J=>
   intro x B;rcases Ao.mp B with e | B
   ·subst e;exact yA ok (by rw[← F.1];exact F.2.1)
   ·exact J x B
 exact all r x B
theorem aIM{fc:List (List Key×V)}(ok:HOk P w H h)(e:H a=some (.dT fc)):fc.length≤sizeLine∧(a == sysModules)=false∧
  ∃ xs,KT H fc xs∧h.DictOfH (tupleKind (c8 P w)) a xs:=zK ok (.inl e)
end
def qA(H:Hp)(a:Ah)(y:V)(r:Option V):Prop:=
 (∃ fc k,Rd H a (.dK fc)∧y=kV k∧r=fF fc k)∨∃ fc k b,Rd H a (.dT fc)∧y=.ref b∧H b=some (.tup (k.map kV))∧r=fF fc k
def zL(H:Hp)(a:Ah)(y v:V)(H':Hp):Prop:=
 (∃ fc k,H a=some (.dK fc)∧y=kV k∧fc.length < sizeLine∧H'=upd H a (.dK (fZ fc k v)))∨
 ∃ fc k b,H a=some (.dT fc)∧y=.ref b∧H b=some (.tup (k.map kV))∧fc.length < sizeLine∧H'=upd H a (.dT (fZ fc k v))
theorem qA.k{H:Hp}{a:Ah}{fc:List (Key×V)}{k:Key}(e:H a=some (.dK fc)):qA H a (kV k) (fF fc k):=.inl ⟨fc,k,.inl e,rfl,rfl⟩
theorem zL.k{H:Hp}{a:Ah}{fc:List (Key×V)}{k:Key}{v:V}(e:H a=some (.dK fc))(q:fc.length < sizeLine):zL H a (kV k) v (upd H a (.dK (fZ fc k v))):=.inl ⟨fc,k,e,rfl,q,rfl⟩
section
variable{X:Cx}{dt:List (Ah×Obj)}{σ:St}{H:Hp}{s:Af}{a:Ah}{y v:V}{u r:Ac}{o:Option V}{A:AU}{E:Ac→Af→Prop}
theorem Inv.big(I:Inv X dt σ H s):sysModules < s.heap.objs.size:=by
 have h:mainGlobals < s.heap.objs.size:=(I.mod.glob.keeps I.bk).lt;exact DV (by decide) h
theorem aDc{Q:Ac→Af→Prop}(F:A.units + 1 < cLine)(I:Inv X dt σ H s)(g:qA H a y (some v))(B:c4 y u)(h:∀ q s',Inv X dt σ H s'→c4 v q→Q q s'):
  wpAny (model X.prog X.w) A (getItem (.ref a) u) Q E s:=by
 rcases g with⟨fc,k,e,ey,l⟩ | ⟨fc,k,b,e,ey,eb,l⟩
 ·subst ey;obtain⟨z,hd,vs,rel,dd⟩:=wD I.hok e;obtain⟨q,hw,rw'⟩:=nV.some_of (v:=v) (o:=valueAt vs k) (by rw[l];exact rel.val k);exact wpAny_getItem_of (qU B) dd.mapOf hw (h q _ (I.tok _) rw')
 ·subst ey;cases(show u=AI b from B);obtain⟨z,hd,xs,rel,dd⟩:=zK I.hok e;obtain⟨q,hw,rw'⟩:=nV.some_of (v:=v) (o:=(atKey xs k).map (·.2)) (by rw[l];exact rel.val k)
  obtain⟨p,hp,hp2⟩:=DJ.mp hw;refine wpAny_getItem_heap (FY F) (yA I.hok eb) dd hp ?_;rw[hp2];exact h q _ (I.tok _) rw'
theorem rY{h':Bm}{t':Nat}{ob:HO}(I:Inv X dt σ H s)(B:Mut (H a))(F:DS a s.heap h')(J:∃ q,h'.get? a=some q)(new:dA X.prog X.w (upd H a ob) h' a ob):
  Inv X dt σ (upd H a ob) { s with heap:=h',toks:=t' }:=
 I.write (x:=a) (e:=a) B (.inl rfl) (fun b q M z=>(F.2 b M).trans z) J new
theorem aBc{P:AD}{w:AY}{H':Hp}{h':Bm}{fc:List (Key×V)}{vs:List (Key×Ac)}(z:fc.length≤sizeLine)(hd:(a == sysModules)=false)(rel:KV fc vs)(q:h'.DictOf (c8 P w) a vs):
  dA P w H' h' a (.dK fc):=⟨z,hd,vs,rel,q⟩
theorem aDd{H':Hp}{Q:Unit→Af→Prop}(Y:A.units + 1 < cLine)(I:Inv X dt σ H s)(g:zL H a y v H')(M:c4 y u)(U:c4 v r)(h:∀ s',Inv X dt σ H' s'→Q () s'):
  wpAny (model X.prog X.w) A (setItem (.ref a) u r) Q E s:=by
 rcases g with⟨fc,k,e,ey,l,eH⟩ | ⟨fc,k,b,e,ey,eb,l,eH⟩
 ·subst ey eH;obtain⟨z,hd,vs,rel,dd⟩:=zJ I.hok e;have hz:vs.length≤sizeLine:=by rw[← rel.length];exact z
  have J:(fZ fc k v).length≤sizeLine:=by have:=jN fc k v;omega
  refine wpAny_setItem_pairs (hsz:=hz) (qU M) dd fun h' B F=>h _ ?_;have W:∃ q,h'.get? a=some q:=let ⟨q,_,_,hq,_⟩:=B;⟨q,hq⟩
  exact rY I (by rw[e];exact Ce) F W (aBc J hd (rel.put k U) B)
 ·subst ey eH;cases(show u=AI b from M);obtain⟨z,hd,xs,rel,dd⟩:=aIM I.hok e;have hz:xs.length≤sizeLine:=by rw[← Gh rel];exact z
  have J:(fZ fc k v).length≤sizeLine:=by have:=jN fc k v;omega
  refine wpAny_setItem_heap (hsz:=hz) (FY Y) (yA I.hok eb) dd fun h' B F=>h _ ?_;obtain⟨q,es,ep,hq,h2,h3,h4,_,h5⟩:=B;refine rY I (by rw[e];exact Ce) F ⟨q,hq⟩ ⟨J,hd,_,(rel.put k eb U).keeps fun c ys O=>?_,q,es,ep,hq,h2,h3,h4,h5⟩;rw[bI (aD0 O e (fun z=>nomatch z))];exact O
end
section
variable{X:Cx}{dt:List (Ah×Obj)}{σ:St}{H:Hp}{s:Af}{a:Ah}{fc:List (Key×V)}{k:Key}{u:Ac}{A:AU}{E:Ac→Af→Prop}
theorem aIP{Q:Ac→Af→Prop}(I:Inv X dt σ H s)(e:Rd H a (.dK fc))(h:∀ t s',Inv X dt σ H s'→Q (.int fc.length t) s'):wpAny (model X.prog X.w) A (call (.builtin "len") [.ref a]) Q E s:=by
 obtain⟨z,hd,vs,rel,dd⟩:=wD I.hok e;refine call_len_dict hd dd (by rw[← rel.length];rw[Fw]at z;omega) ?_;rw[← rel.length];exact h _ _ (I.tok _)
end
def aHH(i:Br):Prop:=∀ ov iv,subscripted i false ov iv=operate [ov,iv] (getItem ov iv)
theorem aB9{prog:AD}{w:AY}{A:AU}{E:Ac→Af→Prop}{s:Af}{env:Env}{value q:Br}{pos:Pos}{T id:String}{Q:Ac→Af→Prop}
  (W:typeLookup (.type T) "__getitem__"=pure (some (.builtin id))) (M:aHH q)
  (h:wpAny (model prog w) A (eval value env) (fun o F=>wpAny (model prog w) A (eval q env) (fun i z=>z.TypeIs o T∧wpAny (model prog w) A (getItem o i) Q E z) E F) E s):
  wpAny (model prog w) A (eval (.Subscript value q pos) env) Q E s:=by
 refine Subscript_ (B8 h (fun o F U=>B8 U (fun i z B=>?_) fun _ _ x=>x) fun _ _ x=>x);obtain⟨hT,B⟩:=B;unfold subscriptTail;refine Aa ?_;rw[getitemInPython_of_ne hT.not_modules];refine Aa (DP hT W ?_);have fin:wpAny (model prog w) A (subscripted q false o i) (fun r J=>wpAny (model prog w) A (letTemporaryGo value o r >>= fun _=>pure r) Q E J) E z:=by
  rw[M o i];exact wpAny_operating (B8 B (fun r J O=>Aa (wpAny_letTemporaryGo (Ae O))) fun _ _ x=>x)
 first
  | exact Ae (Aa fin)
  | exact Aa (Ae (Aa fin))
  | exact Aa fin
theorem zM{X:Cx}{dt:List (Ah×Obj)}{σ:St}{H:Hp}{s:Af}{a:Ah}{y:V}{o:Option V}(I:Inv X dt σ H s)(g:qA H a y o):s.TypeIs (.ref a) "dict":=by
 rcases g with⟨fc,k,e,_,_⟩ | ⟨fc,k,b,e,_,_,_⟩
 ·obtain⟨_,_,vs,_,dd⟩:=wD I.hok e;exact dd.typeIs
 ·obtain⟨_,_,xs,_,dd⟩:=zK I.hok e;exact dd.typeIs
def aIQ(td ty:TE):TE:=fun σ H Q=>td σ H fun x H1=>ty σ H1 fun y H2=>∃ a v,x=.ref a∧qA H2 a y (some v)∧Q v H2
def aIS(td ty tv:TE):TS:=fun D σ H=>tv σ H fun v H1=>td σ H1 fun x H2=>ty σ H2 fun y H3=>∃ a H4,x=.ref a∧zL H3 a y v H4∧D.nx σ H4
section
variable{X:Cx}{o i e value:Br}{pos fq tpos:Pos}{td ty tv:TE}
theorem o0(hu:X.A.units + 1 < cLine)(M:PE X o td)(hi:PE X i ty)(J:aHH i):PE X (.Subscript o i pos) (aIQ td ty):=by
 constructor;intro dt s σ H Q I h;refine aB9 PySem.F.slot_dict_getitem.lookup J (thn (M dt s σ H _ I h) fun u O ⟨x,H1,U,Y,B⟩=>thn (hi dt O σ H1 _ U B) fun iv s2 ⟨y,H2,z,W,a,v,ex,g,q2⟩=>?_);subst ex;obtain rfl:u=AI a:=Y;exact⟨zM z g,aDc hu z g W fun w' s3 Z q=>⟨v,H2,Z,q,q2⟩⟩
theorem yB(hu:X.A.units + 1 < cLine)(F:PE X o td)(hi:PE X i ty)(O:PE X value tv)(B:swapsWith value (some (.Subscript o i fq)) pos.line X.env=pure false):
  PS X (.Assign [.Subscript o i fq] value pos) (aIS td ty tv):=by
 constructor;intro dt s σ H D I h;refine wpAny_Assign_Subscript (thn (O dt s σ H _ I h) fun r J ⟨v,H1,M,rv,q⟩=>thn (F dt J σ H1 _ M q) fun u Y ⟨x,H2,Z,rx,q2⟩=>thn (hi dt Y σ H2 _ Z q2) fun iv s3 ⟨y,H3,I3,W,a,U,ex,g,z⟩=>?_) B;subst ex;obtain rfl:u=AI a:=rx;exact aDd hu I3 g W rv fun s4 I4=>⟨σ,U,I4,z⟩
end
theorem zN{P:AD}{w:AY}{H:Hp}(h:Bm)(q:sysModules < h.objs.size):dA P w H (h.push { cls:=.type "dict",data:=.dict #[] }) h.objs.size (.dK []):=
 ⟨A3 _,beq_eq_false_iff_ne.mpr (Ef (AC q)),[],.nil,Heap.DictOf.new h⟩
def aHI:TE:=fun _ H Q=>∀ p,H p=none→Q (.ref p) (upd H p (.dK []))
section
variable{X:Cx}{pos:Pos}
theorem zO:PE X (.Dict [] [] pos) aHI:=⟨fun dt s σ H Q I h=>
 wpAny_Dict_empty ⟨.ref s.heap.objs.size,_,I.laid (a:=s.heap.objs.size) (o:=.dK []) (t':=s.toks) (fun _ _ q=>Ag _ q) (Ap _) (zN s.heap I.big),rfl,h _ (I.hok.fresh (Ap _))⟩⟩
end
def aBd:List (TE×TE)→St→Hp→(List (V×V)→Hp→Prop)→Prop
 | [],_,H,Q=>Q [] H
 | (tk,tv) :: r,σ,H,Q=>tk σ H fun x H1=>tv σ H1 fun y H2=>aBd r σ H2 fun ps H3=>Q ((x,y) :: ps) H3
abbrev VV:List (V×V)→List (Ac×Ac)→Prop:=Gn fun p q=>c4 p.1 q.1∧c4 p.2 q.2
def PPs(X:Cx)(pos:Pos)(keys:List (Option Br))(values:List Br)(trs:List (TE×TE)):Prop:=
 ∀(dt:List (Ah×Obj)) (s:Af) (σ:St) (H:Hp) (Q:List (V×V)→Hp→Prop),Inv X dt σ H s→aBd trs σ H Q→
  wpAny (model X.prog X.w) X.A (evalPairs (pairTrees keys values X.env pos)) (fun vs s'=>∃ ps H',Inv X dt σ H' s'∧VV ps vs∧Q ps H') X.xe s
theorem aCa{X:Cx}{pos:Pos}:PPs X pos [] [] []:=fun dt s σ H Q I h=>pairTrees_nil_walk ⟨[],H,I,.nil,h⟩
theorem iJ{X:Cx}{pos:Pos}{k v:Br}{ks:List (Option Br)}{vs:List Br}{tk tv:TE}{q:List (TE×TE)}(Z:PE X k tk)(O:PE X v tv)(W:PPs X pos ks vs q):
  PPs X pos (some k :: ks) (v :: vs) ((tk,tv) :: q):=fun dt s σ H Q I h=>
 pairTrees_cons_walk (thn (Z dt s σ H _ I h) fun u J ⟨x,H1,M,rx,z⟩=>thn (O dt J σ H1 _ M z) fun w2 Y ⟨y,H2,I2,U,q2⟩=>
  thn (W dt Y σ H2 _ I2 q2) fun ws s3 ⟨ps,F,I3,rel,B⟩=>⟨(x,y) :: ps,F,I3,.cons ⟨rx,U⟩ rel,B⟩)
def oI(fc more:List (Key×V)):List (Key×V):=more.foldl (fun acc kv=>fZ acc kv.1 kv.2) fc
theorem KV.merge:∀{z:List (Key×V)}{rs:List (Key×Ac)}{fc:List (Key×V)}{vs:List (Key×Ac)},KV z rs→KV fc vs→KV (oI fc z) (merged vs rs):=by
 intro z rs fc vs r;unfold KV at r
 induction r generalizing fc vs with
 | nil=>intro q;exact q
 | @cons p q ps J h t F=>
  intro B;have e:KV (fZ fc p.1 p.2) (stored vs q.1 q.2):=by
   have:=B.put p.1 h.2;rw[← h.1];exact this
  exact F e
theorem nZ:∀(q fc:List (Key×V)),(oI fc q).length≤fc.length + q.length
 | [],fc=>by show fc.length≤fc.length + 0;omega
 | p :: r,fc=>by
  have h1:=nZ r (fZ fc p.1 p.2);have h2:=jN fc p.1 p.2;show(oI (fZ fc p.1 p.2) r).length≤_;rw[A6];omega
theorem tM{P:AD}{w:AY}:∀{fc:List (Key×V)}{z:List (Ac×Ac)},VV (fc.map fun B=>(kV B.1,B.2)) z→∃ rs,Carries (c8 P w) z rs∧KV fc rs
 | [],_,r=>by rw[Eo]at r;cases r;exact⟨[],Ce,.nil⟩
 | p :: fc,_,r=>by
  rw[A1]at r;cases r with
  | @cons a b as bs h t=>
   obtain⟨rs,c,q⟩:=tM (P:=P) (w:=w) t;obtain⟨b1,b2⟩:=b;exact⟨(p.1,b2) :: rs,⟨qU h.1,rfl,c⟩,.cons ⟨rfl,h.2⟩ q⟩
def aIT(trs:List (TE×TE)):TE:=fun σ H Q=>∀ p,H p=none→aBd trs σ (upd H p (.dK [])) fun ps H2=>H2 p=some (.dK [])∧∃ fc:List (Key×V),ps=fc.map (fun kv=>(kV kv.1,kv.2))∧fc.length≤15∧Q (.ref p) (upd H2 p (.dK (oI [] fc)))
theorem aCb{X:Cx}{pos:Pos}{B:List (Option Br)}{F:List Br}{O:List (TE×TE)}(h:PPs X pos B F O)(M:B.all (·.isSome)=true)(hl:B.length=F.length)(h0:B≠[])
  (U:B.length≤15):PE X (.Dict B F pos) (aIT O):=by
 constructor;intro dt s σ H Q I q;have hn:=I.hok.fresh (Ap s.heap.objs.size);have Z:=I.laid (a:=s.heap.objs.size) (o:=.dK []) (h':=s.heap.push { cls:=.type "dict",data:=.dict #[] }) (t':=s.toks) (fun _ _ q=>Ag _ q) (Ap _) (zN s.heap I.big);refine wpAny_Dict_walk (knd:=c8 X.prog X.w) M hl h0 U (thn (h dt _ σ _ _ Z (q _ hn)) fun ws s2 ⟨ps,H2,W,rel,e,fc,ep,lk,q2⟩=>?_);subst ep;obtain⟨rs,c,rk⟩:=tM (P:=X.prog) (w:=X.w) rel;obtain⟨z,hd,vs0,r0,dd⟩:=zJ W.hok e;cases r0;refine⟨rs,c,dd,fun h' J Y=>⟨.ref s.heap.objs.size,_,?_,rfl,q2⟩⟩;have hz:(oI [] fc).length≤sizeLine:=by
  have h1:=nZ fc [];rw[DB]at h1;rw[Fw];omega
 have he:∃ q,h'.get? s.heap.objs.size=some q:=let ⟨q,_,_,hq,_⟩:=J;⟨q,hq⟩
 exact rY W (by rw[e];exact Ce) Y he (aBc hz hd (rk.merge .nil) J)
structure M1(X:Cx)(o:Br)(m:Str)(fh:Pos)(e:Br)(ff:Pos):Prop where
 base:attributeBase o m X.env (eval o X.env)=eval o X.env
 few:((backTo ff (starEach [e] X.env)).all (fun x=>!x.1) && (backToKw ff (keywordEach [] X.env)).all (fun x=>x.1.isSome)
  && decide (([e]:List Br).length + ([]:List EC).length + (if ([]:List EC).isEmpty then 0 else 1) < 30))=true
 line:(fh.endLine == ff.line)=true
 trees:backTo ff (starEach [e] X.env)=[(false,eval e X.env)]
structure M2(X:Cx)(o:Br)(m:Str)(fh:Pos)(e f:Br)(ff:Pos):Prop where
 base:attributeBase o m X.env (eval o X.env)=eval o X.env
 few:((backTo ff (starEach [e,f] X.env)).all (fun x=>!x.1) && (backToKw ff (keywordEach [] X.env)).all (fun x=>x.1.isSome)
  && decide (([e,f]:List Br).length + ([]:List EC).length + (if ([]:List EC).isEmpty then 0 else 1) < 30))=true
 line:(fh.endLine == ff.line)=true
 trees:backTo ff (starEach [e,f] X.env)=[(false,eval e X.env),(false,eval f X.env)]
def IsD(H:Hp)(a:Ah):Prop:=(∃ fc,Rd H a (.dK fc))∨∃ fc,Rd H a (.dT fc)
theorem aBe{X:Cx}{dt:List (Ah×Obj)}{σ:St}{H:Hp}{s:Af}{a:Ah}(I:Inv X dt σ H s)(d:IsD H a):
  s.TypeIs (.ref a) "dict"∧(∀ b,AI a=.ref b→∃ ob,s.heap.get? b=some ob∧ob.dict=none)∧(a == sysModules)=false:=by
 rcases d with⟨fc,e⟩ | ⟨fc,e⟩
 ·obtain⟨_,hd,vs,_,dd⟩:=wD I.hok e;refine⟨dd.typeIs,fun b q=>?_,hd⟩;cases q;obtain⟨ob,_,_,h1,h2,_⟩:=dd;exact⟨ob,h1,h2.2.1⟩
 ·obtain⟨_,hd,xs,_,dd⟩:=zK I.hok e;refine⟨dd.typeIs,fun b q=>?_,hd⟩;cases q;obtain⟨ob,_,_,h1,h2,_⟩:=dd;exact⟨ob,h1,h2.2.1⟩
section
variable{X:Cx}{dt:List (Ah×Obj)}{σ:St}{H:Hp}{s:Af}{a:Ah}{y d:V}{u r:Ac}{o:Option V}{A:AU}{E:Ac→Af→Prop}
theorem aHJ{Q:Ac→Af→Prop}(J:A.units + 1 < cLine)(I:Inv X dt σ H s)(g:qA H a y o)(q:c4 y u)(rd:c4 d r)(h:∀ B s',Inv X dt σ H s'→c4 (o.getD d) B→Q B s'):
  wpAny (model X.prog X.w) A (call (.builtin "dict.get") [.ref a,u,r]) Q E s:=by
 rcases g with⟨fc,k,e,ey,l⟩ | ⟨fc,k,b,e,ey,eb,l⟩
 ·subst ey;obtain⟨z,hd,vs,rel,dd⟩:=wD I.hok e;refine Ga EO dd.typeIs PySem.F.entry_dict_get (PySem.F.args_dict_get_3 _ _ _) (meets_dict_get_default (c8 X.prog X.w) a (qU q) hd r) ⟨_,dd.mapOf,h _ _ (I.tok _) ?_⟩;rw[l];exact(rel.val k).getD rd
 ·subst ey;cases(show u=AI b from q);obtain⟨z,hd,xs,rel,dd⟩:=zK I.hok e;refine Ga EO dd.typeIs PySem.F.entry_dict_get (PySem.F.args_dict_get_3 _ _ _) (meetsH_dict_get_default (tupleKind (c8 X.prog X.w)) a b hd r) ⟨FY J,k,xs,yA I.hok eb,dd,h _ _ (I.tok _) ?_⟩;rw[l];exact(rel.val k).getD rd
end
def aHK(td ty tx:TE):TE:=fun σ H Q=>td σ H fun x H1=>∃ a,x=.ref a∧IsD H1 a∧ty σ H1 fun y H2=>tx σ H2 fun z H3=>∃ o,qA H3 a y o∧Q (o.getD z) H3
section
variable{X:Cx}{o e f:Br}{fh ff:Pos}{td ty tx:TE}
theorem aEl(hu:X.A.units + 1 < cLine)(U:PE X o td)(he:PE X e ty)(hf:PE X f tx)(m:M2 X o "get" fh e f ff):PE X (.Call (.Attribute o "get" fh) [e,f] [] ff) (aHK td ty tx):=by
 constructor;intro dt s σ H Q I h;refine wpAny_Call_method m.base m.few m.line Ez EO PySem.F.type_dict_get (thn (U dt s σ H _ I h) fun u W ⟨x,H1,B,rx,a,ex,d,J⟩=>?_);subst ex;obtain rfl:u=AI a:=rx;obtain⟨t1,t2,_⟩:=aBe B d;refine⟨t1,t2,?_⟩;rw[m.trees];refine DN rfl (E3 (DE (thn (he dt W σ H1 _ B J) fun iv Z ⟨y,H2,I2,Y,q2⟩=>
  DE (thn (hf dt Z σ H2 _ I2 q2) fun fv s3 ⟨z,O,I3,rz,ov,g,M⟩=>FB ?_))))
 exact aHJ hu I3 g Y rz fun w' s4 I4 q=>⟨_,O,I4,q,M⟩
end
section
variable{X:Cx}{dt:List (Ah×Obj)}{σ:St}{H:Hp}{s:Af}{a:Ah}{fc:List (Key×V)}{A:AU}{E:Ac→Af→Prop}
end
section
variable{X:Cx}{dt:List (Ah×Obj)}{σ:St}{H:Hp}{s:Af}{a:Ah}{y:V}{u:Ac}{A:AU}{E:Ac→Af→Prop}
end
end L2
namespace Att
open PySem PySem.W PySem.Calls PyProof.Rows
theorem rU{P:Params}{h:Bm}:∀(ns:List Int) (vs:List Ac),WellAll P h vs (ns.map WData.int)→Hd vs ns:=by
 intro ns
 induction ns with
 | nil=>
  intro vs w;rw[Eo]at w;cases w;exact .nil
 | cons n ns q=>
  intro vs w;rw[A1]at w;cases w with
  | cons a b=>
   cases a;exact .cons _ _ (q _ b)
theorem aDe{l:OpenLaw}{n:Nat}(hn:l.most=some n){P:Params}{h:Bm}{args:List WData}{z:List Ac}
  (B:l.row.toRowW.claim.pre args=true) (W:WellAll P h z args):
  ∃ a vs ns,z=[AI a]∧args=[WData.list (ns.map WData.int)]∧h.get? a=some { cls:=.type "list",data:=.seq vs.toArray }∧Hd vs ns∧ns.length≤n:=by
 have U:WShape.hasAll [] args [.list .int]=true:=(pre_splitW B).1;have hc:l.pre.holds [] { args:=args }=true:=(pre_splitW B).2;obtain⟨d,r,rfl,h1,h2⟩:=hasAllW_cons U;obtain rfl:=hasAllW_nil h2;obtain⟨xs,rfl,h3⟩:=hasW_list h1;obtain⟨ns,rfl⟩:=items_int h3;have J:ns.length≤n:=by
  unfold OpenLaw.pre at hc;have M:(WTm.not (.lt (.lit (.int (n:Int))) (.len (.arg 0)))).holds [] { args:=[.list (ns.map .int)] }=true:=by
   have M:=(holds_andW hc).1;rw[hn]at M;exact M
  have O:=condW_of M (w_not (w_lt w_lit (w_len_list (w_arg rfl))));rw[Ad]at O;refine Nat.le_of_not_lt fun q=>?_;have q':(n:Int) < ((ns.length:Nat):Int):=by omega
  first
   | (rw[Ic q']at O;exact absurd O (by decide))
   | (simp at O;omega)
 cases W with
 | cons w1 Z=>
  cases Z;cases w1 with
  | list Y F=>exact⟨_,_,ns,rfl,rfl,Y,rU ns _ F,J⟩
theorem aDf(l:OpenLaw)(args:List WData):l.row.toRowW.claim.post args (.bool true) args=true:=
 postW_of (r:=l.row.toRowW) (X:=(true == true))
  (show WShape.has [] (.bool true) .bool=true by first | rfl | decide | simp[WShape.has,WShape.arms,WShape.armsAll])
  (show(WTm.eq .res (.lit (.bool true))).value [] { args:=args,res:=some (.bool true),after:=args }=some (.bool (true == true)) from w_eq_bool (w_res rfl) w_lit) rfl
theorem attach_call{l:OpenLaw}{n:Nat}{q:AD}{z:List Str}{XP:(Str→Option Ac)→Bm→Prop}{YP:AY→Bm→Prop}{d:DefRec}
  (hn:l.most=some n) (Z:d.params.defaults=[])
  (call:∀(w:AY) (s₀ B:Af) (mg mb:Str→Option Ac) (J:Ah) (o:Obj) (O cd F:Ac) (a:Ah) (vs:List Ac) (ns:List Int),
   Ground q z [] XP w s₀ mg mb B.heap→YP w B.heap→
   B.heap.get? J=some o→o.data=.func (docDef d.name d.params d.body d.scope O cd F)→B.heap.CodeRec cd d.name→mg d.name=some (.ref J)→
   B.heap.get? a=some { cls:=.type "list",data:=.seq vs.toArray }→Hd vs ns→ns.length≤n→B.gens=#[]→
   codeAny (model l.prog w) callerA (.call (.ref J) ⟨[.ref a],[]⟩) (fun r s'=>r=.ok (.ret (.bool true))∧OldK B.heap s'.heap∧s'.os=B.os∧EE s'.gens) B):
  WalkO q z XP YP l.row.toRowW d [] (fun f vs=>GM f vs):=by
 intro w s₀ B mg mb G Y J o O cd F dV kV ho hd W hD aa hg ad ac as M ae aj U am;obtain rfl:dV=.none:=Dflts.none hD Z;obtain rfl:kV=.none:=Dflts.noKw hD;obtain⟨a,vs,ns,rfl,rfl,hobj,hints,hlen⟩:=aDe hn M U;refine enter_call (C1 (call w s₀ B mg mb J o O cd F a vs ns G Y ho (fd_plain hd) W aa hobj hints hlen hg) fun r s' hq=>?_);obtain⟨rfl,h2,h3,h4⟩:=hq;exact⟨.inl ⟨.bool true,.bool true,[],rfl,fun _=>rfl,.bool true,aDf l _,fun _=>⟨Dv,fun _ hm=>(nomatch hm)⟩⟩,h2,h3,h4⟩
section
variable{prog:AD}{w:AY}{A:AU}{E:Ac→Af→Prop}{s:Af}{K:Frag}
end
end Att
namespace L2
open PySem PySem.Spec PyProof.Rows
theorem wE:∀{vs:List Ac}{ns:List Int},Hd vs ns→cW (ns.map V.int) vs
 | _,_,.nil=>.nil
 | _,_,.cons n t h=>.cons ⟨t,rfl⟩ (wE h)
def aHL(H:Hp):Prop:=∀ b,H b=none∨∃ o xs,H b=some (.frz o (.lst xs))
theorem aEm{P:AD}{w:AY}{K:Ai}{mg mb:Str→Option Ac}{CX:CXT}{k:Nat}{fa a:Ah}{fd:AK}{x:Str}{sp:Sp}{B:Af}{vs:List Ac}{ns:List Int}
  (KX:K.In B.heap) (aa:B.heap.Ns mainGlobals mg) (M:B.heap.Ns builtinsNs mb) (ai:∀ x:Str,x≠"__name__"→mb x=bootBuiltins x) (ab:B.heap.NoLimit) (hg:B.gens=#[])
  (ha:B.heap.get? a=some { cls:=.type "list",data:=.seq vs.toArray }) (hi:Hd vs ns) (hl:ns.length≤sizeLine) (hr:cS k callerA)
  (F:∀ base:Bm,K.In base→base.Ns mainGlobals mg→cQ P w K mg base CX k fa fd [x] sp) (W:∀(s:Af) (u:Ac),Gf s fd ⟨[u],[]⟩ [(x,u)])
  (aj:∀ H:Hp,aHL H→SqL K H a (ns.map V.int)→sp [.ref a] H (fun v _=>v=.bl true) fun _ _ _=>False)
  (ae:∀ H e s',CX [] H B (fun _ _ _=>False) e s'→False):
  codeAny (model P w) callerA (.call (.ref fa) ⟨[.ref a],[]⟩) (fun r s'=>r=.ok (.ret (.bool true))∧OldK B.heap s'.heap∧s'.os=B.os∧EE s'.gens) B:=by
 have rv:=wE hi;have ac:=hi.length;have U:∀ H:Hp,aHL H→SqL K H a (ns.map V.int)→HOk P w H B.heap→(∀ b,H b≠none→b=a)→(H a≠none→K.lookup a=none)→
   codeAny (model P w) callerA (.call (.ref fa) ⟨[.ref a],[]⟩) (fun r s'=>r=.ok (.ret (.bool true))∧OldK B.heap s'.heap∧s'.os=B.os∧EE s'.gens) B:=by
  intro H hO hS hok hA hK;have J:∀{b:Ah} {o:Obj},B.heap.get? b=some o→H b=none→(xX B.heap H).get? b=some o:=fun e n=>aD1 e n;have ah:∀{b:Ah} {o:Obj} {es:Array DictEntry} {ep:Nat},B.heap.get? b=some o→o.data=.dict es ep→H b=none:=fun{b o es ep} e d=>by
   cases q:H b with
   | none=>rfl
   | some u=>
    have e':b=a:=hA b (by rw[q];simp);subst e';rw[ha]at e;cases e;have d':Ci vs.toArray _=Data.dict es ep:=d;cases d'
  have O:∀{b:Ah} {m:Str→Option Ac},B.heap.Ns b m→(xX B.heap H).Ns b m:=fun{b m} ⟨o,es,ep,e,d,r⟩=>⟨o,es,ep,J e (ah e d),d,r⟩
  have Y:K.In (xX B.heap H):=fun b o e=>J (KX b o e) (by
   cases q:H b with
   | none=>rfl
   | some u=>
    have e':b=a:=hA b (by rw[q];simp);subst e';rw[hK (by rw[q];simp)]at e;cases e)
  have hM:Mod K mg (xX B.heap H):=⟨Y,O aa,⟨mb,O M,ai⟩,let ⟨mc,h1,h2⟩:=ab;⟨mc,O h1,h2⟩⟩
  have e0:aEa P w K mg (xX B.heap H) callerA [] B H:=⟨rfl,hM,fun b o e=>aFS e,EW (aC4 _ _),trivial,fun b M=>absurd (show b∈([]:List Ah) from M) (by simp),hok,.of_eq hg⟩
  refine C1 ((F _ Y (O aa)).run callerA [] B H ⟨[.ref a],[]⟩ [.ref a] [.ref a] _ _ hr e0 (W B (.ref a)) (.cons rfl .nil) (aj H hO hS)) fun r s' h=>?_;cases r with
  | error e=>exact(ae H e s' h).elim
  | ok fl=>
   cases fl with
   | next=>exact CD h
   | brk=>exact CD h
   | cont=>exact CD h
   | ret u=>
    obtain⟨v,H',os,bare,un,hok',r',q⟩:=h;have q':v=.bl true:=q;subst q';obtain rfl:u=Fo true:=r';refine⟨rfl,OldK.of_keep fun b o e=>?_,os,bare⟩;cases q:H b with
    | none=>exact un.keep b o e q (by intro z;exact absurd (show b∈([]:List Ah) from z) (by simp)) (by simp)
    | some u=>
     rcases hO b with z | ⟨ob,xs,z⟩
     ·rw[q]at z;cases z
     ·have z2:=un.frzs b ob _ z;obtain⟨e1,_⟩:=hok b _ z;obtain⟨e2,_⟩:=hok' b _ z2;rw[e]at e1;cases e1;exact e2
 cases hk:K.lookup a with
 | some o=>
  have e:=KX a o hk;rw[ha]at e;cases e;refine U (fun _=>none) (fun _=>.inl rfl) (.inr ⟨_,vs.toArray,_,hk,rfl,rfl,rfl,by rw[At,ac];exact hl,by simpa using rv⟩) (fun b u z=>by have Z:(none:Option HO)=some u:=z;cases Z) (fun b z=>absurd rfl z) fun z=>absurd rfl z
 | none=>
  refine U (fun b=>if b=a then some (.frz { cls:=.type "list",data:=.seq vs.toArray } (.lst (ns.map V.int))) else none) (fun b=>?_) (.inl (.inr ⟨{ cls:=.type "list",data:=.seq vs.toArray },Ib rfl⟩)) (fun b u z=>?_) (fun b z=>?_) fun _=>hk
  ·by_cases M:b=a
   ·exact .inr ⟨_,_,Ib M⟩
   ·exact .inl (Ia M)
  ·by_cases M:b=a
   ·have Z:=(Ib M).symm.trans z;cases Z;subst M;exact⟨ha,by rw[Ad];exact hl,vs,_,rv,ha⟩
   ·have Z:=(Ia M).symm.trans z;cases Z
  ·by_cases M:b=a
   ·exact M
   ·exact absurd (Ia M) z
abbrev KOf{K:Ai}{h:Bm}(_:K.In h):Ai:=K
theorem walk_of{l:FF}{n k:Nat}{q:AD}{B:List Str}{XP:(Str→Option Ac)→Bm→Prop}{YP:AY→Bm→Prop}{d:DefRec}{K:Params→Ai}{CX:AY→CXT}{sp:AY→Sp}{x:Str}
  (hn:l.most=some n) (Z:n≤sizeLine) (aa:d.params.defaults=[]) (hr:cS k callerA)
  (hY:∀(w:AY) (h:Bm),YP w h→(K w.params).In h)
  (F:∀(w:AY) (mg:Str→Option Ac) (O:Ah) (h:Bm),(K w.params).In h→h.Ns mainGlobals mg→mg d.name=some (.ref O)→
   ∃ fd:AK,(∀(s:Af) (u:Ac),Gf s fd ⟨[u],[]⟩ [(x,u)])∧
    ∀ base:Bm,(K w.params).In base→base.Ns mainGlobals mg→cQ l.prog w (K w.params) mg base (CX w) k O fd [x] (sp w))
  (ac:∀(w:AY) (H:Hp) (a:Ah) (ns:List Int),ns.length≤n→aHL H→SqL (K w.params) H a (ns.map V.int)→sp w [.ref a] H (fun v _=>v=.bl true) fun _ _ _=>False)
  (U:∀(w:AY) (H:Hp) (s:Af) (e:Ac) (s':Af),CX w [] H s (fun _ _ _=>False) e s'→False):
  PySem.W.WalkO q B XP YP l.row.toRowW d [] (fun f vs=>GM f vs):=by
 refine Att.attach_call hn aa fun w s₀ s₁ mg mb O o pm cd am a vs ns G Y ho hd ak ab M J z hg=>?_;have KX:=hY w _ Y;obtain⟨fd,hb,hF⟩:=F w mg O _ KX G.T.g ab;exact aEm KX G.T.g G.T.b G.T.builtins G.T.nolimit hg M J (Bg z Z) hr hF hb (fun H hO hS=>ac w H a ns z hO hS) fun H e s'=>U w H s₁ e s'
def bQ(s:B6):Arguments:=match s with
 | .FunctionDef _ a _ _ _ _ _ _ _ _=>a
 | _=>{ posonlyargs:=[],args:=[],vararg:=none,kwonlyargs:=[],kw_defaults:=[],kwarg:=none,defaults:=[] }
def bM(s:B6):List B6:=match s with
 | .FunctionDef _ _ b _ _ _ _ _ _ _=>b
 | _=>[]
def aO(s:B6):DM:=match s with
 | .FunctionDef _ _ _ _ _ _ sc _ _ _=>sc
 | _=>{ kind:=.function,names:=[],isGenerator:=false,isCoroutine:=false }
abbrev CX0:CXT:=fun _ _ _ _ _ _=>False
abbrev E0:XK:=fun _ _ _=>False
theorem iP{X:Cx}:aA7 CX0 X E0:=fun _ _ _ _ _ _ _ h=>h.elim
structure Fun(K:Ai)(x qual:Str)(st:B6)(f:Ah)(fd:AK):Prop where
 ex:∃(oc:Ac) (od:Option Ah) (kV doc pm:Ac) (an:Option Ah) (cdv ct:Ac) (osl:Array (Option Ac)),
  fd=Ay x qual (bQ st) (bM st) (aO st) .none kV doc pm an cdv ct∧K.lookup f=some ⟨oc,od,.func fd,osl⟩∧Ar K cdv qual=true
 kp:Al K (.ref f)=true
section
variable{P:AD}{w:AY}{K:Ai}{mg:Str→Option Ac}{base:Bm}
theorem Fun.ok{x qual:Str}{st:B6}{f:Ah}{fd:AK}{N ps:List Str}{k:Nat}{sp:Sp}(F:Fun K x qual st f fd)(S:bV N ps (aO st))(len:∀ vs H Q E,sp vs H Q E→vs.length=ps.length)
  (B:∀(z:Ac) (A:AU) (outer:List Env) (s:Af) (H:Hp) (vs:List V) (Q:VK) (E:XK),cS k (A.deeper (envOfC qual (aO st) s.heap.objs.size f z))→sp vs H Q E→
   ∃ t,PSs (aDa CX0 P w K mg base N qual (aO st) f z A outer s H E).nox (bM st) t∧t { nx:=fun _ H'=>Q .non H',rt:=Q } (start N vs) H):cQ P w K mg base CX0 (k + 1) f fd ps sp:=by
 obtain⟨oc,od,kV,doc,pm,an,z,ct,osl,rfl,lk,hcd⟩:=F.ex;refine aIJ lk hcd S len fun A outer s H vs Q E M J=>?_;obtain⟨t,h,q⟩:=B z A outer s H vs Q E M J;exact⟨t,h.nox,q⟩
theorem Fun.binds{x qual:Str}{st:B6}{f:Ah}{fd:AK}{ps:List Str}(F:Fun K x qual st f fd)
  (h:∀(kV q B:Ac) (J:Option Ah) (z ct:Ac) (us:List Ac),us.length=ps.length→bindArgs (Ay x qual (bQ st) (bM st) (aO st) .none kV q B J z ct) ⟨us,[]⟩=pure (ps.zip us)):dY K fd ps []:=by
 obtain⟨oc,od,kV,q,B,J,z,ct,osl,rfl,lk,hcd⟩:=F.ex;exact .all (h kV q B J z ct)
theorem cJ{x qual:Str}{st:B6}{f:Ah}{M:Ac}{od J:Option Ah}{B:Array (Option Ac)}{kV z F q ct:Ac}(l:K.lookup f=some ⟨M,od,.func (Ay x qual (bQ st) (bM st) (aO st) .none kV z F J q ct),B⟩)
  (c:Ar K q qual=true) (k:Al K (.ref f)=true):Fun K x qual st f (Ay x qual (bQ st) (bM st) (aO st) .none kV z F J q ct):=⟨⟨M,od,kV,z,F,J,q,ct,B,rfl,l,c⟩,k⟩
end
theorem aCc{A:AU}{k:Nat}(q:cS k A):A.units + 1 < cLine:=Fz (Nat.add_le_add_left (by decide:1≤64) _) q.units
theorem j8{n:Nat}(h:n≤1000):n < sizeLine:=Fz h (by decide)
section
variable{X:Cx}
theorem pv(i:Nat){x:Str}{pos:Pos}(hN:X.N[i]?=some x:=by rfl)(z:Vis X.env.scope x:=by first | exact AE rfl | exact Fk (AE rfl) | exact Fk (Fk rfl))(hd:(x == ("__debug__":Str))=false:=by decide)
  (q:(x == ("__classdict__":Str))=false:=by decide):PE X (.Name x pos) (aIv i):=aHp hN z hd q
end
theorem dB{A B:Prop}(h:B):if false=true then A else B:=by
 rw[Ia AA];exact h
theorem dJ{A B:Prop}(h:A):if true=true then A else B:=by
 rw[Ib rfl];exact h
theorem dS{c A B:Prop}[Decidable c](h1:c→A)(h2:¬ c→B):if c then A else B:=by
 by_cases h:c
 ·rw[Ib h];exact h1 h
 ·rw[Ia h];exact h2 h
def bS(H H':Hp):Prop:=∀ b o,H b=some o→H' b=some o
theorem bS.refl(H:Hp):bS H H:=fun _ _ h=>h
theorem bS.trans{H H1 H2:Hp}(a:bS H H1)(b:bS H1 H2):bS H H2:=fun c o h=>b c o (a c o h)
theorem bS.seq{K:Ai}{H H':Hp}{a:Ah}{xs:List V}(e:bS H H')(h:SqL K H a xs):SqL K H' a xs:=by
 rcases h with(h | ⟨o,h⟩) | h
 ·exact .inl (.inl (e _ _ h))
 ·exact .inl (.inr ⟨o,e _ _ h⟩)
 ·exact .inr h
section
variable{X:Cx}
inductive n4(xs:List V)(H:Hp)(Q:VK):Prop
 | mk (a:_) (fc:_) (q0:xs=[V.ref a]) (q1:H a=some (.dK fc)) (q2:Q (.int fc.length) H):n4 xs H Q
def zP:List V→Hp→VK→Prop:=fun xs H Q=>n4 xs H Q
theorem aDg:fJ X (.builtin "len") zP:=by
 intro dt s σ H xs us Q I r h;obtain⟨a,fc,rfl,ha,q⟩:=h;obtain⟨u,rfl,ru⟩:=fM r;cases ru;exact aIP I (.inl ha) fun t s' z=>⟨.int fc.length,H,z,⟨t,rfl⟩,q⟩
end
section
variable{κ:Type}[DecidableEq κ]
end
section
variable{X:Cx}{dt:List (Ah×Obj)}{σ:St}{H:Hp}{s:Af}
theorem Inv.track{D:Ah}{ob:HO}(I:Inv X dt σ H s)(J:mH X dt H D)(new:dA X.prog X.w (upd H D ob) s.heap D ob):Inv X dt σ (upd H D ob) s:=by
 obtain⟨hn,hL,hfs,hex,hce,hpi⟩:=J;have B:∀ b u,H b=some u→b≠D:=fun b u e=>aX e hn;refine I.step (g':=s.gens) (t':=s.toks) (d':=s.drawn) (h':=s.heap) (H':=upd H D ob) (ch:=[D]) (fun b F=>?_) (fun b o _ _ _ e _=>e) (fun b o _ _ _ e _=>⟨o.slots,e⟩) (fun b o hc e n=>?_)
  (fun b o _ e=>⟨o,e⟩) (fun b xs e=>by rw[bI (B b _ e)];exact e) (fun b o u e=>by rw[bI (B b _ e)];exact e) (fun b ps e=>⟨#[],by rw[bI (B b _ e),e];simp⟩) (fun m hm=>hm) (fun b u e=>?_) I.bare
 ·have e:b=D:=by simpa using F
  subst e;exact⟨hex,hL,hce,hpi⟩
 ·rw[bI (fun z=>hc (by simp[z]))];exact n
 ·by_cases F:b=D
  ·subst F;rw[aM]at e;cases e;exact new
  ·rw[bI F]at e;exact(I.hok b u e).stay (fun c v _ q=>q) (fun c q=>by rw[bI (B c _ q)];exact q) fun c xs q=>by rw[bI (B c _ q)];exact q
end
def iQ(env:Env):List (Str×Ea)→List (Str×Ah)→List (Str×Ah)
 | [],cs=>cs
 | (n,k) :: r,cs=>iQ env r (if k=.free then(match env.cells.lookup n with | some c=>(n,c) :: cs | none=>cs) else cs)
theorem tN{α β:Type}(f:α→β→Sem (ForInStep β))(g:α→β→β):∀(l:List α) (b:β),(∀ y∈l,∀ b,f y b=pure (.yield (g y b)))→(forIn l b f:Sem β)=pure (l.foldl (fun b y=>g y b) b)
 | [],b,_=>rfl
 | a :: r,b,h=>by
  rw[CT,h a AG b];exact tN f g r (g a b) fun y q=>h y (AJ _ q)
def wF(env:Env)(y:Str×Ea)(cs:List (Str×Ah)):List (Str×Ah):=if y.2=.free then(match env.cells.lookup y.1 with | some c=>(y.1,c) :: cs | none=>cs) else cs
theorem tO(env:Env):∀(l:List (Str×Ea)) (q:List (Str×Ah)),l.foldl (fun b y=>wF env y b) q=iQ env l q
 | [],q=>rfl
 | (n,k) :: r,q=>by
  rw[F7,tO env r];rfl
theorem o1{scope:DM}{env:Env}(h:∀ y∈scope.names,y.2=.free→∃ c,env.cells.lookup y.1=some c):closureFor scope env=pure (iQ env scope.names []):=by
 simp only[closureFor];rw[tN _ (wF env) scope.names [] (fun y B b=>?_)]
 ·rw[tO];rfl
 ·obtain⟨n,k⟩:=y;by_cases q:k=.free
  ·obtain⟨c,hc⟩:=h (n,k) B q;subst q;have e:cellOf env n=pure c:=by unfold cellOf;rw[hc]
   have z:wF env (n,Bw) b=(n,c) :: b:=by unfold wF;rw[Ib rfl,hc]
   simp only[e,z];rfl
  ·have e:(k == Bw)=false:=by simpa using q
   have z:wF env (n,k) b=b:=by unfold wF;rw[Ia q]
   simp only[e,z,A7,if_false]
theorem qB{env:Env}:∀(l:List (Str×Ea)) (q:List (Str×Ah)),(∀ x c,q.lookup x=some c→env.cells.lookup x=some c)→∀ x c,(iQ env l q).lookup x=some c→env.cells.lookup x=some c
 | [],q,h,x,c,e=>h x c e
 | (n,k) :: r,q,h,x,c,e=>by
  unfold iQ at e;refine qB r _ (fun x c e=>?_) x c e;by_cases B:k=.free
  ·rw[Ib B]at e;cases hc:env.cells.lookup n with
   | none=>rw[hc]at e;exact h x c e
   | some d=>
    rw[hc]at e;by_cases z:x=n
    ·subst z;simp at e;rw[← e];exact hc
    ·have:(x == n)=false:=by simpa using z
     rw[BN,this]at e;exact h x c e
  ·rw[Ia B]at e;exact h x c e
theorem qC{env:Env}:∀(l:List (Str×Ea)) (q:List (Str×Ah)) (x:Str),(∀ y∈l,y.2=.free→∃ c,env.cells.lookup y.1=some c)→((∃ c,q.lookup x=some c)∨(x,Bw)∈l)→∃ c,(iQ env l q).lookup x=some c
 | [],q,x,_,h=>by
  rcases h with h | h
  ·exact h
  ·simp at h
 | (n,k) :: r,q,x,hc,h=>by
  unfold iQ;refine qC r _ x (fun y F=>hc y (AJ _ F)) ?_;rcases h with⟨c,h⟩ | h
  ·refine .inl ?_;split
   ·split
    ·rename_i d _;by_cases B:x=n
     ·subst B;exact⟨d,by simp⟩
     ·have:(x == n)=false:=by simpa using B
      exact⟨c,by rw[BN,this];exact h⟩
    ·exact⟨c,h⟩
   ·exact⟨c,h⟩
  ·rcases Ao.mp h with h | h
   ·cases h;obtain⟨d,hd⟩:=hc (n,Bw) AG rfl;refine .inl ⟨d,?_⟩;rw[Ib rfl];have z:env.cells.lookup n=some d:=hd;rw[z];simp
   ·exact .inr h
theorem tP{env : Env} : ∀{names : List (Str × Ea)}{x : Str}, (∀ y ∈ names, y.2 ≠ .cell) →
    ((names.map fun(n, k) => if (k == Bw && env.scope.kind == .function && env.kindOf n == some .cell) then(n, DW) else(n, k)).lookup x = some .cell ∨
     (names.map fun(n, k) => if (k == Bw && env.scope.kind == .function && env.kindOf n == some .cell) then(n, DW) else(n, k)).lookup x = some .free) → names.lookup x = some .free
  | [], x, _, h => by simp at h
  | (n, k) :: r, x, hc, h => by
    have J := @tP env r x fun y B => hc y (AJ _ B);have F := hc (n, k) AG;rw[A1]at h;by_cases z : x = n
    · subst z
      rw[BN, beq_self_eq_true];simp only;by_cases q : (k == Bw && env.scope.kind == .function && env.kindOf x == some .cell) = true
      · have : (k == Bw) = true := by
          rw[AF, AF]at q;exact q.1.1
        simpa using this
      · simp only[Ia q, BN, beq_self_eq_true]at h
        rcases h with h | h
        · exact absurd (Cv.inj h) F
        · exact h
    · have e : (x == n) = false := by simpa using z
      rw[BN, e];refine J ?_;by_cases q : (k == Bw && env.scope.kind == .function && env.kindOf n == some .cell) = true
      · simp only[Ib q, BN, e]at h
        exact h
      · simp only[Ia q, BN, e]at h
        exact h
theorem o6{env : Env} : ∀{names : List (Str × Ea)}{x : Str}, names.lookup x = some .free →
    ((names.map fun(n, k) => if (k == Bw && env.scope.kind == .function && env.kindOf n == some .cell) then(n, DW) else(n, k)).lookup x = some .cell ∨
     (names.map fun(n, k) => if (k == Bw && env.scope.kind == .function && env.kindOf n == some .cell) then(n, DW) else(n, k)).lookup x = some .free)
  | [], x, h => by simp at h
  | (n, k) :: r, x, h => by
    have B := @o6 env r x;rw[A1];by_cases z : x = n
    · subst z
      rw[BN, beq_self_eq_true]at h;simp only at h;cases h;by_cases q : (Bw == Bw && env.scope.kind == .function && env.kindOf x == some .cell) = true
      · refine .inl ?_
        show List.lookup x ((if (Bw == Bw && env.scope.kind == .function && env.kindOf x == some .cell) = true then(x, DW) else(x, Bw)) :: _) = _;rw[Ib q, BN, beq_self_eq_true]
      · refine .inr ?_
        show List.lookup x ((if (Bw == Bw && env.scope.kind == .function && env.kindOf x == some .cell) = true then(x, DW) else(x, Bw)) :: _) = _;rw[Ia q, BN, beq_self_eq_true]
    · have e : (x == n) = false := by simpa using z
      rw[BN, e]at h;have := B h;by_cases q : (k == Bw && env.scope.kind == .function && env.kindOf n == some .cell) = true
      · simp only[Ib q, BN, e]
        exact this
      · simp only[Ia q, BN, e]
        exact this
def blk(X:Cx)(N:List Str)(scope:DM)(cl:List (Str×Ah))(s:Af)(H:Hp)(fp:List Ah)(dt:List (Ah×Obj))(C:Ah):Cx where
 prog:=X.prog
 w:=X.w
 K:=X.K
 mg:=X.mg
 base:=X.base
 A:=X.A
 N:=N
 s₀:=s
 H₀:=H
 env:=compEnvC scope cl C X.env
 outer:=X.stack
 stack:=X.stack
 ex:=fp
 fn:=fun _=>false
 calm:=X.calm
 pn:=X.pn ++ dt
 xe:=fun _ _=>False
def aG2(N:List Str)(src:List (Option Nat))(scope:DM)(oN:List Str):Bool:=
 (N.zip src).all fun p=>match p.2 with | none=>true | some j=>(oN[j]? == some p.1) && (scope.names.lookup p.1 == some .free)
structure zQ(N:List Str)(src:List (Option Nat))(scope osc:DM)(oN:List Str):Prop where
 kind:scope.kind=.function
 nocell:∀ y∈scope.names,y.2≠.cell
 names:∀ y∈scope.names,y.2=.local→scope.names.lookup y.1=some .local
 fr:∀ y∈scope.names,y.2=.free→osc.names.lookup y.1=some .cell∨osc.names.lookup y.1=some .free
 len:src.length=N.length
 srcs:aG2 N src scope oN=true
def sub(src:List (Option Nat))(σ:St):St:=src.map fun o=>match o with | none=>none | some j=>(σ[j]?).getD none
theorem aEn{N:List Str}{src:List (Option Nat)}{scope:DM}{oN:List Str}(h:aG2 N src scope oN=true){i j:Nat}{x:Str}(h1:N[i]?=some x)(h2:src[i]?=some (some j)):oN[j]?=some x∧scope.names.lookup x=some .free:=by
 have hm:(x,some j)∈N.zip src:=by
  refine AR (i:=i) ?_;rw[List.getElem?_zip_eq_some];exact⟨h1,h2⟩
 have:=Be.mp h _ hm;simp only[AF,beq_iff_eq]at this;exact this
theorem aHM{src:List (Option Nat)}{σ:St}{i:Nat}{v:V}(h:(sub src σ)[i]?=some (some v)):∃ j,src[i]?=some (some j)∧σ[j]?=some (some v):=by
 unfold sub at h;rw[AL]at h;cases e:src[i]? with
 | none=>rw[e]at h;simp at h
 | some o=>
  rw[e]at h;cases o with
  | none=>simp at h
  | some j=>
   refine⟨j,rfl,?_⟩;cases q:σ[j]? with
   | none=>simp[q]at h
   | some z=>
    simp[q]at h;rw[h]
structure PTs(X:Cx)(ifs:List Br)(t:TT):Prop where
 run:
  ∀(dt:List (Ah×Obj)) (s:Af) (σ:St) (H:Hp) (Q:Bool→Hp→Prop),Inv X dt σ H s→t σ H Q→
   wpAny (model X.prog X.w) X.A (forIn ifs true fun c r=>if r=true then do let ok ← isTrue c X.env (eval c X.env);pure (CA ok) else pure (CA r)) (TP X dt σ Q) X.xe s
instance{X:Cx}{ifs:List Br}{t:TT}:CoeFun (PTs X ifs t) (fun _=>
 ∀(dt:List (Ah×Obj)) (s:Af) (σ:St) (H:Hp) (Q:Bool→Hp→Prop),Inv X dt σ H s→t σ H Q→
  wpAny (model X.prog X.w) X.A (forIn ifs true fun c r=>if r=true then do let ok ← isTrue c X.env (eval c X.env);pure (CA ok) else pure (CA r)) (TP X dt σ Q) X.xe s):=⟨fun h=>h.run⟩
theorem dZ{X:Cx}:PTs X [] (fun _ H Q=>Q true H):=⟨fun _ _ _ H _ I h=>wpAny_tests_nil ⟨H,I,h⟩⟩
theorem aCd{X:Cx}{c:Br}{t:TT}(h:PT X c t):PTs X [c] t:=⟨fun dt s σ H Q I q=>wpAny_tests_one (h dt s σ H Q I q)⟩
section
variable{X:Cx}{dt:List (Ah×Obj)}{σ:St}{H:Hp}{s:Af}
theorem Inv.clos{N:List Str}{src:List (Option Nat)}{scope:DM}(B:zQ N src scope X.env.scope X.N)(I:Inv X dt σ H s):∀ y∈scope.names,y.2=.free→∃ c,X.env.cells.lookup y.1=some c:=
 fun y q z=>I.ok.has y.1 (B.fr y q z)
theorem Inv.block{N:List Str}{src:List (Option Nat)}{scope:DM}{fp:List Ah}{U:Af}{C:Ah}{m:Str→Option Ac}(B:zQ N src scope X.env.scope X.N)(I:Inv X dt σ H s)
  (Z:∀ b∈fp,mH X dt H b) (ad:∀ b∈fp,b < s.heap.objs.size) (Y:s.heap.objs.size≤C) (O:U.os=s.os) (J:EE U.gens) (W:∀ b o,s.heap.get? b=some o→U.heap.get? b=some o) (hn:U.heap.Ns C m):
  Inv (blk X N scope (iQ X.env scope.names []) s H fp dt C) [] (sub src σ) H U:=by
 have F:=I.clos B;have q:∀ x c,(iQ X.env scope.names []).lookup x=some c→X.env.cells.lookup x=some c:=qB _ _ (fun x c e=>by simp at e);have ag:∀ b∈frs X.stack,b < s.heap.objs.size:=fun b J=>by
  obtain⟨_,o,O,_⟩:=I.stack.mem J;exact Aw O
 refine⟨⟨I.ok.mod,B.kind,I.ok.glob,I.ok.blt,Y,fun x y c e1 e2=>I.ok.inj x y c (q x c e1) (q y c e2),fun x hx=>?_,fun x c hx=>absurd hx AA,I.ok.hd,I.ok.frames,.inl rfl,fun b J=>⟨?_,fun x c e=>?_⟩,fun b o e=>?_,Bg I.ok.bsz I.sz,fun b o e J=>?_,fun b J hz=>?_,I.stack,I.stkFree⟩,
  O,J,Un.kept W,⟨m,hn,fun i x v e1 e2 e3=>?_⟩,fun x c e=>?_,?_,fun x c e=>I.freeC x c (q x c e),fun p hp=>?_,I.hok.kept W,?_⟩
 ·have ae:=tP (env:=X.env) B.nocell hx;exact qC _ _ x F (.inr (Cj ae))
 ·exact AC (A2 (ad b J) Y)
 ·exact(Z b J).2.2.2.2.1 x c (q x c e)
 ·exact I.bs b o e
 ·rcases(Z b J).2.2.2.1 with z | z
  ·exact I.ok.noex b o e z
  ·exact absurd (A2 (Aw e) (Bg I.ok.bsz z)) (Cz _)
 ·rcases Ao.mp (I.stkSub b hz)with e | z
  ·exact(Z b J).2.1 e
  ·exact(Z b J).2.2.1 z
 ·obtain⟨j,ej,ev⟩:=aHM e2;obtain⟨oj,fj⟩:=aEn B.srcs e1 ej;have M:=B.fr _ (Cj fj) rfl;obtain⟨m0,hn0,hl0⟩:=id I.loc;obtain⟨u,ru,lk⟩:=hl0 j x v oj ev (.inr M);refine⟨u,ru,.inr ⟨o6 fj,?_⟩⟩;rcases lk with⟨k,_⟩ | ⟨k,c,hc,hcell⟩
  ·have k':X.env.scope.names.lookup x=some .local:=k;rcases M with z | z <;> (rw[k']at z;cases z)
  ·obtain⟨c',hc'⟩:=qC (env:=X.env) scope.names [] x F (.inr (Cj fj));have e:=q x c' hc';rw[hc]at e;cases e;obtain⟨o,O,hd⟩:=hcell;exact⟨c,hc',o,W _ _ O,hd⟩
 ·obtain⟨v,o,O,hd⟩:=I.cell x c (q x c e);exact⟨v,o,W _ _ O,hd⟩
 ·exact I.hok.fresh Y
 ·have af:p∈X.pn ++ dt:=by
   rcases Bh.mp hp with z | z
   ·exact z
   ·simp at z
  obtain⟨q1,q2,q3,q4,q5⟩:=I.pin p af;refine⟨W _ _ q1,q2,AC (A2 (Aw q1) Y),fun z=>?_,q5⟩;rcases Ao.mp (I.stkSub _ z)with e | z
  ·exact q3 e
  ·exact q4 z
 ·show(sub src σ).length=N.length;unfold sub;rw[Ad];exact B.len
end
section
variable{prog:AD}{w:AY}{A:AU}{R:Result→Af→Prop}{s:Af}
theorem zR{B q z:Br}{F:List Br}{scope:DM}{pos:Pos}{it J:Ac}{env:Env}(I:Nat→Af→Prop)
  (turn:∀ n s,I n s→wpAny (model prog w) A (pyNext it) (fun r U=>match r with
   | none=>R (.ok .next) U
   | some v=>wpAny (model prog w) A (letOwnedTupleGo q it v) (fun _ M=>wpAny (model prog w) A (assign q env v) (fun _ Z=>
     wpAny (model prog w) A (forIn F true fun c r=>if r=true then do let ok ← isTrue c env (eval c env);pure (CA ok) else pure (CA r)) (fun ok W=>
      if ok=true then wpAny (model prog w) A (eval B env) (fun x s₄=>
       wpAny (model prog w) A (call (.builtin "list.append") [J,x]) (fun _ s₅=>∃ m,m < n∧I m s₅) (fun _ _=>False) s₄) (fun _ _=>False) W
      else∃ m,m < n∧I m W) (fun _ _=>False) Z) (fun _ _=>False) M) (fun _ _=>False) U) (fun _ _=>False) s)
  (n:Nat) (h:I n s):
  codeAny (model prog w) A (.compLoop (.ListComp B [⟨q,z,F,0⟩] scope pos) 0 it J env) R s:=by
 have nv:∀{α:Type} {t:Sem α} {Q:α→Af→Prop} {E:Ac→Af→Prop} {s:Af},wpAny (model prog w) A t Q (fun _ _=>False) s→wpAny (model prog w) A t Q E s:=fun h=>B8 h (fun _ _ x=>x) fun _ _ x=>x.elim;refine codeAny_loop rfl I (fun n s hI=>?_) n h;show wpAny _ A ((compTurn (.ListComp B [⟨q,z,F,0⟩] scope pos) 0 it J env).onRaise (fun x=>do noteFrame x env;theTreesLotGoes x)) _ _ s;refine wpAny_noted ?_;rw[compTurn_list];refine Aa (FO (Aa (nv (thn (turn n s hI) (fun r U h₁=>?_)))));cases r with
 | none=>exact Ae h₁
 | some v=>
  refine Aa (B8 h₁ (fun _ M O=>?_) fun _ _ x=>x.elim);refine Aa (B8 O (fun _ Z h₂=>Aa (B8 h₂ (fun ok W Y=>?_) fun _ _ h'=>h'.elim)) fun _ _ h'=>h'.elim);cases ok with
  | false=>exact Ae ⟨rfl,Y⟩
  | true=>
   exact Aa (Aa (B8 Y (fun x s₄ h₄=>Aa (B8 h₄ (fun _ s₅ h₅=>Ae (Ae ⟨rfl,h₅⟩)) fun _ _ h'=>h'.elim)) fun _ _ h'=>h'.elim))
end
inductive aCe(J : It)(g : TG)(tt : TT)(te : TE)(σ₀ : St)(H₀ : Hp)(Q : VK) : Prop
  | mk (W : Nat → Nat → List V → St → Hp → Prop) (q0 : (∃ m, W 0 m [] σ₀ H₀)) (q1 : ∀ i m ys σ H, W i m ys σ H → ys.length ≤ sizeLine ∧
    ((J.stop i H ∧ ∀ D, H D = none → Q (.ref D) (upd H D (.lst ys))) ∨
     (J.go i H ∧ ∃ N : List V → St → Hp → Prop, (∀ zs σ' H', N zs σ' H' → ∃ m', m' < m ∧ W (i + 1) m' zs σ' H') ∧
       ∀ x H', J.yld i H x H' → g x σ H' fun σ2 H2 => tt σ2 H2 fun b H3 => if b = true then te σ2 H3 fun v H4 => N (ys ++ [v]) σ2 H4 else N ys σ2 H3))) : aCe J g tt te σ₀ H₀ Q
def tQ(J:It)(g:TG)(tt:TT)(te:TE)(σ₀:St)(H₀:Hp)(Q:VK):Prop:=aCe J g tt te σ₀ H₀ Q
section
variable{X:Cx}{dt:List (Ah×Obj)}{σ:St}
theorem wG{tg ap aD:Br}{aI:List Br}{scope:DM}{pos:Pos}{N:List Str}{src:List (Option Nat)}{g:TG}{tt:TT}{te:TE}{J:It}{fp:List Ah}{it:Ah}{tn:Nat→Bm→Prop}{H2:Hp}{O:Af}{Q:VK}{E:Ac→Af→Prop}
  {RR:Ac→Ah→Result→Af→Prop} (B:zQ N src scope X.env.scope X.N) (hc:X.calm=true)
  (F:∀ cl s H fp dt C,PG (blk X N scope cl s H fp dt C) tg g∧PTs (blk X N scope cl s H fp dt C) aI tt∧PE (blk X N scope cl s H fp dt C) aD te)
  (I2:Inv X dt σ H2 O) (T:aC5 X.prog X.w X.K tg J fp it tn) (bb:tn 0 O.heap) (f2:∀ b∈fp,mH X dt H2 b) (cw:tQ J g tt te (sub src σ) H2 Q)
  (b3:∀ D C H' m s',Inv X dt σ H' s'→s'.heap.Ns C m→mH X dt H' C→D≠C→Q (.ref D) H'→RR (.ref D) C (.ok .next) s'):
  wpAny (model X.prog X.w) X.A (newList []) (fun bp s₃=>wpAny (model X.prog X.w) X.A (newFunctionEnv scope X.env.globals (iQ X.env scope.names []) [] X.env.qual none .none (some X.env)) (fun aq s₄=>
   codeAny (model X.prog X.w) X.A (.compStart (.ListComp aD [⟨tg,ap,aI,0⟩] scope pos) 0 (.ref it) bp { aq with scope:=relabel scope X.env }) (RR bp aq.locals) s₄) E s₃) E O:=by
 refine BV (wpAny_newFunctionEnv B.nocell (by intro y hy;simp at hy) (fun h₁ aj aa=>?_) B.kind);dsimp only at aj aa ⊢;generalize az:O.heap.push { cls:=.type "list",dict:=none,data:=.seq ([]:List Ac).toArray }=HH at aj aa ⊢;have aC:HH.objs.size=O.heap.objs.size + 1:=by rw[← az,BY]
 have ag:O.heap.objs.size≠HH.objs.size:=by rw[aC];exact AC (B1 _)
 have ae:O.heap.objs.size≤HH.objs.size:=by rw[aC];exact CZ _
 have an:∀ b∈fp,b < O.heap.objs.size:=fun b F=>by
  obtain⟨o,e,_⟩:=T.obj _ _ bb b F;exact Aw e
 have bd:∀ b o,O.heap.get? b=some o→h₁.get? b=some o:=fun b o e=>
  aa.extBut b o (by rw[aC];exact AC (Bj (Aw e))) (Ag _ (az ▸ Ag _ e))
 have bj:h₁.PlainList O.heap.objs.size #[]:=⟨_,aa.extBut _ _ ag (Ag _ (az ▸ Av _ rfl))⟩
 have bh:tn 0 h₁:=T.keep _ _ _ bb fun b _ o e=>bd b o e;obtain⟨W,⟨m0,w0⟩,turn⟩:=cw;have bc:∀ b∈frs X.stack,b < O.heap.objs.size:=fun b F=>by
  obtain⟨_,o,ho,_⟩:=I2.stack.mem F;exact Aw ho
 generalize q:blk X N scope (iQ X.env scope.names []) O H2 fp dt HH.objs.size=M;have a0:=F (iQ X.env scope.names []) O H2 fp dt HH.objs.size;rw[q]at a0;have eP:M.prog=X.prog:=by rw[← q];rfl
 have eW:M.w=X.w:=by rw[← q];rfl
 have eK:M.K=X.K:=by rw[← q];rfl
 have eA:M.A=X.A:=by rw[← q];rfl
 have eE:M.env=compEnvC scope (iQ X.env scope.names []) HH.objs.size X.env:=by rw[← q];rfl
 have eL:M.env.locals=HH.objs.size:=by rw[eE];rfl
 have eF:M.fs=frs X.stack:=by rw[← q];rfl
 have eX:M.ex=fp:=by rw[← q];rfl
 have eS:M.s₀=O:=by rw[← q];rfl
 have eH:M.H₀=H2:=by rw[← q];rfl
 have eC:M.calm=true:=by rw[← q];exact hc
 have aR:M.pn=X.pn ++ dt:=by rw[← q];rfl
 have aE:M.xe=fun _ _=>False:=by rw[← q];rfl
 have Z:∀ x c,M.env.cells.lookup x=some c→X.env.cells.lookup x=some c:=fun x c e=>by
  rw[eE]at e;exact qB scope.names [] (fun x c e=>by simp at e) x c e
 have ac:∀ x c,M.env.cells.lookup x=some c→c < O.heap.objs.size:=fun x c e=>by
  obtain⟨v,o,ho,_⟩:=I2.cell x c (Z x c e);exact Aw ho
 have ai:∀ p∈X.pn ++ dt,p.1 < O.heap.objs.size:=fun p Y=>Aw (I2.pin p Y).1;generalize hD:O.heap.objs.size=D at *;generalize cR:HH.objs.size=C at *;have av:∀ s₃:Af,s₃={ O with heap:=h₁,toks:=O.toks + ([]:List (Str×Ac)).length }→
   codeAny (model X.prog X.w) X.A (.compLoop (.ListComp aD [⟨tg,ap,aI,0⟩] scope pos) 0 (.ref it) (.ref D) (compEnvC scope (iQ X.env scope.names []) C X.env)) (RR (.ref D) C) s₃:=by
  rintro s₃ rfl;have I3:Inv M [] (sub src σ) H2 { O with heap:=h₁,toks:=O.toks + ([]:List (Str×Ac)).length }:=by
   rw[← q];exact I2.block B f2 (by rw[hD];exact an) (by rw[hD];exact ae) rfl I2.bare bd aj
  have bK:H2 D=none:=I2.hok.fresh (EW hD);have b1:D ∉ M.fs:=fun z=>by rw[eF]at z;exact absurd (bc D z) (Cz _)
  have ar:∀{U:St} {H':Hp} {s':Af} {pl:List (Ah×Obj)} {its:List Ac} {n:Nat},Inv M pl U H' s'→H' D=none→s'.heap.get? D=some { cls:=.type "list",data:=.seq its.toArray n }→
    Inv M ((D,{ cls:=.type "list",data:=.seq its.toArray n }) :: pl) U H' s':=fun{U H' s' pl its n} I' hn hg=>
   I'.pins_of fun p Y=>by
    rcases Ao.mp Y with e | Y
    ·subst e;exact⟨hg,hn,by rw[eL];exact ag,b1,fun v z=>by cases z⟩
    ·exact I'.pin p (A0 _ Y)
  obtain⟨n0,hg0⟩:=bj;have bz:=ar (its:=[]) I3 bK hg0;have ay:∀{H':Hp} {pl:List (Ah×Obj)},(∀ p∈pl,p.1=D)→(∀ b∈fp,H' b=none)→∀ b∈fp,mH M pl H' b:=fun{H' pl} hpl hn b F=>by
   refine⟨hn b F,by rw[eL];exact AC (A2 (an b F) ae),fun z=>?_,.inl (by rw[eX];exact F),fun x c e=>(f2 b F).2.2.2.2.1 x c (Z x c e),fun p Y=>?_⟩
   ·rw[eF]at z;rcases Ao.mp (I2.stkSub b z)with e | z
    ·exact(f2 b F).2.1 e
    ·exact(f2 b F).2.2.1 z
   ·rw[aR]at Y;rcases Bh.mp Y with z | z
    ·exact(f2 b F).2.2.2.2.2 p z
    ·rw[hpl p z];exact CY (an b F)
  refine zR (fun n s'=>∃ i ys its nn U H',Inv M [(D,{ cls:=.type "list",data:=.seq its.toArray nn })] U H' s'∧tn i s'.heap∧(∀ b∈fp,H' b=none)∧cW ys its∧W i n ys U H') ?_ m0
   ⟨0,[],[],n0,sub src σ,H2,bz,bh,fun b F=>(f2 b F).1,.nil,w0⟩
  rintro n s4 ⟨i,ys,its,nn,σ4,H4,I4,be,bn,ao,w4⟩;obtain⟨hsz,hcase⟩:=turn i n ys σ4 H4 w4;have one:∀{o:Obj},∀ p∈[(D,o)],p.1=D:=fun{o} p Y=>by
   have:=BE.mp Y;rw[this]
  rcases hcase with⟨stop,qn⟩ | ⟨go,Nx,hN,step⟩
  ·have af:=T.done M eP eW eK eC i _ s4 σ4 H4 (fun _ _=>False) I4 (ay one bn) be stop;rw[eA]at af;refine thn af fun r s5 ⟨hr,I5⟩=>?_;subst hr;have pd:=I5.pin _ (A0 _ AG);have bP:Un (frs X.stack) fp H2 H4 O.heap s5.heap:=by
    have:=I5.base;rw[eF,eX,eS,eH]at this;exact this
   have aT:HOk X.prog X.w H4 s5.heap:=by
    have:=I5.hok;rw[eP,eW]at this;exact this
   have bA:s5.os=O.os:=by
    have:=I5.os;rw[eS]at this;exact this
   have J5:Inv X dt σ H4 s5:=I2.call' bA bP aT I5.bare fun b F=>⟨(f2 b F).2.2.2.1,(f2 b F).2.1,(f2 b F).2.2.2.2.1,(f2 b F).2.2.2.2.2⟩
   have fD:mH X dt H4 D:=I2.fpOk (EW hD) pd.2.1;have J6:Inv X dt σ (upd H4 D (.lst ys)) s5:=J5.track fD ⟨hsz,its,nn,ao,pd.1⟩;obtain⟨mm,nsC,_⟩:=I5.loc;rw[eL]at nsC;have bT:H4 C=none:=by
    have:=I5.free;rw[eL]at this;exact this
   have fC:mH X dt (upd H4 D (.lst ys)) C:=I2.fpOk (by rw[hD];exact ae) (by rw[bI (Ef ag)];exact bT);exact b3 D C _ mm s5 J6 nsC fC ag (qn D pd.2.1)
  ·have ad:=T.item M eP eW eK eC i _ s4 σ4 H4 (fun _ _=>False) I4 (ay one bn) be go;rw[eA]at ad;refine thn ad fun r s5 ⟨u,hr,h5⟩=>?_;subst hr;refine thn h5 fun _ s6 ⟨x,H6,I6,r6,y6,aA,b0⟩=>?_;have bw:=I6.pinned (ay one b0) (T.obj _ _ aA);obtain⟨hg,ht,he⟩:=a0;have e1:=hg _ s6 σ4 H6 x u _ bw r6 (step x H6 y6);rw[eP,eW,eA,eE,aE]at e1;refine thn e1 fun _ s7 ⟨σ7,H7,I7,q7⟩=>?_;have e2:=ht _ s7 σ7 H7 _ I7 q7;rw[eP,eW,eA,eE,aE]at e2;refine thn e2 fun ok s8 ⟨H8,I8,q8⟩=>?_;have fin:∀{U:St} {H':Hp} {s':Af} {ab:List Ac} {ah:Nat} {zs:List V},Inv M ([(D,{ cls:=.type "list",data:=.seq ab.toArray ah })] ++ oH fp s6.heap) U H' s'→cW zs ab→Nx zs U H'→
     ∃ m,m < n∧∃ i ys its nn U H',Inv M [(D,{ cls:=.type "list",data:=.seq its.toArray nn })] U H' s'∧tn i s'.heap∧(∀ b∈fp,H' b=none)∧cW ys its∧W i m ys U H':=fun{U H' s' ab ah zs} I' vs' n'=>by
    obtain⟨m',hm,w'⟩:=hN zs U H' n';refine⟨m',hm,i + 1,zs,ab,ah,U,H',I'.unpinned,T.keep _ _ _ aA fun b F o e=>(I'.pin (b,o) (A0 _ (A0 _ (lI F e)))).1,fun b F=>?_,vs',w'⟩;obtain⟨o,e,d⟩:=T.obj _ _ aA b F;exact(I'.pin (b,o) (A0 _ (A0 _ (lI F e)))).2.1
   cases ok with
   | false=>
    simp only[A7,if_false]at q8 ⊢;exact fin I8 ao q8
   | true=>
    simp only[if_true]at q8 ⊢;have e3:=he _ s8 σ7 H8 _ I8 q8;rw[eP,eW,eA,eE,aE]at e3;refine thn e3 fun v s9 ⟨y,H9,I9,r9,q9⟩=>?_;have pd:=I9.pin _ (A0 _ (Ed _ AG));have b5:=ao.length;refine wpAny_list_append_plain (hsz:=by simp only[At];omega) (⟨nn,pd.1⟩:s9.heap.PlainList D its.toArray) fun h' ⟨ah,bO⟩ bB=>?_;have bD:Inv M (oH fp s6.heap) σ7 H9 s9:=I9.pins_of fun p Y=>I9.pin p (A0 _ (A0 _ Y));have bv:Inv M (oH fp s6.heap) σ7 H9 { s9 with heap:=h' }:=bD.turned (t':=s9.toks) (it:=D) (fun b o F e=>(bB.2 b F).trans e) pd.2.1 (by rw[eL];exact ag) (.inr (by rw[eS];exact EW hD))
     (fun x c e=>AC (ac x c e)) fun p Y=>by
      rw[aR]at Y;rcases Bh.mp Y with z | z
      ·exact AC (ai p z)
      ·exact AC (an _ (v3 z).1)
    have bi:h'.get? D=some { cls:=.type "list",data:=.seq (its ++ [v]).toArray ah }:=by
     rw[bO];simp
    exact fin (ar (s':={ s9 with heap:=h' }) bv pd.2.1 bi) (ao.append (.cons r9 .nil)) q9
 exact codeAny_compStart_list (av _ rfl) (T.self X.A 0 _ _ _ bh (av _ rfl))
end
def aG3(src:List (Option Nat))(wi:TI)(g:TG)(tt:TT)(te:TE):TE:=fun σ H Q=>wi σ H fun J H1=>tQ J g tt te (sub src σ) H1 Q
section
variable{X:Cx}
theorem eJ{tg z F:Br}{M:List Br}{scope osc:DM}{pos:Pos}{N oN:List Str}{src:List (Option Nat)}{W:TI}{g:TG}{Y:TT}{te:TE}(B:zQ N src scope osc oN)(hi:PI X tg z W)
  (O:∀ cl s H fp dt C,PG (blk X N scope cl s H fp dt C) tg g∧PTs (blk X N scope cl s H fp dt C) M Y∧PE (blk X N scope cl s H fp dt C) F te)
  (hc:X.calm=true:=by rfl) (eo:X.env.scope=osc:=by rfl) (eN:X.N=oN:=by rfl)
  (Z:∀ x,foldedSetIterable z X.env x=pure x:=by intro _;rfl):PE X (.ListComp F [⟨tg,z,M,0⟩] scope pos) (aG3 src W g Y te):=by
 subst eo eN;constructor;intro dt s σ H Q I h;rw[eval_ListComp];refine wpAny_comprehension_free (use:=none) (cl:=iQ X.env scope.names []) rfl Z (o1 (I.clos B)) B.kind B.names (thn (hi dt s σ H _ I h) fun xv s1 h1=>thn h1 fun ab s2 h2=>?_);obtain⟨it,fp,tn,J,H2,e,I2,T,st2,f2,cw⟩:=h2;subst e;refine wG B hc O I2 T st2 f2 cw fun D C H' m s' J' U fC aa q=>?_;refine⟨m,U,fun h' sb=>⟨.ref D,H',?_,rfl,q⟩⟩;obtain⟨f0,f1,_,f3,f4,f5⟩:=fC;exact J'.turned (t':=s'.toks) (fun b o O e=>(sb.2 b O).trans e) f0 f1 f3 f4 f5
theorem lO{tg F O:Br}{M:List Br}{scope osc:DM}{pos ps W:Pos}{y:Str}{i:Nat}{N oN:List Str}{src:List (Option Nat)}{wi:TI}{g:TG}{tt:TT}{te:TE}(B:zQ N src scope osc oN)(hN:X.N.Nodup)(hy:X.N[i]?=some y)(hi:PI X tg F wi)
  (hb:∀ cl s H fp dt C,PG (blk X N scope cl s H fp dt C) tg g∧PTs (blk X N scope cl s H fp dt C) M tt∧PE (blk X N scope cl s H fp dt C) O te)
  (U:X.env.scope.names.lookup y=some .local:=by rfl)
  (ab:swapsWith (.ListComp O [⟨tg,F,M,0⟩] scope pos) (some (.Name y W)) ps.line X.env=pure true:=by rfl)
  (hc:X.calm=true:=by rfl) (eo:X.env.scope=osc:=by rfl) (eN:X.N=oN:=by rfl)
  (hs:∀ x,foldedSetIterable F X.env x=pure x:=by intro _;rfl):PS X (.Assign [.Name y W] (.ListComp O [⟨tg,F,M,0⟩] scope pos) ps) (aHu (aG3 src wi g tt te) (dI i)):=by
 subst eo eN;constructor;intro dt s σ H D I h;rw[exec_Assign_Name_used _ _ _ _ ab];refine Aa (FO (Aa ?_));show wpAny _ _ (evalThenUse (.ListComp O [⟨tg,F,M,0⟩] scope pos) X.env (assign (.Name y W) X.env)) _ _ s;have e:evalThenUse (.ListComp O [⟨tg,F,M,0⟩] scope pos) X.env (assign (.Name y W) X.env)=(do
   let _ ← comprehension (.ListComp O [⟨tg,F,M,0⟩] scope pos) scope X.env (firstIterPos [⟨tg,F,M,0⟩] pos) (newList []) (firstAsync [⟨tg,F,M,0⟩]) (firstIter [⟨tg,F,M,0⟩] X.env) (some (assign (.Name y W) X.env))):=rfl
 rw[e];refine Aa ?_;refine wpAny_comprehension_free (use:=some (assign (.Name y W) X.env)) (cl:=iQ X.env scope.names []) rfl hs (o1 (I.clos B)) B.kind B.names (thn (hi dt s σ H _ I h) fun xv s1 h1=>thn h1 fun aj s2 h2=>?_);obtain⟨it,fp,tn,J,H2,e,I2,T,st2,f2,cw⟩:=h2;subst e;refine wG B hc hb I2 T st2 f2 cw fun D' C H' m s' J' ae fC ai q=>?_;obtain⟨f0,f1,_,f3,f4,f5⟩:=fC;refine wpAny_assign_Name (vZ J' hN hy (.inl U) (v:=.ref D') rfl (fun ad Y ⟨a,sb,ha⟩=>?_) (.inr U));have ac:C≠a:=by
  rcases ha with rfl | ha
  ·exact f1
  ·exact fun z=>f4 y a ha z.symm
 refine⟨m,ae.sameBut sb ac,fun h' Z=>Ae (Ae ⟨_,H',Y.turned (t':=ad.toks) (fun b o hb e=>(Z.2 b hb).trans e) f0 f1 f3 f4 f5,q⟩)⟩
end
section
variable{X:Cx}
inductive mE(K:Ai)(xs:List V)(H:Hp)(Q:VK):Prop
 | mk (x:_) (n:_) (t:_) (b:_) (q0:xs=[x,.ty n]) (q1:i6 K H x t) (q2:BW K t (.type n)=some b) (q3:Q (.bl b) H):mE K xs H Q
def vN(K:Ai):List V→Hp→VK→Prop:=fun xs H Q=>mE K xs H Q
theorem dQ:fJ X (.builtin "isinstance") (vN X.K):=by
 intro dt s σ H xs us Q I r h;obtain⟨x,n,t,b,rfl,ty,e,q⟩:=h;obtain⟨u,w',rfl,r1,r2⟩:=aD9 r;cases r2;exact aC9 I r1 ty e fun tk=>⟨.bl b,H,I.tok _,rfl,q⟩
inductive n5(x:V)(y:V)(H:Hp)(Q:VK):Prop
 | mk (i:_) (j:_) (q0:x=.str i) (q1:y=.str j) (q2:Q (.bl (!decide (j.cps.toList < i.cps.toList))) H):n5 x y H Q
def zS:V→V→Hp→VK→Prop:=fun x y H Q=>n5 x y H Q
theorem wH:OpR X (compareOp .LtE) zS:=by
 intro dt s σ H x y v u Q I B z h;obtain⟨i,j,rfl,rfl,q⟩:=h;obtain⟨t,rfl⟩:=B;obtain⟨t',rfl⟩:=z;exact PySem.P.le_str ⟨.bl _,H,I,rfl,q⟩
def wI(i j:Int):Prop:=0 < j∧j.natAbs.log2 < 9000
theorem wI.of{i j:Int}(h:0 < j)(h2:j < 2 ^ 512):wI i j:=by
 refine⟨h,?_⟩;have q:j.natAbs≠0:=by omega
 have:j.natAbs.log2 < 512:=(Nat.log2_lt q).mpr (by
  have e:((2:Int) ^ 512)=((2 ^ 512:Nat):Int):=by decide
  rw[e]at h2;omega)
 omega
theorem tR:OpR X (binaryOp .FloorDiv) (rI wI fun i j=>.int (i / j)):=opI fun i j _ _ _ _ _ hc q=>by
 have h1:(0:Int) < j:=hc.1;refine floordiv_int (by omega) ?_ (AE (PyProof.noPylong_of_log2 hc.2));rw[Int.fdiv_eq_ediv_of_nonneg i (by omega)];exact q
def Its(x:Str):It:=⟨fun i _=>i < x.cps.size,fun i H v H'=>H'=H∧∃ c,x.cps[i]?=some c∧v=.str ⟨#[c]⟩,fun i _=>x.cps.size≤i⟩
theorem aEo{P:AD}{w:AY}{K:Ai}{tg:Br}(it:Ah)(x:Str)(t:Tok)(nm:String)(U:nm="str_ascii_iterator"∨nm="str_iterator")
  (W:∀ A':AU,A'.handled=none→Walks P w A' it [it] [it] x.cps.size (SignAt x) (fun i h=>h.IsStrIter it nm x t i))
  (B:∀(A:AU) (i:Nat) (s:Af) (Q:Ac→Af→Prop) (E:Ac→Af→Prop),s.heap.IsStrIter it nm x t i→Q (.ref it) s→wpAny (model P w) A (pyIter (.ref it)) Q E s):
  aC5 P w K tg (Its x) [it] it (fun i h=>i≤x.cps.size∧h.IsStrIter it nm x t i) where
 mem:=by simp
 obj:=fun i h st b q=>by
  have e:b=it:=by simpa using q
  subst e;obtain⟨_,o,e,c,d⟩:=st;exact⟨o,e,fun v z=>by rw[d]at z;cases z⟩
 keep:=fun i h h' st k=>⟨st.1,by obtain⟨_,o,e,c,d⟩:=st;exact⟨o,k it (by simp) o e,c,d⟩⟩
 item:=by
  intro X O hw Z hc i dt s σ H E I M st J;subst O hw Z;obtain⟨f0,f1,f2,f3,f4,f5⟩:=M it (by simp);refine(W X.A (I.ok.hd hc)).item i s _ _ J st.2 fun v h' tk hv F Y=>?_;obtain⟨c,u,ec,rfl⟩:=hv;have I1:Inv X dt σ H { s with heap:=h',toks:=tk }:=I.turned (fun b o q e=>Y b o (by simpa using q) e) f0 f1 f3 f4 f5;obtain⟨o,e,c',d⟩:=id F;refine⟨_,rfl,aBZ (s:={ s with heap:=h',toks:=tk }) e c' d (by rcases U with rfl | rfl <;> decide) ⟨.str ⟨#[c]⟩,H,I1,⟨u,rfl⟩,⟨rfl,c,ec,rfl⟩,⟨J,F⟩,fun b q=>(M b q).1⟩⟩
 done:=by
  intro X O hw Z hc i dt s σ H E I M st J;subst O hw Z;obtain⟨f0,f1,f2,f3,f4,f5⟩:=M it (by simp);have e:i=x.cps.size:=Nat.le_antisymm st.1 J;subst e;exact(W X.A (I.ok.hd hc)).done s _ _ st.2 fun h' tk Y=>⟨rfl,I.turned (fun b o q e=>Y b o (by simpa using q) e) f0 f1 f3 f4 f5⟩
 self:=fun A i s Q E st h=>B A i s Q E st.2 h
def aJK(tl:TE):TI:=fun σ H R=>tl σ H fun x H1=>As V.str x fun z=>R (Its z) H1
theorem aHN{tg l:Br}{tl:TE}(hl:PE X l tl):PI X tg l (aJK tl):=by
 constructor;intro dt s σ H R I h;refine thn (hl dt s σ H _ I h) fun v B ⟨x,H1,O,Z,Y⟩=>?_;obtain⟨z,rfl,q⟩:=Y;obtain⟨t,rfl⟩:=Z;have fin:∀(nm:String) (J:nm="str_ascii_iterator"∨nm="str_iterator")
   (W:∀ M:AU,M.handled=none→Walks X.prog X.w M B.heap.objs.size [B.heap.objs.size] [B.heap.objs.size] z.cps.size (SignAt z) (fun i h=>h.IsStrIter B.heap.objs.size nm z t i))
   (F:∀(A:AU) (i:Nat) (s:Af) (Q:Ac→Af→Prop) (E:Ac→Af→Prop),s.heap.IsStrIter B.heap.objs.size nm z t i→Q (.ref B.heap.objs.size) s→wpAny (model X.prog X.w) A (pyIter (.ref B.heap.objs.size)) Q E s),
   PIE X dt σ tg R (.ref B.heap.objs.size) { B with heap:=B.heap.push { cls:=.type nm,data:=.fields #[.str z t,.int 0 0] } }:=fun nm J W F=>by
  refine⟨B.heap.objs.size,[B.heap.objs.size],_,_,H1,rfl,O.kept (t':=B.toks) fun b o e=>Ag _ e,aEo B.heap.objs.size z t nm J W F,⟨A3 _,_,Av _ rfl,rfl,rfl⟩,fun b hb=>?_,q⟩;have e:b=B.heap.objs.size:=by simpa using hb
  subst e;exact O.fpOk (Ap _) (O.hok.fresh (Ap _))
 cases ha:z.cps.all (· < 128)
 ·exact wpAny_pyIter_wide ha (fin "str_iterator" (.inr rfl) (fun M U=>Walks.strWide U _ z t) fun A i s Q E st h=>wpAny_pyIter_striter_wide st h)
 ·exact wpAny_pyIter_ascii ha (fin "str_ascii_iterator" (.inl rfl) (fun M U=>Walks.strAscii U _ z t) fun A i s Q E st h=>wpAny_pyIter_striter_ascii st h)
inductive tT(x:V)(lo:Option Int)(hi:Option Int)(H:Hp)(Q:VK):Prop
 | mk (z:_) (q0:x=.str z) (q1:z.length≤sizeLine) (q2:Q (.str (D9 z lo hi)) H):tT x lo hi H Q
def aEp:V→Option Int→Option Int→Hp→VK→Prop:=fun x lo hi H Q=>tT x lo hi H Q
theorem aEq:SlR X aEp:=by
 intro dt s σ H x v Z vu lo hi Y Q I W U pl O h;obtain⟨z,rfl,hz,q⟩:=h;obtain⟨t,rfl⟩:=W;refine⟨"str",_,F.slot_str_getitem.lookup,FX _ _ _,?_⟩;have fin:∀ M k,EP X dt σ Q (.str (D9 z lo hi) M) { s with toks:=k }:=fun M k=>⟨.str _,H,I.tok _,⟨_,rfl⟩,q⟩
 obtain⟨o,ho,hc,hd⟩:=U;cases pl with
 | none=>
  cases O with
  | none=>exact DX (l:=none) (u:=none) (st:=none) ⟨o,ho,hc,hd⟩ rfl (Fg ⟨Bg (EV z _ _) hz,fin⟩)
  | int j B=>exact DX (l:=none) (u:=some (j,B)) (st:=none) ⟨o,ho,hc,hd⟩ rfl (Fg ⟨Bg (EV z _ _) hz,fin⟩)
 | int i J=>
  cases O with
  | none=>exact DX (l:=some (i,J)) (u:=none) (st:=none) ⟨o,ho,hc,hd⟩ rfl (Fg ⟨Bg (EV z _ _) hz,fin⟩)
  | int j B=>exact DX (l:=some (i,J)) (u:=some (j,B)) (st:=none) ⟨o,ho,hc,hd⟩ rfl (Fg ⟨Bg (EV z _ _) hz,fin⟩)
theorem aCf:∀{ys:List Str}{us:List Ac},cW (ys.map V.str) us→Gs us ys
 | [],_,.nil=>.nil
 | y :: ys,_,.cons ⟨t,rfl⟩ r=>.cons y t (aCf r)
inductive qV(K:Ai)(x:V)(xs:List V)(H:Hp)(Q:VK):Prop
 | mk (z:_) (p:_) (ys:_) (q0:x=.str z) (q1:xs=[.ref p]) (q2:SqL K H p (ys.map V.str)) (q3:(ys.map (·.length)).sum + ys.length * z.length≤16777216) (q4:Q (.str (Txt.join z ys)) H):qV K x xs H Q
def aDh(K:Ai):V→List V→Hp→VK→Prop:=fun x xs H Q=>qV K x xs H Q
theorem aF9:MtR X "str.join" (aDh X.K):=by
 intro dt s σ H x xs v us Q I B r h;obtain⟨z,p,ys,rfl,rfl,hx,hz,q⟩:=h;obtain⟨t,rfl⟩:=B;obtain⟨u,rfl,ru⟩:=fM r;cases ru;obtain⟨its,rv,pl,_⟩:=I.list hx;exact join_list pl.isList (by simpa using aCf rv) hz fun F k=>⟨.str _,H,I.tok _,⟨_,rfl⟩,q⟩
theorem zT:∀{bs:List Bool}{us:List Ac},cW (bs.map V.bl) us→∀(i:Nat) v,us[i]?=some v→∃ b,bs[i]?=some b∧v=.bool b
 | [],_,.nil,i,v,e=>by simp at e
 | b :: bs,_,.cons rfl r,0,v,e=>by simp at e;exact⟨b,rfl,e.symm⟩
 | b :: bs,_,.cons rfl r,i + 1,v,e=>by
  obtain⟨c,h1,h2⟩:=zT r i v (by simpa using e);exact⟨c,by simpa using h1,h2⟩
theorem aBf(bs:List Bool):((AO bs.length).all fun i=>(bs[i]?).getD true)=bs.all id:=by
 rw[Cm,Be,Be];constructor
 ·intro h b z;obtain⟨i,hi,e⟩:=Dp.mp z;have:=h i (BF.mpr hi);rw[Ab hi]at this;simpa[e]using this
 ·intro h i hi;have q:=BF.mp hi;rw[Ab q];exact h _ (Bk q)
inductive o7(K:Ai)(xs:List V)(H:Hp)(Q:VK):Prop
 | mk (p:Ah) (bs:List Bool) (q0:xs=[.ref p]) (q1:SqL K H p (bs.map V.bl)) (q2:Q (.bl (bs.all id)) H):o7 K xs H Q
def aBg(K:Ai):List V→Hp→VK→Prop:=fun xs H Q=>o7 K xs H Q
theorem o8(hc:X.calm=true):fJ X (.builtin "all") (aBg X.K):=by
 intro dt s σ H xs us Q I r h;obtain⟨p,bs,rfl,hx,q⟩:=h;obtain⟨u,rfl,ru⟩:=fM r;cases ru;obtain⟨its,rv,pl,_⟩:=I.list hx;have F:=pl.isList;have z:its.length=bs.length:=by have:=rv.length;simpa using this.symm
 have B:p < s.heap.objs.size:=by obtain⟨_,e,_⟩:=F;exact Aw e
 refine call_all_walk (ER F ?_);refine⟨s.heap.objs.size,[s.heap.objs.size,p],[s.heap.objs.size],its.toArray.size,_,_,fun i=>(bs[i]?).getD true,rfl,GJ (A:=X.A.in1) (I.ok.hd hc) _ p (AC B) its.toArray,
  ⟨⟨_,Av _ rfl,rfl,rfl⟩,F.push _⟩,fun i v s' U W M J=>?_,fun h' tk O=>?_⟩
 ·obtain⟨b,e,rfl⟩:=zT rv i v (by simpa using M);simp only[e,Option.getD_some]at J;exact CH J
 ·rw[At,z,aBf];exact⟨.bl _,H,I.kept fun b x e=>O b x (fun hm=>by rw[BE.mp hm]at e;exact Cz _ (Aw e)) (Ag _ e),rfl,q⟩
def vO:List V→List V→Bool
 | [],[]=>true
 | x :: xs,y :: ys=>eqV x y && vO xs ys
 | _,_=>false
theorem tU:∀{xs ys:List V},xs.length≠ys.length→vO xs ys=false
 | [],[],h=>absurd rfl h
 | [],_ :: _,_=>rfl
 | _ :: _,[],_=>rfl
 | x :: xs,y :: ys,h=>by
  show(eqV x y && vO xs ys)=false;rw[tU (fun e=>h (by simp[e])),Gk]
theorem tV:∀{xs ys:List V},xs.length=ys.length→((AO xs.length).all fun i=>eqV (xs[i]?.getD .non) (ys[i]?.getD .non))=vO xs ys
 | [],[],_=>rfl
 | x :: xs,y :: ys,h=>by
  have q:=tV (xs:=xs) (ys:=ys) (by simpa using h);rw[A6,List.range_succ_eq_map,Cw,Dt];show(eqV x y && _)=(eqV x y && vO xs ys)
  rw[← q];rfl
theorem zU{A:AU}{s:Af}{xs ys:List V}{us B:List Ac}(J:cW xs us)(F:cW ys B)(f1:xs.all iI=true)(f2:ys.all iI=true)(j:Nat)(h1:j < us.toArray.size)(h2:j < B.toArray.size):
  Fp A s us.toArray[j] B.toArray[j] (eqV (xs[j]?.getD .non) (ys[j]?.getD .non)):=by
 have W:=J.length;have U:=F.length;have z:j < xs.length:=by simpa[W]using h1
 have q:j < ys.length:=by simpa[U]using h2
 obtain⟨u,eu,ru⟩:=J.get (Ab z);obtain⟨w',ew,rw'⟩:=F.get (Ab q);have O:us.toArray[j]=u:=by
  rw[Ab (by simpa using h1)]at eu;simpa using eu
 have M:B.toArray[j]=w':=by
  rw[Ab (by simpa using h2)]at ew;simpa using ew
 rw[O,M,Ab z,Ab q];exact p5 ru rw' (Be.mp f1 _ (Bk z)) (Be.mp f2 _ (Bk q))
inductive tW(K:Ai)(x:V)(y:V)(H:Hp)(Q:VK):Prop
 | mk (p:_) (q:_) (xs:_) (ys:_) (q0:x=.ref p) (q1:y=.ref q) (q2:SqL K H p xs) (q3:SqL K H q ys) (q4:xs.all iI=true) (q5:ys.all iI=true) (q6:Q (.bl (vO xs ys)) H):tW K x y H Q
def aEr(K:Ai):V→V→Hp→VK→Prop:=fun x y H Q=>tW K x y H Q
theorem aHO(z:X.A.units < cLine):OpR X (compareOp .Eq) (aEr X.K):=by
 intro dt s σ H x y v u Q I F B h;obtain⟨p,q,xs,ys,rfl,rfl,h1,h2,f1,f2,hq⟩:=h;cases F;cases B;obtain⟨us,r1,p1,_⟩:=I.list h1;obtain⟨ws,r2,p2,_⟩:=I.list h2;have J:=r1.length;have M:=r2.length;by_cases e:xs.length=ys.length
 ·refine SeqAt.eq_listAt p1.isList p2.isList (by simp;omega) z (zU r1 r2 f1 f2) ?_;rw[At,← J,tV e];exact⟨.bl _,H,I,rfl,hq⟩
 ·refine SeqAt.eq_list_lengthsAt p1.isList p2.isList (by simp;omega) z ?_;rw[tU e]at hq;exact⟨.bl _,H,I,rfl,hq⟩
inductive tX(K:Ai)(x:V)(y:V)(H:Hp)(Q:VK):Prop
 | mk (p:_) (q:_) (xs:_) (ys:_) (q0:x=.ref p) (q1:y=.ref q) (q2:SqL K H p xs) (q3:SqL K H q ys) (q4:xs.all iI=true) (q5:ys.all iI=true) (q6:Q (.bl (!vO xs ys)) H):tX K x y H Q
def aEs(K:Ai):V→V→Hp→VK→Prop:=fun x y H Q=>tX K x y H Q
theorem aEt(z:X.A.units < cLine):OpR X (compareOp .NotEq) (aEs X.K):=by
 intro dt s σ H x y v u Q I F B h;obtain⟨p,q,xs,ys,rfl,rfl,h1,h2,f1,f2,hq⟩:=h;cases F;cases B;obtain⟨us,r1,p1,_⟩:=I.list h1;obtain⟨ws,r2,p2,_⟩:=I.list h2;have J:=r1.length;have M:=r2.length;by_cases e:xs.length=ys.length
 ·refine SeqAt.RcNeAt.lists p1.isList p2.isList (by simp;omega) z (zU r1 r2 f1 f2) X.prog X.w _ _ ?_;rw[At,← J,tV e];exact⟨.bl _,H,I,rfl,hq⟩
 ·refine SeqAt.RcNeAt.lists_lengths p1.isList p2.isList (by simp;omega) z X.prog X.w _ _ ?_;rw[tU e]at hq;exact⟨.bl _,H,I,rfl,hq⟩
end
theorem aS{n:Nat}(h:n≤1000000):n≤sizeLine:=by
 have:sizeLine=16777216:=Fw;omega
theorem rZ{J:It}{g:TG}{W:TT}{te:TE}{U:St}{H₀:Hp}{Q:VK}(n:Nat)(Pv:Nat→List V→St→Hp→Prop)(h0:Pv 0 [] U H₀)(hn:n≤sizeLine)(B:∀ i ys σ H,Pv i ys σ H→ys.length≤i)
  (M:∀ i ys σ H,i < n→Pv i ys σ H→J.go i H) (z:∀ ys σ H,Pv n ys σ H→J.stop n H)
  (Y:∀ i ys σ H x H',i < n→Pv i ys σ H→J.yld i H x H'→g x σ H' fun F H2=>W F H2 fun b O=>if b=true then te F O fun v Z=>Pv (i + 1) (ys ++ [v]) F Z else Pv (i + 1) ys F O)
  (hd:∀ ys σ H,Pv n ys σ H→∀ D,H D=none→Q (.ref D) (upd H D (.lst ys))):tQ J g W te U H₀ Q:=by
 refine⟨fun i m ys σ H=>m=n - i∧i≤n∧Pv i ys σ H,⟨n,by simp,A3 _,h0⟩,?_⟩;rintro i m ys σ H ⟨rfl,hi,p⟩;refine⟨Bg (B i ys σ H p) (Bg hi hn),?_⟩;by_cases q:i < n
 ·exact .inr ⟨M i ys σ H q p,Pv (i + 1),fun zs σ' H' p'=>⟨n - (i + 1),by omega,rfl,q,p'⟩,fun x H' y=>Y i ys σ H x H' q p y⟩
 ·have e:i=n:=by omega
  subst e;exact .inl ⟨z ys σ H p,hd ys σ H p⟩
theorem aEu{x:Str}{g:TG}{J:TT}{te:TE}{F:St}{H₀:Hp}{Q:VK}(Pv:Nat→List V→St→Hp→Prop)(U:Pv 0 [] F H₀)(hn:x.cps.size≤sizeLine)(q:∀ i ys σ H,Pv i ys σ H→ys.length≤i)
  (M:∀ i c ys σ H,x.cps[i]?=some c→Pv i ys σ H→g (.str ⟨#[c]⟩) σ H fun z H2=>J z H2 fun b B=>if b=true then te z B fun v O=>Pv (i + 1) (ys ++ [v]) z O else Pv (i + 1) ys z B)
  (hd:∀ ys σ H,Pv x.cps.size ys σ H→∀ D,H D=none→Q (.ref D) (upd H D (.lst ys))):tQ (Its x) g J te F H₀ Q:=
 rZ x.cps.size Pv U hn q (fun i _ _ _ h _=>h) (fun _ _ _ _=>Ap _) (fun i ys σ H v H' hi p y=>by
  obtain⟨e,c,ec,rfl⟩:=y;subst e;exact M i c ys σ _ ec p) hd
theorem oJ{lo:Int}{n:Nat}{g:TG}{J:TT}{te:TE}{F:St}{H₀:Hp}{Q:VK}(Pv:Nat→List V→St→Hp→Prop)(U:Pv 0 [] F H₀)(hn:n≤sizeLine)(q:∀ i ys σ H,Pv i ys σ H→ys.length≤i)
  (M:∀ i ys σ H,i < n→Pv i ys σ H→g (.int (lo + i)) σ H fun z H2=>J z H2 fun b B=>if b=true then te z B fun v O=>Pv (i + 1) (ys ++ [v]) z O else Pv (i + 1) ys z B)
  (hd:∀ ys σ H,Pv n ys σ H→∀ D,H D=none→Q (.ref D) (upd H D (.lst ys))):tQ (Itr lo n) g J te F H₀ Q:=
 rZ n Pv U hn q (fun i _ _ _ h _=>h) (fun _ _ _ _=>Ap _) (fun i ys σ H v H' hi p y=>by
  obtain⟨e,rfl⟩:=y;subst e;exact M i ys σ _ hi p) hd
theorem j9{K:Ai}{a:Ah}{xs:List V}{g:TG}{M:TT}{te:TE}{J:St}{H₀:Hp}{Q:VK}(Pv:Nat→List V→St→Hp→Prop)(W:Pv 0 [] J H₀)(hn:xs.length≤sizeLine)(q:∀ i ys σ H,Pv i ys σ H→ys.length≤i)
  (B:∀ i ys σ H,Pv i ys σ H→SqL K H a xs)
  (O:∀ i x ys σ H,xs[i]?=some x→Pv i ys σ H→g x σ H fun z H2=>M z H2 fun b F=>if b=true then te z F fun v U=>Pv (i + 1) (ys ++ [v]) z U else Pv (i + 1) ys z F)
  (hd:∀ ys σ H,Pv xs.length ys σ H→∀ D,H D=none→Q (.ref D) (upd H D (.lst ys))):tQ (Itl K a) g M te J H₀ Q:=
 rZ xs.length Pv W hn q (fun i ys σ H h p=>⟨xs,xs[i],B i ys σ H p,by simp[h]⟩) (fun ys σ H p=>⟨xs,B _ ys σ H p,Ap _⟩) (fun i ys σ H v H' hi p y=>by
  obtain⟨e,y⟩:=y;subst e;exact O i v ys σ _ (y xs (B i ys σ _ p)) p) hd
theorem gQ{K:Ai}{a:Ah}{xs:List V}{g:TG}{M:TT}{te:TE}{J:St}{H₀:Hp}{Q:VK}(Pv:Nat→List V→St→Hp→Prop)(W:Pv 0 [] J H₀)(hn:xs.length≤sizeLine)(q:∀ i ys σ H,Pv i ys σ H→ys.length≤i)
  (B:∀ i ys σ H,Pv i ys σ H→SqT K H a xs)
  (O:∀ i x ys σ H,xs[i]?=some x→Pv i ys σ H→g x σ H fun z H2=>M z H2 fun b F=>if b=true then te z F fun v U=>Pv (i + 1) (ys ++ [v]) z U else Pv (i + 1) ys z F)
  (hd:∀ ys σ H,Pv xs.length ys σ H→∀ D,H D=none→Q (.ref D) (upd H D (.lst ys))):tQ (Itt K a) g M te J H₀ Q:=
 rZ xs.length Pv W hn q (fun i ys σ H h p=>⟨xs,xs[i],B i ys σ H p,by simp[h]⟩) (fun ys σ H p=>⟨xs,B _ ys σ H p,Ap _⟩) (fun i ys σ H v H' hi p y=>by
  obtain⟨e,y⟩:=y;subst e;exact O i v ys σ _ (y xs (B i ys σ _ p)) p) hd
def bW(p:Ah)(H H':Hp):Prop:=∀ b o,H b=some o→b≠p→H' b=some o
theorem bW.refl(p:Ah)(H:Hp):bW p H H:=fun _ _ e _=>e
theorem bW.trans{p:Ah}{H H1 H2:Hp}(a:bW p H H1)(b:bW p H1 H2):bW p H H2:=fun c o e h=>b c o (a c o e h) h
theorem bW.same{p:Ah}{H H1 H2:Hp}(a:bW p H H1)(b:bS H1 H2):bW p H H2:=fun c o e h=>b c o (a c o e h)
theorem bS.but{p:Ah}{H H1:Hp}(a:bS H H1):bW p H H1:=fun c o e _=>a c o e
theorem bW.upd{p:Ah}{o:HO}{H H1:Hp}(a:bW p H H1):bW p H (upd H1 p o):=fun c u e h=>by rw[bI h];exact a c u e h
theorem aU{p:Ah}{o:HO}{H:Hp}(h:H p=none):bS H (upd H p o):=fun c u e=>by rw[bI (aX e h)];exact e
section
variable{X:Cx}
end
section
variable{X:Cx}
inductive aEv(t:TS)(D:p3)(σ:St)(H:Hp):Prop
 | mk (R:St→Hp→Prop) (q0:t { D with nx:=R } σ H) (q1:∀ σ' H',R σ' H'→D.nx σ' H'):aEv t D σ H
def aJL(t:TS):TS:=fun D σ H=>aEv t D σ H
theorem tY{st:B6}{t:TS}(h:PS X st t):PS X st (aJL t):=by
 constructor;intro dt s σ H D I q;obtain⟨R,q1,q2⟩:=q;refine thn (h dt s σ H _ I q1) fun f s' z=>?_;cases f with
 | next=>obtain⟨σ',H',I',r⟩:=z;exact⟨σ',H',I',q2 _ _ r⟩
 | brk=>exact z
 | cont=>exact z
 | ret u=>exact z
inductive aCg(t:TT)(σ:St)(H:Hp)(Q:(Bool→Hp→Prop)):Prop
 | mk (R:Bool→Hp→Prop) (q0:t σ H R) (q1:∀ b H',R b H'→Q b H'):aCg t σ H Q
def aIU(t:TT):TT:=fun σ H Q=>aCg t σ H Q
theorem aHP{e:Br}{t:TT}(h:PT X e t):PT X e (aIU t):=by
 constructor;intro dt s σ H Q I q;obtain⟨R,q1,q2⟩:=q;exact thn (h dt s σ H _ I q1) fun b s' ⟨H',B,z⟩=>⟨H',B,q2 _ _ z⟩
end
theorem wJ:∀ ns:List Int,(ns.map V.int).all iI=true
 | []=>rfl
 | _ :: r=>wJ r
theorem tZ{K:Ai}{T U:String}{b:Bool}(hn:(AB T == AB U)=false)(hm:PySem.W.kitMeta U=true)(q:(PySem.fastBuiltinMro T).map (·.contains (AB U))=some b):BW K (.type T) (.type U)=some b:=by
 unfold BW;rw[Ia (by rw[hn];exact AA)];show(if PySem.W.kitMeta U=true then PySem.W.subIn K (AB T) (AB U) else none)=_;rw[Ib hm];exact q
theorem mV{K:Ai}{T:String}:BW K (.type T) (.type T)=some true:=by
 unfold BW;rw[Ib (by rw[beq_self_eq_true])]
theorem gY{xs:List V}{i:Int}(z:0≤i)(h1:i < xs.length):∃ v,v∈xs∧atI xs i=some v:=by
 have q:i.toNat < xs.length:=by omega
 refine⟨xs[i.toNat],Bk q,?_⟩;have e:=fV (xs:=xs) (j:=i.toNat) (v:=xs[i.toNat]) (Ab q);rw[Dz z]at e;exact e
def aEw:Br→Bool
 | .Starred ..=>false
 | _=>true
theorem aDi{e:Br}{es:List Br}{env:Env}(h:aEw e=true):starEach (e :: es) env=(false,eval e env) :: starEach es env:=by
 cases e <;> first | rfl | cases h
theorem aG{X:Cx}{e:Br}{es:List Br}{te:TE}{t:TA}(ha:PE X e te)(z:PA X es t)(q:aEw e=true:=by rfl):PA X (e :: es) (aB5 te t):=gO ha z (aDi q)
section
variable{X:Cx}
theorem Inv.turnedL{dt:List (Ah×Obj)}{σ:St}{H:Hp}{s:Af}{h':Bm}{t':Nat}{fp:List Ah}(I:Inv X dt σ H s)(k:∀ b o,b ∉ fp→s.heap.get? b=some o→h'.get? b=some o)(F:∀ b∈fp,mH X dt H b):
  Inv X dt σ H { s with heap:=h',toks:=t' }:=by
 have B:∀ b u,H b=some u→b ∉ fp:=fun b u e z=>by rw[(F b z).1]at e;cases e
 refine I.step (g':=s.gens) (d':=s.drawn) (ch:=fp) (fun b J=>?_) (fun b o _ _ hc e _=>k b o hc e) (fun b o _ _ hc e _=>⟨o.slots,k b o hc e⟩) (fun _ _ _ _ n=>n)
  (fun b o hc e=>⟨o,k b o hc e⟩) (fun _ _ e=>e) (fun _ _ _ e=>e) (fun b ps e=>⟨#[],by rw[e];simp⟩) (fun m hm=>?_) (fun b u e=>?_) I.bare
 ·obtain⟨_,h1,_,h3,h4,h5⟩:=F b J;exact⟨h3,h1,h4,h5⟩
 ·obtain⟨o,es,ep,ho,r⟩:=hm;exact⟨o,es,ep,k _ o (fun z=>(F _ z).2.1 rfl) ho,r⟩
 ·refine(I.hok b u e).stay (fun c v hc q=>k c v ?_ q) (fun _ q=>q) fun _ _ q=>q;rcases hc with z | z
  ·rw[z];exact B b u e
  ·exact B c _ z
structure ZA(z TI TO i1 i2:Ah):Prop where
 a1:TI≠z
 a2:TO≠z
 a3:i1≠z
 a4:i2≠z
 a5:TI≠TO
 a6:TI≠i1
 a7:TI≠i2
 a8:TO≠i1
 a9:TO≠i2
 a10:i1≠i2
end
def i8(σ:List Str)(v:Str):List Str:=if v∈σ then σ else σ ++ [v]
def eQ(val:Nat→Str):Nat→List Str
 | 0=>[]
 | i + 1=>i8 (eQ val i) (val i)
theorem pA(σ:List Str)(k:Str):(σ.any fun x=>x == k)=decide (k∈σ):=by
 rw[Cm,CL,decide_eq_true_iff];constructor
 ·rintro⟨x,hx,e⟩;rw[beq_iff_eq]at e;exact e ▸ hx
 ·intro h;exact⟨k,h,beq_self_eq_true k⟩
theorem wK(σ:List Str)(v k:Str):((i8 σ v).any fun x=>x == k)=((σ.any fun x=>x == k) || decide (k=v)):=by
 rw[pA,pA];unfold i8;split
 ·next h=>
  rw[Cm];simp only[decide_eq_true_eq,Bool.or_eq_true];constructor
  ·intro z;exact .inl z
  ·rintro(z | z)
   ·exact z
   ·exact z ▸ h
 ·rw[Cm];simp
theorem iR(σ:List Str)(v:Str):(i8 σ v).length=if (σ.any fun x=>x == v)=true then σ.length else σ.length + 1:=by
 rw[pA];unfold i8;by_cases h:v∈σ
 ·rw[Ib h,Ib (Ic h)]
 ·rw[Ia h,Ia (by simpa using h),AH];rfl
theorem nA(val:Nat→Str):∀ i,(eQ val i).length≤i
 | 0=>Ap _
 | i + 1=>by
  have q:=nA val i;show(i8 _ _).length≤_;rw[iR];split <;> omega
theorem aDj{prog:AD}{w:AY}{A:AU}{R:Result→Af→Prop}{I:Ah}{fp wr:List Ah}{G:Array Gc→Array Gc→Prop}{n:Nat}{P:Nat→Ac→Prop}{St:Nat→Af→Prop}
  (W:WalksS prog w A.in1 I fp wr G n P St) (S:Ah) (Z:¬ S∈fp) (val:Nat→Str) (Y:∀(i:Nat) (v:Ac),P i v→∃ t,v=By (val i) t) (F:n + 1 < scanBound):
  ∀(k i:Nat) (s:Af),n - i=k→i≤n→St i s→Fs (Bq prog w) s.heap S (fun J=>(eQ val i).any fun x=>x == J) (eQ val i).length→
   (∀ s':Af,Moved (S :: wr) G s s'→Fs (Bq prog w) s'.heap S (fun J=>(eQ val n).any fun x=>x == J) (eQ val n).length→R (GY (GE Cd)) s')→
   codeAny (model prog w) A (Code.builtin "set.update.loop" { pos:=[AI S,AI I] }) R s:=by
 have ad:¬ S∈wr:=fun h=>Z (W.sub S h);have q:∀ b,b∈wr→b∈S :: wr:=fun b F=>AJ S F;intro k
 induction k with
 | zero=>
  intro i s hk hi z hS hR;have ag:i=n:=by omega
  subst ag;refine BS Cu ?_;rw[BH BI];refine Aa (W.done s _ _ z fun s' hm=>?_);refine Ae (hR s' (Gb hm q) ?_);obtain⟨o,es,ep,t,ho,cM⟩:=hS;exact⟨o,es,ep,t,hm.heap S o ad ho,cM⟩
 | succ k ih=>
  intro i s hk hi z hS hR;have O:i < n:=by omega
  refine BS Cu ?_;rw[BH BI];refine Aa (W.item i s _ _ O z fun v s' hP U hm=>?_);obtain⟨t,rfl⟩:=Y i v hP;have ai:Fs (Bq prog w) s'.heap S (fun J=>(eQ val i).any fun x=>x == J) (eQ val i).length:=by
   obtain⟨o,es,ep,tb,ho,cM⟩:=hS;exact⟨o,es,ep,tb,hm.heap S o ad ho,cM⟩
  have B:(eQ val i).length + 1 < scanBound:=by
   have:=nA val i;omega
  refine Aa (Ba (Ba (Aa ((Bq prog w).pyHash (Gv prog w (val i) t) ?_))));refine wpAny_setAddHashed_of (Gv prog w (val i) t) rfl ai B fun h' ac af=>?_;refine Ae ⟨Dm BI _,?_⟩;refine ih (i + 1) _ (by omega) O (W.frame (i + 1) s' h' _ U (CZ s'.toks) fun b F o e=>?_) ?_ fun ah aa M=>?_
  ·rw[ac.right b fun h=>Z (h ▸ F)];exact e
  ·refine SetOf_congr af (fun J=>?_) ?_
   ·show _=((i8 _ _).any _)
    rw[wK]
   ·show _=(i8 _ _).length;rw[iR]
  ·refine hR ah (Moved.trans W.gtrans (Moved.then_heap (Gb hm q) (CZ s'.toks) fun b o F e=>?_) aa) M;rw[ac.right b fun h=>F (h ▸ AG)];exact e
theorem vP{prog:AD}{w:AY}{A:AU}{E:Ac→Af→Prop}{s:Af}{l:Ah}{z:Array Ac}{val:Nat→Str}{Q:Ac→Af→Prop}(hh:A.handled=none)(hl:s.heap.IsList l z)
  (hi:∀(i:Nat) (v:Ac),z[i]?=some v→∃ t,v=By (val i) t) (hb:z.size + 1 < scanBound)
  (h:∀(h':Bm) (tk:Nat),Fs (Bq prog w) h' s.heap.objs.size (fun k'=>(eQ val z.size).any fun x=>x == k') (eQ val z.size).length→
   (∀(b:Nat) (o:Obj),b < s.heap.objs.size→s.heap.get? b=some o→h'.get? b=some o)→Q (AI s.heap.objs.size) { s with heap:=h',toks:=tk }):
  wpAny (model prog w) A (call (AB "set") [AI l]) Q E s:=by
 obtain⟨c,tl,hmro⟩:=BP.mro;have O:=BP.made;have aa:=BP.sub;have ak:=Gd (AI l);refine Dg (Fh (Ae ⟨Ft _ (by decide),BS F3 ?_⟩));rw[Fl (Fn "set" [AI l] []) rfl];unfold Builtin.«type.__call__»;dsimp only
 iterate 2 refine Aq (by first | rfl | decide) ?_
 refine Aa (Ct ak ?_);refine Aa (Ct hmro ?_);refine Aq (by first | rfl | decide) ?_;refine Aa (Ct O ?_);refine Aa (Ae ?_);refine Aa (Ba (Dg (C1 (code_set_new_1 (Q₁:=fun obj s₁=>∃ led,obj=AI s.heap.objs.size∧s₁={ s with heap:=s.heap.push { cls:=AB "set",data:=BZ #[] 0 (A9 0 0 led) } }) (E:=E) (AI l) fun led=>⟨led,rfl,rfl⟩) fun r s₁ B=>?_)));cases r with
 | error e=>exact B
 | ok fl=>
  cases fl with
  | next=>exact B.elim
  | brk=>exact B.elim
  | cont=>exact B.elim
  | ret v=>
   obtain⟨led,rfl,rfl⟩:=B;have hS:=Av s.heap (o:={ cls:=AB "set",data:=BZ #[] 0 (A9 0 0 led) }) rfl;have hT:Dx { s with heap:=s.heap.push { cls:=AB "set",data:=BZ #[] 0 (A9 0 0 led) } } (AI s.heap.objs.size) "set":=⟨_,hS,rfl⟩
   have ai:=BP.init.lookup;have ah:=BP.init.bind (AI s.heap.objs.size);obtain⟨ol,hol,hcl,nl,hdl⟩:=hl;have J:=Ag { cls:=AB "set",data:=BZ #[] 0 (A9 0 0 led) } hol;have Y:Heap.IsList (s.heap.push { cls:=AB "set",data:=BZ #[] 0 (A9 0 0 led) }) l z:=⟨ol,J,hcl,nl,hdl⟩
   refine Aa (BT hT aa ?_);refine Aq (by first | rfl | decide) ?_;refine Aa (Ba ?_);unfold callSpecial?;refine Aa (DP hT ai ?_);dsimp only;refine Ba ?_;refine Aa (Ct ah ?_);refine Aa (Dg (C1 (Fx BP.init.plain Ge (R:=fun r s'=>match r with | .ok (.ret v)=>v=.none∧Q (.ref s.heap.objs.size) s' | _=>False) (Gm hT ?_)) fun r s₁ B=>?_))
   ·unfold Builtin.«set.__init__»;refine Aa (BG (by first | rfl | decide) (Ae ?_));refine Aa (Aa (Aa (BM hT (Aq (by first | rfl | decide) (Ae ?_)))));refine Ae ?_;refine Aa ?_;unfold checkCount
    iterate 2 refine Aq (by first | rfl | decide) ?_
    refine Aq (by first | rfl | decide) (Ae ?_);refine Aa (Ae ?_);refine Aa ?_;unfold setUsed setState;refine Aa (Aa (He hS ?_));dsimp only;refine Aq (by first | rfl | decide) (Ae ?_);refine Ae ?_;refine Aq (by first | rfl | decide) ?_;show wpAny _ _ (do let aq ← B7 "set.__init__" s.heap.objs.size (AI l);ret Cd) _ _ _;refine Aa ?_;unfold B7;refine Aa ?_;have M:Dx { s with heap:=s.heap.push { cls:=AB "set",data:=BZ #[] 0 (A9 0 0 led) } } (AI l) "list":=⟨ol,J,hcl⟩
    unfold DO;refine Aa (BT M F.sub_list_set ?_);refine BT M F.sub_list_frozenset ?_;refine Aq (by first | rfl | decide) ?_;refine Aa (BM M ?_);refine Aq (by first | rfl | decide) ?_;refine Aa (ER Y ?_);refine Aa (D7 ?_);have ab:l < s.heap.objs.size:=Aw hol;have U:(s.heap.push { cls:=AB "set",data:=BZ #[] 0 (A9 0 0 led) }).objs.size=s.heap.objs.size + 1:=BY _ _;have Z:l≠(s.heap.push { cls:=AB "set",data:=BZ #[] 0 (A9 0 0 led) }).objs.size:=by rw[U];exact AC (Bj ab)
    have aj:¬ s.heap.objs.size∈[(s.heap.push { cls:=AB "set",data:=BZ #[] 0 (A9 0 0 led) }).objs.size,l]:=by
     rw[U];simp only[Ao,Az,or_false,not_or];exact⟨AC (B1 _),CY ab⟩
    have am:A.in1.in1.in1.handled=none:=hh;refine aDj (FC (GJ am _ l Z z)) s.heap.objs.size aj val hi hb (z.size - 0) 0 _ rfl (A3 _) ⟨⟨_,Av _ rfl,rfl,rfl⟩,Heap.IsList.push Y _⟩ ?_ ?_
    ·have W:=Ag { cls:=AB "list_iterator",data:=F5 #[AI l,Cg 0 0] } hS;exact SetOf_congr (Obj.SetObjOf.setOf (setObjOf_fresh led) W (by show 0 < scanBound;decide)) (fun x=>rfl) rfl
    ·rintro⟨h',g',d',tk',os'⟩ hm hS';refine Ae (Ae ⟨rfl,?_⟩);have e1:=hm.gens;have e2:=hm.drawn;have e3:=hm.os;dsimp only at e1 e2 e3;subst e1 e2 e3;refine h h' tk' hS' fun b o hb e=>hm.heap b o ?_ ?_
     ·simp only[Ao,Az,or_false,not_or];rw[U];exact⟨AC hb,AC (Bj hb)⟩
     ·exact Ag _ (Ag _ e)
   ·cases r with
    | error e=>exact B.elim
    | ok fl=>
     cases fl with
     | next=>exact B.elim
     | brk=>exact B.elim
     | cont=>exact B.elim
     | ret v=>
      obtain⟨rfl,q⟩:=B;refine Ae ?_;refine Aq (by first | rfl | decide) ?_;exact Ae q
section
variable{X:Cx}
def aEx(P:AD)(w:AY)(a:Ah)(ss:List Str):HO:=.ext fun h=>Fs (Bq P w) h a (fun k=>(eQ (fun i=>ss.getD i "") ss.length).any fun x=>x == k) (eQ (fun i=>ss.getD i "") ss.length).length
theorem aDk(hc:X.calm=true):fJ X (.type "set") (fun xs H Q=>∃(p:Ah) (B:List Str),xs=[.ref p]∧SqL X.K H p (B.map V.str)∧B.length≤1000∧∀ a,H a=none→Q (.ref a) (upd H a (aEx X.prog X.w a B))):=by
 intro dt s σ H xs us Q I r h;obtain⟨p,B,rfl,hx,h1000,q⟩:=h;obtain⟨u,rfl,ru⟩:=fM r;cases ru;obtain⟨its,rv,pl,_⟩:=I.list hx;have z:=rv.length;rw[Ad]at z;refine vP (val:=fun i=>B.getD i "") (I.ok.hd hc) pl.isList (fun i v U=>?_) (by rw[At,← z];show _ < 4096;omega) fun h' tk J W=>?_
 ·have F:its[i]?=some v:=by simpa using U
  have hi:i < B.length:=by
   rw[z];exact(AS.mp F).1
  have e:(B.map V.str)[i]?=some (V.str (B.getD i "")):=by
   rw[AL,Ab hi];simp[hi]
  obtain⟨u,hu,ru⟩:=rv.get e;rw[F]at hu;cases hu;exact ru
 ·have M:its.toArray.size=B.length:=by rw[At,← z]
  rw[M]at J;have O:∀ b u,s.heap.get? b=some u→h'.get? b=some u:=fun b u e=>W b u (Aw e) e;have hn:H s.heap.objs.size=none:=I.hok.fresh (Ap _);refine⟨.ref s.heap.objs.size,_,I.laid (t':=tk) (o:=aEx X.prog X.w s.heap.objs.size B) O (Ap _) ⟨J,?_,fun h1 h2 f g=>?_⟩,rfl,q _ hn⟩
  ·obtain⟨o,_,_,_,e,_⟩:=J;exact⟨o,e⟩
  ·obtain⟨o,es,ep,t,e,cM⟩:=f;exact⟨o,es,ep,t,g o e,cM⟩
theorem aDl:fJ X (.builtin "len") (fun xs H Q=>∃(p:Ah) (z:List Str),xs=[.ref p]∧H p=some (aEx X.prog X.w p z)∧z.length≤1000∧Q (.int ((eQ (fun i=>z.getD i "") z.length).length:Nat)) H):=by
 intro dt s σ H xs us Q I r h;obtain⟨p,z,rfl,hx,h1000,q⟩:=h;obtain⟨u,rfl,ru⟩:=fM r;cases ru;obtain⟨⟨o,es,ep,t,ho,hex,hd,_,_,_,hf,hn⟩,_,_⟩:dA X.prog X.w H s.heap p (aEx X.prog X.w p z):=I.hok p _ hx;have B:=nA (fun i=>z.getD i "") z.length;exact call_len_set ho hex hd hf (by omega) ⟨.int _,H,I.tok _,⟨_,by rw[hn]⟩,q⟩
theorem t4(val:Nat→Str):∀ i k,k∈eQ val i↔∃ j,j < i∧val j=k
 | 0,k=>by
  show k∈[]↔_;simp
 | i + 1,k=>by
  show k∈i8 (eQ val i) (val i)↔_;have q:=t4 val i;unfold i8;by_cases h:val i∈eQ val i
  ·rw[Ib h,q k];constructor
   ·rintro⟨j,hj,e⟩;exact⟨j,by omega,e⟩
   ·rintro⟨j,hj,e⟩;by_cases z:j=i
    ·subst z;obtain⟨j',hj',e'⟩:=(q _).mp h;exact⟨j',hj',e'.trans e⟩
    ·exact⟨j,by omega,e⟩
  ·rw[Ia h,Bh,q k,BE];constructor
   ·rintro(⟨j,hj,e⟩ | e)
    ·exact⟨j,by omega,e⟩
    ·exact⟨i,by omega,e.symm⟩
   ·rintro⟨j,hj,e⟩;by_cases z:j=i
    ·subst z;exact .inr e.symm
    ·exact .inl ⟨j,by omega,e⟩
theorem wL(val:Nat→Str):∀ i,(eQ val i).length=i↔((AO i).map val).Nodup
 | 0=>by simp[eQ]
 | i + 1=>by
  have B:=wL val i;have F:=nA val i;show(i8 (eQ val i) (val i)).length=_↔_;rw[iR,pA,List.range_succ,AQ,CV];have hm:val i∈eQ val i↔val i∈(AO i).map val:=by
   rw[t4,Bn];constructor
   ·rintro⟨j,hj,e⟩;exact⟨j,BF.mpr hj,e⟩
   ·rintro⟨j,hj,e⟩;exact⟨j,BF.mp hj,e⟩
  by_cases h:val i∈eQ val i
  ·rw[Ib (Ic h)];constructor
   ·intro z;omega
   ·rintro⟨_,_,z⟩;exact absurd rfl (z _ (hm.mp h) _ (by simp))
  ·rw[Ia (by simpa using h)];constructor
   ·intro z;refine⟨B.mp (by omega),by simp,fun a ha b J e=>?_⟩;have q:b=val i:=by simpa using J
    subst q;exact h (hm.mpr (e ▸ ha))
   ·rintro⟨z,_,_⟩;rw[B.mpr z]
theorem wM(q:List Str):decide (((eQ (fun i=>q.getD i "") q.length).length:Int)=(q.length:Int))=decide q.Nodup:=by
 have e:(AO q.length).map (fun i=>q.getD i "")=q:=by
  apply CC;intro j;rw[AL];by_cases h:j < q.length
  ·rw[C3 h,Ab h];simp[h]
  ·rw[AV (by rw[BR];omega),AV (by omega)];rfl
 have:=wL (fun i=>q.getD i "") q.length;rw[e]at this;rw[decide_eq_decide,← this];omega
end
section
variable{prog:AD}{w:AY}{A:AU}{E:Ac→Af→Prop}{s:Af}
end
section
variable{X:Cx}{e st:Br}{te ts:TE}{pos p2:Pos}
end
section
variable{X:Cx}
end
mutual
inductive RdV(m:Bool)(H:Hp):V→Aj→Prop
 | non:RdV m H .non .none
 | bl (b:Bool):RdV m H (.bl b) (.bool b)
 | int (i:Int):RdV m H (.int i) (.int i)
 | str (z:Str) (h:z.length≤1000):RdV m H (.str z) (.str z)
 | lst {a:Ah} {xs:List V} {ds:List Aj} (hm:m=true) (e:H a=some (.lst xs)) (hl:xs.length≤1000) (r:cY m H xs ds):RdV m H (.ref a) (.list ds)
 | tup {a:Ah} {xs:List V} {ds:List Aj} (e:H a=some (.tup xs)) (hl:xs.length≤1000) (r:cY m H xs ds):RdV m H (.ref a) (.tuple ds)
 | dct {a:Ah} (hm:m=false) (e:H a=some (.dK [])):RdV m H (.ref a) (.dict [])
inductive cY(m:Bool)(H:Hp):List V→List Aj→Prop
 | nil:cY m H [] []
 | cons {x:V} {d:Aj} {xs:List V} {ds:List Aj} (a:RdV m H x d) (r:cY m H xs ds):cY m H (x :: xs) (d :: ds)
end
mutual
theorem RdV.keep{m:Bool}{H H':Hp}(k:∀ a o,H a=some o→(∀ B r,o≠.dK (B :: r))→H' a=some o):∀{x:V}{d:Aj},RdV m H x d→RdV m H' x d
 | _,_,.non=>.non
 | _,_,.bl b=>.bl b
 | _,_,.int i=>.int i
 | _,_,.str z h=>.str z h
 | _,_,.lst hm e q r=>.lst hm (k _ _ e (fun _ _ z=>nomatch z)) q (cY.keep k r)
 | _,_,.tup e q r=>.tup (k _ _ e (fun _ _ z=>nomatch z)) q (cY.keep k r)
 | _,_,.dct hm e=>.dct hm (k _ _ e (fun _ _ z=>nomatch z))
theorem cY.keep{m:Bool}{H H':Hp}(k:∀ a o,H a=some o→(∀ q r,o≠.dK (q :: r))→H' a=some o):∀{xs:List V}{ds:List Aj},cY m H xs ds→cY m H' xs ds
 | _,_,.nil=>.nil
 | _,_,.cons a r=>.cons (RdV.keep k a) (cY.keep k r)
end
theorem RdV.same{m:Bool}{H H':Hp}{x:V}{d:Aj}(h:RdV m H x d)(s:bS H H'):RdV m H' x d:=h.keep fun a o e _=>s a o e
theorem cY.same{m:Bool}{H H':Hp}{x:List V}{d:List Aj}(h:cY m H x d)(s:bS H H'):cY m H' x d:=h.keep fun a o e _=>s a o e
theorem cY.len{m:Bool}{H:Hp}:∀{xs:List V}{ds:List Aj},cY m H xs ds→xs.length=ds.length
 | _,_,.nil=>rfl
 | _,_,.cons _ r=>by rw[A6,A6,cY.len r]
theorem cY.app{m:Bool}{H:Hp}:∀{xs:List V}{ds:List Aj}{ys:List V}{es:List Aj},cY m H xs ds→cY m H ys es→cY m H (xs ++ ys) (ds ++ es)
 | _,_,_,_,.nil,h=>h
 | _,_,_,_,.cons a r,h=>.cons a (cY.app r h)
theorem cY.at{m:Bool}{H:Hp}:∀{xs:List V}{ds:List Aj}{i:Nat}{x:V},cY m H xs ds→xs[i]?=some x→∃ d,ds[i]?=some d∧RdV m H x d
 | _,_,0,_,.cons a r,e=>by simp at e;subst e;exact⟨_,rfl,a⟩
 | _,_,i + 1,_,.cons a r,e=>by simp at e;simpa using cY.at r e
section
variable{X:Cx}
mutual
theorem RdV.reads{dt:List (Ah×Obj)}{σ:St}{m:Bool}{H:Hp}{s:Af}(I:Inv X dt σ H s):∀{x:V}{d:Aj}{v:Ac},RdV m H x d→c4 x v→∃ as,GX s.heap v d as∧(m=true→d.hasDict=false)∧(m=false→¬ sysModules∈as)
 | _,_,_,.non,r=>by cases r;exact⟨[],.none,fun _=>rfl,fun _=>by simp⟩
 | _,_,_,.bl b,r=>by cases r;exact⟨[],.bool b,fun _=>rfl,fun _=>by simp⟩
 | _,_,_,.int i,r=>by obtain⟨t,rfl⟩:=r;exact⟨[],.int i t,fun _=>rfl,fun _=>by simp⟩
 | _,_,_,.str z _,r=>by obtain⟨t,rfl⟩:=r;exact⟨[],.str z t,fun _=>rfl,fun _=>by simp⟩
 | _,_,_,.lst hm e _ rs,r=>by
  cases r;obtain⟨_,its,n,rv,eo⟩:dA X.prog X.w H s.heap _ (.lst _):=I.hok _ _ e;obtain⟨as,ra,h1,h2⟩:=cY.reads I rs rv;exact⟨_,.list eo rfl rfl (by simpa using ra),fun _=>h1 hm,fun z=>by rw[hm]at z;cases z⟩
 | _,_,_,.tup e _ rs,r=>by
  cases r;obtain⟨_,its,rv,pt⟩:dA X.prog X.w H s.heap _ (.tup _):=I.hok _ _ e;obtain⟨as,ra,h1,h2⟩:=cY.reads I rs rv;obtain⟨o,eo,⟨hc,n,hd⟩,_⟩:=pt;exact⟨as,.tuple eo hc hd (by simpa using ra),h1,h2⟩
 | _,_,_,.dct hm e,r=>by
  cases r;obtain⟨_,hs,vs,kv,o,es,ep,eo,hx,hd,hk,hp,_⟩:dA X.prog X.w H s.heap _ (.dK []):=I.hok _ _ e;cases kv;have q:es.toList=[]:=by
   cases h:es.toList with
   | nil=>rfl
   | cons y r=>rw[h]at hp;cases hp
  refine⟨_,Reads.dict (kvs:=[]) (as:=[]) (bs:=[]) eo hx.1 hd (by rw[q];exact .nil) (by rw[q];exact .nil),(fun z=>by rw[hm]at z;cases z),fun _=>?_⟩;intro z;simp at z;rw[z]at hs;simp at hs
theorem cY.reads{dt:List (Ah×Obj)}{σ:St}{m:Bool}{H:Hp}{s:Af}(I:Inv X dt σ H s):∀{xs:List V}{ds:List Aj}{vs:List Ac},cY m H xs ds→cW xs vs→∃ as,EJ s.heap vs ds as∧(m=true→AZ ds=false)∧(m=false→¬ sysModules∈as)
 | _,_,_,.nil,.nil=>⟨[],.nil,fun _=>rfl,fun _=>by simp⟩
 | _,_,_,.cons a r,.cons q B=>by
  obtain⟨as,h1,h2,h3⟩:=RdV.reads I a q;obtain⟨bs,g1,g2,g3⟩:=cY.reads I r B;refine⟨as ++ bs,.cons h1 g1,fun z=>?_,fun z w=>?_⟩
  ·unfold AZ;rw[h2 z,g2 z];rfl
  ·rcases Bh.mp w with w | w
   ·exact h3 z w
   ·exact g3 z w
end
inductive n6(xs:List V)(H:Hp)(Q:VK):Prop
 | mk (a:Ah) (m:Bool) (d:Aj) (q0:xs=[.ref a]) (q1:RdV m H (.ref a) d) (q2:d.showable=true) (q3:d.depth≤20) (q4:d.shown.length≤sizeLine) (q5:Q (.str d.shown) H):n6 xs H Q
def zV:List V→Hp→VK→Prop:=fun xs H Q=>n6 xs H Q
theorem aDm{k:Nat}(B:cS k X.A):fJ X (.builtin "repr") zV:=by
 intro dt s σ H xs us Q I r h;obtain⟨a,m,d,rfl,hx,hs,hd,hz,q⟩:=h;obtain⟨u,rfl,ru⟩:=fM r;cases ru;obtain⟨as,hrd,h1,h2⟩:=RdV.reads I hx rfl;refine repr_of_reads' hrd hs (fun z=>?_) B.gd (by have:=B.un;omega) (fun b o e=>e) (fun h' u tk F=>⟨.str d.shown,H,I.kept (t':=tk) F,⟨u,rfl⟩,q⟩) hz;cases m with
 | true=>rw[h1 rfl]at z;cases z
 | false=>exact h2 rfl
end
section
variable{prog:AD}{w:AY}{A:AU}{E:Ac→Af→Prop}{s:Af}
theorem pB{t F:Ah}{q:Array Ac}{O M:Ac}{lo hi:Option Int}{Q:Ac→Af→Prop}(ht:E2 s.heap t q)(J:s.heap.IsSliceOf F O M .none)(pl:E9 O lo)(U:E9 M hi)
  (hw:HT.sIx q.size 0 lo=0∧HT.sIx q.size q.size hi=q.size) (h:Q (.ref t) s):wpAny (model prog w) A (getItem (.ref t) (.ref F)) Q E s:=by
 obtain⟨os,hos,hcs,hds⟩:=id J;have B:s.TypeIs (.ref F) "slice":=⟨os,hos,hcs⟩
 unfold getItem
 try with_reducible refine Ba ?_
 first | refine Aa (Ae ?_) | skip
 refine Aa (wpAny_sequenceKey ht.typeIs (by decide) ?_);refine Aa (CI (name:=Bs "__getitem__") ht.typeIs B0
  (B4 B0 ht.typeIs entry_tuple_getitem ?_ (args_tuple_getitem _ _)))
 show wpAny _ _ (Builtin.Tuple.tupleItemsOf (.ref t) >>= _) _ _ s;refine Aa (tupleItemsOf_ ht ?_);refine Aa (BM B ?_);rw[Ib (by decide)];refine Aa (HT.sliceApplied_gen J pl U ?_);have z:(((HT.sIx q.size 0 lo:Nat):Int) == 0 && (1:Int) == 1 && (HT.sIx q.size q.size hi - HT.sIx q.size 0 lo) == q.size)=true:=by
  rw[hw.1,hw.2];simp
 show wpAny _ _ (if (((HT.sIx q.size 0 lo:Nat):Int) == 0 && (1:Int) == 1 && (HT.sIx q.size q.size hi - HT.sIx q.size 0 lo) == q.size)=true then _ else _) _ _ s;rw[Ib z];obtain⟨⟨cls,dd,data,sl'⟩,ho,hc,n,hd⟩:=id ht;simp only at hc hd;subst hc hd
 wp_walk
 exact⟨_,rfl,Ae h⟩
end
section
variable{X:Cx}
inductive aEy(K:Ai)(x:V)(lo:Option Int)(hi:Option Int)(H:Hp)(Q:VK):Prop
 | mk (a:_) (xs:_) (q0:x=.ref a) (q1:H a=some (.tup xs)) (q2:∀ r H',bS H H'→H' r=some (.tup (jI xs lo hi))→Q (.ref r) H'):aEy K x lo hi H Q
def aJM(K:Ai):V→Option Int→Option Int→Hp→VK→Prop:=fun x lo hi H Q=>aEy K x lo hi H Q
theorem aCh:SlR X (aJM X.K):=by
 intro dt s σ H x v O U lo hi M Q I F B pl J h;obtain⟨a,xs,rfl,hx,q⟩:=h;by_cases hw:HT.sIx xs.length 0 lo=0∧HT.sIx xs.length xs.length hi=xs.length
 ·cases F;obtain⟨its,r,ht,hz⟩:=I.tuple (bF hx);have z:its.toArray.size=xs.length:=by rw[At];exact r.length.symm
  refine⟨"tuple",_,B0.lookup,ht.typeIs,pB ht B pl J (by rw[z];exact hw) ⟨.ref a,H,I,rfl,q a H (bS.refl H) ?_⟩⟩;have e:jI xs lo hi=xs:=by
   unfold jI;rw[hw.1,hw.2,DQ,FI,BC]
  rw[e];exact hx
 ·exact aHD dt s σ H _ v O U lo hi M Q I F B pl J ⟨a,xs,rfl,bF hx,hw,fun p W=>q p _ (aU W) aM⟩
theorem aEz{α:Type}(xs:List V)(n:Nat):jI xs none (some (n:Int))=xs.take n:=by
 unfold jI;rw[HT.sIx_none,HT.sIx_nat,DQ,FI];by_cases h:n≤xs.length
 ·rw[Nat.min_eq_left h]
 ·rw[Nat.min_eq_right (by omega),BC,Bu (by omega)]
theorem aEA{α:Type}(xs:List V)(n:Nat):jI xs (some (n:Int)) none=xs.drop n:=by
 unfold jI;rw[HT.sIx_none,HT.sIx_nat];by_cases h:n≤xs.length
 ·rw[Nat.min_eq_left h];exact Bu (by rw[D2];exact Ap _)
 ·rw[Nat.min_eq_right (by omega),DR (Ap _),DR (by omega),List.take_nil]
mutual
theorem RdV.flip{H:Hp}:∀{x:V}{d:Aj},RdV false H x d→d.hasDict=false→∀ m,RdV m H x d
 | _,_,.non,_,_=>.non
 | _,_,.bl b,_,_=>.bl b
 | _,_,.int i,_,_=>.int i
 | _,_,.str z h,_,_=>.str z h
 | _,_,.lst hm _ _ _,_,_=>nomatch hm
 | _,_,.tup e q r,h,m=>.tup e q (cY.flip r (by unfold Em at h;exact h) m)
 | _,_,.dct _ _,h,_=>by unfold Em at h;cases h
theorem cY.flip{H:Hp}:∀{xs:List V}{ds:List Aj},cY false H xs ds→AZ ds=false→∀ m,cY m H xs ds
 | _,_,.nil,_,_=>.nil
 | _,_,.cons a r,h,m=>by
  unfold AZ at h;rw[E7]at h;exact .cons (RdV.flip a h.1 m) (cY.flip r h.2 m)
end
mutual
theorem RdV.keepF{H H':Hp}(k:∀ a o,H a=some o→(∀ B r,o≠.dK (B :: r))→(∀ xs,o≠.lst xs)→H' a=some o):∀{x:V}{d:Aj},RdV false H x d→RdV false H' x d
 | _,_,.non=>.non
 | _,_,.bl b=>.bl b
 | _,_,.int i=>.int i
 | _,_,.str z h=>.str z h
 | _,_,.lst hm _ _ _=>nomatch hm
 | _,_,.tup e q r=>.tup (k _ _ e (fun _ _ z=>nomatch z) (fun _ z=>nomatch z)) q (cY.keepF k r)
 | _,_,.dct hm e=>.dct hm (k _ _ e (fun _ _ z=>nomatch z) (fun _ z=>nomatch z))
theorem cY.keepF{H H':Hp}(k:∀ a o,H a=some o→(∀ q r,o≠.dK (q :: r))→(∀ xs,o≠.lst xs)→H' a=some o):∀{xs:List V}{ds:List Aj},cY false H xs ds→cY false H' xs ds
 | _,_,.nil=>.nil
 | _,_,.cons a r=>.cons (RdV.keepF k a) (cY.keepF k r)
end
end
open PySem PySem.Spec PyProof.Rows PySem.W
def gW{α:Type}(n:Nat)(P:α→Prop):Hh α→Prop
 | .ret a=>P a
 | .ask i j k=>i < n∧j < n∧∀ b,gW n P (k b)
theorem gW.bind{α β:Type}{n:Nat}{P:α→Prop}{Q:β→Prop}{f:α→Hh β}:∀{t:Hh α},gW n P t→(∀ a,P a→gW n Q (f a))→gW n Q (t.bind f)
 | .ret a,h,g=>by rw[KasT.bind.eq_1];exact g a h
 | .ask i j k,h,g=>by
  rw[KasT.bind.eq_2];exact⟨h.1,h.2.1,fun b=>gW.bind (h.2.2 b) g⟩
def Pm(n:Nat)(p:Array Nat):Prop:=p.Perm (AO n).toArray
theorem Pm.lt{n:Nat}{p:Array Nat}(h:Pm n p)(hn:0 < n)(i:Nat):p.getD i 0 < n:=by
 by_cases hi:i < p.size
 ·have hm:p[i]∈(AO n).toArray:=h.mem_iff.mp (Array.getElem_mem hi);have:p[i] < n:=by simpa using hm
  rw[BB,A4 hi];exact this
 ·rw[BB,Array.getElem?_eq_none (by omega)];exact hn
theorem Pm.rev{n:Nat}{p:Array Nat}(h:Pm n p)(i j:Nat):Pm n (G8 p i j):=(mirror_perm p i j _).trans h
theorem Pm.bub{n:Nat}{p:Array Nat}(h:Pm n p)(i j:Nat):Pm n (bubble p i j):=(bubble_perm p i j).trans h
section
variable{n:Nat}(hn:0 < n)
include hn
theorem t5{p:Array Nat}(h:Pm n p):∀(f x:Nat),gW n (fun _=>True) (kas_asc p f x)
 | 0,x=>by rw[kas_asc.eq_1];trivial
 | f + 1,x=>by
  rw[kas_asc.eq_2];refine⟨h.lt hn _,h.lt hn _,fun b=>?_⟩;cases b
  ·exact t5 h f (x + 1)
  ·exact trivial
theorem nC:∀(f:Nat) {p:Array Nat} (x y:Nat),Pm n p→gW n (fun r=>Pm n r.1) (kas_desc f p x y)
 | 0,p,x,y,h=>by rw[kas_desc.eq_1];exact h
 | f + 1,p,x,y,h=>by
  rw[kas_desc.eq_2];refine⟨h.lt hn _,h.lt hn _,fun b=>?_⟩;cases b
  ·refine⟨h.lt hn _,h.lt hn _,fun b=>?_⟩;cases b
   ·exact nC f _ _ h
   ·exact h
  ·show gW n _ (if y > 0 then _ else _);split
   ·exact nC f _ _ (h.rev _ _)
   ·exact nC f _ _ h
theorem oK{p:Array Nat}(h:Pm n p)(k:Nat):∀(f x y:Nat),gW n (fun _=>True) (kas_place p k f x y)
 | 0,x,y=>by rw[kas_place.eq_1];trivial
 | f + 1,x,y=>by
  rw[kas_place.eq_2];split
  ·trivial
  ·refine⟨h.lt hn _,h.lt hn _,fun b=>?_⟩;cases b
   ·exact oK h k f _ _
   ·exact oK h k f _ _
theorem zW:∀(f:Nat) {p:Array Nat} (x:Nat),Pm n p→gW n (Pm n) (kas_bin f p x)
 | 0,p,x,h=>by rw[kas_bin.eq_1];exact h
 | f + 1,p,x,h=>by
  rw[kas_bin.eq_2];exact(oK hn h x _ _ _).bind fun l _=>zW f _ (h.bub _ _)
theorem t6{p:Array Nat}(h:Pm n p)(a b:Nat):gW n (fun r=>Pm n r.2) (GU a b p):=by
 unfold GU;exact(t5 hn (h.rev _ _) _ _).bind fun m _=>h.rev _ _
theorem n8{p:Array Nat}(h:Pm n p)(a b:Nat):gW n (fun r=>Pm n r.2) (Ha a b p):=by
 unfold Ha;refine(nC hn _ _ _ h).bind fun r q=>?_;split
 ·exact t6 hn (q.rev _ _) _ _
 ·exact t6 hn q _ _
theorem aBh{p:Array Nat}(h:Pm n p)(a:Nat):gW n (fun r=>Pm n r.2) (GV a p):=by
 unfold GV;refine(t5 hn h _ _).bind fun m _=>?_;split
 ·exact h
 ·split
  ·refine⟨h.lt hn _,h.lt hn _,fun b=>?_⟩;cases b
   ·exact n8 hn (h.rev _ _) _ _
   ·exact h
  ·exact n8 hn h _ _
theorem fX:gW n (Pm n) (B3 n):=by
 unfold B3;refine(aBh hn (C8 _) n).bind fun r q=>?_;split
 ·exact zW hn _ _ q
 ·exact q
end
section
variable{prog:AD}{w:AY}{A:AU}{E:Ac→Af→Prop}{s:Af}
theorem gZ{x:Ah}{its:Array Ac}{Q:Array Ac→Af→Prop}(q:E2 s.heap x its)(h:Q its s):wpAny (model prog w) A (C0 (AI x)) Q E s:=by
 obtain⟨⟨cls,dd,data,sl⟩,ho,hc,n,hd⟩:=id q;simp only at hc hd;subst hc hd;unfold C0
 wp_walk
 exact h
end
section
variable{prog:AD}{w:AY}{A:AU}{E:Ac→Af→Prop}{s:Af}
inductive aEB(h:Bm)(v:Ac):Prop
 | mk (t:_) (a:_) (b:_) (c:_) (u1:_) (u2:_) (u3:_) (q0:v=.ref t) (q1:E2 h t #[.int a u1,.int b u2,.str c u3]):aEB h v
def aIV(h:Bm)(v:Ac):Prop:=aEB h v
theorem i9{α β:Type}{f:α→Sem β}{R:α→β→Prop}:∀(l:List α) {Q:List β→Af→Prop},(∀ v∈l,∃ r,R v r∧∀ M:β→Af→Prop,M r s→wpAny (model prog w) A (f v) M E s)→(∀ rs:List β,rs.length=l.length→(∀ r∈rs,∃ v∈l,R v r)→Q rs s)→wpAny (model prog w) A (List.mapM f l) Q E s
 | [],Q,_,q=>by
  rw[List.mapM_nil];exact Ae (q [] rfl fun r F=>by simp at F)
 | a :: l,Q,h,q=>by
  rw[List.mapM_cons];obtain⟨r,F,hw⟩:=h a AG;refine Aa (hw _ (Aa (i9 l (fun v B=>h v (AJ _ B)) fun rs O J=>Ae (q (r :: rs) (by rw[A6,A6,O]) fun z hz=>?_))));rcases Ao.mp hz with rfl | hz
  ·exact⟨a,AG,F⟩
  ·obtain⟨v,B,hR⟩:=J z hz;exact⟨v,AJ _ B,hR⟩
theorem aIX{ks:List Ac}{Q:Dk→Af→Prop}(W:∀ v∈ks,aIV s.heap v)(h:∀ b,Q (tuples' b) s):wpAny (model prog w) A (keyKind' ks.toArray) Q E s:=by
 rw[keyKind'_eq,Cp];refine Aa ?_;rw[← bind_pure_comp];refine Aa (i9 (R:=fun _ r=>∃ a u,r=some (Cg a u)) ks (fun v F=>?_) fun rs hl B=>Ae ?_)
 ·obtain⟨t,a,b,c,u1,u2,u3,rfl,ht⟩:=W v F;refine⟨some (.int a u1),⟨a,u1,rfl⟩,fun O q=>?_⟩;rw[G9];refine Aa (BM ht.typeIs ?_);refine Aq (by decide) ?_;refine Aa (gZ ht ?_);exact Ae q
 ·have z:(rs.toArray.all fun x=>x.isSome)=true:=by
   rw[FW,Be];intro r U;obtain⟨v,_,a,u,rfl⟩:=B r U;rfl
  refine BG (by rw[z];rfl) ?_;refine Aa (CK ?_);rw[oneTypeOnly'_eq,Cp]
  iterate 2 refine Aa ?_
  rw[← bind_pure_comp];refine Aa (i9 (R:=fun _ r=>r=AB "int") _ (fun v F=>?_) fun ts Z Y=>Ae ?_)
  ·have J:some v∈rs:=by simpa using F
   obtain⟨_,_,a,u,e⟩:=B _ J;cases e;exact⟨_,rfl,fun O q=>BM (typeIs_int s a u) q⟩
  ·cases M:ts.toArray[0]? with
   | none=>exact Ae (Ae (h _))
   | some t=>exact Ae (Ae (h _))
end
section
variable{prog:AD}{w:AY}{A:AU}{E:Ac→Af→Prop}{s:Af}
theorem aIY{a kS:Ah}{st:Bo}{q:Array Ac}{e e1:Nat}{P:FH→Af→Prop}(ha:s.heap.get? a=some (seqObj "list" #[] e1))(M:s.heap.get? kS=some (seqObj "list" q e))(B:a≠kS)(F:q.size≤sizeLine)(hz:(arrOf st).size≤sizeLine)(J:failedOf st=none)
  (h:P (Fin.done (GE Cd)) { s with heap:=(s.heap.update kS (Bc fun _=>#[])).update a (Bc fun _=>(arrOf st).map (·.2)) }):wpAny (model prog w) A (ksk_tail a false e1 (.ref kS) st) P E s:=by
 unfold ksk_tail;refine Aa (Co M rfl ?_ F (A3 _));refine Aa (wpAny_letGo ?_);have z:(s.heap.update kS (Bc fun _=>#[])).get? a=some (seqObj "list" #[] e1):=by
  rw[Bp _ _ _ _ B];exact ha
 refine Aa (Dy z rfl ?_);refine Aa (Co z rfl ?_ (A3 _) (by show((arrOf st).map (·.2)).size≤_;rw[Gg];omega))
 rw[J];refine Aq (by simp) ?_;exact Ae h
end
section
variable{X:Cx}{dt:List (Ah×Obj)}{σ:St}
inductive aEC(H:Hp)(v:Ac):Prop
 | mk (t:_) (a:_) (b:_) (c:_) (q0:v=.ref t) (q1:H t=some (.tup [.int a,.int b,.str c])):aEC H v
def aKe(H:Hp)(v:Ac):Prop:=aEC H v
end
section
variable{X:Cx}{dt:List (Ah×Obj)}{σ:St}{H:Hp}{s:Af}
end
section
variable{X:Cx}{e:Br}{ta:TA}
end
open PySem.SeqAt
open PySem.AutoSeq1 (wpAny_loadPart')
open PySem.MeetsSeq PySem.MeetsSeq2 PySem.MeetsSeq3
inductive aG4(X:Cx)(k:Nat)(ps:List Str)(f:Ah)(sp:Sp):Prop
 | mk (fd:AK) (q0:cQ X.prog X.w X.K X.mg X.base CX0 k f fd ps sp) (q1:Al X.K (.ref f)=true) (q2:dY X.K fd ps []):aG4 X k ps f sp
def FnV(X:Cx)(k:Nat)(ps:List Str)(f:Ah)(sp:Sp):Prop:=aG4 X k ps f sp
def aHQ(X:Cx)(k:Nat)(ps:List Str)(tv:TE)(t:TA):TE:=fun σ H Q=>tv σ H fun v H1=>∃(f:Ah) (sp:Sp),v=.ref f∧FnV X k ps f sp∧t σ H1 fun vs H2=>sp vs H2 Q E0
theorem aED{X:Cx}{k:Nat}{ps:List Str}{x:Str}{p pos:Pos}{e:Br}{es:List Br}{tv:TE}{t:TA}(U:PE X (.Name x p) tv)(Z:cS k X.A)(ha:PA X (e :: es) t)
  (he:starEach (e :: es) X.env=(false,eval e X.env) :: starEach es X.env:=by rfl) (z:(backTo pos (starEach es X.env)).any (·.1)=false:=by rfl):
  PE X (.Call (.Name x p) (e :: es) [] pos) (aHQ X k ps tv t):=by
 constructor;intro dt s σ H Q I h;refine DT (thn (U dt s σ H _ I h) fun u O ⟨y,H1,B,Y,f,sp,M,⟨fd,F,hk,hb⟩,h2⟩=>?_);subst M;cases Y;refine PySem.W.callWith_K (h₀:=X.base) B.ok.mod.kin hk (thn (ha pos dt O σ H1 _ B h2) fun us s2 ⟨vs,H2,J,r,q⟩=>⟨J.kIn,?_⟩) he z;exact aEb F Z hb .nil iP J r (by rw[CU];exact q)
def aIZ(fc:List (Key×V))(ty:TE):TE:=fun σ H Q=>ty σ H fun y H2=>∃ k v,y=kV k∧fF fc k=some v∧Q v H2
theorem aCi{X:Cx}{i:Br}{x:Str}{ty:TE}{a:Ah}{vs:List (Key×Ac)}{fc:List (Key×V)}{p pos:Pos}(hd:∀ h:Bm,X.K.In h→h.DictOf (c8 X.prog X.w) a vs)(rel:KV fc vs)(Z:Gl X x)(hm:X.mg x=some (.ref a))(hi:PE X i ty)(O:aHH i)(q:(x == ("__debug__":Str))=false:=by decide):
  PE X (.Subscript (.Name x p) i pos) (aIZ fc ty):=by
 constructor;intro dt s σ H Q I h;have U:PE X (.Name x p) (tC (.ref a)):=dE Z hm rfl q;refine aB9 PySem.F.slot_dict_getitem.lookup O (thn (U dt s σ H (fun v H1=>v=.ref a∧ty σ H1 fun y H2=>∃ k v,y=kV k∧fF fc k=some v∧Q v H2) I ⟨rfl,h⟩) fun u W ⟨x,H1,Y,rx,ex,M⟩=>thn (hi dt W σ H1 _ Y M) fun iv s2 ⟨y,H2,z,ry,k,v,J,l,q2⟩=>?_);subst ex J;obtain rfl:u=AI a:=rx;have B:=hd s2.heap z.kIn;refine⟨?_,?_⟩
 ·obtain⟨o,es,ep,e,hx,_⟩:=B;exact⟨o,e,hx.1⟩
 ·obtain⟨w',hw,rw'⟩:=nV.some_of (v:=v) (o:=valueAt vs k) (by rw[← l];exact rel.val k);exact wpAny_getItem_of (qU ry) B.mapOf hw ⟨v,H2,z.tok _,rw',q2⟩
theorem aDn{X:Cx}{a:Ah}{vs:List (Key×Ac)}{fc:List (Key×V)}(hd:∀ h:Bm,X.K.In h→h.DictOf (c8 X.prog X.w) a vs)(rel:KV fc vs)(hz:(a == sysModules)=false):OpR X (compareOp .NotIn) (fun x y H Q=>∃ k,x=kV k∧y=.ref a∧Q (.bl (!(fF fc k).isSome)) H):=by
 intro dt s σ H x y v u Q I B z h;obtain⟨k,rfl,rfl,q⟩:=h;cases z;refine wpAny_notIn_of (qU B) hz (hd _ I.kIn).mapOf ?_;rw[← (rel.val k).isSome_eq];exact⟨.bl _,H,I.tok _,rfl,q⟩
section
variable{X:Cx}{dt:List (Ah×Obj)}{σ:St}{H:Hp}{s:Af}{A:AU}{E:Ac→Af→Prop}{Q:Ac→Af→Prop}{b:Bool}
theorem aBi{x:V}{u t:Ac}{q:Ah}{Y U:String}(I:Inv X dt σ H s)(B:c4 x u)(ty:i6 X.K H x t)(hq:H q=some (.tup [.ty Y,.ty U]))(e:Ei X.K t [.type Y,.type U]=some b)(h:∀ tk,Q (.bool b) { s with toks:=tk }):
  wpAny (model X.prog X.w) A (call (.builtin "isinstance") [u,.ref q]) Q E s:=by
 obtain⟨_,its,M,hT⟩:dA X.prog X.w H s.heap q (.tup [.ty Y,.ty U]):=I.hok _ _ hq;obtain⟨⟨cls,dd,data,sl⟩,ho,hc,n,hd⟩:=hT.tup;simp only at hc hd;subst hc hd;have hi:its=[.type Y,.type U]:=by
  cases M with
  | cons r1 M=>
   cases M with
   | cons r2 M=>
    cases M;cases r1;cases r2;rfl
 subst hi;cases ty with
 | non=>cases(show u=Cd from B);exact Ca PySem.W.kitx_none I.kIn Ce ho e (fun z=>nomatch z) h
 | bl y=>cases(show u=Fo y from B);exact Ca PySem.W.kitx_bool I.kIn Ce ho e (fun z=>nomatch z) h
 | int i=>obtain⟨t,q⟩:=(show∃ t,u=Cg i t from B);cases q;exact Ca PySem.W.kitx_int I.kIn Ce ho e (fun z=>nomatch z) h
 | str y=>obtain⟨t,q⟩:=(show∃ t,u=By y t from B);cases q;exact Ca PySem.W.kitx_str I.kIn Ce ho e (fun z=>nomatch z) h
 | flt y=>obtain⟨t,q⟩:=(show∃ t,u=Gy y t from B);cases q;exact Ca PySem.W.kitx_float I.kIn Ce ho e (fun z=>nomatch z) h
 | @lst a xs F=>
  cases(show u=AI a from B);obtain⟨_,_,n,_,h1⟩:=(show dA X.prog X.w H s.heap a (.lst xs) from I.hok a _ F)
  exact Ca Es I.kIn ⟨_,h1,rfl⟩ ho e (fun z=>nomatch z) h
 | @frz a ob xs F=>
  cases(show u=AI a from B);obtain⟨_,_,_,n,_,h1⟩:=(show dA X.prog X.w H s.heap a (.frz ob (.lst xs)) from I.hok a _ F)
  exact Ca Es I.kIn ⟨_,h1,rfl⟩ ho e (fun z=>nomatch z) h
 | @tup a xs F=>
  cases(show u=AI a from B);obtain⟨_,_,_,p⟩:=(show dA X.prog X.w H s.heap a (.tup xs) from I.hok a _ F)
  obtain⟨o,h1,h2,_⟩:=p;exact Ca PySem.W.kitx_tuple I.kIn ⟨o,h1,h2.1⟩ ho e (fun z=>nomatch z) h
 | @dK a fc F=>
  cases(show u=AI a from B);obtain⟨_,_,vs,_,p⟩:=(show dA X.prog X.w H s.heap a (.dK fc) from I.hok a _ F)
  obtain⟨o,es,ep,h1,h2,_⟩:=p;exact Ca Et I.kIn ⟨o,h1,h2.1⟩ ho e (fun z=>nomatch z) h
 | @dT a fc F=>
  cases(show u=AI a from B);obtain⟨_,_,xs,_,o,es,ep,h1,h2,_⟩:=(show dA X.prog X.w H s.heap a (.dT fc) from I.hok a _ F)
  exact Ca Et I.kIn ⟨o,h1,h2.1⟩ ho e (fun z=>nomatch z) h
 | @ins a C dx fs F cl ha hn Z hm=>
  cases(show u=AI a from B);obtain⟨mA,O,_⟩:=aB4 I.hok F;obtain⟨od,J,_⟩:=O.look;exact Ca (PySem.W.kitx_own (cl.get _) cl.hd ha hn Z hm) I.kIn J ho e (fun z=>nomatch z) h
inductive kC(K:Ai)(xs:List V)(H:Hp)(Q:VK):Prop
 | mk (x:_) (q:_) (n1:_) (n2:_) (t:_) (b:_) (q0:xs=[x,.ref q]) (q1:H q=some (.tup [.ty n1,.ty n2])) (q2:i6 K H x t) (q3:Ei K t [.type n1,.type n2]=some b) (q4:Q (.bl b) H):kC K xs H Q
def t7(K:Ai):List V→Hp→VK→Prop:=fun xs H Q=>kC K xs H Q
theorem gR:fJ X (.builtin "isinstance") (t7 X.K):=by
 intro dt s σ H xs us Q I r h;obtain⟨x,q0,n1,n2,t,b,rfl,hq,ty,e,q⟩:=h;obtain⟨u,w',rfl,r1,r2⟩:=aD9 r;cases r2;exact aBi I r1 ty hq e fun tk=>⟨.bl b,H,I.tok _,rfl,q⟩
end
theorem aBj{X:Cx}{K:Ai}{o e:Br}{es:List Br}{to:TE}{t:TA}{name:Str}{fh ff:Pos}{T id:String}{r:V→List V→Hp→VK→Prop}(W:PlainAttrs T)(slot:Slot T name id)(J:typeOf (.builtin id)=pure (.type "method_descriptor"))(hm:MtR X id r)(O:PE X o to)(ha:PA X (e :: es) t)(U:X.K=K:=by rfl)
  (z:attributeBase o name X.env (eval o X.env)=eval o X.env:=by rfl)
  (F:((backTo ff (starEach (e :: es) X.env)).all (fun x=>!x.1) && (backToKw ff (keywordEach [] X.env)).all (fun x=>x.1.isSome)
   && decide ((e :: es).length + ([]:List EC).length + (if ([]:List EC).isEmpty then 0 else 1) < 30))=true:=by rfl)
  (B:(fh.endLine == ff.line)=true:=by rfl) (M:starEach (e :: es) X.env=(false,eval e X.env) :: starEach es X.env:=by rfl) (q:(backTo ff (starEach es X.env)).any (·.1)=false:=by rfl):
  PE X (.Call (.Attribute o name fh) (e :: es) [] ff) (tBM K T r to t):=by
 subst U;exact oZ W slot J hm O ha z F B M q
theorem lQ:∀{q:List Str}{us:List Ac},cW (q.map V.str) us→Gs us q
 | [],_,r=>by rw[Eo]at r;cases r;exact .nil
 | s :: q,_,r=>by
  rw[A1]at r;cases r with
  | cons B z=>
   obtain⟨t,e⟩:=B;subst e;exact .cons s t (lQ z)
theorem iS:∀{us:List Ac}{ns:List Str},Gs us ns→cW (ns.map V.str) us
 | _,_,.nil=>.nil
 | _,_,.cons i t r=>.cons ⟨t,rfl⟩ (iS r)
inductive kE(K:Ai)(xs:List V)(H:Hp)(Q:VK):Prop
 | mk (p:Ah) (ns:List Str) (q0:xs=[.ref p]) (q1:SqL K H p (ns.map V.str)) (q2:ns.length < 64) (q3:∀(l:Ah) (ms:List Str),H l=none→ms.Perm ns→sortedS ms=true→Q (.ref l) (upd H l (.lst (ms.map V.str)))):kE K xs H Q
def t8(K:Ai):List V→Hp→VK→Prop:=fun xs H Q=>kE K xs H Q
theorem lS{X:Cx}:fJ X (.builtin "sorted") (t8 X.K):=by
 intro dt s σ H xs us Q I r h;obtain⟨p,ns,rfl,hx,h64,q⟩:=h;obtain⟨u,rfl,ru⟩:=fM r;cases ru;obtain⟨its,rv,pl,_⟩:=I.list hx;have hi:Gs its ns:=lQ rv;have z:=rv.length;rw[Ad]at z;refine sorted_strs pl.isList hi (by omega) fun out B J F M=>?_;have U:∀ b o,s.heap.get? b=some o→(sortedAll s.heap its out).get? b=some o:=fun b o e=>sortedAll_old e;obtain⟨e,he⟩:=sortedAll_at s.heap its out;have hn:H (s.heap.objs.size + 1)=none:=I.hok.fresh (CZ _);have W:=F.length_eq;have O:cW (B.map V.str) out.toList:=iS J;refine⟨.ref (s.heap.objs.size + 1),_,I.laid (t':=s.toks) (o:=.lst (B.map V.str)) U (CZ _) ⟨aS (by rw[Ad];omega),out.toList,e,O,by rw[he] <;> rfl⟩,rfl,q _ B hn F M⟩
def t9(w:AY)(es:Array (Int×Ac))(t:Da):Prop:=t.led=!w.params.followText "set-order"∧(es.size=0∨t.plain=false)
def jY(prog:AD)(w:AY)(h:Bm)(a:Ah)(S:Str→Bool)(n:Nat):Prop:=
 ∃ o es ep t,h.get? a=some o∧o.ExactSet∧o.data=.set es ep t∧ElemsOf (Bq prog w) es.toList∧(∀ k,S k=true↔∃ e∈es.toList,(Bq prog w).is k e.2=true)
  ∧es.size < scanBound∧t.fits es.size=true∧es.size=n∧t9 w es t
theorem jY.at{prog:AD}{w:AY}{h h':Bm}{a:Ah}{S:Str→Bool}{n:Nat}(x:jY prog w h a S n)(e:∀ o,h.get? a=some o→h'.get? a=some o):jY prog w h' a S n:=by
 obtain⟨o,es,ep,t,h1,r⟩:=x;exact⟨o,es,ep,t,e o h1,r⟩
theorem jY.congr{prog:AD}{w:AY}{h:Bm}{a:Ah}{S S':Str→Bool}{n q:Nat}(x:jY prog w h a S n)(e:∀ k,S k=S' k)(z:n=q):jY prog w h a S' q:=by
 have B:S=S':=funext e;subst B z;exact x
theorem vQ(t:Da)(n:Nat):(t.orStandIn n).led=t.led:=by
 unfold SetTable.orStandIn;split <;> rfl
theorem aBk(t:Da)(es:Array (Int×Ac))(h:Int)(x:Ac):(layNew t es h x).2.1.led=t.led:=by
 unfold layNew;split
 ·exact vQ _ _
 ·rfl
theorem vR(t:Da)(es:Array (Int×Ac))(n:Nat)(q:t.plain=false):(relayAll t es n).2.1.led=t.led∧(relayAll t es n).2.1.plain=false:=by
 unfold relayAll;split
 ·next t' ord e=>
  dsimp only;split
  ·dsimp only;unfold SetTable.relaid SetTable.laid at e;cases hL:SetTable.layClean (SetTable.sizeAbove n - 1) (es.map (·.1))with
   | none=>rw[hL]at e;cases e
   | some z=>
    rw[hL]at e;cases e;exact⟨rfl,q⟩
  ·exact⟨rfl,rfl⟩
 ·exact⟨rfl,rfl⟩
theorem jY.stored{prog:AD}{w:AY}{h:Bm}{a:Ah}{o:Obj}{es:Array (Int×Ac)}{ep:Nat}{t:Da}(O:h.get? a=some o)(F:o.ExactSet)(hd:o.data=.set es ep t)
  {q:Array (Int×Ac)} {t':Da} {S':Str→Bool} (B:ElemsOf (Bq prog w) q.toList) (z:∀ k,S' k=true↔∃ e∈q.toList,(Bq prog w).is k e.2=true) (J:q.size < scanBound) (M:t'.fits q.size=true) (U:t9 w q t'):
  (h.update a (Hc q t')).get? a=some { o with data:=.set q (ep + 1) t' }∧jY prog w (h.update a (Hc q t')) a S' q.size:=by
 obtain⟨hg,_⟩:=SetOf_store (knd:=Bq prog w) (S':=S') O F hd B z J M;exact⟨hg,_,q,ep + 1,t',hg,F,rfl,B,z,J,M,rfl,U⟩
theorem aI0{prog:AD}{w:AY}{A:AU}{E:Ac→Af→Prop}{s:Af}{a:Ah}{S:Str→Bool}{n:Nat}{k:Str}{tk:Tok}{Q:Bool→Af→Prop}(hS:jY prog w s.heap a S n)(Y:n + 1 < scanBound)
  (h:∀ h',DS a s.heap h'→jY prog w h' a (fun k'=>S k' || decide (k'=k)) (if S k then n else n + 1)→Q (!S k) { s with heap:=h' }):
  wpAny (model prog w) A (setAddHashed a (.str k tk) ((Bq prog w).hash k)) Q E s:=by
 have U:=Gv prog w k tk;obtain⟨o,es,ep,t,ho,hex,hd,hel,hmem,hb,hf,hn,hTab⟩:=hS;have ax:es.size + 1 < scanBound:=by rw[hn];exact Y
 unfold setAddHashed setAddHashedIn;refine Ba (Aa (Dr ho hd hf ?_));dsimp only;rw[byScan_of (x:=By k tk) rfl hb hel,Ib rfl];unfold setAddByScan;refine Aa (Aa (CK (Aa (wpAny_setScan_of U ho hd hf hel ?_))));cases hr:List.findIdx? (fun e=>(Bq prog w).is k e.2) es.toList with
 | some j=>
  dsimp only;obtain⟨hj,hpj,_⟩:=List.findIdx?_eq_some_iff_getElem.mp hr;have O:S k=true:=(hmem k).mpr ⟨es.toList[j],Bk hj,hpj⟩;refine Ae (Ae ?_);have q:=h s.heap (Heap.SameBut.refl a s.heap) ⟨o,es,ep,t,ho,hex,hd,hel,fun z=>by
   rw[Bool.or_eq_true,decide_eq_true_eq,← hmem z];exact⟨fun hz=>hz.elim id (fun e=>e ▸ O),.inl⟩,hb,hf,by rw[O];exact hn,hTab⟩
  rw[O]at q;exact q
 | none=>
  dsimp only;have O:S k=false:=by
   cases hz:S k with
   | false=>rfl
   | true=>
    obtain⟨e,he,hp⟩:=(hmem k).mp hz;have z:=List.findIdx?_eq_none_iff.mp hr e he;rw[hp]at z;exact Bool.noConfusion z
  have B:=layNew_perm t es ((Bq prog w).hash k) (By k tk);have F:=layNew_fits t es ((Bq prog w).hash k) (By k tk);have J:=aBk t es ((Bq prog w).hash k) (By k tk);generalize hL:layNew t es ((Bq prog w).hash k) (By k tk)=L at B F J ⊢;obtain⟨es1,t1,wasD,gave⟩:=L;dsimp only at B F J ⊢;rw[CB]at B;have ab:ElemsOf (Bq prog w) es1.toList:=(hel.push U rfl).perm B;have W:=mem_push_iff U hmem B;have ae:es1.size=n + 1:=by rw[← Bt,B.length_eq,AH,Bt,hn];rfl
  have ag:es1.size < scanBound:=by rw[ae];exact Y
  have gw:∀(b:Bool) {s₁:Af} {Q':Unit→Af→Prop},Q' () s₁→wpAny (model prog w) A (match b with | true=>rule "set.scan.the-table-gave-way" | false=>pure ()) Q' E s₁:=fun b s₁ Q' hq=>by cases b <;> first | exact Ae hq | exact CK hq
  have ad:∀ h',DS a s.heap h'→jY prog w h' a (fun k'=>S k' || decide (k'=k)) es1.size→Q true { s with heap:=h' }:=fun h' x1 x2=>by
   have q:=h h' x1;rw[O]at q;rw[ae]at x2;exact q x2
  have Z:∀ M:Da,M.led=t.led→M.plain=false→M.fits es1.size=true→
    wpAny (model prog w) A (do
     storeSet a es1 M
     if (!wasD && M.tooFull)=true then do
       (match (relayAll M es1 (De es1.size)).2.2 with | true=>rule "set.scan.the-table-gave-way" | false=>pure ())
       storeSet a (relayAll M es1 (De es1.size)).1 (relayAll M es1 (De es1.size)).2.1
       pure (some true)
      else pure (some true)) (fun r s'=>wpAny (model prog w) A (match r with | some added=>pure added | none=>setAddHashedIn a (.str k tk) ((Bq prog w).hash k) 99999) Q E s') E s:=by
   intro M l2 p2 f2;refine Aa (wpAny_storeSet_of ho hd ?_ (ET ag));obtain⟨ho1,hS1⟩:=jY.stored (prog:=prog) (w:=w) ho hex hd ab W ag f2 ⟨by rw[l2];exact hTab.1,.inr p2⟩;have am:=Ch s.heap a (Hc es1 M);split
   ·have hp:=relayAll_perm M es1 (De es1.size);have ah:=relayAll_fits M es1 (De es1.size);obtain⟨rl,rp⟩:=vR M es1 (De es1.size) p2;generalize relayAll M es1 (De es1.size)=R at hp ah rl rp ⊢;obtain⟨es2,t3,g2⟩:=R;dsimp only at hp ah rl rp ⊢;have ai:ElemsOf (Bq prog w) es2.toList:=ab.perm hp;have af:∀ z,(S z || decide (z=k))=true↔∃ e∈es2.toList,(Bq prog w).is z e.2=true:=fun z=>(W z).trans ⟨fun⟨e,he,q⟩=>⟨e,hp.mem_iff.mpr he,q⟩,fun⟨e,he,q⟩=>⟨e,hp.mem_iff.mp he,q⟩⟩;have aa:es2.size=es1.size:=by rw[← Bt,hp.length_eq,Bt]
    have aj:es2.size < scanBound:=by rw[aa];exact ag
    refine Aa (gw _ (Aa (wpAny_storeSet_of ho1 rfl ?_ (ET aj))));obtain⟨_,hS2⟩:=jY.stored (prog:=prog) (w:=w) ho1 hex rfl ai af aj ah ⟨by rw[rl,l2];exact hTab.1,.inr rp⟩;rw[aa]at hS2;exact Ae (Ae (ad _ (am.trans (Ch _ a _)) hS2))
   ·exact Ae (Ae (ad _ am hS1))
  refine Aa (gw _ ?_);split
  ·next hpl=>
   rw[hashByValue_scannable 8 (x:=By k tk) rfl];refine Aa (Ae ?_);exact Z { t1 with plain:=false } J rfl (SetTable.fits_plain_off F)
  ·next hpl=>
   refine Aa (Ae ?_);exact Z t1 J (by simpa using hpl) F
theorem aBl{h:Bm}{a:Ah}{q:Array Ac}(x:h.IsTuple a q)(o:Obj):(h.push o).IsTuple a q:=by
 obtain⟨u,hu,r⟩:=x;exact⟨u,Ag o hu,r⟩
theorem aEE{prog:AD}{w:AY}{A:AU}{R:Result→Af→Prop}{I:Ah}{fp wr:List Ah}{G:Array Gc→Array Gc→Prop}{n:Nat}{P:Nat→Ac→Prop}{St:Nat→Af→Prop}
  (W:WalksS prog w A.in1 I fp wr G n P St) (S:Ah) (Z:¬ S∈fp) (val:Nat→Str) (Y:∀(i:Nat) (v:Ac),P i v→∃ t,v=By (val i) t) (F:n + 1 < scanBound):
  ∀(k i:Nat) (s:Af),n - i=k→i≤n→St i s→jY prog w s.heap S (fun J=>(eQ val i).any fun x=>x == J) (eQ val i).length→
   (∀ s':Af,Moved (S :: wr) G s s'→jY prog w s'.heap S (fun J=>(eQ val n).any fun x=>x == J) (eQ val n).length→R (GY (GE Cd)) s')→
   codeAny (model prog w) A (Code.builtin "set.update.loop" { pos:=[AI S,AI I] }) R s:=by
 have ad:¬ S∈wr:=fun h=>Z (W.sub S h);have q:∀ b,b∈wr→b∈S :: wr:=fun b F=>AJ S F;intro k
 induction k with
 | zero=>
  intro i s hk hi z hS hR;have ah:i=n:=by omega
  subst ah;refine BS Cu ?_;rw[BH BI];refine Aa (W.done s _ _ z fun s' hm=>?_);refine Ae (hR s' (Gb hm q) ?_);exact hS.at fun o ho=>hm.heap S o ad ho
 | succ k ih=>
  intro i s hk hi z hS hR;have O:i < n:=by omega
  refine BS Cu ?_;rw[BH BI];refine Aa (W.item i s _ _ O z fun v s' hP U hm=>?_);obtain⟨t,rfl⟩:=Y i v hP;have aj:jY prog w s'.heap S (fun J=>(eQ val i).any fun x=>x == J) (eQ val i).length:=by
   exact hS.at fun o ho=>hm.heap S o ad ho
  have B:(eQ val i).length + 1 < scanBound:=by
   have:=nA val i;omega
  refine Aa (Ba (Ba (Aa ((Bq prog w).pyHash (Gv prog w (val i) t) ?_))));refine aI0 aj B fun h' ac ag=>?_;refine Ae ⟨Dm BI _,?_⟩;refine ih (i + 1) _ (by omega) O (W.frame (i + 1) s' h' _ U (CZ s'.toks) fun b F o e=>?_) ?_ fun ai aa M=>?_
  ·rw[ac.right b fun h=>Z (h ▸ F)];exact e
  ·refine ag.congr (fun J=>?_) ?_
   ·show _=((i8 _ _).any _)
    rw[wK]
   ·show _=(i8 _ _).length;rw[iR]
  ·refine hR ai (Moved.trans W.gtrans (Moved.then_heap (Gb hm q) (CZ s'.toks) fun b o F e=>?_) aa) M;rw[ac.right b fun h=>F (h ▸ AG)];exact e
theorem aG5{prog:AD}{w:AY}{A:AU}{E:Ac→Af→Prop}{s:Af}(a:Ac){Q₁:Ac→Af→Prop}
  (h:Q₁ (.ref s.heap.objs.size) { s with heap:=s.heap.push { cls:=.type "set",dict:=none,data:=.set #[] 0 (.fresh 0 0 (!w.params.followText "set-order")) } }):
  codeAny (model prog w) A (.call (.builtin "set.__new__") ⟨[.type "set",a],[]⟩) (wants Q₁ E) s:=by
 apply Fh;show wpAny (model prog w) A.in1 (checkBuiltinCall "set.__new__" ⟨[.type "set",a],[]⟩ >>= fun _=>again (.builtin "set.__new__" ⟨[.type "set",a],[]⟩)) _ _ s;apply Aa;refine Ct (F.newCall_set_1 a) (Ae ⟨Dm F.plain_set_new _,?_⟩);apply BS F.entry_set_new;rw[BH F.plain_set_new];unfold Builtin.«set.__new__» Builtin.Frozenset.newClass;have q:=sub_set_self;obtain⟨hp,gs,dr,tk,os⟩:=s;dsimp only
 wp_walk
 apply DA;apply Ae;dsimp only;simp only[newObj];apply Aa;apply wpAny_alloc;exact Ae (Ae h)
theorem zX{prog:AD}{w:AY}{A:AU}{E:Ac→Af→Prop}{s:Af}{l:Ah}{z:Array Ac}{val:Nat→Str}{Q:Ac→Af→Prop}(hh:A.handled=none)(hl:s.heap.IsList l z)
  (hi:∀(i:Nat) (v:Ac),z[i]?=some v→∃ t,v=By (val i) t) (hb:z.size + 1 < scanBound)
  (h:∀(h':Bm) (tk:Nat),jY prog w h' s.heap.objs.size (fun k'=>(eQ val z.size).any fun x=>x == k') (eQ val z.size).length→
   (∀(b:Nat) (o:Obj),b < s.heap.objs.size→s.heap.get? b=some o→h'.get? b=some o)→Q (AI s.heap.objs.size) { s with heap:=h',toks:=tk }):
  wpAny (model prog w) A (call (AB "set") [AI l]) Q E s:=by
 obtain⟨c,tl,hmro⟩:=BP.mro;have O:=BP.made;have aa:=BP.sub;have ak:=Gd (AI l);refine Dg (Fh (Ae ⟨Ft _ (by decide),BS F3 ?_⟩));rw[Fl (Fn "set" [AI l] []) rfl];unfold Builtin.«type.__call__»;dsimp only
 iterate 2 refine Aq (by first | rfl | decide) ?_
 refine Aa (Ct ak ?_);refine Aa (Ct hmro ?_);refine Aq (by first | rfl | decide) ?_;refine Aa (Ct O ?_);refine Aa (Ae ?_);refine Aa (Ba (Dg (C1 (aG5 (Q₁:=fun obj s₁=>∃ led,led=(!w.params.followText "set-order")∧obj=AI s.heap.objs.size∧s₁={ s with heap:=s.heap.push { cls:=AB "set",data:=BZ #[] 0 (A9 0 0 led) } }) (E:=E) (AI l) ⟨_,rfl,rfl,rfl⟩) fun r s₁ B=>?_)));cases r with
 | error e=>exact B
 | ok fl=>
  cases fl with
  | next=>exact B.elim
  | brk=>exact B.elim
  | cont=>exact B.elim
  | ret v=>
   obtain⟨led,hled,rfl,rfl⟩:=B;have hS:=Av s.heap (o:={ cls:=AB "set",data:=BZ #[] 0 (A9 0 0 led) }) rfl;have hT:Dx { s with heap:=s.heap.push { cls:=AB "set",data:=BZ #[] 0 (A9 0 0 led) } } (AI s.heap.objs.size) "set":=⟨_,hS,rfl⟩
   have ai:=BP.init.lookup;have ah:=BP.init.bind (AI s.heap.objs.size);obtain⟨ol,hol,hcl,nl,hdl⟩:=hl;have J:=Ag { cls:=AB "set",data:=BZ #[] 0 (A9 0 0 led) } hol;have Y:Heap.IsList (s.heap.push { cls:=AB "set",data:=BZ #[] 0 (A9 0 0 led) }) l z:=⟨ol,J,hcl,nl,hdl⟩
   refine Aa (BT hT aa ?_);refine Aq (by first | rfl | decide) ?_;refine Aa (Ba ?_);unfold callSpecial?;refine Aa (DP hT ai ?_);dsimp only;refine Ba ?_;refine Aa (Ct ah ?_);refine Aa (Dg (C1 (Fx BP.init.plain Ge (R:=fun r s'=>match r with | .ok (.ret v)=>v=.none∧Q (.ref s.heap.objs.size) s' | _=>False) (Gm hT ?_)) fun r s₁ B=>?_))
   ·unfold Builtin.«set.__init__»;refine Aa (BG (by first | rfl | decide) (Ae ?_));refine Aa (Aa (Aa (BM hT (Aq (by first | rfl | decide) (Ae ?_)))));refine Ae ?_;refine Aa ?_;unfold checkCount
    iterate 2 refine Aq (by first | rfl | decide) ?_
    refine Aq (by first | rfl | decide) (Ae ?_);refine Aa (Ae ?_);refine Aa ?_;unfold setUsed setState;refine Aa (Aa (He hS ?_));dsimp only;refine Aq (by first | rfl | decide) (Ae ?_);refine Ae ?_;refine Aq (by first | rfl | decide) ?_;show wpAny _ _ (do let aq ← B7 "set.__init__" s.heap.objs.size (AI l);ret Cd) _ _ _;refine Aa ?_;unfold B7;refine Aa ?_;have M:Dx { s with heap:=s.heap.push { cls:=AB "set",data:=BZ #[] 0 (A9 0 0 led) } } (AI l) "list":=⟨ol,J,hcl⟩
    unfold DO;refine Aa (BT M F.sub_list_set ?_);refine BT M F.sub_list_frozenset ?_;refine Aq (by first | rfl | decide) ?_;refine Aa (BM M ?_);refine Aq (by first | rfl | decide) ?_;refine Aa (ER Y ?_);refine Aa (D7 ?_);have ab:l < s.heap.objs.size:=Aw hol;have U:(s.heap.push { cls:=AB "set",data:=BZ #[] 0 (A9 0 0 led) }).objs.size=s.heap.objs.size + 1:=BY _ _;have Z:l≠(s.heap.push { cls:=AB "set",data:=BZ #[] 0 (A9 0 0 led) }).objs.size:=by rw[U];exact AC (Bj ab)
    have aj:¬ s.heap.objs.size∈[(s.heap.push { cls:=AB "set",data:=BZ #[] 0 (A9 0 0 led) }).objs.size,l]:=by
     rw[U];simp only[Ao,Az,or_false,not_or];exact⟨AC (B1 _),CY ab⟩
    have am:A.in1.in1.in1.handled=none:=hh;refine aEE (FC (GJ am _ l Z z)) s.heap.objs.size aj val hi hb (z.size - 0) 0 _ rfl (A3 _) ⟨⟨_,Av _ rfl,rfl,rfl⟩,Heap.IsList.push Y _⟩ ?_ ?_
    ·have W:=Ag { cls:=AB "list_iterator",data:=F5 #[AI l,Cg 0 0] } hS;exact⟨_,#[],0,_,W,⟨rfl,rfl,rfl⟩,rfl,(fun e he=>by simp at he),(fun k=>by show(false=true)↔_;simp),(by decide),rfl,rfl,hled,.inl rfl⟩
    ·rintro⟨h',g',d',tk',os'⟩ hm hS';refine Ae (Ae ⟨rfl,?_⟩);have e1:=hm.gens;have e2:=hm.drawn;have e3:=hm.os;dsimp only at e1 e2 e3;subst e1 e2 e3;refine h h' tk' hS' fun b o hb e=>hm.heap b o ?_ ?_
     ·simp only[Ao,Az,or_false,not_or];rw[U];exact⟨AC hb,AC (Bj hb)⟩
     ·exact Ag _ (Ag _ e)
   ·cases r with
    | error e=>exact B.elim
    | ok fl=>
     cases fl with
     | next=>exact B.elim
     | brk=>exact B.elim
     | cont=>exact B.elim
     | ret v=>
      obtain⟨rfl,q⟩:=B;refine Ae ?_;refine Aq (by first | rfl | decide) ?_;exact Ae q
theorem zY{prog:AD}{w:AY}{A:AU}{E:Ac→Af→Prop}{s:Af}{l:Ah}{z:Array Ac}{val:Nat→Str}{Q:Ac→Af→Prop}(hh:A.handled=none)(hl:s.heap.IsTuple l z)
  (hi:∀(i:Nat) (v:Ac),z[i]?=some v→∃ t,v=By (val i) t) (hb:z.size + 1 < scanBound)
  (h:∀(h':Bm) (tk:Nat),jY prog w h' s.heap.objs.size (fun k'=>(eQ val z.size).any fun x=>x == k') (eQ val z.size).length→
   (∀(b:Nat) (o:Obj),b < s.heap.objs.size→s.heap.get? b=some o→h'.get? b=some o)→Q (AI s.heap.objs.size) { s with heap:=h',toks:=tk }):
  wpAny (model prog w) A (call (AB "set") [AI l]) Q E s:=by
 obtain⟨c,tl,hmro⟩:=BP.mro;have O:=BP.made;have aa:=BP.sub;have ak:=Gd (AI l);refine Dg (Fh (Ae ⟨Ft _ (by decide),BS F3 ?_⟩));rw[Fl (Fn "set" [AI l] []) rfl];unfold Builtin.«type.__call__»;dsimp only
 iterate 2 refine Aq (by first | rfl | decide) ?_
 refine Aa (Ct ak ?_);refine Aa (Ct hmro ?_);refine Aq (by first | rfl | decide) ?_;refine Aa (Ct O ?_);refine Aa (Ae ?_);refine Aa (Ba (Dg (C1 (aG5 (Q₁:=fun obj s₁=>∃ led,led=(!w.params.followText "set-order")∧obj=AI s.heap.objs.size∧s₁={ s with heap:=s.heap.push { cls:=AB "set",data:=BZ #[] 0 (A9 0 0 led) } }) (E:=E) (AI l) ⟨_,rfl,rfl,rfl⟩) fun r s₁ B=>?_)));cases r with
 | error e=>exact B
 | ok fl=>
  cases fl with
  | next=>exact B.elim
  | brk=>exact B.elim
  | cont=>exact B.elim
  | ret v=>
   obtain⟨led,hled,rfl,rfl⟩:=B;have hS:=Av s.heap (o:={ cls:=AB "set",data:=BZ #[] 0 (A9 0 0 led) }) rfl;have hT:Dx { s with heap:=s.heap.push { cls:=AB "set",data:=BZ #[] 0 (A9 0 0 led) } } (AI s.heap.objs.size) "set":=⟨_,hS,rfl⟩
   have ai:=BP.init.lookup;have ah:=BP.init.bind (AI s.heap.objs.size);obtain⟨ol,hol,hcl,nl,hdl⟩:=hl;have J:=Ag { cls:=AB "set",data:=BZ #[] 0 (A9 0 0 led) } hol;have Y:Heap.IsTuple (s.heap.push { cls:=AB "set",data:=BZ #[] 0 (A9 0 0 led) }) l z:=⟨ol,J,hcl,nl,hdl⟩
   refine Aa (BT hT aa ?_);refine Aq (by first | rfl | decide) ?_;refine Aa (Ba ?_);unfold callSpecial?;refine Aa (DP hT ai ?_);dsimp only;refine Ba ?_;refine Aa (Ct ah ?_);refine Aa (Dg (C1 (Fx BP.init.plain Ge (R:=fun r s'=>match r with | .ok (.ret v)=>v=.none∧Q (.ref s.heap.objs.size) s' | _=>False) (Gm hT ?_)) fun r s₁ B=>?_))
   ·unfold Builtin.«set.__init__»;refine Aa (BG (by first | rfl | decide) (Ae ?_));refine Aa (Aa (Aa (BM hT (Aq (by first | rfl | decide) (Ae ?_)))));refine Ae ?_;refine Aa ?_;unfold checkCount
    iterate 2 refine Aq (by first | rfl | decide) ?_
    refine Aq (by first | rfl | decide) (Ae ?_);refine Aa (Ae ?_);refine Aa ?_;unfold setUsed setState;refine Aa (Aa (He hS ?_));dsimp only;refine Aq (by first | rfl | decide) (Ae ?_);refine Ae ?_;refine Aq (by first | rfl | decide) ?_;show wpAny _ _ (do let aq ← B7 "set.__init__" s.heap.objs.size (AI l);ret Cd) _ _ _;refine Aa ?_;unfold B7;refine Aa ?_;have M:Dx { s with heap:=s.heap.push { cls:=AB "set",data:=BZ #[] 0 (A9 0 0 led) } } (AI l) "tuple":=⟨ol,J,hcl⟩
    unfold DO;refine Aa (BT M F.sub_tuple_set ?_);refine BT M F.sub_tuple_frozenset ?_;refine Aq (by first | rfl | decide) ?_;refine Aa (BM M ?_);refine Aq (by first | rfl | decide) ?_;refine Aa (wpAny_pyIter_tuple Y ?_);refine Aa (D7 ?_);have ab:l < s.heap.objs.size:=Aw hol;have U:(s.heap.push { cls:=AB "set",data:=BZ #[] 0 (A9 0 0 led) }).objs.size=s.heap.objs.size + 1:=BY _ _;have Z:l≠(s.heap.push { cls:=AB "set",data:=BZ #[] 0 (A9 0 0 led) }).objs.size:=by rw[U];exact AC (Bj ab)
    have aj:¬ s.heap.objs.size∈[(s.heap.push { cls:=AB "set",data:=BZ #[] 0 (A9 0 0 led) }).objs.size,l]:=by
     rw[U];simp only[Ao,Az,or_false,not_or];exact⟨AC (B1 _),CY ab⟩
    have am:A.in1.in1.in1.handled=none:=hh;refine aEE (FC (Walks.tuple am _ l Z z)) s.heap.objs.size aj val hi hb (z.size - 0) 0 _ rfl (A3 _) ⟨⟨_,Av _ rfl,rfl,rfl⟩,aBl Y _⟩ ?_ ?_
    ·have W:=Ag { cls:=AB "tuple_iterator",data:=F5 #[AI l,Cg 0 0] } hS;exact⟨_,#[],0,_,W,⟨rfl,rfl,rfl⟩,rfl,(fun e he=>by simp at he),(fun k=>by show(false=true)↔_;simp),(by decide),rfl,rfl,hled,.inl rfl⟩
    ·rintro⟨h',g',d',tk',os'⟩ hm hS';refine Ae (Ae ⟨rfl,?_⟩);have e1:=hm.gens;have e2:=hm.drawn;have e3:=hm.os;dsimp only at e1 e2 e3;subst e1 e2 e3;refine h h' tk' hS' fun b o hb e=>hm.heap b o ?_ ?_
     ·simp only[Ao,Az,or_false,not_or];rw[U];exact⟨AC hb,AC (Bj hb)⟩
     ·exact Ag _ (Ag _ e)
   ·cases r with
    | error e=>exact B.elim
    | ok fl=>
     cases fl with
     | next=>exact B.elim
     | brk=>exact B.elim
     | cont=>exact B.elim
     | ret v=>
      obtain⟨rfl,q⟩:=B;refine Ae ?_;refine Aq (by first | rfl | decide) ?_;exact Ae q
theorem mW{α:Type}:∀(l:List α) (j:Nat) (y:α),l[j]?=some y→(y :: l.eraseIdx j).Perm l
 | [],j,y,h=>by simp at h
 | x :: r,0,y,h=>by
  simp at h;subst h;simp
 | x :: r,j + 1,y,h=>by
  simp at h;rw[List.eraseIdx_cons_succ];exact(List.Perm.swap x y _).trans ((mW r j y h).cons x)
theorem aGa{M:Gz}{A:AU}{Q:Nat→Af→Prop}{E:Ac→Af→Prop}{s:Af}{src:Source}{n:Nat}(hn:n≠0)(h:∀ i d,i < n→Q i { s with drawn:=d }):wpAny M A (choose src n) Q E s:=
 fun _ _ _=>⟨hn,h _ _ (Nat.mod_lt _ (Nat.pos_of_ne_zero hn))⟩
theorem aBm{α:Type}{M:Gz}{A:AU}{E:Ac→Af→Prop}:∀(n:Nat) (xs:List α) (s:Af) (Q:List α→Af→Prop),xs.length=n→(∀ ys d,ys.Perm xs→Q ys { s with drawn:=d })→wpAny M A (drawOrder n xs) Q E s:=by
 intro n
 induction n with
 | zero=>
  intro xs s Q q h;obtain rfl:xs=[]:=Ee q;exact Ae (h [] s.drawn (DD _))
 | succ n z=>
  intro xs s Q q h;cases xs with
  | nil=>simp at q
  | cons x r=>
   unfold drawOrder;refine Aa (aGa (by simp) fun i d hi=>?_);obtain⟨y,hy⟩:∃ y,(x :: r)[i]?=some y:=⟨_,Ab hi⟩
   rw[hy];dsimp only;refine Aa (z _ _ _ (by rw[CN hi];simp at q ⊢;exact q) fun ys F B=>Ae (h _ _ ((B.cons y).trans (mW _ i y hy))))
theorem dG:Slot "set_iterator" "__next__" "set_iterator.__next__":=
 .of (owner:="set_iterator") (n:="__next__") (by rw[typeLookup_type,builtinLookup_eq_fast];kernel_rfl) (by decide) (by decide) (by decide) (by first | exact .inl (by decide) | exact .inr (by decide)) (by rw[Gx];kernel_rfl)
theorem pC:Slot "set_iterator" "__iter__" "set_iterator.__iter__":=
 .of (owner:="set_iterator") (n:="__iter__") (by rw[typeLookup_type,builtinLookup_eq_fast];kernel_rfl) (by decide) (by decide) (by decide) (by first | exact .inl (by decide) | exact .inr (by decide)) (by rw[Gx];kernel_rfl)
theorem iH:entryFor table "set_iterator.__next__"=some Builtin.«set_iterator.__next__»:=entryFor_of_tree (by kernel_rfl)
theorem vS:entryFor table "set_iterator.__iter__"=some Builtin.«dict_keyiterator.__iter__»:=entryFor_alias (id':="dict_keyiterator.__iter__") (by kernel_rfl) rfl (by decide) (by kernel_rfl)
theorem rV:entryFor table "set.__iter__"=some Builtin.«frozenset.__iter__»:=entryFor_alias (id':="frozenset.__iter__") (by kernel_rfl) rfl (by decide) (by kernel_rfl)
theorem zZ:Manifest.owners.lookup (String.ofList ("set_iterator".toList.reverse).reverse)=some Manifest.sig_set_iterator:=by kernel_rfl
theorem iU(a:Ac):argsOk "set_iterator.__next__" ⟨[a],[]⟩:=by
 unfold argsOk;rw[signature?_of (id:="set_iterator.__next__") (n:="__next__".toList.reverse) (o:="set_iterator".toList.reverse) (by kernel_rfl) zZ]
 kernel_rfl
theorem yC(a:Ac):argsOk "set_iterator.__iter__" ⟨[a],[]⟩:=by
 unfold argsOk;rw[signature?_of (id:="set_iterator.__iter__") (n:="__iter__".toList.reverse) (o:="set_iterator".toList.reverse) (by kernel_rfl) zZ]
 kernel_rfl
def jA(first:Ac)(i:Nat)(S:Ah)(n ep:Nat):Obj:={ cls:=.type "set_iterator",dict:=none,data:=.fields #[first,.int i 0,.ref S,.int n 0,.int ep 0],slots:=#[] }
section
variable{prog:AD}{w:AY}{A:AU}{E:Ac→Af→Prop}{s:Af}{I S T:Ah}{i m ep:Nat}{o ot:Obj}{es:Array (Int×Ac)}{t:Da}{fg:Array Ac}{x:Ac}
theorem uA{M:Gz}{B:AU}{q:Ac→Af→Prop}{Q:Fin→Af→Prop}{s:Af}(z:B.handled=none)(h:∀(e:Ac) (h':Bm),(∀ b u,s.heap.get? b=some u→h'.get? b=some u)→Dx { s with heap:=h' } e "StopIteration"→q e { s with heap:=h' }):
  wpAny M B (newExc (.type "StopIteration") [] >>= fun e=>raiseNew e) Q q s:=by
 refine Aa ?_;simp only[newExc,newTuple];apply Aa;refine BV ?_ (by size_fits);apply Aa (m:=firstArgMember _ _);refine Ct (a:=Cd) (by first | rfl | (simp only[firstArgMember];rfl)) ?_;refine BV (h:=?_) (by size_fits);simp only[raiseNew];refine Aa (wpAny_handled ?_);rw[z];refine Aa (Ae (wpAny_throw (h (.ref _) _ (fun b u e=>Ag _ (Ag _ e)) ⟨_,Av _ rfl,rfl⟩)))
theorem aDo(z:s.heap.get? I=some (jA (.ref T) i S es.size ep))(F:s.heap.get? S=some o)(hd:o.data=.set es ep t)(J:t.fits es.size=true)(U:s.heap.get? T=some ot)(B:ot.data=.seq fg m){p:Nat}{tk:Tok}{O:Int}(Y:fg[i]?=some (.int p tk))(M:es[p]?=some (O,x)){Q:Option Ac→Af→Prop}
  (W:∀ h',h'.get? I=some (jA (.ref T) (i + 1) S es.size ep)→DS I s.heap h'→Q (some x) { s with heap:=h' }):wpAny (model prog w) A (pyNext (.ref I)) Q E s:=by
 have q:s.TypeIs (.ref I) "set_iterator":=⟨_,z,rfl⟩
 unfold pyNext;apply Aa;apply El;refine CI (name:=Bs "__next__") q dG (B4 dG q iH ?_ (iU _));unfold Builtin.«set_iterator.__next__»;refine Aa (Ae ?_);refine Aa (Fv z rfl ?_);dsimp only;refine Aa (DH F hd J ?_);rw[Ia (show¬ ((((es.size:Nat):Int) != ((es.size:Nat):Int))=true) by simp)];refine Aa (wpAny_seqItems U B ?_);dsimp only;rw[show((i:Nat):Int).toNat=i from BL i,Y];dsimp only;unfold setNextDrawn;refine Aa (Aa (Dr F hd J ?_));dsimp only;rw[Ia (show¬ ((ep != ((ep:Nat):Int).toNat)=true) by simp)];rw[show((p:Nat):Int).toNat=p from BL p,M];refine Ae ?_;refine Aa (D6 z rfl (by simp[jA]) (Ae ⟨x,rfl,Ae (W _ ?_ (Ch ..))⟩));rw[B2 _ z (D1 (CO rfl _))];rfl
theorem aEF(U:A.handled=none)(z:s.heap.get? I=some (jA (.ref T) i S es.size ep))(J:s.heap.get? S=some o)(hd:o.data=.set es ep t)(W:t.fits es.size=true)(Z:s.heap.get? T=some ot)(F:ot.data=.seq fg m)(Y:fg[i]?=none){Q:Option Ac→Af→Prop}
  (hQ:∀ h',(∀ b u,b≠I→s.heap.get? b=some u→h'.get? b=some u)→Q none { s with heap:=h' }):wpAny (model prog w) A (pyNext (.ref I)) Q E s:=by
 have q:s.TypeIs (.ref I) "set_iterator":=⟨_,z,rfl⟩
 unfold pyNext;apply Aa;apply El;refine CI (name:=Bs "__next__") q dG (B4 dG q iH ?_ (iU _));unfold Builtin.«set_iterator.__next__»;refine Aa (Ae ?_);refine Aa (Fv z rfl ?_);dsimp only;refine Aa (DH J hd W ?_);rw[Ia (show¬ ((((es.size:Nat):Int) != ((es.size:Nat):Int))=true) by simp)];refine Aa (wpAny_seqItems Z F ?_);dsimp only;rw[show((i:Nat):Int).toNat=i from BL i,Y];dsimp only;refine Aa (D6 z rfl (by simp[jA]) ?_);have B:=B2 (Obj.mapFields (·.setIfInBounds 0 (rawInt 0))) z (D1 (CO rfl _))
 refine Aa (D6 B (CO rfl _) (by simp[jA]) ?_);refine uA (show A.in1.handled=none from U) fun e h' k M=>?_;refine Aa (BT (T:="StopIteration") (b:=true) M isSubtype_stop ?_);refine Ae (hQ h' fun b u nb O=>k b u ?_);exact(Ch _ I _).extBut b u nb ((Ch _ I _).extBut b u nb O)
theorem aDp{F nx:Nat}(J:s.heap.get? I=some (jA (rawInt F) i S es.size ep))(O:s.heap.get? S=some o)(hd:o.data=.set es ep t)(U:t.fits es.size=true)
  (hN:∀(B:AU) (Y:Ac→Af→Prop) (M:Option (Ac×Nat)→Af→Prop),M (some (x,nx)) s→wpAny (model prog w) B (setNext S F i ep) M Y s) {Q:Option Ac→Af→Prop}
  (W:∀ h',h'.get? I=some (jA (rawInt nx) (i + 1) S es.size ep)→DS I s.heap h'→Q (some x) { s with heap:=h' }):wpAny (model prog w) A (pyNext (.ref I)) Q E s:=by
 have z:s.TypeIs (.ref I) "set_iterator":=⟨_,J,rfl⟩
 unfold pyNext;apply Aa;apply El;refine CI (name:=Bs "__next__") z dG (B4 dG z iH ?_ (iU _));unfold Builtin.«set_iterator.__next__»;refine Aa (Ae ?_);refine Aa (Fv J rfl ?_);dsimp only;refine Aa (DH O hd U ?_);rw[Ia (show¬ ((((es.size:Nat):Int) != ((es.size:Nat):Int))=true) by simp)];dsimp only[rawInt];refine Aa ?_;rw[show((i:Nat):Int).toNat=i from BL i,show((F:Nat):Int).toNat=F from BL F,show((ep:Nat):Int).toNat=ep from BL ep];refine hN _ _ _ ?_;dsimp only;refine Aa (D6 J rfl (by simp[jA]) ?_);have q:=B2 (Obj.mapFields (·.setIfInBounds 0 (rawInt nx))) J (D1 (CO rfl _))
 refine Aa (D6 q (CO rfl _) (by simp[jA]) (Ae ⟨x,rfl,Ae (W _ ?_ ((Ch ..).trans (Ch ..)))⟩));exact(B2 _ q (D1 (CO (CO rfl _) _))).trans rfl
theorem aEG{q:Nat}(Y:A.handled=none)(F:s.heap.get? I=some (jA (rawInt q) i S es.size ep))(M:s.heap.get? S=some o)(hd:o.data=.set es ep t)(Z:t.fits es.size=true)
  (hN:∀(B:AU) (W:Ac→Af→Prop) (J:Option (Ac×Nat)→Af→Prop),J none s→wpAny (model prog w) B (setNext S q i ep) J W s) {Q:Option Ac→Af→Prop}
  (hQ:∀ h',(∀ b u,b≠I→s.heap.get? b=some u→h'.get? b=some u)→Q none { s with heap:=h' }):wpAny (model prog w) A (pyNext (.ref I)) Q E s:=by
 have z:s.TypeIs (.ref I) "set_iterator":=⟨_,F,rfl⟩
 unfold pyNext;apply Aa;apply El;refine CI (name:=Bs "__next__") z dG (B4 dG z iH ?_ (iU _));unfold Builtin.«set_iterator.__next__»;refine Aa (Ae ?_);refine Aa (Fv F rfl ?_);dsimp only;refine Aa (DH M hd Z ?_);rw[Ia (show¬ ((((es.size:Nat):Int) != ((es.size:Nat):Int))=true) by simp)];dsimp only[rawInt];refine Aa ?_;rw[show((i:Nat):Int).toNat=i from BL i,show((q:Nat):Int).toNat=q from BL q,show((ep:Nat):Int).toNat=ep from BL ep];refine hN _ _ _ ?_;dsimp only;refine Aa (D6 F rfl (by simp[jA]) ?_);refine uA (show A.in1.handled=none from Y) fun e h' k O=>?_;refine Aa (BT (T:="StopIteration") (b:=true) O isSubtype_stop ?_);refine Ae (hQ h' fun b u nb U=>k b u ?_);exact(Ch _ I _).extBut b u nb U
theorem aCj{first:Ac}(z:s.heap.get? I=some (jA first i S es.size ep)){Q:Ac→Af→Prop}(h:Q (.ref I) s):wpAny (model prog w) A (pyIter (.ref I)) Q E s:=by
 have q:s.TypeIs (.ref I) "set_iterator":=⟨_,z,rfl⟩
 refine wpAny_pyIter_slot q pC (B4 pC q vS ?_ (yC _));exact Ae ⟨_,rfl,"set_iterator",_,q,dG.lookup,h⟩
end
theorem wN{α:Type}(next:Nat→Nat):∀(q k:Nat) (left:List α) (out:Array α),left.length=q→(pickOrder.go next q k left out).toList.Perm (out.toList ++ left)
 | 0,k,[],out,_=>by
  unfold pickOrder.go;rw[CU]
 | q + 1,k,x :: r,out,z=>by
  unfold pickOrder.go;have hi:next k % (x :: r).length < (x :: r).length:=Nat.mod_lt _ (by simp)
  obtain⟨y,hy⟩:∃ y,(x :: r)[next k % (x :: r).length]?=some y:=⟨_,Ab hi⟩
  rw[hy];dsimp only;refine(wN next q (k + 1) _ _ (by rw[CN hi];simp at z ⊢;exact z)).trans ?_;rw[CB,Bf];exact Bv _ (mW _ _ y hy)
theorem uB{α:Type}(next:Nat→Nat)(xs:Array α):(pickOrder next xs).toList.Perm xs.toList:=by
 unfold pickOrder;have h:=wN next xs.size 0 xs.toList #[] (by simp)
 simpa using h
section
variable{prog:AD}{w:AY}{A:AU}{I S T:Ah}{m ep:Nat}{o ot:Obj}{es:Array (Int×Ac)}{t:Da}{fg:Array Ac}
theorem aHR(W:A.handled=none)(U:S≠I)(Z:T≠I)(hd:o.data=.set es ep t)(M:t.fits es.size=true)(q:ot.data=.seq fg m)(Y:∀ i,i < fg.size→∃(p:Nat) (tk:Tok) (z:Int×Ac),fg[i]?=some (.int p tk)∧es[p]?=some z):
  Walks prog w A I [I,S,T] [I] fg.size (fun i v=>∃(p:Nat) (tk:Tok) (z:Int),fg[i]?=some (.int p tk)∧es[p]?=some (z,v)) (fun i h=>h.get? I=some (jA (.ref T) i S es.size ep)∧h.get? S=some o∧h.get? T=some ot) where
 sub:=fun b J=>by simp at J;simp[J]
 frame:=fun _ _ _ st F=>⟨F I (by simp) _ st.1,F S (by simp) _ st.2.1,F T (by simp) _ st.2.2⟩
 item:=fun i s Q E hi st B=>by
  obtain⟨p,tk,⟨z,v⟩,h1,h2⟩:=Y i hi;refine aDo st.1 st.2.1 hd M st.2.2 q h1 h2 fun h' O sb=>?_;exact B v h' s.toks ⟨p,tk,z,h1,h2⟩ ⟨O,sb.extBut S _ U st.2.1,sb.extBut T _ Z st.2.2⟩ fun b u nb e=>sb.extBut b u (by simpa using nb) e
 done:=fun s Q E st B=>aEF W st.1 st.2.1 hd M st.2.2 q (by simp) fun h' k=>B h' s.toks fun b u nb e=>k b u (by simpa using nb) e
 self:=fun i s Q E st B=>aCj st.1 B
theorem aHS(hh:A.handled=none)(Z:S≠I)(hd:o.data=.set es ep t)(W:t.fits es.size=true)(M:Nat→Nat)(ord:List Ac)
  (hN:∀(i:Nat) (s:Af),s.heap.get? S=some o→i≤ord.length→∀(B:AU) (F:Ac→Af→Prop) (z:Option (Ac×Nat)→Af→Prop),z ((ord[i]?).map fun v=>(v,M (i + 1))) s→wpAny (model prog w) B (setNext S (M i) i ep) z F s):
  Walks prog w A I [I,S] [I] ord.length (fun i v=>ord[i]?=some v) (fun i h=>h.get? I=some (jA (rawInt (M i)) i S es.size ep)∧h.get? S=some o) where
 sub:=fun b U=>by simp at U;simp[U]
 frame:=fun _ _ _ st O=>⟨O I (by simp) _ st.1,O S (by simp) _ st.2⟩
 item:=fun i s Q E hi st J=>by
  obtain⟨v,hv⟩:∃ v,ord[i]?=some v:=⟨_,Ab hi⟩
  refine aDp (x:=v) (nx:=M (i + 1)) st.1 st.2 hd W (fun B F z q=>hN i s st.2 (Db hi) B F z (by rw[hv];exact q)) fun h' Y sb=>?_;exact J v h' s.toks hv ⟨Y,sb.extBut S _ Z st.2⟩ fun b u nb e=>sb.extBut b u (by simpa using nb) e
 done:=fun s Q E st J=>aEG hh st.1 st.2 hd W (fun B F z q=>hN _ s st.2 (Ap _) B F z (by rw[AV (Ap _)];exact q)) fun h' k=>J h' s.toks fun b u nb e=>k b u (by simpa using nb) e
 self:=fun i s Q E st J=>aCj st.1 J
structure aJN(prog:AD)(w:AY)(A:AU)(S:Ah)(el:List Ac)(s s2:Af)(I:Ah):Prop where
 w:∃(fp:List Ah) (P:Nat→Ac→Prop) (St:Nat→Bm→Prop),Walks prog w A I fp [I] el.length P St∧St 0 s2.heap∧I∈fp∧(∀ b∈fp,b < s2.heap.objs.size∧(b=S∨s.heap.objs.size≤b))∧∀ acc,ItemsOf P acc el.length→acc.toList.Perm el
 keep:∀ b u,s.heap.get? b=some u→s2.heap.get? b=some u
 new:s.heap.objs.size≤I
 gens:s2.gens=s.gens
 os:s2.os=s.os
 toks:s2.toks=s.toks
theorem aEH{ord:List Ac}{q:Array Ac}(h:ItemsOf (fun i v=>ord[i]?=some v) q ord.length):q.toList=ord:=by
 obtain⟨hl,h⟩:=h;apply CC;intro j;by_cases z:j < q.size
 ·have:=h j q[j] (by simp[z]);rw[this];simp[z]
 ·rw[AV (by simpa using z),AV (by omega)]
end
section
variable{prog:AD}{w:AY}{A:AU}{S:Ah}{ep:Nat}{o:Obj}{es:Array (Int×Ac)}{t:Da}
theorem z8{ys:List Nat}{n:Nat}(F:ys.Perm (AO n))(hn:n=es.size):∀ i,i < (ys.map fun(i:Nat)=>rawInt i).toArray.size→∃(p:Nat) (tk:Tok) (z:Int×Ac),(ys.map fun(i:Nat)=>rawInt i).toArray[i]?=some (.int p tk)∧es[p]?=some z:=by
 intro i hi;have q:i < ys.length:=by simpa using hi
 have hm:ys[i]∈AO n:=F.mem_iff.mp (Bk q);have B:ys[i] < es.size:=by rw[← hn];exact BF.mp hm
 exact⟨ys[i],0,es[ys[i]],by simp[q,rawInt],by simp[B]⟩
theorem yD{ys:List Nat}{n:Nat}(O:ys.Perm (AO n))(hn:n=es.size){q:Array Ac}(h:ItemsOf (fun i v=>∃(p:Nat) (tk:Tok) (z:Int),(ys.map fun(i:Nat)=>rawInt i).toArray[i]?=some (.int p tk)∧es[p]?=some (z,v)) q ys.length):q.toList.Perm (es.toList.map (·.2)):=by
 have e:q.toList=ys.map fun p=>(es.toList.getD p (0,.none)).2:=by
  apply CC;intro j;by_cases F:j < ys.length
  ·have B:j < q.size:=by rw[h.1];exact F
   obtain⟨p,tk,z,h1,h2⟩:=h.2 j q[j] (by simp[B]);simp[F,rawInt]at h1;obtain⟨h1,_⟩:=h1;have J:ys[j]=p:=by exact_mod_cast h1
   rw[AL,Ab F,J];have M:es.toList[p]?=some (z,q[j]):=by simpa using h2
   simp[List.getD,h2,M,B]
  ·rw[AV (by have:=h.1;simp;omega),AV (by simpa using F)]
 rw[e];refine(O.map _).trans (FA ?_);apply CC;intro j;rw[AL,AL];by_cases F:j < n
 ·rw[C3 F];have B:j < es.size:=by omega
  simp[List.getD,B]
 ·rw[AV (by simpa using F),AV (by simp;omega)];rfl
theorem aEI(hh:A.handled=none)(ag:o.cls=.type "set")(hd:o.data=.set es ep t)(O:t.fits es.size=true)(hb:es.size < scanBound)(aa:t9 w es t){E:Ac→Af→Prop}{s:Af}{R:Ac→Af→Prop}(hS:s.heap.get? S=some o)
  (h:∀(I:Ah) (s2:Af),aJN prog w A S (es.toList.map (·.2)) s s2 I→R (.ref I) s2):wpAny (model prog w) A (pyIter (.ref S)) R E s:=by
 have ak:s.TypeIs (.ref S) "set":=⟨_,hS,ag⟩
 have Y:=Aw hS;refine wpAny_pyIter_slot ak F.slot_set_iter (B4 F.slot_set_iter ak rV ?_ (F.args_set_iter_1 _));unfold Builtin.«frozenset.__iter__» Builtin.Frozenset.slot0 Builtin.Frozenset.sizeOf;refine Aa (Aa (Ae (Ae ?_)));refine Aa (Aa (DH hS hd O (Ae ?_)));refine Aa ?_;unfold setDrawn setsByText;refine Aa (Dr hS hd O (Aa (Aa (DA (Ae (Ae ?_))))));have ax:(es.toList.map (·.2)).length=es.size:=by simp
 have fin:(∀(i:Nat) (s:Af),s.heap.get? S=some o→i≤es.size→True)→∀(sl:Nat→Nat) (ord:List Ac),sl 0=0→ord.Perm (es.toList.map (·.2))→
   (∀(i:Nat) (s:Af),s.heap.get? S=some o→i≤ord.length→∀(B:AU) (E':Ac→Af→Prop) (Q':Option (Ac×Nat)→Af→Prop),Q' ((ord[i]?).map fun v=>(v,sl (i + 1))) s→wpAny (model prog w) B (setNext S (sl i) i ep) Q' E' s)→
   wpAny (model prog w) A.in1 (do ret (← newFields "set_iterator" [rawInt 0,rawInt 0,.ref S,rawInt es.size,rawInt (← setEpoch S)])) (fun fin s'=>∃ v,fin=.done (.ret v)∧∃ T' r,s'.TypeIs v T'∧typeLookup (.type T') "__next__"=pure (some r)∧R v s') E s:=by
  intro _ sl ord h0 J hN;refine Aa (wpAny_setEpoch_of hS hd O ?_);refine Aa (BV (Ae ⟨_,rfl,"set_iterator",_,⟨_,Av _ rfl,rfl⟩,dG.lookup,h _ _ ?_⟩));have af:ord.length=(es.toList.map (·.2)).length:=J.length_eq
  refine⟨⟨[s.heap.objs.size,S],_,_,af ▸ aHS hh (AC Y) hd O sl ord hN,⟨by rw[h0];exact Av _ rfl,Ag _ hS⟩,by simp,?_,fun av ha=>?_⟩,fun b u e=>Ag _ e,Ap _,rfl,rfl,rfl⟩
  ·intro b hb;rw[BY];simp at hb;rcases hb with rfl | rfl
   ·exact⟨B1 _,.inr (Ap _)⟩
   ·exact⟨Bj Y,.inl rfl⟩
  ·rw[← af]at ha;rw[aEH ha];exact J
 dsimp only;cases Z:(model prog w).w.params.followText "set-order" with
 | true=>
  rw[Ia (by simp)];refine Aa (Ae ?_);refine fin (fun _ _ _ _=>trivial) (fun _=>0) ((pickOrder ((model prog w).w.params.setOrder S ep) es).toList.map (·.2)) rfl ((uB _ es).map _) fun i s1 M hi B E' Q' q=>?_
  unfold setNext setsByText setWalk setsByText;refine Aa (Dr M hd O ?_);refine Aa (Aa (DA (Ae ?_)));dsimp only;rw[Z,Ib rfl];rw[Ia (show¬ ((ep != ep)=true) by simp)];refine Aa (Aa (Dr M hd O ?_));refine Aa (Aa (DA (Ae ?_)));dsimp only;rw[Z,Ib rfl];refine Aa (DA (Ae (Ae ?_)));simpa[Function.comp_def]using q
 | false=>
  by_cases h1:es.size > 1
  ·have W:t.plain=false:=aa.2.resolve_left (by omega);refine BG (Ic (show((!false) && (!t.plain && decide (es.size > 1)))=true by rw[W];simp[h1])) ?_;refine Aa (aBm es.size (AO es.size) s _ (by simp) fun ys d J=>?_);have aj:ys.length=es.size:=by rw[J.length_eq];simp
   refine Aa (EH ?_ (by rw[Ad,aj];exact ET hb));have M:(s.heap.push { cls:=.type "tuple",data:=.seq (ys.map fun(i:Nat)=>rawInt i).toArray }).get? S=some o:=Ag _ hS;refine Aa (wpAny_setEpoch_of M hd O ?_);refine Aa (BV (Ae ⟨_,rfl,"set_iterator",_,⟨_,Av _ rfl,rfl⟩,dG.lookup,h _ _ ?_⟩));have U:(s.heap.push { cls:=.type "tuple",data:=.seq (ys.map fun(i:Nat)=>rawInt i).toArray }).objs.size=s.heap.objs.size + 1:=BY _ _;have am:(ys.map fun(i:Nat)=>rawInt i).toArray.size=(es.toList.map (·.2)).length:=by simp[aj]
   have hw:=aHR (prog:=prog) (w:=w) (A:=A) (I:=(s.heap.push { cls:=.type "tuple",data:=.seq (ys.map fun(i:Nat)=>rawInt i).toArray }).objs.size) (S:=S) (T:=s.heap.objs.size) (o:=o) (ot:={ cls:=.type "tuple",data:=.seq (ys.map fun(i:Nat)=>rawInt i).toArray }) hh (by rw[U];exact AC (Bj Y)) (by rw[U];exact AC (B1 _)) hd O rfl (z8 J rfl);rw[am]at hw;refine⟨⟨_,_,_,hw,⟨Av _ rfl,Ag _ M,Ag _ (Av _ rfl)⟩,by simp,?_,fun av ha=>?_⟩,fun b u e=>Ag _ (Ag _ e),by dsimp only;rw[U];exact CZ _,rfl,rfl,rfl⟩
   ·intro b hb;have h3:b=s.heap.objs.size + 1∨b=S∨b=s.heap.objs.size:=by
     rw[U]at hb;simpa using hb
    dsimp only;rw[BY,U];rcases h3 with rfl | rfl | rfl
    ·exact⟨B1 _,.inr (CZ _)⟩
    ·exact⟨Bj (Bj Y),.inl rfl⟩
    ·exact⟨Bj (B1 _),.inr (Ap _)⟩
   ·rw[← am,At,Ad]at ha;exact yD J rfl ha
  ·refine Aq (decide_eq_false (show¬ (((!false) && (!t.plain && decide (es.size > 1)))=true) by simp[h1])) ?_;refine Aa (Ae ?_);have au:(!t.plain && decide (es.size > 1))=false:=by simp[h1]
   have ai:t.led=true:=by
    have z:=aa.1;rw[show w.params.followText "set-order"=false from Z]at z;exact z
   have ar:t.place.size=es.size:=by
    unfold SetTable.fits at O;simp at O;exact O.1
   refine fin (fun _ _ _ _=>trivial) (fun i=>if i=0 then 0 else t.place.getD 0 0 + 1) (es.toList.map (·.2)) rfl (DD _) fun i s1 M hi B E' Q' q=>?_
   unfold setNext setsByText;refine Aa (Dr M hd O ?_);refine Aa (Aa (DA (Ae ?_)));dsimp only;rw[Z,Ia (by simp)];refine Aq (decide_eq_false (show¬ ((!t.plain && decide (es.size > 1))=true) by rw[au];simp)) ?_;refine Aa (Aq (decide_eq_false (show¬ ((!t.led && !es.isEmpty)=true) by rw[ai];simp)) (Ae (Ae ?_)));have ae:es.size=0∨es.size=1:=by omega
   rcases ae with hz | hz
   ·have ac:es=#[]:=Array.eq_empty_of_size_eq_zero hz;have W:t.place=#[]:=Array.eq_empty_of_size_eq_zero (by omega);subst ac;have ap:i=0:=by simpa using hi
    subst ap;rw[W];simpa[DF,DF.go]using q
   ·obtain⟨e,ac⟩:=Array.size_eq_one_iff.mp hz;obtain⟨j,W⟩:=Array.size_eq_one_iff.mp (ar.trans hz);subst ac;have ao:i=0∨i=1:=by
     have:i≤1:=by simpa using hi
     omega
    rw[W]at q ⊢;rcases ao with rfl | rfl
    ·simpa[DF,DF.go]using q
    ·simpa[DF,DF.go]using q
end
section
variable{prog:AD}{w:AY}{A:AU}{S:Ah}{ep:Nat}{o:Obj}{es:Array (Int×Ac)}{t:Da}
theorem z9(hh:A.handled=none)(q:o.cls=.type "set")(hd:o.data=.set es ep t)(hf:t.fits es.size=true)(hb:es.size < scanBound)(af:t9 w es t){E:Ac→Af→Prop}{s:Af}{Q:List Ac→Af→Prop}(hS:s.heap.get? S=some o)
  (h:∀(ad:List Ac) (h':Bm) (d:Drawn) (tk:Nat),ad.Perm (es.toList.map (·.2))→(∀ b u,s.heap.get? b=some u→h'.get? b=some u)→s.heap.objs.size < h'.objs.size→Q ad { s with heap:=h',drawn:=d,toks:=tk }):wpAny (model prog w) A (collect (.ref S)) Q E s:=by
 have O:=Aw hS;unfold collect;apply Aa;apply D7;apply BS Fc;rw[BH Fb];show wpAny _ A.in1 (newList [] >>= fun l=>again (.builtin "list.__iadd__" ⟨[l,.ref S],[]⟩)) _ _ s;apply Aa;refine BV (Ae ⟨Dm Dq _,BS F4 ?_⟩);rw[BH Dq];have M:(s.heap.push { cls:=.type "list",data:=.seq ([]:List Ac).toArray }).get? S=some o:=Ag _ hS;have ao:(s.heap.push { cls:=.type "list",data:=.seq ([]:List Ac).toArray }).get? s.heap.objs.size=some { cls:=.type "list",data:=.seq ([]:List Ac).toArray }:=Av _ rfl;have e1:Builtin.List.listSameRef (.ref s.heap.objs.size) (.ref S)=false:=by
  show(s.heap.objs.size == S)=false;simpa using CY O
 show wpAny _ A.in1 (Cc (.ref s.heap.objs.size) (.ref S) (.ref s.heap.objs.size)) _ _ _;unfold Cc;refine Aa (BM (T:="set") ⟨o,M,q⟩ ?_);rw[Ia (by rw[e1];decide)];refine Aa (aEI (A:=A.in1) hh q hd hf hb af M fun I s2 it=>?_);have J:=it.keep S o M;have ab:=it.keep _ _ ao;refine Aa (Ba ?_);unfold Builtin.List.listLengthHint;refine Aa (DP (T:="set") ⟨o,J,q⟩ F.slot_set_len.lookup ?_);generalize hid:("set.__len__":String)=am
 wp_delta
 rw[show splitId am=some ("set","__len__") from by subst hid;decide];subst hid;refine Aa (BT (b:=true) (T:="set") ⟨o,J,q⟩ sub_set_self ?_);refine Aq (by rfl) ?_;refine BG (by decide) ?_;refine Aa (BM (T:="set") ⟨o,J,q⟩ ?_);refine Ae ?_;refine BG (by decide) ?_;refine Aa (CK ?_);obtain⟨fp,P,St,W,st0,hI,hfp,hit⟩:=it.w;have Y:(s.heap.push { cls:=.type "list",data:=.seq ([]:List Ac).toArray }).objs.size=s.heap.objs.size + 1:=BY _ _;have ae:s.heap.objs.size ∉ fp:=fun hm=>by
  rcases(hfp _ hm).2 with z | z
  ·exact absurd z (CY O)
  ·dsimp only at z;rw[Y]at z;exact absurd z (Nat.not_succ_le_self _)
 apply Aa;show wpAny _ A.in1 (updateSeq s.heap.objs.size (·.push .none) >>= fun _=>updateSeq s.heap.objs.size (·.pop)) _ _ _
 apply Aa;refine Fe ab rfl ?_;have aa:=B2 (Bc (·.push Cd)) ab rfl
 refine Fe aa rfl ?_;have ap:=B2 (Bc (·.pop)) aa rfl
 have Z:∀ b u,b≠s.heap.objs.size→s2.heap.get? b=some u→((s2.heap.update s.heap.objs.size (Bc (·.push Cd))).update s.heap.objs.size (Bc (·.pop))).get? b=some u:=
  fun b u nb e=>(CJ _ _ (Ef nb)).trans ((CJ _ _ (Ef nb)).trans e)
 have ak:(es.toList.map (·.2)).length≤sizeLine:=by
  rw[Ad,Bt];exact ET hb
 refine Ae ⟨Dm F.plain_extend_loop _,codeAny_extend_loopS (FC W) ak s.heap.objs.size ae _ _ 0 _ _ _ rfl (A3 _) (W.frame 0 _ _ st0 fun b hb u e=>Z b u (fun z=>ae (z ▸ hb)) e) ap (ItemsOf.nil P) fun s' B c' hm ag U=>?_⟩;show wpAny _ A (load s.heap.objs.size >>= _) _ _ s';apply Aa;refine Gu ag (Ae ?_);obtain⟨h',g',d',tk',os'⟩:=s';have g1:=hm.gens;have g2:=hm.os;dsimp only at g1 g2;have g3:=it.gens;have g4:=it.os;rw[g3]at g1;rw[g4]at g2;dsimp only at g1 g2;subst g1 g2;refine h B.toList h' d' tk' (hit B U) (fun b u e=>?_) (Aw ag);have ac:=Aw e;have nb:b≠s.heap.objs.size:=AC ac;have nI:b≠I:=fun z=>by
  have z2:=it.new;dsimp only at z2;rw[Y,← z]at z2;exact absurd (DV ac z2) (Cz _)
 refine hm.heap b u (by simp[nb,nI]) (Z b u nb (it.keep b u (Ag _ e)))
end
theorem iV{α:Type}[DecidableEq α]:∀(L M:List α),L.Nodup→(∀ x∈L,x∈M)→M.length=L.length→M.Perm L
 | [],M,_,_,B=>by
  have:M=[]:=Ee B;rw[this]
 | x :: r,M,hn,hm,B=>by
  obtain⟨hx,hr⟩:=CF.mp hn;have q:=hm x (by simp);have J:=iV r (M.erase x) hr (fun y F=>(List.mem_erase_of_ne (show y≠x from fun z=>hx (by rw[← z];exact F))).mpr (hm y (by simp[F]))) (by rw[List.length_erase_of_mem q,B];simp);exact(List.perm_cons_erase q).trans (J.cons x)
section
variable{prog:AD}{w:AY}{A:AU}{S:Ah}{E:Ac→Af→Prop}{s:Af}
theorem aAa(hh:A.handled=none){f:Str→Bool}{n:Nat}(hS:jY prog w s.heap S f n){B:List Str}(ad:B.Nodup)(J:∀ k,f k=true↔k∈B)(hn:n=B.length)(am:n < 64){Q:Ac→Af→Prop}
  (h:∀(l:Ah) (h':Bm) (d:Drawn) (tk e:Nat) (out:Array Ac) (U:List Str),s.heap.objs.size≤l→(∀ b u,s.heap.get? b=some u→h'.get? b=some u)→h'.get? l=some (seqObj "list" out e)→Gs out.toList U→U.Perm B→sortedS U=true→Q (.ref l) { s with heap:=h',drawn:=d,toks:=tk }):
  wpAny (model prog w) A (call (.builtin "sorted") [.ref S]) Q E s:=by
 obtain⟨o,es,ep,t,ho,hex,hd,hel,hm,hb,hf,hsz,hTab⟩:=hS;refine Ew Gq F8 F9 (Hb _) ?_;unfold Builtin.«sorted»;apply Aa (m:=checkCount "sorted" 1 1 _);apply Ae;refine Aa (z9 (A:=A.in1) hh hex.1 hd hf hb hTab ho fun q h1 d tk hp F Z=>?_);have O:∀ v,v∈q→∃ x t,v=.str x t:=fun v hv=>by
  obtain⟨e,he,rfl⟩:=Bn.mp (hp.mem_iff.mp hv);obtain⟨⟨k,F,_⟩,_⟩:=hel e he;obtain⟨t,ht⟩:=E8 F;exact⟨k,t,ht⟩
 have hA:=strsAre_map q O;have af:q.length=n:=by rw[hp.length_eq,Ad,Bt];exact hsz
 have hM:(q.map strOf).Perm B:=by
  refine((hp.map strOf)).trans (iV B _ ad (fun x hx=>?_) (by rw[Ad,Ad,Bt,hsz,hn]));obtain⟨e,he,F⟩:=(hm x).mp ((J x).mpr hx);obtain⟨t,ht⟩:=E8 F;exact Bn.mpr ⟨e.2,Bn.mpr ⟨e,he,rfl⟩,by rw[ht];rfl⟩
 have ab:q.length≤sizeLine:=by rw[Fw];omega
 apply Aa;refine Dl ?_ ab;have z:(h1.push (seqObj "list" q.toArray 0)).get? h1.objs.size=some (seqObj "list" q.toArray 0):=Av _ rfl;refine Aa (Ba (B4 slot_list_sort ⟨_,z,rfl⟩ entry_list_sort (list_sort_treeK strKind_oneLt z hA.keysOf (fun v₁ v₂ cM e=>keyKind_strs (by rw[← e];exact hA)) (by omega) fun Y a1 a2=>⟨_,rfl,?_⟩) (Fy _)));obtain⟨U,b1,b2,b3⟩:=sorted_out_str hA a1 a2;refine Ae ⟨_,rfl,?_⟩;obtain⟨e,he⟩:=GG (vs:=q) (out:=(arrOf Y).map (·.2)) z
 have M:s.heap.objs.size≤h1.objs.size:=Db Z;refine h _ _ d tk e _ U M (fun b u eb=>?_) he b1 (b2.trans hM) b3;have W:=Aw (F b u eb);rw[Gw (AC W) (by rw[BY];exact Bj W)];exact Ag _ (F b u eb)
end
section
variable{X:Cx}{dt:List (Ah×Obj)}{σ:St}{H H':Hp}{s:Af}{h':Bm}
theorem Inv.laidD{a:Ah}{o:HO}{t':Nat}{d':Drawn}(I:Inv X dt σ H s)(k:∀ b u,s.heap.get? b=some u→h'.get? b=some u)(q:s.heap.objs.size≤a)(new:dA X.prog X.w (upd H a o) h' a o):
  Inv X dt σ (upd H a o) { s with heap:=h',drawn:=d',toks:=t' }:=by
 have u:Un (frs X.stack) [] H (upd H a o) s.heap h':=Un.laid k q (I.hok.fresh q);exact I.call (g':=s.gens) (d':=d') u (I.hok.laid k q new) I.bare (fun _ z=>nomatch z)
theorem uC(val:Nat→Str):∀ i,(eQ val i).Nodup
 | 0=>Gi
 | i + 1=>by
  show(i8 (eQ val i) (val i)).Nodup;have q:=uC val i;unfold i8;split
  ·exact q
  ·next hne=>
   rw[CV];exact⟨q,by simp,fun x B y z e=>hne (by rw[← (show y=val i from by simpa using z),← e];exact B)⟩
def rW(ss:List Str):List Str:=eQ (fun i=>ss.getD i "") ss.length
theorem aAb(q:List Str)(k:Str):k∈rW q↔k∈q:=by
 unfold rW;rw[t4];constructor
 ·rintro⟨j,hj,e⟩;rw[← e,Ak,Ab hj];exact Bk hj
 ·intro z;obtain⟨j,hj,e⟩:=Dp.mp z;exact⟨j,hj,by rw[Ak,Ab hj];exact e⟩
theorem oM(q:List Str):(rW q).Nodup:=uC _ _
def aEJ(P:AD)(w:AY)(a:Ah)(ss:List Str):HO:=.ext fun h=>jY P w h a (fun k=>(rW ss).any fun x=>x == k) (rW ss).length
theorem aAc{z:List Str}{its:List Ac}(F:cW (z.map V.str) its){i:Nat}{v:Ac}(J:its.toArray[i]?=some v):∃ t,v=By (z.getD i "") t:=by
 have q:=F.length;rw[Ad]at q;have B:its[i]?=some v:=by simpa using J
 have hi:i < z.length:=by
  rw[q];exact(AS.mp B).1
 have e:(z.map V.str)[i]?=some (V.str (z.getD i "")):=by
  rw[AL,Ab hi];simp[hi]
 obtain⟨u,hu,ru⟩:=F.get e;rw[B]at hu;cases hu;exact ru
theorem aDq(hc:X.calm=true):fJ X (.type "set") (fun xs H Q=>∃(p:Ah) (F:List Str),xs=[.ref p]∧(H p=some (.lst (F.map V.str))∨H p=some (.tup (F.map V.str)))∧F.length≤1000∧∀ a,H a=none→Q (.ref a) (upd H a (aEJ X.prog X.w a F))):=by
 intro dt s σ H xs us Q I r h;obtain⟨p,F,rfl,J,h1000,q⟩:=h;obtain⟨u,rfl,ru⟩:=fM r;cases ru;have fin:∀(B:List Ac),B.length=F.length→∀(h':Bm) (tk:Nat),jY X.prog X.w h' s.heap.objs.size (fun Z=>(eQ (fun i=>F.getD i "") B.toArray.size).any fun x=>x == Z) (eQ (fun i=>F.getD i "") B.toArray.size).length→
   (∀(b:Nat) (o:Obj),b < s.heap.objs.size→s.heap.get? b=some o→h'.get? b=some o)→EP X dt σ Q (AI s.heap.objs.size) { s with heap:=h',toks:=tk }:=by
  intro B hl h' tk M Y;have O:B.toArray.size=F.length:=by rw[At,hl]
  rw[O]at M;have W:∀ b u,s.heap.get? b=some u→h'.get? b=some u:=fun b u e=>Y b u (Aw e) e;have hn:H s.heap.objs.size=none:=I.hok.fresh (Ap _);refine⟨.ref s.heap.objs.size,_,I.laid (t':=tk) (o:=aEJ X.prog X.w s.heap.objs.size F) W (Ap _) ⟨M,?_,fun h1 h2 f g=>?_⟩,rfl,q _ hn⟩
  ·obtain⟨o,_,_,_,e,_⟩:=M;exact⟨o,e⟩
  ·exact f.at g
 rcases J with J | J
 ·obtain⟨B,rv,pl,_⟩:=I.list (bG J);have z:=rv.length;rw[Ad]at z;exact zX (val:=fun i=>F.getD i "") (I.ok.hd hc) pl.isList (fun i v U=>aAc rv U) (by rw[At,← z];show _ < 4096;omega) (fin B z.symm)
 ·obtain⟨B,rv,pl,_⟩:=I.tuple (bF J);have z:=rv.length;rw[Ad]at z;exact zY (val:=fun i=>F.getD i "") (I.ok.hd hc) pl (fun i v U=>aAc rv U) (by rw[At,← z];show _ < 4096;omega) (fin B z.symm)
theorem yE(hc:X.calm=true):fJ X (.builtin "sorted") (fun xs H Q=>∃(p:Ah) (z:List Str),xs=[.ref p]∧H p=some (aEJ X.prog X.w p z)∧z.length < 64∧∀(l:Ah) (B:List Str),H l=none→B.Perm (rW z)→sortedS B=true→Q (.ref l) (upd H l (.lst (B.map V.str)))):=by
 intro dt s σ H xs us Q I r h;obtain⟨p,z,rfl,hx,h64,q⟩:=h;obtain⟨u,rfl,ru⟩:=fM r;cases ru;obtain⟨hS,_,_⟩:dA X.prog X.w H s.heap p (aEJ X.prog X.w p z):=I.hok p _ hx;have Z:(rW z).length≤z.length:=nA (fun i=>z.getD i "") z.length;refine aAa (I.ok.hd hc) hS (oM z) (fun k=>by rw[pA];simp) rfl (by omega) fun l h' d tk e out B J Y O ha F M=>?_;have U:cW (B.map V.str) out.toList:=iS ha;have W:=F.length_eq;exact⟨.ref l,_,I.laidD (t':=tk) (d':=d) (o:=.lst (B.map V.str)) Y J ⟨aS (by rw[Ad];omega),out.toList,e,U,by rw[O] <;> rfl⟩,rfl,q l B (I.hok.fresh J) F M⟩
theorem pE:∀(p:Str) (l:List Str),risingS p l=true→(∀ x∈l,¬ x.cps.toList < p.cps.toList)∧l.Pairwise fun a b=>¬ b.cps.toList < a.cps.toList
 | p,[],_=>⟨fun x q=>by simp at q,Dv⟩
 | p,x :: r,h=>by
  have h':(!ltCps x.cps.toList p.cps.toList && risingS x r)=true:=h;rw[AF,ltCps_eq]at h';have q:¬ x.cps.toList < p.cps.toList:=by simpa using h'.1
  obtain⟨i1,i2⟩:=pE x r h'.2;refine⟨fun y B=>?_,Cf.mpr ⟨i1,i2⟩⟩;rcases Ao.mp B with rfl | B
  ·exact q
  ·intro z;have h1:=i1 y B;exact q (List.lt_of_le_of_lt (Do.mp h1) z)
theorem gS:∀(l:List Str),sortedS l=true→l.Pairwise fun a b=>¬ b.cps.toList < a.cps.toList
 | [],_=>Dv
 | x :: r,h=>Cf.mpr (pE x r h)
theorem nE{a b:Str}(h:a.cps.toList=b.cps.toList):a=b:=by
 cases a;cases b;congr;exact D0.mp h
theorem jO:∀{l m:List Str},l.Perm m→(l.Pairwise fun a b=>¬ b.cps.toList < a.cps.toList)→(m.Pairwise fun a b=>¬ b.cps.toList < a.cps.toList)→l=m
 | [],m,h,_,_=>(Ev h.symm).symm
 | x :: r,[],h,_,_=>by simpa using h.length_eq
 | x :: r,y :: q,h,h1,h2=>by
  obtain⟨a1,a2⟩:=Cf.mp h1;obtain⟨b1,b2⟩:=Cf.mp h2;have e:x=y:=by
   rcases Ao.mp (h.mem_iff.mp (AG (a:=x) (l:=r)))with e | hx
   ·exact e
   ·rcases Ao.mp (h.mem_iff.mpr (AG (a:=y) (l:=q)))with e | hy
    ·exact e.symm
    ·exact nE (EN (Do.mp (a1 y hy)) (Do.mp (b1 x hx)))
  subst e;rw[jO ((E4 x).mp h) a2 b2]
end
def dH{α:Type}(o:Nat→Nat→Bool):Hh α→α
 | .ret a=>a
 | .ask i j k=>dH o (k (o i j))
def uD:Nat→List Nat→List (List Nat)
 | 0,_=>[[]]
 | f + 1,l=>l.flatMap fun x=>(uD f (l.erase x)).map (x :: ·)
theorem uE:∀(q l:List Nat),q.Perm l→q∈uD q.length l
 | [],l,_=>by simp[uD]
 | x :: r,l,h=>by
  have z:x∈l:=h.mem_iff.mp (by simp);have B:r.Perm (l.erase x):=by
   have:=h.trans (List.perm_cons_erase z);exact(E4 x).mp this
  show x :: r∈l.flatMap _;exact List.mem_flatMap.mpr ⟨x,z,Bn.mpr ⟨r,uE r _ B,rfl⟩⟩
def kF(n:Nat):Bool:=(uD n (AO n)).all fun π=>(dH (fun i j=>decide (π.getD i 0 < π.getD j 0)) (B3 n)).toList.map (fun i=>π.getD i 0) == AO n
theorem aHT:kF 2=true:=by decide
theorem aHU:kF 3=true:=by decide
theorem aHV:kF 4=true:=by decide
theorem aHW:kF 5=true:=by decide
theorem aHX:kF 6=true:=by decide
theorem lU{α:Type}{n:Nat}{P:α→Prop}{o o':Nat→Nat→Bool}(h:∀ i j,i < n→j < n→o i j=o' i j):∀{t:Hh α},gW n P t→dH o t=dH o' t
 | .ret a,_=>rfl
 | .ask i j k,z=>by
  show dH o (k (o i j))=dH o' (k (o' i j));rw[h i j z.1 z.2.1];exact lU h (z.2.2 _)
theorem gW.run{α:Type}{n:Nat}{P:α→Prop}(o:Nat→Nat→Bool):∀{t:Hh α},gW n P t→P (dH o t)
 | .ret a,h=>h
 | .ask i j k,h=>by
  show P (dH o (k (o i j)));exact gW.run o (h.2.2 (o i j))
theorem gW.wpO{α:Type}{n:Nat}{P:α→Prop}{z:Nat→Nat→(Bool→Af→Prop)→Af→Prop}{Q:α→Af→Prop}{s:Af}{o:Nat→Nat→Bool}(hc:∀ i j C,i < n→j < n→C (o i j) s→z i j C s):∀{t:Hh α},gW n P t→Q (dH o t) s→t.kasWp z Q s
 | .ret a,_,q=>by rw[KasT.kasWp.eq_1];exact q
 | .ask i j k,h,q=>by
  rw[KasT.kasWp.eq_2];exact hc i j _ h.1 h.2.1 (gW.wpO hc (h.2.2 _) q)
abbrev P3:=Str×Str×Int
def yF(x y:P3):Bool:=if x.1 == y.1 then(if x.2.1 == y.2.1 then(if x.2.2 == y.2.2 then false else decide (x.2.2 < y.2.2)) else decide (x.2.1.cps.toList < y.2.1.cps.toList)) else decide (x.1.cps.toList < y.1.cps.toList)
inductive aCk(h:Bm)(v:Ac)(x:P3):Prop
 | mk (t:_) (u1:_) (u2:_) (u3:_) (q0:v=.ref t) (q1:E2 h t #[.str x.1 u1,.str x.2.1 u2,.int x.2.2 u3]):aCk h v x
def oA(h:Bm)(v:Ac)(x:P3):Prop:=aCk h v x
section
variable{prog:AD}{w:AY}{A:AU}{E:Ac→Af→Prop}{s:Af}
theorem yG{a b:Int}{t u:Tok}{Q:Bool→Af→Prop}(h:Q (decide (a < b)) s):wpAny (model prog w) A (oneLt' false (Cg a t) (Cg b u)) Q E s:=by
 rw[oneLt'_eq];show wpAny _ _ (compareOp .Lt (Cg a t) (Cg b u) >>= _) _ _ _;apply Aa;refine lt_int ?_
 wp_walk
 exact h
theorem yH{a b:Str}{t u:Tok}{Q:Bool→Af→Prop}(h:Q (decide (a.cps.toList < b.cps.toList)) s):wpAny (model prog w) A (oneLt' false (By a t) (By b u)) Q E s:=by
 rw[oneLt'_eq];show wpAny _ _ (compareOp .Lt (By a t) (By b u) >>= _) _ _ _;apply Aa;refine lt_str ?_
 wp_walk
 exact h
theorem ltP{z:Bool}{W Y:Ac}{x y:P3}{C:Bool→Af→Prop}(J:oA s.heap W x)(M:oA s.heap Y y)(h:C (yF x y) s):wpAny (model prog w) A (keyLt' (tuples' z) W Y) C E s:=by
 obtain⟨a1,b1,c1⟩:=x;obtain⟨a2,b2,c2⟩:=y;obtain⟨p1,t1,t2,t3,rfl,J⟩:=J;obtain⟨p2,u1,u2,u3,rfl,M⟩:=M;dsimp only at J M;unfold yF at h;dsimp only at h;show wpAny _ _ (C0 (.ref p1) >>= _) _ _ _;refine Aa (gZ J ?_);refine Aa (gZ M ?_);dsimp only[DG,FQ,EA];rw[List.zipIdx_nil];have Z:∀{Q:Bool→Af→Prop} {a b:Int} {t u:Tok},Q (a == b) s→wpAny (model prog w) A (eqBool (.int a t) (.int b u)) Q E s:=fun{Q a b t u} q=>p5 (y:=.int a) (x:=.int b) ⟨t,rfl⟩ ⟨u,rfl⟩ rfl rfl prog w _ _ q;have U:∀{Q:Bool→Af→Prop} {a b:Str} {t u:Tok},Q (a == b) s→wpAny (model prog w) A (eqBool (.str a t) (.str b u)) Q E s:=fun{Q a b t u} q=>EY a t b u prog w _ _ q;refine Aa ?_;rw[CT];refine Aa (Aa (U ?_));cases hz:(a1 == a2)with
 | false=>
  rw[hz]at h;refine BG (by decide) ?_;refine Aa ?_;show wpAny _ _ (oneLt' (z && 0 == 0) (By a1 t1) (By a2 u1)) _ _ _;cases z
  ·exact yH (Ae (Ae (Ae h)))
  ·exact oneLt_str (Ae (Ae (Ae h)))
 | true=>
  rw[hz,Ib rfl]at h;refine Aq (by decide) (Ae ?_);dsimp only;rw[CT];refine Aa (Aa (U ?_));cases B:(b1 == b2)with
  | false=>
   rw[B]at h;refine BG (by decide) ?_;refine Aa ?_;have O:(z && ((0 + 1:Nat) == 0))=false:=by cases z <;> rfl
   show wpAny _ _ (oneLt' (z && (0 + 1 == 0)) (By b1 t2) (By b2 u2)) _ _ _;rw[O];exact yH (Ae (Ae (Ae h)))
  | true=>
   rw[B,Ib rfl]at h;refine Aq (by decide) (Ae ?_);dsimp only;rw[CT];refine Aa (Aa (Z ?_));cases F:(c1 == c2)with
   | false=>
    rw[F]at h;refine BG (by decide) ?_;refine Aa ?_;have O:(z && ((0 + 1 + 1:Nat) == 0))=false:=by cases z <;> rfl
    show wpAny _ _ (oneLt' (z && (0 + 1 + 1 == 0)) (Cg c1 t3) (Cg c2 u3)) _ _ _;rw[O];exact yG (Ae (Ae (Ae h)))
   | true=>
    rw[F,Ib rfl]at h;refine Aq (by decide) (Ae ?_);dsimp only;rw[Gj];exact Ae (Ae h)
end
def g8(ps:List P3):List Nat:=(dH (fun i j=>yF (ps.getD i ("","",0)) (ps.getD j ("","",0))) (B3 ps.length)).toList
theorem kG(ps:List P3)(h:0 < ps.length):(g8 ps).Perm (AO ps.length):=by
 have:=gW.run (fun i j=>yF (ps.getD i ("","",0)) (ps.getD j ("","",0))) (fX h);exact Bb.mp this
section
variable{prog:AD}{w:AY}{A:AU}{E:Ac→Af→Prop}{s:Af}
theorem aI1{ks:List Ac}{Q:Dk→Af→Prop}(W:∀ v∈ks,∃ x,oA s.heap v x)(h:∀ b,Q (tuples' b) s):wpAny (model prog w) A (keyKind' ks.toArray) Q E s:=by
 rw[keyKind'_eq,Cp];refine Aa ?_;rw[← bind_pure_comp];refine Aa (i9 (R:=fun _ r=>∃ a u,r=some (By a u)) ks (fun v F=>?_) fun rs hl B=>Ae ?_)
 ·obtain⟨x,t,u1,u2,u3,rfl,ht⟩:=W v F;refine⟨some (.str x.1 u1),⟨x.1,u1,rfl⟩,fun O q=>?_⟩;rw[G9];refine Aa (BM ht.typeIs ?_);refine Aq (by decide) ?_;refine Aa (gZ ht ?_);exact Ae q
 ·have z:(rs.toArray.all fun x=>x.isSome)=true:=by
   rw[FW,Be];intro r U;obtain⟨v,_,a,u,rfl⟩:=B r U;rfl
  refine BG (by rw[z];rfl) ?_;refine Aa (CK ?_);rw[oneTypeOnly'_eq,Cp]
  iterate 2 refine Aa ?_
  rw[← bind_pure_comp];refine Aa (i9 (R:=fun _ r=>r=AB "str") _ (fun v F=>?_) fun ts Z Y=>Ae ?_)
  ·have J:some v∈rs:=by simpa using F
   obtain⟨_,_,a,u,e⟩:=B _ J;cases e;exact⟨_,rfl,fun O q=>BM (FX s a u) q⟩
  ·cases M:ts.toArray[0]? with
   | none=>exact Ae (Ae (h _))
   | some t=>exact Ae (Ae (h _))
theorem aI2{b:Bool}{vs:List Ac}{ps:List P3}{Q:Unit×Bo→Af→Prop}(hl:vs.length=ps.length)(h2:2≤vs.length)(J:vs.length < 64)(M:∀ i,i < vs.length→oA s.heap (vs.getD i .none) (ps.getD i ("","",0)))
  (h:∀ st:Bo,(arrOf st).map (·.2)=((g8 ps).map fun i=>vs.getD i .none).toArray→failedOf st=none→Q ((),st) s):wpAny (model prog w) A (sortRuns'.run (Di (tuples' b) (vs.toArray.zip vs.toArray) #[] 7 none)) Q E s:=by
 have hz:(vs.toArray.zip vs.toArray).size=vs.length:=by simp
 have B:=kas_runs (prog:=prog) (w:=w) (A:=A) (E:=E) (κ:=tuples' b) (it:=vs.toArray.zip vs.toArray) (n:=vs.length) (s:=s) (Q:=fun u st s'=>s'=s∧Q (u,st) s) (G:=fun p s'=>p.toList=g8 ps∧s'=s) h2 J (fun p' F s' aa ha Z Y=>?_)
  (gW.wpO (n:=vs.length) (P:=Pm vs.length) (o:=fun i j=>yF (ps.getD i ("","",0)) (ps.getD j ("","",0))) (fun i j C hi U O=>?_) (fX (by omega)) ⟨by unfold g8;rw[hl],rfl⟩)
 ·have W:GZ (tuples' b) (vs.toArray.zip vs.toArray) (AO vs.length).toArray=Di (tuples' b) (vs.toArray.zip vs.toArray) #[] 7 none:=by
   unfold GZ;have:=kas_range (vs.toArray.zip vs.toArray);rw[hz]at this;rw[this]
  rw[W]at B;exact B8 B (fun r s' z=>by
   obtain⟨rfl,q⟩:=z;exact q) fun e s' z=>z
 ·obtain⟨hp,rfl⟩:=Y;refine⟨rfl,h F ?_ Z⟩;rw[ha];apply D0.mp;rw[Gp,DZ,hp];show _=(g8 ps).map _;refine C2 fun i _=>?_;show(EI (pairsOf vs) i).2=_;rw[ES]
 ·unfold kas_cmp;show wpAny _ _ (keyLt' _ (EI (pairsOf vs) i).1 (EI (pairsOf vs) j).1) _ _ _;rw[ES,ES];exact ltP (M i hi) (M j U) O
theorem oA.keep{h h':Bm}{v:Ac}{x:P3}(p:oA h v x)(k:∀ b o,h.get? b=some o→o.cls=.type "tuple"→h'.get? b=some o):oA h' v x:=by
 obtain⟨t,u1,u2,u3,e,o,ho,hc,r⟩:=p;exact⟨t,u1,u2,u3,e,o,k t o ho hc,hc,r⟩
theorem aBn{a:Ah}{vs:List Ac}{ps:List P3}{n:Nat}{P:FH→Af→Prop}(W:s.heap.get? a=some (seqObj "list" vs.toArray n))(hl:vs.length=ps.length)(h2:2≤vs.length)(Z:vs.length < 64)(hk:∀ i,i < vs.length→oA s.heap (vs.getD i .none) (ps.getD i ("","",0)))
  (h:∀(h':Bm) (e:Nat),(∀ b u,b≠a→s.heap.get? b=some u→h'.get? b=some u)→h'.get? a=some (seqObj "list" ((g8 ps).map fun i=>vs.getD i .none).toArray e)→P (.done (.ret .none)) { s with heap:=h' }):
  wpAny (model prog w) A (Builtin.«list.sort» ⟨[.ref a],[]⟩) P E s:=by
 have Y:∀ m,m≤vs.length→m≤sizeLine:=fun m hm=>aS (by omega);rw[Gr];refine Aa (D8 W rfl ?_);refine Aa (Co W rfl ?_ (by rw[At];exact Y _ (Ap _)) (A3 _));have B:=get?_update_seq W (fun _=>#[]);generalize (if ((#[]:Array Ac).size == vs.toArray.size)=true then n else n + 1)=e1 at B;have J:∀ b u,b≠a→s.heap.get? b=some u→(s.heap.update a (Bc fun _=>#[])).get? b=some u:=fun b u nb e=>by
  rw[Bp _ _ _ _ nb];exact e
 dsimp only;generalize s.heap.update a (Bc fun _=>#[])=h1 at B J ⊢;refine Aa (Dy B rfl ?_);refine Aa (EH ?_ (by simpa using Y _ (Ap _)));refine Aa (Dl ?_ (A3 _));refine Ba ?_;have F:((h1.push { cls:=AB "tuple",data:=Ci vs.toArray.toList.toArray }).push { cls:=AB "list",data:=Ci ([]:List Ac).toArray }).get? a=some (seqObj "list" #[] e1):=Ag _ (Ag _ B);have q:∀ b u,b≠a→s.heap.get? b=some u→((h1.push { cls:=AB "tuple",data:=Ci vs.toArray.toList.toArray }).push { cls:=AB "list",data:=Ci ([]:List Ac).toArray }).get? b=some u:=fun b u nb e=>Ag _ (Ag _ (J b u nb e));dsimp only;generalize (h1.push { cls:=AB "tuple",data:=Ci vs.toArray.toList.toArray }).push { cls:=AB "list",data:=Ci ([]:List Ac).toArray }=h3 at F q ⊢;have M:∀ i,i < vs.length→oA h3 (vs.getD i .none) (ps.getD i ("","",0)):=fun i hi=>(hk i hi).keep fun b o e hc=>q b o (fun z=>by
  rw[z,W]at e;cases e;have ab:(AB "list")=AB "tuple":=hc;injection ab with z2;exact absurd z2 (by decide)) e
 have U:¬ vs.toArray.size < 2:=by simpa using Nat.not_lt.mpr h2
 rw[Ia U,Ia U];refine Aa (aI1 (fun v hv=>?_) fun b=>?_)
 ·obtain⟨i,hi,rfl⟩:=Dp.mp hv;have:=M i hi;rw[Ak,Ab hi]at this;exact⟨_,this⟩
 ·refine Aa (aI2 hl h2 Z M fun st O hf=>?_);dsimp only;refine Aa (Dy F rfl ?_);have ac:((g8 ps).map fun i=>vs.getD i .none).length=vs.length:=by rw[Ad,(kG ps (by omega)).length_eq,BR,hl]
  refine Aa (Co F rfl ?_ (A3 _) (by show((arrOf st).map (·.2)).size≤_;rw[O,At,ac];exact FM (Y _ (Ap _))))
  rw[hf];refine Aq (by simp) ?_;obtain⟨e3,gA3⟩:∃ e3,(h3.update a (Bc fun _=>(arrOf st).map (·.2))).get? a=some (seqObj "list" ((arrOf st).map (·.2)) e3):=⟨_,get?_update_seq F (fun _=>(arrOf st).map (·.2))⟩
  refine Ae (h _ e3 (fun b u nb e=>?_) (by rw[← O];exact gA3));rw[Bp _ _ _ _ nb];exact q b u nb e
end
section
variable{prog:AD}{w:AY}{A:AU}{E:Ac→Af→Prop}{s:Af}
theorem aAd{p:Ah}{its:List Ac}{Q:List Ac→Af→Prop}(F:E2 s.heap p its.toArray)(J:its.length≤sizeLine)
  (h:∀ h1:Bm,(∀ b u,s.heap.get? b=some u→h1.get? b=some u)→s.heap.objs.size≤h1.objs.size→Q its { s with heap:=h1 }):wpAny (model prog w) A (collect (.ref p)) Q E s:=by
 obtain⟨o,ho,hc,n,hd⟩:=F;unfold collect;apply Aa;apply D7;apply BS Fc;rw[BH Fb];show wpAny _ A.in1 (newList [] >>= fun l=>again (.builtin "list.__iadd__" ⟨[l,.ref p],[]⟩)) _ _ s;apply Aa;refine BV (Ae ⟨Dm Dq _,BS F4 ?_⟩);rw[BH Dq];have z:(s.heap.push (seqObj "list" #[] 0)).get? p=some o:=Ag _ ho;have q:(s.heap.push (seqObj "list" #[] 0)).get? s.heap.objs.size=some (seqObj "list" #[] 0):=Av _ rfl;show wpAny _ A.in1 (Cc (.ref s.heap.objs.size) (.ref p) (.ref s.heap.objs.size)) _ _ { s with heap:=s.heap.push (seqObj "list" #[] 0) };unfold Cc;refine Aa (BM (T:="tuple") ⟨o,z,hc⟩ ?_);rw[Ib (by simp)];apply Aa;refine D8 z hd ?_;apply Aa;refine D8 q rfl ?_;rw[Ia (by simp)];refine Aa (Co q rfl ?_ (A3 _) (by show(#[] ++ its.toArray).size≤sizeLine + 1;simp only[Array.size_append,At,DB];omega));apply Ae;have B:=get?_update_seq q (· ++ its.toArray)
 show wpAny (model prog w) A (load s.heap.objs.size >>= _) Q E _;refine Aa (Gu B ?_);show wpAny _ _ (pure ((#[]:Array Ac) ++ its.toArray).toList) Q E _;rw[show((#[]:Array Ac) ++ its.toArray).toList=its by simp];refine Ae (h _ (fun b u e=>?_) (Db (Aw B)));rw[Bp _ _ _ _ (AC (Aw e))];exact Ag _ e
theorem uF{p:Ah}{its:List Ac}{Q:Ac→Af→Prop}(F:E2 s.heap p its.toArray)(J:its.length < 64)
  (h:∀(h1:Bm),(∀ b u,s.heap.get? b=some u→h1.get? b=some u)→s.heap.objs.size≤h1.objs.size→wpAny (model prog w) A.in1.in1 (Builtin.«list.sort» ⟨[.ref h1.objs.size],[]⟩) (fun fin s'=>fin=.done (.ret .none)∧Q (.ref h1.objs.size) s') E { s with heap:=h1.push (seqObj "list" its.toArray 0) }):
  wpAny (model prog w) A (call (.builtin "sorted") [.ref p]) Q E s:=by
 have B:its.length≤sizeLine:=aS (by omega);refine Ew Gq F8 F9 (Hb _) ?_;unfold Builtin.«sorted»;apply Aa (m:=checkCount "sorted" 1 1 _);apply Ae;refine Aa (aAd F B fun h1 M O=>?_);apply Aa;refine Dl ?_ B;have q:(h1.push (seqObj "list" its.toArray 0)).get? h1.objs.size=some (seqObj "list" its.toArray 0):=Av _ rfl;refine Aa (Ba (B4 slot_list_sort ⟨_,q,rfl⟩ entry_list_sort (B8 (h h1 M O) (fun fin s' z=>⟨.none,z.1,?_⟩) fun _ _ e=>e) (Fy _)));exact Ae ⟨_,rfl,z.2⟩
end
section
variable{X:Cx}
inductive jP(xs:List V)(H:Hp)(Q:VK):Prop
 | mk (p:Ah) (ns:List Str) (q0:xs=[.ref p]) (q1:H p=some (.tup (ns.map V.str))) (q2:ns.length < 64) (q3:∀(l:Ah) (ms:List Str),H l=none→ms.Perm ns→sortedS ms=true→Q (.ref l) (upd H l (.lst (ms.map V.str)))):jP xs H Q
def rX:List V→Hp→VK→Prop:=fun xs H Q=>jP xs H Q
theorem vT:fJ X (.builtin "sorted") rX:=by
 intro dt s σ H xs us Q I r h;obtain⟨p,ns,rfl,hx,h64,q⟩:=h;obtain⟨u,rfl,ru⟩:=fM r;cases ru;obtain⟨its,rv,ht,_⟩:=I.tuple (bF hx);have hi:Gs its ns:=lQ rv;have B:=rv.length;rw[Ad]at B;refine uF ht (by omega) fun h1 U M=>?_;have F:(h1.push (seqObj "list" its.toArray 0)).get? h1.objs.size=some (seqObj "list" its.toArray 0):=Av _ rfl;refine list_sort_treeK strKind_oneLt F hi.keysOf (fun Y Z cM e=>keyKind_strs (by rw[← e];exact hi)) (by omega) fun z a1 a2=>⟨rfl,?_⟩
 obtain⟨ms,b1,b2,b3⟩:=sorted_out_str hi a1 a2;obtain⟨e,he⟩:=GG (vs:=its) (out:=(arrOf z).map (·.2)) F
 have W:=b2.length_eq;refine⟨.ref h1.objs.size,_,I.laid (t':=s.toks) (o:=.lst (ms.map V.str)) (fun b u O=>?_) M ⟨aS (by rw[Ad];omega),((arrOf z).map (·.2)).toList,e,iS b1,by rw[he] <;> rfl⟩,rfl,q _ ms (I.hok.fresh M) b2 b3⟩
 have J:=Aw (U b u O);rw[Gw (AC J) (by rw[BY];exact Bj J)];exact Ag _ (U b u O)
inductive aCl(H:Hp)(v:V)(x:P3):Prop
 | mk (t:_) (q0:v=.ref t) (q1:H t=some (.tup [.str x.1,.str x.2.1,.int x.2.2])):aCl H v x
def wO(H:Hp)(v:V)(x:P3):Prop:=aCl H v x
theorem wO.real{dt:List (Ah×Obj)}{σ:St}{H:Hp}{s:Af}{v:V}{u:Ac}{x:P3}(I:Inv X dt σ H s)(h:wO H v x)(r:c4 v u):oA s.heap u x:=by
 obtain⟨t,rfl,ht⟩:=h;cases r;obtain⟨_,its,q,hT⟩:dA X.prog X.w H s.heap t (.tup [.str x.1,.str x.2.1,.int x.2.2]):=I.hok _ _ ht;cases q with
 | cons F q=>
  cases q with
  | cons z q=>
   cases q with
   | cons B q=>
    cases q;obtain⟨u1,e1⟩:=F;obtain⟨u2,e2⟩:=z;obtain⟨u3,e3⟩:=B;subst e1 e2 e3;exact⟨t,u1,u2,u3,rfl,hT⟩
theorem nG{vs:List V}{its:List Ac}(r:cW vs its):∀(q:List Nat),(∀ i∈q,i < vs.length)→cW (q.map fun i=>vs.getD i .non) (q.map fun i=>its.getD i .none)
 | [],_=>.nil
 | i :: q,h=>by
  have hi:=h i (by simp);obtain⟨u,hu,ru⟩:=r.get (Ab hi);refine .cons ?_ (nG r q fun j z=>h j (by simp[z]));show c4 (vs.getD i .non) (its.getD i .none);rw[Ak,Ak,Ab hi,hu];exact ru
inductive kH(xs:List V)(H:Hp)(Q:VK):Prop
 | mk (p:Ah) (vs:List V) (ps:List P3) (q0:xs=[.ref p]) (q1:H p=some (.tup vs)) (q2:vs.length=ps.length) (q3:2≤vs.length) (q4:vs.length < 64) (q5:(∀ i,i < vs.length→wO H (vs.getD i .non) (ps.getD i ("","",0)))) (q6:∀(l:Ah),H l=none→Q (.ref l) (upd H l (.lst ((g8 ps).map fun i=>vs.getD i .non)))):kH xs H Q
def uG:List V→Hp→VK→Prop:=fun xs H Q=>kH xs H Q
theorem yI:fJ X (.builtin "sorted") uG:=by
 intro dt s σ H xs us Q I r h;obtain⟨p,vs,ps,rfl,hx,hl,h2,h64,hk,q⟩:=h;obtain⟨u,rfl,ru⟩:=fM r;cases ru;obtain⟨its,rv,ht,_⟩:=I.tuple (bF hx);have Y:=rv.length;refine uF ht (by omega) fun h1 J W=>?_;have O:(h1.push (seqObj "list" its.toArray 0)).get? h1.objs.size=some (seqObj "list" its.toArray 0):=Av _ rfl;have F:∀ b u,s.heap.get? b=some u→(h1.push (seqObj "list" its.toArray 0)).get? b=some u:=fun b u e=>Ag _ (J b u e);have B:=kG ps (by omega);have aa:(g8 ps).length=ps.length:=by rw[B.length_eq,BR]
 refine aBn (ps:=ps) O (by omega) (by omega) (by omega) (fun i hi=>?_) fun h' e U Z=>⟨rfl,?_⟩
 ·have z:i < vs.length:=by omega
  obtain⟨u,hu,ru⟩:=rv.get (Ab z);have:=hk i z;rw[Ak,Ab z]at this;rw[Ak,hu];exact(wO.real I this ru).keep fun b o M _=>F b o M
 ·refine⟨.ref h1.objs.size,_,I.laid (t':=s.toks) (o:=.lst ((g8 ps).map fun i=>vs.getD i .non)) (fun b u M=>U b u (AC (Aw (J b u M))) (F b u M)) W ⟨aS (by rw[Ad];omega),(g8 ps).map fun i=>its.getD i .none,e,nG rv _ (fun i hi=>?_),Z⟩,rfl,q _ (I.hok.fresh W)⟩;have:=B.mem_iff.mp hi;rw[BF]at this;omega
end
def wP(R:List P3):Prop:=R.Pairwise fun a b=>a.1.cps.toList < b.1.cps.toList
theorem aBo{R:List P3}(h:wP R):R.Nodup:=h.imp fun{a b} z e=>by
 subst e;exact CM _ z
theorem aGb{R:List P3}(h:wP R){a b:P3}(ha:a∈R)(O:b∈R):yF a b=decide (R.idxOf a < R.idxOf b):=by
 have ia:=Ep ha;have ib:=Ep O;have F:R[R.idxOf a]=a:=Fr ia;have J:R[R.idxOf b]=b:=Fr ib;have M:=Cq.mp h;rcases FJ (R.idxOf a) (R.idxOf b)with z | z | z
 ·have q:=M _ _ ia ib z;rw[F,J]at q;have B:(a.1 == b.1)=false:=by
   rw[beq_eq_false_iff_ne];intro e;rw[e]at q;exact CM _ q
  unfold yF;rw[B,Ic z];exact Ic q
 ·have e:a=b:=by rw[← F,← J];simp[z]
  subst e;unfold yF;simp
 ·have q:=M _ _ ib ia z;rw[F,J]at q;have B:(a.1 == b.1)=false:=by
   rw[beq_eq_false_iff_ne];intro e;rw[e]at q;exact CM _ q
  unfold yF;rw[B,decide_eq_false (show¬ (R.idxOf a < R.idxOf b) by omega)];exact decide_eq_false fun y=>CM _ (EF q y)
theorem aDr{n:Nat}(h2:2≤n)(q:n≤6):kF n=true:=by
 have:n=2∨n=3∨n=4∨n=5∨n=6:=by omega
 rcases this with rfl | rfl | rfl | rfl | rfl
 ·exact aHT
 ·exact aHU
 ·exact aHV
 ·exact aHW
 ·exact aHX
theorem aDs{R:List P3}(h:R.Nodup):R.map (fun x=>R.idxOf x)=AO R.length:=by
 apply FU
 ·simp
 ·intro i h1 h2;have q:i < R.length:=by simpa using h1
  simp only[C5,List.getElem_range];exact h.idxOf_getElem i q
theorem aAe{T R:List P3}(W:T.Perm R)(hR:wP R)(h2:2≤T.length)(h6:T.length≤6)(d:P3):(g8 T).map (fun i=>T.getD i d)=R:=by
 have Z:=W.length_eq;have hn:=aBo hR;obtain⟨π,hπ⟩:∃ π,π=T.map (fun x=>R.idxOf x):=⟨_,rfl⟩
 have U:π.Perm (AO T.length):=by
  rw[hπ,Z,← aDs hn];exact W.map _
 have O:π.length=T.length:=by rw[hπ,Ad]
 have F:π∈uD T.length (AO T.length):=by
  have:=uE π _ U;rw[O]at this;exact this
 have z:∀ i,i < T.length→π.getD i 0=R.idxOf (T.getD i ("","",0)):=fun i hi=>by
  rw[hπ,Ak,Ak,AL,Ab hi];rfl
 have B:∀ i,i < T.length→T.getD i ("","",0)∈R:=fun i hi=>by
  rw[Ak,Ab hi];exact W.mem_iff.mp (Bk hi)
 have hk:g8 T=(dH (fun i j=>decide (π.getD i 0 < π.getD j 0)) (B3 T.length)).toList:=by
  unfold g8;congr 1;refine lU (n:=T.length) (P:=Pm T.length) (fun i j hi J=>?_) (fX (by omega));rw[z i hi,z j J];exact aGb hR (B i hi) (B j J)
 have hs:=Be.mp (aDr h2 h6) π F;have M:=eq_of_beq hs;rw[← hk]at M;have Y:(g8 T).length=T.length:=by rw[(kG T (by omega)).length_eq,BR]
 apply FU
 ·rw[Ad,Y,Z]
 ·intro j h1 ab;have J:j < (g8 T).length:=by simpa using h1
  have e:((g8 T).map (fun i=>π.getD i 0))[j]?=(AO T.length)[j]?:=by rw[M]
  rw[AL,Ab J,C3 (by omega)]at e;have e':π.getD (g8 T)[j] 0=j:=by simpa using e
  have q:(g8 T)[j] < T.length:=by
   have:=(kG T (by omega)).mem_iff.mp (Bk J)
   rwa [BF]at this
  rw[z _ q]at e';rw[C5];have hm:=B _ q;have hd:T.getD (g8 T)[j] d=T.getD (g8 T)[j] ("","",0):=by
   rw[Ak,Ak,Ab q];rfl
  rw[hd];have:=Fr (Ep hm);rw[← this];congr 1
section
variable{n:Nat}{π:Nat→Nat}
abbrev Kp(π:Nat→Nat)(p:Array Nat)(j:Nat):Nat:=π (p.getD j 0)
abbrev ord(π:Nat→Nat):Nat→Nat→Bool:=fun i j=>decide (π i < π j)
def KS(π:Nat→Nat)(p:Array Nat)(k:Nat):Prop:=∀ i j,i < j→j < k→Kp π p i < Kp π p j
theorem iX{α β:Type}(o:Nat→Nat→Bool)(f:α→Hh β):∀ t:Hh α,dH o (t.bind f)=dH o (f (dH o t))
 | .ret a=>by rw[KasT.bind.eq_1];rfl
 | .ask i j k=>by
  rw[KasT.bind.eq_2];show dH o ((k (o i j)).bind f)=_;rw[iX o f (k (o i j))];rfl
theorem kI{α:Type}(o:Nat→Nat→Bool)(i j:Nat)(k:Bool→Hh α):dH o (.ask i j k)=dH o (k (o i j)):=rfl
theorem kJ{p:Array Nat}{j v:Nat}(h:p[j]?=some v):p.getD j 0=v:=by rw[BB,h];rfl
theorem Pm.size{p:Array Nat}(h:Pm n p):p.size=n:=by rw[h.size_eq];simp
theorem Pm.ne{p:Array Nat}(h:Pm n p){i j:Nat}(hi:i < n)(F:j < n)(q:i≠j):p.getD i 0≠p.getD j 0:=by
 have hz:=h.size;have z:p.toList.Nodup:=(Bb.mp h).nodup_iff.mpr (by simpa using List.nodup_range);rw[kJ (A4 (by omega)),kJ (A4 (by omega))];intro e;have B:p.toList[i]'(by simpa using(by omega:i < p.size))=p.toList[j]'(by simpa using(by omega:j < p.size)):=by simpa using e
 exact q ((D5 z).mp B)
variable(hn:0 < n)(hπ:∀ i j,i < n→j < n→π i=π j→i=j)
include hn hπ
theorem aEK{p:Array Nat}(h:Pm n p){i j:Nat}(hi:i < n)(z:j < n)(q:i≠j):Kp π p i≠Kp π p j:=fun e=>h.ne hi z q (hπ _ _ (h.lt hn i) (h.lt hn j) e)
theorem aCm{p:Array Nat}(h:Pm n p){k:Nat}(O:1≤k)(z:k < n)(B:KS π p k)(M:¬ Kp π p k < Kp π p (k - 1)):KS π p (k + 1):=by
 intro i j q J;by_cases e:j=k
 ·subst e;have h1:Kp π p (j - 1) < Kp π p j:=by
   have:=aEK hn hπ h (i:=j - 1) (j:=j) (by omega) z (by omega);omega
  by_cases F:i=j - 1
  ·rw[F];exact h1
  ·exact DV (B i (j - 1) (by omega) (by omega)) h1
 ·exact B i j q (by omega)
theorem sE{p:Array Nat}(h:Pm n p):∀(f x:Nat),1≤x→x + f≤n→KS π p x→x≤dH (ord π) (kas_asc p f x)∧dH (ord π) (kas_asc p f x)≤x + f∧KS π p (dH (ord π) (kas_asc p f x))
 | 0,x,h1,h2,q=>by
  rw[kas_asc.eq_1];exact⟨Ap _,by show x≤x + 0;omega,q⟩
 | f + 1,x,h1,h2,q=>by
  rw[kas_asc.eq_2,kI];by_cases z:Kp π p x < Kp π p (x - 1)
  ·rw[show ord π (p.getD x 0) (p.getD (x - 1) 0)=true from Ic z];show x≤dH (ord π) (.ret x)∧_;exact⟨Ap _,by show x≤x + (f + 1);omega,q⟩
  ·rw[show ord π (p.getD x 0) (p.getD (x - 1) 0)=false from decide_eq_false z];have B:=sE h f (x + 1) (by omega) (by omega) (aCm hn hπ h h1 (by omega) q z);show x≤dH (ord π) (kas_asc p f (x + 1))∧dH (ord π) (kas_asc p f (x + 1))≤x + (f + 1)∧KS π p (dH (ord π) (kas_asc p f (x + 1)));exact⟨by omega,by omega,B.2.2⟩
def KF(π:Nat→Nat)(p:Array Nat)(k:Nat):Prop:=∀ j,1≤j→j < k→Kp π p j < Kp π p (j - 1)
omit hn hπ in
theorem aEL{p:Array Nat}{k:Nat}(h:KF π p k):∀(d i:Nat),i + d + 1 < k→Kp π p (i + d + 1) < Kp π p i
 | 0,i,q=>h (i + 0 + 1) (by omega) q
 | d + 1,i,q=>by
  have h1:=aEL h d i (by omega);have h2:=h (i + (d + 1) + 1) (by omega) q;have e:i + (d + 1) + 1 - 1=i + d + 1:=by omega
  rw[e]at h2;exact DV h2 h1
theorem aAf{p:Array Nat}(h:Pm n p):∀(f x:Nat),1≤x→x + f≤n→KF π p x→∃ m,dH (ord π) (kas_desc f p x 0)=(p,m,0)∧x≤m∧m≤x + f∧KF π p m
 | 0,x,h1,h2,q=>by
  rw[kas_desc.eq_1];exact⟨x,rfl,Ap _,by omega,q⟩
 | f + 1,x,h1,h2,q=>by
  rw[kas_desc.eq_2,kI];by_cases B:Kp π p x < Kp π p (x - 1)
  ·rw[show ord π (p.getD x 0) (p.getD (x - 1) 0)=true from Ic B];have z:KF π p (x + 1):=fun j a b=>by
    by_cases e:j=x
    ·rw[e];exact B
    ·exact q j a (by omega)
   obtain⟨m,e,a,b,c⟩:=aAf h f (x + 1) (by omega) (by omega) z;refine⟨m,?_,by omega,by omega,c⟩;exact e
  ·rw[show ord π (p.getD x 0) (p.getD (x - 1) 0)=false from decide_eq_false B];refine⟨x,?_,Ap _,by omega,q⟩;show dH (ord π) (.ask (p.getD (x - 1) 0) (p.getD x 0) _)=_;rw[kI];have F:Kp π p (x - 1) < Kp π p x:=by
    have:=aEK hn hπ h (i:=x - 1) (j:=x) (by omega) (by omega) (by omega);omega
   rw[show ord π (p.getD (x - 1) 0) (p.getD x 0)=true from Ic F];rfl
omit hn hπ in
theorem aEM{p:Array Nat}{m k:Nat}(hm:m≤p.size)(q:k < m):(G8 p 0 m).getD k 0=p.getD (m - 1 - k) 0:=by
 unfold G8;rw[BB,getElem?_mirror_all hm,Ib ⟨A3 _,q⟩,BB];congr 2;omega
theorem aDt{p:Array Nat}(h:Pm n p){m:Nat}(h1:1≤m)(hm:m≤n)(J:KF π p m):∃ r,dH (ord π) (GU m n p)=r∧1≤r.1∧r.1≤n∧Pm n r.2∧KS π r.2 r.1:=by
 have hz:=h.size;have q:Pm n (G8 p 0 m):=h.rev 0 m;have B:KS π (G8 p 0 m) m:=fun i j z F=>by
  show π _ < π _;rw[aEM (by omega) (by omega),aEM (by omega) F];have:=aEL J (j - i - 1) (m - 1 - j) (by omega);have e:m - 1 - j + (j - i - 1) + 1=m - 1 - i:=by omega
  rw[e]at this;exact this
 have ha:=sE hn hπ q (n - m) m h1 (by omega) B;refine⟨_,rfl,?_⟩;unfold GU;rw[iX];exact⟨by show 1≤dH (ord π) _;omega,by show dH (ord π) _≤n;omega,q,ha.2.2⟩
theorem aDu{p:Array Nat}(h:Pm n p):∃ r,dH (ord π) (GV n p)=r∧1≤r.1∧r.1≤n∧Pm n r.2∧KS π r.2 r.1:=by
 unfold GV;rw[iX];have F:KS π p 1:=fun i j M W=>by omega
 have ha:=sE hn hπ h (n - 1) 1 (Ap _) (by omega) F;generalize hm:dH (ord π) (kas_asc p (n - 1) 1)=m at ha ⊢;by_cases e:m=n
 ·rw[Ib (by rw[e];simp)];exact⟨(m,p),rfl,by show 1≤m;omega,by show m≤n;omega,h,ha.2.2⟩
 ·rw[Ia (by simpa using e)];by_cases q:m > 1
  ·rw[Ib q,kI];have U:Kp π p 0 < Kp π p (m - 1):=ha.2.2 0 (m - 1) (by omega) (by omega);rw[show ord π (p.getD 0 0) (p.getD (m - 1) 0)=true from Ic U];exact⟨(m,p),rfl,by show 1≤m;omega,by show m≤n;omega,h,ha.2.2⟩
  ·rw[Ia q];have O:m=1:=by omega
   subst O;unfold Ha;rw[iX];have z:Kp π p 1 < Kp π p 0:=by
    by_cases hc:Kp π p 1 < Kp π p 0
    ·exact hc
    ·exfalso;obtain⟨g,hg⟩:∃ g,n - 1=g + 1:=⟨n - 2,by omega⟩
     rw[hg,kas_asc.eq_2,kI,show ord π (p.getD 1 0) (p.getD (1 - 1) 0)=false from decide_eq_false hc]at hm;have:=(sE hn hπ h g 2 (by omega) (by omega) (aCm hn hπ h (Ap _) (by omega) F hc)).1;have J:dH (ord π) (kas_asc p g 2)=1:=hm;omega
   have B:KF π p 2:=fun j a b=>by
    have:j=1:=by omega
    subst this;exact z
   obtain⟨m2,e2,a2,b2,c2⟩:=aAf hn hπ h (n - 2) 2 (by omega) (by omega) B;rw[show n - (1 + 1)=n - 2 from rfl,e2];dsimp only;rw[Ia (by omega)];exact aDt hn hπ h (by omega) (by omega) c2
theorem qD{p:Array Nat}(h:Pm n p){k:Nat}(J:k < n)(z:KS π p k):∀(f l r:Nat),l≤r→r≤k→r - l≤f→(∀ j,j < l→Kp π p j < Kp π p k)→(∀ j,r≤j→j < k→Kp π p k < Kp π p j)→
  ∃ m,dH (ord π) (kas_place p k f l r)=m∧m≤k∧(∀ j,j < m→Kp π p j < Kp π p k)∧∀ j,m≤j→j < k→Kp π p k < Kp π p j
 | 0,l,r,h1,h2,U,B,F=>by
  rw[kas_place.eq_1];have:l=r:=by omega
  subst this;exact⟨l,rfl,h2,B,F⟩
 | f + 1,l,r,h1,h2,U,B,F=>by
  rw[kas_place.eq_2];by_cases q:l ≥ r
  ·rw[Ib q];have:l=r:=by omega
   subst this;exact⟨l,rfl,h2,B,F⟩
  ·rw[Ia q,kI];have O:(l + r) / 2 < r∧l≤(l + r) / 2:=by omega
   by_cases hc:Kp π p k < Kp π p ((l + r) / 2)
   ·rw[show ord π (p.getD k 0) (p.getD ((l + r) / 2) 0)=true from Ic hc];show∃ m,dH (ord π) (kas_place p k f l ((l + r) / 2))=m∧_;refine qD h J z f l ((l + r) / 2) (by omega) (by omega) (by omega) B fun j a b=>?_;by_cases e:j=(l + r) / 2
    ·rw[e];exact hc
    ·exact DV hc (z _ _ (by omega) b)
   ·rw[show ord π (p.getD k 0) (p.getD ((l + r) / 2) 0)=false from decide_eq_false hc];show∃ m,dH (ord π) (kas_place p k f ((l + r) / 2 + 1) r)=m∧_;have M:Kp π p ((l + r) / 2) < Kp π p k:=by
     have:=aEK hn hπ h (i:=(l + r) / 2) (j:=k) (by omega) J (by omega);omega
    refine qD h J z f ((l + r) / 2 + 1) r (by omega) h2 (by omega) (fun j a=>?_) F;by_cases e:j=(l + r) / 2
    ·rw[e];exact M
    ·exact DV (z _ _ (by omega) (by omega)) M
theorem aCn:∀(f:Nat) {p:Array Nat} (k:Nat),Pm n p→k + f=n→KS π p k→Pm n (dH (ord π) (kas_bin f p k))∧KS π (dH (ord π) (kas_bin f p k)) n
 | 0,p,k,h,U,q=>by
  rw[kas_bin.eq_1];have:k=n:=by omega
  subst this;exact⟨h,q⟩
 | f + 1,p,k,h,U,q=>by
  rw[kas_bin.eq_2,iX];obtain⟨m,e,a,b,c⟩:=qD hn hπ h (by omega) q k 0 k (by omega) (Ap _) (by omega) (fun j z=>by omega) (fun j z y=>by omega);rw[e];refine aCn f (k + 1) (h.bub _ _) (by omega) fun i j B Z=>?_;have hz:=h.size;have at':∀ x,Kp π (bubble p k (k - m)) x=if x=m then Kp π p k else if m < x∧x≤k then Kp π p (x - 1) else Kp π p x:=fun x=>by
   show π _=_;rw[BB,getElem?_bubble (by omega) (k - m) (by omega)];have Y:k - (k - m)=m:=by omega
   rw[Y]
   repeat' split
   all_goals (rw[← BB])
  rw[at' i,at' j];have W:∀ x y,x≤y→y < k→Kp π p x≤Kp π p y:=fun x y h1 h2=>by
   rcases Nat.lt_or_ge x y with z | z
   ·exact Db (q x y z h2)
   ·have:x=y:=by omega
    rw[this];exact Ap _
  by_cases O:i=m
  ·rw[Ib O,Ia (by omega),Ib (by omega)];exact c _ (by omega) (by omega)
  ·rw[Ia O];by_cases J:m < i∧i≤k
   ·rw[Ib J,Ia (by omega),Ib (by omega)];exact q _ _ (by omega) (by omega)
   ·rw[Ia J];by_cases F:j=m
    ·rw[Ib F];exact b _ (by omega)
    ·rw[Ia F];by_cases M:m < j∧j≤k
     ·rw[Ib M];have hi:i < m:=by omega
      rcases Nat.lt_or_ge i (j - 1)with z | z
      ·exact q _ _ z (by omega)
      ·omega
     ·rw[Ia M];exact q _ _ B (by omega)
theorem aAg:Pm n (dH (ord π) (B3 n))∧KS π (dH (ord π) (B3 n)) n:=by
 unfold B3;rw[iX];obtain⟨r,e,a,b,c,d⟩:=aDu hn hπ (p:=(AO n).toArray) (C8 _);rw[e];by_cases q:r.1 < n
 ·rw[Ib q];have z:max r.1 1=r.1:=by omega
  rw[z];exact aCn hn hπ _ _ c (by omega) d
 ·rw[Ia q];have:r.1=n:=by omega
  rw[this]at d;exact⟨c,d⟩
end
theorem wQ{α:Type}{p q:α→Bool}:∀{l:List α},(∀ x∈l,p x=true→q x=true)→(∃ x∈l,q x=true∧p x=false)→l.countP p < l.countP q
 | [],_,h=>by obtain⟨x,z,_⟩:=h;simp at z
 | a :: l,h1,h2=>by
  have le:l.countP p≤l.countP q:=List.countP_mono_left fun x z=>h1 x (AJ _ z);rw[FV,FV];obtain⟨x,z,hq,hp⟩:=h2;rcases Ao.mp z with rfl | z
  ·rw[Ib hq,Ia (by rw[hp];simp)];omega
  ·have B:=wQ (fun x z=>h1 x (AJ _ z)) ⟨x,z,hq,hp⟩;by_cases ha:p a=true
   ·rw[Ib ha,Ib (h1 a AG ha)];omega
   ·rw[Ia ha];omega
theorem aCo{n:Nat}{o:Nat→Nat→Bool}(U:∀ i,o i i=false)(O:∀ i j k,o i j=true→o j k=true→o i k=true)(to:∀ i j,i < n→j < n→i≠j→o i j=true∨o j i=true):
  ∃ π:Nat→Nat,(∀ i j,i < n→j < n→o i j=ord π i j)∧∀ i j,i < n→j < n→π i=π j→i=j:=by
 let π:Nat→Nat:=fun i=>(AO n).countP fun k=>o k i
 have F:∀ i j,i < n→j < n→o i j=true→π i < π j:=fun i j hi q h=>wQ (fun x _ M=>O x i j M h) ⟨i,BF.mpr hi,h,U i⟩;refine⟨π,fun i j hi q=>?_,fun i j hi q e=>?_⟩
 ·cases J:o i j with
  | true=>exact(Ic (F i j hi q J)).symm
  | false=>
   refine(decide_eq_false fun z=>?_).symm;by_cases e:i=j
   ·rw[e]at z;exact Cz _ z
   ·rcases to i j hi q e with y | y
    ·rw[J]at y;cases y
    ·exact Cz _ (DV z (F j i q hi y))
 ·by_cases B:i=j
  ·exact B
  ·rcases to i j hi q B with y | y
   ·have:=F i j hi q y;omega
   ·have:=F j i q hi y;omega
abbrev K3:=Int×Int×Str
def mI(x y:K3):Bool:=if x.1 == y.1 then(if x.2.1 == y.2.1 then(if x.2.2 == y.2.2 then false else decide (x.2.2.cps.toList < y.2.2.cps.toList)) else decide (x.2.1 < y.2.1)) else decide (x.1 < y.1)
theorem aAh(x:K3):mI x x=false:=by unfold mI;simp
theorem uH(x y:K3):mI x y=true↔x.1 < y.1∨x.1=y.1∧(x.2.1 < y.2.1∨x.2.1=y.2.1∧x.2.2.cps.toList < y.2.2.cps.toList):=by
 unfold mI;by_cases h1:x.1=y.1
 ·rw[Ib (by simpa using h1)];by_cases h2:x.2.1=y.2.1
  ·rw[Ib (by simpa using h2)];by_cases q:x.2.2=y.2.2
   ·rw[Ib (by simpa using q),q];constructor
    ·intro z;cases z
    ·rintro(z | ⟨_,z | ⟨_,z⟩⟩)
     ·omega
     ·omega
     ·exact absurd z (CM _)
   ·rw[Ia (by simpa using q),decide_eq_true_iff];constructor
    ·intro z;exact .inr ⟨h1,.inr ⟨h2,z⟩⟩
    ·rintro(z | ⟨_,z | ⟨_,z⟩⟩)
     ·omega
     ·omega
     ·exact z
  ·rw[Ia (by simpa using h2),decide_eq_true_iff];constructor
   ·intro z;exact .inr ⟨h1,.inl z⟩
   ·rintro(z | ⟨_,z | ⟨z,_⟩⟩)
    ·omega
    ·exact z
    ·exact absurd z h2
 ·rw[Ia (by simpa using h1),decide_eq_true_iff];constructor
  ·intro z;exact .inl z
  ·rintro(z | ⟨z,_⟩)
   ·exact z
   ·exact absurd z h1
theorem uI{x y z:K3}(h1:mI x y=true)(h2:mI y z=true):mI x z=true:=by
 rw[uH]at h1 h2 ⊢;rcases h1 with a | ⟨a,b | ⟨b,c⟩⟩ <;> rcases h2 with a' | ⟨a',q | ⟨q,B⟩⟩
 ·exact .inl (by omega)
 ·exact .inl (by omega)
 ·exact .inl (by omega)
 ·exact .inl (by omega)
 ·exact .inr ⟨by omega,.inl (by omega)⟩
 ·exact .inr ⟨by omega,.inl (by omega)⟩
 ·exact .inl (by omega)
 ·exact .inr ⟨by omega,.inl (by omega)⟩
 ·exact .inr ⟨by omega,.inr ⟨by omega,EF c B⟩⟩
theorem aBp{x y:K3}(h:x≠y):mI x y=true∨mI y x=true:=by
 rw[uH,uH];by_cases h1:x.1=y.1
 ·by_cases h2:x.2.1=y.2.1
  ·have q:x.2.2≠y.2.2:=fun z=>h (Hj h1 (Hj h2 z));rcases Fd (x.2.2.cps.toList < y.2.2.cps.toList)with z | z
   ·exact .inl (.inr ⟨h1,.inr ⟨h2,z⟩⟩)
   ·rcases Fd (y.2.2.cps.toList < x.2.2.cps.toList)with z' | z'
    ·exact .inr (.inr ⟨h1.symm,.inr ⟨h2.symm,z'⟩⟩)
    ·exact absurd (nE (EN (Do.mp z') (Do.mp z))) q
  ·rcases Int.lt_or_gt_of_ne h2 with z | z
   ·exact .inl (.inr ⟨h1,.inl z⟩)
   ·exact .inr (.inr ⟨h1.symm,.inl z⟩)
 ·rcases Int.lt_or_gt_of_ne h1 with z | z
  ·exact .inl (.inl z)
  ·exact .inr (.inl z)
abbrev k0:K3:=(0,0,"")
def aAi(kk:List K3)(p:List Nat):Prop:=p.Perm (AO kk.length)∧(kk.Nodup→(p.map fun i=>kk.getD i k0).Pairwise fun a b=>mI a b=true)
theorem aEN{kk:List K3}(h:0 < kk.length):aAi kk (dH (fun i j=>mI (kk.getD i k0) (kk.getD j k0)) (B3 kk.length)).toList:=by
 refine⟨Bb.mp (gW.run _ (fX h)),fun hn=>?_⟩;have ne:∀ i j,i < kk.length→j < kk.length→i≠j→kk.getD i k0≠kk.getD j k0:=fun i j hi z q e=>by
  rw[Ak,Ak,Ab hi,Ab z]at e;exact q ((D5 hn).mp e)
 obtain⟨π,h1,h2⟩:=aCo (n:=kk.length) (o:=fun i j=>mI (kk.getD i k0) (kk.getD j k0)) (fun i=>aAh _) (fun i j k=>uI) (fun i j hi z q=>aBp (ne i j hi z q));have e:dH (fun i j=>mI (kk.getD i k0) (kk.getD j k0)) (B3 kk.length)=dH (ord π) (B3 kk.length):=lU (n:=kk.length) (P:=Pm kk.length) h1 (fX h);rw[e];obtain⟨hP,hS⟩:=aAg h h2;have hz:=hP.size;rw[Cq];intro i j hi z q;have M:i < kk.length:=by simpa[hz]using hi
 have B:j < kk.length:=by simpa[hz]using z
 have:=hS i j q B;have F:(dH (ord π) (B3 kk.length)).getD i 0=(dH (ord π) (B3 kk.length)).toList[i]'(by simpa using(by omega:i < (dH (ord π) (B3 kk.length)).size)):=by rw[kJ (A4 (by omega))];simp
 have J:(dH (ord π) (B3 kk.length)).getD j 0=(dH (ord π) (B3 kk.length)).toList[j]'(by simpa using(by omega:j < (dH (ord π) (B3 kk.length)).size)):=by rw[kJ (A4 (by omega))];simp
 rw[C5,C5,← F,← J];rw[h1 _ _ (hP.lt h i) (hP.lt h j)];exact Ic this
inductive aEO(h:Bm)(v:Ac)(k:K3):Prop
 | mk (t:_) (u1:_) (u2:_) (u3:_) (q0:v=.ref t) (q1:E2 h t #[.int k.1 u1,.int k.2.1 u2,.str k.2.2 u3]):aEO h v k
def aBq(h:Bm)(v:Ac)(k:K3):Prop:=aEO h v k
theorem aBq.weak{h:Bm}{v:Ac}{k:K3}(x:aBq h v k):aIV h v:=by
 obtain⟨t,u1,u2,u3,e,ht⟩:=x;exact⟨t,k.1,k.2.1,k.2.2,u1,u2,u3,e,ht⟩
section
variable{prog:AD}{w:AY}{A:AU}{E:Ac→Af→Prop}{s:Af}
theorem aJO{z:Bool}{U W:Ac}{x y:K3}{C:Bool→Af→Prop}(J:aBq s.heap U x)(M:aBq s.heap W y)(h:C (mI x y) s):wpAny (model prog w) A (keyLt' (tuples' z) U W) C E s:=by
 obtain⟨a1,b1,c1⟩:=x;obtain⟨a2,b2,c2⟩:=y;obtain⟨p1,t1,t2,t3,rfl,J⟩:=J;obtain⟨p2,u1,u2,u3,rfl,M⟩:=M;dsimp only at J M;unfold mI at h;dsimp only at h;show wpAny _ _ (C0 (.ref p1) >>= _) _ _ _;refine Aa (gZ J ?_);refine Aa (gZ M ?_);dsimp only[DG,FQ,EA];rw[List.zipIdx_nil];have Y:∀{Q:Bool→Af→Prop} {a b:Int} {t u:Tok},Q (a == b) s→wpAny (model prog w) A (eqBool (.int a t) (.int b u)) Q E s:=fun{Q a b t u} q=>p5 (y:=.int a) (x:=.int b) ⟨t,rfl⟩ ⟨u,rfl⟩ rfl rfl prog w _ _ q;have Z:∀{Q:Bool→Af→Prop} {a b:Str} {t u:Tok},Q (a == b) s→wpAny (model prog w) A (eqBool (.str a t) (.str b u)) Q E s:=fun{Q a b t u} q=>EY a t b u prog w _ _ q;refine Aa ?_;rw[CT];refine Aa (Aa (Y ?_));cases hz:(a1 == a2)with
 | false=>
  rw[hz]at h;refine BG (by decide) ?_;refine Aa ?_;show wpAny _ _ (oneLt' (z && 0 == 0) (Cg a1 t1) (Cg a2 u1)) _ _ _;cases z
  ·exact yG (Ae (Ae (Ae h)))
  ·exact oneLt_int (Ae (Ae (Ae h)))
 | true=>
  rw[hz,Ib rfl]at h;refine Aq (by decide) (Ae ?_);dsimp only;rw[CT];refine Aa (Aa (Y ?_));cases B:(b1 == b2)with
  | false=>
   rw[B]at h;refine BG (by decide) ?_;refine Aa ?_;have O:(z && ((0 + 1:Nat) == 0))=false:=by cases z <;> rfl
   show wpAny _ _ (oneLt' (z && (0 + 1 == 0)) (Cg b1 t2) (Cg b2 u2)) _ _ _;rw[O];exact yG (Ae (Ae (Ae h)))
  | true=>
   rw[B,Ib rfl]at h;refine Aq (by decide) (Ae ?_);dsimp only;rw[CT];refine Aa (Aa (Z ?_));cases F:(c1 == c2)with
   | false=>
    rw[F]at h;refine BG (by decide) ?_;refine Aa ?_;have O:(z && ((0 + 1 + 1:Nat) == 0))=false:=by cases z <;> rfl
    show wpAny _ _ (oneLt' (z && (0 + 1 + 1 == 0)) (By c1 t3) (By c2 u3)) _ _ _;rw[O];exact yH (Ae (Ae (Ae h)))
   | true=>
    rw[F,Ib rfl]at h;refine Aq (by decide) (Ae ?_);dsimp only;rw[Gj];exact Ae (Ae h)
theorem uJ{ks its:List Ac}(q:ks.length=its.length)(i:Nat):EI (ks.toArray.zip its.toArray) i=(ks.getD i .none,its.getD i .none):=by
 unfold EI;by_cases h:i < ks.length
 ·have hz:i < (ks.toArray.zip its.toArray).size:=by simp[q];omega
  rw[BB,A4 hz,Ak,Ak,Ab h,Ab (by omega)];simp
 ·have hz:¬ i < (ks.toArray.zip its.toArray).size:=by simp[q];omega
  rw[BB,Array.getElem?_eq_none (by omega),Ak,Ak,AV (by omega),AV (by omega)];rfl
theorem aI3{b:Bool}{ks its:List Ac}{kk:List K3}{Q:Unit×Bo→Af→Prop}(F:ks.length=its.length)(O:kk.length=its.length)(h2:2≤its.length)(M:its.length < 64)(W:∀ i,i < its.length→aBq s.heap (ks.getD i .none) (kk.getD i k0))
  (h:∀(st:Bo) (p:List Nat),aAi kk p→(arrOf st).map (·.2)=(p.map fun i=>its.getD i .none).toArray→failedOf st=none→Q ((),st) s):wpAny (model prog w) A (sortRuns'.run (Di (tuples' b) (ks.toArray.zip its.toArray) #[] 7 none)) Q E s:=by
 have hz:(ks.toArray.zip its.toArray).size=its.length:=by simp[F]
 have B:=kas_runs (prog:=prog) (w:=w) (A:=A) (E:=E) (κ:=tuples' b) (it:=ks.toArray.zip its.toArray) (n:=its.length) (s:=s) (Q:=fun u st s'=>s'=s∧Q (u,st) s) (G:=fun p s'=>p=dH (fun i j=>mI (kk.getD i k0) (kk.getD j k0)) (B3 its.length)∧s'=s) h2 M (fun p' J s' ad ha hf hG=>?_)
  (gW.wpO (n:=its.length) (P:=Pm its.length) (o:=fun i j=>mI (kk.getD i k0) (kk.getD j k0)) (fun i j C hi Z Y=>?_) (fX (by omega)) ⟨rfl,rfl⟩)
 ·have e1:GZ (tuples' b) (ks.toArray.zip its.toArray) (AO its.length).toArray=Di (tuples' b) (ks.toArray.zip its.toArray) #[] 7 none:=by
   unfold GZ;have:=kas_range (ks.toArray.zip its.toArray);rw[hz]at this;rw[this]
  rw[e1]at B;exact B8 B (fun r s' z=>by
   obtain⟨rfl,q⟩:=z;exact q) fun e s' z=>z
 ·obtain⟨rfl,rfl⟩:=hG;have U:=aEN (kk:=kk) (by omega);rw[O]at U;refine⟨rfl,h J _ U ?_ hf⟩;rw[ha];apply D0.mp;rw[Gp,DZ];show _=GC _ _;refine C2 fun i _=>?_;show(EI (ks.toArray.zip its.toArray) i).2=_;rw[uJ F]
 ·unfold kas_cmp;rw[uJ F,uJ F];exact aJO (W i hi) (W j Z) Y
end
section
variable{prog:AD}{w:AY}{A:AU}{E:Ac→Af→Prop}{s:Af}
theorem aJP{a kS:Ah}{ks its:List Ac}{kk:List K3}{e e1:Nat}{P:FH→Af→Prop}(ha:s.heap.get? a=some (seqObj "list" #[] e1))(hk:s.heap.get? kS=some (seqObj "list" ks.toArray e))(W:a≠kS)(hl:ks.length=its.length)(M:its.length < 64)(O:kk.length=its.length)(hK:∀ i,i < its.length→aBq s.heap (ks.getD i .none) (kk.getD i k0))
  (h:∀ p:List Nat,aAi kk p→P (Fin.done (GE Cd)) { s with heap:=(s.heap.update kS (Bc fun _=>#[])).update a (Bc fun _=>(p.map fun i=>its.getD i .none).toArray) }):wpAny (model prog w) A (ksk_end a false its.toArray e1 (.ref kS) ks.toArray) P E s:=by
 have z:∀ n:Nat,n < 64→n≤sizeLine:=fun n hn=>aS (by omega);have J:(ks.toArray.zip its.toArray).size=its.length:=by simp[hl]
 have fin:∀(st:Bo) (p:List Nat),aAi kk p→(arrOf st).map (·.2)=(p.map fun i=>its.getD i .none).toArray→failedOf st=none→wpAny (model prog w) A (ksk_tail a false e1 (.ref kS) st) P E s:=fun st p U B Z=>by
  have Y:=U.1.length_eq;rw[BR]at Y;have aa:(arrOf st).size=its.length:=by
   have h1:((arrOf st).map (·.2)).size=(arrOf st).size:=Gg ..
   have h2:(p.map fun i=>its.getD i Cd).toArray.size=p.length:=by simp
   rw[B]at h1;omega
  refine aIY ha hk W (by rw[At];exact z _ (by omega)) (by rw[aa];exact z _ M) Z ?_;rw[B];exact h p U
 unfold ksk_end;dsimp only;by_cases h2:its.length < 2
 ·have q:its.toArray.size < 2:=by simpa using h2
  rw[Ia AA,Ib q];refine Aa (Ae ?_);rw[Ib q,Ia AA];refine Aa (Ae ?_);refine fin _ (AO its.length) ⟨by rw[O],fun _=>?_⟩ ?_ rfl
  ·rw[Cq];intro i j hi F af;simp at hi F;omega
  ·show(ks.toArray.zip its.toArray).map (·.2)=_
   apply D0.mp;rw[DZ,Array.toList_zip];show GC Prod.snd (ks.zip its)=_;rw[List.map_snd_zip (by omega)];apply CC;intro j;rw[AL];by_cases F:j < its.length
   ·rw[C3 F,Ab F];simp[F]
   ·rw[AV (by omega),AV (by simpa using F)];rfl
 ·have q:¬ its.toArray.size < 2:=by simpa using h2
  rw[Ia AA,Ia q];refine Aa (aIX (fun v hv=>?_) fun b=>?_)
  ·obtain⟨i,hi,rfl⟩:=Dp.mp hv;have:=(hK i (by omega)).weak;rw[Ak,Ab hi]at this;exact this
  rw[Ia q,Ia AA];exact Aa (aI3 hl O (by omega) M hK fun st p U B Z=>fin st p U B Z)
end
section
variable{X:Cx}{dt:List (Ah×Obj)}{σ:St}
inductive aCp(H:Hp)(v:Ac)(k:K3):Prop
 | mk (t:_) (q0:v=.ref t) (q1:H t=some (.tup [.int k.1,.int k.2.1,.str k.2.2])):aCp H v k
def aEP(H:Hp)(v:Ac)(k:K3):Prop:=aCp H v k
theorem aEP.real{H:Hp}{s:Af}{v:Ac}{k:K3}(I:Inv X dt σ H s)(h:aEP H v k):aBq s.heap v k:=by
 obtain⟨t,rfl,ht⟩:=h;obtain⟨_,its,q,hT⟩:dA X.prog X.w H s.heap t (.tup [.int k.1,.int k.2.1,.str k.2.2]):=I.hok _ _ ht;cases q with
 | cons F q=>
  cases q with
  | cons z q=>
   cases q with
   | cons B q=>
    cases q;obtain⟨u1,e1⟩:=F;obtain⟨u2,e2⟩:=z;obtain⟨u3,e3⟩:=B;subst e1 e2 e3;exact⟨t,u1,u2,u3,rfl,hT⟩
structure KsX(KR:V→K3→Prop)(H:Hp)(xd:List V)(ks:List Ac)(kk:List K3):Prop where
 len:ks.length=xd.length∧kk.length=xd.length
 key:∀ i,i < xd.length→aEP H (ks.getD i .none) (kk.getD i k0)
 kr:∀ i,i < xd.length→KR (xd.getD i .non) (kk.getD i k0)
theorem KsX.nil{KR:V→K3→Prop}{H:Hp}:KsX KR H [] [] []:=⟨⟨rfl,rfl⟩,fun i hi=>by simp at hi,fun i hi=>by simp at hi⟩
theorem KsX.same{KR:V→K3→Prop}{H H':Hp}{xd:List V}{ks:List Ac}{kk:List K3}(h:KsX KR H xd ks kk)(s:bS H H'):KsX KR H' xd ks kk:=
 ⟨h.len,fun i hi=>by obtain⟨t,e,ht⟩:=h.key i hi;exact⟨t,e,s _ _ ht⟩,h.kr⟩
theorem nH{α:Type}(l:List α)(x d:α)(i:Nat):(l ++ [x]).getD i d=if i < l.length then l.getD i d else if i=l.length then x else d:=by
 rw[Ak,Ak];by_cases h:i < l.length
 ·rw[Ib h,BU h]
 ·rw[Ia h,BO (by omega)];by_cases h2:i=l.length
  ·rw[Ib h2,h2];simp
  ·rw[Ia h2,AV (by simp;omega)];rfl
theorem KsX.snoc{KR:V→K3→Prop}{H:Hp}{xd:List V}{ks:List Ac}{kk:List K3}{y:V}{a b:Int}{c:Str}{t:Ah}(h:KsX KR H xd ks kk)(q:KR y (a,b,c))(ht:H t=some (.tup [.int a,.int b,.str c])):KsX KR H (xd ++ [y]) (ks ++ [AI t]) (kk ++ [(a,b,c)]):=by
 obtain⟨l1,l2⟩:=h.len;refine⟨⟨by simp[l1],by simp[l2]⟩,fun i hi=>?_,fun i hi=>?_⟩
 ·rw[nH,nH,l1,l2];by_cases h1:i < xd.length
  ·rw[Ib h1,Ib h1];exact h.key i h1
  ·have:i=xd.length:=by simp at hi;omega
   rw[Ia h1,Ia h1,Ib this,Ib this];exact⟨t,rfl,ht⟩
 ·rw[nH,nH,l2];by_cases h1:i < xd.length
  ·rw[Ib h1,Ib h1];exact h.kr i h1
  ·have:i=xd.length:=by simp at hi;omega
   rw[Ia h1,Ia h1,Ib this,Ib this];exact q
theorem aDv{k:Nat}{f:Ah}{fd:AK}{x:Str}{sp:Sp}{A':AU}{E:Ac→Af→Prop}(F:cQ X.prog X.w X.K X.mg X.base CX0 k f fd [x] sp)(hr:cS k A')(hA:A'.frames=some X.stack)(hb:dY X.K fd [x] [])
  {D kS:Ah} {H0:Hp} {e1:Nat} {xs:List V} {KR:V→K3→Prop} (fD:∀ H',H' D=none→mH X dt H' D) (fK:∀ H',H' kS=none→mH X dt H' kS) (ak:D≠kS)
  (aa:∀ y∈xs,∀(H':Hp) (Q:VK),bS H0 H'→(∀ t a b c B,bS H' B→B t=some (.tup [.int a,.int b,.str c])→KR y (a,b,c)→Q (.ref t) B)→sp [y] H' Q E0) {er:Ac→Ac→Sem (ForInStep PUnit)} {Q:Af→Prop}
  {M:Ac→PUnit→Sem (ForInStep PUnit)} (Y:∀ v u,M v u=(do
   let r ← (call (.ref f) [v]).attempt
   match r with
   | GY k=>do
    Er (.ref kS) fun x=>x.push k
    pure (CA GQ)
   | Except.error e=>er v e)):
  ∀(cM:List Ac) (xr:List V) (s:Af) (H:Hp) (ks:List Ac) (kk:List K3) (xd:List V) (e:Nat),cW xr cM→(∀ y∈xr,y∈xs)→Inv X dt σ H s→bS H0 H→H D=none→H kS=none→s.heap.get? D=some (seqObj "list" #[] e1)→s.heap.get? kS=some (seqObj "list" ks.toArray e)→KsX KR H xd ks kk→ks.length + cM.length < 64→
   (∀(s':Af) (H':Hp) (O:List Ac) (ar:List K3) (e':Nat),Inv X dt σ H' s'→bS H0 H'→H' D=none→H' kS=none→s'.heap.get? D=some (seqObj "list" #[] e1)→s'.heap.get? kS=some (seqObj "list" O.toArray e')→KsX KR H' (xd ++ xr) O ar→O.length=ks.length + cM.length→Q s')→
   wpAny (model X.prog X.w) A' (forIn cM GQ M) (fun _ s'=>Q s') E s:=by
 intro cM
 induction cM with
 | nil=>
  intro xr s H ks kk xd e r J I S hD hK gD gK hk af q;rw[Gj];cases r;exact Ae (q s H ks kk e I S hD hK gD gK (by rw[CU];exact hk) rfl)
 | cons v cM ih=>
  intro xr s H ks kk xd e r J I S hD hK gD gK hk af q;rw[A6]at af;cases r with
  | @cons y _ am _ r1 r2=>
  rw[CT,Y];refine Aa (Aa (El ?_));have I3:Inv X ((D,seqObj "list" #[] e1) :: (kS,seqObj "list" ks.toArray e) :: dt) σ H s:=I.pins_of fun p U=>by
   rcases Ao.mp U with z | U
   ·subst z;exact⟨gD,hD,(fD H hD).2.1,(fD H hD).2.2.1,fun v z=>by cases z⟩
   ·rcases Ao.mp U with z | U
    ·subst z;exact⟨gK,hK,(fK H hK).2.1,(fK H hK).2.2.1,fun v z=>by cases z⟩
    ·exact I.pin p (A0 _ U)
  have e0:aEa X.prog X.w X.K X.mg X.base A' X.stack s H:=⟨hA,I.env0.mod,I.env0.bs,I.env0.bsz,I.env0.funs,I.env0.frf,I.env0.hok,I.env0.bare⟩
  refine Dg (C1 (F.run A' X.stack s H ⟨[v],[]⟩ [v] [y] (fun u B=>∃ t a b c,u=.ref t∧B t=some (.tup [.int a,.int b,.str c])∧bS H B∧KR y (a,b,c)) E0 hr e0 (hb s [v] I.kIn rfl) (.cons r1 .nil)
   (aa y (J y AG) H _ S fun t a b c B s2 h2 W=>⟨t,a,b,c,rfl,h2,s2,W⟩)) fun r s' Z=>?_)
  cases r with
  | error e=>exact CD Z
  | ok fl=>
   cases fl with
   | next=>exact CD Z
   | brk=>exact CD Z
   | cont=>exact CD Z
   | ret u=>
    obtain⟨vv,H',I',r',t,a,b,c,rfl,ht,S',W⟩:=I3.after Z;cases r';obtain⟨gD',hD',_⟩:=I'.pin (D,seqObj "list" #[] e1) (A0 _ AG);obtain⟨gK',hK',_⟩:=I'.pin (kS,seqObj "list" ks.toArray e) (A0 _ (AJ _ AG));have I4:Inv X dt σ H' s':=I'.pins_of fun p U=>I'.pin p (A0 _ (AJ _ (AJ _ U)));refine Aa (Co gK' rfl ?_ (aS (by rw[At];omega)) (by rw[Array.size_push,At];exact FM (aS (by omega))));refine Ae ?_;have ab:=get?_update_seq gK' (fun x=>x.push (.ref t));have ep:(ks.toArray.push (.ref t))=(ks ++ [AI t]).toArray:=by simp
    rw[ep]at ab;have I5:Inv X dt σ H' { s' with heap:=s'.heap.update kS (Bc fun x=>x.push (.ref t)) }:=I4.turnedL (t':=s'.toks) (fp:=[kS]) (fun b o hb e=>by
     rw[Bp _ _ _ _ (fun z=>hb (by simp[z]))];exact e) fun b hb=>by
      rw[BE.mp hb];exact fK H' hK'
    refine ih am _ H' (ks ++ [AI t]) (kk ++ [(a,b,c)]) (xd ++ [y]) _ r2 (fun y hy=>J y (AJ _ hy)) I5 (S.trans S') hD' hK' ?_ ab ((hk.same S').snoc W ht) (by rw[AH,EZ];omega) fun au B ad ag ap a1 a2 a3 a4 a5 a6 a7 a8=>?_
    ·show(s'.heap.update kS _).get? D=_;rw[Bp _ _ _ _ ak];exact gD'
    ·refine q au B ad ag ap a1 a2 a3 a4 a5 a6 ?_ (by rw[a8,AH,EZ,A6];omega);rw[Bf]at a7;exact a7
end
section
variable{X:Cx}{dt:List (Ah×Obj)}{σ:St}{H:Hp}{s:Af}
theorem aAj{k:Nat}{f l:Ah}{fd:AK}{x:Str}{sp:Sp}{xs:List V}{its:List Ac}{KR:V→K3→Prop}{Q:VK}{E:Ac→Af→Prop}(F:cQ X.prog X.w X.K X.mg X.base CX0 k f fd [x] sp)(hr:cS (k + 2) X.A)(hb:dY X.K fd [x] [])
  (I:Inv X dt σ H s) (rv:cW xs its) (ao:∀(B:AU) (Q':List Ac→Af→Prop) (E':Ac→Af→Prop),B.handled=none→(∀(h1:Bm) (tk:Nat),(∀ b u,s.heap.get? b=some u→h1.get? b=some u)→s.heap.objs.size≤h1.objs.size→Q' its { s with heap:=h1,toks:=tk })→wpAny (model X.prog X.w) B (collect (.ref l)) Q' E' s) (bc:xs.length < 64)
  (an:∀ y∈xs,∀(H':Hp) (Q:VK),bS H H'→(∀ t a b c ae,bS H' ae→ae t=some (.tup [.int a,.int b,.str c])→KR y (a,b,c)→Q (.ref t) ae)→sp [y] H' Q E0)
  (q:∀ D (kk:List K3) (p:List Nat) H',bS H H'→H D=none→kk.length=xs.length→(∀ i,i < xs.length→KR (xs.getD i .non) (kk.getD i k0))→aAi kk p→H' D=some (.lst (p.map fun i=>xs.getD i .non))→Q (.ref D) H'):
  wpAny (model X.prog X.w) X.A (call (.builtin "sorted") [.ref l] [(Bs "key",.ref f)]) (EP X dt σ Q) E s:=by
 have aI:=rv.length;have zz:its.length≤sizeLine:=aS (by omega);refine call_function_entry_kw Gq F8 F9 (ksk_s1 _ _) ?_;refine Aa (Ae ?_);refine Aa (ao _ _ _ hr.hd fun h1 tk ah aq=>?_);refine Aa (Dl ?_ zz);dsimp only;obtain⟨D,hD⟩:∃ D,D=h1.objs.size:=⟨_,rfl⟩
 have J:(h1.push (seqObj "list" its.toArray 0)).get? D=some (seqObj "list" its.toArray 0):=by
  rw[hD];exact Av _ rfl
 have U:∀ b o,s.heap.get? b=some o→(h1.push (seqObj "list" its.toArray 0)).get? b=some o:=fun b o e=>Ag _ (ah b o e);have ab:(h1.push (seqObj "list" its.toArray 0)).objs.size=D + 1:=by rw[size_push',hD]
 change wpAny _ _ (do let _ ← holding [AI h1.objs.size] (call (.builtin "list.sort") [AI h1.objs.size] [(Bs "key",.ref f)]);ret (AI h1.objs.size)) _ _ { s with heap:=h1.push (seqObj "list" its.toArray 0),toks:=tk };rw[← hD];generalize h1.push (seqObj "list" its.toArray 0)=h2 at J U ab ⊢;have ac:s.heap.objs.size≤D:=by rw[hD];exact aq
 refine Aa (Ba (wpAny_call_entry_kw slot_list_sort ⟨_,J,rfl⟩ entry_list_sort ?_ (ksk_l1 _ _)));rw[ksk_t1];unfold ksk_tree;refine Aa (D8 J rfl ?_);refine Aa (Co J rfl ?_ (by rw[At];exact zz) (A3 _));have O:=get?_update_seq J (fun _=>#[]);generalize (if ((#[]:Array Ac).size == its.toArray.size)=true then 0 else 0 + 1)=e1 at O;have Y:∀ b o,s.heap.get? b=some o→(h2.update D (Bc fun _=>#[])).get? b=some o:=fun b o e=>by
  rw[Bp _ _ _ _ (AC (A2 (Aw e) ac))];exact U b o e
 have Z:(h2.update D (Bc fun _=>#[])).objs.size=D + 1:=by rw[C6,ab]
 dsimp only;generalize h2.update D (Bc fun _=>#[])=h3 at O Y Z ⊢;refine Aa (Dy O rfl ?_);refine Aa (EH ?_ (by simpa using zz));refine Aa (Dl ?_ (A3 _));dsimp only;refine Ba ?_;obtain⟨kS,hkS⟩:∃ kS,kS=(h3.push { cls:=AB "tuple",data:=Ci its.toArray.toList.toArray }).objs.size:=⟨_,rfl⟩
 have ai:((h3.push { cls:=AB "tuple",data:=Ci its.toArray.toList.toArray }).push { cls:=AB "list",data:=Ci ([]:List Ac).toArray }).get? kS=some (seqObj "list" ([]:List Ac).toArray 0):=by
  rw[hkS];exact Av _ rfl
 have ar:((h3.push { cls:=AB "tuple",data:=Ci its.toArray.toList.toArray }).push { cls:=AB "list",data:=Ci ([]:List Ac).toArray }).get? D=some (seqObj "list" #[] e1):=Ag _ (Ag _ O);have aa:∀ b o,s.heap.get? b=some o→((h3.push { cls:=AB "tuple",data:=Ci its.toArray.toList.toArray }).push { cls:=AB "list",data:=Ci ([]:List Ac).toArray }).get? b=some o:=fun b o e=>Ag _ (Ag _ (Y b o e));have W:kS=D + 2:=by rw[hkS,BY,Z]
 rw[← hkS];generalize (h3.push { cls:=AB "tuple",data:=Ci its.toArray.toList.toArray }).push { cls:=AB "list",data:=Ci ([]:List Ac).toArray }=h4 at ai ar aa ⊢;have ad:D≠kS:=AC (by rw[W];exact Bj (B1 _));have I4:Inv X dt σ H { s with heap:=h4,toks:=tk }:=I.kept (t':=tk) aa;have lD:s.heap.objs.size≤D:=ac;have lK:s.heap.objs.size≤kS:=by rw[W];exact Bg ac (Nat.le_add_right _ _)
 have nD:H D=none:=I.hok.fresh lD;have nK:H kS=none:=I.hok.fresh lK;have fD:∀ H',H' D=none→mH X dt H' D:=fun H' hn=>I.fpOk lD hn;have fK:∀ H',H' kS=none→mH X dt H' kS:=fun H' hn=>I.fpOk lK hn;unfold ksk_rest;refine Aa (CK ?_);refine Aa ?_;rw[← Array.forIn_toList];have az:cS k X.A.in1.in1:=(hr.in1).in1;refine aDv (KR:=KR) (X:=X) (dt:=dt) (σ:=σ) (A':=X.A.in1.in1) F az I.ok.frames hb (D:=D) (kS:=kS) (H0:=H) (e1:=e1) (xs:=xs) fD fK ad an (er:=fun v e=>do
     rule "list.sort.key-raised"
     let am ← C0 (.ref kS)
     Er (.ref kS) fun x=>#[]
     letGo am.toList.reverse [e]
     Er (AI D) fun x=>its.toArray
     throw e
     pure (CA GQ)) (fun v u=>by congr 1) its xs _ H [] [] [] 0 rv (fun y hy=>hy) I4 (bS.refl H) nD nK ar ai KsX.nil (by simp;omega) ?_
 intro s' H' ks kk e' I' S af aB ak ap M aZ;rw[List.nil_append]at M;obtain⟨z1,z2⟩:=M.len;refine Aa (D8 ap rfl ?_);refine aJP (kk:=kk) ak ap ad (by omega) (by omega) (by omega) (fun i hi=>(M.key i (by omega)).real I') fun p ho=>?_;refine⟨_,rfl,Ae ⟨_,rfl,?_⟩⟩;have aD:∀ i∈p,i < xs.length:=fun i hi=>by
  have:=ho.1.mem_iff.mp hi;rw[BF]at this;omega
 have aw:=nG rv p aD;have I6:Inv X dt σ H' { s' with heap:=(s'.heap.update kS (Bc fun _=>#[])).update D (Bc fun _=>(p.map fun i=>its.getD i .none).toArray) }:=I'.turnedL (t':=s'.toks) (fp:=[kS,D]) (fun b o hb e=>by
  rw[Bp _ _ _ _ (fun z=>hb (by simp[z])),Bp _ _ _ _ (fun z=>hb (by simp[z]))];exact e) fun b hb=>by
   simp only[Ao,Az,or_false]at hb;rcases hb with rfl | rfl
   ·exact fK H' aB
   ·exact fD H' af
 have av:((s'.heap.update kS (Bc fun _=>#[])).update D (Bc fun _=>(p.map fun i=>its.getD i .none).toArray)).get? D=_:=get?_update_seq (c:="list") (xs:=#[]) (n:=e1) (by
  rw[Bp _ _ _ _ ad];exact ak) fun _=>(p.map fun i=>its.getD i .none).toArray
 have aA:=ho.1.length_eq;rw[BR]at aA;have aC:(p.map fun i=>xs.getD i V.non).length≤sizeLine:=aS (by rw[Ad];omega);exact⟨.ref D,_,I6.track (ob:=.lst (p.map fun i=>xs.getD i .non)) (fD H' af) ⟨aC,_,_,aw,av⟩,rfl,q D kk p _ (S.trans (aU af)) nD (by omega) (fun i hi=>M.kr i hi) ho aM⟩
end
section
variable{X:Cx}{dt:List (Ah×Obj)}{σ:St}{H:Hp}{s:Af}{a:Ah}{fc:List (Key×V)}{k:Key}{u r:Ac}{A:AU}{E:Ac→Af→Prop}
theorem aJQ{z:V}{Q:Ac→Af→Prop}(I:Inv X dt σ H s)(e:H a=some (.dK fc))(hl:fc.length < 1000)(W:c4 (kV k) u)(Y:c4 z r)
  (h1:∀ v O s',fF fc k=some v→Inv X dt σ H s'→c4 v O→Q O s') (h2:∀ s',fF fc k=none→Inv X dt σ (upd H a (.dK (fZ fc k z))) s'→Q r s'):wpAny (model X.prog X.w) A (call (.builtin "dict.setdefault") [.ref a,u,r]) Q E s:=by
 obtain⟨zz,hd,vs,rel,dd⟩:=zJ I.hok e;refine Ga PySem.F.slot_dict_setdefault dd.typeIs PySem.F.entry_dict_setdefault (PySem.F.args_dict_setdefault_3 _ _ _) (kt_meets_setdefault (c8 X.prog X.w) a (qU W) hd r) ⟨vs,dd,by rw[← rel.length];exact zz,fun O hw=>?_,fun hn h' M U=>?_⟩
 ·have B:=rel.val k;rw[hw]at B;cases J:fF fc k with
  | none=>rw[J]at B;cases B
  | some v=>
   rw[J]at B;obtain⟨w2,e2,r2⟩:=nV.some_of (v:=v) (o:=some O) B;cases e2;exact h1 v _ _ J (I.tok _) r2
 ·have J:fF fc k=none:=by
   have B:=rel.val k;rw[hn]at B;cases J:fF fc k with
   | none=>rfl
   | some v=>
    rw[J]at B;obtain⟨w2,e2,_⟩:=nV.some_of (v:=v) (o:=none) B;cases e2
  have Z:∃ q,h'.get? a=some q:=let ⟨q,_,_,hq,_⟩:=M;⟨q,hq⟩
  have aa:=jN fc k z;exact h2 _ J (rY I (by rw[e];exact Ce) U Z (aBc (aS (by omega)) hd (rel.put k Y) M))
end
def aJR(td ty tx:TE):TE:=fun σ H Q=>td σ H fun x H1=>∃ a,x=.ref a∧IsD H1 a∧ty σ H1 fun y H2=>tx σ H2 fun z H3=>∃ fc k,H3 a=some (.dK fc)∧fc.length < 1000∧y=kV k∧
 (∀ v,fF fc k=some v→Q v H3)∧(fF fc k=none→Q z (upd H3 a (.dK (fZ fc k z))))
section
variable{X:Cx}{o e f:Br}{fh ff:Pos}{td ty tx:TE}
theorem aEQ(Y:PE X o td)(he:PE X e ty)(hf:PE X f tx)(m:M2 X o "setdefault" fh e f ff):PE X (.Call (.Attribute o "setdefault" fh) [e,f] [] ff) (aJR td ty tx):=by
 constructor;intro dt s σ H Q I h;refine wpAny_Call_method m.base m.few m.line Ez PySem.F.slot_dict_setdefault PySem.F.type_dict_setdefault (thn (Y dt s σ H _ I h) fun u Z ⟨x,H1,B,rx,a,ex,d,O⟩=>?_);subst ex;obtain rfl:u=AI a:=rx;obtain⟨t1,t2,_⟩:=aBe B d;refine⟨t1,t2,?_⟩;rw[m.trees];refine DN rfl (E3 (DE (thn (he dt Z σ H1 _ B O) fun iv s2 ⟨y,H2,I2,ry,q2⟩=>
  DE (thn (hf dt s2 σ H2 _ I2 q2) fun fv s3 ⟨z,W,I3,J,fc,k,ea,hl,M,U,q4⟩=>FB ?_))))
 subst M;exact aJQ I3 ea hl ry J (fun v w' s4 hv q r4=>⟨v,W,q,r4,U v hv⟩) fun s4 hn q=>⟨z,_,q,J,q4 hn⟩
end
def wR(v d:Ah):HO:=.ext fun h=>h.IsValuesView v d
def aI4(td:TE):TE:=fun σ H Q=>td σ H fun x H1=>∃ d fc,x=.ref d∧H1 d=some (.dK fc)∧∀ v,H1 v=none→Q (.ref v) (upd H1 v (wR v d))
section
variable{X:Cx}{o:Br}{fh ff:Pos}{td:TE}
theorem aDw(U:PE X o td)(q:attributeBase o "values" X.env (eval o X.env)=eval o X.env:=by rfl)(z:(fh.endLine == ff.line)=true:=by rfl):PE X (.Call (.Attribute o "values" fh) [] [] ff) (aI4 td):=by
 constructor;intro dt s σ H Q I h;refine wpAny_Call_method0_late q z (thn (U dt s σ H _ I h) fun v J ⟨x,H1,M,W,d,fc,ex,hd,O⟩=>?_);subst ex;obtain rfl:v=AI d:=W;obtain⟨t1,t2,_⟩:=aBe M (.inl ⟨fc,.inl hd⟩);obtain⟨zz,hds,vs,rel,dd⟩:=zJ M.hok hd;refine⟨"dict","dict.values",Ez,PySem.F.slot_dict_values,PySem.F.type_dict_values,t1,t2,DN rfl (PySem.evalArgs_none ?_)⟩;refine Ga PySem.F.slot_dict_values dd.typeIs PySem.F.entry_dict_values (PySem.F.args_dict_values_1 _) (meets_dict_values (c8 X.prog X.w) d hds) ⟨⟨vs,dd⟩,?_⟩;have hn:=M.hok.fresh (Ap J.heap.objs.size);have B:Heap.IsValuesView (J.heap.push { cls:=.type "dict_values",data:=.fields #[.ref d] }) J.heap.objs.size d:=⟨_,Av _ rfl,rfl,rfl⟩
 refine⟨.ref J.heap.objs.size,_,M.laid (t':=J.toks) (o:=wR J.heap.objs.size d) (fun b u e=>Ag _ e) (Ap _) ⟨B,⟨_,Av _ rfl⟩,fun h1 h2 f g=>?_⟩,rfl,O _ hn⟩;obtain⟨ob,hob,r⟩:=f;exact⟨ob,g ob hob,r⟩
end
section
variable{prog:AD}{w:AY}{A:AU}{v d:Ah}{vs:List (Key×Ac)}
theorem uK(hh:A.handled=none){E:Ac→Af→Prop}{s:Af}{Q:List Ac→Af→Prop}(hv:s.heap.IsValuesView v d)(hm:s.heap.DictOf (c8 prog w) d vs)(hz:vs.length≤1000)
  (h:∀(h':Bm) (tk:Nat),(∀ b u,s.heap.get? b=some u→h'.get? b=some u)→s.heap.objs.size≤h'.objs.size→Q (vs.map (·.2)) { s with heap:=h',toks:=tk }):wpAny (model prog w) A (collect (.ref v)) Q E s:=by
 obtain⟨ov,hov,hcv,hdv⟩:=id hv;obtain⟨od,es,ep,hod,hrest⟩:=id hm;have am:=Aw hov;have O:=Aw hod;unfold collect;apply Aa;apply D7;apply BS Fc;rw[BH Fb];show wpAny _ A.in1 (newList [] >>= fun l=>again (.builtin "list.__iadd__" ⟨[l,.ref v],[]⟩)) _ _ s;apply Aa;refine BV (Ae ⟨Dm Dq _,BS F4 ?_⟩);rw[BH Dq];have Z:(s.heap.push { cls:=.type "list",data:=.seq ([]:List Ac).toArray }).get? v=some ov:=Ag _ hov;have aa:(s.heap.push { cls:=.type "list",data:=.seq ([]:List Ac).toArray }).get? d=some od:=Ag _ hod;have an:(s.heap.push { cls:=.type "list",data:=.seq ([]:List Ac).toArray }).get? s.heap.objs.size=some { cls:=.type "list",data:=.seq ([]:List Ac).toArray }:=Av _ rfl;have e1:Builtin.List.listSameRef (.ref s.heap.objs.size) (.ref v)=false:=by
  show(s.heap.objs.size == v)=false;simpa using CY am
 show wpAny _ A.in1 (Cc (.ref s.heap.objs.size) (.ref v) (.ref s.heap.objs.size)) _ _ _;unfold Cc;refine Aa (BM (T:="dict_values") ⟨ov,Z,hcv⟩ ?_);rw[Ia (by rw[e1];decide)];refine Aa (wpAny_pyIter_values (kvs:=vs) (ep:=ep) (knd:=c8 prog w) ⟨ov,Z,hcv,hdv⟩ ⟨od,es,aa,hrest⟩ ?_);have ag:(s.heap.push { cls:=.type "list",data:=.seq ([]:List Ac).toArray }).objs.size=s.heap.objs.size + 1:=BY _ _;obtain⟨I,hI⟩:∃ I,I=(s.heap.push { cls:=.type "list",data:=.seq ([]:List Ac).toArray }).objs.size:=⟨_,rfl⟩
 dsimp only;have gI:((s.heap.push { cls:=.type "list",data:=.seq ([]:List Ac).toArray }).push { cls:=.type "dict_valueiterator",data:=.fields #[.ref d,.int 0 0,.int vs.length 0,.int ep 0] }).get? I=some { cls:=.type "dict_valueiterator",data:=.fields #[.ref d,.int 0 0,.int vs.length 0,.int ep 0] }:=by
  rw[hI];exact Av _ rfl
 have q:∀ b u,(s.heap.push { cls:=.type "list",data:=.seq ([]:List Ac).toArray }).get? b=some u→((s.heap.push { cls:=.type "list",data:=.seq ([]:List Ac).toArray }).push { cls:=.type "dict_valueiterator",data:=.fields #[.ref d,.int 0 0,.int vs.length 0,.int ep 0] }).get? b=some u:=fun b u e=>Ag _ e;rw[← hI];generalize (s.heap.push { cls:=.type "list",data:=.seq ([]:List Ac).toArray }).push { cls:=.type "dict_valueiterator",data:=.fields #[.ref d,.int 0 0,.int vs.length 0,.int ep 0] }=h2 at gI q ⊢;have Y:=q _ _ Z;have aq:=q _ _ aa;have ac:=q _ _ an;have J:I=s.heap.objs.size + 1:=by rw[hI,ag]
 refine Aa (Ba ?_);unfold Builtin.List.listLengthHint;refine Aa (DP (T:="dict_values") ⟨ov,Y,hcv⟩ F.slot_dict_values_len.lookup ?_);generalize hid:("dict_values.__len__":String)=ak
 wp_delta
 rw[show splitId ak=some ("dict_values","__len__") from by subst hid;decide];subst hid;refine Aa (BT (b:=true) (T:="dict_values") ⟨ov,Y,hcv⟩ (by rw[Gx];kernel_rfl) ?_);refine Aq (by rfl) ?_;refine BG (by decide) ?_;refine Aa (BM (T:="dict_values") ⟨ov,Y,hcv⟩ ?_);refine Ae ?_;refine BG (by decide) ?_;refine Aa (CK ?_);have ai:d≠I:=by rw[J];exact AC (Bj O)
 have ap:s.heap.objs.size ∉ [I,d]:=by
  rw[J];simp only[Ao,Az,or_false,not_or];exact⟨AC (B1 _),CY O⟩
 apply Aa;show wpAny _ A.in1 (updateSeq s.heap.objs.size (·.push .none) >>= fun _=>updateSeq s.heap.objs.size (·.pop)) _ _ _
 apply Aa;refine Fe ac rfl ?_;have ab:=B2 (Bc (·.push Cd)) ac rfl
 refine Fe ab rfl ?_;have ao:=B2 (Bc (·.pop)) ab rfl
 have U:∀ b u,b≠s.heap.objs.size→h2.get? b=some u→((h2.update s.heap.objs.size (Bc (·.push Cd))).update s.heap.objs.size (Bc (·.pop))).get? b=some u:=
  fun b u nb e=>(CJ _ _ (Ef nb)).trans ((CJ _ _ (Ef nb)).trans e)
 have W:=Walks.dictValues (prog:=prog) (w:=w) (knd:=c8 prog w) (A:=A.in1) hh I d ai vs ep;have ah:I≠s.heap.objs.size:=by rw[J];exact CY (B1 _)
 refine Ae ⟨Dm F.plain_extend_loop _,codeAny_extend_loopS (FC W) (aS (by omega)) s.heap.objs.size ap _ _ 0 _ _ _ rfl (A3 _) ⟨⟨_,U _ _ ah gI,rfl,rfl⟩,⟨od,es,U _ _ (AC O) aq,hrest⟩⟩ ao (ItemsOf.nil _) fun s' z c' B af M=>?_⟩;show wpAny _ A (load s.heap.objs.size >>= _) _ _ s';apply Aa;refine Gu af (Ae ?_);obtain⟨h',g',d',tk',os'⟩:=s';have g1:=B.gens;have g2:=B.os;have g3:=B.drawn;dsimp only at g1 g2 g3;subst g1 g2 g3;have ae:z.toList=vs.map (·.2):=by
  apply CC;intro j;by_cases hj:j < z.size
  ·obtain⟨k,hk⟩:=M.2 j z[j] (by simp[hj]);rw[AL,hk];simp[hj]
  ·have:=M.1;rw[AV (by simpa using hj),AV (by rw[Ad];omega)]
 rw[ae];refine h h' tk' (fun b u e=>?_) (Db (Aw af));have ad:=Aw e;have nb:b≠s.heap.objs.size:=AC ad;have nI:b≠I:=by rw[J];exact AC (Bj ad)
 exact B.heap b u (by simp[nb,nI]) (U b u nb (q b u (Ag _ e)))
end
def aJS(K:Ai)(sp:Sp)(ta:TA):TE:=fun σ H Q=>ta σ H fun vs H1=>∃(l:Ah) (xs:List V) (KR:V→K3→Prop),vs=[V.ref l]∧(SqL K H1 l xs∨∃ d fc,H1 l=some (wR l d)∧H1 d=some (.dK fc)∧xs=fc.map (·.2))∧xs.length < 64∧
 (∀ y∈xs,∀(H':Hp) (Q:VK),bS H1 H'→(∀ t a b c H'',bS H' H''→H'' t=some (.tup [.int a,.int b,.str c])→KR y (a,b,c)→Q (.ref t) H'')→sp [y] H' Q E0)∧
 ∀ D (kk:List K3) (p:List Nat) H',bS H1 H'→H1 D=none→kk.length=xs.length→(∀ i,i < xs.length→KR (xs.getD i .non) (kk.getD i k0))→aAi kk p→H' D=some (.lst (p.map fun i=>xs.getD i .non))→Q (.ref D) H'
theorem aGc{fc:List (Key×V)}{vs:List (Key×Ac)}(r:KV fc vs):cW (fc.map (·.2)) (vs.map (·.2)):=by
 induction r with
 | nil=>exact .nil
 | cons h _ q=>exact .cons h.2 q
section
variable{X:Cx}{e:Br}{ta:TA}
theorem uL{k:Nat}{f:Ah}{fd:AK}{x g:Str}{sp:Sp}{p pk kp pos:Pos}(F:cQ X.prog X.w X.K X.mg X.base CX0 k f fd [x] sp)(hr:cS (k + 2) X.A)(hb:dY X.K fd [x] [])(hg:Gl X "sorted")(hm:X.mg "sorted"=none)(aa:Gl X g)(Z:X.mg g=some (.ref f))(ha:PA X [e] ta)
  (hd:(g == ("__debug__":Str))=false:=by decide) (he:starEach [e] X.env=[(false,eval e X.env)]:=by rfl):
  PE X (.Call (.Name "sorted" p) [e] [⟨some "key",.Name g pk,kp⟩] pos) (aJS X.K sp ta):=by
 constructor;intro dt s σ H Q I h;refine DT (sU I hg hm boot_sorted ?_ (by decide) (by decide));refine callWith_builtin_kwB (by rw[he];rfl) (by rfl) ?_;have z:=ha pos dt s σ H _ I h
 ·rw[he]at z ⊢;refine evalArgs_kwB (by rfl) (thn z fun us s1 ⟨vs,H1,I1,r,q1⟩=>?_);obtain⟨l,xs,KR,rfl,O,h64,hkey,q⟩:=q1;have Y:PK X [⟨some "key",.Name g pk,kp⟩] (aB5 (tC (.ref f)) aHA):=aFX (dE aa Z rfl hd) aHB;refine thn (Y pos dt s1 σ H1 (fun zs H2=>zs=[V.ref f]∧H2=H1) I1 ⟨rfl,rfl⟩) fun ws s2 ⟨zs,H2,J,rz,ez,eH⟩=>?_;subst ez eH;cases rz with
  | cons r1 r2=>
   cases r1;cases r2;cases r with
   | cons r3 r4=>
    cases r3;cases r4;rcases O with O | ⟨d,fc,O,W,rfl⟩
    ·obtain⟨its,rv,pl,_⟩:=J.list O;have M:=rv.length;refine aAj (KR:=KR) F hr hb J rv (fun B Q' E' hB U=>?_) h64 hkey q;refine collect_list pl.isList (U _ s2.toks (fun b u e=>?_) ?_) (aS (by omega))
     ·rw[Bp _ _ _ _ (AC (Aw e))];exact Ag _ e
     ·rw[C6,BY];exact CZ _
    ·obtain⟨hv,_,_⟩:dA X.prog X.w H2 s2.heap l (wR l d):=J.hok l _ O;obtain⟨_,_,vs,rel,dd⟩:=zJ J.hok W;have M:=rel.length;rw[Ad]at h64;refine aAj (KR:=KR) F hr hb J (aGc rel) (fun B Q' E' hB U=>?_) (by rw[Ad];exact h64) hkey q;exact uK hB hv dd (by omega) fun h' tk k1 k2=>U h' tk k1 k2
end
theorem aGd{X:Cx}{B:List B6}{h₀:ExceptHandler}{M:List ExceptHandler}{pos:Pos}{t:TS}(J:∀ e s,X.xe e s→False)(h:PSs X B t):PS X (.Try B (h₀ :: M) [] [] pos) t:=by
 constructor;intro dt s σ H D I q;refine wpAny_Try_except (B8 (h dt s σ H D I q) (fun f F r=>?_) fun e F z=>(J e F z).elim);cases f with
 | next=>exact Eu r
 | _=>exact r
def aDx:Nat→Aj→Prop
 | 0,d=>∀ ds,d≠.tuple ds∧d≠.list ds
 | n + 1,d=>(∀ ds,d≠.tuple ds∧d≠.list ds)∨∃ ds,d=.tuple ds∧∀ e∈ds,aDx n e
theorem oO:∀{ds:List Aj}{d:Aj},AZ ds=false→d∈ds→d.hasDict=false
 | [],_,_,h=>by simp at h
 | e :: ds,d,h,hm=>by
  have h':(e.hasDict || AZ ds)=false:=h;rw[E7]at h';rcases Ao.mp hm with rfl | hm
  ·exact h'.1
  ·exact oO h'.2 hm
theorem aGe{X:Cx}{dt:List (Ah×Obj)}{σ:St}{H:Hp}{s:Af}(I:Inv X dt σ H s):∀(n:Nat) {A:AU}{d:Aj}{x y:V}{u v:Ac},aDx n d→d.hasDict=false→A.units + 4 * n + 4 < cLine→RdV false H x d→RdV false H y d→c4 x u→c4 y v→Fp A s u v true:=by
 have M:∀{A:AU} {d:Aj} {x y:V} {u v:Ac},(∀ ds,d≠.tuple ds∧d≠.list ds)→d.hasDict=false→RdV false H x d→RdV false H y d→c4 x u→c4 y v→Fp A s u v true:=by
  intro A d x y u v hl hd U q F B;cases U with
  | non=>cases q;cases F;cases B;exact Ey _
  | bl b=>cases q;cases F;cases B;exact Ey _
  | int i=>
   cases q;have:=p5 (A:=A) (s:=s) F B rfl rfl;simpa[eqV]using this
  | str z hz=>
   cases q;have:=p5 (A:=A) (s:=s) F B rfl rfl;simpa[eqV]using this
  | lst hm e hz r=>cases hm
  | tup e hz r=>exact absurd rfl (hl _).1
  | dct hm e=>simp[Em]at hd
 intro n
 induction n with
 | zero=>intro A d x y u v O hd hu U q F B;exact M O hd U q F B
 | succ n ih=>
  intro A d x y u v O hd hu U q F B;rcases O with O | ⟨ds,rfl,O⟩
  ·exact M O hd U q F B
  ·cases U with
   | @tup a xs _ ea ah r1=>
   cases q with
   | @tup b ys _ eb af Z=>
   cases F;cases B;by_cases W:a=b
   ·subst W;exact Ey _
   ·obtain⟨its,q1,t1,_⟩:=I.tuple (bF ea);obtain⟨its2,q2,t2,_⟩:=I.tuple (bF eb);have l1:=q1.length;have l2:=q2.length;have m1:=r1.len;have m2:=Z.len;have key:=SeqAt.RcAt.tuples (A:=A) (e:=fun _=>true) t1 t2 (by omega) (fun j h1 h2=>?_)
    ·have e1:((AO (min its.toArray.size its2.toArray.size)).all (fun _=>true) && its.toArray.size == its2.toArray.size)=true:=by
      simp;omega
     rw[e1]at key;exact SeqAt.EqAt.of_refs W key
    ·have j1:j < xs.length:=by simpa[l1]using h1
     have j2:j < ys.length:=by simpa[l2]using h2
     obtain⟨d1,hd1,rd1⟩:=r1.at (Ab j1);obtain⟨d2,hd2,rd2⟩:=Z.at (Ab j2);rw[hd1]at hd2;cases hd2;obtain⟨u1,eu1,ru1⟩:=q1.get (Ab j1);obtain⟨u2,eu2,ru2⟩:=q2.get (Ab j2);have g1:its.toArray[j]=u1:=by
      rw[Ab (by simpa using h1)]at eu1;simpa using eu1
     have g2:its2.toArray[j]=u2:=by
      rw[Ab (by simpa using h2)]at eu2;simpa using eu2
     rw[g1,g2];have J:=AR hd1;have Y:d1.hasDict=false:=oO (show AZ ds=false from hd) J;exact ih (O d1 J) Y (by show A.units + 1 + 4 * n + 4 < _;omega) rd1 rd2 ru1 ru2
theorem wS{X:Cx}{n:Nat}(hu:X.A.units + 4 * n + 8 < cLine):OpR X (compareOp .NotEq) (fun x y H Q=>∃ a b ds,x=.ref a∧y=.ref b∧RdV false H x (.tuple ds)∧RdV false H y (.tuple ds)∧(∀ e∈ds,aDx n e)∧AZ ds=false∧Q (.bl false) H):=by
 intro dt s σ H x y v u Q I rx W h;obtain⟨a,b,ds,rfl,rfl,h1,h2,hp,hd,q⟩:=h;cases rx;cases W;cases h1 with
 | @tup _ xs _ ea aa J=>
 cases h2 with
 | @tup _ ys _ Z U B=>
 obtain⟨its,q1,t1,_⟩:=I.tuple (bF ea);obtain⟨its2,q2,t2,_⟩:=I.tuple (bF Z);have l1:=q1.length;have l2:=q2.length;have m1:=J.len;have m2:=B.len;refine SeqAt.RcNeAt.tuples (A:=X.A) (e:=fun _=>true) t1 t2 (by omega) (fun j h1 h2=>?_) X.prog X.w _ _ ?_
 ·have F:j < xs.length:=by simpa[l1]using h1
  have M:j < ys.length:=by simpa[l2]using h2
  obtain⟨d1,hd1,rd1⟩:=J.at (Ab F);obtain⟨d2,hd2,rd2⟩:=B.at (Ab M);rw[hd1]at hd2;cases hd2;obtain⟨u1,eu1,ru1⟩:=q1.get (Ab F);obtain⟨u2,eu2,ru2⟩:=q2.get (Ab M);have O:its.toArray[j]=u1:=by
   rw[Ab (by simpa using h1)]at eu1;simpa using eu1
  have g2:its2.toArray[j]=u2:=by
   rw[Ab (by simpa using h2)]at eu2;simpa using eu2
  rw[O,g2];have z:=AR hd1;exact aGe I n (hp d1 z) (oO hd z) (by show X.A.units + 1 + 4 * n + 4 < _;omega) rd1 rd2 ru1 ru2
 ·have Y:(!((AO (min its.toArray.size its2.toArray.size)).all (fun _=>true) && its.toArray.size == its2.toArray.size))=false:=by
   simp;omega
  rw[Y];exact⟨.bl false,H,I,rfl,q⟩
inductive Fm:V→Str→Prop
 | str (z:Str) (h:z.length≤sizeLine):Fm (.str z) z
 | int (i:Int) (h:i.natAbs.log2 < 1920):Fm (.int i) (toString i)
abbrev TJ:=Str→St→Hp→VK→Prop
structure PJ(X:Cx)(es:List Br)(t:TJ):Prop where
 run:∀(dt:List (Ah×Obj)) (s:Af) (σ:St) (H:Hp) (Q:VK) (acc:Str),Inv X dt σ H s→t acc σ H Q→wpAny (model X.prog X.w) X.A (joinParts acc (evalEach es X.env)) (EP X dt σ Q) X.xe s
inductive J0(acc:Str)(σ:St)(H:Hp)(Q:VK):Prop
 | mk (h:acc.length≤sizeLine) (q:Q (.str acc) H):J0 acc σ H Q
inductive JC(z:Str)(t:TJ)(acc:Str)(σ:St)(H:Hp)(Q:VK):Prop
 | mk (h:(acc ++ z).length≤sizeLine) (q:t (acc ++ z) σ H Q):JC z t acc σ H Q
inductive JF(t:TJ)(acc:Str)(σ:St)(x:V)(H:Hp)(Q:VK):Prop
 | mk (z:Str) (f:Fm x z) (h:(acc ++ z).length≤sizeLine) (q:t (acc ++ z) σ H Q):JF t acc σ x H Q
section
variable{X:Cx}{es:List Br}{t:TJ}{te:TE}
end
open PySem PySem.Spec PyProof.Rows PySem.Builtin PySem.Builtin.Str
inductive aGf(x:V)(xs:List V)(H:Hp)(Q:VK):Prop
 | mk (z y:PySem.Str) (h0:x=.str z) (h1:xs=[.str y]) (hy:(y.length == 0)=false) (hz:z.length + 2≤sizeLine) (q:∀ L,H L=none→Q (.ref L) (upd H L (.lst ((Txt.split z y).map V.str)))):aGf x xs H Q
open PySem PySem.Spec PyProof.Rows PySem.NumText
inductive aI5(xs:List V)(H:Hp)(Q:VK):Prop
 | mk (x:V) (z:Str) (h0:xs=[x]) (f:Fm x z) (q:Q (.str z) H):aI5 xs H Q
inductive aI6(xs:List V)(H:Hp)(Q:VK):Prop
 | mk (z:Str) (n:Int) (h0:xs=[.str z]) (hn:PySem.intText? z=some n) (hl:z.length≤640) (q:Q (.int n) H):aI6 xs H Q
section
variable{prog:AD}{w:AY}{K:Type}[DecidableEq K]{knd:HeapKind prog w K}{A:AU}{E:Ac→Af→Prop}{s:Af}
end
open PySem PySem.SetTable
inductive aER(t:Da):Probe→Nat→Prop
 | here {p:Probe} {n:Nat}:t.slot p.j=.empty→aER t p n
 | step {p:Probe} {n:Nat}:aER t (t.advance p) n→aER t p (n + 1)
def aJ2(t:Da)(i perturb:Nat):Probe:={ j:=i,more:=runEnd t.mask i - i,i:=i,perturb:=perturb,dummy:=none }
def orb(m:Nat):Nat→Nat→Nat
 | 0,i=>i
 | k + 1,i=>orb m k ((i * 5 + 1) % m)
structure aI7(t:Da)(n:Nat):Prop where
 size:t.place.size=n
 nod:t.dummies=#[]
 mask:(t.mask=7∧n≤4)∨(t.mask=31∧n≤18)
inductive aES(owner:Array (Option Nat)):Nat→Nat→Nat→Prop
 | here {i p n:Nat}:(owner.getD i (some 0)).isNone=true→aES owner i p (n + 1)
 | step {i p n:Nat}:aES owner (SetTable.leap 31 i p).1 (SetTable.leap 31 i p).2 n→aES owner i p (n + 1)
structure aKf(owner:Array (Option Nat))(k:Nat):Prop where
 size:owner.size=32
 perm:((AO 32).filterMap fun j=>owner.getD j none).Perm (AO k)
section
variable{prog:AD}{w:AY}{A:AU}{E:Ac→Af→Prop}{s:Af}
inductive aG6(prog:AD)(w:AY)(h:Bm)(ks:List (List Str))(v:Ac):Prop
 | mk (b:_) (k:_) (q0:v=.ref b) (q1:IsTupleKey (strKind prog w) h k b) (q2:k∈ks):aG6 prog w h ks v
def ElT(prog:AD)(w:AY)(h:Bm)(ks:List (List Str))(v:Ac):Prop:=aG6 prog w h ks v
end
section
variable{prog:AD}{w:AY}{A:AU}{E:Ac→Af→Prop}{s:Af}
structure aKg(prog:AD)(w:AY)(h:Bm)(a:Ah)(rs:List Ah)(ks:List (List Str))(o:Obj)(es:Array (Int×Ac))(ep:Nat)(t:Da):Prop where
 at_:h.get? a=some o
 ex:o.ExactSet
 data:o.data=.set es ep t
 perm:(es.toList.map (·.2)).Perm (rs.map AI)
 els:∀ e∈es.toList,ElT prog w h ks e.2
 tab:aI7 t es.size
 led:t9 w es t
end
abbrev P2:=Str×Str
inductive aCq(h:Bm)(v:Ac)(x:P2):Prop
 | mk (t:_) (u1:_) (u2:_) (q0:v=.ref t) (q1:E2 h t #[.str x.1 u1,.str x.2 u2]):aCq h v x
def aJ3(h:Bm)(v:Ac)(x:P2):Prop:=aCq h v x
section
variable{prog:AD}{w:AY}{A:AU}{E:Ac→Af→Prop}{s:Af}
end
section
variable{prog:AD}{w:AY}{A:AU}{E:Ac→Af→Prop}{s:Af}
end
def aET(H:Hp)(r:Ah):P2:=match H r with
 | some (.tup [.str x,.str y])=>(x,y)
 | _=>("","")
def aJ4(H:Hp)(rs:List Ah):Prop:=∀ r∈rs,H r=some (.tup [.str (aET H r).1,.str (aET H r).2])
section
variable{P:AD}{w:AY}{H:Hp}{h:Bm}{a:Ah}
end
section
variable{X:Cx}{dt:List (Ah×Obj)}{σ:St}{H:Hp}{s:Af}
end
section
variable{prog:AD}{w:AY}{A:AU}{E:Ac→Af→Prop}{s:Af}{d I:Ah}{od:Obj}{es:Array DictEntry}{ep i:Nat}
end
section
variable{X:Cx}
end
section
variable{X:Cx}{e st:Br}{te ts:TE}{pos p2:Pos}
end
structure Fly(P:AD)(w:AY)(outer:List Env)(H H':Hp)(s:Af)(x:Ah)(C:Ac)(s':Af):Prop where
 os:s'.os=s.os
 bare:EE s'.gens
 ex:∃(B:Bm) (a0:Ac),Heap.FlyingW B outer x C a0 s'.heap∧HOk P w H' B∧(∀ b o,s.heap.get? b=some o→H b=none→b ∉ frs outer→B.get? b=some o)∧∀ b o,s.heap.get? b=some o→b ∉ frs outer→∃ o',B.get? b=some o'
 frf:∀ b∈frs outer,H b=none
 slot:∀ b o,s.heap.get? b=some o→H b=none→b∈frs outer→∃ sl,s'.heap.get? b=some { o with slots:=sl }
 free:∀ b o,s.heap.get? b=some o→H b=none→H' b=none
 tups:∀ b xs,H b=some (.tup xs)→H' b=some (.tup xs)
 frzs:∀ b o u,H b=some (.frz o u)→H' b=some (.frz o u)
 tbls:∀ b ps,H b=some (.tbl ps)→∃ more,H' b=some (.tbl (ps ++ more))
def CXr(P:AD)(w:AY):CXT:=fun outer H s E e s'=>∃(x:Ah) (C:Ac) (H':Hp),e=.ref x∧Fly P w outer H H' s x C s'∧E C none H'
section
variable{P:AD}{w:AY}{K:Ai}{mg:Str→Option Ac}{base:Bm}{N:List Str}{qual:Str}{scope:DM}{f:Ah}{cd:Ac}{A:AU}{outer:List Env}{s:Af}{H:Hp}{E:XK}
end
structure aJ5(h:Bm)(C:Ah)(bmB:List Ac)(newId:String)(tl:List Ac)(N':Ah)(nm q:Str)(bs:List Ac)(hdct:Bool)(sn:List Str)(sub:List Ac)(ab:Bool)(col:Option Bool)(dd:Option Ah)(k0 k1 k2 k3 k5:Option Ac)(mN:Str→Option Ac):Prop where
 ob:h.get? C=some (excClassObj nm q C N' bs tl hdct sn sub ab col dd k0 k1 k2 k3 k5 newId)
 ns:h.Ns N' mN
 ni:mN "__init__"=none
 tl:OwnTail h bmB tl
section
variable{P:AD}{w:AY}{K:Ai}{mg:Str→Option Ac}{base:Bm}{N:List Str}{qual:Str}{scope:DM}{f:Ah}{cd:Ac}{A:AU}{outer:List Env}{s:Af}{H:Hp}{E:XK}
end
def aGg:Bool→BQ→Array BQ→Nat→Nat→Nat→StateT Bo Sem (Option Nat):=sortPriv% PySem.Builtin.gallop
def aEU:Array BQ→Array BQ→StateT Bo Sem (Array BQ):=sortPriv% PySem.Builtin.mergeLo
def aEV:Array BQ→Array BQ→StateT Bo Sem (Array BQ):=sortPriv% PySem.Builtin.mergeHi
section
variable{prog:AD}{w:AY}{A:AU}{E:Ac→Af→Prop}{s:Af}{κ:Dk}{it:Array BQ}
def oP(prog:AD)(w:AY)(A:AU)(s:Af)(κ:Dk)(it:Array BQ):Prop:=
 ∀ x y,x∈it.toList→y∈it.toList→∀ C:Bool→Af→Prop,(∀ b,C b s)→wpAny (model prog w) A (keyLt' κ x.1 y.1) C (fun _ _=>False) s
theorem fQ{arr:Array BQ}{i:Nat}{p:BQ}{st:Bo}{Q:BQ→Bo→Prop}(hi:arr[i]?=some p)(h:Q p st):wpS (model prog w) A E s (elem' arr i) Q st:=by
 rw[elem'_eq,hi];exact AM h
variable(hc:oP prog w A s κ it)
include hc
theorem uM{x y:BQ}{st:Bo}{Q:Option Bool→Bo→Prop}(B:kindOf st=κ)(z:x∈it.toList)(q:y∈it.toList)(h:∀ b,Q (some b) st):wpS (model prog w) A E s (lt' x y) Q st:=by
 rw[lt'_eq];refine Ax (Ex ?_);rw[B];refine Ax (Fu (El (B8 (hc x y z q (fun b s'=>s'=s) fun _=>rfl) (fun b s' e=>⟨e,?_⟩) fun _ _ e=>e.elim)));exact AM (h b)
theorem g9{left:Bool}{key:BQ}{arr:Array BQ}{base n J:Nat}{st:Bo}{Q:Option Nat→Bo→Prop}(M:key∈it.toList)(U:∀ i,i < n→∃ p,arr[base + i]?=some p∧p∈it.toList)(hh:J < n)(hk:kindOf st=κ)
  (h:∀ k,k≤n→Q (some k) st):wpS (model prog w) A E s (aGg left key arr base n J) Q st:=by
 have O:∀(i:Nat) (Y:Option Bool→Bo→Prop),i < n→(∀ b,Y (some b) st)→wpS (model prog w) A E s (do
   let x ← elem' arr (base + i)
   if left=true then lt' x key else do
    let r ← lt' key x
    pure (r.map fun b=>!b)) Y st:=fun i Y hi q=>by
  obtain⟨p,e,hp⟩:=U i hi;refine Ax (fQ e ?_);split
  ·exact uM hc hk hp M q
  ·exact Ax (uM hc hk M hp fun b=>AM (q _))
 refine Ax (O J _ hh fun b=>?_);dsimp only;split <;>
 ·refine Ax (C9 (B9 (I:=fun _ c B=>B=st∧c.1=none) (Q:=fun c B=>B=st∧c.1=none) ?_ (fun c B z=>z) ⟨rfl,rfl⟩) ?_)
  ·rintro x ⟨r,lo,Z⟩ B _ _ ⟨rfl,z⟩;cases z;dsimp only;split
   ·exact AM ⟨rfl,rfl⟩
   ·refine Ax (O _ _ (by omega) fun b=>?_);dsimp only;split <;> exact AM ⟨rfl,rfl⟩
  ·rintro⟨r,lo,Z⟩ B ⟨rfl,z⟩;cases z;dsimp only;refine Ax (C9 (B9 (I:=fun _ c F=>F=B∧c.1=none∧c.2.2≤n) (Q:=fun c F=>F=B∧c.1=none∧c.2.2≤n) ?_ (fun c B z=>z) ⟨rfl,rfl,?_⟩) ?_)
   ·rintro x ⟨r,lo,hi⟩ F _ _ ⟨rfl,z,W⟩;cases z;dsimp only at W ⊢;split
    ·exact AM ⟨rfl,rfl,W⟩
    ·refine Ax (O _ _ (by omega) fun b=>?_);dsimp only;split
     ·exact AM ⟨rfl,rfl,W⟩
     ·exact AM ⟨rfl,rfl,by dsimp only;omega⟩
   ·dsimp only;omega
   ·rintro⟨r,lo,hi⟩ F ⟨rfl,z,W⟩;cases z;exact AM (h _ W)
end
theorem pr3{α β γ:Type}{P:α×β×γ→Prop}(h:∀ a b c,P (a,b,c)):∀ x,P x:=fun⟨a,b,c⟩=>h a b c
def Pl(a b out:Array BQ)(ia ib:Nat):Prop:=(out.toList ++ (a.toList.drop ia ++ b.toList.drop ib)).Perm (a.toList ++ b.toList)
section
variable{a b out:Array BQ}{ia ib k:Nat}
theorem wT{c:Array BQ}{i:Nat}{p:BQ}(e:c[i]?=some p):c.toList.drop i=p :: c.toList.drop (i + 1):=by
 have q:c.toList[i]?=some p:=by rw[Dd];exact e
 obtain⟨h1,h2⟩:=AS.mp q;rw[← h2];exact List.drop_eq_getElem_cons h1
theorem e8{c:Array BQ}{i j:Nat}:(c.extract i j).toList=(c.toList.drop i).take (j - i):=by simp
theorem sG{c:Array BQ}{i:Nat}:(c.extract i c.size).toList=c.toList.drop i:=by
 rw[e8,Bu];simp
theorem Pl.pushA{p:BQ}(h:Pl a b out ia ib)(e:a[ia]?=some p):Pl a b (out.push p) (ia + 1) ib:=by
 unfold Pl at h ⊢;rw[wT e]at h;rw[CB,Bf];exact h
theorem Pl.pushB{p:BQ}(h:Pl a b out ia ib)(e:b[ib]?=some p):Pl a b (out.push p) ia (ib + 1):=by
 unfold Pl at h ⊢;rw[wT e]at h;rw[CB,Bf];exact(Bv _ (List.perm_middle (l₁:=a.toList.drop ia) (a:=p)).symm).trans h
theorem Pl.runA(h:Pl a b out ia ib):Pl a b (out ++ a.extract ia (ia + k)) (ia + k) ib:=by
 unfold Pl at h ⊢;rw[Bi,e8,DK,Bf,← Bf (Ds _ _),← E6,DY];exact h
theorem Pl.runB(h:Pl a b out ia ib):Pl a b (out ++ b.extract ib (ib + k)) ia (ib + k):=by
 unfold Pl at h ⊢;refine Du ?_ h;rw[Bi,e8,DK,Bf];refine Bv _ ?_;refine(En _ _ _).trans (Bv _ ?_);rw[← E6,DY]
theorem Pl.fin(h:Pl a b out ia ib):(out ++ a.extract ia a.size ++ b.extract ib b.size).Perm (a ++ b):=by
 rw[Bb,Bi,Bi,Bi,sG,sG,Bf];exact h
theorem Pl.fin2(h:Pl a b out ia ib):(out ++ b.extract ib b.size ++ a.extract ia a.size).Perm (a ++ b):=by
 rw[Bb,Bi,Bi,Bi,sG,sG,Bf];exact(Bv _ CP).trans h
theorem Pl.start{p:BQ}(e:b[0]?=some p):Pl a b #[p] 0 1:=by
 have h:Pl a b #[] 0 0:=DD _;exact h.pushB e
end
theorem bX{M:Gz}{A:AU}{E:Ac→Af→Prop}{s:Af}{σ α:Type}{c:Prop}[Decidable c]{z q:StateT σ Sem α}{Q:α→σ→Prop}{st:σ}(h1:c→wpS M A E s z Q st)(h2:¬ c→wpS M A E s q Q st):wpS M A E s (if c then z else q) Q st:=by
 split
 ·exact h1 ‹_›
 ·exact h2 ‹_›
structure Sg(st st':Bo):Prop where
 kind:kindOf st'=kindOf st
 arr:arrOf st'=arrOf st
 pend:pendingOf st'=pendingOf st
 fail:failedOf st'=failedOf st
theorem Sg.refl(st:Bo):Sg st st:=⟨rfl,rfl,rfl,rfl⟩
theorem iK{i j:Nat}(h:¬ (i == j)=true):i≠j:=fun z=>h (by rw[z];exact beq_self_eq_true _)
structure GL(a b:Array BQ)(x:Nat)(out:Array BQ)(ia ib:Nat):Prop where
 pl:Pl a b out ia ib
 la:ia + 1 < a.size
 lb:ib < b.size
 on:x≤ia + ib
section
variable{prog:AD}{w:AY}{A:AU}{E:Ac→Af→Prop}{s:Af}{κ:Dk}{it:Array BQ}(hc:oP prog w A s κ it)
include hc
theorem aAk{a b:Array BQ}{st:Bo}{Q:Array BQ→Bo→Prop}(ha:1≤a.size)(hb:1≤b.size)(iA:∀ p∈a.toList,p∈it.toList)(iB:∀ p∈b.toList,p∈it.toList)(hk:kindOf st=κ)
  (h:∀ out B,out.Perm (a ++ b)→Sg st B→Q out B):wpS (model prog w) A E s (aEU a b) Q st:=by
 have gA:∀ i,i < a.size→∃ p,a[i]?=some p∧p∈it.toList:=fun i hi=>⟨_,A4 hi,iA _ (by simp)⟩
 have gB:∀ i,i < b.size→∃ p,b[i]?=some p∧p∈it.toList:=fun i hi=>⟨_,A4 hi,iB _ (by simp)⟩
 refine Ax (Fu (CK ⟨rfl,?_⟩));obtain⟨p0,e0,_⟩:=gB 0 hb;refine Ax (fQ e0 ?_);refine bX (fun _=>AM (h _ _ (Pl.start e0).fin (Sg.refl _))) fun n1=>?_;have aA:1≠b.size:=fun z=>n1 (by rw[← z];rfl);refine bX (fun _=>AM (h _ _ (Pl.start e0).fin2 (Sg.refl _))) fun n2=>?_;have ap:1≠a.size:=fun z=>n2 (by rw[← z];rfl);refine Ax (Ex ?_);dsimp only;have O:∀(i:Nat) (U:BQ→Bo→Prop) (B:Bo),i < a.size→(∀ p,a[i]?=some p→p∈it.toList→U p B)→wpS (model prog w) A E s (elem' a i) U B:=fun i U B hi q=>by
  obtain⟨p,e,Z⟩:=gA i hi;exact fQ e (q p e Z)
 have J:∀(i:Nat) (U:BQ→Bo→Prop) (B:Bo),i < b.size→(∀ p,b[i]?=some p→p∈it.toList→U p B)→wpS (model prog w) A E s (elem' b i) U B:=fun i U B hi q=>by
  obtain⟨p,e,Z⟩:=gB i hi;exact fQ e (q p e Z)
 refine Ax (C9 (B9 (I:=fun x c B=>c.1=none∧GL a b x c.2.1 c.2.2.1 c.2.2.2.1∧Sg st B) (Q:=fun c B=>∃ r,c.1=some r∧r.Perm (a ++ b)∧Sg st B) ?_ (fun c B z=>?_) ⟨rfl,⟨Pl.start e0,by dsimp only;omega,by dsimp only;omega,by dsimp only;omega⟩,Sg.refl _⟩) ?_)
 ·refine fun x=>pr3 fun r out=>pr3 fun ia ib mg B _ hx=>?_;rintro⟨z,g,sg⟩;cases z;dsimp only at g ⊢;refine Ax (C9 (B9 (I:=fun y c B=>c.1=none∧GL a b (x + y) c.2.1 c.2.2.1 c.2.2.2.1∧Sg st B) (Q:=fun c B=>Sg st B∧((∃ r,c.1=some r∧r.Perm (a ++ b))∨(c.1=none∧GL a b (x + 1) c.2.1 c.2.2.1 c.2.2.2.1))) ?_ (fun c B z=>?_) ⟨rfl,g,sg⟩) ?_)
  ·refine fun y=>pr3 fun r out=>pr3 fun ia ib=>Prod.rec fun ac bc B _ hy=>?_;rintro⟨z,g,sg⟩;cases z;obtain⟨hP,h1,h2,h3⟩:=g;dsimp only at hP h1 h2 h3 ⊢;refine Ax (J _ _ _ h2 fun p ep Z=>Ax (O _ _ _ (by omega) fun q eq hq=>Ax (uM hc (sg.kind.trans hk) Z hq fun bw=>?_)));refine bX (fun _=>?_) fun _=>?_
   ·refine Ax (J _ _ _ h2 fun p' F _=>?_);refine bX (fun _=>AM ⟨sg,.inl ⟨_,rfl,(hP.pushB F).fin⟩⟩) fun n=>?_;have n':ib + 1≠b.size:=fun z=>n (by rw[z];exact beq_self_eq_true _);exact bX (fun _=>AM ⟨sg,.inr ⟨rfl,hP.pushB F,h1,by dsimp only;omega,by dsimp only;omega⟩⟩) fun _=>AM ⟨rfl,⟨hP.pushB F,h1,by dsimp only;omega,by dsimp only;omega⟩,sg⟩
   ·refine Ax (O _ _ _ (by omega) fun p' F _=>?_);refine bX (fun _=>AM ⟨sg,.inl ⟨_,rfl,(hP.pushA F).fin2⟩⟩) fun n=>?_;have n':ia + 1 + 1≠a.size:=fun z=>n (by rw[z];exact beq_self_eq_true _);exact bX (fun _=>AM ⟨sg,.inr ⟨rfl,hP.pushA F,by dsimp only;omega,h2,by dsimp only;omega⟩⟩) fun _=>AM ⟨rfl,⟨hP.pushA F,by dsimp only;omega,h2,by dsimp only;omega⟩,sg⟩
  ·obtain⟨z1,⟨hP,h1,h2,h3⟩,sg⟩:=z;exact⟨sg,.inr ⟨z1,hP,h1,h2,by omega⟩⟩
  ·rintro⟨r,out,ia,ib,ac,bc⟩ B ⟨sg,⟨r',z,hr⟩ | ⟨z,g⟩⟩
   ·cases z;exact AM ⟨_,rfl,hr,sg⟩
   ·cases z;dsimp only at g ⊢;refine Ax (Fu (CK ⟨rfl,?_⟩));refine Ax (C9 (B9 (I:=fun y c B=>c.1=none∧GL a b (x + 1) c.2.1 c.2.2.1 c.2.2.2.1∧Sg st B) (Q:=fun c B=>Sg st B∧((∃ r,c.1=some r∧r.Perm (a ++ b))∨(c.1=none∧GL a b (x + 1) c.2.1 c.2.2.1 c.2.2.2.1))) ?_ (fun c B z=>⟨z.2.2,.inr ⟨z.1,z.2.1⟩⟩) ⟨rfl,g,sg⟩) ?_)
    ·refine fun y=>pr3 fun r out=>pr3 fun ia ib=>pr3 fun mg ac bc B _ hy=>?_;rintro⟨z,g,sg⟩;cases z;obtain⟨hP,h1,h2,h3⟩:=g;dsimp only at hP h1 h2 h3 ⊢;refine bX (fun _=>Ax (CS ?_)) fun _=>Ax (CS ?_)
     all_goals
      refine Ax (J _ _ _ h2 fun p ep Z=>Ax (g9 hc Z (fun i hi=>gA _ (by omega)) (by omega) (sg.kind.trans hk) fun k ax=>?_));dsimp only;refine bX (fun kp=>bX (fun _=>AM ⟨⟨sg.1,sg.2,sg.3,sg.4⟩,.inl ⟨_,rfl,(hP.runA (k:=k)).fin2⟩⟩) fun na=>bX (fun _=>AM ⟨⟨sg.1,sg.2,sg.3,sg.4⟩,.inl ⟨_,rfl,(hP.runA (k:=k)).fin⟩⟩) fun nb=>?_) fun _=>?_
      all_goals
       first | (have e1:=iK na;have e2:=iK nb;have aa:=hP.runA (k:=k);have ae:ia + k + 1 < a.size:=by omega) | (have aa:=hP;have ae:=h1)
       refine Ax (J _ _ _ h2 fun p' F _=>bX (fun _=>AM ⟨⟨sg.1,sg.2,sg.3,sg.4⟩,.inl ⟨_,rfl,(aa.pushB F).fin⟩⟩) fun n=>?_);have n':=iK n;have Y:=aa.pushB F;refine Ax (O _ _ _ (by omega) fun q eq hq=>Ax (g9 hc hq (fun i hi=>gB _ (by omega)) (by omega) (sg.kind.trans hk) fun k2 ao=>?_));dsimp only;refine bX (fun aw=>bX (fun _=>AM ⟨⟨sg.1,sg.2,sg.3,sg.4⟩,.inl ⟨_,rfl,(Y.runB (k:=k2)).fin⟩⟩) fun nc=>?_) fun _=>?_
       all_goals
        first | (have e3:=iK nc;have M:=Y.runB (k:=k2)) | have M:=Y
        refine Ax (O _ _ _ (by omega) fun q' W _=>bX (fun _=>AM ⟨⟨sg.1,sg.2,sg.3,sg.4⟩,.inl ⟨_,rfl,(M.pushA W).fin2⟩⟩) fun nd=>?_);have e4:=iK nd;exact bX (fun _=>AM ⟨⟨sg.1,sg.2,sg.3,sg.4⟩,.inr ⟨rfl,M.pushA W,by dsimp only;omega,by dsimp only;omega,by dsimp only;omega⟩⟩) fun _=>AM ⟨rfl,⟨M.pushA W,by dsimp only;omega,by dsimp only;omega,by dsimp only;omega⟩,sg.1,sg.2,sg.3,sg.4⟩
    ·rintro⟨r,out,ia,ib,mg,ac,bc⟩ B ⟨sg,⟨r',z,hr⟩ | ⟨z,g⟩⟩
     ·cases z;exact AM ⟨_,rfl,hr,sg⟩
     ·cases z;exact Ax (CS (AM ⟨rfl,g,sg.1,sg.2,sg.3,sg.4⟩))
 ·obtain⟨z1,⟨hP,h1,h2,h3⟩,sg⟩:=z;exfalso;omega
 ·rintro⟨r,out,ia,ib,mg⟩ B ⟨r',z,hr,sg⟩;cases z;exact AM (h _ _ hr sg)
end
def Ph(a b out:Array BQ)(na nb:Nat):Prop:=(out.toList ++ (a.toList.take na ++ b.toList.take nb)).Perm (a.toList ++ b.toList)
section
variable{a b out:Array BQ}{na nb k:Nat}
theorem wU{c:Array BQ}{i:Nat}{p:BQ}(h:1≤i)(e:c[i - 1]?=some p):c.toList.take i=c.toList.take (i - 1) ++ [p]:=by
 obtain⟨j,rfl⟩:∃ j,i=j + 1:=⟨i - 1,by omega⟩
 rw[Nat.add_sub_cancel]at e ⊢;rw[List.take_succ,Dd,e];rfl
theorem aAl{c:Array BQ}{i j:Nat}(h:i≤j):c.toList.take j=c.toList.take i ++ (c.extract i j).toList:=by
 rw[e8];obtain⟨d,rfl⟩:∃ d,j=i + d:=⟨j - i,by omega⟩
 rw[DK];exact List.take_add
theorem Ph.pushA{p:BQ}(h:Ph a b out na nb)(h1:1≤na)(e:a[na - 1]?=some p):Ph a b (out.push p) (na - 1) nb:=by
 unfold Ph at h ⊢;refine Du ?_ h;rw[wU h1 e,CB,Bf,Bf];exact Bv _ (En _ _ _)
theorem Ph.pushB{p:BQ}(h:Ph a b out na nb)(h1:1≤nb)(e:b[nb - 1]?=some p):Ph a b (out.push p) na (nb - 1):=by
 unfold Ph at h ⊢;refine Du ?_ h;rw[wU h1 e,CB,Bf,← Bf (Ds na _)];exact Bv _ CP
theorem Ph.runA(h:Ph a b out na nb)(h1:k≤na):Ph a b (out ++ (a.extract k na).reverse) k nb:=by
 unfold Ph at h ⊢;refine Du ?_ h;rw[aAl h1,Bi,Ec,Bf,Bf];exact Bv _ ((C4 _ (EB _)).trans (En _ _ _))
theorem Ph.runB(h:Ph a b out na nb)(h1:k≤nb):Ph a b (out ++ (b.extract k nb).reverse) na k:=by
 unfold Ph at h ⊢;refine Du ?_ h;rw[aAl h1,Bi,Ec,Bf,← Bf (Ds na _)];exact Bv _ ((C4 _ (EB _)).trans CP)
theorem Ph.fin(h:Ph a b out na nb):(a.extract 0 na ++ b.extract 0 nb ++ out.reverse).Perm (a ++ b):=by
 rw[Bb,Bi,Bi,Bi,e8,e8,Ec];exact(CP.trans (C4 _ (EB _))).trans h
theorem Ph.fin2(h:Ph a b out na nb):(b.extract 0 nb ++ a.extract 0 na ++ out.reverse).Perm (a ++ b):=by
 rw[Bb,Bi,Bi,Bi,e8,e8,Ec];exact((CP.trans (C4 _ (EB _))).trans (Bv _ CP)).trans h
theorem Ph.start{p:BQ}(h:1≤a.size)(e:a[a.size - 1]?=some p):Ph a b #[p] (a.size - 1) b.size:=by
 have q:Ph a b #[] a.size b.size:=by
  unfold Ph;rw[Bu (by simp),Bu (by simp)];exact DD _
 exact q.pushA h e
end
structure GH(a b:Array BQ)(x:Nat)(out:Array BQ)(na nb:Nat):Prop where
 pl:Ph a b out na nb
 la:1≤na
 lb:2≤nb
 ua:na≤a.size
 ub:nb≤b.size
 on:x + na + nb≤a.size + b.size
section
variable{prog:AD}{w:AY}{A:AU}{E:Ac→Af→Prop}{s:Af}{κ:Dk}{it:Array BQ}(hc:oP prog w A s κ it)
include hc
theorem aAm{a b:Array BQ}{st:Bo}{Q:Array BQ→Bo→Prop}(ha:1≤a.size)(hb:1≤b.size)(iA:∀ p∈a.toList,p∈it.toList)(iB:∀ p∈b.toList,p∈it.toList)(hk:kindOf st=κ)
  (h:∀ out B,out.Perm (a ++ b)→Sg st B→Q out B):wpS (model prog w) A E s (aEV a b) Q st:=by
 have gA:∀ i,i < a.size→∃ p,a[i]?=some p∧p∈it.toList:=fun i hi=>⟨_,A4 hi,iA _ (by simp)⟩
 have gB:∀ i,i < b.size→∃ p,b[i]?=some p∧p∈it.toList:=fun i hi=>⟨_,A4 hi,iB _ (by simp)⟩
 refine Ax (Fu (CK ⟨rfl,?_⟩));obtain⟨p0,e0,_⟩:=gA (a.size - 1) (by omega);refine Ax (fQ e0 ?_);refine bX (fun _=>AM (h _ _ (Ph.start ha e0).fin (Sg.refl _))) fun n1=>?_;have az:=iK n1;refine bX (fun _=>AM (h _ _ (Ph.start ha e0).fin2 (Sg.refl _))) fun n2=>?_;have ap:=iK n2;refine Ax (Ex ?_);dsimp only;have U:∀(i:Nat) (Y:BQ→Bo→Prop) (B:Bo),i < a.size→(∀ p,a[i]?=some p→p∈it.toList→Y p B)→wpS (model prog w) A E s (elem' a i) Y B:=fun i Y B hi q=>by
  obtain⟨p,e,hp⟩:=gA i hi;exact fQ e (q p e hp)
 have J:∀(i:Nat) (Y:BQ→Bo→Prop) (B:Bo),i < b.size→(∀ p,b[i]?=some p→p∈it.toList→Y p B)→wpS (model prog w) A E s (elem' b i) Y B:=fun i Y B hi q=>by
  obtain⟨p,e,hp⟩:=gB i hi;exact fQ e (q p e hp)
 refine Ax (C9 (B9 (I:=fun x c B=>c.1=none∧GH a b x c.2.2.2.1 c.2.1 c.2.2.1∧Sg st B) (Q:=fun c B=>∃ r,c.1=some r∧r.Perm (a ++ b)∧Sg st B) ?_ (fun c B z=>?_) ⟨rfl,⟨Ph.start ha e0,by dsimp only;omega,by dsimp only;omega,by dsimp only;omega,by dsimp only;omega,by dsimp only;omega⟩,Sg.refl _⟩) ?_)
 ·refine fun x=>pr3 fun r na=>pr3 fun nb out mg B _ hx=>?_;rintro⟨z,g,sg⟩;cases z;dsimp only at g ⊢;refine Ax (C9 (B9 (I:=fun y c B=>c.1=none∧GH a b (x + y) c.2.2.2.1 c.2.1 c.2.2.1∧Sg st B) (Q:=fun c B=>Sg st B∧((∃ r,c.1=some r∧r.Perm (a ++ b))∨(c.1=none∧GH a b (x + 1) c.2.2.2.1 c.2.1 c.2.2.1))) ?_ (fun c B z=>?_) ⟨rfl,g,sg⟩) ?_)
  ·refine fun y=>pr3 fun r na=>pr3 fun nb out=>Prod.rec fun ac bc B _ hy=>?_;rintro⟨z,g,sg⟩;cases z;obtain⟨hP,h1,h2,h3,h4,h5⟩:=g;dsimp only at hP h1 h2 h3 h4 h5 ⊢;refine Ax (J _ _ _ (by omega) fun p ep hp=>Ax (U _ _ _ (by omega) fun q eq hq=>Ax (uM hc (sg.kind.trans hk) hp hq fun bw=>?_)));refine bX (fun _=>?_) fun _=>?_
   ·refine Ax (U _ _ _ (by omega) fun p' F _=>?_);refine bX (fun _=>AM ⟨sg,.inl ⟨_,rfl,(hP.pushA h1 F).fin⟩⟩) fun n=>?_;have n':=iK n;exact bX (fun _=>AM ⟨sg,.inr ⟨rfl,hP.pushA h1 F,by dsimp only;omega,h2,by dsimp only;omega,h4,by dsimp only;omega⟩⟩) fun _=>AM ⟨rfl,⟨hP.pushA h1 F,by dsimp only;omega,h2,by dsimp only;omega,h4,by dsimp only;omega⟩,sg⟩
   ·refine Ax (J _ _ _ (by omega) fun p' F _=>?_);refine bX (fun _=>AM ⟨sg,.inl ⟨_,rfl,(hP.pushB (by omega) F).fin2⟩⟩) fun n=>?_;have n':=iK n;exact bX (fun _=>AM ⟨sg,.inr ⟨rfl,hP.pushB (by omega) F,h1,by dsimp only;omega,h3,by dsimp only;omega,by dsimp only;omega⟩⟩) fun _=>AM ⟨rfl,⟨hP.pushB (by omega) F,h1,by dsimp only;omega,h3,by dsimp only;omega,by dsimp only;omega⟩,sg⟩
  ·obtain⟨z1,⟨hP,h1,h2,h3,h4,h5⟩,sg⟩:=z;exact⟨sg,.inr ⟨z1,hP,h1,h2,h3,h4,by omega⟩⟩
  ·rintro⟨r,na,nb,out,ac,bc⟩ B ⟨sg,⟨r',z,hr⟩ | ⟨z,g⟩⟩
   ·cases z;exact AM ⟨_,rfl,hr,sg⟩
   ·cases z;dsimp only at g ⊢;refine Ax (Fu (CK ⟨rfl,?_⟩));refine Ax (C9 (B9 (I:=fun y c B=>c.1=none∧GH a b (x + 1) c.2.2.2.1 c.2.1 c.2.2.1∧Sg st B) (Q:=fun c B=>Sg st B∧((∃ r,c.1=some r∧r.Perm (a ++ b))∨(c.1=none∧GH a b (x + 1) c.2.2.2.1 c.2.1 c.2.2.1))) ?_ (fun c B z=>⟨z.2.2,.inr ⟨z.1,z.2.1⟩⟩) ⟨rfl,g,sg⟩) ?_)
    ·refine fun y=>pr3 fun r na=>pr3 fun nb out=>pr3 fun mg ac bc B _ hy=>?_;rintro⟨z,g,sg⟩;cases z;obtain⟨hP,h1,h2,h3,h4,h5⟩:=g;dsimp only at hP h1 h2 h3 h4 h5 ⊢;refine bX (fun _=>Ax (CS ?_)) fun _=>Ax (CS ?_)
     all_goals
      refine Ax (J _ _ _ (by omega) fun p ep hp=>Ax (g9 hc hp (fun i hi=>gA _ (by omega)) (by omega) (sg.kind.trans hk) fun k ae=>?_));dsimp only;refine bX (fun kp=>bX (fun _=>AM ⟨⟨sg.1,sg.2,sg.3,sg.4⟩,.inl ⟨_,rfl,(hP.runA ae).fin⟩⟩) fun na=>?_) fun kz=>?_
      all_goals
       first | (have e1:=iK na;have ad:=hP.runA ae;have M:1≤k:=by omega) | (have ad:=hP;have M:=h1)
       refine Ax (J _ _ _ (by omega) fun p' F _=>bX (fun _=>AM ⟨⟨sg.1,sg.2,sg.3,sg.4⟩,.inl ⟨_,rfl,(ad.pushB (by omega) F).fin2⟩⟩) fun n=>?_);have n':=iK n;have W:=ad.pushB (by omega) F;refine Ax (U _ _ _ (by omega) fun q eq hq=>Ax (g9 hc hq (fun i hi=>gB _ (by omega)) (by omega) (sg.kind.trans hk) fun k2 Z=>?_));dsimp only;refine bX (fun aw=>bX (fun _=>AM ⟨⟨sg.1,sg.2,sg.3,sg.4⟩,.inl ⟨_,rfl,(W.runB Z).fin2⟩⟩) fun nc=>bX (fun _=>AM ⟨⟨sg.1,sg.2,sg.3,sg.4⟩,.inl ⟨_,rfl,(W.runB Z).fin⟩⟩) fun nd=>?_) fun _=>?_
       all_goals
        first | (have e3:=iK nc;have ar:=iK nd;have O:=W.runB Z) | have O:=W
        refine Ax (U _ _ _ (by omega) fun q' aa _=>bX (fun _=>AM ⟨⟨sg.1,sg.2,sg.3,sg.4⟩,.inl ⟨_,rfl,(O.pushA M aa).fin⟩⟩) fun nd=>?_);have e4:=iK nd;exact bX (fun _=>AM ⟨⟨sg.1,sg.2,sg.3,sg.4⟩,.inr ⟨rfl,O.pushA M aa,by dsimp only;omega,by dsimp only;omega,by dsimp only;omega,by dsimp only;omega,by dsimp only;omega⟩⟩) fun _=>AM ⟨rfl,⟨O.pushA M aa,by dsimp only;omega,by dsimp only;omega,by dsimp only;omega,by dsimp only;omega,by dsimp only;omega⟩,sg.1,sg.2,sg.3,sg.4⟩
    ·rintro⟨r,na,nb,out,mg,ac,bc⟩ B ⟨sg,⟨r',z,hr⟩ | ⟨z,g⟩⟩
     ·cases z;exact AM ⟨_,rfl,hr,sg⟩
     ·cases z;exact Ax (CS (AM ⟨rfl,g,sg.1,sg.2,sg.3,sg.4⟩))
 ·obtain⟨z1,⟨hP,h1,h2,h3,h4,h5⟩,sg⟩:=z;exfalso;omega
 ·rintro⟨r,na,nb,out,mg⟩ B ⟨r',z,hr,sg⟩;cases z;exact AM (h _ _ hr sg)
end
structure Sm(st st':Bo):Prop where
 kind:kindOf st'=kindOf st
 arr:(arrOf st').Perm (arrOf st)
 pend:pendingOf st'=pendingOf st
 fail:failedOf st'=failedOf st
theorem Sm.refl(st:Bo):Sm st st:=⟨rfl,C8 _,rfl,rfl⟩
theorem Sm.trans{st z q:Bo}(a:Sm st z)(b:Sm z q):Sm st q:=⟨b.1.trans a.1,b.2.trans a.2,b.3.trans a.3,b.4.trans a.4⟩
theorem Sm.rev(st:Bo)(i j k:Nat):Sm st (setArr st (mirror (arrOf st) i j k)):=⟨rfl,mirror_perm _ _ _ _,rfl,rfl⟩
theorem Sm.bub(st:Bo)(i j:Nat):Sm st (setArr st (bubble (arrOf st) i j)):=⟨rfl,bubble_perm _ _ _,rfl,rfl⟩
structure GS(κ:Dk)(it:Array BQ)(st:Bo):Prop where
 kind:kindOf st=κ
 perm:(arrOf st).Perm it
 fail:failedOf st=none
theorem GS.on{κ:Dk}{it:Array BQ}{st q:Bo}(g:GS κ it st)(m:Sm st q):GS κ it q:=⟨m.1.trans g.1,m.2.trans g.2,m.4.trans g.3⟩
section
variable{prog:AD}{w:AY}{A:AU}{E:Ac→Af→Prop}{s:Af}{κ:Dk}{it:Array BQ}
theorem GS.get{st:Bo}(g:GS κ it st){i:Nat}(hi:i < it.size):∃ p,(arrOf st)[i]?=some p∧p∈it.toList:=by
 have q:i < (arrOf st).size:=by rw[g.perm.size_eq];exact hi
 exact⟨_,A4 q,(Bb.mp g.perm).mem_iff.mp (by simp)⟩
theorem pF{st:Bo}{i j:Nat}{Q:Unit→Bo→Prop}(h:∀ q,Sm st q→Q () q):wpS (model prog w) A E s (reverseSlice' i j) Q st:=by
 rw[reverseSlice'_eq];exact CS (h _ (Sm.rev _ _ _ _))
theorem aEW{st:Bo}{i j:Nat}{Q:Unit→Bo→Prop}(h:∀ q,Sm st q→Q () q):wpS (model prog w) A E s (moveDown' i j) Q st:=by
 rw[moveDown'_eq];exact CS (h _ (Sm.bub _ _ _))
variable(hc:oP prog w A s κ it)
include hc
theorem kM{st:Bo}{i j:Nat}{Q:Option Bool→Bo→Prop}(g:GS κ it st)(hi:i < it.size)(z:j < it.size)(h:∀ b,Q (some b) st):wpS (model prog w) A E s (ltAt' i j) Q st:=by
 obtain⟨p,e1,hp⟩:=g.get hi;obtain⟨q,e2,hq⟩:=g.get z;rw[ltAt'_eq];exact Ax (Ex (Ax (fQ e1 (Ax (fQ e2 (uM hc g.kind hp hq h))))))
theorem aDy{lo F:Nat}{st:Bo}{Q:Option Nat→Bo→Prop}(g:GS κ it st)(h1:1≤F)(hz:lo + F≤it.size)(h:∀ n B,1≤n→n≤F→Sm st B→Q (some n) B):wpS (model prog w) A E s (countRun' lo F) Q st:=by
 have rise:∀(n0:Nat) (J:Bo) (Q':Option (Option Nat)×Nat→Bo→Prop),GS κ it J→1≤n0→n0≤F→(∀ n,n0≤n→n≤F→Q' (none,n) J)→wpS (model prog w) A E s (forIn [n0:F] (none,n0) fun _ c=>do
   let r ← ltAt' (lo + c.2) (lo + c.2 - 1)
   match r with
   | some b=>if b=true then pure (ForInStep.done (none,c.2)) else pure (CA (none,c.2 + 1))
   | _=>pure (ForInStep.done (some none,c.2))) Q' J:=fun n0 J Q' g0 ap W q=>by
  refine C9 (B9 (I:=fun x c B=>B=J∧c=(none,x)) (Q:=fun c B=>B=J∧∃ n,c=(none,n)∧n0≤n∧n≤F) ?_ (fun c B z=>⟨z.1,_,z.2,by omega,by omega⟩) ⟨rfl,rfl⟩) fun c B z=>?_
  ·rintro x c B ae ag ⟨rfl,rfl⟩;refine Ax (kM hc g0 (by dsimp only;omega) (by dsimp only;omega) fun b=>?_);refine bX (fun _=>AM ⟨rfl,_,rfl,ae,by omega⟩) fun _=>AM ⟨rfl,rfl⟩
  ·obtain⟨rfl,n,rfl,Y,U⟩:=z;exact q n Y U
 rw[countRun'_eq];refine Ax (rise 1 st _ g (Ap _) h1 fun n W ac=>?_);dsimp only;refine bX (fun _=>AM (h n st W ac (Sm.refl _))) fun ne=>?_;have aq:=iK ne;refine bX (fun _=>Ax (kM hc g (by omega) (by omega) fun b=>bX (fun _=>AM (h n st W ac (Sm.refl _))) fun _=>Ax (pF fun ao m1=>?_))) fun _=>?_
 all_goals
  first | (have g1:=g.on m1;have ab:=m1) | (have g1:=g;have ab:=Sm.refl st)
  refine Ax (Fu (CK ⟨rfl,?_⟩));refine Ax (C9 (B9 (I:=fun x c B=>c.1=none∧c.2.1=x∧Sm st B) (Q:=fun c B=>c.1=none∧1≤c.2.1∧c.2.1≤F∧Sm st B) ?_ (fun c B z=>⟨z.1,by have:=z.2.1;omega,by have:=z.2.1;omega,z.2.2⟩) ⟨rfl,rfl,ab⟩) ?_)
  ·rintro x ⟨r,n',q⟩ B ae ag ⟨Y,U,M⟩;dsimp only at Y U ⊢;subst Y U;refine Ax (kM hc (g.on M) (by omega) (by omega) fun b=>?_);refine bX (fun _=>bX (fun _=>Ax (pF fun ah m3=>AM ⟨rfl,rfl,M.trans m3⟩)) fun _=>AM ⟨rfl,rfl,M⟩) fun _=>?_;refine Ax (kM hc (g.on M) (by omega) (by omega) fun b=>?_);exact bX (fun _=>AM ⟨rfl,by dsimp only;omega,by dsimp only;omega,M⟩) fun _=>AM ⟨rfl,rfl,M⟩
  ·rintro⟨r,n',q⟩ B ⟨Y,U,z3,M⟩;dsimp only at Y U z3 ⊢;subst Y;refine bX (fun _=>Ax (pF fun ah m3=>Ax (pF fun O m4=>?_))) fun _=>Ax (pF fun O m4=>?_)
   ·exact Ax (rise n' O _ (g.on ((M.trans m3).trans m4)) U z3 fun Z a1 a2=>AM (h Z O (by omega) a2 ((M.trans m3).trans m4)))
   ·exact Ax (rise n' O _ (g.on (M.trans m4)) U z3 fun Z a1 a2=>AM (h Z O (by omega) a2 (M.trans m4)))
theorem aBr{lo n ok:Nat}{st:Bo}{Q:Bool→Bo→Prop}(g:GS κ it st)(hz:lo + n≤it.size)(h:∀ B,Sm st B→Q true B):wpS (model prog w) A E s (binarySort' lo n ok) Q st:=by
 rw[binarySort'_eq];refine Ax (C9 (B9 (I:=fun x c B=>c.1=none∧Sm st B) (Q:=fun c B=>c.1=none∧Sm st B) ?_ (fun c B z=>z) ⟨rfl,Sm.refl _⟩) ?_)
 ·rintro k ⟨r,u⟩ B Y M ⟨J,m⟩;dsimp only at J ⊢;subst J;refine Ax (C9 (B9 (I:=fun x c F=>c.1=none∧c.2.2≤k∧F=B) (Q:=fun c F=>c.1=none∧F=B) ?_ (fun c B z=>⟨z.1,z.2.2⟩) ⟨rfl,Ap _,rfl⟩) ?_)
  ·rintro x ⟨r,l,q⟩ F _ hx ⟨J,W,rfl⟩;dsimp only at J W ⊢;subst J;refine bX (fun _=>AM ⟨rfl,rfl⟩) fun U=>?_;refine Ax (kM hc (g.on m) (by omega) (by omega) fun b=>?_);exact bX (fun _=>AM ⟨rfl,by dsimp only;omega,rfl⟩) fun _=>AM ⟨rfl,by dsimp only;omega,rfl⟩
  ·rintro⟨r,l,q⟩ F ⟨J,rfl⟩;dsimp only at J ⊢;subst J;exact Ax (aEW fun O Z=>AM ⟨rfl,m.trans Z⟩)
 ·rintro⟨r,u⟩ B ⟨J,m⟩;dsimp only at J ⊢;subst J;exact AM (h B m)
end
def hJ:List (Nat×Nat×Nat)→Nat→Nat→Prop
 | [],a,b=>a=b
 | r :: l,a,b=>r.1=a∧1≤r.2.1∧hJ l (a + r.2.1) b
theorem hJ.le:∀{l:List (Nat×Nat×Nat)}{a b:Nat},hJ l a b→a≤b
 | [],a,b,h=>EW h
 | r :: l,a,b,h=>by have:=hJ.le h.2.2;omega
theorem hJ.snoc{n x:Nat}(hn:1≤n):∀{l:List (Nat×Nat×Nat)}{a b:Nat},hJ l a b→hJ (l ++ [(b,n,x)]) a (b + n)
 | [],a,b,h=>⟨(show a=b from h).symm,hn,by show a + n=b + n;rw[show a=b from h]⟩
 | r :: l,a,b,h=>⟨h.1,h.2.1,hJ.snoc hn h.2.2⟩
theorem hJ.mod{f:Nat×Nat×Nat→Nat×Nat×Nat}(q:∀ r,(f r).1=r.1∧(f r).2.1=r.2.1):∀{l:List (Nat×Nat×Nat)}{a b:Nat} (i:Nat),hJ l a b→hJ (l.modify i f) a b
 | [],a,b,i,h=>by rw[List.modify_nil];exact h
 | r :: l,a,b,0,h=>by
  rw[List.modify_zero_cons];exact⟨(q r).1.trans h.1,by rw[(q r).2];exact h.2.1,by rw[(q r).2];exact h.2.2⟩
 | r :: l,a,b,i + 1,h=>by
  rw[List.modify_succ_cons];exact⟨h.1,h.2.1,hJ.mod q i h.2.2⟩
theorem hJ.two{sa na z sb nb pv:Nat}:∀{l:List (Nat×Nat×Nat)}{a b:Nat} (i:Nat),hJ l a b→l[i]?=some (sa,na,z)→l[i + 1]?=some (sb,nb,pv)→sa + na=sb∧1≤na∧1≤nb∧sb + nb≤b∧hJ ((l.set i (sa,na + nb,z)).eraseIdx (i + 1)) a b
 | [],a,b,i,h,e1,q=>by simp at e1
 | [r],a,b,0,h,e1,q=>by simp at q
 | r :: B :: l,a,b,0,h,e1,q=>by
  simp at e1 q;subst e1 q;obtain⟨h1,h2,h3,h4,h5⟩:=h;dsimp only at h1 h2 h3 h4 h5;have:=h5.le;refine⟨by omega,h2,h4,by omega,h1,by dsimp only;omega,?_⟩;dsimp only;rw[← Nat.add_assoc];exact h5
 | r :: l,a,b,i + 1,h,e1,q=>by
  obtain⟨x1,x2,x3,x4,x5⟩:=hJ.two i h.2.2 (by simpa using e1) (by simpa using q);exact⟨x1,x2,x3,x4,h.1,h.2.1,x5⟩
theorem aCr:∀(l:List BQ) (j k:Nat) (c:Array BQ),((l.zipIdx j).foldl (fun a q=>a.setIfInBounds (k + q.2) q.1) c).toList=c.toList.take (k + j) ++ (l ++ c.toList.drop (k + j + l.length))∨c.size < k + j + l.length
 | [],j,k,c=>.inl (by simp)
 | p :: l,j,k,c=>by
  by_cases hz:c.size < k + j + (p :: l).length
  ·exact .inr hz
  ·refine .inl ?_;rw[FQ,F7];have F:k + j < c.toList.length:=by simp at hz ⊢;omega
   rcases aCr l (j + 1) k (c.setIfInBounds (k + j) p)with e | e
   ·rw[e,Array.toList_setIfInBounds];have z:(c.toList.set (k + j) p).take (k + (j + 1))=c.toList.take (k + j) ++ [p]:=by
     rw[← Nat.add_assoc,List.take_succ,EU F,List.take_set_of_le (Ap _)];rfl
    have B:(c.toList.set (k + j) p).drop (k + (j + 1) + l.length)=c.toList.drop (k + j + (p :: l).length):=by
     rw[List.drop_set_of_lt (by omega),A6];congr 1;omega
    rw[z,B,Bf];rfl
   ·exfalso;simp at e hz;omega
theorem aEX{c x:Array BQ}{sa n:Nat}(z:x.toList.Perm ((c.toList.drop sa).take n))(hz:sa + n≤c.size):(x.toList.zipIdx.foldl (fun a q=>a.setIfInBounds (sa + q.2) q.1) c).Perm c:=by
 have B:x.toList.length=n:=by
  rw[z.length_eq];simp;omega
 rcases aCr x.toList 0 sa c with e | e
 ·rw[Bb,e];rw[Nat.add_zero,B];have F:c.toList=c.toList.take sa ++ ((c.toList.drop sa).take n ++ c.toList.drop (sa + n)):=by
   rw[← E6,DY,DY]
  refine Du (Bv _ (C4 _ z)) ?_;rw[← F]
 ·rw[B]at e;omega
section
variable{prog:AD}{w:AY}{A:AU}{E:Ac→Af→Prop}{s:Af}{κ:Dk}{it:Array BQ}
theorem aGh{M:Gz}{σ:Type}{a:σ}{Q:PUnit→σ→Prop}{st:σ}(h:Q ⟨⟩ a):wpS M A E s (set a:StateT σ Sem PUnit) Q st:=by
 unfold wpS;rw[StateT.run_set];exact Ae ⟨rfl,h⟩
variable(hc:oP prog w A s κ it)
include hc
theorem qW{i lo:Nat}{st:Bo}{Q:Bool→Bo→Prop}(g:GS κ it st)(hs:hJ (pendingOf st).toList 0 lo)(ap:lo≤it.size)(hi:i + 1 < (pendingOf st).size)(h:∀ z,GS κ it z→hJ (pendingOf z).toList 0 lo→(pendingOf z).size + 1=(pendingOf st).size→Q true z):
  wpS (model prog w) A E s (mergeAt' i) Q st:=by
 obtain⟨⟨sa,na,pw⟩,ea⟩:∃ r,(pendingOf st)[i]?=some r:=⟨_,A4 (by omega)⟩
 obtain⟨⟨sb,nb,pv⟩,eb⟩:∃ r,(pendingOf st)[i + 1]?=some r:=⟨_,A4 hi⟩
 have ab:(pendingOf st).toList[i]?=some (sa,na,pw):=by rw[Dd];exact ea
 have ac:(pendingOf st).toList[i + 1]?=some (sb,nb,pv):=by rw[Dd];exact eb
 obtain⟨x1,x2,x3,x4,x5⟩:=hJ.two i hs ab ac;have M:(((pendingOf st).setIfInBounds i (sa,na + nb,pw)).eraseIdxIfInBounds (i + 1)).toList=((pendingOf st).toList.set i (sa,na + nb,pw)).eraseIdx (i + 1):=by simp
 have aa:(((pendingOf st).setIfInBounds i (sa,na + nb,pw)).eraseIdxIfInBounds (i + 1)).size + 1=(pendingOf st).size:=by
  rw[← Bt,M,CN (by rw[EX,Bt];exact hi),EX,Bt];omega
 have hz:(arrOf st).size=it.size:=g.perm.size_eq;refine Ax (Ex ?_);rw[ea,eb];dsimp only;refine Ax (aGh ?_);have Y:∀ j,j < it.size→∃ p,(arrOf st)[j]?=some p∧p∈it.toList:=fun j Z=>g.get Z;have fin:∀(z:Bo),Sg (setPending st (((pendingOf st).setIfInBounds i (sa,na + nb,pw)).eraseIdxIfInBounds (i + 1))) z→∀ c:Array BQ,c.Perm (arrOf st)→Q true (setArr z c):=fun z sg c hp=>
  h _ ⟨sg.kind.trans g.kind,hp.trans g.perm,sg.fail.trans g.fail⟩ (by show hJ (pendingOf z).toList 0 lo;rw[sg.pend];show hJ (((pendingOf st).setIfInBounds i (sa,na + nb,pw)).eraseIdxIfInBounds (i + 1)).toList 0 lo;rw[M];exact x5) (by show(pendingOf z).size + 1=_;rw[sg.pend];exact aa)
 have B:Q true (setPending st (((pendingOf st).setIfInBounds i (sa,na + nb,pw)).eraseIdxIfInBounds (i + 1))):=fin _ (Sg.refl _) _ (C8 _);obtain⟨p1,e1,i1⟩:=Y sb (by omega);refine Ax (fQ e1 (Ax (g9 hc i1 (fun j Z=>Y _ (by omega)) (by omega) g.kind fun k hk=>?_)));dsimp only;refine bX (fun _=>AM B) fun n0=>?_;have ag:=iK n0;obtain⟨p2,e2,i2⟩:=Y (sa + k + (na - k) - 1) (by omega);refine Ax (fQ e2 (Ax (g9 hc i2 (fun j Z=>Y _ (by omega)) (by omega) g.kind fun W ah=>?_)));dsimp only;refine bX (fun _=>AM B) fun n1=>?_;have an:=iK n1;have U:∀ q∈((arrOf st).extract (sa + k) sb).toList,q∈it.toList:=fun q F=>by
  rw[e8]at F;exact(Bb.mp g.perm).mem_iff.mp (E5 (B5 F))
 have O:∀ q∈((arrOf st).extract sb (sb + W)).toList,q∈it.toList:=fun q F=>by
  rw[e8]at F;exact(Bb.mp g.perm).mem_iff.mp (E5 (B5 F))
 have sX:1≤((arrOf st).extract (sa + k) sb).size:=by rw[Array.size_extract];omega
 have sY:1≤((arrOf st).extract sb (sb + W)).size:=by rw[Array.size_extract];omega
 have fin2:∀(out:Array BQ) (z:Bo),out.Perm ((arrOf st).extract (sa + k) sb ++ (arrOf st).extract sb (sb + W))→Sg (setPending st (((pendingOf st).setIfInBounds i (sa,na + nb,pw)).eraseIdxIfInBounds (i + 1))) z→
   Q (failedOf (setArr z (out.toList.zipIdx.foldl (fun a q=>a.setIfInBounds (sa + k + q.2) q.1) (arrOf z)))).isNone (setArr z (out.toList.zipIdx.foldl (fun a q=>a.setIfInBounds (sa + k + q.2) q.1) (arrOf z))):=fun out z J sg=>by
  have hf:(failedOf (setArr z (out.toList.zipIdx.foldl (fun a q=>a.setIfInBounds (sa + k + q.2) q.1) (arrOf z)))).isNone=true:=by
   show(failedOf z).isNone=true;rw[sg.fail.trans g.fail];rfl
  rw[hf];refine fin z sg _ ?_;rw[sg.arr];refine aEX (n:=na - k + W) ?_ (by show _≤(arrOf st).size;omega);refine(Bb.mp J).trans ?_;rw[Bi,e8,e8];have e3:(arrOf st).toList.drop sb=((arrOf st).toList.drop (sa + k)).drop (na - k):=by
   rw[E6];congr 1;omega
  rw[e3,show sb - (sa + k)=na - k by omega,DK,← List.take_add]
 refine bX (fun _=>Ax (aAk hc sX sY U O g.kind fun out z J sg=>?_)) fun _=>Ax (aAm hc sX sY U O g.kind fun out z J sg=>?_)
 ·exact Ax (CS (Ax (Ex (AM (fin2 out z J sg)))))
 ·exact Ax (CS (Ax (Ex (AM (fin2 out z J sg)))))
end
section
variable{prog:AD}{w:AY}{A:AU}{E:Ac→Af→Prop}{s:Af}{κ:Dk}{it:Array BQ}
structure SR(κ:Dk)(it:Array BQ)(lo:Nat)(st:Bo):Prop where
 gs:GS κ it st
 le:lo≤it.size
 sg:hJ (pendingOf st).toList 0 lo
variable(hc:oP prog w A s κ it)
include hc
theorem aEY{st:Bo}{Q:Unit→Bo→Prop}(g:GS κ it st)(hp:pendingOf st=#[])(h:∀ q,(arrOf q).Perm it→failedOf q=none→Q () q):wpS (model prog w) A E s sortRuns' Q st:=by
 rw[sortRuns'_eq];refine Ax (Ex ?_);dsimp only;have hz:(arrOf st).size=it.size:=g.perm.size_eq;rw[hz];generalize minRun' it.size it.size 0=mr;refine Ax (C9 (B9 (I:=fun x c q=>c.1=none∧SR κ it c.2 q) (Q:=fun c q=>c.1=none∧∃ lo,SR κ it lo q) ?_ (fun c q z=>⟨z.1,_,z.2⟩) ⟨rfl,g,A3 _,?_⟩) ?_)
 ·rintro x ⟨r,lo⟩ q _ _ ⟨F,J,B,W⟩;dsimp only at F B W ⊢;subst F;refine bX (fun _=>AM ⟨rfl,lo,J,B,W⟩) fun hl=>?_;refine Ax (aDy hc J (by omega) (by omega) fun n ap aj am m1=>?_);dsimp only;refine bX (fun hm=>Ax (Fu (CK ⟨rfl,Ax (aBr hc (J.on m1) (by omega) fun ae m2=>bX (fun z=>nomatch z) fun _=>?_)⟩))) fun hm=>?_
  all_goals
   first | (have mm:=m1.trans m2;have ez:1≤min (it.size - lo) mr∧lo + min (it.size - lo) mr≤it.size:=by omega) | (have mm:=m1;have ez:1≤n∧lo + n≤it.size:=by omega)
   have gg:=J.on mm;have O:=W;rw[← mm.pend]at O;refine Ax (Ex ?_);split
   ·rename_i s1 n1 _ ad;refine Ax (C9 (B9 (I:=fun x c q=>c.1=none∧SR κ it lo q) (Q:=fun c q=>c.1=none∧SR κ it lo q) ?_ (fun c q z=>z) ⟨rfl,gg,B,O⟩) ?_)
    ·rintro x ⟨r,u⟩ U _ _ ⟨F,Z,_,M⟩;dsimp only at F ⊢;subst F;refine Ax (Ex ?_);split
     ·rename_i a1 a2 af Y;refine bX (fun _=>AM ⟨rfl,Z,B,M⟩) fun _=>?_;have h2:(pendingOf U).size > 1:=by
       by_cases h2:(pendingOf U).size > 1
       ·exact h2
       ·rw[Ia h2]at Y;cases Y
      refine Ax (qW hc Z M B (by omega) fun ao g4 ac _=>?_);exact bX (fun z=>nomatch z) fun _=>AM ⟨rfl,g4,B,ac⟩
     ·exact AM ⟨rfl,Z,B,M⟩
    ·rintro⟨r,u⟩ U ⟨F,Z,_,M⟩;dsimp only at F ⊢;subst F;refine Ax (CS (Ax (CS (AM ⟨rfl,⟨Z.kind,Z.perm,Z.fail⟩,ez.2,?_⟩))));show hJ (((pendingOf U).modify _ _).push _).toList 0 _;rw[CB,Array.toList_modify];refine hJ.snoc ez.1 (hJ.mod ?_ _ M);exact fun _=>⟨rfl,rfl⟩
   ·refine Ax (CS (AM ⟨rfl,⟨gg.kind,gg.perm,gg.fail⟩,ez.2,?_⟩));show hJ ((pendingOf _).push _).toList 0 _;rw[CB];exact O.snoc ez.1
 ·show hJ (pendingOf st).toList 0 0;rw[hp];rfl
 ·rintro⟨r,lo⟩ q ⟨F,lo',J,B,W⟩;dsimp only at F ⊢;subst F;refine Ax (C9 (B9 (I:=fun x c q=>c.1=none∧SR κ it lo' q) (Q:=fun c q=>c.1=none∧SR κ it lo' q) ?_ (fun c q z=>z) ⟨rfl,J,B,W⟩) ?_)
  ·rintro x ⟨r,u⟩ q _ _ ⟨F,J,B,W⟩;dsimp only at F ⊢;subst F;refine Ax (Ex ?_);refine bX (fun _=>AM ⟨rfl,J,B,W⟩) fun h2=>?_;have an:¬ (pendingOf q).size≤1:=h2;have hi:∀ b:Bool,(if b=true then(pendingOf q).size - 2 - 1 else(pendingOf q).size - 2) + 1 < (pendingOf q).size:=fun b=>by
    cases b <;> simp <;> omega
   refine Ax (qW hc J W B (hi _) fun ae g2 O _=>?_);exact AM ⟨rfl,g2,B,O⟩
  ·rintro⟨r,u⟩ q ⟨F,J,B,W⟩;dsimp only at F ⊢;subst F;exact AM (h _ J.perm J.fail)
theorem aEZ{Q:Unit×Bo→Af→Prop}(h:∀ st:Bo,(arrOf st).Perm it→failedOf st=none→Q ((),st) s):wpAny (model prog w) A (sortRuns'.run (Di κ it #[] 7 none)) Q E s:=by
 refine B8 (aEY (E:=E) hc (st:=Di κ it #[] 7 none) (Q:=fun u st=>Q (u,st) s) ⟨rfl,C8 _,rfl⟩ rfl h) (fun r s' z=>?_) fun _ _ z=>z;obtain⟨rfl,q⟩:=z;exact q
end
def aHY(c:Ah)(qual:Str):HO:=.ext fun h=>h.CodeRec (.ref c) qual
structure aJ6(T:Ah)(pos:Pos)(qual:Str)(H:Hp):Prop where
 ex:∃ ps,H T=some (.tbl ps)∧TriplesOk ps.toList∧(codeAmong pos ps.toList=none∨∃ c,codeAmong pos ps.toList=some (.ref c)∧H c=some (aHY c qual))
def aJ7(T:Ah)(H H':Hp):Prop:=∀ b o,b≠T→H b=some o→H' b=some o
section
variable{X:Cx}{dt:List (Ah×Obj)}{σ:St}{H:Hp}{s:Af}
end
structure aI8(ps fs:List Str)(sc:DM):Prop where
 kind:sc.kind=.function
 co:sc.isCoroutine=false
 gen:sc.isGenerator=false
 nd:ps.Nodup
 par:∀ x∈ps,sc.names.lookup x=some .local
 fr:∀ x∈fs,sc.names.lookup x=some .free
 nocell:∀ y∈sc.names,y.2≠.cell
section
variable{X:Cx}{dt:List (Ah×Obj)}{σ:St}{H:Hp}{s:Af}
end
section
variable{prog:AD}{w:AY}{A:AU}{E:Ac→Af→Prop}{s:Af}
inductive aCs(h:Bm)(v:Ac):Prop
 | mk (t:_) (a:_) (b:_) (u1:_) (u2:_) (q0:v=.ref t) (q1:E2 h t #[.int a u1,.int b u2]):aCs h v
def aJ8(h:Bm)(v:Ac):Prop:=aCs h v
end
section
variable{X:Cx}{dt:List (Ah×Obj)}{σ:St}
inductive aCt(H:Hp)(v:Ac):Prop
 | mk (t:_) (a:_) (b:_) (q0:v=.ref t) (q1:H t=some (.tup [.int a,.int b])):aCt H v
def aJ9(H:Hp)(v:Ac):Prop:=aCt H v
end
section
variable{X:Cx}{dt:List (Ah×Obj)}{σ:St}{H:Hp}{s:Af}
end
section
variable{X:Cx}{e:Br}{ta:TA}
end
section
variable{X:Cx}
end
section
variable{X:Cx}{tg:Br}
end
section
variable{X:Cx}
inductive aBs(H:Hp):V→Prop
 | str (z:Str):aBs H (.str z)
 | non:aBs H .non
 | int (i:Int):aBs H (.int i)
 | bl (b:Bool):aBs H (.bl b)
 | lst {a:Ah} {xs:List V} (e:H a=some (.lst xs)):aBs H (.ref a)
 | tup {a:Ah} {xs:List V} (e:H a=some (.tup xs)):aBs H (.ref a)
inductive Thg(H:Hp):V→Option (List V)→Prop
 | lst {a:Ah} {xs:List V} (e:H a=some (.lst xs)) (h:∀ v∈xs,aBs H v):Thg H (.ref a) (some xs)
 | tup {a:Ah} {xs:List V} (e:H a=some (.tup xs)):Thg H (.ref a) none
 | dct {a:Ah} {fc:List (Key×V)} (e:H a=some (.dK fc)):Thg H (.ref a) none
 | non:Thg H .non none
 | str (z:Str):Thg H (.str z) none
 | bl (b:Bool):Thg H (.bl b) none
end
section
variable{X:Cx}
inductive RpV(H:Hp):V→Str→Prop
 | non:RpV H .non "None"
 | bl (b:Bool):RpV H (.bl b) (if b then "True" else "False")
 | str (z:Str) (h:(reprText z).length≤sizeLine):RpV H (.str z) (reprText z)
 | ref {a:Ah} {m:Bool} {d:Aj} (r:RdV m H (.ref a) d) (h1:d.showable=true) (h2:d.depth≤20) (h3:d.shown.length≤sizeLine):RpV H (.ref a) d.shown
inductive mX(xs:List V)(H:Hp)(Q:VK):Prop
 | mk (x:V) (z:Str) (q0:xs=[x]) (q1:RpV H x z) (q2:Q (.str z) H):mX xs H Q
def yJ:List V→Hp→VK→Prop:=fun xs H Q=>mX xs H Q
theorem hU{k:Nat}(B:cS k X.A):fJ X (.builtin "repr") yJ:=by
 intro dt s σ H xs us Q I r h;obtain⟨x,z,rfl,hx,q⟩:=h;cases hx with
 | non=>
  obtain⟨u,rfl,ru⟩:=fM r;cases ru;exact P.repr_of_none ⟨.str _,H,I.tok _,⟨_,rfl⟩,q⟩
 | bl b=>
  obtain⟨u,rfl,ru⟩:=fM r;cases ru;exact P.repr_of_bool ⟨.str _,H,I.tok _,⟨_,by cases b <;> rfl⟩,q⟩
 | str z h=>
  obtain⟨u,rfl,ru⟩:=fM r;obtain⟨t,rfl⟩:=ru;exact P.repr_of_str ⟨.str _,H,I.tok _,⟨_,rfl⟩,q⟩ h
 | @ref a m d rd h1 h2 F=>exact aDm B dt s σ H _ us Q I r ⟨a,m,d,rfl,rd,h1,h2,F,q⟩
end
mutual
theorem RdV.uniq{H:Hp}:∀{x:V}{d d':Aj},RdV false H x d→RdV false H x d'→d=d'
 | _,_,_,.non,h=>by cases h;rfl
 | _,_,_,.bl b,h=>by cases h;rfl
 | _,_,_,.int i,h=>by cases h;rfl
 | _,_,_,.str z _,h=>by cases h;rfl
 | _,_,_,.lst hm _ _ _,_=>nomatch hm
 | _,_,_,.tup e J r,h=>by
  cases h with
  | lst hm=>cases hm
  | tup q F B=>
   rw[e]at q;cases q;rw[cY.uniq r B]
  | dct _ q=>rw[e]at q;cases q
 | _,_,_,.dct _ e,h=>by
  cases h with
  | lst hm=>cases hm
  | tup q _ _=>rw[e]at q;cases q
  | dct _ q=>rfl
theorem cY.uniq{H:Hp}:∀{xs:List V}{ds q:List Aj},cY false H xs ds→cY false H xs q→ds=q
 | _,_,_,.nil,h=>by cases h;rfl
 | _,_,_,.cons a r,h=>by
  cases h with
  | cons a' z=>rw[RdV.uniq a a',cY.uniq r z]
end
def OkS:Nat→Aj→Prop
 | 0,d=>(∃ z,d=.str z)∨∃ i,d=.int i
 | n + 1,d=>(∃ z,d=.str z)∨(∃ i,d=.int i)∨∃ ds,d=.tuple ds∧∀ e∈ds,OkS n e
open Classical in
section
variable{X:Cx}{dt:List (Ah×Obj)}{σ:St}{H:Hp}{s:Af}
open Classical in
end
section
variable{X:Cx}
open Classical in
end
section
variable{X:Cx}
end
inductive aI9(X:Cx)(dt:List (Ah×Obj))(σ:St)(E':XK)(x:Ac)(s':Af):Prop
 | mk (H1:_) (s1:_) (q0:Inv X dt σ H1 s1) (q1:CXr X.prog X.w X.stack H1 s1 E' x s'):aI9 X dt σ E' x s'
def XP(X:Cx)(dt:List (Ah×Obj))(σ:St)(E':XK)(x:Ac)(s':Af):Prop:=aI9 X dt σ E' x s'
structure PX(X:Cx)(e:Br)(te:XK→TE):Prop where
 run:∀(E':XK) (dt:List (Ah×Obj)) (s:Af) (σ:St) (H:Hp) (Q:VK),Inv X dt σ H s→te E' σ H Q→wpAny (model X.prog X.w) X.A (eval e X.env) (EP X dt σ Q) (XP X dt σ E') s
structure PXs(X:Cx)(b:List B6)(tb:XK→TS):Prop where
 run:∀(E':XK) (dt:List (Ah×Obj)) (s:Af) (σ:St) (H:Hp) (D:p3),Inv X dt σ H s→tb E' D σ H→wpAny (model X.prog X.w) X.A (execs b X.env) (SP X dt D) (XP X dt σ E') s
section
variable{X:Cx}{k:Nat}{f:Ah}{fd:AK}{ps:List Str}{sp:Sp}{x:Str}{p pos:Pos}{e:Br}{es:List Br}{t:TA}{te:XK→TE}
end
section
variable{X:Cx}{dt:List (Ah×Obj)}{σ:St}{H:Hp}{s:Af}{v:Ac}
end
def aKa(y:Ah)(C:Ac):HO:=.ext fun h=>∃ ob vs,h.get? y=some ob∧ob.cls=C∧ob.data=.fields vs
open PySem PySem.Spec PyProof.Rows PySem.W Builtin Builtin.ObjectAttr PySem.Calls Builtin.Getset_descriptor
structure aKh(K:Ai)(D:Ah):Prop where
 ga:findIn K (.ref D) "__getattribute__"=some (some (.builtin "BaseException.__getattribute__"))
 gn:findIn K (.ref D) "__getattr__"=some none
 mb:mroIn K D (.type "BaseException")=some true
 hd:hasDictIn K D=true
 ha:findIn K (.ref D) "__class__"=some (some (.builtin "object.__class__"))
 hm:mroIn K D (.type "object")=some true
 hn:specialIn K (.builtin "object.__class__") "__get__"=some (some (.builtin "getset_descriptor.__get__"))
 ht:takesIn K (.builtin "object.__class__")=some true
def aKb(y:Ah)(C:Ac)(h:Bm):Prop:=∃ ob vs,h.get? y=some ob∧ob.cls=C∧ob.data=.fields vs
section
variable{X:Cx}
end
section
variable{H H':Hp}{L:List (Ah×Obj)}{b:Ah}{o:Obj}
variable{P:AD}{w:AY}{h h':Bm}{fs:List Ah}
end
section
variable{P:AD}{w:AY}{K:Ai}{mg:Str→Option Ac}{base:Bm}{N:List Str}{qual:Str}{scope:DM}{f:Ah}{cd:Ac}{A:AU}{outer:List Env}{s:Af}{H:Hp}{E:XK}
structure aKc(cl:List (Str×Ah))(L:List (Ah×Obj))(fs:List Str)(zs:List V):Prop where
 pr:Gn (fun(x:Str) (v:V)=>∃ b o u,cl.lookup x=some b∧L.lookup b=some o∧o.data=.cell (some u)∧c4 v u) fs zs
 all:∀ x b,cl.lookup x=some b→∃ o u,L.lookup b=some o∧o.data=.cell u
 inj:∀ x y b,cl.lookup x=some b→cl.lookup y=some b→x=y
end
section
variable{X:Cx}{k:Nat}{x:Str}{p pos:Pos}
end
inductive Thn(H:Hp):V→Prop
 | non:Thn H .non
 | bl (b:Bool):Thn H (.bl b)
 | int (i:Int):Thn H (.int i)
 | str (z:Str):Thn H (.str z)
 | lst {a:Ah} {xs:List V} (e:H a=some (.lst xs)):Thn H (.ref a)
 | tup {a:Ah} {xs:List V} (e:H a=some (.tup xs)):Thn H (.ref a)
 | dct {a:Ah} {fc:List (Key×V)} (e:H a=some (.dK fc)):Thn H (.ref a)
section
variable{X:Cx}
end
section
variable{prog:AD}{w:AY}{A:AU}{E:Ac→Af→Prop}{s:Af}
theorem aE0{a:Ah}{vs:List Ac}{n:Nat}{P:FH→Af→Prop}(M:s.heap.get? a=some (seqObj "list" vs.toArray n))(Z:∀(z B:Ac) (cM:List Ac),vs=z :: B :: cM→∀(s':Af) (Q:Dk→Af→Prop),(∀ b u,b≠a→s.heap.get? b=some u→s'.heap.get? b=some u)→(∀ κ,oP prog w A s' κ (pairsOf vs)→Q κ s')→wpAny (model prog w) A (keyKind' vs.toArray) Q E s')(hz:vs.length≤sizeLine)
  (h:∀ out:List Ac,out.Perm vs→P (.done (.ret .none)) { s with heap:=sortedHeap s.heap a vs out.toArray }):wpAny (model prog w) A (Builtin.«list.sort» ⟨[.ref a],[]⟩) P E s:=by
 rw[Gr];have ha:a < s.heap.objs.size:=Aw M;refine Aa (D8 M rfl (Aa (Co M rfl ?_)));obtain⟨O,ho1⟩:∃ O,(s.heap.update a (Bc fun _=>#[])).get? a=some (seqObj "list" #[] O):=⟨_,get?_update_seq M (fun _=>#[])⟩
 refine Aa (Dy ho1 rfl (Aa (EH (Aa (Dl (Ba ?_))))));have n1:a≠((s.heap.update a (Bc fun _=>#[])).push (seqObj "tuple" vs.toArray 0)).objs.size:=by rw[size_push',C6];exact AC (Bj ha)
 have W:a≠(s.heap.update a (Bc fun _=>#[])).objs.size:=by rw[C6];exact AC ha
 have q:(((s.heap.update a (Bc fun _=>#[])).push (seqObj "tuple" vs.toArray 0)).push (seqObj "list" #[] 0)).get? a=some (seqObj "list" #[] O):=by
  rw[ED _ _ _ n1,ED _ _ _ W];exact ho1
 show wpAny (model prog w) A _ P E { s with heap:=((s.heap.update a (Bc fun _=>#[])).push (seqObj "tuple" vs.toArray 0)).push (seqObj "list" #[] 0) };dsimp only;have fin:∀ st:Bo,(arrOf st).Perm (pairsOf vs)→P (.done (.ret .none)) { s with heap:=sortedHeap s.heap a vs ((arrOf st).map (·.2)) }:=fun st F=>by
  have U:((arrOf st).map (·.2)).toList.Perm vs:=by
   rw[DZ];have:=(Bb.mp F).map (·.2)
   rw[pairsOf_toList,List.map_snd_zip (Ap _)]at this;exact this
  have:=h _ U
  rwa [Array.toArray_toList]at this
 have le:∀ st:Bo,(arrOf st).Perm (pairsOf vs)→((arrOf st).map (·.2)).size≤sizeLine + 1:=fun st F=>by
  rw[Gg,F.size_eq,pairsOf_size];omega
 by_cases h2:vs.toArray.size < 2
 ·rw[Ib h2,Ib h2];refine Aa (Ae ?_);rw[StateT.run_pure];refine Aa (Ae ?_);dsimp only;refine Aa (Dy q rfl (Aa (Co q rfl ?_ (hsz2:=le (Di general' (vs.toArray.zip vs.toArray) #[] 7 none) (C8 _)))));simp only[bne_self_eq_false,A7,if_false];exact Ae (fin (Di general' (vs.toArray.zip vs.toArray) #[] 7 none) (C8 _))
 ·rw[Ia h2,Ia h2];obtain⟨z,B,cM,rfl⟩:∃ z B cM,vs=z :: B :: cM:=by
   match vs,h2 with
   | [],h2=>simp at h2
   | [_],h2=>simp at h2
   | z :: B :: cM,_=>exact⟨z,B,cM,rfl⟩
  refine Aa (Z z B cM rfl _ _ (fun b u nb e=>?_) fun κ hc=>Aa (aEZ hc fun st F Y=>?_))
  ·have J:=Aw e;rw[ED _ _ _ (by rw[size_push',C6];exact AC (Bj J)),ED _ _ _ (by rw[C6];exact AC J),Bp _ _ _ _ nb];exact e
  ·dsimp only;refine Aa (Dy q rfl (Aa (Co q rfl ?_ (hsz2:=le st F))));rw[Y];simp only[bne_self_eq_false,A7,if_false];exact Ae (fin st F)
end
section
variable{X:Cx}
end
section
variable{prog:AD}{w:AY}{A:AU}{E:Ac→Af→Prop}{s:Af}{T:String}{r d:Ah}{n:Nat}{P:Nat→Ac→Prop}{OK:Bm→Prop}
end
section
variable{X:Cx}
end
section
variable{prog:AD}{w:AY}{A:AU}{E:Ac→Af→Prop}{s:Af}
def aJT(P:AD)(w:AY)(h:Bm)(q:Ah)(kv:Key×Ac):Prop:=∃ o key n,h.get? q=some o∧o.cls=.type "tuple"∧o.data=.seq #[key,kv.2] n∧(c8 P w).is kv.1 key=true
end
section
variable{X:Cx}
end
open PySem.W in
section
variable{X:Cx}
end
section
variable{X:Cx}{dt:List (Ah×Obj)}{σ:St}{H:Hp}{s:Af}{d:Ah}{fc:List (Key×V)}
end
section
variable{X:Cx}{tg:Br}
end
inductive aG7(h:Bm)(v:Ac)(z:Str):Prop
 | mk (t:_) (u:_) (a:_) (b:_) (q0:v=.ref t) (q1:E2 h t #[.str z u,a,b]):aG7 h v z
def NmT(h:Bm)(v:Ac)(z:Str):Prop:=aG7 h v z
section
variable{prog:AD}{w:AY}{A:AU}{E:Ac→Af→Prop}{s:Af}
end
section
variable{X:Cx}
end
section
variable{X:Cx}
end
mutual
def ltD:Aj→Aj→Bool
 | .str x,.str y=>decide (x.cps.toList < y.cps.toList)
 | .int i,.int j=>decide (i < j)
 | .tuple xs,.tuple ys=>ltL xs ys
 | _,_=>false
def ltL:List Aj→List Aj→Bool
 | [],[]=>false
 | [],_ :: _=>true
 | _ :: _,[]=>false
 | x :: xs,y :: ys=>if Bz x y=true then ltL xs ys else ltD x y
end
mutual
def okD:Aj→Aj→Bool
 | .str _,.str _=>true
 | .int _,.int _=>true
 | .tuple xs,.tuple ys=>okL xs ys
 | _,_=>false
def okL:List Aj→List Aj→Bool
 | x :: xs,y :: ys=>if Bz x y=true then okL xs ys else okD x y
 | _,_=>true
end
def aJa(A:AU)(s:Af)(a b:Ac)(r:Bool):Prop:=∀(prog:AD) (w:AY) (E Q:Ac→Af→Prop),Q (.bool r) s→wpAny (model prog w) A (richCompare .Lt a b) Q E s
section
theorem vU(l b:Ah)(B q:Array Ac)(n n2:Nat)(dd Y:Option Ah)(sl aa:Array (Option Ac))(xs ys:List Aj):
  Meets (Builtin.«tuple.__lt__» ⟨[.ref l,.ref b],[]⟩)
   (fun A R s=>s.heap.get? l=some { cls:=.type "tuple",dict:=dd,data:=.seq B n,slots:=sl }∧s.heap.get? b=some { cls:=.type "tuple",dict:=Y,data:=.seq q n2,slots:=aa }∧
    (∃ as bs,EJ s.heap B.toList xs as∧EJ s.heap q.toList ys bs)∧okL xs ys=true∧
    (∀ dx O x y as bs,dx∈xs→O∈ys→GX s.heap x dx as→GX s.heap y O bs→EqAt A.in1 s x y (Bz dx O)∧(okD dx O=true→aJa A.in1 s x y (ltD dx O)))∧
    R (.ok (.ret (.bool (ltL xs ys)))) s):=
 .of_wp fun prog w A R s h=>by
  obtain⟨hp,g,d,tk,os⟩:=s;obtain⟨hl,hb,⟨as0,bs0,r1,r2⟩,hok,hc,h⟩:=h;have f2:=AutoSeq1.sub_tuple_tuple;have z1:B.size=xs.length:=by rw[← ReadsAll.length _ _ _ r1];simp
  have z2:q.size=ys.length:=by rw[← ReadsAll.length _ _ _ r2];simp
  wp_walk using Ff hl,Ff hb,wpAny_forIn_list _ (fun cM b s'=>b.1=none∧s'=⟨hp,g,d,tk,os⟩∧∃(vs U:List Ac) (F J:List Aj) (as bs:List Ah),cM=vs.zip U∧
   EJ hp vs F as∧EJ hp U J bs∧okL F J=true∧(∀ x∈F,x∈xs)∧(∀ y∈J,y∈ys)∧F.length + q.size=J.length + B.size∧R (.ok (.ret (.bool (ltL F J)))) ⟨hp,g,d,tk,os⟩) _
  case turn=>
   rintro⟨y,x⟩ cM b s' ⟨hb',rfl,vs,U,F,J,as,bs,hz,hvi,hwi,hok',hx',hy',hlen,hR⟩;cases hvi with
   | nil=>rw[EA]at hz;cases hz
   | @cons v vs d1 ad ao ak q1 W=>
    cases hwi with
    | nil=>rw[List.zip_nil_right]at hz;cases hz
    | @cons v2 U d2 am ah ag q2 M=>
     rw[DG]at hz;injection hz with hyx hrest;injection hyx with hy hx;subst hy hx;simp only[A6]at hlen;obtain⟨he,hlt⟩:=hc d1 d2 _ _ _ _ (hx' _ AG) (hy' _ AG) q1 q2;refine Aa (he prog w _ _ ?_);unfold ltL at hR;unfold okL at hok';cases e:Bz d1 d2 with
     | true=>
      rw[e,Ib rfl]at hR hok'
      wp_walk
      exact⟨rfl,rfl,_,_,_,_,_,_,hrest,W,M,hok',fun z hz=>hx' z (AJ _ hz),fun z hz=>hy' z (AJ _ hz),by omega,hR⟩
     | false=>
      rw[e,Ia AA]at hR hok';have Z:=fun E Q=>hlt hok' prog w E Q
      wp_walk using Z
      exact⟨_,rfl,by simpa using hR⟩
  case fin=>
   rintro⟨b1,b2⟩ s' ⟨hb',rfl,vs,U,F,J,as,bs,hz,hvi,hwi,hok',hx',hy',hlen,hR⟩;simp only at hb';subst hb';have hv:ltL F J=decide (B.size < q.size):=by
    cases hvi with
    | nil=>
     cases hwi with
     | nil=>
      simp only[DB]at hlen;unfold ltL;exact(decide_eq_false (by omega)).symm
     | cons _ _=>
      simp only[DB,A6]at hlen;unfold ltL;exact(Ic (by omega)).symm
    | cons _ _=>
     cases hwi with
     | nil=>
      simp only[DB,A6]at hlen;unfold ltL;exact(decide_eq_false (by omega)).symm
     | cons _ _=>
      rw[DG]at hz;cases hz
   rw[hv]at hR
   wp_walk
   exact⟨_,rfl,by simpa[Builtin.Tuple.tupleCompareSizes]using hR⟩
  case h=>
   exact⟨rfl,rfl,B.toList,q.toList,xs,ys,_,_,rfl,r1,r2,hok,fun _ h=>h,fun _ h=>h,by omega,h⟩
end
theorem wV:∀{xs:List Aj}{d:Aj},d∈xs→d.depth≤Bd xs
 | [],_,h=>by simp at h
 | x :: xs,d,h=>by
  unfold Bd;rcases Ao.mp h with rfl | h
  ·exact Nat.le_max_left _ _
  ·exact Bg (wV h) (Nat.le_max_right _ _)
theorem pG:∀{xs:List Aj}{d:Aj},AW xs=true→d∈xs→d.canLay0=true
 | [],_,_,h=>by simp at h
 | x :: xs,d,hc,h=>by
  unfold AW at hc;rw[AF]at hc;rcases Ao.mp h with rfl | h
  ·exact hc.1
  ·exact pG hc.2 h
theorem aGi:∀(n:Nat) {A:AU}{s:Af}{B J:Aj}{a b:Ac}{as bs:List Ah},B.depth≤n→GX s.heap a B as→GX s.heap b J bs→B.canLay0=true→J.canLay0=true→okD B J=true→A.units + n < cLine→aJa A s a b (ltD B J):=by
 intro n
 induction n with
 | zero=>
  intro A s B J a b as bs hd ra z ha Z hok hu prog w E Q q;cases ra with
  | int i t=>cases z with
   | int j u=>unfold ltD at q;exact(lt_int q:wpAny _ _ (compareOp .Lt _ _) _ _ _)
   | _=>simp[okD]at hok
  | str x t=>cases z with
   | str y u=>unfold ltD at q;exact(lt_str q:wpAny _ _ (compareOp .Lt _ _) _ _ _)
   | _=>simp[okD]at hok
  | tuple _ _ _ _=>unfold BA at hd;omega
  | _=>cases z <;> simp[okD]at hok
 | succ n ih=>
  intro A s B J a b as bs hd ra z ha Z hok hu prog w E Q q;cases ra with
  | int i t=>cases z with
   | int j u=>unfold ltD at q;exact(lt_int q:wpAny _ _ (compareOp .Lt _ _) _ _ _)
   | _=>simp[okD]at hok
  | str x t=>cases z with
   | str y u=>unfold ltD at q;exact(lt_str q:wpAny _ _ (compareOp .Lt _ _) _ _ _)
   | _=>simp[okD]at hok
  | @tuple p o vs n1 xs as ho M O r1=>cases z with
   | @tuple p2 o2 ac n2 ys bs W U Y r2=>
    unfold BA at hd;unfold BX at ha Z;unfold okD at hok;unfold ltD at q;obtain⟨cls,dd,data,sl⟩:=o;obtain⟨cls2,dd2,data2,sl2⟩:=o2;simp only at M O U Y;subst M O U Y;refine richCompare_meets_room (op:=.Lt) ⟨_,ho,rfl⟩ ⟨_,W,rfl⟩ PySem.F.slot_tuple_lt PySem.F.entry_tuple_lt (PySem.F.args_tuple_lt_2 _ _) (vU p p2 vs ac n1 n2 dd dd2 sl sl2 xs ys)
     ⟨ho,W,⟨as,bs,r1,r2⟩,hok,fun dx dy x y aj aq hx hy rx ry=>?_,show Fo (ltL xs ys)≠Value.notImplemented∧Q (.bool (ltL xs ys)) s from⟨(fun x=>nomatch x),q⟩⟩ (by omega)
    have h1:=wV hx;have h2:=Nat.min_le_left dx.depth dy.depth;exact⟨PySem.SeqAt.eqAt_reads dx dy _ _ _ _ _ _ rx ry (pG ha hx) (pG Z hy) (by show A.units + 1 + min dx.depth dy.depth < cLine;omega),fun ok=>ih (by omega) rx ry (pG ha hx) (pG Z hy) ok (by show A.units + 1 + n < cLine;omega)⟩
   | _=>simp[okD]at hok
  | _=>cases z <;> simp[okD]at hok
mutual
def plD:Aj→Bool
 | .str _=>true
 | .int _=>true
 | .tuple xs=>plL xs
 | _=>false
def plL:List Aj→Bool
 | []=>true
 | x :: xs=>plD x && plL xs
end
mutual
theorem mY:∀(x y:Aj),plD x=true→Bz x y=true→plD y=true→x=y
 | .str a,y,_,h,q=>by
  cases y <;> simp only[plD,A7]at q <;> simp only[Bz,A7]at h;rw[eq_of_beq h]
 | .int a,y,_,h,q=>by
  cases y <;> simp only[plD,A7]at q <;> simp only[Bz,A7]at h;rw[eq_of_beq h]
 | .tuple xs,y,z,h,q=>by
  cases y <;> simp only[plD,A7]at z q <;> simp only[Bz,A7]at h;rw[aCu xs _ z h q]
 | .none,_,h,_,_=>by simp[plD]at h
 | .bool _,_,h,_,_=>by simp[plD]at h
 | .list _,_,h,_,_=>by simp[plD]at h
 | .dict _,_,h,_,_=>by simp[plD]at h
theorem aCu:∀(xs ys:List Aj),plL xs=true→CG xs ys=true→plL ys=true→xs=ys
 | [],ys,_,h,_=>by
  cases ys with
  | nil=>rfl
  | cons _ _=>simp[CG]at h
 | x :: xs,ys,z,h,q=>by
  cases ys with
  | nil=>simp[CG]at h
  | cons y ys=>
   simp only[plL,AF]at z q;simp only[CG,AF]at h;rw[mY x y z.1 h.1 q.1,aCu xs ys z.2 h.2 q.2]
end
mutual
theorem uN:∀(x:Aj),plD x=true→Bz x x=true
 | .str a,_=>by simp[Bz]
 | .int a,_=>by simp[Bz]
 | .tuple xs,h=>by
  simp only[plD]at h;simp only[Bz];exact wW xs h
 | .none,h=>by simp[plD]at h
 | .bool _,h=>by simp[plD]at h
 | .list _,h=>by simp[plD]at h
 | .dict _,h=>by simp[plD]at h
theorem wW:∀(xs:List Aj),plL xs=true→CG xs xs=true
 | [],_=>by simp[CG]
 | x :: xs,h=>by
  simp only[plL,AF]at h;simp only[CG,uN x h.1,wW xs h.2,Bool.and_self]
end
theorem aAn:∀(xs:List Aj),plL xs=true→ltL xs xs=false
 | [],_=>by simp[ltL]
 | x :: xs,h=>by
  simp only[plL,AF]at h;unfold ltL;rw[Ib (uN x h.1)];exact aAn xs h.2
theorem pH{x:Aj}(h:plD x=true):ltD x x=false:=by
 cases x <;> simp only[plD,A7]at h
 ·simp[ltD]
 ·simp only[ltD];exact decide_eq_false (CM _)
 ·simp only[ltD];exact aAn _ h
mutual
theorem aBt:∀(x y z:Aj),plD x=true→plD y=true→plD z=true→ltD x y=true→ltD y z=true→ltD x z=true
 | .str a,y,z,_,_,_,h1,h2=>by
  cases y <;> simp only[ltD,A7]at h1;cases z <;> simp only[ltD,A7]at h2;simp only[ltD];exact Ic (EF (Ie h1) (Ie h2))
 | .int a,y,z,_,_,_,h1,h2=>by
  cases y <;> simp only[ltD,A7]at h1;cases z <;> simp only[ltD,A7]at h2;simp only[ltD];exact Ic (Int.lt_trans (Ie h1) (Ie h2))
 | .tuple xs,y,z,B,q,hz,h1,h2=>by
  cases y <;> simp only[ltD,A7]at h1;cases z <;> simp only[ltD,A7]at h2;simp only[plD]at B q hz;simp only[ltD];exact aE1 xs _ _ B q hz h1 h2
 | .none,_,_,h,_,_,_,_=>by simp[plD]at h
 | .bool _,_,_,h,_,_,_,_=>by simp[plD]at h
 | .list _,_,_,h,_,_,_,_=>by simp[plD]at h
 | .dict _,_,_,h,_,_,_,_=>by simp[plD]at h
theorem aE1:∀(xs ys zs:List Aj),plL xs=true→plL ys=true→plL zs=true→ltL xs ys=true→ltL ys zs=true→ltL xs zs=true
 | [],ys,zs,_,_,_,h1,h2=>by
  cases ys <;> simp only[ltL,A7]at h1;cases zs <;> simp only[ltL,A7]at h2;simp[ltL]
 | x :: xs,ys,zs,q,B,hz,h1,h2=>by
  cases ys with
  | nil=>simp[ltL]at h1
  | cons y ys=>
   cases zs with
   | nil=>simp[ltL]at h2
   | cons z zs=>
    simp only[plL,AF]at q B hz;unfold ltL at h1 h2 ⊢;by_cases e1:Bz x y=true
    ·have:=mY x y q.1 e1 B.1;subst this;rw[Ib e1]at h1;by_cases F:Bz x z=true
     ·rw[Ib F]at h2 ⊢;exact aE1 xs ys zs q.2 B.2 hz.2 h1 h2
     ·rw[Ia F]at h2 ⊢;exact h2
    ·rw[Ia e1]at h1;by_cases F:Bz y z=true
     ·have:=mY y z B.1 F hz.1;subst this;rw[Ia e1];exact h1
     ·rw[Ia F]at h2;have J:=aBt x y z q.1 B.1 hz.1 h1 h2;rw[Ia fun e=>?_]
      ·exact J
      ·have:=mY x z q.1 e hz.1;subst this;rw[pH q.1]at J;cases J
end
theorem aGj{x y:Aj}(z:plD x=true)(q:plD y=true)(h:¬ Bz x y=true):¬ Bz y x=true:=fun e=>by
 have:=mY y x q e z;subst this;exact h e
mutual
theorem aCv:∀(x y:Aj),plD x=true→plD y=true→okD x y=true→¬ Bz x y=true→ltD x y=true∨ltD y x=true
 | .str a,y,_,_,z,h=>by
  cases y with
  | str b=>
  simp only[ltD,decide_eq_true_eq];simp only[Bz]at h;rcases List.le_total a.cps.toList b.cps.toList with q | q
  ·rcases List.le_iff_lt_or_eq.mp q with q | q
   ·exact .inl q
   ·exact absurd (by rw[nE q];simp) h
  ·rcases List.le_iff_lt_or_eq.mp q with q | q
   ·exact .inr q
   ·exact absurd (by rw[nE q];simp) h
  | _=>simp[okD]at z
 | .int a,y,_,_,z,h=>by
  cases y <;> simp only[okD,A7]at z;simp only[ltD,decide_eq_true_eq];simp only[Bz,beq_iff_eq]at h;omega
 | .tuple xs,y,F,B,z,h=>by
  cases y <;> simp only[okD,A7]at z;simp only[plD]at F B;simp only[Bz]at h;simp only[ltD];exact aCw xs _ F B z h
 | .none,_,h,_,_,_=>by simp[plD]at h
 | .bool _,_,h,_,_,_=>by simp[plD]at h
 | .list _,_,h,_,_,_=>by simp[plD]at h
 | .dict _,_,h,_,_,_=>by simp[plD]at h
theorem aCw:∀(xs ys:List Aj),plL xs=true→plL ys=true→okL xs ys=true→¬ CG xs ys=true→ltL xs ys=true∨ltL ys xs=true
 | [],ys,_,_,_,h=>by
  cases ys with
  | nil=>simp[CG]at h
  | cons _ _=>exact .inl (by simp[ltL])
 | x :: xs,ys,B,q,F,h=>by
  cases ys with
  | nil=>exact .inr (by simp[ltL])
  | cons y ys=>
   simp only[plL,AF]at B q;simp only[CG,AF]at h;unfold okL at F;unfold ltL;by_cases e:Bz x y=true
   ·have:=mY x y B.1 e q.1;subst this;rw[Ib e]at F ⊢;rw[Ib e];exact aCw xs ys B.2 q.2 F fun z=>h ⟨e,z⟩
   ·rw[Ia e]at F ⊢;rw[Ia (aGj B.1 q.1 e)];exact aCv x y B.1 q.1 F e
end
structure RowD(d:Aj):Prop where
 fm:∃ k xs,d=.tuple (.str k :: xs)
 pl:plD d=true
 ly:d.canLay0=true
 dp:d.depth≤6
inductive aG8(h:Bm)(v:Ac)(d:Aj):Prop
 | mk (as:_) (q0:GX h v d as):aG8 h v d
def RdT(h:Bm)(v:Ac)(d:Aj):Prop:=aG8 h v d
mutual
theorem uO{h h':Bm}(k:∀ b o,h.get? b=some o→o.cls=.type "tuple"→h'.get? b=some o):∀{v:Ac}{d:Aj}{as:List Ah},GX h v d as→plD d=true→GX h' v d as
 | _,_,_,.none,p=>by simp[plD]at p
 | _,_,_,.bool _,p=>by simp[plD]at p
 | _,_,_,.int i t,_=>.int i t
 | _,_,_,.str x t,_=>.str x t
 | _,_,_,.list _ _ _ _,p=>by simp[plD]at p
 | _,_,_,.tuple e c d r,p=>.tuple (k _ _ e c) c d (qX k r (by unfold plD at p;exact p))
 | _,_,_,.dict _ _ _ _ _,p=>by simp[plD]at p
theorem qX{h h':Bm}(k:∀ b o,h.get? b=some o→o.cls=.type "tuple"→h'.get? b=some o):∀{vs:List Ac}{ds:List Aj}{as:List Ah},EJ h vs ds as→plL ds=true→EJ h' vs ds as
 | _,_,_,.nil,_=>.nil
 | _,_,_,.cons a r,p=>by
  unfold plL at p;rw[AF]at p;exact .cons (uO k a p.1) (qX k r p.2)
end
theorem RdT.keep{h h':Bm}{v:Ac}{d:Aj}(p:RdT h v d)(r:RowD d)(k:∀ b o,h.get? b=some o→o.cls=.type "tuple"→h'.get? b=some o):RdT h' v d:=by
 obtain⟨as,p⟩:=p;exact⟨as,uO k p r.pl⟩
inductive aG9(h:Bm)(v:Ac):Prop
 | mk (t:_) (z:_) (u:_) (cM:_) (q0:v=.ref t) (q1:E2 h t (By z u :: cM).toArray):aG9 h v
def FsT(h:Bm)(v:Ac):Prop:=aG9 h v
theorem RdT.first{h:Bm}{v:Ac}{d:Aj}(p:RdT h v d)(r:RowD d):FsT h v:=by
 obtain⟨as,p⟩:=p;obtain⟨k,xs,rfl⟩:=r.fm;cases p with
 | @tuple a o vs n _ _ e c B q=>
  obtain⟨l⟩:=vs;cases q with
  | cons z F=>
   cases z;exact⟨a,k,_,_,rfl,o,e,c,n,B⟩
section
variable{prog:AD}{w:AY}{A:AU}{E:Ac→Af→Prop}{s:Af}
theorem aJb{b fin:Bool}{Q:Bool→Af→Prop}{N:Nat}(Z:A.units + N < cLine):∀{vs ws:List Ac}{xs ys:List Aj}{as bs:List Ah} (i:Nat),EJ s.heap vs xs as→EJ s.heap ws ys bs→AW xs=true→AW ys=true→okL xs ys=true→Bd xs≤N→
  fin=decide (xs.length < ys.length)→(i=0→∃ k U k2 W,xs=.str k :: U∧ys=.str k2 :: W)→Q (ltL xs ys) s→KatLex prog w A b fin Q (vs.zip ws) i s
 | _,_,_,_,_,_,i,.nil,F,_,_,_,_,O,_,q=>by
  rw[EA];refine kat_nil ?_;cases F with
  | nil=>unfold ltL at q;rw[O];exact q
  | cons _ _=>unfold ltL at q;rw[O];exact q
 | _,_,_,_,_,_,i,.cons a1 r1,F,M,J,ok,hd,O,h0,q=>by
  cases F with
  | nil=>
   rw[List.zip_nil_right];refine kat_nil ?_;unfold ltL at q;rw[O];exact q
  | cons a2 F=>
   rw[DG];unfold AW at M J;rw[AF]at M J;unfold Bd at hd;have B:=Bg (Nat.le_max_left _ _) hd;have aa:=Bg (Nat.le_max_right _ _) hd;unfold okL at ok;unfold ltL at q;refine kat_cons (PySem.SeqAt.eqAt_reads _ _ _ _ _ _ _ _ a1 a2 M.1 J.1 (Fz (Nat.add_le_add_left (Bg (Nat.min_le_left _ _) B) _) Z) prog w _ _ ?_);refine kat_go (fun e=>kat_yes ?_) fun e=>kat_no ?_
   ·rw[e,Ib rfl]at ok q;exact aJb Z (i + 1) r1 F M.2 J.2 ok aa (by rw[O];simp) (fun z=>by omega) q
   ·rw[e,Ia AA]at ok q;by_cases Y:(b && i == 0)=true
    ·obtain⟨k,U,k2,W,e1,e2⟩:=h0 (by simp at Y;exact Y.2);injection e1 with e1;injection e2 with e2;subst e1 e2;cases a1;cases a2;rw[Y];unfold ltD at q;exact oneLt_str q
    ·rw[show(b && i == 0)=false by simpa using Y];exact kat_one _ _ (aGi N B a1 a2 M.1 J.1 ok Z prog w _ _ q)
theorem ltR{Y:Bool}{J M:Ac}{d e:Aj}{C:Bool→Af→Prop}(h1:RdT s.heap J d)(h2:RdT s.heap M e)(B:RowD d)(O:RowD e)(ok:okD d e=true)(hu:A.units + 8 < cLine)(h:C (ltD d e) s):wpAny (model prog w) A (keyLt' (tuples' Y) J M) C E s:=by
 obtain⟨as,h1⟩:=h1;obtain⟨bs,h2⟩:=h2;obtain⟨k1,xs,rfl⟩:=B.fm;obtain⟨k2,ys,rfl⟩:=O.fm;have dp:=B.dp;have q:=B.ly;have z:=O.ly;unfold BA at dp;unfold BX at q z;unfold okD at ok;unfold ltD at h;cases h1 with
 | @tuple a o vs n _ _ e1 c1 d1 F=>
  cases h2 with
  | @tuple a2 o2 ae n2 _ _ W c2 Z U=>
   refine kat_lt e1 d1 W Z (aJb (N:=8) hu 0 F U q z ok (by omega) ?_ (fun _=>⟨_,_,_,_,rfl,rfl⟩) h);have l1:=PySem.SeqAt.ReadsAll.length _ _ _ F;have l2:=PySem.SeqAt.ReadsAll.length _ _ _ U;rw[← l1,← l2];simp
theorem aJc{ks:List Ac}{Q:Dk→Af→Prop}(Y:∀ v∈ks,FsT s.heap v)(h:∀ b,Q (tuples' b) s):wpAny (model prog w) A (keyKind' ks.toArray) Q E s:=by
 rw[keyKind'_eq,Cp];refine Aa ?_;rw[← bind_pure_comp];refine Aa (i9 (R:=fun _ r=>∃ a u,r=some (By a u)) ks (fun v J=>?_) fun rs hl F=>Ae ?_)
 ·obtain⟨t,z,u,cM,rfl,ht⟩:=Y v J;refine⟨some (.str z u),⟨z,u,rfl⟩,fun U q=>?_⟩;rw[G9];refine Aa (BM ht.typeIs ?_);refine Aq (by decide) ?_;refine Aa (gZ ht ?_);exact Ae q
 ·have B:(rs.toArray.all fun x=>x.isSome)=true:=by
   rw[FW,Be];intro r W;obtain⟨v,_,a,u,rfl⟩:=F r W;rfl
  refine BG (by rw[B];rfl) ?_;refine Aa (CK ?_);rw[oneTypeOnly'_eq,Cp]
  iterate 2 refine Aa ?_
  rw[← bind_pure_comp];refine Aa (i9 (R:=fun _ r=>r=AB "str") _ (fun v J=>?_) fun ts aa Z=>Ae ?_)
  ·have M:some v∈rs:=by simpa using J
   obtain⟨_,_,a,u,e⟩:=F _ M;cases e;exact⟨_,rfl,fun U q=>BM (FX s a u) q⟩
  ·cases O:ts.toArray[0]? with
   | none=>exact Ae (Ae (h _))
   | some t=>exact Ae (Ae (h _))
def pI(ds:List Aj):List Nat:=(dH (fun i j=>ltD (ds.getD i .none) (ds.getD j .none)) (B3 ds.length)).toList
theorem uP(ds:List Aj)(h:0 < ds.length):(pI ds).Perm (AO ds.length):=by
 have:=gW.run (fun i j=>ltD (ds.getD i .none) (ds.getD j .none)) (fX h);exact Bb.mp this
theorem aBu{ds:List Aj}(h:0 < ds.length)(M:∀ d∈ds,∀ e∈ds,okD d e=true)(hd:∀ d∈ds,plD d=true)(hn:ds.Nodup):((pI ds).map fun i=>ds.getD i .none).Pairwise fun a b=>ltD a b=true:=by
 have at':∀ i,i < ds.length→ds.getD i .none=ds[i]?.getD .none∧ds.getD i .none∈ds:=fun i hi=>⟨Ak ..,by rw[Ak,Ab hi];exact Bk _⟩
 have ne:∀ i j,i < ds.length→j < ds.length→i≠j→ds.getD i .none≠ds.getD j .none:=fun i j hi z B e=>by
  rw[Ak,Ak,Ab hi,Ab z]at e;exact B ((D5 hn).mp e)
 obtain⟨π,h1,h2⟩:=aCo (n:=ds.length) (o:=fun i j=>decide (i < ds.length) && decide (j < ds.length) && ltD (ds.getD i .none) (ds.getD j .none)) (fun i=>by
  by_cases hi:i < ds.length
  ·rw[pH (hd _ (at' i hi).2),Gk]
  ·simp[hi]) (fun i j k a b=>by
  simp only[AF,decide_eq_true_eq]at a b ⊢;exact⟨⟨a.1.1,b.1.2⟩,aBt _ _ _ (hd _ (at' i a.1.1).2) (hd _ (at' j a.1.2).2) (hd _ (at' k b.1.2).2) a.2 b.2⟩) (fun i j hi z B=>by
  simp only[AF,decide_eq_true_eq];rcases aCv _ _ (hd _ (at' i hi).2) (hd _ (at' j z).2) (M _ (at' i hi).2 _ (at' j z).2) (fun e=>ne i j hi z B (mY _ _ (hd _ (at' i hi).2) e (hd _ (at' j z).2)))with q | q
  ·exact .inl ⟨⟨hi,z⟩,q⟩
  ·exact .inr ⟨⟨z,hi⟩,q⟩)
 have F:∀ i j,i < ds.length→j < ds.length→ltD (ds.getD i .none) (ds.getD j .none)=ord π i j:=fun i j hi z=>by
  rw[← h1 i j hi z,Ic hi,Ic z];rfl
 have e:dH (fun i j=>ltD (ds.getD i .none) (ds.getD j .none)) (B3 ds.length)=dH (ord π) (B3 ds.length):=lU (n:=ds.length) (P:=Pm ds.length) F (fX h);unfold pI;rw[e];obtain⟨hP,hS⟩:=aAg h h2;have hz:=hP.size;rw[Cq];intro i j hi z B;have W:i < ds.length:=by simpa[hz]using hi
 have J:j < ds.length:=by simpa[hz]using z
 have:=hS i j B J;have O:(dH (ord π) (B3 ds.length)).getD i 0=(dH (ord π) (B3 ds.length)).toList[i]'(by simpa using(by omega:i < (dH (ord π) (B3 ds.length)).size)):=by rw[kJ (A4 (by omega))];simp
 have U:(dH (ord π) (B3 ds.length)).getD j 0=(dH (ord π) (B3 ds.length)).toList[j]'(by simpa using(by omega:j < (dH (ord π) (B3 ds.length)).size)):=by rw[kJ (A4 (by omega))];simp
 rw[C5,C5,← O,← U];rw[F _ _ (hP.lt h i) (hP.lt h j)];exact Ic this
theorem aJd{b:Bool}{vs:List Ac}{ds:List Aj}{Q:Unit×Bo→Af→Prop}(hl:vs.length=ds.length)(O:∀ d∈ds,∀ e∈ds,okD d e=true)(hd:∀ d∈ds,RowD d)(hu:A.units + 8 < cLine)(h2:2≤vs.length)(J:vs.length < 64)(M:∀ i,i < vs.length→RdT s.heap (vs.getD i .none) (ds.getD i .none))
  (h:∀ st:Bo,(arrOf st).map (·.2)=((pI ds).map fun i=>vs.getD i .none).toArray→failedOf st=none→Q ((),st) s):wpAny (model prog w) A (sortRuns'.run (Di (tuples' b) (vs.toArray.zip vs.toArray) #[] 7 none)) Q E s:=by
 have hz:(vs.toArray.zip vs.toArray).size=vs.length:=by simp
 have B:=kas_runs (prog:=prog) (w:=w) (A:=A) (E:=E) (κ:=tuples' b) (it:=vs.toArray.zip vs.toArray) (n:=vs.length) (s:=s) (Q:=fun u st s'=>s'=s∧Q (u,st) s) (G:=fun p s'=>p.toList=pI ds∧s'=s) h2 J (fun p' F s' ac ha hf Z=>?_)
  (gW.wpO (n:=vs.length) (P:=Pm vs.length) (o:=fun i j=>ltD (ds.getD i .none) (ds.getD j .none)) (fun i j C hi W U=>?_) (fX (by omega)) ⟨by unfold pI;rw[hl],rfl⟩)
 ·have Y:GZ (tuples' b) (vs.toArray.zip vs.toArray) (AO vs.length).toArray=Di (tuples' b) (vs.toArray.zip vs.toArray) #[] 7 none:=by
   unfold GZ;have:=kas_range (vs.toArray.zip vs.toArray);rw[hz]at this;rw[this]
  rw[Y]at B;exact B8 B (fun r s' z=>by
   obtain⟨rfl,q⟩:=z;exact q) fun e s' z=>z
 ·obtain⟨hp,rfl⟩:=Z;refine⟨rfl,h F ?_ hf⟩;rw[ha];apply D0.mp;rw[Gp,DZ,hp];show _=(pI ds).map _;refine C2 fun i _=>?_;show(EI (pairsOf vs) i).2=_;rw[ES]
 ·unfold kas_cmp;show wpAny _ _ (keyLt' _ (EI (pairsOf vs) i).1 (EI (pairsOf vs) j).1) _ _ _;rw[ES,ES];have h1:ds.getD i .none∈ds:=by rw[Ak,Ab (by omega:i < ds.length)];exact Bk _
  have h2:ds.getD j .none∈ds:=by rw[Ak,Ab (by omega:j < ds.length)];exact Bk _
  exact ltR (M i hi) (M j W) (hd _ h1) (hd _ h2) (O _ h1 _ h2) hu U
theorem aBv{a:Ah}{vs:List Ac}{ds:List Aj}{n:Nat}{P:FH→Af→Prop}(W:s.heap.get? a=some (seqObj "list" vs.toArray n))(hl:vs.length=ds.length)(ho:∀ d∈ds,∀ e∈ds,okD d e=true)(hd:∀ d∈ds,RowD d)(hu:A.units + 8 < cLine)(h2:2≤vs.length)(Z:vs.length < 64)(hk:∀ i,i < vs.length→RdT s.heap (vs.getD i .none) (ds.getD i .none))
  (h:∀(h':Bm) (e:Nat),(∀ b u,b≠a→s.heap.get? b=some u→h'.get? b=some u)→h'.get? a=some (seqObj "list" ((pI ds).map fun i=>vs.getD i .none).toArray e)→P (.done (.ret .none)) { s with heap:=h' }):
  wpAny (model prog w) A (Builtin.«list.sort» ⟨[.ref a],[]⟩) P E s:=by
 have Y:∀ m,m≤vs.length→m≤sizeLine:=fun m hm=>aS (by omega);rw[Gr];refine Aa (D8 W rfl ?_);refine Aa (Co W rfl ?_ (by rw[At];exact Y _ (Ap _)) (A3 _));have B:=get?_update_seq W (fun _=>#[]);generalize (if ((#[]:Array Ac).size == vs.toArray.size)=true then n else n + 1)=e1 at B;have J:∀ b u,b≠a→s.heap.get? b=some u→(s.heap.update a (Bc fun _=>#[])).get? b=some u:=fun b u nb e=>by
  rw[Bp _ _ _ _ nb];exact e
 dsimp only;generalize s.heap.update a (Bc fun _=>#[])=h1 at B J ⊢;refine Aa (Dy B rfl ?_);refine Aa (EH ?_ (by simpa using Y _ (Ap _)));refine Aa (Dl ?_ (A3 _));refine Ba ?_;have F:((h1.push { cls:=AB "tuple",data:=Ci vs.toArray.toList.toArray }).push { cls:=AB "list",data:=Ci ([]:List Ac).toArray }).get? a=some (seqObj "list" #[] e1):=Ag _ (Ag _ B);have q:∀ b u,b≠a→s.heap.get? b=some u→((h1.push { cls:=AB "tuple",data:=Ci vs.toArray.toList.toArray }).push { cls:=AB "list",data:=Ci ([]:List Ac).toArray }).get? b=some u:=fun b u nb e=>Ag _ (Ag _ (J b u nb e));dsimp only;generalize (h1.push { cls:=AB "tuple",data:=Ci vs.toArray.toList.toArray }).push { cls:=AB "list",data:=Ci ([]:List Ac).toArray }=h3 at F q ⊢;have M:∀ i,i < vs.length→RdT h3 (vs.getD i .none) (ds.getD i .none):=fun i hi=>(hk i hi).keep (hd _ (by rw[Ak,Ab (by omega:i < ds.length)];exact Bk _)) fun b o e hc=>q b o (fun z=>by
  rw[z,W]at e;cases e;have ab:(AB "list")=AB "tuple":=hc;injection ab with z2;exact absurd z2 (by decide)) e
 have U:¬ vs.toArray.size < 2:=by simpa using Nat.not_lt.mpr h2
 rw[Ia U,Ia U];refine Aa (aJc (fun v hv=>?_) fun b=>?_)
 ·obtain⟨i,hi,rfl⟩:=Dp.mp hv;have:=M i hi;rw[Ak,Ab hi]at this;have hm:ds.getD i .none∈ds:=by rw[Ak,Ab (by omega:i < ds.length)];exact Bk _
  exact this.first (hd _ hm)
 ·refine Aa (aJd hl ho hd hu h2 Z M fun st O hf=>?_);dsimp only;refine Aa (Dy F rfl ?_);have ac:((pI ds).map fun i=>vs.getD i .none).length=vs.length:=by rw[Ad,(uP ds (by omega)).length_eq,BR,hl]
  refine Aa (Co F rfl ?_ (A3 _) (by show((arrOf st).map (·.2)).size≤_;rw[O,At,ac];exact FM (Y _ (Ap _))))
  rw[hf];refine Aq (by simp) ?_;obtain⟨e3,gA3⟩:∃ e3,(h3.update a (Bc fun _=>(arrOf st).map (·.2))).get? a=some (seqObj "list" ((arrOf st).map (·.2)) e3):=⟨_,get?_update_seq F (fun _=>(arrOf st).map (·.2))⟩
  refine Ae (h _ e3 (fun b u nb e=>?_) (by rw[← O];exact gA3));rw[Bp _ _ _ _ nb];exact q b u nb e
end
section
variable{X:Cx}
inductive kQ(xs:List V)(H:Hp)(Q:VK):Prop
 | mk (p:Ah) (rs:List V) (ds:List Aj) (q0:xs=[.ref p]) (q1:H p=some (.lst rs)) (q2:cY false H rs ds) (q3:(∀ d∈ds,∀ e∈ds,okD d e=true)) (q4:(∀ d∈ds,RowD d)) (q5:ds.length < 64) (q6:∀(l:Ah) (o:List Nat),H l=none→o.Perm (AO ds.length)→(ds.Nodup→(o.map fun i=>ds.getD i .none).Pairwise fun a b=>ltD a b=true)→Q (.ref l) (upd H l (.lst (o.map fun i=>rs.getD i .non)))):kQ xs H Q
def uQ:List V→Hp→VK→Prop:=fun xs H Q=>kQ xs H Q
theorem pJ{k:Nat}(hr:cS k X.A):fJ X (.builtin "sorted") uQ:=by
 intro dt s σ H xs us Q I r h;obtain⟨p,rs,ds,rfl,hx,hP,ho,hd,h64,q⟩:=h;obtain⟨u,rfl,ru⟩:=fM r;cases ru;obtain⟨its,rv,pl,_⟩:=I.list (bG hx);have ak:=hP.len;have ab:=rv.length;refine Ew Gq F8 F9 (Hb _) ?_;unfold Builtin.«sorted»;apply Aa (m:=checkCount "sorted" 1 1 _);apply Ae;refine Aa (collect_list pl.isList ?_ (aS (by omega)));have hk:∀ b u,s.heap.get? b=some u→((s.heap.push (seqObj "list" #[] 0)).update s.heap.objs.size (Bc (· ++ its.toArray))).get? b=some u:=fun b u e=>by
  rw[Bp _ _ _ _ (AC (Aw e))];exact Ag _ e
 have U:s.heap.objs.size < ((s.heap.push (seqObj "list" #[] 0)).update s.heap.objs.size (Bc (· ++ its.toArray))).objs.size:=by
  rw[C6,BY];exact B1 _
 dsimp only;generalize (s.heap.push (seqObj "list" #[] 0)).update s.heap.objs.size (Bc (· ++ its.toArray))=z at hk U ⊢
 have W:its.length≤sizeLine:=aS (by omega);apply Aa;refine Dl ?_ W;have B:(z.push (seqObj "list" its.toArray 0)).get? z.objs.size=some (seqObj "list" its.toArray 0):=Av _ rfl;have Y:∀ b u,s.heap.get? b=some u→(z.push (seqObj "list" its.toArray 0)).get? b=some u:=fun b u e=>Ag _ (hk b u e);have hN:∀ i,i < its.length→RdT (z.push (seqObj "list" its.toArray 0)) (its.getD i .none) (ds.getD i .none):=fun i hi=>by
  have O:i < rs.length:=by omega
  have aq:i < ds.length:=by omega
  obtain⟨d,hdd,rd⟩:=hP.at (Ab O);obtain⟨u,hu,ru⟩:=rv.get (Ab O);obtain⟨as,hrd,_⟩:=RdV.reads I rd ru;rw[Ak,Ak,hu,hdd];exact RdT.keep ⟨as,hrd⟩ (hd _ (AR hdd)) fun b o e _=>Y b o e
 have F:s.heap.objs.size≤z.objs.size:=Db U;have J:∀(h':Bm) (e:Nat) (o:List Nat),o.Perm (AO ds.length)→(ds.Nodup→(o.map fun i=>ds.getD i .none).Pairwise fun a b=>ltD a b=true)→(∀ b u,b≠z.objs.size→(z.push (seqObj "list" its.toArray 0)).get? b=some u→h'.get? b=some u)→h'.get? z.objs.size=some (seqObj "list" (o.map fun i=>its.getD i .none).toArray e)→EP X dt σ Q (.ref z.objs.size) { s with heap:=h',toks:=s.toks }:=fun h' e o M hs k' he=>by
  have ai:cW (o.map fun i=>rs.getD i .non) (o.map fun i=>its.getD i .none):=nG rv _ fun i hi=>by
   have:=M.mem_iff.mp hi;rw[BF]at this;omega
  have ac:o.length=ds.length:=by rw[M.length_eq,BR]
  exact⟨.ref z.objs.size,_,I.laid (t':=s.toks) (o:=.lst (o.map fun i=>rs.getD i .non)) (fun b u Z=>k' b u (AC (Aw (hk b u Z))) (Y b u Z)) F ⟨aS (by rw[Ad];omega),_,e,ai,by rw[he] <;> rfl⟩,rfl,q _ o (I.hok.fresh F) M hs⟩
 by_cases h2:2≤rs.length
 ·refine Aa (Ba (B4 slot_list_sort ⟨_,B,rfl⟩ entry_list_sort (aBv B (by omega) ho hd (by have:=hr.un;show X.A.units + 1 + 1 + 8 < cLine;omega) (by omega) (by omega) hN fun h' e k' he=>⟨_,rfl,?_⟩) (Fy _)));exact Ae ⟨_,rfl,J h' e _ (uP ds (by omega)) (fun hn=>aBu (by omega) ho (fun d h=>(hd d h).pl) hn) k' he⟩
 ·refine Aa (Ba (B4 slot_list_sort ⟨_,B,rfl⟩ entry_list_sort (aE0 B (fun v1 v2 cM e=>by rw[e]at ab;simp at ab;omega) W fun out hp=>⟨_,rfl,?_⟩) (Fy _)));have ac:=hp.length_eq;obtain⟨e,he⟩:=GG (vs:=its) (out:=out.toArray) B;refine Ae ⟨_,rfl,J _ e (AO ds.length) (.refl _) (fun hn=>?_) (fun b u nb Z=>?_) ?_⟩
  ·rw[Cq];intro i j hi hj ap;rw[Ad,BR]at hj;omega
  ·have aj:=Aw Z;rw[Gw nb aj];exact Z
  ·have:out=(AO ds.length).map fun i=>its.getD i .none:=by
    have ad:its.length < 2:=by omega
    have ae:ds.length=its.length:=by omega
    rw[ae];cases its with
    | nil=>exact Ev hp
    | cons v0 t=>cases t with
     | nil=>rw[List.perm_singleton.mp hp];rfl
     | cons _ _=>simp only[A6]at ad;omega
   rw[← this];exact he
end
section
variable{X:Cx}
inductive aE2(neg:Bool)(x:V)(y:V)(H:Hp)(Q:VK):Prop
 | mk (m:Bool) (d:Aj) (ds:List Aj) (q0:RdV m H x d) (q1:(RdV m H y (.tuple ds)∨RdV m H y (.list ds))) (q2:d.canLay0=true) (q3:AW ds=true) (q4:d.depth≤8) (q5:Q (.bl (if neg then !ds.any (fun e=>Bz e d) else ds.any fun e=>Bz e d)) H):aE2 neg x y H Q
def aJe(neg:Bool):V→V→Hp→VK→Prop:=fun x y H Q=>aE2 neg x y H Q
theorem aHZ{k:Nat}(B:cS k X.A):OpR X (compareOp .In) (aJe false):=by
 intro dt s σ H x y v u Q I F z h;obtain⟨m,d,ds,h1,h2,h3,h4,h5,q⟩:=h;obtain⟨as,r1,_⟩:=RdV.reads I h1 F;have hm:=F1 (Bd ds) d.depth;have J:=B.un;rcases h2 with h2 | h2
 ·obtain⟨bs,r2,_⟩:=RdV.reads I h2 z;exact PySem.SeqAt.in_tuple_reads r2 r1 h4 h3 (by omega) ⟨.bl _,H,I,rfl,q⟩
 ·obtain⟨bs,r2,_⟩:=RdV.reads I h2 z;exact PySem.SeqAt.in_list_reads r2 r1 h4 h3 (by omega) ⟨.bl _,H,I,rfl,q⟩
theorem aDz{k:Nat}(B:cS k X.A):OpR X (compareOp .NotIn) (aJe true):=by
 intro dt s σ H x y v u Q I F z h;obtain⟨m,d,ds,h1,h2,h3,h4,h5,q⟩:=h;obtain⟨as,r1,_⟩:=RdV.reads I h1 F;have hm:=F1 (Bd ds) d.depth;have J:=B.un;rcases h2 with h2 | h2
 ·obtain⟨bs,r2,_⟩:=RdV.reads I h2 z;exact PySem.SeqAt.notIn_tuple_reads r2 r1 h4 h3 (by omega) ⟨.bl _,H,I,rfl,q⟩
 ·obtain⟨bs,r2,_⟩:=RdV.reads I h2 z;exact PySem.SeqAt.notIn_list_reads r2 r1 h4 h3 (by omega) ⟨.bl _,H,I,rfl,q⟩
theorem uR(k:Str):∀ ys:List Str,countIn (.str k) (ys.map AX)=((ys.countP fun y=>decide (y=k):Nat):Int)
 | []=>rfl
 | y :: ys=>by
  rw[A1,FV];unfold PySem.Spec.countIn;rw[uR k ys];by_cases e:y=k
  ·subst e;simp[PySem.Spec.same];omega
  ·simp[PySem.Spec.same,e]
inductive oB(x:V)(xs:List V)(H:Hp)(Q:VK):Prop
 | mk (a:Ah) (zs:List Str) (z:Str) (q0:x=.ref a) (q1:xs=[.str z]) (q2:H a=some (.lst (zs.map V.str))) (q3:Q (.int ((zs.countP fun y=>decide (y=z):Nat):Int)) H):oB x xs H Q
def aAo:V→List V→Hp→VK→Prop:=fun x xs H Q=>oB x xs H Q
theorem wX:MtR X "list.count" aAo:=by
 intro dt s σ H x xs v us Q I B r h;obtain⟨a,zs,z,rfl,rfl,ha,q⟩:=h;cases B;obtain⟨u,rfl,ru⟩:=fM r;obtain⟨t,rfl⟩:=ru;obtain⟨its,rv,p,_⟩:=I.list (bG ha);refine count_list_strs p.isList (lQ rv) ?_;rw[uR];exact⟨.int _,H,I.tok _,⟨_,rfl⟩,q⟩
end
section
variable{X:Cx}
inductive pK(K:Ai)(x:V)(y:V)(H:Hp)(Q:VK):Prop
 | mk (p:_) (q:_) (xs:_) (q0:x=.ref p) (q1:y=.ref q) (q2:SqL K H p xs) (q3:SqL K H q []) (q4:Q (.bl (decide (0 < xs.length))) H):pK K x y H Q
def aBw(K:Ai):V→V→Hp→VK→Prop:=fun x y H Q=>pK K x y H Q
theorem aE3(F:X.A.units < cLine):OpR X (compareOp .NotEq) (aBw X.K):=by
 intro dt s σ H x y v u Q I J B h;obtain⟨p,q,xs,rfl,rfl,h1,h2,hq⟩:=h;cases xs with
 | nil=>exact aEt F dt s σ H _ _ v u Q I J B ⟨p,q,[],[],rfl,rfl,h1,h2,rfl,rfl,hq⟩
 | cons z r=>
  cases J;cases B;obtain⟨us,r1,p1,_⟩:=I.list h1;obtain⟨ws,r2,p2,_⟩:=I.list h2;have O:=r1.length;have M:=r2.length;refine SeqAt.RcNeAt.lists_lengths p1.isList p2.isList (by simp at O M ⊢;omega) F X.prog X.w _ _ ?_;rw[Ic (show 0 < (z :: r).length by simp)]at hq;exact⟨.bl _,H,I,rfl,hq⟩
end
end L2
namespace K60
open PySem L2
theorem nW{a b:Str}{X Y:Prop}(n:a≠b)(h:Y):if decide (V.str a=V.str b)=true then X else Y:=dS (fun g=>absurd (V.str.inj (Ie g)) n) fun _=>h
theorem yW{a:Str}{X Y:Prop}(h:X):if decide (V.str a=V.str a)=true then X else Y:=dS (fun _=>h) fun g=>absurd (Ic rfl) g
theorem zZ1{q:V}:[q].length≤sizeLine:=aS (show 1≤1000000 by decide)
theorem zZ2{q a1:V}:[q,a1].length≤sizeLine:=aS (show 2≤1000000 by decide)
theorem zZ3{q a1 a2:V}:[q,a1,a2].length≤sizeLine:=aS (show 3≤1000000 by decide)
theorem zZ4{q a1 a2 a3:V}:[q,a1,a2,a3].length≤sizeLine:=aS (show 4≤1000000 by decide)
theorem zZ5{q a1 a2 a3 a4:V}:[q,a1,a2,a3,a4].length≤sizeLine:=aS (show 5≤1000000 by decide)
theorem zZ6{q a1 a2 a3 a4 a5:V}:[q,a1,a2,a3,a4,a5].length≤sizeLine:=aS (show 6≤1000000 by decide)
theorem zZ9{q a1 a2 a3 a4 a5 a6 a7 a8:V}:[q,a1,a2,a3,a4,a5,a6,a7,a8].length≤sizeLine:=aS (show 9≤1000000 by decide)
theorem aJU{q a1 a2 a3 a4 a5 a6 a7 a8 a9:V}:[q,a1,a2,a3,a4,a5,a6,a7,a8,a9].length≤sizeLine:=aS (show 10≤1000000 by decide)
def Cl(P:AD)(w:AY)(K:Ai)(mg:Str→Option Ac)(base:Bm)(k:Nat)(n:Str)(ps:List Str)(sp:Sp):Prop:=∃ f fd,cQ P w K mg base CX0 k f fd ps sp∧mg n=some (.ref f)∧Al K (.ref f)=true∧dY K fd ps []
theorem bE{X:Cx}{k:Nat}{ps:List Str}{sp:Sp}{x:Str}{p pos:Pos}{e:Br}{es:List Br}{t:TA}(c:Cl X.prog X.w X.K X.mg X.base k x ps sp)(B:cS k X.A)(ha:PA X (e::es) t)(M:Gl X x:=by rfl)(q:(x==("__debug__":Str))=false:=by decide)(J:starEach (e::es) X.env=(false,eval e X.env)::starEach es X.env:=by rfl)(z:(backTo pos (starEach es X.env)).any (·.1)=false:=by rfl):PE X (.Call (.Name x p) (e::es) [] pos) (aGZ sp [] E0 t):=by
 obtain⟨f,fd,F,hm,hk,hb⟩:=c;exact eY F B M hm hk hb .nil iP ha q J z
def top(i:Nat):B6:=PySem.Challenge.pw_dykelengths_k60_names_taken_back.main.body.getD i (.Pass ⟨0,0,0,0⟩)
abbrev lV:B6:=top 8
abbrev iY:B6:=top 21
abbrev kU:B6:=top 22
abbrev lW:B6:=top 23
abbrev kW:B6:=top 24
abbrev gF:B6:=top 25
abbrev nJ:B6:=top 26
abbrev hW:B6:=top 27
abbrev hX:B6:=top 28
abbrev hZ:B6:=top 29
abbrev iZ:B6:=top 30
abbrev nM:B6:=top 31
abbrev qE:B6:=top 32
abbrev qF:B6:=top 33
abbrev i0:B6:=top 34
abbrev i3:B6:=top 35
abbrev qG:B6:=top 36
abbrev nN:B6:=top 37
abbrev kX:B6:=top 38
abbrev qH:B6:=top 39
abbrev qI:B6:=top 41
abbrev jB:B6:=top 42
abbrev kY:B6:=top 43
abbrev nO:B6:=top 44
abbrev kZ:B6:=top 45
abbrev qJ:B6:=top 46
abbrev i4:B6:=top 50
abbrev lX:B6:=top 51
abbrev gG:B6:=top 52
abbrev jC:B6:=top 53
abbrev nP:B6:=top 54
abbrev gH:B6:=top 58
abbrev qK:B6:=top 59
abbrev k9:B6:=top 60
abbrev h9:B6:=top 61
abbrev lA:B6:=top 62
abbrev aDA:B6:=top 64
abbrev uS:B6:=top 65
abbrev oQ:B6:=top 66
abbrev qL:B6:=top 67
abbrev uT:B6:=top 68
abbrev nQ:B6:=top 69
abbrev qM:B6:=top 70
abbrev uU:B6:=top 71
abbrev oR:B6:=top 72
abbrev aDB:B6:=top 73
abbrev qN:B6:=top 74
abbrev fS:B6:=top 75
abbrev gJ:B6:=top 76
abbrev wY:B6:=top 77
abbrev vV:B6:=top 78
def cA(z:Str):Bool:=decide (1≤z.length∧z.length≤8) && z.cps.toList.all fun c=>decide (97≤c∧c≤122)
def isL(c:Nat):Bool:=decide (97≤c∧c≤122)
def iM(i:Nat):Nat:=97 + i % 26
theorem yK(i:Nat):isL (iM i)=true:=by
 unfold isL iM;exact Ic (by omega)
abbrev abc:Str:=Bs "abcdefghijklmnopqrstuvwxyz"
theorem aE4:abc.cps.toList=F2 97 26:=by decide
theorem aE5{i:Int}(q:0≤i)(h1:i < 26):atI abc.cps.toList i=some (iM i.toNat):=by
 obtain⟨j,rfl⟩:∃ j:Nat,i=j:=⟨i.toNat,by omega⟩
 unfold atI ixN;rw[aE4,Ib q,Ib (by simpa using h1)];simp only[BL,Option.bind_some];rw[List.getElem?_range' (by omega)];unfold iM;congr 1;omega
theorem aGk:abc.length=26:=by decide
def mk(l:List Nat):Str:=⟨l.toArray⟩
theorem aH0{a b:List Nat}(h:mk a=mk b):a=b:=by
 have:=congrArg (fun z:Str=>z.cps.toList) h;simpa[mk]using this
theorem lY(l:List Nat):(mk l).length=l.length:=by
 show l.toArray.size=_;simp
theorem aBx(a b:List Nat):mk a ++ mk b=mk (a ++ b):=by
 show(⟨a.toArray ++ b.toArray⟩:Str)=_;simp[mk]
def aAp(t k:Nat):List Nat:=[iM (t + 7 * k),iM (t + k / 26)]
def bij:Nat→Nat→List Nat
 | 0,_=>[]
 | f + 1,n=>if n=0 then[] else bij f ((n - 1) / 2) ++ [n % 2]
def bin(t n:Nat):List Nat:=(bij 6 n).map fun d=>iM (t + 9 * d)
theorem aGl:∀ t < 26,((AO 44).map (aAp t)).Nodup:=by decide
theorem aH1:∀ t < 26,((AO 44).map fun k=>bin t (k + 1)).Nodup:=by decide
theorem aGm:∀ k < 44,1≤(bij 6 (k + 1)).length∧(bij 6 (k + 1)).length≤8:=by decide
def word(one:Bool)(b:List Nat)(sp t k:Nat):List Nat:=if one then bin t (k + 1) else b.take sp ++ aAp t k ++ b.drop sp
theorem aH2{α:Type}{f:Nat→α}{n m:Nat}(h:((AO n).map f).Nodup)(hm:m≤n):((AO m).map f).Nodup:=by
 obtain⟨d,rfl⟩:∃ d,n=m + d:=⟨n - m,by omega⟩
 rw[List.range_add,AQ]at h;exact(CV.mp h).1
theorem yL{α β:Type}{f:α→β}(z:∀ a b,f a=f b→a=b){l:List α}(h:l.Nodup):(l.map f).Nodup:=by
 rw[List.nodup_iff_pairwise_ne]at h ⊢;exact BJ.mpr (h.imp fun q e=>q (z _ _ e))
theorem aGn{one:Bool}{b:List Nat}{sp t m:Nat}(ht:t < 26)(hm:m≤44):((AO m).map fun k=>mk (word one b sp t k)).Nodup:=by
 refine aH2 (n:=44) ?_ hm;have e:((AO 44).map fun k=>mk (word one b sp t k))=((AO 44).map (word one b sp t)).map mk:=by rw[Ck];rfl
 rw[e];refine yL (fun _ _ h=>aH0 h) ?_;cases one with
 | true=>exact aH1 t ht
 | false=>
  have z:(AO 44).map (word false b sp t)=((AO 44).map (aAp t)).map fun q=>b.take sp ++ q ++ b.drop sp:=by rw[Ck];rfl
  rw[z];refine yL (fun x y h=>?_) (aGl t ht);exact List.append_cancel_left (List.append_cancel_right h)
theorem aAq{l:List Nat}(h1:1≤l.length)(q:l.length≤8)(ha:∀ c∈l,isL c=true):cA (mk l)=true:=by
 unfold cA;rw[lY,Ic ⟨h1,q⟩,A8];have e:(mk l).cps.toList=l:=by simp[mk]
 rw[e,Be];exact ha
theorem gM{z:Str}(h:cA z=true):1≤z.length∧z.length≤8:=by
 unfold cA at h;rw[AF]at h;exact Ie h.1
theorem aDC{one:Bool}{b:List Nat}{sp t k:Nat}(z:k < 44)(F:b.length≤6)(ha:∀ c∈b,isL c=true):cA (mk (word one b sp t k))=true:=by
 cases one with
 | true=>
  have h:=aGm k z;refine aAq (by show 1≤(bin t (k + 1)).length;unfold bin;rw[Ad];omega) (by show(bin t (k + 1)).length≤8;unfold bin;rw[Ad];omega) (fun c hc=>?_);have q:c∈bin t (k + 1):=hc;unfold bin at q;obtain⟨d,_,rfl⟩:=Bn.mp q;exact yK _
 | false=>
  have B:(word false b sp t k).length=b.length + 2:=by
   show(b.take sp ++ aAp t k ++ b.drop sp).length=_;rw[AH,AH,A5,D2];show min sp b.length + 2 + (b.length - sp)=_;omega
  refine aAq (by omega) (by omega) (fun c hc=>?_);have q:c∈b.take sp ++ aAp t k ++ b.drop sp:=hc;rcases Bh.mp q with h | h
  ·rcases Bh.mp h with h | h
   ·exact ha c (B5 h)
   ·unfold aAp at h;simp only[Ao,Az,or_false]at h;rcases h with rfl | rfl
    ·exact yK _
    ·exact yK _
  ·exact ha c (E5 h)
theorem aE6{α:Type}{x:α}:∀{l:List α}{j:Nat},l.Nodup→x ∉ l→(l.set j x).Nodup
 | [],_,_,_=>by simp
 | y :: r,0,h,q=>by
  rw[List.set_cons_zero,CF]at *;exact⟨fun z=>q (AJ _ z),h.2⟩
 | y :: r,j + 1,h,q=>by
  rw[List.set_cons_succ];rw[CF]at *;refine⟨fun z=>?_,aE6 h.2 fun z=>q (AJ _ z)⟩;rcases List.mem_or_eq_of_mem_set z with z | z
  ·exact h.1 z
  ·exact q (z ▸ AG)
def oC:List Str:=["as","with","part","field","none","done","write","back","join"]
theorem aBy:∀ z∈oC,cA z=true:=by decide
theorem fE:∀ ns:List Str,(ns.map V.str).all iI=true
 | []=>rfl
 | _ :: r=>by simpa[iI]using fE r
theorem nS(z:Str):∀ ns:List Str,inV (.str z) (ns.map V.str)=decide (z∈ns):=by
 intro ns;unfold inV;rw[List.any_map];rw[Cm,CL,decide_eq_true_iff];constructor
 ·rintro⟨y,hy,e⟩;have:y=z:=by simpa[eqV]using e
  exact this ▸ hy
 ·intro h;exact⟨z,h,by simp[eqV]⟩
abbrev gT:Key:=Au ("cells":Str)
abbrev kAt:Key:=Au ("at":Str)
abbrev jQ:Key:=Au ("left":Str)
def iN(c:Ah)(a l:Int):List (Key×V):=[(gT,.ref c),(kAt,.int a),(jQ,.int l)]
theorem aH3:¬ (gT=kAt):=by decide
theorem aH4:¬ (gT=jQ):=by decide
theorem aGo:¬ (kAt=jQ):=by decide
theorem aJV:¬ (jQ=kAt):=fun e=>aGo e.symm
theorem aDD(c:Ah)(a l:Int):fF (iN c a l) gT=some (.ref c):=by
 unfold iN;rw[j7 rfl]
theorem aH5(c:Ah)(a l:Int):fF (iN c a l) kAt=some (.int a):=by
 unfold iN;rw[dP aH3,j7 rfl]
theorem aE7(c:Ah)(a l:Int):fF (iN c a l) jQ=some (.int l):=by
 unfold iN;rw[dP aH4,dP aGo,j7 rfl]
theorem aH6(c:Ah)(a l a':Int):fZ (iN c a l) kAt (.int a')=iN c a' l:=by
 unfold fZ iN;rw[Ib (by rw[CL];exact⟨(kAt,.int a),by simp,Ic rfl⟩)];simp only[A1,Eo,Ia aH3,Ia aJV,Ib]
theorem aE8(c:Ah)(a l q:Int):fZ (iN c a l) jQ (.int q)=iN c a q:=by
 unfold fZ iN;rw[Ib (by rw[CL];exact⟨(jQ,.int l),by simp,Ic rfl⟩)];simp only[A1,Eo,Ia aH4,Ia aGo,Ib]
theorem aH7{H:Hp}{p c:Ah}{a l:Int}(h:H p=some (.dK (iN c a l))):qA H p (.str "left") (some (.int l)):=by
 have:=qA.k (k:=jQ) h;rw[aE7]at this;exact this
theorem aJW{H:Hp}{p c:Ah}{a l:Int}(h:H p=some (.dK (iN c a l))):qA H p (.str "at") (some (.int a)):=by
 have:=qA.k (k:=kAt) h;rw[aH5]at this;exact this
theorem aJX{H:Hp}{p c:Ah}{a l:Int}(h:H p=some (.dK (iN c a l))):qA H p (.str "cells") (some (.ref c)):=by
 have:=qA.k (k:=gT) h;rw[aDD]at this;exact this
theorem aJf{H:Hp}{p c:Ah}{a l:Int}(q:Int)(h:H p=some (.dK (iN c a l))):zL H p (.str "left") (.int q) (upd H p (.dK (iN c a q))):=by
 have:=zL.k (k:=jQ) (v:=.int q) h (j8 (by show 3≤1000;decide));rw[aE8]at this;exact this
theorem aJY{H:Hp}{p c:Ah}{a l:Int}(a':Int)(h:H p=some (.dK (iN c a l))):zL H p (.str "at") (.int a') (upd H p (.dK (iN c a' l))):=by
 have:=zL.k (k:=kAt) (v:=.int a') h (j8 (by show 3≤1000;decide));rw[aH6]at this;exact this
structure c7(H:Hp)(p c:Ah)(ns:List Int)(a:Int):Prop where
 ob:∃ l,0≤l∧H p=some (.dK (iN c a l))
 ce:H c=some (.lst (ns.map V.int))
 ge:0≤a
 sm:ns.length≤63
theorem c7.same{H H':Hp}{p c:Ah}{ns:List Int}{a:Int}(x:c7 H p c ns a)(h:bS H H'):c7 H' p c ns a:=by
 obtain⟨⟨l,hl,e⟩,ce,ge,sm⟩:=x;exact⟨⟨l,hl,h _ _ e⟩,h _ _ ce,ge,sm⟩
theorem c7.ne{H:Hp}{p c:Ah}{ns:List Int}{a:Int}(x:c7 H p c ns a):c≠p:=by
 obtain⟨⟨l,hl,e⟩,ce,_,_⟩:=x;exact aD0 ce e (by intro z;cases z)
inductive aCx(K:Ai)(vs:List V)(H:Hp)(Q:VK)(u3_:XK):Prop
 | mk (a:Ah) (ns:List Int) (q0:vs=[.ref a]) (q1:SqL K H a (ns.map V.int)) (q2:ns.length≤63) (q3:∀ p c H',c7 H' p c ns 0→bS H H'→H p=none→Q (.ref p) H'):aCx K vs H Q u3_
def aHa(K:Ai):Sp:=fun vs H Q u3_=>aCx K vs H Q u3_
inductive aAr(vs:List V)(H:Hp)(Q:VK)(u3_:XK):Prop
 | mk (p c:Ah) (ns:List Int) (a m:Int) (q0:vs=[.ref p,.int m]) (q1:c7 H p c ns a) (q2:a≤1000000) (q3:0 < m) (q4:m < 2 ^ 512) (q5:∀ r a' H',0≤r→r < m→a≤a'→a'≤a + 1→c7 H' p c ns a'→bW p H H'→Q (.int r) H'):aAr vs H Q u3_
def jE:Sp:=fun vs H Q u3_=>aAr vs H Q u3_
variable{P:AD}{w:AY}{K:Ai}{mg:Str→Option Ac}{base:Bm}
theorem aJg:bV ["_law_script"] ["_law_script"] (aO aDA):=⟨rfl,rfl,rfl,by decide,rfl,by decide,by decide⟩
theorem aJh(ns:List Int)(h:ns.length≤63):jI (ns.map V.int) none (some 63)=ns.map V.int:=by
 have e:HT.sIx (ns.map V.int).length (ns.map V.int).length (some 63)=(ns.map V.int).length:=by
  have:=HT.sIx_nat (ns.map V.int).length (ns.map V.int).length 63;rw[Ad]at this ⊢;refine Eq.trans this ?_;omega
 unfold jI;rw[e,HT.sIx_none,DQ,FI,BC]
theorem aH8{f:Ah}{fd:AK}(F:Fun K "_law_pen" "_law_pen" aDA f fd)(B:mg "list"=none):cQ P w K mg base CX0 1 f fd ["_law_script"] (aHa K):=by
 refine F.ok aJg (fun vs H Q E h=>?_) (fun aa A outer s H vs Q E hr h=>?_)
 ·obtain⟨a,ns,rfl,_⟩:=h;rfl
 ·obtain⟨a,ns,rfl,hS,hn,k⟩:=h;refine⟨_,aV (aY (aCb (iJ cG (cV fW (by rfl) B (by kernel_rfl) (gO (f6 m9 (pv 0) iF (iG aQ)) aF)) (iJ cG aQ (iJ cG aQ aCa))) rfl rfl (by simp) (by decide))),?_⟩;intro p W;refine⟨_,rfl,_,rfl,_,_,rfl,(aU W).seq hS,fun q Y=>?_⟩;rw[aJh ns hn];refine⟨q,_,rfl,.inl (bG aM),fun c hc=>?_⟩;have O:q≠p:=(aX aM Y).symm;have J:c≠p:=(aX (show upd (upd H p (HO.dK [])) q (.lst (ns.map V.int)) p=some (HO.dK []) by rw[bI O.symm,aM]) hc).symm;refine⟨by rw[bI J.symm,bI O.symm,aM],[(gT,.ref c),(kAt,.int 0),(jQ,.int 0)],rfl,by show 3≤15;decide,?_⟩;have em:oI [] [(gT,V.ref c),(kAt,.int 0),(jQ,.int 0)]=iN c 0 0:=by
   have e1:fZ ([]:List (Key×V)) gT (.ref c)=[(gT,.ref c)]:=by rw[tK _ tI];rfl
   have Z:fZ [(gT,V.ref c)] kAt (.int 0)=[(gT,.ref c),(kAt,.int 0)]:=by rw[tK _ (by rw[dP aH3,tI])];rfl
   have e3:fZ [(gT,V.ref c),(kAt,.int 0)] jQ (.int 0)=[(gT,.ref c),(kAt,.int 0),(jQ,.int 0)]:=by rw[tK _ (by rw[dP aH4,dP aGo,tI])];rfl
   show fZ (fZ (fZ [] gT (.ref c)) kAt (.int 0)) jQ (.int 0)=_;rw[e1,Z,e3];rfl
  rw[em];refine k p c _ ⟨⟨0,Fa _,aM⟩,by rw[bI J,aM],Fa _,hn⟩ (fun b o e=>?_) W;have z:b≠p:=aX e W;have M:b≠q:=aX (show upd H p (HO.dK []) b=some o by rw[bI z];exact e) Y;have U:b≠c:=aX (show upd (upd H p (HO.dK [])) q (.lst (ns.map V.int)) b=some o by rw[bI M,bI z];exact e) hc;rw[bI z,bI U,bI M,bI z];exact e
theorem mZ:bV ["_law_pen_here","_law_many","_law_found","_law_at","_law_cells","_law_cell","_law_one","_law_two"] ["_law_pen_here","_law_many"] (aO uS):=⟨rfl,rfl,rfl,by decide,rfl,by decide,by decide⟩
theorem aJi{c a b:Int}(hc:0≤c)(h:0≤a)(h2:a≤b):0≤c * a * a∧c * a * a≤c * b * b:=by
 have h1:0≤c * a:=Go hc h;have q:c * a≤c * b:=Int.mul_le_mul_of_nonneg_left h2 hc;exact⟨Go h1 h,Int.mul_le_mul q h2 h (Go hc (Int.le_trans h h2))⟩
theorem aJZ(x:Int){a:Int}(h:0≤a)(h2:a≤1000000):Int.natAbs (x % (2147483629:Int) + (1213:Int) * a * a + (3:Int)) < 2 ^ 64:=by
 obtain⟨b1,b2⟩:=aJi (c:=(1213:Int)) (a:=a) (b:=1000000) (by decide) h h2;have q:=CW x (show(2147483629:Int)≠0 by decide);have z:=CQ x (show 0 < (2147483629:Int) by decide);omega
theorem aJ0{x:Int}:-(2 ^ 64) < x % (2147483543:Int)∧x % (2147483543:Int) < 2 ^ 64:=by
 have q:=CW x (show(2147483543:Int)≠0 by decide);have z:=CQ x (show 0 < (2147483543:Int) by decide);omega
theorem aGp{f:Ah}{fd:AK}(F:Fun K "_law_take" "_law_take" uS f fd)(Y:mg "len"=none)(U:mg "abs"=none):cQ P w K mg base CX0 1 f fd ["_law_pen_here","_law_many"] jE:=by
 refine F.ok mZ (fun vs H Q E h=>?_) (fun ai A outer s H vs Q E hr h=>?_)
 ·obtain⟨p,c,ns,a,m,rfl,_⟩:=h;rfl
 ·obtain⟨p,c,ns,a,m,rfl,hp,ha,hm,hm2,k⟩:=h;have Z:=aCc hr;have ah:(A.deeper (EK "_law_take" (aO uS) s.heap.objs.size f ai)).units < cLine:=by omega
  refine⟨_,aH (c6 (bY v4 (o0 Z (pv 0) cG Ig) aQ (cI _))
    (aH (bJ (i:=2) mZ.nd rfl (AE rfl) (b8 gC (o0 Z (pv 0) cG Ig) (pv 1)))
    (aH (yB Z (pv 0) cG (b8 tR (o0 Z (pv 0) cG Ig) (pv 1)) rfl)
    (aV (aY (pv 2))))) bZ)
   (aH (bJ (i:=3) mZ.nd rfl (AE rfl) (o0 Z (pv 0) cG Ig))
   (aH (yB Z (pv 0) cG (b8 dR (pv 3) aQ) rfl)
   (aH (bJ (i:=4) mZ.nd rfl (AE rfl) (o0 Z (pv 0) cG Ig))
   (aH (bJ (i:=5) mZ.nd rfl (AE rfl) (b8 dR (b8 dR (b8 lJ (b8 lJ aQ (pv 3)) (pv 3)) (b8 lJ aQ (pv 3))) aQ))
   (aH (tY <| c6 (bY (aEt ah) (pv 4) (eV aF) (cI _))
    (aV (bJ (i:=5) mZ.nd rfl (AE rfl) (cO dN (pv 4) (b8 gC (pv 3) (aW bC (by rfl) Y AN (gO (pv 4) aF))) Ig))) bZ)
   (aH (tY <| c6 (mM (bY aGW (pv 3) (aW bC (by rfl) Y AN (gO (pv 4) aF)) (cI _))
     (jK (bY aGX (aW tD (by rfl) U (by kernel_rfl) (gO (pv 5) aF)) (b8 jX aQ aQ) (cI _)))).pt
    (aH (yB Z (pv 0) cG (b8 tR (aW tD (by rfl) U (by kernel_rfl) (gO (pv 5) aF)) (pv 1)) rfl)
    (aV (aY (b8 gC (aW tD (by rfl) U (by kernel_rfl) (gO (pv 5) aF)) (pv 1))))) bZ)
   (aH (bJ (i:=6) mZ.nd rfl (AE rfl) (b8 gC (b8 jX (b8 dR (b8 dR (b8 gC (pv 5) aQ) (b8 lJ aQ (pv 3))) aQ) aQ) aQ))
   (aH (bJ (i:=7) mZ.nd rfl (AE rfl) (b8 gC (b8 jX (b8 dR (b8 dR (pv 6) (b8 lJ (b8 lJ aQ (pv 3)) (pv 3))) aQ) aQ) aQ))
   (aV (aY (b8 gC (b8 tR (b8 gC (b8 lJ (pv 7) (b8 dR (b8 gC (pv 6) aQ) aQ)) aQ) aQ) (pv 1)))))))))))),?_⟩
  obtain⟨⟨l,hl0,hob⟩,hce,hge,hsm⟩:=id hp;have aa:=hp.ne;refine⟨_,rfl,p,_,rfl,aH7 hob,_,_,rfl,rfl,_,rfl,dS (fun h0=>?_) (fun h0=>?_)⟩
  ·exact⟨_,rfl,p,_,rfl,aH7 hob,_,rfl,_,_,rfl,rfl,hm,_,rfl,p,_,rfl,aH7 hob,_,rfl,_,_,rfl,rfl,wI.of hm hm2,_,rfl,p,_,rfl,aJf _ hob,_,rfl,k (l % m) a _ (CW _ (by omega)) (CQ _ hm) (Fa _) (by omega) ⟨⟨l / m,Int.ediv_nonneg hl0 (by omega),aM⟩,by rw[bI aa];exact hce,hge,hsm⟩ (bW.refl p H).upd⟩
  ·refine⟨_,rfl,p,_,rfl,aJW hob,_,rfl,_,_,rfl,rfl,_,rfl,p,_,rfl,aJY _ hob,_,rfl,p,_,rfl,aJX aM,_,rfl,_,_,rfl,rfl,.inl (by decide),_,rfl,_,_,rfl,rfl,.inr (by omega),_,rfl,_,_,rfl,rfl,.inl (by decide),_,_,rfl,rfl,_,_,rfl,rfl,?_⟩;have M:bW p H (upd H p (.dK (iN c (a + 1) l))):=(bW.refl p H).upd;have J:(upd H p (.dK (iN c (a + 1) l))) c=some (.lst (ns.map V.int)):=by rw[bI aa];exact hce
   refine⟨fun σ' H'=>∃ B:Int,σ'=[some (.ref p),some (.int m),none,some (.int a),some (.ref c),some (.int B),none,none]∧bW p H H'∧H' p=some (.dK (iN c (a + 1) l))∧H' c=some (.lst (ns.map V.int)),?_,?_⟩
   ·refine⟨_,rfl,A3 _,fun q hq=>?_⟩;have W:=aU (o:=.lst []) hq;refine⟨c,q,ns.map V.int,[],rfl,rfl,bG (W _ _ J),bG aM,wJ ns,rfl,_,rfl,dS (fun ae=>?_) (fun ae=>?_)⟩
    ·have aj:0 < ns.length:=by
      cases ns with
      | nil=>exact absurd ae (by simp[vO])
      | cons x r=>simp
     have af:(a % (ns.length:Int)).toNat < ns.length:=by
      have h1:=CQ a (show(0:Int) < ns.length by omega);have h2:=CW a (show(ns.length:Int)≠0 by omega);omega
     have ag:atI (ns.map V.int) (a % (ns.length:Int))=some (.int (ns[(a % (ns.length:Int)).toNat])):=by
      have h2:=CW a (show(ns.length:Int)≠0 by omega);have e:=fV (xs:=ns.map V.int) (j:=(a % (ns.length:Int)).toNat) (v:=.int (ns[(a % (ns.length:Int)).toNat])) (by rw[AL,Ab af];rfl);rw[Dz h2]at e;exact e
     have ad:atI (ns.map V.int) (a % ((ns.map V.int).length:Int))=some (.int (ns[(a % (ns.length:Int)).toNat])):=by
      rw[Ad];exact ag
     exact⟨_,rfl,_,rfl,_,rfl,c,_,rfl,.inl (bG (W _ _ J)),_,_,rfl,rfl,(by rw[Ad];omega),c,_,_,_,rfl,rfl,bG (W _ _ J),ad,_,rfl,M.same W,W _ _ aM,W _ _ J⟩
    ·exact⟨_,rfl,M.same W,W _ _ aM,W _ _ J⟩
   ·rintro σ' H' ⟨B,rfl,kp,O,z⟩;refine⟨fun σ' H'=>∃ B:Int,σ'=[some (.ref p),some (.int m),none,some (.int a),some (.ref c),some (.int B),none,none]∧bW p H H'∧H' p=some (.dK (iN c (a + 1) l))∧H' c=some (.lst (ns.map V.int)),?_,?_⟩
    ·refine⟨_,rfl,_,rfl,c,_,rfl,.inl (bG z),_,_,rfl,rfl,_,rfl,dS (fun h1=>?_) (fun h1=>?_)⟩
     ·refine⟨_,rfl,_,rfl,_,_,rfl,rfl,⟨by decide,by decide,by decide⟩,_,_,rfl,rfl,_,rfl,dS (fun h2=>?_) (fun h2=>?_)⟩
      ·refine⟨_,rfl,_,rfl,_,rfl,_,_,rfl,rfl,wI.of hm hm2,_,rfl,p,_,rfl,aJf _ O,_,rfl,_,rfl,_,rfl,_,_,rfl,rfl,hm,?_⟩;have ab:0≤(if B < 0 then -B else B):=by split <;> omega
       exact k _ (a + 1) _ (CW _ (by omega)) (CQ _ hm) (by omega) (Fa _) ⟨⟨_,Int.ediv_nonneg ab (by omega),aM⟩,by rw[bI aa];exact z,by omega,hsm⟩ kp.upd
      ·exact⟨B,rfl,kp,O,z⟩
     ·exact dB ⟨B,rfl,kp,O,z⟩
    ·rintro σ' H' ⟨B,rfl,kp,O,z⟩;refine⟨_,rfl,_,_,rfl,rfl,(by show(0:Int) < _;decide),_,rfl,_,_,rfl,rfl,.inl (by decide),_,_,rfl,rfl,_,_,rfl,rfl,_,_,rfl,rfl,⟨by decide,by decide,?_⟩,_,_,rfl,rfl,(by show(0:Int) < _;decide),?_⟩
     ·have e1:=CW B (show(2147483587:Int)≠0 by decide);have e2:=CQ B (show 0 < (2147483587:Int) by decide);show Int.natAbs (B % (2147483587:Int) + (45007:Int) * a + (11:Int)) < 2 ^ 64;omega
     ·exact⟨_,rfl,_,rfl,_,_,rfl,rfl,.inl (by decide),_,rfl,_,_,rfl,rfl,.inr (by omega),_,_,rfl,rfl,_,_,rfl,rfl,_,_,rfl,rfl,⟨by decide,by decide,aJZ _ hge ha⟩,_,_,rfl,rfl,(by show(0:Int) < _;decide),_,rfl,_,rfl,_,_,rfl,rfl,(by show(0:Int) < _;decide),_,_,rfl,rfl,_,_,rfl,rfl,.inl aJ0,_,_,rfl,rfl,(by show(0:Int) < _;decide),_,_,rfl,rfl,wI.of (by decide) (by decide),_,rfl,_,_,rfl,rfl,hm,k _ (a + 1) _ (CW _ (by omega)) (CQ _ hm) (by omega) (Fa _) ⟨⟨l,hl0,O⟩,z,by omega,hsm⟩ kp⟩
structure Nms(ws:List Str):Prop where
 nd:ws.Nodup
 ok:∀ w∈ws,cA w=true
theorem Nms.take{q:List Str}(h:Nms q)(n:Nat):Nms (q.take n):=⟨h.nd.sublist (List.take_sublist n q),fun w hw=>h.ok w (B5 hw)⟩
inductive wZ(vs:List V)(H:Hp)(Q:VK)(u3_:XK):Prop
 | mk (p c:Ah) (ns:List Int) (a:Int) (m:Nat) (q0:vs=[.ref p,.int m]) (q1:c7 H p c ns a) (q2:a≤900000) (q3:m≤44) (q4:∀ l ws a' H',H l=none→H' l=some (.lst (ws.map V.str))→ws.length=m→Nms ws→a≤a'→a'≤a + 30→c7 H' p c ns a'→bW p H H'→Q (.ref l) H'):wZ vs H Q u3_
def aCy:Sp:=fun vs H Q u3_=>wZ vs H Q u3_
theorem oS(l:List Nat):∀(m s:Nat),(F2 s m).filterMap (fun j=>l.toArray[j]?)=(l.drop s).take m
 | 0,s=>by simp
 | m + 1,s=>by
  rw[List.range'_succ,Ek];have q:=oS l m (s + 1);by_cases h:s < l.length
  ·have e:l.toArray[s]?=some l[s]:=by simp[h]
   rw[e];dsimp only;rw[q,List.drop_eq_getElem_cons h,List.take_succ_cons]
  ·have e:l.toArray[s]?=none:=by simp;omega
   rw[e];dsimp only;rw[q,DR (by omega),DR (by omega)];simp
theorem aGq:∀ n:Nat,n < 7→∀ s:Nat,s < 7→s≤n→Builtin.Str.strSliceIndices none (some (s:Int)) 1 n=F2 0 s:=by decide
theorem aDE:∀ n:Nat,n < 7→∀ s:Nat,s < 7→s≤n→Builtin.Str.strSliceIndices (some (s:Int)) none 1 n=F2 s (n - s):=by decide
theorem aJj{b:List Nat}{s:Nat}(z:b.length≤6)(q:s≤b.length):D9 (mk b) none (some (s:Int))=mk (b.take s):=by
 unfold D9;rw[lY,aGq _ (by omega) _ (by omega) q];split
 ·next h=>
  simp at h;rw[h,BC]
 ·have e:=oS b s 0;rw[DQ]at e;exact congrArg mk e
theorem aGr{b:List Nat}{s:Nat}(B:b.length≤6)(q:s≤b.length):D9 (mk b) (some (s:Int)) none=mk (b.drop s):=by
 unfold D9;rw[lY,aDE _ (by omega) _ (by omega) q];split
 ·next h=>
  simp at h;have:s=0∨b.length=0:=by omega
  rcases this with rfl | z
  ·rfl
  ·rw[List.length_eq_zero_iff.mp z];simp
 ·have e:=oS b (b.length - s) s;rw[show(b.drop s).take (b.length - s)=b.drop s from Bu (by rw[D2];exact Ap _)]at e;exact congrArg mk e
theorem aDF(bs:List Nat):∀ q:Array Nat,(bs.map fun c=>mk [c]).foldl (fun(q:Array Nat) (p:Str)=>q ++ (Bs "").cps ++ p.cps) q=q ++ bs.toArray:=by
 have z:(Bs "").cps=#[]:=by decide
 induction bs with
 | nil=>intro q;simp
 | cons x r B=>
  intro q;rw[A1,F7,B,z];simp[mk]
theorem aGs(bs:List Nat):Txt.join "" (bs.map fun c=>mk [c])=mk bs:=by
 show Builtin.Str.glued _ _=_;unfold Builtin.Str.glued;cases bs with
 | nil=>rfl
 | cons x r=>
  have:=aDF r #[x];simp only[A1,List.headD_cons,List.drop_succ_cons,DQ];show(⟨List.foldl _ _ _⟩:Str)=_;rw[show(mk [x]).cps=#[x] from rfl];rw[this];simp[mk]
theorem yM(x:Nat){j:Int}(z:j=(x:Int) % 26):atI abc.cps.toList j=some (iM x):=by
 have q:0≤j:=by omega
 have h1:j < 26:=by omega
 rw[aE5 q h1];unfold iM;congr 1;omega
theorem aE9(f n:Nat)(h:n≠0):bij (f + 1) n=bij f ((n - 1) / 2) ++ [n % 2]:=by
 show(if n=0 then[] else _)=_;rw[Ia h]
theorem eM:bV ["_law_pen_here","_law_many","_law_letters","_law_way","_law_turn","_law_k","_law_base","_law_spot","_law_found","_law_word","_law_rest","_law_terms"] ["_law_pen_here","_law_many"] (aO oQ):=⟨rfl,rfl,rfl,by decide,rfl,by decide,by decide⟩
theorem aGt{q:List Str}(h:∀ w∈q,w.length=1):(q.map (·.length)).sum=q.length:=by
 induction q with
 | nil=>rfl
 | cons x r z=>
  rw[A1,List.sum_cons,z fun w hw=>h w (AJ _ hw),h x AG,A6];omega
theorem aFa{f:Ah}{fd:AK}(F:Fun K "_law_names" "_law_names" oQ f fd)(aL:mg "len"=none)(ae:mg "range"=none)(a0:mg "min"=none)
  (GT:Cl P w K mg base 1 "_law_take" ["_law_pen_here","_law_many"] jE):
  cQ P w K mg base CX0 2 f fd ["_law_pen_here","_law_many"] aCy:=by
 refine F.ok eM (fun vs H Q E h=>?_) (fun cP A outer s H vs Q E hr h=>?_)
 ·obtain⟨p,c,ns,a,m,rfl,_⟩:=h;rfl
 ·obtain⟨p,c,ns,a,m,rfl,hp,ha,hm,k⟩:=h;refine⟨_,aH (bJ (i:=2) eM.nd rfl (Fk rfl) cG)
   (aH (bJ (i:=3) eM.nd rfl (AE rfl) (bE GT hr (aG (pv 0) (aG aQ aF))))
   (aH (bJ (i:=4) eM.nd rfl (AE rfl) (bE GT hr (aG (pv 0) (aG aQ aF))))
   (aH (bJ (i:=6) eM.nd rfl (AE rfl) (oZ PySem.F.plainAttrs_str PySem.F.slot_str_join PySem.F.type_str_join aF9 cG (aG (eJ (N:=["_law_k","_law_letters","_law_pen_here"]) (src:=[none,some 2,some 0]) (osc:=aO oQ) (oN:=["_law_pen_here","_law_many","_law_letters","_law_way","_law_turn","_law_k","_law_base","_law_spot","_law_found","_law_word","_law_rest","_law_terms"]) ⟨by rfl,by decide,by decide,by decide,rfl,by rfl⟩
      (gE rfl ae (aG (cO dN (eV (aG (bE GT hr (aG (pv 0) (aG aQ aF))) (aG aQ (aG aQ aF)))) (pv 3) Ig) aF))
      fun cl s H fp dt C=>⟨bH (i:=0) (show(["_law_k","_law_letters","_law_pen_here"]:List Str).Nodup by decide) rfl (AE rfl),dZ,cO x8 (pv 1) (bE GT hr (aG (pv 2) (aG aQ aF))) Ig⟩) aF)))
   (aH (bJ (i:=7) eM.nd rfl (AE rfl) (bE GT hr (aG (pv 0) (aG (b8 dR (aW oY (by rfl) aL AN (aG (pv 6) aF)) aQ) aF))))
   (aH (bJ (i:=8) eM.nd rfl (AE rfl) (eV aF))
   (aH (mQ Cy rfl (gE rfl ae (aG (pv 1) aF)) (bH (i:=5) eM.nd rfl (AE rfl))
    (aH (bJ (i:=9) eM.nd rfl (AE rfl) (b8 lM (cO x8 (pv 2) (b8 gC (b8 dR (pv 4) (b8 lJ aQ (pv 5))) aQ) Ig) (cO x8 (pv 2) (b8 gC (b8 dR (pv 4) (b8 aB0 (pv 5) aQ)) aQ) Ig)))
    (aH (bJ (i:=9) eM.nd rfl (AE rfl) (b8 lM (b8 lM (f6 aEq (pv 6) iF (iG (pv 7))) (pv 9)) (f6 aEq (pv 6) (iG (pv 7)) iF)))
    (aH (tY <| c6 (bY eI (pv 3) aQ (cI _))
     (aH (bJ (i:=9) eM.nd rfl (AE rfl) cG)
     (aH (bJ (i:=10) eM.nd rfl (AE rfl) (b8 dR (pv 5) aQ))
     (aV (aD5 Cy (bY v4 (pv 10) aQ (cI _))
      (aH (bJ (i:=9) eM.nd rfl (AE rfl) (b8 lM (cO x8 (pv 2) (b8 gC (b8 dR (pv 4) (b8 lJ aQ (b8 gC (pv 10) aQ))) aQ) Ig) (pv 9)))
      (aV (bJ (i:=10) eM.nd rfl (AE rfl) (b8 aB0 (b8 jW (pv 10) aQ) aQ)))))))) bZ)
    (aV (m8 (oZ BD Cs Cr iW (pv 8) (aG (pv 9) aF))))))))
   (aH (bJ (i:=11) eM.nd rfl (AE rfl) (eV (aG cG (aG cG (aG cG (aG cG (aG cG (aG cG (aG cG (aG cG (aG cG aF)))))))))))
   (aH (tY <| c6 (bY eI (bE GT hr (aG (pv 0) (aG aQ aF))) aQ (cI _))
    (aV (mQ Cy rfl (gE rfl ae (aG (aW (v5 rfl) (by rfl) a0 (by kernel_rfl) (aG (pv 1) (aG aQ aF))) aF)) (bH (i:=5) eM.nd rfl (AE rfl))
     (aV (c6 (PW.pt (mM (bY eI (bE GT hr (aG (pv 0) (aG aQ aF))) aQ (cI _)) (jK (bY gP (cO dN (pv 11) (pv 5) Ig) (pv 8) (by with_unfolding_all rfl)))))
      (aV (i5 (cO dN (pv 11) (pv 5) Ig) (aHt (pv 8) (pv 5) aEh))) bZ)))) bZ)
   (aV (aY (pv 8))))))))))),?_⟩
  have e0:(Bs "").length=0:=by decide
  have zA:abc.length≤sizeLine:=aS (by rw[aGk];decide);refine⟨_,rfl,p,c,ns,a,_,rfl,hp,by omega,by decide,by decide,fun J a1 H1 w0 w1 l1 u1 b4 bz=>?_⟩;refine⟨_,rfl,p,c,ns,a1,_,rfl,b4,by omega,by decide,by decide,fun tt a2 H2 t0 t1 l2 u2 ca bK=>?_⟩;obtain⟨t,rfl⟩:∃ t:Nat,tt=t:=⟨tt.toNat,by omega⟩
  refine⟨rfl,_,rfl,p,c,ns,a2,_,rfl,ca,by omega,by decide,by decide,fun r3 a3 H3 cx c5 l3 u3 bN bO=>?_⟩;refine⟨zZ3,fun q hq=>?_⟩;have sq:=aU (o:=.lst [V.int r3,.int 0,.int 6]) hq;obtain⟨v,hv,ai⟩:=gY (xs:=[V.int r3,.int 0,.int 6]) (i:=J) w0 (by show J < 3;omega);obtain⟨n,rfl,hn0,hn6⟩:∃ n:Int,v=.int n∧0≤n∧n≤6:=by
   simp only[Ao,Az,or_false]at hv;rcases hv with rfl | rfl | rfl
   ·exact⟨_,rfl,by omega,by omega⟩
   ·exact⟨_,rfl,by omega,by omega⟩
   ·exact⟨_,rfl,by omega,by omega⟩
  refine⟨_,rfl,q,_,J,_,rfl,rfl,bG aM,ai,n,rfl,by omega,by omega,?_⟩;have kq:bW p H (upd H3 q (.lst [V.int r3,.int 0,.int 6])):=((bz.trans bK).trans bO).same sq;have bc:=bN.same sq;generalize upd H3 q (.lst [V.int r3,.int 0,.int 6])=H4 at kq bc ⊢;refine oJ (fun i ys σ' H'=>∃(a':Int) (bs:List Nat) (o:Option V),σ'=[o,some (.str abc),some (.ref p)]∧c7 H' p c ns a'∧bW p H H'∧a3≤a'∧a'≤a3 + i∧ys=(bs.map fun c=>mk [c]).map V.str∧bs.length=i∧(∀ c∈bs,isL c=true))
   ⟨a3,[],none,rfl,bc,kq,by omega,by omega,rfl,rfl,fun w hw=>by simp at hw⟩ (aS (by omega)) (fun i ys σ H p=>by obtain⟨_,bs,_,_,_,_,_,_,rfl,e,_⟩:=p;rw[Ad,Ad,e];exact Ap _) ?_ ?_
  ·rintro i' ys σ' H5 dd ⟨a',bs,o,rfl,az,ay,c2,cv,rfl,hl,hb⟩;dsimp only[dI];refine dJ ?_;refine⟨_,rfl,_,rfl,p,c,ns,a',_,rfl,az,by omega,by decide,by decide,fun r6 a6 H6 aP bo l6 u6 an aj=>?_⟩;refine⟨_,r6,iM r6.toNat,rfl,rfl,zA,aE5 aP bo,a6,bs ++ [iM r6.toNat],_,rfl,an,ay.trans aj,by omega,by omega,by rw[AQ,AQ];rfl,by rw[AH,hl];rfl,fun c hc=>?_⟩;rcases Bh.mp hc with z | z
   ·exact hb c z
   ·rw[BE.mp z];exact yK _
  ·rintro ys σ' H5 ⟨a4,b,o,rfl,az,ay,l4,u4,rfl,cK,hb⟩ D hD;have aA:b.length≤6:=by omega
   refine⟨_,D,b.map (fun c=>mk [c]),rfl,rfl,bG aM,by
    rw[aGt (fun w hw=>by obtain⟨x,_,rfl⟩:=Bn.mp hw;rfl),Ad,e0];omega,?_⟩
   rw[aGs];have an:=az.same (aU (o:=.lst ((b.map fun c=>mk [c]).map V.str)) hD);have aj:bW p H _:=ay.same (aU (o:=.lst ((b.map fun c=>mk [c]).map V.str)) hD);generalize upd H5 D (.lst ((b.map fun c=>mk [c]).map V.str))=H6 at an aj ⊢;refine⟨_,rfl,_,rfl,mk b,rfl,aS (by rw[lY];omega),_,_,rfl,rfl,p,c,ns,a4,_,rfl,an,by omega,by omega,by rw[lY];omega,fun ss a5 H7 s0 s1 l5 u5 aB bD=>?_⟩;rw[lY]at s1;obtain⟨sp,rfl⟩:∃ sp:Nat,ss=sp:=⟨ss.toNat,by omega⟩
   refine⟨A3 _,fun L hL=>?_⟩;have aN:=aj.trans bD;have am:L≠p:=by
    obtain⟨l,_,z⟩:=aB.ob;exact(aX z hL).symm
   have b5:L≠c:=(aX aB.ce hL).symm;have bg:H L=none:=by
    cases e:H L with
    | none=>rfl
    | some x=>exact absurd (aN L x e am) (by rw[hL];simp)
   refine⟨_,rfl,m,rfl,by omega,by omega,jZ (n:=(m:Int).toNat) (fun i σ H'=>Ex3 fun o5 o9 U=>σ=[some (.ref p),some (.int m),some (.str abc),some (.int J),some (.int t),o5,some (.str (mk b)),some (.int sp),some (.ref L),o9,U,none]∧H'=upd H7 L (.lst (((AO i).map fun k=>mk (word (decide (J=1)) b sp t k)).map V.str))) ⟨_,_,_,rfl,rfl⟩ ?_ ?_⟩
   ·rintro i σ H' hi ⟨o5,o9,U,rfl,rfl⟩;dsimp only[dI];have cf:i < 44:=by omega
    refine⟨_,rfl,_,rfl,_,rfl,_,_,rfl,rfl,.inl ⟨by decide,by decide⟩,_,_,rfl,rfl,_,_,rfl,rfl,(by show(0:Int) < 26;decide),_,_,iM (t + 7 * i),rfl,rfl,zA,yM _ (by omega),_,rfl,_,rfl,_,rfl,_,_,rfl,rfl,⟨by decide,by decide⟩,_,_,rfl,rfl,_,_,rfl,rfl,(by show(0:Int) < 26;decide),_,_,iM (t + i / 26),rfl,rfl,zA,yM _ (by omega),_,_,rfl,rfl,aS (by show 1 + 1≤1000000;decide),?_⟩;have zB:(mk b).length≤sizeLine:=aS (by rw[lY];omega);have aD:∀{x y},(D9 (mk b) x y).length≤6:=fun{x y}=>Bg (EV _ x y) (by rw[lY];omega);have h2:((⟨#[iM (t + 7 * i)]⟩:Str) ++ ⟨#[iM (t + i / 26)]⟩).length=2:=rfl;refine⟨_,rfl,_,rfl,_,rfl,mk b,rfl,zB,_,rfl,_,_,rfl,rfl,aS (by have:=aD (x:=none) (y:=some (sp:Int));omega),_,rfl,_,rfl,_,rfl,mk b,rfl,zB,_,_,rfl,rfl,aS (by have:=aD (x:=none) (y:=some (sp:Int));have:=aD (x:=some (sp:Int)) (y:=none);rw[DU];omega),?_⟩;have ew:(D9 (mk b) none (some (sp:Int)) ++ ((⟨#[iM (t + 7 * i)]⟩:Str) ++ ⟨#[iM (t + i / 26)]⟩)) ++ D9 (mk b) (some (sp:Int)) none=mk (b.take sp ++ aAp t i ++ b.drop sp):=by
     rw[aJj aA (by omega),aGr aA (by omega)];rw[show((⟨#[iM (t + 7 * i)]⟩:Str) ++ ⟨#[iM (t + i / 26)]⟩)=mk (aAp t i) from rfl,aBx,aBx]
    rw[ew];refine⟨fun σ' H'=>∃ U,σ'=[some (.ref p),some (.int m),some (.str abc),some (.int J),some (.int t),some (.int (0 + i)),some (.str (mk b)),some (.int sp),some (.ref L),some (.str (mk (word (decide (J=1)) b sp t i))),U,none]∧H'=upd H7 L (.lst (((AO i).map fun k=>mk (word (decide (J=1)) b sp t k)).map V.str)),?_,?_⟩
    ·refine⟨_,rfl,rfl,_,rfl,dS (fun g=>?_) (fun g=>?_)⟩
     ·have g':J=1:=V.int.inj (Ie g);subst g';refine⟨_,rfl,_,_,rfl,rfl,fun Z σ' H'=>∃(r f:Nat) (M:List Nat) (rv:Int) (wv:Str),Z=r∧rv=(r:Int)∧wv=mk (M.map fun d=>iM (t + 9 * d))∧σ'=[some (.ref p),some (.int m),some (.str abc),some (.int 1),some (.int t),some (.int (0 + i)),some (.str (mk b)),some (.int sp),some (.ref L),some (.str wv),some (.int rv),none]∧H'=upd H7 L (.lst (((AO i).map fun k=>mk (word (decide ((1:Int)=1)) b sp t k)).map V.str))∧bij f r ++ M=bij 6 (i + 1)∧r < 2 ^ f∧M.length + f≤6,⟨i + 1,i + 1,6,[],_,_,rfl,(by show 0 + (i:Int) + 1=((i + 1:Nat):Int);omega),(by show Bs ""=mk [];decide),rfl,rfl,by simp,by omega,by simp⟩,?_⟩;rintro Z σ' H' ⟨r,f,M,rv,wv,rfl,rfl,rfl,rfl,rfl,af,bb,de⟩;refine⟨_,rfl,_,_,rfl,rfl,_,rfl,dS (fun g2=>?_) (fun g2=>?_)⟩
      ·have b0:(0:Int) < Z:=Ie g2;refine⟨_,fun df cR h=>h,?_⟩;obtain⟨f',rfl⟩:∃ f',f=f' + 1:=by
        cases f with
        | zero=>exact absurd bb (by omega)
        | succ x=>exact⟨x,rfl⟩
       have e2:mk [iM (t + 9 * (Z % 2))] ++ mk (M.map fun d=>iM (t + 9 * d))=mk (((Z % 2) :: M).map fun d=>iM (t + 9 * d)):=by rw[aBx];rfl
       refine⟨_,rfl,_,rfl,_,rfl,_,_,rfl,rfl,(by show(0:Int) < 2;decide),_,_,rfl,rfl,.inl ⟨by decide,by decide⟩,_,_,rfl,rfl,_,_,rfl,rfl,(by show(0:Int) < 26;decide),_,_,iM (t + 9 * (Z % 2)),rfl,rfl,zA,yM _ (by omega),_,rfl,_,_,rfl,rfl,aS (by rw[lY,Ad];show 1 + _≤_;omega),_,rfl,_,_,rfl,rfl,_,_,rfl,rfl,⟨by decide,by decide⟩,(Z - 1) / 2,by omega,(Z - 1) / 2,f',(Z % 2) :: M,_,_,rfl,?_,e2,rfl,rfl,?_,?_,?_⟩
       ·show((Z:Int) - 1) / 2=_;omega
       ·rw[← af,aE9 f' Z (by omega)];simp
       ·rw[Nat.pow_succ]at bb;omega
       ·rw[A6];omega
      ·have b0:¬ (0:Int) < Z:=fun z=>g2 (Ic z);have hz:Z=0:=by omega
       subst hz;have e3:bij f 0=[]:=by cases f <;> rfl
       rw[e3,List.nil_append]at af;have e4:word (decide ((1:Int)=1)) b sp t i=M.map fun d=>iM (t + 9 * d):=by
        rw[af];rfl
       exact⟨some (V.int ((0:Nat):Int)),by rw[e4],rfl⟩
     ·have g':¬ J=1:=fun z=>g (Ic (by rw[z]));rw[decide_eq_false g'];exact⟨_,rfl,rfl⟩
    ·rintro σ' H' ⟨U,rfl,rfl⟩;refine⟨_,rfl,.inl ⟨rfl,_,bG aM⟩,_,rfl,L,_,_,rfl,rfl,aM,by rw[Ad,Ad,BR];exact j8 (by omega),_,_,_,rfl,?_⟩;rw[aBW,List.range_succ,AQ,AQ];rfl
   ·rintro σ H' ⟨o5,o9,U,rfl,rfl⟩;have S8:=aU (o:=.lst (((AO (m:Int).toNat).map fun k=>mk (word (decide (J=1)) b sp t k)).map V.str)) hL;have ak:=aB.same S8;have av:=aN.same S8;have ao:upd H7 L (.lst (((AO (m:Int).toNat).map fun k=>mk (word (decide (J=1)) b sp t k)).map V.str)) L=_:=aM;have hN:Nms ((AO (m:Int).toNat).map fun k=>mk (word (decide (J=1)) b sp t k)):=by
     refine⟨aGn (by omega) (by omega),fun w hw=>?_⟩;obtain⟨k',hk',rfl⟩:=Bn.mp hw;have:=BF.mp hk';exact aDC (by omega) aA hb
    have aw:((AO (m:Int).toNat).map fun k=>mk (word (decide (J=1)) b sp t k)).length=m:=by rw[Ad,BR];omega
    generalize ((AO (m:Int).toNat).map fun k=>mk (word (decide (J=1)) b sp t k))=ws at ak av ao hN aw ⊢;generalize upd H7 L (.lst (ws.map V.str))=H8 at ak av ao ⊢;refine⟨zZ9,fun T hT=>?_⟩;have S9:=aU (o:=.lst (oC.map V.str)) hT;have bh:upd H8 T (.lst (oC.map V.str)) T=some (.lst (oC.map V.str)):=aM;have bn:=ak.same S9;have au:=av.same S9;have bi:=S9 _ _ ao;have b1:T≠L:=(aX ao hT).symm;have aR:T≠p:=by
     obtain⟨l,_,z⟩:=ak.ob;exact(aX z hT).symm
    have eT:upd H8 T (.lst [V.str "as",.str "with",.str "part",.str "field",.str "none",.str "done",.str "write",.str "back",.str "join"])=upd H8 T (.lst (oC.map V.str)):=rfl;rw[eT];generalize upd H8 T (.lst (oC.map V.str))=H9 at bn au bi bh ⊢;refine⟨fun σ' H'=>∃(o5:Option V) (vs:List Str) (a6:Int),σ'=[some (.ref p),some (.int m),some (.str abc),some (.int J),some (.int t),o5,some (.str (mk b)),some (.int sp),some (.ref L),o9,U,some (.ref T)]∧H' L=some (.lst (vs.map V.str))∧vs.length=m∧Nms vs∧c7 H' p c ns a6∧a≤a6∧a6≤a + 30∧bW p H H',?_,?_⟩
    ·refine⟨_,rfl,p,c,ns,a5,_,rfl,bn,by omega,by decide,by decide,fun r6 a6 dk aP bo l6 u6 ar ah=>?_⟩;have ap:=ah _ _ bi am;have aK:=ah _ _ bh aR;have aq:=au.trans ah;refine⟨rfl,_,rfl,dS (fun g=>?_) (fun g=>?_)⟩
     ·refine⟨_,rfl,_,_,rfl,?_⟩;obtain⟨n9,hn9,n90,n91,n92⟩:∃ n9:Int,(if (9:Int) < m then(9:Int) else m)=n9∧0≤n9∧n9≤9∧n9≤m:=by
       refine⟨_,rfl,?_⟩;split <;> omega
      rw[hn9];refine⟨n9,rfl,by omega,by omega,jZ (n:=n9.toNat) (fun i σ H'=>Ex3 fun(o5:Option V) (vs:List Str) (a7:Int)=>Aw6 (σ=[some (.ref p),some (.int m),some (.str abc),some (.int J),some (.int t),o5,some (.str (mk b)),some (.int sp),some (.ref L),o9,U,some (.ref T)]) (H' L=some (.lst (vs.map V.str))) (H' T=some (.lst (oC.map V.str))) (vs.length=m) (Nms vs) (Aw3 (c7 H' p c ns a7) (a6≤a7) (a7≤a6 + i∧bW p H H'))) ⟨_,ws,a6,rfl,ap,aK,aw,hN,ar,by omega,by simp,aq⟩ ?_ ?_⟩
      ·rintro i σ H' hi ⟨be,vs,a7,rfl,ab,bf,W,O,ag,b2,bT,kv⟩;dsimp only[dI];refine⟨_,rfl,p,c,ns,a7,_,rfl,ag,by omega,by decide,by decide,fun r8 a8 dj dh db l8 u8 ad ac=>?_⟩;have Y:=ac _ _ ab am;have B:=ac _ _ bf aR;have aJ:=kv.trans ac;refine⟨rfl,_,rfl,dS (fun g2=>?_) (fun g2=>?_)⟩
       ·obtain⟨term,hterm⟩:∃ x,oC[i]?=some x:=⟨_,Ab (show i < 9 by omega)⟩
        have bx:ixN (oC.map V.str).length (0 + (i:Int))=some i:=by
         unfold ixN;rw[Ad,Ib (by omega),Ib (by show 0 + (i:Int) < 9;omega)];congr 1;omega
        have ai:atI (oC.map V.str) (0 + (i:Int))=some (V.str term):=by
         unfold atI;rw[bx];simp[hterm]
        have aZ:ixN (vs.map V.str).length (0 + (i:Int))=some i:=by
         unfold ixN;rw[Ad,Ib (by omega),Ib (by omega)];congr 1;omega
        refine⟨_,rfl,_,rfl,T,_,_,_,rfl,rfl,bG B,ai,_,rfl,L,_,rfl,.inl (bG Y),rfl,fE vs,_,rfl,?_⟩;rw[Ib rfl,nS];refine dS (fun g3=>?_) (fun g3=>?_)
        ·have bP:term ∉ vs:=by simpa using g3
         refine⟨_,rfl,_,rfl,T,_,_,_,rfl,rfl,bG B,ai,_,rfl,_,rfl,L,_,_,i,rfl,rfl,Y,aZ,_,vs.set i term,a8,rfl,by rw[aM,← List.map_set],by rw[bI b1];exact B,by rw[EX,W],⟨aE6 O.nd bP,fun w hw=>?_⟩,?_,by omega,by omega,?_⟩
         ·rcases List.mem_or_eq_of_mem_set hw with z | z
          ·exact O.ok w z
          ·rw[z];exact aBy term (AR hterm)
         ·obtain⟨⟨l,hl,e⟩,ce,ge,sm⟩:=ad;exact⟨⟨l,hl,by rw[bI am.symm];exact e⟩,by rw[bI b5.symm];exact ce,ge,sm⟩
         ·intro x o e ne;have nx:x≠L:=aX e bg;rw[bI nx];exact aJ x o e ne
        ·exact⟨_,vs,a8,rfl,Y,B,W,O,ad,by omega,by omega,aJ⟩
       ·exact⟨_,vs,a8,rfl,Y,B,W,O,ad,by omega,by omega,aJ⟩
      ·rintro σ H' ⟨be,vs,a7,rfl,ab,bf,W,O,ag,b2,bT,kv⟩;exact⟨_,vs,a7,rfl,ab,W,O,ag,by omega,by omega,kv⟩
     ·exact⟨_,ws,a6,rfl,ap,aw,hN,ar,by omega,by omega,aq⟩
    ·rintro σ' H' ⟨be,vs,a6,rfl,ab,W,O,ag,b9,bw,kv⟩;exact⟨_,rfl,k L vs a6 H' bg ab W O b9 bw ag kv⟩
structure OkD(b k:Nat)(d:Aj):Prop where
 sh:d.showable=true
 dp:d.depth≤k
 len:d.shown.length≤b
theorem OkD.mono{b q k z:Nat}{d:Aj}(h:OkD b k d)(F:b≤q)(B:k≤z):OkD q z d:=⟨h.sh,Bg h.dp B,Bg h.len F⟩
theorem aFb{b k:Nat}:∀{ds:List Aj},(∀ d∈ds,OkD b k d)→PyData.showableAll ds=true∧Bd ds≤k∧((ds.map Dn).map (·.length)).sum≤ds.length * b
 | [],_=>⟨rfl,A3 _,by simp⟩
 | d :: r,h=>by
  obtain⟨h1,h2,h3⟩:=aFb (ds:=r) fun x q=>h x (AJ _ q);obtain⟨g1,g2,g3⟩:=h d AG;refine⟨?_,?_,?_⟩
  ·unfold PyData.showableAll;rw[g1,h1];rfl
  ·unfold Bd;exact Nat.max_le.mpr ⟨g2,h2⟩
  ·rw[A1,A1,List.sum_cons,A6,Nat.succ_mul];omega
theorem OkD.tuple{b k n:Nat}{ds:List Aj}(h:∀ d∈ds,OkD b k d)(hn:ds.length≤n):OkD (n * (b + 2) + 3) (k + 1) (.tuple ds):=by
 obtain⟨h1,h2,h3⟩:=aFb h;refine⟨?_,?_,?_⟩
 ·unfold EQ;exact h1
 ·unfold BA;omega
 ·unfold Dn;rw[PyProof.Rows.shownAll_eq_map];unfold tupleText;have q:=StrLaws.join_length_le (Bs ", ") (ds.map Dn);have z:(Bs ", ").length=2:=by decide
  have F:(Bs "(").length=1:=by decide
  have B:∀ c:Bool,(Bs (if c=true then ",)" else ")")).length≤2:=by decide
  have J:=B ((ds.map Dn).length == 1);rw[z,Ad]at q;rw[DU,DU,F];have:ds.length * b + ds.length * 2≤n * (b + 2):=by
   rw[← Nat.mul_add];exact Nat.mul_le_mul_right _ hn
  omega
theorem OkD.list{b k n:Nat}{ds:List Aj}(h:∀ d∈ds,OkD b k d)(hn:ds.length≤n):OkD (n * (b + 2) + 3) (k + 1) (.list ds):=by
 obtain⟨h1,h2,h3⟩:=aFb h;refine⟨?_,?_,?_⟩
 ·unfold EQ;exact h1
 ·unfold BA;omega
 ·unfold Dn;rw[PyProof.Rows.shownAll_eq_map,listText_eq_join];have q:=StrLaws.join_length_le (Bs ", ") (ds.map Dn);have z:(Bs ", ").length=2:=by decide
  have F:(Bs "[").length=1:=by decide
  have B:(Bs "]").length=1:=by decide
  rw[z,Ad]at q;rw[DU,DU,F,B];have:ds.length * b + ds.length * 2≤n * (b + 2):=by
   rw[← Nat.mul_add];exact Nat.mul_le_mul_right _ hn
  omega
theorem OkD.str{z:Str}(h:EL z=true)(B:z.length≤10):OkD 102 0 (.str z):=by
 refine⟨by unfold EQ;rfl,by unfold BA;exact Ap _,?_⟩;have hz:z.cps.size≤10:=B;have q:(AX z).layable0=true:=by
  unfold PyData.layable0 BX BA PyData.weight;rw[h,Ic (show(0:Nat)≤64 by decide),Ic (show z.cps.size≤2 ^ 20 by omega)];rfl
 have:=PyProof.Rows.len_repr_of_layable q;unfold Dn;omega
theorem aGu{i:Int}(q:0≤i)(h1:i < 10 ^ 60):(Bs (toString i)).length≤60:=by
 obtain⟨n,rfl⟩:∃ n:Nat,i=n:=⟨i.toNat,by omega⟩
 rw[PySem.ofString_length];show(Int.repr (n:Int)).length≤60;have e:Int.repr (n:Int)=Nat.repr n:=rfl;rw[e];exact(Nat.length_repr_le_iff (by decide)).mpr (by omega)
theorem OkD.int{i:Int}(q:0≤i)(h1:i < 10 ^ 60):OkD 102 0 (.int i):=by
 refine⟨?_,by unfold BA;exact Ap _,?_⟩
 ·unfold EQ;refine Ic ?_;have h2:i.natAbs < 2 ^ 200:=by
   have:(10:Int) ^ 60 < ((2 ^ 200:Nat):Int):=by decide
   omega
  by_cases hz:i.natAbs=0
  ·rw[hz];decide
  ·have:=(Nat.log2_lt hz).mpr h2;omega
 ·unfold Dn;have:=aGu q h1;omega
theorem dU{z:Str}(h:cA z=true):EL z=true:=by
 unfold cA at h;rw[AF,Be]at h;unfold EL;rw[Array.all_eq_true_iff_forall_mem];intro c hc;have:=Ie (h.2 c (by simpa using hc));exact Ic (by omega)
theorem OkD.name{z:Str}(h:cA z=true):OkD 102 0 (.str z):=OkD.str (dU h) (by have:=gM h;omega)
def tyN:Aj→String
 | .none=>"NoneType"
 | .bool _=>"bool"
 | .int _=>"int"
 | .str _=>"str"
 | .list _=>"list"
 | .tuple _=>"tuple"
 | .dict _=>"dict"
def w5:Aj→Bool | .str _=>true | _=>false
def gN:Aj→Bool | .tuple _=>true | _=>false
def isInt:Aj→Bool | .int _=>true | .bool _=>true | _=>false
def aDG:Aj→Bool | .bool _=>true | _=>false
def cE:Aj→Bool | .str z=>cA z | _=>false
def dD(lo hi:Int):Aj→Bool | .int i=>decide (lo≤i∧i≤hi) | _=>false
def fY:Aj→Bool
 | .tuple [l,h,a]=>cE l && cE h && dD 1 10000000 a
 | _=>false
theorem aCz{K:Ai}(d:Aj):BW K (.type (tyN d)) (.type "str")=some (w5 d):=by
 cases d <;> dsimp only[tyN,w5] <;> first | exact mV | exact tZ (by decide) (by decide) (by decide)
theorem jR{K:Ai}(d:Aj):BW K (.type (tyN d)) (.type "tuple")=some (gN d):=by
 cases d <;> dsimp only[tyN,gN] <;> first | exact mV | exact tZ (by decide) (by decide) (by decide)
theorem aGv{K:Ai}(d:Aj):BW K (.type (tyN d)) (.type "int")=some (isInt d):=by
 cases d <;> dsimp only[tyN,isInt] <;> first | exact mV | exact tZ (by decide) (by decide) (by decide)
theorem aH9{K:Ai}(d:Aj):BW K (.type (tyN d)) (.type "bool")=some (aDG d):=by
 cases d <;> dsimp only[tyN,aDG] <;> first | exact mV | exact tZ (by decide) (by decide) (by decide)
theorem mG{K:Ai}{m:Bool}{H:Hp}{x:V}{d:Aj}(h:RdV m H x d):i6 K H x (.type (tyN d)):=by
 cases h with
 | non=>exact .non
 | bl b=>exact .bl b
 | int i=>exact .int i
 | str z _=>exact .str z
 | lst _ e _ _=>exact .lst e
 | tup e _ _=>exact .tup e
 | dct _ e=>exact .dK e
inductive uV(K:Ai)(vs:List V)(H:Hp)(Q:VK)(u3_:XK):Prop
 | mk (x:_) (q0:vs=[x]) (q1:((∃ z,x=V.str z∧z.length≤1000000∧∀ H',bS H H'→Q (.bl (cA z)) H')∨(∃ t,i6 K H x t∧BW K t (.type "str")=some false∧Q (.bl false) H))):uV K vs H Q u3_
def uW(K:Ai):Sp:=fun vs H Q u3_=>uV K vs H Q u3_
inductive aAs(vs:List V)(H:Hp)(Q:VK)(u3_:XK):Prop
 | mk (m:Bool) (x:V) (d:Aj) (q0:vs=[x]) (q1:RdV m H x d) (q2:∀ H',bS H H'→Q (.bl (cE d)) H'):aAs vs H Q u3_
def jF:Sp:=fun vs H Q u3_=>aAs vs H Q u3_
inductive aAt(vs:List V)(H:Hp)(Q:VK)(u3_:XK):Prop
 | mk (m:Bool) (x:V) (d:Aj) (q0:vs=[x]) (q1:RdV m H x d) (q2:Q (.bl (isInt d && !aDG d)) H):aAt vs H Q u3_
def aFc:Sp:=fun vs H Q u3_=>aAt vs H Q u3_
inductive w6(vs:List V)(H:Hp)(Q:VK)(u3_:XK):Prop
 | mk (m:Bool) (x:V) (d:Aj) (lo hi:Int) (q0:vs=[x,.int lo,.int hi]) (q1:RdV m H x d) (q2:Q (.bl (dD lo hi d)) H):w6 vs H Q u3_
def lZ:Sp:=fun vs H Q u3_=>w6 vs H Q u3_
inductive aAu(vs:List V)(H:Hp)(Q:VK)(u3_:XK):Prop
 | mk (m:Bool) (x:V) (d:Aj) (q0:vs=[x]) (q1:RdV m H x d) (q2:∀ H',bS H H'→Q (.bl (fY d)) H'):aAu vs H Q u3_
def aFd:Sp:=fun vs H Q u3_=>aAu vs H Q u3_
structure Txt(K:Ai)(mg:Str→Option Ac):Prop where
 isi:mg "isinstance"=none
 str:mg "str"=none
 len:mg "len"=none
 al:mg "all"=none
 int:mg "int"=none
 bool:mg "bool"=none
 tuple:mg "tuple"=none
 set:mg "set"=none
 mostFields:∃ t,mg "MOST_FIELDS"=some (.int 8 t)
 fieldAcres:∃ t,mg "MOST_FIELD_ACRES"=some (.int 1000000 t)
 longest:∃ t,mg "LONGEST"=some (.int 8 t)
 lastDay:∃ t,mg "LAST_DAY"=some (.int 9999 t)
 fewest:∃ t,mg "FEWEST_LANDS"=some (.int 2 t)
 most:∃ t,mg "MOST_LANDS"=some (.int 6 t)
 acres:∃ t,mg "MOST_PART_ACRES"=some (.int 10000000 t)
 inches:∃ t,mg "MOST_INCHES"=some (.int 10000000 t)
 pence:∃ t,mg "MOST_PENCE"=some (.int 1000000000 t)
 spades:∃ t,mg "MOST_SPADES"=some (.int 1000000 t)
theorem aIa(K:Ai):BW K (.type "str") (.type "str")=some true:=by
 unfold BW;rw[Ib (by rfl)]
theorem scN:bV ["thing"] ["thing"] (aO lV):=⟨rfl,rfl,rfl,by decide,rfl,by decide,by decide⟩
theorem aFe(a b:Nat):(!decide (([b]:List Nat) < [a]))=decide (a≤b):=by
 have:([b]:List Nat) < [a]↔b < a:=by
  constructor
  ·intro h;cases h with
   | rel h=>exact h
   | cons h=>cases h
  ·intro h;exact List.Lex.rel h
 by_cases h:b < a
 ·rw[Ic (this.mpr h),decide_eq_false (by omega)];rfl
 ·rw[decide_eq_false (fun z=>h (this.mp z)),Ic (by omega)];rfl
theorem w8{f:Ah}{fd:AK}(F:Fun K "is_name" "is_name" lV f fd)(T:Txt K mg):cQ P w K mg base CX0 1 f fd ["thing"] (uW K):=by
 refine F.ok scN (fun vs H Q E h=>?_) (fun aa A outer s H vs Q E hr h=>?_)
 ·obtain⟨x,rfl,_⟩:=h;rfl
 ·obtain⟨x,rfl,hx⟩:=h;obtain⟨tl,hlong⟩:=T.longest;refine⟨_,aH (c6 (gX (dL (dO (aW dQ (by rfl) T.isi (by kernel_rfl) (gO (pv 0) (gO (dM (v:=.ty "str") (by rfl) T.str (by kernel_rfl) rfl) aF)))))
    (fI (dL (sZ nX nX aQ (aW oY (by rfl) T.len AN (gO (pv 0) aF)) (dE (v:=.int 8) (by rfl) hlong ⟨_,rfl⟩))))).pt (aV (aY jJ)) bZ)
   (aV (aY (aW (o8 rfl) (by rfl) T.al (by kernel_rfl) (gO (eJ (N:=["sign"]) (src:=[none]) (osc:=aO lV) (oN:=["thing"]) ⟨by rfl,by decide,by decide,by decide,rfl,by rfl⟩ (aHN (pv 0))
    fun cl s H fp dt C=>⟨bH (i:=0) (show(["sign"]:List Str).Nodup by decide) rfl (AE rfl),dZ,sW wH wH cG (pv 0) cG⟩) aF)))),?_⟩
  rcases hx with⟨z,rfl,hz,k⟩ | ⟨t,ty,e,k⟩
  ·refine⟨_,rfl,_,"str",_,true,rfl,i6.str z,aIa K,true,rfl,dB ?_⟩;refine⟨_,rfl,z,rfl,aS hz,_,_,rfl,rfl,_,rfl,?_⟩;have B:¬ (1≤z.length∧z.length≤8)→Q (.bl false) H:=fun h=>by
    have:=k H (bS.refl H);unfold cA at this;rw[decide_eq_false h]at this;exact this
   refine dS (fun h1=>?_) (fun h1=>?_)
   ·have O:=Ie h1;refine⟨_,_,rfl,rfl,_,rfl,?_⟩;by_cases Y:(z.length:Int)≤8
    ·rw[Ic Y];refine dB ?_;refine⟨_,rfl,z,rfl,?_⟩;refine aEu (fun i ys σ H'=>H'=H∧ys=((z.cps.toList.take i).map fun c=>V.bl (decide (97≤c∧c≤122)))∧σ.length=1) ⟨rfl,rfl,rfl⟩ (aS hz) (fun i ys σ H' p=>by rw[p.2.1,Ad,A5];omega) ?_ ?_
     ·rintro i c ys σ H' hc ⟨rfl,rfl,W⟩;obtain⟨o,rfl⟩:∃ o,σ=[o]:=by
       match σ,W with
       | [o],_=>exact⟨o,rfl⟩
      dsimp only[dI];refine dJ ?_;refine⟨_,rfl,_,_,rfl,rfl,_,rfl,?_⟩;have q:∀ b:Bool,b=decide (97≤c∧c≤122)→(H'=H'∧(GC (fun c=>V.bl (decide (97≤c∧c≤122))) (Ds i z.cps.toList)) ++ [V.bl b]=(z.cps.toList.take (i + 1)).map (fun c=>V.bl (decide (97≤c∧c≤122)))∧([o].set 0 (some (V.str ⟨#[c]⟩))).length=1):=fun b hb=>by
       refine⟨rfl,?_,rfl⟩;rw[Bl,AQ,hb];have:z.cps.toList[i]?=some c:=by simpa using hc
       rw[this];rfl
      have e1:(!decide ((⟨#[c]⟩:Str).cps.toList < ("a":Str).cps.toList))=decide (97≤c):=aFe 97 c;have Z:(!decide (("z":Str).cps.toList < (⟨#[c]⟩:Str).cps.toList))=decide (c≤122):=aFe c 122;rw[e1];refine dS (fun J=>?_) (fun J=>?_)
      ·have M:=Ie J;refine⟨_,_,rfl,rfl,?_⟩;rw[Z];refine q _ ?_;rw[decide_eq_decide];omega
      ·have M:¬ 97≤c:=fun z=>J (Ic z);refine q false ?_;rw[decide_eq_false (by omega)]
     ·rintro ys σ H' ⟨rfl,rfl,W⟩ D hD;have U:Ds z.cps.size z.cps.toList=z.cps.toList:=by rw[← Bt];exact BC
      rw[U];refine⟨D,z.cps.toList.map fun c=>decide (97≤c∧c≤122),rfl,bG (by rw[aM,Ck];rfl),?_⟩;have:=k _ (aU (o:=.lst (GC (fun c=>V.bl (decide (97≤c∧c≤122))) z.cps.toList)) hD);unfold cA at this;rw[Ic (by omega),A8]at this;rw[Dt];exact this
    ·rw[decide_eq_false Y];exact dJ (B (by omega))
   ·have O:¬ (1:Int)≤z.length:=fun z=>h1 (Ic z);exact⟨false,rfl,dJ (B (by omega))⟩
  ·refine⟨_,rfl,_,"str",t,false,rfl,ty,e,false,rfl,dJ ?_⟩;refine dJ ?_;exact k
theorem aGw{f:Ah}{fd:AK}{k:Nat}{ps:List Str}{sp B:Sp}(G:cQ P w K mg base CX0 k f fd ps sp)(h:∀ vs H Q E,B vs H Q E→sp vs H Q E):cQ P w K mg base CX0 k f fd ps B:=
 ⟨fun vs H Q E z=>G.len vs H Q E (h vs H Q E z),fun A outer s H q us vs Q E F M J r z=>G.run A outer s H q us vs Q E F M J r (h vs H Q E z)⟩
theorem aDH(vs:List V)(H:Hp)(Q:VK)(E:XK)(h:jF vs H Q E):uW K vs H Q E:=by
 obtain⟨m,x,d,rfl,hx,k⟩:=h;refine⟨x,rfl,?_⟩;have ty:=mG (K:=K) hx;have q:=aCz (K:=K) d;cases hx with
 | str z hz=>exact .inl ⟨z,rfl,by omega,k⟩
 | non=>exact .inr ⟨_,ty,q,k H (bS.refl H)⟩
 | bl b=>exact .inr ⟨_,ty,q,k H (bS.refl H)⟩
 | int i=>exact .inr ⟨_,ty,q,k H (bS.refl H)⟩
 | lst _ _ _ _=>exact .inr ⟨_,ty,q,k H (bS.refl H)⟩
 | tup _ _ _=>exact .inr ⟨_,ty,q,k H (bS.refl H)⟩
 | dct _ _=>exact .inr ⟨_,ty,q,k H (bS.refl H)⟩
theorem aIb:bV ["thing"] ["thing"] (aO iY):=⟨rfl,rfl,rfl,by decide,rfl,by decide,by decide⟩
theorem aGx{f:Ah}{fd:AK}(F:Fun K "is_number" "is_number" iY f fd)(T:Txt K mg):cQ P w K mg base CX0 1 f fd ["thing"] aFc:=by
 refine F.ok aIb (fun vs H Q E h=>?_) (fun z A outer s H vs Q E B h=>?_)
 ·obtain⟨m,x,d,rfl,_⟩:=h;rfl
 ·obtain⟨m,x,d,rfl,hx,k⟩:=h;refine⟨_,aV (aY (dX (aW dQ (by rfl) T.isi (by kernel_rfl) (aG (pv 0) (aG (dM (v:=.ty "int") (by rfl) T.int (by kernel_rfl) rfl) aF)))
   (f9 (aHq (aW dQ (by rfl) T.isi (by kernel_rfl) (aG (pv 0) (aG (dM (v:=.ty "bool") (by rfl) T.bool (by kernel_rfl) rfl) aF))))))),?_⟩
  refine⟨_,rfl,_,"int",_,_,rfl,mG hx,aGv d,_,rfl,dS (fun g=>?_) (fun g=>?_)⟩
  ·rw[g,A8]at k;exact⟨_,rfl,_,"bool",_,_,rfl,mG hx,aH9 d,_,rfl,k⟩
  ·have q:isInt d=false:=by simpa using g
   rw[q]at k;exact k
theorem aDI:bV ["thing","least","most"] ["thing","least","most"] (aO kU):=⟨rfl,rfl,rfl,by decide,rfl,by decide,by decide⟩
theorem aBz{f:Ah}{fd:AK}(F:Fun K "is_whole" "is_whole" kU f fd)(W:Cl P w K mg base 1 "is_number" ["thing"] aFc):cQ P w K mg base CX0 2 f fd ["thing","least","most"] lZ:=by
 refine F.ok aDI (fun vs H Q E h=>?_) (fun M A outer s H vs Q E O h=>?_)
 ·obtain⟨m,x,d,lo,hi,rfl,_⟩:=h;rfl
 ·obtain⟨m,x,d,lo,hi,rfl,hx,k⟩:=h;refine⟨_,aV (aY (dX (bE W O (aG (pv 0) aF)) (f9 (sW nX nX (pv 1) (pv 0) (pv 2))))),_,rfl,m,x,d,rfl,hx,_,rfl,dS (fun g=>?_) (fun g=>?_)⟩
  ·obtain⟨i,rfl⟩:∃ i,d=.int i:=by
    cases d with
    | int i=>exact⟨i,rfl⟩
    | _=>simp[isInt,aDG]at g
   cases hx;refine⟨_,rfl,_,rfl,_,_,rfl,rfl,?_⟩;have J:Q (.bl (decide (lo≤i∧i≤hi))) H:=k;refine⟨_,rfl,dS (fun B=>?_) (fun B=>?_)⟩
   ·have q:lo≤i:=Ie B;refine⟨_,rfl,_,_,rfl,rfl,?_⟩;show Q (.bl (decide (i≤hi))) H;rw[decide_eq_decide.mpr (show i≤hi↔lo≤i∧i≤hi from⟨fun z=>⟨q,z⟩,fun z=>z.2⟩)];exact J
   ·have q:¬ lo≤i:=fun z=>B (Ic z);rw[decide_eq_false (fun z=>q z.1)]at J;exact J
  ·have U:(isInt d && !aDG d)=false:=by simpa using g
   have e:dD lo hi d=false:=by
    cases d with
    | int i=>simp[isInt,aDG]at U
    | _=>rfl
   rw[e]at k;exact k
inductive aAv(vs:List V)(H:Hp)(Q:VK)(u3_:XK):Prop
 | mk (m:Bool) (x:V) (d:Aj) (q0:vs=[x]) (q1:RdV m H x d) (q2:Q (.bl (dD 0 9999999 d)) H):aAv vs H Q u3_
def aBA:Sp:=fun vs H Q u3_=>aAv vs H Q u3_
theorem yN:bV ["thing","land","house","acres"] ["thing"] (aO nJ):=⟨rfl,rfl,rfl,by decide,rfl,by decide,by decide⟩
theorem aGy{f:Ah}{fd:AK}(F:Fun K "is_part" "is_part" nJ f fd)(T:Txt K mg)
  (GN:Cl P w K mg base 1 "is_name" ["thing"] jF)
  (GW:Cl P w K mg base 2 "is_whole" ["thing","least","most"] lZ):
  cQ P w K mg base CX0 3 f fd ["thing"] aFd:=by
 refine F.ok yN (fun vs H Q E h=>?_) (fun ae A outer s H vs Q E U h=>?_)
 ·obtain⟨m,x,d,rfl,_⟩:=h;rfl
 ·obtain⟨m,x,d,rfl,hx,k⟩:=h;have B:cS 1 _:=U.mono (by decide);obtain⟨ta,hacres⟩:=T.acres;refine⟨_,aH (c6 (PW.pt (gX (dL (dO (aW dQ (by rfl) T.isi (by kernel_rfl) (aG (pv 0) (aG (dM (v:=.ty "tuple") (by rfl) T.tuple (by kernel_rfl) rfl) aF)))))
    (fI (bY sV (aW bC (by rfl) T.len AN (aG (pv 0) aF)) aQ (cI _))))) (aV (aY jJ)) bZ)
   (aH (i5 (pv 0) (jV rfl (cH (bH (i:=1) yN.nd rfl (AE rfl)) (cH (bH (i:=2) yN.nd rfl (AE rfl)) (cH (bH (i:=3) yN.nd rfl (AE rfl)) iE)))))
   (aV (aY (dX (bE GN B (aG (pv 1) aF)) (dX (bE GN B (aG (pv 2) aF)) (f9 (bE GW U (aG (pv 3) (aG aQ (aG (dE (v:=.int 10000000) (by rfl) hacres ⟨_,rfl⟩) aF)))))))))),?_⟩
  refine⟨_,rfl,_,"tuple",_,_,rfl,mG hx,jR d,_,rfl,?_⟩;cases hd:gN d with
  | false=>
   have e:fY d=false:=by
    cases d with
    | tuple ds=>simp[gN]at hd
    | _=>rfl
   rw[e]at k;exact k H (bS.refl H)
  | true=>
   obtain⟨ds,rfl⟩:∃ ds,d=.tuple ds:=by
    cases d with
    | tuple z=>exact⟨z,rfl⟩
    | _=>simp[gN]at hd
   cases hx with
   | @tup a xs _ e hl r=>
    have Z:=r.len;refine dB ?_;refine⟨_,rfl,a,xs,rfl,.inr (bF e),rfl,_,rfl,?_⟩;by_cases M:xs.length=3
    ·rw[Ic (show V.int (xs.length:Int)=V.int 3 by rw[M];rfl)];refine dB ?_
     match xs,ds,M,r with
     | [x1,x2,x3],[d1,d2,d3],_,.cons r1 (.cons r2 (.cons r3 .nil))=>
      refine⟨_,rfl,a,_,rfl,bF e,rfl,_,_,rfl,_,_,rfl,_,_,rfl,rfl,?_⟩;have Y:∀ H',bS H H'→Q (.bl (cE d1 && cE d2 && dD 1 10000000 d3)) H':=k;refine⟨_,rfl,m,x1,d1,rfl,r1,fun H1 J=>⟨_,rfl,?_⟩⟩;have k1:=Y H1 J;refine dS (fun g=>?_) (fun g=>?_)
      ·refine⟨_,rfl,m,x2,d2,rfl,r2.same J,fun H2 W=>⟨_,rfl,?_⟩⟩;have q:=Y H2 (J.trans W);rw[g,A8]at q;refine dS (fun O=>?_) (fun O=>?_)
       ·rw[O,A8]at q;exact⟨_,rfl,m,x3,d3,1,10000000,rfl,(r3.same J).same W,q⟩
       ·rw[(by simpa using O:cE d2=false)]at q;exact q
      ·rw[(by simpa using g:cE d1=false)]at k1;exact k1
    ·rw[decide_eq_false (show¬ V.int (xs.length:Int)=V.int 3 from fun z=>M (by injection z with z;omega))];refine dJ ?_;have e2:fY (.tuple ds)=false:=by
      match ds,(show ds.length≠3 by omega)with
      | [],_=>rfl
      | [_],_=>rfl
      | [_,_],_=>rfl
      | [_,_,_],z=>exact absurd rfl z
      | _ :: _ :: _ :: _ :: _,_=>rfl
     rw[e2]at k;exact k H (bS.refl H)
theorem aIc:bV ["thing"] ["thing"] (aO nM):=⟨rfl,rfl,rfl,by decide,rfl,by decide,by decide⟩
theorem aGz{f:Ah}{fd:AK}(F:Fun K "is_inch" "is_inch" nM f fd)(T:Txt K mg)
  (B:Cl P w K mg base 2 "is_whole" ["thing","least","most"] lZ):
  cQ P w K mg base CX0 3 f fd ["thing"] aBA:=by
 refine F.ok aIc (fun vs H Q E h=>?_) (fun q A outer s H vs Q E z h=>?_)
 ·obtain⟨m,x,d,rfl,_⟩:=h;rfl
 ·obtain⟨m,x,d,rfl,hx,k⟩:=h;obtain⟨ti,hin⟩:=T.inches;exact⟨_,aV (aY (bE B z (aG (pv 0) (aG aQ (aG (b8 jW (dE (v:=.int 10000000) (by rfl) hin ⟨_,rfl⟩) aQ) aF))))),_,rfl,_,_,rfl,rfl,m,x,d,0,9999999,rfl,hx,k⟩
def yO:Aj→Bool
 | .tuple ds=>ds.all cE
 | _=>false
def yP:Aj→Bool
 | .tuple ds=>ds.all fY
 | _=>false
inductive aAw(vs:List V)(H:Hp)(Q:VK)(u3_:XK):Prop
 | mk (m:Bool) (x:V) (d:Aj) (q0:vs=[x]) (q1:RdV m H x d) (q2:∀ H',bS H H'→Q (.bl (yO d)) H'):aAw vs H Q u3_
def uX:Sp:=fun vs H Q u3_=>aAw vs H Q u3_
inductive aAx(vs:List V)(H:Hp)(Q:VK)(u3_:XK):Prop
 | mk (m:Bool) (x:V) (d:Aj) (q0:vs=[x]) (q1:RdV m H x d) (q2:∀ H',bS H H'→Q (.bl (yP d)) H'):aAx vs H Q u3_
def aBB:Sp:=fun vs H Q u3_=>aAx vs H Q u3_
theorem aId:bV ["thing"] ["thing"] (aO hX):=⟨rfl,rfl,rfl,by decide,rfl,by decide,by decide⟩
theorem aGA{f:Ah}{fd:AK}(F:Fun K "all_names" "all_names" hX f fd)(T:Txt K mg)
  (Z:Cl P w K mg base 1 "is_name" ["thing"] jF):
  cQ P w K mg base CX0 2 f fd ["thing"] uX:=by
 refine F.ok aId (fun vs H Q E h=>?_) (fun J A outer s H vs Q E M h=>?_)
 ·obtain⟨m,x,d,rfl,_⟩:=h;rfl
 ·obtain⟨m,x,d,rfl,hx,k⟩:=h;refine⟨_,aV (aY (dX (aW dQ (by rfl) T.isi (by kernel_rfl) (aG (pv 0) (aG (dM (v:=.ty "tuple") (by rfl) T.tuple (by kernel_rfl) rfl) aF)))
   (f9 (aW (o8 rfl) (by rfl) T.al (by kernel_rfl) (aG (eJ (N:=["name"]) (src:=[none]) (osc:=aO hX) (oN:=["thing"]) ⟨by rfl,by decide,by decide,by decide,rfl,by rfl⟩ (iL (pv 0))
     fun cl s H fp dt C=>⟨bH (i:=0) (show(["name"]:List Str).Nodup by decide) rfl (AE rfl),dZ,bE Z M (aG (pv 0) aF)⟩) aF))))),?_⟩
  refine⟨_,rfl,_,"tuple",_,_,rfl,mG hx,jR d,_,rfl,?_⟩;cases hd:gN d with
  | false=>
   have e:yO d=false:=by
    cases d with
    | tuple ds=>simp[gN]at hd
    | _=>rfl
   rw[e]at k;exact k H (bS.refl H)
  | true=>
   obtain⟨ds,rfl⟩:∃ ds,d=.tuple ds:=by
    cases d with
    | tuple z=>exact⟨z,rfl⟩
    | _=>simp[gN]at hd
   cases hx with
   | @tup a xs _ e hl r=>
    have B:=r.len;have U:∀ H',bS H H'→Q (.bl (ds.all cE)) H':=k;refine dJ ?_;refine⟨_,rfl,a,rfl,⟨xs,bF e⟩,?_⟩;refine gQ (xs:=xs) (fun i ys σ H'=>bS H H'∧ys=((ds.take i).map fun d=>V.bl (cE d))∧∃ o,σ=[o]) ⟨bS.refl H,rfl,none,rfl⟩ (aS (by omega)) (fun i ys σ H' p=>by rw[p.2.1,Ad,A5];omega) (fun i ys σ H' p=>bF (p.1 _ _ e)) ?_ ?_
    ·rintro i y ys σ H' W ⟨S,rfl,o,rfl⟩;dsimp only[dI];obtain⟨d',hd',r'⟩:=r.at W;refine dJ ?_;refine⟨_,rfl,m,y,d',rfl,r'.same S,fun H2 O=>⟨S.trans O,?_,_,rfl⟩⟩;rw[Bl,hd',AQ];rfl
    ·rintro ys σ H1 ⟨S,rfl,o,rfl⟩ D hD;have q:Ds xs.length ds=ds:=Bu (by omega);rw[q];have Y:=S.trans (aU (o:=.lst (ds.map fun d=>V.bl (cE d))) hD);refine⟨D,ds.map cE,rfl,bG (by rw[aM,Ck];rfl),?_⟩;rw[Dt];exact U _ Y
theorem aIe:bV ["thing"] ["thing"] (aO hW):=⟨rfl,rfl,rfl,by decide,rfl,by decide,by decide⟩
theorem aGB{f:Ah}{fd:AK}(F:Fun K "all_parts" "all_parts" hW f fd)(T:Txt K mg)
  (Z:Cl P w K mg base 3 "is_part" ["thing"] aFd):
  cQ P w K mg base CX0 4 f fd ["thing"] aBB:=by
 refine F.ok aIe (fun vs H Q E h=>?_) (fun J A outer s H vs Q E M h=>?_)
 ·obtain⟨m,x,d,rfl,_⟩:=h;rfl
 ·obtain⟨m,x,d,rfl,hx,k⟩:=h;refine⟨_,aV (aY (dX (aW dQ (by rfl) T.isi (by kernel_rfl) (aG (pv 0) (aG (dM (v:=.ty "tuple") (by rfl) T.tuple (by kernel_rfl) rfl) aF)))
   (f9 (aW (o8 rfl) (by rfl) T.al (by kernel_rfl) (aG (eJ (N:=["part"]) (src:=[none]) (osc:=aO hW) (oN:=["thing"]) ⟨by rfl,by decide,by decide,by decide,rfl,by rfl⟩ (iL (pv 0))
     fun cl s H fp dt C=>⟨bH (i:=0) (show(["part"]:List Str).Nodup by decide) rfl (AE rfl),dZ,bE Z M (aG (pv 0) aF)⟩) aF))))),?_⟩
  refine⟨_,rfl,_,"tuple",_,_,rfl,mG hx,jR d,_,rfl,?_⟩;cases hd:gN d with
  | false=>
   have e:yP d=false:=by
    cases d with
    | tuple ds=>simp[gN]at hd
    | _=>rfl
   rw[e]at k;exact k H (bS.refl H)
  | true=>
   obtain⟨ds,rfl⟩:∃ ds,d=.tuple ds:=by
    cases d with
    | tuple z=>exact⟨z,rfl⟩
    | _=>simp[gN]at hd
   cases hx with
   | @tup a xs _ e hl r=>
    have B:=r.len;have U:∀ H',bS H H'→Q (.bl (ds.all fY)) H':=k;refine dJ ?_;refine⟨_,rfl,a,rfl,⟨xs,bF e⟩,?_⟩;refine gQ (xs:=xs) (fun i ys σ H'=>bS H H'∧ys=((ds.take i).map fun d=>V.bl (fY d))∧∃ o,σ=[o]) ⟨bS.refl H,rfl,none,rfl⟩ (aS (by omega)) (fun i ys σ H' p=>by rw[p.2.1,Ad,A5];omega) (fun i ys σ H' p=>bF (p.1 _ _ e)) ?_ ?_
    ·rintro i y ys σ H' W ⟨S,rfl,o,rfl⟩;dsimp only[dI];obtain⟨d',hd',r'⟩:=r.at W;refine dJ ?_;refine⟨_,rfl,m,y,d',rfl,r'.same S,fun H2 O=>⟨S.trans O,?_,_,rfl⟩⟩;rw[Bl,hd',AQ];rfl
    ·rintro ys σ H1 ⟨S,rfl,o,rfl⟩ D hD;have q:Ds xs.length ds=ds:=Bu (by omega);rw[q];have Y:=S.trans (aU (o:=.lst (ds.map fun d=>V.bl (fY d))) hD);refine⟨D,ds.map fY,rfl,bG (by rw[aM,Ck];rfl),?_⟩;rw[Dt];exact U _ Y
inductive aAy(D:List Aj→Bool)(vs:List V)(H:Hp)(Q:VK)(u3_:XK):Prop
 | mk (m:Bool) (x:V) (ds:List Aj) (q0:vs=[x]) (q1:RdV m H x (.tuple ds)) (q2:∀ H',bS H H'→Q (.bl (D ds)) H'):aAy D vs H Q u3_
def eZ(D:List Aj→Bool):Sp:=fun vs H Q u3_=>aAy D vs H Q u3_
def lC:List Aj→Bool
 | [d1,d2]=>cE d1 && dD 0 10000000 d2
 | _=>false
theorem aAz{ds:List Aj}(h:ds.length≠2):lC ds=false:=by
 match ds,h with
 | [],_=>rfl
 | [_],_=>rfl
 | [_,_],z=>exact absurd rfl z
 | _ :: _ :: _ :: _,_=>rfl
def w9:List Aj→Bool
 | [d1,d2,d3]=>cE d1 && dD 0 9999999 d2 && cE d3
 | _=>false
theorem aFf{ds:List Aj}(h:ds.length≠3):w9 ds=false:=by
 match ds,h with
 | [],_=>rfl
 | [_],_=>rfl
 | [_,_],_=>rfl
 | [_,_,_],z=>exact absurd rfl z
 | _ :: _ :: _ :: _ :: _,_=>rfl
def qO:List Aj→Bool
 | [d1]=>cE d1
 | _=>false
theorem aDJ{ds:List Aj}(h:ds.length≠1):qO ds=false:=by
 match ds,h with
 | [],_=>rfl
 | [_],z=>exact absurd rfl z
 | _ :: _ :: _,_=>rfl
def nU:List Aj→Bool
 | [d1,d2,d3,d4]=>cE d1 && dD 0 9999999 d2 && dD 0 1000000000 d3 && dD 0 1000000 d4
 | _=>false
theorem aBC{ds:List Aj}(h:ds.length≠4):nU ds=false:=by
 match ds,h with
 | [],_=>rfl
 | [_],_=>rfl
 | [_,_],_=>rfl
 | [_,_,_],_=>rfl
 | [_,_,_,_],z=>exact absurd rfl z
 | _ :: _ :: _ :: _ :: _ :: _,_=>rfl
theorem aBD:bV ["rest"] ["rest"] (aO i3):=⟨rfl,rfl,rfl,by decide,rfl,by decide,by decide⟩
theorem aAA{f:Ah}{fd:AK}(F:Fun K "fits_measure" "fits_measure" i3 f fd)(T:Txt K mg)
  (GN:Cl P w K mg base 1 "is_name" ["thing"] jF)
  (GW:Cl P w K mg base 2 "is_whole" ["thing","least","most"] lZ):
  cQ P w K mg base CX0 6 f fd ["rest"] (eZ lC):=by
 refine F.ok aBD (fun vs H Q E h=>?_) (fun ad A outer s H vs Q E J h=>?_)
 ·obtain⟨m,x,d,rfl,_⟩:=h;rfl
 ·obtain⟨m,x,ds,rfl,hx,k⟩:=h;have M:cS 1 _:=J.mono (by decide);have U:cS 2 _:=J.mono (by decide);have ab:cS 3 _:=J.mono (by decide);obtain⟨tinches,hinches⟩:=T.inches;refine⟨_,aV (aY (dX (f7 eI (aW bC (by rfl) T.len AN (aG (pv 0) aF)) aQ (cI _)) (dX (bE GN M (aG (cO c0 (pv 0) aQ Ig) aF)) (f9 (bE GW U (aG (cO c0 (pv 0) aQ Ig) (aG aQ (aG (dE (v:=.int 10000000) (by rfl) hinches ⟨_,rfl⟩) aF)))))))),?_⟩;cases hx with
  | @tup a xs _ e hl r=>
   have Z:=r.len;refine⟨_,rfl,a,xs,rfl,.inr (bF e),rfl,_,rfl,?_⟩;by_cases hn:xs.length=2
   ·rw[Ic (show V.int (xs.length:Int)=V.int 2 by rw[hn];rfl)];refine dJ ?_
    match xs,ds,hn,r with
    | [x1,x2],[d1,d2],_,.cons r1 (.cons r2 (.nil))=>
     have Y:∀ H',bS H H'→Q (.bl (cE d1 && dD 0 10000000 d2)) H':=k;have O:=bS.refl H;refine⟨_,rfl,a,_,0,_,rfl,rfl,bF (O _ _ e),rfl,m,x1,d1,rfl,(r1.same O),fun H1 z1=>⟨_,rfl,?_⟩⟩;have B:=O.trans z1;cases W:(cE d1)with
     | false=>
      have q:=Y H1 B;rw[W]at q;simp only[C7]at q;refine dB ?_;exact q
     | true=>
      refine dJ ?_;have q:=Y H1 B;rw[W,A8]at q;exact⟨_,rfl,a,_,1,_,rfl,rfl,bF (B _ _ e),rfl,m,x2,d2,0,10000000,rfl,(r2.same B),q⟩
   ·rw[decide_eq_false (show¬ V.int (xs.length:Int)=V.int 2 from fun z=>hn (by injection z with z;omega))];refine dB ?_;rw[aAz (by omega)]at k;exact k H (bS.refl H)
theorem aGC:bV ["rest"] ["rest"] (aO qH):=⟨rfl,rfl,rfl,by decide,rfl,by decide,by decide⟩
theorem aFg{f:Ah}{fd:AK}(F:Fun K "fits_view" "fits_view" qH f fd)(T:Txt K mg)
  (GN:Cl P w K mg base 1 "is_name" ["thing"] jF)
  (GI:Cl P w K mg base 3 "is_inch" ["thing"] aBA):
  cQ P w K mg base CX0 6 f fd ["rest"] (eZ w9):=by
 refine F.ok aGC (fun vs H Q E h=>?_) (fun af A outer s H vs Q E U h=>?_)
 ·obtain⟨m,x,d,rfl,_⟩:=h;rfl
 ·obtain⟨m,x,ds,rfl,hx,k⟩:=h;have J:cS 1 _:=U.mono (by decide);have ah:cS 2 _:=U.mono (by decide);have O:cS 3 _:=U.mono (by decide);refine⟨_,aV (aY (dX (f7 eI (aW bC (by rfl) T.len AN (aG (pv 0) aF)) aQ (cI _)) (dX (bE GN J (aG (cO c0 (pv 0) aQ Ig) aF)) (dX (bE GI O (aG (cO c0 (pv 0) aQ Ig) aF)) (f9 (bE GN J (aG (cO c0 (pv 0) aQ Ig) aF))))))),?_⟩;cases hx with
  | @tup a xs _ e hl r=>
   have aa:=r.len;refine⟨_,rfl,a,xs,rfl,.inr (bF e),rfl,_,rfl,?_⟩;by_cases hn:xs.length=3
   ·rw[Ic (show V.int (xs.length:Int)=V.int 3 by rw[hn];rfl)];refine dJ ?_
    match xs,ds,hn,r with
    | [x1,x2,x3],[d1,d2,d3],_,.cons r1 (.cons r2 (.cons r3 (.nil)))=>
     have W:∀ H',bS H H'→Q (.bl (cE d1 && dD 0 9999999 d2 && cE d3)) H':=k;have Y:=bS.refl H;refine⟨_,rfl,a,_,0,_,rfl,rfl,bF (Y _ _ e),rfl,m,x1,d1,rfl,(r1.same Y),fun H1 z1=>⟨_,rfl,?_⟩⟩;have B:=Y.trans z1;cases M:(cE d1)with
     | false=>
      have q:=W H1 B;rw[M]at q;simp only[C7]at q;refine dB ?_;exact q
     | true=>
      refine dJ ?_;refine⟨_,rfl,a,_,1,_,rfl,rfl,bF (B _ _ e),rfl,m,x2,d2,rfl,(r2.same B),_,rfl,?_⟩;cases Z:(dD 0 9999999 d2)with
      | false=>
       have q:=W H1 B;rw[M,A8,Z]at q;simp only[C7]at q;refine dB ?_;exact q
      | true=>
       refine dJ ?_;refine⟨_,rfl,a,_,2,_,rfl,rfl,bF (B _ _ e),rfl,m,x3,d3,rfl,(r3.same B),fun H3 z3=>?_⟩;have q:=W H3 (B.trans z3);rw[M,A8,Z,A8]at q;exact q
   ·rw[decide_eq_false (show¬ V.int (xs.length:Int)=V.int 3 from fun z=>hn (by injection z with z;omega))];refine dB ?_;rw[aFf (by omega)]at k;exact k H (bS.refl H)
theorem aFh:bV ["rest"] ["rest"] (aO nN):=⟨rfl,rfl,rfl,by decide,rfl,by decide,by decide⟩
theorem aDK{f:Ah}{fd:AK}(F:Fun K "fits_alone" "fits_alone" nN f fd)(T:Txt K mg)
  (GN:Cl P w K mg base 1 "is_name" ["thing"] jF):
  cQ P w K mg base CX0 6 f fd ["rest"] (eZ qO):=by
 refine F.ok aFh (fun vs H Q E h=>?_) (fun Y A outer s H vs Q E B h=>?_)
 ·obtain⟨m,x,d,rfl,_⟩:=h;rfl
 ·obtain⟨m,x,ds,rfl,hx,k⟩:=h;have J:cS 1 _:=B.mono (by decide);have ab:cS 2 _:=B.mono (by decide);have U:cS 3 _:=B.mono (by decide);refine⟨_,aV (aY (dX (f7 eI (aW bC (by rfl) T.len AN (aG (pv 0) aF)) aQ (cI _)) (f9 (bE GN J (aG (cO c0 (pv 0) aQ Ig) aF))))),?_⟩;cases hx with
  | @tup a xs _ e hl r=>
   have O:=r.len;refine⟨_,rfl,a,xs,rfl,.inr (bF e),rfl,_,rfl,?_⟩;by_cases hn:xs.length=1
   ·rw[Ic (show V.int (xs.length:Int)=V.int 1 by rw[hn];rfl)];refine dJ ?_
    match xs,ds,hn,r with
    | [x1],[d1],_,.cons r1 (.nil)=>
     have Z:∀ H',bS H H'→Q (.bl (cE d1)) H':=k;have M:=bS.refl H;refine⟨_,rfl,a,_,0,_,rfl,rfl,bF (M _ _ e),rfl,m,x1,d1,rfl,(r1.same M),fun H1 W=>?_⟩;have q:=Z H1 (M.trans W);exact q
   ·rw[decide_eq_false (show¬ V.int (xs.length:Int)=V.int 1 from fun z=>hn (by injection z with z;omega))];refine dB ?_;rw[aDJ (by omega)]at k;exact k H (bS.refl H)
theorem aDL:bV ["rest"] ["rest"] (aO kX):=⟨rfl,rfl,rfl,by decide,rfl,by decide,by decide⟩
theorem aBE{f:Ah}{fd:AK}(F:Fun K "fits_breach" "fits_breach" kX f fd)(T:Txt K mg)
  (GN:Cl P w K mg base 1 "is_name" ["thing"] jF)
  (GW:Cl P w K mg base 2 "is_whole" ["thing","least","most"] lZ)
  (GI:Cl P w K mg base 3 "is_inch" ["thing"] aBA):
  cQ P w K mg base CX0 6 f fd ["rest"] (eZ nU):=by
 refine F.ok aDL (fun vs H Q E h=>?_) (fun af A outer s H vs Q E Y h=>?_)
 ·obtain⟨m,x,d,rfl,_⟩:=h;rfl
 ·obtain⟨m,x,ds,rfl,hx,k⟩:=h;have Z:cS 1 _:=Y.mono (by decide);have J:cS 2 _:=Y.mono (by decide);have W:cS 3 _:=Y.mono (by decide);obtain⟨tpence,hpence⟩:=T.pence;obtain⟨tspades,hspades⟩:=T.spades;refine⟨_,aH (c6 (PW.pt (gX (bY sV (aW bC (by rfl) T.len AN (aG (pv 0) aF)) aQ (cI _)) (gX (dL (dO (bE GN Z (aG (cO c0 (pv 0) aQ Ig) aF)))) (fI (dL (dO (bE GI W (aG (cO c0 (pv 0) aQ Ig) aF)))))))) (aV (aY jJ)) bZ) (aV (aY (dX (bE GW J (aG (cO c0 (pv 0) aQ Ig) (aG aQ (aG (dE (v:=.int 1000000000) (by rfl) hpence ⟨_,rfl⟩) aF)))) (f9 (bE GW J (aG (cO c0 (pv 0) aQ Ig) (aG aQ (aG (dE (v:=.int 1000000) (by rfl) hspades ⟨_,rfl⟩) aF)))))))),?_⟩;cases hx with
  | @tup a xs _ e hl r=>
   have ac:=r.len;refine⟨_,rfl,a,xs,rfl,.inr (bF e),rfl,_,rfl,?_⟩;by_cases hn:xs.length=4
   ·rw[Ic (show V.int (xs.length:Int)=V.int 4 by rw[hn];rfl)];refine dB ?_
    match xs,ds,hn,r with
    | [x1,x2,x3,x4],[d1,d2,d3,d4],_,.cons r1 (.cons r2 (.cons r3 (.cons r4 (.nil))))=>
     have O:∀ H',bS H H'→Q (.bl (cE d1 && dD 0 9999999 d2 && dD 0 1000000000 d3 && dD 0 1000000 d4)) H':=k;have s0:=bS.refl H;refine⟨_,rfl,a,_,0,_,rfl,rfl,bF (s0 _ _ e),rfl,m,x1,d1,rfl,(r1.same s0),fun H1 z1=>⟨_,rfl,?_⟩⟩;have B:=s0.trans z1;cases M:(cE d1)with
     | false=>
      have q:=O H1 B;rw[M]at q;simp only[C7]at q;refine dJ ?_;exact q
     | true=>
      refine dB ?_;refine⟨_,rfl,a,_,1,_,rfl,rfl,bF (B _ _ e),rfl,m,x2,d2,rfl,(r2.same B),_,rfl,?_⟩;cases U:(dD 0 9999999 d2)with
      | false=>
       have q:=O H1 B;rw[M,A8,U]at q;simp only[C7]at q;refine dJ ?_;exact q
      | true=>
       refine dB ?_;refine⟨_,rfl,a,_,2,_,rfl,rfl,bF (B _ _ e),rfl,m,x3,d3,0,1000000000,rfl,(r3.same B),_,rfl,?_⟩;cases g2:(dD 0 1000000000 d3)with
       | false=>
        have q:=O H1 B;rw[M,A8,U,A8,g2]at q;simp only[C7]at q;refine dB ?_;exact q
       | true=>
        refine dJ ?_;have q:=O H1 B;rw[M,A8,U,A8,g2,A8]at q;exact⟨_,rfl,a,_,3,_,rfl,rfl,bF (B _ _ e),rfl,m,x4,d4,0,1000000,rfl,(r4.same B),q⟩
   ·rw[decide_eq_false (show¬ V.int (xs.length:Int)=V.int 4 from fun z=>hn (by injection z with z;omega))];refine dJ ?_;rw[aBC (by omega)]at k;exact k H (bS.refl H)
def lE(ds:List Aj):Bool:=decide (ds.length=2) && ds.all cE
def qY:List Aj→Bool
 | [.str a,.str b]=>cA a && cA b && !decide (a=b)
 | _=>false
theorem aAB{ds:List Aj}(h:¬ (ds.length=2∧ds.all cE=true)):qY ds=false:=by
 unfold qY;split
 ·rename_i a b;have:¬ (cA a=true∧cA b=true):=fun z=>h ⟨rfl,by simp[cE,z.1,z.2]⟩;cases ha:cA a <;> cases q:cA b <;> simp_all
 ·rfl
theorem aIf{ds:List Aj}(h:ds.length=2)(g:ds.all cE=true):∃ a b,ds=[.str a,.str b]∧cA a=true∧cA b=true:=by
 match ds,h with
 | [d1,d2],_=>
  simp only[Cw,List.all_nil,Bool.and_true,AF]at g;obtain⟨g1,g2⟩:=g;obtain⟨a,rfl,ha⟩:∃ a,d1=.str a∧cA a=true:=by
   cases d1 with
   | str a=>exact⟨a,rfl,g1⟩
   | _=>simp[cE]at g1
  obtain⟨b,rfl,hb⟩:∃ b,d2=.str b∧cA b=true:=by
   cases d2 with
   | str a=>exact⟨a,rfl,g2⟩
   | _=>simp[cE]at g2
  exact⟨a,b,rfl,ha,hb⟩
theorem aBF:bV ["rest"] ["rest"] (aO i0):=⟨rfl,rfl,rfl,by decide,rfl,by decide,by decide⟩
theorem aAC{f:Ah}{fd:AK}(F:Fun K "fits_forfeit" "fits_forfeit" i0 f fd)(T:Txt K mg)
  (M:Cl P w K mg base 2 "all_names" ["thing"] uX):
  cQ P w K mg base CX0 6 f fd ["rest"] (eZ lE):=by
 refine F.ok aBF (fun vs H Q E h=>?_) (fun O A outer s H vs Q E U h=>?_)
 ·obtain⟨m,x,d,rfl,_⟩:=h;rfl
 ·obtain⟨m,x,ds,rfl,hx,k⟩:=h;have B:cS 2 _:=U.mono (by decide);refine⟨_,aV (aY (dX (f7 eI (aW bC (by rfl) T.len AN (aG (pv 0) aF)) aQ (cI _)) (f9 (bE M B (aG (pv 0) aF))))),?_⟩;have q:=hx;cases hx with
  | @tup a xs _ e W r=>
   have J:=r.len;refine⟨_,rfl,a,xs,rfl,.inr (bF e),rfl,_,rfl,?_⟩;unfold lE at k;by_cases hn:xs.length=2
   ·rw[Ic (show V.int (xs.length:Int)=V.int 2 by rw[hn];rfl)];refine dJ ?_;rw[Ic (show ds.length=2 by omega),A8]at k;exact⟨_,rfl,m,_,_,rfl,q,k⟩
   ·rw[decide_eq_false (show¬ V.int (xs.length:Int)=V.int 2 from fun z=>hn (by injection z with z;omega))];refine dB ?_;rw[decide_eq_false (show¬ ds.length=2 by omega)]at k;exact k H (bS.refl H)
theorem aGD:bV ["rest"] ["rest"] (aO qG):=⟨rfl,rfl,rfl,by decide,rfl,by decide,by decide⟩
theorem aFi{f:Ah}{fd:AK}(F:Fun K "fits_mend" "fits_mend" qG f fd)(T:Txt K mg)
  (U:Cl P w K mg base 2 "all_names" ["thing"] uX):
  cQ P w K mg base CX0 6 f fd ["rest"] (eZ qY):=by
 refine F.ok aGD (fun vs H Q E h=>?_) (fun W A outer s H vs Q E Y h=>?_)
 ·obtain⟨m,x,d,rfl,_⟩:=h;rfl
 ·obtain⟨m,x,ds,rfl,hx,k⟩:=h;have M:cS 2 _:=Y.mono (by decide);refine⟨_,aV (aY (dX (f7 eI (aW bC (by rfl) T.len AN (aG (pv 0) aF)) aQ (cI _)) (dX (bE U M (aG (pv 0) aF)) (f9 (f7 sV (cO c0 (pv 0) aQ Ig) (cO c0 (pv 0) aQ Ig) (cI _)))))),?_⟩;have J:=hx;cases hx with
  | @tup a xs _ e hl r=>
   have O:=r.len;refine⟨_,rfl,a,xs,rfl,.inr (bF e),rfl,_,rfl,?_⟩;by_cases hn:xs.length=2
   ·rw[Ic (show V.int (xs.length:Int)=V.int 2 by rw[hn];rfl)];refine dJ ?_;refine⟨_,rfl,m,_,_,rfl,J,fun H1 B=>⟨_,rfl,?_⟩⟩;show if ds.all cE=true then _ else _
    refine dS (fun g=>?_) (fun g=>?_)
    ·obtain⟨z1,z2,rfl,h1,h2⟩:=aIf (by omega) g;cases r with
     | cons r1 r=>
      cases r with
      | cons Z r=>
       cases r;cases r1;cases Z;refine⟨_,rfl,a,_,0,_,rfl,rfl,bF (B _ _ e),rfl,_,rfl,a,_,1,_,rfl,rfl,bF (B _ _ e),rfl,rfl,?_⟩;have q:=k H1 B;have ef:qY [.str z1,.str z2]=!decide (V.str z1=V.str z2):=by
        show(cA z1 && cA z2 && !decide (z1=z2))=_;rw[h1,h2];by_cases hz:z1=z2
        ·subst hz;simp
        ·rw[decide_eq_false hz,decide_eq_false (fun e=>hz (by injection e))];rfl
       rw[ef]at q;exact q
    ·rw[aAB fun z=>g z.2]at k;exact k H1 B
   ·rw[decide_eq_false (show¬ V.int (xs.length:Int)=V.int 2 from fun z=>hn (by injection z with z;omega))];refine dB ?_;rw[aAB fun z=>hn (by omega)]at k;exact k H (bS.refl H)
def d9(ss:List Str):Bool:=decide (ss.Pairwise fun a b=>a.cps.toList < b.cps.toList)
def aAD:Aj→Str | .str z=>z | _=>Bs ""
def c3:Aj→Str
 | .tuple (.str z :: _)=>z
 | _=>Bs ""
def aCA:Aj→Bool
 | .tuple ds=>ds.all fY && decide (2≤ds.length∧ds.length≤6) && d9 (ds.map c3)
 | _=>false
def aAE:Aj→Bool
 | .tuple ds=>ds.all cE && decide (2≤ds.length∧ds.length≤6) && d9 (ds.map aAD)
 | _=>false
inductive uY(vs:List V)(H:Hp)(Q:VK)(u3_:XK):Prop
 | mk (a:Ah) (ss:List Str) (q0:vs=[.ref a]) (q1:(H a=some (.lst (ss.map V.str))∨H a=some (.tup (ss.map V.str)))) (q2:ss.length≤6) (q3:∀ H',bS H H'→Q (.bl (d9 ss)) H'):uY vs H Q u3_
def uZ:Sp:=fun vs H Q u3_=>uY vs H Q u3_
inductive aAF(vs:List V)(H:Hp)(Q:VK)(u3_:XK):Prop
 | mk (m:Bool) (x:V) (d:Aj) (q0:vs=[x]) (q1:RdV m H x d) (q2:∀ H',bS H H'→Q (.bl (aCA d)) H'):aAF vs H Q u3_
def aFj:Sp:=fun vs H Q u3_=>aAF vs H Q u3_
inductive aAG(vs:List V)(H:Hp)(Q:VK)(u3_:XK):Prop
 | mk (m:Bool) (x:V) (d:Aj) (q0:vs=[x]) (q1:RdV m H x d) (q2:∀ H',bS H H'→Q (.bl (aAE d)) H'):aAG vs H Q u3_
def aFk:Sp:=fun vs H Q u3_=>aAG vs H Q u3_
theorem u7{m:Bool}{H:Hp}:∀{xs:List V}{ds:List Aj},cY m H xs ds→ds.all cE=true→xs=(ds.map aAD).map V.str
 | _,_,.nil,_=>rfl
 | _,_,.cons (d:=d) r rs,h=>by
  rw[Cw,AF]at h;have q:=u7 rs h.2;cases d with
  | str z=>
   cases r;rw[q];rfl
  | _=>simp[cE]at h
theorem aIg:bV ["thing"] ["thing"] (aO iZ):=⟨rfl,rfl,rfl,by decide,rfl,by decide,by decide⟩
theorem aGE{f:Ah}{fd:AK}(F:Fun K "are_lands" "are_lands" iZ f fd)(T:Txt K mg)
  (GA:Cl P w K mg base 2 "all_names" ["thing"] uX)
  (GR:Cl P w K mg base 1 "is_rising" ["things"] uZ):
  cQ P w K mg base CX0 5 f fd ["thing"] aFk:=by
 refine F.ok aIg (fun vs H Q E h=>?_) (fun af A outer s H vs Q E hr h=>?_)
 ·obtain⟨m,x,d,rfl,_⟩:=h;rfl
 ·obtain⟨m,x,d,rfl,hx,k⟩:=h;have Y:cS 1 _:=hr.mono (by decide);have aa:cS 2 _:=hr.mono (by decide);obtain⟨tf,hfew⟩:=T.fewest;obtain⟨tm,hmost⟩:=T.most;refine⟨_,aV (aY (dX (bE GA aa (aG (pv 0) aF)) (dX (sW nX nX (dE (v:=.int 2) (by rfl) hfew ⟨_,rfl⟩) (aW bC (by rfl) T.len AN (aG (pv 0) aF)) (dE (v:=.int 6) (by rfl) hmost ⟨_,rfl⟩)) (f9 (bE GR Y (aG (pv 0) aF)))))),_,rfl,m,x,d,rfl,hx,fun H1 B=>⟨_,rfl,?_⟩⟩;refine dS (fun g=>?_) (fun g=>?_)
  ·obtain⟨ds,rfl⟩:∃ ds,d=.tuple ds:=by
    cases d with
    | tuple z=>exact⟨z,rfl⟩
    | _=>simp[yO]at g
   have M:ds.all cE=true:=g;cases hx with
   | @tup a xs _ e hl r=>
    have ad:=r.len;have k':∀ H',bS H H'→Q (.bl (decide (2≤ds.length∧ds.length≤6) && d9 (ds.map aAD))) H':=fun H' s'=>by
     have q:Q (.bl (ds.all cE && decide (2≤ds.length∧ds.length≤6) && d9 (ds.map aAD))) H':=k H' s';rw[M,A8]at q;exact q
    have J:¬ (2≤ds.length∧ds.length≤6)→Q (.bl false) H1:=fun h=>by
     have q:=k' H1 B;rw[decide_eq_false h]at q;exact q
    refine⟨_,rfl,a,xs,rfl,.inr (bF (B _ _ e)),_,_,rfl,rfl,_,rfl,dS (fun O=>?_) (fun O=>?_)⟩
    ·have W:(2:Int)≤xs.length:=Ie O;refine⟨_,_,rfl,rfl,_,rfl,dS (fun Z=>?_) (fun Z=>?_)⟩
     ·have U:(xs.length:Int)≤6:=Ie Z;refine⟨_,rfl,a,ds.map aAD,rfl,.inr ?_,by rw[Ad];omega,fun H2 s2=>?_⟩
      ·rw[← u7 r M];exact B _ _ e
      ·have q:=k' H2 (B.trans s2);rw[Ic (by omega),A8]at q;exact q
     ·have U:¬ (xs.length:Int)≤6:=fun z=>Z (Ic z);exact J (by omega)
    ·have W:¬ (2:Int)≤xs.length:=fun z=>O (Ic z);refine⟨_,rfl,dB ?_⟩;exact J (by omega)
  ·have M:yO d=false:=by simpa using g
   have e:aAE d=false:=by
    cases d with
    | tuple ds=>
     have z:ds.all cE=false:=M;show(ds.all cE && decide (2≤ds.length∧ds.length≤6) && d9 (ds.map aAD))=false;rw[z];rfl
    | _=>rfl
   rw[e]at k;exact k H1 B
theorem aIh:bV ["thing"] ["thing"] (aO hZ):=⟨rfl,rfl,rfl,by decide,rfl,by decide,by decide⟩
theorem aDM{m:Bool}{H:Hp}{x:V}{d:Aj}(r:RdV m H x d)(h:fY d=true):∃ a xs,x=.ref a∧H a=some (.tup xs)∧atI xs 0=some (V.str (c3 d)):=by
 cases d with
 | tuple ds=>
  cases r with
  | @tup a xs _ e _ r=>
   cases r with
   | nil=>simp[fY]at h
   | @cons F d1 _ _ B rs=>
    have hn:cE d1=true:=by
     unfold fY at h;split at h
     ·rename_i q;cases q;simp only[AF]at h;exact h.1.1
     ·cases h
    cases d1 with
    | str z=>
     cases B;refine⟨a,_,rfl,e,?_⟩;unfold atI ixN;rw[Ib (by decide),Ib (by rw[A6];omega)];rfl
    | _=>simp[cE]at hn
 | _=>simp[fY]at h
theorem aGF{f:Ah}{fd:AK}(F:Fun K "are_parts" "are_parts" hZ f fd)(T:Txt K mg)
  (GA:Cl P w K mg base 4 "all_parts" ["thing"] aBB)
  (GR:Cl P w K mg base 1 "is_rising" ["things"] uZ):
  cQ P w K mg base CX0 5 f fd ["thing"] aFj:=by
 refine F.ok aIh (fun vs H Q E h=>?_) (fun af A outer s H vs Q E Y h=>?_)
 ·obtain⟨m,x,d,rfl,_⟩:=h;rfl
 ·obtain⟨m,x,d,rfl,hx,k⟩:=h;have W:cS 1 _:=Y.mono (by decide);obtain⟨tf,hfew⟩:=T.fewest;obtain⟨tm,hmost⟩:=T.most;refine⟨_,aH (c6 (PW.pt (gX (dL (dO (bE GA Y (aG (pv 0) aF)))) (fI (dL (sZ nX nX (dE (v:=.int 2) (by rfl) hfew ⟨_,rfl⟩) (aW bC (by rfl) T.len AN (aG (pv 0) aF)) (dE (v:=.int 6) (by rfl) hmost ⟨_,rfl⟩)))))) (aV (aY jJ)) bZ)
   (aV (aY (bE GR W (aG (eJ (N:=["part"]) (src:=[none]) (osc:=aO hZ) (oN:=["thing"]) ⟨by rfl,by decide,by decide,by decide,rfl,by rfl⟩ (iL (pv 0))
     fun cl s H fp dt C=>⟨bH (i:=0) (show(["part"]:List Str).Nodup by decide) rfl (AE rfl),dZ,cO (r:=tF K) c0 (pv 0) aQ Ig⟩) aF)))),?_⟩
  refine⟨_,rfl,m,x,d,rfl,hx,fun H1 B=>⟨_,rfl,?_⟩⟩;cases g:yP d with
  | false=>
   refine dJ ?_;have e:aCA d=false:=by
    cases d with
    | tuple ds=>
     have z:ds.all fY=false:=g;show(ds.all fY && decide (2≤ds.length∧ds.length≤6) && d9 (ds.map c3))=false;rw[z];rfl
    | _=>rfl
   rw[e]at k;exact k H1 B
  | true=>
   refine dB ?_;obtain⟨ds,rfl⟩:∃ ds,d=.tuple ds:=by
    cases d with
    | tuple z=>exact⟨z,rfl⟩
    | _=>simp[yP]at g
   have g':ds.all fY=true:=g;cases hx with
   | @tup a xs _ e hl r=>
    have aa:=r.len;have Z:∀ H',bS H H'→Q (.bl (decide (2≤ds.length∧ds.length≤6) && d9 (ds.map c3))) H':=fun H' s'=>by
     have q:Q (.bl (ds.all fY && decide (2≤ds.length∧ds.length≤6) && d9 (ds.map c3))) H':=k H' s';rw[g',A8]at q;exact q
    have J:¬ (2≤ds.length∧ds.length≤6)→Q (.bl false) H1:=fun h=>by
     have q:=Z H1 B;rw[decide_eq_false h]at q;exact q
    refine⟨_,rfl,a,xs,rfl,.inr (bF (B _ _ e)),_,_,rfl,rfl,_,rfl,dS (fun M=>?_) (fun M=>?_)⟩
    ·have O:(2:Int)≤xs.length:=Ie M;refine⟨_,_,rfl,rfl,_,rfl,?_⟩;by_cases g2:(xs.length:Int)≤6
     ·rw[Ic g2];refine dB ?_;refine⟨_,rfl,a,rfl,⟨xs,bF (B _ _ e)⟩,?_⟩;refine gQ (xs:=xs) (fun i ys σ H'=>bS H1 H'∧ys=((ds.take i).map fun d=>V.str (c3 d))∧∃ o,σ=[o]) ⟨bS.refl H1,rfl,none,rfl⟩ (aS (by omega)) (fun i ys σ H' p=>by rw[p.2.1,Ad,A5];omega) (fun i ys σ H' p=>bF (p.1 _ _ (B _ _ e))) ?_ ?_
      ·rintro i y ys σ H' hy ⟨S,rfl,o,rfl⟩;dsimp only[dI];obtain⟨d',hd',r'⟩:=r.at hy;obtain⟨b,zs,rfl,hb,hat⟩:=aDM ((r'.same B).same S) (Be.mp g' d' (AR hd'));refine dJ ?_;refine⟨_,rfl,b,zs,0,_,rfl,rfl,bF hb,hat,S,?_,_,rfl⟩;rw[Bl,hd',AQ];rfl
      ·rintro ys σ H2 ⟨S,rfl,o,rfl⟩ D hD;have U:Ds xs.length ds=ds:=Bu (by omega);rw[U];have S1:=S.trans (aU (o:=.lst (ds.map fun d=>V.str (c3 d))) hD);refine⟨D,ds.map c3,rfl,.inl (by rw[aM,Ck];rfl),by rw[Ad];omega,fun H3 s3=>?_⟩;have q:=Z H3 ((B.trans S1).trans s3);rw[Ic (by omega),A8]at q;exact q
     ·rw[decide_eq_false g2];refine dJ ?_;exact J (by omega)
    ·have O:¬ (2:Int)≤xs.length:=fun z=>M (Ic z);refine⟨_,rfl,dJ ?_⟩;exact J (by omega)
def aAH:List Aj→Bool
 | [d1,d2]=>cE d1 && aCA d2
 | _=>false
def xA:List Aj→Bool
 | [d1,d2]=>aAE d1 && cE d2
 | _=>false
theorem aFl{ds:List Aj}(h:ds.length≠2):aAH ds=false:=by
 match ds,h with
 | [],_=>rfl
 | [_],_=>rfl
 | [_,_],z=>exact absurd rfl z
 | _ :: _ :: _ :: _,_=>rfl
theorem aFm{ds:List Aj}(h:ds.length≠2):xA ds=false:=by
 match ds,h with
 | [],_=>rfl
 | [_],_=>rfl
 | [_,_],z=>exact absurd rfl z
 | _ :: _ :: _ :: _,_=>rfl
theorem aGG:bV ["rest"] ["rest"] (aO qE):=⟨rfl,rfl,rfl,by decide,rfl,by decide,by decide⟩
theorem aFn{f:Ah}{fd:AK}(F:Fun K "fits_part" "fits_part" qE f fd)(T:Txt K mg)
  (GN:Cl P w K mg base 1 "is_name" ["thing"] jF)
  (W:Cl P w K mg base 5 "are_parts" ["thing"] aFj):
  cQ P w K mg base CX0 6 f fd ["rest"] (eZ aAH):=by
 refine F.ok aGG (fun vs H Q E h=>?_) (fun Y A outer s H vs Q E M h=>?_)
 ·obtain⟨m,x,d,rfl,_⟩:=h;rfl
 ·obtain⟨m,x,ds,rfl,hx,k⟩:=h;have J:cS 1 _:=M.mono (by decide);refine⟨_,aV (aY (dX (f7 eI (aW bC (by rfl) T.len AN (aG (pv 0) aF)) aQ (cI _)) (dX (bE GN J (aG (cO c0 (pv 0) aQ Ig) aF)) (f9 (bE W M (aG (cO c0 (pv 0) aQ Ig) aF)))))),?_⟩;cases hx with
  | @tup a xs _ e hl r=>
   have U:=r.len;refine⟨_,rfl,a,xs,rfl,.inr (bF e),rfl,_,rfl,?_⟩;by_cases hn:xs.length=2
   ·rw[Ic (show V.int (xs.length:Int)=V.int 2 by rw[hn];rfl)];refine dJ ?_
    match xs,ds,hn,r with
    | [x1,x2],[d1,d2],_,.cons r1 (.cons r2 .nil)=>
     have O:∀ H',bS H H'→Q (.bl (cE d1 && aCA d2)) H':=k;refine⟨_,rfl,a,_,0,_,rfl,rfl,bF e,rfl,m,x1,d1,rfl,r1,fun H1 B=>⟨_,rfl,?_⟩⟩;refine dS (fun g=>?_) (fun g=>?_)
     ·refine⟨_,rfl,a,_,1,_,rfl,rfl,bF (B _ _ e),rfl,m,x2,d2,rfl,r2.same B,fun H2 Z=>?_⟩;have q:=O H2 (B.trans Z);rw[g,A8]at q;exact q
     ·have q:=O H1 B;rw[(by simpa using g:cE d1=false)]at q;exact q
   ·rw[decide_eq_false (show¬ V.int (xs.length:Int)=V.int 2 from fun z=>hn (by injection z with z;omega))];refine dB ?_;rw[aFl (by omega)]at k;exact k H (bS.refl H)
theorem aGH:bV ["rest"] ["rest"] (aO qF):=⟨rfl,rfl,rfl,by decide,rfl,by decide,by decide⟩
theorem aFo{f:Ah}{fd:AK}(F:Fun K "fits_join" "fits_join" qF f fd)(T:Txt K mg)
  (GN:Cl P w K mg base 1 "is_name" ["thing"] jF)
  (W:Cl P w K mg base 5 "are_lands" ["thing"] aFk):
  cQ P w K mg base CX0 6 f fd ["rest"] (eZ xA):=by
 refine F.ok aGH (fun vs H Q E h=>?_) (fun Y A outer s H vs Q E M h=>?_)
 ·obtain⟨m,x,d,rfl,_⟩:=h;rfl
 ·obtain⟨m,x,ds,rfl,hx,k⟩:=h;have J:cS 1 _:=M.mono (by decide);refine⟨_,aV (aY (dX (f7 eI (aW bC (by rfl) T.len AN (aG (pv 0) aF)) aQ (cI _)) (dX (bE W M (aG (cO c0 (pv 0) aQ Ig) aF)) (f9 (bE GN J (aG (cO c0 (pv 0) aQ Ig) aF)))))),?_⟩;cases hx with
  | @tup a xs _ e hl r=>
   have U:=r.len;refine⟨_,rfl,a,xs,rfl,.inr (bF e),rfl,_,rfl,?_⟩;by_cases hn:xs.length=2
   ·rw[Ic (show V.int (xs.length:Int)=V.int 2 by rw[hn];rfl)];refine dJ ?_
    match xs,ds,hn,r with
    | [x1,x2],[d1,d2],_,.cons r1 (.cons r2 .nil)=>
     have O:∀ H',bS H H'→Q (.bl (aAE d1 && cE d2)) H':=k;refine⟨_,rfl,a,_,0,_,rfl,rfl,bF e,rfl,m,x1,d1,rfl,r1,fun H1 B=>⟨_,rfl,?_⟩⟩;refine dS (fun g=>?_) (fun g=>?_)
     ·refine⟨_,rfl,a,_,1,_,rfl,rfl,bF (B _ _ e),rfl,m,x2,d2,rfl,r2.same B,fun H2 Z=>?_⟩;have q:=O H2 (B.trans Z);rw[g,A8]at q;exact q
     ·have q:=O H1 B;rw[(by simpa using g:aAE d1=false)]at q;exact q
   ·rw[decide_eq_false (show¬ V.int (xs.length:Int)=V.int 2 from fun z=>hn (by injection z with z;omega))];refine dB ?_;rw[aFm (by omega)]at k;exact k H (bS.refl H)
def eU:List Str:=["part","join","forfeit","measure","mend","alone","breach","view"]
def fG(kind:Str)(ds:List Aj):Bool:=
 if kind="part" then aAH ds else if kind="join" then xA ds else if kind="forfeit" then lE ds else if kind="measure" then lC ds else if kind="mend" then qY ds else if kind="alone" then qO ds else if kind="breach" then nU ds else w9 ds
def rowD:Aj→Bool
 | .tuple (.str kind :: name :: day :: cM)=>decide (kind∈eU) && (cE name && (dD 0 9999 day && fG kind cM))
 | _=>false
inductive xB(vs:List V)(H:Hp)(Q:VK)(u3_:XK):Prop
 | mk (m:Bool) (x:V) (d:Aj) (q0:vs=[x]) (q1:RdV m H x d) (q2:∀ H',bS H H'→Q (.bl (rowD d)) H'):xB vs H Q u3_
def aCB:Sp:=fun vs H Q u3_=>xB vs H Q u3_
theorem aBG{ds:List Aj}(h:ds.length < 3):rowD (.tuple ds)=false:=by
 match ds,h with
 | [],_=>rfl
 | [d],_=>cases d <;> rfl
 | [d,_],_=>cases d <;> rfl
theorem aDN{d1 B q:Aj}{ds:List Aj}(h:w5 d1=false):rowD (.tuple (d1 :: B :: q :: ds))=false:=by
 cases d1 with
 | str z=>simp[w5]at h
 | _=>rfl
theorem pL:bV ["thing","kind","name","day","fits"] ["thing"] (aO qI):=⟨rfl,rfl,rfl,by decide,rfl,by decide,by decide⟩
theorem aFp{f ra:Ah}{fd:AK}{W:List (Key×Ac)}{fc:List (Key×V)}(F:Fun K "is_row" "is_row" qI f fd)(T:Txt K mg)
  (aa:∀ h:Bm,K.In h→h.DictOf (c8 P w) ra W) (rel:KV fc W) (hz:(ra == sysModules)=false) (mF:mg "FORMS"=some (.ref ra))
  (Y:∀ kind:Str,(fF fc (Au kind)).isSome=decide (kind∈eU))
  (ak:∀(kind:Str) (v:V),fF fc (Au kind)=some v→∃(a:Ah) (fd:AK),v=.ref a∧cQ P w K mg base CX0 6 a fd ["rest"] (eZ (fG kind))∧Al K (.ref a)=true∧dY K fd ["rest"] [])
  (GN:Cl P w K mg base 1 "is_name" ["thing"] jF)
  (GW:Cl P w K mg base 2 "is_whole" ["thing","least","most"] lZ):
  cQ P w K mg base CX0 7 f fd ["thing"] aCB:=by
 refine F.ok pL (fun vs H Q E h=>?_) (fun ax A outer s H vs Q E hr h=>?_)
 ·obtain⟨m,x,d,rfl,_⟩:=h;rfl
 ·obtain⟨m,x,d,rfl,hx,k⟩:=h;have ag:cS 1 _:=hr.mono (by decide);have ai:cS 2 _:=hr.mono (by decide);obtain⟨tl,hlast⟩:=T.lastDay;refine⟨_,aH (c6 (PW.pt (gX (dL (dO (aW dQ (by rfl) T.isi (by kernel_rfl) (aG (pv 0) (aG (dM (v:=.ty "tuple") (by rfl) T.tuple (by kernel_rfl) rfl) aF)))))
    (fI (bY aGW (aW bC (by rfl) T.len AN (aG (pv 0) aF)) aQ (cI _))))) (aV (aY jJ)) bZ)
   (aH (i5 (f6 aCh (pv 0) iF (iG aQ)) (jV rfl (cH (bH (i:=1) pL.nd rfl (AE rfl)) (cH (bH (i:=2) pL.nd rfl (AE rfl)) (cH (bH (i:=3) pL.nd rfl (AE rfl)) iE)))))
   (aH (c6 (PW.pt (gX (dL (dO (aW dQ (by rfl) T.isi (by kernel_rfl) (aG (pv 1) (aG (dM (v:=.ty "str") (by rfl) T.str (by kernel_rfl) rfl) aF)))))
    (fI (bY (aDn aa rel hz) (pv 1) (dE (v:=.ref ra) (by rfl) mF rfl) (by with_unfolding_all rfl))))) (aV (aY jJ)) bZ)
   (aH (c6 (PW.pt (gX (dL (dO (bE GN ag (aG (pv 2) aF)))) (fI (dL (dO (bE GW ai (aG (pv 3) (aG aQ (aG (dE (v:=.int 9999) (by rfl) hlast ⟨_,rfl⟩) aF))))))))) (aV (aY jJ)) bZ)
   (aH (bJ (i:=4) pL.nd rfl (AE rfl) (aCi aa rel (by rfl) mF (pv 1) Ig))
   (aV (aY (aED (k:=6) (ps:=["rest"]) (pv 4) hr (aG (f6 aCh (pv 0) (iG aQ) iF) aF)))))))),?_⟩
  refine⟨_,rfl,_,"tuple",_,_,rfl,mG hx,jR d,_,rfl,?_⟩;cases hd:gN d with
  | false=>
   have e:rowD d=false:=by
    cases d with
    | tuple ds=>simp[gN]at hd
    | _=>rfl
   rw[e]at k;exact k H (bS.refl H)
  | true=>
   obtain⟨ds,rfl⟩:∃ ds,d=.tuple ds:=by
    cases d with
    | tuple z=>exact⟨z,rfl⟩
    | _=>simp[gN]at hd
   cases hx with
   | @tup a xs _ e hl r=>
    have aq:=r.len;refine dB ?_;refine⟨_,rfl,a,xs,rfl,.inr (bF e),_,_,rfl,rfl,_,rfl,?_⟩;by_cases hn:(xs.length:Int) < 3
    ·rw[Ic hn];refine dJ ?_;rw[aBG (by omega)]at k;exact k H (bS.refl H)
    ·rw[decide_eq_false hn];refine dB ?_;obtain⟨x1,M,O,B,rfl⟩:∃ x1 M O B,xs=x1 :: M :: O :: B:=by
      match xs,hn with
      | [],z=>exact absurd (by decide) z
      | [_],z=>exact absurd (show(1:Int) < 3 by decide) z
      | [_,_],z=>exact absurd (show(2:Int) < 3 by decide) z
      | a :: b :: c :: r,_=>exact⟨a,b,c,r,rfl⟩
     cases r with
     | @cons _ d1 _ _ r1 r=>
     cases r with
     | @cons _ d2 _ _ r2 r=>
     cases r with
     | @cons _ d3 _ ds ah rr=>
     refine⟨_,rfl,_,rfl,a,_,rfl,e,fun t H1 U ht=>?_⟩;have ec:jI (x1 :: M :: O :: B) none (some 3)=[x1,M,O]:=aEz (α:=Nat) (x1 :: M :: O :: B) 3;rw[ec]at ht;refine⟨t,_,rfl,bF ht,rfl,_,_,rfl,_,_,rfl,_,_,rfl,rfl,_,rfl,_,"str",_,_,rfl,mG (r1.same U),aCz d1,_,rfl,?_⟩;cases hk:w5 d1 with
     | false=>
      rw[aDN hk]at k;exact k H1 U
     | true=>
      obtain⟨kind,rfl⟩:∃ z,d1=.str z:=by
       cases d1 with
       | str z=>exact⟨z,rfl⟩
       | _=>simp[w5]at hk
      cases r1;refine dB ?_;refine⟨_,rfl,Au kind,rfl,rfl,_,rfl,?_⟩;rw[Y kind];have Z:∀ H',bS H H'→Q (.bl (decide (kind∈eU) && (cE d2 && (dD 0 9999 d3 && fG kind ds)))) H':=k;by_cases hw:kind∈eU
      ·rw[Ic hw];refine dB ?_;rw[Ic hw,A8]at Z;refine⟨_,rfl,m,M,d2,rfl,r2.same U,fun H2 s2=>⟨_,rfl,?_⟩⟩;have J:=U.trans s2;cases g:cE d2 with
       | false=>
        refine dJ ?_;have q:=Z H2 J;rw[g]at q;exact q
       | true=>
        refine dB ?_;refine⟨_,rfl,m,O,d3,0,9999,rfl,ah.same J,_,rfl,?_⟩;cases g2:dD 0 9999 d3 with
        | false=>
         refine dJ ?_;have q:=Z H2 J;rw[g,g2]at q;exact q
        | true=>
         refine dB ?_;have hs:=Y kind;rw[Ic hw]at hs;obtain⟨v,hv⟩:=Option.isSome_iff_exists.mp hs;obtain⟨fa,fda,rfl,FG,fk,fb⟩:=ak kind v hv;refine⟨_,rfl,Au kind,_,rfl,hv,_,rfl,fa,eZ (fG kind),rfl,⟨fda,FG,fk,fb⟩,_,rfl,_,rfl,a,_,rfl,J _ _ e,fun t2 H3 s3 ab=>?_⟩;have ed:jI (V.str kind :: M :: O :: B) (some 3) none=B:=aEA (α:=Nat) (V.str kind :: M :: O :: B) 3;rw[ed]at ab;refine⟨m,_,ds,rfl,.tup ab (by simp only[A6]at hl;omega) ((rr.same J).same s3),fun H4 s4=>?_⟩;have q:=Z H4 ((J.trans s3).trans s4);rw[g,g2,A8,A8]at q;exact q
      ·rw[decide_eq_false hw];refine dJ ?_;have q:=Z H1 U;rw[decide_eq_false hw]at q;exact q
inductive qZ(vs:List V)(H:Hp)(Q:VK)(u3_:XK):Prop
 | mk (t:Ah) (word:Str) (x1 x2 x3:V) (cM:List V) (q0:vs=[.ref t]) (q1:H t=some (.tup (.str word :: x1 :: x2 :: x3 :: cM))) (q2:∀ H',bS H H'→Q (if inV (.str word) [V.str "measure",.str "breach",.str "view"]=true then x3 else .non) H'):qZ vs H Q u3_
def xC:Sp:=fun vs H Q u3_=>qZ vs H Q u3_
theorem aDO:bV ["row"] ["row"] (aO kZ):=⟨rfl,rfl,rfl,by decide,rfl,by decide,by decide⟩
theorem aBH{f:Ah}{fd:AK}(F:Fun K "field_of" "field_of" kZ f fd):cQ P w K mg base CX0 1 f fd ["row"] xC:=by
 refine F.ok aDO (fun vs H Q E h=>?_) (fun M A outer s H vs Q E U h=>?_)
 ·obtain⟨t,word,x1,x2,x3,cM,rfl,_⟩:=h;rfl
 ·obtain⟨t,word,x1,x2,x3,cM,rfl,ht,k⟩:=h;refine⟨_,aH (c6 (bY p8 (cO c0 (pv 0) aQ Ig) (c9 (aG cG (aG cG (aG cG aF)))) (by with_unfolding_all rfl)) (aV (aY (cO c0 (pv 0) aQ Ig))) bZ)
   (aV (aY aD3)),?_⟩
  have W:(V.str word :: x1 :: x2 :: x3 :: cM).length=cM.length + 4:=rfl;have O:atI (V.str word :: x1 :: x2 :: x3 :: cM) 0=some (.str word):=fV (j:=0) rfl;have a3:atI (V.str word :: x1 :: x2 :: x3 :: cM) 3=some x3:=fV (j:=3) rfl;refine⟨_,rfl,t,_,0,_,rfl,rfl,bF ht,O,zZ3,fun q J=>?_⟩;have B:=aU (o:=.tup [V.str "measure",.str "breach",.str "view"]) J;refine⟨q,_,rfl,.inr (bF aM),rfl,rfl,_,rfl,?_⟩;have z:=k _ B;rw[Ia AA];refine dS (fun g=>?_) (fun g=>?_)
  ·rw[Ib g]at z;exact⟨_,rfl,t,_,3,_,rfl,rfl,bF (B _ _ ht),a3,z⟩
  ·rw[Ia g]at z;exact z
def aHb:Aj→Bool | .list _=>true | _=>false
def eD:Aj→Bool | .list _=>true | .tuple _=>true | _=>false
theorem aGI{K:Ai}(d:Aj):BW K (.type (tyN d)) (.type "list")=some (aHb d):=by
 cases d <;> dsimp only[tyN,aHb] <;> first | exact mV | exact tZ (by decide) (by decide) (by decide)
theorem pM{K:Ai}(d:Aj):Ei K (.type (tyN d)) [.type "list",.type "tuple"]=some (eD d):=by
 simp only[Ei,aGI,jR];cases d <;> rfl
def eG:Nat→Aj→Aj
 | 0,d=>d
 | n + 1,.list ds=>.tuple (ds.map (eG n))
 | n + 1,.tuple ds=>.tuple (ds.map (eG n))
 | _ + 1,d=>d
inductive aFq(n:Nat)(vs:List V)(H:Hp)(Q:VK)(u3_:XK):Prop
 | mk (m:Bool) (x:V) (d:Aj) (q0:vs=[x,.int n]) (q1:RdV m H x d) (q2:∀ y H',bS H H'→RdV m H' y (eG n d)→Q y H'):aFq n vs H Q u3_
def aFr(n:Nat):Sp:=fun vs H Q u3_=>aFq n vs H Q u3_
theorem aFs{f:Ah}{fd:AK}{k:Nat}{ps:List Str}:cQ P w K mg base CX0 k f fd ps (fun _ _ _ _=>False):=by
 constructor
 ·intro _ _ _ _ h;exact h.elim
 ·intros;contradiction
theorem aJk:bV ["thing","deep"] ["thing","deep"] (aO jB):=⟨rfl,rfl,rfl,by decide,rfl,by decide,by decide⟩
theorem aIi{f:Ah}{fd:AK}(F:Fun K "as_tuples" "as_tuples" jB f fd)(T:Txt K mg)(q:mg "list"=none)(mA:mg "as_tuples"=some (.ref f))(z:Al K (.ref f)=true)(M:dY K fd ["thing","deep"] []):
  cQ P w K mg base CX0 1 f fd ["thing","deep"] (aFr 0):=by
 refine F.ok aJk (fun vs H Q E h=>?_) (fun B A outer s H vs Q E J h=>?_)
 ·obtain⟨m,x,d,rfl,_⟩:=h;rfl
 ·obtain⟨m,x,d,rfl,hx,k⟩:=h;have G:cQ P w K mg base CX0 0 f fd ["thing","deep"] (fun _ _ _ _=>False):=aFs;refine⟨_,aH (c6 (PW.pt (gX (bY eI (pv 1) aQ (cI _)) (fI (dL (dO (aW gR (by rfl) T.isi (by kernel_rfl) (aG (pv 0) (aG (c9 (aG (dM (v:=.ty "list") (by rfl) q (by kernel_rfl) rfl) (aG (dM (v:=.ty "tuple") (by rfl) T.tuple (by kernel_rfl) rfl) aF))) aF)))))))) (aV (aY (pv 0))) bZ)
   (aV (aY (cV cU (by rfl) T.tuple (by kernel_rfl) (aG (eJ (N:=["inner","deep"]) (src:=[none,some 1]) (osc:=aO jB) (oN:=["thing","deep"]) ⟨by rfl,by decide,by decide,by decide,rfl,by rfl⟩ (iL (pv 0))
     fun U s H O dt C=>⟨bH (i:=0) (show(["inner","deep"]:List Str).Nodup by decide) rfl (AE rfl),dZ,eY G J rfl mA z M .nil iP (aG (pv 0) (aG (b8 jW (pv 1) aQ) aF))⟩) aF)))),?_⟩
  refine⟨_,rfl,rfl,_,rfl,?_⟩;rw[Ic (show V.int ((0:Nat):Int)=V.int 0 from rfl)];refine dJ ?_;exact⟨_,rfl,k _ _ (bS.refl H) hx⟩
theorem aBI{f:Ah}{fd:AK}(F:Fun K "as_tuples" "as_tuples" jB f fd)(T:Txt K mg)(B:mg "list"=none)(mA:mg "as_tuples"=some (.ref f))(kA:Al K (.ref f)=true)(bA:dY K fd ["thing","deep"] []){n:Nat}
  (G:cQ P w K mg base CX0 (n + 1) f fd ["thing","deep"] (aFr n)):cQ P w K mg base CX0 (n + 2) f fd ["thing","deep"] (aFr (n + 1)):=by
 refine F.ok aJk (fun vs H Q E h=>?_) (fun an A outer s H vs Q E hr h=>?_)
 ·obtain⟨m,x,d,rfl,_⟩:=h;rfl
 ·obtain⟨m,x,d,rfl,hx,k⟩:=h;by_cases hs:eD d=true
  ·cases d with
   | list ds=>
    cases hx with
    | @lst a xs _ hm e hl r=>
     have aa:=r.len;refine⟨_,aH (c6 (PW.pt (gX (bY eI (pv 1) aQ (cI _)) (fI (dL (dO (aW gR (by rfl) T.isi (by kernel_rfl) (aG (pv 0) (aG (c9 (aG (dM (v:=.ty "list") (by rfl) B (by kernel_rfl) rfl) (aG (dM (v:=.ty "tuple") (by rfl) T.tuple (by kernel_rfl) rfl) aF))) aF)))))))) (aV (aY (pv 0))) bZ)
    (aV (aY (cV cU (by rfl) T.tuple (by kernel_rfl) (aG (eJ (N:=["inner","deep"]) (src:=[none,some 1]) (osc:=aO jB) (oN:=["thing","deep"]) ⟨by rfl,by decide,by decide,by decide,rfl,by rfl⟩ (lH (pv 0))
      fun cl s H fp dt C=>⟨bH (i:=0) (show(["inner","deep"]:List Str).Nodup by decide) rfl (AE rfl),dZ,eY G hr rfl mA kA bA .nil iP (aG (pv 0) (aG (b8 jW (pv 1) aQ) aF))⟩) aF)))),?_⟩
     refine⟨_,rfl,rfl,_,rfl,?_⟩;rw[decide_eq_false (show¬ V.int ((n + 1:Nat):Int)=V.int 0 from fun z=>by injection z with z;omega)];refine dB ?_;refine⟨_,rfl,zZ2,fun q W=>?_⟩;have J:=aU (o:=.tup [V.ty "list",.ty "tuple"]) W;refine⟨_,q,"list","tuple",_,_,rfl,aM,i6.lst (J _ _ e),pM (.list ds),_,rfl,dB ?_⟩;generalize upd H q (.tup [V.ty "list",.ty "tuple"])=H1 at J ⊢;refine⟨_,rfl,a,rfl,⟨xs,bG (J _ _ e)⟩,?_⟩;refine j9 (xs:=xs) (fun i ys σ H'=>bS H H'∧cY m H' ys ((ds.take i).map (eG n))∧∃ o,σ=[o,some (.int ((n + 1:Nat):Int))]) ⟨J,by rw[List.take_zero];exact .nil,none,rfl⟩ (aS (by omega)) (fun i ys σ H' p=>by have:=p.2.1.len;rw[Ad,A5]at this;omega) (fun i ys σ H' p=>bG (p.1 _ _ e)) ?_ ?_
     ·rintro i y ys σ H' hy ⟨S,rd,o,rfl⟩;dsimp only[dI];obtain⟨d',hd',r'⟩:=r.at hy;refine dJ ?_;refine⟨_,rfl,_,rfl,_,_,rfl,rfl,m,y,d',(by show[y,V.int (((n + 1:Nat):Int) - 1)] ++ []=_;rw[show(((n + 1:Nat):Int) - 1)=(n:Int) by omega];rfl),r'.same S,fun y2 H2 Z r2=>⟨S.trans Z,?_,_,rfl⟩⟩;rw[Bl,hd',AQ];exact cY.app (rd.same Z) (.cons r2 .nil)
     ·rintro ys σ H2 ⟨S,rd,o,rfl⟩ D hD;have U:Ds xs.length ds=ds:=Bu (by omega);rw[U]at rd;have sD:=aU (o:=.lst ys) hD;refine⟨D,ys,rfl,.inl ⟨bG aM,fun t ht=>?_⟩⟩;have Y:=aU (o:=.tup ys) ht;have M:=rd.len;rw[Ad]at M;exact k _ _ ((S.trans sD).trans Y) (.tup aM (by omega) ((rd.same sD).same Y))
   | tuple ds=>
    cases hx with
    | @tup a xs _ e hl r=>
     have aa:=r.len;refine⟨_,aH (c6 (PW.pt (gX (bY eI (pv 1) aQ (cI _)) (fI (dL (dO (aW gR (by rfl) T.isi (by kernel_rfl) (aG (pv 0) (aG (c9 (aG (dM (v:=.ty "list") (by rfl) B (by kernel_rfl) rfl) (aG (dM (v:=.ty "tuple") (by rfl) T.tuple (by kernel_rfl) rfl) aF))) aF)))))))) (aV (aY (pv 0))) bZ)
    (aV (aY (cV cU (by rfl) T.tuple (by kernel_rfl) (aG (eJ (N:=["inner","deep"]) (src:=[none,some 1]) (osc:=aO jB) (oN:=["thing","deep"]) ⟨by rfl,by decide,by decide,by decide,rfl,by rfl⟩ (iL (pv 0))
      fun cl s H fp dt C=>⟨bH (i:=0) (show(["inner","deep"]:List Str).Nodup by decide) rfl (AE rfl),dZ,eY G hr rfl mA kA bA .nil iP (aG (pv 0) (aG (b8 jW (pv 1) aQ) aF))⟩) aF)))),?_⟩
     refine⟨_,rfl,rfl,_,rfl,?_⟩;rw[decide_eq_false (show¬ V.int ((n + 1:Nat):Int)=V.int 0 from fun z=>by injection z with z;omega)];refine dB ?_;refine⟨_,rfl,zZ2,fun q W=>?_⟩;have J:=aU (o:=.tup [V.ty "list",.ty "tuple"]) W;refine⟨_,q,"list","tuple",_,_,rfl,aM,i6.tup (J _ _ e),pM (.tuple ds),_,rfl,dB ?_⟩;generalize upd H q (.tup [V.ty "list",.ty "tuple"])=H1 at J ⊢;refine⟨_,rfl,a,rfl,⟨xs,bF (J _ _ e)⟩,?_⟩;refine gQ (xs:=xs) (fun i ys σ H'=>bS H H'∧cY m H' ys ((ds.take i).map (eG n))∧∃ o,σ=[o,some (.int ((n + 1:Nat):Int))]) ⟨J,by rw[List.take_zero];exact .nil,none,rfl⟩ (aS (by omega)) (fun i ys σ H' p=>by have:=p.2.1.len;rw[Ad,A5]at this;omega) (fun i ys σ H' p=>bF (p.1 _ _ e)) ?_ ?_
     ·rintro i y ys σ H' hy ⟨S,rd,o,rfl⟩;dsimp only[dI];obtain⟨d',hd',r'⟩:=r.at hy;refine dJ ?_;refine⟨_,rfl,_,rfl,_,_,rfl,rfl,m,y,d',(by show[y,V.int (((n + 1:Nat):Int) - 1)] ++ []=_;rw[show(((n + 1:Nat):Int) - 1)=(n:Int) by omega];rfl),r'.same S,fun y2 H2 Z r2=>⟨S.trans Z,?_,_,rfl⟩⟩;rw[Bl,hd',AQ];exact cY.app (rd.same Z) (.cons r2 .nil)
     ·rintro ys σ H2 ⟨S,rd,o,rfl⟩ D hD;have U:Ds xs.length ds=ds:=Bu (by omega);rw[U]at rd;have sD:=aU (o:=.lst ys) hD;refine⟨D,ys,rfl,.inl ⟨bG aM,fun t ht=>?_⟩⟩;have Y:=aU (o:=.tup ys) ht;have M:=rd.len;rw[Ad]at M;exact k _ _ ((S.trans sD).trans Y) (.tup aM (by omega) ((rd.same sD).same Y))
   | _=>simp[eD]at hs
  ·have O:eD d=false:=by simpa using hs
   have et:eG (n + 1) d=d:=by
    cases d with
    | list ds=>simp[eD]at O
    | tuple ds=>simp[eD]at O
    | _=>rfl
   rw[et]at k;refine⟨_,aH (c6 (PW.pt (gX (bY eI (pv 1) aQ (cI _)) (fI (dL (dO (aW gR (by rfl) T.isi (by kernel_rfl) (aG (pv 0) (aG (c9 (aG (dM (v:=.ty "list") (by rfl) B (by kernel_rfl) rfl) (aG (dM (v:=.ty "tuple") (by rfl) T.tuple (by kernel_rfl) rfl) aF))) aF)))))))) (aV (aY (pv 0))) bZ)
   (aV (aY (cV cU (by rfl) T.tuple (by kernel_rfl) (aG (eJ (N:=["inner","deep"]) (src:=[none,some 1]) (osc:=aO jB) (oN:=["thing","deep"]) ⟨by rfl,by decide,by decide,by decide,rfl,by rfl⟩ (iL (pv 0))
     fun cl s H fp dt C=>⟨bH (i:=0) (show(["inner","deep"]:List Str).Nodup by decide) rfl (AE rfl),dZ,eY G hr rfl mA kA bA .nil iP (aG (pv 0) (aG (b8 jW (pv 1) aQ) aF))⟩) aF)))),?_⟩
   refine⟨_,rfl,rfl,_,rfl,?_⟩;rw[decide_eq_false (show¬ V.int ((n + 1:Nat):Int)=V.int 0 from fun z=>by injection z with z;omega)];refine dB ?_;refine⟨_,rfl,zZ2,fun q W=>?_⟩;have J:=aU (o:=.tup [V.ty "list",.ty "tuple"]) W;refine⟨_,q,"list","tuple",_,_,rfl,aM,mG (hx.same J),pM d,_,rfl,?_⟩;rw[O];refine dJ ?_;exact⟨_,rfl,k _ _ J (hx.same J)⟩
theorem yQ{H:Hp}{p c a:Ah}{ns:List Int}{t:Int}{o:HO}(q:c7 H p c ns t)(e:H a=some o)(h:∀ z r,o≠.dK (z :: r)):a≠p:=by
 obtain⟨l,_,e2⟩:=q.ob;exact aD0 e e2 (h _ _)
theorem qP{m:Bool}{H H':Hp}{p c:Ah}{ns:List Int}{t:Int}{x:V}{d:Aj}(r:RdV m H x d)(q:c7 H p c ns t)(k:bW p H H'):RdV m H' x d:=r.keep fun a o e h=>k a o e (yQ q e h)
theorem yR{m:Bool}{H H':Hp}{p c:Ah}{ns:List Int}{t:Int}{x:List V}{d:List Aj}(r:cY m H x d)(q:c7 H p c ns t)(k:bW p H H'):cY m H' x d:=r.keep fun a o e h=>k a o e (yQ q e h)
theorem cC{H H':Hp}{p c a:Ah}{ns:List Int}{t:Int}{xs:List V}(e:H a=some (.lst xs))(q:c7 H p c ns t)(k:bW p H H'):H' a=some (.lst xs):=k a _ e (yQ q e (fun _ _ z=>nomatch z))
theorem sH{H H':Hp}{p c a:Ah}{ns:List Int}{t:Int}{xs:List V}(e:H a=some (.tup xs))(q:c7 H p c ns t)(k:bW p H H'):H' a=some (.tup xs):=k a _ e (yQ q e (fun _ _ z=>nomatch z))
inductive aCC(vs:List V)(H:Hp)(Q:VK)(u3_:XK):Prop
 | mk (p c:Ah) (ns:List Int) (a lo hi:Int) (q0:vs=[.ref p,.int lo,.int hi]) (q1:c7 H p c ns a) (q2:a≤900000) (q3:0≤lo) (q4:lo≤hi) (q5:hi≤10 ^ 9) (q6:∀ n a' H',lo≤n→n≤hi→a≤a'→a'≤a + 3→c7 H' p c ns a'→bW p H H'→Q (.int n) H'):aCC vs H Q u3_
def aFt:Sp:=fun vs H Q u3_=>aCC vs H Q u3_
theorem aFu:bV ["_law_pen_here","_law_bottom","_law_most","_law_way","_law_near"] ["_law_pen_here","_law_bottom","_law_most"] (aO nQ):=⟨rfl,rfl,rfl,by decide,rfl,by decide,by decide⟩
theorem aIj{f:Ah}{fd:AK}(F:Fun K "_law_number" "_law_number" nQ f fd)(z:mg "min"=none)(Z:Cl P w K mg base 1 "_law_take" ["_law_pen_here","_law_many"] jE):
  cQ P w K mg base CX0 2 f fd ["_law_pen_here","_law_bottom","_law_most"] aFt:=by
 refine F.ok aFu (fun vs H Q E h=>?_) (fun ak A outer s H vs Q E M h=>?_)
 ·obtain⟨p,c,ns,a,lo,hi,rfl,_⟩:=h;rfl
 ·obtain⟨p,c,ns,a,lo,hi,rfl,hp,ha,h0,h1,h2,k⟩:=h;refine⟨_,aH (bJ (i:=3) aFu.nd rfl (AE rfl) (bE Z M (aG (pv 0) (aG aQ aF))))
   (aH (bJ (i:=4) aFu.nd rfl (AE rfl) (b8 dR (pv 1) (bE Z M (aG (pv 0) (aG (aW (v5 rfl) (by rfl) z (by kernel_rfl) (aG aQ (aG (b8 dR (b8 jW (pv 2) (pv 1)) aQ) aF))) aF)))))
   (aV (aY (cO dN (eV (aG (pv 1) (aG (pv 2) (aG (pv 4) (aG (b8 dR (pv 1) (bE Z M (aG (pv 0) (aG (b8 dR (b8 jW (pv 2) (pv 1)) aQ) aF)))) aF))))) (pv 3) Ig)))),?_⟩
  have b9:(10:Int) ^ 9 + 1 < 2 ^ 512:=by decide
  have e9:(10:Int) ^ 9=1000000000:=by decide
  refine⟨_,rfl,p,c,ns,a,_,rfl,hp,by omega,by decide,by decide,fun O a1 H1 ab an l1 u1 W aa=>?_⟩;refine⟨_,rfl,_,rfl,_,rfl,_,rfl,_,_,rfl,rfl,_,_,rfl,rfl,_,_,rfl,?_⟩;obtain⟨B,hmm,m0,m1⟩:∃ B:Int,(if hi - lo + 1 < 12 then hi - lo + 1 else 12)=B∧0 < B∧B≤hi - lo + 1:=by
   refine⟨_,rfl,?_⟩;split <;> omega
  rw[hmm];refine⟨p,c,ns,a1,_,rfl,W,by omega,m0,by omega,fun r2 a2 H2 ai ag l2 u2 ac U=>?_⟩;refine⟨_,_,rfl,rfl,_,rfl,_,rfl,_,rfl,_,rfl,_,rfl,_,rfl,_,rfl,_,_,rfl,rfl,_,_,rfl,rfl,p,c,ns,a2,_,rfl,ac,by omega,by omega,by omega,fun r3 a3 H3 aj am l3 u3 Y J=>?_⟩;refine⟨_,_,rfl,rfl,zZ4,fun q hq=>?_⟩;have sq:=aU (o:=.lst [V.int lo,.int hi,.int (lo + r2),.int (lo + r3)]) hq;obtain⟨v,hv,hat⟩:=gY (xs:=[V.int lo,.int hi,.int (lo + r2),.int (lo + r3)]) (i:=O) ab (by show O < 4;omega);obtain⟨n,rfl,hn0,hn1⟩:∃ n:Int,v=.int n∧lo≤n∧n≤hi:=by
   simp only[Ao,Az,or_false]at hv;rcases hv with rfl | rfl | rfl | rfl
   ·exact⟨_,rfl,by omega,by omega⟩
   ·exact⟨_,rfl,by omega,by omega⟩
   ·exact⟨_,rfl,by omega,by omega⟩
   ·exact⟨_,rfl,by omega,by omega⟩
  exact⟨_,rfl,q,_,O,_,rfl,rfl,bG aM,hat,k n a3 _ hn0 hn1 (by omega) (by omega) (Y.same sq) (((aa.trans U).trans J).same sq)⟩
open PySem L2 PyProof.Rows
theorem u9{α:Type}:∀(l:List α) (j:Nat) (y:α),l[j]?=some y→(y :: l.eraseIdx j).Perm l
 | [],j,y,h=>by simp at h
 | x :: r,0,y,h=>by
  simp at h;subst h;simp
 | x :: r,j + 1,y,h=>by
  simp at h;have q:=u9 r j y h;rw[List.eraseIdx_cons_succ];exact(List.Perm.swap x y _).trans (q.cons x)
theorem xD{α β:Type}(f:α→β):∀(l:List α) (j:Nat),(l.map f).eraseIdx j=(l.eraseIdx j).map f
 | [],j=>by simp
 | x :: r,0=>by simp
 | x :: r,j + 1=>by simp[xD f r j]
inductive xE(vs:List V)(H:Hp)(Q:VK)(u3_:XK):Prop
 | mk (p c:Ah) (ns:List Int) (a:Int) (nf nr:Nat) (q0:vs=[.ref p,.int nf,.int nr]) (q1:c7 H p c ns a) (q2:a≤800000) (q3:nf≤44) (q4:nr≤44) (q5:∀(t l1 l2 l3 l4:Ah) (ws ps hs rs:List Str) (a':Int) (H':Hp),H' t=some (.tup [.ref l1,.ref l2,.ref l3,.ref l4])→H' l1=some (.lst (ws.map V.str))→ws.length=nf→Nms ws→H' l2=some (.lst (ps.map V.str))→ps.length=10→Nms ps→H' l3=some (.lst (hs.map V.str))→hs.length=5→Nms hs→H' l4=some (.lst (rs.map V.str))→rs.length=nr→Nms rs→a≤a'→a'≤a + 200→c7 H' p c ns a'→bW p H H'→Q (.ref t) H'):xE vs H Q u3_
def aCD:Sp:=fun vs H Q u3_=>xE vs H Q u3_
inductive aAI(vs:List V)(H:Hp)(Q:VK)(u3_:XK):Prop
 | mk (p c:Ah) (ns:List Int) (a:Int) (m:Nat) (q0:vs=[.ref p,.int m]) (q1:c7 H p c ns a) (q2:a≤800000) (q3:m≤44) (q4:∀(l:Ah) (ds:List Int) (a':Int) (H':Hp),H' l=some (.lst (ds.map V.int))→ds.length=m→(∀ d∈ds,0≤d∧d≤9999)→a≤a'→a'≤a + 200→c7 H' p c ns a'→bW p H H'→Q (.ref l) H'):aAI vs H Q u3_
def aFv:Sp:=fun vs H Q u3_=>aAI vs H Q u3_
inductive aAJ(vs:List V)(H:Hp)(Q:VK)(u3_:XK):Prop
 | mk (p c:Ah) (ns:List Int) (a:Int) (l:Ah) (ws:List Str) (m:Nat) (q0:vs=[.ref p,.ref l,.int m]) (q1:c7 H p c ns a) (q2:a≤800000) (q3:H l=some (.lst (ws.map V.str))) (q4:ws.length=10) (q5:m≤6) (q6:∀(q:Ah) (ms:List Str) (a':Int) (H':Hp),H' q=some (.lst (ms.map V.str))→ms.length=m→sortedS ms=true→(∃ us vs:List Str,ms.Perm us∧(us ++ vs).Perm ws)→a≤a'→a'≤a + 10→c7 H' p c ns a'→bW p H H'→Q (.ref q) H'):aAJ vs H Q u3_
def aFw:Sp:=fun vs H Q u3_=>aAJ vs H Q u3_
theorem sI:bV ["_law_pen_here","_law_fields","_law_rows","_law_some_here","_law_plots","_law_houses"] ["_law_pen_here","_law_fields","_law_rows"] (aO qL):=⟨rfl,rfl,rfl,by decide,rfl,by decide,by decide⟩
theorem aFx{f:Ah}{fd:AK}(F:Fun K "_law_sorts" "_law_sorts" qL f fd)
  (GT:Cl P w K mg base 1 "_law_take" ["_law_pen_here","_law_many"] jE)
  (GN:Cl P w K mg base 2 "_law_names" ["_law_pen_here","_law_many"] aCy):
  cQ P w K mg base CX0 3 f fd ["_law_pen_here","_law_fields","_law_rows"] aCD:=by
 refine F.ok sI (fun vs H Q E h=>?_) (fun bp A outer s H vs Q E hr h=>?_)
 ·obtain⟨p,c,ns,a,nf,nr,rfl,_⟩:=h;rfl
 ·obtain⟨p,c,ns,a,nf,nr,rfl,hp,ha,hf,hrr,k⟩:=h;have aK:cS 1 _:=hr.mono (by decide);refine⟨_,aH (c6 (bY eI (bE GT aK (aG (pv 0) (aG aQ aF))) aQ (cI _))
    (aH (bJ (i:=3) sI.nd rfl (AE rfl) (bE GN hr (aG (pv 0) (aG aQ aF))))
    (aV (aY (c9 (aG (f6 m9 (pv 3) iF (iG (pv 1))) (aG (f6 m9 (pv 3) iF (iG aQ)) (aG (f6 m9 (pv 3) iF (iG aQ)) (aG (f6 m9 (pv 3) iF (iG (pv 2))) aF)))))))) bZ)
   (aH (bJ (i:=4) sI.nd rfl (AE rfl) (bE GN hr (aG (pv 0) (aG aQ aF))))
   (aH (bJ (i:=5) sI.nd rfl (AE rfl) (bE GN hr (aG (pv 0) (aG aQ aF))))
   (aV (aY (c9 (aG (bE GN hr (aG (pv 0) (aG (pv 1) aF))) (aG (pv 4) (aG (pv 5) (aG (bE GN hr (aG (pv 0) (aG (pv 2) aF))) aF))))))))),?_⟩
  refine⟨_,rfl,p,c,ns,a,_,rfl,hp,by omega,by decide,by decide,fun r1 a1 H1 bt bj l1 u1 ak ab=>?_⟩;refine⟨rfl,_,rfl,?_⟩;have z4:(4:Nat)≤sizeLine:=aS (by decide);refine dS (fun g=>?_) (fun g=>?_)
  ·refine⟨_,rfl,p,c,ns,a1,44,rfl,ak,by omega,by omega,fun L z a2 H2 nL hL bh hN l2 u2 O U=>?_⟩;have ec:∀ n:Nat,jI (z.map V.str) none (some (n:Int))=(z.take n).map V.str:=fun n=>by rw[aEz (α:=Nat),List.map_take]
   have ag:jI (z.map V.str) none (some 10)=(z.take 10).map V.str:=ec 10;have aE:jI (z.map V.str) none (some 5)=(z.take 5).map V.str:=ec 5;refine⟨_,rfl,_,rfl,_,rfl,L,_,rfl,bG hL,fun q1 ax=>?_⟩;rw[ec nf];have s1:=aU (o:=.lst ((z.take nf).map V.str)) ax;refine⟨_,rfl,_,rfl,L,_,rfl,bG (s1 _ _ hL),fun q2 ar=>?_⟩;rw[ag];have ac:=aU (o:=.lst ((z.take 10).map V.str)) ar;have s2:=s1.trans ac;refine⟨_,rfl,_,rfl,L,_,rfl,bG (s2 _ _ hL),fun q3 aw=>?_⟩;rw[aE];have Y:=aU (o:=.lst ((z.take 5).map V.str)) aw;have s3:=s2.trans Y;refine⟨_,rfl,_,rfl,_,rfl,L,_,rfl,bG (s3 _ _ hL),fun q4 ay=>?_⟩;rw[ec nr];have B:=aU (o:=.lst ((z.take nr).map V.str)) ay;have s4:=s3.trans B;refine⟨z4,fun t ht=>?_⟩;have q:=aU (o:=.tup [V.ref q1,.ref q2,.ref q3,.ref q4]) ht;have s5:=s4.trans q;refine k t q1 q2 q3 q4 (z.take nf) (z.take 10) (z.take 5) (z.take nr) a2 _ aM (q _ _ (B _ _ (Y _ _ (ac _ _ aM)))) (by rw[A5];omega) (hN.take nf) (q _ _ (B _ _ (Y _ _ aM))) (by rw[A5];omega) (hN.take 10) (q _ _ (B _ _ aM)) (by rw[A5];omega) (hN.take 5) (q _ _ aM) (by rw[A5];omega) (hN.take nr) (by omega) (by omega) (O.same s5) ((ab.trans U).same s5)
  ·refine⟨_,rfl,p,c,ns,a1,10,rfl,ak,by omega,by omega,fun L1 ap a2 H2 bq au af ao l2 u2 O U=>?_⟩;refine⟨_,rfl,p,c,ns,a2,5,rfl,O,by omega,by omega,fun L2 av a3 H3 br aC ah aB l3 u3 W ai=>?_⟩;refine⟨_,rfl,_,rfl,p,c,ns,a3,nf,rfl,W,by omega,by omega,fun L3 az a4 H4 bo aI ad aJ l4 u4 J Z=>?_⟩;refine⟨_,rfl,_,rfl,_,rfl,_,rfl,p,c,ns,a4,nr,rfl,J,by omega,by omega,fun L4 an a5 H5 bu aD aj aA l5 u5 aq M=>?_⟩;refine⟨z4,fun t ht=>?_⟩;have q:=aU (o:=.tup [V.ref L3,.ref L1,.ref L2,.ref L4]) ht;exact k t L3 L1 L2 L4 az ap av an a5 _ aM (q _ _ (cC aI J M)) ad aJ (q _ _ (cC (cC (cC au O ai) W Z) J M)) af ao (q _ _ (cC (cC aC W Z) J M)) ah aB (q _ _ aD) aj aA (by omega) (by omega) (aq.same q) (((((ab.trans U).trans ai).trans Z).trans M).same q)
theorem aBJ:bV ["_law_pen_here","_law_names_here","_law_many","_law_left","_law_found"] ["_law_pen_here","_law_names_here","_law_many"] (aO uU):=⟨rfl,rfl,rfl,by decide,rfl,by decide,by decide⟩
theorem aGJ{f:Ah}{fd:AK}(F:Fun K "_law_some" "_law_some" uU f fd)(W:mg "list"=none)(Y:mg "range"=none)(ab:mg "sorted"=none)(aa:mg "len"=none)
  (GT:Cl P w K mg base 1 "_law_take" ["_law_pen_here","_law_many"] jE):
  cQ P w K mg base CX0 2 f fd ["_law_pen_here","_law_names_here","_law_many"] aFw:=by
 refine F.ok aBJ (fun vs H Q E h=>?_) (fun ax A outer s H vs Q E hr h=>?_)
 ·obtain⟨p,c,ns,a,l,ws,m,rfl,_⟩:=h;rfl
 ·obtain⟨p,c,ns,a,l,ws,m,rfl,hp,ha,hl,hwl,hm,k⟩:=h;refine⟨_,aH (bJ (i:=3) aBJ.nd rfl (Fk rfl) (cV fW (by rfl) W (by kernel_rfl) (aG (pv 1) aF)))
   (aH (lO (i:=4) (N:=["_law_k","_law_left","_law_pen_here"]) (src:=[none,some 3,some 0]) (osc:=aO uU) (oN:=["_law_pen_here","_law_names_here","_law_many","_law_left","_law_found"]) ⟨by rfl,by decide,by decide,by decide,rfl,by rfl⟩ aBJ.nd rfl
     (gE rfl Y (aG (pv 2) aF))
     fun cl s H fp dt C=>⟨bH (i:=0) (show(["_law_k","_law_left","_law_pen_here"]:List Str).Nodup by decide) rfl (AE rfl),dZ,aBj (K:=K) BD PySem.F.slot_list_pop PySem.F.type_list_pop zI (pv 1) (aG (bE GT hr (aG (pv 2) (aG (aW (r:=i7 K) bC (by rfl) aa AN (aG (pv 1) aF)) aF))) aF)⟩)
   (aV (aY (aW lS (by rfl) ab (by kernel_rfl) (aG (pv 4) aF))))),?_⟩
  refine⟨_,rfl,l,_,rfl,.inl (bG hl),fun L hL=>?_⟩;have s0:=aU (o:=.lst (ws.map V.str)) hL;have ad:L≠p:=by
   obtain⟨z,_,e⟩:=hp.ob;exact(aX e hL).symm
  have ah:L≠c:=(aX hp.ce hL).symm;refine⟨_,rfl,m,rfl,by omega,by omega,?_⟩;refine oJ (fun i ys σ' H'=>Ex3 fun(a':Int) (us vs:List Str)=>∃(o:Option V),Aw6 (σ'=[o,some (.ref L),some (.ref p)]) (c7 H' p c ns a') (bW p H H') (a≤a') (a'≤a + i) (Aw3 (ys=us.map V.str) (us.length=i) (Aw3 (H' L=some (.lst (vs.map V.str))) (vs.length + i=10) ((us ++ vs).Perm ws))))
   ⟨a,[],ws,none,rfl,hp.same s0,bS.but s0,by omega,by omega,rfl,rfl,aM,by omega,DD _⟩ (aS (by omega)) (fun i ys σ H p=>by obtain⟨_,us,_,_,_,_,_,_,_,rfl,e,_⟩:=p;rw[Ad,e];exact Ap _) ?_ ?_
  ·rintro i ys σ' H1 hi ⟨a1,us,vs,o,rfl,B,O,af,am,rfl,U,J,ao,M⟩;dsimp only[dI];refine dJ ?_;refine⟨_,rfl,.inl ⟨rfl,_,bG J⟩,_,rfl,_,rfl,L,_,rfl,.inl (bG J),p,c,ns,a1,_,rfl,B,by omega,by rw[Ad];omega,by rw[Ad];omega,fun r1 a2 H2 aC ag ay aA an Z=>?_⟩;rw[Ad]at ag;obtain⟨j,rfl⟩:∃ j:Nat,r1=j:=⟨r1.toNat,by omega⟩
   have ak:=cC J B Z;obtain⟨y,hy⟩:∃ y,vs[j]?=some y:=⟨_,Ab (by omega)⟩
   have ae:seqIndex? (j:Int) (vs.map V.str).length=some j:=by
    rw[Ad];unfold seqIndex?;simp;omega
   refine⟨L,_,_,j,V.str y,rfl,rfl,ak,by omega,by omega,ae,by rw[AL,hy];rfl,?_⟩;refine⟨a2,us ++ [y],vs.eraseIdx j,_,rfl,?_,?_,by omega,by omega,by rw[AQ];rfl,by rw[AH,U];rfl,?_,?_,?_⟩
   ·obtain⟨⟨z,hz,e⟩,ce,ge,sm⟩:=an;exact⟨⟨z,hz,by rw[bI ad.symm];exact e⟩,by rw[bI ah.symm];exact ce,ge,sm⟩
   ·intro b o e ne;rw[bI (aX e hL)];exact(O.trans Z) b o e ne
   ·rw[aM];congr 2;exact xD V.str vs j
   ·rw[CN (by omega)];omega
   ·rw[Bf];exact(Bv us (u9 vs j y hy)).trans M
  ·rintro ys σ' H1 ⟨a1,us,vs,o,rfl,B,O,af,am,rfl,U,J,ao,M⟩ D hD;have sD:=aU (o:=.lst (us.map V.str)) hD;refine⟨_,rfl,D,us,rfl,bG aM,by omega,fun q ms hq ac aj=>?_⟩;have s2:=aU (o:=.lst (ms.map V.str)) hq;exact k q ms a1 _ aM (by rw[ac.length_eq,U];omega) aj ⟨us,vs,ac,M⟩ (by omega) (by omega) ((B.same sD).same s2) ((O.same sD).same s2)
theorem qQ:bV ["_law_pen_here","_law_many","_law_way","_law_some_here","_law_k","_law_few","_law_found"] ["_law_pen_here","_law_many"] (aO uT):=⟨rfl,rfl,rfl,by decide,rfl,by decide,by decide⟩
theorem aGK{f:Ah}{fd:AK}(F:Fun K "_law_days" "_law_days" uT f fd)(W:mg "range"=none)(ak:mg "len"=none)(ax:mg "int"=none)
  (GT:Cl P w K mg base 1 "_law_take" ["_law_pen_here","_law_many"] jE):
  cQ P w K mg base CX0 2 f fd ["_law_pen_here","_law_many"] aFv:=by
 refine F.ok qQ (fun vs H Q E h=>?_) (fun b7 A outer s H vs Q E hr h=>?_)
 ·obtain⟨p,c,ns,a,m,rfl,_⟩:=h;rfl
 ·obtain⟨p,c,ns,a,m,rfl,hp,ha,hm,k⟩:=h;refine⟨_,aH (bJ (i:=2) qQ.nd rfl (AE rfl) (bE GT hr (aG (pv 0) (aG aQ aF))))
   (aH (bJ (i:=3) qQ.nd rfl (Fk rfl) (eV (aG aQ (aG aQ (aG aQ (aG aQ (aG (bE GT hr (aG (pv 0) (aG aQ aF))) (aG (bE GT hr (aG (pv 0) (aG aQ aF))) aF))))))))
   (aH (lO (i:=5) (N:=["_law_k","_law_some_here","_law_pen_here"]) (src:=[none,some 3,some 0]) (osc:=aO uT) (oN:=["_law_pen_here","_law_many","_law_way","_law_some_here","_law_k","_law_few","_law_found"]) ⟨by rfl,by decide,by decide,by decide,rfl,by rfl⟩ qQ.nd rfl
     (gE rfl W (aG (b8 dR aQ (bE GT hr (aG (pv 0) (aG aQ aF)))) aF))
     fun cl s H fp dt C=>⟨bH (i:=0) (show(["_law_k","_law_some_here","_law_pen_here"]:List Str).Nodup by decide) rfl (AE rfl),dZ,cO (r:=aHE K) dN (pv 1) (bE GT hr (aG (pv 2) (aG aQ aF))) Ig⟩)
   (aH (bJ (i:=6) qQ.nd rfl (AE rfl) (eV aF))
   (aH (mQ Cy rfl (gE rfl W (aG (pv 1) aF)) (bH (i:=4) qQ.nd rfl (AE rfl))
    (aV (m8 (oZ BD Cs Cr iW (pv 6) (aG (cO dN (eV (aG (cO dN (pv 5) (bE GT hr (aG (pv 0) (aG (aW bC (by rfl) ak AN (aG (pv 5) aF)) aF))) Ig) (aG (bE GT hr (aG (pv 0) (aG aQ aF))) aF)))
      (cV aC7 (by rfl) ax (by kernel_rfl) (aG (f7 eI (pv 2) aQ (cI _)) aF)) Ig) aF)))))
   (aV (aY (pv 6))))))),?_⟩
  refine⟨_,rfl,p,c,ns,a,_,rfl,hp,by omega,by decide,by decide,fun wy a1 H1 w0 w1 cb cg bp aL=>?_⟩;refine⟨_,rfl,p,c,ns,a1,_,rfl,bp,by omega,by decide,by decide,fun x1 a2 H2 b3 b9 ci ca bt a0=>?_⟩;refine⟨_,rfl,p,c,ns,a2,_,rfl,bt,by omega,by decide,by decide,fun x2 a3 H3 bP b5 b4 b0 bb bf=>?_⟩;refine⟨zZ6,fun L hL=>?_⟩;have sL:=aU (o:=.lst [V.int 0,.int 1,.int 9,.int 9999,.int x1,.int x2]) hL;have aZ:∀ v∈[V.int 0,.int 1,.int 9,.int 9999,.int x1,.int x2],∃ d:Int,v=.int d∧0≤d∧d≤9999:=by
   intro v U;simp only[Ao,Az,or_false]at U;rcases U with rfl | rfl | rfl | rfl | rfl | rfl
   ·exact⟨_,rfl,by omega,by omega⟩
   ·exact⟨_,rfl,by omega,by omega⟩
   ·exact⟨_,rfl,by omega,by omega⟩
   ·exact⟨_,rfl,by omega,by omega⟩
   ·exact⟨_,rfl,by omega,by omega⟩
   ·exact⟨_,rfl,by omega,by omega⟩
  have Z:=bb.same sL;have k4:bW p H _:=((aL.trans a0).trans bf).same sL;have ar:upd H3 L (.lst [V.int 0,.int 1,.int 9,.int 9999,.int x1,.int x2]) L=_:=aM;generalize upd H3 L (.lst [V.int 0,.int 1,.int 9,.int 9999,.int x1,.int x2])=H4 at Z k4 ar ⊢;refine⟨_,rfl,p,c,ns,a3,_,rfl,Z,by omega,by decide,by decide,fun r1 a5 H5 ck bR cx cc aN am=>?_⟩;refine⟨_,_,rfl,rfl,_,rfl,by omega,by omega,?_⟩;have bj:=cC ar Z am;refine oJ (fun i ys σ' H'=>Ex3 fun(a':Int) (ds:List Int) (o:Option V)=>Aw6 (σ'=[o,some (.ref L),some (.ref p)]) (c7 H' p c ns a') (bW p H H') (a5≤a') (a'≤a5 + i) (Aw3 (ys=ds.map V.int) (ds.length=i) ((∀ d∈ds,0≤d∧d≤9999)∧H' L=some (.lst [V.int 0,.int 1,.int 9,.int 9999,.int x1,.int x2]))))
   ⟨a5,[],none,rfl,aN,k4.trans am,by omega,by omega,rfl,rfl,(fun d hd=>by simp at hd),bj⟩ (aS (by omega)) (fun i ys σ H p=>by obtain⟨_,ds,_,_,_,_,_,_,rfl,e,_⟩:=p;rw[Ad,e];exact Ap _) ?_ ?_
  ·rintro i ys σ' H6 hi ⟨a6,ds,o,rfl,M,k6,br,aK,rfl,ap,ae,an⟩;dsimp only[dI];refine dJ ?_;refine⟨_,rfl,_,rfl,p,c,ns,a6,_,rfl,M,by omega,by decide,by decide,fun r2 a7 H7 aD bN cq cm B ao=>?_⟩;have ay:=cC an M ao;obtain⟨v,U,hat⟩:=gY (xs:=[V.int 0,.int 1,.int 9,.int 9999,.int x1,.int x2]) (i:=r2) aD (by show r2 < 6;omega);obtain⟨d,rfl,hd0,hd1⟩:=aZ v U;refine⟨L,_,r2,_,rfl,rfl,bG ay,hat,a7,ds ++ [d],_,rfl,B,k6.trans ao,by omega,by omega,by rw[AQ];rfl,by rw[AH,ap];rfl,fun z hz=>?_,ay⟩;rcases Bh.mp hz with y | y
   ·exact ae z y
   ·rw[BE.mp y];exact⟨hd0,hd1⟩
  ·rintro ys σ' H6 ⟨a6,ds,o,rfl,M,k6,br,aK,rfl,ap,ae,an⟩ D hD;have sD:=aU (o:=.lst (ds.map V.int)) hD;have B:=M.same sD;have k7:=k6.same sD;have ag:upd H6 D (.lst (ds.map V.int)) D=_:=aM;generalize upd H6 D (.lst (ds.map V.int))=H7 at B k7 ag ⊢;refine⟨A3 _,fun R hR=>?_⟩;have sR:=aU (o:=.lst []) hR;have au:R≠p:=by
    obtain⟨z,_,e⟩:=B.ob;exact(aX e hR).symm
   have aI:R≠c:=(aX B.ce hR).symm;have bn:D≠R:=aX ag hR;have bu:H R=none:=by
    cases e:H R with
    | none=>rfl
    | some x=>exact absurd (k7 R x e au) (by rw[hR];simp)
   refine⟨_,rfl,m,rfl,by omega,by omega,jZ (n:=(m:Int).toNat) (fun i σ H'=>Ex3 fun(o4:Option V) (a':Int) (es:List Int)=>Aw6 (σ=[some (.ref p),some (.int m),some (.int wy),some (.ref L),o4,some (.ref D),some (.ref R)]) (c7 H' p c ns a') (a6≤a') (a'≤a6 + 2 * i) (bW p H H') (Aw3 (H' D=some (.lst (ds.map V.int))) (H' R=some (.lst (es.map V.int))) (es.length=i∧∀ d∈es,0≤d∧d≤9999)))
    ⟨_,a6,[],rfl,B.same sR,by omega,by simp,k7.same sR,sR _ _ ag,aM,rfl,fun d hd=>by simp at hd⟩ ?_ ?_⟩
   ·rintro i σ H8 hi ⟨o4,a8,es,rfl,J,aR,bm,k8,ab,O,aq,af⟩;dsimp only[dI];refine⟨_,rfl,.inl ⟨rfl,_,bG O⟩,_,rfl,_,rfl,_,rfl,D,_,rfl,.inl (bG ab),p,c,ns,a8,_,rfl,J,by omega,by rw[Ad];omega,by rw[Ad];omega,fun r3 a9 H9 aE bh bO cj ah Y=>?_⟩;have aw:=cC ab J Y;have be:=cC O J Y;obtain⟨v,U,hat⟩:=gY (xs:=ds.map V.int) (i:=r3) aE bh;obtain⟨d,hd,rfl⟩:=Bn.mp U;refine⟨D,_,r3,_,rfl,rfl,bG aw,hat,_,rfl,p,c,ns,a9,_,rfl,ah,by omega,by decide,by decide,fun r4 b1 G1 cu cn cv bT aA ad=>?_⟩;refine⟨zZ2,fun q hq=>?_⟩;have sq:=aU (o:=.lst [V.int d,.int r4]) hq;refine⟨_,rfl,rfl,.inr ⟨_,rfl,?_⟩⟩;obtain⟨z,hz,z0,z1⟩:∃ z:Int,(if decide (V.int wy=V.int 0)=true then(1:Int) else 0)=z∧0≤z∧z≤1:=by
     refine⟨_,rfl,?_⟩;split <;> omega
    rw[hz];obtain⟨v,U,hat⟩:=gY (xs:=[V.int d,.int r4]) (i:=z) z0 (by show z < 2;omega);obtain⟨dd,rfl,hdd⟩:∃ dd:Int,v=.int dd∧0≤dd∧dd≤9999:=by
     simp only[Ao,Az,or_false]at U;rcases U with rfl | rfl
     ·exact⟨_,rfl,ae d hd⟩
     ·exact⟨_,rfl,by omega,by omega⟩
    refine⟨q,_,z,_,rfl,rfl,bG aM,hat,?_⟩;have aP:=sq _ _ (cC be ah ad);have bq:=sq _ _ (cC aw ah ad);have bc:=aA.same sq;have kq:=((k8.trans Y).trans ad).same sq;refine⟨R,_,_,rfl,rfl,aP,by rw[Ad];exact j8 (by omega),_,b1,es ++ [dd],rfl,?_,by omega,by omega,?_,by rw[bI bn];exact bq,by rw[aM,AQ];rfl,by rw[AH,aq];rfl,fun z hz=>?_⟩
    ·obtain⟨⟨z,hz,e⟩,ce,ge,sm⟩:=bc;exact⟨⟨z,hz,by rw[bI au.symm];exact e⟩,by rw[bI aI.symm];exact ce,ge,sm⟩
    ·intro b o e ne;rw[bI (aX e bu)];exact kq b o e ne
    ·rcases Bh.mp hz with y | y
     ·exact af z y
     ·rw[BE.mp y];exact hdd
   ·rintro σ H8 ⟨o4,a8,es,rfl,J,aR,bm,k8,ab,O,aq,af⟩;exact⟨_,rfl,k R es a8 H8 O (by omega) af (by omega) (by omega) J k8⟩
theorem aBK{q F:List Str}(O:F.Perm (rW q))(U:sortedS F=true):decide (q=F)=d9 q:=by
 unfold d9;rw[decide_eq_decide];have B:=gS F U;constructor
 ·rintro rfl;have hn:q.Nodup:=O.nodup_iff.mpr (oM q);have h2:=B.and hn;refine h2.imp fun{a b} h=>?_;rcases Fd (a.cps.toList < b.cps.toList)with z | z
  ·exact z
  ·exact absurd (nE (EN (Do.mp h.1) (Do.mp z))) h.2
 ·intro h;have hn:q.Nodup:=h.imp fun{a b} z e=>by
   subst e;exact CM _ z
  have h2:q.Pairwise fun a b=>¬ b.cps.toList < a.cps.toList:=h.imp fun{a b} z y=>CM _ (EF z y);have M:(rW q).Perm q:=by
   refine iV q (rW q) hn (fun x J=>(aAb q x).mpr J) ?_;have:=iV (rW q) q (oM q) (fun x J=>(aAb q x).mp J);have h1:=(wM q)
   rw[Ic hn]at h1;have W:=Ie h1;unfold rW;omega
  exact jO (M.symm.trans O.symm) h2 B
theorem xF:∀(B z:List Str),vO (B.map V.str) (z.map V.str)=decide (B=z)
 | [],[]=>rfl
 | [],_ :: _=>rfl
 | _ :: _,[]=>rfl
 | a :: r,b :: q=>by
  show(eqV (.str a) (.str b) && vO (r.map V.str) (q.map V.str))=_;rw[xF r q];show((a == b) && decide (r=q))=_;rw[Cm];simp
theorem aFy:bV ["things"] ["things"] (aO lW):=⟨rfl,rfl,rfl,by decide,rfl,by decide,by decide⟩
theorem aDP{f:Ah}{fd:AK}(F:Fun K "is_rising" "is_rising" lW f fd)(T:Txt K mg)(q:mg "list"=none)(z:mg "sorted"=none):cQ P w K mg base CX0 1 f fd ["things"] uZ:=by
 refine F.ok aFy (fun vs H Q E h=>?_) (fun M A outer s H vs Q E hr h=>?_)
 ·obtain⟨a,ss,rfl,_⟩:=h;rfl
 ·obtain⟨a,ss,rfl,ha,hl,k⟩:=h;have hu:=aCc hr;have J:(A.deeper (EK "is_rising" (aO lW) s.heap.objs.size f M)).units < cLine:=by omega
  refine⟨_,aV (aY (f7 (aHO J) (cV fW (by rfl) q (by kernel_rfl) (aG (pv 0) aF)) (aW (yE rfl) (by rfl) z (by kernel_rfl) (aG (cV (aDq rfl) (by rfl) T.set (by kernel_rfl) (aG (pv 0) aF)) aF)) (cI _))),_,rfl,a,ss.map V.str,rfl,ha.imp bG bF,fun L hL=>?_⟩;have O:=aU (o:=.lst (ss.map V.str)) hL;refine⟨_,rfl,a,ss,rfl,ha.imp (O _ _) (O _ _),by omega,fun S Z=>?_⟩;have Y:=aU (o:=aEJ P w S ss) Z;refine⟨S,ss,rfl,aM,by omega,fun l W B hp hs=>?_⟩;have U:=aU (o:=.lst (W.map V.str)) B;refine⟨L,l,_,_,rfl,rfl,bG (U _ _ (Y _ _ aM)),bG aM,fE ss,fE W,?_⟩;rw[xF,aBK hp hs];exact k _ ((O.trans Y).trans U)
def pD(x:P3):Aj:=.tuple [.str x.1,.str x.2.1,.int x.2.2]
inductive pN:Aj→Aj→Prop
 | short {ds:List Aj} (h:ds.length≠5):pN (.tuple ds) (.tuple ds)
 | other {kind:Str} {n dy f l:Aj} (h1:kind≠"part") (h2:kind≠"join"):pN (.tuple [.str kind,n,dy,f,l]) (.tuple [.str kind,n,dy,f,l])
 | part {n dy f:Aj} {T R:List P3} (hp:T.Perm R) (hr:wP R) (h2:2≤T.length) (h6:T.length≤6) (ha:(T.map pD).all fY=true):pN (.tuple [.str "part",n,dy,f,.tuple (T.map pD)]) (.tuple [.str "part",n,dy,f,.tuple (R.map pD)])
 | join {n dy l:Aj} {T R:List Str} (hp:T.Perm R) (hr:d9 R=true) (h6:T.length≤6) (ha:(T.map AX).all cE=true):pN (.tuple [.str "join",n,dy,.tuple (T.map AX),l]) (.tuple [.str "join",n,dy,.tuple (R.map AX),l])
inductive aCE(vs:List V)(H:Hp)(Q:VK)(u3_:XK):Prop
 | mk (m:Bool) (x:V) (d d':Aj) (q0:vs=[x]) (q1:RdV m H x d) (q2:pN d d') (q3:∀ y H',bS H H'→RdV m H' y d'→Q y H'):aCE vs H Q u3_
def aHc:Sp:=fun vs H Q u3_=>aCE vs H Q u3_
theorem aDQ{m:Bool}{H:Hp}{v:V}{x:P3}(h:RdV m H v (pD x)):wO H v x:=by
 unfold pD at h;cases h with
 | @tup a xs _ e F r=>
  cases r with
  | cons B r=>
   cases r with
   | cons q r=>
    cases r with
    | cons z r=>
     cases r;cases B;cases q;cases z;exact⟨a,rfl,e⟩
theorem aBL{m:Bool}{H:Hp}{vs:List V}{T:List P3}(r:cY m H vs (T.map pD)):∀ i,i < vs.length→wO H (vs.getD i .non) (T.getD i ("","",0)):=fun i hi=>by
 have q:=r.len;rw[Ad]at q;obtain⟨d,hd,rd⟩:=r.at (Ab hi);rw[AL,Ab (by omega)]at hd;cases hd;have:=aDQ rd;rw[Ak,Ak,Ab hi,Ab (by omega)];exact this
theorem xG{m:Bool}{H:Hp}{vs:List V}{ds:List Aj}(r:cY m H vs ds):∀(q:List Nat),(∀ i∈q,i < vs.length)→cY m H (q.map fun i=>vs.getD i .non) (q.map fun i=>ds.getD i .none)
 | [],_=>.nil
 | i :: q,h=>by
  have hi:=h i (by simp);obtain⟨d,hd,rd⟩:=r.at (Ab hi);refine .cons ?_ (xG r q fun j z=>h j (by simp[z]));show RdV m H (vs.getD i .non) (ds.getD i .none);rw[Ak,Ak,Ab hi,hd];exact rd
theorem xH{m:Bool}{H:Hp}:∀{vs:List V}{T:List Str},cY m H vs (T.map AX)→vs=T.map V.str∧∀ z∈T,z.length≤1000
 | _,[],.nil=>⟨rfl,fun z hz=>by simp at hz⟩
 | _,t :: T,.cons a r=>by
  obtain⟨e,h⟩:=xH (T:=T) r;cases a with
  | str _ hz=>
   refine⟨by rw[e];rfl,fun z q=>?_⟩;rcases Ao.mp q with rfl | y
   ·exact hz
   ·exact h z y
theorem lG{m:Bool}{H:Hp}:∀{T:List Str},(∀ z∈T,z.length≤1000)→cY m H (T.map V.str) (T.map AX)
 | [],_=>.nil
 | t :: T,h=>.cons (.str t (h t (by simp))) (lG fun z hz=>h z (by simp[hz]))
theorem vW{R:List Str}(h:d9 R=true):R.Pairwise fun a b=>¬ b.cps.toList < a.cps.toList:=(Ie h).imp fun{a b} z y=>CM _ (EF z y)
theorem xI:bV ["thing","kind","name","day","first","last"] ["thing"] (aO kY):=⟨rfl,rfl,rfl,by decide,rfl,by decide,by decide⟩
theorem aIk{f:Ah}{fd:AK}(F:Fun K "in_order" "in_order" kY f fd)(T:Txt K mg)(O:mg "sorted"=none)
  (GP:Cl P w K mg base 4 "all_parts" ["thing"] aBB)
  (GN:Cl P w K mg base 2 "all_names" ["thing"] uX):
  cQ P w K mg base CX0 5 f fd ["thing"] aHc:=by
 refine F.ok xI (fun vs H Q E h=>?_) (fun aP A outer s H vs Q E hr h=>?_)
 ·obtain⟨m,x,d,d',rfl,_⟩:=h;rfl
 ·obtain⟨m,x,d,d',rfl,hx,ho,k⟩:=h;have au:cS 2 _:=hr.mono (by decide);refine⟨_,aH (c6 (PW.pt (gX (dL (dO (aW dQ (by rfl) T.isi (by kernel_rfl) (aG (pv 0) (aG (dM (v:=.ty "tuple") (by rfl) T.tuple (by kernel_rfl) rfl) aF)))))
    (fI (bY sV (aW bC (by rfl) T.len AN (aG (pv 0) aF)) aQ (cI _))))) (aV (aY (pv 0))) bZ)
   (aH (i5 (pv 0) (jV rfl (cH (bH (i:=1) xI.nd rfl (AE rfl)) (cH (bH (i:=2) xI.nd rfl (AE rfl)) (cH (bH (i:=3) xI.nd rfl (AE rfl)) (cH (bH (i:=4) xI.nd rfl (AE rfl)) (cH (bH (i:=5) xI.nd rfl (AE rfl)) iE)))))))
   (aH (c6 (PW.pt (mM (bY eI (pv 1) cG (cI _)) (jK (dO (bE GP hr (aG (pv 5) aF)))))) (aV (aY (c9 (aG (pv 1) (aG (pv 2) (aG (pv 3) (aG (pv 4) (aG (cV cU (by rfl) T.tuple (by kernel_rfl) (aG (aW yI (by rfl) O (by kernel_rfl) (aG (pv 5) aF)) aF)) aF)))))))) bZ)
   (aH (c6 (PW.pt (mM (bY eI (pv 1) cG (cI _)) (jK (dO (bE GN au (aG (pv 4) aF)))))) (aV (aY (c9 (aG (pv 1) (aG (pv 2) (aG (pv 3) (aG (cV cU (by rfl) T.tuple (by kernel_rfl) (aG (aW vT (by rfl) O (by kernel_rfl) (aG (pv 4) aF)) aF)) (aG (pv 5) aF)))))))) bZ)
   (aV (aY (pv 0)))))),?_⟩
  refine⟨_,rfl,_,"tuple",_,_,rfl,mG hx,jR d,_,rfl,?_⟩;cases ho with
  | @short ds hn=>
   cases hx with
   | @tup a xs _ e hl r=>
    have aB:=r.len;refine dB ?_;refine⟨_,rfl,a,xs,rfl,.inr (bF e),rfl,_,rfl,dS (fun g=>?_) (fun g=>?_)⟩
    ·exact⟨_,rfl,k _ H (bS.refl H) (.tup e hl r)⟩
    ·exfalso;apply g;rw[decide_eq_false (show¬ V.int (xs.length:Int)=V.int 5 from fun z=>by injection z with z;omega)];rfl
  | @other kind n dy f l h1 h2=>
   cases hx with
   | @tup a xs _ e hl r=>
   cases r with
   | @cons x1 _ _ _ r1 r=>
   cases r with
   | @cons x2 _ _ _ r2 r=>
   cases r with
   | @cons x3 _ _ _ r3 r=>
   cases r with
   | @cons x4 _ _ _ r4 r=>
   cases r with
   | @cons x5 _ _ _ r5 r=>
   cases r;cases r1 with
   | str _ B=>
   refine dB ?_;refine⟨_,rfl,a,_,rfl,.inr (bF e),rfl,_,rfl,dS (fun g=>absurd g (by simp)) (fun g=>?_)⟩;refine⟨_,rfl,a,_,rfl,bF e,rfl,_,_,rfl,_,_,rfl,_,_,rfl,_,_,rfl,_,_,rfl,rfl,_,rfl,rfl,_,rfl,?_⟩;rw[decide_eq_false (show¬ V.str kind=V.str "part" from fun z=>by injection z with z;exact h1 z)];refine dB ?_;refine⟨_,rfl,rfl,_,rfl,?_⟩;rw[decide_eq_false (show¬ V.str kind=V.str "join" from fun z=>by injection z with z;exact h2 z)];refine dB ?_;exact⟨_,rfl,k _ H (bS.refl H) (.tup e hl (.cons (.str kind B) (.cons r2 (.cons r3 (.cons r4 (.cons r5 .nil))))))⟩
  | @part n dy f T R hp W h2 h6 ha=>
   cases hx with
   | @tup a xs _ e hl r=>
   cases r with
   | @cons x1 _ _ _ r1 r=>
   cases r with
   | @cons x2 _ _ _ r2 r=>
   cases r with
   | @cons x3 _ _ _ r3 r=>
   cases r with
   | @cons x4 _ _ _ r4 r=>
   cases r with
   | @cons x5 _ _ _ r5 r=>
   cases r;cases r1 with
   | str _ B=>
   refine dB ?_;refine⟨_,rfl,a,_,rfl,.inr (bF e),rfl,_,rfl,dS (fun g=>absurd g (by simp)) (fun g=>?_)⟩;refine⟨_,rfl,a,_,rfl,bF e,rfl,_,_,rfl,_,_,rfl,_,_,rfl,_,_,rfl,_,_,rfl,rfl,_,rfl,rfl,_,rfl,?_⟩;rw[Ic (show V.str "part"=V.str "part" from rfl)];refine dJ ?_;refine⟨_,rfl,m,x5,_,rfl,r5,fun H1 s1=>⟨_,rfl,?_⟩⟩;refine dS (fun g=>?_) (fun g=>absurd ha g);cases r5 with
   | @tup a5 J _ e5 aK Y=>
   have M:=Y.len;rw[Ad]at M;refine⟨_,rfl,_,rfl,_,rfl,_,rfl,_,rfl,a5,J,T,rfl,s1 _ _ e5,M,by omega,by omega,aBL (Y.same s1),fun L hL=>?_⟩;have sL:=aU (o:=.lst ((g8 T).map fun i=>J.getD i .non)) hL;have U:=kG T (by omega);have aN:(g8 T).length=T.length:=by rw[U.length_eq,BR]
   refine⟨L,_,rfl,.inl ⟨bG aM,fun t ht=>?_⟩⟩;have sT:=aU (o:=.tup ((g8 T).map fun i=>J.getD i .non)) ht;have rR:cY m H ((g8 T).map fun i=>J.getD i .non) (R.map pD):=by
    have rp:=xG Y (g8 T) (fun i hi=>by
     have:=U.mem_iff.mp hi;rw[BF]at this;omega)
    have e2:(g8 T).map (fun i=>(T.map pD).getD i .none)=R.map pD:=by
     rw[← aAe hp W h2 h6 ("","",0),Ck];refine C2 fun i hi=>?_;have ah:=U.mem_iff.mp hi;rw[BF]at ah;simp[ah]
    rw[e2]at rp;exact rp
   refine⟨zZ5,fun t2 Z=>?_⟩;have s2:=aU (o:=.tup [V.str "part",x2,x3,x4,.ref t]) Z;have q:=((s1.trans sL).trans sT).trans s2;exact k _ _ q (.tup aM (by show 5≤1000;decide) (.cons (.str _ B) (.cons (r2.same q) (.cons (r3.same q) (.cons (r4.same q) (.cons (.tup (s2 _ _ aM) (by rw[Ad];omega) (rR.same q)) .nil))))))
  | @join n dy l T R hp W h6 ha=>
   cases hx with
   | @tup a xs _ e hl r=>
   cases r with
   | @cons x1 _ _ _ r1 r=>
   cases r with
   | @cons x2 _ _ _ r2 r=>
   cases r with
   | @cons x3 _ _ _ r3 r=>
   cases r with
   | @cons x4 _ _ _ r4 r=>
   cases r with
   | @cons x5 _ _ _ r5 r=>
   cases r;cases r1 with
   | str _ B=>
   refine dB ?_;refine⟨_,rfl,a,_,rfl,.inr (bF e),rfl,_,rfl,dS (fun g=>absurd g (by simp)) (fun g=>?_)⟩;refine⟨_,rfl,a,_,rfl,bF e,rfl,_,_,rfl,_,_,rfl,_,_,rfl,_,_,rfl,_,_,rfl,rfl,_,rfl,rfl,_,rfl,?_⟩;rw[decide_eq_false (show¬ V.str "join"=V.str "part" from by decide)];refine dB ?_;refine⟨_,rfl,rfl,_,rfl,?_⟩;rw[Ic (show V.str "join"=V.str "join" from rfl)];refine dJ ?_;refine⟨_,rfl,m,x4,_,rfl,r4,fun H1 s1=>⟨_,rfl,?_⟩⟩;refine dS (fun g=>?_) (fun g=>absurd ha g);cases r4 with
   | @tup a4 aT _ e4 bc av=>
   obtain⟨ex4,hz4⟩:=xH av;subst ex4;refine⟨_,rfl,_,rfl,_,rfl,_,rfl,a4,T,rfl,s1 _ _ e4,by omega,fun L ms hL ay aw=>?_⟩;have sL:=aU (o:=.lst (ms.map V.str)) hL;have aq:ms=R:=jO (ay.trans hp) (gS ms aw) (vW W);subst aq;refine⟨L,_,rfl,.inl ⟨bG aM,fun t ht=>?_⟩⟩;have sT:=aU (o:=.tup (ms.map V.str)) ht;have rR:cY m H (ms.map V.str) (ms.map AX):=lG fun z hz=>hz4 z (hp.mem_iff.mpr hz);refine⟨_,rfl,zZ5,fun t2 Z=>?_⟩;have s2:=aU (o:=.tup [V.str "join",x2,x3,.ref t,x5]) Z;have q:=((s1.trans sL).trans sT).trans s2;have aR:=hp.length_eq;exact k _ _ q (.tup aM (by show 5≤1000;decide) (.cons (.str _ B) (.cons (r2.same q) (.cons (r3.same q) (.cons (.tup (s2 _ _ aM) (by rw[Ad];omega) (rR.same q)) (.cons (r5.same q) .nil))))))
inductive vA(vs:List V)(H:Hp)(Q:VK)(u3_:XK):Prop
 | mk (m:Bool) (x:V) (d d':Aj) (q0:vs=[x]) (q1:RdV m H x d) (q2:pN (eG 3 d) d') (q3:rowD d'=true) (q4:∀ y H',bS H H'→RdV m H' y d'→Q y H'):vA vs H Q u3_
def aAK:Sp:=fun vs H Q u3_=>vA vs H Q u3_
theorem aAL:bV ["thing","row"] ["thing"] (aO nO):=⟨rfl,rfl,rfl,by decide,rfl,by decide,by decide⟩
theorem aDR{f:Ah}{fd:AK}(F:Fun K "row_of" "row_of" nO f fd)(q:∃ t,mg "ROW_DEPTH"=some (.int 3 t))
  (W:Cl P w K mg base 4 "as_tuples" ["thing","deep"] (aFr 3))
  (GO:Cl P w K mg base 5 "in_order" ["thing"] aHc)
  (GI:Cl P w K mg base 7 "is_row" ["thing"] aCB):
  cQ P w K mg base CX0 8 f fd ["thing"] aAK:=by
 refine F.ok aAL (fun vs H Q E h=>?_) (fun Z A outer s H vs Q E B h=>?_)
 ·obtain⟨m,x,d,d',rfl,_⟩:=h;rfl
 ·obtain⟨m,x,d,d',rfl,hx,ho,hrow,k⟩:=h;have M:cS 4 _:=B.mono (by decide);have J:cS 5 _:=B.mono (by decide);obtain⟨td,hdp⟩:=q;refine⟨_,aH (bJ (i:=1) aAL.nd rfl (AE rfl) (bE GO J (aG (bE W M (aG (pv 0) (aG (dE (v:=.int 3) (by rfl) hdp ⟨_,rfl⟩) aF))) aF)))
   (aH (c6 (dL (dO (bE GI B (aG (pv 1) aF)))) fA bZ)
   (aV (aY (pv 1)))),?_⟩
  refine⟨_,rfl,m,x,d,rfl,hx,fun y H1 Y r1=>?_⟩;refine⟨m,y,_,d',rfl,r1,ho,fun z H2 s2 U=>?_⟩;refine⟨_,rfl,m,z,d',rfl,U,fun H3 O=>⟨_,rfl,?_⟩⟩;rw[hrow];refine dB ?_;exact⟨_,rfl,k _ _ ((Y.trans s2).trans O) (U.same O)⟩
structure S3(H:Hp)(lf lp lh:Ah)(fs ps hs:List Str):Prop where
 f:H lf=some (.lst (fs.map V.str))
 p:H lp=some (.lst (ps.map V.str))
 h:H lh=some (.lst (hs.map V.str))
 f1:1≤fs.length
 f2:fs.length≤44
 p1:ps.length=10
 h1:hs.length=5
 nf:Nms fs
 np:Nms ps
 nh:Nms hs
theorem S3.but{H H':Hp}{lf F B:Ah}{fs ps z:List Str}{p c:Ah}{ns:List Int}{t:Int}(x:S3 H lf F B fs ps z)(q:c7 H p c ns t)(k:bW p H H'):S3 H' lf F B fs ps z:=⟨cC x.f q k,cC x.p q k,cC x.h q k,x.f1,x.f2,x.p1,x.h1,x.nf,x.np,x.nh⟩
theorem S3.same{H H':Hp}{lf B z:Ah}{fs ps q:List Str}(x:S3 H lf B z fs ps q)(k:bS H H'):S3 H' lf B z fs ps q:=⟨k _ _ x.f,k _ _ x.p,k _ _ x.h,x.f1,x.f2,x.p1,x.h1,x.nf,x.np,x.nh⟩
inductive fH:Str→List Aj→Prop
 | part {land:Str} {R:List P3} (hl:cA land=true) (hr:wP R) (h2:2≤R.length) (h6:R.length≤6) (ha:(R.map pD).all fY=true):fH "part" [.str land,.tuple (R.map pD)]
 | join {land:Str} {R:List Str} (hl:cA land=true) (hr:d9 R=true) (h2:2≤R.length) (h6:R.length≤6) (ha:(R.map AX).all cE=true):fH "join" [.tuple (R.map AX),.str land]
 | forfeit {land house:Str} (hl:cA land=true) (hh:cA house=true):fH "forfeit" [.str land,.str house]
 | measure {field:Str} {n:Int} (hf:cA field=true) (h0:0≤n) (h1:n≤10000000):fH "measure" [.str field,.int n]
 | mend {house other:Str} (hh:cA house=true) (ho:cA other=true) (hne:house≠other):fH "mend" [.str house,.str other]
 | alone {house:Str} (hh:cA house=true):fH "alone" [.str house]
 | breach {field:Str} {n1 n2 n3:Int} (hf:cA field=true) (h10:0≤n1) (h11:n1≤9999999) (h20:0≤n2) (h21:n2≤1000000000) (h30:0≤n3) (h31:n3≤1000000):fH "breach" [.str field,.int n1,.int n2,.int n3]
 | view {field house:Str} {n1:Int} (hf:cA field=true) (h10:0≤n1) (h11:n1≤9999999) (hh:cA house=true):fH "view" [.str field,.int n1,.str house]
def iO(word name:Str)(day:Int)(ds:List Aj):Aj:=.tuple (.str word :: .str name :: .int day :: ds)
theorem aFz{word name:Str}{day:Int}{ds:List Aj}(h:fH word ds)(hn:cA name=true)(h0:0≤day)(h1:day≤9999):rowD (iO word name day ds)=true:=by
 have go:decide (word∈eU)=true→fG word ds=true→rowD (iO word name day ds)=true:=fun a b=>by
  show(decide (word∈eU) && (cA name && (decide (0≤day∧day≤9999) && fG word ds)))=true;rw[a,hn,b,Ic (show 0≤day∧day≤9999 from⟨h0,h1⟩)];rfl
 cases h with
 | @part B R Z hr h2 h6 ha=>
  refine go (by decide) ?_;show(cA B && ((R.map pD).all fY && decide (2≤(R.map pD).length∧(R.map pD).length≤6) && d9 ((R.map pD).map c3)))=true;have e:(R.map pD).map c3=R.map (·.1):=by rw[Ck];rfl
  rw[Z,ha,e,Ad,Ic (show 2≤R.length∧R.length≤6 from⟨h2,h6⟩)];exact Ic (BJ.mpr hr)
 | @join B R Z hr h2 h6 ha=>
  refine go (by decide) ?_;rw[show fG "join" [.tuple (R.map AX),.str B]=xA [.tuple (R.map AX),.str B] from by unfold fG;rw[Ia (by decide),Ib rfl]];show(((R.map AX).all cE && decide (2≤(R.map AX).length∧(R.map AX).length≤6) && d9 ((R.map AX).map aAD)) && cA B)=true;have e:(R.map AX).map aAD=R:=by rw[Ck];exact List.map_id R
  rw[Z,ha,e,Ad,Ic (show 2≤R.length∧R.length≤6 from⟨h2,h6⟩),hr];rfl
 | @forfeit B q Z M=>
  refine go (by decide) ?_;rw[show fG "forfeit" [.str B,.str q]=lE [.str B,.str q] from by unfold fG;rw[Ia (by decide),Ia (by decide),Ib rfl]];show(true && (cA B && (cA q && true)))=true;rw[Z,M];rfl
 | @measure z n Y h0 h1=>
  refine go (by decide) ?_;rw[show fG "measure" [.str z,.int n]=lC [.str z,.int n] from by unfold fG;rw[Ia (by decide),Ia (by decide),Ia (by decide),Ib rfl]];show(cA z && decide (0≤n∧n≤10000000))=true;rw[Y,Ic (show 0≤n∧n≤10000000 from⟨h0,h1⟩)];rfl
 | @mend q other M ho ah=>
  refine go (by decide) ?_;rw[show fG "mend" [.str q,.str other]=qY [.str q,.str other] from by unfold fG;rw[Ia (by decide),Ia (by decide),Ia (by decide),Ia (by decide),Ib rfl]];show(cA q && cA other && !decide (q=other))=true;rw[M,ho,decide_eq_false ah];rfl
 | @alone q M=>
  refine go (by decide) ?_;rw[show fG "alone" [.str q]=qO [.str q] from by unfold fG;rw[Ia (by decide),Ia (by decide),Ia (by decide),Ia (by decide),Ia (by decide),Ib rfl]];exact M
 | @breach z F W U Y J O af ab aa ad=>
  refine go (by decide) ?_;rw[show fG "breach" [.str z,.int F,.int W,.int U]=nU [.str z,.int F,.int W,.int U] from by unfold fG;rw[Ia (by decide),Ia (by decide),Ia (by decide),Ia (by decide),Ia (by decide),Ia (by decide),Ib rfl]];show(cA z && decide (0≤F∧F≤9999999) && decide (0≤W∧W≤1000000000) && decide (0≤U∧U≤1000000))=true;rw[Y,Ic (show 0≤F∧F≤9999999 from⟨J,O⟩),Ic (show 0≤W∧W≤1000000000 from⟨af,ab⟩),Ic (show 0≤U∧U≤1000000 from⟨aa,ad⟩)];rfl
 | @view z q F Y J O M=>
  refine go (by decide) ?_;rw[show fG "view" [.str z,.int F,.str q]=w9 [.str z,.int F,.str q] from by unfold fG;rw[Ia (by decide),Ia (by decide),Ia (by decide),Ia (by decide),Ia (by decide),Ia (by decide),Ia (by decide)]];show(cA z && decide (0≤F∧F≤9999999) && cA q)=true;rw[Y,Ic (show 0≤F∧F≤9999999 from⟨J,O⟩),M];rfl
theorem jS{m:Bool}{H:Hp}{z:Str}(h:cA z=true):RdV m H (.str z) (.str z):=.str z (by have:=(gM h).2;omega)
theorem aFA{w:Str}(h:w∈eU):w.length≤1000:=by
 have:∀ w∈eU,w.length≤1000:=by decide
 exact this w h
theorem aBM{q us vs M:List Str}(U:PyProof.Rows.sortedS q=true)(O:q.Perm us)(J:(us ++ vs).Perm M)(hn:Nms M):d9 q=true∧∀ z∈q,cA z=true:=by
 have F:us.Nodup:=(CV.mp (J.nodup_iff.mpr hn.nd)).1;have B:q.Nodup:=O.nodup_iff.mpr F;refine⟨Ic (((gS q U).and B).imp fun{a b} h=>?_),fun z hz=>hn.ok z (J.mem_iff.mp (Ed _ (O.mem_iff.mp hz)))⟩;rcases Fd (a.cps.toList < b.cps.toList)with z | z
 ·exact z
 ·exact absurd (nE (EN (Do.mp h.1) (Do.mp z))) h.2
def FIn(word:Str)(ds:List Aj)(fs:List Str):Prop:=inV (.str word) [V.str "measure",.str "breach",.str "view"]=true→∀ z cM,ds=.str z :: cM→z∈fs
inductive xJ(vs:List V)(H:Hp)(Q:VK)(u3_:XK):Prop
 | mk (p c:Ah) (ns:List Int) (a:Int) (word name:Str) (day:Int) (tS lf lp lh:Ah) (fs ps hs:List Str) (q0:vs=[.ref p,.str word,.str name,.int day,.ref tS]) (q1:c7 H p c ns a) (q2:a≤700000) (q3:H tS=some (.tup [.ref lf,.ref lp,.ref lh])) (q4:S3 H lf lp lh fs ps hs) (q5:word∈eU) (q6:cA name=true) (q7:∀(t:Ah) (ds:List Aj) (cM:List V) (a':Int) (H':Hp),H' t=some (.tup (.str word :: .str name :: .int day :: cM))→cY false H' cM ds→fH word ds→FIn word ds fs→a≤a'→a'≤a + 80→c7 H' p c ns a'→bW p H H'→Q (.ref t) H'):xJ vs H Q u3_
def aCF:Sp:=fun vs H Q u3_=>xJ vs H Q u3_
theorem gU:bV ["_law_pen_here","_law_word","_law_name","_law_day","_law_sorts_here","_law_fields","_law_plots","_law_houses","_law_land","_law_at","_law_house","_law_field","_law_some_here","_law_parts","_law_inch"] ["_law_pen_here","_law_word","_law_name","_law_day","_law_sorts_here"] (aO oR):=⟨rfl,rfl,rfl,by decide,rfl,by decide,by decide⟩
theorem aFB{f:Ah}{fd:AK}(F:Fun K "_law_row_of" "_law_row_of" oR f fd)(U:mg "len"=none)(ap:mg "tuple"=none)
  (GT:Cl P w K mg base 1 "_law_take" ["_law_pen_here","_law_many"] jE)
  (GN:Cl P w K mg base 2 "_law_number" ["_law_pen_here","_law_bottom","_law_most"] aFt)
  (GS:Cl P w K mg base 2 "_law_some" ["_law_pen_here","_law_names_here","_law_many"] aFw):
  cQ P w K mg base CX0 3 f fd ["_law_pen_here","_law_word","_law_name","_law_day","_law_sorts_here"] aCF:=by
 refine F.ok gU (fun vs H Q E h=>?_) (fun d4 A outer s H vs Q E hr h=>?_)
 ·obtain⟨p,c,ns,a,word,name,day,tS,lf,lp,lh,fs,ps,hs,rfl,_⟩:=h;rfl
 ·obtain⟨p,c,ns,a,word,name,day,tS,lf,lp,lh,fs,ps,hs,rfl,hp,ha,htS,h3,hwd,hnm,k⟩:=h;have ab:cS 1 _:=hr.mono (by decide);refine⟨_,aH (i5 (pv 4) (jV rfl (cH (bH (i:=5) gU.nd rfl (AE rfl)) (cH (bH (i:=6) gU.nd rfl (AE rfl)) (cH (bH (i:=7) gU.nd rfl (Fk rfl)) iE)))))
   (aH (bJ (i:=8) gU.nd rfl (AE rfl) (cO dN (pv 6) (bE GT ab (aG (pv 0) (aG (aW bC (by rfl) U AN (aG (pv 6) aF)) aF))) Ig))
   (aH (bJ (i:=9) gU.nd rfl (AE rfl) (bE GT ab (aG (pv 0) (aG (aW bC (by rfl) U AN (aG (pv 7) aF)) aF))))
   (aH (bJ (i:=10) gU.nd rfl (AE rfl) (cO dN (pv 7) (pv 9) Ig))
   (aH (bJ (i:=11) gU.nd rfl (AE rfl) (cO dN (pv 5) (bE GT ab (aG (pv 0) (aG (aW bC (by rfl) U AN (aG (pv 5) aF)) aF))) Ig))
   (aH (c6 (bY p8 (pv 1) (c9 (aG cG (aG cG aF))) (by with_unfolding_all rfl))
    (aH (bJ (i:=12) gU.nd rfl (AE rfl) (bE GS hr (aG (pv 0) (aG (pv 6) (aG (cO dN (eV (aG aQ (aG aQ (aG (b8 dR aQ (bE GT ab (aG (pv 0) (aG aQ aF)))) aF)))) (bE GT ab (aG (pv 0) (aG aQ aF))) Ig) aF)))))
    (aH (c6 (bY eI (pv 1) cG (cI _)) (aV (aY (c9 (aG (pv 1) (aG (pv 2) (aG (pv 3) (aG (cV cU (by rfl) ap (by kernel_rfl) (aG (pv 12) aF)) (aG (pv 8) aF)))))))) bZ)
    (aH (lO (i:=13) (N:=["_law_one","_law_houses","_law_pen_here"]) (src:=[none,some 7,some 0]) (osc:=aO oR) (oN:=["_law_pen_here","_law_word","_law_name","_law_day","_law_sorts_here","_law_fields","_law_plots","_law_houses","_law_land","_law_at","_law_house","_law_field","_law_some_here","_law_parts","_law_inch"]) ⟨by rfl,by decide,by decide,by decide,rfl,by rfl⟩ gU.nd rfl
      (lH (pv 12))
      fun cl s H fp dt C=>⟨bH (i:=0) (show(["_law_one","_law_houses","_law_pen_here"]:List Str).Nodup by decide) rfl (AE rfl),dZ,c9 (aG (pv 0) (aG (cO (r:=aHE K) dN (pv 1) (bE GT ab (aG (pv 2) (aG (aW (r:=i7 K) bC (by rfl) U AN (aG (pv 1) aF)) aF))) Ig) (aG (bE GN hr (aG (pv 2) (aG aQ (aG (b8 jX aQ aQ) aF)))) aF)))⟩)
    (aV (aY (c9 (aG (pv 1) (aG (pv 2) (aG (pv 3) (aG (pv 8) (aG (cV cU (by rfl) ap (by kernel_rfl) (aG (pv 13) aF)) aF)))))))))))
    bZ)
   (aH (c6 (bY eI (pv 1) cG (cI _)) (aV (aY (c9 (aG (pv 1) (aG (pv 2) (aG (pv 3) (aG (pv 8) (aG (pv 10) aF)))))))) bZ)
   (aH (c6 (bY eI (pv 1) cG (cI _)) (aV (aY (c9 (aG (pv 1) (aG (pv 2) (aG (pv 3) (aG (pv 11) (aG (bE GN hr (aG (pv 0) (aG aQ (aG (b8 jX aQ aQ) aF)))) aF)))))))) bZ)
   (aH (c6 (bY eI (pv 1) cG (cI _)) (aV (aY (c9 (aG (pv 1) (aG (pv 2) (aG (pv 3) (aG (pv 10) (aG (cO dN (pv 7) (b8 gC (b8 dR (b8 dR (pv 9) aQ) (bE GT ab (aG (pv 0) (aG (b8 jW (aW bC (by rfl) U AN (aG (pv 7) aF)) aQ) aF)))) (aW bC (by rfl) U AN (aG (pv 7) aF))) Ig) aF)))))))) bZ)
   (aH (c6 (bY eI (pv 1) cG (cI _)) (aV (aY (c9 (aG (pv 1) (aG (pv 2) (aG (pv 3) (aG (pv 10) aF))))))) bZ)
   (aH (bJ (i:=14) gU.nd rfl (AE rfl) (bE GN hr (aG (pv 0) (aG aQ (aG (b8 jW (b8 jX aQ aQ) aQ) aF)))))
   (aH (c6 (bY eI (pv 1) cG (cI _)) (aV (aY (c9 (aG (pv 1) (aG (pv 2) (aG (pv 3) (aG (pv 11) (aG (pv 14) (aG (pv 10) aF))))))))) bZ)
   (aV (aY (c9 (aG (pv 1) (aG (pv 2) (aG (pv 3) (aG (pv 11) (aG (pv 14) (aG (bE GN hr (aG (pv 0) (aG aQ (aG (b8 jX aQ aQ) aF)))) (aG (bE GN hr (aG (pv 0) (aG aQ (aG (b8 jX aQ aQ) aF)))) aF))))))))))))))))))))),?_⟩
  have fin:∀(cM:List V) (ds:List Aj) (H':Hp) (a':Int),cY false H' cM ds→fH word ds→FIn word ds fs→c7 H' p c ns a'→bW p H H'→a≤a'→a'≤a + 80→∀ t,H' t=none→Q (.ref t) (upd H' t (.tup (.str word :: .str name :: .int day :: cM))):=fun cM ds H' a' hR hS cN h1 h2 h4 h5 t ht=>k t ds cM a' _ aM (hR.same (aU ht)) hS cN h4 h5 (h1.same (aU ht)) (h2.same (aU ht));have cp:∀ j:Int,0≤j→j≤1000000→aHx 10 j:=fun j h1 h2=>⟨h1,h2,by decide⟩
  have p6:((10:Int) ^ Df 6)=1000000:=by decide
  have p7:((10:Int) ^ Df 7)=10000000:=by decide
  have p9:((10:Int) ^ Df 9)=1000000000:=by decide
  have e9:(10:Int) ^ 9=1000000000:=by decide
  have z2:(2:Nat)≤sizeLine:=aS (by decide);have z3:(3:Nat)≤sizeLine:=aS (by decide);have z4:(4:Nat)≤sizeLine:=aS (by decide);have z5:(5:Nat)≤sizeLine:=aS (by decide);have z6:(6:Nat)≤sizeLine:=aS (by decide);have z7:(7:Nat)≤sizeLine:=aS (by decide);have c2:=h3.p1;have b5:=h3.h1;have eA:=h3.f1;have ev:=h3.f2;refine⟨_,rfl,tS,_,rfl,bF htS,rfl,_,_,rfl,_,_,rfl,_,_,rfl,rfl,_,rfl,_,rfl,_,rfl,lp,_,rfl,.inl (bG h3.p),p,c,ns,a,_,rfl,hp,by omega,by rw[Ad];omega,by rw[Ad];omega,fun r1 a1 H1 cz bT eb ed bu aT=>?_⟩;have az:=h3.but hp aT;obtain⟨v,hv,Y⟩:=gY (xs:=ps.map V.str) (i:=r1) cz bT;obtain⟨land,hland,rfl⟩:=Bn.mp hv;have M:=h3.np.ok land hland;refine⟨lp,_,r1,_,rfl,rfl,bG az.p,Y,_,rfl,_,rfl,lh,_,rfl,.inl (bG az.h),p,c,ns,a1,_,rfl,bu,by omega,by rw[Ad];omega,by rw[Ad];omega,fun r2 a2 H2 dm bD ei d7 bz bh=>?_⟩;have ay:=az.but bu bh;rw[Ad]at bD;obtain⟨j2,rfl⟩:∃ j2:Nat,r2=j2:=⟨r2.toNat,by omega⟩
  obtain⟨house,hj2⟩:∃ y,hs[j2]?=some y:=⟨_,Ab (by omega)⟩
  have B:=h3.nh.ok house (AR hj2);have Y:atI (hs.map V.str) ((j2:Nat):Int)=some (V.str house):=fV (by rw[AL,hj2];rfl);refine⟨_,rfl,_,rfl,lh,_,(j2:Int),_,rfl,rfl,bG ay.h,Y,_,rfl,_,rfl,_,rfl,lf,_,rfl,.inl (bG ay.f),p,c,ns,a2,_,rfl,bz,by omega,by rw[Ad];omega,by rw[Ad];omega,fun r3 a3 H3 bK cv dz du ck bj=>?_⟩;have aN:=ay.but bz bj;obtain⟨v,hv,Y⟩:=gY (xs:=fs.map V.str) (i:=r3) bK cv;obtain⟨field,hfield,rfl⟩:=Bn.mp hv;have J:=h3.nf.ok field hfield;refine⟨lf,_,r3,_,rfl,rfl,bG aN.f,Y,?_⟩;have k3:=(aT.trans bh).trans bj;refine⟨_,rfl,z2,fun q hq=>?_⟩;have sq:=aU (o:=.tup [V.str "part",.str "join"]) hq;have Z:=ck.same sq;have aj:=aN.same sq;have k4:=k3.same sq;have be:upd H3 q (.tup [V.str "part",.str "join"]) q=_:=aM;refine⟨q,_,rfl,.inr (bF be),rfl,rfl,_,rfl,?_⟩;generalize upd H3 q (.tup [V.str "part",.str "join"])=H4 at Z aj k4 be ⊢;refine dS (fun g1=>?_) (fun g1=>?_)
  ·refine⟨_,rfl,_,rfl,_,rfl,p,c,ns,a3,_,rfl,Z,by omega,by decide,by decide,fun x1 a5 H5 dy d5 eO ec aZ bR=>?_⟩;refine⟨_,_,rfl,rfl,z3,fun u hu=>?_⟩;have su:=aU (o:=.lst [V.int 2,.int 6,.int (2 + x1)]) hu;refine⟨_,rfl,p,c,ns,a5,_,rfl,aZ.same su,by omega,by decide,by decide,fun x2 a6 H6 bO dF eE dr bi aL=>?_⟩;obtain⟨v,hv,Y⟩:=gY (xs:=[V.int 2,.int 6,.int (2 + x1)]) (i:=x2) bO (by show x2 < 3;omega);obtain⟨n,rfl,hn,hn2⟩:∃ n:Nat,v=.int n∧n≤6∧2≤n:=by
    simp only[Ao,Az,or_false]at hv;rcases hv with rfl | rfl | rfl
    ·exact⟨2,rfl,by omega,by omega⟩
    ·exact⟨6,rfl,by omega,by omega⟩
    ·exact⟨(2 + x1).toNat,by congr 1;omega,by omega,by omega⟩
   have aK:bW p H4 H6:=(bR.same su).trans aL;refine⟨u,_,x2,_,rfl,rfl,bG (cC aM (aZ.same su) aL),Y,?_⟩;have bb:=aj.but Z aK;refine⟨p,c,ns,a6,lp,ps,n,rfl,bi,by omega,bb.p,c2,hn,fun L ms a7 H7 hL d6 cD bd ey et ai bc=>?_⟩;obtain⟨us,vv,hpu,hpw⟩:=bd;obtain⟨hris,hnms⟩:=aBM cD hpu hpw h3.np;have cf:=bb.but bi bc;have k7:=(k4.trans aK).trans bc;refine⟨_,rfl,rfl,_,rfl,dS (fun g2=>?_) (fun g2=>?_)⟩
   ·refine⟨_,rfl,_,rfl,_,rfl,_,rfl,L,_,rfl,.inl ⟨bG hL,fun tt aJ=>?_⟩⟩;have st:=aU (o:=.tup (ms.map V.str)) aJ;have W:word="join":=by
     have:=Ie g2;injection this
    have au:(ms.map AX).all cE=true:=by
     rw[Dt,Be];exact fun z hz=>hnms z hz
    exact⟨_,rfl,z5,fun t ht=>fin _ [.tuple (ms.map AX),.str land] _ a7 (.cons (.tup aM (by rw[Ad];omega) (lG fun z hz=>by have:=(gM (hnms z hz)).2;omega)) (.cons (jS M) .nil)) (by rw[W];exact .join M hris (by omega) (by omega) au) (by rw[W];exact fun z=>absurd z (by decide)) (ai.same st) (k7.same st) (by omega) (by omega) t ht⟩
   ·refine⟨_,rfl,L,rfl,⟨_,bG hL⟩,?_⟩;refine j9 (K:=K) (xs:=ms.map V.str) (fun i ys σ' H'=>∃(a':Int) (o:Option V),σ'=[o,some (.ref lh),some (.ref p)]∧c7 H' p c ns a'∧bW p H7 H'∧a7≤a'∧a'≤a7 + 4 * i∧ys.length=i∧∃ R:List P3,cY false H' ys (R.map pD)∧R.map (·.1)=ms.take i∧(R.map pD).all fY=true)
     ⟨a7,none,rfl,ai,bW.refl p H7,by omega,by omega,rfl,[],.nil,by simp,rfl⟩ (aS (by rw[Ad];omega)) (fun i ys σ H p=>by obtain⟨_,_,_,_,_,_,_,e,_⟩:=p;omega) (fun i ys σ H p=>by obtain⟨_,_,_,_,kk,_⟩:=p;exact bG (cC hL ai kk)) ?_ ?_
    ·rintro i x ys σ' H8 hx ⟨a8,o,rfl,ag,k8,b4,bp,aE,R,rR,eR,aR⟩;have hi:i < ms.length:=by
      have:=(AS.mp hx).1;simpa using this
     have ex:x=V.str ms[i]:=by
      rw[AL,Ab hi]at hx;cases hx;rfl
     subst ex;have bm:=hnms _ (Bk hi);dsimp only[dI];have bg:=cC cf.h ai k8;refine dJ ?_;refine⟨_,rfl,_,rfl,_,rfl,_,rfl,lh,_,rfl,.inl (bG bg),p,c,ns,a8,_,rfl,ag,by omega,by rw[Ad];omega,by rw[Ad];omega,fun r4 a9 H9 bt aC dl eo bw ar=>?_⟩;obtain⟨v,hv,Y⟩:=gY (xs:=hs.map V.str) (i:=r4) bt aC;obtain⟨hse,hhse,rfl⟩:=Bn.mp hv;have ao:=h3.nh.ok hse hhse;refine⟨lh,_,r4,_,rfl,rfl,bG (cC bg ag ar),Y,_,rfl,_,_,rfl,rfl,cp _ (by decide) (by decide),p,c,ns,a9,1,10000000,(by show[V.ref p,V.int 1,V.int ((10:Int) ^ Df 7)] ++ []=_;rw[p7];rfl),bw,by omega,by decide,by decide,by omega,fun n1 b1 G1 ae af aI aw aa O=>?_⟩;refine⟨z3,fun q1 b9=>?_⟩;have aA:=aU (o:=.tup [V.str ms[i],.str hse,.int n1]) b9;refine⟨b1,_,rfl,aa.same aA,((k8.trans ar).trans O).same aA,by omega,by omega,by rw[AH,aE];rfl,R ++ [(ms[i],hse,n1)],?_,?_,?_⟩
     ·rw[AQ];exact cY.app ((yR (yR rR ag ar) bw O).same aA) (.cons (.tup aM (by show 3≤1000;decide) (.cons (jS bm) (.cons (jS ao) (.cons (.int n1) .nil)))) .nil)
     ·rw[AQ,eR,Bl,Ab hi];rfl
     ·rw[AQ,List.all_append,aR];show(true && ((cA ms[i] && cA hse && decide (1≤n1∧n1≤10000000)) && true))=true;rw[bm,ao,Ic (show 1≤n1∧n1≤10000000 from⟨ae,af⟩)];rfl
    ·rintro ys σ' H8 ⟨a8,o,rfl,ag,k8,b4,bp,aE,R,rR,eR,aR⟩ D hD;rw[Ad]at bp;have sD:=aU (o:=.lst ys) hD;refine⟨_,rfl,_,rfl,_,rfl,_,rfl,_,rfl,D,_,rfl,.inl ⟨bG aM,fun tt aJ=>?_⟩⟩;have st:=aU (o:=.tup ys) aJ;have W:word="part":=by
      have h0:"part"=word∨"join"=word:=by simpa[inV,eqV]using g1
      have h1:word="part"∨word="join":=h0.imp Eq.symm Eq.symm;rcases h1 with h1 | h1
      ·exact h1
      ·exact absurd (Ic (by rw[h1])) g2
     rw[Ad,BC]at eR;have d2:R.length=ms.length:=by rw[← eR,Ad]
     have cR:wP R:=by
      have:=Ie hris;rw[← eR]at this;exact(BJ (f:=fun x:P3=>x.1) (R:=fun a b:Str=>a.cps.toList < b.cps.toList)).mp this
     exact⟨z5,fun t ht=>fin _ [.str land,.tuple (R.map pD)] _ a8 (.cons (jS M) (.cons (.tup aM (by rw[aE,Ad];omega) ((rR.same sD).same st)) .nil)) (by rw[W];exact .part M cR (by omega) (by omega) aR) (by rw[W];exact fun z=>absurd z (by decide)) ((ag.same sD).same st) (((k7.trans k8).same sD).same st) (by omega) (by omega) t ht⟩
  ·refine⟨_,rfl,rfl,_,rfl,dS (fun g2=>?_) (fun g2=>?_)⟩
   ·have W:word="forfeit":=by
     have:=Ie g2;injection this
    exact⟨_,rfl,_,rfl,_,rfl,_,rfl,_,rfl,z5,fun t ht=>fin _ [.str land,.str house] _ a3 (.cons (jS M) (.cons (jS B) .nil)) (by rw[W];exact .forfeit M B) (by rw[W];exact fun z=>absurd z (by decide)) Z k4 (by omega) (by omega) t ht⟩
   ·refine⟨_,rfl,rfl,_,rfl,dS (fun g3=>?_) (fun g3=>?_)⟩
    ·refine⟨_,rfl,_,rfl,_,rfl,_,rfl,_,rfl,_,_,rfl,rfl,cp _ (by decide) (by decide),p,c,ns,a3,0,10000000,(by show[V.ref p,V.int 0,V.int ((10:Int) ^ Df 7)] ++ []=_;rw[p7];rfl),Z,by omega,by decide,by decide,by omega,fun n1 b1 G1 ae af aI aw aa O=>?_⟩;have W:word="measure":=by
      have:=Ie g3;injection this
     exact⟨z5,fun t ht=>fin _ [.str field,.int n1] _ b1 (.cons (jS J) (.cons (.int n1) .nil)) (by rw[W];exact .measure J ae af) (fun _ z cM e=>by cases e;exact hfield) aa (k4.trans O) (by omega) (by omega) t ht⟩
    ·refine⟨_,rfl,rfl,_,rfl,dS (fun g4=>?_) (fun g4=>?_)⟩
     ·refine⟨_,rfl,_,rfl,_,rfl,_,rfl,_,rfl,_,rfl,_,_,rfl,rfl,_,rfl,_,rfl,lh,_,rfl,.inl (bG aj.h),_,_,rfl,rfl,p,c,ns,a3,_,rfl,Z,by omega,by rw[Ad];omega,by rw[Ad];omega,fun r4 b1 G1 bt aC aI aw aa O=>?_⟩;have hh:=cC aj.h Z O;refine⟨_,_,rfl,rfl,_,rfl,lh,_,rfl,.inl (bG hh),_,_,rfl,rfl,by rw[Ad];omega,?_⟩;have e5:((hs.map V.str).length:Int)=5:=by rw[Ad,b5];rfl
      rw[e5]at aC;obtain⟨j4,ej4⟩:∃ j4:Nat,((j2:Int) + 1 + r4) % ((hs.map V.str).length:Int)=j4:=⟨(((j2:Int) + 1 + r4) % ((hs.map V.str).length:Int)).toNat,by rw[e5];omega⟩
      have cu:j4 < 5∧j4≠j2:=by
       rw[e5]at ej4;omega
      obtain⟨other,hot⟩:∃ y,hs[j4]?=some y:=⟨_,Ab (by omega)⟩
      have ad:=h3.nh.ok other (AR hot);have b7:house≠other:=fun z=>by
       have cq:j2 < hs.length:=by omega
       have cy:j4 < hs.length:=by omega
       rw[Ab cq]at hj2;rw[Ab cy]at hot;injection hj2 with hj2;injection hot with hot;rw[← hj2,← hot]at z;exact cu.2 ((D5 h3.nh.nd).mp z).symm
      have an:atI (hs.map V.str) ((j4:Nat):Int)=some (V.str other):=fV (by rw[AL,hot];rfl);rw[← ej4]at an;have W:word="mend":=by
       have:=Ie g4;injection this
      exact⟨lh,_,_,_,rfl,rfl,bG hh,an,z5,fun t ht=>fin _ [.str house,.str other] _ b1 (.cons (jS B) (.cons (jS ad) .nil)) (by rw[W];exact .mend B ad b7) (by rw[W];exact fun z=>absurd z (by decide)) aa (k4.trans O) (by omega) (by omega) t ht⟩
     ·refine⟨_,rfl,rfl,_,rfl,dS (fun g5=>?_) (fun g5=>?_)⟩
      ·have W:word="alone":=by
        have:=Ie g5;injection this
       exact⟨_,rfl,_,rfl,_,rfl,_,rfl,z4,fun t ht=>fin _ [.str house] _ a3 (.cons (jS B) .nil) (by rw[W];exact .alone B) (by rw[W];exact fun z=>absurd z (by decide)) Z k4 (by omega) (by omega) t ht⟩
      ·refine⟨_,rfl,_,_,rfl,rfl,cp _ (by decide) (by decide),_,_,rfl,rfl,p,c,ns,a3,0,9999999,(by show[V.ref p,V.int 0,V.int ((10:Int) ^ Df 7 - 1)] ++ []=_;rw[p7];rfl),Z,by omega,by decide,by decide,by omega,fun n1 b1 G1 ae af aI aw aa O=>?_⟩;refine⟨_,rfl,rfl,_,rfl,dS (fun g6=>?_) (fun g6=>?_)⟩
       ·have W:word="view":=by
         have:=Ie g6;injection this
        exact⟨_,rfl,_,rfl,_,rfl,_,rfl,_,rfl,_,rfl,z6,fun t ht=>fin _ [.str field,.int n1,.str house] _ b1 (.cons (jS J) (.cons (.int n1) (.cons (jS B) .nil))) (by rw[W];exact .view J ae af B) (fun _ z cM e=>by cases e;exact hfield) aa (k4.trans O) (by omega) (by omega) t ht⟩
       ·refine⟨_,rfl,_,rfl,_,rfl,_,rfl,_,rfl,_,rfl,_,_,rfl,rfl,cp _ (by decide) (by decide),p,c,ns,b1,0,1000000000,(by show[V.ref p,V.int 0,V.int ((10:Int) ^ Df 9)] ++ []=_;rw[p9];rfl),aa,by omega,by decide,by decide,by omega,fun n2 b2 G2 cg cK ej ea bo aP=>?_⟩;refine⟨_,rfl,_,_,rfl,rfl,cp _ (by decide) (by decide),p,c,ns,b2,0,1000000,(by show[V.ref p,V.int 0,V.int ((10:Int) ^ Df 6)] ++ []=_;rw[p6];rfl),bo,by omega,by decide,by decide,by omega,fun n3 b3 G3 ca bN dk dV bx bv=>?_⟩;have W:word="breach":=by
         have ng:∀ z:Str,¬ decide (V.str word=V.str z)=true→word≠z:=fun z hz e=>hz (Ic (by rw[e]));have bq:word≠"part"∧word≠"join":=by
          constructor
          ·intro z;exact g1 (by rw[z];rfl)
          ·intro z;exact g1 (by rw[z];rfl)
         have hm:=hwd;simp only[eU,Ao,Az,or_false]at hm;rcases hm with z | z | z | z | z | z | z | z
         ·exact absurd z bq.1
         ·exact absurd z bq.2
         ·exact absurd z (ng _ g2)
         ·exact absurd z (ng _ g3)
         ·exact absurd z (ng _ g4)
         ·exact absurd z (ng _ g5)
         ·exact z
         ·exact absurd z (ng _ g6)
        exact⟨z7,fun t ht=>fin _ [.str field,.int n1,.int n2,.int n3] _ b3 (.cons (jS J) (.cons (.int n1) (.cons (.int n2) (.cons (.int n3) .nil)))) (by rw[W];exact .breach J ae af cg cK ca bN) (fun _ z cM e=>by cases e;exact hfield) bx (((k4.trans O).trans aP).trans bv) (by omega) (by omega) t ht⟩
def hid(F:Ah)(H:Hp):Hp:=fun a=>if a=F then none else H a
theorem rA{α:Type}(f:α→Aj):∀{l B:List Aj},l.Perm B→∀{R:List α},B=R.map f→∃ T:List α,T.Perm R∧l=T.map f:=by
 intro l B J
 induction J with
 | nil=>intro R e;exact⟨R,.refl _,e⟩
 | cons a _ F=>
  intro R e;cases R with
  | nil=>cases e
  | cons x R=>
   injection e with e1 e2;obtain⟨T,h1,h2⟩:=F e2;exact⟨x :: T,h1.cons _,by rw[e1,h2];rfl⟩
 | swap a b l=>
  intro R e;cases R with
  | nil=>cases e
  | cons x R=>
   cases R with
   | nil=>injection e with e1 e2;cases e2
   | cons y R=>
    injection e with e1 e2;injection e2 with e2 e3;exact⟨y :: x :: R,.swap _ _ _,by rw[e1,e2,e3];rfl⟩
 | trans _ _ z q=>
  intro R e;obtain⟨T,h1,h2⟩:=q e;obtain⟨U,h3,h4⟩:=z h2;exact⟨U,h3.trans h1,h4⟩
inductive oT:Aj→Aj→Prop
 | same {d:Aj} (h:eD d=false):oT d d
 | lst {es gs:List Aj} (hp:(gs.map (eG 1)).Perm es):oT (.tuple es) (.list gs)
 | tup {es gs:List Aj} (hp:(gs.map (eG 1)).Perm es):oT (.tuple es) (.tuple gs)
theorem aGL{d:Aj}(h:eD d=false)(n:Nat):eG n d=d:=by
 cases n with
 | zero=>rfl
 | succ n=>
  cases d with
  | list ds=>simp[eD]at h
  | tuple ds=>simp[eD]at h
  | _=>rfl
theorem oT.two{d g:Aj}(h:oT d g):eG 2 g=d∨∃ es z,d=.tuple es∧eG 2 g=.tuple z∧z.Perm es:=by
 cases h with
 | same h=>exact .inl (aGL h 2)
 | @lst es gs q=>exact .inr ⟨es,gs.map (eG 1),rfl,rfl,q⟩
 | @tup es gs q=>exact .inr ⟨es,gs.map (eG 1),rfl,rfl,q⟩
inductive jG:List Aj→List Aj→Prop
 | nil:jG [] []
 | cons {d g:Aj} {ds gs:List Aj} (h:oT d g) (r:jG ds gs):jG (d :: ds) (g :: gs)
theorem jG.one{d:Aj}{ds gs:List Aj}(h:jG (d :: ds) gs)(hd:eD d=false):∃ q,gs.map (eG 2)=d :: q.map (eG 2)∧jG ds q:=by
 cases h with
 | @cons _ g _ q h r=>
  refine⟨q,?_,r⟩;rw[A1];rcases h.two with e | ⟨es,z,e,_⟩
  ·rw[e]
  ·rw[e]at hd;simp[eD]at hd
theorem jG.tup{es ds gs:List Aj}(h:jG (.tuple es :: ds) gs):∃ F q,gs.map (eG 2)=.tuple F :: q.map (eG 2)∧F.Perm es∧jG ds q:=by
 cases h with
 | @cons _ g _ q h r=>
  cases h with
  | same h=>simp[eD]at h
  | @lst _ B z=>exact⟨B.map (eG 1),q,rfl,z,r⟩
  | @tup _ B z=>exact⟨B.map (eG 1),q,rfl,z,r⟩
theorem jG.end{gs:List Aj}(h:jG [] gs):gs.map (eG 2)=[]:=by cases h;rfl
theorem aBO{word name:Str}{day:Int}{ds gs:List Aj}(h:fH word ds)(ha:jG (.str word :: .str name :: .int day :: ds) gs):pN (.tuple (gs.map (eG 2))) (iO word name day ds):=by
 obtain⟨g1,e1,h1⟩:=ha.one rfl;obtain⟨g2,e2,h2⟩:=h1.one rfl;obtain⟨g3,e3,h3⟩:=h2.one rfl;rw[e1,e2,e3];cases h with
 | @part F R hl W U J q=>
  obtain⟨g4,e4,h4⟩:=h3.one rfl;obtain⟨ls,g5,e5,hp,h5⟩:=h4.tup;rw[e4,e5,h5.end];obtain⟨T,hT,rfl⟩:=rA pD hp rfl;have O:=hT.length_eq;refine .part hT W (by omega) (by omega) ?_;rw[Be]at q ⊢;exact fun x M=>q x ((hT.map pD).mem_iff.mp M)
 | @join F R hl W U J q=>
  obtain⟨ls,g4,e4,hp,h4⟩:=h3.tup;obtain⟨g5,e5,h5⟩:=h4.one rfl;rw[e4,e5,h5.end];obtain⟨T,hT,rfl⟩:=rA AX hp rfl;have O:=hT.length_eq;refine .join hT W (by omega) ?_;rw[Be]at q ⊢;exact fun x M=>q x ((hT.map AX).mem_iff.mp M)
 | @forfeit F z hl Y=>
  obtain⟨g4,e4,h4⟩:=h3.one rfl;obtain⟨g5,e5,h5⟩:=h4.one rfl;rw[e4,e5,h5.end];exact .other (by decide) (by decide)
 | @measure B n Z h0 ab=>
  obtain⟨g4,e4,h4⟩:=h3.one rfl;obtain⟨g5,e5,h5⟩:=h4.one rfl;rw[e4,e5,h5.end];exact .other (by decide) (by decide)
 | @mend z other Y ho ad=>
  obtain⟨g4,e4,h4⟩:=h3.one rfl;obtain⟨g5,e5,h5⟩:=h4.one rfl;rw[e4,e5,h5.end];exact .other (by decide) (by decide)
 | @alone z Y=>
  obtain⟨g4,e4,h4⟩:=h3.one rfl;rw[e4,h4.end];exact .short (by simp)
 | @breach B n1 n2 n3 Z _ _ _ _ _ _=>
  obtain⟨g4,e4,h4⟩:=h3.one rfl;obtain⟨g5,e5,h5⟩:=h4.one rfl;obtain⟨g6,e6,J⟩:=h5.one rfl;obtain⟨g7,e7,h7⟩:=J.one rfl;rw[e4,e5,e6,e7,h7.end];exact .short (by simp)
 | @view B z n1 Z _ _ Y=>
  obtain⟨g4,e4,h4⟩:=h3.one rfl;obtain⟨g5,e5,h5⟩:=h4.one rfl;obtain⟨g6,e6,J⟩:=h5.one rfl;rw[e4,e5,e6,J.end];exact .short (by simp)
def qR:Aj→Bool
 | .str _=>true
 | .tuple es=>es.all fun e=>!eD e
 | _=>false
theorem fH.inner{word:Str}{ds:List Aj}(h:fH word ds):∀ d∈ds,eD d=false∨∃ es,d=.tuple es∧es.length≤6∧es.all qR=true:=by
 intro d hd;cases h with
 | @part z R O W B J q=>
  simp only[Ao,Az,or_false]at hd;rcases hd with rfl | rfl
  ·exact .inl rfl
  ·refine .inr ⟨_,rfl,by rw[Ad];exact J,?_⟩;rw[Dt,Be];exact fun x _=>rfl
 | @join z R O W B J q=>
  simp only[Ao,Az,or_false]at hd;rcases hd with rfl | rfl
  ·refine .inr ⟨_,rfl,by rw[Ad];exact J,?_⟩;rw[Dt,Be];exact fun x _=>rfl
  ·exact .inl rfl
 | forfeit O F=>
  simp only[Ao,Az,or_false]at hd;rcases hd with rfl | rfl <;> exact .inl rfl
 | measure M h0 U=>
  simp only[Ao,Az,or_false]at hd;rcases hd with rfl | rfl <;> exact .inl rfl
 | mend F Z Y=>
  simp only[Ao,Az,or_false]at hd;rcases hd with rfl | rfl <;> exact .inl rfl
 | alone F=>
  simp only[Ao,Az,or_false]at hd;rcases hd with rfl;exact .inl rfl
 | breach M _ _ _ _ _ _=>
  simp only[Ao,Az,or_false]at hd;rcases hd with rfl | rfl | rfl | rfl <;> exact .inl rfl
 | view M _ _ F=>
  simp only[Ao,Az,or_false]at hd;rcases hd with rfl | rfl | rfl <;> exact .inl rfl
theorem aDS{e:Aj}(h:qR e=true):eG 1 e=e∧∀ ds,e=.tuple ds→eG 1 (.list ds)=e:=by
 cases e with
 | str z=>exact⟨rfl,fun ds z=>nomatch z⟩
 | tuple ds=>
  have q:ds.map (eG 0)=ds:=by
   have:∀ l:List Aj,l.map (eG 0)=l:=fun l=>by
    induction l with
    | nil=>rfl
    | cons a l F=>rw[A1,F];rfl
   exact this ds
  refine⟨?_,fun B z=>?_⟩
  ·show Eg (ds.map (eG 0))=_;rw[q]
  ·cases z;show Eg (ds.map (eG 0))=_;rw[q]
 | _=>simp[qR]at h
def l0(e:Aj):Prop:=(eD e=false∧OkD 102 0 e)∨∃ is:List Aj,e=.tuple is∧is.length≤3∧∀ i∈is,OkD 102 0 i
theorem pO:∀ l:List Aj,l.map (eG 0)=l
 | []=>rfl
 | a :: l=>by rw[A1,pO l];rfl
theorem aGM{g:Aj}(h:l0 (eG 1 g)):OkD 315 1 g:=by
 have go:∀ q:List Aj,l0 (.tuple q)→q.length≤3∧∀ i∈q,OkD 102 0 i:=fun q z=>by
  rcases z with⟨z,_⟩ | ⟨is',z,h1,h2⟩
  ·simp[eD]at z
  ·cases z;exact⟨h1,h2⟩
 cases g with
 | list q=>
  have h':l0 (.tuple (q.map (eG 0))):=h;rw[pO]at h';obtain⟨h1,h2⟩:=go q h';exact OkD.list h2 h1
 | tuple q=>
  have h':l0 (.tuple (q.map (eG 0))):=h;rw[pO]at h';obtain⟨h1,h2⟩:=go q h';exact OkD.tuple h2 h1
 | _=>
  rcases h with⟨_,z⟩ | ⟨_,z,_⟩
  ·exact OkD.mono z (by decide) (by decide)
  ·cases z
theorem fH.ok{word:Str}{ds:List Aj}(h:fH word ds):∀ d∈ds,(eD d=false∧OkD 102 0 d)∨∃ es,d=.tuple es∧es.length≤6∧∀ e∈es,l0 e:=by
 have nm:∀{z:Str},cA z=true→eD (AX z)=false∧OkD 102 0 (.str z):=fun h=>⟨rfl,OkD.name h⟩
 have it:∀{i:Int},0≤i→i≤1000000000→eD (EM i)=false∧OkD 102 0 (.int i):=fun h0 h1=>⟨rfl,OkD.int h0 (DI h1 (by decide))⟩
 intro d hd;cases h with
 | @part M R W hr Z h6 q=>
  simp only[Ao,Az,or_false]at hd;rcases hd with rfl | rfl
  ·exact .inl (nm W)
  ·refine .inr ⟨_,rfl,by rw[Ad];exact h6,fun e O=>?_⟩;obtain⟨x,hx,rfl⟩:=Bn.mp O;have hp:=Be.mp q _ O;have B:(cA x.1 && cA x.2.1 && decide (1≤x.2.2∧x.2.2≤10000000))=true:=hp;rw[AF,AF]at B;have hb:=Ie B.2;refine .inr ⟨_,rfl,by simp,fun i hi=>?_⟩;simp only[Ao,Az,or_false]at hi;rcases hi with rfl | rfl | rfl
   ·exact(nm B.1.1).2
   ·exact(nm B.1.2).2
   ·exact(it (by omega) (by omega)).2
 | @join M R W hr Z h6 q=>
  simp only[Ao,Az,or_false]at hd;rcases hd with rfl | rfl
  ·refine .inr ⟨_,rfl,by rw[Ad];exact h6,fun e O=>?_⟩;obtain⟨x,hx,rfl⟩:=Bn.mp O;exact .inl (nm (Be.mp q _ O))
  ·exact .inl (nm W)
 | forfeit W J=>
  simp only[Ao,Az,or_false]at hd;rcases hd with rfl | rfl
  ·exact .inl (nm W)
  ·exact .inl (nm J)
 | measure U h0 ag=>
  simp only[Ao,Az,or_false]at hd;rcases hd with rfl | rfl
  ·exact .inl (nm U)
  ·exact .inl (it h0 (by omega))
 | mend J ho ak=>
  simp only[Ao,Az,or_false]at hd;rcases hd with rfl | rfl
  ·exact .inl (nm J)
  ·exact .inl (nm ho)
 | alone J=>
  simp only[Ao,Az,or_false]at hd;rcases hd with rfl;exact .inl (nm J)
 | breach U F ac ab af Y ai=>
  simp only[Ao,Az,or_false]at hd;rcases hd with rfl | rfl | rfl | rfl
  ·exact .inl (nm U)
  ·exact .inl (it F (by omega))
  ·exact .inl (it ab (by omega))
  ·exact .inl (it Y (by omega))
 | view U F ac J=>
  simp only[Ao,Az,or_false]at hd;rcases hd with rfl | rfl | rfl
  ·exact .inl (nm U)
  ·exact .inl (it F (by omega))
  ·exact .inl (nm J)
theorem jG.mem:∀{ds gs:List Aj}{g:Aj},jG ds gs→g∈gs→∃ d∈ds,oT d g
 | _,_,_,.nil,h=>by simp at h
 | _,_,_,.cons h r,q=>by
  rcases Ao.mp q with rfl | z
  ·exact⟨_,by simp,h⟩
  ·obtain⟨d,hd,hi⟩:=jG.mem r z;exact⟨d,by simp[hd],hi⟩
theorem jG.len:∀{ds gs:List Aj},jG ds gs→gs.length=ds.length
 | _,_,.nil=>rfl
 | _,_,.cons _ r=>by rw[A6,A6,jG.len r]
theorem aBP{w:Str}(h:w∈eU):cA w=true:=by
 have:∀ w∈eU,cA w=true:=by decide
 exact this w h
theorem fH.word{word:Str}{ds:List Aj}(h:fH word ds):word∈eU:=by
 cases h <;> decide
theorem fH.len{word:Str}{ds:List Aj}(h:fH word ds):ds.length≤4:=by
 cases h <;> simp
theorem aIl{word name:Str}{day:Int}{ds:List Aj}(h:fH word ds)(hn:cA name=true)(q:0≤day)(h1:day≤9999):∀ d∈(AX word :: AX name :: EM day :: ds),(eD d=false∧OkD 102 0 d)∨∃ es,d=.tuple es∧es.length≤6∧∀ e∈es,l0 e:=fun d hd=>by
 simp only[Ao]at hd;rcases hd with rfl | rfl | rfl | hd
 ·exact .inl ⟨rfl,OkD.name (aBP h.word)⟩
 ·exact .inl ⟨rfl,OkD.name hn⟩
 ·exact .inl ⟨rfl,OkD.int q (DI h1 (by decide))⟩
 ·exact h.ok d hd
theorem aDT{J gs:List Aj}(h:∀ d∈J,(eD d=false∧OkD 102 0 d)∨∃ es,d=.tuple es∧es.length≤6∧∀ e∈es,l0 e)(ha:jG J gs)(Y:J.length≤7):OkD 13352 3 (.list gs)∧OkD 13352 3 (.tuple gs):=by
 have Z:=ha.len;have q:∀ g∈gs,OkD 1905 2 g:=fun g W=>by
  obtain⟨d,hd,hi⟩:=ha.mem W;have many:∀{es F:List Aj},Eg es∈J→(F.map (eG 1)).Perm es→F.length≤6∧∀ x∈F,OkD 315 1 x:=fun{es F} hm B=>by
   rcases h _ hm with⟨z,_⟩ | ⟨es',z,h6,hs⟩
   ·simp[eD]at z
   ·cases z;have M:=B.length_eq;rw[Ad]at M;exact⟨by omega,fun x U=>aGM (hs _ (B.mem_iff.mp (Bn.mpr ⟨x,U,rfl⟩)))⟩
  cases hi with
  | same O=>
   rcases h _ hd with⟨_,z⟩ | ⟨es,rfl,_⟩
   ·exact OkD.mono z (by decide) (by decide)
   ·simp[eD]at O
  | lst B=>
   obtain⟨m1,m2⟩:=many hd B;exact OkD.list m2 m1
  | tup B=>
   obtain⟨m1,m2⟩:=many hd B;exact OkD.tuple m2 m1
 exact⟨OkD.list (n:=7) q (by omega),OkD.tuple (n:=7) q (by omega)⟩
theorem jG.refl_of:∀{q:List Aj},(∀ d∈q,eD d=false∨∃ es,d=.tuple es∧es.all qR=true)→jG q q
 | [],_=>.nil
 | d :: q,h=>by
  refine .cons ?_ (jG.refl_of fun x B=>h x (by simp[B]));rcases h d (by simp)with z | ⟨es,rfl,hs⟩
  ·exact .same z
  ·refine .tup ?_;have:es.map (eG 1)=es:=by
    have:∀ l:List Aj,l.all qR=true→l.map (eG 1)=l:=fun l=>by
     induction l with
     | nil=>intro _;rfl
     | cons a l F=>
      intro z;rw[Cw,AF]at z;rw[A1,(aDS z.1).1,F z.2]
    exact this es hs
   rw[this]
theorem pP:∀ R:List P3,AZ (R.map pD)=false
 | []=>rfl
 | x :: R=>by
  show((pD x).hasDict || AZ (R.map pD))=false;rw[pP R];rfl
theorem rC:∀ R:List Str,AZ (R.map AX)=false
 | []=>rfl
 | x :: R=>by
  show((AX x).hasDict || AZ (R.map AX))=false;rw[rC R];rfl
theorem fH.nodict{word:Str}{ds:List Aj}(h:fH word ds):AZ ds=false:=by
 cases h with
 | @part q R _ _ _ _ _=>
  show(false || (AZ (R.map pD) || false))=false;rw[pP];rfl
 | @join q R _ _ _ _ _=>
  show(AZ (R.map AX) || (false || false))=false;rw[rC];rfl
 | _=>rfl
def cZ:Aj→Bool
 | .tuple [f,h,a,i]=>cE f && cE h && dD 1 1000000 a && dD 0 10000000 i
 | _=>false
def aAM:Aj→Bool
 | .tuple ds=>decide (1≤ds.length∧ds.length≤8) && ds.all cZ && decide (ds.map c3).Nodup
 | _=>false
inductive xK(vs:List V)(H:Hp)(Q:VK)(u3_:XK):Prop
 | mk (m:Bool) (x:V) (d:Aj) (q0:vs=[x]) (q1:RdV m H x d) (q2:∀ H',bS H H'→Q (.bl (cZ d)) H'):xK vs H Q u3_
def aCG:Sp:=fun vs H Q u3_=>xK vs H Q u3_
inductive aCH(vs:List V)(H:Hp)(Q:VK)(u3_:XK):Prop
 | mk (m:Bool) (x:V) (d:Aj) (q0:vs=[x]) (q1:RdV m H x d) (q2:∀ H',bS H H'→Q (.bl (aAM d)) H'):aCH vs H Q u3_
def aHd:Sp:=fun vs H Q u3_=>aCH vs H Q u3_
theorem pQ:bV ["thing","field","house","acres","inches"] ["thing"] (aO kW):=⟨rfl,rfl,rfl,by decide,rfl,by decide,by decide⟩
theorem aFC{f:Ah}{fd:AK}(F:Fun K "is_field" "is_field" kW f fd)(T:Txt K mg)
  (GN:Cl P w K mg base 1 "is_name" ["thing"] jF)
  (GW:Cl P w K mg base 2 "is_whole" ["thing","least","most"] lZ):
  cQ P w K mg base CX0 3 f fd ["thing"] aCG:=by
 refine F.ok pQ (fun vs H Q E h=>?_) (fun ag A outer s H vs Q E hr h=>?_)
 ·obtain⟨m,x,d,rfl,_⟩:=h;rfl
 ·obtain⟨m,x,d,rfl,hx,k⟩:=h;have J:cS 1 _:=hr.mono (by decide);obtain⟨ta,hacres⟩:=T.fieldAcres;obtain⟨ti,hinches⟩:=T.inches;refine⟨_,aH (c6 (PW.pt (gX (dL (dO (aW dQ (by rfl) T.isi (by kernel_rfl) (aG (pv 0) (aG (dM (v:=.ty "tuple") (by rfl) T.tuple (by kernel_rfl) rfl) aF)))))
    (fI (bY sV (aW bC (by rfl) T.len AN (aG (pv 0) aF)) aQ (cI _))))) (aV (aY jJ)) bZ)
   (aH (i5 (pv 0) (jV rfl (cH (bH (i:=1) pQ.nd rfl (AE rfl)) (cH (bH (i:=2) pQ.nd rfl (AE rfl)) (cH (bH (i:=3) pQ.nd rfl (AE rfl)) (cH (bH (i:=4) pQ.nd rfl (AE rfl)) iE))))))
   (aH (c6 (PW.pt (gX (dL (dO (bE GN J (aG (pv 1) aF)))) (fI (dL (dO (bE GN J (aG (pv 2) aF))))))) (aV (aY jJ)) bZ)
   (aV (aY (dX (bE GW hr (aG (pv 3) (aG aQ (aG (dE (v:=.int 1000000) (by rfl) hacres ⟨_,rfl⟩) aF)))) (f9 (bE GW hr (aG (pv 4) (aG aQ (aG (dE (v:=.int 10000000) (by rfl) hinches ⟨_,rfl⟩) aF)))))))))),?_⟩
  refine⟨_,rfl,_,"tuple",_,_,rfl,mG hx,jR d,_,rfl,?_⟩;cases hd:gN d with
  | false=>
   have e:cZ d=false:=by
    cases d with
    | tuple ds=>simp[gN]at hd
    | _=>rfl
   rw[e]at k;exact k H (bS.refl H)
  | true=>
   obtain⟨ds,rfl⟩:∃ ds,d=.tuple ds:=by
    cases d with
    | tuple z=>exact⟨z,rfl⟩
    | _=>simp[gN]at hd
   cases hx with
   | @tup a xs _ e hl r=>
    have M:=r.len;refine dB ?_;refine⟨_,rfl,a,xs,rfl,.inr (bF e),rfl,_,rfl,?_⟩;by_cases U:xs.length=4
    ·rw[Ic (show V.int (xs.length:Int)=V.int 4 by rw[U];rfl)];refine dB ?_
     match xs,ds,U,r with
     | [x1,x2,x3,x4],[d1,d2,d3,d4],_,.cons r1 (.cons r2 (.cons r3 (.cons r4 .nil)))=>
      refine⟨_,rfl,a,_,rfl,bF e,rfl,_,_,rfl,_,_,rfl,_,_,rfl,_,_,rfl,rfl,?_⟩;have k':∀ H',bS H H'→Q (.bl (cE d1 && cE d2 && dD 1 1000000 d3 && dD 0 10000000 d4)) H':=k;refine⟨_,rfl,m,x1,d1,rfl,r1,fun H1 B=>⟨_,rfl,?_⟩⟩;refine dS (fun g=>?_) (fun g=>?_)
      ·have W:cE d1=false:=by simpa using g
       have:=k' H1 B;rw[W]at this;exact this
      ·have W:cE d1=true:=by simpa using g
       refine⟨_,rfl,m,x2,d2,rfl,r2.same B,fun H2 O=>⟨_,rfl,?_⟩⟩;refine dS (fun g2=>?_) (fun g2=>?_)
       ·have q:cE d2=false:=by simpa using g2
        have:=k' H2 (B.trans O);rw[W,q]at this;exact this
       ·have q:cE d2=true:=by simpa using g2
        have:=k' H2 (B.trans O);rw[W,q,A8,A8]at this;refine⟨_,rfl,m,x3,d3,1,1000000,rfl,(r3.same B).same O,_,rfl,dS (fun Z=>?_) (fun Z=>?_)⟩
        ·rw[Z,A8]at this;exact⟨_,rfl,m,x4,d4,0,10000000,rfl,(r4.same B).same O,this⟩
        ·have Y:dD 1 1000000 d3=false:=by simpa using Z
         rw[Y]at this;exact this
    ·rw[decide_eq_false (show¬ V.int (xs.length:Int)=V.int 4 from fun z=>U (by have:=V.int.inj z;omega))];refine dJ ?_;have e2:cZ (.tuple ds)=false:=by
      match ds,M with
      | [],_=>rfl
      | [_],_=>rfl
      | [_,_],_=>rfl
      | [_,_,_],_=>rfl
      | [_,_,_,_],h=>exact absurd (by simpa using h) U
      | _ :: _ :: _ :: _ :: _ :: _,_=>rfl
     have:=k H (bS.refl H);rw[e2]at this;exact this
theorem l7{d:Aj}(h:cZ d=true):∃(f:Str) (g a i:Aj),d=.tuple [.str f,g,a,i]∧cA f=true∧cE g=true∧dD 1 1000000 a=true∧dD 0 10000000 i=true:=by
 match d,h with
 | .tuple [.str f,g,a,i],h=>
  simp only[cZ,cE,AF]at h;exact⟨f,g,a,i,rfl,h.1.1.1,h.1.1.2,h.1.2,h.2⟩
 | .tuple [.none,g,a,i],h=>simp[cZ,cE]at h
 | .tuple [.bool _,g,a,i],h=>simp[cZ,cE]at h
 | .tuple [.int _,g,a,i],h=>simp[cZ,cE]at h
 | .tuple [.list _,g,a,i],h=>simp[cZ,cE]at h
 | .tuple [.tuple _,g,a,i],h=>simp[cZ,cE]at h
 | .tuple [.dict _,g,a,i],h=>simp[cZ,cE]at h
theorem aGN{m:Bool}{H:Hp}{x:V}{d:Aj}(r:RdV m H x d)(h:cZ d=true):∃ a xs,x=.ref a∧H a=some (.tup xs)∧atI xs 0=some (V.str (c3 d)):=by
 obtain⟨f,g,a,i,rfl,_⟩:=l7 h;cases r with
 | @tup a xs _ e _ r=>
  cases r with
  | cons q rs=>
   cases q;refine⟨a,_,rfl,e,?_⟩;unfold atI ixN;rw[Ib (by decide),Ib (by rw[A6];omega)];rfl
theorem aJl:bV ["thing"] ["thing"] (aO gF):=⟨rfl,rfl,rfl,by decide,rfl,by decide,by decide⟩
theorem aIm{f:Ah}{fd:AK}(F:Fun K "is_laying" "is_laying" gF f fd)(T:Txt K mg)
  (GF:Cl P w K mg base 3 "is_field" ["thing"] aCG):
  cQ P w K mg base CX0 4 f fd ["thing"] aHd:=by
 refine F.ok aJl (fun vs H Q E h=>?_) (fun ai A outer s H vs Q E hr h=>?_)
 ·obtain⟨m,x,d,rfl,_⟩:=h;rfl
 ·obtain⟨m,x,d,rfl,hx,k⟩:=h;obtain⟨tf,hfields⟩:=T.mostFields;refine⟨_,aH (c6 (PW.pt (gX (dL (dO (aW dQ (by rfl) T.isi (by kernel_rfl) (aG (pv 0) (aG (dM (v:=.ty "tuple") (by rfl) T.tuple (by kernel_rfl) rfl) aF)))))
    (fI (dL (sZ nX nX aQ (aW bC (by rfl) T.len AN (aG (pv 0) aF)) (dE (v:=.int 8) (by rfl) hfields ⟨_,rfl⟩)))))) (aV (aY jJ)) bZ)
   (aH (c6 (dL (dO (aW (o8 rfl) (by rfl) T.al (by kernel_rfl) (aG (eJ (N:=["field"]) (src:=[none]) (osc:=aO gF) (oN:=["thing"]) ⟨by rfl,by decide,by decide,by decide,rfl,by rfl⟩ (iL (pv 0))
     fun cl s H fp dt C=>⟨bH (i:=0) (show(["field"]:List Str).Nodup by decide) rfl (AE rfl),dZ,bE GF hr (aG (pv 0) aF)⟩) aF)))) (aV (aY jJ)) bZ)
   (aV (aY (f7 eI (aW aDl (by rfl) T.len AN (aG (cV (aDk rfl) (by rfl) T.set (by kernel_rfl) (aG (eJ (N:=["field"]) (src:=[none]) (osc:=aO gF) (oN:=["thing"]) ⟨by rfl,by decide,by decide,by decide,rfl,by rfl⟩ (iL (pv 0))
     fun cl s H fp dt C=>⟨bH (i:=0) (show(["field"]:List Str).Nodup by decide) rfl (AE rfl),dZ,cO (r:=tF K) c0 (pv 0) aQ Ig⟩) aF)) aF)) (aW bC (by rfl) T.len AN (aG (pv 0) aF)) (cI _))))),?_⟩
  refine⟨_,rfl,_,"tuple",_,_,rfl,mG hx,jR d,_,rfl,?_⟩;cases hd:gN d with
  | false=>
   have e:aAM d=false:=by
    cases d with
    | tuple ds=>simp[gN]at hd
    | _=>rfl
   rw[e]at k;exact k H (bS.refl H)
  | true=>
   obtain⟨ds,rfl⟩:∃ ds,d=.tuple ds:=by
    cases d with
    | tuple z=>exact⟨z,rfl⟩
    | _=>simp[gN]at hd
   cases hx with
   | @tup a xs _ e hl r=>
    have M:=r.len;have k':∀ H',bS H H'→Q (.bl (decide (1≤ds.length∧ds.length≤8) && ds.all cZ && decide (ds.map c3).Nodup)) H':=k;have O:¬ (1≤ds.length∧ds.length≤8)→Q (.bl false) H:=fun h=>by
     have:=k' H (bS.refl H);rw[decide_eq_false h]at this;exact this
    refine dB ?_;refine⟨_,rfl,a,xs,rfl,.inr (bF e),_,_,rfl,rfl,_,rfl,dS (fun h1=>?_) (fun h1=>?_)⟩
    ·have Z:(1:Int)≤xs.length:=Ie h1;refine⟨_,_,rfl,rfl,_,rfl,?_⟩;by_cases h8:(xs.length:Int)≤8
     ·rw[Ic h8];refine dB ?_;have q:1≤ds.length∧ds.length≤8:=by omega
      refine⟨_,rfl,a,rfl,⟨xs,bF e⟩,?_⟩;refine gQ (xs:=xs) (fun i ys σ H'=>bS H H'∧ys=((ds.take i).map fun d=>V.bl (cZ d))∧∃ o,σ=[o]) ⟨bS.refl H,rfl,none,rfl⟩ (aS (by omega)) (fun i ys σ H' p=>by rw[p.2.1,Ad,A5];omega) (fun i ys σ H' p=>bF (p.1 _ _ e)) ?_ ?_
      ·rintro i y ys σ H' hy ⟨S,rfl,o,rfl⟩;dsimp only[dI];obtain⟨d',hd',r'⟩:=r.at hy;refine dJ ?_;refine⟨_,rfl,m,y,d',rfl,r'.same S,fun H2 s2=>⟨S.trans s2,?_,_,rfl⟩⟩;rw[Bl,hd',AQ];rfl
      ·rintro ys σ H1 ⟨S,rfl,o,rfl⟩ D hD;have J:Ds xs.length ds=ds:=Bu (by omega);rw[J];have W:=S.trans (aU (o:=.lst (ds.map fun d=>V.bl (cZ d))) hD);refine⟨D,ds.map cZ,rfl,bG (by rw[aM,Ck];rfl),?_⟩;generalize upd H1 D (.lst (ds.map fun d=>V.bl (cZ d)))=H2 at W ⊢;refine⟨_,rfl,?_⟩;rw[Dt];refine dS (fun g=>?_) (fun g=>?_)
       ·have U:ds.all cZ=false:=by
         have:(ds.all (id ∘ cZ))=ds.all cZ:=rfl;rw[this]at g;simpa using g
        have:=k' H2 W;rw[U,Gk,C7]at this;exact this
       ·have U:ds.all cZ=true:=by
         have:(ds.all (id ∘ cZ))=ds.all cZ:=rfl;rw[this]at g;simpa using g
        have ga:=Be.mp U;refine⟨_,rfl,a,rfl,⟨xs,bF (W _ _ e)⟩,?_⟩;refine gQ (xs:=xs) (fun i ys σ H'=>bS H H'∧ys=((ds.take i).map fun d=>V.str (c3 d))∧∃ o,σ=[o]) ⟨W,rfl,none,rfl⟩ (aS (by omega)) (fun i ys σ H' p=>by rw[p.2.1,Ad,A5];omega) (fun i ys σ H' p=>bF (p.1 _ _ e)) ?_ ?_
        ·rintro i y ys σ H' hy ⟨S,rfl,o,rfl⟩;dsimp only[dI];obtain⟨d',hd',r'⟩:=r.at hy;obtain⟨a',xs',rfl,e',hat⟩:=aGN r' (ga d' (AR hd'));refine dJ ?_;refine⟨_,rfl,a',xs',0,_,rfl,rfl,bF (S _ _ e'),hat,S,?_,_,rfl⟩;rw[Bl,hd',AQ];rfl
        ·rintro ys σ H3 ⟨S,rfl,o,rfl⟩ D3 Y;rw[J];have S3:=S.trans (aU (o:=.lst (ds.map fun d=>V.str (c3 d))) Y);refine⟨D3,ds.map c3,rfl,bG (by rw[aM,Ck];rfl),by rw[Ad];omega,fun D4 B=>?_⟩;generalize upd H3 D3 (.lst (ds.map fun d=>V.str (c3 d)))=H4 at S3 B ⊢;refine⟨D4,ds.map c3,rfl,aM,by rw[Ad];omega,?_⟩;have S4:=S3.trans (aU (o:=aEx P w D4 (ds.map c3)) B);refine⟨_,rfl,a,xs,rfl,.inr (bF (S4 _ _ e)),rfl,?_⟩;have hc:=wM (ds.map c3);have e5:decide (V.int ((eQ (fun i=>(ds.map c3).getD i "") (ds.map c3).length).length:Nat)=V.int (xs.length:Int))=decide (ds.map c3).Nodup:=by
          rw[← hc,decide_eq_decide,Ad,M];constructor
          ·intro z;exact V.int.inj z
          ·intro z;rw[z]
         have:=k' _ S4;rw[Ic q,U,A8,A8]at this;show Q (.bl (decide (V.int ((eQ (fun i=>(ds.map c3).getD i "") (ds.map c3).length).length:Nat)=V.int (xs.length:Int)))) _;rw[e5];exact this
     ·rw[decide_eq_false h8];exact dJ (O (by omega))
    ·have Z:¬ (1:Int)≤xs.length:=fun z=>h1 (Ic z);exact⟨false,rfl,dJ (O (by omega))⟩
mutual
inductive jH:Aj→Prop
 | non:jH .none
 | bl (b:Bool):jH (.bool b)
 | int (i:Int):jH (.int i)
 | str (z:Str):jH (.str z)
 | tup {ds:List Aj} (h:jT ds):jH (.tuple ds)
inductive jT:List Aj→Prop
 | nil:jT []
 | cons {d:Aj} {ds:List Aj} (a:jH d) (r:jT ds):jT (d :: ds)
end
mutual
theorem RdV.unl{H:Hp}:∀{x:V}{d:Aj},RdV true H x d→jH d→RdV false H x d
 | _,_,.non,_=>.non
 | _,_,.bl b,_=>.bl b
 | _,_,.int i,_=>.int i
 | _,_,.str z h,_=>.str z h
 | _,_,.tup e q r,.tup h=>.tup e q (cY.unl r h)
theorem cY.unl{H:Hp}:∀{xs:List V}{ds:List Aj},cY true H xs ds→jT ds→cY false H xs ds
 | _,_,.nil,_=>.nil
 | _,_,.cons a r,.cons b s=>.cons (RdV.unl a b) (cY.unl r s)
end
theorem rD:∀ R:List P3,jT (R.map pD)
 | []=>.nil
 | x :: R=>.cons (.tup (.cons (.str _) (.cons (.str _) (.cons (.int _) .nil)))) (rD R)
theorem vB:∀ R:List Str,jT (R.map AX)
 | []=>.nil
 | x :: R=>.cons (.str _) (vB R)
theorem fH.plain{word:Str}{ds:List Aj}(h:fH word ds)(name:Str)(day:Int):jH (iO word name day ds):=by
 refine .tup (.cons (.str _) (.cons (.str _) (.cons (.int _) ?_)));cases h with
 | @part q R _ _ _ _ _=>exact .cons (.str _) (.cons (.tup (rD R)) .nil)
 | @join q R _ _ _ _ _=>exact .cons (.tup (vB R)) (.cons (.str _) .nil)
 | forfeit _ _=>exact .cons (.str _) (.cons (.str _) .nil)
 | measure _ _ _=>exact .cons (.str _) (.cons (.int _) .nil)
 | mend _ _ _=>exact .cons (.str _) (.cons (.str _) .nil)
 | alone _=>exact .cons (.str _) .nil
 | breach _ _ _ _ _ _ _=>exact .cons (.str _) (.cons (.int _) (.cons (.int _) (.cons (.int _) .nil)))
 | view _ _ _ _=>exact .cons (.str _) (.cons (.int _) (.cons (.str _) .nil))
def fmV(g0 g1 g2 g3 g4 g5 g6 g7:Ah):List (Key×V):=[(Au "part",.ref g0),(Au "join",.ref g1),(Au "forfeit",.ref g2),(Au "measure",.ref g3),(Au "mend",.ref g4),(Au "alone",.ref g5),(Au "breach",.ref g6),(Au "view",.ref g7)]
def fmR(g0 g1 g2 g3 g4 g5 g6 g7:Ah):List (Key×Ac):=[(Au "part",.ref g0),(Au "join",.ref g1),(Au "forfeit",.ref g2),(Au "measure",.ref g3),(Au "mend",.ref g4),(Au "alone",.ref g5),(Au "breach",.ref g6),(Au "view",.ref g7)]
theorem aIn(z J M B F q O U:Ah):KV (fmV z J M B F q O U) (fmR z J M B F q O U):=.cons ⟨rfl,rfl⟩ (.cons ⟨rfl,rfl⟩ (.cons ⟨rfl,rfl⟩ (.cons ⟨rfl,rfl⟩ (.cons ⟨rfl,rfl⟩ (.cons ⟨rfl,rfl⟩ (.cons ⟨rfl,rfl⟩ (.cons ⟨rfl,rfl⟩ (.nil))))))))
theorem dW(w:AY)(s:Str):AT w.params s=aHk w (Au s):=by
 first | rfl | (unfold aHk hashStr AT;rfl)
theorem isS(s:Str)(t:Tok):sQ (Au s) (.str s t)=true:=by
 show Fi s (.str s t)=true;simp[Fi]
theorem aGO{P:AD}{w:AY}{K:Ai}{a:Ah}{e:Nat}{M J F U q z O B:Tok}{W Y g2 Z g4 g5 g6 g7:Ah}(l:K.lookup a=some { cls:=.type "dict",data:=.dict #[⟨AT w.params "part",.str "part" M,.ref W⟩,⟨AT w.params "join",.str "join" J,.ref Y⟩,⟨AT w.params "forfeit",.str "forfeit" F,.ref g2⟩,⟨AT w.params "measure",.str "measure" U,.ref Z⟩,⟨AT w.params "mend",.str "mend" q,.ref g4⟩,⟨AT w.params "alone",.str "alone" z,.ref g5⟩,⟨AT w.params "breach",.str "breach" O,.ref g6⟩,⟨AT w.params "view",.str "view" B,.ref g7⟩] e }):∀ h:Bm,K.In h→h.DictOf (c8 P w) a (fmR W Y g2 Z g4 g5 g6 g7):=by
 intro h hK;refine⟨_,_,_,hK _ _ l,⟨rfl,rfl,rfl⟩,rfl,?_,?_,?_⟩
 ·intro en he;simp only[List.mem_toArray,Ao,Az,or_false]at he;rcases he with rfl | rfl | rfl | rfl | rfl | rfl | rfl | rfl
  ·exact⟨Au "part",isS "part" M,dW w "part"⟩
  ·exact⟨Au "join",isS "join" J,dW w "join"⟩
  ·exact⟨Au "forfeit",isS "forfeit" F,dW w "forfeit"⟩
  ·exact⟨Au "measure",isS "measure" U,dW w "measure"⟩
  ·exact⟨Au "mend",isS "mend" q,dW w "mend"⟩
  ·exact⟨Au "alone",isS "alone" z,dW w "alone"⟩
  ·exact⟨Au "breach",isS "breach" O,dW w "breach"⟩
  ·exact⟨Au "view",isS "view" B,dW w "view"⟩
 ·exact .cons (isS "part" M) rfl (.cons (isS "join" J) rfl (.cons (isS "forfeit" F) rfl (.cons (isS "measure" U) rfl (.cons (isS "mend" q) rfl (.cons (isS "alone" z) rfl (.cons (isS "breach" O) rfl (.cons (isS "view" B) rfl (.nil))))))))
 ·show([Au "part",Au "join",Au "forfeit",Au "measure",Au "mend",Au "alone",Au "breach",Au "view"]:List Key).Nodup;decide
theorem aHe(W Z g2 Y g4 U g6 g7:Ah)(kind:Str):fF (fmV W Z g2 Y g4 U g6 g7) (Au kind)=if kind="part" then some (.ref W) else if kind="join" then some (.ref Z) else if kind="forfeit" then some (.ref g2) else if kind="measure" then some (.ref Y) else if kind="mend" then some (.ref g4) else if kind="alone" then some (.ref U) else if kind="breach" then some (.ref g6) else if kind="view" then some (.ref g7) else none:=by
 unfold fmV;by_cases O:kind="part"
 ·rw[Ib O];subst O;rfl
 rw[dP (show¬ (Au "part":Key)=Au kind from fun z=>O (by injection z with z;exact z.symm)),Ia O];by_cases h1:kind="join"
 ·rw[Ib h1];subst h1;rfl
 rw[dP (show¬ (Au "join":Key)=Au kind from fun z=>h1 (by injection z with z;exact z.symm)),Ia h1];by_cases h2:kind="forfeit"
 ·rw[Ib h2];subst h2;rfl
 rw[dP (show¬ (Au "forfeit":Key)=Au kind from fun z=>h2 (by injection z with z;exact z.symm)),Ia h2];by_cases B:kind="measure"
 ·rw[Ib B];subst B;rfl
 rw[dP (show¬ (Au "measure":Key)=Au kind from fun z=>B (by injection z with z;exact z.symm)),Ia B];by_cases J:kind="mend"
 ·rw[Ib J];subst J;rfl
 rw[dP (show¬ (Au "mend":Key)=Au kind from fun z=>J (by injection z with z;exact z.symm)),Ia J];by_cases q:kind="alone"
 ·rw[Ib q];subst q;rfl
 rw[dP (show¬ (Au "alone":Key)=Au kind from fun z=>q (by injection z with z;exact z.symm)),Ia q];by_cases F:kind="breach"
 ·rw[Ib F];subst F;rfl
 rw[dP (show¬ (Au "breach":Key)=Au kind from fun z=>F (by injection z with z;exact z.symm)),Ia F];by_cases M:kind="view"
 ·rw[Ib M];subst M;rfl
 rw[dP (show¬ (Au "view":Key)=Au kind from fun z=>M (by injection z with z;exact z.symm)),Ia M];rfl
theorem aJm(U Y g2 W Z O g6 g7:Ah)(kind:Str):(fF (fmV U Y g2 W Z O g6 g7) (Au kind)).isSome=decide (kind∈eU):=by
 rw[aHe];simp only[eU,Ao,Az,or_false];by_cases M:kind="part"
 ·rw[Ib M,Ic (by simp[M])];rfl
 rw[Ia M];by_cases h1:kind="join"
 ·rw[Ib h1,Ic (by simp[h1])];rfl
 rw[Ia h1];by_cases h2:kind="forfeit"
 ·rw[Ib h2,Ic (by simp[h2])];rfl
 rw[Ia h2];by_cases z:kind="measure"
 ·rw[Ib z,Ic (by simp[z])];rfl
 rw[Ia z];by_cases F:kind="mend"
 ·rw[Ib F,Ic (by simp[F])];rfl
 rw[Ia F];by_cases q:kind="alone"
 ·rw[Ib q,Ic (by simp[q])];rfl
 rw[Ia q];by_cases B:kind="breach"
 ·rw[Ib B,Ic (by simp[B])];rfl
 rw[Ia B];by_cases J:kind="view"
 ·rw[Ib J,Ic (by simp[J])];rfl
 rw[Ia J];rw[decide_eq_false (by simp[M,h1,h2,z,F,q,B,J])];rfl
theorem aJn{P:AD}{w:AY}{K:Ai}{mg:Str→Option Ac}{base:Bm}{q z U B M J F O:Ah}{d0:AK}(G0:cQ P w K mg base CX0 6 q d0 ["rest"] (eZ aAH))(k0:Al K (.ref q)=true)(b0:dY K d0 ["rest"] []){d1:AK}(G1:cQ P w K mg base CX0 6 z d1 ["rest"] (eZ xA))(k1:Al K (.ref z)=true)(b1:dY K d1 ["rest"] []){W:AK}(G2:cQ P w K mg base CX0 6 U W ["rest"] (eZ lE))(k2:Al K (.ref U)=true)(b2:dY K W ["rest"] []){d3:AK}(G3:cQ P w K mg base CX0 6 B d3 ["rest"] (eZ lC))(k3:Al K (.ref B)=true)(b3:dY K d3 ["rest"] []){Y:AK}(G4:cQ P w K mg base CX0 6 M Y ["rest"] (eZ qY))(k4:Al K (.ref M)=true)(b4:dY K Y ["rest"] []){d5:AK}(G5:cQ P w K mg base CX0 6 J d5 ["rest"] (eZ qO))(k5:Al K (.ref J)=true)(b5:dY K d5 ["rest"] []){Z:AK}(G6:cQ P w K mg base CX0 6 F Z ["rest"] (eZ nU))(k6:Al K (.ref F)=true)(b6:dY K Z ["rest"] []){d7:AK}(G7:cQ P w K mg base CX0 6 O d7 ["rest"] (eZ w9))(k7:Al K (.ref O)=true)(b7:dY K d7 ["rest"] []):
  ∀(kind:Str) (v:V),fF (fmV q z U B M J F O) (Au kind)=some v→∃(a:Ah) (fd:AK),v=.ref a∧cQ P w K mg base CX0 6 a fd ["rest"] (eZ (fG kind))∧Al K (.ref a)=true∧dY K fd ["rest"] []:=by
 intro kind v h;rw[aHe]at h;by_cases h0:kind="part"
 ·rw[Ib h0]at h;cases h;subst h0;have e:fG "part"=aAH:=by funext ds;unfold fG;rw[Ib rfl]
  exact⟨q,d0,rfl,by rw[e];exact G0,k0,b0⟩
 rw[Ia h0]at h;by_cases h1:kind="join"
 ·rw[Ib h1]at h;cases h;subst h1;have e:fG "join"=xA:=by funext ds;unfold fG;rw[Ia (by decide),Ib rfl]
  exact⟨z,d1,rfl,by rw[e];exact G1,k1,b1⟩
 rw[Ia h1]at h;by_cases h2:kind="forfeit"
 ·rw[Ib h2]at h;cases h;subst h2;have e:fG "forfeit"=lE:=by funext ds;unfold fG;rw[Ia (by decide),Ia (by decide),Ib rfl]
  exact⟨U,W,rfl,by rw[e];exact G2,k2,b2⟩
 rw[Ia h2]at h;by_cases h3:kind="measure"
 ·rw[Ib h3]at h;cases h;subst h3;have e:fG "measure"=lC:=by funext ds;unfold fG;rw[Ia (by decide),Ia (by decide),Ia (by decide),Ib rfl]
  exact⟨B,d3,rfl,by rw[e];exact G3,k3,b3⟩
 rw[Ia h3]at h;by_cases h4:kind="mend"
 ·rw[Ib h4]at h;cases h;subst h4;have e:fG "mend"=qY:=by funext ds;unfold fG;rw[Ia (by decide),Ia (by decide),Ia (by decide),Ia (by decide),Ib rfl]
  exact⟨M,Y,rfl,by rw[e];exact G4,k4,b4⟩
 rw[Ia h4]at h;by_cases h5:kind="alone"
 ·rw[Ib h5]at h;cases h;subst h5;have e:fG "alone"=qO:=by funext ds;unfold fG;rw[Ia (by decide),Ia (by decide),Ia (by decide),Ia (by decide),Ia (by decide),Ib rfl]
  exact⟨J,d5,rfl,by rw[e];exact G5,k5,b5⟩
 rw[Ia h5]at h;by_cases h6:kind="breach"
 ·rw[Ib h6]at h;cases h;subst h6;have e:fG "breach"=nU:=by funext ds;unfold fG;rw[Ia (by decide),Ia (by decide),Ia (by decide),Ia (by decide),Ia (by decide),Ia (by decide),Ib rfl]
  exact⟨F,Z,rfl,by rw[e];exact G6,k6,b6⟩
 rw[Ia h6]at h;by_cases h7:kind="view"
 ·rw[Ib h7]at h;cases h;subst h7;have e:fG "view"=w9:=by funext ds;unfold fG;rw[Ia (by decide),Ia (by decide),Ia (by decide),Ia (by decide),Ia (by decide),Ia (by decide),Ia (by decide)]
  exact⟨O,d7,rfl,by rw[e];exact G7,k7,b7⟩
 rw[Ia h7]at h;cases h
def rkD:List (Key×V):=[(Au "measure",.int 0),(Au "mend",.int 2),(Au "alone",.int 2),(Au "breach",.int 3),(Au "view",.int 3)]
def rk(w:Str):Int:=if w="measure" then 0 else if w="mend"∨w="alone" then 2 else if w="breach"∨w="view" then 3 else 1
theorem aIo:∀ w∈eU,(fF rkD (Au w)).getD (.int 1)=.int (rk w):=by decide
inductive aCI(H:Hp)(x:V)(word name:Str)(day:Int):Prop
 | mk (t:_) (cM:_) (q0:x=.ref t) (q1:H t=some (.tup (.str word :: .str name :: .int day :: cM))) (q2:word∈eU):aCI H x word name day
def aHf(H:Hp)(x:V)(word name:Str)(day:Int):Prop:=aCI H x word name day
theorem aFE{word name:Str}{day:Int}{cM:List V}:atI (V.str word :: .str name :: .int day :: cM) 0=some (.str word)∧atI (V.str word :: .str name :: .int day :: cM) 1=some (.str name)∧atI (V.str word :: .str name :: .int day :: cM) 2=some (.int day):=by
 have q:(V.str word :: V.str name :: V.int day :: cM).length=cM.length + 3:=rfl;unfold atI ixN;rw[q,Ib (by decide),Ib (by omega),Ib (by decide),Ib (by omega),Ib (by decide),Ib (by omega)];exact⟨rfl,rfl,rfl⟩
inductive xL(vs:List V)(H:Hp)(Q:VK)(u3_:XK):Prop
 | mk (x:V) (word name:Str) (day:Int) (q0:vs=[x]) (q1:aHf H x word name day) (q2:∀(q:Ah) (H':Hp),bS H H'→H' q=some (.tup [.int day,.int (rk word),.str name])→Q (.ref q) H'):xL vs H Q u3_
def pR:Sp:=fun vs H Q u3_=>xL vs H Q u3_
theorem aCJ:bV ["_law_row_here","_law_ranks"] ["_law_row_here"] (aO qN):=⟨rfl,rfl,rfl,by decide,rfl,by decide,by decide⟩
theorem aFF{f:Ah}{fd:AK}(F:Fun K "_law_place" "_law_place" qN f fd):cQ P w K mg base CX0 1 f fd ["_law_row_here"] pR:=by
 refine F.ok aCJ (fun vs H Q E h=>?_) (fun O A outer s H vs Q E U h=>?_)
 ·obtain⟨x,word,name,day,rfl,_⟩:=h;rfl
 ·obtain⟨x,word,name,day,rfl,⟨t,cM,rfl,ht,hw⟩,k⟩:=h;have W:=aCc U;refine⟨_,aH (bJ (i:=1) aCJ.nd rfl (AE rfl) (aCb (iJ cG aQ (iJ cG aQ (iJ cG aQ (iJ cG aQ (iJ cG aQ aCa))))) rfl rfl (by simp) (by decide)))
   (aV (aY (c9 (aG (cO c0 (pv 0) aQ Ig) (aG (aEl W (pv 1) (cO c0 (pv 0) aQ Ig) aQ ⟨rfl,rfl,rfl,rfl⟩) (aG (cO c0 (pv 0) aQ Ig) aF)))))),?_⟩
  obtain⟨r0,r1,r2⟩:=aFE (word:=word) (name:=name) (day:=day) (cM:=cM);refine fun d hd=>?_;refine⟨aM,rkD,rfl,(by show 5≤15;decide),?_⟩;rw[show oI [] rkD=rkD by first | rfl | decide];have J:bS H (upd (upd H d (.dK [])) d (.dK rkD)):=fun b o e=>by rw[aBW,bI (aX e hd)];exact e
  have B:upd (upd H d (.dK [])) d (.dK rkD) d=some (.dK rkD):=aM;generalize upd (upd H d (.dK [])) d (.dK rkD)=H2 at J B ⊢;have z:=J _ _ ht;refine⟨_,rfl,t,_,2,_,rfl,rfl,bF z,r2,⟨_,rfl,d,rfl,.inl ⟨rkD,.inl B⟩,_,rfl,t,_,0,_,rfl,rfl,bF z,r0,_,.inl ⟨rkD,Au word,.inl B,rfl,rfl⟩,?_⟩⟩;rw[aIo word hw];refine⟨_,rfl,t,_,1,_,rfl,rfl,bF z,r1,zZ3,fun q M=>?_⟩;exact k q _ (J.trans (aU M)) aM
def rkP:List (Key×V):=[(Au "measure",.int 0),(Au "part",.int 1),(Au "join",.int 1),(Au "forfeit",.int 1),(Au "mend",.int 2),(Au "alone",.int 2),(Au "breach",.int 3),(Au "view",.int 3)]
theorem aGP:∀ w∈eU,fF rkP (Au w)=some (.int (rk w)):=by decide
structure sJ(w:AY)(K:Ai)(a:Ah):Prop where
 ex:∃(e:Nat) (x0 x1 x2 x3 x4 x5 x6 x7 y0 y1 y2 y3 y4 y5 y6 y7:Tok),K.lookup a=some { cls:=.type "dict",data:=.dict #[⟨AT w.params "measure",.str "measure" x0,.int 0 y0⟩,⟨AT w.params "part",.str "part" x1,.int 1 y1⟩,⟨AT w.params "join",.str "join" x2,.int 1 y2⟩,⟨AT w.params "forfeit",.str "forfeit" x3,.int 1 y3⟩,⟨AT w.params "mend",.str "mend" x4,.int 2 y4⟩,⟨AT w.params "alone",.str "alone" x5,.int 2 y5⟩,⟨AT w.params "breach",.str "breach" x6,.int 3 y6⟩,⟨AT w.params "view",.str "view" x7,.int 3 y7⟩] e }
theorem sJ.dict{P:AD}{w:AY}{K:Ai}{a:Ah}(r:sJ w K a):∃ vs,KV rkP vs∧∀ h:Bm,K.In h→h.DictOf (c8 P w) a vs:=by
 obtain⟨e,x0,x1,x2,x3,x4,x5,x6,x7,y0,y1,y2,y3,y4,y5,y6,y7,l⟩:=r.ex;refine⟨[(Au "measure",.int 0 y0),(Au "part",.int 1 y1),(Au "join",.int 1 y2),(Au "forfeit",.int 1 y3),(Au "mend",.int 2 y4),(Au "alone",.int 2 y5),(Au "breach",.int 3 y6),(Au "view",.int 3 y7)],?_,fun h z=>⟨_,_,_,z _ _ l,⟨rfl,rfl,rfl⟩,rfl,?_,?_,?_⟩⟩
 ·exact .cons ⟨rfl,_,rfl⟩ (.cons ⟨rfl,_,rfl⟩ (.cons ⟨rfl,_,rfl⟩ (.cons ⟨rfl,_,rfl⟩ (.cons ⟨rfl,_,rfl⟩ (.cons ⟨rfl,_,rfl⟩ (.cons ⟨rfl,_,rfl⟩ (.cons ⟨rfl,_,rfl⟩ (.nil))))))))
 ·intro B q;simp only[List.mem_toArray,Ao,Az,or_false]at q;rcases q with rfl | rfl | rfl | rfl | rfl | rfl | rfl | rfl
  ·exact⟨Au "measure",isS "measure" x0,dW w "measure"⟩
  ·exact⟨Au "part",isS "part" x1,dW w "part"⟩
  ·exact⟨Au "join",isS "join" x2,dW w "join"⟩
  ·exact⟨Au "forfeit",isS "forfeit" x3,dW w "forfeit"⟩
  ·exact⟨Au "mend",isS "mend" x4,dW w "mend"⟩
  ·exact⟨Au "alone",isS "alone" x5,dW w "alone"⟩
  ·exact⟨Au "breach",isS "breach" x6,dW w "breach"⟩
  ·exact⟨Au "view",isS "view" x7,dW w "view"⟩
 ·exact .cons (isS "measure" x0) rfl (.cons (isS "part" x1) rfl (.cons (isS "join" x2) rfl (.cons (isS "forfeit" x3) rfl (.cons (isS "mend" x4) rfl (.cons (isS "alone" x5) rfl (.cons (isS "breach" x6) rfl (.cons (isS "view" x7) rfl (.nil))))))))
 ·show([Au "measure",Au "part",Au "join",Au "forfeit",Au "mend",Au "alone",Au "breach",Au "view"]:List Key).Nodup;decide
theorem aGQ:bV ["row"] ["row"] (aO qJ):=⟨rfl,rfl,rfl,by decide,rfl,by decide,by decide⟩
theorem aFG{f:Ah}{fd:AK}(F:Fun K "order" "order" qJ f fd){z:Ah}(R:sJ w K z)(J:mg "RANKS"=some (.ref z)):cQ P w K mg base CX0 1 f fd ["row"] pR:=by
 refine F.ok aGQ (fun vs H Q E h=>?_) (fun M A outer s H vs Q E O h=>?_)
 ·obtain⟨x,word,name,day,rfl,_⟩:=h;rfl
 ·obtain⟨x,word,name,day,rfl,⟨t,cM,rfl,ht,hw⟩,k⟩:=h;obtain⟨rvs,rel,hd⟩:=R.dict (P:=P);refine⟨_,aV (aY (c9 (aG (cO c0 (pv 0) aQ Ig) (aG (aCi hd rel (by rfl) J (cO c0 (pv 0) aQ Ig) Ig) (aG (cO c0 (pv 0) aQ Ig) aF))))),?_⟩;obtain⟨r0,r1,r2⟩:=aFE (word:=word) (name:=name) (day:=day) (cM:=cM);refine⟨_,rfl,t,_,2,_,rfl,rfl,bF ht,r2,_,rfl,t,_,0,_,rfl,rfl,bF ht,r0,Au word,_,rfl,aGP word hw,_,rfl,t,_,1,_,rfl,rfl,bF ht,r1,zZ3,fun q B=>?_⟩;exact k q _ (aU B) aM
def aAO(ds:List Aj):Prop:=∀ d∈ds,cZ d=true∧OkD 5000 1 d∧d.hasDict=false
def sK(f h:Str)(a i:Int):Aj:=.tuple [.str f,.str h,.int a,.int i]
theorem aBQ{f h:Str}{a i:Int}(z:cA f=true)(q:cA h=true)(a1:1≤a)(a2:a≤1000000)(F:0≤i)(B:i≤10000000):cZ (sK f h a i)=true∧OkD 5000 1 (sK f h a i)∧(sK f h a i).hasDict=false:=by
 refine⟨?_,?_,rfl⟩
 ·show(cA f && cA h && decide (1≤a∧a≤1000000) && decide (0≤i∧i≤10000000))=true;rw[z,q,Ic ⟨a1,a2⟩,Ic ⟨F,B⟩];rfl
 ·have b:(10000000:Int) < 10 ^ 60:=by decide
  refine(OkD.tuple (n:=4) (b:=102) (k:=0) (fun d hd=>?_) (by show 4≤4;decide)).mono (by decide) (by decide);simp only[Ao,Az,or_false]at hd;rcases hd with rfl | rfl | rfl | rfl
  ·exact OkD.name z
  ·exact OkD.name q
  ·exact OkD.int (by omega) (by omega)
  ·exact OkD.int (by omega) (by omega)
inductive xM(vs:List V)(H:Hp)(Q:VK)(u3_:XK):Prop
 | mk (p c:Ah) (ns:List Int) (a:Int) (lf lh:Ah) (ws hs:List Str) (q0:vs=[.ref p,.ref lf,.ref lh]) (q1:c7 H p c ns a) (q2:a≤800000) (q3:H lf=some (.lst (ws.map V.str))) (q4:(∀ w∈ws,cA w=true)) (q5:ws.length≤44) (q6:H lh=some (.lst (hs.map V.str))) (q7:(∀ w∈hs,cA w=true)) (q8:1≤hs.length) (q9:hs.length≤44) (q10:∀ t xs ds a' H',H' t=some (.tup xs)→cY false H' xs ds→aAO ds→ds.map c3=ws→a≤a'→a'≤a + 400→c7 H' p c ns a'→bW p H H'→Q (.ref t) H'):xM vs H Q u3_
def aCK:Sp:=fun vs H Q u3_=>xM vs H Q u3_
theorem sM:bV ["_law_pen_here","_law_fields","_law_houses","_law_found","_law_field","_law_house"] ["_law_pen_here","_law_fields","_law_houses"] (aO qM):=⟨rfl,rfl,rfl,by decide,rfl,by decide,by decide⟩
theorem aFH{f:Ah}{fd:AK}(F:Fun K "_law_laying" "_law_laying" qM f fd)(ae:mg "len"=none)(af:mg "tuple"=none)
  (GT:Cl P w K mg base 1 "_law_take" ["_law_pen_here","_law_many"] jE)
  (GN:Cl P w K mg base 2 "_law_number" ["_law_pen_here","_law_bottom","_law_most"] aFt):
  cQ P w K mg base CX0 3 f fd ["_law_pen_here","_law_fields","_law_houses"] aCK:=by
 refine F.ok sM (fun vs H Q E h=>?_) (fun bj A outer s H vs Q E hr h=>?_)
 ·obtain⟨p,c,ns,a,lf,lh,ws,hs,rfl,_⟩:=h;rfl
 ·obtain⟨p,c,ns,a,lf,lh,ws,hs,rfl,hp,ha,hlf,hw,hwl,hlh,hh,hl1,hl2,k⟩:=h;have aR:cS 1 _:=hr.mono (by decide);refine⟨_,aH (bJ (i:=3) sM.nd rfl (AE rfl) (eV aF))
   (aH (mQ Cy rfl (lH (pv 1)) (bH (i:=4) sM.nd rfl (AE rfl))
    (aH (bJ (i:=5) sM.nd rfl (AE rfl) (cO dN (pv 2) (bE GT aR (aG (pv 0) (aG (aW bC (by rfl) ae AN (aG (pv 2) aF)) aF))) Ig))
    (aV (m8 (oZ BD Cs Cr iW (pv 3) (aG (c9 (aG (pv 4) (aG (pv 5) (aG (bE GN hr (aG (pv 0) (aG aQ (aG (b8 jX aQ aQ) aF)))) (aG (bE GN hr (aG (pv 0) (aG aQ (aG (b8 jX aQ aQ) aF)))) aF))))) aF))))))
   (aV (aY (cV cU (by rfl) af (by kernel_rfl) (aG (pv 3) aF))))),?_⟩
  have cp:∀ j:Int,0≤j→j≤1000000→aHx 10 j:=fun j h1 h2=>⟨h1,h2,by decide⟩
  have p6:((10:Int) ^ Df 6)=1000000:=by decide
  have p7:((10:Int) ^ Df 7)=10000000:=by decide
  have e9:(10:Int) ^ 9=1000000000:=by decide
  refine⟨A3 _,fun L hL=>?_⟩;have S0:=aU (o:=.lst []) hL;have aq:L≠p:=by
   obtain⟨l,_,z⟩:=hp.ob;exact(aX z hL).symm
  have aT:L≠c:=(aX hp.ce hL).symm;have aD:lf≠L:=aX hlf hL;have aN:lh≠L:=aX hlh hL;refine⟨_,rfl,lf,rfl,⟨_,bG (S0 _ _ hlf)⟩,zE (K:=K) (xs:=ws.map V.str) (fun i σ H'=>Ex3 fun(o4 o5:Option V) (a':Int)=>∃(xs:List V) (ds:List Aj),Aw6 (σ=[some (.ref p),some (.ref lf),some (.ref lh),some (.ref L),o4,o5]) (H' L=some (.lst xs)) (cY false H' xs ds) (aAO ds) (ds.map c3=ws.take i) (Aw6 (c7 H' p c ns a') (a≤a') (a'≤a + 8 * i) (bW p H H') (H' lf=some (.lst (ws.map V.str))) (H' lh=some (.lst (hs.map V.str)))))
   ⟨none,none,a,[],[],rfl,aM,.nil,(fun d hd=>by simp at hd),by simp,hp.same S0,by omega,by simp,bS.but S0,S0 _ _ hlf,S0 _ _ hlh⟩ (fun i σ H' _ h=>?_) ?_ ?_⟩
  ·obtain⟨_,_,_,_,_,_,_,_,_,_,_,_,_,_,h,_⟩:=h;exact bG h
  ·rintro i x σ H1 hx ⟨o4,o5,a1,xs,ds,rfl,U,Y,ab,O,B,ag,ah,aa,Z,M⟩;have hi:i < ws.length:=by
    have:=(AS.mp hx).1;simpa using this
   obtain⟨fn,hfn,rfl⟩:∃ fn,ws[i]?=some fn∧x=V.str fn:=by
    rw[AL]at hx;cases e:ws[i]? with
    | none=>rw[e]at hx;cases hx
    | some z=>rw[e]at hx;exact⟨z,rfl,(Cv.inj hx).symm⟩
   dsimp only[dI];refine⟨_,rfl,_,rfl,_,rfl,lh,_,rfl,.inl (bG M),p,c,ns,a1,_,rfl,B,by omega,by rw[Ad];omega,by rw[Ad];omega,fun r1 a2 H2 aJ av l2 u2 aZ W=>?_⟩;have aj:=cC M B W;obtain⟨v,hv,hat⟩:=gY (xs:=hs.map V.str) (i:=r1) aJ av;obtain⟨hn,hhn,rfl⟩:=Bn.mp hv;refine⟨lh,_,r1,_,rfl,rfl,bG aj,hat,?_⟩;have aA:=cC U B W;refine⟨_,rfl,.inl ⟨rfl,_,bG aA⟩,_,rfl,_,rfl,_,rfl,_,_,rfl,rfl,cp _ (by decide) (by decide),p,c,ns,a2,1,1000000,(by show[V.ref p,V.int 1,V.int ((10:Int) ^ Df 6)] ++ []=_;rw[p6];rfl),aZ,by omega,by decide,by decide,by omega,fun n1 a3 H3 ax aI l3 u3 az ai=>?_⟩;refine⟨_,rfl,_,_,rfl,rfl,cp _ (by decide) (by decide),p,c,ns,a3,0,10000000,(by show[V.ref p,V.int 0,V.int ((10:Int) ^ Df 7)] ++ []=_;rw[p7];rfl),az,by omega,by decide,by decide,by omega,fun n2 a4 H4 ay aL l4 u4 ar am=>?_⟩;refine⟨zZ4,fun q hq=>?_⟩;have sq:=aU (o:=.tup [V.str fn,.str hn,.int n1,.int n2]) hq;have J:=((W.trans ai).trans am).same sq;have ak:=cC U B J;have aK:q≠L:=(aX (cC U B ((W.trans ai).trans am)) hq).symm;have aP:=aBQ (hw fn (AR hfn)) (hh hn hhn) ax aI ay aL;have a0:xs.length≤44:=by
    have e1:=Y.len;have e2:=congrArg List.length O;rw[Ad,A5]at e2;omega
   refine⟨L,xs,_,rfl,rfl,ak,j8 (by omega),?_⟩;have an:=yR Y B J;have kL:∀(b:Ah) (o:HO),upd H4 q (.tup [V.str fn,.str hn,.int n1,.int n2]) b=some o→b≠L→upd (upd H4 q (.tup [V.str fn,.str hn,.int n1,.int n2])) L (.lst (xs ++ [V.ref q])) b=some o:=fun b o e ne=>by rw[bI ne];exact e
   refine⟨_,_,a4,xs ++ [V.ref q],ds ++ [sK fn hn n1 n2],rfl,aM,?_,?_,?_,?_,by omega,by omega,?_,?_,?_⟩
   ·refine cY.app (an.keepF fun b o e _ aB=>kL b o e fun z=>?_) (.cons (.tup (kL _ _ aM aK) (by show 4≤1000;decide) (.cons (.str _ (by have:=gM (hw fn (AR hfn));omega)) (.cons (.str _ (by have:=gM (hh hn hhn);omega)) (.cons (.int _) (.cons (.int _) .nil))))) .nil);rw[z,ak]at e;exact aB _ (Cv.inj e).symm
   ·intro d hd;rcases Bh.mp hd with z | z
    ·exact ab d z
    ·rw[BE.mp z];exact aP
   ·rw[AQ,O,Bl,hfn];rfl
   ·obtain⟨⟨l,hl,e⟩,ce,ge,sm⟩:=ar.same sq;exact⟨⟨l,hl,kL _ _ e aq.symm⟩,kL _ _ ce aT.symm,ge,sm⟩
   ·intro b o e ne;exact kL b o ((aa.trans J) b o e ne) (aX e hL)
   ·exact kL _ _ (cC Z B J) aD
   ·exact kL _ _ (cC M B J) aN
  ·rintro σ H1 ⟨o4,o5,a1,xs,ds,rfl,U,Y,ab,O,B,ag,ah,aa,Z,M⟩;rw[Ad]at ah O;rw[BC]at O;refine⟨_,rfl,L,xs,rfl,.inl ⟨bG U,fun t ht=>?_⟩⟩;have S1:=aU (o:=.tup xs) ht;exact k t xs ds a1 _ aM (Y.same S1) ab O ag (by omega) (B.same S1) (aa.same S1)
theorem fH.fourth{word:Str}{ds:List Aj}(h:fH word ds):∃ d q,ds=d :: q∧(inV (.str word) [V.str "measure",.str "breach",.str "view"]=true→∃ z,d=.str z):=by
 cases h with
 | part _ _ _ _ _=>exact⟨_,_,rfl,fun z=>absurd z (by decide)⟩
 | join _ _ _ _ _=>exact⟨_,_,rfl,fun z=>absurd z (by decide)⟩
 | forfeit _ _=>exact⟨_,_,rfl,fun z=>absurd z (by decide)⟩
 | measure _ _ _=>exact⟨_,_,rfl,fun z=>⟨_,rfl⟩⟩
 | mend _ _ _=>exact⟨_,_,rfl,fun z=>absurd z (by decide)⟩
 | alone _=>exact⟨_,_,rfl,fun z=>absurd z (by decide)⟩
 | breach _ _ _ _ _ _ _=>exact⟨_,_,rfl,fun z=>⟨_,rfl⟩⟩
 | view _ _ _ _=>exact⟨_,_,rfl,fun z=>⟨_,rfl⟩⟩
structure bU where
 word:Str
 name:Str
 day:Int
 ds:List Aj
def bU.d(r:bU):Aj:=iO r.word r.name r.day r.ds
def bU.key(r:bU):L2.K3:=(r.day,rk r.word,r.name)
structure bU.Ok(r:bU)(fs:List Str):Prop where
 rs:fH r.word r.ds
 nm:cA r.name=true
 d0:0≤r.day
 d1:r.day≤9999
 fi:FIn r.word r.ds fs
theorem bU.Ok.row{r:bU}{fs:List Str}(h:r.Ok fs):rowD r.d=true:=aFz h.rs h.nm h.d0 h.d1
theorem bU.Ok.at{r:bU}{fs:List Str}(h:r.Ok fs){m:Bool}{H:Hp}{x:V}(rd:RdV m H x r.d):aHf H x r.word r.name r.day:=by
 unfold bU.d iO at rd;cases rd with
 | @tup a xs _ e J q=>
  cases q with
  | cons z q=>
   cases q with
   | cons F q=>
    cases q with
    | cons B q=>
     cases z;cases F;cases B;exact⟨a,_,rfl,e,h.rs.word⟩
inductive aCL(H:Hp)(t:Ah)(ws:List Str):Prop
 | mk (ps:_) (q0:H t=some (.tup ps)) (q1:ps.length=ws.length) (q2:∀(i:Nat) (x:V),ps[i]?=some x→∃(b:Ah) (z:Str) (cM:List V),x=.ref b∧H b=some (.tup (.str z :: cM))∧ws[i]?=some z):aCL H t ws
def oD(H:Hp)(t:Ah)(ws:List Str):Prop:=aCL H t ws
theorem oD.same{H H':Hp}{t:Ah}{q:List Str}(h:oD H t q)(s:bS H H'):oD H' t q:=by
 obtain⟨ps,e,hl,ha⟩:=h;refine⟨ps,s _ _ e,hl,fun i x B=>?_⟩;obtain⟨b,z,cM,ex,eb,hw⟩:=ha i x B;exact⟨b,z,cM,ex,s _ _ eb,hw⟩
theorem oD.of{m:Bool}{H:Hp}{t:Ah}{ds:List Aj}(r:RdV m H (.ref t) (.tuple ds))(U:ds.all cZ=true):oD H t (ds.map c3):=by
 cases r with
 | @tup _ xs _ e Y q=>
  refine⟨xs,e,by rw[q.len,Ad],fun i x B=>?_⟩;obtain⟨d,hd,rd⟩:=q.at B;have z:=Be.mp U d (AR hd);obtain⟨f,g,a,j,rfl,_⟩:=l7 z;cases rd with
  | @tup b ys _ M J O=>
   cases O with
   | cons F W=>
    cases F;exact⟨b,f,_,rfl,M,by rw[AL,hd];rfl⟩
inductive pS(vs:List V)(H:Hp)(Q:VK)(u3_:XK):Prop
 | mk (m:Bool) (x:V) (d:Aj) (q0:vs=[x]) (q1:RdV m H x d) (q2:aAM (eG 2 d)=true) (q3:∀ y H',bS H H'→RdV m H' y (eG 2 d)→Q y H'):pS vs H Q u3_
def oU:Sp:=fun vs H Q u3_=>pS vs H Q u3_
inductive aHg(H:Hp)(x:V)(r:bU):Prop
 | mk (d:_) (q0:RdV true H x d) (q1:pN (eG 3 d) r.d):aHg H x r
def Thg(H:Hp)(x:V)(r:bU):Prop:=aHg H x r
theorem Thg.same{H H':Hp}{x:V}{r:bU}(h:Thg H x r)(s:bS H H'):Thg H' x r:=by
 obtain⟨d,rd,o⟩:=h;exact⟨d,rd.same s,o⟩
inductive vC(vs:List V)(H:Hp)(Q:VK)(u3_:XK):Prop
 | mk (t:Ah) (ws:List Str) (x:V) (r:bU) (q0:vs=[.ref t,x]) (q1:oD H t ws) (q2:ws.length≤8) (q3:Thg H x r) (q4:r.Ok ws) (q5:∀ y H',bS H H'→RdV false H' y r.d→Q y H'):vC vs H Q u3_
def m5:Sp:=fun vs H Q u3_=>vC vs H Q u3_
theorem vD:bV ["thing","laying"] ["thing"] (aO i4):=⟨rfl,rfl,rfl,by decide,rfl,by decide,by decide⟩
theorem aAQ{f:Ah}{fd:AK}(F:Fun K "laying_of" "laying_of" i4 f fd)(q:∃ t,mg "LAYING_DEPTH"=some (.int 2 t))
  (O:Cl P w K mg base 3 "as_tuples" ["thing","deep"] (aFr 2))
  (Y:Cl P w K mg base 4 "is_laying" ["thing"] aHd):
  cQ P w K mg base CX0 5 f fd ["thing"] oU:=by
 refine F.ok vD (fun vs H Q E h=>?_) (fun W A outer s H vs Q E B h=>?_)
 ·obtain⟨m,x,d,rfl,_⟩:=h;rfl
 ·obtain⟨m,x,d,rfl,hx,hl,k⟩:=h;have z:cS 3 _:=B.mono (by decide);obtain⟨td,hdp⟩:=q;refine⟨_,aH (bJ (i:=1) vD.nd rfl (AE rfl) (bE O z (aG (pv 0) (aG (dE (v:=.int 2) (by rfl) hdp ⟨_,rfl⟩) aF))))
   (aH (c6 (dL (dO (bE Y B (aG (pv 1) aF)))) fA bZ)
   (aV (aY (pv 1)))),?_⟩
  refine⟨_,rfl,m,x,d,rfl,hx,fun y H1 U M=>?_⟩;refine⟨_,rfl,m,y,_,rfl,M,fun Z J=>⟨_,rfl,?_⟩⟩;rw[hl];refine dB ?_;exact⟨_,rfl,k _ _ (U.trans J) (M.same J)⟩
theorem vE:bV ["laying","thing","row","field"] ["laying","thing"] (aO lX):=⟨rfl,rfl,rfl,by decide,rfl,by decide,by decide⟩
theorem aDU{f:Ah}{fd:AK}(F:Fun K "row_for" "row_for" lX f fd)
  (GR:Cl P w K mg base 8 "row_of" ["thing"] aAK)
  (GF:Cl P w K mg base 1 "field_of" ["row"] xC):
  cQ P w K mg base CX0 9 f fd ["laying","thing"] m5:=by
 refine F.ok vE (fun vs H Q E h=>?_) (fun ag A outer s H vs Q E hr h=>?_)
 ·obtain⟨t,ws,x,r,rfl,_⟩:=h;rfl
 ·obtain⟨t,ws,x,r,rfl,hL,hw8,⟨d,hx,hord⟩,hok,k⟩:=h;have aa:cS 1 _:=hr.mono (by decide);refine⟨_,aH (bJ (i:=2) vE.nd rfl (AE rfl) (bE GR hr (aG (pv 1) aF)))
   (aH (bJ (i:=3) vE.nd rfl (AE rfl) (bE GF aa (aG (pv 2) aF)))
   (aH (c6 (PW.pt (mM (bY aFW (pv 3) aD3 (cI _)) (jK (bY gP (pv 3) (eJ (N:=["place"]) (src:=[none]) (osc:=aO lX) (oN:=["laying","thing","row","field"]) ⟨by rfl,by decide,by decide,by decide,rfl,by rfl⟩ (iL (pv 0))
     fun cl s H fp dt C=>⟨bH (i:=0) (show(["place"]:List Str).Nodup by decide) rfl (AE rfl),dZ,cO (r:=tF K) c0 (pv 0) aQ Ig⟩) (by with_unfolding_all rfl))))) fA bZ)
   (aV (aY (pv 2))))),?_⟩
  refine⟨_,rfl,true,x,d,r.d,rfl,hx,hord,hok.row,fun y H1 Y ry=>?_⟩;have J:RdV false H1 y r.d:=RdV.unl ry (hok.rs.plain r.name r.day);obtain⟨d4,rd',erd,hf4⟩:=hok.rs.fourth;obtain⟨U,O,B,rfl,etr,r4⟩:∃ U O B,y=.ref U∧H1 U=some (.tup (.str r.word :: .str r.name :: .int r.day :: O :: B))∧RdV false H1 O d4:=by
   unfold bU.d iO at J;rw[erd]at J;cases J with
   | @tup a xs _ e hl q=>
    cases q with
    | cons q1 q=>
    cases q with
    | cons q2 q=>
    cases q with
    | cons q3 q=>
    cases q with
    | cons q4 q=>
     cases q1;cases q2;cases q3;exact⟨a,_,_,rfl,e,q4⟩
  refine⟨_,rfl,U,r.word,_,_,O,B,rfl,etr,fun H2 W=>?_⟩;have ab:=(hL.same Y).same W;by_cases g:inV (.str r.word) [V.str "measure",.str "breach",.str "view"]=true
  ·obtain⟨z,rfl⟩:=hf4 g;have hz:z∈ws:=hok.fi g z rd' erd;cases r4;rw[Ib g];refine⟨_,rfl,rfl,_,rfl,?_⟩;rw[decide_eq_false (show¬ V.str z=V.non from fun y=>nomatch y)];refine dJ ?_;obtain⟨ps,eps,hpl,hps⟩:=ab;refine⟨_,rfl,_,rfl,t,rfl,⟨ps,bF eps⟩,?_⟩;refine gQ (xs:=ps) (fun i ys σ H'=>bS H2 H'∧ys=(ws.take i).map V.str∧∃ o,σ=[o]) ⟨bS.refl H2,by simp,none,rfl⟩ (aS (by omega)) (fun i ys σ H' p=>by rw[p.2.1,Ad,A5];omega) (fun i ys σ H' p=>bF (p.1 _ _ eps)) ?_ ?_
   ·rintro i px ys σ H' Z ⟨S,rfl,o,rfl⟩;dsimp only[dI];obtain⟨b,zz,rr,rfl,eb,hw⟩:=hps i px Z;refine dJ ?_;refine⟨_,rfl,b,_,0,_,rfl,rfl,bF (S _ _ eb),fV (j:=0) rfl,S,?_,_,rfl⟩;rw[Bl,hw,AQ];rfl
   ·rintro ys σ H' ⟨S,rfl,o,rfl⟩ D hD;rw[hpl,BC];have sD:=aU (o:=.lst (ws.map V.str)) hD;refine⟨D,_,rfl,.inl (bG aM),rfl,fE ws,_,rfl,?_⟩;have M:inV (.str z) (ws.map V.str)=true:=by
     unfold inV;rw[CL];exact⟨V.str z,Bn.mpr ⟨z,hz,rfl⟩,by simp[eqV]⟩
    rw[Ib rfl,M];refine dB ?_;have sA:=(W.trans S).trans sD;exact⟨_,rfl,k _ _ (Y.trans sA) (J.same sA)⟩
  ·rw[Ia g];refine⟨_,rfl,rfl,_,rfl,?_⟩;rw[Ic rfl];refine dB ?_;exact⟨_,rfl,k _ _ (Y.trans W) (J.same W)⟩
theorem yS:bV ["laying","thing"] ["laying","thing"] (aO gG):=⟨rfl,rfl,rfl,by decide,rfl,by decide,by decide⟩
theorem vX{f:Ah}{fd:AK}(F:Fun K "row_for_roll" "row_for_roll" gG f fd)
  (J:Cl P w K mg base 9 "row_for" ["laying","thing"] m5):
  cQ P w K mg base CX0 10 f fd ["laying","thing"] m5:=by
 refine F.ok yS (fun vs H Q E h=>?_) (fun q A outer s H vs Q E B h=>?_)
 ·obtain⟨t,ws,x,r,rfl,_⟩:=h;rfl
 ·refine⟨_,aV (aGd (fun e s z=>z) (aV (aY (bE J B (aG (pv 0) (aG (pv 1) aF)))))),?_⟩;obtain⟨t,ws,x,r,rfl,hL,hw8,ht,hok,k⟩:=h;exact⟨_,rfl,_,rfl,t,ws,x,r,rfl,hL,hw8,ht,hok,k⟩
mutual
theorem RdV.keepN{m:Bool}{H H':Hp}(k:∀ a o,H a=some o→(∀ B,o≠.dK B)→H' a=some o):∀{x:V}{d:Aj},RdV m H x d→d.hasDict=false→RdV m H' x d
 | _,_,.non,_=>.non
 | _,_,.bl b,_=>.bl b
 | _,_,.int i,_=>.int i
 | _,_,.str z h,_=>.str z h
 | _,_,.lst hm e q r,hd=>.lst hm (k _ _ e (fun _ z=>nomatch z)) q (cY.keepN k r hd)
 | _,_,.tup e q r,hd=>.tup (k _ _ e (fun _ z=>nomatch z)) q (cY.keepN k r hd)
 | _,_,.dct hm e,hd=>by simp[Em]at hd
theorem cY.keepN{m:Bool}{H H':Hp}(k:∀ a o,H a=some o→(∀ z,o≠.dK z)→H' a=some o):∀{xs:List V}{ds:List Aj},cY m H xs ds→AZ ds=false→cY m H' xs ds
 | _,_,.nil,_=>.nil
 | _,_,.cons a r,hd=>by
  have q:(Em _ || AZ _)=false:=hd;rw[E7]at q;exact .cons (RdV.keepN k a q.1) (cY.keepN k r q.2)
end
def pT(H:Hp)(fc:List (Key×V))(us:List bU):Prop:=fc.length=us.length∧∀(i:Nat) (p:Key×V),fc[i]?=some p→∃ u,us[i]?=some u∧p.1=Au u.name∧RdV false H p.2 u.d
theorem pT.same{H H':Hp}{fc:List (Key×V)}{us:List bU}(h:pT H fc us)(s:∀{x:V}{d:Aj},RdV false H x d→RdV false H' x d):pT H' fc us:=
 ⟨h.1,fun i p q=>by obtain⟨u,a,b,c⟩:=h.2 i p q;exact⟨u,a,b,s c⟩⟩
inductive aJo(t q D:Ah)(H:Hp)(rs:List bU)(i:Nat)(σ:L2.St)(H':Hp):Prop
 | mk (o3 o4:Option V) (fc:List (Key×V)) (us:List bU) (q0:σ=[some (.ref t),some (.ref q),some (.ref D),o3,o4]) (q1:bS H H') (q2:H' D=some (.dK fc)) (q3:pT H' fc us) (q4:(us.map (·.name)).Nodup) (q5:∀ r,r∈us↔r∈rs.take i):aJo t q D H rs i σ H'
def Pv(t q D:Ah)(H:Hp)(rs:List bU)(i:Nat)(σ:L2.St)(H':Hp):Prop:=aJo t q D H rs i σ H'
structure aFI(H:Hp)(ws:List Str)(xs:List V)(rs:List bU):Prop where
 len:xs.length=rs.length
 at':∀(i:Nat) (x:V),xs[i]?=some x→∃ r,rs[i]?=some r∧Thg H x r∧r.Ok ws
 uniq:∀ r∈rs,∀ r'∈rs,r.name=r'.name→r=r'
inductive rE(vs:List V)(H:Hp)(Q:VK)(u3_:XK):Prop
 | mk (t:Ah) (ws:List Str) (q:Ah) (xs:List V) (rs:List bU) (q0:vs=[.ref t,.ref q]) (q1:oD H t ws) (q2:ws.length≤8) (q3:(H q=some (.lst xs)∨H q=some (.tup xs))) (q4:rs.length≤200) (q5:aFI H ws xs rs) (q6:∀(D:Ah) (fc:List (Key×V)) (us:List bU) (H':Hp),bS H H'→H D=none→H' D=some (.dK fc)→pT H' fc us→(us.map (·.name)).Nodup→(∀ r,r∈us↔r∈rs)→Q (.ref D) H'):rE vs H Q u3_
def xN:Sp:=fun vs H Q u3_=>rE vs H Q u3_
theorem fH.dep{word:Str}{ds:List Aj}(h:fH word ds):∀ d∈ds,aDx 2 d:=by
 have q:∀{n:Nat} {d:Aj},eD d=false→aDx n d:=fun{n d} hd=>by
  have:∀ ds,d≠.tuple ds∧d≠.list ds:=fun ds=>⟨fun z=>by rw[z]at hd;simp[eD]at hd,fun z=>by rw[z]at hd;simp[eD]at hd⟩
  cases n with
  | zero=>exact this
  | succ n=>exact .inl this
 intro d hd;rcases h.ok d hd with⟨z,_⟩ | ⟨es,rfl,_,hs⟩
 ·exact q z
 ·refine .inr ⟨es,rfl,fun e F=>?_⟩;rcases hs e F with⟨z,_⟩ | ⟨is,rfl,_,hi⟩
  ·exact q z
  ·refine .inr ⟨is,rfl,fun i B=>?_⟩;have hz:=(hi i B).dp;refine q ?_;cases i with
   | list ds=>simp[BA]at hz
   | tuple ds=>simp[BA]at hz
   | _=>rfl
theorem aCM{word name:Str}{day:Int}{ds:List Aj}(h:fH word ds):∀ e∈(AX word :: AX name :: EM day :: ds),aDx 2 e:=fun e q=>by
 simp only[Ao]at q;rcases q with rfl | rfl | rfl | q
 ·exact .inl fun ds=>⟨(fun z=>nomatch z),fun z=>nomatch z⟩
 ·exact .inl fun ds=>⟨(fun z=>nomatch z),fun z=>nomatch z⟩
 ·exact .inl fun ds=>⟨(fun z=>nomatch z),fun z=>nomatch z⟩
 ·exact h.dep e q
theorem fU{word name:Str}{day:Int}{ds:List Aj}(h:fH word ds):AZ (AX word :: AX name :: EM day :: ds)=false:=by
 show(false || (false || (false || AZ ds)))=false;rw[h.nodict];rfl
theorem aCN{fc:List (Key×V)}{k:Key}{v:V}(h:fF fc k=some v):∃ i:Nat,fc[i]?=some (k,v):=by
 unfold fF at h;cases q:fc.find? (fun J=>decide (J.1=k))with
 | none=>rw[q]at h;cases h
 | some p=>
  rw[q]at h;have F:=List.find?_some q;have hm:=List.mem_of_find?_eq_some q;obtain⟨i,hi⟩:=BK hm;have z:p.1=k:=Ie F;have B:p.2=v:=by simpa using h
  refine⟨i,?_⟩;rw[hi,← z,← B]
theorem pU{fc:List (Key×V)}{k:Key}(h:fF fc k=none):∀ p∈fc,p.1≠k:=fun p z e=>by
 unfold fF at h;cases q:fc.find? (fun B=>decide (B.1=k))with
 | none=>
  have:=List.find?_eq_none.mp q p z;exact this (Ic e)
 | some F=>rw[q]at h;cases h
theorem iC:bV ["laying","things","named","thing","row"] ["laying","things"] (aO jC):=⟨rfl,rfl,rfl,by decide,rfl,by decide,by decide⟩
theorem aBR{f:Ah}{fd:AK}(F:Fun K "by_names" "by_names" jC f fd)
  (GR:Cl P w K mg base 10 "row_for_roll" ["laying","thing"] m5):
  cQ P w K mg base CX0 11 f fd ["laying","things"] xN:=by
 refine F.ok iC (fun vs H Q E h=>?_) (fun aA A outer s H vs Q E hr h=>?_)
 ·obtain⟨t,ws,q,xs,rs,rfl,_⟩:=h;rfl
 ·obtain⟨t,ws,q,xs,rs,rfl,hL,hw8,hqq,h200,hT,k⟩:=h;have ar:=hT.len;have hu:(A.deeper (EK "by_names" (aO jC) s.heap.objs.size f aA)).units + 4 * 2 + 8 < cLine:=by have:=hr.un;omega
  rcases hqq with hq | hq
  ·refine⟨_,aH (bJ (i:=2) iC.nd rfl (AE rfl) zO)
    (aH (mQ Cy rfl (lH (pv 1)) (bH (i:=3) iC.nd rfl (AE rfl))
     (aH (bJ (i:=4) iC.nd rfl (AE rfl) (bE GR hr (aG (pv 0) (aG (pv 3) aF))))
     (aV (c6 (bY (wS (n:=2) hu) (aEQ (pv 2) (cO c0 (pv 4) aQ Ig) (pv 4) ⟨rfl,rfl,rfl,rfl⟩) (pv 4) (cI _)) fA bZ))))
    (aV (aY (pv 2)))),?_⟩
   refine fun D hD=>?_;have sD:=aU (o:=.dK []) hD;refine⟨_,rfl,q,rfl,⟨xs,bG (sD _ _ hq)⟩,zE (K:=K) (xs:=xs) (Pv t q D H rs) ⟨none,none,[],[],rfl,sD,aM,⟨rfl,fun i p J=>by simp at J⟩,Gi,fun r=>by simp⟩ (fun j σ H' _ z=>by obtain⟨_,_,_,_,_,S,_⟩:=z;exact bG (S _ _ hq)) ?_ ?_⟩
   ·rintro i x σ H1 hx ⟨o3,o4,fc,us,rfl,S,Y,hN,M,B⟩;obtain⟨r,hr1,ht,hok⟩:=hT.at' i x hx;have hm:=AR hr1;dsimp only[dI];refine⟨_,rfl,_,rfl,t,ws,x,r,rfl,hL.same S,hw8,ht.same S,hok,fun y H2 s2 ry=>?_⟩;have nod:=fU (word:=r.word) (name:=r.name) (day:=r.day) hok.rs;have ad:r.d.hasDict=false:=nod;have dep:=aCM (word:=r.word) (name:=r.name) (day:=r.day) hok.rs;have W:=hN.same fun z=>z.same s2;have O:=s2 _ _ Y;obtain⟨a,cM,rfl,ea,_⟩:=hok.at ry;have ay:fc.length≤200:=by
     rw[hN.1];have h1:us.length≤(rs.take i).length:=by
      have h2:us.Nodup:=Dw (fun h e=>h (by rw[e])) (BJ.mp M);exact DL h2 fun z hz=>(B z).mp hz
     rw[A5]at h1;omega
    have aa:rs.take (i + 1)=rs.take i ++ [r]:=by rw[Bl,hr1];rfl
    refine⟨_,rfl,D,rfl,.inl ⟨_,.inl O⟩,_,rfl,a,_,1,_,rfl,rfl,bF ea,fV (j:=1) rfl,_,rfl,fc,Au r.name,O,by omega,rfl,fun v hv=>?_,fun hv=>?_⟩
    ·obtain⟨j,U⟩:=aCN hv;obtain⟨u,hu1,hu2,ru⟩:=W.2 j _ U;have ak:u.name=r.name:=by injection hu2.symm
     have aj:u∈rs:=B5 ((B u).mp (AR hu1));have an:u=r:=hT.uniq u aj r hm ak;subst an;obtain⟨b,_,rfl,eb,_⟩:=hok.at ru;refine⟨_,rfl,b,a,_,rfl,rfl,ru,ry,dep,nod,_,rfl,dB ?_⟩;refine⟨_,_,fc,us,rfl,S.trans s2,O,W,M,fun z=>?_⟩;rw[aa,Bh,B z,BE];exact⟨.inl,fun h=>h.elim id fun e=>by rw[e];exact(B u).mp (AR hu1)⟩
    ·have nm:∀ p∈fc,p.1≠Au r.name:=pU hv;have ep:fZ fc (Au r.name) (V.ref a)=fc ++ [(Au r.name,V.ref a)]:=by
      unfold fZ;rw[Ia];intro h;obtain⟨p,J,e⟩:=CL.mp h;exact nm p J (Ie e)
     rw[ep];have kN:∀ b o,H2 b=some o→(∀ kv,o≠.dK kv)→upd H2 D (.dK (fc ++ [(Au r.name,V.ref a)])) b=some o:=fun b o e ho=>by
      rw[bI fun z=>by rw[z,O]at e;cases e;exact ho _ rfl];exact e
     have Z:=RdV.keepN kN ry ad;refine⟨_,rfl,a,a,_,rfl,rfl,Z,Z,dep,nod,_,rfl,dB ?_⟩;have nu:∀ u∈us,u.name≠r.name:=fun u hu e=>by
      obtain⟨j,U⟩:=BK hu;have ab:j < fc.length:=by rw[hN.1];exact(AS.mp U).1
      obtain⟨u',hu1,hu2,_⟩:=hN.2 j fc[j] (Ab ab);rw[U]at hu1;cases hu1;exact nm fc[j] (Bk ab) (by rw[hu2,e])
     refine⟨_,_,fc ++ [(Au r.name,V.ref a)],us ++ [r],rfl,fun b o e=>?_,aM,⟨by rw[AH,AH,hN.1];rfl,fun j p J=>?_⟩,?_,fun z=>?_⟩
     ·rw[bI fun z=>by rw[z,hD]at e;cases e];exact s2 _ _ (S _ _ e)
     ·by_cases U:j < fc.length
      ·rw[BU U]at J;obtain⟨u,h1,h2,h3⟩:=W.2 j p J;have ac:u∈rs:=B5 ((B u).mp (AR h1));obtain⟨j2,hj2⟩:=BK ac;have am:j2 < xs.length:=by rw[hT.len];exact(AS.mp hj2).1
       obtain⟨u2,hu2,_,hok2⟩:=hT.at' j2 _ (Ab am);rw[hj2]at hu2;cases hu2;exact⟨u,by rw[BU (by rw[← hN.1];exact U)];exact h1,h2,RdV.keepN kN h3 (fU (word:=u.word) (name:=u.name) (day:=u.day) hok2.rs)⟩
      ·rw[BO (by omega)]at J;have e0:j - fc.length=0:=by
        cases h:j - fc.length with
        | zero=>rfl
        | succ n=>rw[h]at J;simp at J
       rw[e0]at J;have ah:(Au r.name,V.ref a)=p:=by simpa using J
       subst ah;exact⟨r,by rw[BO (by rw[← hN.1];omega),← hN.1,e0];rfl,rfl,Z⟩
     ·rw[AQ,CV];refine⟨M,by simp,fun p J q hq=>?_⟩;obtain⟨u,hu,rfl⟩:=Bn.mp J;have:q=r.name:=by simpa using hq
      rw[this];exact nu u hu
     ·rw[aa,Bh,Bh,B z]
   ·rintro σ H1 ⟨o3,o4,fc,us,rfl,S,Y,hN,M,B⟩;rw[ar,BC]at B;exact⟨_,rfl,k D fc us H1 S hD Y hN M B⟩
  ·refine⟨_,aH (bJ (i:=2) iC.nd rfl (AE rfl) zO)
    (aH (mQ Cy rfl (iL (pv 1)) (bH (i:=3) iC.nd rfl (AE rfl))
     (aH (bJ (i:=4) iC.nd rfl (AE rfl) (bE GR hr (aG (pv 0) (aG (pv 3) aF))))
     (aV (c6 (bY (wS (n:=2) hu) (aEQ (pv 2) (cO c0 (pv 4) aQ Ig) (pv 4) ⟨rfl,rfl,rfl,rfl⟩) (pv 4) (cI _)) fA bZ))))
    (aV (aY (pv 2)))),?_⟩
   refine fun D hD=>?_;have sD:=aU (o:=.dK []) hD;refine⟨_,rfl,q,rfl,⟨xs,bF (sD _ _ hq)⟩,aFU (K:=K) (xs:=xs) (Pv t q D H rs) ⟨none,none,[],[],rfl,sD,aM,⟨rfl,fun i p J=>by simp at J⟩,Gi,fun r=>by simp⟩ (fun j σ H' _ z=>by obtain⟨_,_,_,_,_,S,_⟩:=z;exact bF (S _ _ hq)) ?_ ?_⟩
   ·rintro i x σ H1 hx ⟨o3,o4,fc,us,rfl,S,Y,hN,M,B⟩;obtain⟨r,hr1,ht,hok⟩:=hT.at' i x hx;have hm:=AR hr1;dsimp only[dI];refine⟨_,rfl,_,rfl,t,ws,x,r,rfl,hL.same S,hw8,ht.same S,hok,fun y H2 s2 ry=>?_⟩;have nod:=fU (word:=r.word) (name:=r.name) (day:=r.day) hok.rs;have ad:r.d.hasDict=false:=nod;have dep:=aCM (word:=r.word) (name:=r.name) (day:=r.day) hok.rs;have W:=hN.same fun z=>z.same s2;have O:=s2 _ _ Y;obtain⟨a,cM,rfl,ea,_⟩:=hok.at ry;have ay:fc.length≤200:=by
     rw[hN.1];have h1:us.length≤(rs.take i).length:=by
      have h2:us.Nodup:=Dw (fun h e=>h (by rw[e])) (BJ.mp M);exact DL h2 fun z hz=>(B z).mp hz
     rw[A5]at h1;omega
    have aa:rs.take (i + 1)=rs.take i ++ [r]:=by rw[Bl,hr1];rfl
    refine⟨_,rfl,D,rfl,.inl ⟨_,.inl O⟩,_,rfl,a,_,1,_,rfl,rfl,bF ea,fV (j:=1) rfl,_,rfl,fc,Au r.name,O,by omega,rfl,fun v hv=>?_,fun hv=>?_⟩
    ·obtain⟨j,U⟩:=aCN hv;obtain⟨u,hu1,hu2,ru⟩:=W.2 j _ U;have ak:u.name=r.name:=by injection hu2.symm
     have aj:u∈rs:=B5 ((B u).mp (AR hu1));have an:u=r:=hT.uniq u aj r hm ak;subst an;obtain⟨b,_,rfl,eb,_⟩:=hok.at ru;refine⟨_,rfl,b,a,_,rfl,rfl,ru,ry,dep,nod,_,rfl,dB ?_⟩;refine⟨_,_,fc,us,rfl,S.trans s2,O,W,M,fun z=>?_⟩;rw[aa,Bh,B z,BE];exact⟨.inl,fun h=>h.elim id fun e=>by rw[e];exact(B u).mp (AR hu1)⟩
    ·have nm:∀ p∈fc,p.1≠Au r.name:=pU hv;have ep:fZ fc (Au r.name) (V.ref a)=fc ++ [(Au r.name,V.ref a)]:=by
      unfold fZ;rw[Ia];intro h;obtain⟨p,J,e⟩:=CL.mp h;exact nm p J (Ie e)
     rw[ep];have kN:∀ b o,H2 b=some o→(∀ kv,o≠.dK kv)→upd H2 D (.dK (fc ++ [(Au r.name,V.ref a)])) b=some o:=fun b o e ho=>by
      rw[bI fun z=>by rw[z,O]at e;cases e;exact ho _ rfl];exact e
     have Z:=RdV.keepN kN ry ad;refine⟨_,rfl,a,a,_,rfl,rfl,Z,Z,dep,nod,_,rfl,dB ?_⟩;have nu:∀ u∈us,u.name≠r.name:=fun u hu e=>by
      obtain⟨j,U⟩:=BK hu;have ab:j < fc.length:=by rw[hN.1];exact(AS.mp U).1
      obtain⟨u',hu1,hu2,_⟩:=hN.2 j fc[j] (Ab ab);rw[U]at hu1;cases hu1;exact nm fc[j] (Bk ab) (by rw[hu2,e])
     refine⟨_,_,fc ++ [(Au r.name,V.ref a)],us ++ [r],rfl,fun b o e=>?_,aM,⟨by rw[AH,AH,hN.1];rfl,fun j p J=>?_⟩,?_,fun z=>?_⟩
     ·rw[bI fun z=>by rw[z,hD]at e;cases e];exact s2 _ _ (S _ _ e)
     ·by_cases U:j < fc.length
      ·rw[BU U]at J;obtain⟨u,h1,h2,h3⟩:=W.2 j p J;have ac:u∈rs:=B5 ((B u).mp (AR h1));obtain⟨j2,hj2⟩:=BK ac;have am:j2 < xs.length:=by rw[hT.len];exact(AS.mp hj2).1
       obtain⟨u2,hu2,_,hok2⟩:=hT.at' j2 _ (Ab am);rw[hj2]at hu2;cases hu2;exact⟨u,by rw[BU (by rw[← hN.1];exact U)];exact h1,h2,RdV.keepN kN h3 (fU (word:=u.word) (name:=u.name) (day:=u.day) hok2.rs)⟩
      ·rw[BO (by omega)]at J;have e0:j - fc.length=0:=by
        cases h:j - fc.length with
        | zero=>rfl
        | succ n=>rw[h]at J;simp at J
       rw[e0]at J;have ah:(Au r.name,V.ref a)=p:=by simpa using J
       subst ah;exact⟨r,by rw[BO (by rw[← hN.1];omega),← hN.1,e0];rfl,rfl,Z⟩
     ·rw[AQ,CV];refine⟨M,by simp,fun p J q hq=>?_⟩;obtain⟨u,hu,rfl⟩:=Bn.mp J;have:q=r.name:=by simpa using hq
      rw[this];exact nu u hu
     ·rw[aa,Bh,Bh,B z]
   ·rintro σ H1 ⟨o3,o4,fc,us,rfl,S,Y,hN,M,B⟩;rw[ar,BC]at B;exact⟨_,rfl,k D fc us H1 S hD Y hN M B⟩
def vF(os:List bU):Prop:=os.Pairwise fun a b=>mI a.key b.key=true
theorem vG:∀{l m:List bU},l.Perm m→vF l→vF m→l=m
 | [],m,h,_,_=>(Ev h.symm).symm
 | x :: r,[],h,_,_=>by simpa using h.length_eq
 | x :: r,y :: q,h,h1,h2=>by
  obtain⟨a1,a2⟩:=Cf.mp h1;obtain⟨b1,b2⟩:=Cf.mp h2;have e:x=y:=by
   rcases Ao.mp (h.mem_iff.mp (AG (a:=x) (l:=r)))with e | hx
   ·exact e
   ·rcases Ao.mp (h.mem_iff.mpr (AG (a:=y) (l:=q)))with e | hy
    ·exact e.symm
    ·have:=uI (a1 y hy) (b1 x hx);rw[aAh]at this;cases this
  subst e;rw[vG ((E4 x).mp h) a2 b2]
theorem aDV{us:List bU}{kk:List L2.K3}{p:List Nat}(M:kk=us.map bU.key)(hn:(us.map (·.name)).Nodup)(J:aAi kk p){d:bU}:(p.map fun i=>us.getD i d).Perm us∧vF (p.map fun i=>us.getD i d):=by
 subst M;obtain⟨hp,hs⟩:=J;rw[Ad]at hp;have B:∀ i∈p,i < us.length:=fun i hi=>BF.mp (hp.mem_iff.mp hi);have F:(us.map bU.key).Nodup:=by
  refine BJ.mpr ((BJ.mp hn).imp fun{a b} h e=>h ?_);exact congrArg (fun z:L2.K3=>z.2.2) e
 refine⟨?_,?_⟩
 ·refine(hp.map _).trans (FA ?_);apply CC;intro j;rw[AL];by_cases q:j < us.length
  ·rw[C3 q,Ab q];simp[q]
  ·rw[AV (by simpa using q),AV (by omega)];rfl
 ·have h:=hs F;have e:(p.map fun i=>(us.map bU.key).getD i k0)=(p.map fun i=>us.getD i d).map bU.key:=by
   rw[Ck];refine C2 fun i hi=>?_;have:=B i hi;simp[this]
  rw[e]at h;exact BJ.mp h
structure cX(H:Hp)(xs:List V)(us:List bU)(fs:List Str):Prop where
 len:xs.length=us.length
 at':∀(i:Nat) (x:V),xs[i]?=some x→∃ u,us[i]?=some u∧RdV false H x u.d∧u.Ok fs
theorem cX.same{H H':Hp}{xs:List V}{us:List bU}{fs:List Str}(h:cX H xs us fs)(s:bS H H'):cX H' xs us fs:=
 ⟨h.len,fun i x q=>by obtain⟨u,a,b,c⟩:=h.at' i x q;exact⟨u,a,b.same s,c⟩⟩
theorem cX.rdvs{H:Hp}:∀{xs:List V}{us:List bU}{fs:List Str},cX H xs us fs→cY false H xs (us.map bU.d)
 | [],[],_,_=>.nil
 | [],_ :: _,_,h=>by have:=h.len;simp at this
 | _ :: _,[],_,h=>by have:=h.len;simp at this
 | x :: xs,u :: us,fs,h=>by
  obtain⟨u',e,r,_⟩:=h.at' 0 x rfl;have z:u=u':=by simpa using e
  subst z;exact .cons r (cX.rdvs ⟨by simpa using h.len,fun i y q=>h.at' (i + 1) y q⟩)
inductive aCO(H:Hp)(y:V)(k:L2.K3):Prop
 | mk (t:_) (cM:_) (w:_) (n:_) (d:_) (q0:y=.ref t) (q1:H t=some (.tup (.str w :: .str n :: .int d :: cM))) (q2:k=(d,rk w,n)):aCO H y k
def aAR(H:Hp)(y:V)(k:L2.K3):Prop:=aCO H y k
theorem aFJ{H:Hp}{y:V}{k:L2.K3}{u:bU}{fs:List Str}(h:aAR H y k)(r:RdV false H y u.d)(ok:u.Ok fs):k=u.key:=by
 obtain⟨t,cM,w,n,d,rfl,e,rfl⟩:=h;obtain⟨t',rest',e1,e2,_⟩:=ok.at r;cases e1;rw[e]at e2;cases e2;rfl
theorem vH{H1 H':Hp}{xs:List V}{us:List bU}{fs:List Str}{kk:List L2.K3}{p:List Nat}(hR:cX H1 xs us fs)(hn:(us.map (·.name)).Nodup)(Z:kk.length=xs.length)(hk:∀ i,i < xs.length→aAR H1 (xs.getD i .non) (kk.getD i k0))(J:aAi kk p)(s:bS H1 H'):
  ∃ os:List bU,os.Perm us∧vF os∧cX H' (p.map fun i=>xs.getD i .non) os fs:=by
 have U:=hR.len;have ek:kk=us.map bU.key:=by
  apply FU (by rw[Ad];omega);intro i h1 h2;have hi:i < xs.length:=by omega
  have F:i < us.length:=by omega
  obtain⟨u,e,r,ok⟩:=hR.at' i xs[i] (Ab hi);have eu:us[i]=u:=by rw[Ab F]at e;simpa using e
  have h3:=hk i hi;have O:xs.getD i .non=xs[i]:=by simp[hi]
  have e2:kk.getD i k0=kk[i]:=by simp[h1]
  rw[O,e2]at h3;rw[C5,eu];exact aFJ h3 r ok
 cases us with
 | nil=>
  have q:xs=[]:=Ee (by simpa using U);have M:p=[]:=by
   have h:=J.1.length_eq;rw[Z,q]at h;simpa using h
  subst q M;exact⟨[],DD _,Dv,⟨rfl,fun i x B=>by simp at B⟩⟩
 | cons Y W=>
  obtain⟨h1,h2⟩:=aDV (d:=Y) ek hn J;refine⟨_,h1,h2,⟨by rw[Ad,Ad],fun i x B=>?_⟩⟩;rw[AL]at B;obtain⟨j,hj,rfl⟩:=DJ.mp B;have z:j < xs.length:=by
   have:=BF.mp (J.1.mem_iff.mp (AR hj));omega
  obtain⟨u,e,r,ok⟩:=hR.at' j xs[j] (Ab z);refine⟨u,?_,?_,ok⟩
  ·rw[AL,hj];show some ((Y :: W).getD j Y)=some u;rw[Ak,e];rfl
  ·have O:xs.getD j .non=xs[j]:=by simp[z]
   rw[O];exact r.same s
theorem aCP{H1:Hp}{xs:List V}{us:List bU}{fs:List Str}(hR:cX H1 xs us fs):∀ y∈xs,∀(H':Hp) (Q:VK),bS H1 H'→(∀ t a b c z,bS H' z→z t=some (.tup [.int a,.int b,.str c])→aAR H1 y (a,b,c)→Q (.ref t) z)→pR [y] H' Q E0:=fun y M H' Q S h=>by
 obtain⟨i,hi⟩:=BK M;obtain⟨u,_,r,ok⟩:=hR.at' i y hi;have B:=ok.at r;obtain⟨t,cM,rfl,e,hw⟩:=B;exact⟨_,u.word,u.name,u.day,rfl,⟨t,cM,rfl,S _ _ e,hw⟩,fun q H2 F J=>h q _ _ _ H2 F J ⟨t,cM,_,_,_,rfl,e,rfl⟩⟩
inductive aCQ(vs:List V)(H:Hp)(Q:VK)(u3_:XK):Prop
 | mk (p c:Ah) (ns:List Int) (a:Int) (name:Str) (day:Int) (tS lf lp lh:Ah) (fs ps hs:List Str) (q0:vs=[.ref p,.str name,.int day,.ref tS]) (q1:c7 H p c ns a) (q2:a≤600000) (q3:H tS=some (.tup [.ref lf,.ref lp,.ref lh])) (q4:S3 H lf lp lh fs ps hs) (q5:cA name=true) (q6:0≤day) (q7:day≤9999) (q8:∀(x:V) (r:bU) (a':Int) (H':Hp),RdV false H' x r.d→r.name=name→r.Ok fs→a≤a'→a'≤a + 90→c7 H' p c ns a'→bW p H H'→Q x H'):aCQ vs H Q u3_
def aHh:Sp:=fun vs H Q u3_=>aCQ vs H Q u3_
theorem aHi:bV ["_law_pen_here","_law_name","_law_day","_law_sorts_here","_law_terms"] ["_law_pen_here","_law_name","_law_day","_law_sorts_here"] (aO aDB):=⟨rfl,rfl,rfl,by decide,rfl,by decide,by decide⟩
theorem aIp{f:Ah}{fd:AK}(F:Fun K "_law_row" "_law_row" aDB f fd)
  (GT:Cl P w K mg base 1 "_law_take" ["_law_pen_here","_law_many"] jE)
  (GR:Cl P w K mg base 3 "_law_row_of" ["_law_pen_here","_law_word","_law_name","_law_day","_law_sorts_here"] aCF):
  cQ P w K mg base CX0 4 f fd ["_law_pen_here","_law_name","_law_day","_law_sorts_here"] aHh:=by
 refine F.ok aHi (fun vs H Q E h=>?_) (fun ad A outer s H vs Q E hr h=>?_)
 ·obtain⟨p,c,ns,a,name,day,tS,lf,lp,lh,fs,ps,hs,rfl,_⟩:=h;rfl
 ·obtain⟨p,c,ns,a,name,day,tS,lf,lp,lh,fs,ps,hs,rfl,hp,ha,htS,h3,hnm,d0,d1,k⟩:=h;have M:cS 1 _:=hr.mono (by decide);refine⟨_,aH (bJ (i:=4) aHi.nd rfl (AE rfl) (eV (aG cG (aG cG (aG cG (aG cG (aG cG (aG cG (aG cG (aG cG (aG cG (aG cG aF))))))))))))
   (aV (aY (bE GR hr (aG (pv 0) (aG (cO dN (pv 4) (bE GT M (aG (pv 0) (aG aQ aF))) Ig) (aG (pv 1) (aG (pv 2) (aG (pv 3) aF)))))))),?_⟩
  refine⟨aJU,fun L hL=>?_⟩;have Z:=aU (o:=.lst [V.str "part",.str "join",.str "forfeit",.str "measure",.str "mend",.str "alone",.str "breach",.str "view",.str "part",.str "join"]) hL;refine⟨_,rfl,_,rfl,_,rfl,p,c,ns,a,_,rfl,hp.same Z,by omega,by decide,by decide,fun J a1 H1 W aj ah am U B=>?_⟩;obtain⟨v,hv,hat⟩:=gY (xs:=[V.str "part",.str "join",.str "forfeit",.str "measure",.str "mend",.str "alone",.str "breach",.str "view",.str "part",.str "join"]) (i:=J) W (by show J < 10;omega);obtain⟨word,rfl,hw⟩:∃ word:Str,v=.str word∧word∈eU:=by
   simp only[Ao,Az,or_false]at hv;rcases hv with rfl | rfl | rfl | rfl | rfl | rfl | rfl | rfl | rfl | rfl <;> exact⟨_,rfl,by decide⟩
  have k1:bW p H H1:=(bS.but Z).trans B;refine⟨L,_,J,_,rfl,rfl,bG (cC aM (hp.same Z) B),hat,_,rfl,_,rfl,_,rfl,p,c,ns,a1,word,name,day,tS,lf,lp,lh,fs,ps,hs,rfl,U,by omega,sH htS hp k1,h3.but hp k1,hw,hnm,fun t ds cM a2 H2 ht q z ab ae af Y O=>?_⟩;have ak:=q.len;have ag:=z.len;exact k (.ref t) ⟨word,name,day,ds⟩ a2 H2 (.tup ht (by simp only[A6];omega) (.cons (.str word (aFA hw)) (.cons (jS hnm) (.cons (.int day) q)))) rfl ⟨z,hnm,d0,d1,ab⟩ (by omega) (by omega) Y (k1.trans O)
def aCR(fe:List Aj)(os:List bU):Aj:=.tuple [.tuple fe,.tuple (os.map bU.d)]
inductive aCS(vs:List V)(H:Hp)(Q:VK)(E:XK):Prop
 | mk (x:V) (q:Ah) (d0:Aj) (fe:List Aj) (xs:List V) (rs us0:List bU) (h0:vs=[x,.ref q]) (rx:RdV true H x d0) (ed:eG 2 d0=.tuple fe) (hl:aAM (.tuple fe)=true) (hf:fe.all cZ=true) (h8:fe.length≤8)
   (hq:H q=some (.lst xs)∨H q=some (.tup xs)) (h200:rs.length≤200) (hT:aFI H (fe.map c3) xs rs) (hn:(us0.map (·.name)).Nodup) (hm:∀ r,r∈us0↔r∈rs) (h40:us0.length≤40)
   (k:∀(t:Ah) (os:List bU) (H':Hp),bS H H'→os.Perm us0→vF os→RdV false H' (.ref t) (aCR fe os)→Q (.ref t) H'):aCS vs H Q E
def aAS:Sp:=fun vs H Q E=>aCS vs H Q E
theorem aBS{d:Aj}(h:cE d=true):jH d:=by
 cases d with
 | str z=>exact .str z
 | _=>simp[cE]at h
theorem rG{lo hi:Int}{d:Aj}(h:dD lo hi d=true):jH d:=by
 cases d with
 | int i=>exact .int i
 | _=>simp[dD]at h
theorem aAU{d:Aj}(h:cZ d=true):jH d:=by
 obtain⟨f,g,a,j,rfl,_,h2,h3,h4⟩:=l7 h;exact .tup (.cons (.str f) (.cons (aBS h2) (.cons (rG h3) (.cons (rG h4) .nil))))
theorem l9:∀{fe:List Aj},fe.all cZ=true→jT fe
 | [],_=>.nil
 | d :: r,h=>by
  rw[Cw,AF]at h;exact .cons (aAU h.1) (l9 h.2)
theorem vI:bV ["laying","rows","made","named"] ["laying","rows"] (aO nP):=⟨rfl,rfl,rfl,by decide,rfl,by decide,by decide⟩
theorem aDW{f fL fB fO:Ah}{fd ac ab af:AK}(F:Fun K "roll_of" "roll_of" nP f fd)(T:Txt K mg)(M:mg "list"=none)(ad:mg "sorted"=none)(O:∃ t,mg "MOST_ROWS"=some (.int 40 t))
  (GL:cQ P w K mg base CX0 5 fL ac ["thing"] oU) (mL:mg "laying_of"=some (.ref fL)) (kL:Al K (.ref fL)=true) (bL:dY K ac ["thing"] [])
  (GB:cQ P w K mg base CX0 11 fB ab ["laying","things"] xN) (mB:mg "by_names"=some (.ref fB)) (kB:Al K (.ref fB)=true) (bB:dY K ab ["laying","things"] [])
  (GO:cQ P w K mg base CX0 1 fO af ["row"] pR) (mO:mg "order"=some (.ref fO)) (kO:Al K (.ref fO)=true) (bO:dY K af ["row"] []):
  cQ P w K mg base CX0 12 f fd ["laying","rows"] aAS:=by
 refine F.ok vI (fun vs H Q E h=>?_) (fun aT A outer s H vs Q E hr h=>?_)
 ·obtain⟨x,q,d0,fe,xs,rs,us0,rfl,_⟩:=h;rfl
 ·obtain⟨x,q,d0,fe,xs,rs,us0,rfl,rx,ed,hl,hf,h8,hq,h200,hT,hn,hm,h40,k⟩:=h;have am:cS 5 _:=hr.mono (by decide);have ak:cS (1 + 2) _:=hr.mono (by decide);obtain⟨tm,hmr⟩:=O;refine⟨_,aH (bJ (i:=2) vI.nd rfl (AE rfl) (eY GL am rfl mL kL bL .nil iP (aG (pv 0) aF)))
   (aH (c6 (dL (dO (aW gR (by rfl) T.isi (by kernel_rfl) (aG (pv 1) (aG (c9 (aG (dM (v:=.ty "list") (by rfl) M (by kernel_rfl) rfl) (aG (dM (v:=.ty "tuple") (by rfl) T.tuple (by kernel_rfl) rfl) aF))) aF))))) fA bZ)
   (aH (bJ (i:=3) vI.nd rfl (AE rfl) (eY GB hr rfl mB kB bB .nil iP (aG (pv 2) (aG (pv 1) aF))))
   (aH (c6 (bY v4 (aW aDg (by rfl) T.len AN (aG (pv 3) aF)) (dE (v:=.int 40) (by rfl) hmr ⟨_,rfl⟩) (cI _)) fA bZ)
   (aV (aY (c9 (aG (pv 2) (aG (cV cU (by rfl) T.tuple (by kernel_rfl) (aG (uL GO ak bO (by rfl) ad (by rfl) mO (aG (aDw (pv 3)) aF)) aF)) aF)))))))),?_⟩
  refine⟨_,rfl,true,x,d0,rfl,rx,by rw[ed];exact hl,fun y H1 s1 ry=>?_⟩;rw[ed]at ry;have U:RdV false H1 y (.tuple fe):=RdV.unl ry (.tup (l9 hf));obtain⟨tl,rfl⟩:∃ tl,y=.ref tl:=by
   cases U with
   | tup e hl r=>exact⟨_,rfl⟩
  have ay:oD H1 tl (fe.map c3):=oD.of U hf;refine⟨_,rfl,zZ2,fun q2 an=>?_⟩;have s2:=aU (o:=.tup [V.ty "list",.ty "tuple"]) an;have aa:∀{H':Hp},bS H H'→H' q=some (.lst xs)∨H' q=some (.tup xs):=fun S=>hq.imp (S _ _) (S _ _);have B:=s1.trans s2;obtain⟨tq,htq,hkq⟩:∃ tq,i6 K (upd H1 q2 (.tup [V.ty "list",.ty "tuple"])) (.ref q) tq∧Ei K tq [.type "list",.type "tuple"]=some true:=by
   rcases aa B with e | e
   ·exact⟨_,i6.lst e,pM (.list [])⟩
   ·exact⟨_,i6.tup e,pM (.tuple [])⟩
  refine⟨_,q2,"list","tuple",tq,true,rfl,aM,htq,hkq,_,rfl,dB ?_⟩;generalize upd H1 q2 (.tup [V.ty "list",.ty "tuple"])=H2 at s2 B htq ⊢;refine⟨_,rfl,_,rfl,tl,_,q,xs,rs,rfl,ay.same s2,by rw[Ad];exact h8,aa B,h200,⟨hT.len,fun i z hz=>by obtain⟨r,a,b,c⟩:=hT.at' i z hz;exact⟨r,a,b.same B,c⟩,hT.uniq⟩,fun D fc us H3 s3 bi Z hN Y W=>?_⟩;have bj:us.length≤40:=by
   have h2:us.Nodup:=Dw (fun h e=>h (by rw[e])) (BJ.mp Y);have:=DL h2 (l₂:=us0) fun z hz=>(hm z).mpr ((W z).mp hz);omega
  have aq:us.Perm us0:=by
   have h1:us.Nodup:=Dw (fun h e=>h (by rw[e])) (BJ.mp Y);have h2:us0.Nodup:=Dw (fun h e=>h (by rw[e])) (BJ.mp hn);exact(List.perm_ext_iff_of_nodup h1 h2).mpr fun z=>(W z).trans (hm z).symm
  refine⟨_,rfl,D,fc,rfl,Z,_,_,rfl,rfl,_,rfl,?_⟩;rw[decide_eq_false (show¬ ((40:Int) < (fc.length:Int)) by rw[hN.1];omega)];refine dB ?_;have hok:∀ u∈us,u.Ok (fe.map c3):=fun u hu=>by
   obtain⟨j,hj⟩:=BK ((W u).mp hu);have av:j < xs.length:=by rw[hT.len];exact(AS.mp hj).1
   obtain⟨u2,h2,_,h4⟩:=hT.at' j _ (Ab av);rw[hj]at h2;cases h2;exact h4
  have aw:cX H3 (fc.map (·.2)) us (fe.map c3):=⟨by rw[Ad,hN.1],fun i z hz=>by
   rw[AL]at hz;obtain⟨pz,hp,rfl⟩:=DJ.mp hz;obtain⟨u,a,_,c⟩:=hN.2 i pz hp;exact⟨u,a,c,hok u (AR a)⟩⟩
  refine⟨_,rfl,_,rfl,D,fc,rfl,Z,fun v hv=>?_⟩;have sv:=aU (o:=wR v D) hv;have J:=aw.same sv;refine⟨v,fc.map (·.2),aAR (upd H3 v (wR v D)),rfl,.inr ⟨D,fc,aM,sv _ _ Z,rfl⟩,by rw[Ad,hN.1];omega,aCP J,fun E1 kk p H5 s5 hE ao hk ho eE=>?_⟩
  obtain⟨os,ho1,ho2,ho3⟩:=vH J Y ao hk ho s5;refine⟨E1,_,rfl,.inl ⟨bG eE,fun l hl=>⟨zZ2,fun t ht=>?_⟩⟩⟩;have sl:=aU (o:=.tup (p.map fun i=>(fc.map (·.2)).getD i .non)) hl
  have el:upd H5 l (.tup (p.map fun i=>(fc.map (·.2)).getD i .non)) l=some (.tup (p.map fun i=>(fc.map (·.2)).getD i .non)):=aM
  generalize upd H5 l (.tup (p.map fun i=>(fc.map (·.2)).getD i .non))=H6 at sl el ht ⊢
  have st:=aU (o:=.tup [V.ref tl,.ref l]) ht;have ar:bS H2 H6:=((s3.trans sv).trans s5).trans sl;have ae:=ar.trans st;have be:=ho1.length_eq;have bc:=ho3.len;refine k t os _ (B.trans ae) (ho1.trans aq) ho2 (.tup aM (by show 2≤1000;decide) (.cons (U.same (s2.trans ae)) (.cons (.tup (st _ _ el) (by omega) ((ho3.rdvs).same (sl.trans st))) .nil)))
theorem aFK(p q:P3):okD (pD p) (pD q)=true:=by
 simp[okD,okL,pD]
theorem xO:∀(R S:List P3),okL (R.map pD) (S.map pD)=true
 | [],_=>by simp[okL]
 | p :: R,[]=>by simp[okL]
 | p :: R,q :: S=>by
  rw[A1,A1];unfold okL;split
  ·exact xO R S
  ·exact aFK p q
theorem aAV:∀(R S:List Str),okL (R.map AX) (S.map AX)=true
 | [],_=>by simp[okL]
 | p :: R,[]=>by simp[okL]
 | p :: R,q :: S=>by
  rw[A1,A1];unfold okL;split
  ·exact aAV R S
  ·simp[okD]
theorem aGR{word:Str}{ds es:List Aj}(h:fH word ds)(h':fH word es):okL ds es=true:=by
 generalize hw:word=q at h';cases h <;> cases h' <;> first | exact absurd hw (by decide) | simp[okL,okD,xO,aAV]
theorem aCT{u v:bU}{fs:List Str}(h:u.Ok fs)(h':v.Ok fs):okD u.d v.d=true:=by
 unfold bU.d iO;simp only[okD];unfold okL;split
 ·next e=>
  have q:u.word=v.word:=by simpa[Bz]using e
  unfold okL;split
  ·unfold okL;split
   ·have h2:=h'.rs;rw[← q]at h2;exact aGR h.rs h2
   ·simp[okD]
  ·simp[okD]
 ·simp[okD]
theorem aAW:∀ R:List P3,plL (R.map pD)=true
 | []=>rfl
 | p :: R=>by simp[plL,plD,pD,aAW R]
theorem aCU:∀ R:List Str,plL (R.map AX)=true
 | []=>rfl
 | p :: R=>by simp[plL,plD,aCU R]
theorem xP:∀ R:List P3,Bd (R.map pD)≤1
 | []=>by simp[Bd]
 | p :: R=>by
  have:=xP R;simp[Bd,BA,pD];omega
theorem aAX:∀ R:List Str,Bd (R.map AX)=0
 | []=>by simp[Bd]
 | p :: R=>by simp[Bd,BA,aAX R]
theorem xQ:∀ R:List P3,(R.map pD).all fY=true→AW (R.map pD)=true
 | [],_=>by simp[AW]
 | p :: R,h=>by
  rw[A1,Cw,AF]at h;have h1:(cA p.1 && cA p.2.1 && decide (1≤p.2.2∧p.2.2≤10000000))=true:=h.1;rw[AF,AF]at h1;simp[AW,BX,pD,dU h1.1.1,dU h1.1.2];exact xQ R h.2
theorem aAY:∀ R:List Str,(R.map AX).all cE=true→AW (R.map AX)=true
 | [],_=>by simp[AW]
 | p :: R,h=>by
  rw[A1,Cw,AF]at h;simp[AW,BX,dU (show cA p=true from h.1)];exact aAY R h.2
theorem fH.pll{word:Str}{ds:List Aj}(h:fH word ds):plL ds=true∧AW ds=true∧Bd ds≤2:=by
 cases h with
 | @part z R B _ _ _ ha=>
  have:=xP R;exact⟨by simp[plL,plD,aAW],by simp[AW,BX,dU B,xQ R ha],by simp[Bd,BA];omega⟩
 | @join z R B _ _ _ ha=>exact⟨by simp[plL,plD,aCU],by simp[AW,BX,dU B,aAY R ha],by simp[Bd,BA,aAX]⟩
 | forfeit B q=>exact⟨by simp[plL,plD],by simp[AW,BX,dU B,dU q],by simp[Bd,BA]⟩
 | measure F _ _=>exact⟨by simp[plL,plD],by simp[AW,BX,dU F],by simp[Bd,BA]⟩
 | mend q J _=>exact⟨by simp[plL,plD],by simp[AW,BX,dU q,dU J],by simp[Bd,BA]⟩
 | alone q=>exact⟨by simp[plL,plD],by simp[AW,BX,dU q],by simp[Bd,BA]⟩
 | breach F _ _ _ _ _ _=>exact⟨by simp[plL,plD],by simp[AW,BX,dU F],by simp[Bd,BA]⟩
 | view F _ _ q=>exact⟨by simp[plL,plD],by simp[AW,BX,dU F,dU q],by simp[Bd,BA]⟩
theorem bU.Ok.rowD{u:bU}{fs:List Str}(h:u.Ok fs):L2.RowD u.d:=by
 obtain⟨h1,h2,h3⟩:=h.rs.pll;have hw:EL u.word=true:=by
  have:∀ w∈eU,EL w=true:=by decide
  exact this _ h.rs.word
 refine⟨⟨_,_,rfl⟩,?_,?_,?_⟩
 ·simp[bU.d,iO,plD,plL,h1]
 ·simp[bU.d,iO,BX,AW,hw,dU h.nm,h2]
 ·simp[bU.d,iO,BA,Bd];omega
theorem bU.d_inj{u v:bU}(h:u.d=v.d):u=v:=by
 obtain⟨a,b,c,d⟩:=u;obtain⟨a',b',c',d'⟩:=v;unfold bU.d iO at h;injection h with h;injection h with h1 h;injection h with h2 h;injection h with h3 h;injection h1 with h1;injection h2 with h2;injection h3 with h3;dsimp only at h1 h2 h3 h;rw[h1,h2,h3,h]
def oE(us:List bU):Prop:=us.Pairwise fun a b=>ltD a.d b.d=true
theorem vJ{fs:List Str}:∀{l m:List bU},l.Perm m→(∀ u∈l,u.Ok fs)→oE l→oE m→l=m
 | [],m,h,_,_,_=>(Ev h.symm).symm
 | x :: r,[],h,_,_,_=>by simpa using h.length_eq
 | x :: r,y :: q,h,ok,h1,h2=>by
  obtain⟨a1,a2⟩:=Cf.mp h1;obtain⟨b1,b2⟩:=Cf.mp h2;have e:x=y:=by
   rcases Ao.mp (h.mem_iff.mp (AG (a:=x) (l:=r)))with e | hx
   ·exact e
   ·have z:=h.mem_iff.mpr (AG (a:=y) (l:=q));rcases Ao.mp z with e | F
    ·exact e.symm
    ·have B:=(ok x AG).rowD.pl;have:=aBt _ _ _ B (ok y z).rowD.pl B (a1 y F) (b1 x hx);rw[pH B]at this;cases this
  subst e;rw[vJ ((E4 x).mp h) (fun u J=>ok u (AJ _ J)) a2 b2]
def jU(us:List bU)(bs:List Str):List bU:=us.filter fun r=>decide (((us.map (·.name)).countP fun y=>decide (y=r.name))=1) && !decide (r.name∈bs)
theorem sP{us:List bU}{r:bU}{fs:List Str}(ok:∀ u∈us,u.Ok fs)(q:r.Ok fs):((us.map bU.d).any fun e=>Bz e r.d)=true↔r∈us:=by
 rw[CL];constructor
 ·rintro⟨e,he,h⟩;obtain⟨u,hu,rfl⟩:=Bn.mp he;have:=bU.d_inj (mY _ _ (ok u hu).rowD.pl h q.rowD.pl);rw[← this];exact hu
 ·exact fun h=>⟨r.d,List.mem_map_of_mem h,uN _ q.rowD.pl⟩
theorem pV:∀{us:List bU}{fs:List Str},(∀ u∈us,u.Ok fs)→AW (us.map bU.d)=true
 | [],_,_=>by simp[AW]
 | u :: us,fs,h=>by
  rw[A1];unfold AW;rw[(h u AG).rowD.ly,pV fun v q=>h v (AJ _ q)];rfl
theorem aDX{H H':Hp}{a:Ah}(s:bS H H')(h:H' a=none):H a=none:=by
 cases q:H a with
 | none=>rfl
 | some o=>rw[s _ _ q]at h;cases h
theorem aAZ{d:Aj}(h:cZ d=true):d.hasDict=false∧eG 1 d=d:=by
 obtain⟨f,g,a,i,rfl,_,hg,ha,hi⟩:=l7 h;refine⟨?_,by show Eg _=_;rw[pO]⟩;cases g <;> first | cases hg | skip
 cases a <;> first | cases ha | skip
 all_goals (cases i <;> first | cases hi | rfl)
theorem vK{fe:List Aj}(h:fe.all cZ=true):(Eg fe).hasDict=false:=by
 show AZ fe=false
 induction fe with
 | nil=>rfl
 | cons d r q=>
  rw[Cw,AF]at h;show(d.hasDict || AZ r)=false;rw[(aAZ h.1).1,q h.2];rfl
theorem aCV{fe:List Aj}(h:fe.all cZ=true):eG 2 (.tuple fe)=.tuple fe:=by
 show Eg (fe.map (eG 1))=_;congr 1
 induction fe with
 | nil=>rfl
 | cons d r q=>
  rw[Cw,AF]at h;rw[A1,(aAZ h.1).2,q h.2]
theorem bU.Ok.okd{r:bU}{fs:List Str}(h:r.Ok fs):OkD 13352 3 r.d∧pN (eG 3 r.d) r.d:=by
 have B:∀ d∈(AX r.word :: AX r.name :: EM r.day :: r.ds),eD d=false∨∃ es,d=.tuple es∧es.all qR=true:=fun d hd=>by
  simp only[Ao]at hd;rcases hd with rfl | rfl | rfl | hd
  ·exact .inl rfl
  ·exact .inl rfl
  ·exact .inl rfl
  ·rcases h.rs.inner d hd with z | ⟨es,z,_,y⟩
   ·exact .inl z
   ·exact .inr ⟨es,z,y⟩
 have q:=jG.refl_of B;have F:(AX r.word :: AX r.name :: EM r.day :: r.ds).length≤7:=by
  have:=h.rs.len;simp only[A6];omega
 exact⟨(aDT (aIl h.rs h.nm h.d0 h.d1) q F).2,aBO h.rs q⟩
theorem bU.Ok.thg{r:bU}{fs:List Str}(h:r.Ok fs){H:Hp}{x:V}(rd:RdV false H x r.d):Thg H x r:=⟨r.d,rd.flip (fU h.rs) true,h.okd.2⟩
structure iD(H:Hp)(t:Ah)(fe:List Aj)(us:List bU)(bs:List Str):Prop where
 ex:∃(lay fo ba:Ah) (ys:List V),H t=some (.tup [.ref lay,.ref fo,.ref ba])∧RdV false H (.ref lay) (.tuple fe)∧H fo=some (.tup ys)∧cX H ys us (fe.map c3)∧H ba=some (.tup (bs.map V.str))
 lf:fe.all cZ=true
 ll:aAM (.tuple fe)=true
 l8:fe.length≤8
 u6:us.length≤60
 b6:bs.length≤60
theorem iD.same{H H':Hp}{t:Ah}{fe:List Aj}{us:List bU}{bs:List Str}(h:iD H t fe us bs)(s:bS H H'):iD H' t fe us bs:=by
 obtain⟨lay,fo,ba,ys,h1,h2,h3,h4,h5⟩:=h.ex;exact⟨⟨lay,fo,ba,ys,s _ _ h1,h2.same s,s _ _ h3,h4.same s,s _ _ h5⟩,h.lf,h.ll,h.l8,h.u6,h.b6⟩
theorem iD.ok{H:Hp}{t:Ah}{fe:List Aj}{us:List bU}{bs:List Str}(h:iD H t fe us bs):∀ u∈us,u.Ok (fe.map c3):=fun u q=>by
 obtain⟨lay,fo,ba,ys,_,_,_,h4,_⟩:=h.ex;obtain⟨i,hi⟩:=BK q;obtain⟨u',e,_,ok⟩:=h4.at' i _ (Ab (by rw[h4.len];exact(AS.mp hi).1));rw[hi]at e;cases e;exact ok
theorem cX.snoc{H:Hp}{xs:List V}{us:List bU}{fs:List Str}{x:V}{u:bU}(h:cX H xs us fs)(rd:RdV false H x u.d)(ok:u.Ok fs):cX H (xs ++ [x]) (us ++ [u]) fs:=by
 refine⟨by rw[AH,AH,h.len];rfl,fun i y q=>?_⟩;have B:=h.len;rcases FJ i xs.length with z | z | z
 ·rw[BU z]at q;obtain⟨v,h1,h2⟩:=h.at' i y q;exact⟨v,by rw[BU (by omega)];exact h1,h2⟩
 ·rw[z,BO (Ap _),Nat.sub_self]at q;cases q;exact⟨u,by rw[z,B,BO (Ap _),Nat.sub_self];rfl,rd,ok⟩
 ·rw[AV (by rw[AH];show xs.length + 1≤i;omega)]at q;cases q
theorem cX.pick{H:Hp}{xs:List V}{us:List bU}{fs:List Str}(h:cX H xs us fs){o:List Nat}(O:o.Perm (AO us.length)):∃ vs:List bU,vs.Perm us∧cX H (o.map fun i=>xs.getD i .non) vs fs∧(o.map fun i=>(us.map bU.d).getD i .none)=vs.map bU.d:=by
 have U:=h.len;have F:∀ i∈o,i < us.length:=fun i hi=>BF.mp (O.mem_iff.mp hi);cases us with
 | nil=>
  have:o=[]:=by simpa using O
  subst this;exact⟨[],.refl _,⟨rfl,fun i x M=>by simp at M⟩,rfl⟩
 | cons z q=>
  refine⟨o.map fun i=>(z :: q).getD i z,?_,⟨by rw[Ad,Ad],fun i x M=>?_⟩,?_⟩
  ·refine(O.map _).trans (FA ?_);apply CC;intro j;rw[AL];by_cases B:j < (z :: q).length
   ·rw[C3 B,Ab B];show some ((z :: q).getD j z)=_;rw[Ak,Ab B];rfl
   ·rw[AV (by simpa using B),AV (by omega)];rfl
  ·rw[AL]at M;obtain⟨j,B,rfl⟩:=DJ.mp M;have J:j < xs.length:=by have:=F j (AR B);omega
   obtain⟨u,e,r,ok⟩:=h.at' j xs[j] (Ab J);refine⟨u,?_,?_,ok⟩
   ·rw[AL,B];show some ((z :: q).getD j z)=some u;rw[Ak,e];rfl
   ·rw[Ak,Ab J];exact r
  ·rw[Ck];refine C2 fun i hi=>?_;have:=F i hi;show((z :: q).map bU.d).getD i .none=((z :: q).getD i z).d;rw[Ak,AL,Ak,Ab this];rfl
theorem aCW{vs:List bU}{l:List Aj}(e:l=vs.map bU.d)(h:l.Pairwise fun a b=>ltD a b=true):oE vs:=by
 rw[e]at h;exact BJ.mp h
theorem pW(us:List bU)(bs:List Str):(jU us bs).length≤us.length:=List.length_filter_le _ _
theorem aDY{z:Str}:∀{l:List Str},l.countP (fun y=>decide (y=z))=1→∀{a b:List Str},l=a ++ z :: b→z ∉ a∧z ∉ b:=by
 intro l h a b e;rw[e,List.countP_append,List.countP_cons_of_pos (by simp)]at h;constructor
 ·intro hz;have:0 < a.countP fun y=>decide (y=z):=List.countP_pos_iff.mpr ⟨z,hz,by simp⟩;omega
 ·intro hz;have:0 < b.countP fun y=>decide (y=z):=List.countP_pos_iff.mpr ⟨z,hz,by simp⟩;omega
theorem aA0(us:List bU)(bs:List Str):((jU us bs).map (·.name)).Nodup:=by
 have B:∀(p:bU→Bool) (pre us:List bU),(∀ r∈us,p r=true→((pre ++ us).map (·.name)).countP (fun y=>decide (y=r.name))=1)→((us.filter p).map (·.name)).Nodup:=by
  intro p pre us
  induction us generalizing pre with
  | nil=>intro _;simp
  | cons u us J=>
   intro h;have z:=J (pre ++ [u]) fun r F q=>by
    rw[Bf];exact h r (AJ _ F) q
   rw[FS];split
   ·next q=>
    rw[A1,CF];refine⟨fun hm=>?_,z⟩;obtain⟨v,hv,e⟩:=Bn.mp hm;have h1:=h u AG q;rw[AQ,A1]at h1;exact(aDY h1 rfl).2 (by rw[← e];exact List.mem_map_of_mem (Eh.mp hv).1)
   ·exact z
 refine B _ [] us fun r F q=>?_;simp only[AF]at q;exact Ie q.1
inductive pX(vs:List V)(H:Hp)(Q:VK)(u3_:XK):Prop
 | mk (t:Ah) (fe:List Aj) (us:List bU) (bs:List Str) (q0:vs=[.ref t]) (q1:iD H t fe us bs) (q2:∀(l:Ah) (xs:List V) (H':Hp),bS H H'→H l=none→H' l=some (.lst xs)→cX H' xs (jU us bs) (fe.map c3)→Q (.ref l) H'):pX vs H Q u3_
def oV:Sp:=fun vs H Q u3_=>pX vs H Q u3_
inductive xR(vs:List V)(H:Hp)(Q:VK)(u3_:XK):Prop
 | mk (x:V) (d0:Aj) (fe:List Aj) (q0:vs=[x]) (q1:RdV true H x d0) (q2:eG 2 d0=.tuple fe) (q3:aAM (.tuple fe)=true) (q4:fe.all cZ=true) (q5:fe.length≤8) (q6:∀(t:Ah) (H':Hp),bS H H'→iD H' t fe [] []→Q (.ref t) H'):xR vs H Q u3_
def aCX:Sp:=fun vs H Q u3_=>xR vs H Q u3_
inductive rH(vs:List V)(H:Hp)(Q:VK)(u3_:XK):Prop
 | mk (t:Ah) (x:V) (fe:List Aj) (us:List bU) (bs:List Str) (r:bU) (q0:vs=[.ref t,x]) (q1:iD H t fe us bs) (q2:Thg H x r) (q3:r.Ok (fe.map c3)) (q4:us.length < 40) (q5:us.Nodup) (q6:(r∈us→∀ H',bS H H'→Q (.ref t) H')) (q7:(r ∉ us→∀(t':Ah) (us':List bU) (H':Hp),bS H H'→iD H' t' fe us' bs→us'.Perm (us ++ [r])→oE us'→Q (.ref t') H')):rH vs H Q u3_
def xS:Sp:=fun vs H Q u3_=>rH vs H Q u3_
inductive oF(vs:List V)(H:Hp)(Q:VK)(u3_:XK):Prop
 | mk (t:Ah) (z:Str) (fe:List Aj) (us:List bU) (bs:List Str) (q0:vs=[.ref t,.str z]) (q1:iD H t fe us bs) (q2:cA z=true) (q3:bs.length < 60) (q4:(z∈bs→∀ H',bS H H'→Q (.ref t) H')) (q5:(z ∉ bs→∀(t':Ah) (bs':List Str) (H':Hp),bS H H'→iD H' t' fe us bs'→bs'.Perm (bs ++ [z])→sortedS bs'=true→Q (.ref t') H')):oF vs H Q u3_
def rJ:Sp:=fun vs H Q u3_=>oF vs H Q u3_
inductive rK(vs:List V)(H:Hp)(Q:VK)(u3_:XK):Prop
 | mk (t:Ah) (fe:List Aj) (us:List bU) (bs:List Str) (q0:vs=[.ref t]) (q1:iD H t fe us bs) (q2:us.length≤40) (q3:∀(t':Ah) (os:List bU) (H':Hp),bS H H'→os.Perm (jU us bs)→vF os→RdV false H' (.ref t') (aCR fe os)→Q (.ref t') H'):rK vs H Q u3_
def xT:Sp:=fun vs H Q u3_=>rK vs H Q u3_
theorem mC{a b:V}{r:List V}:atI (a :: b :: r) 1=some b:=fV (j:=1) rfl
theorem m6{H:Hp}{x:V}{u:bU}{fs:List Str}(rd:RdV false H x u.d)(ok:u.Ok fs):∃ q cM,x=.ref q∧H q=some (.tup (.str u.word :: .str u.name :: cM)):=by
 obtain⟨t,cM,e,h,_⟩:=ok.at rd;exact⟨t,_,e,h⟩
theorem vL:bV ["state","laying","forms","backs","names"] ["state"] (aO gH):=⟨rfl,rfl,rfl,by decide,rfl,by decide,by decide⟩
theorem aA1{f:Ah}{fd:AK}(F:Fun K "standing" "standing" gH f fd)
  :cQ P w K mg base CX0 2 f fd ["state"] oV:=by
 refine F.ok vL (fun vs H Q E h=>?_) (fun ag A outer s H vs Q E hr h=>?_)
 ·obtain⟨t,fe,us,bs,rfl,_⟩:=h;rfl
 ·obtain⟨t,fe,us,bs,rfl,st,k⟩:=h;have nd:=vL.nd;refine⟨_,(aH (i5 (pv 0) (jV rfl (cH (bH (i:=1) nd rfl (AE rfl)) (cH (bH (i:=2) nd rfl (AE rfl)) (cH (bH (i:=3) nd rfl (Fk rfl)) iE)))))
   (aH (bJ (i:=4) nd rfl (Fk rfl) (eJ (N:=["row"]) (src:=[none]) (osc:=aO gH) (oN:=["state","laying","forms","backs","names"]) ⟨by rfl,by decide,by decide,by decide,rfl,by rfl⟩ (iL (pv 2)) (fun cl s H fp dt C=>⟨bH (i:=0) (show(["row"]:List Str).Nodup by decide) rfl (AE rfl),dZ,cO (r:=tF K) c0 (pv 0) aQ Ig⟩)))
   (aV (aY (eJ (N:=["row","backs","names"]) (src:=[none,some 3,some 4]) (osc:=aO gH) (oN:=["state","laying","forms","backs","names"]) ⟨by rfl,by decide,by decide,by decide,rfl,by rfl⟩ (iL (pv 2)) (fun cl s H fp dt C=>⟨bH (i:=0) (show(["row","backs","names"]:List Str).Nodup by decide) rfl (AE rfl),aCd (PW.pt (mM (bY eI (aBj (K:=K) BD PySem.F.slot_list_count PySem.F.type_list_count wX (pv 2) (aG (cO (r:=tF K) c0 (pv 0) aQ Ig) aF)) aQ (cI _)) (jK (bY (r:=rIn K true) gP (cO (r:=tF K) c0 (pv 0) aQ Ig) (pv 1) (by with_unfolding_all rfl))))),pv 0⟩)))))),?_⟩
  obtain⟨lay,fo,ba,ys,h1,h2,h3,h4,h5⟩:=st.ex;have M:=h4.len;have ae:=st.u6;have z6:ys.length≤sizeLine:=aS (by omega);refine⟨_,rfl,t,_,rfl,bF h1,rfl,_,_,rfl,_,_,rfl,_,_,rfl,rfl,_,rfl,fo,rfl,⟨_,bF h3⟩,?_⟩;refine gQ (K:=K) (xs:=ys) (fun i zs J H'=>∃(o:Option V),J=[o]∧H'=H∧zs=((us.take i).map (·.name)).map V.str) ⟨none,rfl,rfl,rfl⟩ z6 (fun i zs σ H' p=>by obtain⟨_,_,_,rfl⟩:=p;rw[Ad,Ad,A5];omega) (fun i zs σ H' p=>by obtain⟨_,_,rfl,_⟩:=p;exact bF h3) ?_ ?_
  ·rintro i v zs J H' Y ⟨o,rfl,rfl,rfl⟩;obtain⟨u,hu,rd,ok⟩:=h4.at' i v Y;obtain⟨q,cM,rfl,hq⟩:=m6 rd ok;dsimp only[dI];refine dJ ?_;refine⟨_,rfl,q,_,1,_,rfl,rfl,bF hq,mC,_,rfl,rfl,?_⟩;rw[Bl,hu,AQ,AQ];rfl
  rintro zs J H' ⟨o,rfl,rfl,rfl⟩ N hN;rw[M,BC];have B:=aU (o:=.lst ((us.map (·.name)).map V.str)) hN
  have eN:upd H' N (.lst ((us.map (·.name)).map V.str)) N=some (.lst ((us.map (·.name)).map V.str)):=aM
  generalize upd H' N _=H1 at B eN ⊢;dsimp only[dI];obtain⟨z,hpp⟩:∃ z:bU→Bool,z=fun r=>decide (((us.map (·.name)).countP fun y=>decide (y=r.name))=1) && !decide (r.name∈bs):=⟨_,rfl⟩
  refine⟨_,rfl,fo,rfl,⟨_,bF (B _ _ h3)⟩,?_⟩;refine gQ (K:=K) (xs:=ys) (fun i zs J H'=>∃(o:Option V),Aw3 (J=[o,some (.ref ba),some (.ref N)]) (H'=H1) (zs.length≤i∧cX H1 zs ((us.take i).filter z) (fe.map c3))) ⟨none,rfl,rfl,Ap _,⟨rfl,fun i x hx=>by simp at hx⟩⟩ z6 (fun i zs σ H' p=>by obtain⟨_,_,_,h,_⟩:=p;exact h) (fun i zs σ H' p=>by obtain⟨_,_,rfl,_⟩:=p;exact bF (B _ _ h3)) ?_ ?_
  ·rintro i v zs J H2 Y ⟨o,rfl,rfl,O,hR⟩;obtain⟨u,hu,rd,ok⟩:=h4.at' i v Y;have U:=rd.same B;obtain⟨q,cM,rfl,hq⟩:=m6 U ok;have Z:(us.take (i + 1)).filter z=(us.take i).filter z ++ if z u=true then[u] else[]:=by
    rw[Bl,hu,List.filter_append];congr 1;show List.filter _ [u]=_;rw[FS,List.filter_nil]
   dsimp only[dI];refine⟨_,rfl,.inl ⟨rfl,_,bG eN⟩,_,rfl,q,_,1,_,rfl,rfl,bF hq,mC,N,_,u.name,rfl,rfl,eN,rfl,_,rfl,dS (fun g=>?_) fun g=>?_⟩
   ·have g1:((us.map (·.name)).countP fun y=>decide (y=u.name))=1:=by
     have:=V.int.inj (Ie g);omega
    refine⟨_,rfl,q,_,1,_,rfl,rfl,bF hq,mC,_,rfl,ba,_,rfl,.inr (bF (B _ _ h5)),rfl,fE _,_,rfl,?_⟩;show if (if true=true then !inV (V.str u.name) (bs.map V.str) else inV (V.str u.name) (bs.map V.str))=true then _ else _
    rw[Ib rfl,nS];by_cases W:u.name∈bs
    ·rw[Ic W];refine dB ⟨_,rfl,rfl,by omega,?_⟩;have:z u=false:=by rw[hpp];dsimp only;rw[Ic W];simp
     rw[Z,this,Ia AA,CU];exact hR
    ·rw[decide_eq_false W];have:z u=true:=by rw[hpp];dsimp only;rw[decide_eq_false W,Ic g1];rfl
     refine dJ ⟨_,rfl,_,rfl,rfl,by rw[AH];exact F0 O,?_⟩;rw[Z,this,Ib rfl];exact hR.snoc U ok
   ·have:z u=false:=by
     rw[hpp];dsimp only;rw[decide_eq_false fun e=>g (Ic (by rw[e];rfl))];rfl
    refine⟨_,rfl,rfl,by omega,?_⟩;rw[Z,this,Ia AA,CU];exact hR
  ·rintro zs J H2 ⟨o,rfl,rfl,O,hR⟩ L hL;have sL:=aU (o:=.lst zs) hL;rw[M,BC]at hR;refine k L zs _ (B.trans sL) (aDX B hL) aM ?_;unfold jU;rw[← hpp];exact hR.same sL
theorem aCY:bV ["laying"] ["laying"] (aO qK):=⟨rfl,rfl,rfl,by decide,rfl,by decide,by decide⟩
theorem aFL{f:Ah}{fd:AK}(F:Fun K "start" "start" qK f fd)
  (GL:Cl P w K mg base 5 "laying_of" ["thing"] oU)
  :cQ P w K mg base CX0 6 f fd ["laying"] aCX:=by
 refine F.ok aCY (fun vs H Q E h=>?_) (fun ab A outer s H vs Q E hr h=>?_)
 ·obtain⟨x,d0,fe,rfl,_⟩:=h;rfl
 ·obtain⟨x,d0,fe,rfl,rd,ed,M,hf,h8,k⟩:=h;have nd:=aCY.nd;have B:cS 5 _:=hr;refine⟨_,(aV (aY (c9 (aG (bE GL B (aG (pv 0) aF)) (aG (c9 aF) (aG (c9 aF) aF)))))),_,rfl,true,x,d0,rfl,rd,by rw[ed];exact M,fun y H1 s1 U=>?_⟩;rw[ed]at U;have q:RdV false H1 y (.tuple fe):=RdV.unl U (.tup (l9 hf));obtain⟨tl,rfl⟩:∃ tl,y=.ref tl:=by
   cases q with
   | tup e M r=>exact⟨_,rfl⟩
  refine⟨A3 _,fun W h1=>?_⟩;have J:=aU (o:=.tup []) h1;refine⟨A3 _,fun O h2=>?_⟩;have z:=aU (o:=.tup []) h2;refine⟨zZ3,fun t ht=>?_⟩;have st:=aU (o:=.tup [V.ref tl,.ref W,.ref O]) ht;have Y:=(J.trans z).trans st;exact k t _ (s1.trans Y) ⟨⟨tl,W,O,[],aM,q.same Y,st _ _ (z _ _ aM),⟨rfl,fun i x Z=>by simp at Z⟩,st _ _ aM⟩,hf,M,h8,A3 _,A3 _⟩
theorem xU:bV ["state","thing","laying","forms","backs","row","told"] ["state","thing"] (aO k9):=⟨rfl,rfl,rfl,by decide,rfl,by decide,by decide⟩
theorem aBT{f:Ah}{fd:AK}(F:Fun K "written" "written" k9 f fd)(W:mg "len"=none)(aj:mg "tuple"=none)(ac:mg "list"=none)(J:mg "sorted"=none)(ao:∃ t,mg "MOST_FORMS"=some (.int 60 t))(ak:∃ t,mg "MOST_ROWS"=some (.int 40 t))
  (GR:Cl P w K mg base 9 "row_for" ["laying","thing"] m5)
  (GS:Cl P w K mg base 2 "standing" ["state"] oV)
  :cQ P w K mg base CX0 10 f fd ["state","thing"] xS:=by
 refine F.ok xU (fun vs H Q E h=>?_) (fun bg A outer s H vs Q E hr h=>?_)
 ·obtain⟨t,x,fe,us,bs,r,rfl,_⟩:=h;rfl
 ·obtain⟨t,x,fe,us,bs,r,rfl,st,hth,hok,h40,hun,k1,k2⟩:=h;have nd:=xU.nd;obtain⟨tf,hmf⟩:=ao;obtain⟨tm,hmr⟩:=ak;have ay:cS 9 _:=hr;have az:cS 2 _:=hr.mono (by decide);have ap:cS 1 _:=hr.mono (by decide);refine⟨_,(aH (i5 (pv 0) (jV rfl (cH (bH (i:=2) nd rfl (AE rfl)) (cH (bH (i:=3) nd rfl (AE rfl)) (cH (bH (i:=4) nd rfl (AE rfl)) iE)))))
   (aH (bJ (i:=5) nd rfl (AE rfl) (bE GR ay (aG (pv 2) (aG (pv 1) aF))))
   (aH (c6 (bY (aHZ ap) (pv 5) (pv 3) (by with_unfolding_all rfl)) (aV (aY (pv 0))) bZ)
   (aH (bJ (i:=6) nd rfl (AE rfl) (c9 (aG (pv 2) (aG (cV cU (by rfl) aj (by kernel_rfl) (aG (aW (pJ ap) (by rfl) J (by kernel_rfl) (aG (b8 aBb (cV fW (by rfl) ac (by kernel_rfl) (aG (pv 3) aF)) (eV (aG (pv 5) aF))) aF)) aF)) (aG (pv 4) aF)))))
   (aH (c6 (PW.pt (gX (bY v4 (aW bC (by rfl) W AN (aG (cO c0 (pv 6) aQ Ig) aF)) (dE (v:=.int 60) (by rfl) hmf ⟨_,rfl⟩) (cI _)) (fI (bY v4 (aW bC (by rfl) W AN (aG (bE GS az (aG (pv 6) aF)) aF)) (dE (v:=.int 40) (by rfl) hmr ⟨_,rfl⟩) (cI _))))) fA bZ)
   (aV (aY (pv 6)))))))),?_⟩
  obtain⟨lay,fo,ba,ys,h1,h2,h3,h4,h5⟩:=st.ex;have bp:=h4.len;refine⟨_,rfl,t,_,rfl,bF h1,rfl,_,_,rfl,_,_,rfl,_,_,rfl,rfl,_,rfl,_,rfl,lay,_,x,r,rfl,oD.of h2 st.lf,by rw[Ad];exact st.l8,hth,hok,fun y H1 s1 ry=>?_⟩;dsimp only[dI];have z:=st.ok;have am:=h4.same s1;refine⟨_,rfl,_,rfl,false,r.d,us.map bU.d,ry,.inl (.tup (s1 _ _ h3) (by omega) am.rdvs),hok.rowD.ly,pV z,Bg hok.rowD.dp (by decide),_,rfl,dS (fun g=>?_) fun g=>?_⟩
  ·exact⟨_,rfl,k1 ((sP z hok).mp (by simpa using g)) H1 s1⟩
  have Y:r ∉ us:=fun h=>g (by simpa using(sP z hok).mpr h);refine⟨_,rfl,_,rfl,fo,ys,rfl,.inr (bF (s1 _ _ h3)),fun L hL=>?_⟩;have sL:=aU (o:=.lst ys) hL;refine⟨_,rfl,zZ1,fun L1 ah=>?_⟩;have an:=aU (o:=.lst [y]) ah;have n1:L≠L1:=aX aM ah;refine⟨L,L1,ys,[y],rfl,rfl,an _ _ aM,aM,aS (by show ys.length + 1≤1000000;omega),fun L2 aB=>?_⟩;have aK:=aU (o:=.lst (ys ++ [y])) aB;have s2:=(sL.trans an).trans aK;have e2:upd (upd (upd H1 L (.lst ys)) L1 (.lst [y])) L2 (.lst (ys ++ [y])) L2=some (.lst (ys ++ [y])):=aM;generalize upd (upd (upd H1 L (.lst ys)) L1 (.lst [y])) L2 _=H2 at s2 e2 ⊢;have aq:cX H2 (ys ++ [y]) (us ++ [r]) (fe.map c3):=(am.same s2).snoc (ry.same s2) hok;have q:∀ u∈us ++ [r],u.Ok (fe.map c3):=fun u hu=>by
   rcases Bh.mp hu with h | h
   ·exact z u h
   ·rw[BE.mp h];exact hok
  have B:∀ d∈(us ++ [r]).map bU.d,∃ u∈us ++ [r],u.d=d:=fun d hd=>by
   obtain⟨u,hu,e⟩:=Bn.mp hd;exact⟨u,hu,e⟩
  have aN:(us ++ [r]).Nodup:=CV.mpr ⟨hun,by simp,fun a ha b hb e=>Y (by rw[BE.mp hb]at e;rw[← e];exact ha)⟩;refine⟨L2,ys ++ [y],(us ++ [r]).map bU.d,rfl,e2,aq.rdvs,fun d hd e he=>?_,fun d hd=>?_,by rw[Ad,AH];show _ + 1 < 64;omega,fun L3 o aJ ho hs=>?_⟩
  ·obtain⟨u,hu,rfl⟩:=B d hd;obtain⟨v,hv,rfl⟩:=B e he;exact aCT (q u hu) (q v hv)
  ·obtain⟨u,hu,rfl⟩:=B d hd;exact(q u hu).rowD
  rw[Ad]at ho;obtain⟨vs,hp,hV,ed⟩:=aq.pick ho;have ae:oE vs:=aCW ed (hs (yL (fun _ _ e=>bU.d_inj e) aN));have aD:=aU (o:=.lst (o.map fun i=>(ys ++ [y]).getD i .non)) aJ;refine⟨L3,_,rfl,.inl ⟨bG aM,fun U aP=>?_⟩⟩;have aL:=aU (o:=.tup (o.map fun i=>(ys ++ [y]).getD i .non)) aP;have s3:=aD.trans aL;have O:upd (upd H2 L3 (.lst (o.map fun i=>(ys ++ [y]).getD i .non))) U (.tup (o.map fun i=>(ys ++ [y]).getD i .non)) U=some (.tup (o.map fun i=>(ys ++ [y]).getD i .non)):=aM;generalize upd (upd H2 L3 (.lst (o.map fun i=>(ys ++ [y]).getD i .non))) U _=H3 at s3 O ⊢;have ab:=hV.same s3;generalize (o.map fun i=>(ys ++ [y]).getD i .non)=zs at O ab;have be:vs.length=us.length + 1:=by rw[hp.length_eq,AH];rfl
  have bf:=ab.len;refine⟨_,rfl,zZ3,fun Z aE=>?_⟩;have M:=aU (o:=.tup [V.ref lay,.ref U,.ref ba]) aE;have sA:=(s1.trans s2).trans (s3.trans M);have af:iD (upd H3 Z (.tup [V.ref lay,.ref U,.ref ba])) Z fe vs bs:=⟨⟨lay,U,ba,zs,aM,h2.same sA,M _ _ O,ab.same M,sA _ _ h5⟩,st.lf,st.ll,st.l8,by omega,st.b6⟩
  have ai:upd H3 Z (.tup [V.ref lay,.ref U,.ref ba]) Z=some (.tup [V.ref lay,.ref U,.ref ba]):=aM;have aa:=M _ _ O;generalize upd H3 Z _=H4 at sA af ai aa ⊢;dsimp only[dI];refine⟨_,rfl,Z,_,1,_,rfl,rfl,bF ai,rfl,U,_,rfl,.inr (bF aa),_,_,rfl,rfl,_,rfl,?_⟩;rw[decide_eq_false (show¬ ((60:Int) < (zs.length:Int)) by omega)];refine dB ?_;refine⟨_,rfl,Z,fe,vs,bs,rfl,af,fun l xs H5 s5 bd aC aT=>?_⟩;have bm:=aT.len;have bo:=pW vs bs;refine⟨l,_,rfl,.inl (bG aC),_,_,rfl,rfl,_,rfl,?_⟩;rw[decide_eq_false (show¬ ((40:Int) < (xs.length:Int)) by omega)];refine dB ?_;exact⟨_,rfl,k2 Y Z vs H5 (sA.trans s5) (af.same s5) hp ae⟩
theorem rM:bV ["state","name","laying","forms","backs"] ["state","name"] (aO h9):=⟨rfl,rfl,rfl,by decide,rfl,by decide,by decide⟩
theorem yT{f:Ah}{fd:AK}(F:Fun K "taken_back" "taken_back" h9 f fd)(U:mg "len"=none)(O:mg "tuple"=none)(B:mg "list"=none)(q:mg "sorted"=none)(W:∃ t,mg "MOST_BACKS"=some (.int 60 t))
  (GN:Cl P w K mg base 1 "is_name" ["thing"] (uW K))
  :cQ P w K mg base CX0 2 f fd ["state","name"] rJ:=by
 refine F.ok rM (fun vs H Q E h=>?_) (fun av A outer s H vs Q E hr h=>?_)
 ·obtain⟨t,z,fe,us,bs,rfl,_⟩:=h;rfl
 ·obtain⟨t,z,fe,us,bs,rfl,st,hz,hb6,k1,k2⟩:=h;have nd:=rM.nd;obtain⟨tb,hmb⟩:=W;have ah:cS 1 _:=hr;refine⟨_,(aH (i5 (pv 0) (jV rfl (cH (bH (i:=2) nd rfl (AE rfl)) (cH (bH (i:=3) nd rfl (AE rfl)) (cH (bH (i:=4) nd rfl (AE rfl)) iE)))))
   (aH (c6 (dL (dO (bE GN ah (aG (pv 1) aF)))) fA bZ)
   (aH (c6 (bY p8 (pv 1) (pv 4) (by with_unfolding_all rfl)) (aV (aY (pv 0))) bZ)
   (aH (c6 (bY aGX (aW bC (by rfl) U AN (aG (pv 4) aF)) (dE (v:=.int 60) (by rfl) hmb ⟨_,rfl⟩) (cI _)) fA bZ)
   (aV (aY (c9 (aG (pv 2) (aG (pv 3) (aG (cV cU (by rfl) O (by kernel_rfl) (aG (aW lS (by rfl) q (by kernel_rfl) (aG (b8 aBb (cV fW (by rfl) B (by kernel_rfl) (aG (pv 4) aF)) (eV (aG (pv 1) aF))) aF)) aF)) aF)))))))))),?_⟩
  obtain⟨lay,fo,ba,ys,h1,h2,h3,h4,h5⟩:=st.ex;have az:=(gM hz).2;refine⟨_,rfl,t,_,rfl,bF h1,rfl,_,_,rfl,_,_,rfl,_,_,rfl,rfl,_,rfl,.str z,rfl,.inl ⟨z,rfl,by omega,fun H1 M=>⟨_,rfl,?_⟩⟩⟩;rw[hz];refine dB ?_;refine⟨_,rfl,_,rfl,ba,_,rfl,.inr (bF (M _ _ h5)),rfl,fE _,_,rfl,?_⟩;show if (if false=true then !inV (V.str z) (bs.map V.str) else inV (V.str z) (bs.map V.str))=true then _ else _
  rw[Ia AA,nS];by_cases g:z∈bs
  ·rw[Ic g];exact dJ ⟨_,rfl,k1 g H1 M⟩
  rw[decide_eq_false g];refine dB ?_;refine⟨_,rfl,ba,_,rfl,.inr (bF (M _ _ h5)),_,_,rfl,rfl,_,rfl,?_⟩;rw[Ad,decide_eq_false (show¬ ((60:Int)≤(bs.length:Int)) by omega)];refine dB ?_;refine⟨_,rfl,_,rfl,_,rfl,ba,_,rfl,.inr (bF (M _ _ h5)),fun L hL=>?_⟩;have sL:=aU (o:=.lst (bs.map V.str)) hL;refine⟨_,rfl,zZ1,fun L1 aj=>?_⟩;have Y:=aU (o:=.lst [V.str z]) aj;refine⟨L,L1,_,[V.str z],rfl,rfl,Y _ _ aM,aM,aS (by rw[Ad];show bs.length + 1≤1000000;omega),fun L2 ai=>?_⟩;have af:=aU (o:=.lst (bs.map V.str ++ [V.str z])) ai;have s2:=(sL.trans Y).trans af;have e2:upd (upd (upd H1 L (.lst (bs.map V.str))) L1 (.lst [V.str z])) L2 (.lst (bs.map V.str ++ [V.str z])) L2=some (.lst ((bs ++ [z]).map V.str)):=by rw[aM,AQ];rfl
  generalize upd (upd (upd H1 L (.lst (bs.map V.str))) L1 (.lst [V.str z])) L2 _=H2 at s2 e2 ⊢;refine⟨L2,bs ++ [z],rfl,bG e2,by rw[AH];show bs.length + 1 < 64;omega,fun L3 Z ae hp hs=>?_⟩;have ac:=aU (o:=.lst (Z.map V.str)) ae;refine⟨L3,_,rfl,.inl ⟨bG aM,fun tp am=>⟨zZ3,fun t' ad=>?_⟩⟩⟩;have ag:=aU (o:=.tup (Z.map V.str)) am;have J:=aU (o:=.tup [V.ref lay,.ref fo,.ref tp]) ad;have sA:=(M.trans s2).trans ((ac.trans ag).trans J);have ax:Z.length=bs.length + 1:=by rw[hp.length_eq,AH];rfl
  exact k2 g t' Z _ sA ⟨⟨lay,fo,tp,ys,aM,h2.same sA,sA _ _ h3,h4.same sA,J _ _ aM⟩,st.lf,st.ll,st.l8,st.u6,by omega⟩ hp hs
theorem xV:bV ["state"] ["state"] (aO lA):=⟨rfl,rfl,rfl,by decide,rfl,by decide,by decide⟩
theorem aBU{f:Ah}{fd:AK}(F:Fun K "roll_now" "roll_now" lA f fd)
  (GO:Cl P w K mg base 12 "roll_of" ["laying","rows"] aAS)
  (GS:Cl P w K mg base 2 "standing" ["state"] oV)
  :cQ P w K mg base CX0 13 f fd ["state"] xT:=by
 refine F.ok xV (fun vs H Q E h=>?_) (fun aa A outer s H vs Q E q h=>?_)
 ·obtain⟨t,fe,us,bs,rfl,_⟩:=h;rfl
 ·obtain⟨t,fe,us,bs,rfl,st,h40,k⟩:=h;have nd:=xV.nd;have J:cS 12 _:=q;have W:cS 2 _:=q.mono (by decide);refine⟨_,(aV (aY (bE GO J (aG (cO c0 (pv 0) aQ Ig) (aG (bE GS W (aG (pv 0) aF)) aF))))),?_⟩;obtain⟨lay,fo,ba,ys,h1,h2,h3,h4,h5⟩:=st.ex;have B:=st.ok;refine⟨_,rfl,t,_,0,_,rfl,rfl,bF h1,rfl,_,rfl,t,fe,us,bs,rfl,st,fun l xs H1 Y hl el hR=>?_⟩;have M:=aA0 us bs;have Z:=pW us bs;have ae:∀ r∈jU us bs,r.Ok (fe.map c3):=fun r q=>B r (Eh.mp q).1;refine⟨.ref lay,l,.tuple fe,fe,xs,jU us bs,jU us bs,rfl,(h2.same Y).flip (vK st.lf) true,aCV st.lf,st.ll,st.lf,st.l8,.inl el,by omega,⟨hR.len,fun i z hz=>?_,fun r q r' U e=>?_⟩,M,fun r=>Iff.rfl,by omega,fun t' os H2 s2 hp O rd=>k t' os H2 (Y.trans s2) hp O rd⟩
  ·obtain⟨u,e,rd,ok⟩:=hR.at' i z hz;exact⟨u,e,ok.thg rd,ok⟩
  ·obtain⟨i,hi⟩:=BK q;obtain⟨j,hj⟩:=BK U;obtain⟨hi',ei⟩:=AS.mp hi;obtain⟨hj',ej⟩:=AS.mp hj;have h2:=Cq.mp (BJ.mp M);rcases FJ i j with z | z | z
   ·exact absurd (by rw[ei,ej];exact e) (h2 i j hi' hj' z)
   ·subst z;rw[← ei,← ej]
   ·exact absurd (by rw[ei,ej];exact e.symm) (h2 j i hj' hi' z)
theorem aBV{us vs:List bU}{bs q:List Str}(z:us.Perm vs)(B:bs.Perm q):(jU us bs).Perm (jU vs q):=by
 have e:(fun r:bU=>decide (((us.map (·.name)).countP fun y=>decide (y=r.name))=1) && !decide (r.name∈bs))=fun r:bU=>decide (((vs.map (·.name)).countP fun y=>decide (y=r.name))=1) && !decide (r.name∈q):=by
  funext r;rw[(z.map (·.name)).countP_eq,decide_eq_decide.mpr (B.mem_iff (a:=r.name))]
 unfold jU;rw[e];exact z.filter _
theorem oE.nd{us:List bU}{fs:List Str}(h:oE us)(ok:∀ u∈us,u.Ok fs):us.Nodup:=by
 induction us with
 | nil=>simp
 | cons x r B=>
  obtain⟨a,b⟩:=Cf.mp h;refine CF.mpr ⟨fun q=>?_,B b fun u z=>ok u (AJ _ z)⟩;have:=a x q;rw[pH (ok x AG).rowD.pl]at this;cases this
def stD(fe:List Aj)(us:List bU)(bs:List Str):Aj:=.tuple [.tuple fe,.tuple (us.map bU.d),.tuple (bs.map AX)]
theorem iD.rd{H:Hp}{t:Ah}{fe:List Aj}{us:List bU}{bs:List Str}(h:iD H t fe us bs)(q:∀ b∈bs,cA b=true):RdV false H (.ref t) (stD fe us bs):=by
 obtain⟨lay,fo,ba,ys,h1,h2,h3,h4,h5⟩:=h.ex;have B:=h4.len;have F:=h.u6;have J:=h.b6;exact .tup h1 (by show 3≤1000;decide) (.cons h2 (.cons (.tup h3 (by omega) h4.rdvs) (.cons (.tup h5 (by rw[Ad];omega) (lG fun z hz=>by have:=(gM (q z hz)).2;omega)) .nil)))
theorem aFM{a b c:Aj}(ha:OkD 900000 4 a)(q:OkD 900000 4 b)(hc:OkD 900000 4 c):OkD 3000000 10 (.tuple [a,b,c]):=by
 refine(OkD.tuple (n:=3) (b:=900000) (k:=4) (fun d hd=>?_) (by show 3≤3;decide)).mono (by decide) (by decide);simp only[Ao,Az,or_false]at hd;rcases hd with rfl | rfl | rfl
 ·exact ha
 ·exact q
 ·exact hc
theorem aCZ{fe:List Aj}(q:aAO fe)(z:fe.length≤8):OkD 900000 4 (.tuple fe):=(OkD.tuple (fun d hd=>(q d hd).2.1) z).mono (by decide) (by decide)
theorem aA2{os:List bU}{fs:List Str}(q:∀ r∈os,r.Ok fs)(h:os.length≤60):OkD 900000 4 (.tuple (os.map bU.d)):=(OkD.tuple (n:=60) (b:=13352) (k:=3) (fun d hd=>by
  obtain⟨r,hr,rfl⟩:=Bn.mp hd;exact(q r hr).okd.1) (by rw[Ad];exact h)).mono (by decide) (by decide)
theorem aFN{bs:List Str}(q:∀ b∈bs,cA b=true)(h:bs.length≤60):OkD 900000 4 (.tuple (bs.map AX)):=(OkD.tuple (n:=60) (b:=102) (k:=0) (fun d hd=>by
  obtain⟨r,hr,rfl⟩:=Bn.mp hd;exact OkD.name (q r hr)) (by rw[Ad];exact h)).mono (by decide) (by decide)
theorem iD.okd{H:Hp}{t:Ah}{fe:List Aj}{us:List bU}{bs:List Str}(h:iD H t fe us bs)(q:aAO fe)(z:∀ b∈bs,cA b=true):OkD 3000000 10 (stD fe us bs):=
 aFM (aCZ q h.l8) (aA2 h.ok h.u6) (aFN z h.b6)
theorem aGS{fe:List Aj}{os:List bU}{fs:List Str}(q:aAO fe)(B:fe.length≤8)(z:∀ r∈os,r.Ok fs)(h:os.length≤60):OkD 3000000 10 (aCR fe os):=by
 refine(OkD.tuple (n:=2) (b:=900000) (k:=4) (fun d hd=>?_) (by show 2≤2;decide)).mono (by decide) (by decide);simp only[Ao,Az,or_false]at hd;rcases hd with rfl | rfl
 ·exact aCZ q B
 ·exact aA2 z h
theorem xW{H:Hp}{m:Bool}{a:Ah}{d:Aj}(r:RdV m H (.ref a) d)(o:OkD 3000000 10 d):RpV H (.ref a) d.shown:=.ref r o.sh (Bg o.dp (by decide)) (Bg o.len (by rw[PySem.sizeLine_eq];omega))
inductive oG(vs:List V)(H:Hp)(Q:VK)(u3_:XK):Prop
 | mk (lF lB:Ah) (xs:List V) (fo:List bU) (ba:List Str) (fs:List Str) (q0:vs=[.ref lF,.ref lB]) (q1:H lF=some (.lst xs)) (q2:cX H xs fo fs) (q3:fo.length≤40) (q4:H lB=some (.lst (ba.map V.str))) (q5:∀(t:Ah) (ys:List V) (os:List bU) (H':Hp),bS H H'→H' t=some (.tup ys)→cX H' ys os fs→os.Perm (jU fo ba)→vF os→Q (.ref t) H'):oG vs H Q u3_
def rN:Sp:=fun vs H Q u3_=>oG vs H Q u3_
inductive m7(vs:List V)(H:Hp)(Q:VK)(u3_:XK):Prop
 | mk (t tL lF lB:Ah) (fe:List Aj) (us:List bU) (bs:List Str) (xs:List V) (fo:List bU) (ba:List Str) (q0:vs=[.ref t,.ref tL,.ref lF,.ref lB]) (q1:iD H t fe us bs) (q2:RdV false H (.ref tL) (.tuple fe)) (q3:aAO fe) (q4:H lF=some (.lst xs)) (q5:cX H xs fo (fe.map c3)) (q6:us.Perm fo) (q7:oE us) (q8:us.length≤40) (q9:H lB=some (.lst (ba.map V.str))) (q10:bs.Perm ba) (q11:sortedS bs=true) (q12:(∀ b∈bs,cA b=true)) (q13:∀ H',bS H H'→Q (.bl true) H'):m7 vs H Q u3_
def pY:Sp:=fun vs H Q u3_=>m7 vs H Q u3_
theorem rP:bV ["_law_forms","_law_backs","_law_names_here","_law_some_here"] ["_law_forms","_law_backs"] (aO fS):=⟨rfl,rfl,rfl,by decide,rfl,by decide,by decide⟩
theorem yU{f fK:Ah}{fd W:AK}(F:Fun K "_law_standing" "_law_standing" fS f fd)(U:mg "tuple"=none)(B:mg "sorted"=none)
  (GK:cQ P w K mg base CX0 1 fK W ["_law_row_here"] pR) (mK:mg "_law_place"=some (.ref fK)) (kK:Al K (.ref fK)=true) (bK:dY K W ["_law_row_here"] [])
  :cQ P w K mg base CX0 4 f fd ["_law_forms","_law_backs"] rN:=by
 refine F.ok rP (fun vs H Q E h=>?_) (fun aw A outer s H vs Q E hr h=>?_)
 ·obtain⟨lF,lB,xs,fo,ba,fs,rfl,_⟩:=h;rfl
 ·obtain⟨lF,lB,ys,us,bs,fs,rfl,h3,h4,h40,h5,k⟩:=h;have nd:=rP.nd;have ab:cS 3 _:=hr;refine⟨_,(aH (bJ (i:=2) nd rfl (Fk rfl) (eJ (N:=["_law_row_here"]) (src:=[none]) (osc:=aO fS) (oN:=["_law_forms","_law_backs","_law_names_here","_law_some_here"]) ⟨by rfl,by decide,by decide,by decide,rfl,by rfl⟩ (lH (pv 0)) (fun cl s H fp dt C=>⟨bH (i:=0) (show(["_law_row_here"]:List Str).Nodup by decide) rfl (AE rfl),dZ,cO (r:=tF K) c0 (pv 0) aQ Ig⟩)))
   (aH (lO (i:=3) (N:=["_law_row_here","_law_backs","_law_names_here"]) (src:=[none,some 1,some 2]) (osc:=aO fS) (oN:=["_law_forms","_law_backs","_law_names_here","_law_some_here"]) ⟨by rfl,by decide,by decide,by decide,rfl,by rfl⟩ nd rfl (lH (pv 0)) (fun cl s H fp dt C=>⟨bH (i:=0) (show(["_law_row_here","_law_backs","_law_names_here"]:List Str).Nodup by decide) rfl (AE rfl),aCd (PW.pt (mM (bY eI (aBj (K:=K) BD PySem.F.slot_list_count PySem.F.type_list_count wX (pv 2) (aG (cO (r:=tF K) c0 (pv 0) aQ Ig) aF)) aQ (cI _)) (jK (bY (r:=rIn K true) gP (cO (r:=tF K) c0 (pv 0) aQ Ig) (pv 1) (by with_unfolding_all rfl))))),pv 0⟩))
   (aV (aY (cV cU (by rfl) U (by kernel_rfl) (aG (uL GK ab bK (by rfl) B (by rfl) mK (aG (pv 3) aF)) aF)))))),?_⟩
  have Y:=h4.len;have z6:ys.length≤sizeLine:=aS (by omega);refine⟨_,rfl,lF,rfl,⟨_,bG h3⟩,?_⟩;refine j9 (K:=K) (xs:=ys) (fun i zs J H'=>∃(o:Option V),J=[o]∧H'=H∧zs=((us.take i).map (·.name)).map V.str) ⟨none,rfl,rfl,rfl⟩ z6 (fun i zs σ H' p=>by obtain⟨_,_,_,rfl⟩:=p;rw[Ad,Ad,A5];omega) (fun i zs σ H' p=>by obtain⟨_,_,rfl,_⟩:=p;exact bG h3) ?_ ?_
  ·rintro i v zs J H' hv ⟨o,rfl,rfl,rfl⟩;obtain⟨u,hu,rd,ok⟩:=h4.at' i v hv;obtain⟨q,cM,rfl,hq⟩:=m6 rd ok;dsimp only[dI];refine dJ ?_;refine⟨_,rfl,q,_,1,_,rfl,rfl,bF hq,mC,_,rfl,rfl,?_⟩;rw[Bl,hu,AQ,AQ];rfl
  rintro zs J H' ⟨o,rfl,rfl,rfl⟩ N hN;rw[Y,BC];have M:=aU (o:=.lst ((us.map (·.name)).map V.str)) hN
  have eN:upd H' N (.lst ((us.map (·.name)).map V.str)) N=some (.lst ((us.map (·.name)).map V.str)):=aM
  generalize upd H' N _=H1 at M eN ⊢;dsimp only[dI];obtain⟨z,hpp⟩:∃ z:bU→Bool,z=fun r=>decide (((us.map (·.name)).countP fun y=>decide (y=r.name))=1) && !decide (r.name∈bs):=⟨_,rfl⟩
  refine⟨_,rfl,lF,rfl,⟨_,bG (M _ _ h3)⟩,?_⟩;refine j9 (K:=K) (xs:=ys) (fun i zs J H'=>∃(o:Option V),Aw3 (J=[o,some (.ref lB),some (.ref N)]) (H'=H1) (zs.length≤i∧cX H1 zs ((us.take i).filter z) fs)) ⟨none,rfl,rfl,Ap _,⟨rfl,fun i x hx=>by simp at hx⟩⟩ z6 (fun i zs σ H' p=>by obtain⟨_,_,_,h,_⟩:=p;exact h) (fun i zs σ H' p=>by obtain⟨_,_,rfl,_⟩:=p;exact bG (M _ _ h3)) ?_ ?_
  ·rintro i v zs J H2 hv ⟨o,rfl,rfl,O,hR⟩;obtain⟨u,hu,rd,ok⟩:=h4.at' i v hv;have Z:=rd.same M;obtain⟨q,cM,rfl,hq⟩:=m6 Z ok;have et:(us.take (i + 1)).filter z=(us.take i).filter z ++ if z u=true then[u] else[]:=by
    rw[Bl,hu,List.filter_append];congr 1;show List.filter _ [u]=_;rw[FS,List.filter_nil]
   dsimp only[dI];refine⟨_,rfl,.inl ⟨rfl,_,bG eN⟩,_,rfl,q,_,1,_,rfl,rfl,bF hq,mC,N,_,u.name,rfl,rfl,eN,rfl,_,rfl,dS (fun g=>?_) fun g=>?_⟩
   ·have g1:((us.map (·.name)).countP fun y=>decide (y=u.name))=1:=by
     have:=V.int.inj (Ie g);omega
    refine⟨_,rfl,q,_,1,_,rfl,rfl,bF hq,mC,_,rfl,lB,_,rfl,.inl (bG (M _ _ h5)),rfl,fE _,_,rfl,?_⟩;show if (if true=true then !inV (V.str u.name) (bs.map V.str) else inV (V.str u.name) (bs.map V.str))=true then _ else _
    rw[Ib rfl,nS];by_cases g2:u.name∈bs
    ·rw[Ic g2];refine dB ⟨_,rfl,rfl,by omega,?_⟩;have:z u=false:=by rw[hpp];dsimp only;rw[Ic g2];simp
     rw[et,this,Ia AA,CU];exact hR
    ·rw[decide_eq_false g2];have:z u=true:=by rw[hpp];dsimp only;rw[decide_eq_false g2,Ic g1];rfl
     refine dJ ⟨_,rfl,_,rfl,rfl,by rw[AH];exact F0 O,?_⟩;rw[et,this,Ib rfl];exact hR.snoc Z ok
   ·have:z u=false:=by
     rw[hpp];dsimp only;rw[decide_eq_false fun e=>g (Ic (by rw[e];rfl))];rfl
    refine⟨_,rfl,rfl,by omega,?_⟩;rw[et,this,Ia AA,CU];exact hR
  ·rintro zs J H2 ⟨o,rfl,rfl,O,hR⟩ L hL;have sL:=aU (o:=.lst zs) hL;rw[Y,BC]at hR;have eL:upd H2 L (.lst zs) L=some (.lst zs):=aM;generalize upd H2 L _=H3 at sL eL ⊢;have hS:cX H3 zs (jU us bs) fs:=by
    unfold jU;rw[← hpp];exact hR.same sL
   have aE:=pW us bs;have ak:=hS.len;refine⟨_,rfl,L,zs,aAR H3,rfl,.inl (bG eL),by omega,aCP hS,fun E1 kk z HF sF hE ac hk ho eE=>?_⟩;obtain⟨os,ho1,ho2,ho3⟩:=vH hS (aA0 us bs) ac hk ho sF;refine⟨E1,_,rfl,.inl ⟨bG eE,fun l hl=>?_⟩⟩;have sl:=aU (o:=.tup (z.map fun i=>zs.getD i .non)) hl;exact k l _ os _ ((M.trans sL).trans (sF.trans sl)) aM (ho3.same sl) ho1 ho2
theorem pZ:bV ["_law_state","_law_laying_here","_law_forms","_law_backs","_law_owed"] ["_law_state","_law_laying_here","_law_forms","_law_backs"] (aO gJ):=⟨rfl,rfl,rfl,by decide,rfl,by decide,by decide⟩
theorem vY{f:Ah}{fd:AK}(F:Fun K "_law_state_right" "_law_state_right" gJ f fd)(ab:mg "tuple"=none)(J:mg "sorted"=none)(B:mg "repr"=none)
  (GN:Cl P w K mg base 13 "roll_now" ["state"] xT)
  (GS:Cl P w K mg base 4 "_law_standing" ["_law_forms","_law_backs"] rN)
  :cQ P w K mg base CX0 14 f fd ["_law_state","_law_laying_here","_law_forms","_law_backs"] pY:=by
 refine F.ok pZ (fun vs H Q E h=>?_) (fun bB A outer s H vs Q E hr h=>?_)
 ·obtain⟨t,tL,lF,lB,fe,us,bs,xs,fo,ba,rfl,_⟩:=h;rfl
 ·obtain⟨t,tL,lF,lB,fe,us,bs,xs,fo,ba,rfl,st,rL,hFl,eF,hF,hp,hrise,h40,eB,hb,hs,hnb,k⟩:=h;have nd:=pZ.nd;have ao:cS 13 _:=hr;have bf:cS 4 _:=hr.mono (by decide);have W:cS 1 _:=hr.mono (by decide);refine⟨_,(aH (bJ (i:=4) nd rfl (AE rfl) (c9 (aG (pv 1) (aG (cV cU (by rfl) ab (by kernel_rfl) (aG (aW (pJ W) (by rfl) J (by kernel_rfl) (aG (pv 2) aF)) aF)) (aG (cV cU (by rfl) ab (by kernel_rfl) (aG (aW lS (by rfl) J (by kernel_rfl) (aG (pv 3) aF)) aF)) aF)))))
   (aH (c6 (bY sV (aW (hU W) (by rfl) B (by kernel_rfl) (aG (pv 0) aF)) (aW (hU W) (by rfl) B (by kernel_rfl) (aG (pv 4) aF)) (cI _)) (aV (aY jJ)) bZ)
   (aV (aY (f7 eI (aW (hU W) (by rfl) B (by kernel_rfl) (aG (bE GN ao (aG (pv 0) aF)) aF)) (aW (hU W) (by rfl) B (by kernel_rfl) (aG (c9 (aG (pv 1) (aG (bE GS bf (aG (pv 2) (aG (pv 3) aF))) aF))) aF)) (cI _)))))),?_⟩
  have bN:=hF.len;have b0:=hp.length_eq;have bv:=hb.length_eq;have bx:=st.b6;have q:=st.ok;have U:∀ u∈fo,u.Ok (fe.map c3):=fun u hu=>q u (hp.mem_iff.mpr hu);have M:∀ d∈fo.map bU.d,∃ u∈fo,u.d=d:=fun d hd=>by
   obtain⟨u,hu,e⟩:=Bn.mp hd;exact⟨u,hu,e⟩
  have a0:fo.Nodup:=hp.nodup_iff.mp (hrise.nd q);refine⟨_,rfl,_,rfl,lF,xs,fo.map bU.d,rfl,eF,hF.rdvs,fun d hd e he=>?_,fun d hd=>?_,by rw[Ad];omega,fun L3 o aP ho aA=>?_⟩
  ·obtain⟨u,hu,rfl⟩:=M d hd;obtain⟨v,hv,rfl⟩:=M e he;exact aCT (U u hu) (U v hv)
  ·obtain⟨u,hu,rfl⟩:=M d hd;exact(U u hu).rowD
  rw[Ad]at ho;obtain⟨vs,hpv,hV,ed⟩:=hF.pick ho;have Z:oE vs:=aCW ed (aA (yL (fun _ _ e=>bU.d_inj e) a0));have ev:us=vs:=vJ (hp.trans hpv.symm) q hrise Z;subst ev;have aN:=aU (o:=.lst (o.map fun i=>xs.getD i .non)) aP;refine⟨L3,_,rfl,.inl ⟨bG aM,fun tp bb=>?_⟩⟩;have aR:=aU (o:=.tup (o.map fun i=>xs.getD i .non)) bb;have s3:=aN.trans aR;have ai:upd (upd H L3 (.lst (o.map fun i=>xs.getD i .non))) tp (.tup (o.map fun i=>xs.getD i .non)) tp=some (.tup (o.map fun i=>xs.getD i .non)):=aM;generalize upd (upd H L3 (.lst (o.map fun i=>xs.getD i .non))) tp _=H3 at s3 ai ⊢;have ac:=hV.same s3;generalize (o.map fun i=>xs.getD i .non)=zs at ai ac;have bw:=ac.len;refine⟨_,rfl,lB,ba,rfl,bG (s3 _ _ eB),by omega,fun L4 Y aK be aT=>?_⟩;have em:Y=bs:=jO (be.trans hb.symm) (gS _ aT) (gS _ hs);subst em;have ah:=aU (o:=.lst (Y.map V.str)) aK;refine⟨L4,_,rfl,.inl ⟨bG aM,fun tb aJ=>⟨zZ3,fun O hO=>?_⟩⟩⟩;have af:=aU (o:=.tup (Y.map V.str)) aJ;have s4:=s3.trans (ah.trans af);have am:upd (upd H3 L4 (.lst (Y.map V.str))) tb (.tup (Y.map V.str)) tb=some (.tup (Y.map V.str)):=aM;have aa:=(ah.trans af) _ _ ai;have au:=ac.same (ah.trans af);generalize upd (upd H3 L4 (.lst (Y.map V.str))) tb _=H4 at s4 am aa au hO ⊢;have sO:=aU (o:=.tup [V.ref tL,.ref tp,.ref tb]) hO;have eO:upd H4 O (.tup [V.ref tL,.ref tp,.ref tb]) O=some (.tup [V.ref tL,.ref tp,.ref tb]):=aM;generalize upd H4 O _=H5 at sO eO ⊢;have s5:=s4.trans sO;have ae:=st.same s5;have rO:RdV false H5 (.ref O) (stD fe us Y):=.tup eO (by show 3≤1000;decide) (.cons (rL.same s5) (.cons (.tup (sO _ _ aa) (by omega) (au.same sO).rdvs) (.cons (.tup (sO _ _ am) (by rw[Ad];omega) (lG fun z hz=>by have:=(gM (hnb z hz)).2;omega)) .nil)))
  have aq:=ae.okd hFl hnb;refine⟨_,rfl,.ref t,_,rfl,xW (ae.rd hnb) aq,_,rfl,.ref O,_,rfl,xW rO aq,rfl,_,rfl,?_⟩;rw[Ic rfl];refine dB ?_;refine⟨_,rfl,t,fe,us,Y,rfl,ae,h40,fun t' os H6 s6 ad aZ aI=>?_⟩;have aC:∀ r∈os,r.Ok (fe.map c3):=fun r hr=>q r (Eh.mp (ad.mem_iff.mp hr)).1;have bc:os.length≤60:=by have:=pW us Y;have:=ad.length_eq;omega
  have aw:=aGS hFl st.l8 aC bc;refine⟨.ref t',_,rfl,xW aI aw,_,rfl,_,rfl,_,rfl,lF,lB,xs,fo,ba,_,rfl,(s5.trans s6) _ _ eF,hF.same (s5.trans s6),by omega,(s5.trans s6) _ _ eB,fun tS ys ap H7 s7 eS av aD aB=>?_⟩;have bd:ap=os:=vG (aD.trans ((aBV hp hb).symm.trans ad.symm)) aB aZ;subst bd;have bO:=av.len;refine⟨zZ2,fun R hR=>?_⟩;have sR:=aU (o:=.tup [V.ref tL,.ref tS]) hR;have s8:=(s5.trans s6).trans (s7.trans sR);have rR:RdV false (upd H7 R (.tup [V.ref tL,.ref tS])) (.ref R) (aCR fe ap):=.tup aM (by show 2≤1000;decide) (.cons (rL.same s8) (.cons (.tup (sR _ _ eS) (by omega) (av.same sR).rdvs) .nil));refine⟨.ref R,_,rfl,xW rR aw,rfl,?_⟩;rw[Ic rfl];exact k _ s8
theorem aIq{ds:List Aj}{q:List Str}(z:aAO ds)(e:ds.map c3=q)(hw:Nms q)(h1:1≤q.length)(B:q.length≤8):aAM (.tuple ds)=true∧ds.all cZ=true∧ds.length≤8:=by
 have F:ds.length=q.length:=by rw[← e,Ad]
 have ha:ds.all cZ=true:=Be.mpr fun d hd=>(z d hd).1;refine⟨?_,ha,by omega⟩;show(decide (1≤ds.length∧ds.length≤8) && ds.all cZ && decide (ds.map c3).Nodup)=true;rw[ha,Ic (show 1≤ds.length∧ds.length≤8 by omega),Ic (show(ds.map c3).Nodup by rw[e];exact hw.nd)];rfl
theorem cX.but{H H':Hp}{p c:Ah}{ns:List Int}{a:Int}{xs:List V}{us:List bU}{fs:List Str}(h:cX H xs us fs)(z:c7 H p c ns a)(k:bW p H H'):cX H' xs us fs:=
 ⟨h.len,fun i x q=>by obtain⟨u,a,b,c⟩:=h.at' i x q;exact⟨u,a,qP b z k,c⟩⟩
theorem yV{H:Hp}{a b:Ah}{o:HO}{xs:List V}(ha:H a=some o)(q:H b=some (.lst xs))(h:∀ ys,o≠.lst ys):a≠b:=fun e=>by
 rw[e,q]at ha;cases ha;exact h xs rfl
theorem qS{H:Hp}{l:Ah}{xs ys:List V}{x:V}{d:Aj}(r:RdV false H x d)(e:H l=some (.lst xs)):RdV false (upd H l (.lst ys)) x d:=
 r.keepF fun a o q _ h=>by rw[bI (yV q e h)];exact q
theorem yX{H:Hp}{l a:Ah}{xs ys zs:List V}(r:H a=some (.tup zs))(e:H l=some (.lst xs)):upd H l (.lst ys) a=some (.tup zs):=by
 rw[bI (yV r e fun _ z=>nomatch z)];exact r
theorem cX.lst{H:Hp}{l:Ah}{zs z xs:List V}{us:List bU}{fs:List Str}(h:cX H xs us fs)(e:H l=some (.lst zs)):cX (upd H l (.lst z)) xs us fs:=
 ⟨h.len,fun i x q=>by obtain⟨u,a,b,c⟩:=h.at' i x q;exact⟨u,a,qS b e,c⟩⟩
theorem iD.lst{H:Hp}{l t:Ah}{zs q:List V}{fe:List Aj}{us:List bU}{bs:List Str}(h:iD H t fe us bs)(e:H l=some (.lst zs)):iD (upd H l (.lst q)) t fe us bs:=by
 obtain⟨lay,fo,ba,ys,h1,h2,h3,h4,h5⟩:=h.ex;exact⟨⟨lay,fo,ba,ys,yX h1 e,qS h2 e,yX h3 e,h4.lst e,yX h5 e⟩,h.lf,h.ll,h.l8,h.u6,h.b6⟩
theorem iD.but{H H':Hp}{p c:Ah}{ns:List Int}{a:Int}{t:Ah}{fe:List Aj}{us:List bU}{bs:List Str}(h:iD H t fe us bs)(q:c7 H p c ns a)(k:bW p H H'):iD H' t fe us bs:=by
 obtain⟨lay,fo,ba,ys,h1,h2,h3,h4,h5⟩:=h.ex;exact⟨⟨lay,fo,ba,ys,sH h1 q k,qP h2 q k,sH h3 q k,h4.but q k,sH h5 q k⟩,h.lf,h.ll,h.l8,h.u6,h.b6⟩
theorem c7.lst{H:Hp}{p c l:Ah}{ns:List Int}{a:Int}{zs q:List V}(h:c7 H p c ns a)(e:H l=some (.lst zs))(n:c≠l):c7 (upd H l (.lst q)) p c ns a:=by
 obtain⟨b,hb,ho⟩:=h.ob;refine⟨⟨b,hb,?_⟩,?_,h.ge,h.sm⟩
 ·rw[bI (yV ho e fun _ z=>nomatch z)];exact ho
 ·rw[bI n];exact h.ce
theorem cX.erase{H:Hp}{xs:List V}{us:List bU}{fs:List Str}(h:cX H xs us fs)(k:Nat):cX H (xs.eraseIdx k) (us.eraseIdx k) fs:=by
 refine⟨by rw[List.length_eraseIdx,List.length_eraseIdx,h.len],fun i x q=>?_⟩;rw[List.getElem?_eraseIdx]at q ⊢;by_cases g:i < k
 ·rw[Ib g]at q ⊢;exact h.at' _ _ q
 ·rw[Ia g]at q ⊢;exact h.at' _ _ q
inductive aA3(vs:List V)(H:Hp)(Q:VK)(u3_:XK):Prop
 | mk (p c:Ah) (ns:List Int) (a:Int) (m:Nat) (q0:vs=[.ref p,.int m]) (q1:c7 H p c ns a) (q2:a≤10000) (q3:m≤31) (q4:∀(t tL lR lN:Ah) (fe:List Aj) (xs:List V) (us:List bU) (rs:List Str) (a':Int) (H':Hp),H' t=some (.tup [.ref tL,.ref lR,.ref lN])→RdV false H' (.ref tL) (.tuple fe)→aAO fe→aAM (.tuple fe)=true→fe.all cZ=true→fe.length≤8→H' lR=some (.lst xs)→cX H' xs us (fe.map c3)→us.length=m→H' lN=some (.lst (rs.map V.str))→rs.length=40→Nms rs→a≤a'→a'≤a + 10000→c7 H' p c ns a'→Q (.ref t) H'):aA3 vs H Q u3_
def aFP:Sp:=fun vs H Q u3_=>aA3 vs H Q u3_
theorem aFQ:bV ["_law_pen_here","_law_many","_law_fields","_law_plots","_law_houses","_law_names_here","_law_laying_here","_law_days_here","_law_few","_law_rows","_law_k","_law_name"] ["_law_pen_here","_law_many"] (aO wY):=⟨rfl,rfl,rfl,by decide,rfl,by decide,by decide⟩
theorem aGT{f ah fL fD fT fR:Ah}{fd aa aI aZ bn bb:AK}(F:Fun K "_law_pool" "_law_pool" wY f fd)(bc:mg "range"=none)
  (cK:cQ P w K mg base CX0 3 ah aa ["_law_pen_here","_law_fields","_law_rows"] aCD) (cx:mg "_law_sorts"=some (.ref ah)) (kSo:Al K (.ref ah)=true) (ci:dY K aa ["_law_pen_here","_law_fields","_law_rows"] [])
  (GL:cQ P w K mg base CX0 3 fL aI ["_law_pen_here","_law_fields","_law_houses"] aCK) (mL:mg "_law_laying"=some (.ref fL)) (kL:Al K (.ref fL)=true) (bL:dY K aI ["_law_pen_here","_law_fields","_law_houses"] [])
  (GD:cQ P w K mg base CX0 2 fD aZ ["_law_pen_here","_law_many"] aFv) (mD:mg "_law_days"=some (.ref fD)) (kD:Al K (.ref fD)=true) (bD:dY K aZ ["_law_pen_here","_law_many"] [])
  (GT:cQ P w K mg base CX0 1 fT bn ["_law_pen_here","_law_many"] jE) (mT:mg "_law_take"=some (.ref fT)) (kT:Al K (.ref fT)=true) (bT:dY K bn ["_law_pen_here","_law_many"] [])
  (GR:cQ P w K mg base CX0 4 fR bb ["_law_pen_here","_law_name","_law_day","_law_sorts_here"] aHh) (mR:mg "_law_row"=some (.ref fR)) (kR:Al K (.ref fR)=true) (bR:dY K bb ["_law_pen_here","_law_name","_law_day","_law_sorts_here"] [])
  :cQ P w K mg base CX0 5 f fd ["_law_pen_here","_law_many"] aFP:=by
 refine F.ok aFQ (fun vs H Q E h=>?_) (fun dv A outer s H vs Q E hr h=>?_)
 ·obtain⟨p,c,ns,a,m,rfl,_⟩:=h;rfl
 ·obtain⟨p,c,ns,a,m,rfl,hp,ha,hm,k⟩:=h;have nd:=aFQ.nd;have cz:cS 4 _:=hr;have ap:cS 3 _:=hr.mono (by decide);have b2:cS 2 _:=hr.mono (by decide);have Y:cS 1 _:=hr.mono (by decide);refine⟨_,(aH (i5 (eY cK ap rfl cx kSo ci .nil iP (aG (pv 0) (aG (b8 dR aQ (eY GT Y rfl mT kT bT .nil iP (aG (pv 0) (aG aQ aF)))) (aG aQ aF)))) (jV rfl (cH (bH (i:=2) nd rfl (AE rfl)) (cH (bH (i:=3) nd rfl (AE rfl)) (cH (bH (i:=4) nd rfl (AE rfl)) (cH (bH (i:=5) nd rfl (AE rfl)) iE))))))
   (aH (bJ (i:=6) nd rfl (AE rfl) (eY GL ap rfl mL kL bL .nil iP (aG (pv 0) (aG (pv 2) (aG (pv 4) aF)))))
   (aH (bJ (i:=7) nd rfl (AE rfl) (eY GD b2 rfl mD kD bD .nil iP (aG (pv 0) (aG (pv 1) aF))))
   (aH (bJ (i:=8) nd rfl (AE rfl) (b8 dR aQ (eY GT Y rfl mT kT bT .nil iP (aG (pv 0) (aG aQ aF)))))
   (aH (bJ (i:=9) nd rfl (AE rfl) (eV aF))
   (aH (mQ Cy rfl (gE rfl bc (aG (pv 1) aF)) (g:=dI 10) (bH (i:=10) nd rfl (AE rfl))
   (aH (bJ (i:=11) nd rfl (AE rfl) (cO dN (pv 5) (cO dN (eV (aG (b8 gC (pv 10) aQ) (aG (eY GT Y rfl mT kT bT .nil iP (aG (pv 0) (aG (pv 8) aF))) aF))) (eY GT Y rfl mT kT bT .nil iP (aG (pv 0) (aG aQ aF))) Ig) Ig))
    (aV (m8 (oZ BD Cs Cr iW (pv 9) (aG (eY GR cz rfl mR kR bR .nil iP (aG (pv 0) (aG (pv 11) (aG (cO dN (pv 7) (pv 10) Ig) (aG (c9 (aG (pv 2) (aG (pv 3) (aG (pv 4) aF)))) aF))))) aF))))))
   (aV (aY (c9 (aG (pv 6) (aG (pv 9) (aG (pv 5) aF)))))))))))),?_⟩
  refine⟨_,rfl,_,rfl,p,c,ns,a,_,rfl,hp,by omega,by decide,by decide,fun r1 a1 H1 ee dj dw d3 cw dk=>?_⟩;obtain⟨nf,hnf⟩:∃ nf:Nat,(1 + r1:Int)=nf:=⟨(1 + r1).toNat,by omega⟩
  refine⟨_,_,rfl,rfl,p,c,ns,a1,nf,40,by(try dsimp only);rw[hnf];rfl,cw,by omega,by omega,by omega,fun t l1 l2 l3 l4 ws ps hs rs aA HA ht aq dc ak cf cm b0 az cs bg cn b9 bd dg dy J ck=>?_⟩;refine⟨t,_,rfl,bF ht,rfl,_,_,rfl,_,_,rfl,_,_,rfl,_,_,rfl,rfl,_,rfl,_,rfl,_,rfl,p,c,ns,aA,l1,l3,ws,hs,rfl,J,by omega,aq,ak.ok,by omega,az,bg.ok,by omega,by omega,fun tL ek fe aC HC cb bm bi be ed ea a0 ca=>?_⟩;obtain⟨hlay,hlf,hl8⟩:=aIq bi be ak (by omega) (by omega);refine⟨_,rfl,_,rfl,p,c,ns,aC,m,rfl,a0,by omega,by omega,fun lD ds aB HB cv dr cu du ei ai au=>?_⟩;refine⟨_,rfl,p,c,ns,aB,_,rfl,ai,by omega,by decide,by decide,fun r5 a5 H5 d2 dV ez dF z ab=>?_⟩;refine⟨_,_,rfl,rfl,A3 _,fun lR bh=>?_⟩;have sR:=aU (o:=.lst []) bh;have k1:=ca.trans (au.trans ab);have k0:=ck.trans k1;have nR:∀{b:Ah} {o:HO},H5 b=some o→b≠lR:=fun e=>aX e bh;have j1:=cC aq J k1;have j2:=cC cf J k1;have j3:=cC az J k1;have j4:=cC cn J k1;have jD:=cC cv ai ab;have eR:upd H5 lR (.lst []) lR=some (.lst []):=aM;have bO:=(RdV.tup cb (by have:=bm.len;omega) bm)
  have jL:=(qP (qP bO a0 au) ai ab)
  have cq:S3 H5 l1 l2 l3 ws ps hs:=⟨j1,j2,j3,by omega,by omega,cm,cs,ak,b0,bg⟩
  have af:=z.same sR;have en:((m:Nat):Int).toNat=m:=BL _;refine⟨_,rfl,m,rfl,by omega,by omega,jZ (n:=((m:Nat):Int).toNat) (fun i σ H'=>Ex3 fun(am ag:Option V) (a':Int)=>∃(xs:List V) (us:List bU),Aw6 (σ=[some (.ref p),some (.int m),some (.ref l1),some (.ref l2),some (.ref l3),some (.ref l4),some (.ref tL),some (.ref lD),some (.int (1 + r5)),some (.ref lR),am,ag]) (c7 H' p c ns a') (bW p H5 H') (H' lR=some (.lst xs)) (cX H' xs us ws) (Aw3 (us.length=i) (a5≤a') (a'≤a5 + 92 * i))) ⟨none,none,a5,[],[],rfl,af,bS.but sR,eR,⟨rfl,fun i x hx=>by simp at hx⟩,rfl,by omega,by omega⟩ ?_ ?_⟩
  ·rintro i σ HD hi ⟨am,ag,aD,xs,us,rfl,B,kD,M,W,Z,bN,bf⟩;rw[en]at hi;dsimp only[dI];have q4:=cC j4 z kD;refine⟨_,rfl,_,rfl,_,_,rfl,rfl,(show(0:Int) < 30 by decide),_,rfl,_,rfl,p,c,ns,aD,_,rfl,B,by omega,by omega,DI (show 1 + r5≤31 by omega) (by decide),fun r6 a6 H6 bP eA ew di af bz=>?_⟩;refine⟨zZ2,fun q hq=>?_⟩;have sq:=aU (o:=.lst [V.int ((0 + (i:Int)) % 30),.int r6]) hq;have ar:upd H6 q (.lst [V.int ((0 + (i:Int)) % 30),.int r6]) q=some (.lst [V.int ((0 + (i:Int)) % 30),.int r6]):=aM;generalize upd H6 q (.lst [V.int ((0 + (i:Int)) % 30),.int r6])=H7 at sq ar ⊢;have aL:=af.same sq;refine⟨_,rfl,p,c,ns,a6,_,rfl,aL,by omega,by decide,by decide,fun r8 a8 H8 cr eh dn eg bA av=>?_⟩;obtain⟨v,hv,hat⟩:=gY (xs:=[V.int ((0 + (i:Int)) % 30),.int r6]) (i:=r8) cr (by show r8 < 2;omega);obtain⟨n,rfl,hn⟩:∃ n:Nat,v=.int n∧n < 40:=by
    simp only[Ao,Az,or_false]at hv;rcases hv with rfl | rfl
    ·exact⟨((0 + (i:Int)) % 30).toNat,by rw[Dz (by omega)],by omega⟩
    ·exact⟨r6.toNat,by rw[Dz bP],by omega⟩
   refine⟨q,_,r8,_,rfl,rfl,bG (cC ar aL av),hat,?_⟩;have U:bW p HD H8:=(bz.same sq).trans av;have ao:n < rs.length:=by omega
   have ay:i < ds.length:=by omega
   have b5:rs[n]?=some rs[n]:=Ab ao;have hd:ds[i]?=some ds[i]:=Ab ay;have aR:atI (rs.map V.str) (n:Int)=some (.str rs[n]):=fV (by rw[AL,b5];rfl);have aN:atI (ds.map V.int) (0 + (i:Int))=some (.int ds[i]):=by
    rw[Int.zero_add];exact fV (by rw[AL,hd];rfl)
   refine⟨l4,_,_,_,rfl,rfl,bG (cC q4 B U),aR,?_⟩;have aT:=kD.trans U;have b1:=cC M B U;refine⟨_,rfl,.inl ⟨rfl,_,bG b1⟩,_,rfl,_,rfl,_,rfl,_,rfl,lD,_,_,_,rfl,rfl,bG (cC jD z aT),aN,_,rfl,_,rfl,_,rfl,zZ3,fun q3 b3=>?_⟩;have ac:=aU (o:=.tup [V.ref l1,.ref l2,.ref l3]) b3;have aj:=bd.ok _ (Bk ao);obtain⟨dd0,dd1⟩:=cu _ (Bk ay);refine⟨p,c,ns,a8,rs[n],ds[i],q3,l1,l2,l3,ws,ps,hs,rfl,bA.same ac,by omega,aM,(cq.but z aT).same ac,aj,dd0,dd1,fun x r aE HE aJ dz aw d5 eq cy bK=>?_⟩;have ad:bW p HD HE:=U.trans fun b o e hb=>bK b o (ac _ _ e) hb;have ae:=cC M B ad;have ec:=W.len;refine⟨lR,xs,x,rfl,rfl,ae,A2 (show xs.length < 1000000 by omega) (aS (Ap _)),_,_,aE,xs ++ [x],us ++ [r],rfl,cy.lst ae (nR z.ce),fun b o e hb=>?_,aM,((W.but B ad).snoc aJ aw).lst ae,by rw[AH,Z];rfl,by omega,by omega⟩;rw[bI (nR e)];exact kD.trans ad b o e hb
  ·rintro σ HD ⟨am,ag,aD,xs,us,rfl,B,kD,M,W,Z,bN,bf⟩;rw[en]at Z bf;refine⟨_,rfl,_,rfl,_,rfl,zZ3,fun O hO=>?_⟩;have sO:=aU (o:=.tup [V.ref tL,.ref lR,.ref l4]) hO;subst be;exact k O tL lR l4 fe xs us rs aD _ aM ((qP jL z kD).same sO) bi hlay hlf hl8 (sO _ _ M) (W.same sO) Z (sO _ _ (cC j4 z kD)) b9 bd (by omega) (by omega) (B.same sO)
inductive aC0(K:Ai)(vs:List V)(H:Hp)(Q:VK)(u3_:XK):Prop
 | mk (a:Ah) (ns:List Int) (q0:vs=[.ref a]) (q1:SqL K H a (ns.map V.int)) (q2:ns.length≤63) (q3:∀ H',Q (.bl true) H'):aC0 K vs H Q u3_
def aC1(K:Ai):Sp:=fun vs H Q u3_=>aC0 K vs H Q u3_
structure Lw(H:Hp)(p c:Ah)(ns:List Int)(a:Int)(tL lR lN lF lB lL t:Ah)(fe:List Aj)(xs xf xl:List V)(rs fo lu us:List bU)(zs ba bs:List Str):Prop where
 pen:c7 H p c ns a
 rL:RdV false H (.ref tL) (.tuple fe)
 eR:H lR=some (.lst xs)
 hR:cX H xs rs (fe.map c3)
 eN:H lN=some (.lst (zs.map V.str))
 eF:H lF=some (.lst xf)
 hF:cX H xf fo (fe.map c3)
 eB:H lB=some (.lst (ba.map V.str))
 eL:H lL=some (.lst xl)
 hL:cX H xl lu (fe.map c3)
 st:iD H t fe us bs
structure Dif(c lR lN lF lB lL:Ah):Prop where
 cF:c≠lF
 cB:c≠lB
 cL:c≠lL
 rF:lR≠lF
 rB:lR≠lB
 rL:lR≠lL
 nF:lN≠lF
 nB:lN≠lB
 nL:lN≠lL
 fB:lF≠lB
 fL:lF≠lL
 bL:lB≠lL
section
variable{H H':Hp}{p c:Ah}{ns:List Int}{a a':Int}{tL lR lN lF lB lL t:Ah}{fe:List Aj}{xs xf xl:List V}{rs fo lu us:List bU}{zs ba bs:List Str}
theorem Lw.but(h:Lw H p c ns a tL lR lN lF lB lL t fe xs xf xl rs fo lu us zs ba bs)(q:c7 H' p c ns a')(k:bW p H H'):Lw H' p c ns a' tL lR lN lF lB lL t fe xs xf xl rs fo lu us zs ba bs:=
 ⟨q,qP h.rL h.pen k,cC h.eR h.pen k,h.hR.but h.pen k,cC h.eN h.pen k,cC h.eF h.pen k,h.hF.but h.pen k,cC h.eB h.pen k,cC h.eL h.pen k,h.hL.but h.pen k,h.st.but h.pen k⟩
theorem Lw.same(h:Lw H p c ns a tL lR lN lF lB lL t fe xs xf xl rs fo lu us zs ba bs)(s:bS H H'):Lw H' p c ns a tL lR lN lF lB lL t fe xs xf xl rs fo lu us zs ba bs:=h.but (h.pen.same s) (bS.but s)
theorem Lw.setF(h:Lw H p c ns a tL lR lN lF lB lL t fe xs xf xl rs fo lu us zs ba bs)(d:Dif c lR lN lF lB lL){x:V}{u:bU}(r:RdV false H x u.d)(ok:u.Ok (fe.map c3)):Lw (upd H lF (.lst (xf ++ [x]))) p c ns a tL lR lN lF lB lL t fe xs (xf ++ [x]) xl rs (fo ++ [u]) lu us zs ba bs:=
 ⟨h.pen.lst h.eF d.cF,qS h.rL h.eF,by rw[bI d.rF];exact h.eR,h.hR.lst h.eF,by rw[bI d.nF];exact h.eN,aM,(h.hF.snoc r ok).lst h.eF,by rw[bI d.fB.symm];exact h.eB,by rw[bI d.fL.symm];exact h.eL,h.hL.lst h.eF,h.st.lst h.eF⟩
theorem Lw.setB(h:Lw H p c ns a tL lR lN lF lB lL t fe xs xf xl rs fo lu us zs ba bs)(d:Dif c lR lN lF lB lL){z:Str}:Lw (upd H lB (.lst (ba.map V.str ++ [V.str z]))) p c ns a tL lR lN lF lB lL t fe xs xf xl rs fo lu us zs (ba ++ [z]) bs:=
 ⟨h.pen.lst h.eB d.cB,qS h.rL h.eB,by rw[bI d.rB];exact h.eR,h.hR.lst h.eB,by rw[bI d.nB];exact h.eN,by rw[bI d.fB];exact h.eF,h.hF.lst h.eB,by rw[aM,AQ];rfl,by rw[bI d.bL.symm];exact h.eL,h.hL.lst h.eB,h.st.lst h.eB⟩
theorem Lw.popL(h:Lw H p c ns a tL lR lN lF lB lL t fe xs xf xl rs fo lu us zs ba bs)(d:Dif c lR lN lF lB lL)(k:Nat):Lw (upd H lL (.lst (xl.eraseIdx k))) p c ns a tL lR lN lF lB lL t fe xs xf (xl.eraseIdx k) rs fo (lu.eraseIdx k) us zs ba bs:=
 ⟨h.pen.lst h.eL d.cL,qS h.rL h.eL,by rw[bI d.rL];exact h.eR,h.hR.lst h.eL,by rw[bI d.nL];exact h.eN,by rw[bI d.fL];exact h.eF,h.hF.lst h.eL,by rw[bI d.bL];exact h.eB,aM,(h.hL.erase k).lst h.eL,h.st.lst h.eL⟩
theorem Lw.to(h:Lw H p c ns a tL lR lN lF lB lL t fe xs xf xl rs fo lu us zs ba bs){t':Ah}{z:List bU}{q:List Str}(s:iD H t' fe z q):Lw H p c ns a tL lR lN lF lB lL t' fe xs xf xl rs fo lu z zs ba q:=
 ⟨h.pen,h.rL,h.eR,h.hR,h.eN,h.eF,h.hF,h.eB,h.eL,h.hL,s⟩
end
structure Cn(m i:Nat)(fo lu us:List bU)(ba bs:List Str):Prop where
 pf:us.Perm fo
 rise:oE us
 pb:bs.Perm ba
 sb:sortedS bs=true
 nb:∀ b∈bs,cA b=true
 many:fo.length + lu.length≤m
 few:ba.length≤i
theorem aFR(xs:List V)(k:Nat):jI xs none (some (k:Int))=xs.take k:=by
 unfold jI;rw[HT.sIx_none,HT.sIx_nat,DQ,FI,← List.take_eq_take_min]
theorem yY:∀{us:List bU}{fs:List Str},(∀ u∈us,u.Ok fs)→AZ (us.map bU.d)=false
 | [],_,_=>rfl
 | u :: us,fs,h=>by
  show(AZ _ || AZ (us.map bU.d))=false;rw[yY fun v q=>h v (AJ _ q),fU (h u AG).rs];rfl
theorem cX.ok{H:Hp}{xs:List V}{us:List bU}{fs:List Str}(h:cX H xs us fs):∀ u∈us,u.Ok fs:=fun u q=>by
 obtain⟨i,hi⟩:=BK q;obtain⟨u',e,_,ok⟩:=h.at' i _ (Ab (by rw[h.len];exact(AS.mp hi).1));rw[hi]at e;cases e;exact ok
theorem aHj:bV ["_law_script","_law_pen_here","_law_laying_here","_law_rows","_law_names_here","_law_state","_law_forms","_law_backs","_law_left","_law_turn","_law_ahead","_law_old","_law_row_here","_law_some_here","_law_name"] ["_law_script"] (aO vV):=⟨rfl,rfl,rfl,by decide,rfl,by decide,by decide⟩
theorem aIr{f:Ah}{fd:AK}(F:Fun K "law" "law" vV f fd)(ah:mg "len"=none)(aC:mg "list"=none)(bz:mg "range"=none)(ao:mg "repr"=none)
  (GP:Cl P w K mg base 1 "_law_pen" ["_law_script"] (aHa K))
  (cy:Cl P w K mg base 5 "_law_pool" ["_law_pen_here","_law_many"] aFP)
  (cv:Cl P w K mg base 6 "start" ["laying"] aCX)
  (GT:Cl P w K mg base 1 "_law_take" ["_law_pen_here","_law_many"] jE)
  (GW:Cl P w K mg base 10 "written" ["state","thing"] xS)
  (GB:Cl P w K mg base 2 "taken_back" ["state","name"] rJ)
  (cN:Cl P w K mg base 14 "_law_state_right" ["_law_state","_law_laying_here","_law_forms","_law_backs"] pY)
  :cQ P w K mg base CX0 15 f fd ["_law_script"] (aC1 K):=by
 refine F.ok aHj (fun vs H Q E h=>?_) (fun eo A outer s H vs Q E hr h=>?_)
 ·obtain⟨a,ns,rfl,_⟩:=h;rfl
 ·obtain⟨sc,ns,rfl,hS,hln,k⟩:=h;have nd:=aHj.nd;have hu:=Nat.lt_of_succ_lt (aCc hr);have bj:cS 14 _:=hr;have bN:cS 10 _:=hr.mono (by decide);have cb:cS 6 _:=hr.mono (by decide);have cr:cS 5 _:=hr.mono (by decide);have aD:cS 2 _:=hr.mono (by decide);have M:cS 1 _:=hr.mono (by decide);refine⟨_,(aH (bJ (i:=1) nd rfl (AE rfl) (bE GP M (aG (pv 0) aF)))
   (aH (i5 (bE cy cr (aG (pv 1) (aG (cO dN (eV (aG aQ (aG (bE GT M (aG (pv 1) (aG aQ aF))) aF))) (bE GT M (aG (pv 1) (aG aQ aF))) Ig) aF))) (jV rfl (cH (bH (i:=2) nd rfl (AE rfl)) (cH (bH (i:=3) nd rfl (AE rfl)) (cH (bH (i:=4) nd rfl (AE rfl)) iE)))))
   (aH (bJ (i:=5) nd rfl (AE rfl) (bE cv cb (aG (pv 2) aF)))
   (aH (bJ (i:=6) nd rfl (AE rfl) (eV aF))
   (aH (bJ (i:=7) nd rfl (AE rfl) (eV aF))
   (aH (bJ (i:=8) nd rfl (AE rfl) (cV fW (by rfl) aC (by kernel_rfl) (aG (pv 3) aF)))
   (aH (mQ Cy rfl (gE rfl bz (aG (b8 dR (aW bC (by rfl) ah AN (aG (pv 3) aF)) (bE GT M (aG (pv 1) (aG aQ aF)))) aF)) (g:=dI 9) (bH (i:=9) nd rfl (AE rfl))
   (aH (bJ (i:=10) nd rfl (AE rfl) (pv 5))
    (aH (bJ (i:=11) nd rfl (AE rfl) (aW (hU M) (by rfl) ao (by kernel_rfl) (aG (pv 5) aF)))
    (aH (tY (c6 (aHP (PW.pt (mM (bY (aE3 hu) (pv 8) (eV aF) (cI _)) (jK (bY v4 (bE GT M (aG (pv 1) (aG aQ aF))) aQ (cI _)))))) (aH (bJ (i:=12) nd rfl (AE rfl) (oZ BD PySem.F.slot_list_pop PySem.F.type_list_pop zI (pv 8) (aG (bE GT M (aG (pv 1) (aG (aW bC (by rfl) ah AN (aG (pv 8) aF)) aF))) aF)))
     (aH (bJ (i:=5) nd rfl (AE rfl) (bE GW bN (aG (pv 5) (aG (pv 12) aF))))
     (aV (c6 (bY (aDz M) (pv 12) (pv 6) (by with_unfolding_all rfl)) (aV (m8 (oZ BD Cs Cr iW (pv 6) (aG (pv 12) aF)))) bZ)))) (aH (bJ (i:=13) nd rfl (AE rfl) (b8 aBb (f6 m9 (pv 4) iF (iG (b8 dR aQ (bE GT M (aG (pv 1) (aG aQ aF)))))) (eJ (N:=["_law_row_here"]) (src:=[none]) (osc:=aO vV) (oN:=["_law_script","_law_pen_here","_law_laying_here","_law_rows","_law_names_here","_law_state","_law_forms","_law_backs","_law_left","_law_turn","_law_ahead","_law_old","_law_row_here","_law_some_here","_law_name"]) ⟨by rfl,by decide,by decide,by decide,rfl,by rfl⟩ (lH (pv 3)) (fun cl s H fp dt C=>⟨bH (i:=0) (show(["_law_row_here"]:List Str).Nodup by decide) rfl (AE rfl),dZ,cO (r:=tF K) c0 (pv 0) aQ Ig⟩))))
     (aH (bJ (i:=14) nd rfl (AE rfl) (cO dN (pv 13) (bE GT M (aG (pv 1) (aG (aW bC (by rfl) ah AN (aG (pv 13) aF)) aF))) Ig))
     (aH (bJ (i:=5) nd rfl (AE rfl) (bE GB aD (aG (pv 5) (aG (pv 14) aF))))
     (aV (c6 (bY gP (pv 14) (pv 7) (by with_unfolding_all rfl)) (aV (m8 (oZ BD Cs Cr iW (pv 7) (aG (pv 14) aF)))) bZ)))))))
    (aV (c6 (PW.pt (gX (bY sV (aW (hU M) (by rfl) ao (by kernel_rfl) (aG (pv 10) aF)) (pv 11) (cI _)) (fI (dL (dO (bE cN bj (aG (pv 5) (aG (pv 2) (aG (pv 6) (aG (pv 7) aF)))))))))) (aV (aY jJ)) bZ))))))
   (aV (aY jJ))))))))),?_⟩
  refine⟨_,rfl,sc,ns,rfl,hS,hln,fun p c H1 dn s1 np=>?_⟩;refine⟨_,rfl,_,rfl,p,c,ns,0,_,rfl,dn,by omega,by decide,by decide,fun r2 a2 H2 cg ec eT ev ae ew=>?_⟩;refine⟨zZ2,fun q hq=>?_⟩;have sq:=aU (o:=.lst [V.int 30,.int r2]) hq;have bO:upd H2 q (.lst [V.int 30,.int r2]) q=some (.lst [V.int 30,.int r2]):=aM;generalize upd H2 q (.lst [V.int 30,.int r2])=H3 at sq bO ⊢;have bu:=ae.same sq;refine⟨_,rfl,p,c,ns,a2,_,rfl,bu,by omega,by decide,by decide,fun r4 a4 H4 dl e3 e5 ei ci di=>?_⟩;obtain⟨v,hv,hat⟩:=gY (xs:=[V.int 30,.int r2]) (i:=r4) dl (by show r4 < 2;omega);obtain⟨m,rfl,hm⟩:∃ m:Nat,v=.int m∧m≤30:=by
   simp only[Ao,Az,or_false]at hv;rcases hv with rfl | rfl
   ·exact⟨30,rfl,by omega⟩
   ·exact⟨r2.toNat,by rw[Dz cg],by omega⟩
  refine⟨q,_,r4,_,rfl,rfl,bG (cC bO bu di),hat,p,c,ns,a4,m,rfl,ci,by omega,by omega,fun t tL lR lN fe xs rs zs a5 H5 et rL bR b0 be cx eR hR aR eN ej dg fa eA bn=>?_⟩;refine⟨t,_,rfl,bF et,rfl,_,_,rfl,_,_,rfl,_,_,rfl,rfl,_,rfl,.ref tL,.tuple fe,fe,rfl,rL.flip (vK be) true,aCV be,b0,be,cx,fun t0 H6 s6 de=>?_⟩;refine⟨A3 _,fun lF aw=>?_⟩;have sF:=aU (o:=.lst []) aw;have eF:upd H6 lF (.lst []) lF=some (.lst []):=aM;generalize upd H6 lF (.lst [])=H7 at sF eF ⊢;refine⟨A3 _,fun lB ai=>?_⟩;have sB:=aU (o:=.lst []) ai;have eB:upd H7 lB (.lst []) lB=some (.lst []):=aM;generalize upd H7 lB (.lst [])=H8 at sB eB ⊢;have bq:=sF.trans sB;have aj:=s6.trans bq;refine⟨_,rfl,lR,xs,rfl,.inl (bG (aj _ _ eR)),fun lL ac=>?_⟩;have sL:=aU (o:=.lst xs) ac;have eL:upd H8 lL (.lst xs) lL=some (.lst xs):=aM;generalize upd H8 lL (.lst xs)=H9 at sL eL ⊢;have ab:=aj.trans sL;have bd:Dif c lR lN lF lB lL:=by
   have c5:=bn.ce;exact⟨aX (s6 _ _ c5) aw,aX ((s6.trans sF) _ _ c5) ai,aX (aj _ _ c5) ac,aX (s6 _ _ eR) aw,aX ((s6.trans sF) _ _ eR) ai,aX (aj _ _ eR) ac,aX (s6 _ _ eN) aw,aX ((s6.trans sF) _ _ eN) ai,aX (aj _ _ eN) ac,aX eF ai,aX (sB _ _ eF) ac,aX eB ac⟩
  have aB:Lw H9 p c ns a5 tL lR lN lF lB lL t0 fe xs [] xs rs [] rs [] zs [] []:=⟨bn.same ab,rL.same ab,ab _ _ eR,hR.same ab,ab _ _ eN,sL _ _ (sB _ _ eF),⟨rfl,fun i x hx=>by simp at hx⟩,sL _ _ eB,eL,hR.same ab,de.same (bq.trans sL)⟩
  have dm:Cn m 0 [] rs [] [] []:=⟨.refl _,Dv,.refl _,rfl,fun b hb=>by simp at hb,by rw[aR];show 0 + m≤m;omega,Ap _⟩
  have df:=hR.len;refine⟨_,rfl,lR,_,rfl,.inl (bG aB.eR),_,rfl,p,c,ns,a5,_,rfl,aB.pen,by omega,by decide,by decide,fun rT aT HT ek e6 em ee db ck=>?_⟩;have cK:=aB.but db ck;obtain⟨nT,hnT⟩:∃ nT:Nat,((xs.length:Nat):Int) + rT=(nT:Int):=⟨(((xs.length:Nat):Int) + rT).toNat,by omega⟩
  refine⟨_,_,rfl,rfl,nT,by(try dsimp only);rw[hnT],by omega,by omega,jZ (n:=((nT:Nat):Int).toNat) (fun i σ H'=>Ex3 fun(o9 bT bt:Option V)=>Ex3 fun(am ag ap:Option V)=>Ex3 fun(t:Ah) (xf xl:List V)=>Ex3 fun(fo lu us:List bU)=>Ex3 fun(ba bs:List Str) (a':Int)=>Aw3 (σ=[some (.ref sc),some (.ref p),some (.ref tL),some (.ref lR),some (.ref lN),some (.ref t),some (.ref lF),some (.ref lB),some (.ref lL),o9,bT,bt,am,ag,ap]) (Lw H' p c ns a' tL lR lN lF lB lL t fe xs xf xl rs fo lu us zs ba bs) (Cn m i fo lu us ba bs∧a'≤aT + 3 * i)) ⟨none,none,none,none,none,none,t0,[],xs,[],rs,[],[],[],aT,rfl,cK,dm,by omega⟩ ?_ ?_⟩
  ·rintro iT σ HI cP ⟨o9,bT,bt,am,ag,ap,t,xf,xl,fo,lu,us,ba,bs,aI,rfl,lw,J,e0⟩;rw[BL]at cP;dsimp only[dI];have bw:=lw.st.okd bR J.nb;have c1:=J.many;have dz:=J.few;have eX:=J.pf.length_eq;have eh:=J.pb.length_eq;refine⟨_,rfl,_,rfl,.ref t,_,rfl,xW (lw.st.rd J.nb) bw,fun σ' H'=>∃(am ag ap:Option V) (t':Ah) (xf xl:List V) (fo lu U:List bU) (ba Y:List Str) (a':Int),σ'=[some (.ref sc),some (.ref p),some (.ref tL),some (.ref lR),some (.ref lN),some (.ref t'),some (.ref lF),some (.ref lB),some (.ref lL),some (.int (0 + (iT:Int))),some (.ref t),some (.str (stD fe us bs).shown),am,ag,ap]∧Lw H' p c ns a' tL lR lN lF lB lL t' fe xs xf xl rs fo lu U zs ba Y∧Cn m (iT + 1) fo lu U ba Y∧a'≤aI + 3∧iD H' t fe us bs,?_,?_⟩
   ·refine⟨fun b H'=>∃ a',Lw H' p c ns a' tL lR lN lF lB lL t fe xs xf xl rs fo lu us zs ba bs∧a'≤aI + 1∧(b=true→0 < xl.length),?_,?_⟩
    ·refine⟨_,rfl,A3 _,fun q hq=>?_⟩;have sq:=aU (o:=.lst []) hq;refine⟨lL,q,xl,rfl,rfl,bG (sq _ _ lw.eL),bG aM,_,rfl,dS (fun g=>?_) fun g=>?_⟩
     ·refine⟨_,rfl,p,c,ns,aI,_,rfl,lw.pen.same sq,by omega,by decide,by decide,fun r aJ HJ r0 r1 el cD cu dj=>?_⟩;exact⟨_,_,rfl,rfl,_,rfl,aJ,(lw.same sq).but cu dj,by omega,fun _=>Ie g⟩
     ·exact⟨aI,lw.same sq,by omega,fun h=>by cases h⟩
    rintro b HJ ⟨aJ,W,cD,hb⟩;refine dS (fun g=>?_) fun g=>?_
    ·have e4:=hb g;have d3:=W.hL.len;refine⟨_,rfl,.inl ⟨rfl,_,bG W.eL⟩,_,rfl,_,rfl,lL,_,rfl,.inl (bG W.eL),p,c,ns,aJ,_,rfl,W.pen,by omega,by omega,DI (show((xl.length:Nat):Int)≤30 by omega) (by decide),fun r aK HK r0 r1 dq cT bf ay=>?_⟩;have Z:=W.but bf ay;obtain⟨j,rfl⟩:∃ j:Nat,r=j:=⟨r.toNat,by omega⟩
     obtain⟨x,hx⟩:∃ x,xl[j]?=some x:=⟨_,Ab (by omega)⟩
     have cR:seqIndex? (j:Int) xl.length=some j:=by
      unfold seqIndex?;simp;omega
     refine⟨lL,_,_,j,x,rfl,rfl,Z.eL,by omega,by omega,cR,hx,?_⟩;obtain⟨u,hu,rdx,oku⟩:=Z.hL.at' j x hx;have au:RdV false (upd HK lL (.lst (xl.eraseIdx j))) x u.d:=qS rdx Z.eL;have ad:=Z.popL bd j;generalize upd HK lL _=HP at ad au ⊢;have ez:(lu.eraseIdx j).length + 1=lu.length:=by
      have:=(AS.mp hu).1;rw[CN this];omega
     have da:us.Nodup:=J.rise.nd ad.st.ok;dsimp only[dI];refine⟨_,rfl,_,rfl,t,x,fe,us,bs,u,rfl,ad.st,oku.thg au,oku,by omega,da,fun aN H2 s2=>?_,fun bb t' U H2 s2 aE ae aD=>?_⟩
     ·have B:=ad.same s2;have cw:=B.hF.len;refine⟨_,rfl,_,rfl,true,u.d,fo.map bU.d,(au.same s2).flip (fU oku.rs) true,.inr (.lst rfl B.eF (by omega) (B.hF.rdvs.flip (yY B.hF.ok) true)),oku.rowD.ly,pV B.hF.ok,Bg oku.rowD.dp (by decide),_,rfl,?_⟩;rw[Ib rfl,(sP B.hF.ok oku).mpr (J.pf.mem_iff.mp aN)];exact dB ⟨_,_,_,t,xf,_,fo,_,us,ba,bs,aK,rfl,B,⟨J.pf,J.rise,J.pb,J.sb,J.nb,by omega,by omega⟩,by omega,B.st⟩
     ·have B:=(ad.same s2).to aE;have cw:=B.hF.len;have bo:=au.same s2;have dc:u ∉ fo:=fun h=>bb (J.pf.mem_iff.mpr h);refine⟨_,rfl,_,rfl,true,u.d,fo.map bU.d,bo.flip (fU oku.rs) true,.inr (.lst rfl B.eF (by omega) (B.hF.rdvs.flip (yY B.hF.ok) true)),oku.rowD.ly,pV B.hF.ok,Bg oku.rowD.dp (by decide),_,rfl,?_⟩;rw[Ib rfl,Bool.eq_false_iff.mpr fun h=>dc ((sP B.hF.ok oku).mp h)];refine dJ ?_;exact⟨_,rfl,.inl ⟨rfl,_,bG B.eF⟩,_,rfl,lF,xf,x,rfl,rfl,B.eF,A2 (show xf.length < 1000000 by omega) (aS (Ap _)),_,_,_,t',xf ++ [x],_,fo ++ [u],_,U,ba,bs,aK,rfl,B.setF bd bo oku,⟨ae.trans (J.pf.append_right _),aD,J.pb,J.sb,J.nb,by rw[AH];show fo.length + 1 + _≤m;omega,by omega⟩,by omega,(ad.st.same s2).lst B.eF⟩
    ·refine⟨_,rfl,_,rfl,p,c,ns,aJ,_,rfl,W.pen,by omega,by decide,by decide,fun r aK HK r0 r1 dq cT bf ay=>?_⟩;have Z:=W.but bf ay;obtain⟨n1,hn1⟩:∃ n1:Nat,(1 + r:Int)=n1:=⟨(1 + r).toNat,by omega⟩
     refine⟨_,_,rfl,rfl,?_⟩;dsimp only;rw[hn1];refine⟨n1,rfl,lN,_,rfl,bG Z.eN,fun C hC=>?_⟩;rw[aFR,← List.map_take];have sC:=aU (o:=.lst ((zs.take n1).map V.str)) hC;have eC:upd HK C (.lst ((zs.take n1).map V.str)) C=some (.lst ((zs.take n1).map V.str)):=aM;have an:=Z.same sC;generalize upd HK C _=HC at sC eC an ⊢;refine⟨_,rfl,lR,rfl,⟨_,bG an.eR⟩,?_⟩;refine j9 (K:=K) (xs:=xs) (fun i ys σ' H'=>∃(o:Option V),σ'=[o]∧H'=HC∧ys=((rs.take i).map (·.name)).map V.str) ⟨none,rfl,rfl,rfl⟩ (aS (by omega)) (fun i ys σ H' p=>by obtain⟨_,_,_,rfl⟩:=p;rw[Ad,Ad,A5];omega) (fun i ys σ H' p=>by obtain⟨_,_,rfl,_⟩:=p;exact bG an.eR) ?_ ?_
     ·rintro i v ys σ' H' hv ⟨o,rfl,rfl,rfl⟩;obtain⟨u,hu,rd,ok⟩:=an.hR.at' i v hv;obtain⟨q,cM,rfl,hq⟩:=m6 rd ok;dsimp only[dI];refine dJ ?_;refine⟨_,rfl,q,_,1,_,rfl,rfl,bF hq,mC,_,rfl,rfl,?_⟩;rw[Bl,hu,AQ,AQ];rfl
     rintro ys σ' H' ⟨o,rfl,rfl,rfl⟩ N hN;rw[df,BC];have sN:=aU (o:=.lst ((rs.map (·.name)).map V.str)) hN
     have bD:upd H' N (.lst ((rs.map (·.name)).map V.str)) N=some (.lst ((rs.map (·.name)).map V.str)):=aM
     have bx:=an.same sN;have bK:=sN _ _ eC;generalize upd H' N _=HN at sN bD bx bK ⊢;have bv:(zs.take n1).length=n1:=by rw[A5];omega
     refine⟨C,N,_,_,rfl,rfl,bK,bD,aS (by rw[Ad,Ad,Ad,bv,aR];omega),fun S hS=>?_⟩;obtain⟨ss,hss⟩:∃ ss:List Str,ss=zs.take n1 ++ rs.map (·.name):=⟨_,rfl⟩
     have cq:(zs.take n1).map V.str ++ (rs.map (·.name)).map V.str=ss.map V.str:=by rw[hss,AQ]
     rw[cq];have sS:=aU (o:=.lst (ss.map V.str)) hS;have eS:upd HN S (.lst (ss.map V.str)) S=some (.lst (ss.map V.str)):=aM;have aq:=bx.same sS;generalize upd HN S _=HS at sS eS aq ⊢;have bP:ss.length=n1 + m:=by rw[hss,AH,bv,Ad,aR]
     have cs:∀ z∈ss,cA z=true:=fun z hz=>by
      rw[hss]at hz;rcases Bh.mp hz with h | h
      ·exact dg.ok z (B5 h)
      ·obtain⟨u,hu,rfl⟩:=Bn.mp h;exact(aq.hR.ok u hu).nm
     dsimp only[dI];refine⟨_,rfl,_,rfl,_,rfl,S,_,rfl,.inl (bG eS),p,c,ns,aK,_,rfl,aq.pen,by omega,by rw[Ad,bP];omega,DI (show(((ss.map V.str).length:Nat):Int)≤100 by rw[Ad,bP];omega) (by decide),fun r5 aL HL eH c2 eq eK cj bB=>?_⟩;rw[Ad]at c2;have ax:=aq.but cj bB;obtain⟨j,rfl⟩:∃ j:Nat,r5=j:=⟨r5.toNat,by omega⟩
     have br:j < ss.length:=by omega
     have hz:cA ss[j]=true:=cs _ (Bk br);refine⟨S,_,_,_,rfl,rfl,bG (cC eS aq.pen bB),fV (by rw[AL,Ab br];rfl),?_⟩;generalize ss[j]=z at hz ⊢;refine⟨_,rfl,_,rfl,t,z,fe,us,bs,rfl,ax.st,hz,by omega,fun aN H2 s2=>?_,fun bb t' Y H2 s2 aE ae dh=>?_⟩
     ·have B:=ax.same s2;refine⟨_,rfl,_,rfl,lB,_,rfl,.inl (bG B.eB),rfl,fE _,_,rfl,?_⟩;show if (if true=true then !inV (V.str z) (ba.map V.str) else inV (V.str z) (ba.map V.str))=true then _ else _
      rw[Ib rfl,nS,Ic (J.pb.mem_iff.mp aN)];exact dB ⟨_,_,_,t,xf,xl,fo,lu,us,ba,bs,aL,rfl,B,⟨J.pf,J.rise,J.pb,J.sb,J.nb,J.many,by omega⟩,by omega,B.st⟩
     ·have B:=(ax.same s2).to aE;refine⟨_,rfl,_,rfl,lB,_,rfl,.inl (bG B.eB),rfl,fE _,_,rfl,?_⟩;show if (if true=true then !inV (V.str z) (ba.map V.str) else inV (V.str z) (ba.map V.str))=true then _ else _
      rw[Ib rfl,nS,decide_eq_false fun h=>bb (J.pb.mem_iff.mpr h)];refine dJ ?_;refine⟨_,rfl,.inl ⟨rfl,_,bG B.eB⟩,_,rfl,lB,_,.str z,rfl,rfl,B.eB,A2 (show(ba.map V.str).length < 1000000 by rw[Ad];omega) (aS (Ap _)),_,_,_,t',xf,xl,fo,lu,us,ba ++ [z],Y,aL,rfl,B.setB bd,⟨J.pf,J.rise,ae.trans (J.pb.append_right _),dh,fun b hb=>?_,J.many,by rw[AH];show ba.length + 1≤_;omega⟩,by omega,(ax.st.same s2).lst B.eB⟩;rcases Bh.mp (ae.mem_iff.mp hb)with h | h
      ·exact J.nb b h
      ·rw[BE.mp h];exact hz
   ·rintro σ' HZ ⟨am,ag,ap,t',xf,xl,fo,lu,U,ba,Y,aZ,rfl,aa,O,e9,cc⟩;dsimp only[dI];have ey:=O.pf.length_eq;have ed:=O.many;refine⟨_,rfl,.ref t,_,rfl,xW (cc.rd J.nb) bw,_,rfl,rfl,_,rfl,?_⟩;rw[Ic rfl];refine dB ?_;refine⟨_,rfl,_,rfl,_,rfl,_,rfl,t',tL,lF,lB,fe,U,Y,xf,fo,ba,rfl,aa.st,aa.rL,bR,aa.eF,aa.hF,O.pf,O.rise,by omega,aa.eB,O.pb,O.sb,O.nb,fun HY sY=>⟨_,rfl,?_⟩⟩;exact dB ⟨_,_,_,_,_,_,t',xf,xl,fo,lu,U,ba,Y,aZ,rfl,aa.same sY,O,by omega⟩
  ·rintro σ HY _;exact k HY
theorem all_mk{l:FF}{w:AY}{K:Ai}{h:Bm}{mg:Str→Option Ac}{fa:Ah}(X:K.In h)(G:h.Ns mainGlobals mg)(hfa:mg "law"=some (.ref fa))
  {fIN:Ah} {odIN anIN:Option Ah} {slIN:Array (Option Ac)} {ocIN kVIN dcIN pmIN cdIN ctIN:Ac} {fNB:Ah} {odNB anNB:Option Ah} {slNB:Array (Option Ac)} {ocNB kVNB dcNB pmNB cdNB ctNB:Ac} {fIW:Ah} {odIW anIW:Option Ah} {slIW:Array (Option Ac)} {ocIW kVIW dcIW pmIW cdIW ctIW:Ac} {fRI:Ah} {odRI anRI:Option Ah} {slRI:Array (Option Ac)} {ocRI kVRI dcRI pmRI cdRI ctRI:Ac} {fFD:Ah} {odFD anFD:Option Ah} {slFD:Array (Option Ac)} {ocFD kVFD dcFD pmFD cdFD ctFD:Ac} {fLY:Ah} {odLY anLY:Option Ah} {slLY:Array (Option Ac)} {ocLY kVLY dcLY pmLY cdLY ctLY:Ac} {fPT:Ah} {odPT anPT:Option Ah} {slPT:Array (Option Ac)} {ocPT kVPT dcPT pmPT cdPT ctPT:Ac} {fAP:Ah} {odAP anAP:Option Ah} {slAP:Array (Option Ac)} {ocAP kVAP dcAP pmAP cdAP ctAP:Ac} {fAN:Ah} {odAN anAN:Option Ah} {slAN:Array (Option Ac)} {ocAN kVAN dcAN pmAN cdAN ctAN:Ac} {fRP:Ah} {odRP anRP:Option Ah} {slRP:Array (Option Ac)} {ocRP kVRP dcRP pmRP cdRP ctRP:Ac} {fRL:Ah} {odRL anRL:Option Ah} {slRL:Array (Option Ac)} {ocRL kVRL dcRL pmRL cdRL ctRL:Ac} {fIC:Ah} {odIC anIC:Option Ah} {slIC:Array (Option Ac)} {ocIC kVIC dcIC pmIC cdIC ctIC:Ac} {fF0:Ah} {odF0 anF0:Option Ah} {slF0:Array (Option Ac)} {ocF0 kVF0 dcF0 pmF0 cdF0 ctF0:Ac} {fF1:Ah} {odF1 anF1:Option Ah} {slF1:Array (Option Ac)} {ocF1 kVF1 dcF1 pmF1 cdF1 ctF1:Ac} {fF2:Ah} {odF2 anF2:Option Ah} {slF2:Array (Option Ac)} {ocF2 kVF2 dcF2 pmF2 cdF2 ctF2:Ac} {fF3:Ah} {odF3 anF3:Option Ah} {slF3:Array (Option Ac)} {ocF3 kVF3 dcF3 pmF3 cdF3 ctF3:Ac} {fF4:Ah} {odF4 anF4:Option Ah} {slF4:Array (Option Ac)} {ocF4 kVF4 dcF4 pmF4 cdF4 ctF4:Ac} {fF5:Ah} {odF5 anF5:Option Ah} {slF5:Array (Option Ac)} {ocF5 kVF5 dcF5 pmF5 cdF5 ctF5:Ac} {fF6:Ah} {odF6 anF6:Option Ah} {slF6:Array (Option Ac)} {ocF6 kVF6 dcF6 pmF6 cdF6 ctF6:Ac} {fF7:Ah} {odF7 anF7:Option Ah} {slF7:Array (Option Ac)} {ocF7 kVF7 dcF7 pmF7 cdF7 ctF7:Ac} {fIR:Ah} {odIR anIR:Option Ah} {slIR:Array (Option Ac)} {ocIR kVIR dcIR pmIR cdIR ctIR:Ac} {fAT:Ah} {odAT anAT:Option Ah} {slAT:Array (Option Ac)} {ocAT kVAT dcAT pmAT cdAT ctAT:Ac} {fIO:Ah} {odIO anIO:Option Ah} {slIO:Array (Option Ac)} {ocIO kVIO dcIO pmIO cdIO ctIO:Ac} {fRO:Ah} {odRO anRO:Option Ah} {slRO:Array (Option Ac)} {ocRO kVRO dcRO pmRO cdRO ctRO:Ac} {fFO:Ah} {odFO anFO:Option Ah} {slFO:Array (Option Ac)} {ocFO kVFO dcFO pmFO cdFO ctFO:Ac} {fOr:Ah} {odOr anOr:Option Ah} {slOr:Array (Option Ac)} {ocOr kVOr dcOr pmOr cdOr ctOr:Ac} {fLG:Ah} {odLG anLG:Option Ah} {slLG:Array (Option Ac)} {ocLG kVLG dcLG pmLG cdLG ctLG:Ac} {fRF:Ah} {odRF anRF:Option Ah} {slRF:Array (Option Ac)} {ocRF kVRF dcRF pmRF cdRF ctRF:Ac} {fRR:Ah} {odRR anRR:Option Ah} {slRR:Array (Option Ac)} {ocRR kVRR dcRR pmRR cdRR ctRR:Ac} {fBN:Ah} {odBN anBN:Option Ah} {slBN:Array (Option Ac)} {ocBN kVBN dcBN pmBN cdBN ctBN:Ac} {fRoO:Ah} {odRoO anRoO:Option Ah} {slRoO:Array (Option Ac)} {ocRoO kVRoO dcRoO pmRoO cdRoO ctRoO:Ac} {fSD:Ah} {odSD anSD:Option Ah} {slSD:Array (Option Ac)} {ocSD kVSD dcSD pmSD cdSD ctSD:Ac} {fST:Ah} {odST anST:Option Ah} {slST:Array (Option Ac)} {ocST kVST dcST pmST cdST ctST:Ac} {fWR:Ah} {odWR anWR:Option Ah} {slWR:Array (Option Ac)} {ocWR kVWR dcWR pmWR cdWR ctWR:Ac} {fTB:Ah} {odTB anTB:Option Ah} {slTB:Array (Option Ac)} {ocTB kVTB dcTB pmTB cdTB ctTB:Ac} {fRN:Ah} {odRN anRN:Option Ah} {slRN:Array (Option Ac)} {ocRN kVRN dcRN pmRN cdRN ctRN:Ac} {fP:Ah} {odP anP:Option Ah} {slP:Array (Option Ac)} {ocP kVP dcP pmP cdP ctP:Ac} {fT:Ah} {odT anT:Option Ah} {slT:Array (Option Ac)} {ocT kVT dcT pmT cdT ctT:Ac} {fN:Ah} {odN anN:Option Ah} {slN:Array (Option Ac)} {ocN kVN dcN pmN cdN ctN:Ac} {fSo:Ah} {odSo anSo:Option Ah} {slSo:Array (Option Ac)} {ocSo kVSo dcSo pmSo cdSo ctSo:Ac} {fD:Ah} {odD anD:Option Ah} {slD:Array (Option Ac)} {ocD kVD dcD pmD cdD ctD:Ac} {fNu:Ah} {odNu anNu:Option Ah} {slNu:Array (Option Ac)} {ocNu kVNu dcNu pmNu cdNu ctNu:Ac} {fLO:Ah} {odLO anLO:Option Ah} {slLO:Array (Option Ac)} {ocLO kVLO dcLO pmLO cdLO ctLO:Ac} {fSm:Ah} {odSm anSm:Option Ah} {slSm:Array (Option Ac)} {ocSm kVSm dcSm pmSm cdSm ctSm:Ac} {fRo:Ah} {odRo anRo:Option Ah} {slRo:Array (Option Ac)} {ocRo kVRo dcRo pmRo cdRo ctRo:Ac} {fR:Ah} {odR anR:Option Ah} {slR:Array (Option Ac)} {ocR kVR dcR pmR cdR ctR:Ac} {fK:Ah} {odK anK:Option Ah} {slK:Array (Option Ac)} {ocK kVK dcK pmK cdK ctK:Ac} {fLS:Ah} {odLS anLS:Option Ah} {slLS:Array (Option Ac)} {ocLS kVLS dcLS pmLS cdLS ctLS:Ac} {fSR:Ah} {odSR anSR:Option Ah} {slSR:Array (Option Ac)} {ocSR kVSR dcSR pmSR cdSR ctSR:Ac} {fPo:Ah} {odPo anPo:Option Ah} {slPo:Array (Option Ac)} {ocPo kVPo dcPo pmPo cdPo ctPo:Ac} {fL:Ah} {odL anL:Option Ah} {slL:Array (Option Ac)} {ocL kVL dcL pmL cdL ctL:Ac}
  {t_MOST_FIELDS:Tok}
  {t_MOST_FIELD_ACRES:Tok}
  {t_LONGEST:Tok}
  {t_LAST_DAY:Tok}
  {t_FEWEST_LANDS:Tok}
  {t_MOST_LANDS:Tok}
  {t_MOST_PART_ACRES:Tok}
  {t_MOST_INCHES:Tok}
  {t_MOST_PENCE:Tok}
  {t_MOST_SPADES:Tok}
  {t_ROW_DEPTH:Tok}
  {t_LAYING_DEPTH:Tok}
  {t_MOST_ROWS:Tok}
  {t_MOST_FORMS:Tok}
  {t_MOST_BACKS:Tok}
  {t_FORMS:Ah} {eF:Nat} {xk0 xk1 xk2 xk3 xk4 xk5 xk6 xk7:Tok}
  {t_RANKS:Ah} {eR:Nat} {xr0 xr1 xr2 xr3 xr4 xr5 xr6 xr7 yr0 yr1 yr2 yr3 yr4 yr5 yr6 yr7:Tok}
  (aIN:Am K mainGlobals "is_name"=some (some (.ref fIN))) (lIN:K.lookup fIN=some ⟨ocIN,odIN,.func (Ay "is_name" "is_name" (bQ lV) (bM lV) (aO lV) .none kVIN dcIN pmIN anIN cdIN ctIN),slIN⟩) (cIN:Ar K cdIN "is_name"=true) (kIN:Al K (.ref fIN)=true)
  (aNB:Am K mainGlobals "is_number"=some (some (.ref fNB))) (lNB:K.lookup fNB=some ⟨ocNB,odNB,.func (Ay "is_number" "is_number" (bQ iY) (bM iY) (aO iY) .none kVNB dcNB pmNB anNB cdNB ctNB),slNB⟩) (cNB:Ar K cdNB "is_number"=true) (kNB:Al K (.ref fNB)=true)
  (aIW:Am K mainGlobals "is_whole"=some (some (.ref fIW))) (lIW:K.lookup fIW=some ⟨ocIW,odIW,.func (Ay "is_whole" "is_whole" (bQ kU) (bM kU) (aO kU) .none kVIW dcIW pmIW anIW cdIW ctIW),slIW⟩) (cIW:Ar K cdIW "is_whole"=true) (kIW:Al K (.ref fIW)=true)
  (aRI:Am K mainGlobals "is_rising"=some (some (.ref fRI))) (lRI:K.lookup fRI=some ⟨ocRI,odRI,.func (Ay "is_rising" "is_rising" (bQ lW) (bM lW) (aO lW) .none kVRI dcRI pmRI anRI cdRI ctRI),slRI⟩) (cRI:Ar K cdRI "is_rising"=true) (kRI:Al K (.ref fRI)=true)
  (aFD:Am K mainGlobals "is_field"=some (some (.ref fFD))) (lFD:K.lookup fFD=some ⟨ocFD,odFD,.func (Ay "is_field" "is_field" (bQ kW) (bM kW) (aO kW) .none kVFD dcFD pmFD anFD cdFD ctFD),slFD⟩) (cFD:Ar K cdFD "is_field"=true) (kFD:Al K (.ref fFD)=true)
  (aLY:Am K mainGlobals "is_laying"=some (some (.ref fLY))) (lLY:K.lookup fLY=some ⟨ocLY,odLY,.func (Ay "is_laying" "is_laying" (bQ gF) (bM gF) (aO gF) .none kVLY dcLY pmLY anLY cdLY ctLY),slLY⟩) (cLY:Ar K cdLY "is_laying"=true) (kLY:Al K (.ref fLY)=true)
  (aPT:Am K mainGlobals "is_part"=some (some (.ref fPT))) (lPT:K.lookup fPT=some ⟨ocPT,odPT,.func (Ay "is_part" "is_part" (bQ nJ) (bM nJ) (aO nJ) .none kVPT dcPT pmPT anPT cdPT ctPT),slPT⟩) (cPT:Ar K cdPT "is_part"=true) (kPT:Al K (.ref fPT)=true)
  (aAP:Am K mainGlobals "all_parts"=some (some (.ref fAP))) (lAP:K.lookup fAP=some ⟨ocAP,odAP,.func (Ay "all_parts" "all_parts" (bQ hW) (bM hW) (aO hW) .none kVAP dcAP pmAP anAP cdAP ctAP),slAP⟩) (cAP:Ar K cdAP "all_parts"=true) (kAP:Al K (.ref fAP)=true)
  (aAN:Am K mainGlobals "all_names"=some (some (.ref fAN))) (lAN:K.lookup fAN=some ⟨ocAN,odAN,.func (Ay "all_names" "all_names" (bQ hX) (bM hX) (aO hX) .none kVAN dcAN pmAN anAN cdAN ctAN),slAN⟩) (cAN:Ar K cdAN "all_names"=true) (kAN:Al K (.ref fAN)=true)
  (aRP:Am K mainGlobals "are_parts"=some (some (.ref fRP))) (lRP:K.lookup fRP=some ⟨ocRP,odRP,.func (Ay "are_parts" "are_parts" (bQ hZ) (bM hZ) (aO hZ) .none kVRP dcRP pmRP anRP cdRP ctRP),slRP⟩) (cRP:Ar K cdRP "are_parts"=true) (kRP:Al K (.ref fRP)=true)
  (aRL:Am K mainGlobals "are_lands"=some (some (.ref fRL))) (lRL:K.lookup fRL=some ⟨ocRL,odRL,.func (Ay "are_lands" "are_lands" (bQ iZ) (bM iZ) (aO iZ) .none kVRL dcRL pmRL anRL cdRL ctRL),slRL⟩) (cRL:Ar K cdRL "are_lands"=true) (kRL:Al K (.ref fRL)=true)
  (aIC:Am K mainGlobals "is_inch"=some (some (.ref fIC))) (lIC:K.lookup fIC=some ⟨ocIC,odIC,.func (Ay "is_inch" "is_inch" (bQ nM) (bM nM) (aO nM) .none kVIC dcIC pmIC anIC cdIC ctIC),slIC⟩) (cIC:Ar K cdIC "is_inch"=true) (kIC:Al K (.ref fIC)=true)
  (aF0:Am K mainGlobals "fits_part"=some (some (.ref fF0))) (lF0:K.lookup fF0=some ⟨ocF0,odF0,.func (Ay "fits_part" "fits_part" (bQ qE) (bM qE) (aO qE) .none kVF0 dcF0 pmF0 anF0 cdF0 ctF0),slF0⟩) (cF0:Ar K cdF0 "fits_part"=true) (kF0:Al K (.ref fF0)=true)
  (aF1:Am K mainGlobals "fits_join"=some (some (.ref fF1))) (lF1:K.lookup fF1=some ⟨ocF1,odF1,.func (Ay "fits_join" "fits_join" (bQ qF) (bM qF) (aO qF) .none kVF1 dcF1 pmF1 anF1 cdF1 ctF1),slF1⟩) (cF1:Ar K cdF1 "fits_join"=true) (kF1:Al K (.ref fF1)=true)
  (aF2:Am K mainGlobals "fits_forfeit"=some (some (.ref fF2))) (lF2:K.lookup fF2=some ⟨ocF2,odF2,.func (Ay "fits_forfeit" "fits_forfeit" (bQ i0) (bM i0) (aO i0) .none kVF2 dcF2 pmF2 anF2 cdF2 ctF2),slF2⟩) (cF2:Ar K cdF2 "fits_forfeit"=true) (kF2:Al K (.ref fF2)=true)
  (aF3:Am K mainGlobals "fits_measure"=some (some (.ref fF3))) (lF3:K.lookup fF3=some ⟨ocF3,odF3,.func (Ay "fits_measure" "fits_measure" (bQ i3) (bM i3) (aO i3) .none kVF3 dcF3 pmF3 anF3 cdF3 ctF3),slF3⟩) (cF3:Ar K cdF3 "fits_measure"=true) (kF3:Al K (.ref fF3)=true)
  (aF4:Am K mainGlobals "fits_mend"=some (some (.ref fF4))) (lF4:K.lookup fF4=some ⟨ocF4,odF4,.func (Ay "fits_mend" "fits_mend" (bQ qG) (bM qG) (aO qG) .none kVF4 dcF4 pmF4 anF4 cdF4 ctF4),slF4⟩) (cF4:Ar K cdF4 "fits_mend"=true) (kF4:Al K (.ref fF4)=true)
  (aF5:Am K mainGlobals "fits_alone"=some (some (.ref fF5))) (lF5:K.lookup fF5=some ⟨ocF5,odF5,.func (Ay "fits_alone" "fits_alone" (bQ nN) (bM nN) (aO nN) .none kVF5 dcF5 pmF5 anF5 cdF5 ctF5),slF5⟩) (cF5:Ar K cdF5 "fits_alone"=true) (kF5:Al K (.ref fF5)=true)
  (aF6:Am K mainGlobals "fits_breach"=some (some (.ref fF6))) (lF6:K.lookup fF6=some ⟨ocF6,odF6,.func (Ay "fits_breach" "fits_breach" (bQ kX) (bM kX) (aO kX) .none kVF6 dcF6 pmF6 anF6 cdF6 ctF6),slF6⟩) (cF6:Ar K cdF6 "fits_breach"=true) (kF6:Al K (.ref fF6)=true)
  (aF7:Am K mainGlobals "fits_view"=some (some (.ref fF7))) (lF7:K.lookup fF7=some ⟨ocF7,odF7,.func (Ay "fits_view" "fits_view" (bQ qH) (bM qH) (aO qH) .none kVF7 dcF7 pmF7 anF7 cdF7 ctF7),slF7⟩) (cF7:Ar K cdF7 "fits_view"=true) (kF7:Al K (.ref fF7)=true)
  (aIR:Am K mainGlobals "is_row"=some (some (.ref fIR))) (lIR:K.lookup fIR=some ⟨ocIR,odIR,.func (Ay "is_row" "is_row" (bQ qI) (bM qI) (aO qI) .none kVIR dcIR pmIR anIR cdIR ctIR),slIR⟩) (cIR:Ar K cdIR "is_row"=true) (kIR:Al K (.ref fIR)=true)
  (aAT:Am K mainGlobals "as_tuples"=some (some (.ref fAT))) (lAT:K.lookup fAT=some ⟨ocAT,odAT,.func (Ay "as_tuples" "as_tuples" (bQ jB) (bM jB) (aO jB) .none kVAT dcAT pmAT anAT cdAT ctAT),slAT⟩) (cAT:Ar K cdAT "as_tuples"=true) (kAT:Al K (.ref fAT)=true)
  (aIO:Am K mainGlobals "in_order"=some (some (.ref fIO))) (lIO:K.lookup fIO=some ⟨ocIO,odIO,.func (Ay "in_order" "in_order" (bQ kY) (bM kY) (aO kY) .none kVIO dcIO pmIO anIO cdIO ctIO),slIO⟩) (cIO:Ar K cdIO "in_order"=true) (kIO:Al K (.ref fIO)=true)
  (aRO:Am K mainGlobals "row_of"=some (some (.ref fRO))) (lRO:K.lookup fRO=some ⟨ocRO,odRO,.func (Ay "row_of" "row_of" (bQ nO) (bM nO) (aO nO) .none kVRO dcRO pmRO anRO cdRO ctRO),slRO⟩) (cRO:Ar K cdRO "row_of"=true) (kRO:Al K (.ref fRO)=true)
  (aFO:Am K mainGlobals "field_of"=some (some (.ref fFO))) (lFO:K.lookup fFO=some ⟨ocFO,odFO,.func (Ay "field_of" "field_of" (bQ kZ) (bM kZ) (aO kZ) .none kVFO dcFO pmFO anFO cdFO ctFO),slFO⟩) (cFO:Ar K cdFO "field_of"=true) (kFO:Al K (.ref fFO)=true)
  (aOr:Am K mainGlobals "order"=some (some (.ref fOr))) (lOr:K.lookup fOr=some ⟨ocOr,odOr,.func (Ay "order" "order" (bQ qJ) (bM qJ) (aO qJ) .none kVOr dcOr pmOr anOr cdOr ctOr),slOr⟩) (cOr:Ar K cdOr "order"=true) (kOr:Al K (.ref fOr)=true)
  (aLG:Am K mainGlobals "laying_of"=some (some (.ref fLG))) (lLG:K.lookup fLG=some ⟨ocLG,odLG,.func (Ay "laying_of" "laying_of" (bQ i4) (bM i4) (aO i4) .none kVLG dcLG pmLG anLG cdLG ctLG),slLG⟩) (cLG:Ar K cdLG "laying_of"=true) (kLG:Al K (.ref fLG)=true)
  (aRF:Am K mainGlobals "row_for"=some (some (.ref fRF))) (lRF:K.lookup fRF=some ⟨ocRF,odRF,.func (Ay "row_for" "row_for" (bQ lX) (bM lX) (aO lX) .none kVRF dcRF pmRF anRF cdRF ctRF),slRF⟩) (cRF:Ar K cdRF "row_for"=true) (kRF:Al K (.ref fRF)=true)
  (aRR:Am K mainGlobals "row_for_roll"=some (some (.ref fRR))) (lRR:K.lookup fRR=some ⟨ocRR,odRR,.func (Ay "row_for_roll" "row_for_roll" (bQ gG) (bM gG) (aO gG) .none kVRR dcRR pmRR anRR cdRR ctRR),slRR⟩) (cRR:Ar K cdRR "row_for_roll"=true) (kRR:Al K (.ref fRR)=true)
  (aBN:Am K mainGlobals "by_names"=some (some (.ref fBN))) (lBN:K.lookup fBN=some ⟨ocBN,odBN,.func (Ay "by_names" "by_names" (bQ jC) (bM jC) (aO jC) .none kVBN dcBN pmBN anBN cdBN ctBN),slBN⟩) (cBN:Ar K cdBN "by_names"=true) (kBN:Al K (.ref fBN)=true)
  (aRoO:Am K mainGlobals "roll_of"=some (some (.ref fRoO))) (lRoO:K.lookup fRoO=some ⟨ocRoO,odRoO,.func (Ay "roll_of" "roll_of" (bQ nP) (bM nP) (aO nP) .none kVRoO dcRoO pmRoO anRoO cdRoO ctRoO),slRoO⟩) (cRoO:Ar K cdRoO "roll_of"=true) (kRoO:Al K (.ref fRoO)=true)
  (aSD:Am K mainGlobals "standing"=some (some (.ref fSD))) (lSD:K.lookup fSD=some ⟨ocSD,odSD,.func (Ay "standing" "standing" (bQ gH) (bM gH) (aO gH) .none kVSD dcSD pmSD anSD cdSD ctSD),slSD⟩) (cSD:Ar K cdSD "standing"=true) (kSD:Al K (.ref fSD)=true)
  (aST:Am K mainGlobals "start"=some (some (.ref fST))) (lST:K.lookup fST=some ⟨ocST,odST,.func (Ay "start" "start" (bQ qK) (bM qK) (aO qK) .none kVST dcST pmST anST cdST ctST),slST⟩) (cST:Ar K cdST "start"=true) (kST:Al K (.ref fST)=true)
  (aWR:Am K mainGlobals "written"=some (some (.ref fWR))) (lWR:K.lookup fWR=some ⟨ocWR,odWR,.func (Ay "written" "written" (bQ k9) (bM k9) (aO k9) .none kVWR dcWR pmWR anWR cdWR ctWR),slWR⟩) (cWR:Ar K cdWR "written"=true) (kWR:Al K (.ref fWR)=true)
  (aTB:Am K mainGlobals "taken_back"=some (some (.ref fTB))) (lTB:K.lookup fTB=some ⟨ocTB,odTB,.func (Ay "taken_back" "taken_back" (bQ h9) (bM h9) (aO h9) .none kVTB dcTB pmTB anTB cdTB ctTB),slTB⟩) (cTB:Ar K cdTB "taken_back"=true) (kTB:Al K (.ref fTB)=true)
  (aRN:Am K mainGlobals "roll_now"=some (some (.ref fRN))) (lRN:K.lookup fRN=some ⟨ocRN,odRN,.func (Ay "roll_now" "roll_now" (bQ lA) (bM lA) (aO lA) .none kVRN dcRN pmRN anRN cdRN ctRN),slRN⟩) (cRN:Ar K cdRN "roll_now"=true) (kRN:Al K (.ref fRN)=true)
  (aP:Am K mainGlobals "_law_pen"=some (some (.ref fP))) (lP:K.lookup fP=some ⟨ocP,odP,.func (Ay "_law_pen" "_law_pen" (bQ aDA) (bM aDA) (aO aDA) .none kVP dcP pmP anP cdP ctP),slP⟩) (cP:Ar K cdP "_law_pen"=true) (kP:Al K (.ref fP)=true)
  (aT:Am K mainGlobals "_law_take"=some (some (.ref fT))) (lT:K.lookup fT=some ⟨ocT,odT,.func (Ay "_law_take" "_law_take" (bQ uS) (bM uS) (aO uS) .none kVT dcT pmT anT cdT ctT),slT⟩) (cT:Ar K cdT "_law_take"=true) (kT:Al K (.ref fT)=true)
  (aN:Am K mainGlobals "_law_names"=some (some (.ref fN))) (lN:K.lookup fN=some ⟨ocN,odN,.func (Ay "_law_names" "_law_names" (bQ oQ) (bM oQ) (aO oQ) .none kVN dcN pmN anN cdN ctN),slN⟩) (cN:Ar K cdN "_law_names"=true) (kN:Al K (.ref fN)=true)
  (aSo:Am K mainGlobals "_law_sorts"=some (some (.ref fSo))) (lSo:K.lookup fSo=some ⟨ocSo,odSo,.func (Ay "_law_sorts" "_law_sorts" (bQ qL) (bM qL) (aO qL) .none kVSo dcSo pmSo anSo cdSo ctSo),slSo⟩) (cSo:Ar K cdSo "_law_sorts"=true) (kSo:Al K (.ref fSo)=true)
  (aD:Am K mainGlobals "_law_days"=some (some (.ref fD))) (lD:K.lookup fD=some ⟨ocD,odD,.func (Ay "_law_days" "_law_days" (bQ uT) (bM uT) (aO uT) .none kVD dcD pmD anD cdD ctD),slD⟩) (cD:Ar K cdD "_law_days"=true) (kD:Al K (.ref fD)=true)
  (aNu:Am K mainGlobals "_law_number"=some (some (.ref fNu))) (lNu:K.lookup fNu=some ⟨ocNu,odNu,.func (Ay "_law_number" "_law_number" (bQ nQ) (bM nQ) (aO nQ) .none kVNu dcNu pmNu anNu cdNu ctNu),slNu⟩) (cNu:Ar K cdNu "_law_number"=true) (kNu:Al K (.ref fNu)=true)
  (aLO:Am K mainGlobals "_law_laying"=some (some (.ref fLO))) (lLO:K.lookup fLO=some ⟨ocLO,odLO,.func (Ay "_law_laying" "_law_laying" (bQ qM) (bM qM) (aO qM) .none kVLO dcLO pmLO anLO cdLO ctLO),slLO⟩) (cLO:Ar K cdLO "_law_laying"=true) (kLO:Al K (.ref fLO)=true)
  (aSm:Am K mainGlobals "_law_some"=some (some (.ref fSm))) (lSm:K.lookup fSm=some ⟨ocSm,odSm,.func (Ay "_law_some" "_law_some" (bQ uU) (bM uU) (aO uU) .none kVSm dcSm pmSm anSm cdSm ctSm),slSm⟩) (cSm:Ar K cdSm "_law_some"=true) (kSm:Al K (.ref fSm)=true)
  (aRo:Am K mainGlobals "_law_row_of"=some (some (.ref fRo))) (lRo:K.lookup fRo=some ⟨ocRo,odRo,.func (Ay "_law_row_of" "_law_row_of" (bQ oR) (bM oR) (aO oR) .none kVRo dcRo pmRo anRo cdRo ctRo),slRo⟩) (cRo:Ar K cdRo "_law_row_of"=true) (kRo:Al K (.ref fRo)=true)
  (aR:Am K mainGlobals "_law_row"=some (some (.ref fR))) (lR:K.lookup fR=some ⟨ocR,odR,.func (Ay "_law_row" "_law_row" (bQ aDB) (bM aDB) (aO aDB) .none kVR dcR pmR anR cdR ctR),slR⟩) (cR:Ar K cdR "_law_row"=true) (kR:Al K (.ref fR)=true)
  (aK:Am K mainGlobals "_law_place"=some (some (.ref fK))) (lK:K.lookup fK=some ⟨ocK,odK,.func (Ay "_law_place" "_law_place" (bQ qN) (bM qN) (aO qN) .none kVK dcK pmK anK cdK ctK),slK⟩) (cK:Ar K cdK "_law_place"=true) (kK:Al K (.ref fK)=true)
  (aLS:Am K mainGlobals "_law_standing"=some (some (.ref fLS))) (lLS:K.lookup fLS=some ⟨ocLS,odLS,.func (Ay "_law_standing" "_law_standing" (bQ fS) (bM fS) (aO fS) .none kVLS dcLS pmLS anLS cdLS ctLS),slLS⟩) (cLS:Ar K cdLS "_law_standing"=true) (kLS:Al K (.ref fLS)=true)
  (aSR:Am K mainGlobals "_law_state_right"=some (some (.ref fSR))) (lSR:K.lookup fSR=some ⟨ocSR,odSR,.func (Ay "_law_state_right" "_law_state_right" (bQ gJ) (bM gJ) (aO gJ) .none kVSR dcSR pmSR anSR cdSR ctSR),slSR⟩) (cSR:Ar K cdSR "_law_state_right"=true) (kSR:Al K (.ref fSR)=true)
  (aPo:Am K mainGlobals "_law_pool"=some (some (.ref fPo))) (lPo:K.lookup fPo=some ⟨ocPo,odPo,.func (Ay "_law_pool" "_law_pool" (bQ wY) (bM wY) (aO wY) .none kVPo dcPo pmPo anPo cdPo ctPo),slPo⟩) (cPo:Ar K cdPo "_law_pool"=true) (kPo:Al K (.ref fPo)=true)
  (aL:Am K mainGlobals "law"=some (some (.ref fL))) (lL:K.lookup fL=some ⟨ocL,odL,.func (Ay "law" "law" (bQ vV) (bM vV) (aO vV) .none kVL dcL pmL anL cdL ctL),slL⟩) (cL:Ar K cdL "law"=true) (kL:Al K (.ref fL)=true)
  (z_isinstance:Am K mainGlobals "isinstance"=some none)
  (z_str:Am K mainGlobals "str"=some none)
  (z_len:Am K mainGlobals "len"=some none)
  (z_all:Am K mainGlobals "all"=some none)
  (z_int:Am K mainGlobals "int"=some none)
  (z_bool:Am K mainGlobals "bool"=some none)
  (z_tuple:Am K mainGlobals "tuple"=some none)
  (z_set:Am K mainGlobals "set"=some none)
  (z_list:Am K mainGlobals "list"=some none)
  (z_sorted:Am K mainGlobals "sorted"=some none)
  (z_abs:Am K mainGlobals "abs"=some none)
  (z_range:Am K mainGlobals "range"=some none)
  (z_min:Am K mainGlobals "min"=some none)
  (z_repr:Am K mainGlobals "repr"=some none)
  (q_MOST_FIELDS:Am K mainGlobals "MOST_FIELDS"=some (some (.int 8 t_MOST_FIELDS)))
  (q_MOST_FIELD_ACRES:Am K mainGlobals "MOST_FIELD_ACRES"=some (some (.int 1000000 t_MOST_FIELD_ACRES)))
  (q_LONGEST:Am K mainGlobals "LONGEST"=some (some (.int 8 t_LONGEST)))
  (q_LAST_DAY:Am K mainGlobals "LAST_DAY"=some (some (.int 9999 t_LAST_DAY)))
  (q_FEWEST_LANDS:Am K mainGlobals "FEWEST_LANDS"=some (some (.int 2 t_FEWEST_LANDS)))
  (q_MOST_LANDS:Am K mainGlobals "MOST_LANDS"=some (some (.int 6 t_MOST_LANDS)))
  (q_MOST_PART_ACRES:Am K mainGlobals "MOST_PART_ACRES"=some (some (.int 10000000 t_MOST_PART_ACRES)))
  (q_MOST_INCHES:Am K mainGlobals "MOST_INCHES"=some (some (.int 10000000 t_MOST_INCHES)))
  (q_MOST_PENCE:Am K mainGlobals "MOST_PENCE"=some (some (.int 1000000000 t_MOST_PENCE)))
  (q_MOST_SPADES:Am K mainGlobals "MOST_SPADES"=some (some (.int 1000000 t_MOST_SPADES)))
  (q_ROW_DEPTH:Am K mainGlobals "ROW_DEPTH"=some (some (.int 3 t_ROW_DEPTH)))
  (q_LAYING_DEPTH:Am K mainGlobals "LAYING_DEPTH"=some (some (.int 2 t_LAYING_DEPTH)))
  (q_MOST_ROWS:Am K mainGlobals "MOST_ROWS"=some (some (.int 40 t_MOST_ROWS)))
  (q_MOST_FORMS:Am K mainGlobals "MOST_FORMS"=some (some (.int 60 t_MOST_FORMS)))
  (q_MOST_BACKS:Am K mainGlobals "MOST_BACKS"=some (some (.int 60 t_MOST_BACKS)))
  (q_FORMS:Am K mainGlobals "FORMS"=some (some (.ref t_FORMS)))
  (lFm:K.lookup t_FORMS=some { cls:=.type "dict",data:=.dict #[⟨AT w.params "part",.str "part" xk0,.ref fF0⟩,⟨AT w.params "join",.str "join" xk1,.ref fF1⟩,⟨AT w.params "forfeit",.str "forfeit" xk2,.ref fF2⟩,⟨AT w.params "measure",.str "measure" xk3,.ref fF3⟩,⟨AT w.params "mend",.str "mend" xk4,.ref fF4⟩,⟨AT w.params "alone",.str "alone" xk5,.ref fF5⟩,⟨AT w.params "breach",.str "breach" xk6,.ref fF6⟩,⟨AT w.params "view",.str "view" xk7,.ref fF7⟩] eF }) (hzF:(t_FORMS == sysModules)=false)
  (q_RANKS:Am K mainGlobals "RANKS"=some (some (.ref t_RANKS)))
  (lRk:K.lookup t_RANKS=some { cls:=.type "dict",data:=.dict #[⟨AT w.params "measure",.str "measure" xr0,.int 0 yr0⟩,⟨AT w.params "part",.str "part" xr1,.int 1 yr1⟩,⟨AT w.params "join",.str "join" xr2,.int 1 yr2⟩,⟨AT w.params "forfeit",.str "forfeit" xr3,.int 1 yr3⟩,⟨AT w.params "mend",.str "mend" xr4,.int 2 yr4⟩,⟨AT w.params "alone",.str "alone" xr5,.int 2 yr5⟩,⟨AT w.params "breach",.str "breach" xr6,.int 3 yr6⟩,⟨AT w.params "view",.str "view" xr7,.int 3 yr7⟩] eR })
  :∃ fd:AK,(∀(s:Af) (v:Ac),Gf s fd ⟨[v],[]⟩ [("_law_script",v)])∧∀ base:Bm,K.In base→base.Ns mainGlobals mg→cQ l.prog w K mg base CX0 15 fa fd ["_law_script"] (aC1 K):=by
 have e:=hfa.symm.trans (An X G aL);cases e;have FIN:=cJ (st:=lV) lIN cIN kIN;have mIN:=An X G aIN;have bIN:=FIN.binds (ps:=["thing"]) fun _ _ _ _ _ _ us hl=>by obtain⟨_,rfl⟩:=f8 hl;rfl
 have FNB:=cJ (st:=iY) lNB cNB kNB;have mNB:=An X G aNB;have bNB:=FNB.binds (ps:=["thing"]) fun _ _ _ _ _ _ us hl=>by obtain⟨_,rfl⟩:=f8 hl;rfl
 have FIW:=cJ (st:=kU) lIW cIW kIW;have mIW:=An X G aIW;have bIW:=FIW.binds (ps:=["thing","least","most"]) fun _ _ _ _ _ _ us hl=>by obtain⟨_,_,_,rfl⟩:=aDZ hl;rfl
 have FRI:=cJ (st:=lW) lRI cRI kRI;have mRI:=An X G aRI;have bRI:=FRI.binds (ps:=["things"]) fun _ _ _ _ _ _ us hl=>by obtain⟨_,rfl⟩:=f8 hl;rfl
 have FFD:=cJ (st:=kW) lFD cFD kFD;have mFD:=An X G aFD;have bFD:=FFD.binds (ps:=["thing"]) fun _ _ _ _ _ _ us hl=>by obtain⟨_,rfl⟩:=f8 hl;rfl
 have FLY:=cJ (st:=gF) lLY cLY kLY;have mLY:=An X G aLY;have bLY:=FLY.binds (ps:=["thing"]) fun _ _ _ _ _ _ us hl=>by obtain⟨_,rfl⟩:=f8 hl;rfl
 have FPT:=cJ (st:=nJ) lPT cPT kPT;have mPT:=An X G aPT;have bPT:=FPT.binds (ps:=["thing"]) fun _ _ _ _ _ _ us hl=>by obtain⟨_,rfl⟩:=f8 hl;rfl
 have FAP:=cJ (st:=hW) lAP cAP kAP;have mAP:=An X G aAP;have bAP:=FAP.binds (ps:=["thing"]) fun _ _ _ _ _ _ us hl=>by obtain⟨_,rfl⟩:=f8 hl;rfl
 have FAN:=cJ (st:=hX) lAN cAN kAN;have mAN:=An X G aAN;have bAN:=FAN.binds (ps:=["thing"]) fun _ _ _ _ _ _ us hl=>by obtain⟨_,rfl⟩:=f8 hl;rfl
 have FRP:=cJ (st:=hZ) lRP cRP kRP;have mRP:=An X G aRP;have bRP:=FRP.binds (ps:=["thing"]) fun _ _ _ _ _ _ us hl=>by obtain⟨_,rfl⟩:=f8 hl;rfl
 have FRL:=cJ (st:=iZ) lRL cRL kRL;have mRL:=An X G aRL;have bRL:=FRL.binds (ps:=["thing"]) fun _ _ _ _ _ _ us hl=>by obtain⟨_,rfl⟩:=f8 hl;rfl
 have FIC:=cJ (st:=nM) lIC cIC kIC;have mIC:=An X G aIC;have bIC:=FIC.binds (ps:=["thing"]) fun _ _ _ _ _ _ us hl=>by obtain⟨_,rfl⟩:=f8 hl;rfl
 have FF0:=cJ (st:=qE) lF0 cF0 kF0;have mF0:=An X G aF0;have bF0:=FF0.binds (ps:=["rest"]) fun _ _ _ _ _ _ us hl=>by obtain⟨_,rfl⟩:=f8 hl;rfl
 have FF1:=cJ (st:=qF) lF1 cF1 kF1;have mF1:=An X G aF1;have bF1:=FF1.binds (ps:=["rest"]) fun _ _ _ _ _ _ us hl=>by obtain⟨_,rfl⟩:=f8 hl;rfl
 have FF2:=cJ (st:=i0) lF2 cF2 kF2;have mF2:=An X G aF2;have bF2:=FF2.binds (ps:=["rest"]) fun _ _ _ _ _ _ us hl=>by obtain⟨_,rfl⟩:=f8 hl;rfl
 have FF3:=cJ (st:=i3) lF3 cF3 kF3;have mF3:=An X G aF3;have bF3:=FF3.binds (ps:=["rest"]) fun _ _ _ _ _ _ us hl=>by obtain⟨_,rfl⟩:=f8 hl;rfl
 have FF4:=cJ (st:=qG) lF4 cF4 kF4;have mF4:=An X G aF4;have bF4:=FF4.binds (ps:=["rest"]) fun _ _ _ _ _ _ us hl=>by obtain⟨_,rfl⟩:=f8 hl;rfl
 have FF5:=cJ (st:=nN) lF5 cF5 kF5;have mF5:=An X G aF5;have bF5:=FF5.binds (ps:=["rest"]) fun _ _ _ _ _ _ us hl=>by obtain⟨_,rfl⟩:=f8 hl;rfl
 have FF6:=cJ (st:=kX) lF6 cF6 kF6;have mF6:=An X G aF6;have bF6:=FF6.binds (ps:=["rest"]) fun _ _ _ _ _ _ us hl=>by obtain⟨_,rfl⟩:=f8 hl;rfl
 have FF7:=cJ (st:=qH) lF7 cF7 kF7;have mF7:=An X G aF7;have bF7:=FF7.binds (ps:=["rest"]) fun _ _ _ _ _ _ us hl=>by obtain⟨_,rfl⟩:=f8 hl;rfl
 have FIR:=cJ (st:=qI) lIR cIR kIR;have mIR:=An X G aIR;have bIR:=FIR.binds (ps:=["thing"]) fun _ _ _ _ _ _ us hl=>by obtain⟨_,rfl⟩:=f8 hl;rfl
 have FAT:=cJ (st:=jB) lAT cAT kAT;have mAT:=An X G aAT;have bAT:=FAT.binds (ps:=["thing","deep"]) fun _ _ _ _ _ _ us hl=>by obtain⟨_,_,rfl⟩:=rQ hl;rfl
 have FIO:=cJ (st:=kY) lIO cIO kIO;have mIO:=An X G aIO;have bIO:=FIO.binds (ps:=["thing"]) fun _ _ _ _ _ _ us hl=>by obtain⟨_,rfl⟩:=f8 hl;rfl
 have FRO:=cJ (st:=nO) lRO cRO kRO;have mRO:=An X G aRO;have bRO:=FRO.binds (ps:=["thing"]) fun _ _ _ _ _ _ us hl=>by obtain⟨_,rfl⟩:=f8 hl;rfl
 have FFO:=cJ (st:=kZ) lFO cFO kFO;have mFO:=An X G aFO;have bFO:=FFO.binds (ps:=["row"]) fun _ _ _ _ _ _ us hl=>by obtain⟨_,rfl⟩:=f8 hl;rfl
 have FOr:=cJ (st:=qJ) lOr cOr kOr;have mOr:=An X G aOr;have bOr:=FOr.binds (ps:=["row"]) fun _ _ _ _ _ _ us hl=>by obtain⟨_,rfl⟩:=f8 hl;rfl
 have FLG:=cJ (st:=i4) lLG cLG kLG;have mLG:=An X G aLG;have bLG:=FLG.binds (ps:=["thing"]) fun _ _ _ _ _ _ us hl=>by obtain⟨_,rfl⟩:=f8 hl;rfl
 have FRF:=cJ (st:=lX) lRF cRF kRF;have mRF:=An X G aRF;have bRF:=FRF.binds (ps:=["laying","thing"]) fun _ _ _ _ _ _ us hl=>by obtain⟨_,_,rfl⟩:=rQ hl;rfl
 have FRR:=cJ (st:=gG) lRR cRR kRR;have mRR:=An X G aRR;have bRR:=FRR.binds (ps:=["laying","thing"]) fun _ _ _ _ _ _ us hl=>by obtain⟨_,_,rfl⟩:=rQ hl;rfl
 have FBN:=cJ (st:=jC) lBN cBN kBN;have mBN:=An X G aBN;have bBN:=FBN.binds (ps:=["laying","things"]) fun _ _ _ _ _ _ us hl=>by obtain⟨_,_,rfl⟩:=rQ hl;rfl
 have FRoO:=cJ (st:=nP) lRoO cRoO kRoO;have mRoO:=An X G aRoO;have bRoO:=FRoO.binds (ps:=["laying","rows"]) fun _ _ _ _ _ _ us hl=>by obtain⟨_,_,rfl⟩:=rQ hl;rfl
 have FSD:=cJ (st:=gH) lSD cSD kSD;have mSD:=An X G aSD;have bSD:=FSD.binds (ps:=["state"]) fun _ _ _ _ _ _ us hl=>by obtain⟨_,rfl⟩:=f8 hl;rfl
 have FST:=cJ (st:=qK) lST cST kST;have mST:=An X G aST;have bST:=FST.binds (ps:=["laying"]) fun _ _ _ _ _ _ us hl=>by obtain⟨_,rfl⟩:=f8 hl;rfl
 have FWR:=cJ (st:=k9) lWR cWR kWR;have mWR:=An X G aWR;have bWR:=FWR.binds (ps:=["state","thing"]) fun _ _ _ _ _ _ us hl=>by obtain⟨_,_,rfl⟩:=rQ hl;rfl
 have FTB:=cJ (st:=h9) lTB cTB kTB;have mTB:=An X G aTB;have bTB:=FTB.binds (ps:=["state","name"]) fun _ _ _ _ _ _ us hl=>by obtain⟨_,_,rfl⟩:=rQ hl;rfl
 have FRN:=cJ (st:=lA) lRN cRN kRN;have mRN:=An X G aRN;have bRN:=FRN.binds (ps:=["state"]) fun _ _ _ _ _ _ us hl=>by obtain⟨_,rfl⟩:=f8 hl;rfl
 have FP:=cJ (st:=aDA) lP cP kP;have mP:=An X G aP;have bP:=FP.binds (ps:=["_law_script"]) fun _ _ _ _ _ _ us hl=>by obtain⟨_,rfl⟩:=f8 hl;rfl
 have FT:=cJ (st:=uS) lT cT kT;have mT:=An X G aT;have bT:=FT.binds (ps:=["_law_pen_here","_law_many"]) fun _ _ _ _ _ _ us hl=>by obtain⟨_,_,rfl⟩:=rQ hl;rfl
 have FN:=cJ (st:=oQ) lN cN kN;have mN:=An X G aN;have bN:=FN.binds (ps:=["_law_pen_here","_law_many"]) fun _ _ _ _ _ _ us hl=>by obtain⟨_,_,rfl⟩:=rQ hl;rfl
 have FSo:=cJ (st:=qL) lSo cSo kSo;have mSo:=An X G aSo;have bSo:=FSo.binds (ps:=["_law_pen_here","_law_fields","_law_rows"]) fun _ _ _ _ _ _ us hl=>by obtain⟨_,_,_,rfl⟩:=aDZ hl;rfl
 have FD:=cJ (st:=uT) lD cD kD;have mD:=An X G aD;have bD:=FD.binds (ps:=["_law_pen_here","_law_many"]) fun _ _ _ _ _ _ us hl=>by obtain⟨_,_,rfl⟩:=rQ hl;rfl
 have FNu:=cJ (st:=nQ) lNu cNu kNu;have mNu:=An X G aNu;have bNu:=FNu.binds (ps:=["_law_pen_here","_law_bottom","_law_most"]) fun _ _ _ _ _ _ us hl=>by obtain⟨_,_,_,rfl⟩:=aDZ hl;rfl
 have FLO:=cJ (st:=qM) lLO cLO kLO;have mLO:=An X G aLO;have bLO:=FLO.binds (ps:=["_law_pen_here","_law_fields","_law_houses"]) fun _ _ _ _ _ _ us hl=>by obtain⟨_,_,_,rfl⟩:=aDZ hl;rfl
 have FSm:=cJ (st:=uU) lSm cSm kSm;have mSm:=An X G aSm;have bSm:=FSm.binds (ps:=["_law_pen_here","_law_names_here","_law_many"]) fun _ _ _ _ _ _ us hl=>by obtain⟨_,_,_,rfl⟩:=aDZ hl;rfl
 have FRo:=cJ (st:=oR) lRo cRo kRo;have mRo:=An X G aRo;have bRo:=FRo.binds (ps:=["_law_pen_here","_law_word","_law_name","_law_day","_law_sorts_here"]) fun _ _ _ _ _ _ us hl=>by obtain⟨_,_,_,_,_,rfl⟩:=aJp hl;rfl
 have FR:=cJ (st:=aDB) lR cR kR;have mR:=An X G aR;have bR:=FR.binds (ps:=["_law_pen_here","_law_name","_law_day","_law_sorts_here"]) fun _ _ _ _ _ _ us hl=>by obtain⟨_,_,_,_,rfl⟩:=aIs hl;rfl
 have FK:=cJ (st:=qN) lK cK kK;have mK:=An X G aK;have bK:=FK.binds (ps:=["_law_row_here"]) fun _ _ _ _ _ _ us hl=>by obtain⟨_,rfl⟩:=f8 hl;rfl
 have FLS:=cJ (st:=fS) lLS cLS kLS;have mLS:=An X G aLS;have bLS:=FLS.binds (ps:=["_law_forms","_law_backs"]) fun _ _ _ _ _ _ us hl=>by obtain⟨_,_,rfl⟩:=rQ hl;rfl
 have FSR:=cJ (st:=gJ) lSR cSR kSR;have mSR:=An X G aSR;have bSR:=FSR.binds (ps:=["_law_state","_law_laying_here","_law_forms","_law_backs"]) fun _ _ _ _ _ _ us hl=>by obtain⟨_,_,_,_,rfl⟩:=aIs hl;rfl
 have FPo:=cJ (st:=wY) lPo cPo kPo;have mPo:=An X G aPo;have bPo:=FPo.binds (ps:=["_law_pen_here","_law_many"]) fun _ _ _ _ _ _ us hl=>by obtain⟨_,_,rfl⟩:=rQ hl;rfl
 have FL:=cJ (st:=vV) lL cL kL;have mL:=An X G aL;have bL:=FL.binds (ps:=["_law_script"]) fun _ _ _ _ _ _ us hl=>by obtain⟨_,rfl⟩:=f8 hl;rfl
 have n_isinstance:=Bx X G z_isinstance;have n_str:=Bx X G z_str;have n_len:=Bx X G z_len;have n_all:=Bx X G z_all;have n_int:=Bx X G z_int;have n_bool:=Bx X G z_bool;have n_tuple:=Bx X G z_tuple;have n_set:=Bx X G z_set;have n_list:=Bx X G z_list;have n_sorted:=Bx X G z_sorted;have n_abs:=Bx X G z_abs;have n_range:=Bx X G z_range;have n_min:=Bx X G z_min;have n_repr:=Bx X G z_repr;have g_MOST_FIELDS:=An X G q_MOST_FIELDS;have g_MOST_FIELD_ACRES:=An X G q_MOST_FIELD_ACRES;have g_LONGEST:=An X G q_LONGEST;have g_LAST_DAY:=An X G q_LAST_DAY;have g_FEWEST_LANDS:=An X G q_FEWEST_LANDS;have g_MOST_LANDS:=An X G q_MOST_LANDS;have g_MOST_PART_ACRES:=An X G q_MOST_PART_ACRES;have g_MOST_INCHES:=An X G q_MOST_INCHES;have g_MOST_PENCE:=An X G q_MOST_PENCE;have g_MOST_SPADES:=An X G q_MOST_SPADES;have g_ROW_DEPTH:=An X G q_ROW_DEPTH;have g_LAYING_DEPTH:=An X G q_LAYING_DEPTH;have g_MOST_ROWS:=An X G q_MOST_ROWS;have g_MOST_FORMS:=An X G q_MOST_FORMS;have g_MOST_BACKS:=An X G q_MOST_BACKS;have g_FORMS:=An X G q_FORMS;have g_RANKS:=An X G q_RANKS;refine⟨Ay "law" "law" (bQ vV) (bM vV) (aO vV) .none kVL dcL pmL anL cdL ctL,fun s v=>.of_eq rfl,fun base _ _=>?_⟩;have T:Txt K mg:=⟨n_isinstance,n_str,n_len,n_all,n_int,n_bool,n_tuple,n_set,⟨_,g_MOST_FIELDS⟩,⟨_,g_MOST_FIELD_ACRES⟩,⟨_,g_LONGEST⟩,⟨_,g_LAST_DAY⟩,⟨_,g_FEWEST_LANDS⟩,⟨_,g_MOST_LANDS⟩,⟨_,g_MOST_PART_ACRES⟩,⟨_,g_MOST_INCHES⟩,⟨_,g_MOST_PENCE⟩,⟨_,g_MOST_SPADES⟩⟩
 have RK:sJ w K t_RANKS:=⟨_,_,_,_,_,_,_,_,_,_,_,_,_,_,_,_,_,lRk⟩
 have GT:=aGp (P:=l.prog) (w:=w) (base:=base) FT n_len n_abs;have GIN:=aGw (w8 (P:=l.prog) (w:=w) (base:=base) FIN T) aDH;have GNB:=aGx (P:=l.prog) (w:=w) (base:=base) FNB T;have GIW:=aBz FIW ⟨_,_,GNB,mNB,kNB,bNB⟩;have GRI:=aDP (P:=l.prog) (w:=w) (base:=base) FRI T n_list n_sorted;have GFD:=aFC FFD T ⟨_,_,GIN,mIN,kIN,bIN⟩ ⟨_,_,GIW,mIW,kIW,bIW⟩;have GLY:=aIm FLY T ⟨_,_,GFD,mFD,kFD,bFD⟩;have GPT:=aGy FPT T ⟨_,_,GIN,mIN,kIN,bIN⟩ ⟨_,_,GIW,mIW,kIW,bIW⟩;have GIC:=aGz FIC T ⟨_,_,GIW,mIW,kIW,bIW⟩;have GAP:=aGB FAP T ⟨_,_,GPT,mPT,kPT,bPT⟩;have GAN:=aGA FAN T ⟨_,_,GIN,mIN,kIN,bIN⟩;have GRP:=aGF FRP T ⟨_,_,GAP,mAP,kAP,bAP⟩ ⟨_,_,GRI,mRI,kRI,bRI⟩;have GRL:=aGE FRL T ⟨_,_,GAN,mAN,kAN,bAN⟩ ⟨_,_,GRI,mRI,kRI,bRI⟩;have GF0:=aFn FF0 T ⟨_,_,GIN,mIN,kIN,bIN⟩ ⟨_,_,GRP,mRP,kRP,bRP⟩;have GF1:=aFo FF1 T ⟨_,_,GIN,mIN,kIN,bIN⟩ ⟨_,_,GRL,mRL,kRL,bRL⟩;have GF2:=aAC FF2 T ⟨_,_,GAN,mAN,kAN,bAN⟩;have GF3:=aAA FF3 T ⟨_,_,GIN,mIN,kIN,bIN⟩ ⟨_,_,GIW,mIW,kIW,bIW⟩;have GF4:=aFi FF4 T ⟨_,_,GAN,mAN,kAN,bAN⟩;have GF5:=aDK FF5 T ⟨_,_,GIN,mIN,kIN,bIN⟩;have GF6:=aBE FF6 T ⟨_,_,GIN,mIN,kIN,bIN⟩ ⟨_,_,GIW,mIW,kIW,bIW⟩ ⟨_,_,GIC,mIC,kIC,bIC⟩;have GF7:=aFg FF7 T ⟨_,_,GIN,mIN,kIN,bIN⟩ ⟨_,_,GIC,mIC,kIC,bIC⟩;have GIR:=aFp FIR T (aGO lFm) (aIn fF0 fF1 fF2 fF3 fF4 fF5 fF6 fF7) hzF g_FORMS (aJm fF0 fF1 fF2 fF3 fF4 fF5 fF6 fF7) (aJn GF0 kF0 bF0 GF1 kF1 bF1 GF2 kF2 bF2 GF3 kF3 bF3 GF4 kF4 bF4 GF5 kF5 bF5 GF6 kF6 bF6 GF7 kF7 bF7) ⟨_,_,GIN,mIN,kIN,bIN⟩ ⟨_,_,GIW,mIW,kIW,bIW⟩;have GAT2:=aBI FAT T n_list mAT kAT bAT (aBI FAT T n_list mAT kAT bAT (aIi (P:=l.prog) (w:=w) (base:=base) FAT T n_list mAT kAT bAT))
 have mAT2:=mAT;have kAT2:=kAT;have bAT2:=bAT;have GAT:=aBI FAT T n_list mAT kAT bAT GAT2;have GIO:=aIk FIO T n_sorted ⟨_,_,GAP,mAP,kAP,bAP⟩ ⟨_,_,GAN,mAN,kAN,bAN⟩;have GRO:=aDR FRO ⟨_,g_ROW_DEPTH⟩ ⟨_,_,GAT,mAT,kAT,bAT⟩ ⟨_,_,GIO,mIO,kIO,bIO⟩ ⟨_,_,GIR,mIR,kIR,bIR⟩;have GFO:=aBH (P:=l.prog) (w:=w) (mg:=mg) (base:=base) FFO;have GOr:=aFG (P:=l.prog) (base:=base) FOr RK g_RANKS;have GLG:=aAQ FLG ⟨_,g_LAYING_DEPTH⟩ ⟨_,_,GAT2,mAT2,kAT2,bAT2⟩ ⟨_,_,GLY,mLY,kLY,bLY⟩;have GRF:=aDU FRF ⟨_,_,GRO,mRO,kRO,bRO⟩ ⟨_,_,GFO,mFO,kFO,bFO⟩;have GRR:=vX FRR ⟨_,_,GRF,mRF,kRF,bRF⟩;have GBN:=aBR FBN ⟨_,_,GRR,mRR,kRR,bRR⟩;have GRoO:=aDW FRoO T n_list n_sorted ⟨_,g_MOST_ROWS⟩ GLG mLG kLG bLG GBN mBN kBN bBN GOr mOr kOr bOr;have GN:=aFa FN n_len n_range n_min ⟨_,_,GT,mT,kT,bT⟩;have GSo:=aFx FSo ⟨_,_,GT,mT,kT,bT⟩ ⟨_,_,GN,mN,kN,bN⟩;have GNu:=aIj FNu n_min ⟨_,_,GT,mT,kT,bT⟩;have GD:=aGK FD n_range n_len n_int ⟨_,_,GT,mT,kT,bT⟩;have GLO:=aFH FLO n_len n_tuple ⟨_,_,GT,mT,kT,bT⟩ ⟨_,_,GNu,mNu,kNu,bNu⟩;have GSm:=aGJ FSm n_list n_range n_sorted n_len ⟨_,_,GT,mT,kT,bT⟩;have GRo:=aFB FRo n_len n_tuple ⟨_,_,GT,mT,kT,bT⟩ ⟨_,_,GNu,mNu,kNu,bNu⟩ ⟨_,_,GSm,mSm,kSm,bSm⟩;have GR:=aIp FR ⟨_,_,GT,mT,kT,bT⟩ ⟨_,_,GRo,mRo,kRo,bRo⟩;have GK:=aFF (P:=l.prog) (w:=w) (mg:=mg) (base:=base) FK;have GSD:=aA1 (P:=l.prog) (w:=w) (mg:=mg) (base:=base) FSD;have GST:=aFL FST ⟨_,_,GLG,mLG,kLG,bLG⟩;have GWR:=aBT FWR n_len n_tuple n_list n_sorted ⟨_,g_MOST_FORMS⟩ ⟨_,g_MOST_ROWS⟩ ⟨_,_,GRF,mRF,kRF,bRF⟩ ⟨_,_,GSD,mSD,kSD,bSD⟩;have GIN2:=w8 (P:=l.prog) (w:=w) (base:=base) FIN T
 have mIN2:=mIN;have kIN2:=kIN;have bIN2:=bIN;have GTB:=yT FTB n_len n_tuple n_list n_sorted ⟨_,g_MOST_BACKS⟩ ⟨_,_,GIN2,mIN2,kIN2,bIN2⟩;have GRN:=aBU FRN ⟨_,_,GRoO,mRoO,kRoO,bRoO⟩ ⟨_,_,GSD,mSD,kSD,bSD⟩;have GLS:=yU FLS n_tuple n_sorted GK mK kK bK;have GSR:=vY FSR n_tuple n_sorted n_repr ⟨_,_,GRN,mRN,kRN,bRN⟩ ⟨_,_,GLS,mLS,kLS,bLS⟩;have GPo:=aGT FPo n_range GSo mSo kSo bSo GLO mLO kLO bLO GD mD kD bD GT mT kT bT GR mR kR bR;exact aIr FL n_len n_list n_range n_repr ⟨_,_,(aH8 FP n_list),mP,kP,bP⟩ ⟨_,_,GPo,mPo,kPo,bPo⟩ ⟨_,_,GST,mST,kST,bST⟩ ⟨_,_,GT,mT,kT,bT⟩ ⟨_,_,GWR,mWR,kWR,bWR⟩ ⟨_,_,GTB,mTB,kTB,bTB⟩ ⟨_,_,GSR,mSR,kSR,bSR⟩
theorem walk{l:FF}{q:AD}{loose:List Str}{XP:(Str→Option Ac)→Bm→Prop}{YP:AY→Bm→Prop}{d:DefRec}{K:Params→Ai}(hn:l.most=some 63)(hdf:d.params.defaults=[])
  (hY:∀(w:AY) (h:Bm),YP w h→(K w.params).In h)
  (F:∀(w:AY) (mg:Str→Option Ac) (fa:Ah) (h:Bm),(K w.params).In h→h.Ns mainGlobals mg→mg d.name=some (.ref fa)→
   ∃ fd:AK,(∀(s:Af) (u:Ac),Gf s fd ⟨[u],[]⟩ [("_law_script",u)])∧∀ base:Bm,(K w.params).In base→base.Ns mainGlobals mg→cQ l.prog w (K w.params) mg base CX0 15 fa fd ["_law_script"] (aC1 (K w.params))):
  PySem.W.WalkO q loose XP YP l.row.toRowW d [] (fun f vs=>GM f vs):=
 L2.walk_of (n:=63) (k:=15) (x:="_law_script") (CX:=fun _=>CX0) (sp:=fun w=>aC1 (K w.params)) hn (by decide) hdf ⟨rfl,by decide,by decide,rfl⟩ hY F (fun _ _ a ns hl _ hS=>⟨a,ns,rfl,hS,hl,fun _=>rfl⟩) fun _ _ _ _ _ z=>z
end K60
end
namespace PySem.W.Fast
def tw9789000489759531435:=0
def tw13433463617654697435:=0
def tw15309956150873025685:=0
def tw8452567013821769203:=0
def tw11263330456018384084:=0
def tw4112450998256457187:=0
def tw14854022310252503220:=0
def tw10338471819606059486:=0
def tw2234217921909700571:=0
def tw7871942414416867420:=0
def tw15197955616981462990:=0
def tw13126327252581953337:=0
def tw437890453837127956:=0
def tw14393991192107537547:=0
def tw7681647551957018837:=0
def tw2946333373070855345:=0
def tw12902043020542192291:=0
def tw18086568550617908454:=0
def tw16357038516868327109:=0
def tw15952001746227864066:=0
def tw3800490165091548408:=0
def tw5611935573667922738:=0
def tw1041590608584997460:=0
def tw18129888210694622693:=0
def tw5803693021916971552:=0
def tw13510914829595305505:=0
def tw14160025954447423194:=0
def tw11300151214694138292:=0
def tw10943618971061375432:=0
def tw1334576118497070021:=0
def tw14311854424976892122:=0
def tw7319006611509297083:=0
def tw12495693927278674483:=0
def tw6502364245978034088:=0
def tw3312299864961540617:=0
def tw15957820942118118480:=0
def tw17525946182609363544:=0
def tw9862423293127358428:=0
def tw194137424040142588:=0
def tw10378388255952806578:=0
def tw408838084738650496:=0
def tw97431009804884697:=0
def tw5779478203059605077:=0
def tw6306188101867736655:=0
def tw4769949254870410206:=0
def tw5002376147584409597:=0
def tw2543444961204555596:=0
def tw14245567263712237093:=0
def tw9058604238316794778:=0
def tw18151813874316397437:=0
def tw275735338931337070:=0
def tw7988723853661106922:=0
def tw11606802074782611694:=0
def tw1773955953975435406:=0
def tw2836890169606102019:=0
def tw1040620389062544131:=0
def tw11341774118219193217:=0
def tw15210769761310128282:=0
def tw8274253256905582559:=0
def tw4526944200326069474:=0
def tw13247759015611034225:=0
def tw15346384486424778802:=0
def tw7385204849456006178:=0
def tw15133984038314350075:=0
def tw4549013630614028266:=0
def tw14421399320923721721:=0
def tw17145838958024874158:=0
def tw1546377451403145882:=0
def tw15190564666118611489:=0
def tw6436605045219708999:=0
def tw1756666948390368638:=0
def tw16539671075401535024:=0
def tw12313167381816800213:=0
def tw12043299599174940791:=0
def tw401634162566815183:=0
def tw16631403043980528548:=0
def tw12555531843821946217:=0
def tw1456255561482945552:=0
def tw4366706778260809577:=0
def tw2261088572760143834:=0
def tw3453043405162544019:=0
def tw12880064889152544451:=0
def tw2224430347728305663:=0
def tw17196669331848564625:=0
def tw1992767385708642008:=0
def tw10031056287879064321:=0
def tw8979929082728823932:=0
def tw7838659628467312541:=0
def tw7497100191593357651:=0
def tw17050143264265144028:=0
def tw7231768491588555436:=0
def tw14399487528504343866:=0
def tw5765500513520695160:=0
def tw2278870532719879662:=0
def tw1745513658069724760:=0
def tw12996768577530320653:=0
def tw7861268403013415790:=0
def tw8978247487994176704:=0
def tw11655790338621856341:=0
def tw6542559863654856943:=0
def tw5307388338133958834:=0
def tw12980679231388977030:=0
def tw7385097072634364312:=0
def tw2416197220134700746:=0
def tw21523735228381995:=0
def tw3981690021164364430:=0
def tw8148397798867803895:=0
def tw11096171616017956645:=0
def tw1077447725198302352:=0
def tw4357616205419467503:=0
def tw1171471679273766435:=0
def tw8073527052096862316:=0
def tw5914355610780419107:=0
def tw6534231142046939301:=0
def tw4415348413203155655:=0
def tw8042998980106202397:=0
def tw15249605939778260673:=0
def tw3871071992090933274:=0
def tw1695625815547334730:=0
def tw534461380650455239:=0
def tw6590928467404439907:=0
def tw8636265652549878039:=0
def tw13348753824997016908:=0
def tw7629232871163270704:=0
def tw8328491433882645450:=0
def tw729624294076366780:=0
def tw10389541326890827003:=0
def tw11241758637432889480:=0
def tw5937704105283594010:=0
def tw13048179199623948235:=0
def tw247369016644281730:=0
def tw157186174719684262:=0
def tw6297555056552353870:=0
def tw954506673126960770:=0
def tw9824649373989027105:=0
def tw3417027009140395084:=0
def tw7785136467408425452:=0
def tw11079756508753417437:=0
def tw5139006857506355362:=0
def tw8697159706657658954:=0
def tw6298466650432841450:=0
def tw8236527521548417322:=0
def tw1268978208342830127:=0
def tw8707756244768008728:=0
def tw8030513727546017279:=0
def tw5542243906458423067:=0
def tw17069769075783726192:=0
def tw12037826449221837395:=0
def tw7495140433231762977:=0
def tw9152678584635085571:=0
def tw5923266354928644962:=0
def tw7460972599227700171:=0
def tw18435674610240089336:=0
def tw15188531255067646562:=0
def tw3486714314086621278:=0
def tw453813429022565862:=0
def tw9788947450169130043:=0
def tw5150041886373860509:=0
def tw10815720820798928257:=0
def tw6718131359741554722:=0
def tw7331904831563270613:=0
def tw16578703730049949641:=0
def tw17544229817427139764:=0
def tw5089518544915360231:=0
def tw13653634192609148944:=0
def tw12958925895171624445:=0
def tw11933322300202747822:=0
def tw1367580755267415328:=0
def tw8738393292217377640:=0
def tw2547501896117429387:=0
def tw12723646412943395963:=0
def tw16606091769890295093:=0
def tw13125066248150180630:=0
def tw16077975670812505571:=0
def tw14285828529775728567:=0
def tw8850031257898033900:=0
def tw13626845617547281102:=0
def tw13564397914320639596:=0
def tw3460969356441904784:=0
def tw1525840020416538884:=0
def tw4035183564307501455:=0
def tw14112504659938150230:=0
def tw7170740865247632640:=0
def tw13163800904696373015:=0
def tw12746880197089879823:=0
def tw5907724929400269364:=0
def tw6240715760948660571:=0
def tw8294643740255076762:=0
def tw10283023531236782403:=0
def tw3225018879476668626:=0
def tw9822325632346287212:=0
def tw2835990823801002821:=0
def tw3473008109244213559:=0
def tw7258860570197149401:=0
def tw16356034641943277542:=0
def tw2874464816942525885:=0
def tw2856634800440442663:=0
def tw15029252741012258466:=0
def tw15875955015949253170:=0
def tw6509555971475013647:=0
def tw3758107078755514331:=0
def tw8708607176394560679:=0
def tw2317586171980845215:=0
def tw9463610117947769491:=0
def tw13311051168365844973:=0
def tw4816741538595281382:=0
def tw94805872940143666:=0
def tw10980238626411813867:=0
def tw10024631950377760413:=0
def tw17102768148804405807:=0
def tw14124962375192007691:=0
def tw11391899630912704893:=0
def tw14457864739879057846:=0
def tw14652818224956348161:=0
def tw13594104095934151217:=0
def tw13652401968687196046:=0
def tw12839058151674694555:=0
def tw10806229444380693:=0
def tw3465547792277357713:=0
def tw10712739537205485949:=0
def tw18001947106192454140:=0
def tw7084599137495730330:=0
def tw13882625464423311862:=0
def tw2184393616907265422:=0
def tw9514640076422730456:=0
def tw11218926776599151856:=0
def tw6028025911461239195:=0
def tw12141974734812783783:=0
def tw1436105076730172885:=0
def tw17932409805287275519:=0
def tw11468580316489759134:=0
def tw3714846747669495152:=0
def tw12699044890773767442:=0
def tw17146890489511810467:=0
def tw14599595587738369978:=0
def tw14331024007842584180:=0
def tw10139490044413938622:=0
def tw15863261079414657270:=0
def tw12220771764280170974:=0
def tw2086778396239994802:=0
def tw6057216701144502150:=0
def tw14295397034712626096:=0
def tw4744514915936681877:=0
def tw14656300281332612650:=0
def tw13653940102330224108:=0
def tw6095750955820799307:=0
def tw702305551786858875:=0
def tw14807998969645505200:=0
def tw17085912396786593684:=0
def tw2045637017721455118:=0
def tw6381509680319488476:=0
def tw17738995021157808575:=0
def tw4131107365856425605:=0
def tw5941157639841867717:=0
def tw16018163377465132885:=0
def tw10164318759367010993:=0
def tw12906920769926842706:=0
def tw164418992756380010:=0
def tw12437635238672747400:=0
def tw9895010214496044803:=0
def tw8718222349831092358:=0
def tw4950729314658781420:=0
def tw4656523100133795977:=0
def tw1069073012070961838:=0
def tw14592571180456518149:=0
def tw834751258999169663:=0
def tw14048323125374673218:=0
def tw18034769605398232674:=0
def tw2581208064825190883:=0
def tw16644664335796394751:=0
def tw654758956693015236:=0
def tw2356759301811852975:=0
def tw5521040191377753329:=0
def tw14277064995914164987:=0
def tw14880248791701924896:=0
def tw8749107488356746730:=0
def tw2922114788274068711:=0
def tw379239223733629257:=0
def tw8304639843798493056:=0
def tw2891933290113613278:=0
def tw712060641834847445:=0
def tw17434147149067471089:=0
def tw5127739135377816638:=0
def tw12197916994607812139:=0
def tw8533421199023696752:=0
def tw17698766062560145094:=0
def tw16055711099392530808:=0
def tw2353311725820434859:=0
def tw12103962027442457365:=0
def tw6010666030127937044:=0
def tw14064801617131549234:=0
def tw14760854409244284303:=0
def tw3021528406468037685:=0
def tw1547917461168018493:=0
def tw4925347159088665012:=0
def tw14884120074499402680:=0
def tw17576747981232588817:=0
def tw10029891150806477619:=0
def tw5811308982486535715:=0
def tw16118803584383853462:=0
def tw17361237440501880081:=0
def tw15347339498842390634:=0
def tw15036553405832140416:=0
def tw13129507445827931689:=0
def tw12014331638452882642:=0
def tw17093116831937281136:=0
def tw1384201609488711569:=0
def tw9743025438806611722:=0
def tw10746198705985058563:=0
def tw10804563338185813602:=0
def tw2916309577274775974:=0
def tw7492250973218434490:=0
def tw3036697004204484438:=0
def tw8239977115307876433:=0
def tw13411042458412383673:=0
def tw17789624957255234707:=0
def tw9170830021185382222:=0
def tw5439309750963666535:=0
def tw16488390091101988868:=0
def tw13520613775205348192:=0
def tw1683729169450803643:=0
def tw6508016547124701603:=0
def tw5371656465500610626:=0
def tw4148149735022009914:=0
def tw4957030424316032361:=0
def tw1524557059600868900:=0
def tw481640661129754347:=0
def tw16906999032711324195:=0
def tw11619351728407619390:=0
def tw9556635522591057360:=0
def tw14428849403612922274:=0
def tw12764352615422883492:=0
def tw12460519310654929201:=0
def tw10466161432405546231:=0
def tw9186122443004504562:=0
def tw6090875472500225038:=0
def tw3900828646123958467:=0
def tw434262370922635814:=0
def tw5513379186220705140:=0
def tw14197453459589484027:=0
def tw13720249611675813432:=0
def tw901508505624317904:=0
def tw3410828985868610257:=0
def tw12630309182516735759:=0
def tw13107380152676368298:=0
def tw16852908457169159241:=0
def tw8328265174982248578:=0
def tw7369604243850367235:=0
def tw12817966674812167329:=0
def tw1993597819096751523:=0
def tw6942341014259113302:=0
def tw5237410396665700757:=0
def tw9247496775400146675:=0
def tw2385462191533792284:=0
def tw6098505794603158501:=0
def tw14571856995726280079:=0
def tw16211821669127142677:=0
def tw14347752105880897828:=0
def tw17327666448826384456:=0
def tw6619309345836864250:=0
def tw17820527877591727476:=0
def tw5001198955945045197:=0
def tw4944529699156165301:=0
def tw8689791643797246952:=0
def tw7201989633648351260:=0
def tw10450873109585880051:=0
def tw6500409030369358668:=0
def tw952096559615229229:=0
def tw5130860824483953085:=0
def tw12387167409736558385:=0
def tw13866637732977132007:=0
def tw7667072115399209081:=0
def tw8707348016631697525:=0
def tw6590361621637537137:=0
def tw4027248436604769803:=0
def tw14772871640821957135:=0
def tw2755305883099171568:=0
def tw5834671419495793805:=0
def tw11613023007210074594:=0
def tw35309672742637392:=0
def tw818691958275730595:=0
def tw7480649634448724766:=0
def tw14827087978151322004:=0
def tw18218720576626685743:=0
def tw585463076075254797:=0
def tw14275781393053840451:=0
def tw14926438632895173868:=0
def tw14658012666756149662:=0
def tw12463033905851052572:=0
def tw593389427551356534:=0
def tw2037173975473661199:=0
def tw13321815126011802101:=0
def tw16862711339874143138:=0
def tw13587046486972657391:=0
def tw8942778370868549112:=0
def tw9330382732915347880:=0
def tw9326812951054080341:=0
def tw11435814707016524380:=0
def tw11403078336363484843:=0
def tw2886519583977788104:=0
def tw5794661165667998053:=0
def tw4595862489581507548:=0
def tw13485256973392759491:=0
def tw5340473259243699446:=0
def tw7182568594577252339:=0
def tw8566087577908193850:=0
def tw1208551770378566021:=0
def tw2657640157689884581:=0
def tw16170406132528297698:=0
def tw5138682155727017551:=0
def tw6327686717445109130:=0
def tw8005994280505351321:=0
def tw552200778899100739:=0
def tw1272919217289318034:=0
def tw12191560298108305837:=0
def tw18216602825438359312:=0
def tw6696619097160356566:=0
def tw15073955834926468695:=0
def tw12032322695584087974:=0
def tw6024943882977418643:=0
def tw12897906641088929545:=0
def tw7072859144553999904:=0
def tw12570884622195264403:=0
def tw11319404048210936950:=0
def tw10071196557840181584:=0
def tw16457873055136437411:=0
def tw1615867706634775481:=0
def tw1829628919067041667:=0
def tw9817205538891428245:=0
def tw852283402381008353:=0
def tw15388842958487597233:=0
def tw2288485763656999861:=0
def tw6530505293314919480:=0
def tw16453719689599252606:=0
def tw7370879756938725166:=0
def tw1030708714863052047:=0
def tw11150692188747679980:=0
def tw6729497906328171029:=0
def tw12819134823086573520:=0
def tw17704931995407324909:=0
def tw9073798377429255638:=0
def tw4779728239113836605:=0
def tw6210927466878463882:=0
def tw14486806654801249170:=0
def tw13454747090732634632:=0
def tw13513258443488797581:=0
def tw15001779319017110739:=0
def tw5015568744967464891:=0
end PySem.W.Fast
open PySem PySem.W PyProof.Rows
set_option maxRecDepth 100000 in
set_option maxHeartbeats 0 in
theorem PySem.Challenge.cw_dykelengths_k60_names_taken_back_holds : PySem.Challenge.rw_dykelengths_k60_names_taken_back.Holds := by
 w_on;o_law;k_head;(case hw=>w_witness2)
 k_fill
 refine K60.walk (l:=PySem.Challenge.rw_dykelengths_k60_names_taken_back) rfl rfl (fun w h Y=>PySem.W.kIn_of Y) ?F
 case F=>
  intro w mg fa h KX G hmg
  refine' K60.all_mk KX G hmg ?aIN ?lIN ?cIN ?kIN ?aNB ?lNB ?cNB ?kNB ?aIW ?lIW ?cIW ?kIW ?aRI ?lRI ?cRI ?kRI ?aFD ?lFD ?cFD ?kFD ?aLY ?lLY ?cLY ?kLY ?aPT ?lPT ?cPT ?kPT ?aAP ?lAP ?cAP ?kAP ?aAN ?lAN ?cAN ?kAN ?aRP ?lRP ?cRP ?kRP ?aRL ?lRL ?cRL ?kRL ?aIC ?lIC ?cIC ?kIC ?aF0 ?lF0 ?cF0 ?kF0 ?aF1 ?lF1 ?cF1 ?kF1 ?aF2 ?lF2 ?cF2 ?kF2 ?aF3 ?lF3 ?cF3 ?kF3 ?aF4 ?lF4 ?cF4 ?kF4 ?aF5 ?lF5 ?cF5 ?kF5 ?aF6 ?lF6 ?cF6 ?kF6 ?aF7 ?lF7 ?cF7 ?kF7 ?aIR ?lIR ?cIR ?kIR ?aAT ?lAT ?cAT ?kAT ?aIO ?lIO ?cIO ?kIO ?aRO ?lRO ?cRO ?kRO ?aFO ?lFO ?cFO ?kFO ?aOr ?lOr ?cOr ?kOr ?aLG ?lLG ?cLG ?kLG ?aRF ?lRF ?cRF ?kRF ?aRR ?lRR ?cRR ?kRR ?aBN ?lBN ?cBN ?kBN ?aRoO ?lRoO ?cRoO ?kRoO ?aSD ?lSD ?cSD ?kSD ?aST ?lST ?cST ?kST ?aWR ?lWR ?cWR ?kWR ?aTB ?lTB ?cTB ?kTB ?aRN ?lRN ?cRN ?kRN ?aP ?lP ?cP ?kP ?aT ?lT ?cT ?kT ?aN ?lN ?cN ?kN ?aSo ?lSo ?cSo ?kSo ?aD ?lD ?cD ?kD ?aNu ?lNu ?cNu ?kNu ?aLO ?lLO ?cLO ?kLO ?aSm ?lSm ?cSm ?kSm ?aRo ?lRo ?cRo ?kRo ?aR ?lR ?cR ?kR ?aK ?lK ?cK ?kK ?aLS ?lLS ?cLS ?kLS ?aSR ?lSR ?cSR ?kSR ?aPo ?lPo ?cPo ?kPo ?aL ?lL ?cL ?kL ?z_isinstance ?z_str ?z_len ?z_all ?z_int ?z_bool ?z_tuple ?z_set ?z_list ?z_sorted ?z_abs ?z_range ?z_min ?z_repr ?q_MOST_FIELDS ?q_MOST_FIELD_ACRES ?q_LONGEST ?q_LAST_DAY ?q_FEWEST_LANDS ?q_MOST_LANDS ?q_MOST_PART_ACRES ?q_MOST_INCHES ?q_MOST_PENCE ?q_MOST_SPADES ?q_ROW_DEPTH ?q_LAYING_DEPTH ?q_MOST_ROWS ?q_MOST_FORMS ?q_MOST_BACKS ?q_FORMS ?lFm ?hzF ?q_RANKS ?lRk
  case aIN|lIN|cIN|kIN|aNB|lNB|cNB|kNB|aIW|lIW|cIW|kIW|aRI|lRI|cRI|kRI|aFD|lFD|cFD|kFD|aLY|lLY|cLY|kLY|aPT|lPT|cPT|kPT|aAP|lAP|cAP|kAP|aAN|lAN|cAN|kAN|aRP|lRP|cRP|kRP|aRL|lRL|cRL|kRL|aIC|lIC|cIC|kIC|aF0|lF0|cF0|kF0|aF1|lF1|cF1|kF1|aF2|lF2|cF2|kF2|aF3|lF3|cF3|kF3|aF4|lF4|cF4|kF4|aF5|lF5|cF5|kF5|aF6|lF6|cF6|kF6|aF7|lF7|cF7|kF7|aIR|lIR|cIR|kIR|aAT|lAT|cAT|kAT|aIO|lIO|cIO|kIO|aRO|lRO|cRO|kRO|aFO|lFO|cFO|kFO|aOr|lOr|cOr|kOr|aLG|lLG|cLG|kLG|aRF|lRF|cRF|kRF|aRR|lRR|cRR|kRR|aBN|lBN|cBN|kBN|aRoO|lRoO|cRoO|kRoO|aSD|lSD|cSD|kSD|aST|lST|cST|kST|aWR|lWR|cWR|kWR|aTB|lTB|cTB|kTB|aRN|lRN|cRN|kRN|aP|lP|cP|kP|aT|lT|cT|kT|aN|lN|cN|kN|aSo|lSo|cSo|kSo|aD|lD|cD|kD|aNu|lNu|cNu|kNu|aLO|lLO|cLO|kLO|aSm|lSm|cSm|kSm|aRo|lRo|cRo|kRo|aR|lR|cR|kR|aK|lK|cK|kK|aLS|lLS|cLS|kLS|aSR|lSR|cSR|kSR|aPo|lPo|cPo|kPo|aL|lL|cL|kL|z_isinstance|z_str|z_len|z_all|z_int|z_bool|z_tuple|z_set|z_list|z_sorted|z_abs|z_range|z_min|z_repr|q_MOST_FIELDS|q_MOST_FIELD_ACRES|q_LONGEST|q_LAST_DAY|q_FEWEST_LANDS|q_MOST_LANDS|q_MOST_PART_ACRES|q_MOST_INCHES|q_MOST_PENCE|q_MOST_SPADES|q_ROW_DEPTH|q_LAYING_DEPTH|q_MOST_ROWS|q_MOST_FORMS|q_MOST_BACKS|q_FORMS|lFm=>k_is
  case hzF=>first | rfl | decide
  case q_RANKS|lRk=>k_is
