import PyProof.Rows.All
import Wide.All
import OpenK.AllK
import Wide.FinOn
import Lean
import PyProof.EqAt
import PyProof.EqKinds
import PyProof.TupleCall
import KE.KIntText
import KE.KDictList
import PyProof.StationsW
import PyProof.ExcClass2
import OpenK.KRaise
import OpenK.KOwn
import KE.KTryMore
import PyProof.NsDelKeeps
import PyProof.Rows.Catch
import PyProof.ExcArgs
import PyProof.AttrMissHeap
import KE.KDictOf
import KE.KPairComp
import PyProof.P3In
import KE.KSortTup
import PySem.Challenge.RW_dykelengths_k59_rows_written_down
set_option linter.all false
set_option maxRecDepth 100000
set_option Elab.async false
set_option maxHeartbeats 16000000
noncomputable section
local macro_rules
|`(tactic|omega)=>`(tactic|lia)
local macro_rules
|`(tactic|decide)=>`(tactic|decide +kernel)
open PySem renaming wpAny_bind→Aa,Value→Ac,wpAny_pure→Ae,Shared→Af,Addr→Ag,PyData→Ai,wpAny_ite_false→Aq,Program→AG,FuncData→AK,boot_len→AO,Around→AW,World→A2,wpAny_holding→Bc,Heap→Bp,strKind→Bv,Expr→Bw,wpAny_ite_true→BL,wpAny_typeOf→BR,codeAny_builtin→BX,wpAny_isInstance→BY,wpAny_newObj_type→BZ,wpAny_call_entry→B7,Stmt→B8,wpAny_mono→Ca,mem_of_lookup→Cs,wpAny_of_eq→CB,wpAny_truthy_bool→CN,wpAny_callSpecial?_slot→CO,wpAny_rule→CQ,codeAny_mono→C8,SetTable→Di,wpAny_call→Dp,wpAny_passesOwn→Ds,wpAny_newList→Du,plainId_quiet→Dv,wpAny_setState_of→DB,wpAny_askSetting→DK,wpAny_setEntries_of→DQ,Scope→DV,wpAny_specialOf→DY,wpAny_Call_Name_kw→D5,wpAny_getItem_str_slice→D9,wpAny_setField→Eg,wpAny_runValue→Eh,NameKind→Ek,wpAny_attempt→Ex,wpAny_execs_nil→EF,Keyword→EN,wpAny_newTuple→EU,ReadsAll→EW,wpAny_pyIter_list→E4,fits_of_scanBound→E6,IsPart→Fk,wpAny_updateSeq→Fq,wpAny_loadPart'→Fs,post_val_or_str→Ft,codeAny_of_tree→Fu,weight_type_call_type→Fy,wpAny_fieldsOf→FI,sizeLine_eq→FJ,codeAny_call_builtin→FM,Fin→FZ,wpAny_standAt→F3,typeIs_str→F9,tupleKind_room_in1→Ga,call_meetsIn→Gn,GenState→Gq,BindsTo→Gu,check_set_init_1→GC,Paired→GE,wpAny_load→GX,strKind_is→GY,isSubtype_type→G8,Model→Ha,call→Hg,Reads→Hl,wpAny_load'→Hv,wpAny_field→Hw,seqIndex_of→Hx,CmpOp→Hz
open List renaming getElem?_eq_getElem→Ab,length_map→Ad,getD_eq_getElem?_getD→Ak,mem_cons→An,length_append→Au,size_toArray→Av,not_mem_nil→Az,mem_cons_self→AI,mem_cons_of_mem→AL,getElem?_eq_some_iff→AM,mem_of_getElem?→AN,getElem?_map→AS,range→AU,map_append→AY,getElem?_eq_none→AZ,mem_append_right→A3,map_cons→A4,length_cons→A5,all_eq_true→A8,append_assoc→Bg,length_take→Bh,take_add_one→Bk,getElem_mem→Bn,mem_append→Bo,take_of_length_le→Br,mem_map→Bs,getElem?_append_right→Bz,mem_singleton→BC,getElem?_append_left→BD,take_length→BI,mem_range→BK,pairwise_map→BP,getElem?_of_mem→BQ,lookup_cons→BS,length_range→BW,append_nil→Cg,pairwise_cons→Ck,mem_of_mem_take→Cp,map_map→Ct,pairwise_iff_getElem→Cy,all_cons→CF,eq_nil_of_length_eq_zero→CH,ext_getElem?→CJ,nodup_cons→CL,any_eq_true→CT,lt_irrefl→CU,length_eraseIdx_of_lt→CV,perm_append_comm→CY,forIn_cons→C1,nodup_append→C3,map_congr_left→C9,getElem?_range→Da,getElem_map→Dd,not_lt→Dy,mem_iff_getElem→Dz,take→DC,all_map→DD,mem_or_eq_of_mem_set→DF,length_nil→DL,find?_cons→DM,zip_cons_cons→DP,getElem?_set_self→DZ,drop_zero→D0,drop_eq_nil_of_le→D1,take_append_drop→Ea,length_drop→Ee,getElem_inj→Ef,mem_append_left→Eo,mem_filter→Er,length_set→Es,filterMap_cons→Ew,perm_append_comm_assoc→Ez,map_nil→EA,idxOf_lt_length_of_mem→EB,zip_nil_left→EL,reverse_perm→EM,lt_trans→ES,any_cons→ET,le_antisymm→EZ,length_singleton→Fb,perm_cons→Fe,mem_of_mem_drop→Ff,getElem?_set_ne→Fg,drop_drop→Fh,getElem_idxOf→FC,zipIdx_cons→F4,filter_cons→F5,ext_getElem→F6,countP_cons→F7,all_toArray→F8,range'→Ge,of_mem_zip→Gi,foldl_cons→Gj,nodup_nil→Gx,forIn_nil→Gy,map→Hc
open PySem.Heap renaming get?_push_of_some→Ah,get?_push_size→Ax,lt_size→Ay,get?_update_ne→Bt,size_push→B2,get?_update_self→B5,get?_update_other→CP,size_update→De,SameBut→D2,get?_push_ne→EO,SetOf→FE
open PySem.W renaming Frag→Aj,keepIn→Al,nsIn→Am,mg_of→Ap,codeIn→Ar,fnOf→AB,mg_none_of→BB,kitOne→B0,kas_sort→B6,kia_tup→Cc,kia_one→Cd,kitAny→Et,findIn→Eu,kitx_list→ED,kitx_dict→EE,kas_item→EV,kas_item_eq→E5,methodObj→FB,instObj→FX,OpenLaw→FY,lookIn→Gb,kas_tail3→Hj,kas_count→Hk,kas_st→Hn,kas_rev→Ho,kas_first_eq→Hq,kas_descPart→Hr,KasT→Hy
open Nat renaming le_refl→Ao,ne_of_lt→AF,zero_le→A0,lt_of_lt_of_le→A6,le_trans→Bi,lt_succ_of_lt→Bl,lt_succ_self→BN,lt_irrefl→Cf,ne_of_gt→C5,le_succ→C6,le_of_lt→Dj,add_sub_cancel_left→DT,lt_trans→D7,le_of_eq→E8,lt_of_le_of_lt→FQ,sub_zero→F0,lt_trichotomy→F1,le_succ_of_le→F2,succ_le_succ→Gc,min_le_right→Gd,one_pos→Hi
open Sum renaming inr→Aw,inl→Fw
open PyProof.Rows renaming wpS_bind→AA,wpS_pure→AR,SortSt→Bq,Keyed→BV,slot_tuple_getitem→B4,wpS_forRange→Cb,listUpdate_at→Cv,wpS_modify→C0,wpS_mono→Dh,SortKind→Dt,seqEpoch_at→DI,listItems_at→Ei,wpS_get→EI,AllBare→ER,envOfC→EX,IsTup→Fc,wpS_lift→FH,args_list_sort→FO,plain_sorted→Gk,entry_sorted→Gm,kind_sorted→GM,list_sort_plain→GQ,StrsAre→GV,sortedHeap_old→GZ,sortedHeap_at→He,args_sorted1→Hs,IntsAre→Hu
open PySem.Value renaming type→AC,ref→AJ,str→BE,none→Ci,int→Cm,isStrOf_shape→Fj,isStrOf→Fv,bool→Fz,float→G9
open Bool renaming false_ne_true→AD,and_eq_true→AH,false_eq_true→A9,true_and→Ba,eq_iff_iff→Cu,false_and→Df,or_eq_false_iff→Fi,and_false→Gz
open Or renaming inl→AE,inr→En
open PySem.PyData renaming str→AQ,keyHash→AV,hasDictAll→AX,canLayAll0→A1,depthAll→Bf,eqv→BF,depth→BG,canLay0→B1,eqvAll→CM,int→C2,tuple→Dw,shown→Dx,hasDict→Ey,strOk→EY,showable→E3
open Array renaming getElem?_eq_getElem→A7,perm_iff_toList_perm→Bd,toList_append→Bj,length_toList→By,getD_eq_getD_getElem?→BH,mapM_eq_mapM_toList→Cw,toList_push→CI,getElem?_toList→Dm,toList_map→Eb,toList_inj→Ec,toList_reverse→Em,size_map→Gv,map_map→GJ
open PySem.SetTable renaming fresh→Bb,grown→Dn,below→DO
open PySem.Obj renaming mapSeq→Be,data_mapFields→CW,isFreed_of_fields→Ed,putSet→Ht
open Int renaming toNat_natCast→Bm,emod_lt_of_pos→CZ,emod_nonneg→C4,toNat→Do,toNat_of_nonneg→DJ,lt_of_le_of_lt→DR,le_refl→Fl,mul_nonneg→GG,zero_add→Hb
open List.Perm renaming append_left→Bu,append_right→Dc,refl→Dl,trans→DE,eq_nil→EG,of_eq→FS
open PySem.Str renaming ofString→Bx,length_append→D6
open PySem.NameKind renaming free→BA,cell→D8
open PySem.F renaming plainAttrs_list→BJ,called_set→BU,type_list_append→Cz,slot_list_append→CA,plain_list_iadd→DA,plainAttrs_dict→EK,slot_dict_get→E2,plain_proto_collect→Fn,entry_proto_collect→Fo,entry_type_call→Gf,entry_list_iadd→Gg,typeCall_set_1→Gr,entry_set_init→Gs
open PySem.Around renaming under_plainId→BM,under_plain→Fx
open PyProof.Rows.F renaming plain_set_update_loop→BO,entry_set_update_loop→CC
open PySem.Data renaming set→B3,seq→Cq,fields→Gh
open PySem.Builtin.Frozenset renaming updateFrom→B9,isAnySet→DX
open PySem.Builtin.List renaming listExtendWith→Ce,listItems→C7,listUpdate→EC
open True renaming intro→Cj
open PySem.Heap.SameBut renaming update→Co
open PySem.PassesOwn renaming never→Cr
open Option renaming some→CD,map_eq_some_iff→DS
open ForInStep renaming yield→CG
open False renaming elim→CK
open List.Pairwise renaming nil→CS,imp→DG
open Array.Perm renaming refl→Dg
open PySem.Builtin.Slice renaming slicePlaces→Dk,sliceAdjust→El
open PySem.Builtin.Tuple renaming tupleExact→Dq
open PyProof.Rows.SortSt renaming mk'→Dr
open PySem.Shared renaming TypeIs→DH
open PySem.Calls renaming spliced_cons→DN,callWith_builtin→DW,call_function_entry→EH,evalArgs_plain→Fd,spliced_nil→FV
open List.Nodup renaming length_le_of_subset→DU
open PySem.Txt renaming slice→Ej,slice_le→E7
open Ne renaming symm→Ep
open PySem.SeqAt.EqAt renaming same→EJ,str_str→E9
open Decidable renaming em→Fp
open PySem.SeqAt renaming EqAt→FA
open PySem.Code renaming quiet_builtin→FF
open PySem.Walks renaming toS→FW,list→Hf
open PySem.Moved renaming mono→Gp
open PySem.Paired renaming length→Gw
open PySem.Flow renaming ret→Hd
open PUnit renaming unit→Hh
open Except renaming ok→Hm
open Prod renaming ext→HG
theorem Ia{c:Prop}{h:Decidable c}(n:¬c){α:Sort u}{t e:α}:ite c t e=e:=if_neg n
theorem Ib{c:Prop}{h:Decidable c}(n:c){α:Sort u}{t e:α}:ite c t e=t:=if_pos n
theorem Ic{p:Prop}[s:Decidable p](h:p):decide p=true:=decide_eq_true h
theorem Ie{p:Prop}[s:Decidable p](h:decide p=true):p:=of_decide_eq_true h
theorem Ig{α:Sort u}{β:Sort v}{γ:Sort w}{f:α→β→γ}:∀a b,f a b=f a b:=fun _ _=>rfl
abbrev Ih:=List (PySem.Addr×PySem.Obj)
namespace L2
open PySem PySem.Spec PyProof.Rows
inductive Ex3{α β γ:Type}(p:α→β→γ→Prop):Prop
 | mk (a:α) (b:β) (c:γ) (h:p a b c):Ex3 p
inductive Aw3(a b c:Prop):Prop
 | mk (h:a) (i:b) (j:c):Aw3 a b c
inductive Aw6(a b c d e f:Prop):Prop
 | mk (h:a) (i:b) (j:c) (k:d) (l:e) (m:f):Aw6 a b c d e f
theorem gP{α:Type}{us:List α}(h:us.length=1):∃ q,us=[q]:=by
 cases us with
 | nil=>simp at h
 | cons q z=>
  cases z with
  | nil=>exact⟨q,rfl⟩
  | cons _ _=>simp at h
theorem rA{α:Type}{us:List α}(h:us.length=2):∃ q a1,us=[q,a1]:=by
 cases us with
 | nil=>simp at h
 | cons q z=>
  cases z with
  | nil=>simp at h
  | cons a1 B=>
   cases B with
   | nil=>exact⟨q,a1,rfl⟩
   | cons _ _=>simp at h
theorem aEE{α:Type}{us:List α}(h:us.length=3):∃ q a1 a2,us=[q,a1,a2]:=by
 cases us with
 | nil=>simp at h
 | cons q B=>
  cases B with
  | nil=>simp at h
  | cons a1 F=>
   cases F with
   | nil=>simp at h
   | cons a2 z=>
    cases z with
    | nil=>exact⟨q,a1,a2,rfl⟩
    | cons _ _=>simp at h
theorem aJj{α:Type}{us:List α}(h:us.length=4):∃ q a1 a2 a3,us=[q,a1,a2,a3]:=by
 cases us with
 | nil=>simp at h
 | cons q F=>
  cases F with
  | nil=>simp at h
  | cons a1 J=>
   cases J with
   | nil=>simp at h
   | cons a2 z=>
    cases z with
    | nil=>simp at h
    | cons a3 B=>
     cases B with
     | nil=>exact⟨q,a1,a2,a3,rfl⟩
     | cons _ _=>simp at h
theorem aKc{α:Type}{us:List α}(h:us.length=5):∃ q a1 a2 a3 a4,us=[q,a1,a2,a3,a4]:=by
 cases us with
 | nil=>simp at h
 | cons q J=>
  cases J with
  | nil=>simp at h
  | cons a1 M=>
   cases M with
   | nil=>simp at h
   | cons a2 z=>
    cases z with
    | nil=>simp at h
    | cons a3 B=>
     cases B with
     | nil=>simp at h
     | cons a4 F=>
      cases F with
      | nil=>exact⟨q,a1,a2,a3,a4,rfl⟩
      | cons _ _=>simp at h
abbrev Key:=Sum Int Str
def uD:Key→Ac→Bool
 | .inl k,v=>Value.isInt k v
 | .inr x,v=>Fv x v
def aH9(w:A2):Key→Int
 | .inl k=>hashInt k
 | .inr x=>hashStr w x
theorem eV:∀{k:Key}{v:Ac},uD k v=true→(∃ i t,k=Fw i∧v=Cm i t)∨(∃ x t,k=Aw x∧v=BE x t)
 | .inl i,v,h=>by
  obtain⟨t,e⟩:=Value.isInt_shape (k:=i) (v:=v) h;exact .inl ⟨i,t,rfl,e⟩
 | .inr x,v,h=>by
  obtain⟨t,e⟩:=Fj (x:=x) (v:=v) h;exact .inr ⟨x,t,rfl,e⟩
theorem aDH(i:Int)(t:Tok):uD (.inl i) (.int i t)=true:=by simp[uD,Value.isInt]
theorem aDI(x:Str)(t:Tok):uD (.inr x) (.str x t)=true:=by simp[uD,Fv]
theorem aIa(a b:Int):decide ((Fw a:Key)=Fw b)=(a == b):=by
 by_cases e:a=b
 ·subst e;simp
 ·have h:¬ (Fw a:Key)=Fw b:=fun q=>e (Fw.inj q);rw[decide_eq_false h];exact(beq_eq_false_iff_ne.mpr e).symm
theorem aIb(a b:Str):decide ((Aw a:Key)=Aw b)=decide (a=b):=by
 by_cases e:a=b
 ·subst e;simp
 ·have h:¬ (Aw a:Key)=Aw b:=fun q=>e (Aw.inj q);rw[decide_eq_false h,decide_eq_false e]
theorem aIc(a:Int)(b:Str):decide ((Fw a:Key)=Aw b)=false:=decide_eq_false (fun q=>nomatch q)
theorem aId(a:Str)(b:Int):decide ((Aw a:Key)=Fw b)=false:=decide_eq_false (fun q=>nomatch q)
def c9(prog:AG)(w:A2):PySem.KeyKind prog w Key where
 is:=uD
 hash:=aH9 w
 inj:=fun v a b ha hb=>by
  rcases eV ha with⟨i,t,rfl,rfl⟩ | ⟨x,t,rfl,rfl⟩
  ·rcases eV hb with⟨j,u,rfl,e⟩ | ⟨y,u,rfl,e⟩
   ·injection e with e1 _;rw[e1]
   ·exact nomatch e
  ·rcases eV hb with⟨j,u,rfl,e⟩ | ⟨y,u,rfl,e⟩
   ·exact nomatch e
   ·injection e with e1 _;rw[e1]
 byValue:=fun k v h=>by
  rcases eV h with⟨i,t,rfl,rfl⟩ | ⟨x,t,rfl,rfl⟩ <;> rfl
 pyHash:=fun hv h=>by
  rcases eV hv with⟨i,t,rfl,rfl⟩ | ⟨x,t,rfl,rfl⟩
  ·exact wpAny_pyHash_int h
  ·exact wpAny_pyHash_str h
 eqBool:=fun hu hv h=>by
  rcases eV hu with⟨i,t,rfl,rfl⟩ | ⟨x,t,rfl,rfl⟩
  ·rcases eV hv with⟨j,u,rfl,rfl⟩ | ⟨y,u,rfl,rfl⟩
   ·rw[aIa]at h;exact wpAny_eqBool_int h
   ·rw[aIc]at h;exact SeqAt.EqAt.int_str i t y u _ _ _ _ h
  ·rcases eV hv with⟨j,u,rfl,rfl⟩ | ⟨y,u,rfl,rfl⟩
   ·rw[aId]at h;exact SeqAt.EqAt.str_int x t j u _ _ _ _ h
   ·rw[aIb]at h;exact wpAny_eqBool_str h
 «strs»:=fun k x t v h=>by
  rcases eV h with⟨i,u,rfl,e⟩ | ⟨y,u,rfl,e⟩
  ·exact nomatch e
  ·injection e with e1 _;subst e1;cases v <;> rfl
theorem aAh(prog:AG)(w:A2)(i:Int)(t:Tok):(c9 prog w).is (.inl i) (.int i t)=true:=aDH i t
theorem aAi(prog:AG)(w:A2)(x:Str)(t:Tok):(c9 prog w).is (.inr x) (.str x t)=true:=aDI x t
inductive V where
 | non | bl (b:Bool) | int (i:Int) | str (x:Str) | byt (b:Array UInt8) | flt (b:UInt64) | ref (a:Ag) | ty (n:String)
 deriving DecidableEq
def c7:V→Ac→Prop
 | .non,u=>u=Ci
 | .bl b,u=>u=Fz b
 | .int i,u=>∃ t,u=Cm i t
 | .str x,u=>∃ t,u=BE x t
 | .byt b,u=>∃ t,u=Value.bytes b t
 | .flt b,u=>∃ t,u=G9 b t
 | .ref a,u=>u=AJ a
 | .ty n,u=>u=AC n
abbrev c0:List V→List Ac→Prop:=GE c7
theorem c0.length{xs:List V}{us:List Ac}(r:c0 xs us):xs.length=us.length:=Gw r
theorem c0.get:∀{xs:List V}{us:List Ac}{i:Nat}{x:V},c0 xs us→xs[i]?=some x→∃ u,us[i]?=some u∧c7 x u
 | _,_,_,_,.nil,e=>by simp at e
 | _,_,0,_,.cons r _,e=>by simp at e;subst e;exact⟨_,rfl,r⟩
 | _,_,i + 1,x,.cons _ t,e=>by
  obtain⟨u,h1,h2⟩:=c0.get (i:=i) (x:=x) t (by simpa using e);exact⟨u,by simpa using h1,h2⟩
theorem c0.set{x:V}{u:Ac}(r:c7 x u):∀{xs:List V}{us:List Ac} (i:Nat),c0 xs us→c0 (xs.set i x) (us.set i u)
 | _,_,_,.nil=>.nil
 | _,_,0,.cons _ t=>.cons r t
 | _,_,i + 1,.cons q t=>.cons q (c0.set r i t)
theorem c0.append:∀{xs ys:List V}{us q:List Ac},c0 xs us→c0 ys q→c0 (xs ++ ys) (us ++ q)
 | _,_,_,_,.nil,s=>s
 | _,_,_,_,.cons r t,s=>.cons r (c0.append t s)
theorem c0.take:∀{xs:List V}{us:List Ac} (n:Nat),c0 xs us→c0 (xs.take n) (us.take n)
 | _,_,0,_=>.nil
 | _,_,_ + 1,.nil=>.nil
 | _,_,n + 1,.cons r t=>.cons r (c0.take n t)
theorem c0.drop:∀{xs:List V}{us:List Ac} (n:Nat),c0 xs us→c0 (xs.drop n) (us.drop n)
 | _,_,0,r=>r
 | _,_,_ + 1,.nil=>.nil
 | _,_,n + 1,.cons _ t=>c0.drop n t
def oV:Option V→Option Ac→Prop
 | some v,some u=>c7 v u
 | none,none=>True
 | _,_=>False
def KV{κ:Type}:List (κ×V)→List (κ×Ac)→Prop:=GE fun(p:κ×V) (q:κ×Ac)=>p.1=q.1∧c7 p.2 q.2
def kV:Key→V
 | .inl i=>.int i
 | .inr x=>.str x
inductive HO where
  | lst (xs:List V)
  | tup (xs:List V)
  | dK (fh:List (Key×V)) | dT (fh:List (List Key×V))
  | set (S:Int→Bool) (n:Nat)
  | ins (C dx:Ag) (fs:List (Str×V))
  | own (x:Ag)
  | xd (fs:List (Str×V))
  | met (f x:Ag)
  | rng (lo hi:Int)
  | frz (o:Obj) (u:HO)
  | tbl (ps:Array Ac)
  | ext (φ:Bp→Prop)
abbrev Hp:=Ag→Option HO
def upd(H:Hp)(a:Ag)(o:HO):Hp:=fun b=>if b=a then some o else H b
theorem aH{H:Hp}{a:Ag}{o:HO}:upd H a o a=some o:=by unfold upd;rw[Ib rfl]
theorem bM{H:Hp}{a b:Ag}{o:HO}(h:b≠a):upd H a o b=H b:=by unfold upd;rw[Ia h]
theorem aCB{H:Hp}{a:Ag}{o u:HO}:upd (upd H a o) a u=upd H a u:=by
 funext b;unfold upd;split <;> rfl
theorem aEF{H:Hp}{a b:Ag}{o u:HO}(h:H a=some o)(h':H b=some u)(d:o≠u):a≠b:=by
 intro e;subst e;rw[h]at h';exact d (CD.inj h')
theorem aY{H:Hp}{a b:Ag}{o:HO}(h:H a=some o)(h':H b=none):a≠b:=by
 intro e;subst e;rw[h]at h';cases h'
section
variable(P:AG)(w:A2)
def nS(h:Bp)(a:Ag)(items:Array Ac):Prop:=∃ o,h.get? a=some o∧(o.cls=.type "tuple"∧∃ n,o.data=.seq items n)∧o.dict=none
theorem nS.tup{h:Bp}{a:Ag}{q:Array Ac}(x:nS h a q):Fc h a q:=by
 obtain⟨o,e,c,_⟩:=x;exact⟨o,e,c⟩
instance nS.coe{h:Bp}{a:Ag}{items:Array Ac}:Coe (nS h a items) (Fc h a items):=⟨nS.tup⟩
theorem nS.lt{h:Bp}{a:Ag}{q:Array Ac}(x:nS h a q):a < h.objs.size:=x.tup.lt
def dC(H:Hp)(h:Bp)(a:Ag):HO→Prop
 | .lst xs=>xs.length≤sizeLine∧∃(its:List Ac) (n:Nat),c0 xs its∧h.get? a=some { cls:=.type "list",data:=.seq its.toArray n }
 | .tup xs=>xs.length≤sizeLine∧∃ its:List Ac,c0 xs its∧nS h a its.toArray
 | .dK fh=>fh.length≤sizeLine∧(a == sysModules)=false∧∃ vs,KV fh vs∧h.DictOf (c9 P w) a vs
 | .dT fh=>fh.length≤sizeLine∧(a == sysModules)=false∧∃ xs:List (List Key×Ag×Ac),
   GE (fun(p:List Key×V) (q:List Key×Ag×Ac)=>p.1=q.1∧H q.2.1=some (.tup (p.1.map kV))∧c7 p.2 q.2.2) fh xs∧
   ∃ o es ep,h.get? a=some o∧o.ExactDict∧o.data=.dict es ep∧es.toList=xs.map (entryOfKey (tupleKind (c9 P w)))∧(xs.map (·.1)).Nodup
 | .set S n=>h.SetOf (intKind P w) a S n
 | .ins C dx fs=>H dx=some (.own a)∧fs.length≤1000∧dx≠a∧h.get? a=some (FX C dx)∧
   ∃ mA,h.Ns1 dx mA∧(∀ f,oV (fs.lookup f) (mA f))∧PySem.Within mA (fs.map (·.1))
 | .own _=>∃ o,h.get? a=some o
 | .xd fs=>∃ mA,h.Ns1 a mA∧∀ f,oV (fs.lookup f) (mA f)
 | .rng lo hi=>∃ t u v,h.get? a=some { cls:=.type "range",data:=.fields #[.int lo t,.int hi u,.int 1 v] }
 | .frz o u=>h.get? a=some o∧dC H h a u
 | .tbl ps=>h.get? a=some { cls:=.none,data:=.fields ps }
 | .met f x=>h.get? a=some (FB (.ref f) (.ref x))
 | .ext φ=>φ h∧(∃ o,h.get? a=some o)∧∀ h1 h2:Bp,φ h1→(∀ o,h1.get? a=some o→h2.get? a=some o)→φ h2
def HOk(H:Hp)(h:Bp):Prop:=∀ a o,H a=some o→dC P w H h a o
end
section
variable{P:AG}{w:A2}{H H':Hp}{h h':Bp}{a:Ag}{o:HO}
theorem dC.lt(x:dC P w H h a o):a < h.objs.size:=by
 cases o with
 | lst xs=>obtain⟨_,_,_,_,e⟩:=x;exact Ay e
 | tup xs=>obtain⟨_,_,_,p⟩:=x;exact p.lt
 | dK fh=>obtain⟨_,_,_,_,o,_,_,e,_⟩:=x;exact Ay e
 | dT fh=>obtain⟨_,_,_,_,o,_,_,e,_⟩:=x;exact Ay e
 | set S n=>obtain⟨o,_,_,_,e,_⟩:=x;exact Ay e
 | ins C dx fs=>obtain⟨_,_,_,e,_⟩:=x;exact Ay e
 | own y=>obtain⟨_,e⟩:=x;exact Ay e
 | xd fs=>obtain⟨_,⟨_,_,_,e,_⟩,_⟩:=x;exact Ay e
 | rng lo hi=>obtain⟨_,_,_,e⟩:=x;exact Ay e
 | frz ob u=>obtain⟨e,_⟩:=x;exact Ay e
 | tbl ps=>exact Ay (show h.get? a=some _ from x)
 | met f y=>exact Ay (show h.get? a=some _ from x)
 | ext φ=>obtain⟨_,⟨_,e⟩,_⟩:=x;exact Ay e
theorem Paired.mapP{α β:Type}{F G:α→β→Prop}:∀{l₁:List α}{l₂:List β},GE F l₁ l₂→(∀ a b,F a b→G a b)→GE G l₁ l₂
 | _,_,.nil,_=>.nil
 | _,_,.cons r t,f=>.cons (f _ _ r) (Paired.mapP t f)
theorem dC.stay(x:dC P w H h a o)(k:∀ b u,(b=a∨H b=some (.own a))→h.get? b=some u→h'.get? b=some u)
  (B:∀ b,H b=some (.own a)→H' b=some (.own a)) (ht:∀ b xs,H b=some (.tup xs)→H' b=some (.tup xs)):dC P w H' h' a o:=by
 induction o with
 | lst xs=>obtain⟨z,its,n,r,e⟩:=x;exact⟨z,its,n,r,k _ _ (.inl rfl) e⟩
 | tup xs=>obtain⟨z,its,r,ob,e,c⟩:=x;exact⟨z,its,r,ob,k _ _ (.inl rfl) e,c⟩
 | dK fh=>obtain⟨z,y,vs,r,ob,es,ep,e,c⟩:=x;exact⟨z,y,vs,r,ob,es,ep,k _ _ (.inl rfl) e,c⟩
 | dT fh=>
  obtain⟨z,y,xs,r,ob,es,ep,e,c⟩:=x;exact⟨z,y,xs,Paired.mapP r fun p q z=>⟨z.1,ht _ _ z.2.1,z.2.2⟩,ob,es,ep,k _ _ (.inl rfl) e,c⟩
 | set S n=>obtain⟨ob,es,ep,t,e,c⟩:=x;exact⟨ob,es,ep,t,k _ _ (.inl rfl) e,c⟩
 | ins C dx fs=>
  obtain⟨d,z,ne,e,mA,⟨od,es,ep,e2,c⟩,r⟩:=x;exact⟨B _ d,z,ne,k _ _ (.inl rfl) e,mA,⟨od,es,ep,k _ _ (.inr d) e2,c⟩,r⟩
 | own y=>obtain⟨ob,e⟩:=x;exact⟨ob,k _ _ (.inl rfl) e⟩
 | xd fs=>obtain⟨mA,⟨od,es,ep,e,c⟩,r⟩:=x;exact⟨mA,⟨od,es,ep,k _ _ (.inl rfl) e,c⟩,r⟩
 | rng lo hi=>obtain⟨t,u,v,e⟩:=x;exact⟨t,u,v,k _ _ (.inl rfl) e⟩
 | frz ob u F=>obtain⟨e,q⟩:=x;exact⟨k _ _ (.inl rfl) e,F q⟩
 | tbl ps=>
  have e:h.get? a=some { cls:=.none,data:=.fields ps }:=x;show h'.get? a=some { cls:=.none,data:=.fields ps };exact k a _ (.inl rfl) e
 | met f y=>
  have e:h.get? a=some (FB (.ref f) (.ref y)):=x;show h'.get? a=some (FB (.ref f) (.ref y));exact k a _ (.inl rfl) e
 | ext φ=>obtain⟨p,⟨o,e⟩,st⟩:=x;exact⟨st _ _ p fun o q=>k _ _ (.inl rfl) q,⟨o,k _ _ (.inl rfl) e⟩,st⟩
theorem HOk.lt(x:HOk P w H h)(e:H a=some o):a < h.objs.size:=(x a o e).lt
theorem HOk.fresh(x:HOk P w H h)(e:h.objs.size≤a):H a=none:=by
 cases q:H a with
 | none=>rfl
 | some u=>exact absurd (A6 (x.lt q) e) (Cf _)
theorem HOk.kept(x:HOk P w H h)(k:∀ b u,h.get? b=some u→h'.get? b=some u):HOk P w H h':=fun a o e=>
 (x a o e).stay (fun b u _ q=>k b u q) (fun _ q=>q) fun _ _ q=>q
theorem HOk.laid(x:HOk P w H h)(k:∀ b u,h.get? b=some u→h'.get? b=some u)(B:h.objs.size≤a)(new:dC P w (upd H a o) h' a o):HOk P w (upd H a o) h':=fun b u e=>by
 have hn:=x.fresh B;by_cases z:b=a
 ·subst z;rw[aH]at e;cases e;exact new
 ·rw[bM z]at e;exact(x b u e).stay (fun c v _ q=>k c v q) (fun c q=>by rw[bM (aY q hn)];exact q) fun c xs q=>by rw[bM (aY q hn)];exact q
end
def Rd(H:Hp)(a:Ag)(u:HO):Prop:=H a=some u∨∃ o,H a=some (.frz o u)
theorem Rd.ok{P:AG}{w:A2}{H:Hp}{h:Bp}{a:Ag}{u:HO}(r:Rd H a u)(x:HOk P w H h):dC P w H h a u:=by
 rcases r with r | ⟨o,r⟩
 ·exact x a u r
 ·obtain⟨_,q⟩:=x a _ r;exact q
def Mut:Option HO→Prop
 | some (.lst _)=>True
 | some (.dK _)=>True
 | some (.dT _)=>True
 | some (.set _ _)=>True
 | some (.ins _ _ _)=>True
 | some (.ext _)=>True
 | _=>False
section
variable{P:AG}{w:A2}{H:Hp}{h h':Bp}{x e:Ag}{o':HO}
theorem HOk.write(ok:HOk P w H h)(M:Mut (H x))(W:e=x∨H e=some (.own x))(k:∀ b u,b≠e→h.get? b=some u→h'.get? b=some u)(U:∃ u,h'.get? e=some u)
  (new:dC P w (upd H x o') h' x o'):HOk P w (upd H x o') h':=fun b u q=>by
 have F:∀ c y,H c=some (.own y)→c≠x:=fun c y r z=>by subst z;rw[r]at M;exact M
 have J:∀ c xs,H c=some (.tup xs)→c≠x:=fun c xs r z=>by subst z;rw[r]at M;exact M
 by_cases O:b=x
 ·subst O;rw[aH]at q;cases q;exact new
 ·rw[bM O]at q;by_cases B:b=e
  ·have Y:H b=some (.own x):=by
    rcases W with z | z
    ·exact absurd (B.trans z) O
    ·rw[B];exact z
   rw[q]at Y;cases Y;obtain⟨v,hv⟩:=U;exact⟨v,by rw[B];exact hv⟩
  ·refine(ok b u q).stay (fun c v hc r=>k c v ?_ r) (fun c r=>by rw[bM (F c b r)];exact r) fun c xs r=>by rw[bM (J c xs r)];exact r
   rcases hc with rfl | hc
   ·exact B
   ·rintro rfl;rcases W with z | z
    ·exact F c b hc z
    ·rw[hc]at z;cases z;exact O rfl
end
structure Un(fs ex:List Ag)(H H':Hp)(h h':Bp):Prop where
 keep:∀ b o,h.get? b=some o→H b=none→b ∉ fs→b ∉ ex→h'.get? b=some o
 slot:∀ b o,h.get? b=some o→H b=none→b∈fs→b ∉ ex→∃ sl,h'.get? b=some { o with slots:=sl }
 free:∀ b o,h.get? b=some o→H b=none→b ∉ ex→H' b=none
 there:∀ b o,h.get? b=some o→b ∉ ex→∃ o',h'.get? b=some o'
 tups:∀ b xs,H b=some (.tup xs)→H' b=some (.tup xs)
 frzs:∀ b o u,H b=some (.frz o u)→H' b=some (.frz o u)
 tbls:∀ b ps,H b=some (.tbl ps)→∃ more,H' b=some (.tbl (ps ++ more))
section
variable{fs fs' ex ex':List Ag}{H H1 H2:Hp}{h h1 h2 h':Bp}{a x e:Ag}{o:HO}
theorem Un.any(u:Un fs ex H H1 h h1){b:Ag}{ob:Obj}(q:h.get? b=some ob)(n:H b=none)(B:b ∉ ex):∃ F,h1.get? b=some { ob with slots:=F }:=by
 by_cases z:b∈fs
 ·exact u.slot b ob q n z B
 ·exact⟨ob.slots,u.keep b ob q n z B⟩
theorem Un.kept(k:∀ b u,h.get? b=some u→h'.get? b=some u):Un fs ex H H h h':=
 ⟨fun b ob q _ _ _=>k b ob q,fun b ob q _ _ _=>⟨ob.slots,k b ob q⟩,fun _ _ _ n _=>n,fun b ob q _=>⟨ob,k b ob q⟩,fun _ _ q=>q,fun _ _ _ q=>q,fun _ ps q=>⟨#[],by rw[q];simp⟩⟩
theorem Un.refl:Un fs ex H H h h:=Un.kept fun _ _ q=>q
theorem Un.laid(k:∀ b u,h.get? b=some u→h'.get? b=some u)(z:h.objs.size≤a)(hn:H a=none):Un fs ex H (upd H a o) h h' where
 keep:=fun b u q _ _ _=>k b u q
 slot:=fun b u q _ _ _=>⟨u.slots,k b u q⟩
 free:=fun b u q n _=>by rw[bM (AF (A6 (Ay q) z))];exact n
 there:=fun b u q _=>⟨u,k b u q⟩
 tups:=fun b xs q=>by rw[bM (aY q hn)];exact q
 frzs:=fun b u xs q=>by rw[bM (aY q hn)];exact q
 tbls:=fun b ps q=>⟨#[],by rw[bM (aY q hn),q];simp⟩
theorem Un.write(F:Mut (H x))(U:e=x∨H e=some (.own x))(k:∀ b u,b≠e→h.get? b=some u→h'.get? b=some u)(J:∃ u,h'.get? e=some u):Un fs ex H (upd H x o) h h':=by
 have O:∀ b,H b=none→b≠x:=fun b n z=>by subst z;rw[n]at F;exact F
 have M:∀ b,H b=none→b≠e:=fun b n z=>by
  subst z;rcases U with r | r
  ·exact O b n r
  ·rw[n]at r;cases r
 have hm:∀ b u,H b=some u→¬ Mut (some u)→b≠x:=fun b u q nm z=>by subst z;rw[q]at F;exact nm F
 refine⟨fun b u q n _ _=>k b u (M b n) q,fun b u q n _ _=>⟨u.slots,k b u (M b n) q⟩,fun b u q n _=>by rw[bM (O b n)];exact n,fun b u q _=>?_,
  fun b xs q=>by rw[bM (hm b _ q fun z=>z)];exact q,fun b u xs q=>by rw[bM (hm b _ q fun z=>z)];exact q,fun b ps q=>⟨#[],by rw[bM (hm b _ q fun z=>z),q];simp⟩⟩
 by_cases B:b=e
 ·subst B;exact J
 ·exact⟨u,k b u B q⟩
end
def trk(h:Bp)(H:Hp):List Ag:=(AU h.objs.size).filter fun a=>(H a).isSome
def zF(h:Bp)(H:Hp):Bp:=PySem.W.hideAll h (trk h H)
theorem aDJ(h:Bp)(H:Hp):(zF h H).objs.size=h.objs.size:=PySem.W.hideAll_size _ _
theorem aEG{h:Bp}{H:Hp}{b:Ag}{o:Obj}(e:h.get? b=some o)(n:H b=none):(zF h H).get? b=some o:=
 PySem.W.hideAll_get _ e fun hm=>by
  have q:(H b).isSome=true:=(Er.mp hm).2;rw[n]at q;simp at q
theorem aGK{h:Bp}{H:Hp}{b:Ag}{o:Obj}(e:(zF h H).get? b=some o):h.get? b=some o∧H b=none:=by
 have B:h.get? b=some o:=PySem.W.of_hideAll (trk h H) e;refine⟨B,?_⟩;cases q:H b with
 | none=>rfl
 | some x=>
  have hm:b∈trk h H:=Er.mpr ⟨BK.mpr (Ay B),by simp[q]⟩;have z:(zF h H).get? b=none:=PySem.W.hideAll_none (trk h H) hm;rw[z]at e;cases e
def aGL(g h:Bp)(L:Ag):Ih:=(AU h.objs.size).filterMap fun a=>if a=L∨(g.get? a).isSome=true then none else(h.get? a).map fun o=>(a,o)
def cS(g h:Bp)(L d:Ag):Ih:=(aGL g h L).filter fun p=>decide (p.1≠d)
structure Mod(K:Aj)(mg:Str→Option Ac)(base:Bp):Prop where
 kin:K.In base
 glob:base.Ns mainGlobals mg
 blt:∃ mb,base.Ns builtinsNs mb∧∀ x:Str,x≠"__name__"→mb x=bootBuiltins x
 nolimit:base.NoLimit
structure Cx where
 prog:AG
 w:A2
 K:Aj
 mg:Str→Option Ac
 base:Bp
 A:AW
 N:List Str
 s₀:Af
 H₀:Hp
 env:Env
 outer:List Env
 stack:List Env
 ex:List Ag
 fn:Str→Bool
 calm:Bool
 pn:Ih
 xe:Ac→Af→Prop
def frs(l:List Env):List Ag:=l.filterMap (·.frame)
abbrev Cx.fs(X:Cx):List Ag:=frs X.outer
def Vis(sc:DV)(x:Str):Prop:=sc.names.lookup x=some .local∨sc.names.lookup x=some .cell∨sc.names.lookup x=some .free
def Loc(sc:DV)(x:Str):Prop:=sc.names.lookup x=some .local∨sc.names.lookup x=some .cell
def aKd(env:Env)(h:Bp)(m:Str→Option Ac)(x:Str)(u:Ac):Prop:=
 (env.kindOf x=some .local∧m x=some u)∨((env.kindOf x=some .cell∨env.kindOf x=some .free)∧∃ c,env.cells.lookup x=some c∧h.IsCell c (some u))
structure Cx.Ok(X:Cx):Prop where
 mod:Mod X.K X.mg X.base
 kind:X.env.scope.kind=.function
 glob:X.env.globals=mainGlobals
 blt:X.env.builtins=builtinsNs
 above:X.s₀.heap.objs.size≤X.env.locals
 inj:∀ x y c,X.env.cells.lookup x=some c→X.env.cells.lookup y=some c→x=y
 has:∀ x,(X.env.kindOf x=some .cell∨X.env.kindOf x=some .free)→∃ c,X.env.cells.lookup x=some c
 cab:∀ x c,X.fn x=true→X.env.cells.lookup x=some c→X.s₀.heap.objs.size≤c
 hd:X.calm=true→X.A.handled=none
 frames:X.A.frames=some X.stack
 stk:X.stack=X.outer∨(X.stack=X.env :: X.outer∧X.env.frame=some X.env.locals)
 exf:∀ b∈X.ex,b≠X.env.locals∧∀ x c,X.env.cells.lookup x=some c→c≠b
 bs:∀ b o,X.base.get? b=some o→X.s₀.heap.get? b=some o∧X.H₀ b=none
 bsz:X.base.objs.size≤X.s₀.heap.objs.size
 noex:∀ b o,X.base.get? b=some o→b ∉ X.ex
 exfs:∀ b∈X.ex,b ∉ X.fs
 funs:X.s₀.heap.FunFrames X.base X.outer
 frf:∀ b∈X.fs,X.H₀ b=none
structure Inv(X:Cx)(di:Ih)(σ:List (Option V))(H:Hp)(s:Af):Prop where
 ok:X.Ok
 os:s.os=X.s₀.os
 bare:ER s.gens
 base:Un X.fs X.ex X.H₀ H X.s₀.heap s.heap
 loc:∃ m,s.heap.Ns X.env.locals m∧∀(i:Nat) (x:Str) (v:V),X.N[i]?=some x→σ[i]?=some (some v)→Vis X.env.scope x→∃ u,c7 v u∧aKd X.env s.heap m x u
 cell:∀ x c,X.env.cells.lookup x=some c→∃ v,s.heap.IsCell c v
 free:H X.env.locals=none
 freeC:∀ x c,X.env.cells.lookup x=some c→H c=none
 pin:∀ p∈X.pn ++ di,s.heap.get? p.1=some p.2∧H p.1=none∧p.1≠X.env.locals∧p.1 ∉ X.fs∧∀ v,p.2.data≠.cell v
 hok:HOk X.prog X.w H s.heap
 len:σ.length=X.N.length
section
variable{X:Cx}{di:Ih}{σ:List (Option V)}{H H':Hp}{s:Af}{h':Bp}
theorem Cx.Ok.nofr(ok:X.Ok){b:Ag}{o:Obj}(e:X.base.get? b=some o):b ∉ X.fs:=fun q=>by
 have:=(ok.funs.mem q).1;rw[e]at this;cases this
theorem Inv.bs(I:Inv X di σ H s):∀ b o,X.base.get? b=some o→s.heap.get? b=some o∧H b=none:=fun b o e=>
 ⟨I.base.keep b o (I.ok.bs b o e).1 (I.ok.bs b o e).2 (I.ok.nofr e) (I.ok.noex b o e),I.base.free b o (I.ok.bs b o e).1 (I.ok.bs b o e).2 (I.ok.noex b o e)⟩
theorem Inv.bk(I:Inv X di σ H s):∀ b o,X.base.get? b=some o→s.heap.get? b=some o:=fun b o e=>(I.bs b o e).1
theorem Inv.mod(I:Inv X di σ H s):Mod X.K X.mg X.base:=I.ok.mod
theorem Inv.kIn(I:Inv X di σ H s):X.K.In s.heap:=I.ok.mod.kin.keeps I.bk
theorem Inv.lt(I:Inv X di σ H s):X.env.locals < s.heap.objs.size:=let ⟨_,hn,_⟩:=I.loc;hn.lt
theorem Inv.sz(I:Inv X di σ H s):X.s₀.heap.objs.size≤s.heap.objs.size:=Bi I.ok.above (Dj I.lt)
theorem Inv.nofs(I:Inv X di σ H s){a:Ag}(h:s.heap.objs.size≤a):a ∉ X.fs:=fun q=>by
 obtain⟨_,o,ho,_⟩:=I.ok.funs.mem q;exact absurd (A6 (Ay ho) (Bi I.sz h)) (Cf _)
theorem Inv.cne(I:Inv X di σ H s):∀ x c,X.env.cells.lookup x=some c→c≠X.env.locals:=fun x c e z=>by
 obtain⟨v,o,ho,hd⟩:=I.cell x c e;obtain⟨m,⟨o',es,ep,ho',hd',_⟩,_⟩:=I.loc;rw[z,ho']at ho;cases ho;rw[hd']at hd;cases hd
theorem Inv.funs(I:Inv X di σ H s):s.heap.FunFrames X.base X.outer:=by
 have all:∀(l:List Env),(∀ b∈frs l,b∈X.fs)→X.s₀.heap.FunFrames X.base l→s.heap.FunFrames X.base l:=by
  intro l
  induction l with
  | nil=>intro _ _;trivial
  | cons env r J=>
   intro F M;obtain⟨hk,⟨L,o,hf,hn,ho,hd⟩,hr⟩:=M;have q:L∈X.fs:=F L (by unfold frs;rw[Ew,hf];exact AI);obtain⟨sl,e⟩:=I.base.slot L o ho (I.ok.frf L q) q fun z=>I.ok.exfs L z q;exact⟨hk,⟨L,_,hf,hn,e,hd⟩,J (fun b B=>F b (by unfold frs;rw[Ew,hf];exact AL _ B)) hr⟩
 exact all X.outer (fun _ B=>B) I.ok.funs
theorem Inv.stack(I:Inv X di σ H s):s.heap.FunFrames X.base X.stack:=by
 rcases I.ok.stk with e | ⟨e,q⟩
 ·rw[e];exact I.funs
 ·rw[e];obtain⟨m,hn,_⟩:=I.loc;refine .cons (by rw[I.ok.kind];decide) q hn ?_ I.funs;exact Heap.get?_none_of_le (Bi I.ok.bsz I.ok.above)
theorem Inv.stkSub(I:Inv X di σ H s):∀ b∈frs X.stack,b∈X.env.locals :: X.fs:=fun b q=>by
 rcases I.ok.stk with e | ⟨e,z⟩
 ·rw[e]at q;exact AL _ q
 ·rw[e]at q;unfold frs at q;rw[Ew,z]at q;exact q
theorem Inv.stkFree(I:Inv X di σ H s):∀ b∈frs X.stack,H b=none:=fun b q=>by
 rcases An.mp (I.stkSub b q)with e | q
 ·rw[e];exact I.free
 ·obtain⟨_,o,ho,_⟩:=I.ok.funs.mem q;exact I.base.free b o ho (I.ok.frf b q) fun z=>I.ok.exfs b z q
theorem Inv.step{g':Array Gq}{t':Nat}{d':Drawn}{ch:List Ag}(I:Inv X di σ H s)
  (M:∀ b∈ch,(b∈X.ex∨X.s₀.heap.objs.size≤b)∧b≠X.env.locals∧(∀ x c,X.env.cells.lookup x=some c→c≠b)∧∀ p∈X.pn ++ di,p.1≠b)
  (keep:∀ b o,b≠X.env.locals→b ∉ X.fs→b ∉ ch→s.heap.get? b=some o→H b=none→h'.get? b=some o)
  (slot:∀ b o,b≠X.env.locals→b∈X.fs→b ∉ ch→s.heap.get? b=some o→H b=none→∃ sl,h'.get? b=some { o with slots:=sl }) (free:∀ b o,b ∉ ch→s.heap.get? b=some o→H b=none→H' b=none)
  (there:∀ b o,b ∉ ch→s.heap.get? b=some o→∃ o',h'.get? b=some o')
  (tups:∀ b xs,H b=some (.tup xs)→H' b=some (.tup xs)) (frzs:∀ b o u,H b=some (.frz o u)→H' b=some (.frz o u)) (tbls:∀ b ps,H b=some (.tbl ps)→∃ ab,H' b=some (.tbl (ps ++ ab)))
  (ns:∀ m,s.heap.Ns X.env.locals m→h'.Ns X.env.locals m) (hok:HOk X.prog X.w H' h') (hg:ER g'):
  Inv X di σ H' { s with heap:=h',gens:=g',drawn:=d',toks:=t' }:=by
 have Z:∀ b o,X.s₀.heap.get? b=some o→b≠X.env.locals:=fun b o e=>AF (A6 (Ay e) I.ok.above);have O:∀ b o,X.s₀.heap.get? b=some o→b ∉ X.ex→b ∉ ch:=fun b o e B W=>by
  rcases(M b W).1 with z | z
  ·exact B z
  ·exact absurd (A6 (Ay e) z) (Cf _)
 have J:∀ x c,X.env.cells.lookup x=some c→∀ v,s.heap.IsCell c v→h'.IsCell c v:=fun x c e v ⟨o,Y,hd⟩=>by
  have F:c ∉ ch:=fun z=>(M c z).2.2.1 x c e rfl;by_cases hc:c∈X.fs
  ·obtain⟨sl,q⟩:=slot c o (I.cne x c e) hc F Y (I.freeC x c e);exact⟨_,q,hd⟩
  ·exact⟨o,keep c o (I.cne x c e) hc F Y (I.freeC x c e),hd⟩
 refine⟨I.ok,I.os,hg,⟨fun b o e n W B=>?_,fun b o e n W B=>?_,fun b o e n B=>?_,fun b o e B=>?_,fun b xs e=>tups b xs (I.base.tups b xs e),fun b o xs e=>frzs b o xs (I.base.frzs b o xs e),fun b ps e=>?_⟩,?_,fun x c e=>?_,?_,fun x c e=>?_,fun p hp=>?_,hok,I.len⟩
 ·exact keep b o (Z b o e) W (O b o e B) (I.base.keep b o e n W B) (I.base.free b o e n B)
 ·obtain⟨sl,U⟩:=I.base.slot b o e n W B;obtain⟨sl',e2⟩:=slot b _ (Z b o e) W (O b o e B) U (I.base.free b o e n B);exact⟨sl',e2⟩
 ·obtain⟨o',U⟩:=I.base.there b o e B;exact free b o' (O b o e B) U (I.base.free b o e n B)
 ·obtain⟨o',U⟩:=I.base.there b o e B;exact there b o' (O b o e B) U
 ·obtain⟨m1,U⟩:=I.base.tbls b ps e;obtain⟨m2,e2⟩:=tbls b _ U;exact⟨m1 ++ m2,by rw[e2,Array.append_assoc]⟩
 ·obtain⟨m,hn,hl⟩:=I.loc;refine⟨m,ns m hn,fun i x v U e2 e3=>?_⟩;obtain⟨u,r,l⟩:=hl i x v U e2 e3;refine⟨u,r,?_⟩;rcases l with l | ⟨k,c,e,z⟩
  ·exact .inl l
  ·exact .inr ⟨k,c,e,J x c e _ z⟩
 ·obtain⟨v,z⟩:=I.cell x c e;exact⟨v,J x c e v z⟩
 ·obtain⟨m,⟨o,_,_,Y,_⟩,_⟩:=I.loc;exact free _ o (fun z=>(M _ z).2.1 rfl) Y I.free
 ·obtain⟨v,o,Y,hd⟩:=I.cell x c e;exact free c o (fun z=>(M c z).2.2.1 x c e rfl) Y (I.freeC x c e)
 ·obtain⟨e,n,ne,nf,d⟩:=I.pin p hp;have F:p.1 ∉ ch:=fun z=>(M p.1 z).2.2.2 p hp rfl;exact⟨keep p.1 p.2 ne nf F e n,free p.1 p.2 F e n,ne,nf,d⟩
theorem Inv.un{t':Nat}(I:Inv X di σ H s)(u:Un X.fs [] H H' s.heap h')(hok:HOk X.prog X.w H' h'):Inv X di σ H' { s with heap:=h',toks:=t' }:=by
 obtain⟨m,⟨o,es,ep,ho,r⟩,_⟩:=id I.loc;obtain⟨sl,hL⟩:=u.any ho I.free (by simp);exact I.step (g':=s.gens) (d':=s.drawn) (ch:=[]) (fun _ z=>nomatch z) (fun b o _ q _ e n=>u.keep b o e n q (by simp)) (fun b o _ q _ e n=>u.slot b o e n q (by simp)) (fun b o _ e n=>u.free b o e n (by simp)) (fun b o _ e=>u.there b o e (by simp)) u.tups u.frzs u.tbls (fun B hm=>by
  obtain⟨o',es',ep',ho',r'⟩:=hm;rw[ho]at ho';cases ho';exact⟨_,es',ep',hL,r'⟩) hok I.bare
theorem Inv.call{g':Array Gq}{t':Nat}{d':Drawn}{ch:List Ag}(I:Inv X di σ H s)(u:Un (frs X.stack) ch H H' s.heap h')(hok:HOk X.prog X.w H' h')(F:ER g')
  (q:∀ b∈ch,(b∈X.ex∨X.s₀.heap.objs.size≤b)∧b≠X.env.locals∧(∀ x c,X.env.cells.lookup x=some c→c≠b)∧∀ p∈X.pn ++ di,p.1≠b):
  Inv X di σ H' { s with heap:=h',gens:=g',drawn:=d',toks:=t' }:=by
 obtain⟨m,⟨o,es,ep,ho,r⟩,_⟩:=id I.loc;obtain⟨sl,B⟩:=u.any ho I.free fun z=>(q _ z).2.1 rfl;exact I.step (ch:=ch) q (fun b o B J hc e n=>u.keep b o e n (fun z=>(An.mp (I.stkSub b z)).elim B J) hc) (fun b o _ _ hc e n=>u.any e n hc) (fun b o hc e n=>u.free b o e n hc) (fun b o hc e=>u.there b o e hc) u.tups u.frzs u.tbls (fun M hm=>by
  obtain⟨o',es',ep',ho',r'⟩:=hm;rw[ho]at ho';cases ho';exact⟨_,es',ep',B,r'⟩) hok F
theorem Inv.turned{t':Nat}{it:Ag}(I:Inv X di σ H s)(k:∀ b o,b≠it→s.heap.get? b=some o→h'.get? b=some o)(hn:H it=none)(F:it≠X.env.locals)
  (h1:it∈X.ex∨X.s₀.heap.objs.size≤it) (h2:∀ x c,X.env.cells.lookup x=some c→c≠it) (J:∀ p∈X.pn ++ di,p.1≠it):Inv X di σ H { s with heap:=h',toks:=t' }:=by
 have B:∀ b u,H b=some u→b≠it:=fun b u e z=>by rw[z,hn]at e;cases e
 refine I.step (g':=s.gens) (d':=s.drawn) (ch:=[it]) (fun b M=>?_) (fun b o _ _ hc e _=>k b o (fun z=>hc (by simp[z])) e) (fun b o _ _ hc e _=>⟨o.slots,k b o (fun z=>hc (by simp[z])) e⟩) (fun _ _ _ _ n=>n)
  (fun b o hc e=>⟨o,k b o (fun z=>hc (by simp[z])) e⟩) (fun _ _ e=>e) (fun _ _ _ e=>e) (fun b ps e=>⟨#[],by rw[e];simp⟩) (fun m hm=>?_) (fun b u e=>?_) I.bare
 ·have e:b=it:=by simpa using M
  subst e;exact⟨h1,F,h2,J⟩
 ·obtain⟨o,es,ep,ho,r⟩:=hm;exact⟨o,es,ep,k _ o (Ep F) ho,r⟩
 ·refine(I.hok b u e).stay (fun c v hc q=>k c v ?_ q) (fun _ q=>q) fun _ _ q=>q;rcases hc with z | z
  ·rw[z];exact B b u e
  ·exact B c _ z
theorem Inv.tok(I:Inv X di σ H s)(t:Nat):Inv X di σ H { s with toks:=t }:=I.un (h':=s.heap) (t':=t) Un.refl I.hok
theorem Inv.kept{t':Nat}(I:Inv X di σ H s)(k:∀ b u,s.heap.get? b=some u→h'.get? b=some u):Inv X di σ H { s with heap:=h',toks:=t' }:=I.un (Un.kept k) (I.hok.kept k)
theorem Inv.laid{a:Ag}{o:HO}{t':Nat}(I:Inv X di σ H s)(k:∀ b u,s.heap.get? b=some u→h'.get? b=some u)(q:s.heap.objs.size≤a)(new:dC X.prog X.w (upd H a o) h' a o):
  Inv X di σ (upd H a o) { s with heap:=h',toks:=t' }:=I.un (Un.laid k q (I.hok.fresh q)) (I.hok.laid k q new)
theorem Inv.write{x e:Ag}{o:HO}{t':Nat}(I:Inv X di σ H s)(z:Mut (H x))(B:e=x∨H e=some (.own x))(k:∀ b u,b≠e→s.heap.get? b=some u→h'.get? b=some u)(q:∃ u,h'.get? e=some u)
  (new:dC X.prog X.w (upd H x o) h' x o):Inv X di σ (upd H x o) { s with heap:=h',toks:=t' }:=I.un (Un.write z B k q) (I.hok.write z B k q new)
theorem Inv.pins_of{q:Ih}(I:Inv X di σ H s)(h:∀ p∈q,s.heap.get? p.1=some p.2∧H p.1=none∧p.1≠X.env.locals∧p.1 ∉ X.fs∧∀ v,p.2.data≠.cell v):Inv X q σ H s:=
 ⟨I.ok,I.os,I.bare,I.base,I.loc,I.cell,I.free,I.freeC,fun p B=>(Bo.mp B).elim (fun z=>I.pin p (Eo _ z)) (h p),I.hok,I.len⟩
theorem aAj{N:List Str}(hN:N.Nodup){i j:Nat}{x:Str}(a:N[i]?=some x)(b:N[j]?=some x):i=j:=by
 obtain⟨h1,e1⟩:=AM.mp a;obtain⟨h2,e2⟩:=AM.mp b;exact(Ef hN).mp (e1.trans e2.symm)
theorem w5{M:Ha}{A:AW}{E:Ac→Af→Prop}{i:Nat}{x:Str}{v:V}{u:Ac}{Q:Unit→Af→Prop}(I:Inv X di σ H s)(hN:X.N.Nodup)(hi:X.N[i]?=some x)(O:Loc X.env.scope x)(r:c7 v u)
  (h:∀ s',Inv X di (σ.set i (some v)) H s'→(∃ a,D2 a s.heap s'.heap∧(a=X.env.locals∨X.env.cells.lookup x=some a))→Q () s') (hf:X.fn x=true∨X.env.scope.names.lookup x=some .local:=by first | exact .inl rfl | exact .inr rfl | assumption):wpAny M A (storeName X.env x u) Q E s:=by
 obtain⟨m,hn,hl⟩:=id I.loc;have ae:(X.env.scope.kind == .class || (X.env.scope.kind == .module && X.env.locals != X.env.globals))=false:=by rw[I.ok.kind];rfl
 have ab:i < σ.length:=by rw[I.len];exact(AM.mp hi).1
 have cne:=I.cne;have J:∀{a:Ag} {h':Bp},(∃ o,s.heap.get? a=some o∧H a=none)→D2 a s.heap h'→HOk X.prog X.w H h':=fun{a h'} ha B b ob e=>by
  obtain⟨_,_,hfree⟩:=ha;refine(I.hok b ob e).stay (fun c w' hc q=>(B.2 c ?_).trans q) (fun _ q=>q) fun _ _ q=>q;rintro rfl;rcases hc with rfl | hc
  ·rw[hfree]at e;cases e
  ·rw[hfree]at hc;cases hc
 rcases O with W | W
 ·refine wpAny_storeName_local W hn (fun h' ak B=>?_) ae;obtain⟨oL,_,_,hoL,_⟩:=id hn;refine h _ ⟨I.ok,I.os,I.bare,⟨fun b o e n hb O=>?_,fun b o e n hb O=>?_,I.base.free,fun b o e O=>?_,I.base.tups,I.base.frzs,I.base.tbls⟩,⟨_,ak,fun j y v' F U e3=>?_⟩,fun y c e=>?_,I.free,I.freeC,fun p hp=>?_,J ⟨oL,hoL,I.free⟩ B,by simpa using I.len⟩ ⟨_,B,.inl rfl⟩
  ·exact(B.2 b (AF (A6 (Ay e) I.ok.above))).trans (I.base.keep b o e n hb O)
  ·obtain⟨sl,F⟩:=I.base.slot b o e n hb O;exact⟨sl,(B.2 b (AF (A6 (Ay e) I.ok.above))).trans F⟩
  ·obtain⟨o',F⟩:=I.base.there b o e O;exact⟨o',(B.2 b (AF (A6 (Ay e) I.ok.above))).trans F⟩
  ·by_cases Z:j=i
   ·subst Z;rw[hi]at F;cases F;rw[DZ ab]at U;cases U;exact⟨u,r,.inl ⟨W,by simp⟩⟩
   ·rw[Fg (Ep Z)]at U;obtain⟨u',r',q⟩:=hl j y v' F U e3;refine⟨u',r',?_⟩;rcases q with⟨k,e⟩ | ⟨k,c,e,z⟩
    ·refine .inl ⟨k,?_⟩;have:y≠x:=fun e=>Z (aAj hN F (e ▸ hi));simp[this,e]
    ·exact .inr ⟨k,c,e,z.sameBut B (cne y c e)⟩
  ·obtain⟨w',z⟩:=I.cell y c e;exact⟨w',z.sameBut B (cne y c e)⟩
  ·obtain⟨e,n,ne,nf,d⟩:=I.pin p hp;exact⟨(B.2 p.1 ne).trans e,n,ne,nf,d⟩
 ·have Y:X.fn x=true:=by
   rcases hf with z | z
   ·exact z
   ·rw[z]at W;cases W
  obtain⟨c,hc⟩:=I.ok.has x (.inl W);obtain⟨w',z⟩:=I.cell x c hc;refine wpAny_storeName_cell I.ok.kind W hc z (fun h' ad B=>?_);obtain⟨oc,hoc,hocd⟩:=id z;refine h { s with heap:=h' } ⟨I.ok,I.os,I.bare,⟨fun b o e n hb O=>?_,fun b o e n hb O=>?_,I.base.free,fun b o e O=>?_,I.base.tups,I.base.frzs,I.base.tbls⟩,⟨m,hn.sameBut B (Ep (cne x c hc)),fun j y v' F U e3=>?_⟩,fun y c' e=>?_,I.free,I.freeC,fun p hp=>?_,J ⟨oc,hoc,I.freeC x c hc⟩ B,by simpa using I.len⟩ ⟨c,B,.inr hc⟩
  ·exact(B.2 b (AF (A6 (Ay e) (I.ok.cab x c Y hc)))).trans (I.base.keep b o e n hb O)
  ·obtain⟨sl,F⟩:=I.base.slot b o e n hb O;exact⟨sl,(B.2 b (AF (A6 (Ay e) (I.ok.cab x c Y hc)))).trans F⟩
  ·obtain⟨o',F⟩:=I.base.there b o e O;exact⟨o',(B.2 b (AF (A6 (Ay e) (I.ok.cab x c Y hc)))).trans F⟩
  ·by_cases Z:j=i
   ·subst Z;rw[hi]at F;cases F;rw[DZ ab]at U;cases U;exact⟨u,r,.inr ⟨.inl W,c,hc,ad⟩⟩
   ·rw[Fg (Ep Z)]at U;obtain⟨u',r',q⟩:=hl j y v' F U e3;refine⟨u',r',?_⟩;rcases q with q | ⟨k,c',e,z'⟩
    ·exact .inl q
    ·refine .inr ⟨k,c',e,z'.sameBut B ?_⟩;rintro rfl;exact Z (aAj hN F (I.ok.inj _ _ _ e hc ▸ hi))
  ·by_cases ac:c'=c
   ·subst ac;exact⟨_,ad⟩
   ·obtain⟨w2,z2⟩:=I.cell y c' e;exact⟨w2,z2.sameBut B ac⟩
  ·obtain⟨e,n,ne,nf,d⟩:=I.pin p hp;refine⟨(B.2 p.1 ?_).trans e,n,ne,nf,d⟩;intro q;rw[q,hoc]at e;have q':oc=p.2:=CD.inj e;exact d w' (by rw[← q'];exact hocd)
theorem aAk{M:Ha}{A:AW}{E:Ac→Af→Prop}{i:Nat}{x:Str}{v:V}{u:Ac}{Q:Unit→Af→Prop}(I:Inv X di σ H s)(hN:X.N.Nodup)(hi:X.N[i]?=some x)(B:Loc X.env.scope x)(r:c7 v u)
  (h:∀ s',Inv X di (σ.set i (some v)) H s'→Q () s') (z:X.fn x=true∨X.env.scope.names.lookup x=some .local:=by first | exact .inl rfl | exact .inr rfl | assumption):wpAny M A (storeName X.env x u) Q E s:=
 w5 I hN hi B r (fun s' q _=>h s' q) z
theorem Inv.call'{s':Af}{ch:List Ag}(I:Inv X di σ H s)(z:s'.os=s.os)(u:Un (frs X.stack) ch H H' s.heap s'.heap)(hok:HOk X.prog X.w H' s'.heap)(B:ER s'.gens)
  (q:∀ b∈ch,(b∈X.ex∨X.s₀.heap.objs.size≤b)∧b≠X.env.locals∧(∀ x c,X.env.cells.lookup x=some c→c≠b)∧∀ p∈X.pn ++ di,p.1≠b):Inv X di σ H' s':=by
 obtain⟨h',g',d',t',o'⟩:=s';have e:o'=s.os:=z;subst e;exact I.call (g':=g') (t':=t') (d':=d') u hok B q
end
abbrev XK:=Ac→Option Ag→Hp→Prop
abbrev St:=List (Option V)
abbrev VK:=V→Hp→Prop
abbrev TE:=St→Hp→VK→Prop
abbrev TT:=St→Hp→(Bool→Hp→Prop)→Prop
abbrev TA:=St→Hp→(List V→Hp→Prop)→Prop
structure rB where
 nx:St→Hp→Prop
 rt:VK
 bk:St→Hp→Prop:=fun _ _=>False
 ct:St→Hp→Prop:=fun _ _=>False
abbrev TS:=rB→St→Hp→Prop
inductive aJk(X:Cx)(di:Ih)(σ:St)(Q:VK)(u:Ac)(s':Af):Prop
 | mk (v:_) (H':_) (q0:Inv X di σ H' s') (q1:c7 v u) (q2:Q v H'):aJk X di σ Q u s'
def EP(X:Cx)(di:Ih)(σ:St)(Q:VK)(u:Ac)(s':Af):Prop:=aJk X di σ Q u s'
def TP(X:Cx)(di:Ih)(σ:St)(Q:Bool→Hp→Prop)(b:Bool)(s':Af):Prop:=∃ H',Inv X di σ H' s'∧Q b H'
inductive aJl(X:Cx)(di:Ih)(σ:St)(Q:List V→Hp→Prop)(us:List Ac)(s':Af):Prop
 | mk (vs:_) (H':_) (q0:Inv X di σ H' s') (q1:c0 vs us) (q2:Q vs H'):aJl X di σ Q us s'
def AP(X:Cx)(di:Ih)(σ:St)(Q:List V→Hp→Prop)(us:List Ac)(s':Af):Prop:=aJl X di σ Q us s'
def SP(X:Cx)(di:Ih)(D:rB)(f:Flow)(s':Af):Prop:=
 match f with
 | .next=>∃ σ' H',Inv X di σ' H' s'∧D.nx σ' H'
 | .brk=>∃ σ' H',Inv X di σ' H' s'∧D.bk σ' H'
 | .cont=>∃ σ' H',Inv X di σ' H' s'∧D.ct σ' H'
 | .ret u=>∃ v σ' H',Inv X di σ' H' s'∧c7 v u∧D.rt v H'
structure PE(X:Cx)(e:Bw)(t:TE):Prop where
 run:
  ∀(di:Ih) (s:Af) (σ:St) (H:Hp) (Q:VK),Inv X di σ H s→t σ H Q→wpAny (model X.prog X.w) X.A (eval e X.env) (EP X di σ Q) X.xe s
instance{X:Cx}{e:Bw}{t:TE}:CoeFun (PE X e t) (fun _=>
 ∀(di:Ih) (s:Af) (σ:St) (H:Hp) (Q:VK),Inv X di σ H s→t σ H Q→wpAny (model X.prog X.w) X.A (eval e X.env) (EP X di σ Q) X.xe s):=⟨fun h=>h.run⟩
structure PT(X:Cx)(e:Bw)(t:TT):Prop where
 run:
  ∀(di:Ih) (s:Af) (σ:St) (H:Hp) (Q:Bool→Hp→Prop),Inv X di σ H s→t σ H Q→wpAny (model X.prog X.w) X.A (isTrue e X.env (eval e X.env)) (TP X di σ Q) X.xe s
instance{X:Cx}{e:Bw}{t:TT}:CoeFun (PT X e t) (fun _=>
 ∀(di:Ih) (s:Af) (σ:St) (H:Hp) (Q:Bool→Hp→Prop),Inv X di σ H s→t σ H Q→wpAny (model X.prog X.w) X.A (isTrue e X.env (eval e X.env)) (TP X di σ Q) X.xe s):=⟨fun h=>h.run⟩
structure PW(X:Cx)(e:Bw)(t:TT):Prop where
 run:
  ∀(whole:Sem Ac) (di:Ih) (s:Af) (σ:St) (H:Hp) (Q:Bool→Hp→Prop),Inv X di σ H s→t σ H Q→wpAny (model X.prog X.w) X.A (isTrue e X.env whole) (TP X di σ Q) X.xe s
instance{X:Cx}{e:Bw}{t:TT}:CoeFun (PW X e t) (fun _=>
 ∀(whole:Sem Ac) (di:Ih) (s:Af) (σ:St) (H:Hp) (Q:Bool→Hp→Prop),Inv X di σ H s→t σ H Q→wpAny (model X.prog X.w) X.A (isTrue e X.env whole) (TP X di σ Q) X.xe s):=⟨fun h=>h.run⟩
theorem PW.pt{X:Cx}{e:Bw}{t:TT}(h:PW X e t):PT X e t:=⟨h.run _⟩
structure PA(X:Cx)(es:List Bw)(t:TA):Prop where
 run:
  ∀(pos:Pos) (di:Ih) (s:Af) (σ:St) (H:Hp) (Q:List V→Hp→Prop),Inv X di σ H s→t σ H Q→wpAny (model X.prog X.w) X.A (spliced (backTo pos (starEach es X.env))) (AP X di σ Q) X.xe s
instance{X:Cx}{es:List Bw}{t:TA}:CoeFun (PA X es t) (fun _=>
 ∀(pos:Pos) (di:Ih) (s:Af) (σ:St) (H:Hp) (Q:List V→Hp→Prop),Inv X di σ H s→t σ H Q→wpAny (model X.prog X.w) X.A (spliced (backTo pos (starEach es X.env))) (AP X di σ Q) X.xe s):=⟨fun h=>h.run⟩
structure PS(X:Cx)(st:B8)(t:TS):Prop where
 run:
  ∀(di:Ih) (s:Af) (σ:St) (H:Hp) (D:rB),Inv X di σ H s→t D σ H→wpAny (model X.prog X.w) X.A (exec st X.env) (SP X di D) X.xe s
instance{X:Cx}{st:B8}{t:TS}:CoeFun (PS X st t) (fun _=>
 ∀(di:Ih) (s:Af) (σ:St) (H:Hp) (D:rB),Inv X di σ H s→t D σ H→wpAny (model X.prog X.w) X.A (exec st X.env) (SP X di D) X.xe s):=⟨fun h=>h.run⟩
structure PSs(X:Cx)(st:List B8)(t:TS):Prop where
 run:
  ∀(di:Ih) (s:Af) (σ:St) (H:Hp) (D:rB),Inv X di σ H s→t D σ H→wpAny (model X.prog X.w) X.A (execs st X.env) (SP X di D) X.xe s
instance{X:Cx}{st:List B8}{t:TS}:CoeFun (PSs X st t) (fun _=>
 ∀(di:Ih) (s:Af) (σ:St) (H:Hp) (D:rB),Inv X di σ H s→t D σ H→wpAny (model X.prog X.w) X.A (execs st X.env) (SP X di D) X.xe s):=⟨fun h=>h.run⟩
theorem thn{α:Type}{t:Sem α}{Q q:α→Af→Prop}{M:Ha}{A:AW}{E:Ac→Af→Prop}{s:Af}(h:wpAny M A t Q E s)(hQ:∀ a s,Q a s→q a s):wpAny M A t q E s:=Ca h hQ fun _ _ x=>x
section
variable{X:Cx}
inductive aEH(i:Nat)(σ:St)(H:Hp)(Q:VK):Prop
 | mk (v:_) (q0:σ[i]?=some (some v)) (q1:Q v H):aEH i σ H Q
def aJm(i:Nat):TE:=fun σ H Q=>aEH i σ H Q
def tC(v:V):TE:=fun _ H Q=>Q v H
theorem aIe{i:Nat}{x:Str}{pos:Pos}(hN:X.N[i]?=some x)(B:Vis X.env.scope x)(hd:(x == ("__debug__":Str))=false:=by decide)(z:(x == ("__classdict__":Str))=false:=by decide):PE X (.Name x pos) (aJm i):=by
 constructor;intro di s σ H Q I h;obtain⟨v,e,h⟩:=h;obtain⟨m,hn,hl⟩:=I.loc;obtain⟨u,r,l⟩:=hl i x v hN e B;have fin:EP X di σ Q u s:=⟨v,H,I,r,h⟩
 rcases l with⟨q,hm⟩ | ⟨q,c,hc,hcell⟩
 ·exact wpAny_Name (wpAny_loadName_local I.ok.kind q hn hm fin) hd
 ·rcases q with q | q
  ·exact wpAny_Name (wpAny_loadName_cell I.ok.kind q hc hcell fin) hd
  ·exact wpAny_Name (wpAny_loadName_free I.ok.kind q hc hcell fin z) hd
theorem aQ{i j pos}:PE X (.Constant (.int i) j pos) (tC (.int i)):=⟨fun _ _ _ H _ I h=>wpAny_Constant_int ⟨.int i,H,I.tok _,⟨_,rfl⟩,h⟩⟩
theorem jK{b j pos}:PE X (.Constant (.bool b) j pos) (tC (.bl b)):=⟨fun _ _ _ H _ I h=>Constant_bool ⟨.bl b,H,I,rfl,h⟩⟩
theorem aEI{j pos}:PE X (.Constant .none j pos) (tC .non):=⟨fun _ _ _ H _ I h=>Constant_none ⟨.non,H,I,rfl,h⟩⟩
theorem cG{x j pos}:PE X (.Constant (.str x) j pos) (tC (.str x)):=⟨fun _ _ _ H _ I h=>Calls.Constant_str ⟨.str x,H,I.tok _,⟨_,rfl⟩,h⟩⟩
def Gl(X:Cx)(x:Str):Prop:=X.env.kindOf x=some .globalImplicit
theorem aCC{E:Ac→Af→Prop}{di:Ih}{s:Af}{σ:St}{H:Hp}{x:Str}{u:Ac}{pos:Pos}{Q:Ac→Af→Prop}(I:Inv X di σ H s)(q:Gl X x)(hm:X.mg x=some u)(h:Q u s)
  (hd:(x == ("__debug__":Str))=false:=by decide):wpAny (model X.prog X.w) X.A (eval (.Name x pos) X.env) Q E s:=
 Calls.Name_function_global I.ok.kind q (Calls.loadGlobal_global (by rw[I.ok.glob];exact I.mod.glob.keeps I.bk) hm h) hd
theorem uE{E:Ac→Af→Prop}{di:Ih}{s:Af}{σ:St}{H:Hp}{x:Str}{u:Ac}{pos:Pos}{Q:Ac→Af→Prop}(I:Inv X di σ H s)(z:Gl X x)(hm:X.mg x=none)(q:bootBuiltins x=some u)(h:Q u s)
  (hn:x≠"__name__":=by decide) (hd:(x == ("__debug__":Str))=false:=by decide):wpAny (model X.prog X.w) X.A (eval (.Name x pos) X.env) Q E s:=by
 obtain⟨mb,h1,h2⟩:=I.mod.blt;exact Calls.Name_function_global I.ok.kind z (Calls.loadGlobal_builtin (by rw[I.ok.glob];exact I.mod.glob.keeps I.bk) hm (by rw[I.ok.blt];exact h1.keeps I.bk) ((h2 x hn).trans q) h) hd
theorem dS{x:Str}{v:V}{u:Ac}{pos:Pos}(q:Gl X x)(hm:X.mg x=some u)(r:c7 v u)(hd:(x == ("__debug__":Str))=false:=by decide):PE X (.Name x pos) (tC v):=
 ⟨fun _ _ _ H _ I h=>aCC I q hm ⟨v,H,I,r,h⟩ hd⟩
theorem dL{x:Str}{v:V}{u:Ac}{pos:Pos}(z:Gl X x)(hm:X.mg x=none)(q:bootBuiltins x=some u)(r:c7 v u)(hn:x≠"__name__":=by decide)(hd:(x == ("__debug__":Str))=false:=by decide):PE X (.Name x pos) (tC v):=
 ⟨fun _ _ _ H _ I h=>uE I z hm q ⟨v,H,I,r,h⟩ hn hd⟩
variable{a b:Bw}{ta tb:TE}{pos:Pos}
structure PC(X:Cx)(op:Hz)(a b:Bw)(t:TE):Prop where
 run:
  ∀(di:Ih) (s:Af) (σ:St) (H:Hp) (Q:VK),Inv X di σ H s→t σ H Q→
   wpAny (model X.prog X.w) X.A (eval a X.env) (fun v s₁=>wpAny (model X.prog X.w) X.A (eval b X.env) (fun u s₂=>wpAny (model X.prog X.w) X.A (compareOp op v u) (EP X di σ Q) X.xe s₂) X.xe s₁) X.xe s
instance{X:Cx}{op:Hz}{a b:Bw}{t:TE}:CoeFun (PC X op a b t) (fun _=>
 ∀(di:Ih) (s:Af) (σ:St) (H:Hp) (Q:VK),Inv X di σ H s→t σ H Q→
  wpAny (model X.prog X.w) X.A (eval a X.env) (fun v s₁=>wpAny (model X.prog X.w) X.A (eval b X.env) (fun u s₂=>wpAny (model X.prog X.w) X.A (compareOp op v u) (EP X di σ Q) X.xe s₂) X.xe s₁) X.xe s):=⟨fun h=>h.run⟩
inductive As{α:Type}(f:α→V)(x:V)(Q:α→Prop):Prop
 | mk (c:α) (h:x=f c) (q:Q c):As f x Q
def tB(t:TE):TT:=fun σ H Q=>t σ H fun x H1=>As V.bl x fun c=>Q c H1
theorem dO{e:Bw}{t:TE}(h:PE X e t)(F:∀ z,isTrue e X.env z=(do let v ← z;standAt e.pos;holding [v] (truthy v)):=by intro _;rfl):PT X e (tB t):=by
 constructor;intro di s σ H Q I hw;refine isTrue_plain (thn (h di s σ H _ I hw) fun v O ⟨x,H1,M,J,B⟩=>?_) (F _);obtain⟨d,rfl,q⟩:=B;cases J;exact CN ⟨H1,M,q⟩
variable{tA gu:TT}{cS:List Bw}
def aKe(t u:TT):TT:=fun σ H Q=>t σ H fun c H1=>if c=true then u σ H1 Q else Q false H1
def tOr(t u:TT):TT:=fun σ H Q=>t σ H fun c H1=>if c=true then Q true H1 else u σ H1 Q
def aKf(t:TT):TT:=fun σ H Q=>t σ H fun c H1=>Q (!c) H1
theorem j0(ha:PT X a tA):PW X (.BoolOp .And [a] pos) tA:=by
 constructor;intro z di s σ H Q I h;refine isTrue_and (thn (ha di s σ H Q I h) fun c q e=>?_);cases c with
 | true=>exact isTrue_and_nil e
 | false=>exact e
theorem fW(ha:PT X a tA):PW X (.BoolOp .Or [a] pos) tA:=by
 constructor;intro z di s σ H Q I h;refine isTrue_or (thn (ha di s σ H Q I h) fun c q e=>?_);cases c with
 | false=>exact isTrue_or_nil e
 | true=>exact e
theorem nT(ha:PT X a tA)(J:PW X (.BoolOp .And (b :: cS) pos) gu):PW X (.BoolOp .And (a :: b :: cS) pos) (aKe tA gu):=by
 constructor;intro F di s σ H Q I h;refine isTrue_and (thn (ha di s σ H _ I h) fun c B ⟨H1,z,q⟩=>?_);cases c with
 | true=>exact J F di B σ H1 Q z q
 | false=>exact⟨H1,z,q⟩
theorem iD(ha:PT X a tA)(J:PW X (.BoolOp .Or (b :: cS) pos) gu):PW X (.BoolOp .Or (a :: b :: cS) pos) (tOr tA gu):=by
 constructor;intro F di s σ H Q I h;refine isTrue_or (thn (ha di s σ H _ I h) fun c B ⟨H1,z,q⟩=>?_);cases c with
 | true=>exact⟨H1,z,q⟩
 | false=>exact J F di B σ H1 Q z q
theorem dU(ha:PT X a tA):PT X (.UnaryOp .Not a pos) (aKf tA):=by
 constructor;intro di s σ H Q I h;exact isTrue_not (ha di s σ H (fun c H1=>Q (!c) H1) I h)
def aJn(ta tb:TE):TE:=fun σ H Q=>ta σ H fun x H1=>As V.bl x fun c=>if c=true then tb σ H1 Q else Q (.bl false) H1
def aJo(ta:TE):TE:=fun σ H Q=>ta σ H fun x H1=>As V.bl x fun c=>Q (.bl (!c)) H1
theorem gF{op}{t:TE}(h:PE X a t):PE X (.BoolOp op [a] pos) t:=⟨fun di s σ H Q I hw=>BoolOp_one (h di s σ H Q I hw)⟩
theorem d9(ha:PE X a ta)(J:PE X (.BoolOp .And (b :: cS) pos) tb):PE X (.BoolOp .And (a :: b :: cS) pos) (aJn ta tb):=by
 constructor;intro di s σ H Q I h;refine BoolOp_and (thn (ha di s σ H _ I h) fun v B ⟨x,H1,z,F,q⟩=>?_);obtain⟨c,rfl,q⟩:=q;cases F;refine CN ?_;cases c with
 | true=>exact J di B σ H1 Q z q
 | false=>exact⟨.bl false,H1,z,rfl,q⟩
theorem aIf(ha:PE X a ta):PE X (.UnaryOp .Not a pos) (aJo ta):=by
 constructor;intro di s σ H Q I h;refine UnaryOp_ (thn (ha di s σ H _ I h) fun v F ⟨x,H1,B,z,q⟩=>?_);obtain⟨c,rfl,q⟩:=q;cases z;exact not_of (CN ⟨.bl (!c),H1,B,rfl,q⟩)
def tIf(t:TT)(ta tb:TE):TE:=fun σ H Q=>t σ H fun c H1=>if c=true then ta σ H1 Q else tb σ H1 Q
theorem aEJ{c:Bw}(hc:PT X c tA)(ha:PE X a ta)(F:PE X b tb):PE X (.IfExp c a b pos) (tIf tA ta tb):=by
 constructor;intro di s σ H Q I h;refine wpAny_IfExp (thn (hc di s σ H _ I h) fun d q ⟨H1,B,z⟩=>?_);cases d with
 | true=>exact ha di q σ H1 Q B z
 | false=>exact F di q σ H1 Q B z
end
def SqL(K:Aj)(H:Hp)(a:Ag)(xs:List V):Prop:=
 Rd H a (.lst xs)∨
  ∃(o:Obj) (its:Array Ac) (n:Nat),K.lookup a=some o∧o.cls=.type "list"∧o.dict=none∧o.data=.seq its n∧its.size≤sizeLine∧c0 xs its.toList
def SqT(K:Aj)(H:Hp)(a:Ag)(xs:List V):Prop:=
 Rd H a (.tup xs)∨
  ∃(o:Obj) (its:Array Ac) (n:Nat),K.lookup a=some o∧o.cls=.type "tuple"∧o.data=.seq its n∧its.size≤sizeLine∧c0 xs its.toList
def aKg:Ac→Option V
 | .none=>some .non
 | .bool b=>some (.bl b)
 | .int i _=>some (.int i)
 | .str x _=>some (.str x)
 | .bytes b _=>some (.byt b)
 | .float b _=>some (.flt b)
 | .ref a=>some (.ref a)
 | .type n=>some (.ty n)
 | _=>none
theorem c7.abs{x:V}{u:Ac}(r:c7 x u):aKg u=some x:=by
 cases x with
 | non=>cases r;rfl
 | bl _=>cases r;rfl
 | int _=>obtain⟨t,rfl⟩:=r;rfl
 | str _=>obtain⟨t,rfl⟩:=r;rfl
 | byt _=>obtain⟨t,rfl⟩:=r;rfl
 | flt _=>obtain⟨t,rfl⟩:=r;rfl
 | ref _=>cases r;rfl
 | ty _=>cases r;rfl
theorem c7.inj{x y:V}{u:Ac}(r:c7 x u)(q:c7 y u):x=y:=CD.inj (r.abs.symm.trans q.abs)
theorem c0.inj:∀{xs ys:List V}{us:List Ac},c0 xs us→c0 ys us→xs=ys
 | _,_,_,.nil,.nil=>rfl
 | _,_,_,.cons r t,.cons q t'=>by rw[r.inj q,c0.inj t t']
section
variable{X:Cx}{di:Ih}{σ:St}{H:Hp}{s:Af}{a:Ag}{xs ys:List V}
theorem bF{K:Aj}(h:H a=some (.lst xs)):SqL K H a xs:=.inl (.inl h)
theorem bI{K:Aj}(h:H a=some (.tup xs)):SqT K H a xs:=.inl (.inl h)
theorem Inv.list(I:Inv X di σ H s)(h:SqL X.K H a xs):∃ its:List Ac,c0 xs its∧PlainL s.heap a its.toArray∧xs.length≤sizeLine:=by
 rcases h with h | ⟨o,its,n,q,hc,hd,B,hz,r⟩
 ·obtain⟨z,its,n,r,e⟩:=h.ok I.hok;exact⟨its,r,⟨_,n,e,rfl,rfl,rfl⟩,z⟩
 ·refine⟨its.toList,r,⟨o,n,I.kIn a o q,hc,hd,by simpa using B⟩,?_⟩;have e:=r.length;simp only[By]at e;omega
theorem Inv.tuple(I:Inv X di σ H s)(h:SqT X.K H a xs):∃ its:List Ac,c0 xs its∧Fc s.heap a its.toArray∧xs.length≤sizeLine:=by
 rcases h with h | ⟨o,its,n,q,hc,B,hz,r⟩
 ·obtain⟨z,its,r,p⟩:=h.ok I.hok;exact⟨its,r,p.tup,z⟩
 ·refine⟨its.toList,r,⟨o,I.kIn a o q,hc,n,by simpa using B⟩,?_⟩;have e:=r.length;simp only[By]at e;omega
theorem Inv.list_inj(I:Inv X di σ H s)(h:SqL X.K H a xs)(h':SqL X.K H a ys):xs=ys:=by
 obtain⟨its,r,⟨o,n,e,_,_,d⟩,_⟩:=I.list h;obtain⟨its',r',⟨o',n',e',_,_,d'⟩,_⟩:=I.list h';rw[e]at e';cases e';rw[d]at d';injection d' with d1 _;have:its=its':=by simpa using congrArg Array.toList d1
 subst this;exact r.inj r'
theorem Inv.tuple_inj(I:Inv X di σ H s)(h:SqT X.K H a xs)(h':SqT X.K H a ys):xs=ys:=by
 obtain⟨its,r,⟨o,e,_,n,d⟩,_⟩:=I.tuple h;obtain⟨its',r',⟨o',e',_,n',d'⟩,_⟩:=I.tuple h';rw[e]at e';cases e';rw[d]at d';injection d' with d1 _;have:its=its':=by simpa using congrArg Array.toList d1
 subst this;exact r.inj r'
end
abbrev Cx.wish(X:Cx)(E:Ac→Af→Prop):Cx:={ X with xe:=E }
abbrev Cx.nox(X:Cx):Cx:=X.wish fun _ _=>False
theorem Cx.Ok.wish{X:Cx}(ok:X.Ok)(E:Ac→Af→Prop):(X.wish E).Ok:=
 ⟨ok.mod,ok.kind,ok.glob,ok.blt,ok.above,ok.inj,ok.has,ok.cab,ok.hd,ok.frames,ok.stk,ok.exf,ok.bs,ok.bsz,ok.noex,ok.exfs,ok.funs,ok.frf⟩
theorem Cx.Ok.unwish{X:Cx}{E:Ac→Af→Prop}(ok:(X.wish E).Ok):X.Ok:=
 ⟨ok.mod,ok.kind,ok.glob,ok.blt,ok.above,ok.inj,ok.has,ok.cab,ok.hd,ok.frames,ok.stk,ok.exf,ok.bs,ok.bsz,ok.noex,ok.exfs,ok.funs,ok.frf⟩
section
variable{X:Cx}{di:Ih}{σ:St}{H:Hp}{s:Af}{E:Ac→Af→Prop}
theorem Inv.wish(I:Inv X di σ H s)(E:Ac→Af→Prop):Inv (X.wish E) di σ H s:=⟨I.ok.wish E,I.os,I.bare,I.base,I.loc,I.cell,I.free,I.freeC,I.pin,I.hok,I.len⟩
theorem Inv.unwish(I:Inv (X.wish E) di σ H s):Inv X di σ H s:=⟨I.ok.unwish,I.os,I.bare,I.base,I.loc,I.cell,I.free,I.freeC,I.pin,I.hok,I.len⟩
theorem SP.unwish{D:rB}{f:Flow}{s':Af}(h:SP (X.wish E) di D f s'):SP X di D f s':=by
 cases f with
 | next=>obtain⟨σ',H',I,q⟩:=h;exact⟨σ',H',I.unwish,q⟩
 | brk=>obtain⟨σ',H',I,q⟩:=h;exact⟨σ',H',I.unwish,q⟩
 | cont=>obtain⟨σ',H',I,q⟩:=h;exact⟨σ',H',I.unwish,q⟩
 | ret u=>obtain⟨v,σ',H',I,r,q⟩:=h;exact⟨v,σ',H',I.unwish,r,q⟩
theorem PSs.nox{st:List B8}{t:TS}(h:PSs X.nox st t):PSs X st t:=⟨fun di s σ H D I hw=>
 Ca (h di s σ H D (I.wish _) hw) (fun _ _ q=>q.unwish) fun _ _ z=>CK z⟩
end
section
variable{X:Cx}{st:B8}{cS:List B8}{t u:TS}{e:Bw}{te:TE}{pos:Pos}
def aJp:TS:=fun D σ H=>D.nx σ H
def aKh(t u:TS):TS:=fun D σ H=>t { D with nx:=u D } σ H
theorem b8:PSs X [] aJp:=⟨fun _ _ σ H _ I h=>EF ⟨σ,H,I,h⟩⟩
theorem aM(h1:PS X st t)(h2:PSs X cS u):PSs X (st :: cS) (aKh t u):=by
 constructor;intro di s σ H D I h;refine wpAny_execs_cons (thn (h1 di s σ H { D with nx:=u D } I h) fun f z q=>?_);cases f with
 | next=>
  obtain⟨σ',H',I',q⟩:=q;exact h2 di z σ' H' D I' q
 | ret v=>exact q
 | brk=>exact q
 | cont=>exact q
theorem aW(h1:PS X st t):PSs X [st] t:=by
 constructor;intro di s σ H D I h;refine wpAny_execs_cons (thn (h1 di s σ H D I h) fun f z q=>?_);cases f with
 | next=>exact EF q
 | ret v=>exact q
 | brk=>exact q
 | cont=>exact q
theorem Inv.quiet{di:Ih}{σ:St}{H:Hp}{s:Af}(I:Inv X di σ H s):interactive X.env=false:=by simp[interactive,I.ok.kind]
def aJq(te:TE):TS:=fun D σ H=>te σ H fun _ H1=>D.nx σ H1
theorem oD(B:PE X e te)(F:swapsWith e none pos.line X.env=pure false:=by rfl):PS X (.Expr e pos) (aJq te):=by
 constructor;intro di s σ H D I h;exact wpAny_Expr_any (thn (B di s σ H _ I h) fun v J ⟨x,H1,z,M,q⟩=>⟨σ,H1,z,q⟩) I.quiet F
def aKi(te:TE):TS:=fun D σ H=>te σ H D.rt
theorem bC(F:PE X e te):PS X (.Return (some e) pos) (aKi te):=by
 constructor;intro di s σ H D I h;exact wpAny_Return_some (thn (F di s σ H _ I h) fun v J ⟨x,H1,B,z,q⟩=>⟨x,σ,H1,B,z,q⟩)
def aKj(c:TT)(t u:TS):TS:=fun D σ H=>c σ H fun b H1=>if b=true then t D σ H1 else u D σ H1
theorem c8{c:Bw}{a b:List B8}{tc:TT}(hc:PT X c tc)(ha:PSs X a t)(F:PSs X b u):PS X (.If c a b pos) (aKj tc t u):=by
 constructor;intro di s σ H D I h;refine wpAny_If (thn (hc di s σ H _ I h) fun d q ⟨H1,B,z⟩=>?_);cases d with
 | true=>exact ha di q σ H1 D B z
 | false=>exact F di q σ H1 D B z
def aIg:TS:=fun _ _ _=>False
theorem gS{q:List B8}:PSs X q aIg:=⟨fun _ _ _ _ _ _ h=>h.elim⟩
end
abbrev TG:=V→St→Hp→(St→Hp→Prop)→Prop
abbrev TGs:=List V→St→Hp→(St→Hp→Prop)→Prop
structure PG(X:Cx)(target:Bw)(t:TG):Prop where
 run:
  ∀(di:Ih) (s:Af) (σ:St) (H:Hp) (v:V) (u:Ac) (Q:St→Hp→Prop),Inv X di σ H s→c7 v u→t v σ H Q→
   wpAny (model X.prog X.w) X.A (assign target X.env u) (fun _ s'=>∃ σ' H',Inv X di σ' H' s'∧Q σ' H') X.xe s
instance{X:Cx}{target:Bw}{t:TG}:CoeFun (PG X target t) (fun _=>
 ∀(di:Ih) (s:Af) (σ:St) (H:Hp) (v:V) (u:Ac) (Q:St→Hp→Prop),Inv X di σ H s→c7 v u→t v σ H Q→
  wpAny (model X.prog X.w) X.A (assign target X.env u) (fun _ s'=>∃ σ' H',Inv X di σ' H' s'∧Q σ' H') X.xe s):=⟨fun h=>h.run⟩
structure PGs(X:Cx)(ts:List Bw)(t:TGs):Prop where
 run:
  ∀(di:Ih) (s:Af) (σ:St) (H:Hp) (vs:List V) (us:List Ac) (Q:St→Hp→Prop),Inv X di σ H s→c0 vs us→t vs σ H Q→
   wpAny (model X.prog X.w) X.A (assignInOrder ((assignEach ts X.env).map (·.2)) us) (fun _ s'=>∃ σ' H',Inv X di σ' H' s'∧Q σ' H') X.xe s
instance{X:Cx}{ts:List Bw}{t:TGs}:CoeFun (PGs X ts t) (fun _=>
 ∀(di:Ih) (s:Af) (σ:St) (H:Hp) (vs:List V) (us:List Ac) (Q:St→Hp→Prop),Inv X di σ H s→c0 vs us→t vs σ H Q→
  wpAny (model X.prog X.w) X.A (assignInOrder ((assignEach ts X.env).map (·.2)) us) (fun _ s'=>∃ σ' H',Inv X di σ' H' s'∧Q σ' H') X.xe s):=⟨fun h=>h.run⟩
abbrev aIh:=V→V→V→Hp→(Hp→Prop)→Prop
def aJr(X:Cx)(t:aIh):Prop:=
 ∀(di:Ih) (s:Af) (σ:St) (H:Hp) (o i v:V) (ov iv u:Ac) (Q:Hp→Prop),Inv X di σ H s→c7 o ov→c7 i iv→c7 v u→t o i v H Q→
  wpAny (model X.prog X.w) X.A (setItem ov iv u) (fun _ s'=>∃ H',Inv X di σ H' s'∧Q H') X.xe s
section
variable{X:Cx}{pos:Pos}
def dG(i:Nat):TG:=fun v σ H Q=>Q (σ.set i (some v)) H
theorem bJ{i:Nat}{x:Str}(hN:X.N.Nodup)(hi:X.N[i]?=some x)(B:Loc X.env.scope x)(z:X.fn x=true∨X.env.scope.names.lookup x=some .local:=by first | exact .inl rfl | exact .inr rfl | assumption):PG X (.Name x pos) (dG i):=by
 constructor;intro di s σ H v u Q I r h;exact wpAny_assign_Name (aAk I hN hi B r (fun s' q=>⟨_,H,q,h⟩) z)
def aKk:TGs:=fun vs σ H Q=>vs=[]∧Q σ H
inductive aCD(t:TG)(u:TGs)(vs:List V)(σ:St)(H:Hp)(Q:(St→Hp→Prop)):Prop
 | mk (v:_) (r:_) (q0:vs=v :: r) (q1:t v σ H fun σ' H'=>u r σ' H' Q):aCD t u vs σ H Q
def aJs(t:TG)(u:TGs):TGs:=fun vs σ H Q=>aCD t u vs σ H Q
theorem iQ:PGs X [] aKk:=by
 constructor;intro di s σ H vs us Q I r h;obtain⟨e,h⟩:=h;subst e;cases r;exact assignInOrder_nil ⟨σ,H,I,h⟩
theorem cO{e:Bw}{es:List Bw}{t:TG}{u:TGs}(h1:PG X e t)(h2:PGs X es u)
  (B:(assignEach (e :: es) X.env).map (·.2)=assign e X.env :: (assignEach es X.env).map (·.2):=by rfl):PGs X (e :: es) (aJs t u):=by
 constructor;intro di s σ H vs us Q I r h;obtain⟨v,vr,e1,h⟩:=h;subst e1;cases r with
 | cons r F=>
  rw[B];refine assignInOrder_cons (thn (h1 di s σ H _ _ _ I r h) fun _ q ⟨J,H1,M,z⟩=>?_);exact h2 di q J H1 _ _ Q M F z
inductive aEK(K:Aj)(n:Nat)(t:TGs)(v:V)(σ:St)(H:Hp)(Q:(St→Hp→Prop)):Prop
 | mk (a:_) (xs:_) (q0:v=.ref a) (q1:SqT K H a xs) (q2:xs.length=n) (q3:t xs σ H Q):aEK K n t v σ H Q
def aKl(K:Aj)(n:Nat)(t:TGs):TG:=fun v σ H Q=>aEK K n t v σ H Q
theorem kM{es:List Bw}{k:Nat}{t:TGs}{n:Nat}(hc:X.calm=true)(h:PGs X es t)
  (hn:(assignEach es X.env).length=n:=by rfl) (q:(assignEach es X.env).findIdx? (·.1)=none:=by rfl):PG X (.Tuple es k pos) (aKl X.K n t):=by
 constructor;intro di s σ H v u Q I r hw;obtain⟨a,xs,e1,hq,hl,hw⟩:=hw;subst e1;cases r;obtain⟨its,rv,ht,hz⟩:=I.tuple hq;refine assign_Tuple_tuple (I.ok.hd hc) ht (by simp[hn,← hl,rv.length]) q fun h' B=>?_;have z:Inv X di σ H { s with heap:=h' }:=I.kept (t':=s.toks) fun b o e=>B b o (AF (Ay e)) e;exact h di _ σ H xs _ Q z (by simpa using rv) hw
def aKm(to ti:TE)(t:aIh):TG:=fun v σ H Q=>to σ H fun o H1=>ti σ H1 fun i H2=>t o i v H2 fun H3=>Q σ H3
theorem aEL{o i:Bw}{to B:TE}{t:aIh}(M:PE X o to)(hi:PE X i B)(Y:aJr X t)
  (ha:∀ v,assign (.Subscript o i pos) X.env v=(do
   let q ← holding [v] (eval o X.env)
   let z ← holding [v,q] (eval i X.env)
   standAt pos
   holding [v,q,z] (setItem q z v)
   release [v,q,z] []):=by intro _;rfl):PG X (.Subscript o i pos) (aKm to B t):=by
 constructor;intro di s σ H v u Q I r h;rw[ha];refine Aa (Bc (thn (M di s σ H _ I h) fun q F ⟨x,H1,I1,r1,J⟩=>?_));refine Aa (Bc (thn (hi di F σ H1 _ I1 J) fun z U ⟨y,H2,I2,r2,O⟩=>?_));refine Aa (F3 (Aa (Bc (thn (Y di U σ H2 x y v q z u _ I2 r1 r2 r O) fun _ s3 ⟨Z,I3,W⟩=>?_))));exact wpAny_release ⟨σ,Z,I3,W⟩
def aIi(te:TE)(g:TG):TS:=fun D σ H=>te σ H fun x H1=>g x σ H1 D.nx
theorem iY{tg e:Bw}{te:TE}{g:TG}(J:PE X e te)(F:PG X tg g)(M:swapsWithSole [tg] e pos.line X.env=pure false:=by rfl)(hw:swappedStores [tg] e X.env=pure none:=by rfl)
  (h1:(assignEach [tg] X.env).map (·.2)=[assign tg X.env]:=by rfl):PS X (.Assign [tg] e pos) (aIi te g):=by
 constructor;intro di s σ H D I h;refine wpAny_Assign_stores (thn (J di s σ H _ I h) fun v z ⟨x,H1,U,O,B⟩=>?_) M hw;rw[h1];exact thn (F di z σ H1 x v _ U O B) fun _ W q=>q
theorem bQ{i:Nat}{x:Str}{e:Bw}{te:TE}{gf:Pos}(hN:X.N.Nodup)(hi:X.N[i]?=some x)(U:Loc X.env.scope x)(z:PE X e te)(F:swapsWith e (some (.Name x gf)) pos.line X.env=pure false:=by rfl)(B:X.fn x=true∨X.env.scope.names.lookup x=some .local:=by first | exact .inl rfl | exact .inr rfl | assumption):
  PS X (.Assign [.Name x gf] e pos) (aIi te (dG i)):=by
 constructor;intro di s σ H D I h;refine wpAny_Assign_Name (thn (z di s σ H _ I h) fun v W ⟨y,H1,O,J,q⟩=>?_) F;exact aAk O hN hi U J (fun Y M=>⟨_,H1,M,q⟩) B
end
section
variable{X:Cx}{pos:Pos}
inductive aAl(c:TT)(tb:TS)(D:rB)(σ:St)(H:Hp):Prop
 | mk (W:Nat→St→Hp→Prop) (q0:(∃ m,W m σ H)) (q1:∀ m σ H,W m σ H→
 c σ H fun b H1=>if b=true then∃ N:St→Hp→Prop,(∀ σ' H',N σ' H'→∃ m',m' < m∧W m' σ' H')∧tb { D with nx:=N,ct:=N,bk:=D.nx } σ H1 else D.nx σ H1):aAl c tb D σ H
def aIj(c:TT)(tb:TS):TS:=fun D σ H=>aAl c tb D σ H
theorem aEM{c:Bw}{q:List B8}{tc:TT}{tb:TS}(J:PassesOwn (model X.prog X.w) X.A X.env X.xe)(hc:PT X c tc)(hb:PSs X q tb):PS X (.While c q [] pos) (aIj tc tb):=by
 constructor;intro di s σ H D I h;obtain⟨W,⟨m0,w0⟩,turn⟩:=h;refine wpAny_While (codeAny_whileLoop (fun n s'=>∃ M H',Inv X di M H' s'∧W n M H') ?_ m0 ⟨σ,H,I,w0⟩);rintro n U ⟨F,H1,I1,Y⟩;refine Ds J (thn (hc di U F H1 _ I1 (turn n F H1 Y)) fun b Z ⟨H2,O,z⟩=>?_);cases b with
 | true=>
  obtain⟨N,hN,z⟩:=z;rw[Ib rfl];refine Ds J (thn (hb di Z F H2 _ O z) fun f s3 B=>?_);cases f with
  | next=>
   obtain⟨σ3,H3,I3,n3⟩:=B;obtain⟨m',hm,w3⟩:=hN σ3 H3 n3;exact⟨m',hm,σ3,H3,I3,w3⟩
  | cont=>
   obtain⟨σ3,H3,I3,n3⟩:=B;obtain⟨m',hm,w3⟩:=hN σ3 H3 n3;exact⟨m',hm,σ3,H3,I3,w3⟩
  | brk=>exact B
  | ret v=>exact B
 | false=>
  rw[Ia AD];exact EF ⟨F,H2,O,z⟩
end
structure It where
 go:Nat→Hp→Prop
 yld:Nat→Hp→V→Hp→Prop
 stop:Nat→Hp→Prop
def nN(X:Cx)(di:Ih)(H:Hp)(b:Ag):Prop:=
 H b=none∧b≠X.env.locals∧b ∉ X.fs∧(b∈X.ex∨X.s₀.heap.objs.size≤b)∧(∀ x c,X.env.cells.lookup x=some c→c≠b)∧∀ p∈X.pn ++ di,p.1≠b
theorem Inv.fpOk{X:Cx}{di:Ih}{σ:St}{H H':Hp}{s:Af}{b:Ag}(I:Inv X di σ H s)(B:s.heap.objs.size≤b)(hn:H' b=none):nN X di H' b:=by
 refine⟨hn,C5 (A6 I.lt B),I.nofs B,.inr (Bi I.sz B),fun x c e z=>?_,fun p F z=>?_⟩
 ·obtain⟨v,q⟩:=I.cell x c e;exact absurd (A6 q.lt (by rw[z];exact B)) (Cf _)
 ·exact absurd (A6 (Ay (I.pin p F).1) (by rw[z];exact B)) (Cf _)
structure aDK(P:AG)(w:A2)(K:Aj)(tg:Bw)(J:It)(fp:List Ag)(it:Ag)(tn:Nat→Bp→Prop):Prop where
 mem:it∈fp
 obj:∀ i h,tn i h→∀ b∈fp,∃ o,h.get? b=some o∧∀ v,o.data≠.cell v
 keep:∀ i h h',tn i h→(∀ b∈fp,∀ o,h.get? b=some o→h'.get? b=some o)→tn i h'
 item:∀(X:Cx),X.prog=P→X.w=w→X.K=K→X.calm=true→∀(i:Nat) (di:Ih) (s:Af) (σ:St) (H:Hp) (E:Ac→Af→Prop),Inv X di σ H s→(∀ b∈fp,nN X di H b)→tn i s.heap→J.go i H→
  wpAny (model P w) X.A (pyNext (.ref it)) (fun r s1=>∃ u,r=some u∧
   wpAny (model P w) X.A (letOwnedTupleGo tg (.ref it) u) (fun _ s2=>∃ x H',Inv X di σ H' s2∧c7 x u∧J.yld i H x H'∧tn (i + 1) s2.heap∧∀ b∈fp,H' b=none) E s1) E s
 done:∀(X:Cx),X.prog=P→X.w=w→X.K=K→X.calm=true→∀(i:Nat) (di:Ih) (s:Af) (σ:St) (H:Hp) (E:Ac→Af→Prop),Inv X di σ H s→(∀ b∈fp,nN X di H b)→tn i s.heap→J.stop i H→
  wpAny (model P w) X.A (pyNext (.ref it)) (fun r s1=>r=none∧Inv X di σ H s1) E s
 self:∀(A:AW) (i:Nat) (s:Af) (Q:Ac→Af→Prop) (E:Ac→Af→Prop),tn i s.heap→Q (.ref it) s→wpAny (model P w) A (pyIter (.ref it)) Q E s
abbrev TI:=St→Hp→(It→Hp→Prop)→Prop
inductive aHK(X:Cx)(di:Ih)(σ:St)(tg:Bw)(R:It→Hp→Prop)(itv:Ac)(s2:Af):Prop
 | mk (it:Ag) (fp:List Ag) (tn:Nat→Bp→Prop) (J:It) (H':Hp) (q0:itv=.ref it) (q1:Inv X di σ H' s2) (q2:aDK X.prog X.w X.K tg J fp it tn) (q3:tn 0 s2.heap) (q4:(∀ b∈fp,nN X di H' b)) (q5:R J H'):aHK X di σ tg R itv s2
def PIE(X:Cx)(di:Ih)(σ:St)(tg:Bw)(R:It→Hp→Prop)(itv:Ac)(s2:Af):Prop:=aHK X di σ tg R itv s2
structure PI(X:Cx)(tg iter:Bw)(wi:TI):Prop where
 run:
  ∀(di:Ih) (s:Af) (σ:St) (H:Hp) (R:It→Hp→Prop),Inv X di σ H s→wi σ H R→
   wpAny (model X.prog X.w) X.A (eval iter X.env) (fun v s1=>wpAny (model X.prog X.w) X.A (pyIter v) (PIE X di σ tg R) X.xe s1) X.xe s
instance{X:Cx}{tg iter:Bw}{wi:TI}:CoeFun (PI X tg iter wi) (fun _=>
 ∀(di:Ih) (s:Af) (σ:St) (H:Hp) (R:It→Hp→Prop),Inv X di σ H s→wi σ H R→
  wpAny (model X.prog X.w) X.A (eval iter X.env) (fun v s1=>wpAny (model X.prog X.w) X.A (pyIter v) (PIE X di σ tg R) X.xe s1) X.xe s):=⟨fun h=>h.run⟩
theorem aCE{M : Ha}{A : AW}{E : Ac → Af → Prop}{s : Af}{tg : Bw}{it : Ag}{u : Ac}{o : Obj}{n : String}{vs : Array Ac}{Q : Unit → Af → Prop}(q : s.heap.get? it = some o)(hc : o.cls = .type n)(hd : o.data = .fields vs)
    (hn : ["enumerate", "zip", "dict_itemiterator", "dict_reverseitemiterator", "odict_iterator", "itertools.zip_longest", "itertools.pairwise"].contains n = false) (hQ : Q () s) : wpAny M A (letOwnedTupleGo tg (.ref it) u) Q E s := by
  unfold letOwnedTupleGo;cases tg <;> first
    | exact Ae hQ
    | (cases u <;> first
        | exact Ae hQ
        | (refine Aa (GX q ?_)
           rw[hc, hd];show wpAny M A (if (["enumerate", "zip", "dict_itemiterator", "dict_reverseitemiterator", "odict_iterator", "itertools.zip_longest", "itertools.pairwise"].contains n && vs[0]? == some (rawInt _)) = true then _ else _) Q E s;rw[Ia (by intro h;rw[hn, Df]at h;cases h)];exact Ae hQ))
def Itl(K:Aj)(a:Ag):It:=
 ⟨fun i H=>∃ xs x,SqL K H a xs∧xs[i]?=some x,fun i H x H'=>H'=H∧∀ xs,SqL K H a xs→xs[i]?=some x,fun i H=>∃ xs,SqL K H a xs∧xs.length≤i⟩
def Itt(K:Aj)(a:Ag):It:=
 ⟨fun i H=>∃ xs x,SqT K H a xs∧xs[i]?=some x,fun i H x H'=>H'=H∧∀ xs,SqT K H a xs→xs[i]?=some x,fun i H=>∃ xs,SqT K H a xs∧xs.length≤i⟩
def Itr(lo:Int)(n:Nat):It:=⟨fun i _=>i < n,fun i H x H'=>H'=H∧x=.int (lo + i),fun i _=>n≤i⟩
theorem aDL{P:AG}{w:A2}{K:Aj}{tg:Bw}(a it:Ag):aDK P w K tg (Itl K a) [it] it (fun i h=>h.IsListIter it a i) where
 mem:=by simp
 obj:=fun i h st b q=>by
  have e:b=it:=by simpa using q
  subst e;obtain⟨o,e,c,d⟩:=st;exact⟨o,e,fun v z=>by rw[d]at z;cases z⟩
 keep:=fun i h h' st k=>st.at fun o e=>k it (by simp) o e
 item:=by
  intro X hP hw M hc i di s σ H E I F st J;subst hP hw M;obtain⟨xs,x,hq,hx⟩:=J;obtain⟨its,rv,p,hz⟩:=I.list hq;obtain⟨u,hu,ru⟩:=rv.get hx;obtain⟨f0,f1,f2,f3,f4,f5⟩:=F it (by simp);refine wpAny_pyNext_list_item st p.isList (x:=u) (by simpa using hu) fun h' B O=>?_;have Y:Inv X di σ H { s with heap:=h' }:=I.turned (t':=s.toks) (fun b o q e=>(O.2 b q).trans e) f0 f1 f3 f4 f5;obtain⟨o,e,c,d⟩:=id B;exact⟨u,rfl,aCE (s:={ s with heap:=h' }) e c d (by decide) ⟨x,H,Y,ru,⟨rfl,fun ys U=>by rw[I.list_inj U hq];exact hx⟩,B,fun b q=>(F b q).1⟩⟩
 done:=by
  intro X hP hw M hc i di s σ H E I F st J;subst hP hw M;obtain⟨xs,hq,hx⟩:=J;obtain⟨its,rv,p,hz⟩:=I.list hq;obtain⟨f0,f1,f2,f3,f4,f5⟩:=F it (by simp);have Z:=rv.length;exact wpAny_pyNext_list_end (I.ok.hd hc) st p.isList (by simp;omega) fun h' W=>⟨rfl,I.turned (t':=s.toks) (fun b o q e=>W b o q e) f0 f1 f3 f4 f5⟩
 self:=fun _ _ _ _ _ st h=>wpAny_pyIter_listiter st h
theorem aBL{P:AG}{w:A2}{K:Aj}{tg:Bw}(a it:Ag):aDK P w K tg (Itt K a) [it] it (fun i h=>h.IsTupleIter it a i) where
 mem:=by simp
 obj:=fun i h st b q=>by
  have e:b=it:=by simpa using q
  subst e;obtain⟨o,e,c,d⟩:=st;exact⟨o,e,fun v z=>by rw[d]at z;cases z⟩
 keep:=fun i h h' st k=>st.at fun o e=>k it (by simp) o e
 item:=by
  intro X hP hw M hc i di s σ H E I F st J;subst hP hw M;obtain⟨xs,x,hq,hx⟩:=J;obtain⟨its,rv,p,hz⟩:=I.tuple hq;obtain⟨u,hu,ru⟩:=rv.get hx;obtain⟨f0,f1,f2,f3,f4,f5⟩:=F it (by simp);refine wpAny_pyNext_tuple_item st (show s.heap.IsTuple a its.toArray from p) (x:=u) (by simpa using hu) fun h' B O=>?_;have Y:Inv X di σ H { s with heap:=h' }:=I.turned (t':=s.toks) (fun b o q e=>(O.2 b q).trans e) f0 f1 f3 f4 f5;obtain⟨o,e,c,d⟩:=id B;exact⟨u,rfl,aCE (s:={ s with heap:=h' }) e c d (by decide) ⟨x,H,Y,ru,⟨rfl,fun ys U=>by rw[I.tuple_inj U hq];exact hx⟩,B,fun b q=>(F b q).1⟩⟩
 done:=by
  intro X hP hw M hc i di s σ H E I F st J;subst hP hw M;obtain⟨xs,hq,hx⟩:=J;obtain⟨its,rv,p,hz⟩:=I.tuple hq;obtain⟨f0,f1,f2,f3,f4,f5⟩:=F it (by simp);have Z:=rv.length;exact wpAny_pyNext_tuple_end (I.ok.hd hc) st (show s.heap.IsTuple a its.toArray from p) (by simp;omega) fun h' W=>⟨rfl,I.turned (t':=s.toks) (fun b o q e=>W b o q e) f0 f1 f3 f4 f5⟩
 self:=fun _ _ _ _ _ st h=>wpAny_pyIter_tupleiter st h
theorem aBM{P:AG}{w:A2}{K:Aj}{tg:Bw}(it:Ag)(lo:Int)(n:Nat):aDK P w K tg (Itr lo n) [it] it (fun i h=>IsRangeIter h it (lo + (i:Nat) * 1) ((n:Int) - (i:Nat)) 1) where
 mem:=by simp
 obj:=fun i h st b q=>by
  have e:b=it:=by simpa using q
  subst e;exact⟨_,st,fun v z=>by
   have O:Gh _=Data.cell v:=z;cases O⟩
 keep:=fun i h h' st k=>k it (by simp) _ st
 item:=by
  intro X hP hw M hc i di s σ H E I F st J;subst hP hw M;obtain⟨f0,f1,f2,f3,f4,f5⟩:=F it (by simp);have W:=Walks.range (prog:=X.prog) (w:=X.w) (I.ok.hd hc) it lo 1 n;refine W.item i s _ _ J st fun v h' tk Z B U=>?_;obtain⟨t,rfl⟩:=Z;have I1:Inv X di σ H { s with heap:=h',toks:=tk }:=I.turned (fun b o q e=>U b o (by simpa using q) e) f0 f1 f3 f4 f5;refine⟨_,rfl,aCE (s:={ s with heap:=h',toks:=tk }) (n:="range_iterator") B rfl rfl (by decide) ⟨.int (lo + i),H,I1,⟨t,?_⟩,⟨rfl,rfl⟩,B,fun b q=>(F b q).1⟩⟩;rw[Int.mul_one]
 done:=by
  intro X hP hw M hc i di s σ H E I F st J;subst hP hw M;obtain⟨f0,f1,f2,f3,f4,f5⟩:=F it (by simp);exact wpAny_pyNext_range_end (I.ok.hd hc) st (by have:n≤i:=J;omega) fun h' Y=>⟨rfl,I.turned (t':=s.toks) (fun b o q e=>Y b o q e) f0 f1 f3 f4 f5⟩
 self:=fun _ _ _ _ _ st h=>wpAny_pyIter_rangeiter st h
section
variable{X:Cx}{tg:Bw}
def aJt(K:Aj)(tl:TE):TI:=fun σ H R=>tl σ H fun x H1=>As V.ref x fun a=>(∃ xs,SqL K H1 a xs)∧R (Itl K a) H1
def aKn(K:Aj)(tl:TE):TI:=fun σ H R=>tl σ H fun x H1=>As V.ref x fun a=>(∃ xs,SqT K H1 a xs)∧R (Itt K a) H1
theorem i5{l:Bw}{tl:TE}(M:PE X l tl):PI X tg l (aJt X.K tl):=by
 constructor;intro di s σ H R I h;refine thn (M di s σ H _ I h) fun v z ⟨x,H1,B,O,F⟩=>?_;obtain⟨a,e,⟨xs,hq⟩,q⟩:=F;subst e;cases O;obtain⟨its,rv,p,hz⟩:=B.list hq;refine E4 p.isList ?_;refine⟨z.heap.objs.size,[z.heap.objs.size],_,_,H1,rfl,B.kept (t':=z.toks) fun b o e=>Ah _ e,aDL a _,⟨_,Ax _ rfl,rfl,rfl⟩,fun b J=>?_,q⟩;have e:b=z.heap.objs.size:=by simpa using J
 subst e;exact B.fpOk (Ao _) (B.hok.fresh (Ao _))
theorem iE{l:Bw}{tl:TE}(M:PE X l tl):PI X tg l (aKn X.K tl):=by
 constructor;intro di s σ H R I h;refine thn (M di s σ H _ I h) fun v z ⟨x,H1,B,O,F⟩=>?_;obtain⟨a,e,⟨xs,hq⟩,q⟩:=F;subst e;cases O;obtain⟨its,rv,p,hz⟩:=B.tuple hq;refine wpAny_pyIter_tuple (show z.heap.IsTuple a its.toArray from p) ?_;refine⟨z.heap.objs.size,[z.heap.objs.size],_,_,H1,rfl,B.kept (t':=z.toks) fun b o e=>Ah _ e,aBL a _,⟨_,Ax _ rfl,rfl,rfl⟩,fun b J=>?_,q⟩;have e:b=z.heap.objs.size:=by simpa using J
 subst e;exact B.fpOk (Ao _) (B.hok.fresh (Ao _))
theorem aEN{di:Ih}{σ:St}{H:Hp}{s:Af}{R:It→Hp→Prop}{E:Ac→Af→Prop}{lo hi:Int}{t u v:Tok}{tk:Nat}(I:Inv X di σ H s)(h1:-(2 ^ 62)≤lo)(h2:lo < 2 ^ 62)(B:-(2 ^ 62)≤hi)(J:hi < 2 ^ 62)
  (q:R (Itr lo (hi - lo).toNat) H):wpAny (model X.prog X.w) X.A (pyIter (.ref s.heap.objs.size)) (PIE X di σ tg R) E { s with heap:=s.heap.push { cls:=.type "range",data:=.fields #[.int lo t,.int hi u,.int 1 v] },toks:=tk }:=by
 refine wpAny_pyIter_range (IsRange.new ..) (small_one h1 h2 B J) ?_;have z:Inv X di σ H { s with heap:=s.heap.push { cls:=.type "range",data:=.fields #[.int lo t,.int hi u,.int 1 v] },toks:=tk }:=I.kept fun b o e=>Ah _ e;refine⟨(s.heap.push { cls:=.type "range",data:=.fields #[.int lo t,.int hi u,.int 1 v] }).objs.size,[(s.heap.push { cls:=.type "range",data:=.fields #[.int lo t,.int hi u,.int 1 v] }).objs.size],_,_,H,rfl,
  z.kept (t':=tk) fun b o e=>Ah _ e,aBM _ lo (hi - lo).toNat,?_,fun b M=>?_,q⟩
 ·have O:lo + ((0:Nat):Int) * 1=lo:=by simp
  have F:(((hi - lo).toNat:Nat):Int) - ((0:Nat):Int)=Builtin.Range.rangeSize lo hi 1:=by rw[rangeSize_one];split <;> omega
  show IsRangeIter _ _ (lo + ((0:Nat):Int) * 1) ((((hi - lo).toNat:Nat):Int) - ((0:Nat):Int)) 1;rw[O,F];exact Ax _ rfl
 ·have e:b=(s.heap.push { cls:=.type "range",data:=.fields #[.int lo t,.int hi u,.int 1 v] }).objs.size:=by simpa using M
  subst e;exact z.fpOk (Ao _) (z.hok.fresh (Ao _))
def aJu(ta:TA):TI:=fun σ H R=>ta σ H fun vs H1=>∃ j:Int,vs=[.int j]∧-(2 ^ 62)≤j∧j < 2 ^ 62∧R (Itr 0 j.toNat) H1
theorem fM{a:Bw}{ta:TA}{p pos:Pos}(B:Gl X "range")(hm:X.mg "range"=none)(ha:PA X [a] ta)(F:starEach [a] X.env=[(false,eval a X.env)]:=by rfl):PI X tg (.Call (.Name "range" p) [a] [] pos) (aJu ta):=by
 constructor;intro di s σ H R I h;refine Call_ (uE I B hm boot_range (PyProof.Rows.callWith_type1 (thn (ha pos di s σ H _ I h) fun us U ⟨vs,H1,O,M,z⟩=>?_) F rfl));obtain⟨j,e,z,q2,q⟩:=z;subst e;cases M with
 | cons r J=>
  cases J;obtain⟨t,rfl⟩:=r;exact call_range_1 (aEN O (by omega) (by omega) z q2 (by simpa using q))
def aKo(wi:TI)(g:TG)(tb:TS):TS:=fun D σ H=>wi σ H fun J H1=>∃ W:Nat→Nat→St→Hp→Prop,(∃ m,W 0 m σ H1)∧∀ i m σ H,W i m σ H→
 (J.stop i H∧D.nx σ H)∨(J.go i H∧∃ N:St→Hp→Prop,(∀ σ' H',N σ' H'→∃ m',m' < m∧W (i + 1) m' σ' H')∧∀ x H',J.yld i H x H'→g x σ H' fun σ2 H2=>tb { D with nx:=N,ct:=N,bk:=D.nx } σ2 H2)
def pH(fp:List Ag)(h:Bp):Ih:=fp.filterMap fun b=>(h.get? b).map fun o=>(b,o)
theorem mS{fp:List Ag}{h:Bp}{b:Ag}{o:Obj}(q:b∈fp)(e:h.get? b=some o):(b,o)∈pH fp h:=List.mem_filterMap.mpr ⟨b,q,by rw[e];rfl⟩
theorem w6{fp:List Ag}{h:Bp}{p:Ag×Obj}(B:p∈pH fp h):p.1∈fp∧h.get? p.1=some p.2:=by
 obtain⟨b,hb,e⟩:=List.mem_filterMap.mp B;cases q:h.get? b with
 | none=>rw[q]at e;cases e
 | some o=>
  rw[q]at e;have z:(b,o)=p:=CD.inj e;subst z;exact⟨hb,q⟩
theorem Inv.pinned{di:Ih}{σ:St}{H:Hp}{s:Af}{fp:List Ag}(I:Inv X di σ H s)(q:∀ b∈fp,nN X di H b)(B:∀ b∈fp,∃ o,s.heap.get? b=some o∧∀ v,o.data≠.cell v):Inv X (di ++ pH fp s.heap) σ H s:=
 I.pins_of fun p F=>(Bo.mp F).elim (fun z=>I.pin p (A3 _ z)) fun z=>by
  obtain⟨hb,e⟩:=w6 z;obtain⟨f0,f1,f2,_⟩:=q p.1 hb;obtain⟨o,e',d⟩:=B p.1 hb;rw[e]at e';cases e';exact⟨e,f0,f1,f2,d⟩
theorem Inv.unpinned{di pl:Ih}{σ:St}{H:Hp}{s:Af}(I:Inv X (di ++ pl) σ H s):Inv X di σ H s:=I.pins_of fun p q=>I.pin p (A3 _ (Eo _ q))
theorem mV{z:Bw}{U:List B8}{wi:TI}{g:TG}{tb:TS}{pos:Pos}(hp:PassesOwn (model X.prog X.w) X.A X.env X.xe)(hc:X.calm=true)(hi:PI X tg z wi)(hg:PG X tg g)(F:PSs X U tb)
  (hs:∀ x,foldedSetIterable z X.env x=pure x:=by intro _;rfl):PS X (.For tg z U [] pos) (aKo wi g tb):=by
 constructor;intro di s σ H D I h;refine wpAny_For (thn (hi di s σ H _ I h) fun v s1 h1=>thn h1 fun aJ s2 h2=>?_) hs;obtain⟨it,fp,tn,J,H2,e,I2,T,st2,f2,W,⟨m0,w0⟩,turn⟩:=h2;subst e;have B:∀{H':Hp},(∀ b∈fp,H' b=none)→∀ b∈fp,nN X di H' b:=fun hn b F=>⟨hn b F,(f2 b F).2⟩
 refine codeAny_forLoop_any (fun n s'=>∃ i σ' H',Inv X di σ' H' s'∧tn i s'.heap∧(∀ b∈fp,H' b=none)∧W i n σ' H') ?_ m0 ⟨0,σ,H2,I2,st2,fun b F=>(f2 b F).1,w0⟩;rintro n s3 ⟨i,σ3,H3,I3,ad,ab,w3⟩;rcases turn i n σ3 H3 w3 with⟨stop,qn⟩ | ⟨go,N,hN,step⟩
 ·refine Ds hp (thn (T.done X rfl rfl rfl hc i di s3 σ3 H3 X.xe I3 (B ab) ad stop) fun r s4 ⟨hr,I4⟩=>?_);subst hr;exact EF ⟨σ3,H3,I4,qn⟩
 ·refine Ds hp (thn (T.item X rfl rfl rfl hc i di s3 σ3 H3 X.xe I3 (B ab) ad go) fun r s4 ⟨u,hr,h4⟩=>?_);subst hr;refine Ds hp (thn h4 fun _ s5 ⟨x,H5,I5,r5,y5,Z,ag⟩=>?_);have aj:=I5.pinned (B ag) (T.obj _ _ Z);refine Ds hp (thn (hg _ s5 σ3 H5 x u _ aj r5 (step x H5 y5)) fun _ s6 ⟨σ6,H6,I6,q6⟩=>?_);refine Ds hp (thn (F _ s6 σ6 H6 _ I6 q6) fun f s7 Y=>?_);have q:∀{M:St} {O:Hp},Inv X (di ++ pH fp s5.heap) M O s7→N M O→∃ m,m < n∧∃ i σ' H',Inv X di σ' H' s7∧tn i s7.heap∧(∀ b∈fp,H' b=none)∧W i m σ' H':=fun{M O} I7 n7=>by
   obtain⟨m',hm,w7⟩:=hN M O n7;refine⟨m',hm,i + 1,M,O,I7.unpinned,T.keep _ _ _ Z fun b F o e=>(I7.pin (b,o) (A3 _ (A3 _ (mS F e)))).1,fun b F=>?_,w7⟩;obtain⟨o,e,d⟩:=T.obj _ _ Z b F;exact(I7.pin (b,o) (A3 _ (A3 _ (mS F e)))).2.1
  cases f with
  | next=>obtain⟨M,O,I7,n7⟩:=Y;exact q I7 n7
  | cont=>obtain⟨M,O,I7,n7⟩:=Y;exact q I7 n7
  | brk=>obtain⟨M,O,I7,Y⟩:=Y;exact⟨M,O,I7.unpinned,Y⟩
  | ret v=>obtain⟨x7,M,O,I7,r7,Y⟩:=Y;exact⟨x7,M,O,I7.unpinned,r7,Y⟩
end
theorem uF{K:Aj}{a:Ag}{xs:List V}{g:TG}{tb:TS}{D:rB}{σ:St}{H:Hp}(Pv:Nat→St→Hp→Prop)(M:Pv 0 σ H)(Y:∀ i σ H,i≤xs.length→Pv i σ H→SqL K H a xs)
  (O:∀ i x σ H,xs[i]?=some x→Pv i σ H→g x σ H fun F H2=>tb { D with nx:=Pv (i + 1),ct:=Pv (i + 1),bk:=D.nx } F H2) (hd:∀ σ H,Pv xs.length σ H→D.nx σ H):
  ∃ W:Nat→Nat→St→Hp→Prop,(∃ m,W 0 m σ H)∧∀ i m σ H,W i m σ H→
   ((Itl K a).stop i H∧D.nx σ H)∨((Itl K a).go i H∧∃ N:St→Hp→Prop,(∀ B H',N B H'→∃ J,J < m∧W (i + 1) J B H')∧∀ x H',(Itl K a).yld i H x H'→g x σ H' fun F H2=>tb { D with nx:=N,ct:=N,bk:=D.nx } F H2):=by
 refine⟨fun i m σ H=>m=xs.length - i∧i≤xs.length∧Pv i σ H,⟨xs.length,by simp,A0 _,M⟩,?_⟩;rintro i m σ H ⟨rfl,hi,p⟩;have q:=Y i σ H hi p;by_cases z:i < xs.length
 ·refine .inr ⟨⟨xs,xs[i],q,by simp[z]⟩,Pv (i + 1),fun B H' U=>⟨xs.length - (i + 1),by omega,rfl,z,U⟩,fun x H' y=>?_⟩;obtain⟨e,y⟩:=y;subst e;exact O i x σ _ (y xs q) p
 ·have e:i=xs.length:=by omega
  subst e;exact .inl ⟨⟨xs,q,Ao _⟩,hd σ H p⟩
theorem aGM{K:Aj}{a:Ag}{xs:List V}{g:TG}{tb:TS}{D:rB}{σ:St}{H:Hp}(Pv:Nat→St→Hp→Prop)(M:Pv 0 σ H)(Y:∀ i σ H,i≤xs.length→Pv i σ H→SqT K H a xs)
  (O:∀ i x σ H,xs[i]?=some x→Pv i σ H→g x σ H fun F H2=>tb { D with nx:=Pv (i + 1),ct:=Pv (i + 1),bk:=D.nx } F H2) (hd:∀ σ H,Pv xs.length σ H→D.nx σ H):
  ∃ W:Nat→Nat→St→Hp→Prop,(∃ m,W 0 m σ H)∧∀ i m σ H,W i m σ H→
   ((Itt K a).stop i H∧D.nx σ H)∨((Itt K a).go i H∧∃ N:St→Hp→Prop,(∀ B H',N B H'→∃ J,J < m∧W (i + 1) J B H')∧∀ x H',(Itt K a).yld i H x H'→g x σ H' fun F H2=>tb { D with nx:=N,ct:=N,bk:=D.nx } F H2):=by
 refine⟨fun i m σ H=>m=xs.length - i∧i≤xs.length∧Pv i σ H,⟨xs.length,by simp,A0 _,M⟩,?_⟩;rintro i m σ H ⟨rfl,hi,p⟩;have q:=Y i σ H hi p;by_cases z:i < xs.length
 ·refine .inr ⟨⟨xs,xs[i],q,by simp[z]⟩,Pv (i + 1),fun B H' U=>⟨xs.length - (i + 1),by omega,rfl,z,U⟩,fun x H' y=>?_⟩;obtain⟨e,y⟩:=y;subst e;exact O i x σ _ (y xs q) p
 ·have e:i=xs.length:=by omega
  subst e;exact .inl ⟨⟨xs,q,Ao _⟩,hd σ H p⟩
theorem k9{lo:Int}{n:Nat}{g:TG}{tb:TS}{D:rB}{σ:St}{H:Hp}(Pv:Nat→St→Hp→Prop)(J:Pv 0 σ H)
  (M:∀ i σ H,i < n→Pv i σ H→g (.int (lo + i)) σ H fun B H2=>tb { D with nx:=Pv (i + 1),ct:=Pv (i + 1),bk:=D.nx } B H2) (hd:∀ σ H,Pv n σ H→D.nx σ H):
  ∃ W:Nat→Nat→St→Hp→Prop,(∃ m,W 0 m σ H)∧∀ i m σ H,W i m σ H→
   ((Itr lo n).stop i H∧D.nx σ H)∨((Itr lo n).go i H∧∃ N:St→Hp→Prop,(∀ z H',N z H'→∃ F,F < m∧W (i + 1) F z H')∧∀ x H',(Itr lo n).yld i H x H'→g x σ H' fun B H2=>tb { D with nx:=N,ct:=N,bk:=D.nx } B H2):=by
 refine⟨fun i m σ H=>m=n - i∧i≤n∧Pv i σ H,⟨n,by simp,A0 _,J⟩,?_⟩;rintro i m σ H ⟨rfl,hi,p⟩;by_cases q:i < n
 ·refine .inr ⟨q,Pv (i + 1),fun z H' O=>⟨n - (i + 1),by omega,rfl,q,O⟩,fun x H' y=>?_⟩;obtain⟨e,y⟩:=y;subst e y;exact M i σ _ q p
 ·have e:i=n:=by omega
  subst e;exact .inl ⟨Ao _,hd σ H p⟩
abbrev R2:=V→V→Hp→VK→Prop
def OpR(X:Cx)(f:Ac→Ac→Sem Ac)(r:R2):Prop:=
 ∀(di:Ih) (s:Af) (σ:St) (H:Hp) (x y:V) (v u:Ac) (Q:VK),Inv X di σ H s→c7 x v→c7 y u→r x y H Q→
  wpAny (model X.prog X.w) X.A (f v u) (EP X di σ Q) X.xe s
def fX(X:Cx)(f:Ac)(r:List V→Hp→VK→Prop):Prop:=
 ∀(di:Ih) (s:Af) (σ:St) (H:Hp) (xs:List V) (us:List Ac) (Q:VK),Inv X di σ H s→c0 xs us→r xs H Q→
  wpAny (model X.prog X.w) X.A (call f us) (EP X di σ Q) X.xe s
def tOp(r:R2)(ta tb:TE):TE:=fun σ H Q=>ta σ H fun x H1=>tb σ H1 fun y H2=>r x y H2 Q
inductive aJv(C:Int→Int→Prop)(g:Int→Int→V)(x:V)(y:V)(H:Hp)(Q:VK):Prop
 | mk (i:_) (j:_) (q0:x=.int i) (q1:y=.int j) (q2:C i j) (q3:Q (g i j) H):aJv C g x y H Q
def rI(C:Int→Int→Prop)(g:Int→Int→V):R2:=fun x y H Q=>aJv C g x y H Q
inductive aHL(g:Int→Int→V)(x:V)(y:V)(H:Hp)(Q:VK):Prop
 | mk (i:_) (j:_) (q0:x=.int i) (q1:y=.int j) (q2:Q (g i j) H):aHL g x y H Q
def rI0(g:Int→Int→V):R2:=fun x y H Q=>aHL g x y H Q
section
variable{X:Cx}{a b c:Bw}{ta tb tc:TE}{pos:Pos}
theorem aIk(ha:PE X a ta)(O:PE X b tb){di:Ih}{s:Af}{σ:St}{H:Hp}{R:V→V→Hp→Prop}(I:Inv X di σ H s)
  (h:ta σ H fun x H1=>tb σ H1 fun y H2=>R x y H2) {Q:Ac→Af→Prop} {f:Ac→Ac→Sem Ac}
  (M:∀ v u q x y H2,Inv X di σ H2 q→c7 x v→c7 y u→R x y H2→wpAny (model X.prog X.w) X.A (f v u) Q X.xe q):
  wpAny (model X.prog X.w) X.A (eval a X.env) (fun v F=>wpAny (model X.prog X.w) X.A (eval b X.env) (fun u Z=>wpAny (model X.prog X.w) X.A (f v u) Q X.xe Z) X.xe F) X.xe s:=by
 refine thn (ha di s σ H _ I h) fun v z ⟨x,H1,I1,W,B⟩=>?_;refine thn (O di z σ H1 _ I1 B) fun u q ⟨y,H2,Y,U,J⟩=>?_;exact M v u q x y H2 Y W U J
theorem cB{op:Operator}{r:R2}(z:OpR X (binaryOp op) r)(ha:PE X a ta)(F:PE X b tb):PE X (.BinOp a op b pos) (tOp r ta tb):=by
 constructor;intro di s σ H Q I h;exact wpAny_BinOp (aIk ha F I h fun v u B x y H2 M O J q=>z di B σ H2 x y v u Q M O J q)
theorem opI{f:Ac→Ac→Sem Ac}{C:Int→Int→Prop}{g:Int→Int→Int}
  (z:∀(i j:Int) (t u:Tok) (s:Af) (Q:Ac→Af→Prop) (E:Ac→Af→Prop),C i j→Q (.int (g i j) s.toks) { s with toks:=s.toks + 1 }→wpAny (model X.prog X.w) X.A (f (.int i t) (.int j u)) Q E s):
  OpR X f (rI C fun i j=>.int (g i j)):=by
 intro di s σ H x y v u Q I F B h;obtain⟨i,j,rfl,rfl,hc,q⟩:=h;obtain⟨t,rfl⟩:=F;obtain⟨t',rfl⟩:=B;exact z i j t t' s _ _ hc ⟨.int (g i j),H,I.tok _,⟨_,rfl⟩,q⟩
theorem aJw{f:Ac→Ac→Sem Ac}{g:Int→Int→Int}
  (z:∀(i j:Int) (t u:Tok) (s:Af) (Q:Ac→Af→Prop) (E:Ac→Af→Prop),Q (.int (g i j) s.toks) { s with toks:=s.toks + 1 }→wpAny (model X.prog X.w) X.A (f (.int i t) (.int j u)) Q E s):
  OpR X f (rI0 fun i j=>.int (g i j)):=by
 intro di s σ H x y v u Q I F B h;obtain⟨i,j,rfl,rfl,q⟩:=h;obtain⟨t,rfl⟩:=F;obtain⟨t',rfl⟩:=B;exact z i j t t' s _ _ ⟨.int (g i j),H,I.tok _,⟨_,rfl⟩,q⟩
theorem aGN{f:Ac→Ac→Sem Ac}{g:Int→Int→Bool}
  (z:∀(i j:Int) (t u:Tok) (s:Af) (Q:Ac→Af→Prop) (E:Ac→Af→Prop),Q (.bool (g i j)) s→wpAny (model X.prog X.w) X.A (f (.int i t) (.int j u)) Q E s):
  OpR X f (rI0 fun i j=>.bl (g i j)):=by
 intro di s σ H x y v u Q I F B h;obtain⟨i,j,rfl,rfl,q⟩:=h;obtain⟨t,rfl⟩:=F;obtain⟨t',rfl⟩:=B;exact z i j t t' s _ _ ⟨.bl (g i j),H,I,rfl,q⟩
def aKp(i j:Int):Prop:=0 < j∧j < 1073741824
def aIl(i j:Int):Prop:=0≤j∧j≤1000000∧i.natAbs < 2 ^ 64
def aIm(i j:Int):Prop:=(-(2 ^ 64) < i∧i < 2 ^ 64)∨(-(2 ^ 64) < j∧j < 2 ^ 64)
theorem aIm.ok{i j:Int}(h:aIm i j):IntMulOk i j:=by
 rcases h with⟨h1,h2⟩ | ⟨h1,h2⟩
 ·exact .of_left (intBits_le_64 h1 h2)
 ·exact .of_right (intBits_le_64 h1 h2)
theorem eJ:OpR X (binaryOp .Add) (rI0 fun i j=>.int (i + j)):=aJw fun _ _ _ _ _ _ _ q=>add_int q
theorem kQ:OpR X (binaryOp .Sub) (rI0 fun i j=>.int (i - j)):=aJw fun _ _ _ _ _ _ _ q=>sub_int q
theorem mW:OpR X (binaryOp .Mult) (rI aIm fun i j=>.int (i * j)):=opI fun _ _ _ _ _ _ _ hc q=>mul_int q hc.ok
theorem aCF:OpR X (binaryOp .FloorDiv) (rI aKp fun i j=>.int (i / j)):=opI fun i j _ _ _ _ _ hc q=>by
 have h1:(0:Int) < j:=hc.1;have h2:j < 1073741824:=hc.2;exact floordiv_int (by omega) (by rw[Int.fdiv_eq_ediv_of_nonneg i (by omega)];exact q) (.inl (PyProof.noPylong_small (by omega)))
theorem gQ:OpR X (binaryOp .Mod) (rI (fun _ j=>0 < j) fun i j=>.int (i % j)):=opI fun i j _ _ _ _ _ hc q=>by
 have h1:(0:Int) < j:=hc;exact mod_int' (by omega) (by rw[Int.fmod_eq_emod_of_nonneg i (by omega)];exact q)
theorem kW:OpR X (binaryOp .Pow) (rI aIl fun i j=>.int (i ^ j.toNat)):=opI fun _ _ _ _ _ _ _ hc q=>pow_int_small hc.1 hc.2.1 hc.2.2 q
end
def aJx:V→V→Bool
 | .non,.non=>true | .non,.int _=>true | .int _,.non=>true | .non,.bl _=>true | .bl _,.non=>true | .non,.str _=>true | .str _,.non=>true
 | .int _,.int _=>true | .bl _,.bl _=>true | .str _,.str _=>true | .byt _,.byt _=>true
 | .int _,.str _=>true | .str _,.int _=>true | .bl _,.str _=>true | .str _,.bl _=>true
 | _,_=>false
def rEq:R2:=fun x y H Q=>aJx x y=true∧Q (.bl (decide (x=y))) H
def rNe:R2:=fun x y H Q=>aJx x y=true∧Q (.bl (!decide (x=y))) H
theorem aCG{i j:Int}:decide (V.int i=V.int j)=(i == j):=by
 rw[Cu];simp
theorem aEO{i j:Bool}:decide (V.bl i=V.bl j)=(i == j):=by
 rw[Cu];simp
theorem aCH{i j:Str}:decide (V.str i=V.str j)=(i == j):=by
 rw[Cu];simp
theorem aCI{i j:Array UInt8}:decide (V.byt i=V.byt j)=(i.toList == j.toList):=by
 rw[Cu];cases i;cases j;simp
section
variable{X:Cx}{a b c:Bw}{ta tb tc:TE}{pos:Pos}
theorem dE{di:Ih}{σ:St}{H:Hp}{s:Af}{Q:VK}{k z:Bool}(I:Inv X di σ H s)(q:Q (.bl k) H)(e:k=z):EP X di σ Q (.bool z) s:=by
 subst e;exact⟨.bl k,H,I,rfl,q⟩
theorem eY:OpR X (compareOp .Eq) rEq:=by
 intro di s σ H x y v u Q I B z h;obtain⟨hs,q⟩:=h;cases x with
 | non=>
  cases B;cases y with
  | non=>cases z;exact PySem.EqNone.eq_none_none (dE I q (by simp))
  | bl j=>cases z;exact PySem.EqNone.eq_none_bool (dE I q (by simp))
  | int j=>obtain⟨t',rfl⟩:=z;exact PySem.EqNone.eq_none_int (dE I q (by simp))
  | str j=>obtain⟨t',rfl⟩:=z;exact PySem.EqNone.eq_none_str (dE I q (by simp))
  | _=>exact absurd (show false=true from hs) AD
 | bl i=>
  cases B;cases y with
  | non=>cases z;exact PySem.EqNone.eq_bool_none (dE I q (by simp))
  | bl j=>cases z;exact eq_bool (dE I q aEO)
  | str j=>obtain⟨t',rfl⟩:=z;exact PySem.EqMixed.eq_bool_str (dE I q (by simp))
  | _=>exact absurd (show false=true from hs) AD
 | int i=>
  obtain⟨t,rfl⟩:=B;cases y with
  | non=>cases z;exact PySem.EqNone.eq_int_none (dE I q (by simp))
  | int j=>obtain⟨t',rfl⟩:=z;exact eq_int (dE I q aCG)
  | str j=>obtain⟨t',rfl⟩:=z;exact PySem.EqMixed.eq_int_str (dE I q (by simp))
  | _=>exact absurd (show false=true from hs) AD
 | str i=>
  obtain⟨t,rfl⟩:=B;cases y with
  | non=>cases z;exact PySem.EqNone.eq_str_none (dE I q (by simp))
  | bl j=>cases z;exact PySem.EqMixed.eq_str_bool (dE I q (by simp))
  | int j=>obtain⟨t',rfl⟩:=z;exact PySem.EqMixed.eq_str_int (dE I q (by simp))
  | str j=>obtain⟨t',rfl⟩:=z;exact eq_str (dE I q aCH)
  | _=>exact absurd (show false=true from hs) AD
 | byt i=>
  obtain⟨t,rfl⟩:=B;cases y with
  | byt j=>obtain⟨t',rfl⟩:=z;exact PySem.W.eq_bytes (dE I q aCI)
  | _=>exact absurd (show false=true from hs) AD
 | _=>cases y <;> exact absurd (show false=true from hs) AD
theorem sJ:OpR X (compareOp .NotEq) rNe:=by
 intro di s σ H x y v u Q I B z h;obtain⟨hs,q⟩:=h;cases x with
 | non=>
  cases B;cases y with
  | non=>cases z;exact PySem.EqNone.ne_none_none (dE I q (by simp))
  | bl j=>cases z;exact PySem.EqNone.ne_none_bool (dE I q (by simp))
  | int j=>obtain⟨t',rfl⟩:=z;exact PySem.EqNone.ne_none_int (dE I q (by simp))
  | str j=>obtain⟨t',rfl⟩:=z;exact PySem.EqNone.ne_none_str (dE I q (by simp))
  | _=>exact absurd (show false=true from hs) AD
 | bl i=>
  cases B;cases y with
  | non=>cases z;exact PySem.EqNone.ne_bool_none (dE I q (by simp))
  | bl j=>cases z;exact ne_bool (dE I q (congrArg not aEO))
  | str j=>obtain⟨t',rfl⟩:=z;exact PySem.EqMixed.ne_bool_str (dE I q (by simp))
  | _=>exact absurd (show false=true from hs) AD
 | int i=>
  obtain⟨t,rfl⟩:=B;cases y with
  | non=>cases z;exact PySem.EqNone.ne_int_none (dE I q (by simp))
  | int j=>obtain⟨t',rfl⟩:=z;exact ne_int (dE I q (congrArg not aCG))
  | str j=>obtain⟨t',rfl⟩:=z;exact PySem.EqMixed.ne_int_str (dE I q (by simp))
  | _=>exact absurd (show false=true from hs) AD
 | str i=>
  obtain⟨t,rfl⟩:=B;cases y with
  | non=>cases z;exact PySem.EqNone.ne_str_none (dE I q (by simp))
  | bl j=>cases z;exact PySem.EqMixed.ne_str_bool (dE I q (by simp))
  | int j=>obtain⟨t',rfl⟩:=z;exact PySem.EqMixed.ne_str_int (dE I q (by simp))
  | str j=>obtain⟨t',rfl⟩:=z;exact ne_str (dE I q (congrArg not aCH))
  | _=>exact absurd (show false=true from hs) AD
 | byt i=>
  obtain⟨t,rfl⟩:=B;cases y with
  | byt j=>obtain⟨t',rfl⟩:=z;exact PySem.W.ne_bytes (dE I q (congrArg not aCI))
  | _=>exact absurd (show false=true from hs) AD
 | _=>cases y <;> exact absurd (show false=true from hs) AD
theorem aHM:OpR X (compareOp .Lt) (rI0 fun i j=>.bl (decide (i < j))):=aGN fun _ _ _ _ _ _ _ q=>lt_int q
theorem oW:OpR X (compareOp .LtE) (rI0 fun i j=>.bl (decide (i≤j))):=aGN fun _ _ _ _ _ _ _ q=>le_int q
theorem aAm:OpR X (compareOp .Gt) (rI0 fun i j=>.bl (decide (j < i))):=aGN fun _ _ _ _ _ _ _ q=>gt_int q
theorem aJy:OpR X (compareOp .GtE) (rI0 fun i j=>.bl (decide (j≤i))):=aGN fun _ _ _ _ _ _ _ q=>ge_int q
theorem aGO:OpR X (compareOp .IsNot) (fun x y H Q=>y=.non∧Q (.bl (!decide (x=.non))) H):=by
 intro di s σ H x y v u Q I z B h;obtain⟨rfl,q⟩:=h;cases B;refine isnot_none_gen (dE I q ?_);cases x <;> first
  | (cases z;rfl)
  | (obtain⟨t,rfl⟩:=z;rfl)
theorem cM(b:Bw){op:Hz}(h:op≠.In:=by decide)(h2:op≠.NotIn:=by decide):behindInMarks op b=false:=by
 have q:(op == CmpOp.In)=false:=by cases op <;> first | rfl | exact absurd rfl h
 have z:(op == CmpOp.NotIn)=false:=by cases op <;> first | rfl | exact absurd rfl h2
 cases b <;> simp[behindInMarks,q,z]
theorem gO{op:Hz}{r:R2}(z:OpR X (compareOp op) r)(ha:PE X a ta)(F:PE X b tb)(hm:behindInMarks op b=false):PE X (.Compare a [op] [b] pos) (tOp r ta tb):=by
 constructor;intro di s σ H Q I h;exact wpAny_Compare1 (aIk ha F I h fun v u B x y H2 M O J q=>z di B σ H2 x y v u Q M O J q) hm
def aHN(t:TE):TT:=fun σ H Q=>t σ H fun x H'=>As V.bl x fun k=>Q k H'
theorem cA{op:Hz}{r:R2}(J:OpR X (compareOp op) r)(ha:PE X a ta)(W:PE X b tb)(hm:behindInMarks op b=false):PT X (.Compare a [op] [b] pos) (aHN (tOp r ta tb)):=by
 constructor;intro di s σ H Q I h;refine wpAny_isTrue_Compare1 (thn (ha di s σ H _ I h) fun v q ⟨x,H1,I1,r1,B⟩=>thn (W di q σ H1 _ I1 B) fun u O ⟨y,H2,I2,Z,M⟩=>
  thn (J di O σ H2 x y v u _ I2 r1 Z M) fun c s3 ⟨z,Y,I3,F,k,e,U⟩=>?_) hm
 subst e;cases F;exact CN ⟨Y,I3,U⟩
def aEP(r r':R2)(ta tb tc:TE):TE:=fun σ H Q=>ta σ H fun x H1=>tb σ H1 fun y H2=>r x y H2 fun z H3=>As V.bl z fun k=>
 (if k=true then tc σ H3 fun w' H4=>r' y w' H4 Q else Q (.bl false) H3)
theorem uG{op q:Hz}{r O:R2}(ho:OpR X (compareOp op) r)(B:OpR X (compareOp q) O)(ha:PE X a ta)(hb:PE X b tb)(hc:PE X c tc)
  (hm:lastMarks [op,q] [b,c]=false:=by with_unfolding_all rfl):PE X (.Compare a [op,q] [b,c] pos) (aEP r O ta tb tc):=by
 constructor;intro di s σ H Q I h;refine Compare_chain (thn (ha di s σ H _ I h) fun v W ⟨x,H1,I1,r1,Y⟩=>chain_link (thn (hb di W σ H1 _ I1 Y) fun u s2 ⟨y,H2,I2,M,q2⟩=>
  thn (ho di s2 σ H2 x y v u _ I2 r1 M q2) fun d s3 ⟨z,J,U,Z,k,e,F⟩=>?_)) hm
 subst e;cases Z;refine CN ?_;cases k with
 | false=>exact ite_ff ⟨.bl false,J,U,rfl,F⟩
 | true=>exact ite_tt (chain_last (thn (hc di s3 σ J _ U F) fun w' s4 ⟨z',H4,I4,r4,q4⟩=>B di s4 σ H4 y z' u w' Q I4 M r4 q4))
theorem uH{op q:Hz}{r O:R2}(ho:OpR X (compareOp op) r)(B:OpR X (compareOp q) O)(ha:PE X a ta)(hb:PE X b tb)(hc:PE X c tc)
  (hm:lastMarks [op,q] [b,c]=false:=by with_unfolding_all rfl):PT X (.Compare a [op,q] [b,c] pos) (aHN (aEP r O ta tb tc)):=by
 constructor;intro di s σ H Q I h;refine isTrue_chain (thn (ha di s σ H _ I h) fun v W ⟨x,H1,I1,r1,Y⟩=>test_link (thn (hb di W σ H1 _ I1 Y) fun u s2 ⟨y,H2,I2,M,q2⟩=>
  thn (ho di s2 σ H2 x y v u _ I2 r1 M q2) fun d s3 ⟨z,J,U,Z,k,e,F⟩=>?_)) hm
 subst e;cases Z;refine CN ?_;cases k with
 | false=>
  obtain⟨k',e',q'⟩:=F;cases e';exact ite_ff ⟨J,U,q'⟩
 | true=>
  refine ite_tt (test_last (thn (hc di s3 σ J _ U F) fun w' s4 ⟨z',H4,I4,r4,q4⟩=>thn (B di s4 σ H4 y z' u w' _ I4 M r4 q4) fun d' s5 ⟨z2,H5,I5,r5,k2,e2,q5⟩=>?_));subst e2;cases r5;exact CN ⟨H5,I5,q5⟩
theorem rD:(sizeLine:Nat) < 2 ^ 63:=by rw[FJ];decide
inductive nU(x:V)(y:V)(H:Hp)(Q:VK):Prop
 | mk (i:_) (j:_) (q0:x=.str i) (q1:y=.str j) (q2:i.length + j.length≤sizeLine) (q3:Q (.str (i ++ j)) H):nU x y H Q
def zG:V→V→Hp→VK→Prop:=fun x y H Q=>nU x y H Q
theorem mX:OpR X (binaryOp .Add) zG:=by
 intro di s σ H x y v u Q I F z h;obtain⟨i,j,rfl,rfl,hz,q⟩:=h;obtain⟨t,rfl⟩:=F;obtain⟨B,rfl⟩:=z;exact add_str (fun B tk=>⟨.str (i ++ j),H,I.tok _,⟨_,rfl⟩,q⟩) hz
theorem fY{x:V}{us:List Ac}(r:c0 [x] us):∃ u,us=[u]∧c7 x u:=by
 cases r with
 | cons z q=>cases q;exact⟨_,rfl,z⟩
theorem aEQ{x y:V}{us:List Ac}(r:c0 [x,y] us):∃ u q,us=[u,q]∧c7 x u∧c7 y q:=by
 cases r with
 | cons J z=>
  cases z with
  | cons B F=>cases F;exact⟨_,_,rfl,J,B⟩
inductive pU(xs:List V)(H:Hp)(Q:VK):Prop
 | mk (i:_) (q0:xs=[.int i]) (q1:Q (.int (if i < 0 then -i else i)) H):pU xs H Q
def aBO:List V→Hp→VK→Prop:=fun xs H Q=>pU xs H Q
theorem uI:fX X (.builtin "abs") aBO:=by
 intro di s σ H xs us Q I r h;obtain⟨i,rfl,q⟩:=h;obtain⟨u,rfl,t,rfl⟩:=fY r;exact call_abs_int fun u tk=>⟨.int (if i < 0 then -i else i),H,I.tok _,⟨_,rfl⟩,q⟩
inductive oX(xs:List V)(H:Hp)(Q:VK):Prop
 | mk (i:_) (j:_) (q0:xs=[.int i,.int j]) (q1:Q (.int (if j < i then j else i)) H):oX xs H Q
def aAn:List V→Hp→VK→Prop:=fun xs H Q=>oX xs H Q
theorem rG(hc:X.calm=true):fX X (.builtin "min") aAn:=by
 intro di s σ H xs us Q I r h;obtain⟨i,j,rfl,q⟩:=h;obtain⟨u,w',rfl,⟨t,rfl⟩,⟨t',rfl⟩⟩:=aEQ r;refine min_two_ints (I.ok.hd hc) fun h' tk k=>⟨_,H,I.kept k,?_,q⟩
 by_cases z:j < i
 ·rw[Ib z,Ib z];exact⟨_,rfl⟩
 ·rw[Ia z,Ia z];exact⟨_,rfl⟩
theorem aDM:fX X (.type "int") (fun xs H Q=>(∃ i,xs=[.int i]∧Q (.int i) H)∨∃ k,xs=[.bl k]∧Q (.int (if k then 1 else 0)) H):=by
 intro di s σ H xs us Q I r h;rcases h with⟨i,rfl,q⟩ | ⟨k,rfl,q⟩
 ·obtain⟨u,rfl,t,rfl⟩:=fY r;exact call_int_int ⟨.int i,H,I,⟨_,rfl⟩,q⟩
 ·obtain⟨u,rfl,r1⟩:=fY r;cases r1;exact call_int_bool ⟨.int (if k then 1 else 0),H,I.tok _,⟨_,rfl⟩,q⟩
end
structure aIn(h:Bp)(x dx C:Ag)(mA:Str→Option Ac):Prop where
 obj:h.get? x=some (FX C dx)
 ns:h.Ns1 dx mA
 ne:dx≠x
theorem aDN{h:Bp}{dx:Ag}{mA:Str→Option Ac}(n:h.Ns1 dx mA):∃ od,h.get? dx=some od∧∀ name,Gb name od=some (mA name):=by
 obtain⟨o,es,ep,ho,hd,hk,_,hm⟩:=n;refine⟨o,ho,fun name=>?_⟩;have e:=hm name;unfold nsFind findBy at e;rw[← Array.find?_toList]at e;unfold Gb;rw[hd];dsimp only;split
 ·rename_i y q;rw[q]at e;exact congrArg some e
 ·rename_i q;rw[q]at e;have a:es.toList.any (·.refKey)=false:=by
   rw[List.any_eq_false];intro y B;obtain⟨z,t,hkey⟩:=hk y (Array.mem_toList_iff.mp B);simp[DictEntry.refKey,hkey]
  have a':¬ es.toList.any (·.refKey)=true:=by rw[a];exact AD
  rw[Ia a'];exact congrArg some e
theorem aIn.look{h:Bp}{x dx C:Ag}{mA:Str→Option Ac}(I:aIn h x dx C mA):∃ od,PySem.W.InstAt h x (FX C dx) C (some od)∧∀ name,Gb name od=some (mA name):=
 let ⟨od,ho,hl⟩:=aDN I.ns
 ⟨od,⟨I.obj,rfl,rfl,ho⟩,hl⟩
section
variable{prog:AG}{w:A2}{A:AW}{E:Ac→Af→Prop}{s:Af}{K:Aj}{x dx C f:Ag}{mA:Str→Option Ac}{name:Str}{v:Ac}
end
theorem oV.some_of{v:V}{o:Option Ac}(r:oV (some v) o):∃ u,o=some u∧c7 v u:=by
 cases o with
 | none=>exact(show False from r).elim
 | some u=>exact⟨u,rfl,r⟩
section
variable{P:AG}{w:A2}{H H':Hp}{h h':Bp}{a C dx:Ag}{fs fs':List (Str×V)}
theorem aCJ(hok:HOk P w H h)(e:H a=some (.ins C dx fs)):∃ mA,aIn h a dx C mA∧(∀ f,oV (fs.lookup f) (mA f))∧PySem.Within mA (fs.map (·.1))∧fs.length≤1000∧H dx=some (.own a):=by
 obtain⟨d,z,ne,ob,mA,n,r,q⟩:=(show dC P w H h a (.ins C dx fs) from hok a _ e)
 exact⟨mA,⟨ob,n,ne⟩,r,q,z,d⟩
end
structure Cls(K:Aj)(C:Ag):Prop where
 pg:PySem.W.plainGet K C Str.empty=true
 hd:PySem.W.hasDictIn K C=true
 po:PySem.W.plainOver K C=true
 sa:Eu K (.ref C) "__setattr__"=some (some (.builtin "object.__setattr__"))
theorem Cls.get{K:Aj}{C:Ag}(c:Cls K C)(f:Str):PySem.W.plainGet K C f=true:=c.pg
structure Con(K:Aj)(C:Ag)(f:Str)(v:V)(u:Ac):Prop where
 at_:Eu K (.ref C) f=some (some u)
 rel:c7 v u
 get:PySem.W.specialIn K u "__get__"=some none
 cp:PySem.W.copiedNames.contains f=false
structure aK0(K:Aj)(C:Ag)(m:Str)(f:Ag):Prop where
 at_:Eu K (.ref C) m=some (some (.ref f))
 fn:PySem.W.isFn K (.ref f)=true
 kp:Al K (.ref f)=true
section
variable{X:Cx}{di:Ih}{σ:St}{H:Hp}{s:Af}{a C dx:Ag}{fs:List (Str×V)}{f:Str}{v:V}{A:AW}{E:Ac→Af→Prop}
end
section
variable{X:Cx}{o e value:Bw}{f:Str}{pos gf tpos:Pos}{ta tv:TE}
end
section
variable{X:Cx}{di:Ih}{σ:St}{H:Hp}{s:Af}{A:AW}{E:Ac→Af→Prop}{Q:Ac→Af→Prop}{c:Ac}{b:Bool}
inductive jM(K:Aj)(H:Hp):V→Ac→Prop where
 | non:jM K H .non (.type "NoneType")
 | bl (x:Bool):jM K H (.bl x) (.type "bool")
 | int (i:Int):jM K H (.int i) (.type "int")
 | str (x:Str):jM K H (.str x) (.type "str")
 | flt (x:UInt64):jM K H (.flt x) (.type "float")
 | lst {a:Ag} {xs:List V} (e:H a=some (.lst xs)):jM K H (.ref a) (.type "list")
 | frz {a:Ag} {o:Obj} {xs:List V} (e:H a=some (.frz o (.lst xs))):jM K H (.ref a) (.type "list")
 | tup {a:Ag} {xs:List V} (e:H a=some (.tup xs)):jM K H (.ref a) (.type "tuple")
 | dK {a:Ag} {fh:List (Key×V)} (e:H a=some (.dK fh)):jM K H (.ref a) (.type "dict")
 | dT {a:Ag} {fh:List (List Key×V)} (e:H a=some (.dT fh)):jM K H (.ref a) (.type "dict")
 | ins {a C dx:Ag} {fs:List (Str×V)} (e:H a=some (.ins C dx fs)) (cl:Cls K C) (ha:Eu K (.ref C) "__class__"=some (some (.builtin "object.__class__")))
   (hn:PySem.W.specialIn K (.builtin "object.__class__") "__get__"=some (some (.builtin "getset_descriptor.__get__"))) (htk:PySem.W.takesIn K (.builtin "object.__class__")=some true)
   (hm:PySem.W.mroIn K C (.type "object")=some true):jM K H (.ref a) (.ref C)
theorem aDO{x:V}{u t:Ac}(I:Inv X di σ H s)(F:c7 x u)(ty:jM X.K H x t)(e:B0 X.K t c=some b)(h:∀ tk,Q (.bool b) { s with toks:=tk }):
  wpAny (model X.prog X.w) A (call (.builtin "isinstance") [u,c]) Q E s:=by
 cases ty with
 | non=>cases(show u=Ci from F);exact Cd PySem.W.kitx_none I.kIn Cj e (fun z=>nomatch z) h
 | bl y=>cases(show u=Fz y from F);exact Cd PySem.W.kitx_bool I.kIn Cj e (fun z=>nomatch z) h
 | int i=>obtain⟨t,q⟩:=(show∃ t,u=Cm i t from F);cases q;exact Cd PySem.W.kitx_int I.kIn Cj e (fun z=>nomatch z) h
 | str y=>obtain⟨t,q⟩:=(show∃ t,u=BE y t from F);cases q;exact Cd PySem.W.kitx_str I.kIn Cj e (fun z=>nomatch z) h
 | flt y=>obtain⟨t,q⟩:=(show∃ t,u=G9 y t from F);cases q;exact Cd PySem.W.kitx_float I.kIn Cj e (fun z=>nomatch z) h
 | @lst a xs B=>
  cases(show u=AJ a from F);obtain⟨_,_,n,_,h1⟩:=(show dC X.prog X.w H s.heap a (.lst xs) from I.hok a _ B)
  exact Cd ED I.kIn ⟨_,h1,rfl⟩ e (fun z=>nomatch z) h
 | @frz a ob xs B=>
  cases(show u=AJ a from F);obtain⟨_,_,_,n,_,h1⟩:=(show dC X.prog X.w H s.heap a (.frz ob (.lst xs)) from I.hok a _ B)
  exact Cd ED I.kIn ⟨_,h1,rfl⟩ e (fun z=>nomatch z) h
 | @tup a xs B=>
  cases(show u=AJ a from F);obtain⟨_,_,_,p⟩:=(show dC X.prog X.w H s.heap a (.tup xs) from I.hok a _ B)
  obtain⟨o,h1,h2,_⟩:=p;exact Cd PySem.W.kitx_tuple I.kIn ⟨o,h1,h2.1⟩ e (fun z=>nomatch z) h
 | @dK a fh B=>
  cases(show u=AJ a from F);obtain⟨_,_,vs,_,p⟩:=(show dC X.prog X.w H s.heap a (.dK fh) from I.hok a _ B)
  obtain⟨o,es,ep,h1,h2,_⟩:=p;exact Cd EE I.kIn ⟨o,h1,h2.1⟩ e (fun z=>nomatch z) h
 | @dT a fh B=>
  cases(show u=AJ a from F);obtain⟨_,_,xs,_,o,es,ep,h1,h2,_⟩:=(show dC X.prog X.w H s.heap a (.dT fh) from I.hok a _ B)
  exact Cd EE I.kIn ⟨o,h1,h2.1⟩ e (fun z=>nomatch z) h
 | @ins a C dx fs B U ha hn M hm=>
  cases(show u=AJ a from F);obtain⟨mA,O,_⟩:=aCJ I.hok B;obtain⟨od,J,_⟩:=O.look;exact Cd (PySem.W.kitx_own (U.get _) U.hd ha hn M hm) I.kIn J e (fun z=>nomatch z) h
end
structure cZ(k:Nat)(A:AW):Prop where
 hd:A.handled=none
 dp:A.depth + 3 * k + 5 < recursionLimit
 un:A.units + 16 * k + 200 < cLine
 gd:A.guards=some []
theorem cZ.mono{j k:Nat}{A:AW}(r:cZ k A)(h:j≤k):cZ j A:=⟨r.hd,by have:=r.dp;omega,by have:=r.un;omega,r.gd⟩
theorem cZ.deeper{k:Nat}{A:AW}(r:cZ (k + 1) A)(env:Env):cZ k (A.deeper env):=
 ⟨r.hd,by have:=r.dp;show A.depth + 1 + 3 * k + 5 < _;omega,by have:=r.un;show A.units + 3 + 16 * k + 200 < _;omega,r.gd⟩
theorem cZ.in1{k:Nat}{A:AW}(r:cZ (k + 1) A):cZ k A.in1:=
 ⟨r.hd,by have:=r.dp;show A.depth + 3 * k + 5 < _;omega,by have:=r.un;show A.units + 1 + 16 * k + 200 < _;omega,r.gd⟩
theorem cZ.depth{k:Nat}{A:AW}(r:cZ k A):A.depth < recursionLimit:=by have:=r.dp;omega
theorem cZ.units{k:Nat}{A:AW}(r:cZ k A):A.units + 64 < cLine:=by have:=r.un;omega
def aIo:TA:=fun _ H Q=>Q [] H
def aCK(ta:TE)(tr:TA):TA:=fun σ H Q=>ta σ H fun x H1=>tr σ H1 fun xs H2=>Q (x :: xs) H2
section
variable{X:Cx}{e:Bw}{es:List Bw}{te:TE}{t:TA}{pos:Pos}
theorem aF:PA X [] aIo:=⟨fun _ _ _ _ H Q I h=>FV ⟨[],H,I,.nil,h⟩⟩
theorem g8(ha:PE X e te)(F:PA X es t)(J:starEach (e :: es) X.env=(false,eval e X.env) :: starEach es X.env:=by rfl):PA X (e :: es) (aCK te t):=by
 constructor;intro pos di s σ H Q I h;rw[J];show wpAny _ _ (spliced ((false,eval e X.env) :: backTo pos (starEach es X.env))) _ _ s;refine DN (thn (ha di s σ H _ I h) fun u q ⟨x,H1,W,O,z⟩=>?_);exact thn (F pos di q σ H1 _ W z) fun us Y ⟨xs,H2,U,M,B⟩=>⟨x :: xs,H2,U,.cons O M,B⟩
def aKq(t:TA):TE:=fun σ H Q=>t σ H fun xs H1=>xs.length≤sizeLine∧∀ p,H1 p=none→Q (.ref p) (upd H1 p (.tup xs))
def aKr(t:TA):TE:=fun σ H Q=>t σ H fun xs H1=>xs.length≤sizeLine∧∀ p,H1 p=none→Q (.ref p) (upd H1 p (.lst xs))
theorem dA{x1}(h:PA X es t):PE X (.Tuple es x1 pos) (aKq t):=by
 constructor;intro di s σ H Q I M;refine wpAny_Tuple_spliced (thn (h pos di s σ H _ I M) fun us B ⟨xs,H1,F,r,z,q⟩=>⟨by rw[← r.length];exact z,?_⟩);have J:H1 B.heap.objs.size=none:=F.hok.fresh (Ao _);refine⟨.ref B.heap.objs.size,upd H1 B.heap.objs.size (.tup xs),F.laid (t':=B.toks) (fun b u e=>Ah _ e) (Ao _) ?_,rfl,q _ J⟩;exact⟨z,us,r,⟨_,Ax _ rfl,⟨rfl,_,rfl⟩,rfl⟩⟩
theorem dP(h:PA X es t):PE X (.List es pos) (aKr t):=by
 constructor;intro di s σ H Q I M;refine wpAny_List_spliced (thn (h pos di s σ H _ I M) fun us B ⟨xs,H1,F,r,z,q⟩=>⟨by rw[← r.length];exact z,?_⟩);have J:H1 B.heap.objs.size=none:=F.hok.fresh (Ao _);refine⟨.ref B.heap.objs.size,upd H1 B.heap.objs.size (.lst xs),F.laid (t':=B.toks) (fun b u e=>Ah _ e) (Ao _) ?_,rfl,q _ J⟩;exact⟨z,us,0,r,Ax _ rfl⟩
end
abbrev Sp:=List V→Hp→VK→XK→Prop
abbrev CXT:=List Env→Hp→Af→XK→Ac→Af→Prop
structure aER(P:AG)(w:A2)(K:Aj)(mg:Str→Option Ac)(base:Bp)(A:AW)(outer:List Env)(s:Af)(H:Hp):Prop where
 frames:A.frames=some outer
 mod:Mod K mg base
 bs:∀ b o,base.get? b=some o→s.heap.get? b=some o∧H b=none
 bsz:base.objs.size≤s.heap.objs.size
 funs:s.heap.FunFrames base outer
 frf:∀ b∈frs outer,H b=none
 hok:HOk P w H s.heap
 bare:ER s.gens
inductive aJz(outer:List Env)(P:AG)(w:A2)(H:Hp)(s:Af)(Q:VK)(u:Ac)(s':Af):Prop
 | mk (v:_) (H':_) (q0:s'.os=s.os) (q1:ER s'.gens) (q2:Un (frs outer) [] H H' s.heap s'.heap) (q3:HOk P w H' s'.heap) (q4:c7 v u) (q5:Q v H'):aJz outer P w H s Q u s'
def CE(outer:List Env)(P:AG)(w:A2)(H:Hp)(s:Af)(Q:VK)(u:Ac)(s':Af):Prop:=aJz outer P w H s Q u s'
def CR(CX:CXT)(outer:List Env)(P:AG)(w:A2)(H:Hp)(s:Af)(Q:VK)(E:XK)(r:Result)(s':Af):Prop:=
 match r with
 | .ok (.ret u)=>CE outer P w H s Q u s'
 | .ok _=>False
 | .error e=>CX outer H s E e s'
structure cY(P:AG)(w:A2)(K:Aj)(mg:Str→Option Ac)(base:Bp)(CX:CXT)(k:Nat)(f:Ag)(fd:AK)(ps:List Str)(sp:Sp):Prop where
 len:∀ vs H Q E,sp vs H Q E→vs.length=ps.length
 run:∀(A:AW) (outer:List Env) (s:Af) (H:Hp) (args:Args) (us:List Ac) (vs:List V) (Q:VK) (E:XK),cZ k A→aER P w K mg base A outer s H→Gu s fd args (ps.zip us)→c0 vs us→sp vs H Q E→
  codeAny (model P w) A (.call (.ref f) args) (CR CX outer P w H s Q E) s
section
variable{X:Cx}{di:Ih}{σ:St}{H:Hp}{s s':Af}
theorem Inv.env0(I:Inv X di σ H s):aER X.prog X.w X.K X.mg X.base X.A X.stack s H:=
 ⟨I.ok.frames,I.ok.mod,I.bs,Bi I.ok.bsz I.sz,I.stack,I.stkFree,I.hok,I.bare⟩
theorem Inv.after{Q:VK}{u:Ac}(I:Inv X di σ H s)(h:CE X.stack X.prog X.w H s Q u s'):EP X di σ Q u s':=by
 obtain⟨v,H',os,bare,un,hok,r,q⟩:=h;obtain⟨hh,g,d,t,os'⟩:=s';obtain rfl:os'=s.os:=os;exact⟨v,H',I.call (h':=hh) (g':=g) (d':=d) (t':=t) (ch:=[]) un hok bare (fun b z=>absurd z (by simp)),r,q⟩
end
def aHO(sp:Sp)(gq:List V)(E:XK)(t:TA):TE:=fun σ H Q=>t σ H fun vs H1=>sp (vs ++ gq) H1 Q E
def eU(K:Aj)(fd:AK)(ps:List Str)(ds:List Ac):Prop:=
 ∀(s:Af) (us:List Ac),K.In s.heap→(us ++ ds).length=ps.length→Gu s fd ⟨us,[]⟩ (ps.zip (us ++ ds))
theorem eU.all{K:Aj}{fd:AK}{ps:List Str}(h:∀ us:List Ac,us.length=ps.length→bindArgs fd ⟨us,[]⟩=pure (ps.zip us)):eU K fd ps []:=fun s us _ q=>by
 rw[Cg]at q ⊢;exact .of_eq (h us q)
def aBP(CX:CXT)(X:Cx)(E:XK):Prop:=∀(di:Ih) (σ:St) (H:Hp) (s:Af) (e:Ac) (s':Af),Inv X di σ H s→CX X.stack H s E e s'→X.xe e s'
section
variable{X:Cx}{CX:CXT}{k:Nat}{f C:Ag}{fd:AK}{ps:List Str}{sp:Sp}{gq:List V}{ds:List Ac}{E:XK}{x m:Str}{p pos fw:Pos}{e o:Bw}{es:List Bw}{ta:TE}{t:TA}
theorem aES{di:Ih}{σ:St}{H:Hp}{s:Af}{Q:VK}{us:List Ac}{vs:List V}(F:cY X.prog X.w X.K X.mg X.base CX k f fd ps sp)(B:cZ k X.A)(J:eU X.K fd ps ds)(hd:c0 gq ds)(U:aBP CX X E)
  (I:Inv X di σ H s) (r:c0 vs us) (h:sp (vs ++ gq) H Q E):wpAny (model X.prog X.w) X.A (call (.ref f) us) (EP X di σ Q) X.xe s:=by
 have z:c0 (vs ++ gq) (us ++ ds):=r.append hd;have M:(us ++ ds).length=ps.length:=by rw[← z.length];exact F.len _ _ _ _ h
 refine Dp (C8 (F.run X.A X.stack s H ⟨us,[]⟩ (us ++ ds) (vs ++ gq) Q E B I.env0 (J s us I.kIn M) z h) fun r s' q=>?_);cases r with
 | error e=>exact U di σ H s e s' I q
 | ok O=>
  cases O with
  | ret u=>exact I.after q
  | next=>exact CK q
  | brk=>exact CK q
  | cont=>exact CK q
theorem fF(F:cY X.prog X.w X.K X.mg X.base CX k f fd ps sp)(U:cZ k X.A)(M:Gl X x)(hm:X.mg x=some (.ref f))(Z:Al X.K (.ref f)=true)(Y:eU X.K fd ps ds)(hd:c0 gq ds)(hx:aBP CX X E)
  (ha:PA X (e :: es) t) (z:(x == ("__debug__":Str))=false:=by decide) (O:starEach (e :: es) X.env=(false,eval e X.env) :: starEach es X.env:=by rfl) (B:(backTo pos (starEach es X.env)).any (·.1)=false:=by rfl):
  PE X (.Call (.Name x p) (e :: es) [] pos) (aHO sp gq E t):=by
 constructor;intro di s σ H Q I h;refine D5 (aCC I M hm ?_ z);refine PySem.W.callWith_K (h₀:=X.base) I.ok.mod.kin Z (thn (ha pos di s σ H _ I h) fun us s1 ⟨vs,H1,J,r,q⟩=>⟨J.kIn,?_⟩) O B;exact aES F U Y hd hx J r q
structure Mk(K:Aj)(C f:Ag):Prop where
 makes:PySem.W.makesIn K C=true
 init:Eu K (.ref C) "__init__"=some (some (.ref f))
 fn:PySem.W.isFn K (.ref f)=true
 kp:Al K (.ref C)=true
end
structure PK(X:Cx)(gk:List EN)(t:TA):Prop where
 run:
  ∀(pos:Pos) (di:Ih) (s:Af) (σ:St) (H:Hp) (Q:List V→Hp→Prop),Inv X di σ H s→t σ H Q→wpAny (model X.prog X.w) X.A (evalAll ((backToKw pos (keywordEach gk X.env)).map (·.2))) (AP X di σ Q) X.xe s
instance{X:Cx}{gk:List EN}{t:TA}:CoeFun (PK X gk t) (fun _=>
 ∀(pos:Pos) (di:Ih) (s:Af) (σ:St) (H:Hp) (Q:List V→Hp→Prop),Inv X di σ H s→t σ H Q→wpAny (model X.prog X.w) X.A (evalAll ((backToKw pos (keywordEach gk X.env)).map (·.2))) (AP X di σ Q) X.xe s):=⟨fun h=>h.run⟩
section
variable{X:Cx}{CX:CXT}{k:Nat}{f C:Ag}{fd:AK}{ps ks:List Str}{sp:Sp}{E:XK}{x m:Str}{p pos fw kpos:Pos}{e o:Bw}{es:List Bw}{gk:List EN}{te ta:TE}{t tk:TA}{nm:Option Str}
theorem aIp:PK X [] aIo:=⟨fun _ _ _ _ H Q I h=>wpAny_evalAll_nil ⟨[],H,I,.nil,h⟩⟩
theorem aGP(ha:PE X e te)(F:PK X gk t):PK X (⟨nm,e,kpos⟩ :: gk) (aCK te t):=by
 constructor;intro pos di s σ H Q I h;show wpAny _ _ (evalAll ((do let v ← eval e X.env;standAt pos;pure v) :: (backToKw pos (keywordEach gk X.env)).map (·.2))) _ _ s
 refine wpAny_evalAll_cons (Aa (thn (ha di s σ H _ I h) fun u q ⟨x,H1,U,M,z⟩=>Aa (F3 (Ae ?_))));exact thn (F pos di q σ H1 _ U z) fun us W ⟨xs,H2,O,J,B⟩=>⟨x :: xs,H2,O,.cons M J,B⟩
structure aKs(K:Aj)(fd:AK)(ps ks:List Str)(g:List Ac→List Ac→List Ac)(gV:List V→List V→List V):Prop where
 to:∀(s:Af) (us ws:List Ac),K.In s.heap→(g us ws).length=ps.length→Gu s fd ⟨us,ks.zip ws⟩ (ps.zip (g us ws))
 rel:∀{vs:List V} {us:List Ac} {zs:List V} {ws:List Ac},c0 vs us→c0 zs ws→c0 (gV vs zs) (g us ws)
variable{g:List Ac→List Ac→List Ac}{gV:List V→List V→List V}
end
structure bY(N P:List Str)(sc:DV):Prop where
 kind:sc.kind=.function
 co:sc.isCoroutine=false
 gen:sc.isGenerator=false
 nd:N.Nodup
 pre:N.take P.length=P
 par:∀ x∈P,sc.names.lookup x=some .local∨sc.names.lookup x=some .cell
 nofree:∀ y∈sc.names,y.2≠.free
theorem w8{q:Str→Option Ek}{x:Str}:∀{binds:List (Str×Ac)}{m:Str→Option Ac},(∀ v,(x,v) ∉ binds)→bindL q binds m x=m x
 | [],_,_=>rfl
 | (n,v) :: r,m,h=>by
  unfold bindL;rw[w8 fun w hw=>h w (AL _ hw)];split
  ·have:x≠n:=by rintro rfl;exact h v AI
   simp[this]
  ·rfl
theorem w9{q:Str→Option Ek}{x:Str}:∀{binds:List (Str×Ac)}{m:Str→Option Ac},(∀ v,(x,v) ∉ binds)→bindC q binds m x=m x
 | [],_,_=>rfl
 | (n,v) :: r,m,h=>by
  unfold bindC;rw[w9 fun w hw=>h w (AL _ hw)];split
  ·rfl
  ·have:x≠n:=by rintro rfl;exact h v AI
   simp[this]
theorem xA{q:Str→Option Ek}{x:Str}{v:Ac}:∀{P:List Str}{vs:List Ac}{i:Nat}{m:Str→Option Ac},P.Nodup→P[i]?=some x→vs[i]?=some v→q x=some .local→
  bindL q (P.zip vs) m x=some v
 | [],_,_,_,_,h,_,_=>by simp at h
 | _ :: _,[],_,_,_,_,h,_=>by simp at h
 | p :: P,w :: vs,0,m,nd,h1,h2,z=>by
  simp at h1 h2;subst h1;subst h2;show bindL q ((p,w) :: P.zip vs) m p=_;unfold bindL;rw[w8 fun v B=>(CL.mp nd).1 (Gi B).1,Ib z];simp
 | p :: P,w :: vs,i + 1,m,nd,h1,h2,z=>by
  show bindL q ((p,w) :: P.zip vs) m x=_;unfold bindL;exact xA (i:=i) (CL.mp nd).2 (by simpa using h1) (by simpa using h2) z
theorem xB{q:Str→Option Ek}{x:Str}{v:Ac}:∀{P:List Str}{vs:List Ac}{i:Nat}{m:Str→Option Ac},P.Nodup→P[i]?=some x→vs[i]?=some v→q x≠some .local→
  bindC q (P.zip vs) m x=some v
 | [],_,_,_,_,h,_,_=>by simp at h
 | _ :: _,[],_,_,_,_,h,_=>by simp at h
 | p :: P,w :: vs,0,m,nd,h1,h2,z=>by
  simp at h1 h2;subst h1;subst h2;show bindC q ((p,w) :: P.zip vs) m p=_;unfold bindC;rw[w9 fun v B=>(CL.mp nd).1 (Gi B).1,Ia z];simp
 | p :: P,w :: vs,i + 1,m,nd,h1,h2,z=>by
  show bindC q ((p,w) :: P.zip vs) m x=_;unfold bindC;exact xB (i:=i) (CL.mp nd).2 (by simpa using h1) (by simpa using h2) z
def start(N:List Str)(vs:List V):St:=vs.map some ++ List.replicate (N.length - vs.length) none
def aDP(CX:CXT)(P:AG)(w:A2)(K:Aj)(mg:Str→Option Ac)(base:Bp)(N:List Str)(qual:Str)(scope:DV)(f:Ag)(cd:Ac)(A:AW)(outer:List Env)(s:Af)(H:Hp)(E:XK):Cx where
 prog:=P
 w:=w
 K:=K
 mg:=mg
 base:=base
 A:=A.deeper (envOfC qual scope s.heap.objs.size f cd)
 N:=N
 s₀:=s
 H₀:=H
 env:=envOfC qual scope s.heap.objs.size f cd
 outer:=outer
 stack:=envOfC qual scope s.heap.objs.size f cd :: outer
 ex:=[]
 calm:=true
 fn:=fun _=>true
 pn:=[]
 xe:=fun e s'=>wpAny (model P w) (A.deeper (envOfC qual scope s.heap.objs.size f cd)) (leaving (envOfC qual scope s.heap.objs.size f cd) e) (fun _ s''=>CX outer H s E e s'') (fun e' s''=>CX outer H s E e' s'') s'
theorem aAo{z:DV}{n:Nat}{x:Str}(h:z.names.lookup x=some .cell):∃ c,(cellsFrom n z.names []).lookup x=some c:=by
 have q:=PySem.W.cellsFrom_some z.names n [] (.inl h);exact Option.isSome_iff_exists.mp q
theorem aDQ{CX:CXT}{P:AG}{w:A2}{K:Aj}{mg:Str→Option Ac}{base:Bp}{N ps:List Str}{qual:Str}{scope:DV}{f:Ag}{cd:Ac}{A:AW}{outer:List Env}{s U:Af}{H:Hp}{E:XK}{us:List Ac}{vs:List V}
  (S:bY N ps scope) (hd:A.handled=none) (B:aER P w K mg base A outer s H) (Z:vs.length=ps.length) (r:c0 vs us)
  (x:InCallC s s.heap.objs.size (bindL (envOfC qual scope s.heap.objs.size f cd).kindOf (ps.zip us) fun _=>none) (cellsFrom (s.heap.objs.size + 1) scope.names []) (bindC (envOfC qual scope s.heap.objs.size f cd).kindOf (ps.zip us) fun _=>none) U):
  Inv (aDP CX P w K mg base N qual scope f cd A outer s H E) [] (start N vs) H U:=by
 have W:ps.length≤N.length:=by have:=congrArg List.length S.pre;rw[Bh]at this;omega
 obtain⟨h1,tk,rfl,hk⟩:=x.done;have F:∀ b:Ag,b ∉ (aDP CX P w K mg base N qual scope f cd A outer s H E).ex:=fun b z=>absurd (show b∈([]:List Ag) from z) (by simp);refine⟨⟨B.mod,S.kind,rfl,rfl,Ao _,fun y z c h1 h2=>?_,fun y J=>?_,fun y c _ h=>?_,fun _=>hd,Around.frames_deeper B.frames,.inr ⟨rfl,rfl⟩,fun b z=>absurd z (F b),B.bs,B.bsz,fun b _ _=>F b,fun b z=>absurd z (F b),B.funs,B.frf⟩,
  rfl,B.bare,Un.kept hk,⟨_,x.toInCall.ns,fun i y v h1 h2 Y=>?_⟩,fun y c h=>⟨_,x.cell y c h⟩,B.hok.fresh (Ao _),fun y c h=>?_,fun p M=>absurd (show p∈([]:Ih) from M) (by simp),B.hok.kept hk,?_⟩
 ·exact name_of_addr x.apart (Cs h1) (Cs h2)
 ·have J:scope.names.lookup y=some .cell∨scope.names.lookup y=some .free:=J;rcases J with J | J
  ·exact aAo J
  ·exact absurd rfl (S.nofree _ (Cs J))
 ·exact Dj (x.above y c (Cs h))
 ·have hi:i < vs.length:=by
   unfold start at h2;by_cases hi:i < vs.length
   ·exact hi
   ·rw[Bz (by simpa using hi)]at h2;rw[List.getElem?_replicate]at h2;split at h2 <;> cases h2
  have ha:vs[i]?=some v:=by
   unfold start at h2;rw[BD (by simpa using hi),AS]at h2;cases e:vs[i]? with
   | none=>rw[e]at h2;cases h2
   | some a=>rw[e]at h2;cases h2;rfl
  obtain⟨u,hu,rv⟩:=r.get ha;have M:ps[i]?=some y:=by
   rw[← S.pre,List.getElem?_take_of_lt (by omega)];exact h1
  have O:ps.Nodup:=by rw[← S.pre];exact S.nd.sublist (List.take_sublist _ _)
  refine⟨u,rv,?_⟩;rcases S.par y (AN M)with k | k
  ·exact .inl ⟨k,xA O M hu k⟩
  ·obtain⟨c,e⟩:=aAo (n:=s.heap.objs.size + 1) k;refine .inr ⟨.inl k,c,e,?_⟩;have q:=x.cell y c e;rw[xB O M hu (by show scope.names.lookup y≠_;rw[k];decide)]at q;exact q
 ·exact B.hok.fresh (Dj (x.above y c (Cs h)))
 ·unfold start;show _=N.length;rw[Au,Ad,List.length_replicate];omega
theorem aJA{CX:CXT}{P:AG}{w:A2}{K:Aj}{mg:Str→Option Ac}{base:Bp}{k:Nat}{f:Ag}{name qual:Str}{B:Arguments}{F:List B8}{scope:DV}{dV kV Y pm z ct oc:Ac}{an od:Option Ag}
  {ad:Array (Option Ac)} {N ps:List Str} {sp:Sp} (lk:K.lookup f=some ⟨oc,od,.func (AB name qual B F scope dV kV Y pm an z ct),ad⟩) (af:Ar K z qual=true) (S:bY N ps scope)
  (len:∀ vs H Q E,sp vs H Q E→vs.length=ps.length)
  (M:∀(A:AW) (outer:List Env) (s:Af) (H:Hp) (vs:List V) (Q:VK) (E:XK),cZ k (A.deeper (envOfC qual scope s.heap.objs.size f z))→sp vs H Q E→
   ∃ t,PSs (aDP CX P w K mg base N qual scope f z A outer s H E) F t∧t { nx:=fun _ H'=>Q .non H',rt:=Q } (start N vs) H):
  cY P w K mg base CX (k + 1) f (AB name qual B F scope dV kV Y pm an z ct) ps sp:=by
 refine⟨len,fun A outer s H ah us vs Q E hr e0 hb r Z=>?_⟩;have hl:=len _ _ _ _ Z;have KX:K.In s.heap:=e0.mod.kin.keeps fun b o e=>(e0.bs b o e).1;have ac:s.heap.NoLimit:=e0.mod.nolimit.keeps fun b o e=>(e0.bs b o e).1;have O:∀ y∈ps.zip us,scope.names.lookup y.1=some .local∨(scope.names.lookup y.1=some .cell∧((cellsFrom (s.heap.objs.size + 1) scope.names []).lookup y.1).isSome=true):=fun⟨n,v⟩ hy=>by
  rcases S.par n (Gi hy).1 with q | q
  ·exact .inl q
  ·exact .inr ⟨q,PySem.W.cellsFrom_some _ _ _ (.inl q)⟩
 refine codeAny_call_function hr.depth (KX _ _ lk) rfl S.co S.gen rfl (PySem.W.codeRec_of KX af) (hb _ _ _ _ ?_);refine wpAny_newFunctionEnv_cells S.kind O fun env he s1 x=>?_;subst he;refine⟨ac.keeps x.toInCall.keep,codeAny_func ?_⟩;obtain⟨t,ht,hq⟩:=M A outer s H vs Q E (hr.deeper _) Z;have I:Inv (aDP CX P w K mg base N qual scope f z A outer s H E) [] (start N vs) H s1:=aDQ S hr.hd e0 hl r x;refine Ca (ht [] s1 (start N vs) H _ I hq) (fun fl s' U=>?_) fun e s' U=>U;have fin:∀{σ':St} {H':Hp} {v:V} {u:Ac},Inv (aDP CX P w K mg base N qual scope f z A outer s H E) [] σ' H' s'→c7 v u→Q v H'→CE outer P w H s Q u s':=
  fun{σ' H' v u} J rv q=>⟨v,H',J.os,J.bare,J.base,J.hok,rv,q⟩
 cases fl with
 | ret u=>
  obtain⟨v,σ',H',J,rv,q⟩:=U;exact fin J rv q
 | next=>
  obtain⟨σ',H',J,q⟩:=U;exact fin (v:=V.non) (u:=Ci) J rfl q
 | brk=>
  obtain⟨_,_,_,q⟩:=U;exact CK q
 | cont=>
  obtain⟨_,_,_,q⟩:=U;exact CK q
section
variable{X:Cx}{x:Str}{p pos:Pos}{e:Bw}{es:List Bw}{t:TA}{id T:String}{r:List V→Hp→VK→Prop}
def tCB(r:List V→Hp→VK→Prop)(t:TA):TE:=fun σ H Q=>t σ H fun vs H1=>r vs H1 Q
theorem aX(hc:fX X (.builtin id) r)(J:Gl X x)(hm:X.mg x=none)(U:bootBuiltins x=some (.builtin id))(ha:PA X (e :: es) t)(hn:x≠"__name__":=by decide)(q:(x == ("__debug__":Str))=false:=by decide)
  (M:starEach (e :: es) X.env=(false,eval e X.env) :: starEach es X.env:=by rfl) (z:(backTo pos (starEach es X.env)).any (·.1)=false:=by rfl):PE X (.Call (.Name x p) (e :: es) [] pos) (tCB r t):=by
 constructor;intro di s σ H Q I h;refine D5 (uE I J hm U ?_ hn q);exact PyProof.Rows.callWith_builtin1 (thn (ha pos di s σ H _ I h) fun us B ⟨vs,H1,W,O,F⟩=>hc di B σ H1 vs us Q W O F) M z
theorem cQ(hc:fX X (.type T) r)(J:Gl X x)(hm:X.mg x=none)(U:bootBuiltins x=some (.type T))(ha:PA X (e :: es) t)(hn:x≠"__name__":=by decide)(q:(x == ("__debug__":Str))=false:=by decide)
  (M:starEach (e :: es) X.env=(false,eval e X.env) :: starEach es X.env:=by rfl) (z:(backTo pos (starEach es X.env)).any (·.1)=false:=by rfl):PE X (.Call (.Name x p) (e :: es) [] pos) (tCB r t):=by
 constructor;intro di s σ H Q I h;refine D5 (uE I J hm U ?_ hn q);exact PyProof.Rows.callWith_type1 (thn (ha pos di s σ H _ I h) fun us B ⟨vs,H1,W,O,F⟩=>hc di B σ H1 vs us Q W O F) M z
end
end L2
namespace HT
open PySem PyProof.Rows
section
open PySem.SeqAt
open PySem.AutoSeq1 (wpAny_loadPart')
open PySem.MeetsSeq PySem.MeetsSeq2 PySem.MeetsSeq3
end
section
variable{prog:AG}{w:A2}{A:AW}{E:Ac→Af→Prop}{s:Af}
def sIx(n d:Nat):Option Int→Nat
 | none=>d
 | some v=>if v < 0 then(v + (n:Int)).toNat else min v.toNat n
theorem sIx_none(n d:Nat):sIx n d none=d:=rfl
theorem sIx_nat(n d k:Nat):sIx n d (some (k:Int))=min k n:=by
 show(if (k:Int) < 0 then((k:Int) + (n:Int)).toNat else min (k:Int).toNat n)=min k n;rw[Ia (by omega),Bm]
theorem aIq(n d:Nat)(hd:d≤n)(o:Option Int):sIx n d o≤n:=by
 cases o with
 | none=>exact hd
 | some v=>
  show(if v < 0 then(v + (n:Int)).toNat else min v.toNat n)≤n;by_cases q:v < 0
  ·rw[Ib q];omega
  ·rw[Ia q];exact Gd _ _
theorem aCL(v:Int)(n d:Nat):(if v < 0 then max (v + (n:Int)) 0 else min v (n:Int))=((sIx n d (some v):Nat):Int):=by
 show(if v < 0 then max (v + (n:Int)) 0 else min v (n:Int))=(((if v < 0 then(v + (n:Int)).toNat else min v.toNat n):Nat):Int)
 by_cases q:v < 0
 ·simp only[Ib q];omega
 ·simp only[Ia q];omega
theorem aBQ(lo hi:Option Int)(n:Nat):El lo hi 1 (n:Int)=(((sIx n 0 lo:Nat):Int),((sIx n n hi:Nat):Int)):=by
 have h1:¬ ((1:Int) < 0):=by omega
 unfold El;simp only[h1,if_false];refine HG ?_ ?_
 ·cases lo with
  | none=>rfl
  | some v=>exact aCL v n 0
 ·cases hi with
  | none=>rfl
  | some v=>exact aCL v n n
theorem aBR(i j:Nat):Dk (i:Int) (j:Int) 1=j - i:=by
 unfold Dk;have h1:(1:Int) > 0:=by omega
 simp only[h1,if_true,Int.ediv_one];split <;> omega
theorem uJ{v:Ac}{o:Option Int}{Q:Option Int→Af→Prop}(p:Fk v o)(h:Q o s):wpAny (model prog w) A (Builtin.Slice.slicePartIndex v) Q E s:=by
 cases p with
 | none=>exact slicePart_none h
 | int i t=>exact slicePart_int h
theorem sliceApplied_gen{B:Ag}{q z:Ac}{lo hi:Option Int}{n:Nat}{Q:Int×Int×Nat→Af→Prop}(F:s.heap.IsSliceOf B q z .none)(pl:Fk q lo)(J:Fk z hi)
  (h:Q (((sIx n 0 lo:Nat):Int),1,sIx n n hi - sIx n 0 lo) s):wpAny (model prog w) A (Builtin.Slice.sliceApplied (.ref B) (pure (n:Int))) Q E s:=by
 obtain⟨os,hos,hcs,hds⟩:=id F;unfold Builtin.Slice.sliceApplied Builtin.Slice.sliceFields;refine Aa (Aa (Hw hos hds (x:=q) rfl (Aa (Hw hos hds (x:=z) rfl (Aa (Hw hos hds (x:=.none) rfl (Ae ?_)))))));refine Aa (slicePart_none ?_);show wpAny _ _ (if ((1:Int) == 0)=true then _ else _) _ _ s;rw[Ia (by decide)];refine Aa (uJ pl (Aa (uJ J (Aa (Ae ?_)))));show wpAny _ _ (match El lo hi 1 (n:Int)with | (lo,hi)=>pure (lo,(1:Int),Dk lo hi 1)) _ _ s;rw[aBQ lo hi n];show wpAny _ _ (pure (((sIx n 0 lo:Nat):Int),(1:Int),Dk ((sIx n 0 lo:Nat):Int) ((sIx n n hi:Nat):Int) 1)) _ _ s;rw[aBR];exact Ae h
theorem aET(xs:Array Ac)(i k:Nat):((AU k).filterMap fun(m:Nat)=>xs[((i:Int) + (m:Int) * 1).toNat]?).toArray=((xs.toList.drop i).take k).toArray:=by
 have e:(fun(m:Nat)=>xs[((i:Int) + (m:Int) * 1).toNat]?)=fun m=>xs[i + m]?:=by
  funext m;have:((i:Int) + (m:Int) * 1).toNat=i + m:=by omega
  rw[this]
 rw[e];have:=pick_run xs i k;rw[List.filterMap_map]at this;have q:((fun x=>xs[x]?) ∘ fun x=>i + x)=fun m=>xs[i + m]?:=rfl;rw[q]at this;rw[this]
theorem getItem_tuple_cut{t F:Ag}{z:Array Ac}{W O:Ac}{lo hi:Option Int}{Q:Ac→Af→Prop}(ht:Fc s.heap t z)(U:s.heap.IsSliceOf F W O .none)(pl:Fk W lo)(Y:Fk O hi)
  (hw:¬ (sIx z.size 0 lo=0∧sIx z.size z.size hi=z.size))
  (h:Q (.ref s.heap.objs.size) { s with heap:=s.heap.push { cls:=.type "tuple",data:=.seq ((z.toList.drop (sIx z.size 0 lo)).take (sIx z.size z.size hi - sIx z.size 0 lo)).toArray } })
  (hsz:z.size≤sizeLine):wpAny (model prog w) A (getItem (.ref t) (.ref F)) Q E s:=by
 have B:sizeOk (.seq ((z.toList.drop (sIx z.size 0 lo)).take (sIx z.size z.size hi - sIx z.size 0 lo)).toArray):=by
  show((z.toList.drop (sIx z.size 0 lo)).take (sIx z.size z.size hi - sIx z.size 0 lo)).toArray.size≤sizeLine;rw[Av,Bh,Ee,By];omega
 have hj:sIx z.size z.size hi≤z.size:=aIq _ _ (Ao _) hi;obtain⟨os,hos,hcs,hds⟩:=id U;have M:s.TypeIs (.ref F) "slice":=⟨os,hos,hcs⟩
 unfold getItem
 try with_reducible refine Bc ?_
 first | refine Aa (Ae ?_) | skip
 refine Aa (wpAny_sequenceKey ht.typeIs (by decide) ?_);refine Aa (CO (name:=Bx "__getitem__") ht.typeIs B4
  (B7 B4 ht.typeIs entry_tuple_getitem ?_ (args_tuple_getitem _ _)))
 show wpAny _ _ (Builtin.Tuple.tupleItemsOf (.ref t) >>= _) _ _ s;refine Aa (tupleItemsOf_ ht ?_);refine Aa (BR M ?_);rw[Ib (by decide)];refine Aa (sliceApplied_gen U pl Y ?_);have J:¬ ((((sIx z.size 0 lo:Nat):Int) == 0 && (1:Int) == 1 && (sIx z.size z.size hi - sIx z.size 0 lo) == z.size)=true):=by
  intro q;rw[AH,AH]at q;have Z:((sIx z.size 0 lo:Nat):Int)=0:=eq_of_beq q.1.1;have q2:sIx z.size z.size hi - sIx z.size 0 lo=z.size:=eq_of_beq q.2;exact hw ⟨by omega,by omega⟩
 show wpAny _ _ (if (((sIx z.size 0 lo:Nat):Int) == 0 && (1:Int) == 1 && (sIx z.size z.size hi - sIx z.size 0 lo) == z.size)=true then _ else _) _ _ s;rw[Ia J,aET]
 first
  | exact Aa (m:=Dq _) (BZ (Ae ⟨_,rfl,Ae h⟩) B)
  | exact Aa (m:=Dq _) (BZ (Aa (Ae (Ae ⟨_,rfl,Ae h⟩))) B)
  | exact Aa (Aa (m:=Dq _) (BZ (Ae (Ae ⟨_,rfl,Ae h⟩)) B))
  | exact Aa (Aa (m:=Dq _) (BZ (Ae ⟨_,rfl,Ae h⟩) B))
end
end HT
namespace L2
open PySem PySem.Spec PyProof.Rows
abbrev TO:=St→Hp→(Option Int→Hp→Prop)→Prop
structure PO(X:Cx)(e:Option Bw)(t:TO):Prop where
 run:
  ∀(di:Ih) (s:Af) (σ:St) (H:Hp) (Q:Option Int→Hp→Prop),Inv X di σ H s→t σ H Q→
   wpAny (model X.prog X.w) X.A (evalPart e X.env) (fun u s'=>∃ o H',Inv X di σ H' s'∧Fk u o∧Q o H') X.xe s
instance{X:Cx}{e:Option Bw}{t:TO}:CoeFun (PO X e t) (fun _=>
 ∀(di:Ih) (s:Af) (σ:St) (H:Hp) (Q:Option Int→Hp→Prop),Inv X di σ H s→t σ H Q→
  wpAny (model X.prog X.w) X.A (evalPart e X.env) (fun u s'=>∃ o H',Inv X di σ H' s'∧Fk u o∧Q o H') X.xe s):=⟨fun h=>h.run⟩
def aGQ:TO:=fun _ H Q=>Q none H
def aJB(t:TE):TO:=fun σ H Q=>t σ H fun x H1=>As V.int x fun i=>Q (some i) H1
section
variable{X:Cx}{e:Bw}{te:TE}{lo hi:Option Bw}{tl th:TO}{pos p2:Pos}
theorem iR:PO X none aGQ:=by
 constructor;intro di s σ H Q I h;rw[evalPart_none];exact Ae ⟨none,H,I,.none,h⟩
theorem iS(h:PE X e te):PO X (some e) (aJB te):=by
 constructor;intro di s σ H Q I hw;rw[evalPart_some];refine thn (h di s σ H _ I hw) fun u J ⟨x,H1,F,B,z⟩=>?_;obtain⟨i,rfl,q⟩:=z;obtain⟨t,rfl⟩:=B;exact⟨some i,H1,F,.int i t,q⟩
def SlR(X:Cx)(r:V→Option Int→Option Int→Hp→VK→Prop):Prop:=
 ∀(di:Ih) (s:Af) (σ:St) (H:Hp) (x:V) (v vl vu:Ac) (lo hi:Option Int) (sl:Ag) (Q:VK),Inv X di σ H s→c7 x v→s.heap.IsSliceOf sl vl vu .none→Fk vl lo→Fk vu hi→r x lo hi H Q→
  ∃ T id,typeLookup (.type T) "__getitem__"=pure (some (.builtin id))∧s.TypeIs v T∧wpAny (model X.prog X.w) X.A (getItem v (.ref sl)) (EP X di σ Q) X.xe s
def tSl(r:V→Option Int→Option Int→Hp→VK→Prop)(te:TE)(tl th:TO):TE:=fun σ H Q=>te σ H fun x H1=>tl σ H1 fun l H2=>th σ H2 fun u H3=>r x l u H3 Q
theorem gM{r:V→Option Int→Option Int→Hp→VK→Prop}(hr:SlR X r)(U:PE X e te)(hl:PO X lo tl)(hu:PO X hi th):PE X (.Subscript e (.Slice lo hi none p2) pos) (tSl r te tl th):=by
 constructor;intro di s σ H Q I h;refine Subscript_ (thn (U di s σ H _ I h) fun v M ⟨x,H1,I1,r1,O⟩=>?_);refine wpAny_Slice (thn (hl di M σ H1 _ I1 O) fun F Y ⟨l,H2,I2,pl,W⟩=>thn (hu di Y σ H2 _ I2 W) fun B z ⟨u,J,I3,pu,Z⟩=>?_);rw[evalPart_none];refine Ae ?_;have I4:Inv X di σ J { z with heap:=z.heap.push { cls:=.type "slice",data:=.fields #[F,B,.none] } }:=I3.kept (t':=z.toks) fun b ob q=>Ah _ q;obtain⟨T,id,hT,ht,hg⟩:=hr di { z with heap:=z.heap.push { cls:=.type "slice",data:=.fields #[F,B,.none] } } σ J x v F B l u z.heap.objs.size Q I4 r1 (Heap.IsSliceOf.new ..) pl pu Z;show wpAny (model X.prog X.w) X.A (subscriptTail e (.Slice lo hi none p2) v (.ref z.heap.objs.size)) (EP X di σ Q) X.xe { z with heap:=z.heap.push { cls:=.type "slice",data:=.fields #[F,B,.none] } };exact tail_any (ops:=[.ref z.heap.objs.size,v]) ht hT hg (by with_unfolding_all rfl)
def jZ(xs:List V)(lo hi:Option Int):List V:=(xs.drop (HT.sIx xs.length 0 lo)).take (HT.sIx xs.length xs.length hi - HT.sIx xs.length 0 lo)
theorem sK(xs:List V)(lo hi:Option Int):(jZ xs lo hi).length≤xs.length:=by
 unfold jZ;rw[Bh,Ee];omega
inductive aEU(K:Aj)(x:V)(lo:Option Int)(hi:Option Int)(H:Hp)(Q:VK):Prop
 | mk (a:_) (xs:_) (q0:x=.ref a) (q1:SqT K H a xs) (q2:¬ (HT.sIx xs.length 0 lo=0∧HT.sIx xs.length xs.length hi=xs.length)) (q3:∀ p,H p=none→Q (.ref p) (upd H p (.tup (jZ xs lo hi)))):aEU K x lo hi H Q
def aKt(K:Aj):V→Option Int→Option Int→Hp→VK→Prop:=fun x lo hi H Q=>aEU K x lo hi H Q
theorem aIr:SlR X (aKt X.K):=by
 intro di s σ H x v U O lo hi M Q I J B pl F h;obtain⟨a,xs,rfl,hx,hw,q⟩:=h;cases J;obtain⟨its,r,ht,hz⟩:=I.tuple hx;have z:its.toArray.size=xs.length:=by rw[Av];exact r.length.symm
 refine⟨"tuple",_,B4.lookup,ht.typeIs,HT.getItem_tuple_cut ht B pl F (by rw[z];exact hw) ?_ (by rw[z];exact hz)⟩;rw[z];refine⟨.ref s.heap.objs.size,_,I.laid (t':=s.toks) (o:=.tup (jZ xs lo hi)) (fun b ob q=>Ah _ q) (Ao _) ?_,rfl,q _ (I.hok.fresh (Ao _))⟩;exact⟨Bi (sK xs lo hi) hz,_,(r.drop (HT.sIx xs.length 0 lo)).take (HT.sIx xs.length xs.length hi - HT.sIx xs.length 0 lo),⟨_,Ax _ rfl,⟨rfl,_,rfl⟩,rfl⟩⟩
end
def ixN(n:Nat)(i:Int):Option Nat:=if 0≤i then(if i < n then some i.toNat else none) else if -(n:Int)≤i then some (i + n).toNat else none
def atI{α:Type}(xs:List α)(i:Int):Option α:=(ixN xs.length i).bind fun j=>xs[j]?
theorem aCM{n:Nat}{i:Int}{j:Nat}(h:ixN n i=some j):seqIndex? i n=some j∧j < n∧-(n:Int)≤i∧i < n:=by
 unfold ixN at h;by_cases q:0≤i
 ·rw[Ib q]at h;by_cases h1:i < n
  ·rw[Ib h1]at h;have e:i.toNat=j:=CD.inj h;exact⟨by rw[Hx q h1,e],by omega,by omega,h1⟩
  ·rw[Ia h1]at h;cases h
 ·rw[Ia q]at h;by_cases h1:-(n:Int)≤i
  ·rw[Ib h1]at h;have e:(i + n).toNat=j:=CD.inj h;exact⟨by rw[seqIndex_neg (by omega) h1,e],by omega,h1,by omega⟩
  ·rw[Ia h1]at h;cases h
theorem zH{α:Type}{xs:List α}{i:Int}{v:α}(h:atI xs i=some v):∃ j,seqIndex? i xs.length=some j∧xs[j]?=some v∧j < xs.length∧-(xs.length:Int)≤i∧i < xs.length:=by
 unfold atI at h;cases e:ixN xs.length i with
 | none=>rw[e]at h;cases h
 | some j=>
  rw[e]at h;obtain⟨h1,h2,h3,h4⟩:=aCM e;exact⟨j,h1,h,h2,h3,h4⟩
theorem fG{α:Type}{xs:List α}{j:Nat}{v:α}(h:xs[j]?=some v):atI xs (j:Int)=some v:=by
 have q:j < xs.length:=(AM.mp h).1;have e:ixN xs.length (j:Int)=some j:=by
  unfold ixN;rw[Ib (by omega),Ib (by omega)];simp
 unfold atI;rw[e];exact h
def aGR(b:Bw):Prop:=∀ o i,subscripted b false o i=operate [o,i] (getItem o i)
def IxR(X:Cx)(r:R2):Prop:=
 ∀(value slice:Bw) (di:Ih) (s:Af) (σ:St) (H:Hp) (x y:V) (v u:Ac) (Q:VK),Inv X di σ H s→c7 x v→c7 y u→r x y H Q→
  subscripted slice false v u=operate [v,u] (getItem v u)→wpAny (model X.prog X.w) X.A (subscriptTail value slice v u) (EP X di σ Q) X.xe s
def MtR(X:Cx)(id:String)(r:V→List V→Hp→VK→Prop):Prop:=
 ∀(di:Ih) (s:Af) (σ:St) (H:Hp) (x:V) (xs:List V) (v:Ac) (us:List Ac) (Q:VK),Inv X di σ H s→c7 x v→c0 xs us→r x xs H Q→
  wpAny (model X.prog X.w) X.A (call (.builtin id) (v :: us)) (EP X di σ Q) X.xe s
section
variable{X:Cx}{a b:Bw}{ta tb:TE}{pos:Pos}
theorem cH{r:R2}(B:IxR X r)(ha:PE X a ta)(J:PE X b tb)(F:aGR b):PE X (.Subscript a b pos) (tOp r ta tb):=by
 constructor;intro di s σ H Q I h;exact Subscript_ (aIk ha J I h fun v u z x y H2 O U M q=>B a b di z σ H2 x y v u Q O U M q (F _ _))
inductive aEV(K:Aj)(x:V)(y:V)(H:Hp)(Q:VK):Prop
 | mk (p:_) (xs:_) (i:_) (v:_) (q0:x=.ref p) (q1:y=.int i) (q2:SqL K H p xs) (q3:atI xs i=some v) (q4:Q v H):aEV K x y H Q
def aGS(K:Aj):R2:=fun x y H Q=>aEV K x y H Q
inductive aEW(K:Aj)(x:V)(y:V)(H:Hp)(Q:VK):Prop
 | mk (p:_) (xs:_) (i:_) (v:_) (q0:x=.ref p) (q1:y=.int i) (q2:SqT K H p xs) (q3:atI xs i=some v) (q4:Q v H):aEW K x y H Q
def wN(K:Aj):R2:=fun x y H Q=>aEW K x y H Q
inductive aEX(x:V)(y:V)(H:Hp)(Q:VK):Prop
 | mk (z:_) (i:_) (c:_) (q0:x=.str z) (q1:y=.int i) (q2:z.length≤sizeLine) (q3:atI z.cps.toList i=some c) (q4:Q (.str ⟨#[c]⟩) H):aEX x y H Q
def aKu:R2:=fun x y H Q=>aEX x y H Q
theorem dB:IxR X (aGS X.K):=by
 intro value F di s σ H x y v u Q I O U h M;obtain⟨p,xs,i,z,rfl,rfl,hq,he,q⟩:=h;cases O;obtain⟨t,rfl⟩:=U;obtain⟨its,r,pl,hz⟩:=I.list hq;obtain⟨j,h1,h2,h3,h4,h5⟩:=zH he;obtain⟨w,ew,rw'⟩:=r.get h2;have W:=r.length;have hn:=rD;have fin:EP X di σ Q w s:=⟨z,H,I,rw',q⟩
 by_cases J:0≤i
 ·have B:i.toNat=j:=by
   rw[Hx J h5]at h1;exact CD.inj h1
  exact item_listR pl.isList J (by omega) (by rw[B];simpa using ew) fin M
 ·have B:(i + (its.toArray.size:Int)).toNat=j:=by
   rw[seqIndex_neg (by omega) h4]at h1;rw[Av,← W];exact CD.inj h1
  exact subscriptTail_builtinR (x:=w) pl.isList.typeIs slot_list_getitem.lookup
   (wpAny_getItem_list_neg (Q:=fun r s'=>r=w∧EP X di σ Q r s') pl.isList (by omega) (by rw[Av] <;> omega) (by omega) (by rw[B];simpa using ew) ⟨rfl,fin⟩) M
theorem c5:IxR X (wN X.K):=by
 intro value B di s σ H x y v u Q I J M h F;obtain⟨p,xs,i,z,rfl,rfl,hq,he,q⟩:=h;cases J;obtain⟨t,rfl⟩:=M;obtain⟨its,r,pl,hz⟩:=I.tuple hq;obtain⟨j,h1,h2,h3,h4,h5⟩:=zH he;obtain⟨w,ew,rw'⟩:=r.get h2;have O:=r.length;have hn:=rD;have fin:EP X di σ Q w s:=⟨z,H,I,rw',q⟩
 exact subscriptTail_builtinR (x:=w) pl.typeIs slot_tuple_getitem.lookup
  (getItem_tuple (j:=j) (Q:=fun r s'=>r=w∧EP X di σ Q r s') pl (by omega) (by omega) (by rw[Av,← O];exact h1) (by simpa using ew) ⟨rfl,fin⟩) F
theorem zI:IxR X aKu:=by
 intro value B di s σ H x y v u Q I W M h J;obtain⟨z,i,c,rfl,rfl,hz,he,q⟩:=h;obtain⟨t,rfl⟩:=W;obtain⟨t',rfl⟩:=M;obtain⟨j,h1,h2,h3,h4,h5⟩:=zH he;have U:z.cps.toList.length=z.length:=by simp[Str.length]
 rw[U]at h1 h4 h5;have hn:=rD;exact tail_any (F9 s z t) slot_str_getitem.lookup (getItem_str (c:=c) (by
  have O:decide (i < -(2 ^ 63:Int))=false:=decide_eq_false (by omega);have F:decide (i ≥ 2 ^ 63)=false:=decide_eq_false (by omega);rw[O,F,Bool.or_false]) (by rw[h1];simpa using h2) ⟨.str ⟨#[c]⟩,H,I.tok _,⟨_,rfl⟩,q⟩) J
theorem aBS(its:List Ac)(n j:Nat)(u:Ac):Be (·.setIfInBounds j u) { cls:=.type "list",data:=.seq its.toArray n }={ cls:=.type "list",data:=.seq (its.set j u).toArray n }:=by
 simp[Be]
theorem Inv.lst{di:Ih}{σ:St}{H:Hp}{s:Af}{p:Ag}{xs:List V}(I:Inv X di σ H s)(h:H p=some (.lst xs)):
  ∃(its:List Ac) (n:Nat),c0 xs its∧s.heap.get? p=some { cls:=.type "list",data:=.seq its.toArray n }∧xs.length≤sizeLine:=by
 obtain⟨z,its,n,r,e⟩:=I.hok p _ h;exact⟨its,n,r,e,z⟩
theorem Inv.lstUpd{di:Ih}{σ:St}{H:Hp}{s:Af}{p:Ag}{xs ys:List V}{its its':List Ac}{n z:Nat}{f:Obj→Obj}(I:Inv X di σ H s)(h:H p=some (.lst xs))
  (F:s.heap.get? p=some { cls:=.type "list",data:=.seq its.toArray n }) (B:f { cls:=.type "list",data:=.seq its.toArray n }={ cls:=.type "list",data:=.seq its'.toArray z }) (r:c0 ys its') (hz:ys.length≤sizeLine) (t:Nat):
  Inv X di σ (upd H p (.lst ys)) { s with heap:=s.heap.update p f,toks:=t }:=by
 have e:(s.heap.update p f).get? p=some { cls:=.type "list",data:=.seq its'.toArray z }:=by
  rw[B5 f F (by rw[B] <;> rfl),B]
 refine I.write (x:=p) (e:=p) (by rw[h];trivial) (.inl rfl) (fun b u J q=>(CP _ _ (Ep J)).trans q) ⟨_,e⟩ ?_;exact⟨hz,its',z,r,e⟩
inductive aCN(o:V)(i:V)(v:V)(H:Hp)(Q:(Hp→Prop)):Prop
 | mk (p:_) (xs:_) (k:_) (j:_) (q0:o=.ref p) (q1:i=.int k) (q2:H p=some (.lst xs)) (q3:ixN xs.length k=some j) (q4:Q (upd H p (.lst (xs.set j v)))):aCN o i v H Q
def aJC:V→V→V→Hp→(Hp→Prop)→Prop:=fun o i v H Q=>aCN o i v H Q
theorem aAp:aJr X aJC:=by
 intro di s σ H o i v Y Z u Q I U O M h;obtain⟨p,xs,k,j,rfl,rfl,hp,hj,q⟩:=h;cases U;obtain⟨t,rfl⟩:=O;obtain⟨its,n,r,ho,hz⟩:=I.lst hp;obtain⟨h1,h2,h3,h4⟩:=aCM hj;have B:=r.length;have hn:=rD;have F:Inv X di σ (upd H p (.lst (xs.set j v))) { s with heap:=s.heap.update p (Be (·.setIfInBounds j u)) }:=
  I.lstUpd hp ho (aBS its n j u) (r.set M j) (by rw[Es];exact hz) s.toks
 by_cases J:0≤k
 ·have z:k.toNat=j:=by
   rw[Hx J h4]at h1;exact CD.inj h1
  exact PySem.W.ki_setAt ho J (by omega) (by rw[Av,← B];exact h4) (by rw[z];exact⟨_,F,q⟩)
 ·have z:(k + (its.toArray.size:Int)).toNat=j:=by
   rw[seqIndex_neg (by omega) h3]at h1;rw[Av,← B];exact CD.inj h1
  exact PySem.W.ki_setBack ho (by omega) (by rw[Av,← B];exact h3) (by omega) (by rw[z];exact⟨_,F,q⟩)
theorem zJ(lo hi:Option Int)(n:Nat):(sliceBounds lo hi none n).1=((HT.sIx n 0 lo:Nat):Int)∧(sliceBounds lo hi none n).2.1=((HT.sIx n n hi:Nat):Int)∧(sliceBounds lo hi none n).2.2=1:=by
 refine⟨?_,?_,rfl⟩
 ·cases lo with
  | none=>simp[sliceBounds,HT.sIx]
  | some i=>
   simp only[sliceBounds,HT.sIx,Option.getD_none,show(1:Int) > 0 by decide,if_true];by_cases h:i < 0
   ·simp only[h,if_true] <;> omega
   ·simp only[h,if_false] <;> omega
 ·cases hi with
  | none=>simp[sliceBounds,HT.sIx]
  | some i=>
   simp only[sliceBounds,HT.sIx,Option.getD_none,show(1:Int) > 0 by decide,if_true];by_cases h:i < 0
   ·simp only[h,if_true] <;> omega
   ·simp only[h,if_false] <;> omega
theorem wO(its:List Ac)(lo hi:Option Int):slicePick its.toArray lo hi none=((its.drop (HT.sIx its.length 0 lo)).take (HT.sIx its.length its.length hi - HT.sIx its.length 0 lo)).toArray:=by
 obtain⟨h1,h2,h3⟩:=zJ lo hi its.toArray.size;unfold slicePick;rw[h1,h2,h3];simp only[sliceRange_one,pick_run,Av] <;> rfl
inductive aEY(K:Aj)(x:V)(lo:Option Int)(hi:Option Int)(H:Hp)(Q:VK):Prop
 | mk (a:_) (xs:_) (q0:x=.ref a) (q1:SqL K H a xs) (q2:∀ p,H p=none→Q (.ref p) (upd H p (.lst (jZ xs lo hi)))):aEY K x lo hi H Q
def aKv(K:Aj):V→Option Int→Option Int→Hp→VK→Prop:=fun x lo hi H Q=>aEY K x lo hi H Q
theorem oE:SlR X (aKv X.K):=by
 intro di s σ H x v U O lo hi M Q I J B pl F h;obtain⟨a,xs,rfl,hx,q⟩:=h;cases J;obtain⟨its,r,ht,hz⟩:=I.list hx;have z:=r.length;refine⟨"list",_,slot_list_getitem.lookup,ht.isList.typeIs,wpAny_getItem_list_slice ht.isList B pl F .none (by simp) ?_ (by rw[Av] <;> omega)⟩;rw[wO,← z];refine⟨.ref s.heap.objs.size,_,I.laid (t':=s.toks) (o:=.lst (jZ xs lo hi)) (fun b ob q=>Ah _ q) (Ao _) ?_,rfl,q _ (I.hok.fresh (Ao _))⟩;exact⟨Bi (sK xs lo hi) hz,_,0,(r.drop (HT.sIx xs.length 0 lo)).take (HT.sIx xs.length xs.length hi - HT.sIx xs.length 0 lo),Ax _ rfl⟩
def iV:V→Bool
 | .non=>true
 | .bl _=>true
 | .int _=>true
 | .str _=>true
 | _=>false
def eqV:V→V→Bool
 | .non,.non=>true
 | .bl a,.bl b=>a == b
 | .bl a,.int b=>(if a then 1 else 0) == b
 | .int a,.bl b=>a == (if b then 1 else 0)
 | .int a,.int b=>a == b
 | .str a,.str b=>a == b
 | _,_=>false
theorem rH{A:AW}{s:Af}{y x:V}{u v:Ac}(z:c7 y u)(q:c7 x v)(F:iV y=true)(B:iV x=true):FA A s u v (eqV y x):=by
 cases y with
 | non=>
  cases z;cases x with
  | non=>cases q;exact EJ _
  | bl b=>cases q;exact SeqAt.EqAt.none_bool b
  | int b=>obtain⟨t,rfl⟩:=q;exact SeqAt.EqAt.none_int b t
  | str b=>obtain⟨t,rfl⟩:=q;exact SeqAt.EqAt.none_str b t
  | _=>exact absurd (show false=true from B) AD
 | bl a=>
  cases z;cases x with
  | non=>cases q;exact SeqAt.EqAt.bool_none a
  | bl b=>cases q;exact SeqAt.EqAt.bool_bool a b
  | int b=>obtain⟨t,rfl⟩:=q;exact SeqAt.EqAt.bool_int a b t
  | str b=>obtain⟨t,rfl⟩:=q;exact SeqAt.EqAt.bool_str a b t
  | _=>exact absurd (show false=true from B) AD
 | int a=>
  obtain⟨t',rfl⟩:=z;cases x with
  | non=>cases q;exact SeqAt.EqAt.int_none a t'
  | bl b=>cases q;exact SeqAt.EqAt.int_bool a t' b
  | int b=>obtain⟨t,rfl⟩:=q;exact SeqAt.EqAt.int_int a t' b t
  | str b=>obtain⟨t,rfl⟩:=q;exact SeqAt.EqAt.int_str a t' b t
  | _=>exact absurd (show false=true from B) AD
 | str a=>
  obtain⟨t',rfl⟩:=z;cases x with
  | non=>cases q;exact SeqAt.EqAt.str_none a t'
  | bl b=>cases q;exact SeqAt.EqAt.str_bool a t' b
  | int b=>obtain⟨t,rfl⟩:=q;exact SeqAt.EqAt.str_int a t' b t
  | str b=>obtain⟨t,rfl⟩:=q;exact E9 a t' b t
  | _=>exact absurd (show false=true from B) AD
 | _=>exact absurd (show false=true from F) AD
def eqU(x:V)(u:Ac):Bool:=match u with
 | .none=>eqV .non x
 | .bool b=>eqV (.bl b) x
 | .int i _=>eqV (.int i) x
 | .str z _=>eqV (.str z) x
 | _=>false
theorem aEZ{x y:V}{u:Ac}(r:c7 y u)(f:iV y=true):eqU x u=eqV y x:=by
 cases y with
 | non=>cases r;rfl
 | bl b=>cases r;rfl
 | int i=>obtain⟨t,rfl⟩:=r;rfl
 | str z=>obtain⟨t,rfl⟩:=r;rfl
 | _=>exact absurd (show false=true from f) AD
theorem pV{x:V}:∀{xs:List V}{us:List Ac},c0 xs us→xs.all iV=true→us.any (eqU x)=xs.any fun y=>eqV y x
 | _,_,.nil,_=>rfl
 | y :: xs,u :: us,.cons r t,f=>by
  rw[CF,AH]at f;rw[ET,ET,aEZ r f.1,pV t f.2]
theorem nV{A:AW}{s:Af}{x:V}{v:Ac}(B:c7 x v)(z:iV x=true):∀{xs:List V}{us:List Ac},c0 xs us→xs.all iV=true→∀ u∈us,FA A s u v (eqU x u)
 | _,_,.nil,_=>fun u q=>by cases q
 | y :: xs,u :: us,.cons r t,f=>fun F q=>by
  rw[CF,AH]at f;rcases An.mp q with rfl | q
  ·rw[aEZ r f.1];exact rH r B f.1 z
  ·exact nV B z t f.2 F q
def inV(x:V)(xs:List V):Bool:=xs.any fun y=>eqV y x
inductive aHP(K:Aj)(neg:Bool)(x:V)(y:V)(H:Hp)(Q:VK):Prop
 | mk (p:_) (xs:_) (q0:y=.ref p) (q1:(SqL K H p xs∨SqT K H p xs)) (q2:iV x=true) (q3:xs.all iV=true) (q4:Q (.bl (if neg then !inV x xs else inV x xs)) H):aHP K neg x y H Q
def rIn(K:Aj)(neg:Bool):R2:=fun x y H Q=>aHP K neg x y H Q
theorem xC:OpR X (compareOp .In) (rIn X.K false):=by
 intro di s σ H x y v u Q I B F h;obtain⟨p,xs,rfl,z,fx,fs,q⟩:=h;cases F;rcases z with z | z
 ·obtain⟨its,r,pl,hz⟩:=I.list z;refine SeqAt.in_listAt (eqU x) pl.isList (fun w hw=>nV B fx r fs w (by simpa using hw)) ⟨.bl _,H,I,rfl,?_⟩;rw[show its.toArray.any (eqU x)=its.any (eqU x) by simp,pV r fs];exact q
 ·obtain⟨its,r,pl,hz⟩:=I.tuple z;refine SeqAt.in_tupleAt (eqU x) pl (fun w hw=>nV B fx r fs w (by simpa using hw)) ⟨.bl _,H,I,rfl,?_⟩;rw[show its.toArray.any (eqU x)=its.any (eqU x) by simp,pV r fs];exact q
theorem i6:OpR X (compareOp .NotIn) (rIn X.K true):=by
 intro di s σ H x y v u Q I B F h;obtain⟨p,xs,rfl,z,fx,fs,q⟩:=h;cases F;rcases z with z | z
 ·obtain⟨its,r,pl,hz⟩:=I.list z;refine SeqAt.notIn_listAt (eqU x) pl.isList (fun w hw=>nV B fx r fs w (by simpa using hw)) ⟨.bl _,H,I,rfl,?_⟩;rw[show its.toArray.any (eqU x)=its.any (eqU x) by simp,pV r fs];exact q
 ·obtain⟨its,r,pl,hz⟩:=I.tuple z;refine SeqAt.notIn_tupleAt (eqU x) pl (fun w hw=>nV B fx r fs w (by simpa using hw)) ⟨.bl _,H,I,rfl,?_⟩;rw[show its.toArray.any (eqU x)=its.any (eqU x) by simp,pV r fs];exact q
inductive lA(K:Aj)(xs:List V)(H:Hp)(Q:VK):Prop
 | mk (p:_) (ys:_) (q0:xs=[.ref p]) (q1:(SqL K H p ys∨SqT K H p ys)) (q2:Q (.int ys.length) H):lA K xs H Q
def fZ(K:Aj):List V→Hp→VK→Prop:=fun xs H Q=>lA K xs H Q
theorem bE:fX X (.builtin "len") (fZ X.K):=by
 intro di s σ H xs us Q I r h;obtain⟨p,ys,rfl,B,q⟩:=h;obtain⟨u,rfl,rx⟩:=fY r;cases rx;have hn:=rD;rcases B with B | B
 ·obtain⟨its,r',pl,hz⟩:=I.list B;have z:=r'.length;exact Calls.call_len_list pl.isList (by simp only[Av] <;> omega) ⟨.int ys.length,H,I.tok _,⟨s.toks + 1,by rw[Av,z]⟩,q⟩
 ·obtain⟨its,r',pl,hz⟩:=I.tuple B;have z:=r'.length;exact len_tuple pl (by simp only[Av] <;> omega) ⟨.int ys.length,H,I.tok _,⟨s.toks + 1,by rw[Av,z]⟩,q⟩
inductive lC(xs:List V)(H:Hp)(Q:VK):Prop
 | mk (z:_) (q0:xs=[.str z]) (q1:z.length≤sizeLine) (q2:Q (.int z.length) H):lC xs H Q
def uK:List V→Hp→VK→Prop:=fun xs H Q=>lC xs H Q
theorem pW:fX X (.builtin "len") uK:=by
 intro di s σ H xs us Q I r h;obtain⟨z,rfl,hz,q⟩:=h;obtain⟨u,rfl,t,rfl⟩:=fY r;have hn:=rD;exact len_str (by omega) ⟨.int z.length,H,I.tok _,⟨_,rfl⟩,q⟩
inductive lG(K:Aj)(xs:List V)(H:Hp)(Q:VK):Prop
 | mk (p:_) (ys:_) (q0:xs=[.ref p]) (q1:(SqL K H p ys∨SqT K H p ys)) (q2:∀ l,H l=none→Q (.ref l) (upd H l (.lst ys))):lG K xs H Q
def jN(K:Aj):List V→Hp→VK→Prop:=fun xs H Q=>lG K xs H Q
theorem eD:fX X (.type "list") (jN X.K):=by
 intro di s σ H xs us Q I r h;obtain⟨p,ys,rfl,J,q⟩:=h;obtain⟨u,rfl,rx⟩:=fY r;cases rx;have fin:∀(z:List Ac),c0 ys z→ys.length≤sizeLine→∀(h':Bp) (B:Nat),(∀ b o',s.heap.get? b=some o'→h'.get? b=some o')→
   h'.get? s.heap.objs.size=some { cls:=.type "list",dict:=none,data:=.seq z.toArray B,slots:=#[] }→EP X di σ Q (.ref s.heap.objs.size) { s with heap:=h' }:=fun z F hz h' B kp e=>
  ⟨.ref s.heap.objs.size,_,I.laid (t':=s.toks) kp (Ao _) (show dC X.prog X.w _ h' _ (.lst ys) from⟨hz,z,B,F,e⟩),rfl,q _ (I.hok.fresh (Ao _))⟩
 rcases J with J | J
 ·obtain⟨z,F,pl,hz⟩:=I.list J;have M:=F.length;obtain⟨o,ho,hc,n,hd⟩:=pl.isList;exact call_list_seq p (.inl rfl) ho hc hd (fun h' B kp e=>fin z F hz h' B kp e) (by simp only[Av] <;> omega)
 ·obtain⟨z,F,pl,hz⟩:=I.tuple J;have M:=F.length;obtain⟨o,ho,hc,n,hd⟩:=pl;exact call_list_seq p (.inr rfl) ho hc hd (fun h' B kp e=>fin z F hz h' B kp e) (by simp only[Av] <;> omega)
inductive j5(K:Aj)(xs:List V)(H:Hp)(Q:VK):Prop
 | mk (p:_) (ys:_) (q0:xs=[.ref p]) (q1:((SqL K H p ys∧∀ l,H l=none→Q (.ref l) (upd H l (.tup ys)))∨(SqT K H p ys∧Q (.ref p) H))):j5 K xs H Q
def tU(K:Aj):List V→Hp→VK→Prop:=fun xs H Q=>j5 K xs H Q
theorem cX:fX X (.type "tuple") (tU X.K):=by
 intro di s σ H xs us Q I r h;obtain⟨p,ys,rfl,h⟩:=h;obtain⟨u,rfl,rx⟩:=fY r;cases rx;rcases h with⟨hq,q⟩ | ⟨hq,q⟩
 ·obtain⟨its,r',pl,hz⟩:=I.list hq;have z:=r'.length;refine call_tuple_list pl.isList (fun h' kp=>?_) (by simp only[Av] <;> omega);have B:Inv X di σ H { s with heap:=h' }:=I.kept (t':=s.toks) kp;have F:Inv X di σ (upd H h'.objs.size (.tup ys)) { s with heap:=h'.push { cls:=.type "tuple",data:=.seq its.toArray } }:=
   B.laid (t':=s.toks) (fun b o e=>Ah _ e) (Ao _) (show dC X.prog X.w _ _ _ (.tup ys) from⟨hz,its,r',⟨_,Ax _ rfl,⟨rfl,_,rfl⟩,rfl⟩⟩)
  exact⟨.ref h'.objs.size,_,F,rfl,q _ (B.hok.fresh (Ao _))⟩
 ·obtain⟨its,r',pl,hz⟩:=I.tuple hq;exact call_tuple_same pl ⟨.ref p,H,I,rfl,q⟩
def tyV(K:Aj)(T:String)(x:V)(H:Hp):Prop:=match x with
 | .str _=>T="str"
 | .int _=>T="int"
 | .ref p=>(T="list"∧∃ xs,SqL K H p xs)∨(T="tuple"∧∃ o,K.lookup p=some o∧o.cls=.type "tuple"∧o.dict=none)∨
   (T="dict"∧((∃ fh,H p=some (.dK fh))∨∃ fh,H p=some (.dT fh)))∨(T="set"∧∃ S n,H p=some (.set S n))∨(T="tuple"∧∃ xs,H p=some (.tup xs))
 | _=>False
theorem aIs{di:Ih}{σ:St}{H:Hp}{s:Af}{T:String}{x:V}{v:Ac}(I:Inv X di σ H s)(r:c7 x v)(ty:tyV X.K T x H):
  s.TypeIs v T∧∀ a,v=.ref a→∃ ob,s.heap.get? a=some ob∧ob.dict=none:=by
 cases x with
 | str z=>
  obtain⟨t,rfl⟩:=r;cases(show T="str" from ty);exact⟨F9 s z t,fun _ e=>nomatch e⟩
 | int i=>
  obtain⟨t,rfl⟩:=r;cases(show T="int" from ty);exact⟨typeIs_int s i t,fun _ e=>nomatch e⟩
 | ref p=>
  cases r;rcases ty with⟨rfl,xs,hq⟩ | ⟨rfl,o,hk,hc,hd⟩ | ⟨rfl,hk⟩ | ⟨rfl,S,n,hk⟩ | ⟨rfl,xs,hq⟩
  ·obtain⟨its,_,pl,_⟩:=I.list hq;refine⟨pl.isList.typeIs,fun a e=>?_⟩;cases e;obtain⟨o,n,e,c,hd,_⟩:=pl;exact⟨o,e,hd⟩
  ·refine⟨⟨o,I.kIn p o hk,hc⟩,fun a e=>?_⟩;cases e;exact⟨o,I.kIn _ o hk,hd⟩
  ·have z:∃ o,s.heap.get? p=some o∧o.ExactDict:=by
    rcases hk with⟨fh,hk⟩ | ⟨fh,hk⟩
    ·obtain⟨_,_,_,_,o,_,_,e,ex,_⟩:=I.hok p _ hk;exact⟨o,e,ex⟩
    ·obtain⟨_,_,_,_,o,_,_,e,ex,_⟩:=I.hok p _ hk;exact⟨o,e,ex⟩
   obtain⟨o,e,ex⟩:=z;refine⟨⟨o,e,ex.1⟩,fun a q=>?_⟩;cases q;exact⟨o,e,ex.2.1⟩
  ·obtain⟨o,_,_,_,e,ex,_⟩:=I.hok p _ hk;refine⟨⟨o,e,ex.1⟩,fun a q=>?_⟩;cases q;exact⟨o,e,ex.2.1⟩
  ·obtain⟨_,_,_,o,e,⟨c,_⟩,hd⟩:=(show dC X.prog X.w H s.heap p (.tup xs) from I.hok p _ hq)
   refine⟨⟨o,e,c⟩,fun a q=>?_⟩;cases q;exact⟨o,e,hd⟩
 | _=>exact CK ty
def tBM(K:Aj)(T:String)(r:V→List V→Hp→VK→Prop)(to:TE)(t:TA):TE:=fun σ H Q=>to σ H fun x H1=>tyV K T x H1∧t σ H1 fun xs H2=>r x xs H2 Q
variable{o e:Bw}{es:List Bw}{to:TE}{t:TA}{name:Str}{fw ft:Pos}{T id:String}{r:V→List V→Hp→VK→Prop}
theorem sU(pa:PlainAttrs T)(slot:Slot T name id)(J:typeOf (.builtin id)=pure (.type "method_descriptor"))(hm:MtR X id r)(Z:PE X o to)(ha:PA X (e :: es) t)
  (z:attributeBase o name X.env (eval o X.env)=eval o X.env:=by rfl)
  (F:((backTo ft (starEach (e :: es) X.env)).all (fun x=>!x.1) && (backToKw ft (keywordEach [] X.env)).all (fun x=>x.1.isSome)
   && decide ((e :: es).length + ([]:List EN).length + (if ([]:List EN).isEmpty then 0 else 1) < 30))=true:=by rfl)
  (B:(fw.endLine == ft.line)=true:=by rfl) (hs:starEach (e :: es) X.env=(false,eval e X.env) :: starEach es X.env:=by rfl) (q:(backTo ft (starEach es X.env)).any (·.1)=false:=by rfl):
  PE X (.Call (.Attribute o name fw) (e :: es) [] ft) (tBM X.K T r to t):=by
 constructor;intro di s σ H Q I h;refine wpAny_Call_method_late z F B rfl (thn (Z di s σ H _ I h) fun v W ⟨x,H1,U,M,ty,Y⟩=>?_);obtain⟨h1,h2⟩:=aIs U M ty;refine⟨T,id,pa,slot,J,h1,h2,?_⟩;have O:=ha ft di W σ H1 _ U Y;rw[hs]at O ⊢;refine DW (by show(false || (backTo ft (starEach es X.env)).any (·.1))=false;rw[q] <;> rfl) (Fd ?_)
 exact thn O fun us s2 ⟨vs,H2,I2,r2,q2⟩=>hm di s2 σ H2 x vs v us Q I2 M r2 q2
end
def MtM(X:Cx)(id:String)(r:V→List V→Hp→VK→Prop):Prop:=
 ∀(di:Ih) (s:Af) (σ:St) (H:Hp) (x:V) (xs:List V) (v:Ac) (us:List Ac) (Q:VK),Inv X di σ H s→c7 x v→c0 xs us→r x xs H Q→
  wpAny (model X.prog X.w) X.A (call (.builtin id) (v :: us)) (EP X di σ Q) X.xe s
theorem c0.one:∀{x:V}{us:List Ac},c0 [x] us→∃ u,us=[u]∧c7 x u
 | _,_,.cons r .nil=>⟨_,rfl,r⟩
theorem c0.eraseIdx:∀{xs:List V}{us:List Ac} (i:Nat),c0 xs us→c0 (xs.eraseIdx i) (us.eraseIdx i)
 | _,_,_,.nil=>.nil
 | _,_,0,.cons _ t=>t
 | _,_,i + 1,.cons r t=>.cons r (c0.eraseIdx i t)
theorem xD{α:Type}:∀(l:List α) (i:Nat),(l.eraseIdx i).length≤l.length
 | [],_=>Ao _
 | _ :: _,0=>C6 _
 | _ :: r,i + 1=>Gc (xD r i)
section
variable{X:Cx}{di:Ih}{σ:St}{H:Hp}{s:Af}{l b:Ag}{xs ys zs:List V}
theorem Inv.lset{its its':List Ac}{n:Nat}{f:Array Ac→Array Ac}{t':Nat}(I:Inv X di σ H s)(J:H l=some (.lst xs))
  (e:s.heap.get? l=some { cls:=.type "list",data:=.seq its.toArray n }) (F:f its.toArray=its'.toArray) (B:c0 ys its') (hz:ys.length≤sizeLine):
  Inv X di σ (upd H l (.lst ys)) { s with heap:=s.heap.update l (Be f),toks:=t' }:=by
 have q:=PySem.IsL.update e f;rw[F]at q;refine I.write (x:=l) (e:=l) (by rw[J];exact trivial) (.inl rfl) (fun O u M z=>(CP s.heap (Be f) (Ep M)).trans z) ⟨_,q⟩ ?_;exact⟨hz,its',_,B,q⟩
theorem Inv.lnew{its:List Ac}{t':Nat}(I:Inv X di σ H s)(z:c0 ys its)(hz:ys.length≤sizeLine):
  Inv X di σ (upd H s.heap.objs.size (.lst ys)) { s with heap:=s.heap.push { cls:=.type "list",data:=.seq its.toArray },toks:=t' }:=
 I.laid (fun _ _ q=>Ah _ q) (Ao _) ⟨hz,its,0,z,Ax _ rfl⟩
theorem Inv.fresh(I:Inv X di σ H s):H s.heap.objs.size=none:=I.hok.fresh (Ao _)
theorem Inv.lstM(I:Inv X di σ H s)(q:H l=some (.lst xs)):xs.length≤sizeLine∧∃(its:List Ac) (n:Nat),c0 xs its∧xs.length=its.length∧s.heap.get? l=some { cls:=.type "list",data:=.seq its.toArray n }:=by
 obtain⟨z,its,n,r,e⟩:=I.hok l _ q;exact⟨z,its,n,r,r.length,e⟩
end
section
variable{X:Cx}
inductive xF(x:V)(vs:List V)(H:Hp)(Q:VK):Prop
 | mk (l:_) (xs:_) (y:_) (q0:x=.ref l) (q1:vs=[y]) (q2:H l=some (.lst xs)) (q3:xs.length < sizeLine) (q4:Q .non (upd H l (.lst (xs ++ [y])))):xF x vs H Q
def aGT:V→List V→Hp→VK→Prop:=fun x vs H Q=>xF x vs H Q
theorem jB:MtM X "list.append" aGT:=by
 intro di s σ H x vs v us Q I J B h;obtain⟨l,xs,y,rfl,rfl,hH,hz,q⟩:=h;cases J;obtain⟨u,rfl,ru⟩:=B.one;obtain⟨z,its,n,r,hl,e⟩:=I.lstM hH;refine call_meets F.slot_list_append ⟨_,e,rfl⟩ F.entry_list_append (F.args_list_append_2 _ _) (PySem.list_append l its.toArray n u (by rw[Av];omega)) ⟨e,?_⟩;refine⟨.non,_,I.lset (its':=its ++ [u]) hH e (by simp) (r.append (.cons ru .nil)) ?_,rfl,q⟩;rw[Au,Fb];omega
inductive aAq(x:V)(vs:List V)(H:Hp)(Q:VK):Prop
 | mk (l:_) (xs:_) (i:_) (k:_) (y:_) (q0:x=.ref l) (q1:vs=[.int i]) (q2:H l=some (.lst xs)) (q3:-(2 ^ 63)≤i) (q4:i < 2 ^ 63) (q5:seqIndex? i xs.length=some k) (q6:xs[k]?=some y) (q7:Q y (upd H l (.lst (xs.eraseIdx k)))):aAq x vs H Q
def aIt:V→List V→Hp→VK→Prop:=fun x vs H Q=>aAq x vs H Q
theorem aAr:MtM X "list.pop" aIt:=by
 intro di s σ H x vs v us Q I J B h;obtain⟨l,xs,i,k,y,rfl,rfl,hH,h1,h2,hk,hy,q⟩:=h;cases J;obtain⟨u,rfl,ru⟩:=B.one;obtain⟨t,rfl⟩:=ru;obtain⟨z,its,n,r,hl,e⟩:=I.lstM hH;obtain⟨w,hw,rw'⟩:=r.get hy;refine call_meets F.slot_list_pop ⟨_,e,rfl⟩ F.entry_list_pop (F.args_list_pop_2 _ _)
  (MeetsSeq.list_pop_at l its.toArray n i t k w (fitsIndex_both h1 h2) (by rw[Av,← hl];exact hk) (by rw[← Dm];exact hw) (by rw[Av];omega)) ⟨e,?_⟩
 refine⟨y,_,I.lset (its':=its.eraseIdx k) hH e ?_ (r.eraseIdx k) ?_,rw',q⟩
 ·show its.toArray.eraseIdxIfInBounds k=(its.eraseIdx k).toArray;rw[List.eraseIdxIfInBounds_toArray]
 ·have:=xD xs k;omega
inductive aE0(x:V)(y:V)(H:Hp)(Q:VK):Prop
 | mk (l:_) (b:_) (xs:_) (zs:_) (q0:x=.ref l) (q1:y=.ref b) (q2:H l=some (.lst xs)) (q3:H b=some (.lst zs)) (q4:xs.length + zs.length≤sizeLine) (q5:∀ p,H p=none→Q (.ref p) (upd H p (.lst (xs ++ zs)))):aE0 x y H Q
def aKw:R2:=fun x y H Q=>aE0 x y H Q
theorem aBT:OpR X (binaryOp .Add) aKw:=by
 intro di s σ H x y v u Q I J B h;obtain⟨l,b,xs,zs,rfl,rfl,hH,hB,hz,q⟩:=h;cases J;cases B;obtain⟨z,its,n,r,hl,e⟩:=I.lstM hH;obtain⟨z2,its2,n2,r2,hl2,e2⟩:=I.lstM hB;refine PySem.P.add_list e e2 ?_ (by rw[Av,Av];omega);have F:its.toArray ++ its2.toArray=(its ++ its2).toArray:=by simp
 rw[F];exact⟨.ref _,_,I.lnew (t':=s.toks) (r.append r2) (by rw[Au];omega),rfl,q _ I.fresh⟩
end
section
variable{prog:AG}{w:A2}{A:AW}{E:Ac→Af→Prop}{s:Af}
end
section
variable{X:Cx}
end
section
variable{κ:Type}[DecidableEq κ]
def fQ(fh:List (κ×V))(k:κ):Option V:=(fh.find? fun kv=>decide (kv.1=k)).map (·.2)
def gG(fh:List (κ×V))(k:κ)(v:V):List (κ×V):=
 if (fh.any fun kv=>decide (kv.1=k))=true then fh.map (fun kv=>if kv.1=k then(kv.1,v) else kv) else fh ++ [(k,v)]
def aKO(fh:List (κ×V))(k:κ):List (κ×V):=fh.filter fun kv=>decide (kv.1≠k)
theorem uL{k:κ}:fQ ([]:List (κ×V)) k=none:=rfl
theorem lH{p:κ×V}{r:List (κ×V)}{k:κ}(e:p.1=k):fQ (p :: r) k=some p.2:=by simp[fQ,DM,e]
theorem dX{p:κ×V}{r:List (κ×V)}{k:κ}(e:¬ p.1=k):fQ (p :: r) k=fQ r k:=by simp[fQ,DM,e]
theorem uM(k:κ):∀ fh:List (κ×V),(fh.any fun q=>decide (q.1=k))=(fQ fh k).isSome
 | []=>rfl
 | p :: r=>by
  rw[ET];by_cases e:p.1=k
  ·simp only[lH e,Ic e,Bool.true_or,Option.isSome_some]
  ·rw[dX e,decide_eq_false e,Bool.false_or];exact uM k r
theorem j6(fh:List (κ×V))(k:κ)(v:V):(gG fh k v).length≤fh.length + 1:=by
 unfold gG;split
 ·rw[Ad];omega
 ·rw[Au,A5,DL];omega
theorem uN{fh:List (κ×V)}{k:κ}(v:V)(h:fQ fh k=none):gG fh k v=fh ++ [(k,v)]:=by
 unfold gG;rw[uM,h];exact Ia (by decide)
theorem oV.isSome_eq{o:Option V}{u:Option Ac}(r:oV o u):o.isSome=u.isSome:=by
 cases o with
 | none=>cases u with
  | none=>rfl
  | some _=>exact(show False from r).elim
 | some _=>cases u with
  | none=>exact(show False from r).elim
  | some _=>rfl
theorem oV.getD{o:Option V}{u:Option Ac}{d:V}{d':Ac}(r:oV o u)(rd:c7 d d'):c7 (o.getD d) (u.getD d'):=by
 cases o with
 | none=>cases u with
  | none=>exact rd
  | some _=>exact(show False from r).elim
 | some _=>cases u with
  | none=>exact(show False from r).elim
  | some _=>exact r
theorem KV.val{fh:List (κ×V)}{vs:List (κ×Ac)}(r:KV fh vs)(k:κ):oV (fQ fh k) (valueAt vs k):=by
 unfold KV at r
 induction r with
 | nil=>exact Cj
 | @cons p q ps qs h t F=>
  obtain⟨h1,h2⟩:=h;by_cases e:p.1=k
  ·have B:q.1=k:=h1.symm.trans e;have b:valueAt (q :: qs) k=some q.2:=by simp[valueAt,DM,B]
   rw[lH e,b];exact h2
  ·have B:¬ q.1=k:=fun z=>e (h1.trans z);have b:valueAt (q :: qs) k=valueAt qs k:=by simp[valueAt,DM,B]
   rw[dX e,b];exact F
theorem KV.any{fh:List (κ×V)}{vs:List (κ×Ac)}(r:KV fh vs)(k:κ):(fh.any fun q=>decide (q.1=k))=vs.any fun q=>decide (q.1=k):=by
 unfold KV at r
 induction r with
 | nil=>rfl
 | cons h t z=>rw[ET,ET,z,h.1]
theorem KV.repl{fh:List (κ×V)}{vs:List (κ×Ac)}(r:KV fh vs)(k:κ){y:V}{u:Ac}(J:c7 y u):
  KV (fh.map fun B=>if B.1=k then(B.1,y) else B) (vs.map fun B=>if B.1=k then(B.1,u) else B):=by
 unfold KV at r ⊢
 induction r with
 | nil=>exact .nil
 | @cons p q ps qs h t F=>
  rw[A4,A4];refine .cons ?_ F;obtain⟨h1,h2⟩:=h;by_cases e:p.1=k
  ·rw[Ib e,Ib (h1.symm.trans e)];exact⟨h1,J⟩
  ·rw[Ia e,Ia (fun z=>e (h1.trans z))];exact⟨h1,h2⟩
theorem KV.put{fh:List (κ×V)}{vs:List (κ×Ac)}(r:KV fh vs)(k:κ){y:V}{u:Ac}(q:c7 y u):KV (gG fh k y) (stored vs k u):=by
 unfold gG stored;rw[r.any k];by_cases e:(vs.any fun z=>decide (z.1=k))=true
 ·rw[Ib e,Ib e];exact r.repl k q
 ·rw[Ia e,Ia e];exact Paired.snoc r ⟨rfl,q⟩
theorem KV.length{fh:List (κ×V)}{vs:List (κ×Ac)}(r:KV fh vs):fh.length=vs.length:=Gw r
end
theorem sV{P:AG}{w:A2}{k:Key}{u:Ac}(r:c7 (kV k) u):(c9 P w).is k u=true:=by
 cases k with
 | inl i=>obtain⟨t,e⟩:=(show∃ t,u=Cm i t from r);subst e;exact aAh P w i t
 | inr x=>obtain⟨t,e⟩:=(show∃ t,u=BE x t from r);subst e;exact aAi P w x t
theorem xG{P:AG}{w:A2}:∀{ks:List Key}{us:List Ac},c0 (ks.map kV) us→ItemsAre (c9 P w) ks us
 | [],_,r=>by rw[EA]at r;cases r;exact .nil
 | k :: ks,_,r=>by
  rw[A4]at r;cases r with
  | cons h t=>exact .cons (sV h) (xG t)
abbrev KT(H:Hp):List (List Key×V)→List (List Key×Ag×Ac)→Prop:=GE fun p q=>p.1=q.1∧H q.2.1=some (.tup (p.1.map kV))∧c7 p.2 q.2.2
theorem KT.val{H:Hp}{fh:List (List Key×V)}{xs:List (List Key×Ag×Ac)}(r:KT H fh xs)(k:List Key):oV (fQ fh k) ((atKey xs k).map (·.2)):=by
 induction r with
 | nil=>exact Cj
 | @cons p q ps qs h t F=>
  obtain⟨h1,_,h2⟩:=h;by_cases e:p.1=k
  ·have B:q.1=k:=h1.symm.trans e;have b:atKey (q :: qs) k=some q.2:=by simp[atKey,DM,B]
   rw[lH e,b];exact h2
  ·have B:¬ q.1=k:=fun z=>e (h1.trans z);have b:atKey (q :: qs) k=atKey qs k:=by simp[atKey,DM,B]
   rw[dX e,b];exact F
theorem KT.repl{H:Hp}{fh:List (List Key×V)}{xs:List (List Key×Ag×Ac)}(r:KT H fh xs)(k:List Key){y:V}{u:Ac}(J:c7 y u):
  KT H (fh.map fun B=>if B.1=k then(B.1,y) else B) (xs.map (putAt k u)):=by
 induction r with
 | nil=>exact .nil
 | @cons p q ps qs h t F=>
  rw[A4,A4];refine .cons ?_ F;obtain⟨h1,h2,h3⟩:=h;unfold putAt;by_cases e:p.1=k
  ·rw[Ib e,Ib (h1.symm.trans e)];exact⟨h1,h2,J⟩
  ·rw[Ia e,Ia (fun z=>e (h1.trans z))];exact⟨h1,h2,h3⟩
theorem KT.put{H:Hp}{fh:List (List Key×V)}{xs:List (List Key×Ag×Ac)}(r:KT H fh xs)(k:List Key){b:Ag}{y:V}{u:Ac}(B:H b=some (.tup (k.map kV)))(z:c7 y u):
  KT H (gG fh k y) (storedH xs k b u):=by
 have e:(fh.any fun F=>decide (F.1=k))=(atKey xs k).isSome:=by
  rw[uM,(r.val k).isSome_eq,Option.isSome_map]
 unfold gG storedH;rw[e];by_cases q:(atKey xs k).isSome=true
 ·rw[Ib q,Ib q];exact r.repl k z
 ·rw[Ia q,Ia q];exact Paired.snoc r ⟨rfl,B,z⟩
theorem KT.keeps{H H':Hp}{fh:List (List Key×V)}{xs:List (List Key×Ag×Ac)}(r:KT H fh xs)(ht:∀ b ys,H b=some (.tup ys)→H' b=some (.tup ys)):KT H' fh xs:=
 Paired.mapP r fun _ _ z=>⟨z.1,ht _ _ z.2.1,z.2.2⟩
section
variable{P:AG}{w:A2}{H:Hp}{h:Bp}{a:Ag}
theorem aHQ{u:HO}(ok:HOk P w H h)(e:Rd H a u):dC P w H h a u:=e.ok ok
theorem xH{fh:List (Key×V)}(ok:HOk P w H h)(e:Rd H a (.dK fh)):fh.length≤sizeLine∧(a == sysModules)=false∧∃ vs,KV fh vs∧h.DictOf (c9 P w) a vs:=
 show dC P w H h a (.dK fh) from aHQ ok e
theorem aAs{fh:List (Key×V)}(ok:HOk P w H h)(e:H a=some (.dK fh)):fh.length≤sizeLine∧(a == sysModules)=false∧∃ vs,KV fh vs∧h.DictOf (c9 P w) a vs:=xH ok (.inl e)
theorem zK{ks:List Key}(ok:HOk P w H h)(e:H a=some (.tup (ks.map kV))):(tupleKind (c9 P w)).is h ks a:=by
 obtain⟨_,its,r,o,h1,⟨h2,n,h3⟩,_⟩:=(show dC P w H h a (.tup (ks.map kV)) from ok a _ e)
 exact⟨o,its.toArray,n,h1,h2,h3,by simpa using xG r⟩
theorem aAt{fh:List (List Key×V)}(ok:HOk P w H h)(e:Rd H a (.dT fh)):fh.length≤sizeLine∧(a == sysModules)=false∧
  ∃ xs,KT H fh xs∧h.DictOfH (tupleKind (c9 P w)) a xs:=by
 obtain⟨z,y,xs,r,o,es,ep,h1,h2,h3,h4,h5⟩:=(show dC P w H h a (.dT fh) from aHQ ok e)
 refine⟨z,y,xs,r,o,es,ep,h1,h2,h3,h4,fun x B=>?_,h5⟩;have all:∀{l:List (List Key×V)} {m:List (List Key×Ag×Ac)},KT H l m→∀ x∈m,(tupleKind (c9 P w)).is h x.1 x.2.1:=by
  intro l m q
  induction q with
  | nil=>intro x B;exact nomatch B
  | @cons p q ps qs F t J=>
   intro x B;rcases An.mp B with e | B
   ·subst e;exact zK ok (by rw[← F.1];exact F.2.1)
   ·exact J x B
 exact all r x B
theorem aJD{fh:List (List Key×V)}(ok:HOk P w H h)(e:H a=some (.dT fh)):fh.length≤sizeLine∧(a == sysModules)=false∧
  ∃ xs,KT H fh xs∧h.DictOfH (tupleKind (c9 P w)) a xs:=aAt ok (.inl e)
end
def rJ(H:Hp)(a:Ag)(y:V)(r:Option V):Prop:=
 (∃ fh k,Rd H a (.dK fh)∧y=kV k∧r=fQ fh k)∨∃ fh k b,Rd H a (.dT fh)∧y=.ref b∧H b=some (.tup (k.map kV))∧r=fQ fh k
def aAu(H:Hp)(a:Ag)(y v:V)(H':Hp):Prop:=
 (∃ fh k,H a=some (.dK fh)∧y=kV k∧fh.length < sizeLine∧H'=upd H a (.dK (gG fh k v)))∨
 ∃ fh k b,H a=some (.dT fh)∧y=.ref b∧H b=some (.tup (k.map kV))∧fh.length < sizeLine∧H'=upd H a (.dT (gG fh k v))
theorem rJ.k{H:Hp}{a:Ag}{fh:List (Key×V)}{k:Key}(e:H a=some (.dK fh)):rJ H a (kV k) (fQ fh k):=.inl ⟨fh,k,.inl e,rfl,rfl⟩
theorem aAu.k{H:Hp}{a:Ag}{fh:List (Key×V)}{k:Key}{v:V}(e:H a=some (.dK fh))(q:fh.length < sizeLine):aAu H a (kV k) v (upd H a (.dK (gG fh k v))):=.inl ⟨fh,k,e,rfl,q,rfl⟩
section
variable{X:Cx}{di:Ih}{σ:St}{H:Hp}{s:Af}{a:Ag}{y v:V}{u r:Ac}{o:Option V}{A:AW}{E:Ac→Af→Prop}
theorem Inv.big(I:Inv X di σ H s):sysModules < s.heap.objs.size:=by
 have h:mainGlobals < s.heap.objs.size:=(I.mod.glob.keeps I.bk).lt;exact D7 (by decide) h
theorem aDR{Q:Ac→Af→Prop}(F:A.units + 1 < cLine)(I:Inv X di σ H s)(g:rJ H a y (some v))(B:c7 y u)(h:∀ q s',Inv X di σ H s'→c7 v q→Q q s'):
  wpAny (model X.prog X.w) A (getItem (.ref a) u) Q E s:=by
 rcases g with⟨fh,k,e,ey,l⟩ | ⟨fh,k,b,e,ey,eb,l⟩
 ·subst ey;obtain⟨z,hd,vs,rel,dd⟩:=xH I.hok e;obtain⟨q,hw,rw'⟩:=oV.some_of (v:=v) (o:=valueAt vs k) (by rw[l];exact rel.val k);exact wpAny_getItem_of (sV B) dd.mapOf hw (h q _ (I.tok _) rw')
 ·subst ey;cases(show u=AJ b from B);obtain⟨z,hd,xs,rel,dd⟩:=aAt I.hok e;obtain⟨q,hw,rw'⟩:=oV.some_of (v:=v) (o:=(atKey xs k).map (·.2)) (by rw[l];exact rel.val k)
  obtain⟨p,hp,hp2⟩:=DS.mp hw;refine wpAny_getItem_heap (Ga F) (zK I.hok eb) dd hp ?_;rw[hp2];exact h q _ (I.tok _) rw'
theorem t4{h':Bp}{t':Nat}{ob:HO}(I:Inv X di σ H s)(F:Mut (H a))(M:D2 a s.heap h')(J:∃ q,h'.get? a=some q)(new:dC X.prog X.w (upd H a ob) h' a ob):
  Inv X di σ (upd H a ob) { s with heap:=h',toks:=t' }:=
 I.write (x:=a) (e:=a) F (.inl rfl) (fun b q B z=>(M.2 b B).trans z) J new
theorem aBU{P:AG}{w:A2}{H':Hp}{h':Bp}{fh:List (Key×V)}{vs:List (Key×Ac)}(z:fh.length≤sizeLine)(hd:(a == sysModules)=false)(rel:KV fh vs)(q:h'.DictOf (c9 P w) a vs):
  dC P w H' h' a (.dK fh):=⟨z,hd,vs,rel,q⟩
theorem aDS{H':Hp}{Q:Unit→Af→Prop}(Y:A.units + 1 < cLine)(I:Inv X di σ H s)(g:aAu H a y v H')(O:c7 y u)(M:c7 v r)(h:∀ s',Inv X di σ H' s'→Q () s'):
  wpAny (model X.prog X.w) A (setItem (.ref a) u r) Q E s:=by
 rcases g with⟨fh,k,e,ey,l,eH⟩ | ⟨fh,k,b,e,ey,eb,l,eH⟩
 ·subst ey eH;obtain⟨z,hd,vs,rel,dd⟩:=aAs I.hok e;have hz:vs.length≤sizeLine:=by rw[← rel.length];exact z
  have J:(gG fh k v).length≤sizeLine:=by have:=j6 fh k v;omega
  refine wpAny_setItem_pairs (hsz:=hz) (sV O) dd fun h' B F=>h _ ?_;have W:∃ q,h'.get? a=some q:=let ⟨q,_,_,hq,_⟩:=B;⟨q,hq⟩
  exact t4 I (by rw[e];exact Cj) F W (aBU J hd (rel.put k M) B)
 ·subst ey eH;cases(show u=AJ b from O);obtain⟨z,hd,xs,rel,dd⟩:=aJD I.hok e;have hz:xs.length≤sizeLine:=by rw[← Gw rel];exact z
  have J:(gG fh k v).length≤sizeLine:=by have:=j6 fh k v;omega
  refine wpAny_setItem_heap (hsz:=hz) (Ga Y) (zK I.hok eb) dd fun h' B F=>h _ ?_;obtain⟨q,es,ep,hq,h2,h3,h4,_,h5⟩:=B;refine t4 I (by rw[e];exact Cj) F ⟨q,hq⟩ ⟨J,hd,_,(rel.put k eb M).keeps fun c ys U=>?_,q,es,ep,hq,h2,h3,h4,h5⟩;rw[bM (aEF U e (fun z=>nomatch z))];exact U
end
section
variable{X:Cx}{di:Ih}{σ:St}{H:Hp}{s:Af}{a:Ag}{fh:List (Key×V)}{k:Key}{u:Ac}{A:AW}{E:Ac→Af→Prop}
theorem aJE{Q:Ac→Af→Prop}(I:Inv X di σ H s)(e:Rd H a (.dK fh))(h:∀ t s',Inv X di σ H s'→Q (.int fh.length t) s'):wpAny (model X.prog X.w) A (call (.builtin "len") [.ref a]) Q E s:=by
 obtain⟨z,hd,vs,rel,dd⟩:=xH I.hok e;refine call_len_dict hd dd (by rw[← rel.length];rw[FJ]at z;omega) ?_;rw[← rel.length];exact h _ _ (I.tok _)
end
def aIu(i:Bw):Prop:=∀ ov iv,subscripted i false ov iv=operate [ov,iv] (getItem ov iv)
theorem aCO{prog:AG}{w:A2}{A:AW}{E:Ac→Af→Prop}{s:Af}{env:Env}{value q:Bw}{pos:Pos}{T id:String}{Q:Ac→Af→Prop}
  (U:typeLookup (.type T) "__getitem__"=pure (some (.builtin id))) (M:aIu q)
  (h:wpAny (model prog w) A (eval value env) (fun o F=>wpAny (model prog w) A (eval q env) (fun i z=>z.TypeIs o T∧wpAny (model prog w) A (getItem o i) Q E z) E F) E s):
  wpAny (model prog w) A (eval (.Subscript value q pos) env) Q E s:=by
 refine Subscript_ (Ca h (fun o F W=>Ca W (fun i z B=>?_) fun _ _ x=>x) fun _ _ x=>x);obtain⟨hT,B⟩:=B;unfold subscriptTail;refine Aa ?_;rw[getitemInPython_of_ne hT.not_modules];refine Aa (DY hT U ?_);have fin:wpAny (model prog w) A (subscripted q false o i) (fun r J=>wpAny (model prog w) A (letTemporaryGo value o r >>= fun _=>pure r) Q E J) E z:=by
  rw[M o i];exact wpAny_operating (Ca B (fun r J O=>Aa (wpAny_letTemporaryGo (Ae O))) fun _ _ x=>x)
 first
  | exact Ae (Aa fin)
  | exact Aa (Ae (Aa fin))
  | exact Aa fin
theorem aAv{X:Cx}{di:Ih}{σ:St}{H:Hp}{s:Af}{a:Ag}{y:V}{o:Option V}(I:Inv X di σ H s)(g:rJ H a y o):s.TypeIs (.ref a) "dict":=by
 rcases g with⟨fh,k,e,_,_⟩ | ⟨fh,k,b,e,_,_,_⟩
 ·obtain⟨_,_,vs,_,dd⟩:=xH I.hok e;exact dd.typeIs
 ·obtain⟨_,_,xs,_,dd⟩:=aAt I.hok e;exact dd.typeIs
def aJF(td ty:TE):TE:=fun σ H Q=>td σ H fun x H1=>ty σ H1 fun y H2=>∃ a v,x=.ref a∧rJ H2 a y (some v)∧Q v H2
def aJG(td ty tv:TE):TS:=fun D σ H=>tv σ H fun v H1=>td σ H1 fun x H2=>ty σ H2 fun y H3=>∃ a H4,x=.ref a∧aAu H3 a y v H4∧D.nx σ H4
section
variable{X:Cx}{o i e value:Bw}{pos gf tpos:Pos}{td ty tv:TE}
theorem pX(Y:X.A.units + 1 < cLine)(M:PE X o td)(hi:PE X i ty)(U:aIu i):PE X (.Subscript o i pos) (aJF td ty):=by
 constructor;intro di s σ H Q I h;refine aCO PySem.F.slot_dict_getitem.lookup U (thn (M di s σ H _ I h) fun u B ⟨x,H1,Z,rx,J⟩=>thn (hi di B σ H1 _ Z J) fun iv s2 ⟨y,H2,z,W,a,v,ex,g,O⟩=>?_);subst ex;obtain rfl:u=AJ a:=rx;exact⟨aAv z g,aDR Y z g W fun w' s3 I3 q=>⟨v,H2,I3,q,O⟩⟩
theorem zL(Z:X.A.units + 1 < cLine)(F:PE X o td)(hi:PE X i ty)(hv:PE X value tv)(W:swapsWith value (some (.Subscript o i gf)) pos.line X.env=pure false):
  PS X (.Assign [.Subscript o i gf] value pos) (aJG td ty tv):=by
 constructor;intro di s σ H D I h;refine wpAny_Assign_Subscript (thn (hv di s σ H _ I h) fun r q ⟨v,H1,I1,M,z⟩=>thn (F di q σ H1 _ I1 z) fun u O ⟨x,H2,I2,rx,J⟩=>thn (hi di O σ H2 _ I2 J) fun iv s3 ⟨y,H3,I3,Y,a,B,ex,g,U⟩=>?_) W;subst ex;obtain rfl:u=AJ a:=rx;exact aDS Z I3 g Y M fun s4 I4=>⟨σ,B,I4,U⟩
end
theorem aAw{P:AG}{w:A2}{H:Hp}(h:Bp)(q:sysModules < h.objs.size):dC P w H (h.push { cls:=.type "dict",data:=.dict #[] }) h.objs.size (.dK []):=
 ⟨A0 _,beq_eq_false_iff_ne.mpr (Ep (AF q)),[],.nil,Heap.DictOf.new h⟩
def aIv:TE:=fun _ H Q=>∀ p,H p=none→Q (.ref p) (upd H p (.dK []))
section
variable{X:Cx}{pos:Pos}
theorem aAx:PE X (.Dict [] [] pos) aIv:=⟨fun di s σ H Q I h=>
 wpAny_Dict_empty ⟨.ref s.heap.objs.size,_,I.laid (a:=s.heap.objs.size) (o:=.dK []) (t':=s.toks) (fun _ _ q=>Ah _ q) (Ao _) (aAw s.heap I.big),rfl,h _ (I.hok.fresh (Ao _))⟩⟩
end
def aBV:List (TE×TE)→St→Hp→(List (V×V)→Hp→Prop)→Prop
 | [],_,H,Q=>Q [] H
 | (tk,tv) :: r,σ,H,Q=>tk σ H fun x H1=>tv σ H1 fun y H2=>aBV r σ H2 fun ps H3=>Q ((x,y) :: ps) H3
abbrev VV:List (V×V)→List (Ac×Ac)→Prop:=GE fun p q=>c7 p.1 q.1∧c7 p.2 q.2
def PPs(X:Cx)(pos:Pos)(keys:List (Option Bw))(values:List Bw)(trs:List (TE×TE)):Prop:=
 ∀(di:Ih) (s:Af) (σ:St) (H:Hp) (Q:List (V×V)→Hp→Prop),Inv X di σ H s→aBV trs σ H Q→
  wpAny (model X.prog X.w) X.A (evalPairs (pairTrees keys values X.env pos)) (fun vs s'=>∃ ps H',Inv X di σ H' s'∧VV ps vs∧Q ps H') X.xe s
theorem aCP{X:Cx}{pos:Pos}:PPs X pos [] [] []:=fun di s σ H Q I h=>pairTrees_nil_walk ⟨[],H,I,.nil,h⟩
theorem iW{X:Cx}{pos:Pos}{k v:Bw}{ks:List (Option Bw)}{vs:List Bw}{tk tv:TE}{q:List (TE×TE)}(Y:PE X k tk)(hv:PE X v tv)(O:PPs X pos ks vs q):
  PPs X pos (some k :: ks) (v :: vs) ((tk,tv) :: q):=fun di s σ H Q I h=>
 pairTrees_cons_walk (thn (Y di s σ H _ I h) fun u z ⟨x,H1,I1,rx,B⟩=>thn (hv di z σ H1 _ I1 B) fun w2 J ⟨y,H2,Z,U,F⟩=>
  thn (O di J σ H2 _ Z F) fun ws s3 ⟨ps,W,I3,rel,M⟩=>⟨(x,y) :: ps,W,I3,.cons ⟨rx,U⟩ rel,M⟩)
def pI(fh more:List (Key×V)):List (Key×V):=more.foldl (fun acc kv=>gG acc kv.1 kv.2) fh
theorem KV.merge:∀{z:List (Key×V)}{rs:List (Key×Ac)}{fh:List (Key×V)}{vs:List (Key×Ac)},KV z rs→KV fh vs→KV (pI fh z) (merged vs rs):=by
 intro z rs fh vs r;unfold KV at r
 induction r generalizing fh vs with
 | nil=>intro q;exact q
 | @cons p q ps qs h t B=>
  intro F;have e:KV (gG fh p.1 p.2) (stored vs q.1 q.2):=by
   have:=F.put p.1 h.2;rw[← h.1];exact this
  exact B e
theorem oY:∀(q fh:List (Key×V)),(pI fh q).length≤fh.length + q.length
 | [],fh=>by show fh.length≤fh.length + 0;omega
 | p :: r,fh=>by
  have h1:=oY r (gG fh p.1 p.2);have h2:=j6 fh p.1 p.2;show(pI (gG fh p.1 p.2) r).length≤_;rw[A5];omega
theorem uO{P:AG}{w:A2}:∀{fh:List (Key×V)}{z:List (Ac×Ac)},VV (fh.map fun B=>(kV B.1,B.2)) z→∃ rs,Carries (c9 P w) z rs∧KV fh rs
 | [],_,r=>by rw[EA]at r;cases r;exact⟨[],Cj,.nil⟩
 | p :: fh,_,r=>by
  rw[A4]at r;cases r with
  | @cons a b as bs h t=>
   obtain⟨rs,c,q⟩:=uO (P:=P) (w:=w) t;obtain⟨b1,b2⟩:=b;exact⟨(p.1,b2) :: rs,⟨sV h.1,rfl,c⟩,.cons ⟨rfl,h.2⟩ q⟩
def aJH(trs:List (TE×TE)):TE:=fun σ H Q=>∀ p,H p=none→aBV trs σ (upd H p (.dK [])) fun ps H2=>H2 p=some (.dK [])∧∃ fh:List (Key×V),ps=fh.map (fun kv=>(kV kv.1,kv.2))∧fh.length≤15∧Q (.ref p) (upd H2 p (.dK (pI [] fh)))
theorem aCQ{X:Cx}{pos:Pos}{B:List (Option Bw)}{F:List Bw}{M:List (TE×TE)}(h:PPs X pos B F M)(J:B.all (·.isSome)=true)(hl:B.length=F.length)(Y:B≠[])
  (U:B.length≤15):PE X (.Dict B F pos) (aJH M):=by
 constructor;intro di s σ H Q I q;have hn:=I.hok.fresh (Ao s.heap.objs.size);have I1:=I.laid (a:=s.heap.objs.size) (o:=.dK []) (h':=s.heap.push { cls:=.type "dict",data:=.dict #[] }) (t':=s.toks) (fun _ _ q=>Ah _ q) (Ao _) (aAw s.heap I.big);refine wpAny_Dict_walk (knd:=c9 X.prog X.w) J hl Y U (thn (h di _ σ _ _ I1 (q _ hn)) fun ws s2 ⟨ps,H2,W,rel,e,fh,ep,lk,q2⟩=>?_);subst ep;obtain⟨rs,c,rk⟩:=uO (P:=X.prog) (w:=X.w) rel;obtain⟨z,hd,vs0,r0,dd⟩:=aAs W.hok e;cases r0;refine⟨rs,c,dd,fun h' O hs=>⟨.ref s.heap.objs.size,_,?_,rfl,q2⟩⟩;have hz:(pI [] fh).length≤sizeLine:=by
  have h1:=oY fh [];rw[DL]at h1;rw[FJ];omega
 have Z:∃ q,h'.get? s.heap.objs.size=some q:=let ⟨q,_,_,hq,_⟩:=O;⟨q,hq⟩
 exact t4 W (by rw[e];exact Cj) hs Z (aBU hz hd (rk.merge .nil) O)
structure M1(X:Cx)(o:Bw)(m:Str)(fw:Pos)(e:Bw)(ft:Pos):Prop where
 base:attributeBase o m X.env (eval o X.env)=eval o X.env
 few:((backTo ft (starEach [e] X.env)).all (fun x=>!x.1) && (backToKw ft (keywordEach [] X.env)).all (fun x=>x.1.isSome)
  && decide (([e]:List Bw).length + ([]:List EN).length + (if ([]:List EN).isEmpty then 0 else 1) < 30))=true
 line:(fw.endLine == ft.line)=true
 trees:backTo ft (starEach [e] X.env)=[(false,eval e X.env)]
structure M2(X:Cx)(o:Bw)(m:Str)(fw:Pos)(e f:Bw)(ft:Pos):Prop where
 base:attributeBase o m X.env (eval o X.env)=eval o X.env
 few:((backTo ft (starEach [e,f] X.env)).all (fun x=>!x.1) && (backToKw ft (keywordEach [] X.env)).all (fun x=>x.1.isSome)
  && decide (([e,f]:List Bw).length + ([]:List EN).length + (if ([]:List EN).isEmpty then 0 else 1) < 30))=true
 line:(fw.endLine == ft.line)=true
 trees:backTo ft (starEach [e,f] X.env)=[(false,eval e X.env),(false,eval f X.env)]
def IsD(H:Hp)(a:Ag):Prop:=(∃ fh,Rd H a (.dK fh))∨∃ fh,Rd H a (.dT fh)
theorem aBW{X:Cx}{di:Ih}{σ:St}{H:Hp}{s:Af}{a:Ag}(I:Inv X di σ H s)(d:IsD H a):
  s.TypeIs (.ref a) "dict"∧(∀ b,AJ a=.ref b→∃ ob,s.heap.get? b=some ob∧ob.dict=none)∧(a == sysModules)=false:=by
 rcases d with⟨fh,e⟩ | ⟨fh,e⟩
 ·obtain⟨_,hd,vs,_,dd⟩:=xH I.hok e;refine⟨dd.typeIs,fun b q=>?_,hd⟩;cases q;obtain⟨ob,_,_,h1,h2,_⟩:=dd;exact⟨ob,h1,h2.2.1⟩
 ·obtain⟨_,hd,xs,_,dd⟩:=aAt I.hok e;refine⟨dd.typeIs,fun b q=>?_,hd⟩;cases q;obtain⟨ob,_,_,h1,h2,_⟩:=dd;exact⟨ob,h1,h2.2.1⟩
section
variable{X:Cx}{di:Ih}{σ:St}{H:Hp}{s:Af}{a:Ag}{y d:V}{u r:Ac}{o:Option V}{A:AW}{E:Ac→Af→Prop}
theorem aIw{Q:Ac→Af→Prop}(J:A.units + 1 < cLine)(I:Inv X di σ H s)(g:rJ H a y o)(q:c7 y u)(rd:c7 d r)(h:∀ B s',Inv X di σ H s'→c7 (o.getD d) B→Q B s'):
  wpAny (model X.prog X.w) A (call (.builtin "dict.get") [.ref a,u,r]) Q E s:=by
 rcases g with⟨fh,k,e,ey,l⟩ | ⟨fh,k,b,e,ey,eb,l⟩
 ·subst ey;obtain⟨z,hd,vs,rel,dd⟩:=xH I.hok e;refine Gn E2 dd.typeIs PySem.F.entry_dict_get (PySem.F.args_dict_get_3 _ _ _) (meets_dict_get_default (c9 X.prog X.w) a (sV q) hd r) ⟨_,dd.mapOf,h _ _ (I.tok _) ?_⟩;rw[l];exact(rel.val k).getD rd
 ·subst ey;cases(show u=AJ b from q);obtain⟨z,hd,xs,rel,dd⟩:=aAt I.hok e;refine Gn E2 dd.typeIs PySem.F.entry_dict_get (PySem.F.args_dict_get_3 _ _ _) (meetsH_dict_get_default (tupleKind (c9 X.prog X.w)) a b hd r) ⟨Ga J,k,xs,zK I.hok eb,dd,h _ _ (I.tok _) ?_⟩;rw[l];exact(rel.val k).getD rd
end
def aIx(td ty tx:TE):TE:=fun σ H Q=>td σ H fun x H1=>∃ a,x=.ref a∧IsD H1 a∧ty σ H1 fun y H2=>tx σ H2 fun z H3=>∃ o,rJ H3 a y o∧Q (o.getD z) H3
section
variable{X:Cx}{o e f:Bw}{fw ft:Pos}{td ty tx:TE}
theorem aE1(hu:X.A.units + 1 < cLine)(O:PE X o td)(U:PE X e ty)(hf:PE X f tx)(m:M2 X o "get" fw e f ft):PE X (.Call (.Attribute o "get" fw) [e,f] [] ft) (aIx td ty tx):=by
 constructor;intro di s σ H Q I h;refine wpAny_Call_method m.base m.few m.line EK E2 PySem.F.type_dict_get (thn (O di s σ H _ I h) fun u J ⟨x,H1,B,rx,a,ex,d,M⟩=>?_);subst ex;obtain rfl:u=AJ a:=rx;obtain⟨t1,t2,_⟩:=aBW B d;refine⟨t1,t2,?_⟩;rw[m.trees];refine DW rfl (Fd (DN (thn (U di J σ H1 _ B M) fun iv Z ⟨y,H2,I2,ry,W⟩=>
  DN (thn (hf di Z σ H2 _ I2 W) fun fv s3 ⟨z,H3,I3,Y,ov,g,q3⟩=>FV ?_))))
 exact aIw hu I3 g ry Y fun w' s4 I4 q=>⟨_,H3,I4,q,q3⟩
end
section
variable{X:Cx}{di:Ih}{σ:St}{H:Hp}{s:Af}{a:Ag}{fh:List (Key×V)}{A:AW}{E:Ac→Af→Prop}
end
section
variable{X:Cx}{di:Ih}{σ:St}{H:Hp}{s:Af}{a:Ag}{y:V}{u:Ac}{A:AW}{E:Ac→Af→Prop}
end
end L2
namespace Att
open PySem PySem.W PySem.Calls PyProof.Rows
theorem tV{P:Params}{h:Bp}:∀(ns:List Int) (vs:List Ac),WellAll P h vs (ns.map WData.int)→Hu vs ns:=by
 intro ns
 induction ns with
 | nil=>
  intro vs w;rw[EA]at w;cases w;exact .nil
 | cons n ns q=>
  intro vs w;rw[A4]at w;cases w with
  | cons a b=>
   cases a;exact .cons _ _ (q _ b)
theorem aDT{l:OpenLaw}{n:Nat}(hn:l.most=some n){P:Params}{h:Bp}{args:List WData}{z:List Ac}
  (B:l.row.toRowW.claim.pre args=true) (W:WellAll P h z args):
  ∃ a vs ns,z=[AJ a]∧args=[WData.list (ns.map WData.int)]∧h.get? a=some { cls:=.type "list",data:=.seq vs.toArray }∧Hu vs ns∧ns.length≤n:=by
 have U:WShape.hasAll [] args [.list .int]=true:=(pre_splitW B).1;have hc:l.pre.holds [] { args:=args }=true:=(pre_splitW B).2;obtain⟨d,r,rfl,h1,h2⟩:=hasAllW_cons U;obtain rfl:=hasAllW_nil h2;obtain⟨xs,rfl,h3⟩:=hasW_list h1;obtain⟨ns,rfl⟩:=items_int h3;have J:ns.length≤n:=by
  unfold OpenLaw.pre at hc;have M:(WTm.not (.lt (.lit (.int (n:Int))) (.len (.arg 0)))).holds [] { args:=[.list (ns.map .int)] }=true:=by
   have M:=(holds_andW hc).1;rw[hn]at M;exact M
  have O:=condW_of M (w_not (w_lt w_lit (w_len_list (w_arg rfl))));rw[Ad]at O;refine Nat.le_of_not_lt fun q=>?_;have q':(n:Int) < ((ns.length:Nat):Int):=by omega
  first
   | (rw[Ic q']at O;exact absurd O (by decide))
   | (simp at O;omega)
 cases W with
 | cons Z w2=>
  cases w2;cases Z with
  | list Y F=>exact⟨_,_,ns,rfl,rfl,Y,tV ns _ F,J⟩
theorem aDU(l:OpenLaw)(args:List WData):l.row.toRowW.claim.post args (.bool true) args=true:=
 postW_of (r:=l.row.toRowW) (X:=(true == true))
  (show WShape.has [] (.bool true) .bool=true by first | rfl | decide | simp[WShape.has,WShape.arms,WShape.armsAll])
  (show(WTm.eq .res (.lit (.bool true))).value [] { args:=args,res:=some (.bool true),after:=args }=some (.bool (true == true)) from w_eq_bool (w_res rfl) w_lit) rfl
theorem attach_call{l:OpenLaw}{n:Nat}{q:AG}{B:List Str}{XP:(Str→Option Ac)→Bp→Prop}{YP:A2→Bp→Prop}{d:DefRec}
  (hn:l.most=some n) (Z:d.params.defaults=[])
  (call:∀(w:A2) (s₀ z:Af) (mg mb:Str→Option Ac) (J:Ag) (o:Obj) (U cd F:Ac) (a:Ag) (vs:List Ac) (ns:List Int),
   Ground q B [] XP w s₀ mg mb z.heap→YP w z.heap→
   z.heap.get? J=some o→o.data=.func (docDef d.name d.params d.body d.scope U cd F)→z.heap.CodeRec cd d.name→mg d.name=some (.ref J)→
   z.heap.get? a=some { cls:=.type "list",data:=.seq vs.toArray }→Hu vs ns→ns.length≤n→z.gens=#[]→
   codeAny (model l.prog w) callerA (.call (.ref J) ⟨[.ref a],[]⟩) (fun r s'=>r=.ok (.ret (.bool true))∧OldK z.heap s'.heap∧s'.os=z.os∧ER s'.gens) z):
  WalkO q B XP YP l.row.toRowW d [] (fun f vs=>Hg f vs):=by
 intro w s₀ z mg mb G Y J o U cd F dV kV ho hd W hD O hg ab ac as M ae ak aa am;obtain rfl:dV=.none:=Dflts.none hD Z;obtain rfl:kV=.none:=Dflts.noKw hD;obtain⟨a,vs,ns,rfl,rfl,hobj,hints,hlen⟩:=aDT hn M aa;refine enter_call (C8 (call w s₀ z mg mb J o U cd F a vs ns G Y ho (fd_plain hd) W O hobj hints hlen hg) fun r s' hq=>?_);obtain⟨rfl,h2,h3,h4⟩:=hq;exact⟨.inl ⟨.bool true,.bool true,[],rfl,fun _=>rfl,.bool true,aDU l _,fun _=>⟨CS,fun _ hm=>(nomatch hm)⟩⟩,h2,h3,h4⟩
section
variable{prog:AG}{w:A2}{A:AW}{E:Ac→Af→Prop}{s:Af}{K:Frag}
end
end Att
namespace L2
open PySem PySem.Spec PyProof.Rows
theorem xI:∀{vs:List Ac}{ns:List Int},Hu vs ns→c0 (ns.map V.int) vs
 | _,_,.nil=>.nil
 | _,_,.cons n t h=>.cons ⟨t,rfl⟩ (xI h)
def aIy(H:Hp):Prop:=∀ b,H b=none∨∃ o xs,H b=some (.frz o (.lst xs))
theorem aE2{P:AG}{w:A2}{K:Aj}{mg mb:Str→Option Ac}{CX:CXT}{k:Nat}{fa a:Ag}{fd:AK}{x:Str}{sp:Sp}{B:Af}{vs:List Ac}{ns:List Int}
  (KX:K.In B.heap) (ac:B.heap.Ns mainGlobals mg) (M:B.heap.Ns builtinsNs mb) (ag:∀ x:Str,x≠"__name__"→mb x=bootBuiltins x) (aa:B.heap.NoLimit) (hg:B.gens=#[])
  (ha:B.heap.get? a=some { cls:=.type "list",data:=.seq vs.toArray }) (hi:Hu vs ns) (hl:ns.length≤sizeLine) (hr:cZ k callerA)
  (F:∀ base:Bp,K.In base→base.Ns mainGlobals mg→cY P w K mg base CX k fa fd [x] sp) (W:∀(s:Af) (u:Ac),Gu s fd ⟨[u],[]⟩ [(x,u)])
  (ah:∀ H:Hp,aIy H→SqL K H a (ns.map V.int)→sp [.ref a] H (fun v _=>v=.bl true) fun _ _ _=>False)
  (ai:∀ H e s',CX [] H B (fun _ _ _=>False) e s'→False):
  codeAny (model P w) callerA (.call (.ref fa) ⟨[.ref a],[]⟩) (fun r s'=>r=.ok (.ret (.bool true))∧OldK B.heap s'.heap∧s'.os=B.os∧ER s'.gens) B:=by
 have rv:=xI hi;have ab:=hi.length;have U:∀ H:Hp,aIy H→SqL K H a (ns.map V.int)→HOk P w H B.heap→(∀ b,H b≠none→b=a)→(H a≠none→K.lookup a=none)→
   codeAny (model P w) callerA (.call (.ref fa) ⟨[.ref a],[]⟩) (fun r s'=>r=.ok (.ret (.bool true))∧OldK B.heap s'.heap∧s'.os=B.os∧ER s'.gens) B:=by
  intro H hO hS hok hA hK;have J:∀{b:Ag} {o:Obj},B.heap.get? b=some o→H b=none→(zF B.heap H).get? b=some o:=fun e n=>aEG e n;have ae:∀{b:Ag} {o:Obj} {es:Array DictEntry} {ep:Nat},B.heap.get? b=some o→o.data=.dict es ep→H b=none:=fun{b o es ep} e d=>by
   cases q:H b with
   | none=>rfl
   | some u=>
    have e':b=a:=hA b (by rw[q];simp);subst e';rw[ha]at e;cases e;have d':Cq vs.toArray _=Data.dict es ep:=d;cases d'
  have O:∀{b:Ag} {m:Str→Option Ac},B.heap.Ns b m→(zF B.heap H).Ns b m:=fun{b m} ⟨o,es,ep,e,d,r⟩=>⟨o,es,ep,J e (ae e d),d,r⟩
  have Y:K.In (zF B.heap H):=fun b o e=>J (KX b o e) (by
   cases q:H b with
   | none=>rfl
   | some u=>
    have e':b=a:=hA b (by rw[q];simp);subst e';rw[hK (by rw[q];simp)]at e;cases e)
  have hM:Mod K mg (zF B.heap H):=⟨Y,O ac,⟨mb,O M,ag⟩,let ⟨mc,h1,h2⟩:=aa;⟨mc,O h1,h2⟩⟩
  have e0:aER P w K mg (zF B.heap H) callerA [] B H:=⟨rfl,hM,fun b o e=>aGK e,E8 (aDJ _ _),trivial,fun b M=>absurd (show b∈([]:List Ag) from M) (by simp),hok,.of_eq hg⟩
  refine C8 ((F _ Y (O ac)).run callerA [] B H ⟨[.ref a],[]⟩ [.ref a] [.ref a] _ _ hr e0 (W B (.ref a)) (.cons rfl .nil) (ah H hO hS)) fun r s' h=>?_;cases r with
  | error e=>exact(ai H e s' h).elim
  | ok fl=>
   cases fl with
   | next=>exact CK h
   | brk=>exact CK h
   | cont=>exact CK h
   | ret u=>
    obtain⟨v,H',os,bare,un,hok',r',q⟩:=h;have q':v=.bl true:=q;subst q';obtain rfl:u=Fz true:=r';refine⟨rfl,OldK.of_keep fun b o e=>?_,os,bare⟩;cases q:H b with
    | none=>exact un.keep b o e q (by intro z;exact absurd (show b∈([]:List Ag) from z) (by simp)) (by simp)
    | some u=>
     rcases hO b with z | ⟨ob,xs,z⟩
     ·rw[q]at z;cases z
     ·have z2:=un.frzs b ob _ z;obtain⟨e1,_⟩:=hok b _ z;obtain⟨e2,_⟩:=hok' b _ z2;rw[e]at e1;cases e1;exact e2
 cases hk:K.lookup a with
 | some o=>
  have e:=KX a o hk;rw[ha]at e;cases e;refine U (fun _=>none) (fun _=>.inl rfl) (.inr ⟨_,vs.toArray,_,hk,rfl,rfl,rfl,by rw[Av,ab];exact hl,by simpa using rv⟩) (fun b u z=>by have Z:(none:Option HO)=some u:=z;cases Z) (fun b z=>absurd rfl z) fun z=>absurd rfl z
 | none=>
  refine U (fun b=>if b=a then some (.frz { cls:=.type "list",data:=.seq vs.toArray } (.lst (ns.map V.int))) else none) (fun b=>?_) (.inl (.inr ⟨{ cls:=.type "list",data:=.seq vs.toArray },Ib rfl⟩)) (fun b u z=>?_) (fun b z=>?_) fun _=>hk
  ·by_cases M:b=a
   ·exact .inr ⟨_,_,Ib M⟩
   ·exact .inl (Ia M)
  ·by_cases M:b=a
   ·have Z:=(Ib M).symm.trans z;cases Z;subst M;exact⟨ha,by rw[Ad];exact hl,vs,_,rv,ha⟩
   ·have Z:=(Ia M).symm.trans z;cases Z
  ·by_cases M:b=a
   ·exact M
   ·exact absurd (Ia M) z
abbrev KOf{K:Aj}{h:Bp}(_:K.In h):Aj:=K
theorem walk_of{l:FY}{n k:Nat}{q:AG}{J:List Str}{XP:(Str→Option Ac)→Bp→Prop}{YP:A2→Bp→Prop}{d:DefRec}{K:Params→Aj}{CX:A2→CXT}{sp:A2→Sp}{x:Str}
  (hn:l.most=some n) (U:n≤sizeLine) (ab:d.params.defaults=[]) (hr:cZ k callerA)
  (hY:∀(w:A2) (h:Bp),YP w h→(K w.params).In h)
  (F:∀(w:A2) (mg:Str→Option Ac) (O:Ag) (h:Bp),(K w.params).In h→h.Ns mainGlobals mg→mg d.name=some (.ref O)→
   ∃ fd:AK,(∀(s:Af) (u:Ac),Gu s fd ⟨[u],[]⟩ [(x,u)])∧
    ∀ base:Bp,(K w.params).In base→base.Ns mainGlobals mg→cY l.prog w (K w.params) mg base (CX w) k O fd [x] (sp w))
  (aa:∀(w:A2) (H:Hp) (a:Ag) (ns:List Int),ns.length≤n→aIy H→SqL (K w.params) H a (ns.map V.int)→sp w [.ref a] H (fun v _=>v=.bl true) fun _ _ _=>False)
  (ac:∀(w:A2) (H:Hp) (s:Af) (e:Ac) (s':Af),CX w [] H s (fun _ _ _=>False) e s'→False):
  PySem.W.WalkO q J XP YP l.row.toRowW d [] (fun f vs=>Hg f vs):=by
 refine Att.attach_call hn ab fun w s₀ s₁ mg mb O o pm cd ak a vs ns G Y ho hd am Z M B z hg=>?_;have KX:=hY w _ Y;obtain⟨fd,hb,hF⟩:=F w mg O _ KX G.T.g Z;exact aE2 KX G.T.g G.T.b G.T.builtins G.T.nolimit hg M B (Bi z U) hr hF hb (fun H hO hS=>aa w H a ns z hO hS) fun H e s'=>ac w H s₁ e s'
def bX(s:B8):Arguments:=match s with
 | .FunctionDef _ a _ _ _ _ _ _ _ _=>a
 | _=>{ posonlyargs:=[],args:=[],vararg:=none,kwonlyargs:=[],kw_defaults:=[],kwarg:=none,defaults:=[] }
def bV(s:B8):List B8:=match s with
 | .FunctionDef _ _ b _ _ _ _ _ _ _=>b
 | _=>[]
def aO(s:B8):DV:=match s with
 | .FunctionDef _ _ _ _ _ _ sc _ _ _=>sc
 | _=>{ kind:=.function,names:=[],isGenerator:=false,isCoroutine:=false }
abbrev CX0:CXT:=fun _ _ _ _ _ _=>False
abbrev E0:XK:=fun _ _ _=>False
theorem i3{X:Cx}:aBP CX0 X E0:=fun _ _ _ _ _ _ _ h=>h.elim
structure Fun(K:Aj)(x qual:Str)(st:B8)(f:Ag)(fd:AK):Prop where
 ex:∃(oc:Ac) (od:Option Ag) (kV doc pm:Ac) (an:Option Ag) (cdv ct:Ac) (osl:Array (Option Ac)),
  fd=AB x qual (bX st) (bV st) (aO st) .none kV doc pm an cdv ct∧K.lookup f=some ⟨oc,od,.func fd,osl⟩∧Ar K cdv qual=true
 kp:Al K (.ref f)=true
section
variable{P:AG}{w:A2}{K:Aj}{mg:Str→Option Ac}{base:Bp}
theorem Fun.ok{x qual:Str}{st:B8}{f:Ag}{fd:AK}{N ps:List Str}{k:Nat}{sp:Sp}(F:Fun K x qual st f fd)(S:bY N ps (aO st))(len:∀ vs H Q E,sp vs H Q E→vs.length=ps.length)
  (B:∀(z:Ac) (A:AW) (outer:List Env) (s:Af) (H:Hp) (vs:List V) (Q:VK) (E:XK),cZ k (A.deeper (envOfC qual (aO st) s.heap.objs.size f z))→sp vs H Q E→
   ∃ t,PSs (aDP CX0 P w K mg base N qual (aO st) f z A outer s H E).nox (bV st) t∧t { nx:=fun _ H'=>Q .non H',rt:=Q } (start N vs) H):cY P w K mg base CX0 (k + 1) f fd ps sp:=by
 obtain⟨oc,od,kV,doc,pm,an,z,ct,osl,rfl,lk,hcd⟩:=F.ex;refine aJA lk hcd S len fun A outer s H vs Q E M J=>?_;obtain⟨t,h,q⟩:=B z A outer s H vs Q E M J;exact⟨t,h.nox,q⟩
theorem Fun.binds{x qual:Str}{st:B8}{f:Ag}{fd:AK}{ps:List Str}(F:Fun K x qual st f fd)
  (h:∀(kV z J:Ac) (B:Option Ag) (q ct:Ac) (us:List Ac),us.length=ps.length→bindArgs (AB x qual (bX st) (bV st) (aO st) .none kV z J B q ct) ⟨us,[]⟩=pure (ps.zip us)):eU K fd ps []:=by
 obtain⟨oc,od,kV,z,J,B,q,ct,osl,rfl,lk,hcd⟩:=F.ex;exact .all (h kV z J B q ct)
theorem cI{x qual:Str}{st:B8}{f:Ag}{M:Ac}{od F:Option Ag}{B:Array (Option Ac)}{kV z J q ct:Ac}(l:K.lookup f=some ⟨M,od,.func (AB x qual (bX st) (bV st) (aO st) .none kV z J F q ct),B⟩)
  (c:Ar K q qual=true) (k:Al K (.ref f)=true):Fun K x qual st f (AB x qual (bX st) (bV st) (aO st) .none kV z J F q ct):=⟨⟨M,od,kV,z,J,F,q,ct,B,rfl,l,c⟩,k⟩
end
theorem aCR{A:AW}{k:Nat}(q:cZ k A):A.units + 1 < cLine:=FQ (Nat.add_le_add_left (by decide:1≤64) _) q.units
theorem lI{n:Nat}(h:n≤1000):n < sizeLine:=FQ h (by decide)
section
variable{X:Cx}
theorem pv(i:Nat){x:Str}{pos:Pos}(hN:X.N[i]?=some x:=by rfl)(z:Vis X.env.scope x:=by first | exact AE rfl | exact En (AE rfl) | exact En (En rfl))(hd:(x == ("__debug__":Str))=false:=by decide)
  (q:(x == ("__classdict__":Str))=false:=by decide):PE X (.Name x pos) (aJm i):=aIe hN z hd q
end
theorem dD{A B:Prop}(h:B):if false=true then A else B:=by
 rw[Ia AD];exact h
theorem dJ{A B:Prop}(h:A):if true=true then A else B:=by
 rw[Ib rfl];exact h
theorem dY{c A B:Prop}[Decidable c](h1:c→A)(h2:¬ c→B):if c then A else B:=by
 by_cases h:c
 ·rw[Ib h];exact h1 h
 ·rw[Ia h];exact h2 h
def bW(H H':Hp):Prop:=∀ b o,H b=some o→H' b=some o
theorem bW.refl(H:Hp):bW H H:=fun _ _ h=>h
theorem bW.trans{H H1 H2:Hp}(a:bW H H1)(b:bW H1 H2):bW H H2:=fun c o h=>b c o (a c o h)
theorem bW.seq{K:Aj}{H H':Hp}{a:Ag}{xs:List V}(e:bW H H')(h:SqL K H a xs):SqL K H' a xs:=by
 rcases h with(h | ⟨o,h⟩) | h
 ·exact .inl (.inl (e _ _ h))
 ·exact .inl (.inr ⟨o,e _ _ h⟩)
 ·exact .inr h
section
variable{X:Cx}
inductive oZ(xs:List V)(H:Hp)(Q:VK):Prop
 | mk (a:_) (fh:_) (q0:xs=[V.ref a]) (q1:H a=some (.dK fh)) (q2:Q (.int fh.length) H):oZ xs H Q
def aAy:List V→Hp→VK→Prop:=fun xs H Q=>oZ xs H Q
theorem aDV:fX X (.builtin "len") aAy:=by
 intro di s σ H xs us Q I r h;obtain⟨a,fh,rfl,ha,q⟩:=h;obtain⟨u,rfl,ru⟩:=fY r;cases ru;exact aJE I (.inl ha) fun t s' z=>⟨.int fh.length,H,z,⟨t,rfl⟩,q⟩
end
section
variable{κ:Type}[DecidableEq κ]
end
section
variable{X:Cx}{di:Ih}{σ:St}{H:Hp}{s:Af}
theorem Inv.track{D:Ag}{ob:HO}(I:Inv X di σ H s)(J:nN X di H D)(new:dC X.prog X.w (upd H D ob) s.heap D ob):Inv X di σ (upd H D ob) s:=by
 obtain⟨hn,hL,hfs,hex,hce,hpi⟩:=J;have B:∀ b u,H b=some u→b≠D:=fun b u e=>aY e hn;refine I.step (g':=s.gens) (t':=s.toks) (d':=s.drawn) (h':=s.heap) (H':=upd H D ob) (ch:=[D]) (fun b F=>?_) (fun b o _ _ _ e _=>e) (fun b o _ _ _ e _=>⟨o.slots,e⟩) (fun b o hc e n=>?_)
  (fun b o _ e=>⟨o,e⟩) (fun b xs e=>by rw[bM (B b _ e)];exact e) (fun b o u e=>by rw[bM (B b _ e)];exact e) (fun b ps e=>⟨#[],by rw[bM (B b _ e),e];simp⟩) (fun m hm=>hm) (fun b u e=>?_) I.bare
 ·have e:b=D:=by simpa using F
  subst e;exact⟨hex,hL,hce,hpi⟩
 ·rw[bM (fun z=>hc (by simp[z]))];exact n
 ·by_cases F:b=D
  ·subst F;rw[aH]at e;cases e;exact new
  ·rw[bM F]at e;exact(I.hok b u e).stay (fun c v _ q=>q) (fun c q=>by rw[bM (B c _ q)];exact q) fun c xs q=>by rw[bM (B c _ q)];exact q
end
def i4(env:Env):List (Str×Ek)→List (Str×Ag)→List (Str×Ag)
 | [],cs=>cs
 | (n,k) :: r,cs=>i4 env r (if k=.free then(match env.cells.lookup n with | some c=>(n,c) :: cs | none=>cs) else cs)
theorem uP{α β:Type}(f:α→β→Sem (ForInStep β))(g:α→β→β):∀(l:List α) (b:β),(∀ y∈l,∀ b,f y b=pure (.yield (g y b)))→(forIn l b f:Sem β)=pure (l.foldl (fun b y=>g y b) b)
 | [],b,_=>rfl
 | a :: r,b,h=>by
  rw[C1,h a AI b];exact uP f g r (g a b) fun y q=>h y (AL _ q)
def xJ(env:Env)(y:Str×Ek)(cs:List (Str×Ag)):List (Str×Ag):=if y.2=.free then(match env.cells.lookup y.1 with | some c=>(y.1,c) :: cs | none=>cs) else cs
theorem uQ(env:Env):∀(l:List (Str×Ek)) (q:List (Str×Ag)),l.foldl (fun b y=>xJ env y b) q=i4 env l q
 | [],q=>rfl
 | (n,k) :: r,q=>by
  rw[Gj,uQ env r];rfl
theorem pY{scope:DV}{env:Env}(h:∀ y∈scope.names,y.2=.free→∃ c,env.cells.lookup y.1=some c):closureFor scope env=pure (i4 env scope.names []):=by
 simp only[closureFor];rw[uP _ (xJ env) scope.names [] (fun y B b=>?_)]
 ·rw[uQ];rfl
 ·obtain⟨n,k⟩:=y;by_cases q:k=.free
  ·obtain⟨c,hc⟩:=h (n,k) B q;subst q;have e:cellOf env n=pure c:=by unfold cellOf;rw[hc]
   have z:xJ env (n,BA) b=(n,c) :: b:=by unfold xJ;rw[Ib rfl,hc]
   simp only[e,z];rfl
  ·have e:(k == BA)=false:=by simpa using q
   have z:xJ env (n,k) b=b:=by unfold xJ;rw[Ia q]
   simp only[e,z,A9,if_false]
theorem rK{env:Env}:∀(l:List (Str×Ek)) (q:List (Str×Ag)),(∀ x c,q.lookup x=some c→env.cells.lookup x=some c)→∀ x c,(i4 env l q).lookup x=some c→env.cells.lookup x=some c
 | [],q,h,x,c,e=>h x c e
 | (n,k) :: r,q,h,x,c,e=>by
  unfold i4 at e;refine rK r _ (fun x c e=>?_) x c e;by_cases z:k=.free
  ·rw[Ib z]at e;cases hc:env.cells.lookup n with
   | none=>rw[hc]at e;exact h x c e
   | some d=>
    rw[hc]at e;by_cases B:x=n
    ·subst B;simp at e;rw[← e];exact hc
    ·have:(x == n)=false:=by simpa using B
     rw[BS,this]at e;exact h x c e
  ·rw[Ia z]at e;exact h x c e
theorem rM{env:Env}:∀(l:List (Str×Ek)) (q:List (Str×Ag)) (x:Str),(∀ y∈l,y.2=.free→∃ c,env.cells.lookup y.1=some c)→((∃ c,q.lookup x=some c)∨(x,BA)∈l)→∃ c,(i4 env l q).lookup x=some c
 | [],q,x,_,h=>by
  rcases h with h | h
  ·exact h
  ·simp at h
 | (n,k) :: r,q,x,hc,h=>by
  unfold i4;refine rM r _ x (fun y F=>hc y (AL _ F)) ?_;rcases h with⟨c,h⟩ | h
  ·refine .inl ?_;split
   ·split
    ·rename_i d _;by_cases B:x=n
     ·subst B;exact⟨d,by simp⟩
     ·have:(x == n)=false:=by simpa using B
      exact⟨c,by rw[BS,this];exact h⟩
    ·exact⟨c,h⟩
   ·exact⟨c,h⟩
  ·rcases An.mp h with h | h
   ·cases h;obtain⟨d,hd⟩:=hc (n,BA) AI rfl;refine .inl ⟨d,?_⟩;rw[Ib rfl];have z:env.cells.lookup n=some d:=hd;rw[z];simp
   ·exact .inr h
theorem uR{env : Env} : ∀{names : List (Str × Ek)}{x : Str}, (∀ y ∈ names, y.2 ≠ .cell) →
    ((names.map fun(n, k) => if (k == BA && env.scope.kind == .function && env.kindOf n == some .cell) then(n, D8) else(n, k)).lookup x = some .cell ∨
     (names.map fun(n, k) => if (k == BA && env.scope.kind == .function && env.kindOf n == some .cell) then(n, D8) else(n, k)).lookup x = some .free) → names.lookup x = some .free
  | [], x, _, h => by simp at h
  | (n, k) :: r, x, hc, h => by
    have B := @uR env r x fun y J => hc y (AL _ J);have F := hc (n, k) AI;rw[A4]at h;by_cases z : x = n
    · subst z
      rw[BS, beq_self_eq_true];simp only;by_cases q : (k == BA && env.scope.kind == .function && env.kindOf x == some .cell) = true
      · have : (k == BA) = true := by
          rw[AH, AH]at q;exact q.1.1
        simpa using this
      · simp only[Ia q, BS, beq_self_eq_true]at h
        rcases h with h | h
        · exact absurd (CD.inj h) F
        · exact h
    · have e : (x == n) = false := by simpa using z
      rw[BS, e];refine B ?_;by_cases q : (k == BA && env.scope.kind == .function && env.kindOf n == some .cell) = true
      · simp only[Ib q, BS, e]at h
        exact h
      · simp only[Ia q, BS, e]at h
        exact h
theorem pZ{env : Env} : ∀{names : List (Str × Ek)}{x : Str}, names.lookup x = some .free →
    ((names.map fun(n, k) => if (k == BA && env.scope.kind == .function && env.kindOf n == some .cell) then(n, D8) else(n, k)).lookup x = some .cell ∨
     (names.map fun(n, k) => if (k == BA && env.scope.kind == .function && env.kindOf n == some .cell) then(n, D8) else(n, k)).lookup x = some .free)
  | [], x, h => by simp at h
  | (n, k) :: r, x, h => by
    have B := @pZ env r x;rw[A4];by_cases z : x = n
    · subst z
      rw[BS, beq_self_eq_true]at h;simp only at h;cases h;by_cases q : (BA == BA && env.scope.kind == .function && env.kindOf x == some .cell) = true
      · refine .inl ?_
        show List.lookup x ((if (BA == BA && env.scope.kind == .function && env.kindOf x == some .cell) = true then(x, D8) else(x, BA)) :: _) = _;rw[Ib q, BS, beq_self_eq_true]
      · refine .inr ?_
        show List.lookup x ((if (BA == BA && env.scope.kind == .function && env.kindOf x == some .cell) = true then(x, D8) else(x, BA)) :: _) = _;rw[Ia q, BS, beq_self_eq_true]
    · have e : (x == n) = false := by simpa using z
      rw[BS, e]at h;have := B h;by_cases q : (k == BA && env.scope.kind == .function && env.kindOf n == some .cell) = true
      · simp only[Ib q, BS, e]
        exact this
      · simp only[Ia q, BS, e]
        exact this
def blk(X:Cx)(N:List Str)(scope:DV)(cl:List (Str×Ag))(s:Af)(H:Hp)(fp:List Ag)(di:Ih)(C:Ag):Cx where
 prog:=X.prog
 w:=X.w
 K:=X.K
 mg:=X.mg
 base:=X.base
 A:=X.A
 N:=N
 s₀:=s
 H₀:=H
 env:=compEnvC scope cl C X.env
 outer:=X.stack
 stack:=X.stack
 ex:=fp
 fn:=fun _=>false
 calm:=X.calm
 pn:=X.pn ++ di
 xe:=fun _ _=>False
def aHR(N:List Str)(src:List (Option Nat))(scope:DV)(oN:List Str):Bool:=
 (N.zip src).all fun p=>match p.2 with | none=>true | some j=>(oN[j]? == some p.1) && (scope.names.lookup p.1 == some .free)
structure aAz(N:List Str)(src:List (Option Nat))(scope osc:DV)(oN:List Str):Prop where
 kind:scope.kind=.function
 nocell:∀ y∈scope.names,y.2≠.cell
 names:∀ y∈scope.names,y.2=.local→scope.names.lookup y.1=some .local
 fr:∀ y∈scope.names,y.2=.free→osc.names.lookup y.1=some .cell∨osc.names.lookup y.1=some .free
 len:src.length=N.length
 srcs:aHR N src scope oN=true
def sub(src:List (Option Nat))(σ:St):St:=src.map fun o=>match o with | none=>none | some j=>(σ[j]?).getD none
theorem aE3{N:List Str}{src:List (Option Nat)}{scope:DV}{oN:List Str}(h:aHR N src scope oN=true){i j:Nat}{x:Str}(h1:N[i]?=some x)(h2:src[i]?=some (some j)):oN[j]?=some x∧scope.names.lookup x=some .free:=by
 have hm:(x,some j)∈N.zip src:=by
  refine AN (i:=i) ?_;rw[List.getElem?_zip_eq_some];exact⟨h1,h2⟩
 have:=A8.mp h _ hm;simp only[AH,beq_iff_eq]at this;exact this
theorem aIz{src:List (Option Nat)}{σ:St}{i:Nat}{v:V}(h:(sub src σ)[i]?=some (some v)):∃ j,src[i]?=some (some j)∧σ[j]?=some (some v):=by
 unfold sub at h;rw[AS]at h;cases e:src[i]? with
 | none=>rw[e]at h;simp at h
 | some o=>
  rw[e]at h;cases o with
  | none=>simp at h
  | some j=>
   refine⟨j,rfl,?_⟩;cases q:σ[j]? with
   | none=>simp[q]at h
   | some z=>
    simp[q]at h;rw[h]
structure PTs(X:Cx)(ifs:List Bw)(t:TT):Prop where
 run:
  ∀(di:Ih) (s:Af) (σ:St) (H:Hp) (Q:Bool→Hp→Prop),Inv X di σ H s→t σ H Q→
   wpAny (model X.prog X.w) X.A (forIn ifs true fun c r=>if r=true then do let ok ← isTrue c X.env (eval c X.env);pure (CG ok) else pure (CG r)) (TP X di σ Q) X.xe s
instance{X:Cx}{ifs:List Bw}{t:TT}:CoeFun (PTs X ifs t) (fun _=>
 ∀(di:Ih) (s:Af) (σ:St) (H:Hp) (Q:Bool→Hp→Prop),Inv X di σ H s→t σ H Q→
  wpAny (model X.prog X.w) X.A (forIn ifs true fun c r=>if r=true then do let ok ← isTrue c X.env (eval c X.env);pure (CG ok) else pure (CG r)) (TP X di σ Q) X.xe s):=⟨fun h=>h.run⟩
theorem dW{X:Cx}:PTs X [] (fun _ H Q=>Q true H):=⟨fun _ _ _ H _ I h=>wpAny_tests_nil ⟨H,I,h⟩⟩
theorem zM{X:Cx}{c:Bw}{t:TT}(h:PT X c t):PTs X [c] t:=⟨fun di s σ H Q I q=>wpAny_tests_one (h di s σ H Q I q)⟩
section
variable{X:Cx}{di:Ih}{σ:St}{H:Hp}{s:Af}
theorem Inv.clos{N:List Str}{src:List (Option Nat)}{scope:DV}(B:aAz N src scope X.env.scope X.N)(I:Inv X di σ H s):∀ y∈scope.names,y.2=.free→∃ c,X.env.cells.lookup y.1=some c:=
 fun y z q=>I.ok.has y.1 (B.fr y z q)
theorem Inv.block{N:List Str}{src:List (Option Nat)}{scope:DV}{fp:List Ag}{U:Af}{C:Ag}{m:Str→Option Ac}(B:aAz N src scope X.env.scope X.N)(I:Inv X di σ H s)
  (Z:∀ b∈fp,nN X di H b) (aa:∀ b∈fp,b < s.heap.objs.size) (Y:s.heap.objs.size≤C) (O:U.os=s.os) (J:ER U.gens) (W:∀ b o,s.heap.get? b=some o→U.heap.get? b=some o) (hn:U.heap.Ns C m):
  Inv (blk X N scope (i4 X.env scope.names []) s H fp di C) [] (sub src σ) H U:=by
 have F:=I.clos B;have q:∀ x c,(i4 X.env scope.names []).lookup x=some c→X.env.cells.lookup x=some c:=rK _ _ (fun x c e=>by simp at e);have ag:∀ b∈frs X.stack,b < s.heap.objs.size:=fun b J=>by
  obtain⟨_,o,O,_⟩:=I.stack.mem J;exact Ay O
 refine⟨⟨I.ok.mod,B.kind,I.ok.glob,I.ok.blt,Y,fun x y c e1 e2=>I.ok.inj x y c (q x c e1) (q y c e2),fun x hx=>?_,fun x c hx=>absurd hx AD,I.ok.hd,I.ok.frames,.inl rfl,fun b J=>⟨?_,fun x c e=>?_⟩,fun b o e=>?_,Bi I.ok.bsz I.sz,fun b o e J=>?_,fun b J hz=>?_,I.stack,I.stkFree⟩,
  O,J,Un.kept W,⟨m,hn,fun i x v e1 e2 e3=>?_⟩,fun x c e=>?_,?_,fun x c e=>I.freeC x c (q x c e),fun p hp=>?_,I.hok.kept W,?_⟩
 ·have ae:=uR (env:=X.env) B.nocell hx;exact rM _ _ x F (.inr (Cs ae))
 ·exact AF (A6 (aa b J) Y)
 ·exact(Z b J).2.2.2.2.1 x c (q x c e)
 ·exact I.bs b o e
 ·rcases(Z b J).2.2.2.1 with z | z
  ·exact I.ok.noex b o e z
  ·exact absurd (A6 (Ay e) (Bi I.ok.bsz z)) (Cf _)
 ·rcases An.mp (I.stkSub b hz)with e | z
  ·exact(Z b J).2.1 e
  ·exact(Z b J).2.2.1 z
 ·obtain⟨j,ej,ev⟩:=aIz e2;obtain⟨oj,fj⟩:=aE3 B.srcs e1 ej;have M:=B.fr _ (Cs fj) rfl;obtain⟨m0,hn0,hl0⟩:=id I.loc;obtain⟨u,ru,lk⟩:=hl0 j x v oj ev (.inr M);refine⟨u,ru,.inr ⟨pZ fj,?_⟩⟩;rcases lk with⟨k,_⟩ | ⟨k,c,hc,hcell⟩
  ·have k':X.env.scope.names.lookup x=some .local:=k;rcases M with z | z <;> (rw[k']at z;cases z)
  ·obtain⟨c',hc'⟩:=rM (env:=X.env) scope.names [] x F (.inr (Cs fj));have e:=q x c' hc';rw[hc]at e;cases e;obtain⟨o,O,hd⟩:=hcell;exact⟨c,hc',o,W _ _ O,hd⟩
 ·obtain⟨v,o,O,hd⟩:=I.cell x c (q x c e);exact⟨v,o,W _ _ O,hd⟩
 ·exact I.hok.fresh Y
 ·have ad:p∈X.pn ++ di:=by
   rcases Bo.mp hp with z | z
   ·exact z
   ·simp at z
  obtain⟨q1,q2,q3,q4,q5⟩:=I.pin p ad;refine⟨W _ _ q1,q2,AF (A6 (Ay q1) Y),fun z=>?_,q5⟩;rcases An.mp (I.stkSub _ z)with e | z
  ·exact q3 e
  ·exact q4 z
 ·show(sub src σ).length=N.length;unfold sub;rw[Ad];exact B.len
end
section
variable{prog:AG}{w:A2}{A:AW}{R:Result→Af→Prop}{s:Af}
theorem aAA{F q z:Bw}{B:List Bw}{scope:DV}{pos:Pos}{it J:Ac}{env:Env}(I:Nat→Af→Prop)
  (turn:∀ n s,I n s→wpAny (model prog w) A (pyNext it) (fun r O=>match r with
   | none=>R (.ok .next) O
   | some v=>wpAny (model prog w) A (letOwnedTupleGo q it v) (fun _ M=>wpAny (model prog w) A (assign q env v) (fun _ s₂=>
     wpAny (model prog w) A (forIn B true fun c r=>if r=true then do let ok ← isTrue c env (eval c env);pure (CG ok) else pure (CG r)) (fun ok U=>
      if ok=true then wpAny (model prog w) A (eval F env) (fun x Y=>
       wpAny (model prog w) A (call (.builtin "list.append") [J,x]) (fun _ Z=>∃ m,m < n∧I m Z) (fun _ _=>False) Y) (fun _ _=>False) U
      else∃ m,m < n∧I m U) (fun _ _=>False) s₂) (fun _ _=>False) M) (fun _ _=>False) O) (fun _ _=>False) s)
  (n:Nat) (h:I n s):
  codeAny (model prog w) A (.compLoop (.ListComp F [⟨q,z,B,0⟩] scope pos) 0 it J env) R s:=by
 have nv:∀{α:Type} {t:Sem α} {Q:α→Af→Prop} {E:Ac→Af→Prop} {s:Af},wpAny (model prog w) A t Q (fun _ _=>False) s→wpAny (model prog w) A t Q E s:=fun h=>Ca h (fun _ _ x=>x) fun _ _ x=>x.elim;refine codeAny_loop rfl I (fun n s hI=>?_) n h;show wpAny _ A ((compTurn (.ListComp F [⟨q,z,B,0⟩] scope pos) 0 it J env).onRaise (fun x=>do noteFrame x env;theTreesLotGoes x)) _ _ s;refine wpAny_noted ?_;rw[compTurn_list];refine Aa (F3 (Aa (nv (thn (turn n s hI) (fun r O h₁=>?_)))));cases r with
 | none=>exact Ae h₁
 | some v=>
  refine Aa (Ca h₁ (fun _ M W=>?_) fun _ _ x=>x.elim);refine Aa (Ca W (fun _ s₂ h₂=>Aa (Ca h₂ (fun ok U h₃=>?_) fun _ _ h'=>h'.elim)) fun _ _ h'=>h'.elim);cases ok with
  | false=>exact Ae ⟨rfl,h₃⟩
  | true=>
   exact Aa (Aa (Ca h₃ (fun x Y h₄=>Aa (Ca h₄ (fun _ Z h₅=>Ae (Ae ⟨rfl,h₅⟩)) fun _ _ h'=>h'.elim)) fun _ _ h'=>h'.elim))
end
inductive aCS(J : It)(g : TG)(tt : TT)(te : TE)(σ₀ : St)(H₀ : Hp)(Q : VK) : Prop
  | mk (W : Nat → Nat → List V → St → Hp → Prop) (q0 : (∃ m, W 0 m [] σ₀ H₀)) (q1 : ∀ i m ys σ H, W i m ys σ H → ys.length ≤ sizeLine ∧
    ((J.stop i H ∧ ∀ D, H D = none → Q (.ref D) (upd H D (.lst ys))) ∨
     (J.go i H ∧ ∃ N : List V → St → Hp → Prop, (∀ zs σ' H', N zs σ' H' → ∃ m', m' < m ∧ W (i + 1) m' zs σ' H') ∧
       ∀ x H', J.yld i H x H' → g x σ H' fun σ2 H2 => tt σ2 H2 fun b H3 => if b = true then te σ2 H3 fun v H4 => N (ys ++ [v]) σ2 H4 else N ys σ2 H3))) : aCS J g tt te σ₀ H₀ Q
def uS(J:It)(g:TG)(tt:TT)(te:TE)(σ₀:St)(H₀:Hp)(Q:VK):Prop:=aCS J g tt te σ₀ H₀ Q
section
variable{X:Cx}{di:Ih}{σ:St}
theorem xK{tg ap aD:Bw}{aE:List Bw}{scope:DV}{pos:Pos}{N:List Str}{src:List (Option Nat)}{g:TG}{tt:TT}{te:TE}{J:It}{fp:List Ag}{it:Ag}{tn:Nat→Bp→Prop}{H2:Hp}{O:Af}{Q:VK}{E:Ac→Af→Prop}
  {RR:Ac→Ag→Result→Af→Prop} (B:aAz N src scope X.env.scope X.N) (hc:X.calm=true)
  (F:∀ cl s H fp di C,PG (blk X N scope cl s H fp di C) tg g∧PTs (blk X N scope cl s H fp di C) aE tt∧PE (blk X N scope cl s H fp di C) aD te)
  (I2:Inv X di σ H2 O) (T:aDK X.prog X.w X.K tg J fp it tn) (aP:tn 0 O.heap) (f2:∀ b∈fp,nN X di H2 b) (cw:uS J g tt te (sub src σ) H2 Q)
  (bw:∀ D C H' m s',Inv X di σ H' s'→s'.heap.Ns C m→nN X di H' C→D≠C→Q (.ref D) H'→RR (.ref D) C (.ok .next) s'):
  wpAny (model X.prog X.w) X.A (newList []) (fun bb s₃=>wpAny (model X.prog X.w) X.A (newFunctionEnv scope X.env.globals (i4 X.env scope.names []) [] X.env.qual none .none (some X.env)) (fun aq s₄=>
   codeAny (model X.prog X.w) X.A (.compStart (.ListComp aD [⟨tg,ap,aE,0⟩] scope pos) 0 (.ref it) bb { aq with scope:=relabel scope X.env }) (RR bb aq.locals) s₄) E s₃) E O:=by
 refine BZ (wpAny_newFunctionEnv B.nocell (by intro y hy;simp at hy) (fun h₁ ae Z=>?_) B.kind);dsimp only at ae Z ⊢;generalize aw:O.heap.push { cls:=.type "list",dict:=none,data:=.seq ([]:List Ac).toArray }=HH at ae Z ⊢;have aA:HH.objs.size=O.heap.objs.size + 1:=by rw[← aw,B2]
 have ah:O.heap.objs.size≠HH.objs.size:=by rw[aA];exact AF (BN _)
 have aj:O.heap.objs.size≤HH.objs.size:=by rw[aA];exact C6 _
 have ao:∀ b∈fp,b < O.heap.objs.size:=fun b F=>by
  obtain⟨o,e,_⟩:=T.obj _ _ aP b F;exact Ay e
 have bc:∀ b o,O.heap.get? b=some o→h₁.get? b=some o:=fun b o e=>
  Z.extBut b o (by rw[aA];exact AF (Bl (Ay e))) (Ah _ (aw ▸ Ah _ e))
 have bd:h₁.PlainList O.heap.objs.size #[]:=⟨_,Z.extBut _ _ ah (Ah _ (aw ▸ Ax _ rfl))⟩
 have bm:tn 0 h₁:=T.keep _ _ _ aP fun b _ o e=>bc b o e;obtain⟨W,⟨m0,w0⟩,turn⟩:=cw;have aT:∀ b∈frs X.stack,b < O.heap.objs.size:=fun b F=>by
  obtain⟨_,o,ho,_⟩:=I2.stack.mem F;exact Ay ho
 generalize q:blk X N scope (i4 X.env scope.names []) O H2 fp di HH.objs.size=M;have bn:=F (i4 X.env scope.names []) O H2 fp di HH.objs.size;rw[q]at bn;have eP:M.prog=X.prog:=by rw[← q];rfl
 have eW:M.w=X.w:=by rw[← q];rfl
 have eK:M.K=X.K:=by rw[← q];rfl
 have eA:M.A=X.A:=by rw[← q];rfl
 have eE:M.env=compEnvC scope (i4 X.env scope.names []) HH.objs.size X.env:=by rw[← q];rfl
 have eL:M.env.locals=HH.objs.size:=by rw[eE];rfl
 have eF:M.fs=frs X.stack:=by rw[← q];rfl
 have eX:M.ex=fp:=by rw[← q];rfl
 have eS:M.s₀=O:=by rw[← q];rfl
 have eH:M.H₀=H2:=by rw[← q];rfl
 have eC:M.calm=true:=by rw[← q];exact hc
 have bi:M.pn=X.pn ++ di:=by rw[← q];rfl
 have az:M.xe=fun _ _=>False:=by rw[← q];rfl
 have ab:∀ x c,M.env.cells.lookup x=some c→X.env.cells.lookup x=some c:=fun x c e=>by
  rw[eE]at e;exact rK scope.names [] (fun x c e=>by simp at e) x c e
 have ac:∀ x c,M.env.cells.lookup x=some c→c < O.heap.objs.size:=fun x c e=>by
  obtain⟨v,o,ho,_⟩:=I2.cell x c (ab x c e);exact Ay ho
 have af:∀ p∈X.pn ++ di,p.1 < O.heap.objs.size:=fun p Y=>Ay (I2.pin p Y).1;generalize hD:O.heap.objs.size=D at *;generalize cL:HH.objs.size=C at *;have ar:∀ s₃:Af,s₃={ O with heap:=h₁,toks:=O.toks + ([]:List (Str×Ac)).length }→
   codeAny (model X.prog X.w) X.A (.compLoop (.ListComp aD [⟨tg,ap,aE,0⟩] scope pos) 0 (.ref it) (.ref D) (compEnvC scope (i4 X.env scope.names []) C X.env)) (RR (.ref D) C) s₃:=by
  rintro s₃ rfl;have I3:Inv M [] (sub src σ) H2 { O with heap:=h₁,toks:=O.toks + ([]:List (Str×Ac)).length }:=by
   rw[← q];exact I2.block B f2 (by rw[hD];exact ao) (by rw[hD];exact aj) rfl I2.bare bc ae
  have bz:H2 D=none:=I2.hok.fresh (E8 hD);have bU:D ∉ M.fs:=fun z=>by rw[eF]at z;exact absurd (aT D z) (Cf _)
  have av:∀{U:St} {H':Hp} {s':Af} {pl:Ih} {its:List Ac} {n:Nat},Inv M pl U H' s'→H' D=none→s'.heap.get? D=some { cls:=.type "list",data:=.seq its.toArray n }→
    Inv M ((D,{ cls:=.type "list",data:=.seq its.toArray n }) :: pl) U H' s':=fun{U H' s' pl its n} I' hn hg=>
   I'.pins_of fun p Y=>by
    rcases An.mp Y with e | Y
    ·subst e;exact⟨hg,hn,by rw[eL];exact ah,bU,fun v z=>by cases z⟩
    ·exact I'.pin p (A3 _ Y)
  obtain⟨n0,hg0⟩:=bd;have bA:=av (its:=[]) I3 bz hg0;have ay:∀{H':Hp} {pl:Ih},(∀ p∈pl,p.1=D)→(∀ b∈fp,H' b=none)→∀ b∈fp,nN M pl H' b:=fun{H' pl} hpl hn b F=>by
   refine⟨hn b F,by rw[eL];exact AF (A6 (ao b F) aj),fun z=>?_,.inl (by rw[eX];exact F),fun x c e=>(f2 b F).2.2.2.2.1 x c (ab x c e),fun p Y=>?_⟩
   ·rw[eF]at z;rcases An.mp (I2.stkSub b z)with e | z
    ·exact(f2 b F).2.1 e
    ·exact(f2 b F).2.2.1 z
   ·rw[bi]at Y;rcases Bo.mp Y with z | z
    ·exact(f2 b F).2.2.2.2.2 p z
    ·rw[hpl p z];exact C5 (ao b F)
  refine aAA (fun n s'=>∃ i ys its nn U H',Inv M [(D,{ cls:=.type "list",data:=.seq its.toArray nn })] U H' s'∧tn i s'.heap∧(∀ b∈fp,H' b=none)∧c0 ys its∧W i n ys U H') ?_ m0
   ⟨0,[],[],n0,sub src σ,H2,bA,bm,fun b F=>(f2 b F).1,.nil,w0⟩
  rintro n s4 ⟨i,ys,its,nn,σ4,H4,I4,aN,a0,an,w4⟩;obtain⟨hsz,hcase⟩:=turn i n ys σ4 H4 w4;have one:∀{o:Obj},∀ p∈[(D,o)],p.1=D:=fun{o} p Y=>by
   have:=BC.mp Y;rw[this]
  rcases hcase with⟨stop,qn⟩ | ⟨go,Nx,hN,step⟩
  ·have ai:=T.done M eP eW eK eC i _ s4 σ4 H4 (fun _ _=>False) I4 (ay one a0) aN stop;rw[eA]at ai;refine thn ai fun r s5 ⟨hr,I5⟩=>?_;subst hr;have pd:=I5.pin _ (A3 _ AI);have bT:Un (frs X.stack) fp H2 H4 O.heap s5.heap:=by
    have:=I5.base;rw[eF,eX,eS,eH]at this;exact this
   have bh:HOk X.prog X.w H4 s5.heap:=by
    have:=I5.hok;rw[eP,eW]at this;exact this
   have bD:s5.os=O.os:=by
    have:=I5.os;rw[eS]at this;exact this
   have J5:Inv X di σ H4 s5:=I2.call' bD bT bh I5.bare fun b F=>⟨(f2 b F).2.2.2.1,(f2 b F).2.1,(f2 b F).2.2.2.2.1,(f2 b F).2.2.2.2.2⟩
   have fD:nN X di H4 D:=I2.fpOk (E8 hD) pd.2.1;have J6:Inv X di σ (upd H4 D (.lst ys)) s5:=J5.track fD ⟨hsz,its,nn,an,pd.1⟩;obtain⟨mm,nsC,_⟩:=I5.loc;rw[eL]at nsC;have bx:H4 C=none:=by
    have:=I5.free;rw[eL]at this;exact this
   have fC:nN X di (upd H4 D (.lst ys)) C:=I2.fpOk (by rw[hD];exact aj) (by rw[bM (Ep ah)];exact bx);exact bw D C _ mm s5 J6 nsC fC ah (qn D pd.2.1)
  ·have ad:=T.item M eP eW eK eC i _ s4 σ4 H4 (fun _ _=>False) I4 (ay one a0) aN go;rw[eA]at ad;refine thn ad fun r s5 ⟨u,hr,h5⟩=>?_;subst hr;refine thn h5 fun _ s6 ⟨x,H6,I6,r6,y6,aB,bv⟩=>?_;have bK:=I6.pinned (ay one bv) (T.obj _ _ aB);obtain⟨hg,ht,he⟩:=bn;have e1:=hg _ s6 σ4 H6 x u _ bK r6 (step x H6 y6);rw[eP,eW,eA,eE,az]at e1;refine thn e1 fun _ s7 ⟨σ7,H7,I7,q7⟩=>?_;have e2:=ht _ s7 σ7 H7 _ I7 q7;rw[eP,eW,eA,eE,az]at e2;refine thn e2 fun ok s8 ⟨H8,I8,q8⟩=>?_;have fin:∀{U:St} {H':Hp} {s':Af} {aa:List Ac} {ag:Nat} {zs:List V},Inv M ([(D,{ cls:=.type "list",data:=.seq aa.toArray ag })] ++ pH fp s6.heap) U H' s'→c0 zs aa→Nx zs U H'→
     ∃ m,m < n∧∃ i ys its nn U H',Inv M [(D,{ cls:=.type "list",data:=.seq its.toArray nn })] U H' s'∧tn i s'.heap∧(∀ b∈fp,H' b=none)∧c0 ys its∧W i m ys U H':=fun{U H' s' aa ag zs} I' vs' n'=>by
    obtain⟨m',hm,w'⟩:=hN zs U H' n';refine⟨m',hm,i + 1,zs,aa,ag,U,H',I'.unpinned,T.keep _ _ _ aB fun b F o e=>(I'.pin (b,o) (A3 _ (A3 _ (mS F e)))).1,fun b F=>?_,vs',w'⟩;obtain⟨o,e,d⟩:=T.obj _ _ aB b F;exact(I'.pin (b,o) (A3 _ (A3 _ (mS F e)))).2.1
   cases ok with
   | false=>
    simp only[A9,if_false]at q8 ⊢;exact fin I8 an q8
   | true=>
    simp only[if_true]at q8 ⊢;have e3:=he _ s8 σ7 H8 _ I8 q8;rw[eP,eW,eA,eE,az]at e3;refine thn e3 fun v s9 ⟨y,H9,I9,r9,q9⟩=>?_;have pd:=I9.pin _ (A3 _ (Eo _ AI));have b5:=an.length;refine wpAny_list_append_plain (hsz:=by simp only[Av];omega) (⟨nn,pd.1⟩:s9.heap.PlainList D its.toArray) fun h' ⟨ag,bu⟩ bR=>?_;have bP:Inv M (pH fp s6.heap) σ7 H9 s9:=I9.pins_of fun p Y=>I9.pin p (A3 _ (A3 _ Y));have bB:Inv M (pH fp s6.heap) σ7 H9 { s9 with heap:=h' }:=bP.turned (t':=s9.toks) (it:=D) (fun b o F e=>(bR.2 b F).trans e) pd.2.1 (by rw[eL];exact ah) (.inr (by rw[eS];exact E8 hD))
     (fun x c e=>AF (ac x c e)) fun p Y=>by
      rw[bi]at Y;rcases Bo.mp Y with z | z
      ·exact AF (af p z)
      ·exact AF (ao _ (w6 z).1)
    have bj:h'.get? D=some { cls:=.type "list",data:=.seq (its ++ [v]).toArray ag }:=by
     rw[bu];simp
    exact fin (av (s':={ s9 with heap:=h' }) bB pd.2.1 bj) (an.append (.cons r9 .nil)) q9
 exact codeAny_compStart_list (ar _ rfl) (T.self X.A 0 _ _ _ bm (ar _ rfl))
end
def aHS(src:List (Option Nat))(wi:TI)(g:TG)(tt:TT)(te:TE):TE:=fun σ H Q=>wi σ H fun J H1=>uS J g tt te (sub src σ) H1 Q
section
variable{X:Cx}
theorem eG{tg z M:Bw}{F:List Bw}{scope osc:DV}{pos:Pos}{N oN:List Str}{src:List (Option Nat)}{W:TI}{g:TG}{Y:TT}{te:TE}(B:aAz N src scope osc oN)(hi:PI X tg z W)
  (O:∀ cl s H fp di C,PG (blk X N scope cl s H fp di C) tg g∧PTs (blk X N scope cl s H fp di C) F Y∧PE (blk X N scope cl s H fp di C) M te)
  (hc:X.calm=true:=by rfl) (eo:X.env.scope=osc:=by rfl) (eN:X.N=oN:=by rfl)
  (hs:∀ x,foldedSetIterable z X.env x=pure x:=by intro _;rfl):PE X (.ListComp M [⟨tg,z,F,0⟩] scope pos) (aHS src W g Y te):=by
 subst eo eN;constructor;intro di s σ H Q I h;rw[eval_ListComp];refine wpAny_comprehension_free (use:=none) (cl:=i4 X.env scope.names []) rfl hs (pY (I.clos B)) B.kind B.names (thn (hi di s σ H _ I h) fun xv s1 h1=>thn h1 fun ag s2 h2=>?_);obtain⟨it,fp,tn,J,H2,e,I2,T,st2,f2,cw⟩:=h2;subst e;refine xK B hc O I2 T st2 f2 cw fun D C H' m s' J' U fC Z q=>?_;refine⟨m,U,fun h' sb=>⟨.ref D,H',?_,rfl,q⟩⟩;obtain⟨f0,f1,_,f3,f4,f5⟩:=fC;exact J'.turned (t':=s'.toks) (fun b o O e=>(sb.2 b O).trans e) f0 f1 f3 f4 f5
theorem jO{tg F O:Bw}{M:List Bw}{scope osc:DV}{pos ps W:Pos}{y:Str}{i:Nat}{N oN:List Str}{src:List (Option Nat)}{wi:TI}{g:TG}{tt:TT}{te:TE}(B:aAz N src scope osc oN)(hN:X.N.Nodup)(hy:X.N[i]?=some y)(hi:PI X tg F wi)
  (hb:∀ cl s H fp di C,PG (blk X N scope cl s H fp di C) tg g∧PTs (blk X N scope cl s H fp di C) M tt∧PE (blk X N scope cl s H fp di C) O te)
  (U:X.env.scope.names.lookup y=some .local:=by rfl)
  (aa:swapsWith (.ListComp O [⟨tg,F,M,0⟩] scope pos) (some (.Name y W)) ps.line X.env=pure true:=by rfl)
  (hc:X.calm=true:=by rfl) (eo:X.env.scope=osc:=by rfl) (eN:X.N=oN:=by rfl)
  (hs:∀ x,foldedSetIterable F X.env x=pure x:=by intro _;rfl):PS X (.Assign [.Name y W] (.ListComp O [⟨tg,F,M,0⟩] scope pos) ps) (aIi (aHS src wi g tt te) (dG i)):=by
 subst eo eN;constructor;intro di s σ H D I h;rw[exec_Assign_Name_used _ _ _ _ aa];refine Aa (F3 (Aa ?_));show wpAny _ _ (evalThenUse (.ListComp O [⟨tg,F,M,0⟩] scope pos) X.env (assign (.Name y W) X.env)) _ _ s;have e:evalThenUse (.ListComp O [⟨tg,F,M,0⟩] scope pos) X.env (assign (.Name y W) X.env)=(do
   let _ ← comprehension (.ListComp O [⟨tg,F,M,0⟩] scope pos) scope X.env (firstIterPos [⟨tg,F,M,0⟩] pos) (newList []) (firstAsync [⟨tg,F,M,0⟩]) (firstIter [⟨tg,F,M,0⟩] X.env) (some (assign (.Name y W) X.env))):=rfl
 rw[e];refine Aa ?_;refine wpAny_comprehension_free (use:=some (assign (.Name y W) X.env)) (cl:=i4 X.env scope.names []) rfl hs (pY (I.clos B)) B.kind B.names (thn (hi di s σ H _ I h) fun xv s1 h1=>thn h1 fun ar s2 h2=>?_);obtain⟨it,fp,tn,J,H2,e,I2,T,st2,f2,cw⟩:=h2;subst e;refine xK B hc hb I2 T st2 f2 cw fun D' C H' m s' J' ad fC ah q=>?_;obtain⟨f0,f1,_,f3,f4,f5⟩:=fC;refine wpAny_assign_Name (w5 J' hN hy (.inl U) (v:=.ref D') rfl (fun Y ae ⟨a,sb,ha⟩=>?_) (.inr U));have Z:C≠a:=by
  rcases ha with rfl | ha
  ·exact f1
  ·exact fun z=>f4 y a ha z.symm
 refine⟨m,ad.sameBut sb Z,fun h' ab=>Ae (Ae ⟨_,H',ae.turned (t':=Y.toks) (fun b o hb e=>(ab.2 b hb).trans e) f0 f1 f3 f4 f5,q⟩)⟩
end
section
variable{X:Cx}
inductive nJ(K:Aj)(xs:List V)(H:Hp)(Q:VK):Prop
 | mk (x:_) (n:_) (t:_) (b:_) (q0:xs=[x,.ty n]) (q1:jM K H x t) (q2:B0 K t (.type n)=some b) (q3:Q (.bl b) H):nJ K xs H Q
def o0(K:Aj):List V→Hp→VK→Prop:=fun xs H Q=>nJ K xs H Q
theorem dH:fX X (.builtin "isinstance") (o0 X.K):=by
 intro di s σ H xs us Q I r h;obtain⟨x,n,t,b,rfl,ty,e,q⟩:=h;obtain⟨u,w',rfl,r1,r2⟩:=aEQ r;cases r2;exact aDO I r1 ty e fun tk=>⟨.bl b,H,I.tok _,rfl,q⟩
inductive o1(x:V)(y:V)(H:Hp)(Q:VK):Prop
 | mk (i:_) (j:_) (q0:x=.str i) (q1:y=.str j) (q2:Q (.bl (!decide (j.cps.toList < i.cps.toList))) H):o1 x y H Q
def aAB:V→V→Hp→VK→Prop:=fun x y H Q=>o1 x y H Q
theorem xL:OpR X (compareOp .LtE) aAB:=by
 intro di s σ H x y v u Q I B z h;obtain⟨i,j,rfl,rfl,q⟩:=h;obtain⟨t,rfl⟩:=B;obtain⟨t',rfl⟩:=z;exact PySem.P.le_str ⟨.bl _,H,I,rfl,q⟩
def xM(i j:Int):Prop:=0 < j∧j.natAbs.log2 < 9000
theorem xM.of{i j:Int}(h:0 < j)(h2:j < 2 ^ 512):xM i j:=by
 refine⟨h,?_⟩;have q:j.natAbs≠0:=by omega
 have:j.natAbs.log2 < 512:=(Nat.log2_lt q).mpr (by
  have e:((2:Int) ^ 512)=((2 ^ 512:Nat):Int):=by decide
  rw[e]at h2;omega)
 omega
theorem uT:OpR X (binaryOp .FloorDiv) (rI xM fun i j=>.int (i / j)):=opI fun i j _ _ _ _ _ hc q=>by
 have h1:(0:Int) < j:=hc.1;refine floordiv_int (by omega) ?_ (AE (PyProof.noPylong_of_log2 hc.2));rw[Int.fdiv_eq_ediv_of_nonneg i (by omega)];exact q
def Its(x:Str):It:=⟨fun i _=>i < x.cps.size,fun i H v H'=>H'=H∧∃ c,x.cps[i]?=some c∧v=.str ⟨#[c]⟩,fun i _=>x.cps.size≤i⟩
theorem aE4{P:AG}{w:A2}{K:Aj}{tg:Bw}(it:Ag)(x:Str)(t:Tok)(nm:String)(O:nm="str_ascii_iterator"∨nm="str_iterator")
  (W:∀ A':AW,A'.handled=none→Walks P w A' it [it] [it] x.cps.size (SignAt x) (fun i h=>h.IsStrIter it nm x t i))
  (B:∀(A:AW) (i:Nat) (s:Af) (Q:Ac→Af→Prop) (E:Ac→Af→Prop),s.heap.IsStrIter it nm x t i→Q (.ref it) s→wpAny (model P w) A (pyIter (.ref it)) Q E s):
  aDK P w K tg (Its x) [it] it (fun i h=>i≤x.cps.size∧h.IsStrIter it nm x t i) where
 mem:=by simp
 obj:=fun i h st b q=>by
  have e:b=it:=by simpa using q
  subst e;obtain⟨_,o,e,c,d⟩:=st;exact⟨o,e,fun v z=>by rw[d]at z;cases z⟩
 keep:=fun i h h' st k=>⟨st.1,by obtain⟨_,o,e,c,d⟩:=st;exact⟨o,k it (by simp) o e,c,d⟩⟩
 item:=by
  intro X hP hw Y hc i di s σ H E I M st J;subst hP hw Y;obtain⟨f0,f1,f2,f3,f4,f5⟩:=M it (by simp);refine(W X.A (I.ok.hd hc)).item i s _ _ J st.2 fun v h' tk Z F U=>?_;obtain⟨c,u,ec,rfl⟩:=Z;have I1:Inv X di σ H { s with heap:=h',toks:=tk }:=I.turned (fun b o q e=>U b o (by simpa using q) e) f0 f1 f3 f4 f5;obtain⟨o,e,c',d⟩:=id F;refine⟨_,rfl,aCE (s:={ s with heap:=h',toks:=tk }) e c' d (by rcases O with rfl | rfl <;> decide) ⟨.str ⟨#[c]⟩,H,I1,⟨u,rfl⟩,⟨rfl,c,ec,rfl⟩,⟨J,F⟩,fun b q=>(M b q).1⟩⟩
 done:=by
  intro X hP hw Y hc i di s σ H E I M st J;subst hP hw Y;obtain⟨f0,f1,f2,f3,f4,f5⟩:=M it (by simp);have e:i=x.cps.size:=Nat.le_antisymm st.1 J;subst e;exact(W X.A (I.ok.hd hc)).done s _ _ st.2 fun h' tk U=>⟨rfl,I.turned (fun b o q e=>U b o (by simpa using q) e) f0 f1 f3 f4 f5⟩
 self:=fun A i s Q E st h=>B A i s Q E st.2 h
def aKx(tl:TE):TI:=fun σ H R=>tl σ H fun x H1=>As V.str x fun z=>R (Its z) H1
theorem aIA{tg l:Bw}{tl:TE}(hl:PE X l tl):PI X tg l (aKx tl):=by
 constructor;intro di s σ H R I h;refine thn (hl di s σ H _ I h) fun v B ⟨x,H1,U,r1,Y⟩=>?_;obtain⟨z,rfl,q⟩:=Y;obtain⟨t,rfl⟩:=r1;have fin:∀(nm:String) (J:nm="str_ascii_iterator"∨nm="str_iterator")
   (W:∀ M:AW,M.handled=none→Walks X.prog X.w M B.heap.objs.size [B.heap.objs.size] [B.heap.objs.size] z.cps.size (SignAt z) (fun i h=>h.IsStrIter B.heap.objs.size nm z t i))
   (F:∀(A:AW) (i:Nat) (s:Af) (Q:Ac→Af→Prop) (E:Ac→Af→Prop),s.heap.IsStrIter B.heap.objs.size nm z t i→Q (.ref B.heap.objs.size) s→wpAny (model X.prog X.w) A (pyIter (.ref B.heap.objs.size)) Q E s),
   PIE X di σ tg R (.ref B.heap.objs.size) { B with heap:=B.heap.push { cls:=.type nm,data:=.fields #[.str z t,.int 0 0] } }:=fun nm J W F=>by
  refine⟨B.heap.objs.size,[B.heap.objs.size],_,_,H1,rfl,U.kept (t':=B.toks) fun b o e=>Ah _ e,aE4 B.heap.objs.size z t nm J W F,⟨A0 _,_,Ax _ rfl,rfl,rfl⟩,fun b Z=>?_,q⟩;have e:b=B.heap.objs.size:=by simpa using Z
  subst e;exact U.fpOk (Ao _) (U.hok.fresh (Ao _))
 cases ha:z.cps.all (· < 128)
 ·exact wpAny_pyIter_wide ha (fin "str_iterator" (.inr rfl) (fun M O=>Walks.strWide O _ z t) fun A i s Q E st h=>wpAny_pyIter_striter_wide st h)
 ·exact wpAny_pyIter_ascii ha (fin "str_ascii_iterator" (.inl rfl) (fun M O=>Walks.strAscii O _ z t) fun A i s Q E st h=>wpAny_pyIter_striter_ascii st h)
inductive uU(x:V)(lo:Option Int)(hi:Option Int)(H:Hp)(Q:VK):Prop
 | mk (z:_) (q0:x=.str z) (q1:z.length≤sizeLine) (q2:Q (.str (Ej z lo hi)) H):uU x lo hi H Q
def aE5:V→Option Int→Option Int→Hp→VK→Prop:=fun x lo hi H Q=>uU x lo hi H Q
theorem aE6:SlR X aE5:=by
 intro di s σ H x v vl Z lo hi Y Q I W U pl M h;obtain⟨z,rfl,hz,q⟩:=h;obtain⟨t,rfl⟩:=W;refine⟨"str",_,F.slot_str_getitem.lookup,F9 _ _ _,?_⟩;have fin:∀ J k,EP X di σ Q (.str (Ej z lo hi) J) { s with toks:=k }:=fun J k=>⟨.str _,H,I.tok _,⟨_,rfl⟩,q⟩
 obtain⟨o,ho,hc,hd⟩:=U;cases pl with
 | none=>
  cases M with
  | none=>exact D9 (l:=none) (u:=none) (st:=none) ⟨o,ho,hc,hd⟩ rfl (Ft ⟨Bi (E7 z _ _) hz,fin⟩)
  | int j B=>exact D9 (l:=none) (u:=some (j,B)) (st:=none) ⟨o,ho,hc,hd⟩ rfl (Ft ⟨Bi (E7 z _ _) hz,fin⟩)
 | int i O=>
  cases M with
  | none=>exact D9 (l:=some (i,O)) (u:=none) (st:=none) ⟨o,ho,hc,hd⟩ rfl (Ft ⟨Bi (E7 z _ _) hz,fin⟩)
  | int j B=>exact D9 (l:=some (i,O)) (u:=some (j,B)) (st:=none) ⟨o,ho,hc,hd⟩ rfl (Ft ⟨Bi (E7 z _ _) hz,fin⟩)
theorem aCT:∀{ys:List Str}{us:List Ac},c0 (ys.map V.str) us→GV us ys
 | [],_,.nil=>.nil
 | y :: ys,_,.cons ⟨t,rfl⟩ r=>.cons y t (aCT r)
inductive sZ(K:Aj)(x:V)(xs:List V)(H:Hp)(Q:VK):Prop
 | mk (z:_) (p:_) (ys:_) (q0:x=.str z) (q1:xs=[.ref p]) (q2:SqL K H p (ys.map V.str)) (q3:(ys.map (·.length)).sum + ys.length * z.length≤16777216) (q4:Q (.str (Txt.join z ys)) H):sZ K x xs H Q
def aDW(K:Aj):V→List V→Hp→VK→Prop:=fun x xs H Q=>sZ K x xs H Q
theorem aGU:MtR X "str.join" (aDW X.K):=by
 intro di s σ H x xs v us Q I B r h;obtain⟨z,p,ys,rfl,rfl,hx,hz,q⟩:=h;obtain⟨t,rfl⟩:=B;obtain⟨u,rfl,ru⟩:=fY r;cases ru;obtain⟨its,rv,pl,_⟩:=I.list hx;exact join_list pl.isList (by simpa using aCT rv) hz fun F k=>⟨.str _,H,I.tok _,⟨_,rfl⟩,q⟩
theorem aAC:∀{bs:List Bool}{us:List Ac},c0 (bs.map V.bl) us→∀(i:Nat) v,us[i]?=some v→∃ b,bs[i]?=some b∧v=.bool b
 | [],_,.nil,i,v,e=>by simp at e
 | b :: bs,_,.cons rfl r,0,v,e=>by simp at e;exact⟨b,rfl,e.symm⟩
 | b :: bs,_,.cons rfl r,i + 1,v,e=>by
  obtain⟨c,h1,h2⟩:=aAC r i v (by simpa using e);exact⟨c,by simpa using h1,h2⟩
theorem aBX(bs:List Bool):((AU bs.length).all fun i=>(bs[i]?).getD true)=bs.all id:=by
 rw[Cu,A8,A8];constructor
 ·intro h b z;obtain⟨i,hi,e⟩:=Dz.mp z;have:=h i (BK.mpr hi);rw[Ab hi]at this;simpa[e]using this
 ·intro h i hi;have q:=BK.mp hi;rw[Ab q];exact h _ (Bn q)
inductive p3(K:Aj)(xs:List V)(H:Hp)(Q:VK):Prop
 | mk (p:Ag) (bs:List Bool) (q0:xs=[.ref p]) (q1:SqL K H p (bs.map V.bl)) (q2:Q (.bl (bs.all id)) H):p3 K xs H Q
def aBY(K:Aj):List V→Hp→VK→Prop:=fun xs H Q=>p3 K xs H Q
theorem p4(hc:X.calm=true):fX X (.builtin "all") (aBY X.K):=by
 intro di s σ H xs us Q I r h;obtain⟨p,bs,rfl,hx,q⟩:=h;obtain⟨u,rfl,ru⟩:=fY r;cases ru;obtain⟨its,rv,pl,_⟩:=I.list hx;have F:=pl.isList;have z:its.length=bs.length:=by have:=rv.length;simpa using this.symm
 have B:p < s.heap.objs.size:=by obtain⟨_,e,_⟩:=F;exact Ay e
 refine call_all_walk (E4 F ?_);refine⟨s.heap.objs.size,[s.heap.objs.size,p],[s.heap.objs.size],its.toArray.size,_,_,fun i=>(bs[i]?).getD true,rfl,Hf (A:=X.A.in1) (I.ok.hd hc) _ p (AF B) its.toArray,
  ⟨⟨_,Ax _ rfl,rfl,rfl⟩,F.push _⟩,fun i v s' M O hP hQ=>?_,fun h' tk J=>?_⟩
 ·obtain⟨b,e,rfl⟩:=aAC rv i v (by simpa using hP);simp only[e,Option.getD_some]at hQ;exact CN hQ
 ·rw[Av,z,aBX];exact⟨.bl _,H,I.kept fun b x e=>J b x (fun hm=>by rw[BC.mp hm]at e;exact Cf _ (Ay e)) (Ah _ e),rfl,q⟩
def wP:List V→List V→Bool
 | [],[]=>true
 | x :: xs,y :: ys=>eqV x y && wP xs ys
 | _,_=>false
theorem uV:∀{xs ys:List V},xs.length≠ys.length→wP xs ys=false
 | [],[],h=>absurd rfl h
 | [],_ :: _,_=>rfl
 | _ :: _,[],_=>rfl
 | x :: xs,y :: ys,h=>by
  show(eqV x y && wP xs ys)=false;rw[uV (fun e=>h (by simp[e])),Gz]
theorem uW:∀{xs ys:List V},xs.length=ys.length→((AU xs.length).all fun i=>eqV (xs[i]?.getD .non) (ys[i]?.getD .non))=wP xs ys
 | [],[],_=>rfl
 | x :: xs,y :: ys,h=>by
  have q:=uW (xs:=xs) (ys:=ys) (by simpa using h);rw[A5,List.range_succ_eq_map,CF,DD];show(eqV x y && _)=(eqV x y && wP xs ys)
  rw[← q];rfl
theorem aAD{A:AW}{s:Af}{xs ys:List V}{us B:List Ac}(J:c0 xs us)(F:c0 ys B)(f1:xs.all iV=true)(f2:ys.all iV=true)(j:Nat)(h1:j < us.toArray.size)(h2:j < B.toArray.size):
  FA A s us.toArray[j] B.toArray[j] (eqV (xs[j]?.getD .non) (ys[j]?.getD .non)):=by
 have U:=J.length;have W:=F.length;have z:j < xs.length:=by simpa[U]using h1
 have q:j < ys.length:=by simpa[W]using h2
 obtain⟨u,eu,ru⟩:=J.get (Ab z);obtain⟨w',ew,rw'⟩:=F.get (Ab q);have O:us.toArray[j]=u:=by
  rw[Ab (by simpa using h1)]at eu;simpa using eu
 have M:B.toArray[j]=w':=by
  rw[Ab (by simpa using h2)]at ew;simpa using ew
 rw[O,M,Ab z,Ab q];exact rH ru rw' (A8.mp f1 _ (Bn z)) (A8.mp f2 _ (Bn q))
inductive uX(K:Aj)(x:V)(y:V)(H:Hp)(Q:VK):Prop
 | mk (p:_) (q:_) (xs:_) (ys:_) (q0:x=.ref p) (q1:y=.ref q) (q2:SqL K H p xs) (q3:SqL K H q ys) (q4:xs.all iV=true) (q5:ys.all iV=true) (q6:Q (.bl (wP xs ys)) H):uX K x y H Q
def aE7(K:Aj):V→V→Hp→VK→Prop:=fun x y H Q=>uX K x y H Q
theorem aIB(z:X.A.units < cLine):OpR X (compareOp .Eq) (aE7 X.K):=by
 intro di s σ H x y v u Q I J B h;obtain⟨p,q,xs,ys,rfl,rfl,h1,h2,f1,f2,hq⟩:=h;cases J;cases B;obtain⟨us,r1,p1,_⟩:=I.list h1;obtain⟨ws,r2,p2,_⟩:=I.list h2;have F:=r1.length;have M:=r2.length;by_cases e:xs.length=ys.length
 ·refine SeqAt.eq_listAt p1.isList p2.isList (by simp;omega) z (aAD r1 r2 f1 f2) ?_;rw[Av,← F,uW e];exact⟨.bl _,H,I,rfl,hq⟩
 ·refine SeqAt.eq_list_lengthsAt p1.isList p2.isList (by simp;omega) z ?_;rw[uV e]at hq;exact⟨.bl _,H,I,rfl,hq⟩
inductive uY(K:Aj)(x:V)(y:V)(H:Hp)(Q:VK):Prop
 | mk (p:_) (q:_) (xs:_) (ys:_) (q0:x=.ref p) (q1:y=.ref q) (q2:SqL K H p xs) (q3:SqL K H q ys) (q4:xs.all iV=true) (q5:ys.all iV=true) (q6:Q (.bl (!wP xs ys)) H):uY K x y H Q
def aE8(K:Aj):V→V→Hp→VK→Prop:=fun x y H Q=>uY K x y H Q
theorem aE9(z:X.A.units < cLine):OpR X (compareOp .NotEq) (aE8 X.K):=by
 intro di s σ H x y v u Q I J B h;obtain⟨p,q,xs,ys,rfl,rfl,h1,h2,f1,f2,hq⟩:=h;cases J;cases B;obtain⟨us,r1,p1,_⟩:=I.list h1;obtain⟨ws,r2,p2,_⟩:=I.list h2;have F:=r1.length;have M:=r2.length;by_cases e:xs.length=ys.length
 ·refine SeqAt.RcNeAt.lists p1.isList p2.isList (by simp;omega) z (aAD r1 r2 f1 f2) X.prog X.w _ _ ?_;rw[Av,← F,uW e];exact⟨.bl _,H,I,rfl,hq⟩
 ·refine SeqAt.RcNeAt.lists_lengths p1.isList p2.isList (by simp;omega) z X.prog X.w _ _ ?_;rw[uV e]at hq;exact⟨.bl _,H,I,rfl,hq⟩
end
theorem aS{n:Nat}(h:n≤1000000):n≤sizeLine:=by
 have:sizeLine=16777216:=FJ;omega
theorem t5{J:It}{g:TG}{O:TT}{te:TE}{U:St}{H₀:Hp}{Q:VK}(n:Nat)(Pv:Nat→List V→St→Hp→Prop)(Z:Pv 0 [] U H₀)(hn:n≤sizeLine)(B:∀ i ys σ H,Pv i ys σ H→ys.length≤i)
  (M:∀ i ys σ H,i < n→Pv i ys σ H→J.go i H) (z:∀ ys σ H,Pv n ys σ H→J.stop n H)
  (hs:∀ i ys σ H x H',i < n→Pv i ys σ H→J.yld i H x H'→g x σ H' fun F H2=>O F H2 fun b W=>if b=true then te F W fun v Y=>Pv (i + 1) (ys ++ [v]) F Y else Pv (i + 1) ys F W)
  (hd:∀ ys σ H,Pv n ys σ H→∀ D,H D=none→Q (.ref D) (upd H D (.lst ys))):uS J g O te U H₀ Q:=by
 refine⟨fun i m ys σ H=>m=n - i∧i≤n∧Pv i ys σ H,⟨n,by simp,A0 _,Z⟩,?_⟩;rintro i m ys σ H ⟨rfl,hi,p⟩;refine⟨Bi (B i ys σ H p) (Bi hi hn),?_⟩;by_cases q:i < n
 ·exact .inr ⟨M i ys σ H q p,Pv (i + 1),fun zs σ' H' p'=>⟨n - (i + 1),by omega,rfl,q,p'⟩,fun x H' y=>hs i ys σ H x H' q p y⟩
 ·have e:i=n:=by omega
  subst e;exact .inl ⟨z ys σ H p,hd ys σ H p⟩
theorem aFa{x:Str}{g:TG}{B:TT}{te:TE}{F:St}{H₀:Hp}{Q:VK}(Pv:Nat→List V→St→Hp→Prop)(O:Pv 0 [] F H₀)(hn:x.cps.size≤sizeLine)(q:∀ i ys σ H,Pv i ys σ H→ys.length≤i)
  (U:∀ i c ys σ H,x.cps[i]?=some c→Pv i ys σ H→g (.str ⟨#[c]⟩) σ H fun z H2=>B z H2 fun b J=>if b=true then te z J fun v M=>Pv (i + 1) (ys ++ [v]) z M else Pv (i + 1) ys z J)
  (hd:∀ ys σ H,Pv x.cps.size ys σ H→∀ D,H D=none→Q (.ref D) (upd H D (.lst ys))):uS (Its x) g B te F H₀ Q:=
 t5 x.cps.size Pv O hn q (fun i _ _ _ h _=>h) (fun _ _ _ _=>Ao _) (fun i ys σ H v H' hi p y=>by
  obtain⟨e,c,ec,rfl⟩:=y;subst e;exact U i c ys σ _ ec p) hd
theorem jP{lo:Int}{n:Nat}{g:TG}{B:TT}{te:TE}{F:St}{H₀:Hp}{Q:VK}(Pv:Nat→List V→St→Hp→Prop)(O:Pv 0 [] F H₀)(hn:n≤sizeLine)(q:∀ i ys σ H,Pv i ys σ H→ys.length≤i)
  (U:∀ i ys σ H,i < n→Pv i ys σ H→g (.int (lo + i)) σ H fun z H2=>B z H2 fun b J=>if b=true then te z J fun v M=>Pv (i + 1) (ys ++ [v]) z M else Pv (i + 1) ys z J)
  (hd:∀ ys σ H,Pv n ys σ H→∀ D,H D=none→Q (.ref D) (upd H D (.lst ys))):uS (Itr lo n) g B te F H₀ Q:=
 t5 n Pv O hn q (fun i _ _ _ h _=>h) (fun _ _ _ _=>Ao _) (fun i ys σ H v H' hi p y=>by
  obtain⟨e,rfl⟩:=y;subst e;exact U i ys σ _ hi p) hd
theorem jC{K:Aj}{a:Ag}{xs:List V}{g:TG}{F:TT}{te:TE}{J:St}{H₀:Hp}{Q:VK}(Pv:Nat→List V→St→Hp→Prop)(U:Pv 0 [] J H₀)(hn:xs.length≤sizeLine)(q:∀ i ys σ H,Pv i ys σ H→ys.length≤i)
  (B:∀ i ys σ H,Pv i ys σ H→SqL K H a xs)
  (W:∀ i x ys σ H,xs[i]?=some x→Pv i ys σ H→g x σ H fun z H2=>F z H2 fun b M=>if b=true then te z M fun v O=>Pv (i + 1) (ys ++ [v]) z O else Pv (i + 1) ys z M)
  (hd:∀ ys σ H,Pv xs.length ys σ H→∀ D,H D=none→Q (.ref D) (upd H D (.lst ys))):uS (Itl K a) g F te J H₀ Q:=
 t5 xs.length Pv U hn q (fun i ys σ H h p=>⟨xs,xs[i],B i ys σ H p,by simp[h]⟩) (fun ys σ H p=>⟨xs,B _ ys σ H p,Ao _⟩) (fun i ys σ H v H' hi p y=>by
  obtain⟨e,y⟩:=y;subst e;exact W i v ys σ _ (y xs (B i ys σ _ p)) p) hd
theorem gN{K:Aj}{a:Ag}{xs:List V}{g:TG}{F:TT}{te:TE}{J:St}{H₀:Hp}{Q:VK}(Pv:Nat→List V→St→Hp→Prop)(U:Pv 0 [] J H₀)(hn:xs.length≤sizeLine)(q:∀ i ys σ H,Pv i ys σ H→ys.length≤i)
  (B:∀ i ys σ H,Pv i ys σ H→SqT K H a xs)
  (W:∀ i x ys σ H,xs[i]?=some x→Pv i ys σ H→g x σ H fun z H2=>F z H2 fun b M=>if b=true then te z M fun v O=>Pv (i + 1) (ys ++ [v]) z O else Pv (i + 1) ys z M)
  (hd:∀ ys σ H,Pv xs.length ys σ H→∀ D,H D=none→Q (.ref D) (upd H D (.lst ys))):uS (Itt K a) g F te J H₀ Q:=
 t5 xs.length Pv U hn q (fun i ys σ H h p=>⟨xs,xs[i],B i ys σ H p,by simp[h]⟩) (fun ys σ H p=>⟨xs,B _ ys σ H p,Ao _⟩) (fun i ys σ H v H' hi p y=>by
  obtain⟨e,y⟩:=y;subst e;exact W i v ys σ _ (y xs (B i ys σ _ p)) p) hd
def aZ(p:Ag)(H H':Hp):Prop:=∀ b o,H b=some o→b≠p→H' b=some o
theorem aZ.refl(p:Ag)(H:Hp):aZ p H H:=fun _ _ e _=>e
theorem aZ.trans{p:Ag}{H H1 H2:Hp}(a:aZ p H H1)(b:aZ p H1 H2):aZ p H H2:=fun c o e h=>b c o (a c o e h) h
theorem aZ.same{p:Ag}{H H1 H2:Hp}(a:aZ p H H1)(b:bW H1 H2):aZ p H H2:=fun c o e h=>b c o (a c o e h)
theorem bW.but{p:Ag}{H H1:Hp}(a:bW H H1):aZ p H H1:=fun c o e _=>a c o e
theorem aZ.upd{p:Ag}{o:HO}{H H1:Hp}(a:aZ p H H1):aZ p H (upd H1 p o):=fun c u e h=>by rw[bM h];exact a c u e h
theorem aV{p:Ag}{o:HO}{H:Hp}(h:H p=none):bW H (upd H p o):=fun c u e=>by rw[bM (aY e h)];exact e
section
variable{X:Cx}
end
section
variable{X:Cx}
inductive aFb(t:TS)(D:rB)(σ:St)(H:Hp):Prop
 | mk (R:St→Hp→Prop) (q0:t { D with nx:=R } σ H) (q1:∀ σ' H',R σ' H'→D.nx σ' H'):aFb t D σ H
def aKy(t:TS):TS:=fun D σ H=>aFb t D σ H
theorem kX{st:B8}{t:TS}(h:PS X st t):PS X st (aKy t):=by
 constructor;intro di s σ H D I q;obtain⟨R,q1,q2⟩:=q;refine thn (h di s σ H _ I q1) fun f s' z=>?_;cases f with
 | next=>obtain⟨σ',H',I',r⟩:=z;exact⟨σ',H',I',q2 _ _ r⟩
 | brk=>exact z
 | cont=>exact z
 | ret u=>exact z
end
theorem xN:∀ ns:List Int,(ns.map V.int).all iV=true
 | []=>rfl
 | _ :: r=>xN r
theorem uZ{K:Aj}{T U:String}{b:Bool}(hn:(AC T == AC U)=false)(hm:PySem.W.kitMeta U=true)(q:(PySem.fastBuiltinMro T).map (·.contains (AC U))=some b):B0 K (.type T) (.type U)=some b:=by
 unfold B0;rw[Ia (by rw[hn];exact AD)];show(if PySem.W.kitMeta U=true then PySem.W.subIn K (AC T) (AC U) else none)=_;rw[Ib hm];exact q
theorem nX{K:Aj}{T:String}:B0 K (.type T) (.type T)=some true:=by
 unfold B0;rw[Ib (by rw[beq_self_eq_true])]
theorem gR{xs:List V}{i:Int}(z:0≤i)(h1:i < xs.length):∃ v,v∈xs∧atI xs i=some v:=by
 have q:i.toNat < xs.length:=by omega
 refine⟨xs[i.toNat],Bn q,?_⟩;have e:=fG (xs:=xs) (j:=i.toNat) (v:=xs[i.toNat]) (Ab q);rw[DJ z]at e;exact e
def aFc:Bw→Bool
 | .Starred ..=>false
 | _=>true
theorem aDX{e:Bw}{es:List Bw}{env:Env}(h:aFc e=true):starEach (e :: es) env=(false,eval e env) :: starEach es env:=by
 cases e <;> first | rfl | cases h
theorem aG{X:Cx}{e:Bw}{es:List Bw}{te:TE}{t:TA}(ha:PE X e te)(z:PA X es t)(q:aFc e=true:=by rfl):PA X (e :: es) (aCK te t):=g8 ha z (aDX q)
section
variable{X:Cx}
theorem Inv.turnedL{di:Ih}{σ:St}{H:Hp}{s:Af}{h':Bp}{t':Nat}{fp:List Ag}(I:Inv X di σ H s)(k:∀ b o,b ∉ fp→s.heap.get? b=some o→h'.get? b=some o)(F:∀ b∈fp,nN X di H b):
  Inv X di σ H { s with heap:=h',toks:=t' }:=by
 have B:∀ b u,H b=some u→b ∉ fp:=fun b u e z=>by rw[(F b z).1]at e;cases e
 refine I.step (g':=s.gens) (d':=s.drawn) (ch:=fp) (fun b J=>?_) (fun b o _ _ hc e _=>k b o hc e) (fun b o _ _ hc e _=>⟨o.slots,k b o hc e⟩) (fun _ _ _ _ n=>n)
  (fun b o hc e=>⟨o,k b o hc e⟩) (fun _ _ e=>e) (fun _ _ _ e=>e) (fun b ps e=>⟨#[],by rw[e];simp⟩) (fun m hm=>?_) (fun b u e=>?_) I.bare
 ·obtain⟨_,h1,_,h3,h4,h5⟩:=F b J;exact⟨h3,h1,h4,h5⟩
 ·obtain⟨o,es,ep,ho,r⟩:=hm;exact⟨o,es,ep,k _ o (fun z=>(F _ z).2.1 rfl) ho,r⟩
 ·refine(I.hok b u e).stay (fun c v hc q=>k c v ?_ q) (fun _ q=>q) fun _ _ q=>q;rcases hc with z | z
  ·rw[z];exact B b u e
  ·exact B c _ z
structure ZA(z TI TO i1 i2:Ag):Prop where
 a1:TI≠z
 a2:TO≠z
 a3:i1≠z
 a4:i2≠z
 a5:TI≠TO
 a6:TI≠i1
 a7:TI≠i2
 a8:TO≠i1
 a9:TO≠i2
 a10:i1≠i2
end
def jQ(σ:List Str)(v:Str):List Str:=if v∈σ then σ else σ ++ [v]
def fA(val:Nat→Str):Nat→List Str
 | 0=>[]
 | i + 1=>jQ (fA val i) (val i)
theorem p5(σ:List Str)(k:Str):(σ.any fun x=>x == k)=decide (k∈σ):=by
 rw[Cu,CT,decide_eq_true_iff];constructor
 ·rintro⟨x,hx,e⟩;rw[beq_iff_eq]at e;exact e ▸ hx
 ·intro h;exact⟨k,h,beq_self_eq_true k⟩
theorem xO(σ:List Str)(v k:Str):((jQ σ v).any fun x=>x == k)=((σ.any fun x=>x == k) || decide (k=v)):=by
 rw[p5,p5];unfold jQ;split
 ·next h=>
  rw[Cu];simp only[decide_eq_true_eq,Bool.or_eq_true];constructor
  ·intro z;exact .inl z
  ·rintro(z | z)
   ·exact z
   ·exact z ▸ h
 ·rw[Cu];simp
theorem i7(σ:List Str)(v:Str):(jQ σ v).length=if (σ.any fun x=>x == v)=true then σ.length else σ.length + 1:=by
 rw[p5];unfold jQ;by_cases h:v∈σ
 ·rw[Ib h,Ib (Ic h)]
 ·rw[Ia h,Ia (by simpa using h),Au];rfl
theorem oF(val:Nat→Str):∀ i,(fA val i).length≤i
 | 0=>Ao _
 | i + 1=>by
  have q:=oF val i;show(jQ _ _).length≤_;rw[i7];split <;> omega
theorem aDY{prog:AG}{w:A2}{A:AW}{R:Result→Af→Prop}{I:Ag}{fp wr:List Ag}{G:Array Gq→Array Gq→Prop}{n:Nat}{P:Nat→Ac→Prop}{St:Nat→Af→Prop}
  (W:WalksS prog w A.in1 I fp wr G n P St) (S:Ag) (ac:¬ S∈fp) (val:Nat→Str) (O:∀(i:Nat) (v:Ac),P i v→∃ t,v=BE (val i) t) (J:n + 1 < scanBound):
  ∀(k i:Nat) (s:Af),n - i=k→i≤n→St i s→FE (Bv prog w) s.heap S (fun F=>(fA val i).any fun x=>x == F) (fA val i).length→
   (∀ s':Af,Moved (S :: wr) G s s'→FE (Bv prog w) s'.heap S (fun F=>(fA val n).any fun x=>x == F) (fA val n).length→R (Hm (Hd Ci)) s')→
   codeAny (model prog w) A (Code.builtin "set.update.loop" { pos:=[AJ S,AJ I] }) R s:=by
 have M:¬ S∈wr:=fun h=>ac (W.sub S h);have q:∀ b,b∈wr→b∈S :: wr:=fun b J=>AL S J;intro k
 induction k with
 | zero=>
  intro i s hk hi B hS hR;have ag:i=n:=by omega
  subst ag;refine BX CC ?_;rw[BM BO];refine Aa (W.done s _ _ B fun s' hm=>?_);refine Ae (hR s' (Gp hm q) ?_);obtain⟨o,es,ep,t,ho,cS⟩:=hS;exact⟨o,es,ep,t,hm.heap S o M ho,cS⟩
 | succ k ih=>
  intro i s hk hi B hS hR;have Z:i < n:=by omega
  refine BX CC ?_;rw[BM BO];refine Aa (W.item i s _ _ Z B fun v s' hP aa hm=>?_);obtain⟨t,rfl⟩:=O i v hP;have af:FE (Bv prog w) s'.heap S (fun F=>(fA val i).any fun x=>x == F) (fA val i).length:=by
   obtain⟨o,es,ep,tb,ho,cS⟩:=hS;exact⟨o,es,ep,tb,hm.heap S o M ho,cS⟩
  have z:(fA val i).length + 1 < scanBound:=by
   have:=oF val i;omega
  refine Aa (Bc (Bc (Aa ((Bv prog w).pyHash (GY prog w (val i) t) ?_))));refine wpAny_setAddHashed_of (GY prog w (val i) t) rfl af z fun h' U ah=>?_;refine Ae ⟨Dv BO _,?_⟩;refine ih (i + 1) _ (by omega) Z (W.frame (i + 1) s' h' _ aa (C6 s'.toks) fun b J o e=>?_) ?_ fun ae Y ad=>?_
  ·rw[U.right b fun h=>ac (h ▸ J)];exact e
  ·refine SetOf_congr ah (fun F=>?_) ?_
   ·show _=((jQ _ _).any _)
    rw[xO]
   ·show _=(jQ _ _).length;rw[i7]
  ·refine hR ae (Moved.trans W.gtrans (Moved.then_heap (Gp hm q) (C6 s'.toks) fun b o J e=>?_) Y) ad;rw[U.right b fun h=>J (h ▸ AI)];exact e
theorem wQ{prog:AG}{w:A2}{A:AW}{E:Ac→Af→Prop}{s:Af}{l:Ag}{z:Array Ac}{val:Nat→Str}{Q:Ac→Af→Prop}(hh:A.handled=none)(hl:s.heap.IsList l z)
  (hi:∀(i:Nat) (v:Ac),z[i]?=some v→∃ t,v=BE (val i) t) (hb:z.size + 1 < scanBound)
  (h:∀(h':Bp) (tk:Nat),FE (Bv prog w) h' s.heap.objs.size (fun k'=>(fA val z.size).any fun x=>x == k') (fA val z.size).length→
   (∀(b:Nat) (o:Obj),b < s.heap.objs.size→s.heap.get? b=some o→h'.get? b=some o)→Q (AJ s.heap.objs.size) { s with heap:=h',toks:=tk }):
  wpAny (model prog w) A (call (AC "set") [AJ l]) Q E s:=by
 obtain⟨c,tl,hmro⟩:=BU.mro;have O:=BU.made;have W:=BU.sub;have am:=Gr (AJ l);refine Dp (Fu (Ae ⟨FF _ (by decide),BX Gf ?_⟩));rw[Fx (Fy "set" [AJ l] []) rfl];unfold Builtin.«type.__call__»;dsimp only
 iterate 2 refine Aq (by first | rfl | decide) ?_
 refine Aa (CB am ?_);refine Aa (CB hmro ?_);refine Aq (by first | rfl | decide) ?_;refine Aa (CB O ?_);refine Aa (Ae ?_);refine Aa (Bc (Dp (C8 (code_set_new_1 (Q₁:=fun obj s₁=>∃ led,obj=AJ s.heap.objs.size∧s₁={ s with heap:=s.heap.push { cls:=AC "set",data:=B3 #[] 0 (Bb 0 0 led) } }) (E:=E) (AJ l) fun led=>⟨led,rfl,rfl⟩) fun r s₁ B=>?_)));cases r with
 | error e=>exact B
 | ok fl=>
  cases fl with
  | next=>exact B.elim
  | brk=>exact B.elim
  | cont=>exact B.elim
  | ret v=>
   obtain⟨led,rfl,rfl⟩:=B;have hS:=Ax s.heap (o:={ cls:=AC "set",data:=B3 #[] 0 (Bb 0 0 led) }) rfl;have hT:DH { s with heap:=s.heap.push { cls:=AC "set",data:=B3 #[] 0 (Bb 0 0 led) } } (AJ s.heap.objs.size) "set":=⟨_,hS,rfl⟩
   have aj:=BU.init.lookup;have af:=BU.init.bind (AJ s.heap.objs.size);obtain⟨ol,hol,hcl,nl,hdl⟩:=hl;have J:=Ah { cls:=AC "set",data:=B3 #[] 0 (Bb 0 0 led) } hol;have ab:Heap.IsList (s.heap.push { cls:=AC "set",data:=B3 #[] 0 (Bb 0 0 led) }) l z:=⟨ol,J,hcl,nl,hdl⟩
   refine Aa (BY hT W ?_);refine Aq (by first | rfl | decide) ?_;refine Aa (Bc ?_);unfold callSpecial?;refine Aa (DY hT aj ?_);dsimp only;refine Bc ?_;refine Aa (CB af ?_);refine Aa (Dp (C8 (FM BU.init.plain Gs (R:=fun r s'=>match r with | .ok (.ret v)=>v=.none∧Q (.ref s.heap.objs.size) s' | _=>False) (GC hT ?_)) fun r s₁ B=>?_))
   ·unfold Builtin.«set.__init__»;refine Aa (BL (by first | rfl | decide) (Ae ?_));refine Aa (Aa (Aa (BR hT (Aq (by first | rfl | decide) (Ae ?_)))));refine Ae ?_;refine Aa ?_;unfold checkCount
    iterate 2 refine Aq (by first | rfl | decide) ?_
    refine Aq (by first | rfl | decide) (Ae ?_);refine Aa (Ae ?_);refine Aa ?_;unfold setUsed setState;refine Aa (Aa (Hv hS ?_));dsimp only;refine Aq (by first | rfl | decide) (Ae ?_);refine Ae ?_;refine Aq (by first | rfl | decide) ?_;show wpAny _ _ (do let av ← B9 "set.__init__" s.heap.objs.size (AJ l);ret Ci) _ _ _;refine Aa ?_;unfold B9;refine Aa ?_;have U:DH { s with heap:=s.heap.push { cls:=AC "set",data:=B3 #[] 0 (Bb 0 0 led) } } (AJ l) "list":=⟨ol,J,hcl⟩
    unfold DX;refine Aa (BY U F.sub_list_set ?_);refine BY U F.sub_list_frozenset ?_;refine Aq (by first | rfl | decide) ?_;refine Aa (BR U ?_);refine Aq (by first | rfl | decide) ?_;refine Aa (E4 ab ?_);refine Aa (Eh ?_);have aa:l < s.heap.objs.size:=Ay hol;have M:(s.heap.push { cls:=AC "set",data:=B3 #[] 0 (Bb 0 0 led) }).objs.size=s.heap.objs.size + 1:=B2 _ _;have Z:l≠(s.heap.push { cls:=AC "set",data:=B3 #[] 0 (Bb 0 0 led) }).objs.size:=by rw[M];exact AF (Bl aa)
    have ah:¬ s.heap.objs.size∈[(s.heap.push { cls:=AC "set",data:=B3 #[] 0 (Bb 0 0 led) }).objs.size,l]:=by
     rw[M];simp only[An,Az,or_false,not_or];exact⟨AF (BN _),C5 aa⟩
    have ag:A.in1.in1.in1.handled=none:=hh;refine aDY (FW (Hf ag _ l Z z)) s.heap.objs.size ah val hi hb (z.size - 0) 0 _ rfl (A0 _) ⟨⟨_,Ax _ rfl,rfl,rfl⟩,Heap.IsList.push ab _⟩ ?_ ?_
    ·have Y:=Ah { cls:=AC "list_iterator",data:=Gh #[AJ l,Cm 0 0] } hS;exact SetOf_congr (Obj.SetObjOf.setOf (setObjOf_fresh led) Y (by show 0 < scanBound;decide)) (fun x=>rfl) rfl
    ·rintro⟨h',g',d',tk',os'⟩ hm hS';refine Ae (Ae ⟨rfl,?_⟩);have e1:=hm.gens;have e2:=hm.drawn;have e3:=hm.os;dsimp only at e1 e2 e3;subst e1 e2 e3;refine h h' tk' hS' fun b o hb e=>hm.heap b o ?_ ?_
     ·simp only[An,Az,or_false,not_or];rw[M];exact⟨AF hb,AF (Bl hb)⟩
     ·exact Ah _ (Ah _ e)
   ·cases r with
    | error e=>exact B.elim
    | ok fl=>
     cases fl with
     | next=>exact B.elim
     | brk=>exact B.elim
     | cont=>exact B.elim
     | ret v=>
      obtain⟨rfl,q⟩:=B;refine Ae ?_;refine Aq (by first | rfl | decide) ?_;exact Ae q
section
variable{X:Cx}
def aFd(P:AG)(w:A2)(a:Ag)(ss:List Str):HO:=.ext fun h=>FE (Bv P w) h a (fun k=>(fA (fun i=>ss.getD i "") ss.length).any fun x=>x == k) (fA (fun i=>ss.getD i "") ss.length).length
theorem aDZ(hc:X.calm=true):fX X (.type "set") (fun xs H Q=>∃(p:Ag) (B:List Str),xs=[.ref p]∧SqL X.K H p (B.map V.str)∧B.length≤1000∧∀ a,H a=none→Q (.ref a) (upd H a (aFd X.prog X.w a B))):=by
 intro di s σ H xs us Q I r h;obtain⟨p,B,rfl,hx,h1000,q⟩:=h;obtain⟨u,rfl,ru⟩:=fY r;cases ru;obtain⟨its,rv,pl,_⟩:=I.list hx;have z:=rv.length;rw[Ad]at z;refine wQ (val:=fun i=>B.getD i "") (I.ok.hd hc) pl.isList (fun i v W=>?_) (by rw[Av,← z];show _ < 4096;omega) fun h' tk O U=>?_
 ·have F:its[i]?=some v:=by simpa using W
  have hi:i < B.length:=by
   rw[z];exact(AM.mp F).1
  have e:(B.map V.str)[i]?=some (V.str (B.getD i "")):=by
   rw[AS,Ab hi];simp[hi]
  obtain⟨u,hu,ru⟩:=rv.get e;rw[F]at hu;cases hu;exact ru
 ·have M:its.toArray.size=B.length:=by rw[Av,← z]
  rw[M]at O;have J:∀ b u,s.heap.get? b=some u→h'.get? b=some u:=fun b u e=>U b u (Ay e) e;have hn:H s.heap.objs.size=none:=I.hok.fresh (Ao _);refine⟨.ref s.heap.objs.size,_,I.laid (t':=tk) (o:=aFd X.prog X.w s.heap.objs.size B) J (Ao _) ⟨O,?_,fun h1 h2 f g=>?_⟩,rfl,q _ hn⟩
  ·obtain⟨o,_,_,_,e,_⟩:=O;exact⟨o,e⟩
  ·obtain⟨o,es,ep,t,e,cS⟩:=f;exact⟨o,es,ep,t,g o e,cS⟩
theorem aD0:fX X (.builtin "len") (fun xs H Q=>∃(p:Ag) (z:List Str),xs=[.ref p]∧H p=some (aFd X.prog X.w p z)∧z.length≤1000∧Q (.int ((fA (fun i=>z.getD i "") z.length).length:Nat)) H):=by
 intro di s σ H xs us Q I r h;obtain⟨p,z,rfl,hx,h1000,q⟩:=h;obtain⟨u,rfl,ru⟩:=fY r;cases ru;obtain⟨⟨o,es,ep,t,ho,hex,hd,_,_,_,hf,hn⟩,_,_⟩:dC X.prog X.w H s.heap p (aFd X.prog X.w p z):=I.hok p _ hx;have B:=oF (fun i=>z.getD i "") z.length;exact call_len_set ho hex hd hf (by omega) ⟨.int _,H,I.tok _,⟨_,by rw[hn]⟩,q⟩
theorem u7(val:Nat→Str):∀ i k,k∈fA val i↔∃ j,j < i∧val j=k
 | 0,k=>by
  show k∈[]↔_;simp
 | i + 1,k=>by
  show k∈jQ (fA val i) (val i)↔_;have q:=u7 val i;unfold jQ;by_cases h:val i∈fA val i
  ·rw[Ib h,q k];constructor
   ·rintro⟨j,hj,e⟩;exact⟨j,by omega,e⟩
   ·rintro⟨j,hj,e⟩;by_cases z:j=i
    ·subst z;obtain⟨j',hj',e'⟩:=(q _).mp h;exact⟨j',hj',e'.trans e⟩
    ·exact⟨j,by omega,e⟩
  ·rw[Ia h,Bo,q k,BC];constructor
   ·rintro(⟨j,hj,e⟩ | e)
    ·exact⟨j,by omega,e⟩
    ·exact⟨i,by omega,e.symm⟩
   ·rintro⟨j,hj,e⟩;by_cases z:j=i
    ·subst z;exact .inr e.symm
    ·exact .inl ⟨j,by omega,e⟩
theorem xP(val:Nat→Str):∀ i,(fA val i).length=i↔((AU i).map val).Nodup
 | 0=>by simp[fA]
 | i + 1=>by
  have B:=xP val i;have F:=oF val i;show(jQ (fA val i) (val i)).length=_↔_;rw[i7,p5,List.range_succ,AY,C3];have hm:val i∈fA val i↔val i∈(AU i).map val:=by
   rw[u7,Bs];constructor
   ·rintro⟨j,hj,e⟩;exact⟨j,BK.mpr hj,e⟩
   ·rintro⟨j,hj,e⟩;exact⟨j,BK.mp hj,e⟩
  by_cases h:val i∈fA val i
  ·rw[Ib (Ic h)];constructor
   ·intro z;omega
   ·rintro⟨_,_,z⟩;exact absurd rfl (z _ (hm.mp h) _ (by simp))
  ·rw[Ia (by simpa using h)];constructor
   ·intro z;refine⟨B.mp (by omega),by simp,fun a ha b J e=>?_⟩;have q:b=val i:=by simpa using J
    subst q;exact h (hm.mpr (e ▸ ha))
   ·rintro⟨z,_,_⟩;rw[B.mpr z]
theorem xQ(q:List Str):decide (((fA (fun i=>q.getD i "") q.length).length:Int)=(q.length:Int))=decide q.Nodup:=by
 have e:(AU q.length).map (fun i=>q.getD i "")=q:=by
  apply CJ;intro j;rw[AS];by_cases h:j < q.length
  ·rw[Da h,Ab h];simp[h]
  ·rw[AZ (by rw[BW];omega),AZ (by omega)];rfl
 have:=xP (fun i=>q.getD i "") q.length;rw[e]at this;rw[decide_eq_decide,← this];omega
end
section
variable{prog:AG}{w:A2}{A:AW}{E:Ac→Af→Prop}{s:Af}
end
section
variable{X:Cx}{e st:Bw}{te ts:TE}{pos p2:Pos}
end
section
variable{X:Cx}
end
mutual
inductive RdV(m:Bool)(H:Hp):V→Ai→Prop
 | non:RdV m H .non .none
 | bl (b:Bool):RdV m H (.bl b) (.bool b)
 | int (i:Int):RdV m H (.int i) (.int i)
 | str (z:Str) (h:z.length≤1000):RdV m H (.str z) (.str z)
 | lst {a:Ag} {xs:List V} {ds:List Ai} (hm:m=true) (e:H a=some (.lst xs)) (hl:xs.length≤1000) (r:cJ m H xs ds):RdV m H (.ref a) (.list ds)
 | tup {a:Ag} {xs:List V} {ds:List Ai} (e:H a=some (.tup xs)) (hl:xs.length≤1000) (r:cJ m H xs ds):RdV m H (.ref a) (.tuple ds)
 | dct {a:Ag} (hm:m=false) (e:H a=some (.dK [])):RdV m H (.ref a) (.dict [])
inductive cJ(m:Bool)(H:Hp):List V→List Ai→Prop
 | nil:cJ m H [] []
 | cons {x:V} {d:Ai} {xs:List V} {ds:List Ai} (a:RdV m H x d) (r:cJ m H xs ds):cJ m H (x :: xs) (d :: ds)
end
mutual
theorem RdV.keep{m:Bool}{H H':Hp}(k:∀ a o,H a=some o→(∀ B r,o≠.dK (B :: r))→H' a=some o):∀{x:V}{d:Ai},RdV m H x d→RdV m H' x d
 | _,_,.non=>.non
 | _,_,.bl b=>.bl b
 | _,_,.int i=>.int i
 | _,_,.str z h=>.str z h
 | _,_,.lst hm e q r=>.lst hm (k _ _ e (fun _ _ z=>nomatch z)) q (cJ.keep k r)
 | _,_,.tup e q r=>.tup (k _ _ e (fun _ _ z=>nomatch z)) q (cJ.keep k r)
 | _,_,.dct hm e=>.dct hm (k _ _ e (fun _ _ z=>nomatch z))
theorem cJ.keep{m:Bool}{H H':Hp}(k:∀ a o,H a=some o→(∀ q r,o≠.dK (q :: r))→H' a=some o):∀{xs:List V}{ds:List Ai},cJ m H xs ds→cJ m H' xs ds
 | _,_,.nil=>.nil
 | _,_,.cons a r=>.cons (RdV.keep k a) (cJ.keep k r)
end
theorem RdV.same{m:Bool}{H H':Hp}{x:V}{d:Ai}(h:RdV m H x d)(s:bW H H'):RdV m H' x d:=h.keep fun a o e _=>s a o e
theorem cJ.same{m:Bool}{H H':Hp}{x:List V}{d:List Ai}(h:cJ m H x d)(s:bW H H'):cJ m H' x d:=h.keep fun a o e _=>s a o e
theorem cJ.len{m:Bool}{H:Hp}:∀{xs:List V}{ds:List Ai},cJ m H xs ds→xs.length=ds.length
 | _,_,.nil=>rfl
 | _,_,.cons _ r=>by rw[A5,A5,cJ.len r]
theorem cJ.app{m:Bool}{H:Hp}:∀{xs:List V}{ds:List Ai}{ys:List V}{es:List Ai},cJ m H xs ds→cJ m H ys es→cJ m H (xs ++ ys) (ds ++ es)
 | _,_,_,_,.nil,h=>h
 | _,_,_,_,.cons a r,h=>.cons a (cJ.app r h)
theorem cJ.at{m:Bool}{H:Hp}:∀{xs:List V}{ds:List Ai}{i:Nat}{x:V},cJ m H xs ds→xs[i]?=some x→∃ d,ds[i]?=some d∧RdV m H x d
 | _,_,0,_,.cons a r,e=>by simp at e;subst e;exact⟨_,rfl,a⟩
 | _,_,i + 1,_,.cons a r,e=>by simp at e;simpa using cJ.at r e
section
variable{X:Cx}
mutual
theorem RdV.reads{di:Ih}{σ:St}{m:Bool}{H:Hp}{s:Af}(I:Inv X di σ H s):∀{x:V}{d:Ai}{v:Ac},RdV m H x d→c7 x v→∃ as,Hl s.heap v d as∧(m=true→d.hasDict=false)∧(m=false→¬ sysModules∈as)
 | _,_,_,.non,r=>by cases r;exact⟨[],.none,fun _=>rfl,fun _=>by simp⟩
 | _,_,_,.bl b,r=>by cases r;exact⟨[],.bool b,fun _=>rfl,fun _=>by simp⟩
 | _,_,_,.int i,r=>by obtain⟨t,rfl⟩:=r;exact⟨[],.int i t,fun _=>rfl,fun _=>by simp⟩
 | _,_,_,.str z _,r=>by obtain⟨t,rfl⟩:=r;exact⟨[],.str z t,fun _=>rfl,fun _=>by simp⟩
 | _,_,_,.lst hm e _ rs,r=>by
  cases r;obtain⟨_,its,n,rv,eo⟩:dC X.prog X.w H s.heap _ (.lst _):=I.hok _ _ e;obtain⟨as,ra,h1,h2⟩:=cJ.reads I rs rv;exact⟨_,.list eo rfl rfl (by simpa using ra),fun _=>h1 hm,fun z=>by rw[hm]at z;cases z⟩
 | _,_,_,.tup e _ rs,r=>by
  cases r;obtain⟨_,its,rv,pt⟩:dC X.prog X.w H s.heap _ (.tup _):=I.hok _ _ e;obtain⟨as,ra,h1,h2⟩:=cJ.reads I rs rv;obtain⟨o,eo,⟨hc,n,hd⟩,_⟩:=pt;exact⟨as,.tuple eo hc hd (by simpa using ra),h1,h2⟩
 | _,_,_,.dct hm e,r=>by
  cases r;obtain⟨_,hs,vs,kv,o,es,ep,eo,hx,hd,hk,hp,_⟩:dC X.prog X.w H s.heap _ (.dK []):=I.hok _ _ e;cases kv;have q:es.toList=[]:=by
   cases h:es.toList with
   | nil=>rfl
   | cons y r=>rw[h]at hp;cases hp
  refine⟨_,Reads.dict (kvs:=[]) (as:=[]) (bs:=[]) eo hx.1 hd (by rw[q];exact .nil) (by rw[q];exact .nil),(fun z=>by rw[hm]at z;cases z),fun _=>?_⟩;intro z;simp at z;rw[z]at hs;simp at hs
theorem cJ.reads{di:Ih}{σ:St}{m:Bool}{H:Hp}{s:Af}(I:Inv X di σ H s):∀{xs:List V}{ds:List Ai}{vs:List Ac},cJ m H xs ds→c0 xs vs→∃ as,EW s.heap vs ds as∧(m=true→AX ds=false)∧(m=false→¬ sysModules∈as)
 | _,_,_,.nil,.nil=>⟨[],.nil,fun _=>rfl,fun _=>by simp⟩
 | _,_,_,.cons a r,.cons B q=>by
  obtain⟨as,h1,h2,h3⟩:=RdV.reads I a B;obtain⟨bs,g1,g2,g3⟩:=cJ.reads I r q;refine⟨as ++ bs,.cons h1 g1,fun z=>?_,fun z w=>?_⟩
  ·unfold AX;rw[h2 z,g2 z];rfl
  ·rcases Bo.mp w with w | w
   ·exact h3 z w
   ·exact g3 z w
end
inductive o6(xs:List V)(H:Hp)(Q:VK):Prop
 | mk (a:Ag) (m:Bool) (d:Ai) (q0:xs=[.ref a]) (q1:RdV m H (.ref a) d) (q2:d.showable=true) (q3:d.depth≤20) (q4:d.shown.length≤sizeLine) (q5:Q (.str d.shown) H):o6 xs H Q
def aAE:List V→Hp→VK→Prop:=fun xs H Q=>o6 xs H Q
theorem aD1{k:Nat}(B:cZ k X.A):fX X (.builtin "repr") aAE:=by
 intro di s σ H xs us Q I r h;obtain⟨a,m,d,rfl,hx,hs,hd,hz,q⟩:=h;obtain⟨u,rfl,ru⟩:=fY r;cases ru;obtain⟨as,hrd,h1,h2⟩:=RdV.reads I hx rfl;refine repr_of_reads' hrd hs (fun z=>?_) B.gd (by have:=B.un;omega) (fun b o e=>e) (fun h' u tk F=>⟨.str d.shown,H,I.kept (t':=tk) F,⟨u,rfl⟩,q⟩) hz;cases m with
 | true=>rw[h1 rfl]at z;cases z
 | false=>exact h2 rfl
end
section
variable{prog:AG}{w:A2}{A:AW}{E:Ac→Af→Prop}{s:Af}
theorem p8{t F:Ag}{q:Array Ac}{J M:Ac}{lo hi:Option Int}{Q:Ac→Af→Prop}(ht:Fc s.heap t q)(O:s.heap.IsSliceOf F J M .none)(pl:Fk J lo)(U:Fk M hi)
  (hw:HT.sIx q.size 0 lo=0∧HT.sIx q.size q.size hi=q.size) (h:Q (.ref t) s):wpAny (model prog w) A (getItem (.ref t) (.ref F)) Q E s:=by
 obtain⟨os,hos,hcs,hds⟩:=id O;have B:s.TypeIs (.ref F) "slice":=⟨os,hos,hcs⟩
 unfold getItem
 try with_reducible refine Bc ?_
 first | refine Aa (Ae ?_) | skip
 refine Aa (wpAny_sequenceKey ht.typeIs (by decide) ?_);refine Aa (CO (name:=Bx "__getitem__") ht.typeIs B4
  (B7 B4 ht.typeIs entry_tuple_getitem ?_ (args_tuple_getitem _ _)))
 show wpAny _ _ (Builtin.Tuple.tupleItemsOf (.ref t) >>= _) _ _ s;refine Aa (tupleItemsOf_ ht ?_);refine Aa (BR B ?_);rw[Ib (by decide)];refine Aa (HT.sliceApplied_gen O pl U ?_);have z:(((HT.sIx q.size 0 lo:Nat):Int) == 0 && (1:Int) == 1 && (HT.sIx q.size q.size hi - HT.sIx q.size 0 lo) == q.size)=true:=by
  rw[hw.1,hw.2];simp
 show wpAny _ _ (if (((HT.sIx q.size 0 lo:Nat):Int) == 0 && (1:Int) == 1 && (HT.sIx q.size q.size hi - HT.sIx q.size 0 lo) == q.size)=true then _ else _) _ _ s;rw[Ib z];obtain⟨⟨cls,dd,data,sl'⟩,ho,hc,n,hd⟩:=id ht;simp only at hc hd;subst hc hd
 wp_walk
 exact⟨_,rfl,Ae h⟩
end
section
variable{X:Cx}
inductive aFe(K:Aj)(x:V)(lo:Option Int)(hi:Option Int)(H:Hp)(Q:VK):Prop
 | mk (a:_) (xs:_) (q0:x=.ref a) (q1:H a=some (.tup xs)) (q2:∀ r H',bW H H'→H' r=some (.tup (jZ xs lo hi))→Q (.ref r) H'):aFe K x lo hi H Q
def aKz(K:Aj):V→Option Int→Option Int→Hp→VK→Prop:=fun x lo hi H Q=>aFe K x lo hi H Q
theorem aCU:SlR X (aKz X.K):=by
 intro di s σ H x v W O lo hi M Q I J B pl F h;obtain⟨a,xs,rfl,hx,q⟩:=h;by_cases hw:HT.sIx xs.length 0 lo=0∧HT.sIx xs.length xs.length hi=xs.length
 ·cases J;obtain⟨its,r,ht,hz⟩:=I.tuple (bI hx);have z:its.toArray.size=xs.length:=by rw[Av];exact r.length.symm
  refine⟨"tuple",_,B4.lookup,ht.typeIs,p8 ht B pl F (by rw[z];exact hw) ⟨.ref a,H,I,rfl,q a H (bW.refl H) ?_⟩⟩;have e:jZ xs lo hi=xs:=by
   unfold jZ;rw[hw.1,hw.2,D0,F0,BI]
  rw[e];exact hx
 ·exact aIr di s σ H _ v W O lo hi M Q I J B pl F ⟨a,xs,rfl,bI hx,hw,fun p U=>q p _ (aV U) aH⟩
theorem aFf{α:Type}(xs:List V)(n:Nat):jZ xs none (some (n:Int))=xs.take n:=by
 unfold jZ;rw[HT.sIx_none,HT.sIx_nat,D0,F0];by_cases h:n≤xs.length
 ·rw[Nat.min_eq_left h]
 ·rw[Nat.min_eq_right (by omega),BI,Br (by omega)]
theorem aFg{α:Type}(xs:List V)(n:Nat):jZ xs (some (n:Int)) none=xs.drop n:=by
 unfold jZ;rw[HT.sIx_none,HT.sIx_nat];by_cases h:n≤xs.length
 ·rw[Nat.min_eq_left h];exact Br (by rw[Ee];exact Ao _)
 ·rw[Nat.min_eq_right (by omega),D1 (Ao _),D1 (by omega),List.take_nil]
mutual
theorem RdV.flip{H:Hp}:∀{x:V}{d:Ai},RdV false H x d→d.hasDict=false→∀ m,RdV m H x d
 | _,_,.non,_,_=>.non
 | _,_,.bl b,_,_=>.bl b
 | _,_,.int i,_,_=>.int i
 | _,_,.str z h,_,_=>.str z h
 | _,_,.lst hm _ _ _,_,_=>nomatch hm
 | _,_,.tup e q r,h,m=>.tup e q (cJ.flip r (by unfold Ey at h;exact h) m)
 | _,_,.dct _ _,h,_=>by unfold Ey at h;cases h
theorem cJ.flip{H:Hp}:∀{xs:List V}{ds:List Ai},cJ false H xs ds→AX ds=false→∀ m,cJ m H xs ds
 | _,_,.nil,_,_=>.nil
 | _,_,.cons a r,h,m=>by
  unfold AX at h;rw[Fi]at h;exact .cons (RdV.flip a h.1 m) (cJ.flip r h.2 m)
end
mutual
theorem RdV.keepF{H H':Hp}(k:∀ a o,H a=some o→(∀ B r,o≠.dK (B :: r))→(∀ xs,o≠.lst xs)→H' a=some o):∀{x:V}{d:Ai},RdV false H x d→RdV false H' x d
 | _,_,.non=>.non
 | _,_,.bl b=>.bl b
 | _,_,.int i=>.int i
 | _,_,.str z h=>.str z h
 | _,_,.lst hm _ _ _=>nomatch hm
 | _,_,.tup e q r=>.tup (k _ _ e (fun _ _ z=>nomatch z) (fun _ z=>nomatch z)) q (cJ.keepF k r)
 | _,_,.dct hm e=>.dct hm (k _ _ e (fun _ _ z=>nomatch z) (fun _ z=>nomatch z))
theorem cJ.keepF{H H':Hp}(k:∀ a o,H a=some o→(∀ q r,o≠.dK (q :: r))→(∀ xs,o≠.lst xs)→H' a=some o):∀{xs:List V}{ds:List Ai},cJ false H xs ds→cJ false H' xs ds
 | _,_,.nil=>.nil
 | _,_,.cons a r=>.cons (RdV.keepF k a) (cJ.keepF k r)
end
end
open PySem PySem.Spec PyProof.Rows PySem.W
def iC{α:Type}(n:Nat)(P:α→Prop):Hy α→Prop
 | .ret a=>P a
 | .ask i j k=>i < n∧j < n∧∀ b,iC n P (k b)
theorem iC.bind{α β:Type}{n:Nat}{P:α→Prop}{Q:β→Prop}{f:α→Hy β}:∀{t:Hy α},iC n P t→(∀ a,P a→iC n Q (f a))→iC n Q (t.bind f)
 | .ret a,h,g=>by rw[KasT.bind.eq_1];exact g a h
 | .ask i j k,h,g=>by
  rw[KasT.bind.eq_2];exact⟨h.1,h.2.1,fun b=>iC.bind (h.2.2 b) g⟩
def Pm(n:Nat)(p:Array Nat):Prop:=p.Perm (AU n).toArray
theorem Pm.lt{n:Nat}{p:Array Nat}(h:Pm n p)(hn:0 < n)(i:Nat):p.getD i 0 < n:=by
 by_cases hi:i < p.size
 ·have hm:p[i]∈(AU n).toArray:=h.mem_iff.mp (Array.getElem_mem hi);have:p[i] < n:=by simpa using hm
  rw[BH,A7 hi];exact this
 ·rw[BH,Array.getElem?_eq_none (by omega)];exact hn
theorem Pm.rev{n:Nat}{p:Array Nat}(h:Pm n p)(i j:Nat):Pm n (Ho p i j):=(mirror_perm p i j _).trans h
theorem Pm.bub{n:Nat}{p:Array Nat}(h:Pm n p)(i j:Nat):Pm n (bubble p i j):=(bubble_perm p i j).trans h
section
variable{n:Nat}(hn:0 < n)
include hn
theorem u9{p:Array Nat}(h:Pm n p):∀(f x:Nat),iC n (fun _=>True) (kas_asc p f x)
 | 0,x=>by rw[kas_asc.eq_1];trivial
 | f + 1,x=>by
  rw[kas_asc.eq_2];refine⟨h.lt hn _,h.lt hn _,fun b=>?_⟩;cases b
  ·exact u9 h f (x + 1)
  ·exact trivial
theorem oG:∀(f:Nat) {p:Array Nat} (x y:Nat),Pm n p→iC n (fun r=>Pm n r.1) (kas_desc f p x y)
 | 0,p,x,y,h=>by rw[kas_desc.eq_1];exact h
 | f + 1,p,x,y,h=>by
  rw[kas_desc.eq_2];refine⟨h.lt hn _,h.lt hn _,fun b=>?_⟩;cases b
  ·refine⟨h.lt hn _,h.lt hn _,fun b=>?_⟩;cases b
   ·exact oG f _ _ h
   ·exact h
  ·show iC n _ (if y > 0 then _ else _);split
   ·exact oG f _ _ (h.rev _ _)
   ·exact oG f _ _ h
theorem pJ{p:Array Nat}(h:Pm n p)(k:Nat):∀(f x y:Nat),iC n (fun _=>True) (kas_place p k f x y)
 | 0,x,y=>by rw[kas_place.eq_1];trivial
 | f + 1,x,y=>by
  rw[kas_place.eq_2];split
  ·trivial
  ·refine⟨h.lt hn _,h.lt hn _,fun b=>?_⟩;cases b
   ·exact pJ h k f _ _
   ·exact pJ h k f _ _
theorem aAF:∀(f:Nat) {p:Array Nat} (x:Nat),Pm n p→iC n (Pm n) (kas_bin f p x)
 | 0,p,x,h=>by rw[kas_bin.eq_1];exact h
 | f + 1,p,x,h=>by
  rw[kas_bin.eq_2];exact(pJ hn h x _ _ _).bind fun l _=>aAF f _ (h.bub _ _)
theorem vA{p:Array Nat}(h:Pm n p)(a b:Nat):iC n (fun r=>Pm n r.2) (Hj a b p):=by
 unfold Hj;exact(u9 hn (h.rev _ _) _ _).bind fun m _=>h.rev _ _
theorem o7{p:Array Nat}(h:Pm n p)(a b:Nat):iC n (fun r=>Pm n r.2) (Hr a b p):=by
 unfold Hr;refine(oG hn _ _ _ h).bind fun r q=>?_;split
 ·exact vA hn (q.rev _ _) _ _
 ·exact vA hn q _ _
theorem aBZ{p:Array Nat}(h:Pm n p)(a:Nat):iC n (fun r=>Pm n r.2) (Hk a p):=by
 unfold Hk;refine(u9 hn h _ _).bind fun m _=>?_;split
 ·exact h
 ·split
  ·refine⟨h.lt hn _,h.lt hn _,fun b=>?_⟩;cases b
   ·exact o7 hn (h.rev _ _) _ _
   ·exact h
  ·exact o7 hn h _ _
theorem f9:iC n (Pm n) (B6 n):=by
 unfold B6;refine(aBZ hn (Dg _) n).bind fun r q=>?_;split
 ·exact aAF hn _ _ q
 ·exact q
end
section
variable{prog:AG}{w:A2}{A:AW}{E:Ac→Af→Prop}{s:Af}
theorem iF{x:Ag}{its:Array Ac}{Q:Array Ac→Af→Prop}(q:Fc s.heap x its)(h:Q its s):wpAny (model prog w) A (C7 (AJ x)) Q E s:=by
 obtain⟨⟨cls,dd,data,sl⟩,ho,hc,n,hd⟩:=id q;simp only at hc hd;subst hc hd;unfold C7
 wp_walk
 exact h
end
section
variable{prog:AG}{w:A2}{A:AW}{E:Ac→Af→Prop}{s:Af}
inductive aFh(h:Bp)(v:Ac):Prop
 | mk (t:_) (a:_) (b:_) (c:_) (u1:_) (u2:_) (u3:_) (q0:v=.ref t) (q1:Fc h t #[.int a u1,.int b u2,.str c u3]):aFh h v
def aJI(h:Bp)(v:Ac):Prop:=aFh h v
theorem jR{α β:Type}{f:α→Sem β}{R:α→β→Prop}:∀(l:List α) {Q:List β→Af→Prop},(∀ v∈l,∃ r,R v r∧∀ M:β→Af→Prop,M r s→wpAny (model prog w) A (f v) M E s)→(∀ rs:List β,rs.length=l.length→(∀ r∈rs,∃ v∈l,R v r)→Q rs s)→wpAny (model prog w) A (List.mapM f l) Q E s
 | [],Q,_,q=>by
  rw[List.mapM_nil];exact Ae (q [] rfl fun r F=>by simp at F)
 | a :: l,Q,h,q=>by
  rw[List.mapM_cons];obtain⟨r,F,hw⟩:=h a AI;refine Aa (hw _ (Aa (jR l (fun v J=>h v (AL _ J)) fun rs O B=>Ae (q (r :: rs) (by rw[A5,A5,O]) fun z hz=>?_))));rcases An.mp hz with rfl | hz
  ·exact⟨a,AI,F⟩
  ·obtain⟨v,J,hR⟩:=B z hz;exact⟨v,AL _ J,hR⟩
theorem aJJ{ks:List Ac}{Q:Dt→Af→Prop}(Y:∀ v∈ks,aJI s.heap v)(h:∀ b,Q (tuples' b) s):wpAny (model prog w) A (keyKind' ks.toArray) Q E s:=by
 rw[keyKind'_eq,Cw];refine Aa ?_;rw[← bind_pure_comp];refine Aa (jR (R:=fun _ r=>∃ a u,r=some (Cm a u)) ks (fun v F=>?_) fun rs hl z=>Ae ?_)
 ·obtain⟨t,a,b,c,u1,u2,u3,rfl,ht⟩:=Y v F;refine⟨some (.int a u1),⟨a,u1,rfl⟩,fun U q=>?_⟩;rw[Hq];refine Aa (BR ht.typeIs ?_);refine Aq (by decide) ?_;refine Aa (iF ht ?_);exact Ae q
 ·have B:(rs.toArray.all fun x=>x.isSome)=true:=by
   rw[F8,A8];intro r O;obtain⟨v,_,a,u,rfl⟩:=z r O;rfl
  refine BL (by rw[B];rfl) ?_;refine Aa (CQ ?_);rw[oneTypeOnly'_eq,Cw]
  iterate 2 refine Aa ?_
  rw[← bind_pure_comp];refine Aa (jR (R:=fun _ r=>r=AC "int") _ (fun v F=>?_) fun ts W Z=>Ae ?_)
  ·have J:some v∈rs:=by simpa using F
   obtain⟨_,_,a,u,e⟩:=z _ J;cases e;exact⟨_,rfl,fun U q=>BR (typeIs_int s a u) q⟩
  ·cases M:ts.toArray[0]? with
   | none=>exact Ae (Ae (h _))
   | some t=>exact Ae (Ae (h _))
end
section
variable{prog:AG}{w:A2}{A:AW}{E:Ac→Af→Prop}{s:Af}
theorem aJK{a kS:Ag}{st:Bq}{q:Array Ac}{e e1:Nat}{P:FZ→Af→Prop}(ha:s.heap.get? a=some (seqObj "list" #[] e1))(J:s.heap.get? kS=some (seqObj "list" q e))(F:a≠kS)(B:q.size≤sizeLine)(hz:(arrOf st).size≤sizeLine)(M:failedOf st=none)
  (h:P (Fin.done (Hd Ci)) { s with heap:=(s.heap.update kS (Be fun _=>#[])).update a (Be fun _=>(arrOf st).map (·.2)) }):wpAny (model prog w) A (ksk_tail a false e1 (.ref kS) st) P E s:=by
 unfold ksk_tail;refine Aa (Cv J rfl ?_ B (A0 _));refine Aa (wpAny_letGo ?_);have z:(s.heap.update kS (Be fun _=>#[])).get? a=some (seqObj "list" #[] e1):=by
  rw[Bt _ _ _ _ F];exact ha
 refine Aa (DI z rfl ?_);refine Aa (Cv z rfl ?_ (A0 _) (by show((arrOf st).map (·.2)).size≤_;rw[Gv];omega))
 rw[M];refine Aq (by simp) ?_;exact Ae h
end
section
variable{X:Cx}{di:Ih}{σ:St}
inductive aFi(H:Hp)(v:Ac):Prop
 | mk (t:_) (a:_) (b:_) (c:_) (q0:v=.ref t) (q1:H t=some (.tup [.int a,.int b,.str c])):aFi H v
def aK1(H:Hp)(v:Ac):Prop:=aFi H v
end
section
variable{X:Cx}{di:Ih}{σ:St}{H:Hp}{s:Af}
end
section
variable{X:Cx}{e:Bw}{ta:TA}
end
open PySem.SeqAt
open PySem.AutoSeq1 (wpAny_loadPart')
open PySem.MeetsSeq PySem.MeetsSeq2 PySem.MeetsSeq3
inductive aHT(X:Cx)(k:Nat)(ps:List Str)(f:Ag)(sp:Sp):Prop
 | mk (fd:AK) (q0:cY X.prog X.w X.K X.mg X.base CX0 k f fd ps sp) (q1:Al X.K (.ref f)=true) (q2:eU X.K fd ps []):aHT X k ps f sp
def FnV(X:Cx)(k:Nat)(ps:List Str)(f:Ag)(sp:Sp):Prop:=aHT X k ps f sp
def aID(X:Cx)(k:Nat)(ps:List Str)(tv:TE)(t:TA):TE:=fun σ H Q=>tv σ H fun v H1=>∃(f:Ag) (sp:Sp),v=.ref f∧FnV X k ps f sp∧t σ H1 fun vs H2=>sp vs H2 Q E0
theorem aFj{X:Cx}{k:Nat}{ps:List Str}{x:Str}{p pos:Pos}{e:Bw}{es:List Bw}{tv:TE}{t:TA}(hv:PE X (.Name x p) tv)(Y:cZ k X.A)(ha:PA X (e :: es) t)
  (O:starEach (e :: es) X.env=(false,eval e X.env) :: starEach es X.env:=by rfl) (z:(backTo pos (starEach es X.env)).any (·.1)=false:=by rfl):
  PE X (.Call (.Name x p) (e :: es) [] pos) (aID X k ps tv t):=by
 constructor;intro di s σ H Q I h;refine D5 (thn (hv di s σ H _ I h) fun u M ⟨y,H1,J,ry,f,sp,U,⟨fd,F,hk,Z⟩,h2⟩=>?_);subst U;cases ry;refine PySem.W.callWith_K (h₀:=X.base) J.ok.mod.kin hk (thn (ha pos di M σ H1 _ J h2) fun us s2 ⟨vs,H2,B,r,q⟩=>⟨B.kIn,?_⟩) O z;exact aES F Y Z .nil i3 B r (by rw[Cg];exact q)
def aJL(fh:List (Key×V))(ty:TE):TE:=fun σ H Q=>ty σ H fun y H2=>∃ k v,y=kV k∧fQ fh k=some v∧Q v H2
theorem aCV{X:Cx}{i:Bw}{x:Str}{ty:TE}{a:Ag}{vs:List (Key×Ac)}{fh:List (Key×V)}{p pos:Pos}(hd:∀ h:Bp,X.K.In h→h.DictOf (c9 X.prog X.w) a vs)(rel:KV fh vs)(O:Gl X x)(hm:X.mg x=some (.ref a))(hi:PE X i ty)(hs:aIu i)(q:(x == ("__debug__":Str))=false:=by decide):
  PE X (.Subscript (.Name x p) i pos) (aJL fh ty):=by
 constructor;intro di s σ H Q I h;have U:PE X (.Name x p) (tC (.ref a)):=dS O hm rfl q;refine aCO PySem.F.slot_dict_getitem.lookup hs (thn (U di s σ H (fun v H1=>v=.ref a∧ty σ H1 fun y H2=>∃ k v,y=kV k∧fQ fh k=some v∧Q v H2) I ⟨rfl,h⟩) fun u J ⟨x,H1,I1,rx,ex,M⟩=>thn (hi di J σ H1 _ I1 M) fun iv Y ⟨y,H2,z,ry,k,v,Z,l,W⟩=>?_);subst ex Z;obtain rfl:u=AJ a:=rx;have B:=hd Y.heap z.kIn;refine⟨?_,?_⟩
 ·obtain⟨o,es,ep,e,hx,_⟩:=B;exact⟨o,e,hx.1⟩
 ·obtain⟨w',hw,rw'⟩:=oV.some_of (v:=v) (o:=valueAt vs k) (by rw[← l];exact rel.val k);exact wpAny_getItem_of (sV ry) B.mapOf hw ⟨v,H2,z.tok _,rw',W⟩
theorem aD2{X:Cx}{a:Ag}{vs:List (Key×Ac)}{fh:List (Key×V)}(hd:∀ h:Bp,X.K.In h→h.DictOf (c9 X.prog X.w) a vs)(rel:KV fh vs)(hz:(a == sysModules)=false):OpR X (compareOp .NotIn) (fun x y H Q=>∃ k,x=kV k∧y=.ref a∧Q (.bl (!(fQ fh k).isSome)) H):=by
 intro di s σ H x y v u Q I B z h;obtain⟨k,rfl,rfl,q⟩:=h;cases z;refine wpAny_notIn_of (sV B) hz (hd _ I.kIn).mapOf ?_;rw[← (rel.val k).isSome_eq];exact⟨.bl _,H,I.tok _,rfl,q⟩
section
variable{X:Cx}{di:Ih}{σ:St}{H:Hp}{s:Af}{A:AW}{E:Ac→Af→Prop}{Q:Ac→Af→Prop}{b:Bool}
theorem aB0{x:V}{u t:Ac}{q:Ag}{U Y:String}(I:Inv X di σ H s)(F:c7 x u)(ty:jM X.K H x t)(hq:H q=some (.tup [.ty U,.ty Y]))(e:Et X.K t [.type U,.type Y]=some b)(h:∀ tk,Q (.bool b) { s with toks:=tk }):
  wpAny (model X.prog X.w) A (call (.builtin "isinstance") [u,.ref q]) Q E s:=by
 obtain⟨_,its,M,hT⟩:dC X.prog X.w H s.heap q (.tup [.ty U,.ty Y]):=I.hok _ _ hq;obtain⟨⟨cls,dd,data,sl⟩,ho,hc,n,hd⟩:=hT.tup;simp only at hc hd;subst hc hd;have hi:its=[.type U,.type Y]:=by
  cases M with
  | cons r1 M=>
   cases M with
   | cons r2 M=>
    cases M;cases r1;cases r2;rfl
 subst hi;cases ty with
 | non=>cases(show u=Ci from F);exact Cc PySem.W.kitx_none I.kIn Cj ho e (fun z=>nomatch z) h
 | bl y=>cases(show u=Fz y from F);exact Cc PySem.W.kitx_bool I.kIn Cj ho e (fun z=>nomatch z) h
 | int i=>obtain⟨t,q⟩:=(show∃ t,u=Cm i t from F);cases q;exact Cc PySem.W.kitx_int I.kIn Cj ho e (fun z=>nomatch z) h
 | str y=>obtain⟨t,q⟩:=(show∃ t,u=BE y t from F);cases q;exact Cc PySem.W.kitx_str I.kIn Cj ho e (fun z=>nomatch z) h
 | flt y=>obtain⟨t,q⟩:=(show∃ t,u=G9 y t from F);cases q;exact Cc PySem.W.kitx_float I.kIn Cj ho e (fun z=>nomatch z) h
 | @lst a xs B=>
  cases(show u=AJ a from F);obtain⟨_,_,n,_,h1⟩:=(show dC X.prog X.w H s.heap a (.lst xs) from I.hok a _ B)
  exact Cc ED I.kIn ⟨_,h1,rfl⟩ ho e (fun z=>nomatch z) h
 | @frz a ob xs B=>
  cases(show u=AJ a from F);obtain⟨_,_,_,n,_,h1⟩:=(show dC X.prog X.w H s.heap a (.frz ob (.lst xs)) from I.hok a _ B)
  exact Cc ED I.kIn ⟨_,h1,rfl⟩ ho e (fun z=>nomatch z) h
 | @tup a xs B=>
  cases(show u=AJ a from F);obtain⟨_,_,_,p⟩:=(show dC X.prog X.w H s.heap a (.tup xs) from I.hok a _ B)
  obtain⟨o,h1,h2,_⟩:=p;exact Cc PySem.W.kitx_tuple I.kIn ⟨o,h1,h2.1⟩ ho e (fun z=>nomatch z) h
 | @dK a fh B=>
  cases(show u=AJ a from F);obtain⟨_,_,vs,_,p⟩:=(show dC X.prog X.w H s.heap a (.dK fh) from I.hok a _ B)
  obtain⟨o,es,ep,h1,h2,_⟩:=p;exact Cc EE I.kIn ⟨o,h1,h2.1⟩ ho e (fun z=>nomatch z) h
 | @dT a fh B=>
  cases(show u=AJ a from F);obtain⟨_,_,xs,_,o,es,ep,h1,h2,_⟩:=(show dC X.prog X.w H s.heap a (.dT fh) from I.hok a _ B)
  exact Cc EE I.kIn ⟨o,h1,h2.1⟩ ho e (fun z=>nomatch z) h
 | @ins a C dx fs B cl ha hn Z hm=>
  cases(show u=AJ a from F);obtain⟨mA,O,_⟩:=aCJ I.hok B;obtain⟨od,J,_⟩:=O.look;exact Cc (PySem.W.kitx_own (cl.get _) cl.hd ha hn Z hm) I.kIn J ho e (fun z=>nomatch z) h
inductive lJ(K:Aj)(xs:List V)(H:Hp)(Q:VK):Prop
 | mk (x:_) (q:_) (n1:_) (n2:_) (t:_) (b:_) (q0:xs=[x,.ref q]) (q1:H q=some (.tup [.ty n1,.ty n2])) (q2:jM K H x t) (q3:Et K t [.type n1,.type n2]=some b) (q4:Q (.bl b) H):lJ K xs H Q
def vB(K:Aj):List V→Hp→VK→Prop:=fun xs H Q=>lJ K xs H Q
theorem g9:fX X (.builtin "isinstance") (vB X.K):=by
 intro di s σ H xs us Q I r h;obtain⟨x,q0,n1,n2,t,b,rfl,hq,ty,e,q⟩:=h;obtain⟨u,w',rfl,r1,r2⟩:=aEQ r;cases r2;exact aB0 I r1 ty hq e fun tk=>⟨.bl b,H,I.tok _,rfl,q⟩
end
theorem zN{X:Cx}{K:Aj}{o e:Bw}{es:List Bw}{to:TE}{t:TA}{name:Str}{fw ft:Pos}{T id:String}{r:V→List V→Hp→VK→Prop}(U:PlainAttrs T)(slot:Slot T name id)(J:typeOf (.builtin id)=pure (.type "method_descriptor"))(hm:MtR X id r)(M:PE X o to)(ha:PA X (e :: es) t)(W:X.K=K:=by rfl)
  (z:attributeBase o name X.env (eval o X.env)=eval o X.env:=by rfl)
  (F:((backTo ft (starEach (e :: es) X.env)).all (fun x=>!x.1) && (backToKw ft (keywordEach [] X.env)).all (fun x=>x.1.isSome)
   && decide ((e :: es).length + ([]:List EN).length + (if ([]:List EN).isEmpty then 0 else 1) < 30))=true:=by rfl)
  (B:(fw.endLine == ft.line)=true:=by rfl) (O:starEach (e :: es) X.env=(false,eval e X.env) :: starEach es X.env:=by rfl) (q:(backTo ft (starEach es X.env)).any (·.1)=false:=by rfl):
  PE X (.Call (.Attribute o name fw) (e :: es) [] ft) (tBM K T r to t):=by
 subst W;exact sU U slot J hm M ha z F B O q
theorem mY:∀{q:List Str}{us:List Ac},c0 (q.map V.str) us→GV us q
 | [],_,r=>by rw[EA]at r;cases r;exact .nil
 | s :: q,_,r=>by
  rw[A4]at r;cases r with
  | cons B z=>
   obtain⟨t,e⟩:=B;subst e;exact .cons s t (mY z)
theorem i8:∀{us:List Ac}{ns:List Str},GV us ns→c0 (ns.map V.str) us
 | _,_,.nil=>.nil
 | _,_,.cons i t r=>.cons ⟨t,rfl⟩ (i8 r)
inductive lM(K:Aj)(xs:List V)(H:Hp)(Q:VK):Prop
 | mk (p:Ag) (ns:List Str) (q0:xs=[.ref p]) (q1:SqL K H p (ns.map V.str)) (q2:ns.length < 64) (q3:∀(l:Ag) (ms:List Str),H l=none→ms.Perm ns→sortedS ms=true→Q (.ref l) (upd H l (.lst (ms.map V.str)))):lM K xs H Q
def vC(K:Aj):List V→Hp→VK→Prop:=fun xs H Q=>lM K xs H Q
theorem qA{X:Cx}:fX X (.builtin "sorted") (vC X.K):=by
 intro di s σ H xs us Q I r h;obtain⟨p,ns,rfl,hx,h64,q⟩:=h;obtain⟨u,rfl,ru⟩:=fY r;cases ru;obtain⟨its,rv,pl,_⟩:=I.list hx;have hi:GV its ns:=mY rv;have z:=rv.length;rw[Ad]at z;refine sorted_strs pl.isList hi (by omega) fun out B J F M=>?_;have U:∀ b o,s.heap.get? b=some o→(sortedAll s.heap its out).get? b=some o:=fun b o e=>sortedAll_old e;obtain⟨e,he⟩:=sortedAll_at s.heap its out;have hn:H (s.heap.objs.size + 1)=none:=I.hok.fresh (C6 _);have O:=F.length_eq;have W:c0 (B.map V.str) out.toList:=i8 J;refine⟨.ref (s.heap.objs.size + 1),_,I.laid (t':=s.toks) (o:=.lst (B.map V.str)) U (C6 _) ⟨aS (by rw[Ad];omega),out.toList,e,W,by rw[he] <;> rfl⟩,rfl,q _ B hn F M⟩
def vD(w:A2)(es:Array (Int×Ac))(t:Di):Prop:=t.led=!w.params.followText "set-order"∧(es.size=0∨t.plain=false)
def kY(prog:AG)(w:A2)(h:Bp)(a:Ag)(S:Str→Bool)(n:Nat):Prop:=
 ∃ o es ep t,h.get? a=some o∧o.ExactSet∧o.data=.set es ep t∧ElemsOf (Bv prog w) es.toList∧(∀ k,S k=true↔∃ e∈es.toList,(Bv prog w).is k e.2=true)
  ∧es.size < scanBound∧t.fits es.size=true∧es.size=n∧vD w es t
theorem kY.at{prog:AG}{w:A2}{h h':Bp}{a:Ag}{S:Str→Bool}{n:Nat}(x:kY prog w h a S n)(e:∀ o,h.get? a=some o→h'.get? a=some o):kY prog w h' a S n:=by
 obtain⟨o,es,ep,t,h1,r⟩:=x;exact⟨o,es,ep,t,e o h1,r⟩
theorem kY.congr{prog:AG}{w:A2}{h:Bp}{a:Ag}{S S':Str→Bool}{n q:Nat}(x:kY prog w h a S n)(e:∀ k,S k=S' k)(B:n=q):kY prog w h a S' q:=by
 have z:S=S':=funext e;subst z B;exact x
theorem wR(t:Di)(n:Nat):(t.orStandIn n).led=t.led:=by
 unfold SetTable.orStandIn;split <;> rfl
theorem aB1(t:Di)(es:Array (Int×Ac))(h:Int)(x:Ac):(layNew t es h x).2.1.led=t.led:=by
 unfold layNew;split
 ·exact wR _ _
 ·rfl
theorem wS(t:Di)(es:Array (Int×Ac))(n:Nat)(z:t.plain=false):(relayAll t es n).2.1.led=t.led∧(relayAll t es n).2.1.plain=false:=by
 unfold relayAll;split
 ·next t' ord e=>
  dsimp only;split
  ·dsimp only;unfold SetTable.relaid SetTable.laid at e;cases q:SetTable.layClean (SetTable.sizeAbove n - 1) (es.map (·.1))with
   | none=>rw[q]at e;cases e
   | some B=>
    rw[q]at e;cases e;exact⟨rfl,z⟩
  ·exact⟨rfl,rfl⟩
 ·exact⟨rfl,rfl⟩
theorem kY.stored{prog:AG}{w:A2}{h:Bp}{a:Ag}{o:Obj}{es:Array (Int×Ac)}{ep:Nat}{t:Di}(O:h.get? a=some o)(B:o.ExactSet)(hd:o.data=.set es ep t)
  {q:Array (Int×Ac)} {t':Di} {S':Str→Bool} (F:ElemsOf (Bv prog w) q.toList) (z:∀ k,S' k=true↔∃ e∈q.toList,(Bv prog w).is k e.2=true) (M:q.size < scanBound) (J:t'.fits q.size=true) (U:vD w q t'):
  (h.update a (Ht q t')).get? a=some { o with data:=.set q (ep + 1) t' }∧kY prog w (h.update a (Ht q t')) a S' q.size:=by
 obtain⟨hg,_⟩:=SetOf_store (knd:=Bv prog w) (S':=S') O B hd F z M J;exact⟨hg,_,q,ep + 1,t',hg,B,rfl,F,z,M,J,rfl,U⟩
theorem aJM{prog:AG}{w:A2}{A:AW}{E:Ac→Af→Prop}{s:Af}{a:Ag}{S:Str→Bool}{n:Nat}{k:Str}{tk:Tok}{Q:Bool→Af→Prop}(hS:kY prog w s.heap a S n)(U:n + 1 < scanBound)
  (h:∀ h',D2 a s.heap h'→kY prog w h' a (fun k'=>S k' || decide (k'=k)) (if S k then n else n + 1)→Q (!S k) { s with heap:=h' }):
  wpAny (model prog w) A (setAddHashed a (.str k tk) ((Bv prog w).hash k)) Q E s:=by
 have W:=GY prog w k tk;obtain⟨o,es,ep,t,ho,hex,hd,hel,hmem,hb,hf,hn,hTab⟩:=hS;have ay:es.size + 1 < scanBound:=by rw[hn];exact U
 unfold setAddHashed setAddHashedIn;refine Bc (Aa (DB ho hd hf ?_));dsimp only;rw[byScan_of (x:=BE k tk) rfl hb hel,Ib rfl];unfold setAddByScan;refine Aa (Aa (CQ (Aa (wpAny_setScan_of W ho hd hf hel ?_))));cases hr:List.findIdx? (fun e=>(Bv prog w).is k e.2) es.toList with
 | some j=>
  dsimp only;obtain⟨hj,hpj,_⟩:=List.findIdx?_eq_some_iff_getElem.mp hr;have Y:S k=true:=(hmem k).mpr ⟨es.toList[j],Bn hj,hpj⟩;refine Ae (Ae ?_);have q:=h s.heap (Heap.SameBut.refl a s.heap) ⟨o,es,ep,t,ho,hex,hd,hel,fun z=>by
   rw[Bool.or_eq_true,decide_eq_true_eq,← hmem z];exact⟨fun hz=>hz.elim id (fun e=>e ▸ Y),.inl⟩,hb,hf,by rw[Y];exact hn,hTab⟩
  rw[Y]at q;exact q
 | none=>
  dsimp only;have Y:S k=false:=by
   cases hz:S k with
   | false=>rfl
   | true=>
    obtain⟨e,he,hp⟩:=(hmem k).mp hz;have z:=List.findIdx?_eq_none_iff.mp hr e he;rw[hp]at z;exact Bool.noConfusion z
  have B:=layNew_perm t es ((Bv prog w).hash k) (BE k tk);have F:=layNew_fits t es ((Bv prog w).hash k) (BE k tk);have M:=aB1 t es ((Bv prog w).hash k) (BE k tk);generalize hL:layNew t es ((Bv prog w).hash k) (BE k tk)=L at B F M ⊢;obtain⟨es1,t1,wasD,gave⟩:=L;dsimp only at B F M ⊢;rw[CI]at B;have ab:ElemsOf (Bv prog w) es1.toList:=(hel.push W rfl).perm B;have O:=mem_push_iff W hmem B;have Z:es1.size=n + 1:=by rw[← By,B.length_eq,Au,By,hn];rfl
  have af:es1.size < scanBound:=by rw[Z];exact U
  have gw:∀(b:Bool) {s₁:Af} {Q':Unit→Af→Prop},Q' () s₁→wpAny (model prog w) A (match b with | true=>rule "set.scan.the-table-gave-way" | false=>pure ()) Q' E s₁:=fun b s₁ Q' hq=>by cases b <;> first | exact Ae hq | exact CQ hq
  have ae:∀ h',D2 a s.heap h'→kY prog w h' a (fun k'=>S k' || decide (k'=k)) es1.size→Q true { s with heap:=h' }:=fun h' x1 x2=>by
   have q:=h h' x1;rw[Y]at q;rw[Z]at x2;exact q x2
  have ad:∀ J:Di,J.led=t.led→J.plain=false→J.fits es1.size=true→
    wpAny (model prog w) A (do
     storeSet a es1 J
     if (!wasD && J.tooFull)=true then do
       (match (relayAll J es1 (Dn es1.size)).2.2 with | true=>rule "set.scan.the-table-gave-way" | false=>pure ())
       storeSet a (relayAll J es1 (Dn es1.size)).1 (relayAll J es1 (Dn es1.size)).2.1
       pure (some true)
      else pure (some true)) (fun r s'=>wpAny (model prog w) A (match r with | some added=>pure added | none=>setAddHashedIn a (.str k tk) ((Bv prog w).hash k) 99999) Q E s') E s:=by
   intro J l2 p2 f2;refine Aa (wpAny_storeSet_of ho hd ?_ (E6 af));obtain⟨ho1,hS1⟩:=kY.stored (prog:=prog) (w:=w) ho hex hd ab O af f2 ⟨by rw[l2];exact hTab.1,.inr p2⟩;have ak:=Co s.heap a (Ht es1 J);split
   ·have hp:=relayAll_perm J es1 (Dn es1.size);have ag:=relayAll_fits J es1 (Dn es1.size);obtain⟨rl,rp⟩:=wS J es1 (Dn es1.size) p2;generalize relayAll J es1 (Dn es1.size)=R at hp ag rl rp ⊢;obtain⟨es2,t3,g2⟩:=R;dsimp only at hp ag rl rp ⊢;have am:ElemsOf (Bv prog w) es2.toList:=ab.perm hp;have ah:∀ z,(S z || decide (z=k))=true↔∃ e∈es2.toList,(Bv prog w).is z e.2=true:=fun z=>(O z).trans ⟨fun⟨e,he,q⟩=>⟨e,hp.mem_iff.mpr he,q⟩,fun⟨e,he,q⟩=>⟨e,hp.mem_iff.mp he,q⟩⟩;have ac:es2.size=es1.size:=by rw[← By,hp.length_eq,By]
    have ai:es2.size < scanBound:=by rw[ac];exact af
    refine Aa (gw _ (Aa (wpAny_storeSet_of ho1 rfl ?_ (E6 ai))));obtain⟨_,hS2⟩:=kY.stored (prog:=prog) (w:=w) ho1 hex rfl am ah ai ag ⟨by rw[rl,l2];exact hTab.1,.inr rp⟩;rw[ac]at hS2;exact Ae (Ae (ae _ (ak.trans (Co _ a _)) hS2))
   ·exact Ae (Ae (ae _ ak hS1))
  refine Aa (gw _ ?_);split
  ·next hpl=>
   rw[hashByValue_scannable 8 (x:=BE k tk) rfl];refine Aa (Ae ?_);exact ad { t1 with plain:=false } M rfl (SetTable.fits_plain_off F)
  ·next hpl=>
   refine Aa (Ae ?_);exact ad t1 M (by simpa using hpl) F
theorem aB2{h:Bp}{a:Ag}{q:Array Ac}(x:h.IsTuple a q)(o:Obj):(h.push o).IsTuple a q:=by
 obtain⟨u,hu,r⟩:=x;exact⟨u,Ah o hu,r⟩
theorem aFk{prog:AG}{w:A2}{A:AW}{R:Result→Af→Prop}{I:Ag}{fp wr:List Ag}{G:Array Gq→Array Gq→Prop}{n:Nat}{P:Nat→Ac→Prop}{St:Nat→Af→Prop}
  (W:WalksS prog w A.in1 I fp wr G n P St) (S:Ag) (ac:¬ S∈fp) (val:Nat→Str) (O:∀(i:Nat) (v:Ac),P i v→∃ t,v=BE (val i) t) (J:n + 1 < scanBound):
  ∀(k i:Nat) (s:Af),n - i=k→i≤n→St i s→kY prog w s.heap S (fun F=>(fA val i).any fun x=>x == F) (fA val i).length→
   (∀ s':Af,Moved (S :: wr) G s s'→kY prog w s'.heap S (fun F=>(fA val n).any fun x=>x == F) (fA val n).length→R (Hm (Hd Ci)) s')→
   codeAny (model prog w) A (Code.builtin "set.update.loop" { pos:=[AJ S,AJ I] }) R s:=by
 have M:¬ S∈wr:=fun h=>ac (W.sub S h);have q:∀ b,b∈wr→b∈S :: wr:=fun b J=>AL S J;intro k
 induction k with
 | zero=>
  intro i s hk hi B hS hR;have ah:i=n:=by omega
  subst ah;refine BX CC ?_;rw[BM BO];refine Aa (W.done s _ _ B fun s' hm=>?_);refine Ae (hR s' (Gp hm q) ?_);exact hS.at fun o ho=>hm.heap S o M ho
 | succ k ih=>
  intro i s hk hi B hS hR;have Z:i < n:=by omega
  refine BX CC ?_;rw[BM BO];refine Aa (W.item i s _ _ Z B fun v s' hP aa hm=>?_);obtain⟨t,rfl⟩:=O i v hP;have af:kY prog w s'.heap S (fun F=>(fA val i).any fun x=>x == F) (fA val i).length:=by
   exact hS.at fun o ho=>hm.heap S o M ho
  have z:(fA val i).length + 1 < scanBound:=by
   have:=oF val i;omega
  refine Aa (Bc (Bc (Aa ((Bv prog w).pyHash (GY prog w (val i) t) ?_))));refine aJM af z fun h' U ai=>?_;refine Ae ⟨Dv BO _,?_⟩;refine ih (i + 1) _ (by omega) Z (W.frame (i + 1) s' h' _ aa (C6 s'.toks) fun b J o e=>?_) ?_ fun ae Y ad=>?_
  ·rw[U.right b fun h=>ac (h ▸ J)];exact e
  ·refine ai.congr (fun F=>?_) ?_
   ·show _=((jQ _ _).any _)
    rw[xO]
   ·show _=(jQ _ _).length;rw[i7]
  ·refine hR ae (Moved.trans W.gtrans (Moved.then_heap (Gp hm q) (C6 s'.toks) fun b o J e=>?_) Y) ad;rw[U.right b fun h=>J (h ▸ AI)];exact e
theorem aHU{prog:AG}{w:A2}{A:AW}{E:Ac→Af→Prop}{s:Af}(a:Ac){Q₁:Ac→Af→Prop}
  (h:Q₁ (.ref s.heap.objs.size) { s with heap:=s.heap.push { cls:=.type "set",dict:=none,data:=.set #[] 0 (.fresh 0 0 (!w.params.followText "set-order")) } }):
  codeAny (model prog w) A (.call (.builtin "set.__new__") ⟨[.type "set",a],[]⟩) (wants Q₁ E) s:=by
 apply Fu;show wpAny (model prog w) A.in1 (checkBuiltinCall "set.__new__" ⟨[.type "set",a],[]⟩ >>= fun _=>again (.builtin "set.__new__" ⟨[.type "set",a],[]⟩)) _ _ s;apply Aa;refine CB (F.newCall_set_1 a) (Ae ⟨Dv F.plain_set_new _,?_⟩);apply BX F.entry_set_new;rw[BM F.plain_set_new];unfold Builtin.«set.__new__» Builtin.Frozenset.newClass;have q:=sub_set_self;obtain⟨hp,gs,dr,tk,os⟩:=s;dsimp only
 wp_walk
 apply DK;apply Ae;dsimp only;simp only[newObj];apply Aa;apply wpAny_alloc;exact Ae (Ae h)
theorem aAG{prog:AG}{w:A2}{A:AW}{E:Ac→Af→Prop}{s:Af}{l:Ag}{z:Array Ac}{val:Nat→Str}{Q:Ac→Af→Prop}(hh:A.handled=none)(hl:s.heap.IsList l z)
  (hi:∀(i:Nat) (v:Ac),z[i]?=some v→∃ t,v=BE (val i) t) (hb:z.size + 1 < scanBound)
  (h:∀(h':Bp) (tk:Nat),kY prog w h' s.heap.objs.size (fun k'=>(fA val z.size).any fun x=>x == k') (fA val z.size).length→
   (∀(b:Nat) (o:Obj),b < s.heap.objs.size→s.heap.get? b=some o→h'.get? b=some o)→Q (AJ s.heap.objs.size) { s with heap:=h',toks:=tk }):
  wpAny (model prog w) A (call (AC "set") [AJ l]) Q E s:=by
 obtain⟨c,tl,hmro⟩:=BU.mro;have O:=BU.made;have W:=BU.sub;have am:=Gr (AJ l);refine Dp (Fu (Ae ⟨FF _ (by decide),BX Gf ?_⟩));rw[Fx (Fy "set" [AJ l] []) rfl];unfold Builtin.«type.__call__»;dsimp only
 iterate 2 refine Aq (by first | rfl | decide) ?_
 refine Aa (CB am ?_);refine Aa (CB hmro ?_);refine Aq (by first | rfl | decide) ?_;refine Aa (CB O ?_);refine Aa (Ae ?_);refine Aa (Bc (Dp (C8 (aHU (Q₁:=fun obj s₁=>∃ led,led=(!w.params.followText "set-order")∧obj=AJ s.heap.objs.size∧s₁={ s with heap:=s.heap.push { cls:=AC "set",data:=B3 #[] 0 (Bb 0 0 led) } }) (E:=E) (AJ l) ⟨_,rfl,rfl,rfl⟩) fun r s₁ B=>?_)));cases r with
 | error e=>exact B
 | ok fl=>
  cases fl with
  | next=>exact B.elim
  | brk=>exact B.elim
  | cont=>exact B.elim
  | ret v=>
   obtain⟨led,hled,rfl,rfl⟩:=B;have hS:=Ax s.heap (o:={ cls:=AC "set",data:=B3 #[] 0 (Bb 0 0 led) }) rfl;have hT:DH { s with heap:=s.heap.push { cls:=AC "set",data:=B3 #[] 0 (Bb 0 0 led) } } (AJ s.heap.objs.size) "set":=⟨_,hS,rfl⟩
   have aj:=BU.init.lookup;have af:=BU.init.bind (AJ s.heap.objs.size);obtain⟨ol,hol,hcl,nl,hdl⟩:=hl;have J:=Ah { cls:=AC "set",data:=B3 #[] 0 (Bb 0 0 led) } hol;have ab:Heap.IsList (s.heap.push { cls:=AC "set",data:=B3 #[] 0 (Bb 0 0 led) }) l z:=⟨ol,J,hcl,nl,hdl⟩
   refine Aa (BY hT W ?_);refine Aq (by first | rfl | decide) ?_;refine Aa (Bc ?_);unfold callSpecial?;refine Aa (DY hT aj ?_);dsimp only;refine Bc ?_;refine Aa (CB af ?_);refine Aa (Dp (C8 (FM BU.init.plain Gs (R:=fun r s'=>match r with | .ok (.ret v)=>v=.none∧Q (.ref s.heap.objs.size) s' | _=>False) (GC hT ?_)) fun r s₁ B=>?_))
   ·unfold Builtin.«set.__init__»;refine Aa (BL (by first | rfl | decide) (Ae ?_));refine Aa (Aa (Aa (BR hT (Aq (by first | rfl | decide) (Ae ?_)))));refine Ae ?_;refine Aa ?_;unfold checkCount
    iterate 2 refine Aq (by first | rfl | decide) ?_
    refine Aq (by first | rfl | decide) (Ae ?_);refine Aa (Ae ?_);refine Aa ?_;unfold setUsed setState;refine Aa (Aa (Hv hS ?_));dsimp only;refine Aq (by first | rfl | decide) (Ae ?_);refine Ae ?_;refine Aq (by first | rfl | decide) ?_;show wpAny _ _ (do let aw ← B9 "set.__init__" s.heap.objs.size (AJ l);ret Ci) _ _ _;refine Aa ?_;unfold B9;refine Aa ?_;have U:DH { s with heap:=s.heap.push { cls:=AC "set",data:=B3 #[] 0 (Bb 0 0 led) } } (AJ l) "list":=⟨ol,J,hcl⟩
    unfold DX;refine Aa (BY U F.sub_list_set ?_);refine BY U F.sub_list_frozenset ?_;refine Aq (by first | rfl | decide) ?_;refine Aa (BR U ?_);refine Aq (by first | rfl | decide) ?_;refine Aa (E4 ab ?_);refine Aa (Eh ?_);have aa:l < s.heap.objs.size:=Ay hol;have M:(s.heap.push { cls:=AC "set",data:=B3 #[] 0 (Bb 0 0 led) }).objs.size=s.heap.objs.size + 1:=B2 _ _;have Z:l≠(s.heap.push { cls:=AC "set",data:=B3 #[] 0 (Bb 0 0 led) }).objs.size:=by rw[M];exact AF (Bl aa)
    have ah:¬ s.heap.objs.size∈[(s.heap.push { cls:=AC "set",data:=B3 #[] 0 (Bb 0 0 led) }).objs.size,l]:=by
     rw[M];simp only[An,Az,or_false,not_or];exact⟨AF (BN _),C5 aa⟩
    have ag:A.in1.in1.in1.handled=none:=hh;refine aFk (FW (Hf ag _ l Z z)) s.heap.objs.size ah val hi hb (z.size - 0) 0 _ rfl (A0 _) ⟨⟨_,Ax _ rfl,rfl,rfl⟩,Heap.IsList.push ab _⟩ ?_ ?_
    ·have Y:=Ah { cls:=AC "list_iterator",data:=Gh #[AJ l,Cm 0 0] } hS;exact⟨_,#[],0,_,Y,⟨rfl,rfl,rfl⟩,rfl,(fun e he=>by simp at he),(fun k=>by show(false=true)↔_;simp),(by decide),rfl,rfl,hled,.inl rfl⟩
    ·rintro⟨h',g',d',tk',os'⟩ hm hS';refine Ae (Ae ⟨rfl,?_⟩);have e1:=hm.gens;have e2:=hm.drawn;have e3:=hm.os;dsimp only at e1 e2 e3;subst e1 e2 e3;refine h h' tk' hS' fun b o hb e=>hm.heap b o ?_ ?_
     ·simp only[An,Az,or_false,not_or];rw[M];exact⟨AF hb,AF (Bl hb)⟩
     ·exact Ah _ (Ah _ e)
   ·cases r with
    | error e=>exact B.elim
    | ok fl=>
     cases fl with
     | next=>exact B.elim
     | brk=>exact B.elim
     | cont=>exact B.elim
     | ret v=>
      obtain⟨rfl,q⟩:=B;refine Ae ?_;refine Aq (by first | rfl | decide) ?_;exact Ae q
theorem aAH{prog:AG}{w:A2}{A:AW}{E:Ac→Af→Prop}{s:Af}{l:Ag}{z:Array Ac}{val:Nat→Str}{Q:Ac→Af→Prop}(hh:A.handled=none)(hl:s.heap.IsTuple l z)
  (hi:∀(i:Nat) (v:Ac),z[i]?=some v→∃ t,v=BE (val i) t) (hb:z.size + 1 < scanBound)
  (h:∀(h':Bp) (tk:Nat),kY prog w h' s.heap.objs.size (fun k'=>(fA val z.size).any fun x=>x == k') (fA val z.size).length→
   (∀(b:Nat) (o:Obj),b < s.heap.objs.size→s.heap.get? b=some o→h'.get? b=some o)→Q (AJ s.heap.objs.size) { s with heap:=h',toks:=tk }):
  wpAny (model prog w) A (call (AC "set") [AJ l]) Q E s:=by
 obtain⟨c,tl,hmro⟩:=BU.mro;have O:=BU.made;have W:=BU.sub;have am:=Gr (AJ l);refine Dp (Fu (Ae ⟨FF _ (by decide),BX Gf ?_⟩));rw[Fx (Fy "set" [AJ l] []) rfl];unfold Builtin.«type.__call__»;dsimp only
 iterate 2 refine Aq (by first | rfl | decide) ?_
 refine Aa (CB am ?_);refine Aa (CB hmro ?_);refine Aq (by first | rfl | decide) ?_;refine Aa (CB O ?_);refine Aa (Ae ?_);refine Aa (Bc (Dp (C8 (aHU (Q₁:=fun obj s₁=>∃ led,led=(!w.params.followText "set-order")∧obj=AJ s.heap.objs.size∧s₁={ s with heap:=s.heap.push { cls:=AC "set",data:=B3 #[] 0 (Bb 0 0 led) } }) (E:=E) (AJ l) ⟨_,rfl,rfl,rfl⟩) fun r s₁ B=>?_)));cases r with
 | error e=>exact B
 | ok fl=>
  cases fl with
  | next=>exact B.elim
  | brk=>exact B.elim
  | cont=>exact B.elim
  | ret v=>
   obtain⟨led,hled,rfl,rfl⟩:=B;have hS:=Ax s.heap (o:={ cls:=AC "set",data:=B3 #[] 0 (Bb 0 0 led) }) rfl;have hT:DH { s with heap:=s.heap.push { cls:=AC "set",data:=B3 #[] 0 (Bb 0 0 led) } } (AJ s.heap.objs.size) "set":=⟨_,hS,rfl⟩
   have aj:=BU.init.lookup;have af:=BU.init.bind (AJ s.heap.objs.size);obtain⟨ol,hol,hcl,nl,hdl⟩:=hl;have J:=Ah { cls:=AC "set",data:=B3 #[] 0 (Bb 0 0 led) } hol;have ab:Heap.IsTuple (s.heap.push { cls:=AC "set",data:=B3 #[] 0 (Bb 0 0 led) }) l z:=⟨ol,J,hcl,nl,hdl⟩
   refine Aa (BY hT W ?_);refine Aq (by first | rfl | decide) ?_;refine Aa (Bc ?_);unfold callSpecial?;refine Aa (DY hT aj ?_);dsimp only;refine Bc ?_;refine Aa (CB af ?_);refine Aa (Dp (C8 (FM BU.init.plain Gs (R:=fun r s'=>match r with | .ok (.ret v)=>v=.none∧Q (.ref s.heap.objs.size) s' | _=>False) (GC hT ?_)) fun r s₁ B=>?_))
   ·unfold Builtin.«set.__init__»;refine Aa (BL (by first | rfl | decide) (Ae ?_));refine Aa (Aa (Aa (BR hT (Aq (by first | rfl | decide) (Ae ?_)))));refine Ae ?_;refine Aa ?_;unfold checkCount
    iterate 2 refine Aq (by first | rfl | decide) ?_
    refine Aq (by first | rfl | decide) (Ae ?_);refine Aa (Ae ?_);refine Aa ?_;unfold setUsed setState;refine Aa (Aa (Hv hS ?_));dsimp only;refine Aq (by first | rfl | decide) (Ae ?_);refine Ae ?_;refine Aq (by first | rfl | decide) ?_;show wpAny _ _ (do let aw ← B9 "set.__init__" s.heap.objs.size (AJ l);ret Ci) _ _ _;refine Aa ?_;unfold B9;refine Aa ?_;have U:DH { s with heap:=s.heap.push { cls:=AC "set",data:=B3 #[] 0 (Bb 0 0 led) } } (AJ l) "tuple":=⟨ol,J,hcl⟩
    unfold DX;refine Aa (BY U F.sub_tuple_set ?_);refine BY U F.sub_tuple_frozenset ?_;refine Aq (by first | rfl | decide) ?_;refine Aa (BR U ?_);refine Aq (by first | rfl | decide) ?_;refine Aa (wpAny_pyIter_tuple ab ?_);refine Aa (Eh ?_);have aa:l < s.heap.objs.size:=Ay hol;have M:(s.heap.push { cls:=AC "set",data:=B3 #[] 0 (Bb 0 0 led) }).objs.size=s.heap.objs.size + 1:=B2 _ _;have Z:l≠(s.heap.push { cls:=AC "set",data:=B3 #[] 0 (Bb 0 0 led) }).objs.size:=by rw[M];exact AF (Bl aa)
    have ah:¬ s.heap.objs.size∈[(s.heap.push { cls:=AC "set",data:=B3 #[] 0 (Bb 0 0 led) }).objs.size,l]:=by
     rw[M];simp only[An,Az,or_false,not_or];exact⟨AF (BN _),C5 aa⟩
    have ag:A.in1.in1.in1.handled=none:=hh;refine aFk (FW (Walks.tuple ag _ l Z z)) s.heap.objs.size ah val hi hb (z.size - 0) 0 _ rfl (A0 _) ⟨⟨_,Ax _ rfl,rfl,rfl⟩,aB2 ab _⟩ ?_ ?_
    ·have Y:=Ah { cls:=AC "tuple_iterator",data:=Gh #[AJ l,Cm 0 0] } hS;exact⟨_,#[],0,_,Y,⟨rfl,rfl,rfl⟩,rfl,(fun e he=>by simp at he),(fun k=>by show(false=true)↔_;simp),(by decide),rfl,rfl,hled,.inl rfl⟩
    ·rintro⟨h',g',d',tk',os'⟩ hm hS';refine Ae (Ae ⟨rfl,?_⟩);have e1:=hm.gens;have e2:=hm.drawn;have e3:=hm.os;dsimp only at e1 e2 e3;subst e1 e2 e3;refine h h' tk' hS' fun b o hb e=>hm.heap b o ?_ ?_
     ·simp only[An,Az,or_false,not_or];rw[M];exact⟨AF hb,AF (Bl hb)⟩
     ·exact Ah _ (Ah _ e)
   ·cases r with
    | error e=>exact B.elim
    | ok fl=>
     cases fl with
     | next=>exact B.elim
     | brk=>exact B.elim
     | cont=>exact B.elim
     | ret v=>
      obtain⟨rfl,q⟩:=B;refine Ae ?_;refine Aq (by first | rfl | decide) ?_;exact Ae q
theorem nY{α:Type}:∀(l:List α) (j:Nat) (y:α),l[j]?=some y→(y :: l.eraseIdx j).Perm l
 | [],j,y,h=>by simp at h
 | x :: r,0,y,h=>by
  simp at h;subst h;simp
 | x :: r,j + 1,y,h=>by
  simp at h;rw[List.eraseIdx_cons_succ];exact(List.Perm.swap x y _).trans ((nY r j y h).cons x)
theorem aGV{M:Ha}{A:AW}{Q:Nat→Af→Prop}{E:Ac→Af→Prop}{s:Af}{src:Source}{n:Nat}(hn:n≠0)(h:∀ i d,i < n→Q i { s with drawn:=d }):wpAny M A (choose src n) Q E s:=
 fun _ _ _=>⟨hn,h _ _ (Nat.mod_lt _ (Nat.pos_of_ne_zero hn))⟩
theorem aB3{α:Type}{M:Ha}{A:AW}{E:Ac→Af→Prop}:∀(n:Nat) (xs:List α) (s:Af) (Q:List α→Af→Prop),xs.length=n→(∀ ys d,ys.Perm xs→Q ys { s with drawn:=d })→wpAny M A (drawOrder n xs) Q E s:=by
 intro n
 induction n with
 | zero=>
  intro xs s Q q h;obtain rfl:xs=[]:=CH q;exact Ae (h [] s.drawn (Dl _))
 | succ n B=>
  intro xs s Q q h;cases xs with
  | nil=>simp at q
  | cons x r=>
   unfold drawOrder;refine Aa (aGV (by simp) fun i d hi=>?_);obtain⟨y,hy⟩:∃ y,(x :: r)[i]?=some y:=⟨_,Ab hi⟩
   rw[hy];dsimp only;refine Aa (B _ _ _ (by rw[CV hi];simp at q ⊢;exact q) fun ys F z=>Ae (h _ _ ((z.cons y).trans (nY _ i y hy))))
theorem dM:Slot "set_iterator" "__next__" "set_iterator.__next__":=
 .of (owner:="set_iterator") (n:="__next__") (by rw[typeLookup_type,builtinLookup_eq_fast];kernel_rfl) (by decide) (by decide) (by decide) (by first | exact .inl (by decide) | exact .inr (by decide)) (by rw[G8];kernel_rfl)
theorem qB:Slot "set_iterator" "__iter__" "set_iterator.__iter__":=
 .of (owner:="set_iterator") (n:="__iter__") (by rw[typeLookup_type,builtinLookup_eq_fast];kernel_rfl) (by decide) (by decide) (by decide) (by first | exact .inl (by decide) | exact .inr (by decide)) (by rw[G8];kernel_rfl)
theorem iT:entryFor table "set_iterator.__next__"=some Builtin.«set_iterator.__next__»:=entryFor_of_tree (by kernel_rfl)
theorem wT:entryFor table "set_iterator.__iter__"=some Builtin.«dict_keyiterator.__iter__»:=entryFor_alias (id':="dict_keyiterator.__iter__") (by kernel_rfl) rfl (by decide) (by kernel_rfl)
theorem tW:entryFor table "set.__iter__"=some Builtin.«frozenset.__iter__»:=entryFor_alias (id':="frozenset.__iter__") (by kernel_rfl) rfl (by decide) (by kernel_rfl)
theorem aAI:Manifest.owners.lookup (String.ofList ("set_iterator".toList.reverse).reverse)=some Manifest.sig_set_iterator:=by kernel_rfl
theorem i9(a:Ac):argsOk "set_iterator.__next__" ⟨[a],[]⟩:=by
 unfold argsOk;rw[signature?_of (id:="set_iterator.__next__") (n:="__next__".toList.reverse) (o:="set_iterator".toList.reverse) (by kernel_rfl) aAI]
 kernel_rfl
theorem zO(a:Ac):argsOk "set_iterator.__iter__" ⟨[a],[]⟩:=by
 unfold argsOk;rw[signature?_of (id:="set_iterator.__iter__") (n:="__iter__".toList.reverse) (o:="set_iterator".toList.reverse) (by kernel_rfl) aAI]
 kernel_rfl
def jS(first:Ac)(i:Nat)(S:Ag)(n ep:Nat):Obj:={ cls:=.type "set_iterator",dict:=none,data:=.fields #[first,.int i 0,.ref S,.int n 0,.int ep 0],slots:=#[] }
section
variable{prog:AG}{w:A2}{A:AW}{E:Ac→Af→Prop}{s:Af}{I S T:Ag}{i m ep:Nat}{o ot:Obj}{es:Array (Int×Ac)}{t:Di}{fu:Array Ac}{x:Ac}
theorem vE{M:Ha}{B:AW}{q:Ac→Af→Prop}{Q:Fin→Af→Prop}{s:Af}(z:B.handled=none)(h:∀(e:Ac) (h':Bp),(∀ b u,s.heap.get? b=some u→h'.get? b=some u)→DH { s with heap:=h' } e "StopIteration"→q e { s with heap:=h' }):
  wpAny M B (newExc (.type "StopIteration") [] >>= fun e=>raiseNew e) Q q s:=by
 refine Aa ?_;simp only[newExc,newTuple];apply Aa;refine BZ ?_ (by size_fits);apply Aa (m:=firstArgMember _ _);refine CB (a:=Ci) (by first | rfl | (simp only[firstArgMember];rfl)) ?_;refine BZ (h:=?_) (by size_fits);simp only[raiseNew];refine Aa (wpAny_handled ?_);rw[z];refine Aa (Ae (wpAny_throw (h (.ref _) _ (fun b u e=>Ah _ (Ah _ e)) ⟨_,Ax _ rfl,rfl⟩)))
theorem aD3(z:s.heap.get? I=some (jS (.ref T) i S es.size ep))(J:s.heap.get? S=some o)(hd:o.data=.set es ep t)(F:t.fits es.size=true)(O:s.heap.get? T=some ot)(B:ot.data=.seq fu m){p:Nat}{tk:Tok}{U:Int}(W:fu[i]?=some (.int p tk))(M:es[p]?=some (U,x)){Q:Option Ac→Af→Prop}
  (hQ:∀ h',h'.get? I=some (jS (.ref T) (i + 1) S es.size ep)→D2 I s.heap h'→Q (some x) { s with heap:=h' }):wpAny (model prog w) A (pyNext (.ref I)) Q E s:=by
 have q:s.TypeIs (.ref I) "set_iterator":=⟨_,z,rfl⟩
 unfold pyNext;apply Aa;apply Ex;refine CO (name:=Bx "__next__") q dM (B7 dM q iT ?_ (i9 _));unfold Builtin.«set_iterator.__next__»;refine Aa (Ae ?_);refine Aa (FI z rfl ?_);dsimp only;refine Aa (DQ J hd F ?_);rw[Ia (show¬ ((((es.size:Nat):Int) != ((es.size:Nat):Int))=true) by simp)];refine Aa (wpAny_seqItems O B ?_);dsimp only;rw[show((i:Nat):Int).toNat=i from Bm i,W];dsimp only;unfold setNextDrawn;refine Aa (Aa (DB J hd F ?_));dsimp only;rw[Ia (show¬ ((ep != ((ep:Nat):Int).toNat)=true) by simp)];rw[show((p:Nat):Int).toNat=p from Bm p,M];refine Ae ?_;refine Aa (Eg z rfl (by simp[jS]) (Ae ⟨x,rfl,Ae (hQ _ ?_ (Co ..))⟩));rw[B5 _ z (Ed (CW rfl _))];rfl
theorem aFl(Y:A.handled=none)(z:s.heap.get? I=some (jS (.ref T) i S es.size ep))(Z:s.heap.get? S=some o)(hd:o.data=.set es ep t)(M:t.fits es.size=true)(U:s.heap.get? T=some ot)(B:ot.data=.seq fu m)(J:fu[i]?=none){Q:Option Ac→Af→Prop}
  (hQ:∀ h',(∀ b u,b≠I→s.heap.get? b=some u→h'.get? b=some u)→Q none { s with heap:=h' }):wpAny (model prog w) A (pyNext (.ref I)) Q E s:=by
 have q:s.TypeIs (.ref I) "set_iterator":=⟨_,z,rfl⟩
 unfold pyNext;apply Aa;apply Ex;refine CO (name:=Bx "__next__") q dM (B7 dM q iT ?_ (i9 _));unfold Builtin.«set_iterator.__next__»;refine Aa (Ae ?_);refine Aa (FI z rfl ?_);dsimp only;refine Aa (DQ Z hd M ?_);rw[Ia (show¬ ((((es.size:Nat):Int) != ((es.size:Nat):Int))=true) by simp)];refine Aa (wpAny_seqItems U B ?_);dsimp only;rw[show((i:Nat):Int).toNat=i from Bm i,J];dsimp only;refine Aa (Eg z rfl (by simp[jS]) ?_);have F:=B5 (Obj.mapFields (·.setIfInBounds 0 (rawInt 0))) z (Ed (CW rfl _))
 refine Aa (Eg F (CW rfl _) (by simp[jS]) ?_);refine vE (show A.in1.handled=none from Y) fun e h' k W=>?_;refine Aa (BY (T:="StopIteration") (b:=true) W isSubtype_stop ?_);refine Ae (hQ h' fun b u nb O=>k b u ?_);exact(Co _ I _).extBut b u nb ((Co _ I _).extBut b u nb O)
theorem aD4{z nx:Nat}(J:s.heap.get? I=some (jS (rawInt z) i S es.size ep))(U:s.heap.get? S=some o)(hd:o.data=.set es ep t)(O:t.fits es.size=true)
  (hN:∀(B:AW) (W:Ac→Af→Prop) (M:Option (Ac×Nat)→Af→Prop),M (some (x,nx)) s→wpAny (model prog w) B (setNext S z i ep) M W s) {Q:Option Ac→Af→Prop}
  (hQ:∀ h',h'.get? I=some (jS (rawInt nx) (i + 1) S es.size ep)→D2 I s.heap h'→Q (some x) { s with heap:=h' }):wpAny (model prog w) A (pyNext (.ref I)) Q E s:=by
 have q:s.TypeIs (.ref I) "set_iterator":=⟨_,J,rfl⟩
 unfold pyNext;apply Aa;apply Ex;refine CO (name:=Bx "__next__") q dM (B7 dM q iT ?_ (i9 _));unfold Builtin.«set_iterator.__next__»;refine Aa (Ae ?_);refine Aa (FI J rfl ?_);dsimp only;refine Aa (DQ U hd O ?_);rw[Ia (show¬ ((((es.size:Nat):Int) != ((es.size:Nat):Int))=true) by simp)];dsimp only[rawInt];refine Aa ?_;rw[show((i:Nat):Int).toNat=i from Bm i,show((z:Nat):Int).toNat=z from Bm z,show((ep:Nat):Int).toNat=ep from Bm ep];refine hN _ _ _ ?_;dsimp only;refine Aa (Eg J rfl (by simp[jS]) ?_);have F:=B5 (Obj.mapFields (·.setIfInBounds 0 (rawInt nx))) J (Ed (CW rfl _))
 refine Aa (Eg F (CW rfl _) (by simp[jS]) (Ae ⟨x,rfl,Ae (hQ _ ?_ ((Co ..).trans (Co ..)))⟩));exact(B5 _ F (Ed (CW (CW rfl _) _))).trans rfl
theorem aFm{q:Nat}(W:A.handled=none)(F:s.heap.get? I=some (jS (rawInt q) i S es.size ep))(Y:s.heap.get? S=some o)(hd:o.data=.set es ep t)(M:t.fits es.size=true)
  (hN:∀(B:AW) (Z:Ac→Af→Prop) (J:Option (Ac×Nat)→Af→Prop),J none s→wpAny (model prog w) B (setNext S q i ep) J Z s) {Q:Option Ac→Af→Prop}
  (hQ:∀ h',(∀ b u,b≠I→s.heap.get? b=some u→h'.get? b=some u)→Q none { s with heap:=h' }):wpAny (model prog w) A (pyNext (.ref I)) Q E s:=by
 have z:s.TypeIs (.ref I) "set_iterator":=⟨_,F,rfl⟩
 unfold pyNext;apply Aa;apply Ex;refine CO (name:=Bx "__next__") z dM (B7 dM z iT ?_ (i9 _));unfold Builtin.«set_iterator.__next__»;refine Aa (Ae ?_);refine Aa (FI F rfl ?_);dsimp only;refine Aa (DQ Y hd M ?_);rw[Ia (show¬ ((((es.size:Nat):Int) != ((es.size:Nat):Int))=true) by simp)];dsimp only[rawInt];refine Aa ?_;rw[show((i:Nat):Int).toNat=i from Bm i,show((q:Nat):Int).toNat=q from Bm q,show((ep:Nat):Int).toNat=ep from Bm ep];refine hN _ _ _ ?_;dsimp only;refine Aa (Eg F rfl (by simp[jS]) ?_);refine vE (show A.in1.handled=none from W) fun e h' k U=>?_;refine Aa (BY (T:="StopIteration") (b:=true) U isSubtype_stop ?_);refine Ae (hQ h' fun b u nb O=>k b u ?_);exact(Co _ I _).extBut b u nb O
theorem aCW{first:Ac}(z:s.heap.get? I=some (jS first i S es.size ep)){Q:Ac→Af→Prop}(h:Q (.ref I) s):wpAny (model prog w) A (pyIter (.ref I)) Q E s:=by
 have q:s.TypeIs (.ref I) "set_iterator":=⟨_,z,rfl⟩
 refine wpAny_pyIter_slot q qB (B7 qB q wT ?_ (zO _));exact Ae ⟨_,rfl,"set_iterator",_,q,dM.lookup,h⟩
end
theorem xR{α:Type}(next:Nat→Nat):∀(q k:Nat) (left:List α) (out:Array α),left.length=q→(pickOrder.go next q k left out).toList.Perm (out.toList ++ left)
 | 0,k,[],out,_=>by
  unfold pickOrder.go;rw[Cg]
 | q + 1,k,x :: r,out,z=>by
  unfold pickOrder.go;have hi:next k % (x :: r).length < (x :: r).length:=Nat.mod_lt _ (by simp)
  obtain⟨y,hy⟩:∃ y,(x :: r)[next k % (x :: r).length]?=some y:=⟨_,Ab hi⟩
  rw[hy];dsimp only;refine(xR next q (k + 1) _ _ (by rw[CV hi];simp at z ⊢;exact z)).trans ?_;rw[CI,Bg];exact Bu _ (nY _ _ y hy)
theorem vF{α:Type}(next:Nat→Nat)(xs:Array α):(pickOrder next xs).toList.Perm xs.toList:=by
 unfold pickOrder;have h:=xR next xs.size 0 xs.toList #[] (by simp)
 simpa using h
section
variable{prog:AG}{w:A2}{A:AW}{I S T:Ag}{m ep:Nat}{o ot:Obj}{es:Array (Int×Ac)}{t:Di}{fu:Array Ac}
theorem aIE(Y:A.handled=none)(Z:S≠I)(W:T≠I)(hd:o.data=.set es ep t)(J:t.fits es.size=true)(q:ot.data=.seq fu m)(U:∀ i,i < fu.size→∃(p:Nat) (tk:Tok) (z:Int×Ac),fu[i]?=some (.int p tk)∧es[p]?=some z):
  Walks prog w A I [I,S,T] [I] fu.size (fun i v=>∃(p:Nat) (tk:Tok) (z:Int),fu[i]?=some (.int p tk)∧es[p]?=some (z,v)) (fun i h=>h.get? I=some (jS (.ref T) i S es.size ep)∧h.get? S=some o∧h.get? T=some ot) where
 sub:=fun b M=>by simp at M;simp[M]
 frame:=fun _ _ _ st F=>⟨F I (by simp) _ st.1,F S (by simp) _ st.2.1,F T (by simp) _ st.2.2⟩
 item:=fun i s Q E hi st hQ=>by
  obtain⟨p,tk,⟨z,v⟩,h1,h2⟩:=U i hi;refine aD3 st.1 st.2.1 hd J st.2.2 q h1 h2 fun h' O B=>?_;exact hQ v h' s.toks ⟨p,tk,z,h1,h2⟩ ⟨O,B.extBut S _ Z st.2.1,B.extBut T _ W st.2.2⟩ fun b u nb e=>B.extBut b u (by simpa using nb) e
 done:=fun s Q E st hQ=>aFl Y st.1 st.2.1 hd J st.2.2 q (by simp) fun h' k=>hQ h' s.toks fun b u nb e=>k b u (by simpa using nb) e
 self:=fun i s Q E st hQ=>aCW st.1 hQ
theorem aIF(Z:A.handled=none)(hS:S≠I)(hd:o.data=.set es ep t)(O:t.fits es.size=true)(J:Nat→Nat)(ord:List Ac)
  (hN:∀(i:Nat) (s:Af),s.heap.get? S=some o→i≤ord.length→∀(B:AW) (F:Ac→Af→Prop) (z:Option (Ac×Nat)→Af→Prop),z ((ord[i]?).map fun v=>(v,J (i + 1))) s→wpAny (model prog w) B (setNext S (J i) i ep) z F s):
  Walks prog w A I [I,S] [I] ord.length (fun i v=>ord[i]?=some v) (fun i h=>h.get? I=some (jS (rawInt (J i)) i S es.size ep)∧h.get? S=some o) where
 sub:=fun b U=>by simp at U;simp[U]
 frame:=fun _ _ _ st W=>⟨W I (by simp) _ st.1,W S (by simp) _ st.2⟩
 item:=fun i s Q E hi st hQ=>by
  obtain⟨v,hv⟩:∃ v,ord[i]?=some v:=⟨_,Ab hi⟩
  refine aD4 (x:=v) (nx:=J (i + 1)) st.1 st.2 hd O (fun B F z q=>hN i s st.2 (Dj hi) B F z (by rw[hv];exact q)) fun h' Y M=>?_;exact hQ v h' s.toks hv ⟨Y,M.extBut S _ hS st.2⟩ fun b u nb e=>M.extBut b u (by simpa using nb) e
 done:=fun s Q E st hQ=>aFm Z st.1 st.2 hd O (fun B F z q=>hN _ s st.2 (Ao _) B F z (by rw[AZ (Ao _)];exact q)) fun h' k=>hQ h' s.toks fun b u nb e=>k b u (by simpa using nb) e
 self:=fun i s Q E st hQ=>aCW st.1 hQ
structure aKA(prog:AG)(w:A2)(A:AW)(S:Ag)(el:List Ac)(s s2:Af)(I:Ag):Prop where
 w:∃(fp:List Ag) (P:Nat→Ac→Prop) (St:Nat→Bp→Prop),Walks prog w A I fp [I] el.length P St∧St 0 s2.heap∧I∈fp∧(∀ b∈fp,b < s2.heap.objs.size∧(b=S∨s.heap.objs.size≤b))∧∀ acc,ItemsOf P acc el.length→acc.toList.Perm el
 keep:∀ b u,s.heap.get? b=some u→s2.heap.get? b=some u
 new:s.heap.objs.size≤I
 gens:s2.gens=s.gens
 os:s2.os=s.os
 toks:s2.toks=s.toks
theorem aFn{ord:List Ac}{q:Array Ac}(h:ItemsOf (fun i v=>ord[i]?=some v) q ord.length):q.toList=ord:=by
 obtain⟨hl,h⟩:=h;apply CJ;intro j;by_cases z:j < q.size
 ·have:=h j q[j] (by simp[z]);rw[this];simp[z]
 ·rw[AZ (by simpa using z),AZ (by omega)]
end
section
variable{prog:AG}{w:A2}{A:AW}{S:Ag}{ep:Nat}{o:Obj}{es:Array (Int×Ac)}{t:Di}
theorem aAJ{ys:List Nat}{n:Nat}(F:ys.Perm (AU n))(hn:n=es.size):∀ i,i < (ys.map fun(i:Nat)=>rawInt i).toArray.size→∃(p:Nat) (tk:Tok) (z:Int×Ac),(ys.map fun(i:Nat)=>rawInt i).toArray[i]?=some (.int p tk)∧es[p]?=some z:=by
 intro i hi;have q:i < ys.length:=by simpa using hi
 have hm:ys[i]∈AU n:=F.mem_iff.mp (Bn q);have B:ys[i] < es.size:=by rw[← hn];exact BK.mp hm
 exact⟨ys[i],0,es[ys[i]],by simp[q,rawInt],by simp[B]⟩
theorem zP{ys:List Nat}{n:Nat}(O:ys.Perm (AU n))(hn:n=es.size){q:Array Ac}(h:ItemsOf (fun i v=>∃(p:Nat) (tk:Tok) (z:Int),(ys.map fun(i:Nat)=>rawInt i).toArray[i]?=some (.int p tk)∧es[p]?=some (z,v)) q ys.length):q.toList.Perm (es.toList.map (·.2)):=by
 have e:q.toList=ys.map fun p=>(es.toList.getD p (0,.none)).2:=by
  apply CJ;intro j;by_cases F:j < ys.length
  ·have B:j < q.size:=by rw[h.1];exact F
   obtain⟨p,tk,z,h1,h2⟩:=h.2 j q[j] (by simp[B]);simp[F,rawInt]at h1;obtain⟨h1,_⟩:=h1;have M:ys[j]=p:=by exact_mod_cast h1
   rw[AS,Ab F,M];have J:es.toList[p]?=some (z,q[j]):=by simpa using h2
   simp[List.getD,h2,J,B]
  ·rw[AZ (by have:=h.1;simp;omega),AZ (by simpa using F)]
 rw[e];refine(O.map _).trans (FS ?_);apply CJ;intro j;rw[AS,AS];by_cases F:j < n
 ·rw[Da F];have B:j < es.size:=by omega
  simp[List.getD,B]
 ·rw[AZ (by simpa using F),AZ (by simp;omega)];rfl
theorem aFo(hh:A.handled=none)(am:o.cls=.type "set")(hd:o.data=.set es ep t)(O:t.fits es.size=true)(hb:es.size < scanBound)(aa:vD w es t){E:Ac→Af→Prop}{s:Af}{R:Ac→Af→Prop}(hS:s.heap.get? S=some o)
  (h:∀(I:Ag) (s2:Af),aKA prog w A S (es.toList.map (·.2)) s s2 I→R (.ref I) s2):wpAny (model prog w) A (pyIter (.ref S)) R E s:=by
 have ag:s.TypeIs (.ref S) "set":=⟨_,hS,am⟩
 have Z:=Ay hS;refine wpAny_pyIter_slot ag F.slot_set_iter (B7 F.slot_set_iter ag tW ?_ (F.args_set_iter_1 _));unfold Builtin.«frozenset.__iter__» Builtin.Frozenset.slot0 Builtin.Frozenset.sizeOf;refine Aa (Aa (Ae (Ae ?_)));refine Aa (Aa (DQ hS hd O (Ae ?_)));refine Aa ?_;unfold setDrawn setsByText;refine Aa (DB hS hd O (Aa (Aa (DK (Ae (Ae ?_))))));have ay:(es.toList.map (·.2)).length=es.size:=by simp
 have fin:(∀(i:Nat) (s:Af),s.heap.get? S=some o→i≤es.size→True)→∀(sl:Nat→Nat) (ord:List Ac),sl 0=0→ord.Perm (es.toList.map (·.2))→
   (∀(i:Nat) (s:Af),s.heap.get? S=some o→i≤ord.length→∀(B:AW) (E':Ac→Af→Prop) (Q':Option (Ac×Nat)→Af→Prop),Q' ((ord[i]?).map fun v=>(v,sl (i + 1))) s→wpAny (model prog w) B (setNext S (sl i) i ep) Q' E' s)→
   wpAny (model prog w) A.in1 (do ret (← newFields "set_iterator" [rawInt 0,rawInt 0,.ref S,rawInt es.size,rawInt (← setEpoch S)])) (fun fin s'=>∃ v,fin=.done (.ret v)∧∃ T' r,s'.TypeIs v T'∧typeLookup (.type T') "__next__"=pure (some r)∧R v s') E s:=by
  intro _ sl ord h0 J hN;refine Aa (wpAny_setEpoch_of hS hd O ?_);refine Aa (BZ (Ae ⟨_,rfl,"set_iterator",_,⟨_,Ax _ rfl,rfl⟩,dM.lookup,h _ _ ?_⟩));have ah:ord.length=(es.toList.map (·.2)).length:=J.length_eq
  refine⟨⟨[s.heap.objs.size,S],_,_,ah ▸ aIF hh (AF Z) hd O sl ord hN,⟨by rw[h0];exact Ax _ rfl,Ah _ hS⟩,by simp,?_,fun ar ha=>?_⟩,fun b u e=>Ah _ e,Ao _,rfl,rfl,rfl⟩
  ·intro b hb;rw[B2];simp at hb;rcases hb with rfl | rfl
   ·exact⟨BN _,.inr (Ao _)⟩
   ·exact⟨Bl Z,.inl rfl⟩
  ·rw[← ah]at ha;rw[aFn ha];exact J
 dsimp only;cases Y:(model prog w).w.params.followText "set-order" with
 | true=>
  rw[Ia (by simp)];refine Aa (Ae ?_);refine fin (fun _ _ _ _=>trivial) (fun _=>0) ((pickOrder ((model prog w).w.params.setOrder S ep) es).toList.map (·.2)) rfl ((vF _ es).map _) fun i s1 M hi B E' Q' q=>?_
  unfold setNext setsByText setWalk setsByText;refine Aa (DB M hd O ?_);refine Aa (Aa (DK (Ae ?_)));dsimp only;rw[Y,Ib rfl];rw[Ia (show¬ ((ep != ep)=true) by simp)];refine Aa (Aa (DB M hd O ?_));refine Aa (Aa (DK (Ae ?_)));dsimp only;rw[Y,Ib rfl];refine Aa (DK (Ae (Ae ?_)));simpa[Function.comp_def]using q
 | false=>
  by_cases h1:es.size > 1
  ·have U:t.plain=false:=aa.2.resolve_left (by omega);refine BL (Ic (show((!false) && (!t.plain && decide (es.size > 1)))=true by rw[U];simp[h1])) ?_;refine Aa (aB3 es.size (AU es.size) s _ (by simp) fun ys d J=>?_);have ai:ys.length=es.size:=by rw[J.length_eq];simp
   refine Aa (EU ?_ (by rw[Ad,ai];exact E6 hb));have M:(s.heap.push { cls:=.type "tuple",data:=.seq (ys.map fun(i:Nat)=>rawInt i).toArray }).get? S=some o:=Ah _ hS;refine Aa (wpAny_setEpoch_of M hd O ?_);refine Aa (BZ (Ae ⟨_,rfl,"set_iterator",_,⟨_,Ax _ rfl,rfl⟩,dM.lookup,h _ _ ?_⟩));have W:(s.heap.push { cls:=.type "tuple",data:=.seq (ys.map fun(i:Nat)=>rawInt i).toArray }).objs.size=s.heap.objs.size + 1:=B2 _ _;have ak:(ys.map fun(i:Nat)=>rawInt i).toArray.size=(es.toList.map (·.2)).length:=by simp[ai]
   have hw:=aIE (prog:=prog) (w:=w) (A:=A) (I:=(s.heap.push { cls:=.type "tuple",data:=.seq (ys.map fun(i:Nat)=>rawInt i).toArray }).objs.size) (S:=S) (T:=s.heap.objs.size) (o:=o) (ot:={ cls:=.type "tuple",data:=.seq (ys.map fun(i:Nat)=>rawInt i).toArray }) hh (by rw[W];exact AF (Bl Z)) (by rw[W];exact AF (BN _)) hd O rfl (aAJ J rfl);rw[ak]at hw;refine⟨⟨_,_,_,hw,⟨Ax _ rfl,Ah _ M,Ah _ (Ax _ rfl)⟩,by simp,?_,fun ar ha=>?_⟩,fun b u e=>Ah _ (Ah _ e),by dsimp only;rw[W];exact C6 _,rfl,rfl,rfl⟩
   ·intro b hb;have h3:b=s.heap.objs.size + 1∨b=S∨b=s.heap.objs.size:=by
     rw[W]at hb;simpa using hb
    dsimp only;rw[B2,W];rcases h3 with rfl | rfl | rfl
    ·exact⟨BN _,.inr (C6 _)⟩
    ·exact⟨Bl (Bl Z),.inl rfl⟩
    ·exact⟨Bl (BN _),.inr (Ao _)⟩
   ·rw[← ak,Av,Ad]at ha;exact zP J rfl ha
  ·refine Aq (decide_eq_false (show¬ (((!false) && (!t.plain && decide (es.size > 1)))=true) by simp[h1])) ?_;refine Aa (Ae ?_);have ao:(!t.plain && decide (es.size > 1))=false:=by simp[h1]
   have aj:t.led=true:=by
    have z:=aa.1;rw[show w.params.followText "set-order"=false from Y]at z;exact z
   have au:t.place.size=es.size:=by
    unfold SetTable.fits at O;simp at O;exact O.1
   refine fin (fun _ _ _ _=>trivial) (fun i=>if i=0 then 0 else t.place.getD 0 0 + 1) (es.toList.map (·.2)) rfl (Dl _) fun i s1 M hi B E' Q' q=>?_
   unfold setNext setsByText;refine Aa (DB M hd O ?_);refine Aa (Aa (DK (Ae ?_)));dsimp only;rw[Y,Ia (by simp)];refine Aq (decide_eq_false (show¬ ((!t.plain && decide (es.size > 1))=true) by rw[ao];simp)) ?_;refine Aa (Aq (decide_eq_false (show¬ ((!t.led && !es.isEmpty)=true) by rw[aj];simp)) (Ae (Ae ?_)));have ac:es.size=0∨es.size=1:=by omega
   rcases ac with hz | hz
   ·have ad:es=#[]:=Array.eq_empty_of_size_eq_zero hz;have U:t.place=#[]:=Array.eq_empty_of_size_eq_zero (by omega);subst ad;have ap:i=0:=by simpa using hi
    subst ap;rw[U];simpa[DO,DO.go]using q
   ·obtain⟨e,ad⟩:=Array.size_eq_one_iff.mp hz;obtain⟨j,U⟩:=Array.size_eq_one_iff.mp (au.trans hz);subst ad;have aq:i=0∨i=1:=by
     have:i≤1:=by simpa using hi
     omega
    rw[U]at q ⊢;rcases aq with rfl | rfl
    ·simpa[DO,DO.go]using q
    ·simpa[DO,DO.go]using q
end
section
variable{prog:AG}{w:A2}{A:AW}{S:Ag}{ep:Nat}{o:Obj}{es:Array (Int×Ac)}{t:Di}
theorem aAK(hh:A.handled=none)(q:o.cls=.type "set")(hd:o.data=.set es ep t)(hf:t.fits es.size=true)(hb:es.size < scanBound)(ae:vD w es t){E:Ac→Af→Prop}{s:Af}{Q:List Ac→Af→Prop}(hS:s.heap.get? S=some o)
  (h:∀(ag:List Ac) (h':Bp) (d:Drawn) (tk:Nat),ag.Perm (es.toList.map (·.2))→(∀ b u,s.heap.get? b=some u→h'.get? b=some u)→s.heap.objs.size < h'.objs.size→Q ag { s with heap:=h',drawn:=d,toks:=tk }):wpAny (model prog w) A (collect (.ref S)) Q E s:=by
 have ab:=Ay hS;unfold collect;apply Aa;apply Eh;apply BX Fo;rw[BM Fn];show wpAny _ A.in1 (newList [] >>= fun l=>again (.builtin "list.__iadd__" ⟨[l,.ref S],[]⟩)) _ _ s;apply Aa;refine BZ (Ae ⟨Dv DA _,BX Gg ?_⟩);rw[BM DA];have M:(s.heap.push { cls:=.type "list",data:=.seq ([]:List Ac).toArray }).get? S=some o:=Ah _ hS;have ao:(s.heap.push { cls:=.type "list",data:=.seq ([]:List Ac).toArray }).get? s.heap.objs.size=some { cls:=.type "list",data:=.seq ([]:List Ac).toArray }:=Ax _ rfl;have e1:Builtin.List.listSameRef (.ref s.heap.objs.size) (.ref S)=false:=by
  show(s.heap.objs.size == S)=false;simpa using C5 ab
 show wpAny _ A.in1 (Ce (.ref s.heap.objs.size) (.ref S) (.ref s.heap.objs.size)) _ _ _;unfold Ce;refine Aa (BR (T:="set") ⟨o,M,q⟩ ?_);rw[Ia (by rw[e1];decide)];refine Aa (aFo (A:=A.in1) hh q hd hf hb ae M fun I s2 it=>?_);have J:=it.keep S o M;have ac:=it.keep _ _ ao;refine Aa (Bc ?_);unfold Builtin.List.listLengthHint;refine Aa (DY (T:="set") ⟨o,J,q⟩ F.slot_set_len.lookup ?_);generalize hid:("set.__len__":String)=ap
 wp_delta
 rw[show splitId ap=some ("set","__len__") from by subst hid;decide];subst hid;refine Aa (BY (b:=true) (T:="set") ⟨o,J,q⟩ sub_set_self ?_);refine Aq (by rfl) ?_;refine BL (by decide) ?_;refine Aa (BR (T:="set") ⟨o,J,q⟩ ?_);refine Ae ?_;refine BL (by decide) ?_;refine Aa (CQ ?_);obtain⟨fp,P,St,W,st0,hI,hfp,hit⟩:=it.w;have af:(s.heap.push { cls:=.type "list",data:=.seq ([]:List Ac).toArray }).objs.size=s.heap.objs.size + 1:=B2 _ _;have U:s.heap.objs.size ∉ fp:=fun hm=>by
  rcases(hfp _ hm).2 with z | z
  ·exact absurd z (C5 ab)
  ·dsimp only at z;rw[af]at z;exact absurd z (Nat.not_succ_le_self _)
 apply Aa;show wpAny _ A.in1 (updateSeq s.heap.objs.size (·.push .none) >>= fun _=>updateSeq s.heap.objs.size (·.pop)) _ _ _
 apply Aa;refine Fq ac rfl ?_;have aa:=B5 (Be (·.push Ci)) ac rfl
 refine Fq aa rfl ?_;have ak:=B5 (Be (·.pop)) aa rfl
 have ad:∀ b u,b≠s.heap.objs.size→s2.heap.get? b=some u→((s2.heap.update s.heap.objs.size (Be (·.push Ci))).update s.heap.objs.size (Be (·.pop))).get? b=some u:=
  fun b u nb e=>(CP _ _ (Ep nb)).trans ((CP _ _ (Ep nb)).trans e)
 have am:(es.toList.map (·.2)).length≤sizeLine:=by
  rw[Ad,By];exact E6 hb
 refine Ae ⟨Dv F.plain_extend_loop _,codeAny_extend_loopS (FW W) am s.heap.objs.size U _ _ 0 _ _ _ rfl (A0 _) (W.frame 0 _ _ st0 fun b hb u e=>ad b u (fun z=>U (z ▸ hb)) e) ak (ItemsOf.nil P) fun s' B c' hm O Y=>?_⟩;show wpAny _ A (load s.heap.objs.size >>= _) _ _ s';apply Aa;refine GX O (Ae ?_);obtain⟨h',g',d',tk',os'⟩:=s';have g1:=hm.gens;have g2:=hm.os;dsimp only at g1 g2;have g3:=it.gens;have g4:=it.os;rw[g3]at g1;rw[g4]at g2;dsimp only at g1 g2;subst g1 g2;refine h B.toList h' d' tk' (hit B Y) (fun b u e=>?_) (Ay O);have Z:=Ay e;have nb:b≠s.heap.objs.size:=AF Z;have nI:b≠I:=fun z=>by
  have z2:=it.new;dsimp only at z2;rw[af,← z]at z2;exact absurd (D7 Z z2) (Cf _)
 refine hm.heap b u (by simp[nb,nI]) (ad b u nb (it.keep b u (Ah _ e)))
end
theorem jA{α:Type}[DecidableEq α]:∀(L M:List α),L.Nodup→(∀ x∈L,x∈M)→M.length=L.length→M.Perm L
 | [],M,_,_,B=>by
  have:M=[]:=CH B;rw[this]
 | x :: r,M,hn,hm,B=>by
  obtain⟨hx,hr⟩:=CL.mp hn;have q:=hm x (by simp);have J:=jA r (M.erase x) hr (fun y F=>(List.mem_erase_of_ne (show y≠x from fun z=>hx (by rw[← z];exact F))).mpr (hm y (by simp[F]))) (by rw[List.length_erase_of_mem q,B];simp);exact(List.perm_cons_erase q).trans (J.cons x)
section
variable{prog:AG}{w:A2}{A:AW}{S:Ag}{E:Ac→Af→Prop}{s:Af}
theorem aAL(hh:A.handled=none){f:Str→Bool}{n:Nat}(hS:kY prog w s.heap S f n){F:List Str}(aa:F.Nodup)(J:∀ k,f k=true↔k∈F)(hn:n=F.length)(ag:n < 64){Q:Ac→Af→Prop}
  (h:∀(l:Ag) (h':Bp) (d:Drawn) (tk e:Nat) (out:Array Ac) (W:List Str),s.heap.objs.size≤l→(∀ b u,s.heap.get? b=some u→h'.get? b=some u)→h'.get? l=some (seqObj "list" out e)→GV out.toList W→W.Perm F→sortedS W=true→Q (.ref l) { s with heap:=h',drawn:=d,toks:=tk }):
  wpAny (model prog w) A (call (.builtin "sorted") [.ref S]) Q E s:=by
 obtain⟨o,es,ep,t,ho,hex,hd,hel,hm,hb,hf,hsz,hTab⟩:=hS;refine EH GM Gk Gm (Hs _) ?_;unfold Builtin.«sorted»;apply Aa (m:=checkCount "sorted" 1 1 _);apply Ae;refine Aa (aAK (A:=A.in1) hh hex.1 hd hf hb hTab ho fun q h1 d tk Z B ad=>?_);have O:∀ v,v∈q→∃ x t,v=.str x t:=fun v hv=>by
  obtain⟨e,he,rfl⟩:=Bs.mp (Z.mem_iff.mp hv);obtain⟨⟨k,B,_⟩,_⟩:=hel e he;obtain⟨t,ht⟩:=Fj B;exact⟨k,t,ht⟩
 have hA:=strsAre_map q O;have ae:q.length=n:=by rw[Z.length_eq,Ad,By];exact hsz
 have hM:(q.map strOf).Perm F:=by
  refine((Z.map strOf)).trans (jA F _ aa (fun x hx=>?_) (by rw[Ad,Ad,By,hsz,hn]));obtain⟨e,he,B⟩:=(hm x).mp ((J x).mpr hx);obtain⟨t,ht⟩:=Fj B;exact Bs.mpr ⟨e.2,Bs.mpr ⟨e,he,rfl⟩,by rw[ht];rfl⟩
 have ab:q.length≤sizeLine:=by rw[FJ];omega
 apply Aa;refine Du ?_ ab;have z:(h1.push (seqObj "list" q.toArray 0)).get? h1.objs.size=some (seqObj "list" q.toArray 0):=Ax _ rfl;refine Aa (Bc (B7 slot_list_sort ⟨_,z,rfl⟩ entry_list_sort (list_sort_treeK strKind_oneLt z hA.keysOf (fun v₁ v₂ cS e=>keyKind_strs (by rw[← e];exact hA)) (by omega) fun Y a1 a2=>⟨_,rfl,?_⟩) (FO _)));obtain⟨W,b1,b2,b3⟩:=sorted_out_str hA a1 a2;refine Ae ⟨_,rfl,?_⟩;obtain⟨e,he⟩:=He (vs:=q) (out:=(arrOf Y).map (·.2)) z
 have M:s.heap.objs.size≤h1.objs.size:=Dj ad;refine h _ _ d tk e _ W M (fun b u eb=>?_) he b1 (b2.trans hM) b3;have U:=Ay (B b u eb);rw[GZ (AF U) (by rw[B2];exact Bl U)];exact Ah _ (B b u eb)
end
section
variable{X:Cx}{di:Ih}{σ:St}{H H':Hp}{s:Af}{h':Bp}
theorem Inv.laidD{a:Ag}{o:HO}{t':Nat}{d':Drawn}(I:Inv X di σ H s)(k:∀ b u,s.heap.get? b=some u→h'.get? b=some u)(q:s.heap.objs.size≤a)(new:dC X.prog X.w (upd H a o) h' a o):
  Inv X di σ (upd H a o) { s with heap:=h',drawn:=d',toks:=t' }:=by
 have u:Un (frs X.stack) [] H (upd H a o) s.heap h':=Un.laid k q (I.hok.fresh q);exact I.call (g':=s.gens) (d':=d') u (I.hok.laid k q new) I.bare (fun _ z=>nomatch z)
theorem vG(val:Nat→Str):∀ i,(fA val i).Nodup
 | 0=>Gx
 | i + 1=>by
  show(jQ (fA val i) (val i)).Nodup;have q:=vG val i;unfold jQ;split
  ·exact q
  ·next hne=>
   rw[C3];exact⟨q,by simp,fun x B y z e=>hne (by rw[← (show y=val i from by simpa using z),← e];exact B)⟩
def tX(ss:List Str):List Str:=fA (fun i=>ss.getD i "") ss.length
theorem aAM(q:List Str)(k:Str):k∈tX q↔k∈q:=by
 unfold tX;rw[u7];constructor
 ·rintro⟨j,hj,e⟩;rw[← e,Ak,Ab hj];exact Bn hj
 ·intro z;obtain⟨j,hj,e⟩:=Dz.mp z;exact⟨j,hj,by rw[Ak,Ab hj];exact e⟩
theorem pK(q:List Str):(tX q).Nodup:=vG _ _
def aFp(P:AG)(w:A2)(a:Ag)(ss:List Str):HO:=.ext fun h=>kY P w h a (fun k=>(tX ss).any fun x=>x == k) (tX ss).length
theorem aAO{z:List Str}{its:List Ac}(F:c0 (z.map V.str) its){i:Nat}{v:Ac}(J:its.toArray[i]?=some v):∃ t,v=BE (z.getD i "") t:=by
 have q:=F.length;rw[Ad]at q;have B:its[i]?=some v:=by simpa using J
 have hi:i < z.length:=by
  rw[q];exact(AM.mp B).1
 have e:(z.map V.str)[i]?=some (V.str (z.getD i "")):=by
  rw[AS,Ab hi];simp[hi]
 obtain⟨u,hu,ru⟩:=F.get e;rw[B]at hu;cases hu;exact ru
theorem aD5(hc:X.calm=true):fX X (.type "set") (fun xs H Q=>∃(p:Ag) (F:List Str),xs=[.ref p]∧(H p=some (.lst (F.map V.str))∨H p=some (.tup (F.map V.str)))∧F.length≤1000∧∀ a,H a=none→Q (.ref a) (upd H a (aFp X.prog X.w a F))):=by
 intro di s σ H xs us Q I r h;obtain⟨p,F,rfl,J,h1000,q⟩:=h;obtain⟨u,rfl,ru⟩:=fY r;cases ru;have fin:∀(B:List Ac),B.length=F.length→∀(h':Bp) (tk:Nat),kY X.prog X.w h' s.heap.objs.size (fun Y=>(fA (fun i=>F.getD i "") B.toArray.size).any fun x=>x == Y) (fA (fun i=>F.getD i "") B.toArray.size).length→
   (∀(b:Nat) (o:Obj),b < s.heap.objs.size→s.heap.get? b=some o→h'.get? b=some o)→EP X di σ Q (AJ s.heap.objs.size) { s with heap:=h',toks:=tk }:=by
  intro B hl h' tk W Z;have U:B.toArray.size=F.length:=by rw[Av,hl]
  rw[U]at W;have M:∀ b u,s.heap.get? b=some u→h'.get? b=some u:=fun b u e=>Z b u (Ay e) e;have hn:H s.heap.objs.size=none:=I.hok.fresh (Ao _);refine⟨.ref s.heap.objs.size,_,I.laid (t':=tk) (o:=aFp X.prog X.w s.heap.objs.size F) M (Ao _) ⟨W,?_,fun h1 h2 f g=>?_⟩,rfl,q _ hn⟩
  ·obtain⟨o,_,_,_,e,_⟩:=W;exact⟨o,e⟩
  ·exact f.at g
 rcases J with J | J
 ·obtain⟨B,rv,pl,_⟩:=I.list (bF J);have z:=rv.length;rw[Ad]at z;exact aAG (val:=fun i=>F.getD i "") (I.ok.hd hc) pl.isList (fun i v O=>aAO rv O) (by rw[Av,← z];show _ < 4096;omega) (fin B z.symm)
 ·obtain⟨B,rv,pl,_⟩:=I.tuple (bI J);have z:=rv.length;rw[Ad]at z;exact aAH (val:=fun i=>F.getD i "") (I.ok.hd hc) pl (fun i v O=>aAO rv O) (by rw[Av,← z];show _ < 4096;omega) (fin B z.symm)
theorem zQ(hc:X.calm=true):fX X (.builtin "sorted") (fun xs H Q=>∃(p:Ag) (z:List Str),xs=[.ref p]∧H p=some (aFp X.prog X.w p z)∧z.length < 64∧∀(l:Ag) (B:List Str),H l=none→B.Perm (tX z)→sortedS B=true→Q (.ref l) (upd H l (.lst (B.map V.str)))):=by
 intro di s σ H xs us Q I r h;obtain⟨p,z,rfl,hx,h64,q⟩:=h;obtain⟨u,rfl,ru⟩:=fY r;cases ru;obtain⟨hS,_,_⟩:dC X.prog X.w H s.heap p (aFp X.prog X.w p z):=I.hok p _ hx;have W:(tX z).length≤z.length:=oF (fun i=>z.getD i "") z.length;refine aAL (I.ok.hd hc) hS (pK z) (fun k=>by rw[p5];simp) rfl (by omega) fun l h' d tk e out B J Y M ha F U=>?_;have Z:c0 (B.map V.str) out.toList:=i8 ha;have O:=F.length_eq;exact⟨.ref l,_,I.laidD (t':=tk) (d':=d) (o:=.lst (B.map V.str)) Y J ⟨aS (by rw[Ad];omega),out.toList,e,Z,by rw[M] <;> rfl⟩,rfl,q l B (I.hok.fresh J) F U⟩
theorem qC:∀(p:Str) (l:List Str),risingS p l=true→(∀ x∈l,¬ x.cps.toList < p.cps.toList)∧l.Pairwise fun a b=>¬ b.cps.toList < a.cps.toList
 | p,[],_=>⟨fun x q=>by simp at q,CS⟩
 | p,x :: r,h=>by
  have h':(!ltCps x.cps.toList p.cps.toList && risingS x r)=true:=h;rw[AH,ltCps_eq]at h';have q:¬ x.cps.toList < p.cps.toList:=by simpa using h'.1
  obtain⟨i1,i2⟩:=qC x r h'.2;refine⟨fun y B=>?_,Ck.mpr ⟨i1,i2⟩⟩;rcases An.mp B with rfl | B
  ·exact q
  ·intro z;have h1:=i1 y B;exact q (List.lt_of_le_of_lt (Dy.mp h1) z)
theorem hJ:∀(l:List Str),sortedS l=true→l.Pairwise fun a b=>¬ b.cps.toList < a.cps.toList
 | [],_=>CS
 | x :: r,h=>Ck.mpr (qC x r h)
theorem oH{a b:Str}(h:a.cps.toList=b.cps.toList):a=b:=by
 cases a;cases b;congr;exact Ec.mp h
theorem j7:∀{l m:List Str},l.Perm m→(l.Pairwise fun a b=>¬ b.cps.toList < a.cps.toList)→(m.Pairwise fun a b=>¬ b.cps.toList < a.cps.toList)→l=m
 | [],m,h,_,_=>(EG h.symm).symm
 | x :: r,[],h,_,_=>by simpa using h.length_eq
 | x :: r,y :: q,h,h1,h2=>by
  obtain⟨a1,a2⟩:=Ck.mp h1;obtain⟨b1,b2⟩:=Ck.mp h2;have e:x=y:=by
   rcases An.mp (h.mem_iff.mp (AI (a:=x) (l:=r)))with e | hx
   ·exact e
   ·rcases An.mp (h.mem_iff.mpr (AI (a:=y) (l:=q)))with e | hy
    ·exact e.symm
    ·exact oH (EZ (Dy.mp (a1 y hy)) (Dy.mp (b1 x hx)))
  subst e;rw[j7 ((Fe x).mp h) a2 b2]
end
def dN{α:Type}(o:Nat→Nat→Bool):Hy α→α
 | .ret a=>a
 | .ask i j k=>dN o (k (o i j))
def vH:Nat→List Nat→List (List Nat)
 | 0,_=>[[]]
 | f + 1,l=>l.flatMap fun x=>(vH f (l.erase x)).map (x :: ·)
theorem vI:∀(q l:List Nat),q.Perm l→q∈vH q.length l
 | [],l,_=>by simp[vH]
 | x :: r,l,h=>by
  have z:x∈l:=h.mem_iff.mp (by simp);have B:r.Perm (l.erase x):=by
   have:=h.trans (List.perm_cons_erase z);exact(Fe x).mp this
  show x :: r∈l.flatMap _;exact List.mem_flatMap.mpr ⟨x,z,Bs.mpr ⟨r,vI r _ B,rfl⟩⟩
def lO(n:Nat):Bool:=(vH n (AU n)).all fun π=>(dN (fun i j=>decide (π.getD i 0 < π.getD j 0)) (B6 n)).toList.map (fun i=>π.getD i 0) == AU n
theorem aIG:lO 2=true:=by decide
theorem aIH:lO 3=true:=by decide
theorem aII:lO 4=true:=by decide
theorem aIJ:lO 5=true:=by decide
theorem aIK:lO 6=true:=by decide
theorem mZ{α:Type}{n:Nat}{P:α→Prop}{o o':Nat→Nat→Bool}(h:∀ i j,i < n→j < n→o i j=o' i j):∀{t:Hy α},iC n P t→dN o t=dN o' t
 | .ret a,_=>rfl
 | .ask i j k,z=>by
  show dN o (k (o i j))=dN o' (k (o' i j));rw[h i j z.1 z.2.1];exact mZ h (z.2.2 _)
theorem iC.run{α:Type}{n:Nat}{P:α→Prop}(o:Nat→Nat→Bool):∀{t:Hy α},iC n P t→P (dN o t)
 | .ret a,h=>h
 | .ask i j k,h=>by
  show P (dN o (k (o i j)));exact iC.run o (h.2.2 (o i j))
theorem iC.wpO{α:Type}{n:Nat}{P:α→Prop}{z:Nat→Nat→(Bool→Af→Prop)→Af→Prop}{Q:α→Af→Prop}{s:Af}{o:Nat→Nat→Bool}(hc:∀ i j C,i < n→j < n→C (o i j) s→z i j C s):∀{t:Hy α},iC n P t→Q (dN o t) s→t.kasWp z Q s
 | .ret a,_,q=>by rw[KasT.kasWp.eq_1];exact q
 | .ask i j k,h,q=>by
  rw[KasT.kasWp.eq_2];exact hc i j _ h.1 h.2.1 (iC.wpO hc (h.2.2 _) q)
abbrev P3:=Str×Str×Int
def zR(x y:P3):Bool:=if x.1 == y.1 then(if x.2.1 == y.2.1 then(if x.2.2 == y.2.2 then false else decide (x.2.2 < y.2.2)) else decide (x.2.1.cps.toList < y.2.1.cps.toList)) else decide (x.1.cps.toList < y.1.cps.toList)
inductive aCX(h:Bp)(v:Ac)(x:P3):Prop
 | mk (t:_) (u1:_) (u2:_) (u3:_) (q0:v=.ref t) (q1:Fc h t #[.str x.1 u1,.str x.2.1 u2,.int x.2.2 u3]):aCX h v x
def pA(h:Bp)(v:Ac)(x:P3):Prop:=aCX h v x
section
variable{prog:AG}{w:A2}{A:AW}{E:Ac→Af→Prop}{s:Af}
theorem zS{a b:Int}{t u:Tok}{Q:Bool→Af→Prop}(h:Q (decide (a < b)) s):wpAny (model prog w) A (oneLt' false (Cm a t) (Cm b u)) Q E s:=by
 rw[oneLt'_eq];show wpAny _ _ (compareOp .Lt (Cm a t) (Cm b u) >>= _) _ _ _;apply Aa;refine lt_int ?_
 wp_walk
 exact h
theorem zT{a b:Str}{t u:Tok}{Q:Bool→Af→Prop}(h:Q (decide (a.cps.toList < b.cps.toList)) s):wpAny (model prog w) A (oneLt' false (BE a t) (BE b u)) Q E s:=by
 rw[oneLt'_eq];show wpAny _ _ (compareOp .Lt (BE a t) (BE b u) >>= _) _ _ _;apply Aa;refine lt_str ?_
 wp_walk
 exact h
theorem ltP{z:Bool}{Y U:Ac}{x y:P3}{C:Bool→Af→Prop}(M:pA s.heap Y x)(J:pA s.heap U y)(h:C (zR x y) s):wpAny (model prog w) A (keyLt' (tuples' z) Y U) C E s:=by
 obtain⟨a1,b1,c1⟩:=x;obtain⟨a2,b2,c2⟩:=y;obtain⟨p1,t1,t2,t3,rfl,M⟩:=M;obtain⟨p2,u1,u2,u3,rfl,J⟩:=J;dsimp only at M J;unfold zR at h;dsimp only at h;show wpAny _ _ (C7 (.ref p1) >>= _) _ _ _;refine Aa (iF M ?_);refine Aa (iF J ?_);dsimp only[DP,F4,EL];rw[List.zipIdx_nil];have Z:∀{Q:Bool→Af→Prop} {a b:Int} {t u:Tok},Q (a == b) s→wpAny (model prog w) A (eqBool (.int a t) (.int b u)) Q E s:=fun{Q a b t u} q=>rH (y:=.int a) (x:=.int b) ⟨t,rfl⟩ ⟨u,rfl⟩ rfl rfl prog w _ _ q;have W:∀{Q:Bool→Af→Prop} {a b:Str} {t u:Tok},Q (a == b) s→wpAny (model prog w) A (eqBool (.str a t) (.str b u)) Q E s:=fun{Q a b t u} q=>E9 a t b u prog w _ _ q;refine Aa ?_;rw[C1];refine Aa (Aa (W ?_));cases hz:(a1 == a2)with
 | false=>
  rw[hz]at h;refine BL (by decide) ?_;refine Aa ?_;show wpAny _ _ (oneLt' (z && 0 == 0) (BE a1 t1) (BE a2 u1)) _ _ _;cases z
  ·exact zT (Ae (Ae (Ae h)))
  ·exact oneLt_str (Ae (Ae (Ae h)))
 | true=>
  rw[hz,Ib rfl]at h;refine Aq (by decide) (Ae ?_);dsimp only;rw[C1];refine Aa (Aa (W ?_));cases B:(b1 == b2)with
  | false=>
   rw[B]at h;refine BL (by decide) ?_;refine Aa ?_;have O:(z && ((0 + 1:Nat) == 0))=false:=by cases z <;> rfl
   show wpAny _ _ (oneLt' (z && (0 + 1 == 0)) (BE b1 t2) (BE b2 u2)) _ _ _;rw[O];exact zT (Ae (Ae (Ae h)))
  | true=>
   rw[B,Ib rfl]at h;refine Aq (by decide) (Ae ?_);dsimp only;rw[C1];refine Aa (Aa (Z ?_));cases F:(c1 == c2)with
   | false=>
    rw[F]at h;refine BL (by decide) ?_;refine Aa ?_;have O:(z && ((0 + 1 + 1:Nat) == 0))=false:=by cases z <;> rfl
    show wpAny _ _ (oneLt' (z && (0 + 1 + 1 == 0)) (Cm c1 t3) (Cm c2 u3)) _ _ _;rw[O];exact zS (Ae (Ae (Ae h)))
   | true=>
    rw[F,Ib rfl]at h;refine Aq (by decide) (Ae ?_);dsimp only;rw[Gy];exact Ae (Ae h)
end
def iG(ps:List P3):List Nat:=(dN (fun i j=>zR (ps.getD i ("","",0)) (ps.getD j ("","",0))) (B6 ps.length)).toList
theorem lS(ps:List P3)(h:0 < ps.length):(iG ps).Perm (AU ps.length):=by
 have:=iC.run (fun i j=>zR (ps.getD i ("","",0)) (ps.getD j ("","",0))) (f9 h);exact Bd.mp this
section
variable{prog:AG}{w:A2}{A:AW}{E:Ac→Af→Prop}{s:Af}
theorem aJN{ks:List Ac}{Q:Dt→Af→Prop}(Y:∀ v∈ks,∃ x,pA s.heap v x)(h:∀ b,Q (tuples' b) s):wpAny (model prog w) A (keyKind' ks.toArray) Q E s:=by
 rw[keyKind'_eq,Cw];refine Aa ?_;rw[← bind_pure_comp];refine Aa (jR (R:=fun _ r=>∃ a u,r=some (BE a u)) ks (fun v F=>?_) fun rs hl z=>Ae ?_)
 ·obtain⟨x,t,u1,u2,u3,rfl,ht⟩:=Y v F;refine⟨some (.str x.1 u1),⟨x.1,u1,rfl⟩,fun U q=>?_⟩;rw[Hq];refine Aa (BR ht.typeIs ?_);refine Aq (by decide) ?_;refine Aa (iF ht ?_);exact Ae q
 ·have B:(rs.toArray.all fun x=>x.isSome)=true:=by
   rw[F8,A8];intro r O;obtain⟨v,_,a,u,rfl⟩:=z r O;rfl
  refine BL (by rw[B];rfl) ?_;refine Aa (CQ ?_);rw[oneTypeOnly'_eq,Cw]
  iterate 2 refine Aa ?_
  rw[← bind_pure_comp];refine Aa (jR (R:=fun _ r=>r=AC "str") _ (fun v F=>?_) fun ts W Z=>Ae ?_)
  ·have J:some v∈rs:=by simpa using F
   obtain⟨_,_,a,u,e⟩:=z _ J;cases e;exact⟨_,rfl,fun U q=>BR (F9 s a u) q⟩
  ·cases M:ts.toArray[0]? with
   | none=>exact Ae (Ae (h _))
   | some t=>exact Ae (Ae (h _))
theorem aJO{b:Bool}{vs:List Ac}{ps:List P3}{Q:Unit×Bq→Af→Prop}(hl:vs.length=ps.length)(h2:2≤vs.length)(J:vs.length < 64)(M:∀ i,i < vs.length→pA s.heap (vs.getD i .none) (ps.getD i ("","",0)))
  (h:∀ st:Bq,(arrOf st).map (·.2)=((iG ps).map fun i=>vs.getD i .none).toArray→failedOf st=none→Q ((),st) s):wpAny (model prog w) A (sortRuns'.run (Dr (tuples' b) (vs.toArray.zip vs.toArray) #[] 7 none)) Q E s:=by
 have hz:(vs.toArray.zip vs.toArray).size=vs.length:=by simp
 have B:=kas_runs (prog:=prog) (w:=w) (A:=A) (E:=E) (κ:=tuples' b) (it:=vs.toArray.zip vs.toArray) (n:=vs.length) (s:=s) (Q:=fun u st s'=>s'=s∧Q (u,st) s) (G:=fun p s'=>p.toList=iG ps∧s'=s) h2 J (fun p' F s' O ha Y Z=>?_)
  (iC.wpO (n:=vs.length) (P:=Pm vs.length) (o:=fun i j=>zR (ps.getD i ("","",0)) (ps.getD j ("","",0))) (fun i j C hi W U=>?_) (f9 (by omega)) ⟨by unfold iG;rw[hl],rfl⟩)
 ·have e1:Hn (tuples' b) (vs.toArray.zip vs.toArray) (AU vs.length).toArray=Dr (tuples' b) (vs.toArray.zip vs.toArray) #[] 7 none:=by
   unfold Hn;have:=kas_range (vs.toArray.zip vs.toArray);rw[hz]at this;rw[this]
  rw[e1]at B;exact Ca B (fun r s' z=>by
   obtain⟨rfl,q⟩:=z;exact q) fun e s' z=>z
 ·obtain⟨hp,rfl⟩:=Z;refine⟨rfl,h F ?_ Y⟩;rw[ha];apply Ec.mp;rw[GJ,Eb,hp];show _=(iG ps).map _;refine C9 fun i _=>?_;show(EV (pairsOf vs) i).2=_;rw[E5]
 ·unfold kas_cmp;show wpAny _ _ (keyLt' _ (EV (pairsOf vs) i).1 (EV (pairsOf vs) j).1) _ _ _;rw[E5,E5];exact ltP (M i hi) (M j W) U
theorem pA.keep{h h':Bp}{v:Ac}{x:P3}(p:pA h v x)(k:∀ b o,h.get? b=some o→o.cls=.type "tuple"→h'.get? b=some o):pA h' v x:=by
 obtain⟨t,u1,u2,u3,e,o,ho,hc,r⟩:=p;exact⟨t,u1,u2,u3,e,o,k t o ho hc,hc,r⟩
theorem aB4{a:Ag}{vs:List Ac}{ps:List P3}{n:Nat}{P:FZ→Af→Prop}(W:s.heap.get? a=some (seqObj "list" vs.toArray n))(hl:vs.length=ps.length)(h2:2≤vs.length)(Z:vs.length < 64)(hk:∀ i,i < vs.length→pA s.heap (vs.getD i .none) (ps.getD i ("","",0)))
  (h:∀(h':Bp) (e:Nat),(∀ b u,b≠a→s.heap.get? b=some u→h'.get? b=some u)→h'.get? a=some (seqObj "list" ((iG ps).map fun i=>vs.getD i .none).toArray e)→P (.done (.ret .none)) { s with heap:=h' }):
  wpAny (model prog w) A (Builtin.«list.sort» ⟨[.ref a],[]⟩) P E s:=by
 have Y:∀ m,m≤vs.length→m≤sizeLine:=fun m hm=>aS (by omega);rw[GQ];refine Aa (Ei W rfl ?_);refine Aa (Cv W rfl ?_ (by rw[Av];exact Y _ (Ao _)) (A0 _));have B:=get?_update_seq W (fun _=>#[]);generalize (if ((#[]:Array Ac).size == vs.toArray.size)=true then n else n + 1)=e1 at B;have J:∀ b u,b≠a→s.heap.get? b=some u→(s.heap.update a (Be fun _=>#[])).get? b=some u:=fun b u nb e=>by
  rw[Bt _ _ _ _ nb];exact e
 dsimp only;generalize s.heap.update a (Be fun _=>#[])=h1 at B J ⊢;refine Aa (DI B rfl ?_);refine Aa (EU ?_ (by simpa using Y _ (Ao _)));refine Aa (Du ?_ (A0 _));refine Bc ?_;have F:((h1.push { cls:=AC "tuple",data:=Cq vs.toArray.toList.toArray }).push { cls:=AC "list",data:=Cq ([]:List Ac).toArray }).get? a=some (seqObj "list" #[] e1):=Ah _ (Ah _ B);have q:∀ b u,b≠a→s.heap.get? b=some u→((h1.push { cls:=AC "tuple",data:=Cq vs.toArray.toList.toArray }).push { cls:=AC "list",data:=Cq ([]:List Ac).toArray }).get? b=some u:=fun b u nb e=>Ah _ (Ah _ (J b u nb e));dsimp only;generalize (h1.push { cls:=AC "tuple",data:=Cq vs.toArray.toList.toArray }).push { cls:=AC "list",data:=Cq ([]:List Ac).toArray }=h3 at F q ⊢;have U:∀ i,i < vs.length→pA h3 (vs.getD i .none) (ps.getD i ("","",0)):=fun i hi=>(hk i hi).keep fun b o e hc=>q b o (fun z=>by
  rw[z,W]at e;cases e;have ac:(AC "list")=AC "tuple":=hc;injection ac with z2;exact absurd z2 (by decide)) e
 have M:¬ vs.toArray.size < 2:=by simpa using Nat.not_lt.mpr h2
 rw[Ia M,Ia M];refine Aa (aJN (fun v hv=>?_) fun b=>?_)
 ·obtain⟨i,hi,rfl⟩:=Dz.mp hv;have:=U i hi;rw[Ak,Ab hi]at this;exact⟨_,this⟩
 ·refine Aa (aJO hl h2 Z U fun st O hf=>?_);dsimp only;refine Aa (DI F rfl ?_);have ab:((iG ps).map fun i=>vs.getD i .none).length=vs.length:=by rw[Ad,(lS ps (by omega)).length_eq,BW,hl]
  refine Aa (Cv F rfl ?_ (A0 _) (by show((arrOf st).map (·.2)).size≤_;rw[O,Av,ab];exact F2 (Y _ (Ao _))))
  rw[hf];refine Aq (by simp) ?_;obtain⟨e3,gA3⟩:∃ e3,(h3.update a (Be fun _=>(arrOf st).map (·.2))).get? a=some (seqObj "list" ((arrOf st).map (·.2)) e3):=⟨_,get?_update_seq F (fun _=>(arrOf st).map (·.2))⟩
  refine Ae (h _ e3 (fun b u nb e=>?_) (by rw[← O];exact gA3));rw[Bt _ _ _ _ nb];exact q b u nb e
end
section
variable{prog:AG}{w:A2}{A:AW}{E:Ac→Af→Prop}{s:Af}
theorem aAQ{p:Ag}{its:List Ac}{Q:List Ac→Af→Prop}(F:Fc s.heap p its.toArray)(J:its.length≤sizeLine)
  (h:∀ h1:Bp,(∀ b u,s.heap.get? b=some u→h1.get? b=some u)→s.heap.objs.size≤h1.objs.size→Q its { s with heap:=h1 }):wpAny (model prog w) A (collect (.ref p)) Q E s:=by
 obtain⟨o,ho,hc,n,hd⟩:=F;unfold collect;apply Aa;apply Eh;apply BX Fo;rw[BM Fn];show wpAny _ A.in1 (newList [] >>= fun l=>again (.builtin "list.__iadd__" ⟨[l,.ref p],[]⟩)) _ _ s;apply Aa;refine BZ (Ae ⟨Dv DA _,BX Gg ?_⟩);rw[BM DA];have z:(s.heap.push (seqObj "list" #[] 0)).get? p=some o:=Ah _ ho;have q:(s.heap.push (seqObj "list" #[] 0)).get? s.heap.objs.size=some (seqObj "list" #[] 0):=Ax _ rfl;show wpAny _ A.in1 (Ce (.ref s.heap.objs.size) (.ref p) (.ref s.heap.objs.size)) _ _ { s with heap:=s.heap.push (seqObj "list" #[] 0) };unfold Ce;refine Aa (BR (T:="tuple") ⟨o,z,hc⟩ ?_);rw[Ib (by simp)];apply Aa;refine Ei z hd ?_;apply Aa;refine Ei q rfl ?_;rw[Ia (by simp)];refine Aa (Cv q rfl ?_ (A0 _) (by show(#[] ++ its.toArray).size≤sizeLine + 1;simp only[Array.size_append,Av,DL];omega));apply Ae;have B:=get?_update_seq q (· ++ its.toArray)
 show wpAny (model prog w) A (load s.heap.objs.size >>= _) Q E _;refine Aa (GX B ?_);show wpAny _ _ (pure ((#[]:Array Ac) ++ its.toArray).toList) Q E _;rw[show((#[]:Array Ac) ++ its.toArray).toList=its by simp];refine Ae (h _ (fun b u e=>?_) (Dj (Ay B)));rw[Bt _ _ _ _ (AF (Ay e))];exact Ah _ e
theorem vJ{p:Ag}{its:List Ac}{Q:Ac→Af→Prop}(O:Fc s.heap p its.toArray)(M:its.length < 64)
  (h:∀(h1:Bp),(∀ b u,s.heap.get? b=some u→h1.get? b=some u)→s.heap.objs.size≤h1.objs.size→wpAny (model prog w) A.in1.in1 (Builtin.«list.sort» ⟨[.ref h1.objs.size],[]⟩) (fun fin s'=>fin=.done (.ret .none)∧Q (.ref h1.objs.size) s') E { s with heap:=h1.push (seqObj "list" its.toArray 0) }):
  wpAny (model prog w) A (call (.builtin "sorted") [.ref p]) Q E s:=by
 have B:its.length≤sizeLine:=aS (by omega);refine EH GM Gk Gm (Hs _) ?_;unfold Builtin.«sorted»;apply Aa (m:=checkCount "sorted" 1 1 _);apply Ae;refine Aa (aAQ O B fun h1 F J=>?_);apply Aa;refine Du ?_ B;have q:(h1.push (seqObj "list" its.toArray 0)).get? h1.objs.size=some (seqObj "list" its.toArray 0):=Ax _ rfl;refine Aa (Bc (B7 slot_list_sort ⟨_,q,rfl⟩ entry_list_sort (Ca (h h1 F J) (fun fin s' z=>⟨.none,z.1,?_⟩) fun _ _ e=>e) (FO _)));exact Ae ⟨_,rfl,z.2⟩
end
section
variable{X:Cx}
inductive j8(xs:List V)(H:Hp)(Q:VK):Prop
 | mk (p:Ag) (ns:List Str) (q0:xs=[.ref p]) (q1:H p=some (.tup (ns.map V.str))) (q2:ns.length < 64) (q3:∀(l:Ag) (ms:List Str),H l=none→ms.Perm ns→sortedS ms=true→Q (.ref l) (upd H l (.lst (ms.map V.str)))):j8 xs H Q
def tY:List V→Hp→VK→Prop:=fun xs H Q=>j8 xs H Q
theorem wU:fX X (.builtin "sorted") tY:=by
 intro di s σ H xs us Q I r h;obtain⟨p,ns,rfl,hx,h64,q⟩:=h;obtain⟨u,rfl,ru⟩:=fY r;cases ru;obtain⟨its,rv,ht,_⟩:=I.tuple (bI hx);have hi:GV its ns:=mY rv;have F:=rv.length;rw[Ad]at F;refine vJ ht (by omega) fun h1 O M=>?_;have J:(h1.push (seqObj "list" its.toArray 0)).get? h1.objs.size=some (seqObj "list" its.toArray 0):=Ax _ rfl;refine list_sort_treeK strKind_oneLt J hi.keysOf (fun Z Y cS e=>keyKind_strs (by rw[← e];exact hi)) (by omega) fun z a1 a2=>⟨rfl,?_⟩
 obtain⟨ms,b1,b2,b3⟩:=sorted_out_str hi a1 a2;obtain⟨e,he⟩:=He (vs:=its) (out:=(arrOf z).map (·.2)) J
 have W:=b2.length_eq;refine⟨.ref h1.objs.size,_,I.laid (t':=s.toks) (o:=.lst (ms.map V.str)) (fun b u U=>?_) M ⟨aS (by rw[Ad];omega),((arrOf z).map (·.2)).toList,e,i8 b1,by rw[he] <;> rfl⟩,rfl,q _ ms (I.hok.fresh M) b2 b3⟩
 have B:=Ay (O b u U);rw[GZ (AF B) (by rw[B2];exact Bl B)];exact Ah _ (O b u U)
inductive aCY(H:Hp)(v:V)(x:P3):Prop
 | mk (t:_) (q0:v=.ref t) (q1:H t=some (.tup [.str x.1,.str x.2.1,.int x.2.2])):aCY H v x
def xS(H:Hp)(v:V)(x:P3):Prop:=aCY H v x
theorem xS.real{di:Ih}{σ:St}{H:Hp}{s:Af}{v:V}{u:Ac}{x:P3}(I:Inv X di σ H s)(h:xS H v x)(r:c7 v u):pA s.heap u x:=by
 obtain⟨t,rfl,ht⟩:=h;cases r;obtain⟨_,its,q,hT⟩:dC X.prog X.w H s.heap t (.tup [.str x.1,.str x.2.1,.int x.2.2]):=I.hok _ _ ht;cases q with
 | cons F q=>
  cases q with
  | cons z q=>
   cases q with
   | cons B q=>
    cases q;obtain⟨u1,e1⟩:=F;obtain⟨u2,e2⟩:=z;obtain⟨u3,e3⟩:=B;subst e1 e2 e3;exact⟨t,u1,u2,u3,rfl,hT⟩
theorem oI{vs:List V}{its:List Ac}(r:c0 vs its):∀(q:List Nat),(∀ i∈q,i < vs.length)→c0 (q.map fun i=>vs.getD i .non) (q.map fun i=>its.getD i .none)
 | [],_=>.nil
 | i :: q,h=>by
  have hi:=h i (by simp);obtain⟨u,hu,ru⟩:=r.get (Ab hi);refine .cons ?_ (oI r q fun j z=>h j (by simp[z]));show c7 (vs.getD i .non) (its.getD i .none);rw[Ak,Ak,Ab hi,hu];exact ru
inductive lV(xs:List V)(H:Hp)(Q:VK):Prop
 | mk (p:Ag) (vs:List V) (ps:List P3) (q0:xs=[.ref p]) (q1:H p=some (.tup vs)) (q2:vs.length=ps.length) (q3:2≤vs.length) (q4:vs.length < 64) (q5:(∀ i,i < vs.length→xS H (vs.getD i .non) (ps.getD i ("","",0)))) (q6:∀(l:Ag),H l=none→Q (.ref l) (upd H l (.lst ((iG ps).map fun i=>vs.getD i .non)))):lV xs H Q
def vK:List V→Hp→VK→Prop:=fun xs H Q=>lV xs H Q
theorem zU:fX X (.builtin "sorted") vK:=by
 intro di s σ H xs us Q I r h;obtain⟨p,vs,ps,rfl,hx,hl,h2,h64,hk,q⟩:=h;obtain⟨u,rfl,ru⟩:=fY r;cases ru;obtain⟨its,rv,ht,_⟩:=I.tuple (bI hx);have Y:=rv.length;refine vJ ht (by omega) fun h1 F W=>?_;have O:(h1.push (seqObj "list" its.toArray 0)).get? h1.objs.size=some (seqObj "list" its.toArray 0):=Ax _ rfl;have B:∀ b u,s.heap.get? b=some u→(h1.push (seqObj "list" its.toArray 0)).get? b=some u:=fun b u e=>Ah _ (F b u e);have J:=lS ps (by omega);have aa:(iG ps).length=ps.length:=by rw[J.length_eq,BW]
 refine aB4 (ps:=ps) O (by omega) (by omega) (by omega) (fun i hi=>?_) fun h' e U Z=>⟨rfl,?_⟩
 ·have z:i < vs.length:=by omega
  obtain⟨u,hu,ru⟩:=rv.get (Ab z);have:=hk i z;rw[Ak,Ab z]at this;rw[Ak,hu];exact(xS.real I this ru).keep fun b o M _=>B b o M
 ·refine⟨.ref h1.objs.size,_,I.laid (t':=s.toks) (o:=.lst ((iG ps).map fun i=>vs.getD i .non)) (fun b u M=>U b u (AF (Ay (F b u M))) (B b u M)) W ⟨aS (by rw[Ad];omega),(iG ps).map fun i=>its.getD i .none,e,oI rv _ (fun i hi=>?_),Z⟩,rfl,q _ (I.hok.fresh W)⟩;have:=J.mem_iff.mp hi;rw[BK]at this;omega
end
def xT(R:List P3):Prop:=R.Pairwise fun a b=>a.1.cps.toList < b.1.cps.toList
theorem aB5{R:List P3}(h:xT R):R.Nodup:=h.imp fun{a b} z e=>by
 subst e;exact CU _ z
theorem aGW{R:List P3}(h:xT R){a b:P3}(ha:a∈R)(M:b∈R):zR a b=decide (R.idxOf a < R.idxOf b):=by
 have ia:=EB ha;have ib:=EB M;have J:R[R.idxOf a]=a:=FC ia;have F:R[R.idxOf b]=b:=FC ib;have hP:=Cy.mp h;rcases F1 (R.idxOf a) (R.idxOf b)with z | z | z
 ·have q:=hP _ _ ia ib z;rw[J,F]at q;have B:(a.1 == b.1)=false:=by
   rw[beq_eq_false_iff_ne];intro e;rw[e]at q;exact CU _ q
  unfold zR;rw[B,Ic z];exact Ic q
 ·have e:a=b:=by rw[← J,← F];simp[z]
  subst e;unfold zR;simp
 ·have q:=hP _ _ ib ia z;rw[J,F]at q;have B:(a.1 == b.1)=false:=by
   rw[beq_eq_false_iff_ne];intro e;rw[e]at q;exact CU _ q
  unfold zR;rw[B,decide_eq_false (show¬ (R.idxOf a < R.idxOf b) by omega)];exact decide_eq_false fun y=>CU _ (ES q y)
theorem aD6{n:Nat}(h2:2≤n)(q:n≤6):lO n=true:=by
 have:n=2∨n=3∨n=4∨n=5∨n=6:=by omega
 rcases this with rfl | rfl | rfl | rfl | rfl
 ·exact aIG
 ·exact aIH
 ·exact aII
 ·exact aIJ
 ·exact aIK
theorem aD7{R:List P3}(h:R.Nodup):R.map (fun x=>R.idxOf x)=AU R.length:=by
 apply F6
 ·simp
 ·intro i h1 h2;have q:i < R.length:=by simpa using h1
  simp only[Dd,List.getElem_range];exact h.idxOf_getElem i q
theorem aAR{T R:List P3}(O:T.Perm R)(hR:xT R)(h2:2≤T.length)(h6:T.length≤6)(d:P3):(iG T).map (fun i=>T.getD i d)=R:=by
 have Z:=O.length_eq;have hn:=aB5 hR;obtain⟨π,hπ⟩:∃ π,π=T.map (fun x=>R.idxOf x):=⟨_,rfl⟩
 have W:π.Perm (AU T.length):=by
  rw[hπ,Z,← aD7 hn];exact O.map _
 have Y:π.length=T.length:=by rw[hπ,Ad]
 have J:π∈vH T.length (AU T.length):=by
  have:=vI π _ W;rw[Y]at this;exact this
 have B:∀ i,i < T.length→π.getD i 0=R.idxOf (T.getD i ("","",0)):=fun i hi=>by
  rw[hπ,Ak,Ak,AS,Ab hi];rfl
 have z:∀ i,i < T.length→T.getD i ("","",0)∈R:=fun i hi=>by
  rw[Ak,Ab hi];exact O.mem_iff.mp (Bn hi)
 have hk:iG T=(dN (fun i j=>decide (π.getD i 0 < π.getD j 0)) (B6 T.length)).toList:=by
  unfold iG;congr 1;refine mZ (n:=T.length) (P:=Pm T.length) (fun i j hi M=>?_) (f9 (by omega));rw[B i hi,B j M];exact aGW hR (z i hi) (z j M)
 have hs:=A8.mp (aD6 h2 h6) π J;have F:=eq_of_beq hs;rw[← hk]at F;have U:(iG T).length=T.length:=by rw[(lS T (by omega)).length_eq,BW]
 apply F6
 ·rw[Ad,U,Z]
 ·intro j h1 ab;have M:j < (iG T).length:=by simpa using h1
  have e:((iG T).map (fun i=>π.getD i 0))[j]?=(AU T.length)[j]?:=by rw[F]
  rw[AS,Ab M,Da (by omega)]at e;have e':π.getD (iG T)[j] 0=j:=by simpa using e
  have q:(iG T)[j] < T.length:=by
   have:=(lS T (by omega)).mem_iff.mp (Bn M)
   rwa [BK]at this
  rw[B _ q]at e';rw[Dd];have hm:=z _ q;have hd:T.getD (iG T)[j] d=T.getD (iG T)[j] ("","",0):=by
   rw[Ak,Ak,Ab q];rfl
  rw[hd];have:=FC (EB hm);rw[← this];congr 1
section
variable{n:Nat}{π:Nat→Nat}
abbrev Kp(π:Nat→Nat)(p:Array Nat)(j:Nat):Nat:=π (p.getD j 0)
abbrev ord(π:Nat→Nat):Nat→Nat→Bool:=fun i j=>decide (π i < π j)
def KS(π:Nat→Nat)(p:Array Nat)(k:Nat):Prop:=∀ i j,i < j→j < k→Kp π p i < Kp π p j
theorem jE{α β:Type}(o:Nat→Nat→Bool)(f:α→Hy β):∀ t:Hy α,dN o (t.bind f)=dN o (f (dN o t))
 | .ret a=>by rw[KasT.bind.eq_1];rfl
 | .ask i j k=>by
  rw[KasT.bind.eq_2];show dN o ((k (o i j)).bind f)=_;rw[jE o f (k (o i j))];rfl
theorem lW{α:Type}(o:Nat→Nat→Bool)(i j:Nat)(k:Bool→Hy α):dN o (.ask i j k)=dN o (k (o i j)):=rfl
theorem lX{p:Array Nat}{j v:Nat}(h:p[j]?=some v):p.getD j 0=v:=by rw[BH,h];rfl
theorem Pm.size{p:Array Nat}(h:Pm n p):p.size=n:=by rw[h.size_eq];simp
theorem Pm.ne{p:Array Nat}(h:Pm n p){i j:Nat}(hi:i < n)(F:j < n)(z:i≠j):p.getD i 0≠p.getD j 0:=by
 have hz:=h.size;have q:p.toList.Nodup:=(Bd.mp h).nodup_iff.mpr (by simpa using List.nodup_range);rw[lX (A7 (by omega)),lX (A7 (by omega))];intro e;have B:p.toList[i]'(by simpa using(by omega:i < p.size))=p.toList[j]'(by simpa using(by omega:j < p.size)):=by simpa using e
 exact z ((Ef q).mp B)
variable(hn:0 < n)(hπ:∀ i j,i < n→j < n→π i=π j→i=j)
include hn hπ
theorem aFq{p:Array Nat}(h:Pm n p){i j:Nat}(hi:i < n)(z:j < n)(q:i≠j):Kp π p i≠Kp π p j:=fun e=>h.ne hi z q (hπ _ _ (h.lt hn i) (h.lt hn j) e)
theorem aCZ{p:Array Nat}(h:Pm n p){k:Nat}(J:1≤k)(q:k < n)(B:KS π p k)(M:¬ Kp π p k < Kp π p (k - 1)):KS π p (k + 1):=by
 intro i j z O;by_cases e:j=k
 ·subst e;have h1:Kp π p (j - 1) < Kp π p j:=by
   have:=aFq hn hπ h (i:=j - 1) (j:=j) (by omega) q (by omega);omega
  by_cases F:i=j - 1
  ·rw[F];exact h1
  ·exact D7 (B i (j - 1) (by omega) (by omega)) h1
 ·exact B i j z (by omega)
theorem t6{p:Array Nat}(h:Pm n p):∀(f x:Nat),1≤x→x + f≤n→KS π p x→x≤dN (ord π) (kas_asc p f x)∧dN (ord π) (kas_asc p f x)≤x + f∧KS π p (dN (ord π) (kas_asc p f x))
 | 0,x,h1,h2,q=>by
  rw[kas_asc.eq_1];exact⟨Ao _,by show x≤x + 0;omega,q⟩
 | f + 1,x,h1,h2,q=>by
  rw[kas_asc.eq_2,lW];by_cases z:Kp π p x < Kp π p (x - 1)
  ·rw[show ord π (p.getD x 0) (p.getD (x - 1) 0)=true from Ic z];show x≤dN (ord π) (.ret x)∧_;exact⟨Ao _,by show x≤x + (f + 1);omega,q⟩
  ·rw[show ord π (p.getD x 0) (p.getD (x - 1) 0)=false from decide_eq_false z];have B:=t6 h f (x + 1) (by omega) (by omega) (aCZ hn hπ h h1 (by omega) q z);show x≤dN (ord π) (kas_asc p f (x + 1))∧dN (ord π) (kas_asc p f (x + 1))≤x + (f + 1)∧KS π p (dN (ord π) (kas_asc p f (x + 1)));exact⟨by omega,by omega,B.2.2⟩
def KF(π:Nat→Nat)(p:Array Nat)(k:Nat):Prop:=∀ j,1≤j→j < k→Kp π p j < Kp π p (j - 1)
omit hn hπ in
theorem aFr{p:Array Nat}{k:Nat}(h:KF π p k):∀(d i:Nat),i + d + 1 < k→Kp π p (i + d + 1) < Kp π p i
 | 0,i,q=>h (i + 0 + 1) (by omega) q
 | d + 1,i,q=>by
  have h1:=aFr h d i (by omega);have h2:=h (i + (d + 1) + 1) (by omega) q;have e:i + (d + 1) + 1 - 1=i + d + 1:=by omega
  rw[e]at h2;exact D7 h2 h1
theorem aAS{p:Array Nat}(h:Pm n p):∀(f x:Nat),1≤x→x + f≤n→KF π p x→∃ m,dN (ord π) (kas_desc f p x 0)=(p,m,0)∧x≤m∧m≤x + f∧KF π p m
 | 0,x,h1,h2,q=>by
  rw[kas_desc.eq_1];exact⟨x,rfl,Ao _,by omega,q⟩
 | f + 1,x,h1,h2,q=>by
  rw[kas_desc.eq_2,lW];by_cases B:Kp π p x < Kp π p (x - 1)
  ·rw[show ord π (p.getD x 0) (p.getD (x - 1) 0)=true from Ic B];have z:KF π p (x + 1):=fun j a b=>by
    by_cases e:j=x
    ·rw[e];exact B
    ·exact q j a (by omega)
   obtain⟨m,e,a,b,c⟩:=aAS h f (x + 1) (by omega) (by omega) z;refine⟨m,?_,by omega,by omega,c⟩;exact e
  ·rw[show ord π (p.getD x 0) (p.getD (x - 1) 0)=false from decide_eq_false B];refine⟨x,?_,Ao _,by omega,q⟩;show dN (ord π) (.ask (p.getD (x - 1) 0) (p.getD x 0) _)=_;rw[lW];have F:Kp π p (x - 1) < Kp π p x:=by
    have:=aFq hn hπ h (i:=x - 1) (j:=x) (by omega) (by omega) (by omega);omega
   rw[show ord π (p.getD (x - 1) 0) (p.getD x 0)=true from Ic F];rfl
omit hn hπ in
theorem aFs{p:Array Nat}{m k:Nat}(hm:m≤p.size)(q:k < m):(Ho p 0 m).getD k 0=p.getD (m - 1 - k) 0:=by
 unfold Ho;rw[BH,getElem?_mirror_all hm,Ib ⟨A0 _,q⟩,BH];congr 2;omega
theorem aD8{p:Array Nat}(h:Pm n p){m:Nat}(h1:1≤m)(hm:m≤n)(B:KF π p m):∃ r,dN (ord π) (Hj m n p)=r∧1≤r.1∧r.1≤n∧Pm n r.2∧KS π r.2 r.1:=by
 have hz:=h.size;have q:Pm n (Ho p 0 m):=h.rev 0 m;have J:KS π (Ho p 0 m) m:=fun i j F z=>by
  show π _ < π _;rw[aFs (by omega) (by omega),aFs (by omega) z];have:=aFr B (j - i - 1) (m - 1 - j) (by omega);have e:m - 1 - j + (j - i - 1) + 1=m - 1 - i:=by omega
  rw[e]at this;exact this
 have ha:=t6 hn hπ q (n - m) m h1 (by omega) J;refine⟨_,rfl,?_⟩;unfold Hj;rw[jE];exact⟨by show 1≤dN (ord π) _;omega,by show dN (ord π) _≤n;omega,q,ha.2.2⟩
theorem aD9{p:Array Nat}(h:Pm n p):∃ r,dN (ord π) (Hk n p)=r∧1≤r.1∧r.1≤n∧Pm n r.2∧KS π r.2 r.1:=by
 unfold Hk;rw[jE];have F:KS π p 1:=fun i j M W=>by omega
 have ha:=t6 hn hπ h (n - 1) 1 (Ao _) (by omega) F;generalize hm:dN (ord π) (kas_asc p (n - 1) 1)=m at ha ⊢;by_cases e:m=n
 ·rw[Ib (by rw[e];simp)];exact⟨(m,p),rfl,by show 1≤m;omega,by show m≤n;omega,h,ha.2.2⟩
 ·rw[Ia (by simpa using e)];by_cases q:m > 1
  ·rw[Ib q,lW];have J:Kp π p 0 < Kp π p (m - 1):=ha.2.2 0 (m - 1) (by omega) (by omega);rw[show ord π (p.getD 0 0) (p.getD (m - 1) 0)=true from Ic J];exact⟨(m,p),rfl,by show 1≤m;omega,by show m≤n;omega,h,ha.2.2⟩
  ·rw[Ia q];have O:m=1:=by omega
   subst O;unfold Hr;rw[jE];have z:Kp π p 1 < Kp π p 0:=by
    by_cases hc:Kp π p 1 < Kp π p 0
    ·exact hc
    ·exfalso;obtain⟨g,hg⟩:∃ g,n - 1=g + 1:=⟨n - 2,by omega⟩
     rw[hg,kas_asc.eq_2,lW,show ord π (p.getD 1 0) (p.getD (1 - 1) 0)=false from decide_eq_false hc]at hm;have:=(t6 hn hπ h g 2 (by omega) (by omega) (aCZ hn hπ h (Ao _) (by omega) F hc)).1;have U:dN (ord π) (kas_asc p g 2)=1:=hm;omega
   have B:KF π p 2:=fun j a b=>by
    have:j=1:=by omega
    subst this;exact z
   obtain⟨m2,e2,a2,b2,c2⟩:=aAS hn hπ h (n - 2) 2 (by omega) (by omega) B;rw[show n - (1 + 1)=n - 2 from rfl,e2];dsimp only;rw[Ia (by omega)];exact aD8 hn hπ h (by omega) (by omega) c2
theorem rQ{p:Array Nat}(h:Pm n p){k:Nat}(J:k < n)(B:KS π p k):∀(f l r:Nat),l≤r→r≤k→r - l≤f→(∀ j,j < l→Kp π p j < Kp π p k)→(∀ j,r≤j→j < k→Kp π p k < Kp π p j)→
  ∃ m,dN (ord π) (kas_place p k f l r)=m∧m≤k∧(∀ j,j < m→Kp π p j < Kp π p k)∧∀ j,m≤j→j < k→Kp π p k < Kp π p j
 | 0,l,r,h1,h2,U,z,F=>by
  rw[kas_place.eq_1];have:l=r:=by omega
  subst this;exact⟨l,rfl,h2,z,F⟩
 | f + 1,l,r,h1,h2,U,z,F=>by
  rw[kas_place.eq_2];by_cases q:l ≥ r
  ·rw[Ib q];have:l=r:=by omega
   subst this;exact⟨l,rfl,h2,z,F⟩
  ·rw[Ia q,lW];have O:(l + r) / 2 < r∧l≤(l + r) / 2:=by omega
   by_cases hc:Kp π p k < Kp π p ((l + r) / 2)
   ·rw[show ord π (p.getD k 0) (p.getD ((l + r) / 2) 0)=true from Ic hc];show∃ m,dN (ord π) (kas_place p k f l ((l + r) / 2))=m∧_;refine rQ h J B f l ((l + r) / 2) (by omega) (by omega) (by omega) z fun j a b=>?_;by_cases e:j=(l + r) / 2
    ·rw[e];exact hc
    ·exact D7 hc (B _ _ (by omega) b)
   ·rw[show ord π (p.getD k 0) (p.getD ((l + r) / 2) 0)=false from decide_eq_false hc];show∃ m,dN (ord π) (kas_place p k f ((l + r) / 2 + 1) r)=m∧_;have M:Kp π p ((l + r) / 2) < Kp π p k:=by
     have:=aFq hn hπ h (i:=(l + r) / 2) (j:=k) (by omega) J (by omega);omega
    refine rQ h J B f ((l + r) / 2 + 1) r (by omega) h2 (by omega) (fun j a=>?_) F;by_cases e:j=(l + r) / 2
    ·rw[e];exact M
    ·exact D7 (B _ _ (by omega) (by omega)) M
theorem aC0:∀(f:Nat) {p:Array Nat} (k:Nat),Pm n p→k + f=n→KS π p k→Pm n (dN (ord π) (kas_bin f p k))∧KS π (dN (ord π) (kas_bin f p k)) n
 | 0,p,k,h,U,q=>by
  rw[kas_bin.eq_1];have:k=n:=by omega
  subst this;exact⟨h,q⟩
 | f + 1,p,k,h,U,q=>by
  rw[kas_bin.eq_2,jE];obtain⟨m,e,a,b,c⟩:=rQ hn hπ h (by omega) q k 0 k (by omega) (Ao _) (by omega) (fun j z=>by omega) (fun j z y=>by omega);rw[e];refine aC0 f (k + 1) (h.bub _ _) (by omega) fun i j B Z=>?_;have hz:=h.size;have at':∀ x,Kp π (bubble p k (k - m)) x=if x=m then Kp π p k else if m < x∧x≤k then Kp π p (x - 1) else Kp π p x:=fun x=>by
   show π _=_;rw[BH,getElem?_bubble (by omega) (k - m) (by omega)];have Y:k - (k - m)=m:=by omega
   rw[Y]
   repeat' split
   all_goals (rw[← BH])
  rw[at' i,at' j];have W:∀ x y,x≤y→y < k→Kp π p x≤Kp π p y:=fun x y h1 h2=>by
   rcases Nat.lt_or_ge x y with z | z
   ·exact Dj (q x y z h2)
   ·have:x=y:=by omega
    rw[this];exact Ao _
  by_cases M:i=m
  ·rw[Ib M,Ia (by omega),Ib (by omega)];exact c _ (by omega) (by omega)
  ·rw[Ia M];by_cases O:m < i∧i≤k
   ·rw[Ib O,Ia (by omega),Ib (by omega)];exact q _ _ (by omega) (by omega)
   ·rw[Ia O];by_cases F:j=m
    ·rw[Ib F];exact b _ (by omega)
    ·rw[Ia F];by_cases J:m < j∧j≤k
     ·rw[Ib J];have hi:i < m:=by omega
      rcases Nat.lt_or_ge i (j - 1)with z | z
      ·exact q _ _ z (by omega)
      ·omega
     ·rw[Ia J];exact q _ _ B (by omega)
theorem aAU:Pm n (dN (ord π) (B6 n))∧KS π (dN (ord π) (B6 n)) n:=by
 unfold B6;rw[jE];obtain⟨r,e,a,b,c,d⟩:=aD9 hn hπ (p:=(AU n).toArray) (Dg _);rw[e];by_cases q:r.1 < n
 ·rw[Ib q];have z:max r.1 1=r.1:=by omega
  rw[z];exact aC0 hn hπ _ _ c (by omega) d
 ·rw[Ia q];have:r.1=n:=by omega
  rw[this]at d;exact⟨c,d⟩
end
theorem xU{α:Type}{p q:α→Bool}:∀{l:List α},(∀ x∈l,p x=true→q x=true)→(∃ x∈l,q x=true∧p x=false)→l.countP p < l.countP q
 | [],_,h=>by obtain⟨x,z,_⟩:=h;simp at z
 | a :: l,h1,h2=>by
  have le:l.countP p≤l.countP q:=List.countP_mono_left fun x z=>h1 x (AL _ z);rw[F7,F7];obtain⟨x,z,hq,hp⟩:=h2;rcases An.mp z with rfl | z
  ·rw[Ib hq,Ia (by rw[hp];simp)];omega
  ·have B:=xU (fun x z=>h1 x (AL _ z)) ⟨x,z,hq,hp⟩;by_cases ha:p a=true
   ·rw[Ib ha,Ib (h1 a AI ha)];omega
   ·rw[Ia ha];omega
theorem aC1{n:Nat}{o:Nat→Nat→Bool}(O:∀ i,o i i=false)(M:∀ i j k,o i j=true→o j k=true→o i k=true)(to:∀ i j,i < n→j < n→i≠j→o i j=true∨o j i=true):
  ∃ π:Nat→Nat,(∀ i j,i < n→j < n→o i j=ord π i j)∧∀ i j,i < n→j < n→π i=π j→i=j:=by
 let π:Nat→Nat:=fun i=>(AU n).countP fun k=>o k i
 have F:∀ i j,i < n→j < n→o i j=true→π i < π j:=fun i j hi q h=>xU (fun x _ U=>M x i j U h) ⟨i,BK.mpr hi,h,O i⟩;refine⟨π,fun i j hi q=>?_,fun i j hi q e=>?_⟩
 ·cases J:o i j with
  | true=>exact(Ic (F i j hi q J)).symm
  | false=>
   refine(decide_eq_false fun z=>?_).symm;by_cases e:i=j
   ·rw[e]at z;exact Cf _ z
   ·rcases to i j hi q e with y | y
    ·rw[J]at y;cases y
    ·exact Cf _ (D7 z (F j i q hi y))
 ·by_cases B:i=j
  ·exact B
  ·rcases to i j hi q B with y | y
   ·have:=F i j hi q y;omega
   ·have:=F j i q hi y;omega
abbrev K3:=Int×Int×Str
def nO(x y:K3):Bool:=if x.1 == y.1 then(if x.2.1 == y.2.1 then(if x.2.2 == y.2.2 then false else decide (x.2.2.cps.toList < y.2.2.cps.toList)) else decide (x.2.1 < y.2.1)) else decide (x.1 < y.1)
theorem aAV(x:K3):nO x x=false:=by unfold nO;simp
theorem vL(x y:K3):nO x y=true↔x.1 < y.1∨x.1=y.1∧(x.2.1 < y.2.1∨x.2.1=y.2.1∧x.2.2.cps.toList < y.2.2.cps.toList):=by
 unfold nO;by_cases h1:x.1=y.1
 ·rw[Ib (by simpa using h1)];by_cases h2:x.2.1=y.2.1
  ·rw[Ib (by simpa using h2)];by_cases q:x.2.2=y.2.2
   ·rw[Ib (by simpa using q),q];constructor
    ·intro z;cases z
    ·rintro(z | ⟨_,z | ⟨_,z⟩⟩)
     ·omega
     ·omega
     ·exact absurd z (CU _)
   ·rw[Ia (by simpa using q),decide_eq_true_iff];constructor
    ·intro z;exact .inr ⟨h1,.inr ⟨h2,z⟩⟩
    ·rintro(z | ⟨_,z | ⟨_,z⟩⟩)
     ·omega
     ·omega
     ·exact z
  ·rw[Ia (by simpa using h2),decide_eq_true_iff];constructor
   ·intro z;exact .inr ⟨h1,.inl z⟩
   ·rintro(z | ⟨_,z | ⟨z,_⟩⟩)
    ·omega
    ·exact z
    ·exact absurd z h2
 ·rw[Ia (by simpa using h1),decide_eq_true_iff];constructor
  ·intro z;exact .inl z
  ·rintro(z | ⟨z,_⟩)
   ·exact z
   ·exact absurd z h1
theorem vM{x y z:K3}(h1:nO x y=true)(h2:nO y z=true):nO x z=true:=by
 rw[vL]at h1 h2 ⊢;rcases h1 with a | ⟨a,b | ⟨b,c⟩⟩ <;> rcases h2 with a' | ⟨a',B | ⟨B,q⟩⟩
 ·exact .inl (by omega)
 ·exact .inl (by omega)
 ·exact .inl (by omega)
 ·exact .inl (by omega)
 ·exact .inr ⟨by omega,.inl (by omega)⟩
 ·exact .inr ⟨by omega,.inl (by omega)⟩
 ·exact .inl (by omega)
 ·exact .inr ⟨by omega,.inl (by omega)⟩
 ·exact .inr ⟨by omega,.inr ⟨by omega,ES c q⟩⟩
theorem aB6{x y:K3}(h:x≠y):nO x y=true∨nO y x=true:=by
 rw[vL,vL];by_cases h1:x.1=y.1
 ·by_cases h2:x.2.1=y.2.1
  ·have q:x.2.2≠y.2.2:=fun z=>h (HG h1 (HG h2 z));rcases Fp (x.2.2.cps.toList < y.2.2.cps.toList)with z | z
   ·exact .inl (.inr ⟨h1,.inr ⟨h2,z⟩⟩)
   ·rcases Fp (y.2.2.cps.toList < x.2.2.cps.toList)with z' | z'
    ·exact .inr (.inr ⟨h1.symm,.inr ⟨h2.symm,z'⟩⟩)
    ·exact absurd (oH (EZ (Dy.mp z') (Dy.mp z))) q
  ·rcases Int.lt_or_gt_of_ne h2 with z | z
   ·exact .inl (.inr ⟨h1,.inl z⟩)
   ·exact .inr (.inr ⟨h1.symm,.inl z⟩)
 ·rcases Int.lt_or_gt_of_ne h1 with z | z
  ·exact .inl (.inl z)
  ·exact .inr (.inl z)
abbrev k0:K3:=(0,0,"")
def aAW(kk:List K3)(p:List Nat):Prop:=p.Perm (AU kk.length)∧(kk.Nodup→(p.map fun i=>kk.getD i k0).Pairwise fun a b=>nO a b=true)
theorem aFt{kk:List K3}(h:0 < kk.length):aAW kk (dN (fun i j=>nO (kk.getD i k0) (kk.getD j k0)) (B6 kk.length)).toList:=by
 refine⟨Bd.mp (iC.run _ (f9 h)),fun hn=>?_⟩;have ne:∀ i j,i < kk.length→j < kk.length→i≠j→kk.getD i k0≠kk.getD j k0:=fun i j hi z q e=>by
  rw[Ak,Ak,Ab hi,Ab z]at e;exact q ((Ef hn).mp e)
 obtain⟨π,h1,h2⟩:=aC1 (n:=kk.length) (o:=fun i j=>nO (kk.getD i k0) (kk.getD j k0)) (fun i=>aAV _) (fun i j k=>vM) (fun i j hi z q=>aB6 (ne i j hi z q));have e:dN (fun i j=>nO (kk.getD i k0) (kk.getD j k0)) (B6 kk.length)=dN (ord π) (B6 kk.length):=mZ (n:=kk.length) (P:=Pm kk.length) h1 (f9 h);rw[e];obtain⟨hP,hS⟩:=aAU h h2;have hz:=hP.size;rw[Cy];intro i j hi z q;have M:i < kk.length:=by simpa[hz]using hi
 have B:j < kk.length:=by simpa[hz]using z
 have:=hS i j q B;have F:(dN (ord π) (B6 kk.length)).getD i 0=(dN (ord π) (B6 kk.length)).toList[i]'(by simpa using(by omega:i < (dN (ord π) (B6 kk.length)).size)):=by rw[lX (A7 (by omega))];simp
 have J:(dN (ord π) (B6 kk.length)).getD j 0=(dN (ord π) (B6 kk.length)).toList[j]'(by simpa using(by omega:j < (dN (ord π) (B6 kk.length)).size)):=by rw[lX (A7 (by omega))];simp
 rw[Dd,Dd,← F,← J];rw[h1 _ _ (hP.lt h i) (hP.lt h j)];exact Ic this
inductive aFu(h:Bp)(v:Ac)(k:K3):Prop
 | mk (t:_) (u1:_) (u2:_) (u3:_) (q0:v=.ref t) (q1:Fc h t #[.int k.1 u1,.int k.2.1 u2,.str k.2.2 u3]):aFu h v k
def aB7(h:Bp)(v:Ac)(k:K3):Prop:=aFu h v k
theorem aB7.weak{h:Bp}{v:Ac}{k:K3}(x:aB7 h v k):aJI h v:=by
 obtain⟨t,u1,u2,u3,e,ht⟩:=x;exact⟨t,k.1,k.2.1,k.2.2,u1,u2,u3,e,ht⟩
section
variable{prog:AG}{w:A2}{A:AW}{E:Ac→Af→Prop}{s:Af}
theorem aKB{z:Bool}{Y U:Ac}{x y:K3}{C:Bool→Af→Prop}(M:aB7 s.heap Y x)(J:aB7 s.heap U y)(h:C (nO x y) s):wpAny (model prog w) A (keyLt' (tuples' z) Y U) C E s:=by
 obtain⟨a1,b1,c1⟩:=x;obtain⟨a2,b2,c2⟩:=y;obtain⟨p1,t1,t2,t3,rfl,M⟩:=M;obtain⟨p2,u1,u2,u3,rfl,J⟩:=J;dsimp only at M J;unfold nO at h;dsimp only at h;show wpAny _ _ (C7 (.ref p1) >>= _) _ _ _;refine Aa (iF M ?_);refine Aa (iF J ?_);dsimp only[DP,F4,EL];rw[List.zipIdx_nil];have W:∀{Q:Bool→Af→Prop} {a b:Int} {t u:Tok},Q (a == b) s→wpAny (model prog w) A (eqBool (.int a t) (.int b u)) Q E s:=fun{Q a b t u} q=>rH (y:=.int a) (x:=.int b) ⟨t,rfl⟩ ⟨u,rfl⟩ rfl rfl prog w _ _ q;have Z:∀{Q:Bool→Af→Prop} {a b:Str} {t u:Tok},Q (a == b) s→wpAny (model prog w) A (eqBool (.str a t) (.str b u)) Q E s:=fun{Q a b t u} q=>E9 a t b u prog w _ _ q;refine Aa ?_;rw[C1];refine Aa (Aa (W ?_));cases hz:(a1 == a2)with
 | false=>
  rw[hz]at h;refine BL (by decide) ?_;refine Aa ?_;show wpAny _ _ (oneLt' (z && 0 == 0) (Cm a1 t1) (Cm a2 u1)) _ _ _;cases z
  ·exact zS (Ae (Ae (Ae h)))
  ·exact oneLt_int (Ae (Ae (Ae h)))
 | true=>
  rw[hz,Ib rfl]at h;refine Aq (by decide) (Ae ?_);dsimp only;rw[C1];refine Aa (Aa (W ?_));cases B:(b1 == b2)with
  | false=>
   rw[B]at h;refine BL (by decide) ?_;refine Aa ?_;have O:(z && ((0 + 1:Nat) == 0))=false:=by cases z <;> rfl
   show wpAny _ _ (oneLt' (z && (0 + 1 == 0)) (Cm b1 t2) (Cm b2 u2)) _ _ _;rw[O];exact zS (Ae (Ae (Ae h)))
  | true=>
   rw[B,Ib rfl]at h;refine Aq (by decide) (Ae ?_);dsimp only;rw[C1];refine Aa (Aa (Z ?_));cases F:(c1 == c2)with
   | false=>
    rw[F]at h;refine BL (by decide) ?_;refine Aa ?_;have O:(z && ((0 + 1 + 1:Nat) == 0))=false:=by cases z <;> rfl
    show wpAny _ _ (oneLt' (z && (0 + 1 + 1 == 0)) (BE c1 t3) (BE c2 u3)) _ _ _;rw[O];exact zT (Ae (Ae (Ae h)))
   | true=>
    rw[F,Ib rfl]at h;refine Aq (by decide) (Ae ?_);dsimp only;rw[Gy];exact Ae (Ae h)
theorem vN{ks its:List Ac}(q:ks.length=its.length)(i:Nat):EV (ks.toArray.zip its.toArray) i=(ks.getD i .none,its.getD i .none):=by
 unfold EV;by_cases h:i < ks.length
 ·have hz:i < (ks.toArray.zip its.toArray).size:=by simp[q];omega
  rw[BH,A7 hz,Ak,Ak,Ab h,Ab (by omega)];simp
 ·have hz:¬ i < (ks.toArray.zip its.toArray).size:=by simp[q];omega
  rw[BH,Array.getElem?_eq_none (by omega),Ak,Ak,AZ (by omega),AZ (by omega)];rfl
theorem aJP{b:Bool}{ks its:List Ac}{kk:List K3}{Q:Unit×Bq→Af→Prop}(F:ks.length=its.length)(O:kk.length=its.length)(h2:2≤its.length)(M:its.length < 64)(W:∀ i,i < its.length→aB7 s.heap (ks.getD i .none) (kk.getD i k0))
  (h:∀(st:Bq) (p:List Nat),aAW kk p→(arrOf st).map (·.2)=(p.map fun i=>its.getD i .none).toArray→failedOf st=none→Q ((),st) s):wpAny (model prog w) A (sortRuns'.run (Dr (tuples' b) (ks.toArray.zip its.toArray) #[] 7 none)) Q E s:=by
 have hz:(ks.toArray.zip its.toArray).size=its.length:=by simp[F]
 have B:=kas_runs (prog:=prog) (w:=w) (A:=A) (E:=E) (κ:=tuples' b) (it:=ks.toArray.zip its.toArray) (n:=its.length) (s:=s) (Q:=fun u st s'=>s'=s∧Q (u,st) s) (G:=fun p s'=>p=dN (fun i j=>nO (kk.getD i k0) (kk.getD j k0)) (B6 its.length)∧s'=s) h2 M (fun p' J s' Y ha hf hG=>?_)
  (iC.wpO (n:=its.length) (P:=Pm its.length) (o:=fun i j=>nO (kk.getD i k0) (kk.getD j k0)) (fun i j C hi hj Z=>?_) (f9 (by omega)) ⟨rfl,rfl⟩)
 ·have e1:Hn (tuples' b) (ks.toArray.zip its.toArray) (AU its.length).toArray=Dr (tuples' b) (ks.toArray.zip its.toArray) #[] 7 none:=by
   unfold Hn;have:=kas_range (ks.toArray.zip its.toArray);rw[hz]at this;rw[this]
  rw[e1]at B;exact Ca B (fun r s' z=>by
   obtain⟨rfl,q⟩:=z;exact q) fun e s' z=>z
 ·obtain⟨rfl,rfl⟩:=hG;have U:=aFt (kk:=kk) (by omega);rw[O]at U;refine⟨rfl,h J _ U ?_ hf⟩;rw[ha];apply Ec.mp;rw[GJ,Eb];show _=Hc _ _;refine C9 fun i _=>?_;show(EV (ks.toArray.zip its.toArray) i).2=_;rw[vN F]
 ·unfold kas_cmp;rw[vN F,vN F];exact aKB (W i hi) (W j hj) Z
end
section
variable{prog:AG}{w:A2}{A:AW}{E:Ac→Af→Prop}{s:Af}
theorem aKC{a kS:Ag}{ks its:List Ac}{kk:List K3}{e e1:Nat}{P:FZ→Af→Prop}(ha:s.heap.get? a=some (seqObj "list" #[] e1))(hk:s.heap.get? kS=some (seqObj "list" ks.toArray e))(Z:a≠kS)(hl:ks.length=its.length)(M:its.length < 64)(O:kk.length=its.length)(hK:∀ i,i < its.length→aB7 s.heap (ks.getD i .none) (kk.getD i k0))
  (h:∀ p:List Nat,aAW kk p→P (Fin.done (Hd Ci)) { s with heap:=(s.heap.update kS (Be fun _=>#[])).update a (Be fun _=>(p.map fun i=>its.getD i .none).toArray) }):wpAny (model prog w) A (ksk_end a false its.toArray e1 (.ref kS) ks.toArray) P E s:=by
 have z:∀ n:Nat,n < 64→n≤sizeLine:=fun n hn=>aS (by omega);have F:(ks.toArray.zip its.toArray).size=its.length:=by simp[hl]
 have fin:∀(st:Bq) (p:List Nat),aAW kk p→(arrOf st).map (·.2)=(p.map fun i=>its.getD i .none).toArray→failedOf st=none→wpAny (model prog w) A (ksk_tail a false e1 (.ref kS) st) P E s:=fun st p U B Y=>by
  have aa:=U.1.length_eq;rw[BW]at aa;have W:(arrOf st).size=its.length:=by
   have h1:((arrOf st).map (·.2)).size=(arrOf st).size:=Gv ..
   have h2:(p.map fun i=>its.getD i Ci).toArray.size=p.length:=by simp
   rw[B]at h1;omega
  refine aJK ha hk Z (by rw[Av];exact z _ (by omega)) (by rw[W];exact z _ M) Y ?_;rw[B];exact h p U
 unfold ksk_end;dsimp only;by_cases h2:its.length < 2
 ·have q:its.toArray.size < 2:=by simpa using h2
  rw[Ia AD,Ib q];refine Aa (Ae ?_);rw[Ib q,Ia AD];refine Aa (Ae ?_);refine fin _ (AU its.length) ⟨by rw[O],fun _=>?_⟩ ?_ rfl
  ·rw[Cy];intro i j hi J ae;simp at hi J;omega
  ·show(ks.toArray.zip its.toArray).map (·.2)=_
   apply Ec.mp;rw[Eb,Array.toList_zip];show Hc Prod.snd (ks.zip its)=_;rw[List.map_snd_zip (by omega)];apply CJ;intro j;rw[AS];by_cases J:j < its.length
   ·rw[Da J,Ab J];simp[J]
   ·rw[AZ (by omega),AZ (by simpa using J)];rfl
 ·have q:¬ its.toArray.size < 2:=by simpa using h2
  rw[Ia AD,Ia q];refine Aa (aJJ (fun v hv=>?_) fun b=>?_)
  ·obtain⟨i,hi,rfl⟩:=Dz.mp hv;have:=(hK i (by omega)).weak;rw[Ak,Ab hi]at this;exact this
  rw[Ia q,Ia AD];exact Aa (aJP hl O (by omega) M hK fun st p U B Y=>fin st p U B Y)
end
section
variable{X:Cx}{di:Ih}{σ:St}
inductive aC2(H:Hp)(v:Ac)(k:K3):Prop
 | mk (t:_) (q0:v=.ref t) (q1:H t=some (.tup [.int k.1,.int k.2.1,.str k.2.2])):aC2 H v k
def aFv(H:Hp)(v:Ac)(k:K3):Prop:=aC2 H v k
theorem aFv.real{H:Hp}{s:Af}{v:Ac}{k:K3}(I:Inv X di σ H s)(h:aFv H v k):aB7 s.heap v k:=by
 obtain⟨t,rfl,ht⟩:=h;obtain⟨_,its,q,hT⟩:dC X.prog X.w H s.heap t (.tup [.int k.1,.int k.2.1,.str k.2.2]):=I.hok _ _ ht;cases q with
 | cons F q=>
  cases q with
  | cons z q=>
   cases q with
   | cons B q=>
    cases q;obtain⟨u1,e1⟩:=F;obtain⟨u2,e2⟩:=z;obtain⟨u3,e3⟩:=B;subst e1 e2 e3;exact⟨t,u1,u2,u3,rfl,hT⟩
structure KsX(KR:V→K3→Prop)(H:Hp)(xd:List V)(ks:List Ac)(kk:List K3):Prop where
 len:ks.length=xd.length∧kk.length=xd.length
 key:∀ i,i < xd.length→aFv H (ks.getD i .none) (kk.getD i k0)
 kr:∀ i,i < xd.length→KR (xd.getD i .non) (kk.getD i k0)
theorem KsX.nil{KR:V→K3→Prop}{H:Hp}:KsX KR H [] [] []:=⟨⟨rfl,rfl⟩,fun i hi=>by simp at hi,fun i hi=>by simp at hi⟩
theorem KsX.same{KR:V→K3→Prop}{H H':Hp}{xd:List V}{ks:List Ac}{kk:List K3}(h:KsX KR H xd ks kk)(s:bW H H'):KsX KR H' xd ks kk:=
 ⟨h.len,fun i hi=>by obtain⟨t,e,ht⟩:=h.key i hi;exact⟨t,e,s _ _ ht⟩,h.kr⟩
theorem oJ{α:Type}(l:List α)(x d:α)(i:Nat):(l ++ [x]).getD i d=if i < l.length then l.getD i d else if i=l.length then x else d:=by
 rw[Ak,Ak];by_cases h:i < l.length
 ·rw[Ib h,BD h]
 ·rw[Ia h,Bz (by omega)];by_cases h2:i=l.length
  ·rw[Ib h2,h2];simp
  ·rw[Ia h2,AZ (by simp;omega)];rfl
theorem KsX.snoc{KR:V→K3→Prop}{H:Hp}{xd:List V}{ks:List Ac}{kk:List K3}{y:V}{a b:Int}{c:Str}{t:Ag}(h:KsX KR H xd ks kk)(q:KR y (a,b,c))(ht:H t=some (.tup [.int a,.int b,.str c])):KsX KR H (xd ++ [y]) (ks ++ [AJ t]) (kk ++ [(a,b,c)]):=by
 obtain⟨l1,l2⟩:=h.len;refine⟨⟨by simp[l1],by simp[l2]⟩,fun i hi=>?_,fun i hi=>?_⟩
 ·rw[oJ,oJ,l1,l2];by_cases h1:i < xd.length
  ·rw[Ib h1,Ib h1];exact h.key i h1
  ·have:i=xd.length:=by simp at hi;omega
   rw[Ia h1,Ia h1,Ib this,Ib this];exact⟨t,rfl,ht⟩
 ·rw[oJ,oJ,l2];by_cases h1:i < xd.length
  ·rw[Ib h1,Ib h1];exact h.kr i h1
  ·have:i=xd.length:=by simp at hi;omega
   rw[Ia h1,Ia h1,Ib this,Ib this];exact q
theorem aEa{k:Nat}{f:Ag}{fd:AK}{x:Str}{sp:Sp}{A':AW}{E:Ac→Af→Prop}(F:cY X.prog X.w X.K X.mg X.base CX0 k f fd [x] sp)(hr:cZ k A')(hA:A'.frames=some X.stack)(hb:eU X.K fd [x] [])
  {D kS:Ag} {H0:Hp} {e1:Nat} {xs:List V} {KR:V→K3→Prop} (fD:∀ H',H' D=none→nN X di H' D) (fK:∀ H',H' kS=none→nN X di H' kS) (aq:D≠kS)
  (ah:∀ y∈xs,∀(H':Hp) (Q:VK),bW H0 H'→(∀ t a b c B,bW H' B→B t=some (.tup [.int a,.int b,.str c])→KR y (a,b,c)→Q (.ref t) B)→sp [y] H' Q E0) {er:Ac→Ac→Sem (ForInStep PUnit)} {Q:Af→Prop}
  {M:Ac→PUnit→Sem (ForInStep PUnit)} (O:∀ v u,M v u=(do
   let r ← (call (.ref f) [v]).attempt
   match r with
   | Hm k=>do
    EC (.ref kS) fun x=>x.push k
    pure (CG Hh)
   | Except.error e=>er v e)):
  ∀(cS:List Ac) (xr:List V) (s:Af) (H:Hp) (ks:List Ac) (kk:List K3) (xd:List V) (e:Nat),c0 xr cS→(∀ y∈xr,y∈xs)→Inv X di σ H s→bW H0 H→H D=none→H kS=none→s.heap.get? D=some (seqObj "list" #[] e1)→s.heap.get? kS=some (seqObj "list" ks.toArray e)→KsX KR H xd ks kk→ks.length + cS.length < 64→
   (∀(s':Af) (H':Hp) (W:List Ac) (aj:List K3) (e':Nat),Inv X di σ H' s'→bW H0 H'→H' D=none→H' kS=none→s'.heap.get? D=some (seqObj "list" #[] e1)→s'.heap.get? kS=some (seqObj "list" W.toArray e')→KsX KR H' (xd ++ xr) W aj→W.length=ks.length + cS.length→Q s')→
   wpAny (model X.prog X.w) A' (forIn cS Hh M) (fun _ s'=>Q s') E s:=by
 intro cS
 induction cS with
 | nil=>
  intro xr s H ks kk xd e r J I S hD hK gD gK hk af q;rw[Gy];cases r;exact Ae (q s H ks kk e I S hD hK gD gK (by rw[Cg];exact hk) rfl)
 | cons v cS ih=>
  intro xr s H ks kk xd e r J I S hD hK gD gK hk af q;rw[A5]at af;cases r with
  | @cons y _ ap _ r1 r2=>
  rw[C1,O];refine Aa (Aa (Ex ?_));have I3:Inv X ((D,seqObj "list" #[] e1) :: (kS,seqObj "list" ks.toArray e) :: di) σ H s:=I.pins_of fun p Y=>by
   rcases An.mp Y with z | Y
   ·subst z;exact⟨gD,hD,(fD H hD).2.1,(fD H hD).2.2.1,fun v z=>by cases z⟩
   ·rcases An.mp Y with z | Y
    ·subst z;exact⟨gK,hK,(fK H hK).2.1,(fK H hK).2.2.1,fun v z=>by cases z⟩
    ·exact I.pin p (A3 _ Y)
  have e0:aER X.prog X.w X.K X.mg X.base A' X.stack s H:=⟨hA,I.env0.mod,I.env0.bs,I.env0.bsz,I.env0.funs,I.env0.frf,I.env0.hok,I.env0.bare⟩
  refine Dp (C8 (F.run A' X.stack s H ⟨[v],[]⟩ [v] [y] (fun u B=>∃ t a b c,u=.ref t∧B t=some (.tup [.int a,.int b,.str c])∧bW H B∧KR y (a,b,c)) E0 hr e0 (hb s [v] I.kIn rfl) (.cons r1 .nil)
   (ah y (J y AI) H _ S fun t a b c B s2 h2 U=>⟨t,a,b,c,rfl,h2,s2,U⟩)) fun r s' hq=>?_)
  cases r with
  | error e=>exact CK hq
  | ok fl=>
   cases fl with
   | next=>exact CK hq
   | brk=>exact CK hq
   | cont=>exact CK hq
   | ret u=>
    obtain⟨vv,H',I',r',t,a,b,c,rfl,ht,S',U⟩:=I3.after hq;cases r';obtain⟨gD',hD',_⟩:=I'.pin (D,seqObj "list" #[] e1) (A3 _ AI);obtain⟨gK',hK',_⟩:=I'.pin (kS,seqObj "list" ks.toArray e) (A3 _ (AL _ AI));have I4:Inv X di σ H' s':=I'.pins_of fun p Y=>I'.pin p (A3 _ (AL _ (AL _ Y)));refine Aa (Cv gK' rfl ?_ (aS (by rw[Av];omega)) (by rw[Array.size_push,Av];exact F2 (aS (by omega))));refine Ae ?_;have ab:=get?_update_seq gK' (fun x=>x.push (.ref t));have ep:(ks.toArray.push (.ref t))=(ks ++ [AJ t]).toArray:=by simp
    rw[ep]at ab;have I5:Inv X di σ H' { s' with heap:=s'.heap.update kS (Be fun x=>x.push (.ref t)) }:=I4.turnedL (t':=s'.toks) (fp:=[kS]) (fun b o hb e=>by
     rw[Bt _ _ _ _ (fun z=>hb (by simp[z]))];exact e) fun b hb=>by
      rw[BC.mp hb];exact fK H' hK'
    refine ih ap _ H' (ks ++ [AJ t]) (kk ++ [(a,b,c)]) (xd ++ [y]) _ r2 (fun y hy=>J y (AL _ hy)) I5 (S.trans S') hD' hK' ?_ ab ((hk.same S').snoc U ht) (by rw[Au,Fb];omega) fun ao B ae Z an a1 a2 a3 a4 a5 a6 a7 a8=>?_
    ·show(s'.heap.update kS _).get? D=_;rw[Bt _ _ _ _ aq];exact gD'
    ·refine q ao B ae Z an a1 a2 a3 a4 a5 a6 ?_ (by rw[a8,Au,Fb,A5];omega);rw[Bg]at a7;exact a7
end
section
variable{X:Cx}{di:Ih}{σ:St}{H:Hp}{s:Af}
theorem aAX{k:Nat}{f l:Ag}{fd:AK}{x:Str}{sp:Sp}{xs:List V}{its:List Ac}{KR:V→K3→Prop}{Q:VK}{E:Ac→Af→Prop}(F:cY X.prog X.w X.K X.mg X.base CX0 k f fd [x] sp)(hr:cZ (k + 2) X.A)(hb:eU X.K fd [x] [])
  (I:Inv X di σ H s) (rv:c0 xs its) (an:∀(B:AW) (Q':List Ac→Af→Prop) (E':Ac→Af→Prop),B.handled=none→(∀(h1:Bp) (tk:Nat),(∀ b u,s.heap.get? b=some u→h1.get? b=some u)→s.heap.objs.size≤h1.objs.size→Q' its { s with heap:=h1,toks:=tk })→wpAny (model X.prog X.w) B (collect (.ref l)) Q' E' s) (ba:xs.length < 64)
  (ao:∀ y∈xs,∀(H':Hp) (Q:VK),bW H H'→(∀ t a b c ad,bW H' ad→ad t=some (.tup [.int a,.int b,.str c])→KR y (a,b,c)→Q (.ref t) ad)→sp [y] H' Q E0)
  (q:∀ D (kk:List K3) (p:List Nat) H',bW H H'→H D=none→kk.length=xs.length→(∀ i,i < xs.length→KR (xs.getD i .non) (kk.getD i k0))→aAW kk p→H' D=some (.lst (p.map fun i=>xs.getD i .non))→Q (.ref D) H'):
  wpAny (model X.prog X.w) X.A (call (.builtin "sorted") [.ref l] [(Bx "key",.ref f)]) (EP X di σ Q) E s:=by
 have aI:=rv.length;have zz:its.length≤sizeLine:=aS (by omega);refine call_function_entry_kw GM Gk Gm (ksk_s1 _ _) ?_;refine Aa (Ae ?_);refine Aa (an _ _ _ hr.hd fun h1 tk aj ak=>?_);refine Aa (Du ?_ zz);dsimp only;obtain⟨D,hD⟩:∃ D,D=h1.objs.size:=⟨_,rfl⟩
 have J:(h1.push (seqObj "list" its.toArray 0)).get? D=some (seqObj "list" its.toArray 0):=by
  rw[hD];exact Ax _ rfl
 have ab:∀ b o,s.heap.get? b=some o→(h1.push (seqObj "list" its.toArray 0)).get? b=some o:=fun b o e=>Ah _ (aj b o e);have Y:(h1.push (seqObj "list" its.toArray 0)).objs.size=D + 1:=by rw[size_push',hD]
 change wpAny _ _ (do let _ ← holding [AJ h1.objs.size] (call (.builtin "list.sort") [AJ h1.objs.size] [(Bx "key",.ref f)]);ret (AJ h1.objs.size)) _ _ { s with heap:=h1.push (seqObj "list" its.toArray 0),toks:=tk };rw[← hD];generalize h1.push (seqObj "list" its.toArray 0)=h2 at J ab Y ⊢;have af:s.heap.objs.size≤D:=by rw[hD];exact ak
 refine Aa (Bc (wpAny_call_entry_kw slot_list_sort ⟨_,J,rfl⟩ entry_list_sort ?_ (ksk_l1 _ _)));rw[ksk_t1];unfold ksk_tree;refine Aa (Ei J rfl ?_);refine Aa (Cv J rfl ?_ (by rw[Av];exact zz) (A0 _));have O:=get?_update_seq J (fun _=>#[]);generalize (if ((#[]:Array Ac).size == its.toArray.size)=true then 0 else 0 + 1)=e1 at O;have W:∀ b o,s.heap.get? b=some o→(h2.update D (Be fun _=>#[])).get? b=some o:=fun b o e=>by
  rw[Bt _ _ _ _ (AF (A6 (Ay e) af))];exact ab b o e
 have Z:(h2.update D (Be fun _=>#[])).objs.size=D + 1:=by rw[De,Y]
 dsimp only;generalize h2.update D (Be fun _=>#[])=h3 at O W Z ⊢;refine Aa (DI O rfl ?_);refine Aa (EU ?_ (by simpa using zz));refine Aa (Du ?_ (A0 _));dsimp only;refine Bc ?_;obtain⟨kS,hkS⟩:∃ kS,kS=(h3.push { cls:=AC "tuple",data:=Cq its.toArray.toList.toArray }).objs.size:=⟨_,rfl⟩
 have ar:((h3.push { cls:=AC "tuple",data:=Cq its.toArray.toList.toArray }).push { cls:=AC "list",data:=Cq ([]:List Ac).toArray }).get? kS=some (seqObj "list" ([]:List Ac).toArray 0):=by
  rw[hkS];exact Ax _ rfl
 have ai:((h3.push { cls:=AC "tuple",data:=Cq its.toArray.toList.toArray }).push { cls:=AC "list",data:=Cq ([]:List Ac).toArray }).get? D=some (seqObj "list" #[] e1):=Ah _ (Ah _ O);have aa:∀ b o,s.heap.get? b=some o→((h3.push { cls:=AC "tuple",data:=Cq its.toArray.toList.toArray }).push { cls:=AC "list",data:=Cq ([]:List Ac).toArray }).get? b=some o:=fun b o e=>Ah _ (Ah _ (W b o e));have U:kS=D + 2:=by rw[hkS,B2,Z]
 rw[← hkS];generalize (h3.push { cls:=AC "tuple",data:=Cq its.toArray.toList.toArray }).push { cls:=AC "list",data:=Cq ([]:List Ac).toArray }=h4 at ar ai aa ⊢;have ae:D≠kS:=AF (by rw[U];exact Bl (BN _));have I4:Inv X di σ H { s with heap:=h4,toks:=tk }:=I.kept (t':=tk) aa;have lD:s.heap.objs.size≤D:=af;have lK:s.heap.objs.size≤kS:=by rw[U];exact Bi af (Nat.le_add_right _ _)
 have nD:H D=none:=I.hok.fresh lD;have nK:H kS=none:=I.hok.fresh lK;have fD:∀ H',H' D=none→nN X di H' D:=fun H' hn=>I.fpOk lD hn;have fK:∀ H',H' kS=none→nN X di H' kS:=fun H' hn=>I.fpOk lK hn;unfold ksk_rest;refine Aa (CQ ?_);refine Aa ?_;rw[← Array.forIn_toList];have au:cZ k X.A.in1.in1:=(hr.in1).in1;refine aEa (KR:=KR) (X:=X) (di:=di) (σ:=σ) (A':=X.A.in1.in1) F au I.ok.frames hb (D:=D) (kS:=kS) (H0:=H) (e1:=e1) (xs:=xs) fD fK ae ao (er:=fun v e=>do
     rule "list.sort.key-raised"
     let am ← C7 (.ref kS)
     EC (.ref kS) fun x=>#[]
     letGo am.toList.reverse [e]
     EC (AJ D) fun x=>its.toArray
     throw e
     pure (CG Hh)) (fun v u=>by congr 1) its xs _ H [] [] [] 0 rv (fun y hy=>hy) I4 (bW.refl H) nD nK ai ar KsX.nil (by simp;omega) ?_
 intro s' H' ks kk e' I' S ag aA ap ah M bb;rw[List.nil_append]at M;obtain⟨z1,z2⟩:=M.len;refine Aa (Ei ah rfl ?_);refine aKC (kk:=kk) ap ah ae (by omega) (by omega) (by omega) (fun i hi=>(M.key i (by omega)).real I') fun p ho=>?_;refine⟨_,rfl,Ae ⟨_,rfl,?_⟩⟩;have av:∀ i∈p,i < xs.length:=fun i hi=>by
  have:=ho.1.mem_iff.mp hi;rw[BK]at this;omega
 have ay:=oI rv p av;have I6:Inv X di σ H' { s' with heap:=(s'.heap.update kS (Be fun _=>#[])).update D (Be fun _=>(p.map fun i=>its.getD i .none).toArray) }:=I'.turnedL (t':=s'.toks) (fp:=[kS,D]) (fun b o hb e=>by
  rw[Bt _ _ _ _ (fun z=>hb (by simp[z])),Bt _ _ _ _ (fun z=>hb (by simp[z]))];exact e) fun b hb=>by
   simp only[An,Az,or_false]at hb;rcases hb with rfl | rfl
   ·exact fK H' aA
   ·exact fD H' ag
 have aD:((s'.heap.update kS (Be fun _=>#[])).update D (Be fun _=>(p.map fun i=>its.getD i .none).toArray)).get? D=_:=get?_update_seq (c:="list") (xs:=#[]) (n:=e1) (by
  rw[Bt _ _ _ _ ae];exact ap) fun _=>(p.map fun i=>its.getD i .none).toArray
 have aC:=ho.1.length_eq;rw[BW]at aC;have aw:(p.map fun i=>xs.getD i V.non).length≤sizeLine:=aS (by rw[Ad];omega);exact⟨.ref D,_,I6.track (ob:=.lst (p.map fun i=>xs.getD i .non)) (fD H' ag) ⟨aw,_,_,ay,aD⟩,rfl,q D kk p _ (S.trans (aV ag)) nD (by omega) (fun i hi=>M.kr i hi) ho aH⟩
end
section
variable{X:Cx}{di:Ih}{σ:St}{H:Hp}{s:Af}{a:Ag}{fh:List (Key×V)}{k:Key}{u r:Ac}{A:AW}{E:Ac→Af→Prop}
theorem aKD{z:V}{Q:Ac→Af→Prop}(I:Inv X di σ H s)(e:H a=some (.dK fh))(hl:fh.length < 1000)(ry:c7 (kV k) u)(Y:c7 z r)
  (h1:∀ v O s',fQ fh k=some v→Inv X di σ H s'→c7 v O→Q O s') (h2:∀ s',fQ fh k=none→Inv X di σ (upd H a (.dK (gG fh k z))) s'→Q r s'):wpAny (model X.prog X.w) A (call (.builtin "dict.setdefault") [.ref a,u,r]) Q E s:=by
 obtain⟨zz,hd,vs,rel,dd⟩:=aAs I.hok e;refine Gn PySem.F.slot_dict_setdefault dd.typeIs PySem.F.entry_dict_setdefault (PySem.F.args_dict_setdefault_3 _ _ _) (kt_meets_setdefault (c9 X.prog X.w) a (sV ry) hd r) ⟨vs,dd,by rw[← rel.length];exact zz,fun O hw=>?_,fun hn h' M Z=>?_⟩
 ·have B:=rel.val k;rw[hw]at B;cases J:fQ fh k with
  | none=>rw[J]at B;cases B
  | some v=>
   rw[J]at B;obtain⟨w2,e2,r2⟩:=oV.some_of (v:=v) (o:=some O) B;cases e2;exact h1 v _ _ J (I.tok _) r2
 ·have J:fQ fh k=none:=by
   have B:=rel.val k;rw[hn]at B;cases J:fQ fh k with
   | none=>rfl
   | some v=>
    rw[J]at B;obtain⟨w2,e2,_⟩:=oV.some_of (v:=v) (o:=none) B;cases e2
  have W:∃ q,h'.get? a=some q:=let ⟨q,_,_,hq,_⟩:=M;⟨q,hq⟩
  have U:=j6 fh k z;exact h2 _ J (t4 I (by rw[e];exact Cj) Z W (aBU (aS (by omega)) hd (rel.put k Y) M))
end
def aKE(td ty tx:TE):TE:=fun σ H Q=>td σ H fun x H1=>∃ a,x=.ref a∧IsD H1 a∧ty σ H1 fun y H2=>tx σ H2 fun z H3=>∃ fh k,H3 a=some (.dK fh)∧fh.length < 1000∧y=kV k∧
 (∀ v,fQ fh k=some v→Q v H3)∧(fQ fh k=none→Q z (upd H3 a (.dK (gG fh k z))))
section
variable{X:Cx}{o e f:Bw}{fw ft:Pos}{td ty tx:TE}
theorem aFw(W:PE X o td)(Y:PE X e ty)(hf:PE X f tx)(m:M2 X o "setdefault" fw e f ft):PE X (.Call (.Attribute o "setdefault" fw) [e,f] [] ft) (aKE td ty tx):=by
 constructor;intro di s σ H Q I h;refine wpAny_Call_method m.base m.few m.line EK PySem.F.slot_dict_setdefault PySem.F.type_dict_setdefault (thn (W di s σ H _ I h) fun u M ⟨x,H1,J,rx,a,ex,d,O⟩=>?_);subst ex;obtain rfl:u=AJ a:=rx;obtain⟨t1,t2,_⟩:=aBW J d;refine⟨t1,t2,?_⟩;rw[m.trees];refine DW rfl (Fd (DN (thn (Y di M σ H1 _ J O) fun iv s2 ⟨y,H2,I2,ry,Z⟩=>
  DN (thn (hf di s2 σ H2 _ I2 Z) fun fv s3 ⟨z,H3,I3,B,fh,k,ea,hl,ey,q3,q4⟩=>FV ?_))))
 subst ey;exact aKD I3 ea hl ry B (fun v w' s4 hv q U=>⟨v,H3,q,U,q3 v hv⟩) fun s4 hn q=>⟨z,_,q,B,q4 hn⟩
end
def xV(v d:Ag):HO:=.ext fun h=>h.IsValuesView v d
def aJQ(td:TE):TE:=fun σ H Q=>td σ H fun x H1=>∃ d fh,x=.ref d∧H1 d=some (.dK fh)∧∀ v,H1 v=none→Q (.ref v) (upd H1 v (xV v d))
section
variable{X:Cx}{o:Bw}{fw ft:Pos}{td:TE}
theorem aEb(U:PE X o td)(q:attributeBase o "values" X.env (eval o X.env)=eval o X.env:=by rfl)(z:(fw.endLine == ft.line)=true:=by rfl):PE X (.Call (.Attribute o "values" fw) [] [] ft) (aJQ td):=by
 constructor;intro di s σ H Q I h;refine wpAny_Call_method0_late q z (thn (U di s σ H _ I h) fun v J ⟨x,H1,M,W,d,fh,ex,hd,O⟩=>?_);subst ex;obtain rfl:v=AJ d:=W;obtain⟨t1,t2,_⟩:=aBW M (.inl ⟨fh,.inl hd⟩);obtain⟨zz,hds,vs,rel,dd⟩:=aAs M.hok hd;refine⟨"dict","dict.values",EK,PySem.F.slot_dict_values,PySem.F.type_dict_values,t1,t2,DW rfl (PySem.evalArgs_none ?_)⟩;refine Gn PySem.F.slot_dict_values dd.typeIs PySem.F.entry_dict_values (PySem.F.args_dict_values_1 _) (meets_dict_values (c9 X.prog X.w) d hds) ⟨⟨vs,dd⟩,?_⟩;have hn:=M.hok.fresh (Ao J.heap.objs.size);have B:Heap.IsValuesView (J.heap.push { cls:=.type "dict_values",data:=.fields #[.ref d] }) J.heap.objs.size d:=⟨_,Ax _ rfl,rfl,rfl⟩
 refine⟨.ref J.heap.objs.size,_,M.laid (t':=J.toks) (o:=xV J.heap.objs.size d) (fun b u e=>Ah _ e) (Ao _) ⟨B,⟨_,Ax _ rfl⟩,fun h1 h2 f g=>?_⟩,rfl,O _ hn⟩;obtain⟨ob,hob,r⟩:=f;exact⟨ob,g ob hob,r⟩
end
section
variable{prog:AG}{w:A2}{A:AW}{v d:Ag}{vs:List (Key×Ac)}
theorem vO(hh:A.handled=none){E:Ac→Af→Prop}{s:Af}{Q:List Ac→Af→Prop}(hv:s.heap.IsValuesView v d)(hm:s.heap.DictOf (c9 prog w) d vs)(hz:vs.length≤1000)
  (h:∀(h':Bp) (tk:Nat),(∀ b u,s.heap.get? b=some u→h'.get? b=some u)→s.heap.objs.size≤h'.objs.size→Q (vs.map (·.2)) { s with heap:=h',toks:=tk }):wpAny (model prog w) A (collect (.ref v)) Q E s:=by
 obtain⟨ov,hov,hcv,hdv⟩:=id hv;obtain⟨od,es,ep,hod,hrest⟩:=id hm;have ak:=Ay hov;have Y:=Ay hod;unfold collect;apply Aa;apply Eh;apply BX Fo;rw[BM Fn];show wpAny _ A.in1 (newList [] >>= fun l=>again (.builtin "list.__iadd__" ⟨[l,.ref v],[]⟩)) _ _ s;apply Aa;refine BZ (Ae ⟨Dv DA _,BX Gg ?_⟩);rw[BM DA];have O:(s.heap.push { cls:=.type "list",data:=.seq ([]:List Ac).toArray }).get? v=some ov:=Ah _ hov;have ac:(s.heap.push { cls:=.type "list",data:=.seq ([]:List Ac).toArray }).get? d=some od:=Ah _ hod;have am:(s.heap.push { cls:=.type "list",data:=.seq ([]:List Ac).toArray }).get? s.heap.objs.size=some { cls:=.type "list",data:=.seq ([]:List Ac).toArray }:=Ax _ rfl;have e1:Builtin.List.listSameRef (.ref s.heap.objs.size) (.ref v)=false:=by
  show(s.heap.objs.size == v)=false;simpa using C5 ak
 show wpAny _ A.in1 (Ce (.ref s.heap.objs.size) (.ref v) (.ref s.heap.objs.size)) _ _ _;unfold Ce;refine Aa (BR (T:="dict_values") ⟨ov,O,hcv⟩ ?_);rw[Ia (by rw[e1];decide)];refine Aa (wpAny_pyIter_values (kvs:=vs) (ep:=ep) (knd:=c9 prog w) ⟨ov,O,hcv,hdv⟩ ⟨od,es,ac,hrest⟩ ?_);have ap:(s.heap.push { cls:=.type "list",data:=.seq ([]:List Ac).toArray }).objs.size=s.heap.objs.size + 1:=B2 _ _;obtain⟨I,hI⟩:∃ I,I=(s.heap.push { cls:=.type "list",data:=.seq ([]:List Ac).toArray }).objs.size:=⟨_,rfl⟩
 dsimp only;have gI:((s.heap.push { cls:=.type "list",data:=.seq ([]:List Ac).toArray }).push { cls:=.type "dict_valueiterator",data:=.fields #[.ref d,.int 0 0,.int vs.length 0,.int ep 0] }).get? I=some { cls:=.type "dict_valueiterator",data:=.fields #[.ref d,.int 0 0,.int vs.length 0,.int ep 0] }:=by
  rw[hI];exact Ax _ rfl
 have q:∀ b u,(s.heap.push { cls:=.type "list",data:=.seq ([]:List Ac).toArray }).get? b=some u→((s.heap.push { cls:=.type "list",data:=.seq ([]:List Ac).toArray }).push { cls:=.type "dict_valueiterator",data:=.fields #[.ref d,.int 0 0,.int vs.length 0,.int ep 0] }).get? b=some u:=fun b u e=>Ah _ e;rw[← hI];generalize (s.heap.push { cls:=.type "list",data:=.seq ([]:List Ac).toArray }).push { cls:=.type "dict_valueiterator",data:=.fields #[.ref d,.int 0 0,.int vs.length 0,.int ep 0] }=h2 at gI q ⊢;have Z:=q _ _ O;have ah:=q _ _ ac;have ae:=q _ _ am;have B:I=s.heap.objs.size + 1:=by rw[hI,ap]
 refine Aa (Bc ?_);unfold Builtin.List.listLengthHint;refine Aa (DY (T:="dict_values") ⟨ov,Z,hcv⟩ F.slot_dict_values_len.lookup ?_);generalize hid:("dict_values.__len__":String)=aq
 wp_delta
 rw[show splitId aq=some ("dict_values","__len__") from by subst hid;decide];subst hid;refine Aa (BY (b:=true) (T:="dict_values") ⟨ov,Z,hcv⟩ (by rw[G8];kernel_rfl) ?_);refine Aq (by rfl) ?_;refine BL (by decide) ?_;refine Aa (BR (T:="dict_values") ⟨ov,Z,hcv⟩ ?_);refine Ae ?_;refine BL (by decide) ?_;refine Aa (CQ ?_);have an:d≠I:=by rw[B];exact AF (Bl Y)
 have ai:s.heap.objs.size ∉ [I,d]:=by
  rw[B];simp only[An,Az,or_false,not_or];exact⟨AF (BN _),C5 Y⟩
 apply Aa;show wpAny _ A.in1 (updateSeq s.heap.objs.size (·.push .none) >>= fun _=>updateSeq s.heap.objs.size (·.pop)) _ _ _
 apply Aa;refine Fq ae rfl ?_;have ad:=B5 (Be (·.push Ci)) ae rfl
 refine Fq ad rfl ?_;have ag:=B5 (Be (·.pop)) ad rfl
 have U:∀ b u,b≠s.heap.objs.size→h2.get? b=some u→((h2.update s.heap.objs.size (Be (·.push Ci))).update s.heap.objs.size (Be (·.pop))).get? b=some u:=
  fun b u nb e=>(CP _ _ (Ep nb)).trans ((CP _ _ (Ep nb)).trans e)
 have W:=Walks.dictValues (prog:=prog) (w:=w) (knd:=c9 prog w) (A:=A.in1) hh I d an vs ep;have ao:I≠s.heap.objs.size:=by rw[B];exact C5 (BN _)
 refine Ae ⟨Dv F.plain_extend_loop _,codeAny_extend_loopS (FW W) (aS (by omega)) s.heap.objs.size ai _ _ 0 _ _ _ rfl (A0 _) ⟨⟨_,U _ _ ao gI,rfl,rfl⟩,⟨od,es,U _ _ (AF Y) ah,hrest⟩⟩ ag (ItemsOf.nil _) fun s' z c' J aa M=>?_⟩;show wpAny _ A (load s.heap.objs.size >>= _) _ _ s';apply Aa;refine GX aa (Ae ?_);obtain⟨h',g',d',tk',os'⟩:=s';have g1:=J.gens;have g2:=J.os;have g3:=J.drawn;dsimp only at g1 g2 g3;subst g1 g2 g3;have af:z.toList=vs.map (·.2):=by
  apply CJ;intro j;by_cases hj:j < z.size
  ·obtain⟨k,hk⟩:=M.2 j z[j] (by simp[hj]);rw[AS,hk];simp[hj]
  ·have:=M.1;rw[AZ (by simpa using hj),AZ (by rw[Ad];omega)]
 rw[af];refine h h' tk' (fun b u e=>?_) (Dj (Ay aa));have ab:=Ay e;have nb:b≠s.heap.objs.size:=AF ab;have nI:b≠I:=by rw[B];exact AF (Bl ab)
 exact J.heap b u (by simp[nb,nI]) (U b u nb (q b u (Ah _ e)))
end
def aKF(K:Aj)(sp:Sp)(ta:TA):TE:=fun σ H Q=>ta σ H fun vs H1=>∃(l:Ag) (xs:List V) (KR:V→K3→Prop),vs=[V.ref l]∧(SqL K H1 l xs∨∃ d fh,H1 l=some (xV l d)∧H1 d=some (.dK fh)∧xs=fh.map (·.2))∧xs.length < 64∧
 (∀ y∈xs,∀(H':Hp) (Q:VK),bW H1 H'→(∀ t a b c H'',bW H' H''→H'' t=some (.tup [.int a,.int b,.str c])→KR y (a,b,c)→Q (.ref t) H'')→sp [y] H' Q E0)∧
 ∀ D (kk:List K3) (p:List Nat) H',bW H1 H'→H1 D=none→kk.length=xs.length→(∀ i,i < xs.length→KR (xs.getD i .non) (kk.getD i k0))→aAW kk p→H' D=some (.lst (p.map fun i=>xs.getD i .non))→Q (.ref D) H'
theorem aGX{fh:List (Key×V)}{vs:List (Key×Ac)}(r:KV fh vs):c0 (fh.map (·.2)) (vs.map (·.2)):=by
 induction r with
 | nil=>exact .nil
 | cons h _ q=>exact .cons h.2 q
section
variable{X:Cx}{e:Bw}{ta:TA}
theorem vP{k:Nat}{f:Ag}{fd:AK}{x g:Str}{sp:Sp}{p pk kp pos:Pos}(F:cY X.prog X.w X.K X.mg X.base CX0 k f fd [x] sp)(hr:cZ (k + 2) X.A)(hb:eU X.K fd [x] [])(hg:Gl X "sorted")(hm:X.mg "sorted"=none)(aa:Gl X g)(U:X.mg g=some (.ref f))(ha:PA X [e] ta)
  (hd:(g == ("__debug__":Str))=false:=by decide) (he:starEach [e] X.env=[(false,eval e X.env)]:=by rfl):
  PE X (.Call (.Name "sorted" p) [e] [⟨some "key",.Name g pk,kp⟩] pos) (aKF X.K sp ta):=by
 constructor;intro di s σ H Q I h;refine D5 (uE I hg hm boot_sorted ?_ (by decide) (by decide));refine callWith_builtin_kwB (by rw[he];rfl) (by rfl) ?_;have z:=ha pos di s σ H _ I h
 ·rw[he]at z ⊢;refine evalArgs_kwB (by rfl) (thn z fun us s1 ⟨vs,H1,I1,r,q1⟩=>?_);obtain⟨l,xs,KR,rfl,J,h64,hkey,q⟩:=q1;have Z:PK X [⟨some "key",.Name g pk,kp⟩] (aCK (tC (.ref f)) aIo):=aGP (dS aa U rfl hd) aIp;refine thn (Z pos di s1 σ H1 (fun zs H2=>zs=[V.ref f]∧H2=H1) I1 ⟨rfl,rfl⟩) fun ws s2 ⟨zs,H2,O,rz,ez,eH⟩=>?_;subst ez eH;cases rz with
  | cons r1 r2=>
   cases r1;cases r2;cases r with
   | cons r3 r4=>
    cases r3;cases r4;rcases J with J | ⟨d,fh,J,W,rfl⟩
    ·obtain⟨its,rv,pl,_⟩:=O.list J;have M:=rv.length;refine aAX (KR:=KR) F hr hb O rv (fun B Q' E' hB Y=>?_) h64 hkey q;refine collect_list pl.isList (Y _ s2.toks (fun b u e=>?_) ?_) (aS (by omega))
     ·rw[Bt _ _ _ _ (AF (Ay e))];exact Ah _ e
     ·rw[De,B2];exact C6 _
    ·obtain⟨hv,_,_⟩:dC X.prog X.w H2 s2.heap l (xV l d):=O.hok l _ J;obtain⟨_,_,vs,rel,dd⟩:=aAs O.hok W;have M:=rel.length;rw[Ad]at h64;refine aAX (KR:=KR) F hr hb O (aGX rel) (fun B Q' E' hB Y=>?_) (by rw[Ad];exact h64) hkey q;exact vO hB hv dd (by omega) fun h' tk k1 k2=>Y h' tk k1 k2
end
theorem aGY{X:Cx}{B:List B8}{h₀:ExceptHandler}{J:List ExceptHandler}{pos:Pos}{t:TS}(M:∀ e s,X.xe e s→False)(h:PSs X B t):PS X (.Try B (h₀ :: J) [] [] pos) t:=by
 constructor;intro di s σ H D I q;refine wpAny_Try_except (Ca (h di s σ H D I q) (fun f F r=>?_) fun e F z=>(M e F z).elim);cases f with
 | next=>exact EF r
 | _=>exact r
def aEc:Nat→Ai→Prop
 | 0,d=>∀ ds,d≠.tuple ds∧d≠.list ds
 | n + 1,d=>(∀ ds,d≠.tuple ds∧d≠.list ds)∨∃ ds,d=.tuple ds∧∀ e∈ds,aEc n e
theorem pL:∀{ds:List Ai}{d:Ai},AX ds=false→d∈ds→d.hasDict=false
 | [],_,_,h=>by simp at h
 | e :: ds,d,h,hm=>by
  have h':(e.hasDict || AX ds)=false:=h;rw[Fi]at h';rcases An.mp hm with rfl | hm
  ·exact h'.1
  ·exact pL h'.2 hm
theorem aGZ{X:Cx}{di:Ih}{σ:St}{H:Hp}{s:Af}(I:Inv X di σ H s):∀(n:Nat) {A:AW}{d:Ai}{x y:V}{u v:Ac},aEc n d→d.hasDict=false→A.units + 4 * n + 4 < cLine→RdV false H x d→RdV false H y d→c7 x u→c7 y v→FA A s u v true:=by
 have M:∀{A:AW} {d:Ai} {x y:V} {u v:Ac},(∀ ds,d≠.tuple ds∧d≠.list ds)→d.hasDict=false→RdV false H x d→RdV false H y d→c7 x u→c7 y v→FA A s u v true:=by
  intro A d x y u v hl hd U F B q;cases U with
  | non=>cases F;cases B;cases q;exact EJ _
  | bl b=>cases F;cases B;cases q;exact EJ _
  | int i=>
   cases F;have:=rH (A:=A) (s:=s) B q rfl rfl;simpa[eqV]using this
  | str z hz=>
   cases F;have:=rH (A:=A) (s:=s) B q rfl rfl;simpa[eqV]using this
  | lst hm e hz r=>cases hm
  | tup e hz r=>exact absurd rfl (hl _).1
  | dct hm e=>simp[Ey]at hd
 intro n
 induction n with
 | zero=>intro A d x y u v O hd hu U F B q;exact M O hd U F B q
 | succ n ih=>
  intro A d x y u v O hd hu U F B q;rcases O with O | ⟨ds,rfl,O⟩
  ·exact M O hd U F B q
  ·cases U with
   | @tup a xs _ ea ad r1=>
   cases F with
   | @tup b ys _ eb am r2=>
   cases B;cases q;by_cases W:a=b
   ·subst W;exact EJ _
   ·obtain⟨its,q1,t1,_⟩:=I.tuple (bI ea);obtain⟨its2,q2,t2,_⟩:=I.tuple (bI eb);have l1:=q1.length;have l2:=q2.length;have m1:=r1.len;have m2:=r2.len;have key:=SeqAt.RcAt.tuples (A:=A) (e:=fun _=>true) t1 t2 (by omega) (fun j h1 h2=>?_)
    ·have e1:((AU (min its.toArray.size its2.toArray.size)).all (fun _=>true) && its.toArray.size == its2.toArray.size)=true:=by
      simp;omega
     rw[e1]at key;exact SeqAt.EqAt.of_refs W key
    ·have Z:j < xs.length:=by simpa[l1]using h1
     have j2:j < ys.length:=by simpa[l2]using h2
     obtain⟨d1,hd1,rd1⟩:=r1.at (Ab Z);obtain⟨d2,hd2,rd2⟩:=r2.at (Ab j2);rw[hd1]at hd2;cases hd2;obtain⟨u1,eu1,ru1⟩:=q1.get (Ab Z);obtain⟨u2,eu2,ru2⟩:=q2.get (Ab j2);have g1:its.toArray[j]=u1:=by
      rw[Ab (by simpa using h1)]at eu1;simpa using eu1
     have g2:its2.toArray[j]=u2:=by
      rw[Ab (by simpa using h2)]at eu2;simpa using eu2
     rw[g1,g2];have J:=AN hd1;have Y:d1.hasDict=false:=pL (show AX ds=false from hd) J;exact ih (O d1 J) Y (by show A.units + 1 + 4 * n + 4 < _;omega) rd1 rd2 ru1 ru2
theorem xW{X:Cx}{n:Nat}(hu:X.A.units + 4 * n + 8 < cLine):OpR X (compareOp .NotEq) (fun x y H Q=>∃ a b ds,x=.ref a∧y=.ref b∧RdV false H x (.tuple ds)∧RdV false H y (.tuple ds)∧(∀ e∈ds,aEc n e)∧AX ds=false∧Q (.bl false) H):=by
 intro di s σ H x y v u Q I rx Y h;obtain⟨a,b,ds,rfl,rfl,h1,h2,hp,hd,q⟩:=h;cases rx;cases Y;cases h1 with
 | @tup _ xs _ U O M=>
 cases h2 with
 | @tup _ ys _ eb ac J=>
 obtain⟨its,q1,t1,_⟩:=I.tuple (bI U);obtain⟨its2,q2,t2,_⟩:=I.tuple (bI eb);have l1:=q1.length;have l2:=q2.length;have m1:=M.len;have m2:=J.len;refine SeqAt.RcNeAt.tuples (A:=X.A) (e:=fun _=>true) t1 t2 (by omega) (fun j h1 h2=>?_) X.prog X.w _ _ ?_
 ·have B:j < xs.length:=by simpa[l1]using h1
  have F:j < ys.length:=by simpa[l2]using h2
  obtain⟨d1,hd1,rd1⟩:=M.at (Ab B);obtain⟨d2,hd2,rd2⟩:=J.at (Ab F);rw[hd1]at hd2;cases hd2;obtain⟨u1,eu1,ru1⟩:=q1.get (Ab B);obtain⟨u2,eu2,ru2⟩:=q2.get (Ab F);have g1:its.toArray[j]=u1:=by
   rw[Ab (by simpa using h1)]at eu1;simpa using eu1
  have W:its2.toArray[j]=u2:=by
   rw[Ab (by simpa using h2)]at eu2;simpa using eu2
  rw[g1,W];have z:=AN hd1;exact aGZ I n (hp d1 z) (pL hd z) (by show X.A.units + 1 + 4 * n + 4 < _;omega) rd1 rd2 ru1 ru2
 ·have Z:(!((AU (min its.toArray.size its2.toArray.size)).all (fun _=>true) && its.toArray.size == its2.toArray.size))=false:=by
   simp;omega
  rw[Z];exact⟨.bl false,H,I,rfl,q⟩
inductive Fm:V→Str→Prop
 | str (z:Str) (h:z.length≤sizeLine):Fm (.str z) z
 | int (i:Int) (h:i.natAbs.log2 < 1920):Fm (.int i) (toString i)
abbrev TJ:=Str→St→Hp→VK→Prop
structure PJ(X:Cx)(es:List Bw)(t:TJ):Prop where
 run:∀(di:Ih) (s:Af) (σ:St) (H:Hp) (Q:VK) (acc:Str),Inv X di σ H s→t acc σ H Q→wpAny (model X.prog X.w) X.A (joinParts acc (evalEach es X.env)) (EP X di σ Q) X.xe s
inductive J0(acc:Str)(σ:St)(H:Hp)(Q:VK):Prop
 | mk (h:acc.length≤sizeLine) (q:Q (.str acc) H):J0 acc σ H Q
inductive JC(z:Str)(t:TJ)(acc:Str)(σ:St)(H:Hp)(Q:VK):Prop
 | mk (h:(acc ++ z).length≤sizeLine) (q:t (acc ++ z) σ H Q):JC z t acc σ H Q
inductive JF(t:TJ)(acc:Str)(σ:St)(x:V)(H:Hp)(Q:VK):Prop
 | mk (z:Str) (f:Fm x z) (h:(acc ++ z).length≤sizeLine) (q:t (acc ++ z) σ H Q):JF t acc σ x H Q
section
variable{X:Cx}{es:List Bw}{t:TJ}{te:TE}
end
open PySem PySem.Spec PyProof.Rows PySem.Builtin PySem.Builtin.Str
inductive aG0(x:V)(xs:List V)(H:Hp)(Q:VK):Prop
 | mk (z y:PySem.Str) (h0:x=.str z) (h1:xs=[.str y]) (hy:(y.length == 0)=false) (hz:z.length + 2≤sizeLine) (q:∀ L,H L=none→Q (.ref L) (upd H L (.lst ((Txt.split z y).map V.str)))):aG0 x xs H Q
open PySem PySem.Spec PyProof.Rows PySem.NumText
inductive aJR(xs:List V)(H:Hp)(Q:VK):Prop
 | mk (x:V) (z:Str) (h0:xs=[x]) (f:Fm x z) (q:Q (.str z) H):aJR xs H Q
inductive aJS(xs:List V)(H:Hp)(Q:VK):Prop
 | mk (z:Str) (n:Int) (h0:xs=[.str z]) (hn:PySem.intText? z=some n) (hl:z.length≤640) (q:Q (.int n) H):aJS xs H Q
section
variable{prog:AG}{w:A2}{K:Type}[DecidableEq K]{knd:HeapKind prog w K}{A:AW}{E:Ac→Af→Prop}{s:Af}
end
open PySem PySem.SetTable
inductive aFx(t:Di):Probe→Nat→Prop
 | here {p:Probe} {n:Nat}:t.slot p.j=.empty→aFx t p n
 | step {p:Probe} {n:Nat}:aFx t (t.advance p) n→aFx t p (n + 1)
def aKP(t:Di)(i perturb:Nat):Probe:={ j:=i,more:=runEnd t.mask i - i,i:=i,perturb:=perturb,dummy:=none }
def orb(m:Nat):Nat→Nat→Nat
 | 0,i=>i
 | k + 1,i=>orb m k ((i * 5 + 1) % m)
structure aJT(t:Di)(n:Nat):Prop where
 size:t.place.size=n
 nod:t.dummies=#[]
 mask:(t.mask=7∧n≤4)∨(t.mask=31∧n≤18)
inductive aFy(owner:Array (Option Nat)):Nat→Nat→Nat→Prop
 | here {i p n:Nat}:(owner.getD i (some 0)).isNone=true→aFy owner i p (n + 1)
 | step {i p n:Nat}:aFy owner (SetTable.leap 31 i p).1 (SetTable.leap 31 i p).2 n→aFy owner i p (n + 1)
structure aK2(owner:Array (Option Nat))(k:Nat):Prop where
 size:owner.size=32
 perm:((AU 32).filterMap fun j=>owner.getD j none).Perm (AU k)
section
variable{prog:AG}{w:A2}{A:AW}{E:Ac→Af→Prop}{s:Af}
inductive aHV(prog:AG)(w:A2)(h:Bp)(ks:List (List Str))(v:Ac):Prop
 | mk (b:_) (k:_) (q0:v=.ref b) (q1:IsTupleKey (strKind prog w) h k b) (q2:k∈ks):aHV prog w h ks v
def ElT(prog:AG)(w:A2)(h:Bp)(ks:List (List Str))(v:Ac):Prop:=aHV prog w h ks v
end
section
variable{prog:AG}{w:A2}{A:AW}{E:Ac→Af→Prop}{s:Af}
structure aK3(prog:AG)(w:A2)(h:Bp)(a:Ag)(rs:List Ag)(ks:List (List Str))(o:Obj)(es:Array (Int×Ac))(ep:Nat)(t:Di):Prop where
 at_:h.get? a=some o
 ex:o.ExactSet
 data:o.data=.set es ep t
 perm:(es.toList.map (·.2)).Perm (rs.map AJ)
 els:∀ e∈es.toList,ElT prog w h ks e.2
 tab:aJT t es.size
 led:vD w es t
end
abbrev P2:=Str×Str
inductive aC3(h:Bp)(v:Ac)(x:P2):Prop
 | mk (t:_) (u1:_) (u2:_) (q0:v=.ref t) (q1:Fc h t #[.str x.1 u1,.str x.2 u2]):aC3 h v x
def aKQ(h:Bp)(v:Ac)(x:P2):Prop:=aC3 h v x
section
variable{prog:AG}{w:A2}{A:AW}{E:Ac→Af→Prop}{s:Af}
end
section
variable{prog:AG}{w:A2}{A:AW}{E:Ac→Af→Prop}{s:Af}
end
def aFz(H:Hp)(r:Ag):P2:=match H r with
 | some (.tup [.str x,.str y])=>(x,y)
 | _=>("","")
def aKR(H:Hp)(rs:List Ag):Prop:=∀ r∈rs,H r=some (.tup [.str (aFz H r).1,.str (aFz H r).2])
section
variable{P:AG}{w:A2}{H:Hp}{h:Bp}{a:Ag}
end
section
variable{X:Cx}{di:Ih}{σ:St}{H:Hp}{s:Af}
end
section
variable{prog:AG}{w:A2}{A:AW}{E:Ac→Af→Prop}{s:Af}{d I:Ag}{od:Obj}{es:Array DictEntry}{ep i:Nat}
end
section
variable{X:Cx}
end
section
variable{X:Cx}{e st:Bw}{te ts:TE}{pos p2:Pos}
end
structure Fly(P:AG)(w:A2)(outer:List Env)(H H':Hp)(s:Af)(x:Ag)(C:Ac)(s':Af):Prop where
 os:s'.os=s.os
 bare:ER s'.gens
 ex:∃(B:Bp) (a0:Ac),Heap.FlyingW B outer x C a0 s'.heap∧HOk P w H' B∧(∀ b o,s.heap.get? b=some o→H b=none→b ∉ frs outer→B.get? b=some o)∧∀ b o,s.heap.get? b=some o→b ∉ frs outer→∃ o',B.get? b=some o'
 frf:∀ b∈frs outer,H b=none
 slot:∀ b o,s.heap.get? b=some o→H b=none→b∈frs outer→∃ sl,s'.heap.get? b=some { o with slots:=sl }
 free:∀ b o,s.heap.get? b=some o→H b=none→H' b=none
 tups:∀ b xs,H b=some (.tup xs)→H' b=some (.tup xs)
 frzs:∀ b o u,H b=some (.frz o u)→H' b=some (.frz o u)
 tbls:∀ b ps,H b=some (.tbl ps)→∃ more,H' b=some (.tbl (ps ++ more))
def CXr(P:AG)(w:A2):CXT:=fun outer H s E e s'=>∃(x:Ag) (C:Ac) (H':Hp),e=.ref x∧Fly P w outer H H' s x C s'∧E C none H'
section
variable{P:AG}{w:A2}{K:Aj}{mg:Str→Option Ac}{base:Bp}{N:List Str}{qual:Str}{scope:DV}{f:Ag}{cd:Ac}{A:AW}{outer:List Env}{s:Af}{H:Hp}{E:XK}
end
structure aKS(h:Bp)(C:Ag)(bmB:List Ac)(newId:String)(tl:List Ac)(N':Ag)(nm q:Str)(bs:List Ac)(hdct:Bool)(sn:List Str)(sub:List Ac)(ab:Bool)(col:Option Bool)(dd:Option Ag)(k0 k1 k2 k3 k5:Option Ac)(mN:Str→Option Ac):Prop where
 ob:h.get? C=some (excClassObj nm q C N' bs tl hdct sn sub ab col dd k0 k1 k2 k3 k5 newId)
 ns:h.Ns N' mN
 ni:mN "__init__"=none
 tl:OwnTail h bmB tl
section
variable{P:AG}{w:A2}{K:Aj}{mg:Str→Option Ac}{base:Bp}{N:List Str}{qual:Str}{scope:DV}{f:Ag}{cd:Ac}{A:AW}{outer:List Env}{s:Af}{H:Hp}{E:XK}
end
def aG1:Bool→BV→Array BV→Nat→Nat→Nat→StateT Bq Sem (Option Nat):=sortPriv% PySem.Builtin.gallop
def aFA:Array BV→Array BV→StateT Bq Sem (Array BV):=sortPriv% PySem.Builtin.mergeLo
def aFB:Array BV→Array BV→StateT Bq Sem (Array BV):=sortPriv% PySem.Builtin.mergeHi
section
variable{prog:AG}{w:A2}{A:AW}{E:Ac→Af→Prop}{s:Af}{κ:Dt}{it:Array BV}
def pM(prog:AG)(w:A2)(A:AW)(s:Af)(κ:Dt)(it:Array BV):Prop:=
 ∀ x y,x∈it.toList→y∈it.toList→∀ C:Bool→Af→Prop,(∀ b,C b s)→wpAny (model prog w) A (keyLt' κ x.1 y.1) C (fun _ _=>False) s
theorem f6{arr:Array BV}{i:Nat}{p:BV}{st:Bq}{Q:BV→Bq→Prop}(hi:arr[i]?=some p)(h:Q p st):wpS (model prog w) A E s (elem' arr i) Q st:=by
 rw[elem'_eq,hi];exact AR h
variable(hc:pM prog w A s κ it)
include hc
theorem vQ{x y:BV}{st:Bq}{Q:Option Bool→Bq→Prop}(q:kindOf st=κ)(B:x∈it.toList)(z:y∈it.toList)(h:∀ b,Q (some b) st):wpS (model prog w) A E s (lt' x y) Q st:=by
 rw[lt'_eq];refine AA (EI ?_);rw[q];refine AA (FH (Ex (Ca (hc x y B z (fun b s'=>s'=s) fun _=>rfl) (fun b s' e=>⟨e,?_⟩) fun _ _ e=>e.elim)));exact AR (h b)
theorem iH{left:Bool}{key:BV}{arr:Array BV}{base n J:Nat}{st:Bq}{Q:Option Nat→Bq→Prop}(M:key∈it.toList)(U:∀ i,i < n→∃ p,arr[base + i]?=some p∧p∈it.toList)(hh:J < n)(hk:kindOf st=κ)
  (h:∀ k,k≤n→Q (some k) st):wpS (model prog w) A E s (aG1 left key arr base n J) Q st:=by
 have O:∀(i:Nat) (Y:Option Bool→Bq→Prop),i < n→(∀ b,Y (some b) st)→wpS (model prog w) A E s (do
   let x ← elem' arr (base + i)
   if left=true then lt' x key else do
    let r ← lt' key x
    pure (r.map fun b=>!b)) Y st:=fun i Y hi q=>by
  obtain⟨p,e,hp⟩:=U i hi;refine AA (f6 e ?_);split
  ·exact vQ hc hk hp M q
  ·exact AA (vQ hc hk M hp fun b=>AR (q _))
 refine AA (O J _ hh fun b=>?_);dsimp only;split <;>
 ·refine AA (Dh (Cb (I:=fun _ c B=>B=st∧c.1=none) (Q:=fun c B=>B=st∧c.1=none) ?_ (fun c B z=>z) ⟨rfl,rfl⟩) ?_)
  ·rintro x ⟨r,lo,Z⟩ B _ _ ⟨rfl,z⟩;cases z;dsimp only;split
   ·exact AR ⟨rfl,rfl⟩
   ·refine AA (O _ _ (by omega) fun b=>?_);dsimp only;split <;> exact AR ⟨rfl,rfl⟩
  ·rintro⟨r,lo,Z⟩ B ⟨rfl,z⟩;cases z;dsimp only;refine AA (Dh (Cb (I:=fun _ c F=>F=B∧c.1=none∧c.2.2≤n) (Q:=fun c F=>F=B∧c.1=none∧c.2.2≤n) ?_ (fun c B z=>z) ⟨rfl,rfl,?_⟩) ?_)
   ·rintro x ⟨r,lo,hi⟩ F _ _ ⟨rfl,z,W⟩;cases z;dsimp only at W ⊢;split
    ·exact AR ⟨rfl,rfl,W⟩
    ·refine AA (O _ _ (by omega) fun b=>?_);dsimp only;split
     ·exact AR ⟨rfl,rfl,W⟩
     ·exact AR ⟨rfl,rfl,by dsimp only;omega⟩
   ·dsimp only;omega
   ·rintro⟨r,lo,hi⟩ F ⟨rfl,z,W⟩;cases z;exact AR (h _ W)
end
theorem pr3{α β γ:Type}{P:α×β×γ→Prop}(h:∀ a b c,P (a,b,c)):∀ x,P x:=fun⟨a,b,c⟩=>h a b c
def Pl(a b out:Array BV)(ia ib:Nat):Prop:=(out.toList ++ (a.toList.drop ia ++ b.toList.drop ib)).Perm (a.toList ++ b.toList)
section
variable{a b out:Array BV}{ia ib k:Nat}
theorem xX{c:Array BV}{i:Nat}{p:BV}(e:c[i]?=some p):c.toList.drop i=p :: c.toList.drop (i + 1):=by
 have q:c.toList[i]?=some p:=by rw[Dm];exact e
 obtain⟨h1,h2⟩:=AM.mp q;rw[← h2];exact List.drop_eq_getElem_cons h1
theorem fJ{c:Array BV}{i j:Nat}:(c.extract i j).toList=(c.toList.drop i).take (j - i):=by simp
theorem t7{c:Array BV}{i:Nat}:(c.extract i c.size).toList=c.toList.drop i:=by
 rw[fJ,Br];simp
theorem Pl.pushA{p:BV}(h:Pl a b out ia ib)(e:a[ia]?=some p):Pl a b (out.push p) (ia + 1) ib:=by
 unfold Pl at h ⊢;rw[xX e]at h;rw[CI,Bg];exact h
theorem Pl.pushB{p:BV}(h:Pl a b out ia ib)(e:b[ib]?=some p):Pl a b (out.push p) ia (ib + 1):=by
 unfold Pl at h ⊢;rw[xX e]at h;rw[CI,Bg];exact(Bu _ (List.perm_middle (l₁:=a.toList.drop ia) (a:=p)).symm).trans h
theorem Pl.runA(h:Pl a b out ia ib):Pl a b (out ++ a.extract ia (ia + k)) (ia + k) ib:=by
 unfold Pl at h ⊢;rw[Bj,fJ,DT,Bg,← Bg (DC _ _),← Fh,Ea];exact h
theorem Pl.runB(h:Pl a b out ia ib):Pl a b (out ++ b.extract ib (ib + k)) ia (ib + k):=by
 unfold Pl at h ⊢;refine DE ?_ h;rw[Bj,fJ,DT,Bg];refine Bu _ ?_;refine(Ez _ _ _).trans (Bu _ ?_);rw[← Fh,Ea]
theorem Pl.fin(h:Pl a b out ia ib):(out ++ a.extract ia a.size ++ b.extract ib b.size).Perm (a ++ b):=by
 rw[Bd,Bj,Bj,Bj,t7,t7,Bg];exact h
theorem Pl.fin2(h:Pl a b out ia ib):(out ++ b.extract ib b.size ++ a.extract ia a.size).Perm (a ++ b):=by
 rw[Bd,Bj,Bj,Bj,t7,t7,Bg];exact(Bu _ CY).trans h
theorem Pl.start{p:BV}(e:b[0]?=some p):Pl a b #[p] 0 1:=by
 have h:Pl a b #[] 0 0:=Dl _;exact h.pushB e
end
theorem bZ{M:Ha}{A:AW}{E:Ac→Af→Prop}{s:Af}{σ α:Type}{c:Prop}[Decidable c]{z q:StateT σ Sem α}{Q:α→σ→Prop}{st:σ}(h1:c→wpS M A E s z Q st)(h2:¬ c→wpS M A E s q Q st):wpS M A E s (if c then z else q) Q st:=by
 split
 ·exact h1 ‹_›
 ·exact h2 ‹_›
structure Sg(st st':Bq):Prop where
 kind:kindOf st'=kindOf st
 arr:arrOf st'=arrOf st
 pend:pendingOf st'=pendingOf st
 fail:failedOf st'=failedOf st
theorem Sg.refl(st:Bq):Sg st st:=⟨rfl,rfl,rfl,rfl⟩
theorem iX{i j:Nat}(h:¬ (i == j)=true):i≠j:=fun z=>h (by rw[z];exact beq_self_eq_true _)
structure GL(a b:Array BV)(x:Nat)(out:Array BV)(ia ib:Nat):Prop where
 pl:Pl a b out ia ib
 la:ia + 1 < a.size
 lb:ib < b.size
 on:x≤ia + ib
section
variable{prog:AG}{w:A2}{A:AW}{E:Ac→Af→Prop}{s:Af}{κ:Dt}{it:Array BV}(hc:pM prog w A s κ it)
include hc
theorem aAY{a b:Array BV}{st:Bq}{Q:Array BV→Bq→Prop}(ha:1≤a.size)(hb:1≤b.size)(iA:∀ p∈a.toList,p∈it.toList)(iB:∀ p∈b.toList,p∈it.toList)(hk:kindOf st=κ)
  (h:∀ out B,out.Perm (a ++ b)→Sg st B→Q out B):wpS (model prog w) A E s (aFA a b) Q st:=by
 have gA:∀ i,i < a.size→∃ p,a[i]?=some p∧p∈it.toList:=fun i hi=>⟨_,A7 hi,iA _ (by simp)⟩
 have gB:∀ i,i < b.size→∃ p,b[i]?=some p∧p∈it.toList:=fun i hi=>⟨_,A7 hi,iB _ (by simp)⟩
 refine AA (FH (CQ ⟨rfl,?_⟩));obtain⟨p0,e0,_⟩:=gB 0 hb;refine AA (f6 e0 ?_);refine bZ (fun _=>AR (h _ _ (Pl.start e0).fin (Sg.refl _))) fun n1=>?_;have aw:1≠b.size:=fun z=>n1 (by rw[← z];rfl);refine bZ (fun _=>AR (h _ _ (Pl.start e0).fin2 (Sg.refl _))) fun n2=>?_;have an:1≠a.size:=fun z=>n2 (by rw[← z];rfl);refine AA (EI ?_);dsimp only;have M:∀(i:Nat) (Y:BV→Bq→Prop) (B:Bq),i < a.size→(∀ p,a[i]?=some p→p∈it.toList→Y p B)→wpS (model prog w) A E s (elem' a i) Y B:=fun i Y B hi q=>by
  obtain⟨p,e,U⟩:=gA i hi;exact f6 e (q p e U)
 have O:∀(i:Nat) (Y:BV→Bq→Prop) (B:Bq),i < b.size→(∀ p,b[i]?=some p→p∈it.toList→Y p B)→wpS (model prog w) A E s (elem' b i) Y B:=fun i Y B hi q=>by
  obtain⟨p,e,U⟩:=gB i hi;exact f6 e (q p e U)
 refine AA (Dh (Cb (I:=fun x c B=>c.1=none∧GL a b x c.2.1 c.2.2.1 c.2.2.2.1∧Sg st B) (Q:=fun c B=>∃ r,c.1=some r∧r.Perm (a ++ b)∧Sg st B) ?_ (fun c B z=>?_) ⟨rfl,⟨Pl.start e0,by dsimp only;omega,by dsimp only;omega,by dsimp only;omega⟩,Sg.refl _⟩) ?_)
 ·refine fun x=>pr3 fun r out=>pr3 fun ia ib mg B _ hx=>?_;rintro⟨z,g,sg⟩;cases z;dsimp only at g ⊢;refine AA (Dh (Cb (I:=fun y c B=>c.1=none∧GL a b (x + y) c.2.1 c.2.2.1 c.2.2.2.1∧Sg st B) (Q:=fun c B=>Sg st B∧((∃ r,c.1=some r∧r.Perm (a ++ b))∨(c.1=none∧GL a b (x + 1) c.2.1 c.2.2.1 c.2.2.2.1))) ?_ (fun c B z=>?_) ⟨rfl,g,sg⟩) ?_)
  ·refine fun y=>pr3 fun r out=>pr3 fun ia ib=>Prod.rec fun ac bc B _ hy=>?_;rintro⟨z,g,sg⟩;cases z;obtain⟨hP,h1,h2,h3⟩:=g;dsimp only at hP h1 h2 h3 ⊢;refine AA (O _ _ _ h2 fun p ep U=>AA (M _ _ _ (by omega) fun q eq hq=>AA (vQ hc (sg.kind.trans hk) U hq fun bw=>?_)));refine bZ (fun _=>?_) fun _=>?_
   ·refine AA (O _ _ _ h2 fun p' F _=>?_);refine bZ (fun _=>AR ⟨sg,.inl ⟨_,rfl,(hP.pushB F).fin⟩⟩) fun n=>?_;have n':ib + 1≠b.size:=fun z=>n (by rw[z];exact beq_self_eq_true _);exact bZ (fun _=>AR ⟨sg,.inr ⟨rfl,hP.pushB F,h1,by dsimp only;omega,by dsimp only;omega⟩⟩) fun _=>AR ⟨rfl,⟨hP.pushB F,h1,by dsimp only;omega,by dsimp only;omega⟩,sg⟩
   ·refine AA (M _ _ _ (by omega) fun p' F _=>?_);refine bZ (fun _=>AR ⟨sg,.inl ⟨_,rfl,(hP.pushA F).fin2⟩⟩) fun n=>?_;have n':ia + 1 + 1≠a.size:=fun z=>n (by rw[z];exact beq_self_eq_true _);exact bZ (fun _=>AR ⟨sg,.inr ⟨rfl,hP.pushA F,by dsimp only;omega,h2,by dsimp only;omega⟩⟩) fun _=>AR ⟨rfl,⟨hP.pushA F,by dsimp only;omega,h2,by dsimp only;omega⟩,sg⟩
  ·obtain⟨z1,⟨hP,h1,h2,h3⟩,sg⟩:=z;exact⟨sg,.inr ⟨z1,hP,h1,h2,by omega⟩⟩
  ·rintro⟨r,out,ia,ib,ac,bc⟩ B ⟨sg,⟨r',z,hr⟩ | ⟨z,g⟩⟩
   ·cases z;exact AR ⟨_,rfl,hr,sg⟩
   ·cases z;dsimp only at g ⊢;refine AA (FH (CQ ⟨rfl,?_⟩));refine AA (Dh (Cb (I:=fun y c B=>c.1=none∧GL a b (x + 1) c.2.1 c.2.2.1 c.2.2.2.1∧Sg st B) (Q:=fun c B=>Sg st B∧((∃ r,c.1=some r∧r.Perm (a ++ b))∨(c.1=none∧GL a b (x + 1) c.2.1 c.2.2.1 c.2.2.2.1))) ?_ (fun c B z=>⟨z.2.2,.inr ⟨z.1,z.2.1⟩⟩) ⟨rfl,g,sg⟩) ?_)
    ·refine fun y=>pr3 fun r out=>pr3 fun ia ib=>pr3 fun mg ac bc B _ hy=>?_;rintro⟨z,g,sg⟩;cases z;obtain⟨hP,h1,h2,h3⟩:=g;dsimp only at hP h1 h2 h3 ⊢;refine bZ (fun _=>AA (C0 ?_)) fun _=>AA (C0 ?_)
     all_goals
      refine AA (O _ _ _ h2 fun p ep U=>AA (iH hc U (fun i hi=>gA _ (by omega)) (by omega) (sg.kind.trans hk) fun k ar=>?_));dsimp only;refine bZ (fun kp=>bZ (fun _=>AR ⟨⟨sg.1,sg.2,sg.3,sg.4⟩,.inl ⟨_,rfl,(hP.runA (k:=k)).fin2⟩⟩) fun na=>bZ (fun _=>AR ⟨⟨sg.1,sg.2,sg.3,sg.4⟩,.inl ⟨_,rfl,(hP.runA (k:=k)).fin⟩⟩) fun nb=>?_) fun _=>?_
      all_goals
       first | (have e1:=iX na;have e2:=iX nb;have Z:=hP.runA (k:=k);have ae:ia + k + 1 < a.size:=by omega) | (have Z:=hP;have ae:=h1)
       refine AA (O _ _ _ h2 fun p' F _=>bZ (fun _=>AR ⟨⟨sg.1,sg.2,sg.3,sg.4⟩,.inl ⟨_,rfl,(Z.pushB F).fin⟩⟩) fun n=>?_);have n':=iX n;have W:=Z.pushB F;refine AA (M _ _ _ (by omega) fun q eq hq=>AA (iH hc hq (fun i hi=>gB _ (by omega)) (by omega) (sg.kind.trans hk) fun k2 az=>?_));dsimp only;refine bZ (fun ap=>bZ (fun _=>AR ⟨⟨sg.1,sg.2,sg.3,sg.4⟩,.inl ⟨_,rfl,(W.runB (k:=k2)).fin⟩⟩) fun nc=>?_) fun _=>?_
       all_goals
        first | (have e3:=iX nc;have J:=W.runB (k:=k2)) | have J:=W
        refine AA (M _ _ _ (by omega) fun q' aa _=>bZ (fun _=>AR ⟨⟨sg.1,sg.2,sg.3,sg.4⟩,.inl ⟨_,rfl,(J.pushA aa).fin2⟩⟩) fun nd=>?_);have e4:=iX nd;exact bZ (fun _=>AR ⟨⟨sg.1,sg.2,sg.3,sg.4⟩,.inr ⟨rfl,J.pushA aa,by dsimp only;omega,by dsimp only;omega,by dsimp only;omega⟩⟩) fun _=>AR ⟨rfl,⟨J.pushA aa,by dsimp only;omega,by dsimp only;omega,by dsimp only;omega⟩,sg.1,sg.2,sg.3,sg.4⟩
    ·rintro⟨r,out,ia,ib,mg,ac,bc⟩ B ⟨sg,⟨r',z,hr⟩ | ⟨z,g⟩⟩
     ·cases z;exact AR ⟨_,rfl,hr,sg⟩
     ·cases z;exact AA (C0 (AR ⟨rfl,g,sg.1,sg.2,sg.3,sg.4⟩))
 ·obtain⟨z1,⟨hP,h1,h2,h3⟩,sg⟩:=z;exfalso;omega
 ·rintro⟨r,out,ia,ib,mg⟩ B ⟨r',z,hr,sg⟩;cases z;exact AR (h _ _ hr sg)
end
def Ph(a b out:Array BV)(na nb:Nat):Prop:=(out.toList ++ (a.toList.take na ++ b.toList.take nb)).Perm (a.toList ++ b.toList)
section
variable{a b out:Array BV}{na nb k:Nat}
theorem xY{c:Array BV}{i:Nat}{p:BV}(h:1≤i)(e:c[i - 1]?=some p):c.toList.take i=c.toList.take (i - 1) ++ [p]:=by
 obtain⟨j,rfl⟩:∃ j,i=j + 1:=⟨i - 1,by omega⟩
 rw[Nat.add_sub_cancel]at e ⊢;rw[List.take_succ,Dm,e];rfl
theorem aAZ{c:Array BV}{i j:Nat}(h:i≤j):c.toList.take j=c.toList.take i ++ (c.extract i j).toList:=by
 rw[fJ];obtain⟨d,rfl⟩:∃ d,j=i + d:=⟨j - i,by omega⟩
 rw[DT];exact List.take_add
theorem Ph.pushA{p:BV}(h:Ph a b out na nb)(h1:1≤na)(e:a[na - 1]?=some p):Ph a b (out.push p) (na - 1) nb:=by
 unfold Ph at h ⊢;refine DE ?_ h;rw[xY h1 e,CI,Bg,Bg];exact Bu _ (Ez _ _ _)
theorem Ph.pushB{p:BV}(h:Ph a b out na nb)(h1:1≤nb)(e:b[nb - 1]?=some p):Ph a b (out.push p) na (nb - 1):=by
 unfold Ph at h ⊢;refine DE ?_ h;rw[xY h1 e,CI,Bg,← Bg (DC na _)];exact Bu _ CY
theorem Ph.runA(h:Ph a b out na nb)(h1:k≤na):Ph a b (out ++ (a.extract k na).reverse) k nb:=by
 unfold Ph at h ⊢;refine DE ?_ h;rw[aAZ h1,Bj,Em,Bg,Bg];exact Bu _ ((Dc _ (EM _)).trans (Ez _ _ _))
theorem Ph.runB(h:Ph a b out na nb)(h1:k≤nb):Ph a b (out ++ (b.extract k nb).reverse) na k:=by
 unfold Ph at h ⊢;refine DE ?_ h;rw[aAZ h1,Bj,Em,Bg,← Bg (DC na _)];exact Bu _ ((Dc _ (EM _)).trans CY)
theorem Ph.fin(h:Ph a b out na nb):(a.extract 0 na ++ b.extract 0 nb ++ out.reverse).Perm (a ++ b):=by
 rw[Bd,Bj,Bj,Bj,fJ,fJ,Em];exact(CY.trans (Dc _ (EM _))).trans h
theorem Ph.fin2(h:Ph a b out na nb):(b.extract 0 nb ++ a.extract 0 na ++ out.reverse).Perm (a ++ b):=by
 rw[Bd,Bj,Bj,Bj,fJ,fJ,Em];exact((CY.trans (Dc _ (EM _))).trans (Bu _ CY)).trans h
theorem Ph.start{p:BV}(h:1≤a.size)(e:a[a.size - 1]?=some p):Ph a b #[p] (a.size - 1) b.size:=by
 have q:Ph a b #[] a.size b.size:=by
  unfold Ph;rw[Br (by simp),Br (by simp)];exact Dl _
 exact q.pushA h e
end
structure GH(a b:Array BV)(x:Nat)(out:Array BV)(na nb:Nat):Prop where
 pl:Ph a b out na nb
 la:1≤na
 lb:2≤nb
 ua:na≤a.size
 ub:nb≤b.size
 on:x + na + nb≤a.size + b.size
section
variable{prog:AG}{w:A2}{A:AW}{E:Ac→Af→Prop}{s:Af}{κ:Dt}{it:Array BV}(hc:pM prog w A s κ it)
include hc
theorem aA0{a b:Array BV}{st:Bq}{Q:Array BV→Bq→Prop}(ha:1≤a.size)(hb:1≤b.size)(iA:∀ p∈a.toList,p∈it.toList)(iB:∀ p∈b.toList,p∈it.toList)(hk:kindOf st=κ)
  (h:∀ out B,out.Perm (a ++ b)→Sg st B→Q out B):wpS (model prog w) A E s (aFB a b) Q st:=by
 have gA:∀ i,i < a.size→∃ p,a[i]?=some p∧p∈it.toList:=fun i hi=>⟨_,A7 hi,iA _ (by simp)⟩
 have gB:∀ i,i < b.size→∃ p,b[i]?=some p∧p∈it.toList:=fun i hi=>⟨_,A7 hi,iB _ (by simp)⟩
 refine AA (FH (CQ ⟨rfl,?_⟩));obtain⟨p0,e0,_⟩:=gA (a.size - 1) (by omega);refine AA (f6 e0 ?_);refine bZ (fun _=>AR (h _ _ (Ph.start ha e0).fin (Sg.refl _))) fun n1=>?_;have aw:=iX n1;refine bZ (fun _=>AR (h _ _ (Ph.start ha e0).fin2 (Sg.refl _))) fun n2=>?_;have ap:=iX n2;refine AA (EI ?_);dsimp only;have U:∀(i:Nat) (Z:BV→Bq→Prop) (B:Bq),i < a.size→(∀ p,a[i]?=some p→p∈it.toList→Z p B)→wpS (model prog w) A E s (elem' a i) Z B:=fun i Z B hi q=>by
  obtain⟨p,e,Y⟩:=gA i hi;exact f6 e (q p e Y)
 have W:∀(i:Nat) (Z:BV→Bq→Prop) (B:Bq),i < b.size→(∀ p,b[i]?=some p→p∈it.toList→Z p B)→wpS (model prog w) A E s (elem' b i) Z B:=fun i Z B hi q=>by
  obtain⟨p,e,Y⟩:=gB i hi;exact f6 e (q p e Y)
 refine AA (Dh (Cb (I:=fun x c B=>c.1=none∧GH a b x c.2.2.2.1 c.2.1 c.2.2.1∧Sg st B) (Q:=fun c B=>∃ r,c.1=some r∧r.Perm (a ++ b)∧Sg st B) ?_ (fun c B z=>?_) ⟨rfl,⟨Ph.start ha e0,by dsimp only;omega,by dsimp only;omega,by dsimp only;omega,by dsimp only;omega,by dsimp only;omega⟩,Sg.refl _⟩) ?_)
 ·refine fun x=>pr3 fun r na=>pr3 fun nb out mg B _ hx=>?_;rintro⟨z,g,sg⟩;cases z;dsimp only at g ⊢;refine AA (Dh (Cb (I:=fun y c B=>c.1=none∧GH a b (x + y) c.2.2.2.1 c.2.1 c.2.2.1∧Sg st B) (Q:=fun c B=>Sg st B∧((∃ r,c.1=some r∧r.Perm (a ++ b))∨(c.1=none∧GH a b (x + 1) c.2.2.2.1 c.2.1 c.2.2.1))) ?_ (fun c B z=>?_) ⟨rfl,g,sg⟩) ?_)
  ·refine fun y=>pr3 fun r na=>pr3 fun nb out=>Prod.rec fun ac bc B _ hy=>?_;rintro⟨z,g,sg⟩;cases z;obtain⟨hP,h1,h2,h3,h4,h5⟩:=g;dsimp only at hP h1 h2 h3 h4 h5 ⊢;refine AA (W _ _ _ (by omega) fun p ep Y=>AA (U _ _ _ (by omega) fun q eq hq=>AA (vQ hc (sg.kind.trans hk) Y hq fun bw=>?_)));refine bZ (fun _=>?_) fun _=>?_
   ·refine AA (U _ _ _ (by omega) fun p' F _=>?_);refine bZ (fun _=>AR ⟨sg,.inl ⟨_,rfl,(hP.pushA h1 F).fin⟩⟩) fun n=>?_;have n':=iX n;exact bZ (fun _=>AR ⟨sg,.inr ⟨rfl,hP.pushA h1 F,by dsimp only;omega,h2,by dsimp only;omega,h4,by dsimp only;omega⟩⟩) fun _=>AR ⟨rfl,⟨hP.pushA h1 F,by dsimp only;omega,h2,by dsimp only;omega,h4,by dsimp only;omega⟩,sg⟩
   ·refine AA (W _ _ _ (by omega) fun p' F _=>?_);refine bZ (fun _=>AR ⟨sg,.inl ⟨_,rfl,(hP.pushB (by omega) F).fin2⟩⟩) fun n=>?_;have n':=iX n;exact bZ (fun _=>AR ⟨sg,.inr ⟨rfl,hP.pushB (by omega) F,h1,by dsimp only;omega,h3,by dsimp only;omega,by dsimp only;omega⟩⟩) fun _=>AR ⟨rfl,⟨hP.pushB (by omega) F,h1,by dsimp only;omega,h3,by dsimp only;omega,by dsimp only;omega⟩,sg⟩
  ·obtain⟨z1,⟨hP,h1,h2,h3,h4,h5⟩,sg⟩:=z;exact⟨sg,.inr ⟨z1,hP,h1,h2,h3,h4,by omega⟩⟩
  ·rintro⟨r,na,nb,out,ac,bc⟩ B ⟨sg,⟨r',z,hr⟩ | ⟨z,g⟩⟩
   ·cases z;exact AR ⟨_,rfl,hr,sg⟩
   ·cases z;dsimp only at g ⊢;refine AA (FH (CQ ⟨rfl,?_⟩));refine AA (Dh (Cb (I:=fun y c B=>c.1=none∧GH a b (x + 1) c.2.2.2.1 c.2.1 c.2.2.1∧Sg st B) (Q:=fun c B=>Sg st B∧((∃ r,c.1=some r∧r.Perm (a ++ b))∨(c.1=none∧GH a b (x + 1) c.2.2.2.1 c.2.1 c.2.2.1))) ?_ (fun c B z=>⟨z.2.2,.inr ⟨z.1,z.2.1⟩⟩) ⟨rfl,g,sg⟩) ?_)
    ·refine fun y=>pr3 fun r na=>pr3 fun nb out=>pr3 fun mg ac bc B _ hy=>?_;rintro⟨z,g,sg⟩;cases z;obtain⟨hP,h1,h2,h3,h4,h5⟩:=g;dsimp only at hP h1 h2 h3 h4 h5 ⊢;refine bZ (fun _=>AA (C0 ?_)) fun _=>AA (C0 ?_)
     all_goals
      refine AA (W _ _ _ (by omega) fun p ep Y=>AA (iH hc Y (fun i hi=>gA _ (by omega)) (by omega) (sg.kind.trans hk) fun k ae=>?_));dsimp only;refine bZ (fun kp=>bZ (fun _=>AR ⟨⟨sg.1,sg.2,sg.3,sg.4⟩,.inl ⟨_,rfl,(hP.runA ae).fin⟩⟩) fun na=>?_) fun kz=>?_
      all_goals
       first | (have e1:=iX na;have aa:=hP.runA ae;have O:1≤k:=by omega) | (have aa:=hP;have O:=h1)
       refine AA (W _ _ _ (by omega) fun p' F _=>bZ (fun _=>AR ⟨⟨sg.1,sg.2,sg.3,sg.4⟩,.inl ⟨_,rfl,(aa.pushB (by omega) F).fin2⟩⟩) fun n=>?_);have n':=iX n;have M:=aa.pushB (by omega) F;refine AA (U _ _ _ (by omega) fun q eq hq=>AA (iH hc hq (fun i hi=>gB _ (by omega)) (by omega) (sg.kind.trans hk) fun k2 ab=>?_));dsimp only;refine bZ (fun ar=>bZ (fun _=>AR ⟨⟨sg.1,sg.2,sg.3,sg.4⟩,.inl ⟨_,rfl,(M.runB ab).fin2⟩⟩) fun nc=>bZ (fun _=>AR ⟨⟨sg.1,sg.2,sg.3,sg.4⟩,.inl ⟨_,rfl,(M.runB ab).fin⟩⟩) fun nd=>?_) fun _=>?_
       all_goals
        first | (have e3:=iX nc;have ao:=iX nd;have J:=M.runB ab) | have J:=M
        refine AA (U _ _ _ (by omega) fun q' ad _=>bZ (fun _=>AR ⟨⟨sg.1,sg.2,sg.3,sg.4⟩,.inl ⟨_,rfl,(J.pushA O ad).fin⟩⟩) fun nd=>?_);have e4:=iX nd;exact bZ (fun _=>AR ⟨⟨sg.1,sg.2,sg.3,sg.4⟩,.inr ⟨rfl,J.pushA O ad,by dsimp only;omega,by dsimp only;omega,by dsimp only;omega,by dsimp only;omega,by dsimp only;omega⟩⟩) fun _=>AR ⟨rfl,⟨J.pushA O ad,by dsimp only;omega,by dsimp only;omega,by dsimp only;omega,by dsimp only;omega,by dsimp only;omega⟩,sg.1,sg.2,sg.3,sg.4⟩
    ·rintro⟨r,na,nb,out,mg,ac,bc⟩ B ⟨sg,⟨r',z,hr⟩ | ⟨z,g⟩⟩
     ·cases z;exact AR ⟨_,rfl,hr,sg⟩
     ·cases z;exact AA (C0 (AR ⟨rfl,g,sg.1,sg.2,sg.3,sg.4⟩))
 ·obtain⟨z1,⟨hP,h1,h2,h3,h4,h5⟩,sg⟩:=z;exfalso;omega
 ·rintro⟨r,na,nb,out,mg⟩ B ⟨r',z,hr,sg⟩;cases z;exact AR (h _ _ hr sg)
end
structure Sm(st st':Bq):Prop where
 kind:kindOf st'=kindOf st
 arr:(arrOf st').Perm (arrOf st)
 pend:pendingOf st'=pendingOf st
 fail:failedOf st'=failedOf st
theorem Sm.refl(st:Bq):Sm st st:=⟨rfl,Dg _,rfl,rfl⟩
theorem Sm.trans{st z q:Bq}(a:Sm st z)(b:Sm z q):Sm st q:=⟨b.1.trans a.1,b.2.trans a.2,b.3.trans a.3,b.4.trans a.4⟩
theorem Sm.rev(st:Bq)(i j k:Nat):Sm st (setArr st (mirror (arrOf st) i j k)):=⟨rfl,mirror_perm _ _ _ _,rfl,rfl⟩
theorem Sm.bub(st:Bq)(i j:Nat):Sm st (setArr st (bubble (arrOf st) i j)):=⟨rfl,bubble_perm _ _ _,rfl,rfl⟩
structure GS(κ:Dt)(it:Array BV)(st:Bq):Prop where
 kind:kindOf st=κ
 perm:(arrOf st).Perm it
 fail:failedOf st=none
theorem GS.on{κ:Dt}{it:Array BV}{st q:Bq}(g:GS κ it st)(m:Sm st q):GS κ it q:=⟨m.1.trans g.1,m.2.trans g.2,m.4.trans g.3⟩
section
variable{prog:AG}{w:A2}{A:AW}{E:Ac→Af→Prop}{s:Af}{κ:Dt}{it:Array BV}
theorem GS.get{st:Bq}(g:GS κ it st){i:Nat}(hi:i < it.size):∃ p,(arrOf st)[i]?=some p∧p∈it.toList:=by
 have q:i < (arrOf st).size:=by rw[g.perm.size_eq];exact hi
 exact⟨_,A7 q,(Bd.mp g.perm).mem_iff.mp (by simp)⟩
theorem qD{st:Bq}{i j:Nat}{Q:Unit→Bq→Prop}(h:∀ q,Sm st q→Q () q):wpS (model prog w) A E s (reverseSlice' i j) Q st:=by
 rw[reverseSlice'_eq];exact C0 (h _ (Sm.rev _ _ _ _))
theorem aFC{st:Bq}{i j:Nat}{Q:Unit→Bq→Prop}(h:∀ q,Sm st q→Q () q):wpS (model prog w) A E s (moveDown' i j) Q st:=by
 rw[moveDown'_eq];exact C0 (h _ (Sm.bub _ _ _))
variable(hc:pM prog w A s κ it)
include hc
theorem lY{st:Bq}{i j:Nat}{Q:Option Bool→Bq→Prop}(g:GS κ it st)(hi:i < it.size)(z:j < it.size)(h:∀ b,Q (some b) st):wpS (model prog w) A E s (ltAt' i j) Q st:=by
 obtain⟨p,e1,hp⟩:=g.get hi;obtain⟨q,e2,hq⟩:=g.get z;rw[ltAt'_eq];exact AA (EI (AA (f6 e1 (AA (f6 e2 (vQ hc g.kind hp hq h))))))
theorem aEd{lo F:Nat}{st:Bq}{Q:Option Nat→Bq→Prop}(g:GS κ it st)(h1:1≤F)(hz:lo + F≤it.size)(h:∀ n B,1≤n→n≤F→Sm st B→Q (some n) B):wpS (model prog w) A E s (countRun' lo F) Q st:=by
 have rise:∀(Z:Nat) (J:Bq) (Q':Option (Option Nat)×Nat→Bq→Prop),GS κ it J→1≤Z→Z≤F→(∀ n,Z≤n→n≤F→Q' (none,n) J)→wpS (model prog w) A E s (forIn [Z:F] (none,Z) fun _ c=>do
   let r ← ltAt' (lo + c.2) (lo + c.2 - 1)
   match r with
   | some b=>if b=true then pure (ForInStep.done (none,c.2)) else pure (CG (none,c.2 + 1))
   | _=>pure (ForInStep.done (some none,c.2))) Q' J:=fun Z J Q' g0 am aa q=>by
  refine Dh (Cb (I:=fun x c B=>B=J∧c=(none,x)) (Q:=fun c B=>B=J∧∃ n,c=(none,n)∧Z≤n∧n≤F) ?_ (fun c B z=>⟨z.1,_,z.2,by omega,by omega⟩) ⟨rfl,rfl⟩) fun c B z=>?_
  ·rintro x c B ac ag ⟨rfl,rfl⟩;refine AA (lY hc g0 (by dsimp only;omega) (by dsimp only;omega) fun b=>?_);refine bZ (fun _=>AR ⟨rfl,_,rfl,ac,by omega⟩) fun _=>AR ⟨rfl,rfl⟩
  ·obtain⟨rfl,n,rfl,W,U⟩:=z;exact q n W U
 rw[countRun'_eq];refine AA (rise 1 st _ g (Ao _) h1 fun n aa ab=>?_);dsimp only;refine bZ (fun _=>AR (h n st aa ab (Sm.refl _))) fun ne=>?_;have aq:=iX ne;refine bZ (fun _=>AA (lY hc g (by omega) (by omega) fun b=>bZ (fun _=>AR (h n st aa ab (Sm.refl _))) fun _=>AA (qD fun an m1=>?_))) fun _=>?_
 all_goals
  first | (have g1:=g.on m1;have ae:=m1) | (have g1:=g;have ae:=Sm.refl st)
  refine AA (FH (CQ ⟨rfl,?_⟩));refine AA (Dh (Cb (I:=fun x c B=>c.1=none∧c.2.1=x∧Sm st B) (Q:=fun c B=>c.1=none∧1≤c.2.1∧c.2.1≤F∧Sm st B) ?_ (fun c B z=>⟨z.1,by have:=z.2.1;omega,by have:=z.2.1;omega,z.2.2⟩) ⟨rfl,rfl,ae⟩) ?_)
  ·rintro x ⟨r,n',q⟩ B ac ag ⟨W,U,O⟩;dsimp only at W U ⊢;subst W U;refine AA (lY hc (g.on O) (by omega) (by omega) fun b=>?_);refine bZ (fun _=>bZ (fun _=>AA (qD fun aj m3=>AR ⟨rfl,rfl,O.trans m3⟩)) fun _=>AR ⟨rfl,rfl,O⟩) fun _=>?_;refine AA (lY hc (g.on O) (by omega) (by omega) fun b=>?_);exact bZ (fun _=>AR ⟨rfl,by dsimp only;omega,by dsimp only;omega,O⟩) fun _=>AR ⟨rfl,rfl,O⟩
  ·rintro⟨r,n',q⟩ B ⟨W,U,z3,O⟩;dsimp only at W U z3 ⊢;subst W;refine bZ (fun _=>AA (qD fun aj m3=>AA (qD fun M m4=>?_))) fun _=>AA (qD fun M m4=>?_)
   ·exact AA (rise n' M _ (g.on ((O.trans m3).trans m4)) U z3 fun Y a1 a2=>AR (h Y M (by omega) a2 ((O.trans m3).trans m4)))
   ·exact AA (rise n' M _ (g.on (O.trans m4)) U z3 fun Y a1 a2=>AR (h Y M (by omega) a2 (O.trans m4)))
theorem aB8{lo n ok:Nat}{st:Bq}{Q:Bool→Bq→Prop}(g:GS κ it st)(hz:lo + n≤it.size)(h:∀ B,Sm st B→Q true B):wpS (model prog w) A E s (binarySort' lo n ok) Q st:=by
 rw[binarySort'_eq];refine AA (Dh (Cb (I:=fun x c B=>c.1=none∧Sm st B) (Q:=fun c B=>c.1=none∧Sm st B) ?_ (fun c B z=>z) ⟨rfl,Sm.refl _⟩) ?_)
 ·rintro k ⟨r,u⟩ B M O ⟨J,m⟩;dsimp only at J ⊢;subst J;refine AA (Dh (Cb (I:=fun x c F=>c.1=none∧c.2.2≤k∧F=B) (Q:=fun c F=>c.1=none∧F=B) ?_ (fun c B z=>⟨z.1,z.2.2⟩) ⟨rfl,Ao _,rfl⟩) ?_)
  ·rintro x ⟨r,l,q⟩ F _ hx ⟨J,Y,rfl⟩;dsimp only at J Y ⊢;subst J;refine bZ (fun _=>AR ⟨rfl,rfl⟩) fun Z=>?_;refine AA (lY hc (g.on m) (by omega) (by omega) fun b=>?_);exact bZ (fun _=>AR ⟨rfl,by dsimp only;omega,rfl⟩) fun _=>AR ⟨rfl,by dsimp only;omega,rfl⟩
  ·rintro⟨r,l,q⟩ F ⟨J,rfl⟩;dsimp only at J ⊢;subst J;exact AA (aFC fun W U=>AR ⟨rfl,m.trans U⟩)
 ·rintro⟨r,u⟩ B ⟨J,m⟩;dsimp only at J ⊢;subst J;exact AR (h B m)
end
def iI:List (Nat×Nat×Nat)→Nat→Nat→Prop
 | [],a,b=>a=b
 | r :: l,a,b=>r.1=a∧1≤r.2.1∧iI l (a + r.2.1) b
theorem iI.le:∀{l:List (Nat×Nat×Nat)}{a b:Nat},iI l a b→a≤b
 | [],a,b,h=>E8 h
 | r :: l,a,b,h=>by have:=iI.le h.2.2;omega
theorem iI.snoc{n x:Nat}(hn:1≤n):∀{l:List (Nat×Nat×Nat)}{a b:Nat},iI l a b→iI (l ++ [(b,n,x)]) a (b + n)
 | [],a,b,h=>⟨(show a=b from h).symm,hn,by show a + n=b + n;rw[show a=b from h]⟩
 | r :: l,a,b,h=>⟨h.1,h.2.1,iI.snoc hn h.2.2⟩
theorem iI.mod{f:Nat×Nat×Nat→Nat×Nat×Nat}(q:∀ r,(f r).1=r.1∧(f r).2.1=r.2.1):∀{l:List (Nat×Nat×Nat)}{a b:Nat} (i:Nat),iI l a b→iI (l.modify i f) a b
 | [],a,b,i,h=>by rw[List.modify_nil];exact h
 | r :: l,a,b,0,h=>by
  rw[List.modify_zero_cons];exact⟨(q r).1.trans h.1,by rw[(q r).2];exact h.2.1,by rw[(q r).2];exact h.2.2⟩
 | r :: l,a,b,i + 1,h=>by
  rw[List.modify_succ_cons];exact⟨h.1,h.2.1,iI.mod q i h.2.2⟩
theorem iI.two{sa na B z nb pv:Nat}:∀{l:List (Nat×Nat×Nat)}{a b:Nat} (i:Nat),iI l a b→l[i]?=some (sa,na,B)→l[i + 1]?=some (z,nb,pv)→sa + na=z∧1≤na∧1≤nb∧z + nb≤b∧iI ((l.set i (sa,na + nb,B)).eraseIdx (i + 1)) a b
 | [],a,b,i,h,e1,q=>by simp at e1
 | [r],a,b,0,h,e1,q=>by simp at q
 | r :: F :: l,a,b,0,h,e1,q=>by
  simp at e1 q;subst e1 q;obtain⟨h1,h2,h3,h4,h5⟩:=h;dsimp only at h1 h2 h3 h4 h5;have:=h5.le;refine⟨by omega,h2,h4,by omega,h1,by dsimp only;omega,?_⟩;dsimp only;rw[← Nat.add_assoc];exact h5
 | r :: l,a,b,i + 1,h,e1,q=>by
  obtain⟨x1,x2,x3,x4,x5⟩:=iI.two i h.2.2 (by simpa using e1) (by simpa using q);exact⟨x1,x2,x3,x4,h.1,h.2.1,x5⟩
theorem aC4:∀(l:List BV) (j k:Nat) (c:Array BV),((l.zipIdx j).foldl (fun a q=>a.setIfInBounds (k + q.2) q.1) c).toList=c.toList.take (k + j) ++ (l ++ c.toList.drop (k + j + l.length))∨c.size < k + j + l.length
 | [],j,k,c=>.inl (by simp)
 | p :: l,j,k,c=>by
  by_cases hz:c.size < k + j + (p :: l).length
  ·exact .inr hz
  ·refine .inl ?_;rw[F4,Gj];have F:k + j < c.toList.length:=by simp at hz ⊢;omega
   rcases aC4 l (j + 1) k (c.setIfInBounds (k + j) p)with e | e
   ·rw[e,Array.toList_setIfInBounds];have z:(c.toList.set (k + j) p).take (k + (j + 1))=c.toList.take (k + j) ++ [p]:=by
     rw[← Nat.add_assoc,List.take_succ,DZ F,List.take_set_of_le (Ao _)];rfl
    have B:(c.toList.set (k + j) p).drop (k + (j + 1) + l.length)=c.toList.drop (k + j + (p :: l).length):=by
     rw[List.drop_set_of_lt (by omega),A5];congr 1;omega
    rw[z,B,Bg];rfl
   ·exfalso;simp at e hz;omega
theorem aFE{c x:Array BV}{sa n:Nat}(B:x.toList.Perm ((c.toList.drop sa).take n))(hz:sa + n≤c.size):(x.toList.zipIdx.foldl (fun a q=>a.setIfInBounds (sa + q.2) q.1) c).Perm c:=by
 have z:x.toList.length=n:=by
  rw[B.length_eq];simp;omega
 rcases aC4 x.toList 0 sa c with e | e
 ·rw[Bd,e];rw[Nat.add_zero,z];have F:c.toList=c.toList.take sa ++ ((c.toList.drop sa).take n ++ c.toList.drop (sa + n)):=by
   rw[← Fh,Ea,Ea]
  refine DE (Bu _ (Dc _ B)) ?_;rw[← F]
 ·rw[z]at e;omega
section
variable{prog:AG}{w:A2}{A:AW}{E:Ac→Af→Prop}{s:Af}{κ:Dt}{it:Array BV}
theorem aG2{M:Ha}{σ:Type}{a:σ}{Q:PUnit→σ→Prop}{st:σ}(h:Q ⟨⟩ a):wpS M A E s (set a:StateT σ Sem PUnit) Q st:=by
 unfold wpS;rw[StateT.run_set];exact Ae ⟨rfl,h⟩
variable(hc:pM prog w A s κ it)
include hc
theorem tD{i lo:Nat}{st:Bq}{Q:Bool→Bq→Prop}(g:GS κ it st)(hs:iI (pendingOf st).toList 0 lo)(ap:lo≤it.size)(hi:i + 1 < (pendingOf st).size)(h:∀ z,GS κ it z→iI (pendingOf z).toList 0 lo→(pendingOf z).size + 1=(pendingOf st).size→Q true z):
  wpS (model prog w) A E s (mergeAt' i) Q st:=by
 obtain⟨⟨sa,na,pw⟩,ea⟩:∃ r,(pendingOf st)[i]?=some r:=⟨_,A7 (by omega)⟩
 obtain⟨⟨sb,nb,pv⟩,eb⟩:∃ r,(pendingOf st)[i + 1]?=some r:=⟨_,A7 hi⟩
 have Z:(pendingOf st).toList[i]?=some (sa,na,pw):=by rw[Dm];exact ea
 have ab:(pendingOf st).toList[i + 1]?=some (sb,nb,pv):=by rw[Dm];exact eb
 obtain⟨x1,x2,x3,x4,x5⟩:=iI.two i hs Z ab;have U:(((pendingOf st).setIfInBounds i (sa,na + nb,pw)).eraseIdxIfInBounds (i + 1)).toList=((pendingOf st).toList.set i (sa,na + nb,pw)).eraseIdx (i + 1):=by simp
 have ac:(((pendingOf st).setIfInBounds i (sa,na + nb,pw)).eraseIdxIfInBounds (i + 1)).size + 1=(pendingOf st).size:=by
  rw[← By,U,CV (by rw[Es,By];exact hi),Es,By];omega
 have hz:(arrOf st).size=it.size:=g.perm.size_eq;refine AA (EI ?_);rw[ea,eb];dsimp only;refine AA (aG2 ?_);have Y:∀ j,j < it.size→∃ p,(arrOf st)[j]?=some p∧p∈it.toList:=fun j hj=>g.get hj;have fin:∀(z:Bq),Sg (setPending st (((pendingOf st).setIfInBounds i (sa,na + nb,pw)).eraseIdxIfInBounds (i + 1))) z→∀ c:Array BV,c.Perm (arrOf st)→Q true (setArr z c):=fun z sg c hp=>
  h _ ⟨sg.kind.trans g.kind,hp.trans g.perm,sg.fail.trans g.fail⟩ (by show iI (pendingOf z).toList 0 lo;rw[sg.pend];show iI (((pendingOf st).setIfInBounds i (sa,na + nb,pw)).eraseIdxIfInBounds (i + 1)).toList 0 lo;rw[U];exact x5) (by show(pendingOf z).size + 1=_;rw[sg.pend];exact ac)
 have B:Q true (setPending st (((pendingOf st).setIfInBounds i (sa,na + nb,pw)).eraseIdxIfInBounds (i + 1))):=fin _ (Sg.refl _) _ (Dg _);obtain⟨p1,e1,i1⟩:=Y sb (by omega);refine AA (f6 e1 (AA (iH hc i1 (fun j hj=>Y _ (by omega)) (by omega) g.kind fun k hk=>?_)));dsimp only;refine bZ (fun _=>AR B) fun n0=>?_;have ag:=iX n0;obtain⟨p2,e2,i2⟩:=Y (sa + k + (na - k) - 1) (by omega);refine AA (f6 e2 (AA (iH hc i2 (fun j hj=>Y _ (by omega)) (by omega) g.kind fun W ao=>?_)));dsimp only;refine bZ (fun _=>AR B) fun n1=>?_;have an:=iX n1;have J:∀ q∈((arrOf st).extract (sa + k) sb).toList,q∈it.toList:=fun q M=>by
  rw[fJ]at M;exact(Bd.mp g.perm).mem_iff.mp (Ff (Cp M))
 have O:∀ q∈((arrOf st).extract sb (sb + W)).toList,q∈it.toList:=fun q M=>by
  rw[fJ]at M;exact(Bd.mp g.perm).mem_iff.mp (Ff (Cp M))
 have sX:1≤((arrOf st).extract (sa + k) sb).size:=by rw[Array.size_extract];omega
 have sY:1≤((arrOf st).extract sb (sb + W)).size:=by rw[Array.size_extract];omega
 have fin2:∀(out:Array BV) (z:Bq),out.Perm ((arrOf st).extract (sa + k) sb ++ (arrOf st).extract sb (sb + W))→Sg (setPending st (((pendingOf st).setIfInBounds i (sa,na + nb,pw)).eraseIdxIfInBounds (i + 1))) z→
   Q (failedOf (setArr z (out.toList.zipIdx.foldl (fun a q=>a.setIfInBounds (sa + k + q.2) q.1) (arrOf z)))).isNone (setArr z (out.toList.zipIdx.foldl (fun a q=>a.setIfInBounds (sa + k + q.2) q.1) (arrOf z))):=fun out z F sg=>by
  have hf:(failedOf (setArr z (out.toList.zipIdx.foldl (fun a q=>a.setIfInBounds (sa + k + q.2) q.1) (arrOf z)))).isNone=true:=by
   show(failedOf z).isNone=true;rw[sg.fail.trans g.fail];rfl
  rw[hf];refine fin z sg _ ?_;rw[sg.arr];refine aFE (n:=na - k + W) ?_ (by show _≤(arrOf st).size;omega);refine(Bd.mp F).trans ?_;rw[Bj,fJ,fJ];have e3:(arrOf st).toList.drop sb=((arrOf st).toList.drop (sa + k)).drop (na - k):=by
   rw[Fh];congr 1;omega
  rw[e3,show sb - (sa + k)=na - k by omega,DT,← List.take_add]
 refine bZ (fun _=>AA (aAY hc sX sY J O g.kind fun out z F sg=>?_)) fun _=>AA (aA0 hc sX sY J O g.kind fun out z F sg=>?_)
 ·exact AA (C0 (AA (EI (AR (fin2 out z F sg)))))
 ·exact AA (C0 (AA (EI (AR (fin2 out z F sg)))))
end
section
variable{prog:AG}{w:A2}{A:AW}{E:Ac→Af→Prop}{s:Af}{κ:Dt}{it:Array BV}
structure SR(κ:Dt)(it:Array BV)(lo:Nat)(st:Bq):Prop where
 gs:GS κ it st
 le:lo≤it.size
 sg:iI (pendingOf st).toList 0 lo
variable(hc:pM prog w A s κ it)
include hc
theorem aFF{st:Bq}{Q:Unit→Bq→Prop}(g:GS κ it st)(hp:pendingOf st=#[])(h:∀ q,(arrOf q).Perm it→failedOf q=none→Q () q):wpS (model prog w) A E s sortRuns' Q st:=by
 rw[sortRuns'_eq];refine AA (EI ?_);dsimp only;have hz:(arrOf st).size=it.size:=g.perm.size_eq;rw[hz];generalize minRun' it.size it.size 0=mr;refine AA (Dh (Cb (I:=fun x c q=>c.1=none∧SR κ it c.2 q) (Q:=fun c q=>c.1=none∧∃ lo,SR κ it lo q) ?_ (fun c q z=>⟨z.1,_,z.2⟩) ⟨rfl,g,A0 _,?_⟩) ?_)
 ·rintro x ⟨r,lo⟩ q _ _ ⟨F,J,B,U⟩;dsimp only at F B U ⊢;subst F;refine bZ (fun _=>AR ⟨rfl,lo,J,B,U⟩) fun hl=>?_;refine AA (aEd hc J (by omega) (by omega) fun n ao ar ak m1=>?_);dsimp only;refine bZ (fun hm=>AA (FH (CQ ⟨rfl,AA (aB8 hc (J.on m1) (by omega) fun ad m2=>bZ (fun z=>nomatch z) fun _=>?_)⟩))) fun hm=>?_
  all_goals
   first | (have mm:=m1.trans m2;have ez:1≤min (it.size - lo) mr∧lo + min (it.size - lo) mr≤it.size:=by omega) | (have mm:=m1;have ez:1≤n∧lo + n≤it.size:=by omega)
   have gg:=J.on mm;have M:=U;rw[← mm.pend]at M;refine AA (EI ?_);split
   ·rename_i s1 n1 _ ac;refine AA (Dh (Cb (I:=fun x c q=>c.1=none∧SR κ it lo q) (Q:=fun c q=>c.1=none∧SR κ it lo q) ?_ (fun c q z=>z) ⟨rfl,gg,B,M⟩) ?_)
    ·rintro x ⟨r,u⟩ W _ _ ⟨F,Z,_,O⟩;dsimp only at F ⊢;subst F;refine AA (EI ?_);split
     ·rename_i a1 a2 af Y;refine bZ (fun _=>AR ⟨rfl,Z,B,O⟩) fun _=>?_;have h2:(pendingOf W).size > 1:=by
       by_cases h2:(pendingOf W).size > 1
       ·exact h2
       ·rw[Ia h2]at Y;cases Y
      refine AA (tD hc Z O B (by omega) fun aj g4 ah _=>?_);exact bZ (fun z=>nomatch z) fun _=>AR ⟨rfl,g4,B,ah⟩
     ·exact AR ⟨rfl,Z,B,O⟩
    ·rintro⟨r,u⟩ W ⟨F,Z,_,O⟩;dsimp only at F ⊢;subst F;refine AA (C0 (AA (C0 (AR ⟨rfl,⟨Z.kind,Z.perm,Z.fail⟩,ez.2,?_⟩))));show iI (((pendingOf W).modify _ _).push _).toList 0 _;rw[CI,Array.toList_modify];refine iI.snoc ez.1 (iI.mod ?_ _ O);exact fun _=>⟨rfl,rfl⟩
   ·refine AA (C0 (AR ⟨rfl,⟨gg.kind,gg.perm,gg.fail⟩,ez.2,?_⟩));show iI ((pendingOf _).push _).toList 0 _;rw[CI];exact M.snoc ez.1
 ·show iI (pendingOf st).toList 0 0;rw[hp];rfl
 ·rintro⟨r,lo⟩ q ⟨F,lo',J,B,U⟩;dsimp only at F ⊢;subst F;refine AA (Dh (Cb (I:=fun x c q=>c.1=none∧SR κ it lo' q) (Q:=fun c q=>c.1=none∧SR κ it lo' q) ?_ (fun c q z=>z) ⟨rfl,J,B,U⟩) ?_)
  ·rintro x ⟨r,u⟩ q _ _ ⟨F,J,B,U⟩;dsimp only at F ⊢;subst F;refine AA (EI ?_);refine bZ (fun _=>AR ⟨rfl,J,B,U⟩) fun h2=>?_;have an:¬ (pendingOf q).size≤1:=h2;have hi:∀ b:Bool,(if b=true then(pendingOf q).size - 2 - 1 else(pendingOf q).size - 2) + 1 < (pendingOf q).size:=fun b=>by
    cases b <;> simp <;> omega
   refine AA (tD hc J U B (hi _) fun ad g2 M _=>?_);exact AR ⟨rfl,g2,B,M⟩
  ·rintro⟨r,u⟩ q ⟨F,J,B,U⟩;dsimp only at F ⊢;subst F;exact AR (h _ J.perm J.fail)
theorem aFG{Q:Unit×Bq→Af→Prop}(h:∀ st:Bq,(arrOf st).Perm it→failedOf st=none→Q ((),st) s):wpAny (model prog w) A (sortRuns'.run (Dr κ it #[] 7 none)) Q E s:=by
 refine Ca (aFF (E:=E) hc (st:=Dr κ it #[] 7 none) (Q:=fun u st=>Q (u,st) s) ⟨rfl,Dg _,rfl⟩ rfl h) (fun r s' z=>?_) fun _ _ z=>z;obtain⟨rfl,q⟩:=z;exact q
end
def aIL(c:Ag)(qual:Str):HO:=.ext fun h=>h.CodeRec (.ref c) qual
structure aKT(T:Ag)(pos:Pos)(qual:Str)(H:Hp):Prop where
 ex:∃ ps,H T=some (.tbl ps)∧TriplesOk ps.toList∧(codeAmong pos ps.toList=none∨∃ c,codeAmong pos ps.toList=some (.ref c)∧H c=some (aIL c qual))
def aKU(T:Ag)(H H':Hp):Prop:=∀ b o,b≠T→H b=some o→H' b=some o
section
variable{X:Cx}{di:Ih}{σ:St}{H:Hp}{s:Af}
end
structure aJU(ps fs:List Str)(sc:DV):Prop where
 kind:sc.kind=.function
 co:sc.isCoroutine=false
 gen:sc.isGenerator=false
 nd:ps.Nodup
 par:∀ x∈ps,sc.names.lookup x=some .local
 fr:∀ x∈fs,sc.names.lookup x=some .free
 nocell:∀ y∈sc.names,y.2≠.cell
section
variable{X:Cx}{di:Ih}{σ:St}{H:Hp}{s:Af}
end
section
variable{prog:AG}{w:A2}{A:AW}{E:Ac→Af→Prop}{s:Af}
inductive aC5(h:Bp)(v:Ac):Prop
 | mk (t:_) (a:_) (b:_) (u1:_) (u2:_) (q0:v=.ref t) (q1:Fc h t #[.int a u1,.int b u2]):aC5 h v
def aKV(h:Bp)(v:Ac):Prop:=aC5 h v
end
section
variable{X:Cx}{di:Ih}{σ:St}
inductive aC6(H:Hp)(v:Ac):Prop
 | mk (t:_) (a:_) (b:_) (q0:v=.ref t) (q1:H t=some (.tup [.int a,.int b])):aC6 H v
def aKW(H:Hp)(v:Ac):Prop:=aC6 H v
end
section
variable{X:Cx}{di:Ih}{σ:St}{H:Hp}{s:Af}
end
section
variable{X:Cx}{e:Bw}{ta:TA}
end
section
variable{X:Cx}
end
section
variable{X:Cx}{tg:Bw}
end
section
variable{X:Cx}
inductive aB9(H:Hp):V→Prop
 | str (z:Str):aB9 H (.str z)
 | non:aB9 H .non
 | int (i:Int):aB9 H (.int i)
 | bl (b:Bool):aB9 H (.bl b)
 | lst {a:Ag} {xs:List V} (e:H a=some (.lst xs)):aB9 H (.ref a)
 | tup {a:Ag} {xs:List V} (e:H a=some (.tup xs)):aB9 H (.ref a)
inductive Thg(H:Hp):V→Option (List V)→Prop
 | lst {a:Ag} {xs:List V} (e:H a=some (.lst xs)) (h:∀ v∈xs,aB9 H v):Thg H (.ref a) (some xs)
 | tup {a:Ag} {xs:List V} (e:H a=some (.tup xs)):Thg H (.ref a) none
 | dct {a:Ag} {fh:List (Key×V)} (e:H a=some (.dK fh)):Thg H (.ref a) none
 | non:Thg H .non none
 | str (z:Str):Thg H (.str z) none
 | bl (b:Bool):Thg H (.bl b) none
end
section
variable{X:Cx}
inductive RpV(H:Hp):V→Str→Prop
 | non:RpV H .non "None"
 | bl (b:Bool):RpV H (.bl b) (if b then "True" else "False")
 | str (z:Str) (h:(reprText z).length≤sizeLine):RpV H (.str z) (reprText z)
 | ref {a:Ag} {m:Bool} {d:Ai} (r:RdV m H (.ref a) d) (h1:d.showable=true) (h2:d.depth≤20) (h3:d.shown.length≤sizeLine):RpV H (.ref a) d.shown
inductive nZ(xs:List V)(H:Hp)(Q:VK):Prop
 | mk (x:V) (z:Str) (q0:xs=[x]) (q1:RpV H x z) (q2:Q (.str z) H):nZ xs H Q
def zV:List V→Hp→VK→Prop:=fun xs H Q=>nZ xs H Q
theorem f7{k:Nat}(F:cZ k X.A):fX X (.builtin "repr") zV:=by
 intro di s σ H xs us Q I r h;obtain⟨x,z,rfl,hx,q⟩:=h;cases hx with
 | non=>
  obtain⟨u,rfl,ru⟩:=fY r;cases ru;exact P.repr_of_none ⟨.str _,H,I.tok _,⟨_,rfl⟩,q⟩
 | bl b=>
  obtain⟨u,rfl,ru⟩:=fY r;cases ru;exact P.repr_of_bool ⟨.str _,H,I.tok _,⟨_,by cases b <;> rfl⟩,q⟩
 | str z h=>
  obtain⟨u,rfl,ru⟩:=fY r;obtain⟨t,rfl⟩:=ru;exact P.repr_of_str ⟨.str _,H,I.tok _,⟨_,rfl⟩,q⟩ h
 | @ref a m d rd h1 h2 B=>exact aD1 F di s σ H _ us Q I r ⟨a,m,d,rfl,rd,h1,h2,B,q⟩
end
mutual
theorem RdV.uniq{H:Hp}:∀{x:V}{d d':Ai},RdV false H x d→RdV false H x d'→d=d'
 | _,_,_,.non,h=>by cases h;rfl
 | _,_,_,.bl b,h=>by cases h;rfl
 | _,_,_,.int i,h=>by cases h;rfl
 | _,_,_,.str z _,h=>by cases h;rfl
 | _,_,_,.lst hm _ _ _,_=>nomatch hm
 | _,_,_,.tup e J r,h=>by
  cases h with
  | lst hm=>cases hm
  | tup q F B=>
   rw[e]at q;cases q;rw[cJ.uniq r B]
  | dct _ q=>rw[e]at q;cases q
 | _,_,_,.dct _ e,h=>by
  cases h with
  | lst hm=>cases hm
  | tup q _ _=>rw[e]at q;cases q
  | dct _ q=>rfl
theorem cJ.uniq{H:Hp}:∀{xs:List V}{ds q:List Ai},cJ false H xs ds→cJ false H xs q→ds=q
 | _,_,_,.nil,h=>by cases h;rfl
 | _,_,_,.cons a r,h=>by
  cases h with
  | cons a' z=>rw[RdV.uniq a a',cJ.uniq r z]
end
def OkS:Nat→Ai→Prop
 | 0,d=>(∃ z,d=.str z)∨∃ i,d=.int i
 | n + 1,d=>(∃ z,d=.str z)∨(∃ i,d=.int i)∨∃ ds,d=.tuple ds∧∀ e∈ds,OkS n e
open Classical in
section
variable{X:Cx}{di:Ih}{σ:St}{H:Hp}{s:Af}
open Classical in
end
section
variable{X:Cx}
open Classical in
end
section
variable{X:Cx}
end
inductive aJV(X:Cx)(di:Ih)(σ:St)(E':XK)(x:Ac)(s':Af):Prop
 | mk (H1:_) (s1:_) (q0:Inv X di σ H1 s1) (q1:CXr X.prog X.w X.stack H1 s1 E' x s'):aJV X di σ E' x s'
def XP(X:Cx)(di:Ih)(σ:St)(E':XK)(x:Ac)(s':Af):Prop:=aJV X di σ E' x s'
structure PX(X:Cx)(e:Bw)(te:XK→TE):Prop where
 run:∀(E':XK) (di:Ih) (s:Af) (σ:St) (H:Hp) (Q:VK),Inv X di σ H s→te E' σ H Q→wpAny (model X.prog X.w) X.A (eval e X.env) (EP X di σ Q) (XP X di σ E') s
structure PXs(X:Cx)(b:List B8)(tb:XK→TS):Prop where
 run:∀(E':XK) (di:Ih) (s:Af) (σ:St) (H:Hp) (D:rB),Inv X di σ H s→tb E' D σ H→wpAny (model X.prog X.w) X.A (execs b X.env) (SP X di D) (XP X di σ E') s
section
variable{X:Cx}{k:Nat}{f:Ag}{fd:AK}{ps:List Str}{sp:Sp}{x:Str}{p pos:Pos}{e:Bw}{es:List Bw}{t:TA}{te:XK→TE}
end
section
variable{X:Cx}{di:Ih}{σ:St}{H:Hp}{s:Af}{v:Ac}
end
def aKX(y:Ag)(C:Ac):HO:=.ext fun h=>∃ ob vs,h.get? y=some ob∧ob.cls=C∧ob.data=.fields vs
open PySem PySem.Spec PyProof.Rows PySem.W Builtin Builtin.ObjectAttr PySem.Calls Builtin.Getset_descriptor
structure aK4(K:Aj)(D:Ag):Prop where
 ga:findIn K (.ref D) "__getattribute__"=some (some (.builtin "BaseException.__getattribute__"))
 gn:findIn K (.ref D) "__getattr__"=some none
 mb:mroIn K D (.type "BaseException")=some true
 hd:hasDictIn K D=true
 ha:findIn K (.ref D) "__class__"=some (some (.builtin "object.__class__"))
 hm:mroIn K D (.type "object")=some true
 hn:specialIn K (.builtin "object.__class__") "__get__"=some (some (.builtin "getset_descriptor.__get__"))
 ht:takesIn K (.builtin "object.__class__")=some true
def aKY(y:Ag)(C:Ac)(h:Bp):Prop:=∃ ob vs,h.get? y=some ob∧ob.cls=C∧ob.data=.fields vs
section
variable{X:Cx}
end
section
variable{H H':Hp}{L:Ih}{b:Ag}{o:Obj}
variable{P:AG}{w:A2}{h h':Bp}{fs:List Ag}
end
section
variable{P:AG}{w:A2}{K:Aj}{mg:Str→Option Ac}{base:Bp}{N:List Str}{qual:Str}{scope:DV}{f:Ag}{cd:Ac}{A:AW}{outer:List Env}{s:Af}{H:Hp}{E:XK}
structure aKZ(cl:List (Str×Ag))(L:Ih)(fs:List Str)(zs:List V):Prop where
 pr:GE (fun(x:Str) (v:V)=>∃ b o u,cl.lookup x=some b∧L.lookup b=some o∧o.data=.cell (some u)∧c7 v u) fs zs
 all:∀ x b,cl.lookup x=some b→∃ o u,L.lookup b=some o∧o.data=.cell u
 inj:∀ x y b,cl.lookup x=some b→cl.lookup y=some b→x=y
end
section
variable{X:Cx}{k:Nat}{x:Str}{p pos:Pos}
end
inductive Thn(H:Hp):V→Prop
 | non:Thn H .non
 | bl (b:Bool):Thn H (.bl b)
 | int (i:Int):Thn H (.int i)
 | str (z:Str):Thn H (.str z)
 | lst {a:Ag} {xs:List V} (e:H a=some (.lst xs)):Thn H (.ref a)
 | tup {a:Ag} {xs:List V} (e:H a=some (.tup xs)):Thn H (.ref a)
 | dct {a:Ag} {fh:List (Key×V)} (e:H a=some (.dK fh)):Thn H (.ref a)
section
variable{X:Cx}
end
section
variable{prog:AG}{w:A2}{A:AW}{E:Ac→Af→Prop}{s:Af}
theorem aFH{a:Ag}{vs:List Ac}{n:Nat}{P:FZ→Af→Prop}(M:s.heap.get? a=some (seqObj "list" vs.toArray n))(hK:∀(B z:Ac) (cS:List Ac),vs=B :: z :: cS→∀(s':Af) (Q:Dt→Af→Prop),(∀ b u,b≠a→s.heap.get? b=some u→s'.heap.get? b=some u)→(∀ κ,pM prog w A s' κ (pairsOf vs)→Q κ s')→wpAny (model prog w) A (keyKind' vs.toArray) Q E s')(hz:vs.length≤sizeLine)
  (h:∀ out:List Ac,out.Perm vs→P (.done (.ret .none)) { s with heap:=sortedHeap s.heap a vs out.toArray }):wpAny (model prog w) A (Builtin.«list.sort» ⟨[.ref a],[]⟩) P E s:=by
 rw[GQ];have ha:a < s.heap.objs.size:=Ay M;refine Aa (Ei M rfl (Aa (Cv M rfl ?_)));obtain⟨O,ho1⟩:∃ O,(s.heap.update a (Be fun _=>#[])).get? a=some (seqObj "list" #[] O):=⟨_,get?_update_seq M (fun _=>#[])⟩
 refine Aa (DI ho1 rfl (Aa (EU (Aa (Du (Bc ?_))))));have W:a≠((s.heap.update a (Be fun _=>#[])).push (seqObj "tuple" vs.toArray 0)).objs.size:=by rw[size_push',De];exact AF (Bl ha)
 have Y:a≠(s.heap.update a (Be fun _=>#[])).objs.size:=by rw[De];exact AF ha
 have q:(((s.heap.update a (Be fun _=>#[])).push (seqObj "tuple" vs.toArray 0)).push (seqObj "list" #[] 0)).get? a=some (seqObj "list" #[] O):=by
  rw[EO _ _ _ W,EO _ _ _ Y];exact ho1
 show wpAny (model prog w) A _ P E { s with heap:=((s.heap.update a (Be fun _=>#[])).push (seqObj "tuple" vs.toArray 0)).push (seqObj "list" #[] 0) };dsimp only;have fin:∀ st:Bq,(arrOf st).Perm (pairsOf vs)→P (.done (.ret .none)) { s with heap:=sortedHeap s.heap a vs ((arrOf st).map (·.2)) }:=fun st F=>by
  have U:((arrOf st).map (·.2)).toList.Perm vs:=by
   rw[Eb];have:=(Bd.mp F).map (·.2)
   rw[pairsOf_toList,List.map_snd_zip (Ao _)]at this;exact this
  have:=h _ U
  rwa [Array.toArray_toList]at this
 have le:∀ st:Bq,(arrOf st).Perm (pairsOf vs)→((arrOf st).map (·.2)).size≤sizeLine + 1:=fun st F=>by
  rw[Gv,F.size_eq,pairsOf_size];omega
 by_cases h2:vs.toArray.size < 2
 ·rw[Ib h2,Ib h2];refine Aa (Ae ?_);rw[StateT.run_pure];refine Aa (Ae ?_);dsimp only;refine Aa (DI q rfl (Aa (Cv q rfl ?_ (hsz2:=le (Dr general' (vs.toArray.zip vs.toArray) #[] 7 none) (Dg _)))));simp only[bne_self_eq_false,A9,if_false];exact Ae (fin (Dr general' (vs.toArray.zip vs.toArray) #[] 7 none) (Dg _))
 ·rw[Ia h2,Ia h2];obtain⟨B,z,cS,rfl⟩:∃ B z cS,vs=B :: z :: cS:=by
   match vs,h2 with
   | [],h2=>simp at h2
   | [_],h2=>simp at h2
   | B :: z :: cS,_=>exact⟨B,z,cS,rfl⟩
  refine Aa (hK B z cS rfl _ _ (fun b u nb e=>?_) fun κ hc=>Aa (aFG hc fun st F Z=>?_))
  ·have J:=Ay e;rw[EO _ _ _ (by rw[size_push',De];exact AF (Bl J)),EO _ _ _ (by rw[De];exact AF J),Bt _ _ _ _ nb];exact e
  ·dsimp only;refine Aa (DI q rfl (Aa (Cv q rfl ?_ (hsz2:=le st F))));rw[Z];simp only[bne_self_eq_false,A9,if_false];exact Ae (fin st F)
end
section
variable{X:Cx}
end
section
variable{prog:AG}{w:A2}{A:AW}{E:Ac→Af→Prop}{s:Af}{T:String}{r d:Ag}{n:Nat}{P:Nat→Ac→Prop}{OK:Bp→Prop}
end
section
variable{X:Cx}
end
section
variable{prog:AG}{w:A2}{A:AW}{E:Ac→Af→Prop}{s:Af}
def aKG(P:AG)(w:A2)(h:Bp)(q:Ag)(kv:Key×Ac):Prop:=∃ o key n,h.get? q=some o∧o.cls=.type "tuple"∧o.data=.seq #[key,kv.2] n∧(c9 P w).is kv.1 key=true
end
section
variable{X:Cx}
end
open PySem.W in
section
variable{X:Cx}
end
section
variable{X:Cx}{di:Ih}{σ:St}{H:Hp}{s:Af}{d:Ag}{fh:List (Key×V)}
end
section
variable{X:Cx}{tg:Bw}
end
inductive aHW(h:Bp)(v:Ac)(z:Str):Prop
 | mk (t:_) (u:_) (a:_) (b:_) (q0:v=.ref t) (q1:Fc h t #[.str z u,a,b]):aHW h v z
def NmT(h:Bp)(v:Ac)(z:Str):Prop:=aHW h v z
section
variable{prog:AG}{w:A2}{A:AW}{E:Ac→Af→Prop}{s:Af}
end
section
variable{X:Cx}
end
section
variable{X:Cx}
end
mutual
def ltD:Ai→Ai→Bool
 | .str x,.str y=>decide (x.cps.toList < y.cps.toList)
 | .int i,.int j=>decide (i < j)
 | .tuple xs,.tuple ys=>ltL xs ys
 | _,_=>false
def ltL:List Ai→List Ai→Bool
 | [],[]=>false
 | [],_ :: _=>true
 | _ :: _,[]=>false
 | x :: xs,y :: ys=>if BF x y=true then ltL xs ys else ltD x y
end
mutual
def okD:Ai→Ai→Bool
 | .str _,.str _=>true
 | .int _,.int _=>true
 | .tuple xs,.tuple ys=>okL xs ys
 | _,_=>false
def okL:List Ai→List Ai→Bool
 | x :: xs,y :: ys=>if BF x y=true then okL xs ys else okD x y
 | _,_=>true
end
def aJW(A:AW)(s:Af)(a b:Ac)(r:Bool):Prop:=∀(prog:AG) (w:A2) (E Q:Ac→Af→Prop),Q (.bool r) s→wpAny (model prog w) A (richCompare .Lt a b) Q E s
section
theorem wV(l b:Ag)(B q:Array Ac)(n n2:Nat)(dd Y:Option Ag)(sl Z:Array (Option Ac))(xs ys:List Ai):
  Meets (Builtin.«tuple.__lt__» ⟨[.ref l,.ref b],[]⟩)
   (fun A R s=>s.heap.get? l=some { cls:=.type "tuple",dict:=dd,data:=.seq B n,slots:=sl }∧s.heap.get? b=some { cls:=.type "tuple",dict:=Y,data:=.seq q n2,slots:=Z }∧
    (∃ as bs,EW s.heap B.toList xs as∧EW s.heap q.toList ys bs)∧okL xs ys=true∧
    (∀ dx U x y as bs,dx∈xs→U∈ys→Hl s.heap x dx as→Hl s.heap y U bs→EqAt A.in1 s x y (BF dx U)∧(okD dx U=true→aJW A.in1 s x y (ltD dx U)))∧
    R (.ok (.ret (.bool (ltL xs ys)))) s):=
 .of_wp fun prog w A R s h=>by
  obtain⟨hp,g,d,tk,os⟩:=s;obtain⟨hl,hb,⟨as0,bs0,r1,r2⟩,hok,hc,h⟩:=h;have f2:=AutoSeq1.sub_tuple_tuple;have z1:B.size=xs.length:=by rw[← ReadsAll.length _ _ _ r1];simp
  have z2:q.size=ys.length:=by rw[← ReadsAll.length _ _ _ r2];simp
  wp_walk using Fs hl,Fs hb,wpAny_forIn_list _ (fun cS b s'=>b.1=none∧s'=⟨hp,g,d,tk,os⟩∧∃(vs M:List Ac) (J F:List Ai) (as bs:List Ag),cS=vs.zip M∧
   EW hp vs J as∧EW hp M F bs∧okL J F=true∧(∀ x∈J,x∈xs)∧(∀ y∈F,y∈ys)∧J.length + q.size=F.length + B.size∧R (.ok (.ret (.bool (ltL J F)))) ⟨hp,g,d,tk,os⟩) _
  case turn=>
   rintro⟨y,x⟩ cS b s' ⟨hb',rfl,vs,M,J,F,as,bs,hz,hvi,hwi,hok',hx',hy',hlen,hR⟩;cases hvi with
   | nil=>rw[EL]at hz;cases hz
   | @cons v vs d1 an ai ag q1 O=>
    cases hwi with
    | nil=>rw[List.zip_nil_right]at hz;cases hz
    | @cons v2 M d2 af ac ak q2 W=>
     rw[DP]at hz;injection hz with hyx hrest;injection hyx with hy hx;subst hy hx;simp only[A5]at hlen;obtain⟨he,hlt⟩:=hc d1 d2 _ _ _ _ (hx' _ AI) (hy' _ AI) q1 q2;refine Aa (he prog w _ _ ?_);unfold ltL at hR;unfold okL at hok';cases e:BF d1 d2 with
     | true=>
      rw[e,Ib rfl]at hR hok'
      wp_walk
      exact⟨rfl,rfl,_,_,_,_,_,_,hrest,O,W,hok',fun z hz=>hx' z (AL _ hz),fun z hz=>hy' z (AL _ hz),by omega,hR⟩
     | false=>
      rw[e,Ia AD]at hR hok';have aa:=fun E Q=>hlt hok' prog w E Q
      wp_walk using aa
      exact⟨_,rfl,by simpa using hR⟩
  case fin=>
   rintro⟨b1,b2⟩ s' ⟨hb',rfl,vs,M,J,F,as,bs,hz,hvi,hwi,hok',hx',hy',hlen,hR⟩;simp only at hb';subst hb';have hv:ltL J F=decide (B.size < q.size):=by
    cases hvi with
    | nil=>
     cases hwi with
     | nil=>
      simp only[DL]at hlen;unfold ltL;exact(decide_eq_false (by omega)).symm
     | cons _ _=>
      simp only[DL,A5]at hlen;unfold ltL;exact(Ic (by omega)).symm
    | cons _ _=>
     cases hwi with
     | nil=>
      simp only[DL,A5]at hlen;unfold ltL;exact(decide_eq_false (by omega)).symm
     | cons _ _=>
      rw[DP]at hz;cases hz
   rw[hv]at hR
   wp_walk
   exact⟨_,rfl,by simpa[Builtin.Tuple.tupleCompareSizes]using hR⟩
  case h=>
   exact⟨rfl,rfl,B.toList,q.toList,xs,ys,_,_,rfl,r1,r2,hok,fun _ h=>h,fun _ h=>h,by omega,h⟩
end
theorem xZ:∀{xs:List Ai}{d:Ai},d∈xs→d.depth≤Bf xs
 | [],_,h=>by simp at h
 | x :: xs,d,h=>by
  unfold Bf;rcases An.mp h with rfl | h
  ·exact Nat.le_max_left _ _
  ·exact Bi (xZ h) (Nat.le_max_right _ _)
theorem qE:∀{xs:List Ai}{d:Ai},A1 xs=true→d∈xs→d.canLay0=true
 | [],_,_,h=>by simp at h
 | x :: xs,d,hc,h=>by
  unfold A1 at hc;rw[AH]at hc;rcases An.mp h with rfl | h
  ·exact hc.1
  ·exact qE hc.2 h
theorem aG3:∀(n:Nat) {A:AW}{s:Af}{B J:Ai}{a b:Ac}{as bs:List Ag},B.depth≤n→Hl s.heap a B as→Hl s.heap b J bs→B.canLay0=true→J.canLay0=true→okD B J=true→A.units + n < cLine→aJW A s a b (ltD B J):=by
 intro n
 induction n with
 | zero=>
  intro A s B J a b as bs hd ra z ha Z hok hu prog w E Q q;cases ra with
  | int i t=>cases z with
   | int j u=>unfold ltD at q;exact(lt_int q:wpAny _ _ (compareOp .Lt _ _) _ _ _)
   | _=>simp[okD]at hok
  | str x t=>cases z with
   | str y u=>unfold ltD at q;exact(lt_str q:wpAny _ _ (compareOp .Lt _ _) _ _ _)
   | _=>simp[okD]at hok
  | tuple _ _ _ _=>unfold BG at hd;omega
  | _=>cases z <;> simp[okD]at hok
 | succ n ih=>
  intro A s B J a b as bs hd ra z ha Z hok hu prog w E Q q;cases ra with
  | int i t=>cases z with
   | int j u=>unfold ltD at q;exact(lt_int q:wpAny _ _ (compareOp .Lt _ _) _ _ _)
   | _=>simp[okD]at hok
  | str x t=>cases z with
   | str y u=>unfold ltD at q;exact(lt_str q:wpAny _ _ (compareOp .Lt _ _) _ _ _)
   | _=>simp[okD]at hok
  | @tuple p o vs n1 xs as ho M U r1=>cases z with
   | @tuple p2 o2 aa n2 ys bs Y W O r2=>
    unfold BG at hd;unfold B1 at ha Z;unfold okD at hok;unfold ltD at q;obtain⟨cls,dd,data,sl⟩:=o;obtain⟨cls2,dd2,data2,sl2⟩:=o2;simp only at M U W O;subst M U W O;refine richCompare_meets_room (op:=.Lt) ⟨_,ho,rfl⟩ ⟨_,Y,rfl⟩ PySem.F.slot_tuple_lt PySem.F.entry_tuple_lt (PySem.F.args_tuple_lt_2 _ _) (wV p p2 vs aa n1 n2 dd dd2 sl sl2 xs ys)
     ⟨ho,Y,⟨as,bs,r1,r2⟩,hok,fun dx dy x y ai ao hx hy rx ry=>?_,show Fz (ltL xs ys)≠Value.notImplemented∧Q (.bool (ltL xs ys)) s from⟨(fun x=>nomatch x),q⟩⟩ (by omega)
    have h1:=xZ hx;have h2:=Nat.min_le_left dx.depth dy.depth;exact⟨PySem.SeqAt.eqAt_reads dx dy _ _ _ _ _ _ rx ry (qE ha hx) (qE Z hy) (by show A.units + 1 + min dx.depth dy.depth < cLine;omega),fun ok=>ih (by omega) rx ry (qE ha hx) (qE Z hy) ok (by show A.units + 1 + n < cLine;omega)⟩
   | _=>simp[okD]at hok
  | _=>cases z <;> simp[okD]at hok
mutual
def plD:Ai→Bool
 | .str _=>true
 | .int _=>true
 | .tuple xs=>plL xs
 | _=>false
def plL:List Ai→Bool
 | []=>true
 | x :: xs=>plD x && plL xs
end
mutual
theorem n5:∀(x y:Ai),plD x=true→BF x y=true→plD y=true→x=y
 | .str a,y,_,h,q=>by
  cases y <;> simp only[plD,A9]at q <;> simp only[BF,A9]at h;rw[eq_of_beq h]
 | .int a,y,_,h,q=>by
  cases y <;> simp only[plD,A9]at q <;> simp only[BF,A9]at h;rw[eq_of_beq h]
 | .tuple xs,y,z,h,q=>by
  cases y <;> simp only[plD,A9]at z q <;> simp only[BF,A9]at h;rw[aC7 xs _ z h q]
 | .none,_,h,_,_=>by simp[plD]at h
 | .bool _,_,h,_,_=>by simp[plD]at h
 | .list _,_,h,_,_=>by simp[plD]at h
 | .dict _,_,h,_,_=>by simp[plD]at h
theorem aC7:∀(xs ys:List Ai),plL xs=true→CM xs ys=true→plL ys=true→xs=ys
 | [],ys,_,h,_=>by
  cases ys with
  | nil=>rfl
  | cons _ _=>simp[CM]at h
 | x :: xs,ys,z,h,q=>by
  cases ys with
  | nil=>simp[CM]at h
  | cons y ys=>
   simp only[plL,AH]at z q;simp only[CM,AH]at h;rw[n5 x y z.1 h.1 q.1,aC7 xs ys z.2 h.2 q.2]
end
mutual
theorem vR:∀(x:Ai),plD x=true→BF x x=true
 | .str a,_=>by simp[BF]
 | .int a,_=>by simp[BF]
 | .tuple xs,h=>by
  simp only[plD]at h;simp only[BF];exact x8 xs h
 | .none,h=>by simp[plD]at h
 | .bool _,h=>by simp[plD]at h
 | .list _,h=>by simp[plD]at h
 | .dict _,h=>by simp[plD]at h
theorem x8:∀(xs:List Ai),plL xs=true→CM xs xs=true
 | [],_=>by simp[CM]
 | x :: xs,h=>by
  simp only[plL,AH]at h;simp only[CM,vR x h.1,x8 xs h.2,Bool.and_self]
end
theorem aA1:∀(xs:List Ai),plL xs=true→ltL xs xs=false
 | [],_=>by simp[ltL]
 | x :: xs,h=>by
  simp only[plL,AH]at h;unfold ltL;rw[Ib (vR x h.1)];exact aA1 xs h.2
theorem qG{x:Ai}(h:plD x=true):ltD x x=false:=by
 cases x <;> simp only[plD,A9]at h
 ·simp[ltD]
 ·simp only[ltD];exact decide_eq_false (CU _)
 ·simp only[ltD];exact aA1 _ h
mutual
theorem aCa:∀(x y z:Ai),plD x=true→plD y=true→plD z=true→ltD x y=true→ltD y z=true→ltD x z=true
 | .str a,y,z,_,_,_,h1,h2=>by
  cases y <;> simp only[ltD,A9]at h1;cases z <;> simp only[ltD,A9]at h2;simp only[ltD];exact Ic (ES (Ie h1) (Ie h2))
 | .int a,y,z,_,_,_,h1,h2=>by
  cases y <;> simp only[ltD,A9]at h1;cases z <;> simp only[ltD,A9]at h2;simp only[ltD];exact Ic (Int.lt_trans (Ie h1) (Ie h2))
 | .tuple xs,y,z,B,q,hz,h1,h2=>by
  cases y <;> simp only[ltD,A9]at h1;cases z <;> simp only[ltD,A9]at h2;simp only[plD]at B q hz;simp only[ltD];exact aFI xs _ _ B q hz h1 h2
 | .none,_,_,h,_,_,_,_=>by simp[plD]at h
 | .bool _,_,_,h,_,_,_,_=>by simp[plD]at h
 | .list _,_,_,h,_,_,_,_=>by simp[plD]at h
 | .dict _,_,_,h,_,_,_,_=>by simp[plD]at h
theorem aFI:∀(xs ys zs:List Ai),plL xs=true→plL ys=true→plL zs=true→ltL xs ys=true→ltL ys zs=true→ltL xs zs=true
 | [],ys,zs,_,_,_,h1,h2=>by
  cases ys <;> simp only[ltL,A9]at h1;cases zs <;> simp only[ltL,A9]at h2;simp[ltL]
 | x :: xs,ys,zs,q,F,hz,h1,h2=>by
  cases ys with
  | nil=>simp[ltL]at h1
  | cons y ys=>
   cases zs with
   | nil=>simp[ltL]at h2
   | cons z zs=>
    simp only[plL,AH]at q F hz;unfold ltL at h1 h2 ⊢;by_cases e1:BF x y=true
    ·have:=n5 x y q.1 e1 F.1;subst this;rw[Ib e1]at h1;by_cases B:BF x z=true
     ·rw[Ib B]at h2 ⊢;exact aFI xs ys zs q.2 F.2 hz.2 h1 h2
     ·rw[Ia B]at h2 ⊢;exact h2
    ·rw[Ia e1]at h1;by_cases B:BF y z=true
     ·have:=n5 y z F.1 B hz.1;subst this;rw[Ia e1];exact h1
     ·rw[Ia B]at h2;have J:=aCa x y z q.1 F.1 hz.1 h1 h2;rw[Ia fun e=>?_]
      ·exact J
      ·have:=n5 x z q.1 e hz.1;subst this;rw[qG q.1]at J;cases J
end
theorem aG4{x y:Ai}(z:plD x=true)(q:plD y=true)(h:¬ BF x y=true):¬ BF y x=true:=fun e=>by
 have:=n5 y x q e z;subst this;exact h e
mutual
theorem aC8:∀(x y:Ai),plD x=true→plD y=true→okD x y=true→¬ BF x y=true→ltD x y=true∨ltD y x=true
 | .str a,y,_,_,z,h=>by
  cases y with
  | str b=>
  simp only[ltD,decide_eq_true_eq];simp only[BF]at h;rcases List.le_total a.cps.toList b.cps.toList with q | q
  ·rcases List.le_iff_lt_or_eq.mp q with q | q
   ·exact .inl q
   ·exact absurd (by rw[oH q];simp) h
  ·rcases List.le_iff_lt_or_eq.mp q with q | q
   ·exact .inr q
   ·exact absurd (by rw[oH q];simp) h
  | _=>simp[okD]at z
 | .int a,y,_,_,z,h=>by
  cases y <;> simp only[okD,A9]at z;simp only[ltD,decide_eq_true_eq];simp only[BF,beq_iff_eq]at h;omega
 | .tuple xs,y,F,B,z,h=>by
  cases y <;> simp only[okD,A9]at z;simp only[plD]at F B;simp only[BF]at h;simp only[ltD];exact aC9 xs _ F B z h
 | .none,_,h,_,_,_=>by simp[plD]at h
 | .bool _,_,h,_,_,_=>by simp[plD]at h
 | .list _,_,h,_,_,_=>by simp[plD]at h
 | .dict _,_,h,_,_,_=>by simp[plD]at h
theorem aC9:∀(xs ys:List Ai),plL xs=true→plL ys=true→okL xs ys=true→¬ CM xs ys=true→ltL xs ys=true∨ltL ys xs=true
 | [],ys,_,_,_,h=>by
  cases ys with
  | nil=>simp[CM]at h
  | cons _ _=>exact .inl (by simp[ltL])
 | x :: xs,ys,F,B,q,h=>by
  cases ys with
  | nil=>exact .inr (by simp[ltL])
  | cons y ys=>
   simp only[plL,AH]at F B;simp only[CM,AH]at h;unfold okL at q;unfold ltL;by_cases e:BF x y=true
   ·have:=n5 x y F.1 e B.1;subst this;rw[Ib e]at q ⊢;rw[Ib e];exact aC9 xs ys F.2 B.2 q fun z=>h ⟨e,z⟩
   ·rw[Ia e]at q ⊢;rw[Ia (aG4 F.1 B.1 e)];exact aC8 x y F.1 B.1 q e
end
structure RowD(d:Ai):Prop where
 fm:∃ k xs,d=.tuple (.str k :: xs)
 pl:plD d=true
 ly:d.canLay0=true
 dp:d.depth≤6
inductive aHX(h:Bp)(v:Ac)(d:Ai):Prop
 | mk (as:_) (q0:Hl h v d as):aHX h v d
def RdT(h:Bp)(v:Ac)(d:Ai):Prop:=aHX h v d
mutual
theorem vS{h h':Bp}(k:∀ b o,h.get? b=some o→o.cls=.type "tuple"→h'.get? b=some o):∀{v:Ac}{d:Ai}{as:List Ag},Hl h v d as→plD d=true→Hl h' v d as
 | _,_,_,.none,p=>by simp[plD]at p
 | _,_,_,.bool _,p=>by simp[plD]at p
 | _,_,_,.int i t,_=>.int i t
 | _,_,_,.str x t,_=>.str x t
 | _,_,_,.list _ _ _ _,p=>by simp[plD]at p
 | _,_,_,.tuple e c d r,p=>.tuple (k _ _ e c) c d (tF k r (by unfold plD at p;exact p))
 | _,_,_,.dict _ _ _ _ _,p=>by simp[plD]at p
theorem tF{h h':Bp}(k:∀ b o,h.get? b=some o→o.cls=.type "tuple"→h'.get? b=some o):∀{vs:List Ac}{ds:List Ai}{as:List Ag},EW h vs ds as→plL ds=true→EW h' vs ds as
 | _,_,_,.nil,_=>.nil
 | _,_,_,.cons a r,p=>by
  unfold plL at p;rw[AH]at p;exact .cons (vS k a p.1) (tF k r p.2)
end
theorem RdT.keep{h h':Bp}{v:Ac}{d:Ai}(p:RdT h v d)(r:RowD d)(k:∀ b o,h.get? b=some o→o.cls=.type "tuple"→h'.get? b=some o):RdT h' v d:=by
 obtain⟨as,p⟩:=p;exact⟨as,vS k p r.pl⟩
inductive aHY(h:Bp)(v:Ac):Prop
 | mk (t:_) (z:_) (u:_) (cS:_) (q0:v=.ref t) (q1:Fc h t (BE z u :: cS).toArray):aHY h v
def FsT(h:Bp)(v:Ac):Prop:=aHY h v
theorem RdT.first{h:Bp}{v:Ac}{d:Ai}(p:RdT h v d)(r:RowD d):FsT h v:=by
 obtain⟨as,p⟩:=p;obtain⟨k,xs,rfl⟩:=r.fm;cases p with
 | @tuple a o vs n _ _ e c B q=>
  obtain⟨l⟩:=vs;cases q with
  | cons z F=>
   cases z;exact⟨a,k,_,_,rfl,o,e,c,n,B⟩
section
variable{prog:AG}{w:A2}{A:AW}{E:Ac→Af→Prop}{s:Af}
theorem aJX{b fin:Bool}{Q:Bool→Af→Prop}{N:Nat}(hu:A.units + N < cLine):∀{vs ws:List Ac}{xs ys:List Ai}{as bs:List Ag} (i:Nat),EW s.heap vs xs as→EW s.heap ws ys bs→A1 xs=true→A1 ys=true→okL xs ys=true→Bf xs≤N→
  fin=decide (xs.length < ys.length)→(i=0→∃ k U k2 F,xs=.str k :: U∧ys=.str k2 :: F)→Q (ltL xs ys) s→KatLex prog w A b fin Q (vs.zip ws) i s
 | _,_,_,_,_,_,i,.nil,M,_,_,_,_,B,_,q=>by
  rw[EL];refine kat_nil ?_;cases M with
  | nil=>unfold ltL at q;rw[B];exact q
  | cons _ _=>unfold ltL at q;rw[B];exact q
 | _,_,_,_,_,_,i,.cons a1 r1,M,O,W,ok,hd,B,h0,q=>by
  cases M with
  | nil=>
   rw[List.zip_nil_right];refine kat_nil ?_;unfold ltL at q;rw[B];exact q
  | cons a2 M=>
   rw[DP];unfold A1 at O W;rw[AH]at O W;unfold Bf at hd;have J:=Bi (Nat.le_max_left _ _) hd;have Z:=Bi (Nat.le_max_right _ _) hd;unfold okL at ok;unfold ltL at q;refine kat_cons (PySem.SeqAt.eqAt_reads _ _ _ _ _ _ _ _ a1 a2 O.1 W.1 (FQ (Nat.add_le_add_left (Bi (Nat.min_le_left _ _) J) _) hu) prog w _ _ ?_);refine kat_go (fun e=>kat_yes ?_) fun e=>kat_no ?_
   ·rw[e,Ib rfl]at ok q;exact aJX hu (i + 1) r1 M O.2 W.2 ok Z (by rw[B];simp) (fun z=>by omega) q
   ·rw[e,Ia AD]at ok q;by_cases Y:(b && i == 0)=true
    ·obtain⟨k,U,k2,F,e1,e2⟩:=h0 (by simp at Y;exact Y.2);injection e1 with e1;injection e2 with e2;subst e1 e2;cases a1;cases a2;rw[Y];unfold ltD at q;exact oneLt_str q
    ·rw[show(b && i == 0)=false by simpa using Y];exact kat_one _ _ (aG3 N J a1 a2 O.1 W.1 ok hu prog w _ _ q)
theorem ltR{fb:Bool}{U J:Ac}{d e:Ai}{C:Bool→Af→Prop}(h1:RdT s.heap U d)(h2:RdT s.heap J e)(B:RowD d)(O:RowD e)(ok:okD d e=true)(hu:A.units + 8 < cLine)(h:C (ltD d e) s):wpAny (model prog w) A (keyLt' (tuples' fb) U J) C E s:=by
 obtain⟨as,h1⟩:=h1;obtain⟨bs,h2⟩:=h2;obtain⟨k1,xs,rfl⟩:=B.fm;obtain⟨k2,ys,rfl⟩:=O.fm;have dp:=B.dp;have z:=B.ly;have q:=O.ly;unfold BG at dp;unfold B1 at z q;unfold okD at ok;unfold ltD at h;cases h1 with
 | @tuple a o vs n _ _ e1 c1 d1 F=>
  cases h2 with
  | @tuple a2 o2 W n2 _ _ Y c2 Z M=>
   refine kat_lt e1 d1 Y Z (aJX (N:=8) hu 0 F M z q ok (by omega) ?_ (fun _=>⟨_,_,_,_,rfl,rfl⟩) h);have l1:=PySem.SeqAt.ReadsAll.length _ _ _ F;have l2:=PySem.SeqAt.ReadsAll.length _ _ _ M;rw[← l1,← l2];simp
theorem aJY{ks:List Ac}{Q:Dt→Af→Prop}(Z:∀ v∈ks,FsT s.heap v)(h:∀ b,Q (tuples' b) s):wpAny (model prog w) A (keyKind' ks.toArray) Q E s:=by
 rw[keyKind'_eq,Cw];refine Aa ?_;rw[← bind_pure_comp];refine Aa (jR (R:=fun _ r=>∃ a u,r=some (BE a u)) ks (fun v J=>?_) fun rs hl B=>Ae ?_)
 ·obtain⟨t,z,u,cS,rfl,ht⟩:=Z v J;refine⟨some (.str z u),⟨z,u,rfl⟩,fun W q=>?_⟩;rw[Hq];refine Aa (BR ht.typeIs ?_);refine Aq (by decide) ?_;refine Aa (iF ht ?_);exact Ae q
 ·have F:(rs.toArray.all fun x=>x.isSome)=true:=by
   rw[F8,A8];intro r U;obtain⟨v,_,a,u,rfl⟩:=B r U;rfl
  refine BL (by rw[F];rfl) ?_;refine Aa (CQ ?_);rw[oneTypeOnly'_eq,Cw]
  iterate 2 refine Aa ?_
  rw[← bind_pure_comp];refine Aa (jR (R:=fun _ r=>r=AC "str") _ (fun v J=>?_) fun ts Y aa=>Ae ?_)
  ·have M:some v∈rs:=by simpa using J
   obtain⟨_,_,a,u,e⟩:=B _ M;cases e;exact⟨_,rfl,fun W q=>BR (F9 s a u) q⟩
  ·cases O:ts.toArray[0]? with
   | none=>exact Ae (Ae (h _))
   | some t=>exact Ae (Ae (h _))
def qH(ds:List Ai):List Nat:=(dN (fun i j=>ltD (ds.getD i .none) (ds.getD j .none)) (B6 ds.length)).toList
theorem vT(ds:List Ai)(h:0 < ds.length):(qH ds).Perm (AU ds.length):=by
 have:=iC.run (fun i j=>ltD (ds.getD i .none) (ds.getD j .none)) (f9 h);exact Bd.mp this
theorem aCb{ds:List Ai}(h:0 < ds.length)(M:∀ d∈ds,∀ e∈ds,okD d e=true)(hd:∀ d∈ds,plD d=true)(hn:ds.Nodup):((qH ds).map fun i=>ds.getD i .none).Pairwise fun a b=>ltD a b=true:=by
 have at':∀ i,i < ds.length→ds.getD i .none=ds[i]?.getD .none∧ds.getD i .none∈ds:=fun i hi=>⟨Ak ..,by rw[Ak,Ab hi];exact Bn _⟩
 have ne:∀ i j,i < ds.length→j < ds.length→i≠j→ds.getD i .none≠ds.getD j .none:=fun i j hi z B e=>by
  rw[Ak,Ak,Ab hi,Ab z]at e;exact B ((Ef hn).mp e)
 obtain⟨π,h1,h2⟩:=aC1 (n:=ds.length) (o:=fun i j=>decide (i < ds.length) && decide (j < ds.length) && ltD (ds.getD i .none) (ds.getD j .none)) (fun i=>by
  by_cases hi:i < ds.length
  ·rw[qG (hd _ (at' i hi).2),Gz]
  ·simp[hi]) (fun i j k a b=>by
  simp only[AH,decide_eq_true_eq]at a b ⊢;exact⟨⟨a.1.1,b.1.2⟩,aCa _ _ _ (hd _ (at' i a.1.1).2) (hd _ (at' j a.1.2).2) (hd _ (at' k b.1.2).2) a.2 b.2⟩) (fun i j hi z B=>by
  simp only[AH,decide_eq_true_eq];rcases aC8 _ _ (hd _ (at' i hi).2) (hd _ (at' j z).2) (M _ (at' i hi).2 _ (at' j z).2) (fun e=>ne i j hi z B (n5 _ _ (hd _ (at' i hi).2) e (hd _ (at' j z).2)))with q | q
  ·exact .inl ⟨⟨hi,z⟩,q⟩
  ·exact .inr ⟨⟨z,hi⟩,q⟩)
 have F:∀ i j,i < ds.length→j < ds.length→ltD (ds.getD i .none) (ds.getD j .none)=ord π i j:=fun i j hi z=>by
  rw[← h1 i j hi z,Ic hi,Ic z];rfl
 have e:dN (fun i j=>ltD (ds.getD i .none) (ds.getD j .none)) (B6 ds.length)=dN (ord π) (B6 ds.length):=mZ (n:=ds.length) (P:=Pm ds.length) F (f9 h);unfold qH;rw[e];obtain⟨hP,hS⟩:=aAU h h2;have hz:=hP.size;rw[Cy];intro i j hi z B;have W:i < ds.length:=by simpa[hz]using hi
 have J:j < ds.length:=by simpa[hz]using z
 have:=hS i j B J;have O:(dN (ord π) (B6 ds.length)).getD i 0=(dN (ord π) (B6 ds.length)).toList[i]'(by simpa using(by omega:i < (dN (ord π) (B6 ds.length)).size)):=by rw[lX (A7 (by omega))];simp
 have U:(dN (ord π) (B6 ds.length)).getD j 0=(dN (ord π) (B6 ds.length)).toList[j]'(by simpa using(by omega:j < (dN (ord π) (B6 ds.length)).size)):=by rw[lX (A7 (by omega))];simp
 rw[Dd,Dd,← O,← U];rw[F _ _ (hP.lt h i) (hP.lt h j)];exact Ic this
theorem aJZ{b:Bool}{vs:List Ac}{ds:List Ai}{Q:Unit×Bq→Af→Prop}(hl:vs.length=ds.length)(U:∀ d∈ds,∀ e∈ds,okD d e=true)(hd:∀ d∈ds,RowD d)(hu:A.units + 8 < cLine)(h2:2≤vs.length)(J:vs.length < 64)(M:∀ i,i < vs.length→RdT s.heap (vs.getD i .none) (ds.getD i .none))
  (h:∀ st:Bq,(arrOf st).map (·.2)=((qH ds).map fun i=>vs.getD i .none).toArray→failedOf st=none→Q ((),st) s):wpAny (model prog w) A (sortRuns'.run (Dr (tuples' b) (vs.toArray.zip vs.toArray) #[] 7 none)) Q E s:=by
 have hz:(vs.toArray.zip vs.toArray).size=vs.length:=by simp
 have B:=kas_runs (prog:=prog) (w:=w) (A:=A) (E:=E) (κ:=tuples' b) (it:=vs.toArray.zip vs.toArray) (n:=vs.length) (s:=s) (Q:=fun u st s'=>s'=s∧Q (u,st) s) (G:=fun p s'=>p.toList=qH ds∧s'=s) h2 J (fun p' F s' O ha Z hG=>?_)
  (iC.wpO (n:=vs.length) (P:=Pm vs.length) (o:=fun i j=>ltD (ds.getD i .none) (ds.getD j .none)) (fun i j C hi Y W=>?_) (f9 (by omega)) ⟨by unfold qH;rw[hl],rfl⟩)
 ·have e1:Hn (tuples' b) (vs.toArray.zip vs.toArray) (AU vs.length).toArray=Dr (tuples' b) (vs.toArray.zip vs.toArray) #[] 7 none:=by
   unfold Hn;have:=kas_range (vs.toArray.zip vs.toArray);rw[hz]at this;rw[this]
  rw[e1]at B;exact Ca B (fun r s' z=>by
   obtain⟨rfl,q⟩:=z;exact q) fun e s' z=>z
 ·obtain⟨hp,rfl⟩:=hG;refine⟨rfl,h F ?_ Z⟩;rw[ha];apply Ec.mp;rw[GJ,Eb,hp];show _=(qH ds).map _;refine C9 fun i _=>?_;show(EV (pairsOf vs) i).2=_;rw[E5]
 ·unfold kas_cmp;show wpAny _ _ (keyLt' _ (EV (pairsOf vs) i).1 (EV (pairsOf vs) j).1) _ _ _;rw[E5,E5];have h1:ds.getD i .none∈ds:=by rw[Ak,Ab (by omega:i < ds.length)];exact Bn _
  have h2:ds.getD j .none∈ds:=by rw[Ak,Ab (by omega:j < ds.length)];exact Bn _
  exact ltR (M i hi) (M j Y) (hd _ h1) (hd _ h2) (U _ h1 _ h2) hu W
theorem aCc{a:Ag}{vs:List Ac}{ds:List Ai}{n:Nat}{P:FZ→Af→Prop}(W:s.heap.get? a=some (seqObj "list" vs.toArray n))(hl:vs.length=ds.length)(ho:∀ d∈ds,∀ e∈ds,okD d e=true)(hd:∀ d∈ds,RowD d)(hu:A.units + 8 < cLine)(h2:2≤vs.length)(Z:vs.length < 64)(hk:∀ i,i < vs.length→RdT s.heap (vs.getD i .none) (ds.getD i .none))
  (h:∀(h':Bp) (e:Nat),(∀ b u,b≠a→s.heap.get? b=some u→h'.get? b=some u)→h'.get? a=some (seqObj "list" ((qH ds).map fun i=>vs.getD i .none).toArray e)→P (.done (.ret .none)) { s with heap:=h' }):
  wpAny (model prog w) A (Builtin.«list.sort» ⟨[.ref a],[]⟩) P E s:=by
 have Y:∀ m,m≤vs.length→m≤sizeLine:=fun m hm=>aS (by omega);rw[GQ];refine Aa (Ei W rfl ?_);refine Aa (Cv W rfl ?_ (by rw[Av];exact Y _ (Ao _)) (A0 _));have B:=get?_update_seq W (fun _=>#[]);generalize (if ((#[]:Array Ac).size == vs.toArray.size)=true then n else n + 1)=e1 at B;have J:∀ b u,b≠a→s.heap.get? b=some u→(s.heap.update a (Be fun _=>#[])).get? b=some u:=fun b u nb e=>by
  rw[Bt _ _ _ _ nb];exact e
 dsimp only;generalize s.heap.update a (Be fun _=>#[])=h1 at B J ⊢;refine Aa (DI B rfl ?_);refine Aa (EU ?_ (by simpa using Y _ (Ao _)));refine Aa (Du ?_ (A0 _));refine Bc ?_;have F:((h1.push { cls:=AC "tuple",data:=Cq vs.toArray.toList.toArray }).push { cls:=AC "list",data:=Cq ([]:List Ac).toArray }).get? a=some (seqObj "list" #[] e1):=Ah _ (Ah _ B);have q:∀ b u,b≠a→s.heap.get? b=some u→((h1.push { cls:=AC "tuple",data:=Cq vs.toArray.toList.toArray }).push { cls:=AC "list",data:=Cq ([]:List Ac).toArray }).get? b=some u:=fun b u nb e=>Ah _ (Ah _ (J b u nb e));dsimp only;generalize (h1.push { cls:=AC "tuple",data:=Cq vs.toArray.toList.toArray }).push { cls:=AC "list",data:=Cq ([]:List Ac).toArray }=h3 at F q ⊢;have U:∀ i,i < vs.length→RdT h3 (vs.getD i .none) (ds.getD i .none):=fun i hi=>(hk i hi).keep (hd _ (by rw[Ak,Ab (by omega:i < ds.length)];exact Bn _)) fun b o e hc=>q b o (fun z=>by
  rw[z,W]at e;cases e;have ac:(AC "list")=AC "tuple":=hc;injection ac with z2;exact absurd z2 (by decide)) e
 have M:¬ vs.toArray.size < 2:=by simpa using Nat.not_lt.mpr h2
 rw[Ia M,Ia M];refine Aa (aJY (fun v hv=>?_) fun b=>?_)
 ·obtain⟨i,hi,rfl⟩:=Dz.mp hv;have:=U i hi;rw[Ak,Ab hi]at this;have hm:ds.getD i .none∈ds:=by rw[Ak,Ab (by omega:i < ds.length)];exact Bn _
  exact this.first (hd _ hm)
 ·refine Aa (aJZ hl ho hd hu h2 Z U fun st O hf=>?_);dsimp only;refine Aa (DI F rfl ?_);have ab:((qH ds).map fun i=>vs.getD i .none).length=vs.length:=by rw[Ad,(vT ds (by omega)).length_eq,BW,hl]
  refine Aa (Cv F rfl ?_ (A0 _) (by show((arrOf st).map (·.2)).size≤_;rw[O,Av,ab];exact F2 (Y _ (Ao _))))
  rw[hf];refine Aq (by simp) ?_;obtain⟨e3,gA3⟩:∃ e3,(h3.update a (Be fun _=>(arrOf st).map (·.2))).get? a=some (seqObj "list" ((arrOf st).map (·.2)) e3):=⟨_,get?_update_seq F (fun _=>(arrOf st).map (·.2))⟩
  refine Ae (h _ e3 (fun b u nb e=>?_) (by rw[← O];exact gA3));rw[Bt _ _ _ _ nb];exact q b u nb e
end
section
variable{X:Cx}
inductive lZ(xs:List V)(H:Hp)(Q:VK):Prop
 | mk (p:Ag) (rs:List V) (ds:List Ai) (q0:xs=[.ref p]) (q1:H p=some (.lst rs)) (q2:cJ false H rs ds) (q3:(∀ d∈ds,∀ e∈ds,okD d e=true)) (q4:(∀ d∈ds,RowD d)) (q5:ds.length < 64) (q6:∀(l:Ag) (o:List Nat),H l=none→o.Perm (AU ds.length)→(ds.Nodup→(o.map fun i=>ds.getD i .none).Pairwise fun a b=>ltD a b=true)→Q (.ref l) (upd H l (.lst (o.map fun i=>rs.getD i .non)))):lZ xs H Q
def vU:List V→Hp→VK→Prop:=fun xs H Q=>lZ xs H Q
theorem qI{k:Nat}(hr:cZ k X.A):fX X (.builtin "sorted") vU:=by
 intro di s σ H xs us Q I r h;obtain⟨p,rs,ds,rfl,hx,hP,ho,hd,h64,q⟩:=h;obtain⟨u,rfl,ru⟩:=fY r;cases ru;obtain⟨its,rv,pl,_⟩:=I.list (bF hx);have ak:=hP.len;have Y:=rv.length;refine EH GM Gk Gm (Hs _) ?_;unfold Builtin.«sorted»;apply Aa (m:=checkCount "sorted" 1 1 _);apply Ae;refine Aa (collect_list pl.isList ?_ (aS (by omega)));have hk:∀ b u,s.heap.get? b=some u→((s.heap.push (seqObj "list" #[] 0)).update s.heap.objs.size (Be (· ++ its.toArray))).get? b=some u:=fun b u e=>by
  rw[Bt _ _ _ _ (AF (Ay e))];exact Ah _ e
 have ab:s.heap.objs.size < ((s.heap.push (seqObj "list" #[] 0)).update s.heap.objs.size (Be (· ++ its.toArray))).objs.size:=by
  rw[De,B2];exact BN _
 dsimp only;generalize (s.heap.push (seqObj "list" #[] 0)).update s.heap.objs.size (Be (· ++ its.toArray))=z at hk ab ⊢
 have W:its.length≤sizeLine:=aS (by omega);apply Aa;refine Du ?_ W;have B:(z.push (seqObj "list" its.toArray 0)).get? z.objs.size=some (seqObj "list" its.toArray 0):=Ax _ rfl;have U:∀ b u,s.heap.get? b=some u→(z.push (seqObj "list" its.toArray 0)).get? b=some u:=fun b u e=>Ah _ (hk b u e);have hN:∀ i,i < its.length→RdT (z.push (seqObj "list" its.toArray 0)) (its.getD i .none) (ds.getD i .none):=fun i hi=>by
  have Z:i < rs.length:=by omega
  have aq:i < ds.length:=by omega
  obtain⟨d,hdd,rd⟩:=hP.at (Ab Z);obtain⟨u,hu,ru⟩:=rv.get (Ab Z);obtain⟨as,hrd,_⟩:=RdV.reads I rd ru;rw[Ak,Ak,hu,hdd];exact RdT.keep ⟨as,hrd⟩ (hd _ (AN hdd)) fun b o e _=>U b o e
 have F:s.heap.objs.size≤z.objs.size:=Dj ab;have J:∀(h':Bp) (e:Nat) (o:List Nat),o.Perm (AU ds.length)→(ds.Nodup→(o.map fun i=>ds.getD i .none).Pairwise fun a b=>ltD a b=true)→(∀ b u,b≠z.objs.size→(z.push (seqObj "list" its.toArray 0)).get? b=some u→h'.get? b=some u)→h'.get? z.objs.size=some (seqObj "list" (o.map fun i=>its.getD i .none).toArray e)→EP X di σ Q (.ref z.objs.size) { s with heap:=h',toks:=s.toks }:=fun h' e o M hs k' O=>by
  have ag:c0 (o.map fun i=>rs.getD i .non) (o.map fun i=>its.getD i .none):=oI rv _ fun i hi=>by
   have:=M.mem_iff.mp hi;rw[BK]at this;omega
  have ai:o.length=ds.length:=by rw[M.length_eq,BW]
  exact⟨.ref z.objs.size,_,I.laid (t':=s.toks) (o:=.lst (o.map fun i=>rs.getD i .non)) (fun b u eb=>k' b u (AF (Ay (hk b u eb))) (U b u eb)) F ⟨aS (by rw[Ad];omega),_,e,ag,by rw[O] <;> rfl⟩,rfl,q _ o (I.hok.fresh F) M hs⟩
 by_cases h2:2≤rs.length
 ·refine Aa (Bc (B7 slot_list_sort ⟨_,B,rfl⟩ entry_list_sort (aCc B (by omega) ho hd (by have:=hr.un;show X.A.units + 1 + 1 + 8 < cLine;omega) (by omega) (by omega) hN fun h' e k' O=>⟨_,rfl,?_⟩) (FO _)));exact Ae ⟨_,rfl,J h' e _ (vT ds (by omega)) (fun hn=>aCb (by omega) ho (fun d h=>(hd d h).pl) hn) k' O⟩
 ·refine Aa (Bc (B7 slot_list_sort ⟨_,B,rfl⟩ entry_list_sort (aFH B (fun v1 v2 cS e=>by rw[e]at Y;simp at Y;omega) W fun out hp=>⟨_,rfl,?_⟩) (FO _)));have ai:=hp.length_eq;obtain⟨e,O⟩:=He (vs:=its) (out:=out.toArray) B;refine Ae ⟨_,rfl,J _ e (AU ds.length) (.refl _) (fun hn=>?_) (fun b u nb eb=>?_) ?_⟩
  ·rw[Cy];intro i j hi hj ap;rw[Ad,BW]at hj;omega
  ·have ah:=Ay eb;rw[GZ nb ah];exact eb
  ·have:out=(AU ds.length).map fun i=>its.getD i .none:=by
    have ac:its.length < 2:=by omega
    have ad:ds.length=its.length:=by omega
    rw[ad];cases its with
    | nil=>exact EG hp
    | cons v0 t=>cases t with
     | nil=>rw[List.perm_singleton.mp hp];rfl
     | cons _ _=>simp only[A5]at ac;omega
   rw[← this];exact O
end
section
variable{X:Cx}
inductive aFJ(neg:Bool)(x:V)(y:V)(H:Hp)(Q:VK):Prop
 | mk (m:Bool) (d:Ai) (ds:List Ai) (q0:RdV m H x d) (q1:(RdV m H y (.tuple ds)∨RdV m H y (.list ds))) (q2:d.canLay0=true) (q3:A1 ds=true) (q4:d.depth≤8) (q5:Q (.bl (if neg then !ds.any (fun e=>BF e d) else ds.any fun e=>BF e d)) H):aFJ neg x y H Q
def aJ0(neg:Bool):V→V→Hp→VK→Prop:=fun x y H Q=>aFJ neg x y H Q
theorem aIM{k:Nat}(B:cZ k X.A):OpR X (compareOp .In) (aJ0 false):=by
 intro di s σ H x y v u Q I F z h;obtain⟨m,d,ds,h1,h2,h3,h4,h5,q⟩:=h;obtain⟨as,r1,_⟩:=RdV.reads I h1 F;have hm:=Gd (Bf ds) d.depth;have J:=B.un;rcases h2 with h2 | h2
 ·obtain⟨bs,r2,_⟩:=RdV.reads I h2 z;exact PySem.SeqAt.in_tuple_reads r2 r1 h4 h3 (by omega) ⟨.bl _,H,I,rfl,q⟩
 ·obtain⟨bs,r2,_⟩:=RdV.reads I h2 z;exact PySem.SeqAt.in_list_reads r2 r1 h4 h3 (by omega) ⟨.bl _,H,I,rfl,q⟩
theorem x9{k:Nat}(B:cZ k X.A):OpR X (compareOp .NotIn) (aJ0 true):=by
 intro di s σ H x y v u Q I F z h;obtain⟨m,d,ds,h1,h2,h3,h4,h5,q⟩:=h;obtain⟨as,r1,_⟩:=RdV.reads I h1 F;have hm:=Gd (Bf ds) d.depth;have J:=B.un;rcases h2 with h2 | h2
 ·obtain⟨bs,r2,_⟩:=RdV.reads I h2 z;exact PySem.SeqAt.notIn_tuple_reads r2 r1 h4 h3 (by omega) ⟨.bl _,H,I,rfl,q⟩
 ·obtain⟨bs,r2,_⟩:=RdV.reads I h2 z;exact PySem.SeqAt.notIn_list_reads r2 r1 h4 h3 (by omega) ⟨.bl _,H,I,rfl,q⟩
theorem vV(k:Str):∀ ys:List Str,countIn (.str k) (ys.map AQ)=((ys.countP fun y=>decide (y=k):Nat):Int)
 | []=>rfl
 | y :: ys=>by
  rw[A4,F7];unfold PySem.Spec.countIn;rw[vV k ys];by_cases e:y=k
  ·subst e;simp[PySem.Spec.same];omega
  ·simp[PySem.Spec.same,e]
inductive pB(x:V)(xs:List V)(H:Hp)(Q:VK):Prop
 | mk (a:Ag) (zs:List Str) (z:Str) (q0:x=.ref a) (q1:xs=[.str z]) (q2:H a=some (.lst (zs.map V.str))) (q3:Q (.int ((zs.countP fun y=>decide (y=z):Nat):Int)) H):pB x xs H Q
def aA2:V→List V→Hp→VK→Prop:=fun x xs H Q=>pB x xs H Q
theorem yA:MtR X "list.count" aA2:=by
 intro di s σ H x xs v us Q I B r h;obtain⟨a,zs,z,rfl,rfl,ha,q⟩:=h;cases B;obtain⟨u,rfl,ru⟩:=fY r;obtain⟨t,rfl⟩:=ru;obtain⟨its,rv,p,_⟩:=I.list (bF ha);refine count_list_strs p.isList (mY rv) ?_;rw[vV];exact⟨.int _,H,I.tok _,⟨_,rfl⟩,q⟩
end
section
variable{X:Cx}
inductive qJ(K:Aj)(x:V)(y:V)(H:Hp)(Q:VK):Prop
 | mk (p:_) (q:_) (xs:_) (q0:x=.ref p) (q1:y=.ref q) (q2:SqL K H p xs) (q3:SqL K H q []) (q4:Q (.bl (decide (0 < xs.length))) H):qJ K x y H Q
def aCd(K:Aj):V→V→Hp→VK→Prop:=fun x y H Q=>qJ K x y H Q
theorem aFK(F:X.A.units < cLine):OpR X (compareOp .NotEq) (aCd X.K):=by
 intro di s σ H x y v u Q I J B h;obtain⟨p,q,xs,rfl,rfl,h1,h2,hq⟩:=h;cases xs with
 | nil=>exact aE9 F di s σ H _ _ v u Q I J B ⟨p,q,[],[],rfl,rfl,h1,h2,rfl,rfl,hq⟩
 | cons z r=>
  cases J;cases B;obtain⟨us,r1,p1,_⟩:=I.list h1;obtain⟨ws,r2,p2,_⟩:=I.list h2;have M:=r1.length;have O:=r2.length;refine SeqAt.RcNeAt.lists_lengths p1.isList p2.isList (by simp at M O ⊢;omega) F X.prog X.w _ _ ?_;rw[Ic (show 0 < (z :: r).length by simp)]at hq;exact⟨.bl _,H,I,rfl,hq⟩
end
end L2
namespace K59
open PySem L2
theorem nW{a b:Str}{X Y:Prop}(n:a≠b)(h:Y):if decide (V.str a=V.str b)=true then X else Y:=dY (fun g=>absurd (V.str.inj (Ie g)) n) fun _=>h
theorem yW{a:Str}{X Y:Prop}(h:X):if decide (V.str a=V.str a)=true then X else Y:=dY (fun _=>h) fun g=>absurd (Ic rfl) g
theorem zZ1{q:V}:[q].length≤sizeLine:=aS (show 1≤1000000 by decide)
theorem zZ2{q a1:V}:[q,a1].length≤sizeLine:=aS (show 2≤1000000 by decide)
theorem zZ3{q a1 a2:V}:[q,a1,a2].length≤sizeLine:=aS (show 3≤1000000 by decide)
theorem zZ4{q a1 a2 a3:V}:[q,a1,a2,a3].length≤sizeLine:=aS (show 4≤1000000 by decide)
theorem zZ5{q a1 a2 a3 a4:V}:[q,a1,a2,a3,a4].length≤sizeLine:=aS (show 5≤1000000 by decide)
theorem zZ6{q a1 a2 a3 a4 a5:V}:[q,a1,a2,a3,a4,a5].length≤sizeLine:=aS (show 6≤1000000 by decide)
theorem zZ9{q a1 a2 a3 a4 a5 a6 a7 a8:V}:[q,a1,a2,a3,a4,a5,a6,a7,a8].length≤sizeLine:=aS (show 9≤1000000 by decide)
theorem aKH{q a1 a2 a3 a4 a5 a6 a7 a8 a9:V}:[q,a1,a2,a3,a4,a5,a6,a7,a8,a9].length≤sizeLine:=aS (show 10≤1000000 by decide)
def Cl(P:AG)(w:A2)(K:Aj)(mg:Str→Option Ac)(base:Bp)(k:Nat)(n:Str)(ps:List Str)(sp:Sp):Prop:=∃ f fd,cY P w K mg base CX0 k f fd ps sp∧mg n=some (.ref f)∧Al K (.ref f)=true∧eU K fd ps []
theorem bG{X:Cx}{k:Nat}{ps:List Str}{sp:Sp}{x:Str}{p pos:Pos}{e:Bw}{es:List Bw}{t:TA}(c:Cl X.prog X.w X.K X.mg X.base k x ps sp)(B:cZ k X.A)(ha:PA X (e::es) t)(J:Gl X x:=by rfl)(z:(x==("__debug__":Str))=false:=by decide)(M:starEach (e::es) X.env=(false,eval e X.env)::starEach es X.env:=by rfl)(q:(backTo pos (starEach es X.env)).any (·.1)=false:=by rfl):PE X (.Call (.Name x p) (e::es) [] pos) (aHO sp [] E0 t):=by
 obtain⟨f,fd,F,hm,hk,hb⟩:=c;exact fF F B J hm hk hb .nil i3 ha z M q
def top(i:Nat):B8:=PySem.Challenge.pw_dykelengths_k59_rows_written_down.main.body.getD i (.Pass ⟨0,0,0,0⟩)
abbrev m5:B8:=top 7
abbrev jF:B8:=top 20
abbrev l7:B8:=top 21
abbrev m6:B8:=top 22
abbrev l9:B8:=top 23
abbrev gT:B8:=top 24
abbrev oK:B8:=top 25
abbrev iJ:B8:=top 26
abbrev iK:B8:=top 27
abbrev iL:B8:=top 28
abbrev jG:B8:=top 29
abbrev oM:B8:=top 30
abbrev rS:B8:=top 31
abbrev rT:B8:=top 32
abbrev jH:B8:=top 33
abbrev jI:B8:=top 34
abbrev rU:B8:=top 35
abbrev oO:B8:=top 36
abbrev mC:B8:=top 37
abbrev rV:B8:=top 38
abbrev rW:B8:=top 40
abbrev jT:B8:=top 41
abbrev mE:B8:=top 42
abbrev oP:B8:=top 43
abbrev mG:B8:=top 44
abbrev rX:B8:=top 45
abbrev jJ:B8:=top 49
abbrev m7:B8:=top 50
abbrev gU:B8:=top 51
abbrev jU:B8:=top 52
abbrev oQ:B8:=top 53
abbrev gW:B8:=top 56
abbrev rY:B8:=top 57
abbrev mH:B8:=top 58
abbrev mI:B8:=top 59
abbrev aEe:B8:=top 61
abbrev vW:B8:=top 62
abbrev pN:B8:=top 63
abbrev rZ:B8:=top 64
abbrev vX:B8:=top 65
abbrev oR:B8:=top 66
abbrev sB:B8:=top 67
abbrev vY:B8:=top 68
abbrev pO:B8:=top 69
abbrev aEf:B8:=top 70
abbrev m8:B8:=top 71
abbrev m9:B8:=top 72
abbrev sG:B8:=top 73
abbrev f8:B8:=top 74
abbrev gX:B8:=top 75
abbrev yB:B8:=top 76
abbrev tZ:B8:=top 77
def cC(z:Str):Bool:=decide (1≤z.length∧z.length≤8) && z.cps.toList.all fun c=>decide (97≤c∧c≤122)
def isL(c:Nat):Bool:=decide (97≤c∧c≤122)
def iZ(i:Nat):Nat:=97 + i % 26
theorem zW(i:Nat):isL (iZ i)=true:=by
 unfold isL iZ;exact Ic (by omega)
abbrev abc:Str:=Bx "abcdefghijklmnopqrstuvwxyz"
theorem aFL:abc.cps.toList=Ge 97 26:=by decide
theorem aFM{i:Int}(q:0≤i)(h1:i < 26):atI abc.cps.toList i=some (iZ i.toNat):=by
 obtain⟨j,rfl⟩:∃ j:Nat,i=j:=⟨i.toNat,by omega⟩
 unfold atI ixN;rw[aFL,Ib q,Ib (by simpa using h1)];simp only[Bm,Option.bind_some];rw[List.getElem?_range' (by omega)];unfold iZ;congr 1;omega
theorem aG5:abc.length=26:=by decide
def mk(l:List Nat):Str:=⟨l.toArray⟩
theorem aIP{a b:List Nat}(h:mk a=mk b):a=b:=by
 have:=congrArg (fun z:Str=>z.cps.toList) h;simpa[mk]using this
theorem nA(l:List Nat):(mk l).length=l.length:=by
 show l.toArray.size=_;simp
theorem aCe(a b:List Nat):mk a ++ mk b=mk (a ++ b):=by
 show(⟨a.toArray ++ b.toArray⟩:Str)=_;simp[mk]
def aA3(t k:Nat):List Nat:=[iZ (t + 7 * k),iZ (t + k / 26)]
def bij:Nat→Nat→List Nat
 | 0,_=>[]
 | f + 1,n=>if n=0 then[] else bij f ((n - 1) / 2) ++ [n % 2]
def bin(t n:Nat):List Nat:=(bij 6 n).map fun d=>iZ (t + 9 * d)
theorem aG6:∀ t < 26,((AU 44).map (aA3 t)).Nodup:=by decide
theorem aIQ:∀ t < 26,((AU 44).map fun k=>bin t (k + 1)).Nodup:=by decide
theorem aG7:∀ k < 44,1≤(bij 6 (k + 1)).length∧(bij 6 (k + 1)).length≤8:=by decide
def word(one:Bool)(b:List Nat)(sp t k:Nat):List Nat:=if one then bin t (k + 1) else b.take sp ++ aA3 t k ++ b.drop sp
theorem aIS{α:Type}{f:Nat→α}{n m:Nat}(h:((AU n).map f).Nodup)(hm:m≤n):((AU m).map f).Nodup:=by
 obtain⟨d,rfl⟩:∃ d,n=m + d:=⟨n - m,by omega⟩
 rw[List.range_add,AY]at h;exact(C3.mp h).1
theorem zX{α β:Type}{f:α→β}(z:∀ a b,f a=f b→a=b){l:List α}(h:l.Nodup):(l.map f).Nodup:=by
 rw[List.nodup_iff_pairwise_ne]at h ⊢;exact BP.mpr (h.imp fun q e=>q (z _ _ e))
theorem aG8{one:Bool}{b:List Nat}{sp t m:Nat}(ht:t < 26)(hm:m≤44):((AU m).map fun k=>mk (word one b sp t k)).Nodup:=by
 refine aIS (n:=44) ?_ hm;have e:((AU 44).map fun k=>mk (word one b sp t k))=((AU 44).map (word one b sp t)).map mk:=by rw[Ct];rfl
 rw[e];refine zX (fun _ _ h=>aIP h) ?_;cases one with
 | true=>exact aIQ t ht
 | false=>
  have z:(AU 44).map (word false b sp t)=((AU 44).map (aA3 t)).map fun q=>b.take sp ++ q ++ b.drop sp:=by rw[Ct];rfl
  rw[z];refine zX (fun x y h=>?_) (aG6 t ht);exact List.append_cancel_left (List.append_cancel_right h)
theorem aA4{l:List Nat}(h1:1≤l.length)(q:l.length≤8)(ha:∀ c∈l,isL c=true):cC (mk l)=true:=by
 unfold cC;rw[nA,Ic ⟨h1,q⟩,Ba];have e:(mk l).cps.toList=l:=by simp[mk]
 rw[e,A8];exact ha
theorem iM{z:Str}(h:cC z=true):1≤z.length∧z.length≤8:=by
 unfold cC at h;rw[AH]at h;exact Ie h.1
theorem aEg{one:Bool}{b:List Nat}{sp t k:Nat}(z:k < 44)(F:b.length≤6)(ha:∀ c∈b,isL c=true):cC (mk (word one b sp t k))=true:=by
 cases one with
 | true=>
  have h:=aG7 k z;refine aA4 (by show 1≤(bin t (k + 1)).length;unfold bin;rw[Ad];omega) (by show(bin t (k + 1)).length≤8;unfold bin;rw[Ad];omega) (fun c hc=>?_);have q:c∈bin t (k + 1):=hc;unfold bin at q;obtain⟨d,_,rfl⟩:=Bs.mp q;exact zW _
 | false=>
  have B:(word false b sp t k).length=b.length + 2:=by
   show(b.take sp ++ aA3 t k ++ b.drop sp).length=_;rw[Au,Au,Bh,Ee];show min sp b.length + 2 + (b.length - sp)=_;omega
  refine aA4 (by omega) (by omega) (fun c hc=>?_);have q:c∈b.take sp ++ aA3 t k ++ b.drop sp:=hc;rcases Bo.mp q with h | h
  ·rcases Bo.mp h with h | h
   ·exact ha c (Cp h)
   ·unfold aA3 at h;simp only[An,Az,or_false]at h;rcases h with rfl | rfl
    ·exact zW _
    ·exact zW _
  ·exact ha c (Ff h)
theorem aFN{α:Type}{x:α}:∀{l:List α}{j:Nat},l.Nodup→x ∉ l→(l.set j x).Nodup
 | [],_,_,_=>by simp
 | y :: r,0,h,q=>by
  rw[List.set_cons_zero,CL]at *;exact⟨fun z=>q (AL _ z),h.2⟩
 | y :: r,j + 1,h,q=>by
  rw[List.set_cons_succ];rw[CL]at *;refine⟨fun z=>?_,aFN h.2 fun z=>q (AL _ z)⟩;rcases DF z with z | z
  ·exact h.1 z
  ·exact q (z ▸ AI)
def pC:List Str:=["as","with","part","field","none","done","write","back","join"]
theorem aCf:∀ z∈pC,cC z=true:=by decide
theorem iN:∀ ns:List Str,(ns.map V.str).all iV=true
 | []=>rfl
 | _ :: r=>by simpa[iV]using iN r
theorem zY(z:Str):∀ ns:List Str,inV (.str z) (ns.map V.str)=decide (z∈ns):=by
 intro ns;unfold inV;rw[List.any_map];rw[Cu,CT,decide_eq_true_iff];constructor
 ·rintro⟨y,hy,e⟩;have:y=z:=by simpa[eqV]using e
  exact this ▸ hy
 ·intro h;exact⟨z,h,by simp[eqV]⟩
abbrev hU:Key:=Aw ("cells":Str)
abbrev kAt:Key:=Aw ("at":Str)
abbrev j9:Key:=Aw ("left":Str)
def i0(c:Ag)(a l:Int):List (Key×V):=[(hU,.ref c),(kAt,.int a),(j9,.int l)]
theorem aIT:¬ (hU=kAt):=by decide
theorem aIU:¬ (hU=j9):=by decide
theorem aG9:¬ (kAt=j9):=by decide
theorem aKI:¬ (j9=kAt):=fun e=>aG9 e.symm
theorem aEh(c:Ag)(a l:Int):fQ (i0 c a l) hU=some (.ref c):=by
 unfold i0;rw[lH rfl]
theorem aIV(c:Ag)(a l:Int):fQ (i0 c a l) kAt=some (.int a):=by
 unfold i0;rw[dX aIT,lH rfl]
theorem aFP(c:Ag)(a l:Int):fQ (i0 c a l) j9=some (.int l):=by
 unfold i0;rw[dX aIU,dX aG9,lH rfl]
theorem aIX(c:Ag)(a l a':Int):gG (i0 c a l) kAt (.int a')=i0 c a' l:=by
 unfold gG i0;rw[Ib (by rw[CT];exact⟨(kAt,.int a),by simp,Ic rfl⟩)];simp only[A4,EA,Ia aIT,Ia aKI,Ib]
theorem aFQ(c:Ag)(a l q:Int):gG (i0 c a l) j9 (.int q)=i0 c a q:=by
 unfold gG i0;rw[Ib (by rw[CT];exact⟨(j9,.int l),by simp,Ic rfl⟩)];simp only[A4,EA,Ia aIU,Ia aG9,Ib]
theorem aIY{H:Hp}{p c:Ag}{a l:Int}(h:H p=some (.dK (i0 c a l))):rJ H p (.str "left") (some (.int l)):=by
 have:=rJ.k (k:=j9) h;rw[aFP]at this;exact this
theorem aKJ{H:Hp}{p c:Ag}{a l:Int}(h:H p=some (.dK (i0 c a l))):rJ H p (.str "at") (some (.int a)):=by
 have:=rJ.k (k:=kAt) h;rw[aIV]at this;exact this
theorem aKK{H:Hp}{p c:Ag}{a l:Int}(h:H p=some (.dK (i0 c a l))):rJ H p (.str "cells") (some (.ref c)):=by
 have:=rJ.k (k:=hU) h;rw[aEh]at this;exact this
theorem aJ1{H:Hp}{p c:Ag}{a l:Int}(q:Int)(h:H p=some (.dK (i0 c a l))):aAu H p (.str "left") (.int q) (upd H p (.dK (i0 c a q))):=by
 have:=aAu.k (k:=j9) (v:=.int q) h (lI (by show 3≤1000;decide));rw[aFQ]at this;exact this
theorem aKL{H:Hp}{p c:Ag}{a l:Int}(a':Int)(h:H p=some (.dK (i0 c a l))):aAu H p (.str "at") (.int a') (upd H p (.dK (i0 c a' l))):=by
 have:=aAu.k (k:=kAt) (v:=.int a') h (lI (by show 3≤1000;decide));rw[aIX]at this;exact this
structure cV(H:Hp)(p c:Ag)(ns:List Int)(a:Int):Prop where
 ob:∃ l,0≤l∧H p=some (.dK (i0 c a l))
 ce:H c=some (.lst (ns.map V.int))
 ge:0≤a
 sm:ns.length≤63
theorem cV.same{H H':Hp}{p c:Ag}{ns:List Int}{a:Int}(x:cV H p c ns a)(h:bW H H'):cV H' p c ns a:=by
 obtain⟨⟨l,hl,e⟩,ce,ge,sm⟩:=x;exact⟨⟨l,hl,h _ _ e⟩,h _ _ ce,ge,sm⟩
theorem cV.ne{H:Hp}{p c:Ag}{ns:List Int}{a:Int}(x:cV H p c ns a):c≠p:=by
 obtain⟨⟨l,hl,e⟩,ce,_,_⟩:=x;exact aEF ce e (by intro z;cases z)
inductive aDa(K:Aj)(vs:List V)(H:Hp)(Q:VK)(u3_:XK):Prop
 | mk (a:Ag) (ns:List Int) (q0:vs=[.ref a]) (q1:SqL K H a (ns.map V.int)) (q2:ns.length≤63) (q3:∀ p c H',cV H' p c ns 0→bW H H'→H p=none→Q (.ref p) H'):aDa K vs H Q u3_
def aHZ(K:Aj):Sp:=fun vs H Q u3_=>aDa K vs H Q u3_
inductive aA5(vs:List V)(H:Hp)(Q:VK)(u3_:XK):Prop
 | mk (p c:Ag) (ns:List Int) (a m:Int) (q0:vs=[.ref p,.int m]) (q1:cV H p c ns a) (q2:a≤1000000) (q3:0 < m) (q4:m < 2 ^ 512) (q5:∀ r a' H',0≤r→r < m→a≤a'→a'≤a + 1→cV H' p c ns a'→aZ p H H'→Q (.int r) H'):aA5 vs H Q u3_
def iO:Sp:=fun vs H Q u3_=>aA5 vs H Q u3_
variable{P:AG}{w:A2}{K:Aj}{mg:Str→Option Ac}{base:Bp}
theorem aJ2:bY ["_law_script"] ["_law_script"] (aO aEe):=⟨rfl,rfl,rfl,by decide,rfl,by decide,by decide⟩
theorem aJ3(ns:List Int)(h:ns.length≤63):jZ (ns.map V.int) none (some 63)=ns.map V.int:=by
 have e:HT.sIx (ns.map V.int).length (ns.map V.int).length (some 63)=(ns.map V.int).length:=by
  have:=HT.sIx_nat (ns.map V.int).length (ns.map V.int).length 63;rw[Ad]at this ⊢;refine Eq.trans this ?_;omega
 unfold jZ;rw[e,HT.sIx_none,D0,F0,BI]
theorem aIZ{f:Ag}{fd:AK}(F:Fun K "_law_pen" "_law_pen" aEe f fd)(B:mg "list"=none):cY P w K mg base CX0 1 f fd ["_law_script"] (aHZ K):=by
 refine F.ok aJ2 (fun vs H Q E h=>?_) (fun ad A outer s H vs Q E hr h=>?_)
 ·obtain⟨a,ns,rfl,_⟩:=h;rfl
 ·obtain⟨a,ns,rfl,hS,hn,k⟩:=h;refine⟨_,aW (bC (aCQ (iW cG (cQ eD (by rfl) B (by kernel_rfl) (g8 (gM oE (pv 0) iR (iS aQ)) aF)) (iW cG aQ (iW cG aQ aCP))) rfl rfl (by simp) (by decide))),?_⟩;intro p U;refine⟨_,rfl,_,rfl,_,_,rfl,(aV U).seq hS,fun q Y=>?_⟩;rw[aJ3 ns hn];refine⟨q,_,rfl,.inl (bF aH),fun c hc=>?_⟩;have M:q≠p:=(aY aH Y).symm;have J:c≠p:=(aY (show upd (upd H p (HO.dK [])) q (.lst (ns.map V.int)) p=some (HO.dK []) by rw[bM M.symm,aH]) hc).symm;refine⟨by rw[bM J.symm,bM M.symm,aH],[(hU,.ref c),(kAt,.int 0),(j9,.int 0)],rfl,by show 3≤15;decide,?_⟩;have em:pI [] [(hU,V.ref c),(kAt,.int 0),(j9,.int 0)]=i0 c 0 0:=by
   have e1:gG ([]:List (Key×V)) hU (.ref c)=[(hU,.ref c)]:=by rw[uN _ uL];rfl
   have Z:gG [(hU,V.ref c)] kAt (.int 0)=[(hU,.ref c),(kAt,.int 0)]:=by rw[uN _ (by rw[dX aIT,uL])];rfl
   have e3:gG [(hU,V.ref c),(kAt,.int 0)] j9 (.int 0)=[(hU,.ref c),(kAt,.int 0),(j9,.int 0)]:=by rw[uN _ (by rw[dX aIU,dX aG9,uL])];rfl
   show gG (gG (gG [] hU (.ref c)) kAt (.int 0)) j9 (.int 0)=_;rw[e1,Z,e3];rfl
  rw[em];refine k p c _ ⟨⟨0,Fl _,aH⟩,by rw[bM J,aH],Fl _,hn⟩ (fun b o e=>?_) U;have z:b≠p:=aY e U;have O:b≠q:=aY (show upd H p (HO.dK []) b=some o by rw[bM z];exact e) Y;have W:b≠c:=aY (show upd (upd H p (HO.dK [])) q (.lst (ns.map V.int)) b=some o by rw[bM O,bM z];exact e) hc;rw[bM z,bM W,bM O,bM z];exact e
theorem n6:bY ["_law_pen_here","_law_many","_law_found","_law_at","_law_cells","_law_cell","_law_one","_law_two"] ["_law_pen_here","_law_many"] (aO vW):=⟨rfl,rfl,rfl,by decide,rfl,by decide,by decide⟩
theorem aJ4{c a b:Int}(hc:0≤c)(h:0≤a)(h2:a≤b):0≤c * a * a∧c * a * a≤c * b * b:=by
 have h1:0≤c * a:=GG hc h;have q:c * a≤c * b:=Int.mul_le_mul_of_nonneg_left h2 hc;exact⟨GG h1 h,Int.mul_le_mul q h2 h (GG hc (Int.le_trans h h2))⟩
theorem aKM(x:Int){a:Int}(h:0≤a)(h2:a≤1000000):Int.natAbs (x % (2147483629:Int) + (1213:Int) * a * a + (3:Int)) < 2 ^ 64:=by
 obtain⟨b1,b2⟩:=aJ4 (c:=(1213:Int)) (a:=a) (b:=1000000) (by decide) h h2;have q:=C4 x (show(2147483629:Int)≠0 by decide);have z:=CZ x (show 0 < (2147483629:Int) by decide);omega
theorem aKN{x:Int}:-(2 ^ 64) < x % (2147483543:Int)∧x % (2147483543:Int) < 2 ^ 64:=by
 have q:=C4 x (show(2147483543:Int)≠0 by decide);have z:=CZ x (show 0 < (2147483543:Int) by decide);omega
theorem aHa{f:Ag}{fd:AK}(F:Fun K "_law_take" "_law_take" vW f fd)(Z:mg "len"=none)(U:mg "abs"=none):cY P w K mg base CX0 1 f fd ["_law_pen_here","_law_many"] iO:=by
 refine F.ok n6 (fun vs H Q E h=>?_) (fun ai A outer s H vs Q E hr h=>?_)
 ·obtain⟨p,c,ns,a,m,rfl,_⟩:=h;rfl
 ·obtain⟨p,c,ns,a,m,rfl,hp,ha,hm,hm2,k⟩:=h;have Y:=aCR hr;have ag:(A.deeper (EX "_law_take" (aO vW) s.heap.objs.size f ai)).units < cLine:=by omega
  refine⟨_,aM (c8 (cA aAm (pX Y (pv 0) cG Ig) aQ (cM _))
    (aM (bQ (i:=2) n6.nd rfl (AE rfl) (cB gQ (pX Y (pv 0) cG Ig) (pv 1)))
    (aM (zL Y (pv 0) cG (cB uT (pX Y (pv 0) cG Ig) (pv 1)) rfl)
    (aW (bC (pv 2))))) b8)
   (aM (bQ (i:=3) n6.nd rfl (AE rfl) (pX Y (pv 0) cG Ig))
   (aM (zL Y (pv 0) cG (cB eJ (pv 3) aQ) rfl)
   (aM (bQ (i:=4) n6.nd rfl (AE rfl) (pX Y (pv 0) cG Ig))
   (aM (bQ (i:=5) n6.nd rfl (AE rfl) (cB eJ (cB eJ (cB mW (cB mW aQ (pv 3)) (pv 3)) (cB mW aQ (pv 3))) aQ))
   (aM (kX <| c8 (cA (aE9 ag) (pv 4) (dP aF) (cM _))
    (aW (bQ (i:=5) n6.nd rfl (AE rfl) (cH dB (pv 4) (cB gQ (pv 3) (aX bE (by rfl) Z AO (g8 (pv 4) aF))) Ig))) b8)
   (aM (kX <| c8 (nT (cA aHM (pv 3) (aX bE (by rfl) Z AO (g8 (pv 4) aF)) (cM _))
     (j0 (cA aJy (aX uI (by rfl) U (by kernel_rfl) (g8 (pv 5) aF)) (cB kW aQ aQ) (cM _)))).pt
    (aM (zL Y (pv 0) cG (cB uT (aX uI (by rfl) U (by kernel_rfl) (g8 (pv 5) aF)) (pv 1)) rfl)
    (aW (bC (cB gQ (aX uI (by rfl) U (by kernel_rfl) (g8 (pv 5) aF)) (pv 1))))) b8)
   (aM (bQ (i:=6) n6.nd rfl (AE rfl) (cB gQ (cB kW (cB eJ (cB eJ (cB gQ (pv 5) aQ) (cB mW aQ (pv 3))) aQ) aQ) aQ))
   (aM (bQ (i:=7) n6.nd rfl (AE rfl) (cB gQ (cB kW (cB eJ (cB eJ (pv 6) (cB mW (cB mW aQ (pv 3)) (pv 3))) aQ) aQ) aQ))
   (aW (bC (cB gQ (cB uT (cB gQ (cB mW (pv 7) (cB eJ (cB gQ (pv 6) aQ) aQ)) aQ) aQ) (pv 1)))))))))))),?_⟩
  obtain⟨⟨l,hl0,hob⟩,hce,hge,hsm⟩:=id hp;have aa:=hp.ne;refine⟨_,rfl,p,_,rfl,aIY hob,_,_,rfl,rfl,_,rfl,dY (fun h0=>?_) (fun h0=>?_)⟩
  ·exact⟨_,rfl,p,_,rfl,aIY hob,_,rfl,_,_,rfl,rfl,hm,_,rfl,p,_,rfl,aIY hob,_,rfl,_,_,rfl,rfl,xM.of hm hm2,_,rfl,p,_,rfl,aJ1 _ hob,_,rfl,k (l % m) a _ (C4 _ (by omega)) (CZ _ hm) (Fl _) (by omega) ⟨⟨l / m,Int.ediv_nonneg hl0 (by omega),aH⟩,by rw[bM aa];exact hce,hge,hsm⟩ (aZ.refl p H).upd⟩
  ·refine⟨_,rfl,p,_,rfl,aKJ hob,_,rfl,_,_,rfl,rfl,_,rfl,p,_,rfl,aKL _ hob,_,rfl,p,_,rfl,aKK aH,_,rfl,_,_,rfl,rfl,.inl (by decide),_,rfl,_,_,rfl,rfl,.inr (by omega),_,rfl,_,_,rfl,rfl,.inl (by decide),_,_,rfl,rfl,_,_,rfl,rfl,?_⟩;have O:aZ p H (upd H p (.dK (i0 c (a + 1) l))):=(aZ.refl p H).upd;have J:(upd H p (.dK (i0 c (a + 1) l))) c=some (.lst (ns.map V.int)):=by rw[bM aa];exact hce
   refine⟨fun σ' H'=>∃ B:Int,σ'=[some (.ref p),some (.int m),none,some (.int a),some (.ref c),some (.int B),none,none]∧aZ p H H'∧H' p=some (.dK (i0 c (a + 1) l))∧H' c=some (.lst (ns.map V.int)),?_,?_⟩
   ·refine⟨_,rfl,A0 _,fun q hq=>?_⟩;have W:=aV (o:=.lst []) hq;refine⟨c,q,ns.map V.int,[],rfl,rfl,bF (W _ _ J),bF aH,xN ns,rfl,_,rfl,dY (fun ac=>?_) (fun ac=>?_)⟩
    ·have aj:0 < ns.length:=by
      cases ns with
      | nil=>exact absurd ac (by simp[wP])
      | cons x r=>simp
     have af:(a % (ns.length:Int)).toNat < ns.length:=by
      have h1:=CZ a (show(0:Int) < ns.length by omega);have h2:=C4 a (show(ns.length:Int)≠0 by omega);omega
     have ah:atI (ns.map V.int) (a % (ns.length:Int))=some (.int (ns[(a % (ns.length:Int)).toNat])):=by
      have h2:=C4 a (show(ns.length:Int)≠0 by omega);have e:=fG (xs:=ns.map V.int) (j:=(a % (ns.length:Int)).toNat) (v:=.int (ns[(a % (ns.length:Int)).toNat])) (by rw[AS,Ab af];rfl);rw[DJ h2]at e;exact e
     have ad:atI (ns.map V.int) (a % ((ns.map V.int).length:Int))=some (.int (ns[(a % (ns.length:Int)).toNat])):=by
      rw[Ad];exact ah
     exact⟨_,rfl,_,rfl,_,rfl,c,_,rfl,.inl (bF (W _ _ J)),_,_,rfl,rfl,(by rw[Ad];omega),c,_,_,_,rfl,rfl,bF (W _ _ J),ad,_,rfl,O.same W,W _ _ aH,W _ _ J⟩
    ·exact⟨_,rfl,O.same W,W _ _ aH,W _ _ J⟩
   ·rintro σ' H' ⟨B,rfl,kp,M,z⟩;refine⟨fun σ' H'=>∃ B:Int,σ'=[some (.ref p),some (.int m),none,some (.int a),some (.ref c),some (.int B),none,none]∧aZ p H H'∧H' p=some (.dK (i0 c (a + 1) l))∧H' c=some (.lst (ns.map V.int)),?_,?_⟩
    ·refine⟨_,rfl,_,rfl,c,_,rfl,.inl (bF z),_,_,rfl,rfl,_,rfl,dY (fun h1=>?_) (fun h1=>?_)⟩
     ·refine⟨_,rfl,_,rfl,_,_,rfl,rfl,⟨by decide,by decide,by decide⟩,_,_,rfl,rfl,_,rfl,dY (fun h2=>?_) (fun h2=>?_)⟩
      ·refine⟨_,rfl,_,rfl,_,rfl,_,_,rfl,rfl,xM.of hm hm2,_,rfl,p,_,rfl,aJ1 _ M,_,rfl,_,rfl,_,rfl,_,_,rfl,rfl,hm,?_⟩;have ab:0≤(if B < 0 then -B else B):=by split <;> omega
       exact k _ (a + 1) _ (C4 _ (by omega)) (CZ _ hm) (by omega) (Fl _) ⟨⟨_,Int.ediv_nonneg ab (by omega),aH⟩,by rw[bM aa];exact z,by omega,hsm⟩ kp.upd
      ·exact⟨B,rfl,kp,M,z⟩
     ·exact dD ⟨B,rfl,kp,M,z⟩
    ·rintro σ' H' ⟨B,rfl,kp,M,z⟩;refine⟨_,rfl,_,_,rfl,rfl,(by show(0:Int) < _;decide),_,rfl,_,_,rfl,rfl,.inl (by decide),_,_,rfl,rfl,_,_,rfl,rfl,_,_,rfl,rfl,⟨by decide,by decide,?_⟩,_,_,rfl,rfl,(by show(0:Int) < _;decide),?_⟩
     ·have e1:=C4 B (show(2147483587:Int)≠0 by decide);have e2:=CZ B (show 0 < (2147483587:Int) by decide);show Int.natAbs (B % (2147483587:Int) + (45007:Int) * a + (11:Int)) < 2 ^ 64;omega
     ·exact⟨_,rfl,_,rfl,_,_,rfl,rfl,.inl (by decide),_,rfl,_,_,rfl,rfl,.inr (by omega),_,_,rfl,rfl,_,_,rfl,rfl,_,_,rfl,rfl,⟨by decide,by decide,aKM _ hge ha⟩,_,_,rfl,rfl,(by show(0:Int) < _;decide),_,rfl,_,rfl,_,_,rfl,rfl,(by show(0:Int) < _;decide),_,_,rfl,rfl,_,_,rfl,rfl,.inl aKN,_,_,rfl,rfl,(by show(0:Int) < _;decide),_,_,rfl,rfl,xM.of (by decide) (by decide),_,rfl,_,_,rfl,rfl,hm,k _ (a + 1) _ (C4 _ (by omega)) (CZ _ hm) (by omega) (Fl _) ⟨⟨l,hl0,M⟩,z,by omega,hsm⟩ kp⟩
structure Nms(ws:List Str):Prop where
 nd:ws.Nodup
 ok:∀ w∈ws,cC w=true
theorem Nms.take{q:List Str}(h:Nms q)(n:Nat):Nms (q.take n):=⟨h.nd.sublist (List.take_sublist n q),fun w hw=>h.ok w (Cp hw)⟩
inductive yC(vs:List V)(H:Hp)(Q:VK)(u3_:XK):Prop
 | mk (p c:Ag) (ns:List Int) (a:Int) (m:Nat) (q0:vs=[.ref p,.int m]) (q1:cV H p c ns a) (q2:a≤900000) (q3:m≤44) (q4:∀ l ws a' H',H l=none→H' l=some (.lst (ws.map V.str))→ws.length=m→Nms ws→a≤a'→a'≤a + 30→cV H' p c ns a'→aZ p H H'→Q (.ref l) H'):yC vs H Q u3_
def aDb:Sp:=fun vs H Q u3_=>yC vs H Q u3_
theorem pP(l:List Nat):∀(m s:Nat),(Ge s m).filterMap (fun j=>l.toArray[j]?)=(l.drop s).take m
 | 0,s=>by simp
 | m + 1,s=>by
  rw[List.range'_succ,Ew];have q:=pP l m (s + 1);by_cases h:s < l.length
  ·have e:l.toArray[s]?=some l[s]:=by simp[h]
   rw[e];dsimp only;rw[q,List.drop_eq_getElem_cons h,List.take_succ_cons]
  ·have e:l.toArray[s]?=none:=by simp;omega
   rw[e];dsimp only;rw[q,D1 (by omega),D1 (by omega)];simp
theorem aHb:∀ n:Nat,n < 7→∀ s:Nat,s < 7→s≤n→Builtin.Str.strSliceIndices none (some (s:Int)) 1 n=Ge 0 s:=by decide
theorem aEi:∀ n:Nat,n < 7→∀ s:Nat,s < 7→s≤n→Builtin.Str.strSliceIndices (some (s:Int)) none 1 n=Ge s (n - s):=by decide
theorem aJ5{b:List Nat}{s:Nat}(z:b.length≤6)(q:s≤b.length):Ej (mk b) none (some (s:Int))=mk (b.take s):=by
 unfold Ej;rw[nA,aHb _ (by omega) _ (by omega) q];split
 ·next h=>
  simp at h;rw[h,BI]
 ·have e:=pP b s 0;rw[D0]at e;exact congrArg mk e
theorem aHc{b:List Nat}{s:Nat}(B:b.length≤6)(z:s≤b.length):Ej (mk b) (some (s:Int)) none=mk (b.drop s):=by
 unfold Ej;rw[nA,aEi _ (by omega) _ (by omega) z];split
 ·next h=>
  simp at h;have:s=0∨b.length=0:=by omega
  rcases this with rfl | q
  ·rfl
  ·rw[List.length_eq_zero_iff.mp q];simp
 ·have e:=pP b (b.length - s) s;rw[show(b.drop s).take (b.length - s)=b.drop s from Br (by rw[Ee];exact Ao _)]at e;exact congrArg mk e
theorem aEj(bs:List Nat):∀ q:Array Nat,(bs.map fun c=>mk [c]).foldl (fun(q:Array Nat) (p:Str)=>q ++ (Bx "").cps ++ p.cps) q=q ++ bs.toArray:=by
 have B:(Bx "").cps=#[]:=by decide
 induction bs with
 | nil=>intro q;simp
 | cons x r z=>
  intro q;rw[A4,Gj,z,B];simp[mk]
theorem aHd(bs:List Nat):Txt.join "" (bs.map fun c=>mk [c])=mk bs:=by
 show Builtin.Str.glued _ _=_;unfold Builtin.Str.glued;cases bs with
 | nil=>rfl
 | cons x r=>
  have:=aEj r #[x];simp only[A4,List.headD_cons,List.drop_succ_cons,D0];show(⟨List.foldl _ _ _⟩:Str)=_;rw[show(mk [x]).cps=#[x] from rfl];rw[this];simp[mk]
theorem zZ(x:Nat){j:Int}(z:j=(x:Int) % 26):atI abc.cps.toList j=some (iZ x):=by
 have q:0≤j:=by omega
 have h1:j < 26:=by omega
 rw[aFM q h1];unfold iZ;congr 1;omega
theorem aFR(f n:Nat)(h:n≠0):bij (f + 1) n=bij f ((n - 1) / 2) ++ [n % 2]:=by
 show(if n=0 then[] else _)=_;rw[Ia h]
theorem e8:bY ["_law_pen_here","_law_many","_law_letters","_law_way","_law_turn","_law_k","_law_base","_law_spot","_law_found","_law_word","_law_rest","_law_terms"] ["_law_pen_here","_law_many"] (aO pN):=⟨rfl,rfl,rfl,by decide,rfl,by decide,by decide⟩
theorem aHe{q:List Str}(h:∀ w∈q,w.length=1):(q.map (·.length)).sum=q.length:=by
 induction q with
 | nil=>rfl
 | cons x r z=>
  rw[A4,List.sum_cons,z fun w hw=>h w (AL _ hw),h x AI,A5];omega
theorem aFS{f:Ag}{fd:AK}(F:Fun K "_law_names" "_law_names" pN f fd)(aP:mg "len"=none)(ab:mg "range"=none)(be:mg "min"=none)
  (GT:Cl P w K mg base 1 "_law_take" ["_law_pen_here","_law_many"] iO):
  cY P w K mg base CX0 2 f fd ["_law_pen_here","_law_many"] aDb:=by
 refine F.ok e8 (fun vs H Q E h=>?_) (fun c2 A outer s H vs Q E hr h=>?_)
 ·obtain⟨p,c,ns,a,m,rfl,_⟩:=h;rfl
 ·obtain⟨p,c,ns,a,m,rfl,hp,ha,hm,k⟩:=h;refine⟨_,aM (bQ (i:=2) e8.nd rfl (En rfl) cG)
   (aM (bQ (i:=3) e8.nd rfl (AE rfl) (bG GT hr (aG (pv 0) (aG aQ aF))))
   (aM (bQ (i:=4) e8.nd rfl (AE rfl) (bG GT hr (aG (pv 0) (aG aQ aF))))
   (aM (bQ (i:=6) e8.nd rfl (AE rfl) (sU PySem.F.plainAttrs_str PySem.F.slot_str_join PySem.F.type_str_join aGU cG (aG (eG (N:=["_law_k","_law_letters","_law_pen_here"]) (src:=[none,some 2,some 0]) (osc:=aO pN) (oN:=["_law_pen_here","_law_many","_law_letters","_law_way","_law_turn","_law_k","_law_base","_law_spot","_law_found","_law_word","_law_rest","_law_terms"]) ⟨by rfl,by decide,by decide,by decide,rfl,by rfl⟩
      (fM rfl ab (aG (cH dB (dP (aG (bG GT hr (aG (pv 0) (aG aQ aF))) (aG aQ (aG aQ aF)))) (pv 3) Ig) aF))
      fun cl s H fp di C=>⟨bJ (i:=0) (show(["_law_k","_law_letters","_law_pen_here"]:List Str).Nodup by decide) rfl (AE rfl),dW,cH zI (pv 1) (bG GT hr (aG (pv 2) (aG aQ aF))) Ig⟩) aF)))
   (aM (bQ (i:=7) e8.nd rfl (AE rfl) (bG GT hr (aG (pv 0) (aG (cB eJ (aX pW (by rfl) aP AO (aG (pv 6) aF)) aQ) aF))))
   (aM (bQ (i:=8) e8.nd rfl (AE rfl) (dP aF))
   (aM (mV Cr rfl (fM rfl ab (aG (pv 1) aF)) (bJ (i:=5) e8.nd rfl (AE rfl))
    (aM (bQ (i:=9) e8.nd rfl (AE rfl) (cB mX (cH zI (pv 2) (cB gQ (cB eJ (pv 4) (cB mW aQ (pv 5))) aQ) Ig) (cH zI (pv 2) (cB gQ (cB eJ (pv 4) (cB aCF (pv 5) aQ)) aQ) Ig)))
    (aM (bQ (i:=9) e8.nd rfl (AE rfl) (cB mX (cB mX (gM aE6 (pv 6) iR (iS (pv 7))) (pv 9)) (gM aE6 (pv 6) (iS (pv 7)) iR)))
    (aM (kX <| c8 (cA eY (pv 3) aQ (cM _))
     (aM (bQ (i:=9) e8.nd rfl (AE rfl) cG)
     (aM (bQ (i:=10) e8.nd rfl (AE rfl) (cB eJ (pv 5) aQ))
     (aW (aEM Cr (cA aAm (pv 10) aQ (cM _))
      (aM (bQ (i:=9) e8.nd rfl (AE rfl) (cB mX (cH zI (pv 2) (cB gQ (cB eJ (pv 4) (cB mW aQ (cB gQ (pv 10) aQ))) aQ) Ig) (pv 9)))
      (aW (bQ (i:=10) e8.nd rfl (AE rfl) (cB aCF (cB kQ (pv 10) aQ) aQ)))))))) b8)
    (aW (oD (sU BJ CA Cz jB (pv 8) (aG (pv 9) aF))))))))
   (aM (bQ (i:=11) e8.nd rfl (AE rfl) (dP (aG cG (aG cG (aG cG (aG cG (aG cG (aG cG (aG cG (aG cG (aG cG aF)))))))))))
   (aM (kX <| c8 (cA eY (bG GT hr (aG (pv 0) (aG aQ aF))) aQ (cM _))
    (aW (mV Cr rfl (fM rfl ab (aG (aX (rG rfl) (by rfl) be (by kernel_rfl) (aG (pv 1) (aG aQ aF))) aF)) (bJ (i:=5) e8.nd rfl (AE rfl))
     (aW (c8 (PW.pt (nT (cA eY (bG GT hr (aG (pv 0) (aG aQ aF))) aQ (cM _)) (j0 (cA i6 (cH dB (pv 11) (pv 5) Ig) (pv 8) (by with_unfolding_all rfl)))))
      (aW (iY (cH dB (pv 11) (pv 5) Ig) (aEL (pv 8) (pv 5) aAp))) b8)))) b8)
   (aW (bC (pv 8))))))))))),?_⟩
  have e0:(Bx "").length=0:=by decide
  have zA:abc.length≤sizeLine:=aS (by rw[aG5];decide);refine⟨_,rfl,p,c,ns,a,_,rfl,hp,by omega,by decide,by decide,fun B a1 H1 w0 w1 l1 u1 bB b0=>?_⟩;refine⟨_,rfl,p,c,ns,a1,_,rfl,bB,by omega,by decide,by decide,fun tt a2 H2 t0 t1 l2 u2 bK b1=>?_⟩;obtain⟨t,rfl⟩:∃ t:Nat,tt=t:=⟨tt.toNat,by omega⟩
  refine⟨rfl,_,rfl,p,c,ns,a2,_,rfl,bK,by omega,by decide,by decide,fun r3 a3 H3 dc dd l3 u3 b2 bD=>?_⟩;refine⟨zZ3,fun q hq=>?_⟩;have sq:=aV (o:=.lst [V.int r3,.int 0,.int 6]) hq;obtain⟨v,hv,ao⟩:=gR (xs:=[V.int r3,.int 0,.int 6]) (i:=B) w0 (by show B < 3;omega);obtain⟨n,rfl,hn0,hn6⟩:∃ n:Int,v=.int n∧0≤n∧n≤6:=by
   simp only[An,Az,or_false]at hv;rcases hv with rfl | rfl | rfl
   ·exact⟨_,rfl,by omega,by omega⟩
   ·exact⟨_,rfl,by omega,by omega⟩
   ·exact⟨_,rfl,by omega,by omega⟩
  refine⟨_,rfl,q,_,B,_,rfl,rfl,bF aH,ao,n,rfl,by omega,by omega,?_⟩;have kq:aZ p H (upd H3 q (.lst [V.int r3,.int 0,.int 6])):=((b0.trans b1).trans bD).same sq;have bj:=b2.same sq;generalize upd H3 q (.lst [V.int r3,.int 0,.int 6])=H4 at kq bj ⊢;refine jP (fun i ys σ' H'=>∃(a':Int) (bs:List Nat) (o:Option V),σ'=[o,some (.str abc),some (.ref p)]∧cV H' p c ns a'∧aZ p H H'∧a3≤a'∧a'≤a3 + i∧ys=(bs.map fun c=>mk [c]).map V.str∧bs.length=i∧(∀ c∈bs,isL c=true))
   ⟨a3,[],none,rfl,bj,kq,by omega,by omega,rfl,rfl,fun w hw=>by simp at hw⟩ (aS (by omega)) (fun i ys σ H p=>by obtain⟨_,bs,_,_,_,_,_,_,rfl,e,_⟩:=p;rw[Ad,Ad,e];exact Ao _) ?_ ?_
  ·rintro i' ys σ' H5 c1 ⟨a',bs,o,rfl,ay,aI,cN,cT,rfl,hl,hb⟩;dsimp only[dG];refine dJ ?_;refine⟨_,rfl,_,rfl,p,c,ns,a',_,rfl,ay,by omega,by decide,by decide,fun r6 a6 H6 ba bd l6 u6 an ai=>?_⟩;refine⟨_,r6,iZ r6.toNat,rfl,rfl,zA,aFM ba bd,a6,bs ++ [iZ r6.toNat],_,rfl,an,aI.trans ai,by omega,by omega,by rw[AY,AY];rfl,by rw[Au,hl];rfl,fun c hc=>?_⟩;rcases Bo.mp hc with z | z
   ·exact hb c z
   ·rw[BC.mp z];exact zW _
  ·rintro ys σ' H5 ⟨a4,b,o,rfl,ay,aI,l4,u4,rfl,df,hb⟩ D hD;have aA:b.length≤6:=by omega
   refine⟨_,D,b.map (fun c=>mk [c]),rfl,rfl,bF aH,by
    rw[aHe (fun w hw=>by obtain⟨x,_,rfl⟩:=Bs.mp hw;rfl),Ad,e0];omega,?_⟩
   rw[aHd];have an:=ay.same (aV (o:=.lst ((b.map fun c=>mk [c]).map V.str)) hD);have ai:aZ p H _:=aI.same (aV (o:=.lst ((b.map fun c=>mk [c]).map V.str)) hD);generalize upd H5 D (.lst ((b.map fun c=>mk [c]).map V.str))=H6 at an ai ⊢;refine⟨_,rfl,_,rfl,mk b,rfl,aS (by rw[nA];omega),_,_,rfl,rfl,p,c,ns,a4,_,rfl,an,by omega,by omega,by rw[nA];omega,fun ss a5 H7 s0 s1 l5 u5 ax bN=>?_⟩;rw[nA]at s1;obtain⟨sp,rfl⟩:∃ sp:Nat,ss=sp:=⟨ss.toNat,by omega⟩
   refine⟨A0 _,fun L hL=>?_⟩;have bh:=ai.trans bN;have aj:L≠p:=by
    obtain⟨l,_,z⟩:=ax.ob;exact(aY z hL).symm
   have bU:L≠c:=(aY ax.ce hL).symm;have aU:H L=none:=by
    cases e:H L with
    | none=>rfl
    | some x=>exact absurd (bh L x e aj) (by rw[hL];simp)
   refine⟨_,rfl,m,rfl,by omega,by omega,k9 (n:=(m:Int).toNat) (fun i σ H'=>Ex3 fun o5 o9 O=>σ=[some (.ref p),some (.int m),some (.str abc),some (.int B),some (.int t),o5,some (.str (mk b)),some (.int sp),some (.ref L),o9,O,none]∧H'=upd H7 L (.lst (((AU i).map fun k=>mk (word (decide (B=1)) b sp t k)).map V.str))) ⟨_,_,_,rfl,rfl⟩ ?_ ?_⟩
   ·rintro i σ H' hi ⟨o5,o9,O,rfl,rfl⟩;dsimp only[dG];have cg:i < 44:=by omega
    refine⟨_,rfl,_,rfl,_,rfl,_,_,rfl,rfl,.inl ⟨by decide,by decide⟩,_,_,rfl,rfl,_,_,rfl,rfl,(by show(0:Int) < 26;decide),_,_,iZ (t + 7 * i),rfl,rfl,zA,zZ _ (by omega),_,rfl,_,rfl,_,rfl,_,_,rfl,rfl,⟨by decide,by decide⟩,_,_,rfl,rfl,_,_,rfl,rfl,(by show(0:Int) < 26;decide),_,_,iZ (t + i / 26),rfl,rfl,zA,zZ _ (by omega),_,_,rfl,rfl,aS (by show 1 + 1≤1000000;decide),?_⟩;have zB:(mk b).length≤sizeLine:=aS (by rw[nA];omega);have aJ:∀{x y},(Ej (mk b) x y).length≤6:=fun{x y}=>Bi (E7 _ x y) (by rw[nA];omega);have h2:((⟨#[iZ (t + 7 * i)]⟩:Str) ++ ⟨#[iZ (t + i / 26)]⟩).length=2:=rfl;refine⟨_,rfl,_,rfl,_,rfl,mk b,rfl,zB,_,rfl,_,_,rfl,rfl,aS (by have:=aJ (x:=none) (y:=some (sp:Int));omega),_,rfl,_,rfl,_,rfl,mk b,rfl,zB,_,_,rfl,rfl,aS (by have:=aJ (x:=none) (y:=some (sp:Int));have:=aJ (x:=some (sp:Int)) (y:=none);rw[D6];omega),?_⟩;have ew:(Ej (mk b) none (some (sp:Int)) ++ ((⟨#[iZ (t + 7 * i)]⟩:Str) ++ ⟨#[iZ (t + i / 26)]⟩)) ++ Ej (mk b) (some (sp:Int)) none=mk (b.take sp ++ aA3 t i ++ b.drop sp):=by
     rw[aJ5 aA (by omega),aHc aA (by omega)];rw[show((⟨#[iZ (t + 7 * i)]⟩:Str) ++ ⟨#[iZ (t + i / 26)]⟩)=mk (aA3 t i) from rfl,aCe,aCe]
    rw[ew];refine⟨fun σ' H'=>∃ O,σ'=[some (.ref p),some (.int m),some (.str abc),some (.int B),some (.int t),some (.int (0 + i)),some (.str (mk b)),some (.int sp),some (.ref L),some (.str (mk (word (decide (B=1)) b sp t i))),O,none]∧H'=upd H7 L (.lst (((AU i).map fun k=>mk (word (decide (B=1)) b sp t k)).map V.str)),?_,?_⟩
    ·refine⟨_,rfl,rfl,_,rfl,dY (fun g=>?_) (fun g=>?_)⟩
     ·have g':B=1:=V.int.inj (Ie g);subst g';refine⟨_,rfl,_,_,rfl,rfl,fun Z σ' H'=>∃(r f:Nat) (M:List Nat) (rv:Int) (wv:Str),Z=r∧rv=(r:Int)∧wv=mk (M.map fun d=>iZ (t + 9 * d))∧σ'=[some (.ref p),some (.int m),some (.str abc),some (.int 1),some (.int t),some (.int (0 + i)),some (.str (mk b)),some (.int sp),some (.ref L),some (.str wv),some (.int rv),none]∧H'=upd H7 L (.lst (((AU i).map fun k=>mk (word (decide ((1:Int)=1)) b sp t k)).map V.str))∧bij f r ++ M=bij 6 (i + 1)∧r < 2 ^ f∧M.length + f≤6,⟨i + 1,i + 1,6,[],_,_,rfl,(by show 0 + (i:Int) + 1=((i + 1:Nat):Int);omega),(by show Bx ""=mk [];decide),rfl,rfl,by simp,by omega,by simp⟩,?_⟩;rintro Z σ' H' ⟨r,f,M,rv,wv,rfl,rfl,rfl,rfl,rfl,af,aL,cy⟩;refine⟨_,rfl,_,_,rfl,rfl,_,rfl,dY (fun g2=>?_) (fun g2=>?_)⟩
      ·have b9:(0:Int) < Z:=Ie g2;refine⟨_,fun dh cL h=>h,?_⟩;obtain⟨f',rfl⟩:∃ f',f=f' + 1:=by
        cases f with
        | zero=>exact absurd aL (by omega)
        | succ x=>exact⟨x,rfl⟩
       have e2:mk [iZ (t + 9 * (Z % 2))] ++ mk (M.map fun d=>iZ (t + 9 * d))=mk (((Z % 2) :: M).map fun d=>iZ (t + 9 * d)):=by rw[aCe];rfl
       refine⟨_,rfl,_,rfl,_,rfl,_,_,rfl,rfl,(by show(0:Int) < 2;decide),_,_,rfl,rfl,.inl ⟨by decide,by decide⟩,_,_,rfl,rfl,_,_,rfl,rfl,(by show(0:Int) < 26;decide),_,_,iZ (t + 9 * (Z % 2)),rfl,rfl,zA,zZ _ (by omega),_,rfl,_,_,rfl,rfl,aS (by rw[nA,Ad];show 1 + _≤_;omega),_,rfl,_,_,rfl,rfl,_,_,rfl,rfl,⟨by decide,by decide⟩,(Z - 1) / 2,by omega,(Z - 1) / 2,f',(Z % 2) :: M,_,_,rfl,?_,e2,rfl,rfl,?_,?_,?_⟩
       ·show((Z:Int) - 1) / 2=_;omega
       ·rw[← af,aFR f' Z (by omega)];simp
       ·rw[Nat.pow_succ]at aL;omega
       ·rw[A5];omega
      ·have b9:¬ (0:Int) < Z:=fun z=>g2 (Ic z);have hz:Z=0:=by omega
       subst hz;have e3:bij f 0=[]:=by cases f <;> rfl
       rw[e3,List.nil_append]at af;have e4:word (decide ((1:Int)=1)) b sp t i=M.map fun d=>iZ (t + 9 * d):=by
        rw[af];rfl
       exact⟨some (V.int ((0:Nat):Int)),by rw[e4],rfl⟩
     ·have g':¬ B=1:=fun z=>g (Ic (by rw[z]));rw[decide_eq_false g'];exact⟨_,rfl,rfl⟩
    ·rintro σ' H' ⟨O,rfl,rfl⟩;refine⟨_,rfl,.inl ⟨rfl,_,bF aH⟩,_,rfl,L,_,_,rfl,rfl,aH,by rw[Ad,Ad,BW];exact lI (by omega),_,_,_,rfl,?_⟩;rw[aCB,List.range_succ,AY,AY];rfl
   ·rintro σ H' ⟨o5,o9,O,rfl,rfl⟩;have S8:=aV (o:=.lst (((AU (m:Int).toNat).map fun k=>mk (word (decide (B=1)) b sp t k)).map V.str)) hL;have am:=ax.same S8;have av:=bh.same S8;have ak:upd H7 L (.lst (((AU (m:Int).toNat).map fun k=>mk (word (decide (B=1)) b sp t k)).map V.str)) L=_:=aH;have hN:Nms ((AU (m:Int).toNat).map fun k=>mk (word (decide (B=1)) b sp t k)):=by
     refine⟨aG8 (by omega) (by omega),fun w hw=>?_⟩;obtain⟨k',hk',rfl⟩:=Bs.mp hw;have:=BK.mp hk';exact aEg (by omega) aA hb
    have az:((AU (m:Int).toNat).map fun k=>mk (word (decide (B=1)) b sp t k)).length=m:=by rw[Ad,BW];omega
    generalize ((AU (m:Int).toNat).map fun k=>mk (word (decide (B=1)) b sp t k))=ws at am av ak hN az ⊢;generalize upd H7 L (.lst (ws.map V.str))=H8 at am av ak ⊢;refine⟨zZ9,fun T hT=>?_⟩;have S9:=aV (o:=.lst (pC.map V.str)) hT;have bc:upd H8 T (.lst (pC.map V.str)) T=some (.lst (pC.map V.str)):=aH;have aK:=am.same S9;have au:=av.same S9;have a0:=S9 _ _ ak;have bT:T≠L:=(aY ak hT).symm;have aT:T≠p:=by
     obtain⟨l,_,z⟩:=am.ob;exact(aY z hT).symm
    have eT:upd H8 T (.lst [V.str "as",.str "with",.str "part",.str "field",.str "none",.str "done",.str "write",.str "back",.str "join"])=upd H8 T (.lst (pC.map V.str)):=rfl;rw[eT];generalize upd H8 T (.lst (pC.map V.str))=H9 at aK au a0 bc ⊢;refine⟨fun σ' H'=>∃(o5:Option V) (vs:List Str) (a6:Int),σ'=[some (.ref p),some (.int m),some (.str abc),some (.int B),some (.int t),o5,some (.str (mk b)),some (.int sp),some (.ref L),o9,O,some (.ref T)]∧H' L=some (.lst (vs.map V.str))∧vs.length=m∧Nms vs∧cV H' p c ns a6∧a≤a6∧a6≤a + 30∧aZ p H H',?_,?_⟩
    ·refine⟨_,rfl,p,c,ns,a5,_,rfl,aK,by omega,by decide,by decide,fun r6 a6 cK ba bd l6 u6 aq ag=>?_⟩;have ap:=ag _ _ a0 aj;have bb:=ag _ _ bc aT;have ar:=au.trans ag;refine⟨rfl,_,rfl,dY (fun g=>?_) (fun g=>?_)⟩
     ·refine⟨_,rfl,_,_,rfl,?_⟩;obtain⟨n9,hn9,n90,n91,n92⟩:∃ n9:Int,(if (9:Int) < m then(9:Int) else m)=n9∧0≤n9∧n9≤9∧n9≤m:=by
       refine⟨_,rfl,?_⟩;split <;> omega
      rw[hn9];refine⟨n9,rfl,by omega,by omega,k9 (n:=n9.toNat) (fun i σ H'=>Ex3 fun(o5:Option V) (vs:List Str) (a7:Int)=>Aw6 (σ=[some (.ref p),some (.int m),some (.str abc),some (.int B),some (.int t),o5,some (.str (mk b)),some (.int sp),some (.ref L),o9,O,some (.ref T)]) (H' L=some (.lst (vs.map V.str))) (H' T=some (.lst (pC.map V.str))) (vs.length=m) (Nms vs) (Aw3 (cV H' p c ns a7) (a6≤a7) (a7≤a6 + i∧aZ p H H'))) ⟨_,ws,a6,rfl,ap,bb,az,hN,aq,by omega,by simp,ar⟩ ?_ ?_⟩
      ·rintro i σ H' hi ⟨bf,vs,a7,rfl,ac,aR,W,J,ad,b7,bR,kv⟩;dsimp only[dG];refine⟨_,rfl,p,c,ns,a7,_,rfl,ad,by omega,by decide,by decide,fun r8 a8 cx c6 dg l8 u8 ae ah=>?_⟩;have Y:=ah _ _ ac aj;have U:=ah _ _ aR aT;have aw:=kv.trans ah;refine⟨rfl,_,rfl,dY (fun g2=>?_) (fun g2=>?_)⟩
       ·obtain⟨term,hterm⟩:∃ x,pC[i]?=some x:=⟨_,Ab (show i < 9 by omega)⟩
        have bL:ixN (pC.map V.str).length (0 + (i:Int))=some i:=by
         unfold ixN;rw[Ad,Ib (by omega),Ib (by show 0 + (i:Int) < 9;omega)];congr 1;omega
        have ao:atI (pC.map V.str) (0 + (i:Int))=some (V.str term):=by
         unfold atI;rw[bL];simp[hterm]
        have aN:ixN (vs.map V.str).length (0 + (i:Int))=some i:=by
         unfold ixN;rw[Ad,Ib (by omega),Ib (by omega)];congr 1;omega
        refine⟨_,rfl,_,rfl,T,_,_,_,rfl,rfl,bF U,ao,_,rfl,L,_,rfl,.inl (bF Y),rfl,iN vs,_,rfl,?_⟩;rw[Ib rfl,zY];refine dY (fun g3=>?_) (fun g3=>?_)
        ·have bw:term ∉ vs:=by simpa using g3
         refine⟨_,rfl,_,rfl,T,_,_,_,rfl,rfl,bF U,ao,_,rfl,_,rfl,L,_,_,i,rfl,rfl,Y,aN,_,vs.set i term,a8,rfl,by rw[aH,← List.map_set],by rw[bM bT];exact U,by rw[Es,W],⟨aFN J.nd bw,fun w hw=>?_⟩,?_,by omega,by omega,?_⟩
         ·rcases DF hw with z | z
          ·exact J.ok w z
          ·rw[z];exact aCf term (AN hterm)
         ·obtain⟨⟨l,hl,e⟩,ce,ge,sm⟩:=ae;exact⟨⟨l,hl,by rw[bM aj.symm];exact e⟩,by rw[bM bU.symm];exact ce,ge,sm⟩
         ·intro x o e ne;have nx:x≠L:=aY e aU;rw[bM nx];exact aw x o e ne
        ·exact⟨_,vs,a8,rfl,Y,U,W,J,ae,by omega,by omega,aw⟩
       ·exact⟨_,vs,a8,rfl,Y,U,W,J,ae,by omega,by omega,aw⟩
      ·rintro σ H' ⟨bf,vs,a7,rfl,ac,aR,W,J,ad,b7,bR,kv⟩;exact⟨_,vs,a7,rfl,ac,W,J,ad,by omega,by omega,kv⟩
     ·exact⟨_,ws,a6,rfl,ap,az,hN,aq,by omega,by omega,ar⟩
    ·rintro σ' H' ⟨bf,vs,a6,rfl,ac,W,J,ad,b4,bP,kv⟩;exact⟨_,rfl,k L vs a6 H' aU ac W J b4 bP ad kv⟩
structure OkD(b k:Nat)(d:Ai):Prop where
 sh:d.showable=true
 dp:d.depth≤k
 len:d.shown.length≤b
theorem OkD.mono{b z k q:Nat}{d:Ai}(h:OkD b k d)(F:b≤z)(B:k≤q):OkD z q d:=⟨h.sh,Bi h.dp B,Bi h.len F⟩
theorem aFT{b k:Nat}:∀{ds:List Ai},(∀ d∈ds,OkD b k d)→PyData.showableAll ds=true∧Bf ds≤k∧((ds.map Dx).map (·.length)).sum≤ds.length * b
 | [],_=>⟨rfl,A0 _,by simp⟩
 | d :: r,h=>by
  obtain⟨h1,h2,h3⟩:=aFT (ds:=r) fun x q=>h x (AL _ q);obtain⟨g1,g2,g3⟩:=h d AI;refine⟨?_,?_,?_⟩
  ·unfold PyData.showableAll;rw[g1,h1];rfl
  ·unfold Bf;exact Nat.max_le.mpr ⟨g2,h2⟩
  ·rw[A4,A4,List.sum_cons,A5,Nat.succ_mul];omega
theorem OkD.tuple{b k n:Nat}{ds:List Ai}(h:∀ d∈ds,OkD b k d)(hn:ds.length≤n):OkD (n * (b + 2) + 3) (k + 1) (.tuple ds):=by
 obtain⟨h1,h2,h3⟩:=aFT h;refine⟨?_,?_,?_⟩
 ·unfold E3;exact h1
 ·unfold BG;omega
 ·unfold Dx;rw[PyProof.Rows.shownAll_eq_map];unfold tupleText;have F:=StrLaws.join_length_le (Bx ", ") (ds.map Dx);have q:(Bx ", ").length=2:=by decide
  have z:(Bx "(").length=1:=by decide
  have B:∀ c:Bool,(Bx (if c=true then ",)" else ")")).length≤2:=by decide
  have J:=B ((ds.map Dx).length == 1);rw[q,Ad]at F;rw[D6,D6,z];have:ds.length * b + ds.length * 2≤n * (b + 2):=by
   rw[← Nat.mul_add];exact Nat.mul_le_mul_right _ hn
  omega
theorem OkD.list{b k n:Nat}{ds:List Ai}(h:∀ d∈ds,OkD b k d)(hn:ds.length≤n):OkD (n * (b + 2) + 3) (k + 1) (.list ds):=by
 obtain⟨h1,h2,h3⟩:=aFT h;refine⟨?_,?_,?_⟩
 ·unfold E3;exact h1
 ·unfold BG;omega
 ·unfold Dx;rw[PyProof.Rows.shownAll_eq_map,listText_eq_join];have F:=StrLaws.join_length_le (Bx ", ") (ds.map Dx);have q:(Bx ", ").length=2:=by decide
  have z:(Bx "[").length=1:=by decide
  have B:(Bx "]").length=1:=by decide
  rw[q,Ad]at F;rw[D6,D6,z,B];have:ds.length * b + ds.length * 2≤n * (b + 2):=by
   rw[← Nat.mul_add];exact Nat.mul_le_mul_right _ hn
  omega
theorem OkD.str{z:Str}(h:EY z=true)(B:z.length≤10):OkD 102 0 (.str z):=by
 refine⟨by unfold E3;rfl,by unfold BG;exact Ao _,?_⟩;have hz:z.cps.size≤10:=B;have q:(AQ z).layable0=true:=by
  unfold PyData.layable0 B1 BG PyData.weight;rw[h,Ic (show(0:Nat)≤64 by decide),Ic (show z.cps.size≤2 ^ 20 by omega)];rfl
 have:=PyProof.Rows.len_repr_of_layable q;unfold Dx;omega
theorem aHf{i:Int}(q:0≤i)(h1:i < 10 ^ 60):(Bx (toString i)).length≤60:=by
 obtain⟨n,rfl⟩:∃ n:Nat,i=n:=⟨i.toNat,by omega⟩
 rw[PySem.ofString_length];show(Int.repr (n:Int)).length≤60;have e:Int.repr (n:Int)=Nat.repr n:=rfl;rw[e];exact(Nat.length_repr_le_iff (by decide)).mpr (by omega)
theorem OkD.int{i:Int}(q:0≤i)(h1:i < 10 ^ 60):OkD 102 0 (.int i):=by
 refine⟨?_,by unfold BG;exact Ao _,?_⟩
 ·unfold E3;refine Ic ?_;have h2:i.natAbs < 2 ^ 200:=by
   have:(10:Int) ^ 60 < ((2 ^ 200:Nat):Int):=by decide
   omega
  by_cases hz:i.natAbs=0
  ·rw[hz];decide
  ·have:=(Nat.log2_lt hz).mpr h2;omega
 ·unfold Dx;have:=aHf q h1;omega
theorem dZ{z:Str}(h:cC z=true):EY z=true:=by
 unfold cC at h;rw[AH,A8]at h;unfold EY;rw[Array.all_eq_true_iff_forall_mem];intro c hc;have:=Ie (h.2 c (by simpa using hc));exact Ic (by omega)
theorem OkD.name{z:Str}(h:cC z=true):OkD 102 0 (.str z):=OkD.str (dZ h) (by have:=iM h;omega)
def tyN:Ai→String
 | .none=>"NoneType"
 | .bool _=>"bool"
 | .int _=>"int"
 | .str _=>"str"
 | .list _=>"list"
 | .tuple _=>"tuple"
 | .dict _=>"dict"
def yD:Ai→Bool | .str _=>true | _=>false
def gC:Ai→Bool | .tuple _=>true | _=>false
def isInt:Ai→Bool | .int _=>true | .bool _=>true | _=>false
def aEk:Ai→Bool | .bool _=>true | _=>false
def cE:Ai→Bool | .str z=>cC z | _=>false
def dI(lo hi:Int):Ai→Bool | .int i=>decide (lo≤i∧i≤hi) | _=>false
def gE:Ai→Bool
 | .tuple [l,h,a]=>cE l && cE h && dI 1 10000000 a
 | _=>false
theorem aDc{K:Aj}(d:Ai):B0 K (.type (tyN d)) (.type "str")=some (yD d):=by
 cases d <;> dsimp only[tyN,yD] <;> first | exact nX | exact uZ (by decide) (by decide) (by decide)
theorem iU{K:Aj}(d:Ai):B0 K (.type (tyN d)) (.type "tuple")=some (gC d):=by
 cases d <;> dsimp only[tyN,gC] <;> first | exact nX | exact uZ (by decide) (by decide) (by decide)
theorem aHg{K:Aj}(d:Ai):B0 K (.type (tyN d)) (.type "int")=some (isInt d):=by
 cases d <;> dsimp only[tyN,isInt] <;> first | exact nX | exact uZ (by decide) (by decide) (by decide)
theorem aI0{K:Aj}(d:Ai):B0 K (.type (tyN d)) (.type "bool")=some (aEk d):=by
 cases d <;> dsimp only[tyN,aEk] <;> first | exact nX | exact uZ (by decide) (by decide) (by decide)
theorem kF{K:Aj}{m:Bool}{H:Hp}{x:V}{d:Ai}(h:RdV m H x d):jM K H x (.type (tyN d)):=by
 cases h with
 | non=>exact .non
 | bl b=>exact .bl b
 | int i=>exact .int i
 | str z _=>exact .str z
 | lst _ e _ _=>exact .lst e
 | tup e _ _=>exact .tup e
 | dct _ e=>exact .dK e
inductive vZ(K:Aj)(vs:List V)(H:Hp)(Q:VK)(u3_:XK):Prop
 | mk (x:_) (q0:vs=[x]) (q1:((∃ z,x=V.str z∧z.length≤1000000∧∀ H',bW H H'→Q (.bl (cC z)) H')∨(∃ t,jM K H x t∧B0 K t (.type "str")=some false∧Q (.bl false) H))):vZ K vs H Q u3_
def aA6(K:Aj):Sp:=fun vs H Q u3_=>vZ K vs H Q u3_
inductive aA7(vs:List V)(H:Hp)(Q:VK)(u3_:XK):Prop
 | mk (m:Bool) (x:V) (d:Ai) (q0:vs=[x]) (q1:RdV m H x d) (q2:∀ H',bW H H'→Q (.bl (cE d)) H'):aA7 vs H Q u3_
def jV:Sp:=fun vs H Q u3_=>aA7 vs H Q u3_
inductive aA8(vs:List V)(H:Hp)(Q:VK)(u3_:XK):Prop
 | mk (m:Bool) (x:V) (d:Ai) (q0:vs=[x]) (q1:RdV m H x d) (q2:Q (.bl (isInt d && !aEk d)) H):aA8 vs H Q u3_
def aFU:Sp:=fun vs H Q u3_=>aA8 vs H Q u3_
inductive yE(vs:List V)(H:Hp)(Q:VK)(u3_:XK):Prop
 | mk (m:Bool) (x:V) (d:Ai) (lo hi:Int) (q0:vs=[x,.int lo,.int hi]) (q1:RdV m H x d) (q2:Q (.bl (dI lo hi d)) H):yE vs H Q u3_
def nB:Sp:=fun vs H Q u3_=>yE vs H Q u3_
inductive aA9(vs:List V)(H:Hp)(Q:VK)(u3_:XK):Prop
 | mk (m:Bool) (x:V) (d:Ai) (q0:vs=[x]) (q1:RdV m H x d) (q2:∀ H',bW H H'→Q (.bl (gE d)) H'):aA9 vs H Q u3_
def aFV:Sp:=fun vs H Q u3_=>aA9 vs H Q u3_
structure Txt(K:Aj)(mg:Str→Option Ac):Prop where
 isi:mg "isinstance"=none
 str:mg "str"=none
 len:mg "len"=none
 al:mg "all"=none
 int:mg "int"=none
 bool:mg "bool"=none
 tuple:mg "tuple"=none
 set:mg "set"=none
 mostFields:∃ t,mg "MOST_FIELDS"=some (.int 8 t)
 fieldAcres:∃ t,mg "MOST_FIELD_ACRES"=some (.int 1000000 t)
 longest:∃ t,mg "LONGEST"=some (.int 8 t)
 lastDay:∃ t,mg "LAST_DAY"=some (.int 9999 t)
 fewest:∃ t,mg "FEWEST_LANDS"=some (.int 2 t)
 most:∃ t,mg "MOST_LANDS"=some (.int 6 t)
 acres:∃ t,mg "MOST_PART_ACRES"=some (.int 10000000 t)
 inches:∃ t,mg "MOST_INCHES"=some (.int 10000000 t)
 pence:∃ t,mg "MOST_PENCE"=some (.int 1000000000 t)
 spades:∃ t,mg "MOST_SPADES"=some (.int 1000000 t)
theorem aI1(K:Aj):B0 K (.type "str") (.type "str")=some true:=by
 unfold B0;rw[Ib (by rfl)]
theorem scN:bY ["thing"] ["thing"] (aO m5):=⟨rfl,rfl,rfl,by decide,rfl,by decide,by decide⟩
theorem aFW(a b:Nat):(!decide (([b]:List Nat) < [a]))=decide (a≤b):=by
 have:([b]:List Nat) < [a]↔b < a:=by
  constructor
  ·intro h;cases h with
   | rel h=>exact h
   | cons h=>cases h
  ·intro h;exact List.Lex.rel h
 by_cases h:b < a
 ·rw[Ic (this.mpr h),decide_eq_false (by omega)];rfl
 ·rw[decide_eq_false (fun z=>h (this.mp z)),Ic (by omega)];rfl
theorem aEl{f:Ag}{fd:AK}(F:Fun K "is_name" "is_name" m5 f fd)(T:Txt K mg):cY P w K mg base CX0 1 f fd ["thing"] (aA6 K):=by
 refine F.ok scN (fun vs H Q E h=>?_) (fun ac A outer s H vs Q E hr h=>?_)
 ·obtain⟨x,rfl,_⟩:=h;rfl
 ·obtain⟨x,rfl,hx⟩:=h;obtain⟨tl,hlong⟩:=T.longest;refine⟨_,aM (c8 (iD (dU (dO (aX dH (by rfl) T.isi (by kernel_rfl) (g8 (pv 0) (g8 (dL (v:=.ty "str") (by rfl) T.str (by kernel_rfl) rfl) aF)))))
    (fW (dU (uH oW oW aQ (aX pW (by rfl) T.len AO (g8 (pv 0) aF)) (dS (v:=.int 8) (by rfl) hlong ⟨_,rfl⟩))))).pt (aW (bC jK)) b8)
   (aW (bC (aX (p4 rfl) (by rfl) T.al (by kernel_rfl) (g8 (eG (N:=["sign"]) (src:=[none]) (osc:=aO m5) (oN:=["thing"]) ⟨by rfl,by decide,by decide,by decide,rfl,by rfl⟩ (aIA (pv 0))
    fun cl s H fp di C=>⟨bJ (i:=0) (show(["sign"]:List Str).Nodup by decide) rfl (AE rfl),dW,uG xL xL cG (pv 0) cG⟩) aF)))),?_⟩
  rcases hx with⟨z,rfl,hz,k⟩ | ⟨t,ty,e,k⟩
  ·refine⟨_,rfl,_,"str",_,true,rfl,jM.str z,aI1 K,true,rfl,dD ?_⟩;refine⟨_,rfl,z,rfl,aS hz,_,_,rfl,rfl,_,rfl,?_⟩;have B:¬ (1≤z.length∧z.length≤8)→Q (.bl false) H:=fun h=>by
    have:=k H (bW.refl H);unfold cC at this;rw[decide_eq_false h]at this;exact this
   refine dY (fun h1=>?_) (fun h1=>?_)
   ·have J:=Ie h1;refine⟨_,_,rfl,rfl,_,rfl,?_⟩;by_cases W:(z.length:Int)≤8
    ·rw[Ic W];refine dD ?_;refine⟨_,rfl,z,rfl,?_⟩;refine aFa (fun i ys σ H'=>H'=H∧ys=((z.cps.toList.take i).map fun c=>V.bl (decide (97≤c∧c≤122)))∧σ.length=1) ⟨rfl,rfl,rfl⟩ (aS hz) (fun i ys σ H' p=>by rw[p.2.1,Ad,Bh];omega) ?_ ?_
     ·rintro i c ys σ H' hc ⟨rfl,rfl,Y⟩;obtain⟨o,rfl⟩:∃ o,σ=[o]:=by
       match σ,Y with
       | [o],_=>exact⟨o,rfl⟩
      dsimp only[dG];refine dJ ?_;refine⟨_,rfl,_,_,rfl,rfl,_,rfl,?_⟩;have q:∀ b:Bool,b=decide (97≤c∧c≤122)→(H'=H'∧(Hc (fun c=>V.bl (decide (97≤c∧c≤122))) (DC i z.cps.toList)) ++ [V.bl b]=(z.cps.toList.take (i + 1)).map (fun c=>V.bl (decide (97≤c∧c≤122)))∧([o].set 0 (some (V.str ⟨#[c]⟩))).length=1):=fun b hb=>by
       refine⟨rfl,?_,rfl⟩;rw[Bk,AY,hb];have:z.cps.toList[i]?=some c:=by simpa using hc
       rw[this];rfl
      have e1:(!decide ((⟨#[c]⟩:Str).cps.toList < ("a":Str).cps.toList))=decide (97≤c):=aFW 97 c;have Z:(!decide (("z":Str).cps.toList < (⟨#[c]⟩:Str).cps.toList))=decide (c≤122):=aFW c 122;rw[e1];refine dY (fun M=>?_) (fun M=>?_)
      ·have U:=Ie M;refine⟨_,_,rfl,rfl,?_⟩;rw[Z];refine q _ ?_;rw[decide_eq_decide];omega
      ·have U:¬ 97≤c:=fun z=>M (Ic z);refine q false ?_;rw[decide_eq_false (by omega)]
     ·rintro ys σ H' ⟨rfl,rfl,Y⟩ D hD;have O:DC z.cps.size z.cps.toList=z.cps.toList:=by rw[← By];exact BI
      rw[O];refine⟨D,z.cps.toList.map fun c=>decide (97≤c∧c≤122),rfl,bF (by rw[aH,Ct];rfl),?_⟩;have:=k _ (aV (o:=.lst (Hc (fun c=>V.bl (decide (97≤c∧c≤122))) z.cps.toList)) hD);unfold cC at this;rw[Ic (by omega),Ba]at this;rw[DD];exact this
    ·rw[decide_eq_false W];exact dJ (B (by omega))
   ·have J:¬ (1:Int)≤z.length:=fun z=>h1 (Ic z);exact⟨false,rfl,dJ (B (by omega))⟩
  ·refine⟨_,rfl,_,"str",t,false,rfl,ty,e,false,rfl,dJ ?_⟩;refine dJ ?_;exact k
theorem aHh{f:Ag}{fd:AK}{k:Nat}{ps:List Str}{sp B:Sp}(G:cY P w K mg base CX0 k f fd ps sp)(h:∀ vs H Q E,B vs H Q E→sp vs H Q E):cY P w K mg base CX0 k f fd ps B:=
 ⟨fun vs H Q E z=>G.len vs H Q E (h vs H Q E z),fun A outer s H q us vs Q E F M J r z=>G.run A outer s H q us vs Q E F M J r (h vs H Q E z)⟩
theorem aEm(vs:List V)(H:Hp)(Q:VK)(E:XK)(h:jV vs H Q E):aA6 K vs H Q E:=by
 obtain⟨m,x,d,rfl,hx,k⟩:=h;refine⟨x,rfl,?_⟩;have ty:=kF (K:=K) hx;have q:=aDc (K:=K) d;cases hx with
 | str z hz=>exact .inl ⟨z,rfl,by omega,k⟩
 | non=>exact .inr ⟨_,ty,q,k H (bW.refl H)⟩
 | bl b=>exact .inr ⟨_,ty,q,k H (bW.refl H)⟩
 | int i=>exact .inr ⟨_,ty,q,k H (bW.refl H)⟩
 | lst _ _ _ _=>exact .inr ⟨_,ty,q,k H (bW.refl H)⟩
 | tup _ _ _=>exact .inr ⟨_,ty,q,k H (bW.refl H)⟩
 | dct _ _=>exact .inr ⟨_,ty,q,k H (bW.refl H)⟩
theorem aI2:bY ["thing"] ["thing"] (aO jF):=⟨rfl,rfl,rfl,by decide,rfl,by decide,by decide⟩
theorem aHi{f:Ag}{fd:AK}(F:Fun K "is_number" "is_number" jF f fd)(T:Txt K mg):cY P w K mg base CX0 1 f fd ["thing"] aFU:=by
 refine F.ok aI2 (fun vs H Q E h=>?_) (fun q A outer s H vs Q E B h=>?_)
 ·obtain⟨m,x,d,rfl,_⟩:=h;rfl
 ·obtain⟨m,x,d,rfl,hx,k⟩:=h;refine⟨_,aW (bC (d9 (aX dH (by rfl) T.isi (by kernel_rfl) (aG (pv 0) (aG (dL (v:=.ty "int") (by rfl) T.int (by kernel_rfl) rfl) aF)))
   (gF (aIf (aX dH (by rfl) T.isi (by kernel_rfl) (aG (pv 0) (aG (dL (v:=.ty "bool") (by rfl) T.bool (by kernel_rfl) rfl) aF))))))),?_⟩
  refine⟨_,rfl,_,"int",_,_,rfl,kF hx,aHg d,_,rfl,dY (fun g=>?_) (fun g=>?_)⟩
  ·rw[g,Ba]at k;exact⟨_,rfl,_,"bool",_,_,rfl,kF hx,aI0 d,_,rfl,k⟩
  ·have z:isInt d=false:=by simpa using g
   rw[z]at k;exact k
theorem aEn:bY ["thing","least","most"] ["thing","least","most"] (aO l7):=⟨rfl,rfl,rfl,by decide,rfl,by decide,by decide⟩
theorem aCg{f:Ag}{fd:AK}(F:Fun K "is_whole" "is_whole" l7 f fd)(M:Cl P w K mg base 1 "is_number" ["thing"] aFU):cY P w K mg base CX0 2 f fd ["thing","least","most"] nB:=by
 refine F.ok aEn (fun vs H Q E h=>?_) (fun W A outer s H vs Q E O h=>?_)
 ·obtain⟨m,x,d,lo,hi,rfl,_⟩:=h;rfl
 ·obtain⟨m,x,d,lo,hi,rfl,hx,k⟩:=h;refine⟨_,aW (bC (d9 (bG M O (aG (pv 0) aF)) (gF (uG oW oW (pv 1) (pv 0) (pv 2))))),_,rfl,m,x,d,rfl,hx,_,rfl,dY (fun g=>?_) (fun g=>?_)⟩
  ·obtain⟨i,rfl⟩:∃ i,d=.int i:=by
    cases d with
    | int i=>exact⟨i,rfl⟩
    | _=>simp[isInt,aEk]at g
   cases hx;refine⟨_,rfl,_,rfl,_,_,rfl,rfl,?_⟩;have B:Q (.bl (decide (lo≤i∧i≤hi))) H:=k;refine⟨_,rfl,dY (fun J=>?_) (fun J=>?_)⟩
   ·have q:lo≤i:=Ie J;refine⟨_,rfl,_,_,rfl,rfl,?_⟩;show Q (.bl (decide (i≤hi))) H;rw[decide_eq_decide.mpr (show i≤hi↔lo≤i∧i≤hi from⟨fun z=>⟨q,z⟩,fun z=>z.2⟩)];exact B
   ·have q:¬ lo≤i:=fun z=>J (Ic z);rw[decide_eq_false (fun z=>q z.1)]at B;exact B
  ·have U:(isInt d && !aEk d)=false:=by simpa using g
   have e:dI lo hi d=false:=by
    cases d with
    | int i=>simp[isInt,aEk]at U
    | _=>rfl
   rw[e]at k;exact k
inductive aBa(vs:List V)(H:Hp)(Q:VK)(u3_:XK):Prop
 | mk (m:Bool) (x:V) (d:Ai) (q0:vs=[x]) (q1:RdV m H x d) (q2:Q (.bl (dI 0 9999999 d)) H):aBa vs H Q u3_
def aCh:Sp:=fun vs H Q u3_=>aBa vs H Q u3_
theorem z8:bY ["thing","land","house","acres"] ["thing"] (aO oK):=⟨rfl,rfl,rfl,by decide,rfl,by decide,by decide⟩
theorem aHj{f:Ag}{fd:AK}(F:Fun K "is_part" "is_part" oK f fd)(T:Txt K mg)
  (Y:Cl P w K mg base 1 "is_name" ["thing"] jV)
  (GW:Cl P w K mg base 2 "is_whole" ["thing","least","most"] nB):
  cY P w K mg base CX0 3 f fd ["thing"] aFV:=by
 refine F.ok z8 (fun vs H Q E h=>?_) (fun ae A outer s H vs Q E Z h=>?_)
 ·obtain⟨m,x,d,rfl,_⟩:=h;rfl
 ·obtain⟨m,x,d,rfl,hx,k⟩:=h;have q:cZ 1 _:=Z.mono (by decide);obtain⟨ta,hacres⟩:=T.acres;refine⟨_,aM (c8 (PW.pt (iD (dU (dO (aX dH (by rfl) T.isi (by kernel_rfl) (aG (pv 0) (aG (dL (v:=.ty "tuple") (by rfl) T.tuple (by kernel_rfl) rfl) aF)))))
    (fW (cA sJ (aX bE (by rfl) T.len AO (aG (pv 0) aF)) aQ (cM _))))) (aW (bC jK)) b8)
   (aM (iY (pv 0) (kM rfl (cO (bJ (i:=1) z8.nd rfl (AE rfl)) (cO (bJ (i:=2) z8.nd rfl (AE rfl)) (cO (bJ (i:=3) z8.nd rfl (AE rfl)) iQ)))))
   (aW (bC (d9 (bG Y q (aG (pv 1) aF)) (d9 (bG Y q (aG (pv 2) aF)) (gF (bG GW Z (aG (pv 3) (aG aQ (aG (dS (v:=.int 10000000) (by rfl) hacres ⟨_,rfl⟩) aF)))))))))),?_⟩
  refine⟨_,rfl,_,"tuple",_,_,rfl,kF hx,iU d,_,rfl,?_⟩;cases hd:gC d with
  | false=>
   have e:gE d=false:=by
    cases d with
    | tuple ds=>simp[gC]at hd
    | _=>rfl
   rw[e]at k;exact k H (bW.refl H)
  | true=>
   obtain⟨ds,rfl⟩:∃ ds,d=.tuple ds:=by
    cases d with
    | tuple z=>exact⟨z,rfl⟩
    | _=>simp[gC]at hd
   cases hx with
   | @tup a xs _ e hl r=>
    have ab:=r.len;refine dD ?_;refine⟨_,rfl,a,xs,rfl,.inr (bI e),rfl,_,rfl,?_⟩;by_cases M:xs.length=3
    ·rw[Ic (show V.int (xs.length:Int)=V.int 3 by rw[M];rfl)];refine dD ?_
     match xs,ds,M,r with
     | [x1,x2,x3],[d1,d2,d3],_,.cons r1 (.cons r2 (.cons r3 .nil))=>
      refine⟨_,rfl,a,_,rfl,bI e,rfl,_,_,rfl,_,_,rfl,_,_,rfl,rfl,?_⟩;have W:∀ H',bW H H'→Q (.bl (cE d1 && cE d2 && dI 1 10000000 d3)) H':=k;refine⟨_,rfl,m,x1,d1,rfl,r1,fun H1 J=>⟨_,rfl,?_⟩⟩;have U:=W H1 J;refine dY (fun g=>?_) (fun g=>?_)
      ·refine⟨_,rfl,m,x2,d2,rfl,r2.same J,fun H2 s2=>⟨_,rfl,?_⟩⟩;have B:=W H2 (J.trans s2);rw[g,Ba]at B;refine dY (fun O=>?_) (fun O=>?_)
       ·rw[O,Ba]at B;exact⟨_,rfl,m,x3,d3,1,10000000,rfl,(r3.same J).same s2,B⟩
       ·rw[(by simpa using O:cE d2=false)]at B;exact B
      ·rw[(by simpa using g:cE d1=false)]at U;exact U
    ·rw[decide_eq_false (show¬ V.int (xs.length:Int)=V.int 3 from fun z=>M (by injection z with z;omega))];refine dJ ?_;have e2:gE (.tuple ds)=false:=by
      match ds,(show ds.length≠3 by omega)with
      | [],_=>rfl
      | [_],_=>rfl
      | [_,_],_=>rfl
      | [_,_,_],z=>exact absurd rfl z
      | _ :: _ :: _ :: _ :: _,_=>rfl
     rw[e2]at k;exact k H (bW.refl H)
theorem aI3:bY ["thing"] ["thing"] (aO oM):=⟨rfl,rfl,rfl,by decide,rfl,by decide,by decide⟩
theorem aHk{f:Ag}{fd:AK}(F:Fun K "is_inch" "is_inch" oM f fd)(T:Txt K mg)
  (B:Cl P w K mg base 2 "is_whole" ["thing","least","most"] nB):
  cY P w K mg base CX0 3 f fd ["thing"] aCh:=by
 refine F.ok aI3 (fun vs H Q E h=>?_) (fun q A outer s H vs Q E z h=>?_)
 ·obtain⟨m,x,d,rfl,_⟩:=h;rfl
 ·obtain⟨m,x,d,rfl,hx,k⟩:=h;obtain⟨ti,hin⟩:=T.inches;exact⟨_,aW (bC (bG B z (aG (pv 0) (aG aQ (aG (cB kQ (dS (v:=.int 10000000) (by rfl) hin ⟨_,rfl⟩) aQ) aF))))),_,rfl,_,_,rfl,rfl,m,x,d,0,9999999,rfl,hx,k⟩
def z9:Ai→Bool
 | .tuple ds=>ds.all cE
 | _=>false
def aAa:Ai→Bool
 | .tuple ds=>ds.all gE
 | _=>false
inductive aBb(vs:List V)(H:Hp)(Q:VK)(u3_:XK):Prop
 | mk (m:Bool) (x:V) (d:Ai) (q0:vs=[x]) (q1:RdV m H x d) (q2:∀ H',bW H H'→Q (.bl (z9 d)) H'):aBb vs H Q u3_
def v3:Sp:=fun vs H Q u3_=>aBb vs H Q u3_
inductive aBc(vs:List V)(H:Hp)(Q:VK)(u3_:XK):Prop
 | mk (m:Bool) (x:V) (d:Ai) (q0:vs=[x]) (q1:RdV m H x d) (q2:∀ H',bW H H'→Q (.bl (aAa d)) H'):aBc vs H Q u3_
def aCi:Sp:=fun vs H Q u3_=>aBc vs H Q u3_
theorem aI4:bY ["thing"] ["thing"] (aO iK):=⟨rfl,rfl,rfl,by decide,rfl,by decide,by decide⟩
theorem aHl{f:Ag}{fd:AK}(F:Fun K "all_names" "all_names" iK f fd)(T:Txt K mg)
  (M:Cl P w K mg base 1 "is_name" ["thing"] jV):
  cY P w K mg base CX0 2 f fd ["thing"] v3:=by
 refine F.ok aI4 (fun vs H Q E h=>?_) (fun Z A outer s H vs Q E O h=>?_)
 ·obtain⟨m,x,d,rfl,_⟩:=h;rfl
 ·obtain⟨m,x,d,rfl,hx,k⟩:=h;refine⟨_,aW (bC (d9 (aX dH (by rfl) T.isi (by kernel_rfl) (aG (pv 0) (aG (dL (v:=.ty "tuple") (by rfl) T.tuple (by kernel_rfl) rfl) aF)))
   (gF (aX (p4 rfl) (by rfl) T.al (by kernel_rfl) (aG (eG (N:=["name"]) (src:=[none]) (osc:=aO iK) (oN:=["thing"]) ⟨by rfl,by decide,by decide,by decide,rfl,by rfl⟩ (iE (pv 0))
     fun cl s H fp di C=>⟨bJ (i:=0) (show(["name"]:List Str).Nodup by decide) rfl (AE rfl),dW,bG M O (aG (pv 0) aF)⟩) aF))))),?_⟩
  refine⟨_,rfl,_,"tuple",_,_,rfl,kF hx,iU d,_,rfl,?_⟩;cases hd:gC d with
  | false=>
   have e:z9 d=false:=by
    cases d with
    | tuple ds=>simp[gC]at hd
    | _=>rfl
   rw[e]at k;exact k H (bW.refl H)
  | true=>
   obtain⟨ds,rfl⟩:∃ ds,d=.tuple ds:=by
    cases d with
    | tuple z=>exact⟨z,rfl⟩
    | _=>simp[gC]at hd
   cases hx with
   | @tup a xs _ e hl r=>
    have B:=r.len;have J:∀ H',bW H H'→Q (.bl (ds.all cE)) H':=k;refine dJ ?_;refine⟨_,rfl,a,rfl,⟨xs,bI e⟩,?_⟩;refine gN (xs:=xs) (fun i ys σ H'=>bW H H'∧ys=((ds.take i).map fun d=>V.bl (cE d))∧∃ o,σ=[o]) ⟨bW.refl H,rfl,none,rfl⟩ (aS (by omega)) (fun i ys σ H' p=>by rw[p.2.1,Ad,Bh];omega) (fun i ys σ H' p=>bI (p.1 _ _ e)) ?_ ?_
    ·rintro i y ys σ H' Y ⟨S,rfl,o,rfl⟩;dsimp only[dG];obtain⟨d',hd',r'⟩:=r.at Y;refine dJ ?_;refine⟨_,rfl,m,y,d',rfl,r'.same S,fun H2 U=>⟨S.trans U,?_,_,rfl⟩⟩;rw[Bk,hd',AY];rfl
    ·rintro ys σ H1 ⟨S,rfl,o,rfl⟩ D hD;have q:DC xs.length ds=ds:=Br (by omega);rw[q];have W:=S.trans (aV (o:=.lst (ds.map fun d=>V.bl (cE d))) hD);refine⟨D,ds.map cE,rfl,bF (by rw[aH,Ct];rfl),?_⟩;rw[DD];exact J _ W
theorem aI5:bY ["thing"] ["thing"] (aO iJ):=⟨rfl,rfl,rfl,by decide,rfl,by decide,by decide⟩
theorem aHm{f:Ag}{fd:AK}(F:Fun K "all_parts" "all_parts" iJ f fd)(T:Txt K mg)
  (M:Cl P w K mg base 3 "is_part" ["thing"] aFV):
  cY P w K mg base CX0 4 f fd ["thing"] aCi:=by
 refine F.ok aI5 (fun vs H Q E h=>?_) (fun Z A outer s H vs Q E O h=>?_)
 ·obtain⟨m,x,d,rfl,_⟩:=h;rfl
 ·obtain⟨m,x,d,rfl,hx,k⟩:=h;refine⟨_,aW (bC (d9 (aX dH (by rfl) T.isi (by kernel_rfl) (aG (pv 0) (aG (dL (v:=.ty "tuple") (by rfl) T.tuple (by kernel_rfl) rfl) aF)))
   (gF (aX (p4 rfl) (by rfl) T.al (by kernel_rfl) (aG (eG (N:=["part"]) (src:=[none]) (osc:=aO iJ) (oN:=["thing"]) ⟨by rfl,by decide,by decide,by decide,rfl,by rfl⟩ (iE (pv 0))
     fun cl s H fp di C=>⟨bJ (i:=0) (show(["part"]:List Str).Nodup by decide) rfl (AE rfl),dW,bG M O (aG (pv 0) aF)⟩) aF))))),?_⟩
  refine⟨_,rfl,_,"tuple",_,_,rfl,kF hx,iU d,_,rfl,?_⟩;cases hd:gC d with
  | false=>
   have e:aAa d=false:=by
    cases d with
    | tuple ds=>simp[gC]at hd
    | _=>rfl
   rw[e]at k;exact k H (bW.refl H)
  | true=>
   obtain⟨ds,rfl⟩:∃ ds,d=.tuple ds:=by
    cases d with
    | tuple z=>exact⟨z,rfl⟩
    | _=>simp[gC]at hd
   cases hx with
   | @tup a xs _ e hl r=>
    have B:=r.len;have J:∀ H',bW H H'→Q (.bl (ds.all gE)) H':=k;refine dJ ?_;refine⟨_,rfl,a,rfl,⟨xs,bI e⟩,?_⟩;refine gN (xs:=xs) (fun i ys σ H'=>bW H H'∧ys=((ds.take i).map fun d=>V.bl (gE d))∧∃ o,σ=[o]) ⟨bW.refl H,rfl,none,rfl⟩ (aS (by omega)) (fun i ys σ H' p=>by rw[p.2.1,Ad,Bh];omega) (fun i ys σ H' p=>bI (p.1 _ _ e)) ?_ ?_
    ·rintro i y ys σ H' Y ⟨S,rfl,o,rfl⟩;dsimp only[dG];obtain⟨d',hd',r'⟩:=r.at Y;refine dJ ?_;refine⟨_,rfl,m,y,d',rfl,r'.same S,fun H2 U=>⟨S.trans U,?_,_,rfl⟩⟩;rw[Bk,hd',AY];rfl
    ·rintro ys σ H1 ⟨S,rfl,o,rfl⟩ D hD;have q:DC xs.length ds=ds:=Br (by omega);rw[q];have W:=S.trans (aV (o:=.lst (ds.map fun d=>V.bl (gE d))) hD);refine⟨D,ds.map gE,rfl,bF (by rw[aH,Ct];rfl),?_⟩;rw[DD];exact J _ W
inductive aBd(D:List Ai→Bool)(vs:List V)(H:Hp)(Q:VK)(u3_:XK):Prop
 | mk (m:Bool) (x:V) (ds:List Ai) (q0:vs=[x]) (q1:RdV m H x (.tuple ds)) (q2:∀ H',bW H H'→Q (.bl (D ds)) H'):aBd D vs H Q u3_
def fH(D:List Ai→Bool):Sp:=fun vs H Q u3_=>aBd D vs H Q u3_
def mJ:List Ai→Bool
 | [d1,d2]=>cE d1 && dI 0 10000000 d2
 | _=>false
theorem aBe{ds:List Ai}(h:ds.length≠2):mJ ds=false:=by
 match ds,h with
 | [],_=>rfl
 | [_],_=>rfl
 | [_,_],z=>exact absurd rfl z
 | _ :: _ :: _ :: _,_=>rfl
def yF:List Ai→Bool
 | [d1,d2,d3]=>cE d1 && dI 0 9999999 d2 && cE d3
 | _=>false
theorem aFX{ds:List Ai}(h:ds.length≠3):yF ds=false:=by
 match ds,h with
 | [],_=>rfl
 | [_],_=>rfl
 | [_,_],_=>rfl
 | [_,_,_],z=>exact absurd rfl z
 | _ :: _ :: _ :: _ :: _,_=>rfl
def sH:List Ai→Bool
 | [d1]=>cE d1
 | _=>false
theorem aEo{ds:List Ai}(h:ds.length≠1):sH ds=false:=by
 match ds,h with
 | [],_=>rfl
 | [_],z=>exact absurd rfl z
 | _ :: _ :: _,_=>rfl
def oS:List Ai→Bool
 | [d1,d2,d3,d4]=>cE d1 && dI 0 9999999 d2 && dI 0 1000000000 d3 && dI 0 1000000 d4
 | _=>false
theorem aCj{ds:List Ai}(h:ds.length≠4):oS ds=false:=by
 match ds,h with
 | [],_=>rfl
 | [_],_=>rfl
 | [_,_],_=>rfl
 | [_,_,_],_=>rfl
 | [_,_,_,_],z=>exact absurd rfl z
 | _ :: _ :: _ :: _ :: _ :: _,_=>rfl
theorem aCk:bY ["rest"] ["rest"] (aO jI):=⟨rfl,rfl,rfl,by decide,rfl,by decide,by decide⟩
theorem aBf{f:Ag}{fd:AK}(F:Fun K "fits_measure" "fits_measure" jI f fd)(T:Txt K mg)
  (GN:Cl P w K mg base 1 "is_name" ["thing"] jV)
  (GW:Cl P w K mg base 2 "is_whole" ["thing","least","most"] nB):
  cY P w K mg base CX0 6 f fd ["rest"] (fH mJ):=by
 refine F.ok aCk (fun vs H Q E h=>?_) (fun ae A outer s H vs Q E O h=>?_)
 ·obtain⟨m,x,d,rfl,_⟩:=h;rfl
 ·obtain⟨m,x,ds,rfl,hx,k⟩:=h;have M:cZ 1 _:=O.mono (by decide);have J:cZ 2 _:=O.mono (by decide);have ac:cZ 3 _:=O.mono (by decide);obtain⟨tinches,hinches⟩:=T.inches;refine⟨_,aW (bC (d9 (gO eY (aX bE (by rfl) T.len AO (aG (pv 0) aF)) aQ (cM _)) (d9 (bG GN M (aG (cH c5 (pv 0) aQ Ig) aF)) (gF (bG GW J (aG (cH c5 (pv 0) aQ Ig) (aG aQ (aG (dS (v:=.int 10000000) (by rfl) hinches ⟨_,rfl⟩) aF)))))))),?_⟩;cases hx with
  | @tup a xs _ e hl r=>
   have Z:=r.len;refine⟨_,rfl,a,xs,rfl,.inr (bI e),rfl,_,rfl,?_⟩;by_cases hn:xs.length=2
   ·rw[Ic (show V.int (xs.length:Int)=V.int 2 by rw[hn];rfl)];refine dJ ?_
    match xs,ds,hn,r with
    | [x1,x2],[d1,d2],_,.cons r1 (.cons r2 (.nil))=>
     have W:∀ H',bW H H'→Q (.bl (cE d1 && dI 0 10000000 d2)) H':=k;have U:=bW.refl H;refine⟨_,rfl,a,_,0,_,rfl,rfl,bI (U _ _ e),rfl,m,x1,d1,rfl,(r1.same U),fun H1 z1=>⟨_,rfl,?_⟩⟩;have B:=U.trans z1;cases Y:(cE d1)with
     | false=>
      have q:=W H1 B;rw[Y]at q;simp only[Df]at q;refine dD ?_;exact q
     | true=>
      refine dJ ?_;have q:=W H1 B;rw[Y,Ba]at q;exact⟨_,rfl,a,_,1,_,rfl,rfl,bI (B _ _ e),rfl,m,x2,d2,0,10000000,rfl,(r2.same B),q⟩
   ·rw[decide_eq_false (show¬ V.int (xs.length:Int)=V.int 2 from fun z=>hn (by injection z with z;omega))];refine dD ?_;rw[aBe (by omega)]at k;exact k H (bW.refl H)
theorem aHn:bY ["rest"] ["rest"] (aO rV):=⟨rfl,rfl,rfl,by decide,rfl,by decide,by decide⟩
theorem aFY{f:Ag}{fd:AK}(F:Fun K "fits_view" "fits_view" rV f fd)(T:Txt K mg)
  (Z:Cl P w K mg base 1 "is_name" ["thing"] jV)
  (GI:Cl P w K mg base 3 "is_inch" ["thing"] aCh):
  cY P w K mg base CX0 6 f fd ["rest"] (fH yF):=by
 refine F.ok aHn (fun vs H Q E h=>?_) (fun ah A outer s H vs Q E O h=>?_)
 ·obtain⟨m,x,d,rfl,_⟩:=h;rfl
 ·obtain⟨m,x,ds,rfl,hx,k⟩:=h;have J:cZ 1 _:=O.mono (by decide);have ac:cZ 2 _:=O.mono (by decide);have U:cZ 3 _:=O.mono (by decide);refine⟨_,aW (bC (d9 (gO eY (aX bE (by rfl) T.len AO (aG (pv 0) aF)) aQ (cM _)) (d9 (bG Z J (aG (cH c5 (pv 0) aQ Ig) aF)) (d9 (bG GI U (aG (cH c5 (pv 0) aQ Ig) aF)) (gF (bG Z J (aG (cH c5 (pv 0) aQ Ig) aF))))))),?_⟩;cases hx with
  | @tup a xs _ e hl r=>
   have ab:=r.len;refine⟨_,rfl,a,xs,rfl,.inr (bI e),rfl,_,rfl,?_⟩;by_cases hn:xs.length=3
   ·rw[Ic (show V.int (xs.length:Int)=V.int 3 by rw[hn];rfl)];refine dJ ?_
    match xs,ds,hn,r with
    | [x1,x2,x3],[d1,d2,d3],_,.cons r1 (.cons r2 (.cons r3 (.nil)))=>
     have M:∀ H',bW H H'→Q (.bl (cE d1 && dI 0 9999999 d2 && cE d3)) H':=k;have Y:=bW.refl H;refine⟨_,rfl,a,_,0,_,rfl,rfl,bI (Y _ _ e),rfl,m,x1,d1,rfl,(r1.same Y),fun H1 z1=>⟨_,rfl,?_⟩⟩;have B:=Y.trans z1;cases W:(cE d1)with
     | false=>
      have q:=M H1 B;rw[W]at q;simp only[Df]at q;refine dD ?_;exact q
     | true=>
      refine dJ ?_;refine⟨_,rfl,a,_,1,_,rfl,rfl,bI (B _ _ e),rfl,m,x2,d2,rfl,(r2.same B),_,rfl,?_⟩;cases g1:(dI 0 9999999 d2)with
      | false=>
       have q:=M H1 B;rw[W,Ba,g1]at q;simp only[Df]at q;refine dD ?_;exact q
      | true=>
       refine dJ ?_;refine⟨_,rfl,a,_,2,_,rfl,rfl,bI (B _ _ e),rfl,m,x3,d3,rfl,(r3.same B),fun H3 z3=>?_⟩;have q:=M H3 (B.trans z3);rw[W,Ba,g1,Ba]at q;exact q
   ·rw[decide_eq_false (show¬ V.int (xs.length:Int)=V.int 3 from fun z=>hn (by injection z with z;omega))];refine dD ?_;rw[aFX (by omega)]at k;exact k H (bW.refl H)
theorem aFZ:bY ["rest"] ["rest"] (aO oO):=⟨rfl,rfl,rfl,by decide,rfl,by decide,by decide⟩
theorem aEp{f:Ag}{fd:AK}(F:Fun K "fits_alone" "fits_alone" oO f fd)(T:Txt K mg)
  (Z:Cl P w K mg base 1 "is_name" ["thing"] jV):
  cY P w K mg base CX0 6 f fd ["rest"] (fH sH):=by
 refine F.ok aFZ (fun vs H Q E h=>?_) (fun ab A outer s H vs Q E J h=>?_)
 ·obtain⟨m,x,d,rfl,_⟩:=h;rfl
 ·obtain⟨m,x,ds,rfl,hx,k⟩:=h;have B:cZ 1 _:=J.mono (by decide);have U:cZ 2 _:=J.mono (by decide);have aa:cZ 3 _:=J.mono (by decide);refine⟨_,aW (bC (d9 (gO eY (aX bE (by rfl) T.len AO (aG (pv 0) aF)) aQ (cM _)) (gF (bG Z B (aG (cH c5 (pv 0) aQ Ig) aF))))),?_⟩;cases hx with
  | @tup a xs _ e hl r=>
   have O:=r.len;refine⟨_,rfl,a,xs,rfl,.inr (bI e),rfl,_,rfl,?_⟩;by_cases hn:xs.length=1
   ·rw[Ic (show V.int (xs.length:Int)=V.int 1 by rw[hn];rfl)];refine dJ ?_
    match xs,ds,hn,r with
    | [x1],[d1],_,.cons r1 (.nil)=>
     have Y:∀ H',bW H H'→Q (.bl (cE d1)) H':=k;have M:=bW.refl H;refine⟨_,rfl,a,_,0,_,rfl,rfl,bI (M _ _ e),rfl,m,x1,d1,rfl,(r1.same M),fun H1 W=>?_⟩;have q:=Y H1 (M.trans W);exact q
   ·rw[decide_eq_false (show¬ V.int (xs.length:Int)=V.int 1 from fun z=>hn (by injection z with z;omega))];refine dD ?_;rw[aEo (by omega)]at k;exact k H (bW.refl H)
theorem aEq:bY ["rest"] ["rest"] (aO mC):=⟨rfl,rfl,rfl,by decide,rfl,by decide,by decide⟩
theorem aCl{f:Ag}{fd:AK}(F:Fun K "fits_breach" "fits_breach" mC f fd)(T:Txt K mg)
  (GN:Cl P w K mg base 1 "is_name" ["thing"] jV)
  (GW:Cl P w K mg base 2 "is_whole" ["thing","least","most"] nB)
  (GI:Cl P w K mg base 3 "is_inch" ["thing"] aCh):
  cY P w K mg base CX0 6 f fd ["rest"] (fH oS):=by
 refine F.ok aEq (fun vs H Q E h=>?_) (fun ah A outer s H vs Q E W h=>?_)
 ·obtain⟨m,x,d,rfl,_⟩:=h;rfl
 ·obtain⟨m,x,ds,rfl,hx,k⟩:=h;have U:cZ 1 _:=W.mono (by decide);have J:cZ 2 _:=W.mono (by decide);have Y:cZ 3 _:=W.mono (by decide);obtain⟨tpence,hpence⟩:=T.pence;obtain⟨tspades,hspades⟩:=T.spades;refine⟨_,aM (c8 (PW.pt (iD (cA sJ (aX bE (by rfl) T.len AO (aG (pv 0) aF)) aQ (cM _)) (iD (dU (dO (bG GN U (aG (cH c5 (pv 0) aQ Ig) aF)))) (fW (dU (dO (bG GI Y (aG (cH c5 (pv 0) aQ Ig) aF)))))))) (aW (bC jK)) b8) (aW (bC (d9 (bG GW J (aG (cH c5 (pv 0) aQ Ig) (aG aQ (aG (dS (v:=.int 1000000000) (by rfl) hpence ⟨_,rfl⟩) aF)))) (gF (bG GW J (aG (cH c5 (pv 0) aQ Ig) (aG aQ (aG (dS (v:=.int 1000000) (by rfl) hspades ⟨_,rfl⟩) aF)))))))),?_⟩;cases hx with
  | @tup a xs _ e hl r=>
   have ad:=r.len;refine⟨_,rfl,a,xs,rfl,.inr (bI e),rfl,_,rfl,?_⟩;by_cases hn:xs.length=4
   ·rw[Ic (show V.int (xs.length:Int)=V.int 4 by rw[hn];rfl)];refine dD ?_
    match xs,ds,hn,r with
    | [x1,x2,x3,x4],[d1,d2,d3,d4],_,.cons r1 (.cons r2 (.cons r3 (.cons r4 (.nil))))=>
     have M:∀ H',bW H H'→Q (.bl (cE d1 && dI 0 9999999 d2 && dI 0 1000000000 d3 && dI 0 1000000 d4)) H':=k;have s0:=bW.refl H;refine⟨_,rfl,a,_,0,_,rfl,rfl,bI (s0 _ _ e),rfl,m,x1,d1,rfl,(r1.same s0),fun H1 z1=>⟨_,rfl,?_⟩⟩;have B:=s0.trans z1;cases O:(cE d1)with
     | false=>
      have q:=M H1 B;rw[O]at q;simp only[Df]at q;refine dJ ?_;exact q
     | true=>
      refine dD ?_;refine⟨_,rfl,a,_,1,_,rfl,rfl,bI (B _ _ e),rfl,m,x2,d2,rfl,(r2.same B),_,rfl,?_⟩;cases Z:(dI 0 9999999 d2)with
      | false=>
       have q:=M H1 B;rw[O,Ba,Z]at q;simp only[Df]at q;refine dJ ?_;exact q
      | true=>
       refine dD ?_;refine⟨_,rfl,a,_,2,_,rfl,rfl,bI (B _ _ e),rfl,m,x3,d3,0,1000000000,rfl,(r3.same B),_,rfl,?_⟩;cases g2:(dI 0 1000000000 d3)with
       | false=>
        have q:=M H1 B;rw[O,Ba,Z,Ba,g2]at q;simp only[Df]at q;refine dD ?_;exact q
       | true=>
        refine dJ ?_;have q:=M H1 B;rw[O,Ba,Z,Ba,g2,Ba]at q;exact⟨_,rfl,a,_,3,_,rfl,rfl,bI (B _ _ e),rfl,m,x4,d4,0,1000000,rfl,(r4.same B),q⟩
   ·rw[decide_eq_false (show¬ V.int (xs.length:Int)=V.int 4 from fun z=>hn (by injection z with z;omega))];refine dJ ?_;rw[aCj (by omega)]at k;exact k H (bW.refl H)
def mM(ds:List Ai):Bool:=decide (ds.length=2) && ds.all cE
def tG:List Ai→Bool
 | [.str a,.str b]=>cC a && cC b && !decide (a=b)
 | _=>false
theorem aBg{ds:List Ai}(h:¬ (ds.length=2∧ds.all cE=true)):tG ds=false:=by
 unfold tG;split
 ·rename_i a b;have:¬ (cC a=true∧cC b=true):=fun z=>h ⟨rfl,by simp[cE,z.1,z.2]⟩;cases ha:cC a <;> cases q:cC b <;> simp_all
 ·rfl
theorem aI6{ds:List Ai}(h:ds.length=2)(g:ds.all cE=true):∃ a b,ds=[.str a,.str b]∧cC a=true∧cC b=true:=by
 match ds,h with
 | [d1,d2],_=>
  simp only[CF,List.all_nil,Bool.and_true,AH]at g;obtain⟨g1,g2⟩:=g;obtain⟨a,rfl,ha⟩:∃ a,d1=.str a∧cC a=true:=by
   cases d1 with
   | str a=>exact⟨a,rfl,g1⟩
   | _=>simp[cE]at g1
  obtain⟨b,rfl,hb⟩:∃ b,d2=.str b∧cC b=true:=by
   cases d2 with
   | str a=>exact⟨a,rfl,g2⟩
   | _=>simp[cE]at g2
  exact⟨a,b,rfl,ha,hb⟩
theorem aCm:bY ["rest"] ["rest"] (aO jH):=⟨rfl,rfl,rfl,by decide,rfl,by decide,by decide⟩
theorem aBh{f:Ag}{fd:AK}(F:Fun K "fits_forfeit" "fits_forfeit" jH f fd)(T:Txt K mg)
  (O:Cl P w K mg base 2 "all_names" ["thing"] v3):
  cY P w K mg base CX0 6 f fd ["rest"] (fH mM):=by
 refine F.ok aCm (fun vs H Q E h=>?_) (fun U A outer s H vs Q E M h=>?_)
 ·obtain⟨m,x,d,rfl,_⟩:=h;rfl
 ·obtain⟨m,x,ds,rfl,hx,k⟩:=h;have q:cZ 2 _:=M.mono (by decide);refine⟨_,aW (bC (d9 (gO eY (aX bE (by rfl) T.len AO (aG (pv 0) aF)) aQ (cM _)) (gF (bG O q (aG (pv 0) aF))))),?_⟩;have B:=hx;cases hx with
  | @tup a xs _ e W r=>
   have J:=r.len;refine⟨_,rfl,a,xs,rfl,.inr (bI e),rfl,_,rfl,?_⟩;unfold mM at k;by_cases hn:xs.length=2
   ·rw[Ic (show V.int (xs.length:Int)=V.int 2 by rw[hn];rfl)];refine dJ ?_;rw[Ic (show ds.length=2 by omega),Ba]at k;exact⟨_,rfl,m,_,_,rfl,B,k⟩
   ·rw[decide_eq_false (show¬ V.int (xs.length:Int)=V.int 2 from fun z=>hn (by injection z with z;omega))];refine dD ?_;rw[decide_eq_false (show¬ ds.length=2 by omega)]at k;exact k H (bW.refl H)
theorem aHo:bY ["rest"] ["rest"] (aO rU):=⟨rfl,rfl,rfl,by decide,rfl,by decide,by decide⟩
theorem aF8{f:Ag}{fd:AK}(F:Fun K "fits_mend" "fits_mend" rU f fd)(T:Txt K mg)
  (W:Cl P w K mg base 2 "all_names" ["thing"] v3):
  cY P w K mg base CX0 6 f fd ["rest"] (fH tG):=by
 refine F.ok aHo (fun vs H Q E h=>?_) (fun aa A outer s H vs Q E U h=>?_)
 ·obtain⟨m,x,d,rfl,_⟩:=h;rfl
 ·obtain⟨m,x,ds,rfl,hx,k⟩:=h;have J:cZ 2 _:=U.mono (by decide);refine⟨_,aW (bC (d9 (gO eY (aX bE (by rfl) T.len AO (aG (pv 0) aF)) aQ (cM _)) (d9 (bG W J (aG (pv 0) aF)) (gF (gO sJ (cH c5 (pv 0) aQ Ig) (cH c5 (pv 0) aQ Ig) (cM _)))))),?_⟩;have M:=hx;cases hx with
  | @tup a xs _ e hl r=>
   have O:=r.len;refine⟨_,rfl,a,xs,rfl,.inr (bI e),rfl,_,rfl,?_⟩;by_cases hn:xs.length=2
   ·rw[Ic (show V.int (xs.length:Int)=V.int 2 by rw[hn];rfl)];refine dJ ?_;refine⟨_,rfl,m,_,_,rfl,M,fun H1 B=>⟨_,rfl,?_⟩⟩;show if ds.all cE=true then _ else _
    refine dY (fun g=>?_) (fun g=>?_)
    ·obtain⟨z1,z2,rfl,h1,h2⟩:=aI6 (by omega) g;cases r with
     | cons Z r=>
      cases r with
      | cons Y r=>
       cases r;cases Z;cases Y;refine⟨_,rfl,a,_,0,_,rfl,rfl,bI (B _ _ e),rfl,_,rfl,a,_,1,_,rfl,rfl,bI (B _ _ e),rfl,rfl,?_⟩;have q:=k H1 B;have ef:tG [.str z1,.str z2]=!decide (V.str z1=V.str z2):=by
        show(cC z1 && cC z2 && !decide (z1=z2))=_;rw[h1,h2];by_cases hz:z1=z2
        ·subst hz;simp
        ·rw[decide_eq_false hz,decide_eq_false (fun e=>hz (by injection e))];rfl
       rw[ef]at q;exact q
    ·rw[aBg fun z=>g z.2]at k;exact k H1 B
   ·rw[decide_eq_false (show¬ V.int (xs.length:Int)=V.int 2 from fun z=>hn (by injection z with z;omega))];refine dD ?_;rw[aBg fun z=>hn (by omega)]at k;exact k H (bW.refl H)
def eZ(ss:List Str):Bool:=decide (ss.Pairwise fun a b=>a.cps.toList < b.cps.toList)
def aBi:Ai→Str | .str z=>z | _=>Bx ""
def c3:Ai→Str
 | .tuple (.str z :: _)=>z
 | _=>Bx ""
def aDd:Ai→Bool
 | .tuple ds=>ds.all gE && decide (2≤ds.length∧ds.length≤6) && eZ (ds.map c3)
 | _=>false
def aBj:Ai→Bool
 | .tuple ds=>ds.all cE && decide (2≤ds.length∧ds.length≤6) && eZ (ds.map aBi)
 | _=>false
inductive v4(vs:List V)(H:Hp)(Q:VK)(u3_:XK):Prop
 | mk (a:Ag) (ss:List Str) (q0:vs=[.ref a]) (q1:(H a=some (.lst (ss.map V.str))∨H a=some (.tup (ss.map V.str)))) (q2:ss.length≤6) (q3:∀ H',bW H H'→Q (.bl (eZ ss)) H'):v4 vs H Q u3_
def v5:Sp:=fun vs H Q u3_=>v4 vs H Q u3_
inductive aBk(vs:List V)(H:Hp)(Q:VK)(u3_:XK):Prop
 | mk (m:Bool) (x:V) (d:Ai) (q0:vs=[x]) (q1:RdV m H x d) (q2:∀ H',bW H H'→Q (.bl (aDd d)) H'):aBk vs H Q u3_
def aF9:Sp:=fun vs H Q u3_=>aBk vs H Q u3_
inductive aBl(vs:List V)(H:Hp)(Q:VK)(u3_:XK):Prop
 | mk (m:Bool) (x:V) (d:Ai) (q0:vs=[x]) (q1:RdV m H x d) (q2:∀ H',bW H H'→Q (.bl (aBj d)) H'):aBl vs H Q u3_
def aGa:Sp:=fun vs H Q u3_=>aBl vs H Q u3_
theorem v6{m:Bool}{H:Hp}:∀{xs:List V}{ds:List Ai},cJ m H xs ds→ds.all cE=true→xs=(ds.map aBi).map V.str
 | _,_,.nil,_=>rfl
 | _,_,.cons (d:=d) r rs,h=>by
  rw[CF,AH]at h;have q:=v6 rs h.2;cases d with
  | str z=>
   cases r;rw[q];rfl
  | _=>simp[cE]at h
theorem aI7:bY ["thing"] ["thing"] (aO jG):=⟨rfl,rfl,rfl,by decide,rfl,by decide,by decide⟩
theorem aHp{f:Ag}{fd:AK}(F:Fun K "are_lands" "are_lands" jG f fd)(T:Txt K mg)
  (GA:Cl P w K mg base 2 "all_names" ["thing"] v3)
  (GR:Cl P w K mg base 1 "is_rising" ["things"] v5):
  cY P w K mg base CX0 5 f fd ["thing"] aGa:=by
 refine F.ok aI7 (fun vs H Q E h=>?_) (fun ah A outer s H vs Q E hr h=>?_)
 ·obtain⟨m,x,d,rfl,_⟩:=h;rfl
 ·obtain⟨m,x,d,rfl,hx,k⟩:=h;have U:cZ 1 _:=hr.mono (by decide);have O:cZ 2 _:=hr.mono (by decide);obtain⟨tf,hfew⟩:=T.fewest;obtain⟨tm,hmost⟩:=T.most;refine⟨_,aW (bC (d9 (bG GA O (aG (pv 0) aF)) (d9 (uG oW oW (dS (v:=.int 2) (by rfl) hfew ⟨_,rfl⟩) (aX bE (by rfl) T.len AO (aG (pv 0) aF)) (dS (v:=.int 6) (by rfl) hmost ⟨_,rfl⟩)) (gF (bG GR U (aG (pv 0) aF)))))),_,rfl,m,x,d,rfl,hx,fun H1 B=>⟨_,rfl,?_⟩⟩;refine dY (fun g=>?_) (fun g=>?_)
  ·obtain⟨ds,rfl⟩:∃ ds,d=.tuple ds:=by
    cases d with
    | tuple z=>exact⟨z,rfl⟩
    | _=>simp[z9]at g
   have M:ds.all cE=true:=g;cases hx with
   | @tup a xs _ e hl r=>
    have ad:=r.len;have k':∀ H',bW H H'→Q (.bl (decide (2≤ds.length∧ds.length≤6) && eZ (ds.map aBi))) H':=fun H' s'=>by
     have q:Q (.bl (ds.all cE && decide (2≤ds.length∧ds.length≤6) && eZ (ds.map aBi))) H':=k H' s';rw[M,Ba]at q;exact q
    have J:¬ (2≤ds.length∧ds.length≤6)→Q (.bl false) H1:=fun h=>by
     have q:=k' H1 B;rw[decide_eq_false h]at q;exact q
    refine⟨_,rfl,a,xs,rfl,.inr (bI (B _ _ e)),_,_,rfl,rfl,_,rfl,dY (fun Z=>?_) (fun Z=>?_)⟩
    ·have aa:(2:Int)≤xs.length:=Ie Z;refine⟨_,_,rfl,rfl,_,rfl,dY (fun W=>?_) (fun W=>?_)⟩
     ·have Y:(xs.length:Int)≤6:=Ie W;refine⟨_,rfl,a,ds.map aBi,rfl,.inr ?_,by rw[Ad];omega,fun H2 s2=>?_⟩
      ·rw[← v6 r M];exact B _ _ e
      ·have q:=k' H2 (B.trans s2);rw[Ic (by omega),Ba]at q;exact q
     ·have Y:¬ (xs.length:Int)≤6:=fun z=>W (Ic z);exact J (by omega)
    ·have aa:¬ (2:Int)≤xs.length:=fun z=>Z (Ic z);refine⟨_,rfl,dD ?_⟩;exact J (by omega)
  ·have M:z9 d=false:=by simpa using g
   have e:aBj d=false:=by
    cases d with
    | tuple ds=>
     have z:ds.all cE=false:=M;show(ds.all cE && decide (2≤ds.length∧ds.length≤6) && eZ (ds.map aBi))=false;rw[z];rfl
    | _=>rfl
   rw[e]at k;exact k H1 B
theorem aI8:bY ["thing"] ["thing"] (aO iL):=⟨rfl,rfl,rfl,by decide,rfl,by decide,by decide⟩
theorem aEr{m:Bool}{H:Hp}{x:V}{d:Ai}(r:RdV m H x d)(h:gE d=true):∃ a xs,x=.ref a∧H a=some (.tup xs)∧atI xs 0=some (V.str (c3 d)):=by
 cases d with
 | tuple ds=>
  cases r with
  | @tup a xs _ e _ r=>
   cases r with
   | nil=>simp[gE]at h
   | @cons F d1 _ _ B rs=>
    have hn:cE d1=true:=by
     unfold gE at h;split at h
     ·rename_i q;cases q;simp only[AH]at h;exact h.1.1
     ·cases h
    cases d1 with
    | str z=>
     cases B;refine⟨a,_,rfl,e,?_⟩;unfold atI ixN;rw[Ib (by decide),Ib (by rw[A5];omega)];rfl
    | _=>simp[cE]at hn
 | _=>simp[gE]at h
theorem aHq{f:Ag}{fd:AK}(F:Fun K "are_parts" "are_parts" iL f fd)(T:Txt K mg)
  (GA:Cl P w K mg base 4 "all_parts" ["thing"] aCi)
  (GR:Cl P w K mg base 1 "is_rising" ["things"] v5):
  cY P w K mg base CX0 5 f fd ["thing"] aF9:=by
 refine F.ok aI8 (fun vs H Q E h=>?_) (fun aj A outer s H vs Q E Z h=>?_)
 ·obtain⟨m,x,d,rfl,_⟩:=h;rfl
 ·obtain⟨m,x,d,rfl,hx,k⟩:=h;have M:cZ 1 _:=Z.mono (by decide);obtain⟨tf,hfew⟩:=T.fewest;obtain⟨tm,hmost⟩:=T.most;refine⟨_,aM (c8 (PW.pt (iD (dU (dO (bG GA Z (aG (pv 0) aF)))) (fW (dU (uH oW oW (dS (v:=.int 2) (by rfl) hfew ⟨_,rfl⟩) (aX bE (by rfl) T.len AO (aG (pv 0) aF)) (dS (v:=.int 6) (by rfl) hmost ⟨_,rfl⟩)))))) (aW (bC jK)) b8)
   (aW (bC (bG GR M (aG (eG (N:=["part"]) (src:=[none]) (osc:=aO iL) (oN:=["thing"]) ⟨by rfl,by decide,by decide,by decide,rfl,by rfl⟩ (iE (pv 0))
     fun cl s H fp di C=>⟨bJ (i:=0) (show(["part"]:List Str).Nodup by decide) rfl (AE rfl),dW,cH (r:=wN K) c5 (pv 0) aQ Ig⟩) aF)))),?_⟩
  refine⟨_,rfl,m,x,d,rfl,hx,fun H1 B=>⟨_,rfl,?_⟩⟩;cases g:aAa d with
  | false=>
   refine dJ ?_;have e:aDd d=false:=by
    cases d with
    | tuple ds=>
     have z:ds.all gE=false:=g;show(ds.all gE && decide (2≤ds.length∧ds.length≤6) && eZ (ds.map c3))=false;rw[z];rfl
    | _=>rfl
   rw[e]at k;exact k H1 B
  | true=>
   refine dD ?_;obtain⟨ds,rfl⟩:∃ ds,d=.tuple ds:=by
    cases d with
    | tuple z=>exact⟨z,rfl⟩
    | _=>simp[aAa]at g
   have g':ds.all gE=true:=g;cases hx with
   | @tup a xs _ e hl r=>
    have ac:=r.len;have Y:∀ H',bW H H'→Q (.bl (decide (2≤ds.length∧ds.length≤6) && eZ (ds.map c3))) H':=fun H' s'=>by
     have q:Q (.bl (ds.all gE && decide (2≤ds.length∧ds.length≤6) && eZ (ds.map c3))) H':=k H' s';rw[g',Ba]at q;exact q
    have J:¬ (2≤ds.length∧ds.length≤6)→Q (.bl false) H1:=fun h=>by
     have q:=Y H1 B;rw[decide_eq_false h]at q;exact q
    refine⟨_,rfl,a,xs,rfl,.inr (bI (B _ _ e)),_,_,rfl,rfl,_,rfl,dY (fun O=>?_) (fun O=>?_)⟩
    ·have W:(2:Int)≤xs.length:=Ie O;refine⟨_,_,rfl,rfl,_,rfl,?_⟩;by_cases g2:(xs.length:Int)≤6
     ·rw[Ic g2];refine dD ?_;refine⟨_,rfl,a,rfl,⟨xs,bI (B _ _ e)⟩,?_⟩;refine gN (xs:=xs) (fun i ys σ H'=>bW H1 H'∧ys=((ds.take i).map fun d=>V.str (c3 d))∧∃ o,σ=[o]) ⟨bW.refl H1,rfl,none,rfl⟩ (aS (by omega)) (fun i ys σ H' p=>by rw[p.2.1,Ad,Bh];omega) (fun i ys σ H' p=>bI (p.1 _ _ (B _ _ e))) ?_ ?_
      ·rintro i y ys σ H' hy ⟨S,rfl,o,rfl⟩;dsimp only[dG];obtain⟨d',hd',r'⟩:=r.at hy;obtain⟨b,zs,rfl,hb,hat⟩:=aEr ((r'.same B).same S) (A8.mp g' d' (AN hd'));refine dJ ?_;refine⟨_,rfl,b,zs,0,_,rfl,rfl,bI hb,hat,S,?_,_,rfl⟩;rw[Bk,hd',AY];rfl
      ·rintro ys σ H2 ⟨S,rfl,o,rfl⟩ D hD;have U:DC xs.length ds=ds:=Br (by omega);rw[U];have S1:=S.trans (aV (o:=.lst (ds.map fun d=>V.str (c3 d))) hD);refine⟨D,ds.map c3,rfl,.inl (by rw[aH,Ct];rfl),by rw[Ad];omega,fun H3 s3=>?_⟩;have q:=Y H3 ((B.trans S1).trans s3);rw[Ic (by omega),Ba]at q;exact q
     ·rw[decide_eq_false g2];refine dJ ?_;exact J (by omega)
    ·have W:¬ (2:Int)≤xs.length:=fun z=>O (Ic z);refine⟨_,rfl,dJ ?_⟩;exact J (by omega)
def aBm:List Ai→Bool
 | [d1,d2]=>cE d1 && aDd d2
 | _=>false
def yG:List Ai→Bool
 | [d1,d2]=>aBj d1 && cE d2
 | _=>false
theorem aGb{ds:List Ai}(h:ds.length≠2):aBm ds=false:=by
 match ds,h with
 | [],_=>rfl
 | [_],_=>rfl
 | [_,_],z=>exact absurd rfl z
 | _ :: _ :: _ :: _,_=>rfl
theorem aGc{ds:List Ai}(h:ds.length≠2):yG ds=false:=by
 match ds,h with
 | [],_=>rfl
 | [_],_=>rfl
 | [_,_],z=>exact absurd rfl z
 | _ :: _ :: _ :: _,_=>rfl
theorem aHr:bY ["rest"] ["rest"] (aO rS):=⟨rfl,rfl,rfl,by decide,rfl,by decide,by decide⟩
theorem aGd{f:Ag}{fd:AK}(F:Fun K "fits_part" "fits_part" rS f fd)(T:Txt K mg)
  (W:Cl P w K mg base 1 "is_name" ["thing"] jV)
  (Z:Cl P w K mg base 5 "are_parts" ["thing"] aF9):
  cY P w K mg base CX0 6 f fd ["rest"] (fH aBm):=by
 refine F.ok aHr (fun vs H Q E h=>?_) (fun aa A outer s H vs Q E O h=>?_)
 ·obtain⟨m,x,d,rfl,_⟩:=h;rfl
 ·obtain⟨m,x,ds,rfl,hx,k⟩:=h;have J:cZ 1 _:=O.mono (by decide);refine⟨_,aW (bC (d9 (gO eY (aX bE (by rfl) T.len AO (aG (pv 0) aF)) aQ (cM _)) (d9 (bG W J (aG (cH c5 (pv 0) aQ Ig) aF)) (gF (bG Z O (aG (cH c5 (pv 0) aQ Ig) aF)))))),?_⟩;cases hx with
  | @tup a xs _ e hl r=>
   have U:=r.len;refine⟨_,rfl,a,xs,rfl,.inr (bI e),rfl,_,rfl,?_⟩;by_cases hn:xs.length=2
   ·rw[Ic (show V.int (xs.length:Int)=V.int 2 by rw[hn];rfl)];refine dJ ?_
    match xs,ds,hn,r with
    | [x1,x2],[d1,d2],_,.cons r1 (.cons r2 .nil)=>
     have M:∀ H',bW H H'→Q (.bl (cE d1 && aDd d2)) H':=k;refine⟨_,rfl,a,_,0,_,rfl,rfl,bI e,rfl,m,x1,d1,rfl,r1,fun H1 B=>⟨_,rfl,?_⟩⟩;refine dY (fun g=>?_) (fun g=>?_)
     ·refine⟨_,rfl,a,_,1,_,rfl,rfl,bI (B _ _ e),rfl,m,x2,d2,rfl,r2.same B,fun H2 Y=>?_⟩;have q:=M H2 (B.trans Y);rw[g,Ba]at q;exact q
     ·have q:=M H1 B;rw[(by simpa using g:cE d1=false)]at q;exact q
   ·rw[decide_eq_false (show¬ V.int (xs.length:Int)=V.int 2 from fun z=>hn (by injection z with z;omega))];refine dD ?_;rw[aGb (by omega)]at k;exact k H (bW.refl H)
theorem aHs:bY ["rest"] ["rest"] (aO rT):=⟨rfl,rfl,rfl,by decide,rfl,by decide,by decide⟩
theorem aGe{f:Ag}{fd:AK}(F:Fun K "fits_join" "fits_join" rT f fd)(T:Txt K mg)
  (W:Cl P w K mg base 1 "is_name" ["thing"] jV)
  (Z:Cl P w K mg base 5 "are_lands" ["thing"] aGa):
  cY P w K mg base CX0 6 f fd ["rest"] (fH yG):=by
 refine F.ok aHs (fun vs H Q E h=>?_) (fun aa A outer s H vs Q E O h=>?_)
 ·obtain⟨m,x,d,rfl,_⟩:=h;rfl
 ·obtain⟨m,x,ds,rfl,hx,k⟩:=h;have J:cZ 1 _:=O.mono (by decide);refine⟨_,aW (bC (d9 (gO eY (aX bE (by rfl) T.len AO (aG (pv 0) aF)) aQ (cM _)) (d9 (bG Z O (aG (cH c5 (pv 0) aQ Ig) aF)) (gF (bG W J (aG (cH c5 (pv 0) aQ Ig) aF)))))),?_⟩;cases hx with
  | @tup a xs _ e hl r=>
   have U:=r.len;refine⟨_,rfl,a,xs,rfl,.inr (bI e),rfl,_,rfl,?_⟩;by_cases hn:xs.length=2
   ·rw[Ic (show V.int (xs.length:Int)=V.int 2 by rw[hn];rfl)];refine dJ ?_
    match xs,ds,hn,r with
    | [x1,x2],[d1,d2],_,.cons r1 (.cons r2 .nil)=>
     have M:∀ H',bW H H'→Q (.bl (aBj d1 && cE d2)) H':=k;refine⟨_,rfl,a,_,0,_,rfl,rfl,bI e,rfl,m,x1,d1,rfl,r1,fun H1 B=>⟨_,rfl,?_⟩⟩;refine dY (fun g=>?_) (fun g=>?_)
     ·refine⟨_,rfl,a,_,1,_,rfl,rfl,bI (B _ _ e),rfl,m,x2,d2,rfl,r2.same B,fun H2 Y=>?_⟩;have q:=M H2 (B.trans Y);rw[g,Ba]at q;exact q
     ·have q:=M H1 B;rw[(by simpa using g:aBj d1=false)]at q;exact q
   ·rw[decide_eq_false (show¬ V.int (xs.length:Int)=V.int 2 from fun z=>hn (by injection z with z;omega))];refine dD ?_;rw[aGc (by omega)]at k;exact k H (bW.refl H)
def fE:List Str:=["part","join","forfeit","measure","mend","alone","breach","view"]
def fS(kind:Str)(ds:List Ai):Bool:=
 if kind="part" then aBm ds else if kind="join" then yG ds else if kind="forfeit" then mM ds else if kind="measure" then mJ ds else if kind="mend" then tG ds else if kind="alone" then sH ds else if kind="breach" then oS ds else yF ds
def rowD:Ai→Bool
 | .tuple (.str kind :: name :: day :: cS)=>decide (kind∈fE) && (cE name && (dI 0 9999 day && fS kind cS))
 | _=>false
inductive yH(vs:List V)(H:Hp)(Q:VK)(u3_:XK):Prop
 | mk (m:Bool) (x:V) (d:Ai) (q0:vs=[x]) (q1:RdV m H x d) (q2:∀ H',bW H H'→Q (.bl (rowD d)) H'):yH vs H Q u3_
def aDe:Sp:=fun vs H Q u3_=>yH vs H Q u3_
theorem aCn{ds:List Ai}(h:ds.length < 3):rowD (.tuple ds)=false:=by
 match ds,h with
 | [],_=>rfl
 | [d],_=>cases d <;> rfl
 | [d,_],_=>cases d <;> rfl
theorem aEs{d1 q B:Ai}{ds:List Ai}(h:yD d1=false):rowD (.tuple (d1 :: q :: B :: ds))=false:=by
 cases d1 with
 | str z=>simp[yD]at h
 | _=>rfl
theorem qK:bY ["thing","kind","name","day","fits"] ["thing"] (aO rW):=⟨rfl,rfl,rfl,by decide,rfl,by decide,by decide⟩
theorem aGf{f ra:Ag}{fd:AK}{ab:List (Key×Ac)}{fh:List (Key×V)}(F:Fun K "is_row" "is_row" rW f fd)(T:Txt K mg)
  (ac:∀ h:Bp,K.In h→h.DictOf (c9 P w) ra ab) (rel:KV fh ab) (hz:(ra == sysModules)=false) (mF:mg "FORMS"=some (.ref ra))
  (Y:∀ kind:Str,(fQ fh (Aw kind)).isSome=decide (kind∈fE))
  (ae:∀(kind:Str) (v:V),fQ fh (Aw kind)=some v→∃(a:Ag) (fd:AK),v=.ref a∧cY P w K mg base CX0 6 a fd ["rest"] (fH (fS kind))∧Al K (.ref a)=true∧eU K fd ["rest"] [])
  (GN:Cl P w K mg base 1 "is_name" ["thing"] jV)
  (GW:Cl P w K mg base 2 "is_whole" ["thing","least","most"] nB):
  cY P w K mg base CX0 7 f fd ["thing"] aDe:=by
 refine F.ok qK (fun vs H Q E h=>?_) (fun aD A outer s H vs Q E hr h=>?_)
 ·obtain⟨m,x,d,rfl,_⟩:=h;rfl
 ·obtain⟨m,x,d,rfl,hx,k⟩:=h;have ag:cZ 1 _:=hr.mono (by decide);have af:cZ 2 _:=hr.mono (by decide);obtain⟨tl,hlast⟩:=T.lastDay;refine⟨_,aM (c8 (PW.pt (iD (dU (dO (aX dH (by rfl) T.isi (by kernel_rfl) (aG (pv 0) (aG (dL (v:=.ty "tuple") (by rfl) T.tuple (by kernel_rfl) rfl) aF)))))
    (fW (cA aHM (aX bE (by rfl) T.len AO (aG (pv 0) aF)) aQ (cM _))))) (aW (bC jK)) b8)
   (aM (iY (gM aCU (pv 0) iR (iS aQ)) (kM rfl (cO (bJ (i:=1) qK.nd rfl (AE rfl)) (cO (bJ (i:=2) qK.nd rfl (AE rfl)) (cO (bJ (i:=3) qK.nd rfl (AE rfl)) iQ)))))
   (aM (c8 (PW.pt (iD (dU (dO (aX dH (by rfl) T.isi (by kernel_rfl) (aG (pv 1) (aG (dL (v:=.ty "str") (by rfl) T.str (by kernel_rfl) rfl) aF)))))
    (fW (cA (aD2 ac rel hz) (pv 1) (dS (v:=.ref ra) (by rfl) mF rfl) (by with_unfolding_all rfl))))) (aW (bC jK)) b8)
   (aM (c8 (PW.pt (iD (dU (dO (bG GN ag (aG (pv 2) aF)))) (fW (dU (dO (bG GW af (aG (pv 3) (aG aQ (aG (dS (v:=.int 9999) (by rfl) hlast ⟨_,rfl⟩) aF))))))))) (aW (bC jK)) b8)
   (aM (bQ (i:=4) qK.nd rfl (AE rfl) (aCV ac rel (by rfl) mF (pv 1) Ig))
   (aW (bC (aFj (k:=6) (ps:=["rest"]) (pv 4) hr (aG (gM aCU (pv 0) (iS aQ) iR) aF)))))))),?_⟩
  refine⟨_,rfl,_,"tuple",_,_,rfl,kF hx,iU d,_,rfl,?_⟩;cases hd:gC d with
  | false=>
   have e:rowD d=false:=by
    cases d with
    | tuple ds=>simp[gC]at hd
    | _=>rfl
   rw[e]at k;exact k H (bW.refl H)
  | true=>
   obtain⟨ds,rfl⟩:∃ ds,d=.tuple ds:=by
    cases d with
    | tuple z=>exact⟨z,rfl⟩
    | _=>simp[gC]at hd
   cases hx with
   | @tup a xs _ e hl r=>
    have au:=r.len;refine dD ?_;refine⟨_,rfl,a,xs,rfl,.inr (bI e),_,_,rfl,rfl,_,rfl,?_⟩;by_cases hn:(xs.length:Int) < 3
    ·rw[Ic hn];refine dJ ?_;rw[aCn (by omega)]at k;exact k H (bW.refl H)
    ·rw[decide_eq_false hn];refine dD ?_;obtain⟨U,M,O,B,rfl⟩:∃ U M O B,xs=U :: M :: O :: B:=by
      match xs,hn with
      | [],z=>exact absurd (by decide) z
      | [_],z=>exact absurd (show(1:Int) < 3 by decide) z
      | [_,_],z=>exact absurd (show(2:Int) < 3 by decide) z
      | a :: b :: c :: r,_=>exact⟨a,b,c,r,rfl⟩
     cases r with
     | @cons _ d1 _ _ r1 r=>
     cases r with
     | @cons _ d2 _ _ r2 r=>
     cases r with
     | @cons _ d3 _ ds aj rr=>
     refine⟨_,rfl,_,rfl,a,_,rfl,e,fun t H1 W ht=>?_⟩;have ec:jZ (U :: M :: O :: B) none (some 3)=[U,M,O]:=aFf (α:=Nat) (U :: M :: O :: B) 3;rw[ec]at ht;refine⟨t,_,rfl,bI ht,rfl,_,_,rfl,_,_,rfl,_,_,rfl,rfl,_,rfl,_,"str",_,_,rfl,kF (r1.same W),aDc d1,_,rfl,?_⟩;cases hk:yD d1 with
     | false=>
      rw[aEs hk]at k;exact k H1 W
     | true=>
      obtain⟨kind,rfl⟩:∃ z,d1=.str z:=by
       cases d1 with
       | str z=>exact⟨z,rfl⟩
       | _=>simp[yD]at hk
      cases r1;refine dD ?_;refine⟨_,rfl,Aw kind,rfl,rfl,_,rfl,?_⟩;rw[Y kind];have Z:∀ H',bW H H'→Q (.bl (decide (kind∈fE) && (cE d2 && (dI 0 9999 d3 && fS kind ds)))) H':=k;by_cases hw:kind∈fE
      ·rw[Ic hw];refine dD ?_;rw[Ic hw,Ba]at Z;refine⟨_,rfl,m,M,d2,rfl,r2.same W,fun H2 s2=>⟨_,rfl,?_⟩⟩;have J:=W.trans s2;cases g:cE d2 with
       | false=>
        refine dJ ?_;have q:=Z H2 J;rw[g]at q;exact q
       | true=>
        refine dD ?_;refine⟨_,rfl,m,O,d3,0,9999,rfl,aj.same J,_,rfl,?_⟩;cases g2:dI 0 9999 d3 with
        | false=>
         refine dJ ?_;have q:=Z H2 J;rw[g,g2]at q;exact q
        | true=>
         refine dD ?_;have hs:=Y kind;rw[Ic hw]at hs;obtain⟨v,hv⟩:=Option.isSome_iff_exists.mp hs;obtain⟨fa,fda,rfl,FG,fk,fb⟩:=ae kind v hv;refine⟨_,rfl,Aw kind,_,rfl,hv,_,rfl,fa,fH (fS kind),rfl,⟨fda,FG,fk,fb⟩,_,rfl,_,rfl,a,_,rfl,J _ _ e,fun t2 H3 s3 aa=>?_⟩;have ed:jZ (V.str kind :: M :: O :: B) (some 3) none=B:=aFg (α:=Nat) (V.str kind :: M :: O :: B) 3;rw[ed]at aa;refine⟨m,_,ds,rfl,.tup aa (by simp only[A5]at hl;omega) ((rr.same J).same s3),fun H4 s4=>?_⟩;have q:=Z H4 ((J.trans s3).trans s4);rw[g,g2,Ba,Ba]at q;exact q
      ·rw[decide_eq_false hw];refine dJ ?_;have q:=Z H1 W;rw[decide_eq_false hw]at q;exact q
inductive tH(vs:List V)(H:Hp)(Q:VK)(u3_:XK):Prop
 | mk (t:Ag) (word:Str) (x1 x2 x3:V) (cS:List V) (q0:vs=[.ref t]) (q1:H t=some (.tup (.str word :: x1 :: x2 :: x3 :: cS))) (q2:∀ H',bW H H'→Q (if inV (.str word) [V.str "measure",.str "breach",.str "view"]=true then x3 else .non) H'):tH vs H Q u3_
def yI:Sp:=fun vs H Q u3_=>tH vs H Q u3_
theorem aEt:bY ["row"] ["row"] (aO mG):=⟨rfl,rfl,rfl,by decide,rfl,by decide,by decide⟩
theorem aCo{f:Ag}{fd:AK}(F:Fun K "field_of" "field_of" mG f fd):cY P w K mg base CX0 1 f fd ["row"] yI:=by
 refine F.ok aEt (fun vs H Q E h=>?_) (fun O A outer s H vs Q E U h=>?_)
 ·obtain⟨t,word,x1,x2,x3,cS,rfl,_⟩:=h;rfl
 ·obtain⟨t,word,x1,x2,x3,cS,rfl,ht,k⟩:=h;refine⟨_,aM (c8 (cA xC (cH c5 (pv 0) aQ Ig) (dA (aG cG (aG cG (aG cG aF)))) (by with_unfolding_all rfl)) (aW (bC (cH c5 (pv 0) aQ Ig))) b8)
   (aW (bC aEI)),?_⟩
  have W:(V.str word :: x1 :: x2 :: x3 :: cS).length=cS.length + 4:=rfl;have J:atI (V.str word :: x1 :: x2 :: x3 :: cS) 0=some (.str word):=fG (j:=0) rfl;have a3:atI (V.str word :: x1 :: x2 :: x3 :: cS) 3=some x3:=fG (j:=3) rfl;refine⟨_,rfl,t,_,0,_,rfl,rfl,bI ht,J,zZ3,fun q M=>?_⟩;have B:=aV (o:=.tup [V.str "measure",.str "breach",.str "view"]) M;refine⟨q,_,rfl,.inr (bI aH),rfl,rfl,_,rfl,?_⟩;have z:=k _ B;rw[Ia AD];refine dY (fun g=>?_) (fun g=>?_)
  ·rw[Ib g]at z;exact⟨_,rfl,t,_,3,_,rfl,rfl,bI (B _ _ ht),a3,z⟩
  ·rw[Ia g]at z;exact z
def aH0:Ai→Bool | .list _=>true | _=>false
def eI:Ai→Bool | .list _=>true | .tuple _=>true | _=>false
theorem aHt{K:Aj}(d:Ai):B0 K (.type (tyN d)) (.type "list")=some (aH0 d):=by
 cases d <;> dsimp only[tyN,aH0] <;> first | exact nX | exact uZ (by decide) (by decide) (by decide)
theorem qL{K:Aj}(d:Ai):Et K (.type (tyN d)) [.type "list",.type "tuple"]=some (eI d):=by
 simp only[Et,aHt,iU];cases d <;> rfl
def dQ:Nat→Ai→Ai
 | 0,d=>d
 | n + 1,.list ds=>.tuple (ds.map (dQ n))
 | n + 1,.tuple ds=>.tuple (ds.map (dQ n))
 | _ + 1,d=>d
inductive aGg(n:Nat)(vs:List V)(H:Hp)(Q:VK)(u3_:XK):Prop
 | mk (m:Bool) (x:V) (d:Ai) (q0:vs=[x,.int n]) (q1:RdV m H x d) (q2:∀ y H',bW H H'→RdV m H' y (dQ n d)→Q y H'):aGg n vs H Q u3_
def aGh(n:Nat):Sp:=fun vs H Q u3_=>aGg n vs H Q u3_
theorem aGi{f:Ag}{fd:AK}{k:Nat}{ps:List Str}:cY P w K mg base CX0 k f fd ps (fun _ _ _ _=>False):=by
 constructor
 ·intro _ _ _ _ h;exact h.elim
 ·intros;contradiction
theorem aJ6:bY ["thing","deep"] ["thing","deep"] (aO jT):=⟨rfl,rfl,rfl,by decide,rfl,by decide,by decide⟩
theorem aI9{f:Ag}{fd:AK}(F:Fun K "as_tuples" "as_tuples" jT f fd)(T:Txt K mg)(q:mg "list"=none)(mA:mg "as_tuples"=some (.ref f))(z:Al K (.ref f)=true)(J:eU K fd ["thing","deep"] []):
  cY P w K mg base CX0 1 f fd ["thing","deep"] (aGh 0):=by
 refine F.ok aJ6 (fun vs H Q E h=>?_) (fun M A outer s H vs Q E B h=>?_)
 ·obtain⟨m,x,d,rfl,_⟩:=h;rfl
 ·obtain⟨m,x,d,rfl,hx,k⟩:=h;have G:cY P w K mg base CX0 0 f fd ["thing","deep"] (fun _ _ _ _=>False):=aGi;refine⟨_,aM (c8 (PW.pt (iD (cA eY (pv 1) aQ (cM _)) (fW (dU (dO (aX g9 (by rfl) T.isi (by kernel_rfl) (aG (pv 0) (aG (dA (aG (dL (v:=.ty "list") (by rfl) q (by kernel_rfl) rfl) (aG (dL (v:=.ty "tuple") (by rfl) T.tuple (by kernel_rfl) rfl) aF))) aF)))))))) (aW (bC (pv 0))) b8)
   (aW (bC (cQ cX (by rfl) T.tuple (by kernel_rfl) (aG (eG (N:=["inner","deep"]) (src:=[none,some 1]) (osc:=aO jT) (oN:=["thing","deep"]) ⟨by rfl,by decide,by decide,by decide,rfl,by rfl⟩ (iE (pv 0))
     fun U s H O di C=>⟨bJ (i:=0) (show(["inner","deep"]:List Str).Nodup by decide) rfl (AE rfl),dW,fF G B rfl mA z J .nil i3 (aG (pv 0) (aG (cB kQ (pv 1) aQ) aF))⟩) aF)))),?_⟩
  refine⟨_,rfl,rfl,_,rfl,?_⟩;rw[Ic (show V.int ((0:Nat):Int)=V.int 0 from rfl)];refine dJ ?_;exact⟨_,rfl,k _ _ (bW.refl H) hx⟩
theorem aCp{f:Ag}{fd:AK}(F:Fun K "as_tuples" "as_tuples" jT f fd)(T:Txt K mg)(B:mg "list"=none)(mA:mg "as_tuples"=some (.ref f))(kA:Al K (.ref f)=true)(bA:eU K fd ["thing","deep"] []){n:Nat}
  (G:cY P w K mg base CX0 (n + 1) f fd ["thing","deep"] (aGh n)):cY P w K mg base CX0 (n + 2) f fd ["thing","deep"] (aGh (n + 1)):=by
 refine F.ok aJ6 (fun vs H Q E h=>?_) (fun ap A outer s H vs Q E hr h=>?_)
 ·obtain⟨m,x,d,rfl,_⟩:=h;rfl
 ·obtain⟨m,x,d,rfl,hx,k⟩:=h;by_cases hs:eI d=true
  ·cases d with
   | list ds=>
    cases hx with
    | @lst a xs _ hm e hl r=>
     have aa:=r.len;refine⟨_,aM (c8 (PW.pt (iD (cA eY (pv 1) aQ (cM _)) (fW (dU (dO (aX g9 (by rfl) T.isi (by kernel_rfl) (aG (pv 0) (aG (dA (aG (dL (v:=.ty "list") (by rfl) B (by kernel_rfl) rfl) (aG (dL (v:=.ty "tuple") (by rfl) T.tuple (by kernel_rfl) rfl) aF))) aF)))))))) (aW (bC (pv 0))) b8)
    (aW (bC (cQ cX (by rfl) T.tuple (by kernel_rfl) (aG (eG (N:=["inner","deep"]) (src:=[none,some 1]) (osc:=aO jT) (oN:=["thing","deep"]) ⟨by rfl,by decide,by decide,by decide,rfl,by rfl⟩ (i5 (pv 0))
      fun cl s H fp di C=>⟨bJ (i:=0) (show(["inner","deep"]:List Str).Nodup by decide) rfl (AE rfl),dW,fF G hr rfl mA kA bA .nil i3 (aG (pv 0) (aG (cB kQ (pv 1) aQ) aF))⟩) aF)))),?_⟩
     refine⟨_,rfl,rfl,_,rfl,?_⟩;rw[decide_eq_false (show¬ V.int ((n + 1:Nat):Int)=V.int 0 from fun z=>by injection z with z;omega)];refine dD ?_;refine⟨_,rfl,zZ2,fun q Z=>?_⟩;have J:=aV (o:=.tup [V.ty "list",.ty "tuple"]) Z;refine⟨_,q,"list","tuple",_,_,rfl,aH,jM.lst (J _ _ e),qL (.list ds),_,rfl,dD ?_⟩;generalize upd H q (.tup [V.ty "list",.ty "tuple"])=H1 at J ⊢;refine⟨_,rfl,a,rfl,⟨xs,bF (J _ _ e)⟩,?_⟩;refine jC (xs:=xs) (fun i ys σ H'=>bW H H'∧cJ m H' ys ((ds.take i).map (dQ n))∧∃ o,σ=[o,some (.int ((n + 1:Nat):Int))]) ⟨J,by rw[List.take_zero];exact .nil,none,rfl⟩ (aS (by omega)) (fun i ys σ H' p=>by have:=p.2.1.len;rw[Ad,Bh]at this;omega) (fun i ys σ H' p=>bF (p.1 _ _ e)) ?_ ?_
     ·rintro i y ys σ H' hy ⟨S,rd,o,rfl⟩;dsimp only[dG];obtain⟨d',hd',r'⟩:=r.at hy;refine dJ ?_;refine⟨_,rfl,_,rfl,_,_,rfl,rfl,m,y,d',(by show[y,V.int (((n + 1:Nat):Int) - 1)] ++ []=_;rw[show(((n + 1:Nat):Int) - 1)=(n:Int) by omega];rfl),r'.same S,fun y2 H2 W r2=>⟨S.trans W,?_,_,rfl⟩⟩;rw[Bk,hd',AY];exact cJ.app (rd.same W) (.cons r2 .nil)
     ·rintro ys σ H2 ⟨S,rd,o,rfl⟩ D hD;have U:DC xs.length ds=ds:=Br (by omega);rw[U]at rd;have Y:=aV (o:=.lst ys) hD;refine⟨D,ys,rfl,.inl ⟨bF aH,fun t ht=>?_⟩⟩;have sT:=aV (o:=.tup ys) ht;have O:=rd.len;rw[Ad]at O;exact k _ _ ((S.trans Y).trans sT) (.tup aH (by omega) ((rd.same Y).same sT))
   | tuple ds=>
    cases hx with
    | @tup a xs _ e hl r=>
     have aa:=r.len;refine⟨_,aM (c8 (PW.pt (iD (cA eY (pv 1) aQ (cM _)) (fW (dU (dO (aX g9 (by rfl) T.isi (by kernel_rfl) (aG (pv 0) (aG (dA (aG (dL (v:=.ty "list") (by rfl) B (by kernel_rfl) rfl) (aG (dL (v:=.ty "tuple") (by rfl) T.tuple (by kernel_rfl) rfl) aF))) aF)))))))) (aW (bC (pv 0))) b8)
    (aW (bC (cQ cX (by rfl) T.tuple (by kernel_rfl) (aG (eG (N:=["inner","deep"]) (src:=[none,some 1]) (osc:=aO jT) (oN:=["thing","deep"]) ⟨by rfl,by decide,by decide,by decide,rfl,by rfl⟩ (iE (pv 0))
      fun cl s H fp di C=>⟨bJ (i:=0) (show(["inner","deep"]:List Str).Nodup by decide) rfl (AE rfl),dW,fF G hr rfl mA kA bA .nil i3 (aG (pv 0) (aG (cB kQ (pv 1) aQ) aF))⟩) aF)))),?_⟩
     refine⟨_,rfl,rfl,_,rfl,?_⟩;rw[decide_eq_false (show¬ V.int ((n + 1:Nat):Int)=V.int 0 from fun z=>by injection z with z;omega)];refine dD ?_;refine⟨_,rfl,zZ2,fun q Z=>?_⟩;have J:=aV (o:=.tup [V.ty "list",.ty "tuple"]) Z;refine⟨_,q,"list","tuple",_,_,rfl,aH,jM.tup (J _ _ e),qL (.tuple ds),_,rfl,dD ?_⟩;generalize upd H q (.tup [V.ty "list",.ty "tuple"])=H1 at J ⊢;refine⟨_,rfl,a,rfl,⟨xs,bI (J _ _ e)⟩,?_⟩;refine gN (xs:=xs) (fun i ys σ H'=>bW H H'∧cJ m H' ys ((ds.take i).map (dQ n))∧∃ o,σ=[o,some (.int ((n + 1:Nat):Int))]) ⟨J,by rw[List.take_zero];exact .nil,none,rfl⟩ (aS (by omega)) (fun i ys σ H' p=>by have:=p.2.1.len;rw[Ad,Bh]at this;omega) (fun i ys σ H' p=>bI (p.1 _ _ e)) ?_ ?_
     ·rintro i y ys σ H' hy ⟨S,rd,o,rfl⟩;dsimp only[dG];obtain⟨d',hd',r'⟩:=r.at hy;refine dJ ?_;refine⟨_,rfl,_,rfl,_,_,rfl,rfl,m,y,d',(by show[y,V.int (((n + 1:Nat):Int) - 1)] ++ []=_;rw[show(((n + 1:Nat):Int) - 1)=(n:Int) by omega];rfl),r'.same S,fun y2 H2 W r2=>⟨S.trans W,?_,_,rfl⟩⟩;rw[Bk,hd',AY];exact cJ.app (rd.same W) (.cons r2 .nil)
     ·rintro ys σ H2 ⟨S,rd,o,rfl⟩ D hD;have U:DC xs.length ds=ds:=Br (by omega);rw[U]at rd;have Y:=aV (o:=.lst ys) hD;refine⟨D,ys,rfl,.inl ⟨bF aH,fun t ht=>?_⟩⟩;have sT:=aV (o:=.tup ys) ht;have O:=rd.len;rw[Ad]at O;exact k _ _ ((S.trans Y).trans sT) (.tup aH (by omega) ((rd.same Y).same sT))
   | _=>simp[eI]at hs
  ·have M:eI d=false:=by simpa using hs
   have et:dQ (n + 1) d=d:=by
    cases d with
    | list ds=>simp[eI]at M
    | tuple ds=>simp[eI]at M
    | _=>rfl
   rw[et]at k;refine⟨_,aM (c8 (PW.pt (iD (cA eY (pv 1) aQ (cM _)) (fW (dU (dO (aX g9 (by rfl) T.isi (by kernel_rfl) (aG (pv 0) (aG (dA (aG (dL (v:=.ty "list") (by rfl) B (by kernel_rfl) rfl) (aG (dL (v:=.ty "tuple") (by rfl) T.tuple (by kernel_rfl) rfl) aF))) aF)))))))) (aW (bC (pv 0))) b8)
   (aW (bC (cQ cX (by rfl) T.tuple (by kernel_rfl) (aG (eG (N:=["inner","deep"]) (src:=[none,some 1]) (osc:=aO jT) (oN:=["thing","deep"]) ⟨by rfl,by decide,by decide,by decide,rfl,by rfl⟩ (iE (pv 0))
     fun cl s H fp di C=>⟨bJ (i:=0) (show(["inner","deep"]:List Str).Nodup by decide) rfl (AE rfl),dW,fF G hr rfl mA kA bA .nil i3 (aG (pv 0) (aG (cB kQ (pv 1) aQ) aF))⟩) aF)))),?_⟩
   refine⟨_,rfl,rfl,_,rfl,?_⟩;rw[decide_eq_false (show¬ V.int ((n + 1:Nat):Int)=V.int 0 from fun z=>by injection z with z;omega)];refine dD ?_;refine⟨_,rfl,zZ2,fun q Z=>?_⟩;have J:=aV (o:=.tup [V.ty "list",.ty "tuple"]) Z;refine⟨_,q,"list","tuple",_,_,rfl,aH,kF (hx.same J),qL d,_,rfl,?_⟩;rw[M];refine dJ ?_;exact⟨_,rfl,k _ _ J (hx.same J)⟩
theorem gH{H:Hp}{p c a:Ag}{ns:List Int}{t:Int}{o:HO}(z:cV H p c ns t)(e:H a=some o)(h:∀ q r,o≠.dK (q :: r)):a≠p:=by
 obtain⟨l,_,e2⟩:=z.ob;exact aEF e e2 (h _ _)
theorem hX{m:Bool}{H H':Hp}{p c:Ag}{ns:List Int}{t:Int}{x:V}{d:Ai}(r:RdV m H x d)(q:cV H p c ns t)(k:aZ p H H'):RdV m H' x d:=r.keep fun a o e h=>k a o e (gH q e h)
theorem aAb{m:Bool}{H H':Hp}{p c:Ag}{ns:List Int}{t:Int}{x:List V}{d:List Ai}(r:cJ m H x d)(q:cV H p c ns t)(k:aZ p H H'):cJ m H' x d:=r.keep fun a o e h=>k a o e (gH q e h)
theorem bH{H H':Hp}{p c a:Ag}{ns:List Int}{t:Int}{xs:List V}(e:H a=some (.lst xs))(q:cV H p c ns t)(k:aZ p H H'):H' a=some (.lst xs):=k a _ e (gH q e (fun _ _ z=>nomatch z))
theorem nC{H H':Hp}{p c a:Ag}{ns:List Int}{t:Int}{xs:List V}(e:H a=some (.tup xs))(q:cV H p c ns t)(k:aZ p H H'):H' a=some (.tup xs):=k a _ e (gH q e (fun _ _ z=>nomatch z))
inductive aDf(vs:List V)(H:Hp)(Q:VK)(u3_:XK):Prop
 | mk (p c:Ag) (ns:List Int) (a lo hi:Int) (q0:vs=[.ref p,.int lo,.int hi]) (q1:cV H p c ns a) (q2:a≤900000) (q3:0≤lo) (q4:lo≤hi) (q5:hi≤10 ^ 9) (q6:∀ n a' H',lo≤n→n≤hi→a≤a'→a'≤a + 3→cV H' p c ns a'→aZ p H H'→Q (.int n) H'):aDf vs H Q u3_
def aGj:Sp:=fun vs H Q u3_=>aDf vs H Q u3_
theorem aGk:bY ["_law_pen_here","_law_bottom","_law_most","_law_way","_law_near"] ["_law_pen_here","_law_bottom","_law_most"] (aO oR):=⟨rfl,rfl,rfl,by decide,rfl,by decide,by decide⟩
theorem aJa{f:Ag}{fd:AK}(F:Fun K "_law_number" "_law_number" oR f fd)(z:mg "min"=none)(GT:Cl P w K mg base 1 "_law_take" ["_law_pen_here","_law_many"] iO):
  cY P w K mg base CX0 2 f fd ["_law_pen_here","_law_bottom","_law_most"] aGj:=by
 refine F.ok aGk (fun vs H Q E h=>?_) (fun am A outer s H vs Q E W h=>?_)
 ·obtain⟨p,c,ns,a,lo,hi,rfl,_⟩:=h;rfl
 ·obtain⟨p,c,ns,a,lo,hi,rfl,hp,ha,h0,h1,h2,k⟩:=h;refine⟨_,aM (bQ (i:=3) aGk.nd rfl (AE rfl) (bG GT W (aG (pv 0) (aG aQ aF))))
   (aM (bQ (i:=4) aGk.nd rfl (AE rfl) (cB eJ (pv 1) (bG GT W (aG (pv 0) (aG (aX (rG rfl) (by rfl) z (by kernel_rfl) (aG aQ (aG (cB eJ (cB kQ (pv 2) (pv 1)) aQ) aF))) aF)))))
   (aW (bC (cH dB (dP (aG (pv 1) (aG (pv 2) (aG (pv 4) (aG (cB eJ (pv 1) (bG GT W (aG (pv 0) (aG (cB eJ (cB kQ (pv 2) (pv 1)) aQ) aF)))) aF))))) (pv 3) Ig)))),?_⟩
  have b9:(10:Int) ^ 9 + 1 < 2 ^ 512:=by decide
  have e9:(10:Int) ^ 9=1000000000:=by decide
  refine⟨_,rfl,p,c,ns,a,_,rfl,hp,by omega,by decide,by decide,fun Y a1 H1 U an l1 u1 Z J=>?_⟩;refine⟨_,rfl,_,rfl,_,rfl,_,rfl,_,_,rfl,rfl,_,_,rfl,rfl,_,_,rfl,?_⟩;obtain⟨B,hmm,m0,m1⟩:∃ B:Int,(if hi - lo + 1 < 12 then hi - lo + 1 else 12)=B∧0 < B∧B≤hi - lo + 1:=by
   refine⟨_,rfl,?_⟩;split <;> omega
  rw[hmm];refine⟨p,c,ns,a1,_,rfl,Z,by omega,m0,by omega,fun r2 a2 H2 aj ak l2 u2 ac M=>?_⟩;refine⟨_,_,rfl,rfl,_,rfl,_,rfl,_,rfl,_,rfl,_,rfl,_,rfl,_,rfl,_,_,rfl,rfl,_,_,rfl,rfl,p,c,ns,a2,_,rfl,ac,by omega,by omega,by omega,fun r3 a3 H3 ag ah l3 u3 O aa=>?_⟩;refine⟨_,_,rfl,rfl,zZ4,fun q hq=>?_⟩;have sq:=aV (o:=.lst [V.int lo,.int hi,.int (lo + r2),.int (lo + r3)]) hq;obtain⟨v,hv,hat⟩:=gR (xs:=[V.int lo,.int hi,.int (lo + r2),.int (lo + r3)]) (i:=Y) U (by show Y < 4;omega);obtain⟨n,rfl,hn0,hn1⟩:∃ n:Int,v=.int n∧lo≤n∧n≤hi:=by
   simp only[An,Az,or_false]at hv;rcases hv with rfl | rfl | rfl | rfl
   ·exact⟨_,rfl,by omega,by omega⟩
   ·exact⟨_,rfl,by omega,by omega⟩
   ·exact⟨_,rfl,by omega,by omega⟩
   ·exact⟨_,rfl,by omega,by omega⟩
  exact⟨_,rfl,q,_,Y,_,rfl,rfl,bF aH,hat,k n a3 _ hn0 hn1 (by omega) (by omega) (O.same sq) (((J.trans M).trans aa).same sq)⟩
open PySem L2 PyProof.Rows
theorem pQ{α:Type}:∀(l:List α) (j:Nat) (y:α),l[j]?=some y→(y :: l.eraseIdx j).Perm l
 | [],j,y,h=>by simp at h
 | x :: r,0,y,h=>by
  simp at h;subst h;simp
 | x :: r,j + 1,y,h=>by
  simp at h;have q:=pQ r j y h;rw[List.eraseIdx_cons_succ];exact(List.Perm.swap x y _).trans (q.cons x)
theorem yJ{α β:Type}(f:α→β):∀(l:List α) (j:Nat),(l.map f).eraseIdx j=(l.eraseIdx j).map f
 | [],j=>by simp
 | x :: r,0=>by simp
 | x :: r,j + 1=>by simp[yJ f r j]
inductive yK(vs:List V)(H:Hp)(Q:VK)(u3_:XK):Prop
 | mk (p c:Ag) (ns:List Int) (a:Int) (nf nr:Nat) (q0:vs=[.ref p,.int nf,.int nr]) (q1:cV H p c ns a) (q2:a≤800000) (q3:nf≤44) (q4:nr≤44) (q5:∀(t l1 l2 l3 l4:Ag) (ws ps hs rs:List Str) (a':Int) (H':Hp),H' t=some (.tup [.ref l1,.ref l2,.ref l3,.ref l4])→H' l1=some (.lst (ws.map V.str))→ws.length=nf→Nms ws→H' l2=some (.lst (ps.map V.str))→ps.length=10→Nms ps→H' l3=some (.lst (hs.map V.str))→hs.length=5→Nms hs→H' l4=some (.lst (rs.map V.str))→rs.length=nr→Nms rs→a≤a'→a'≤a + 200→cV H' p c ns a'→aZ p H H'→Q (.ref t) H'):yK vs H Q u3_
def aDg:Sp:=fun vs H Q u3_=>yK vs H Q u3_
inductive aBn(vs:List V)(H:Hp)(Q:VK)(u3_:XK):Prop
 | mk (p c:Ag) (ns:List Int) (a:Int) (m:Nat) (q0:vs=[.ref p,.int m]) (q1:cV H p c ns a) (q2:a≤800000) (q3:m≤44) (q4:∀(l:Ag) (ds:List Int) (a':Int) (H':Hp),H' l=some (.lst (ds.map V.int))→ds.length=m→(∀ d∈ds,0≤d∧d≤9999)→a≤a'→a'≤a + 200→cV H' p c ns a'→aZ p H H'→Q (.ref l) H'):aBn vs H Q u3_
def aGl:Sp:=fun vs H Q u3_=>aBn vs H Q u3_
inductive aBo(vs:List V)(H:Hp)(Q:VK)(u3_:XK):Prop
 | mk (p c:Ag) (ns:List Int) (a:Int) (l:Ag) (ws:List Str) (m:Nat) (q0:vs=[.ref p,.ref l,.int m]) (q1:cV H p c ns a) (q2:a≤800000) (q3:H l=some (.lst (ws.map V.str))) (q4:ws.length=10) (q5:m≤6) (q6:∀(q:Ag) (ms:List Str) (a':Int) (H':Hp),H' q=some (.lst (ms.map V.str))→ms.length=m→sortedS ms=true→(∃ us vs:List Str,ms.Perm us∧(us ++ vs).Perm ws)→a≤a'→a'≤a + 10→cV H' p c ns a'→aZ p H H'→Q (.ref q) H'):aBo vs H Q u3_
def aGm:Sp:=fun vs H Q u3_=>aBo vs H Q u3_
theorem t8:bY ["_law_pen_here","_law_fields","_law_rows","_law_some_here","_law_plots","_law_houses"] ["_law_pen_here","_law_fields","_law_rows"] (aO rZ):=⟨rfl,rfl,rfl,by decide,rfl,by decide,by decide⟩
theorem aGn{f:Ag}{fd:AK}(F:Fun K "_law_sorts" "_law_sorts" rZ f fd)
  (GT:Cl P w K mg base 1 "_law_take" ["_law_pen_here","_law_many"] iO)
  (GN:Cl P w K mg base 2 "_law_names" ["_law_pen_here","_law_many"] aDb):
  cY P w K mg base CX0 3 f fd ["_law_pen_here","_law_fields","_law_rows"] aDg:=by
 refine F.ok t8 (fun vs H Q E h=>?_) (fun br A outer s H vs Q E hr h=>?_)
 ·obtain⟨p,c,ns,a,nf,nr,rfl,_⟩:=h;rfl
 ·obtain⟨p,c,ns,a,nf,nr,rfl,hp,ha,hf,hrr,k⟩:=h;have aC:cZ 1 _:=hr.mono (by decide);refine⟨_,aM (c8 (cA eY (bG GT aC (aG (pv 0) (aG aQ aF))) aQ (cM _))
    (aM (bQ (i:=3) t8.nd rfl (AE rfl) (bG GN hr (aG (pv 0) (aG aQ aF))))
    (aW (bC (dA (aG (gM oE (pv 3) iR (iS (pv 1))) (aG (gM oE (pv 3) iR (iS aQ)) (aG (gM oE (pv 3) iR (iS aQ)) (aG (gM oE (pv 3) iR (iS (pv 2))) aF)))))))) b8)
   (aM (bQ (i:=4) t8.nd rfl (AE rfl) (bG GN hr (aG (pv 0) (aG aQ aF))))
   (aM (bQ (i:=5) t8.nd rfl (AE rfl) (bG GN hr (aG (pv 0) (aG aQ aF))))
   (aW (bC (dA (aG (bG GN hr (aG (pv 0) (aG (pv 1) aF))) (aG (pv 4) (aG (pv 5) (aG (bG GN hr (aG (pv 0) (aG (pv 2) aF))) aF))))))))),?_⟩
  refine⟨_,rfl,p,c,ns,a,_,rfl,hp,by omega,by decide,by decide,fun r1 a1 H1 bi bm l1 u1 ae ai=>?_⟩;refine⟨rfl,_,rfl,?_⟩;have z4:(4:Nat)≤sizeLine:=aS (by decide);refine dY (fun g=>?_) (fun g=>?_)
  ·refine⟨_,rfl,p,c,ns,a1,44,rfl,ae,by omega,by omega,fun L z a2 H2 nL hL bo hN l2 u2 O W=>?_⟩;have ec:∀ n:Nat,jZ (z.map V.str) none (some (n:Int))=(z.take n).map V.str:=fun n=>by rw[aFf (α:=Nat),List.map_take]
   have ak:jZ (z.map V.str) none (some 10)=(z.take 10).map V.str:=ec 10;have aE:jZ (z.map V.str) none (some 5)=(z.take 5).map V.str:=ec 5;refine⟨_,rfl,_,rfl,_,rfl,L,_,rfl,bF hL,fun q1 aw=>?_⟩;rw[ec nf];have s1:=aV (o:=.lst ((z.take nf).map V.str)) aw;refine⟨_,rfl,_,rfl,L,_,rfl,bF (s1 _ _ hL),fun q2 aJ=>?_⟩;rw[ak];have ad:=aV (o:=.lst ((z.take 10).map V.str)) aJ;have s2:=s1.trans ad;refine⟨_,rfl,_,rfl,L,_,rfl,bF (s2 _ _ hL),fun q3 aD=>?_⟩;rw[aE];have U:=aV (o:=.lst ((z.take 5).map V.str)) aD;have s3:=s2.trans U;refine⟨_,rfl,_,rfl,_,rfl,L,_,rfl,bF (s3 _ _ hL),fun q4 aL=>?_⟩;rw[ec nr];have J:=aV (o:=.lst ((z.take nr).map V.str)) aL;have s4:=s3.trans J;refine⟨z4,fun t ht=>?_⟩;have q:=aV (o:=.tup [V.ref q1,.ref q2,.ref q3,.ref q4]) ht;have s5:=s4.trans q;refine k t q1 q2 q3 q4 (z.take nf) (z.take 10) (z.take 5) (z.take nr) a2 _ aH (q _ _ (J _ _ (U _ _ (ad _ _ aH)))) (by rw[Bh];omega) (hN.take nf) (q _ _ (J _ _ (U _ _ aH))) (by rw[Bh];omega) (hN.take 10) (q _ _ (J _ _ aH)) (by rw[Bh];omega) (hN.take 5) (q _ _ aH) (by rw[Bh];omega) (hN.take nr) (by omega) (by omega) (O.same s5) ((ai.trans W).same s5)
  ·refine⟨_,rfl,p,c,ns,a1,10,rfl,ae,by omega,by omega,fun L1 az a2 H2 bp av aj ar l2 u2 O W=>?_⟩;refine⟨_,rfl,p,c,ns,a2,5,rfl,O,by omega,by omega,fun L2 aK a3 H3 bq aI ag ay l3 u3 Y af=>?_⟩;refine⟨_,rfl,_,rfl,p,c,ns,a3,nf,rfl,Y,by omega,by omega,fun L3 aA a4 H4 bj aq ac ap l4 u4 B Z=>?_⟩;refine⟨_,rfl,_,rfl,_,rfl,_,rfl,p,c,ns,a4,nr,rfl,B,by omega,by omega,fun L4 au a5 H5 bn aB ah ao l5 u5 ax M=>?_⟩;refine⟨z4,fun t ht=>?_⟩;have q:=aV (o:=.tup [V.ref L3,.ref L1,.ref L2,.ref L4]) ht;exact k t L3 L1 L2 L4 aA az aK au a5 _ aH (q _ _ (bH aq B M)) ac ap (q _ _ (bH (bH (bH av O af) Y Z) B M)) aj ar (q _ _ (bH (bH aI Y Z) B M)) ag ay (q _ _ aB) ah ao (by omega) (by omega) (ax.same q) (((((ai.trans W).trans af).trans Z).trans M).same q)
theorem aCq:bY ["_law_pen_here","_law_names_here","_law_many","_law_left","_law_found"] ["_law_pen_here","_law_names_here","_law_many"] (aO vY):=⟨rfl,rfl,rfl,by decide,rfl,by decide,by decide⟩
theorem aHu{f:Ag}{fd:AK}(F:Fun K "_law_some" "_law_some" vY f fd)(O:mg "list"=none)(Z:mg "range"=none)(ab:mg "sorted"=none)(ac:mg "len"=none)
  (GT:Cl P w K mg base 1 "_law_take" ["_law_pen_here","_law_many"] iO):
  cY P w K mg base CX0 2 f fd ["_law_pen_here","_law_names_here","_law_many"] aGm:=by
 refine F.ok aCq (fun vs H Q E h=>?_) (fun aB A outer s H vs Q E hr h=>?_)
 ·obtain⟨p,c,ns,a,l,ws,m,rfl,_⟩:=h;rfl
 ·obtain⟨p,c,ns,a,l,ws,m,rfl,hp,ha,hl,hwl,hm,k⟩:=h;refine⟨_,aM (bQ (i:=3) aCq.nd rfl (En rfl) (cQ eD (by rfl) O (by kernel_rfl) (aG (pv 1) aF)))
   (aM (jO (i:=4) (N:=["_law_k","_law_left","_law_pen_here"]) (src:=[none,some 3,some 0]) (osc:=aO vY) (oN:=["_law_pen_here","_law_names_here","_law_many","_law_left","_law_found"]) ⟨by rfl,by decide,by decide,by decide,rfl,by rfl⟩ aCq.nd rfl
     (fM rfl Z (aG (pv 2) aF))
     fun cl s H fp di C=>⟨bJ (i:=0) (show(["_law_k","_law_left","_law_pen_here"]:List Str).Nodup by decide) rfl (AE rfl),dW,zN (K:=K) BJ PySem.F.slot_list_pop PySem.F.type_list_pop aAr (pv 1) (aG (bG GT hr (aG (pv 2) (aG (aX (r:=fZ K) bE (by rfl) ac AO (aG (pv 1) aF)) aF))) aF)⟩)
   (aW (bC (aX qA (by rfl) ab (by kernel_rfl) (aG (pv 4) aF))))),?_⟩
  refine⟨_,rfl,l,_,rfl,.inl (bF hl),fun L hL=>?_⟩;have s0:=aV (o:=.lst (ws.map V.str)) hL;have ag:L≠p:=by
   obtain⟨z,_,e⟩:=hp.ob;exact(aY e hL).symm
  have ah:L≠c:=(aY hp.ce hL).symm;refine⟨_,rfl,m,rfl,by omega,by omega,?_⟩;refine jP (fun i ys σ' H'=>Ex3 fun(a':Int) (us vs:List Str)=>∃(o:Option V),Aw6 (σ'=[o,some (.ref L),some (.ref p)]) (cV H' p c ns a') (aZ p H H') (a≤a') (a'≤a + i) (Aw3 (ys=us.map V.str) (us.length=i) (Aw3 (H' L=some (.lst (vs.map V.str))) (vs.length + i=10) ((us ++ vs).Perm ws))))
   ⟨a,[],ws,none,rfl,hp.same s0,bW.but s0,by omega,by omega,rfl,rfl,aH,by omega,Dl _⟩ (aS (by omega)) (fun i ys σ H p=>by obtain⟨_,us,_,_,_,_,_,_,_,rfl,e,_⟩:=p;rw[Ad,e];exact Ao _) ?_ ?_
  ·rintro i ys σ' H1 hi ⟨a1,us,vs,o,rfl,J,M,ai,ae,rfl,U,B,aj,W⟩;dsimp only[dG];refine dJ ?_;refine⟨_,rfl,.inl ⟨rfl,_,bF B⟩,_,rfl,_,rfl,L,_,rfl,.inl (bF B),p,c,ns,a1,_,rfl,J,by omega,by rw[Ad];omega,by rw[Ad];omega,fun r1 a2 H2 ax am az aC ap Y=>?_⟩;rw[Ad]at am;obtain⟨j,rfl⟩:∃ j:Nat,r1=j:=⟨r1.toNat,by omega⟩
   have af:=bH B J Y;obtain⟨y,hy⟩:∃ y,vs[j]?=some y:=⟨_,Ab (by omega)⟩
   have an:seqIndex? (j:Int) (vs.map V.str).length=some j:=by
    rw[Ad];unfold seqIndex?;simp;omega
   refine⟨L,_,_,j,V.str y,rfl,rfl,af,by omega,by omega,an,by rw[AS,hy];rfl,?_⟩;refine⟨a2,us ++ [y],vs.eraseIdx j,_,rfl,?_,?_,by omega,by omega,by rw[AY];rfl,by rw[Au,U];rfl,?_,?_,?_⟩
   ·obtain⟨⟨z,hz,e⟩,ce,ge,sm⟩:=ap;exact⟨⟨z,hz,by rw[bM ag.symm];exact e⟩,by rw[bM ah.symm];exact ce,ge,sm⟩
   ·intro b o e ne;rw[bM (aY e hL)];exact(M.trans Y) b o e ne
   ·rw[aH];congr 2;exact yJ V.str vs j
   ·rw[CV (by omega)];omega
   ·rw[Bg];exact(Bu us (pQ vs j y hy)).trans W
  ·rintro ys σ' H1 ⟨a1,us,vs,o,rfl,J,M,ai,ae,rfl,U,B,aj,W⟩ D hD;have sD:=aV (o:=.lst (us.map V.str)) hD;refine⟨_,rfl,D,us,rfl,bF aH,by omega,fun q ms hq aa ao=>?_⟩;have s2:=aV (o:=.lst (ms.map V.str)) hq;exact k q ms a1 _ aH (by rw[aa.length_eq,U];omega) ao ⟨us,vs,aa,W⟩ (by omega) (by omega) ((J.same sD).same s2) ((M.same sD).same s2)
theorem sI:bY ["_law_pen_here","_law_many","_law_way","_law_some_here","_law_k","_law_few","_law_found"] ["_law_pen_here","_law_many"] (aO vX):=⟨rfl,rfl,rfl,by decide,rfl,by decide,by decide⟩
theorem aHv{f:Ag}{fd:AK}(F:Fun K "_law_days" "_law_days" vX f fd)(W:mg "range"=none)(am:mg "len"=none)(ak:mg "int"=none)
  (GT:Cl P w K mg base 1 "_law_take" ["_law_pen_here","_law_many"] iO):
  cY P w K mg base CX0 2 f fd ["_law_pen_here","_law_many"] aGl:=by
 refine F.ok sI (fun vs H Q E h=>?_) (fun ck A outer s H vs Q E hr h=>?_)
 ·obtain⟨p,c,ns,a,m,rfl,_⟩:=h;rfl
 ·obtain⟨p,c,ns,a,m,rfl,hp,ha,hm,k⟩:=h;refine⟨_,aM (bQ (i:=2) sI.nd rfl (AE rfl) (bG GT hr (aG (pv 0) (aG aQ aF))))
   (aM (bQ (i:=3) sI.nd rfl (En rfl) (dP (aG aQ (aG aQ (aG aQ (aG aQ (aG (bG GT hr (aG (pv 0) (aG aQ aF))) (aG (bG GT hr (aG (pv 0) (aG aQ aF))) aF))))))))
   (aM (jO (i:=5) (N:=["_law_k","_law_some_here","_law_pen_here"]) (src:=[none,some 3,some 0]) (osc:=aO vX) (oN:=["_law_pen_here","_law_many","_law_way","_law_some_here","_law_k","_law_few","_law_found"]) ⟨by rfl,by decide,by decide,by decide,rfl,by rfl⟩ sI.nd rfl
     (fM rfl W (aG (cB eJ aQ (bG GT hr (aG (pv 0) (aG aQ aF)))) aF))
     fun cl s H fp di C=>⟨bJ (i:=0) (show(["_law_k","_law_some_here","_law_pen_here"]:List Str).Nodup by decide) rfl (AE rfl),dW,cH (r:=aGS K) dB (pv 1) (bG GT hr (aG (pv 2) (aG aQ aF))) Ig⟩)
   (aM (bQ (i:=6) sI.nd rfl (AE rfl) (dP aF))
   (aM (mV Cr rfl (fM rfl W (aG (pv 1) aF)) (bJ (i:=4) sI.nd rfl (AE rfl))
    (aW (oD (sU BJ CA Cz jB (pv 6) (aG (cH dB (dP (aG (cH dB (pv 5) (bG GT hr (aG (pv 0) (aG (aX bE (by rfl) am AO (aG (pv 5) aF)) aF))) Ig) (aG (bG GT hr (aG (pv 0) (aG aQ aF))) aF)))
      (cQ aDM (by rfl) ak (by kernel_rfl) (aG (gO eY (pv 2) aQ (cM _)) aF)) Ig) aF)))))
   (aW (bC (pv 6))))))),?_⟩
  refine⟨_,rfl,p,c,ns,a,_,rfl,hp,by omega,by decide,by decide,fun wy a1 H1 w0 w1 ci b4 aD aR=>?_⟩;refine⟨_,rfl,p,c,ns,a1,_,rfl,aD,by omega,by decide,by decide,fun x1 a2 H2 bN cc cf bU aI aU=>?_⟩;refine⟨_,rfl,p,c,ns,a2,_,rfl,aI,by omega,by decide,by decide,fun x2 a3 H3 bT bP cm b5 bc aE=>?_⟩;refine⟨zZ6,fun L hL=>?_⟩;have sL:=aV (o:=.lst [V.int 0,.int 1,.int 9,.int 9999,.int x1,.int x2]) hL;have aT:∀ v∈[V.int 0,.int 1,.int 9,.int 9999,.int x1,.int x2],∃ d:Int,v=.int d∧0≤d∧d≤9999:=by
   intro v M;simp only[An,Az,or_false]at M;rcases M with rfl | rfl | rfl | rfl | rfl | rfl
   ·exact⟨_,rfl,by omega,by omega⟩
   ·exact⟨_,rfl,by omega,by omega⟩
   ·exact⟨_,rfl,by omega,by omega⟩
   ·exact⟨_,rfl,by omega,by omega⟩
   ·exact⟨_,rfl,by omega,by omega⟩
   ·exact⟨_,rfl,by omega,by omega⟩
  have ac:=bc.same sL;have k4:aZ p H _:=((aR.trans aU).trans aE).same sL;have aw:upd H3 L (.lst [V.int 0,.int 1,.int 9,.int 9999,.int x1,.int x2]) L=_:=aH;generalize upd H3 L (.lst [V.int 0,.int 1,.int 9,.int 9999,.int x1,.int x2])=H4 at ac k4 aw ⊢;refine⟨_,rfl,p,c,ns,a3,_,rfl,ac,by omega,by decide,by decide,fun r1 a5 H5 bK b0 bL bR aL ay=>?_⟩;refine⟨_,_,rfl,rfl,_,rfl,by omega,by omega,?_⟩;have aK:=bH aw ac ay;refine jP (fun i ys σ' H'=>Ex3 fun(a':Int) (ds:List Int) (o:Option V)=>Aw6 (σ'=[o,some (.ref L),some (.ref p)]) (cV H' p c ns a') (aZ p H H') (a5≤a') (a'≤a5 + i) (Aw3 (ys=ds.map V.int) (ds.length=i) ((∀ d∈ds,0≤d∧d≤9999)∧H' L=some (.lst [V.int 0,.int 1,.int 9,.int 9999,.int x1,.int x2]))))
   ⟨a5,[],none,rfl,aL,k4.trans ay,by omega,by omega,rfl,rfl,(fun d hd=>by simp at hd),aK⟩ (aS (by omega)) (fun i ys σ H p=>by obtain⟨_,ds,_,_,_,_,_,_,rfl,e,_⟩:=p;rw[Ad,e];exact Ao _) ?_ ?_
  ·rintro i ys σ' H6 hi ⟨a6,ds,o,rfl,U,k6,bd,aN,rfl,au,ae,an⟩;dsimp only[dG];refine dJ ?_;refine⟨_,rfl,_,rfl,p,c,ns,a6,_,rfl,U,by omega,by decide,by decide,fun r2 a7 H7 aC cu cq b7 B ap=>?_⟩;have ar:=bH an U ap;obtain⟨v,M,hat⟩:=gR (xs:=[V.int 0,.int 1,.int 9,.int 9999,.int x1,.int x2]) (i:=r2) aC (by show r2 < 6;omega);obtain⟨d,rfl,hd0,hd1⟩:=aT v M;refine⟨L,_,r2,_,rfl,rfl,bF ar,hat,a7,ds ++ [d],_,rfl,B,k6.trans ap,by omega,by omega,by rw[AY];rfl,by rw[Au,au];rfl,fun z hz=>?_,ar⟩;rcases Bo.mp hz with y | y
   ·exact ae z y
   ·rw[BC.mp y];exact⟨hd0,hd1⟩
  ·rintro ys σ' H6 ⟨a6,ds,o,rfl,U,k6,bd,aN,rfl,au,ae,an⟩ D hD;have sD:=aV (o:=.lst (ds.map V.int)) hD;have B:=U.same sD;have k7:=k6.same sD;have ag:upd H6 D (.lst (ds.map V.int)) D=_:=aH;generalize upd H6 D (.lst (ds.map V.int))=H7 at B k7 ag ⊢;refine⟨A0 _,fun R hR=>?_⟩;have sR:=aV (o:=.lst []) hR;have av:R≠p:=by
    obtain⟨z,_,e⟩:=B.ob;exact(aY e hR).symm
   have be:R≠c:=(aY B.ce hR).symm;have a0:D≠R:=aY ag hR;have bm:H R=none:=by
    cases e:H R with
    | none=>rfl
    | some x=>exact absurd (k7 R x e av) (by rw[hR];simp)
   refine⟨_,rfl,m,rfl,by omega,by omega,k9 (n:=(m:Int).toNat) (fun i σ H'=>Ex3 fun(o4:Option V) (a':Int) (es:List Int)=>Aw6 (σ=[some (.ref p),some (.int m),some (.int wy),some (.ref L),o4,some (.ref D),some (.ref R)]) (cV H' p c ns a') (a6≤a') (a'≤a6 + 2 * i) (aZ p H H') (Aw3 (H' D=some (.lst (ds.map V.int))) (H' R=some (.lst (es.map V.int))) (es.length=i∧∀ d∈es,0≤d∧d≤9999)))
    ⟨_,a6,[],rfl,B.same sR,by omega,by simp,k7.same sR,sR _ _ ag,aH,rfl,fun d hd=>by simp at hd⟩ ?_ ?_⟩
   ·rintro i σ H8 hi ⟨o4,a8,es,rfl,J,ba,aA,k8,ab,O,aq,aa⟩;dsimp only[dG];refine⟨_,rfl,.inl ⟨rfl,_,bF O⟩,_,rfl,_,rfl,_,rfl,D,_,rfl,.inl (bF ab),p,c,ns,a8,_,rfl,J,by omega,by rw[Ad];omega,by rw[Ad];omega,fun r3 a9 H9 bn bo cn b2 Y Z=>?_⟩;have ao:=bH ab J Z;have aJ:=bH O J Z;obtain⟨v,M,hat⟩:=gR (xs:=ds.map V.int) (i:=r3) bn bo;obtain⟨d,hd,rfl⟩:=Bs.mp M;refine⟨D,_,r3,_,rfl,rfl,bF ao,hat,_,rfl,p,c,ns,a9,_,rfl,Y,by omega,by decide,by decide,fun r4 b1 G1 ca cr cb cj bh ad=>?_⟩;refine⟨zZ2,fun q hq=>?_⟩;have sq:=aV (o:=.lst [V.int d,.int r4]) hq;refine⟨_,rfl,rfl,.inr ⟨_,rfl,?_⟩⟩;obtain⟨z,hz,z0,z1⟩:∃ z:Int,(if decide (V.int wy=V.int 0)=true then(1:Int) else 0)=z∧0≤z∧z≤1:=by
     refine⟨_,rfl,?_⟩;split <;> omega
    rw[hz];obtain⟨v,M,hat⟩:=gR (xs:=[V.int d,.int r4]) (i:=z) z0 (by show z < 2;omega);obtain⟨dd,rfl,hdd⟩:∃ dd:Int,v=.int dd∧0≤dd∧dd≤9999:=by
     simp only[An,Az,or_false]at M;rcases M with rfl | rfl
     ·exact⟨_,rfl,ae d hd⟩
     ·exact⟨_,rfl,by omega,by omega⟩
    refine⟨q,_,z,_,rfl,rfl,bF aH,hat,?_⟩;have bi:=sq _ _ (bH aJ Y ad);have bp:=sq _ _ (bH ao Y ad);have bt:=bh.same sq;have kq:=((k8.trans Z).trans ad).same sq;refine⟨R,_,_,rfl,rfl,bi,by rw[Ad];exact lI (by omega),_,b1,es ++ [dd],rfl,?_,by omega,by omega,?_,by rw[bM a0];exact bp,by rw[aH,AY];rfl,by rw[Au,aq];rfl,fun z hz=>?_⟩
    ·obtain⟨⟨z,hz,e⟩,ce,ge,sm⟩:=bt;exact⟨⟨z,hz,by rw[bM av.symm];exact e⟩,by rw[bM be.symm];exact ce,ge,sm⟩
    ·intro b o e ne;rw[bM (aY e bm)];exact kq b o e ne
    ·rcases Bo.mp hz with y | y
     ·exact aa z y
     ·rw[BC.mp y];exact hdd
   ·rintro σ H8 ⟨o4,a8,es,rfl,J,ba,aA,k8,ab,O,aq,aa⟩;exact⟨_,rfl,k R es a8 H8 O (by omega) aa (by omega) (by omega) J k8⟩
theorem aCr{q F:List Str}(O:F.Perm (tX q))(U:sortedS F=true):decide (q=F)=eZ q:=by
 unfold eZ;rw[decide_eq_decide];have B:=hJ F U;constructor
 ·rintro rfl;have hn:q.Nodup:=O.nodup_iff.mpr (pK q);have h2:=B.and hn;refine h2.imp fun{a b} h=>?_;rcases Fp (a.cps.toList < b.cps.toList)with z | z
  ·exact z
  ·exact absurd (oH (EZ (Dy.mp h.1) (Dy.mp z))) h.2
 ·intro h;have hn:q.Nodup:=h.imp fun{a b} z e=>by
   subst e;exact CU _ z
  have h2:q.Pairwise fun a b=>¬ b.cps.toList < a.cps.toList:=h.imp fun{a b} z y=>CU _ (ES z y);have J:(tX q).Perm q:=by
   refine jA q (tX q) hn (fun x M=>(aAM q x).mpr M) ?_;have:=jA (tX q) q (pK q) (fun x M=>(aAM q x).mp M);have h1:=(xQ q)
   rw[Ic hn]at h1;have W:=Ie h1;unfold tX;omega
  exact j7 (J.symm.trans O.symm) h2 B
theorem yL:∀(B z:List Str),wP (B.map V.str) (z.map V.str)=decide (B=z)
 | [],[]=>rfl
 | [],_ :: _=>rfl
 | _ :: _,[]=>rfl
 | a :: r,b :: q=>by
  show(eqV (.str a) (.str b) && wP (r.map V.str) (q.map V.str))=_;rw[yL r q];show((a == b) && decide (r=q))=_;rw[Cu];simp
theorem aGo:bY ["things"] ["things"] (aO m6):=⟨rfl,rfl,rfl,by decide,rfl,by decide,by decide⟩
theorem aEu{f:Ag}{fd:AK}(F:Fun K "is_rising" "is_rising" m6 f fd)(T:Txt K mg)(q:mg "list"=none)(z:mg "sorted"=none):cY P w K mg base CX0 1 f fd ["things"] v5:=by
 refine F.ok aGo (fun vs H Q E h=>?_) (fun O A outer s H vs Q E hr h=>?_)
 ·obtain⟨a,ss,rfl,_⟩:=h;rfl
 ·obtain⟨a,ss,rfl,ha,hl,k⟩:=h;have hu:=aCR hr;have J:(A.deeper (EX "is_rising" (aO m6) s.heap.objs.size f O)).units < cLine:=by omega
  refine⟨_,aW (bC (gO (aIB J) (cQ eD (by rfl) q (by kernel_rfl) (aG (pv 0) aF)) (aX (zQ rfl) (by rfl) z (by kernel_rfl) (aG (cQ (aD5 rfl) (by rfl) T.set (by kernel_rfl) (aG (pv 0) aF)) aF)) (cM _))),_,rfl,a,ss.map V.str,rfl,ha.imp bF bI,fun L hL=>?_⟩;have M:=aV (o:=.lst (ss.map V.str)) hL;refine⟨_,rfl,a,ss,rfl,ha.imp (M _ _) (M _ _),by omega,fun S hS=>?_⟩;have W:=aV (o:=aFp P w S ss) hS;refine⟨S,ss,rfl,aH,by omega,fun l Y B Z hs=>?_⟩;have U:=aV (o:=.lst (Y.map V.str)) B;refine⟨L,l,_,_,rfl,rfl,bF (U _ _ (W _ _ aH)),bF aH,iN ss,iN Y,?_⟩;rw[yL,aCr Z hs];exact k _ ((M.trans W).trans U)
def pD(x:P3):Ai:=.tuple [.str x.1,.str x.2.1,.int x.2.2]
inductive nM:Ai→Ai→Prop
 | short {ds:List Ai} (h:ds.length≠5):nM (.tuple ds) (.tuple ds)
 | other {kind:Str} {n dy f l:Ai} (h1:kind≠"part") (h2:kind≠"join"):nM (.tuple [.str kind,n,dy,f,l]) (.tuple [.str kind,n,dy,f,l])
 | part {n dy f:Ai} {T R:List P3} (hp:T.Perm R) (hr:xT R) (h2:2≤T.length) (h6:T.length≤6) (ha:(T.map pD).all gE=true):nM (.tuple [.str "part",n,dy,f,.tuple (T.map pD)]) (.tuple [.str "part",n,dy,f,.tuple (R.map pD)])
 | join {n dy l:Ai} {T R:List Str} (hp:T.Perm R) (hr:eZ R=true) (h6:T.length≤6) (ha:(T.map AQ).all cE=true):nM (.tuple [.str "join",n,dy,.tuple (T.map AQ),l]) (.tuple [.str "join",n,dy,.tuple (R.map AQ),l])
inductive aDh(vs:List V)(H:Hp)(Q:VK)(u3_:XK):Prop
 | mk (m:Bool) (x:V) (d d':Ai) (q0:vs=[x]) (q1:RdV m H x d) (q2:nM d d') (q3:∀ y H',bW H H'→RdV m H' y d'→Q y H'):aDh vs H Q u3_
def aH1:Sp:=fun vs H Q u3_=>aDh vs H Q u3_
theorem aEv{m:Bool}{H:Hp}{v:V}{x:P3}(h:RdV m H v (pD x)):xS H v x:=by
 unfold pD at h;cases h with
 | @tup a xs _ e F r=>
  cases r with
  | cons B r=>
   cases r with
   | cons q r=>
    cases r with
    | cons z r=>
     cases r;cases B;cases q;cases z;exact⟨a,rfl,e⟩
theorem aCs{m:Bool}{H:Hp}{vs:List V}{T:List P3}(r:cJ m H vs (T.map pD)):∀ i,i < vs.length→xS H (vs.getD i .non) (T.getD i ("","",0)):=fun i hi=>by
 have q:=r.len;rw[Ad]at q;obtain⟨d,hd,rd⟩:=r.at (Ab hi);rw[AS,Ab (by omega)]at hd;cases hd;have:=aEv rd;rw[Ak,Ak,Ab hi,Ab (by omega)];exact this
theorem yM{m:Bool}{H:Hp}{vs:List V}{ds:List Ai}(r:cJ m H vs ds):∀(q:List Nat),(∀ i∈q,i < vs.length)→cJ m H (q.map fun i=>vs.getD i .non) (q.map fun i=>ds.getD i .none)
 | [],_=>.nil
 | i :: q,h=>by
  have hi:=h i (by simp);obtain⟨d,hd,rd⟩:=r.at (Ab hi);refine .cons ?_ (yM r q fun j z=>h j (by simp[z]));show RdV m H (vs.getD i .non) (ds.getD i .none);rw[Ak,Ak,Ab hi,hd];exact rd
theorem yN{m:Bool}{H:Hp}:∀{vs:List V}{T:List Str},cJ m H vs (T.map AQ)→vs=T.map V.str∧∀ z∈T,z.length≤1000
 | _,[],.nil=>⟨rfl,fun z hz=>by simp at hz⟩
 | _,t :: T,.cons a r=>by
  obtain⟨e,h⟩:=yN (T:=T) r;cases a with
  | str _ hz=>
   refine⟨by rw[e];rfl,fun z q=>?_⟩;rcases An.mp q with rfl | y
   ·exact hz
   ·exact h z y
theorem mQ{m:Bool}{H:Hp}:∀{T:List Str},(∀ z∈T,z.length≤1000)→cJ m H (T.map V.str) (T.map AQ)
 | [],_=>.nil
 | t :: T,h=>.cons (.str t (h t (by simp))) (mQ fun z hz=>h z (by simp[hz]))
theorem wW{R:List Str}(h:eZ R=true):R.Pairwise fun a b=>¬ b.cps.toList < a.cps.toList:=(Ie h).imp fun{a b} z y=>CU _ (ES z y)
theorem yO:bY ["thing","kind","name","day","first","last"] ["thing"] (aO mE):=⟨rfl,rfl,rfl,by decide,rfl,by decide,by decide⟩
theorem aJb{f:Ag}{fd:AK}(F:Fun K "in_order" "in_order" mE f fd)(T:Txt K mg)(O:mg "sorted"=none)
  (GP:Cl P w K mg base 4 "all_parts" ["thing"] aCi)
  (GN:Cl P w K mg base 2 "all_names" ["thing"] v3):
  cY P w K mg base CX0 5 f fd ["thing"] aH1:=by
 refine F.ok yO (fun vs H Q E h=>?_) (fun bb A outer s H vs Q E hr h=>?_)
 ·obtain⟨m,x,d,d',rfl,_⟩:=h;rfl
 ·obtain⟨m,x,d,d',rfl,hx,ho,k⟩:=h;have aq:cZ 2 _:=hr.mono (by decide);refine⟨_,aM (c8 (PW.pt (iD (dU (dO (aX dH (by rfl) T.isi (by kernel_rfl) (aG (pv 0) (aG (dL (v:=.ty "tuple") (by rfl) T.tuple (by kernel_rfl) rfl) aF)))))
    (fW (cA sJ (aX bE (by rfl) T.len AO (aG (pv 0) aF)) aQ (cM _))))) (aW (bC (pv 0))) b8)
   (aM (iY (pv 0) (kM rfl (cO (bJ (i:=1) yO.nd rfl (AE rfl)) (cO (bJ (i:=2) yO.nd rfl (AE rfl)) (cO (bJ (i:=3) yO.nd rfl (AE rfl)) (cO (bJ (i:=4) yO.nd rfl (AE rfl)) (cO (bJ (i:=5) yO.nd rfl (AE rfl)) iQ)))))))
   (aM (c8 (PW.pt (nT (cA eY (pv 1) cG (cM _)) (j0 (dO (bG GP hr (aG (pv 5) aF)))))) (aW (bC (dA (aG (pv 1) (aG (pv 2) (aG (pv 3) (aG (pv 4) (aG (cQ cX (by rfl) T.tuple (by kernel_rfl) (aG (aX zU (by rfl) O (by kernel_rfl) (aG (pv 5) aF)) aF)) aF)))))))) b8)
   (aM (c8 (PW.pt (nT (cA eY (pv 1) cG (cM _)) (j0 (dO (bG GN aq (aG (pv 4) aF)))))) (aW (bC (dA (aG (pv 1) (aG (pv 2) (aG (pv 3) (aG (cQ cX (by rfl) T.tuple (by kernel_rfl) (aG (aX wU (by rfl) O (by kernel_rfl) (aG (pv 4) aF)) aF)) (aG (pv 5) aF)))))))) b8)
   (aW (bC (pv 0)))))),?_⟩
  refine⟨_,rfl,_,"tuple",_,_,rfl,kF hx,iU d,_,rfl,?_⟩;cases ho with
  | @short ds hn=>
   cases hx with
   | @tup a xs _ e hl r=>
    have aC:=r.len;refine dD ?_;refine⟨_,rfl,a,xs,rfl,.inr (bI e),rfl,_,rfl,dY (fun g=>?_) (fun g=>?_)⟩
    ·exact⟨_,rfl,k _ H (bW.refl H) (.tup e hl r)⟩
    ·exfalso;apply g;rw[decide_eq_false (show¬ V.int (xs.length:Int)=V.int 5 from fun z=>by injection z with z;omega)];rfl
  | @other kind n dy f l h1 h2=>
   cases hx with
   | @tup a xs _ e hl r=>
   cases r with
   | @cons x1 _ _ _ r1 r=>
   cases r with
   | @cons x2 _ _ _ r2 r=>
   cases r with
   | @cons x3 _ _ _ r3 r=>
   cases r with
   | @cons x4 _ _ _ r4 r=>
   cases r with
   | @cons x5 _ _ _ r5 r=>
   cases r;cases r1 with
   | str _ B=>
   refine dD ?_;refine⟨_,rfl,a,_,rfl,.inr (bI e),rfl,_,rfl,dY (fun g=>absurd g (by simp)) (fun g=>?_)⟩;refine⟨_,rfl,a,_,rfl,bI e,rfl,_,_,rfl,_,_,rfl,_,_,rfl,_,_,rfl,_,_,rfl,rfl,_,rfl,rfl,_,rfl,?_⟩;rw[decide_eq_false (show¬ V.str kind=V.str "part" from fun z=>by injection z with z;exact h1 z)];refine dD ?_;refine⟨_,rfl,rfl,_,rfl,?_⟩;rw[decide_eq_false (show¬ V.str kind=V.str "join" from fun z=>by injection z with z;exact h2 z)];refine dD ?_;exact⟨_,rfl,k _ H (bW.refl H) (.tup e hl (.cons (.str kind B) (.cons r2 (.cons r3 (.cons r4 (.cons r5 .nil))))))⟩
  | @part n dy f T R hp W h2 h6 ha=>
   cases hx with
   | @tup a xs _ e hl r=>
   cases r with
   | @cons x1 _ _ _ r1 r=>
   cases r with
   | @cons x2 _ _ _ r2 r=>
   cases r with
   | @cons x3 _ _ _ r3 r=>
   cases r with
   | @cons x4 _ _ _ r4 r=>
   cases r with
   | @cons x5 _ _ _ r5 r=>
   cases r;cases r1 with
   | str _ B=>
   refine dD ?_;refine⟨_,rfl,a,_,rfl,.inr (bI e),rfl,_,rfl,dY (fun g=>absurd g (by simp)) (fun g=>?_)⟩;refine⟨_,rfl,a,_,rfl,bI e,rfl,_,_,rfl,_,_,rfl,_,_,rfl,_,_,rfl,_,_,rfl,rfl,_,rfl,rfl,_,rfl,?_⟩;rw[Ic (show V.str "part"=V.str "part" from rfl)];refine dJ ?_;refine⟨_,rfl,m,x5,_,rfl,r5,fun H1 s1=>⟨_,rfl,?_⟩⟩;refine dY (fun g=>?_) (fun g=>absurd ha g);cases r5 with
   | @tup a5 J _ e5 a0 Z=>
   have M:=Z.len;rw[Ad]at M;refine⟨_,rfl,_,rfl,_,rfl,_,rfl,_,rfl,a5,J,T,rfl,s1 _ _ e5,M,by omega,by omega,aCs (Z.same s1),fun L hL=>?_⟩;have sL:=aV (o:=.lst ((iG T).map fun i=>J.getD i .non)) hL;have U:=lS T (by omega);have ba:(iG T).length=T.length:=by rw[U.length_eq,BW]
   refine⟨L,_,rfl,.inl ⟨bF aH,fun t ht=>?_⟩⟩;have sT:=aV (o:=.tup ((iG T).map fun i=>J.getD i .non)) ht;have rR:cJ m H ((iG T).map fun i=>J.getD i .non) (R.map pD):=by
    have rp:=yM Z (iG T) (fun i hi=>by
     have:=U.mem_iff.mp hi;rw[BK]at this;omega)
    have e2:(iG T).map (fun i=>(T.map pD).getD i .none)=R.map pD:=by
     rw[← aAR hp W h2 h6 ("","",0),Ct];refine C9 fun i hi=>?_;have aj:=U.mem_iff.mp hi;rw[BK]at aj;simp[aj]
    rw[e2]at rp;exact rp
   refine⟨zZ5,fun t2 Y=>?_⟩;have s2:=aV (o:=.tup [V.str "part",x2,x3,x4,.ref t]) Y;have q:=((s1.trans sL).trans sT).trans s2;exact k _ _ q (.tup aH (by show 5≤1000;decide) (.cons (.str _ B) (.cons (r2.same q) (.cons (r3.same q) (.cons (r4.same q) (.cons (.tup (s2 _ _ aH) (by rw[Ad];omega) (rR.same q)) .nil))))))
  | @join n dy l T R hp W h6 ha=>
   cases hx with
   | @tup a xs _ e hl r=>
   cases r with
   | @cons x1 _ _ _ r1 r=>
   cases r with
   | @cons x2 _ _ _ r2 r=>
   cases r with
   | @cons x3 _ _ _ r3 r=>
   cases r with
   | @cons x4 _ _ _ r4 r=>
   cases r with
   | @cons x5 _ _ _ r5 r=>
   cases r;cases r1 with
   | str _ B=>
   refine dD ?_;refine⟨_,rfl,a,_,rfl,.inr (bI e),rfl,_,rfl,dY (fun g=>absurd g (by simp)) (fun g=>?_)⟩;refine⟨_,rfl,a,_,rfl,bI e,rfl,_,_,rfl,_,_,rfl,_,_,rfl,_,_,rfl,_,_,rfl,rfl,_,rfl,rfl,_,rfl,?_⟩;rw[decide_eq_false (show¬ V.str "join"=V.str "part" from by decide)];refine dD ?_;refine⟨_,rfl,rfl,_,rfl,?_⟩;rw[Ic (show V.str "join"=V.str "join" from rfl)];refine dJ ?_;refine⟨_,rfl,m,x4,_,rfl,r4,fun H1 s1=>⟨_,rfl,?_⟩⟩;refine dY (fun g=>?_) (fun g=>absurd ha g);cases r4 with
   | @tup a4 aP _ e4 aN av=>
   obtain⟨ex4,hz4⟩:=yN av;subst ex4;refine⟨_,rfl,_,rfl,_,rfl,_,rfl,a4,T,rfl,s1 _ _ e4,by omega,fun L ms hL ar au=>?_⟩;have sL:=aV (o:=.lst (ms.map V.str)) hL;have ay:ms=R:=j7 (ar.trans hp) (hJ ms au) (wW W);subst ay;refine⟨L,_,rfl,.inl ⟨bF aH,fun t ht=>?_⟩⟩;have sT:=aV (o:=.tup (ms.map V.str)) ht;have rR:cJ m H (ms.map V.str) (ms.map AQ):=mQ fun z hz=>hz4 z (hp.mem_iff.mpr hz);refine⟨_,rfl,zZ5,fun t2 Y=>?_⟩;have s2:=aV (o:=.tup [V.str "join",x2,x3,.ref t,x5]) Y;have q:=((s1.trans sL).trans sT).trans s2;have bd:=hp.length_eq;exact k _ _ q (.tup aH (by show 5≤1000;decide) (.cons (.str _ B) (.cons (r2.same q) (.cons (r3.same q) (.cons (.tup (s2 _ _ aH) (by rw[Ad];omega) (rR.same q)) (.cons (r5.same q) .nil))))))
inductive v7(vs:List V)(H:Hp)(Q:VK)(u3_:XK):Prop
 | mk (m:Bool) (x:V) (d d':Ai) (q0:vs=[x]) (q1:RdV m H x d) (q2:nM (dQ 3 d) d') (q3:rowD d'=true) (q4:∀ y H',bW H H'→RdV m H' y d'→Q y H'):v7 vs H Q u3_
def aBp:Sp:=fun vs H Q u3_=>v7 vs H Q u3_
theorem aBq:bY ["thing","row"] ["thing"] (aO oP):=⟨rfl,rfl,rfl,by decide,rfl,by decide,by decide⟩
theorem aEw{f:Ag}{fd:AK}(F:Fun K "row_of" "row_of" oP f fd)(q:∃ t,mg "ROW_DEPTH"=some (.int 3 t))
  (GA:Cl P w K mg base 4 "as_tuples" ["thing","deep"] (aGh 3))
  (Y:Cl P w K mg base 5 "in_order" ["thing"] aH1)
  (Z:Cl P w K mg base 7 "is_row" ["thing"] aDe):
  cY P w K mg base CX0 8 f fd ["thing"] aBp:=by
 refine F.ok aBq (fun vs H Q E h=>?_) (fun ad A outer s H vs Q E M h=>?_)
 ·obtain⟨m,x,d,d',rfl,_⟩:=h;rfl
 ·obtain⟨m,x,d,d',rfl,hx,ho,hrow,k⟩:=h;have J:cZ 4 _:=M.mono (by decide);have B:cZ 5 _:=M.mono (by decide);obtain⟨td,hdp⟩:=q;refine⟨_,aM (bQ (i:=1) aBq.nd rfl (AE rfl) (bG Y B (aG (bG GA J (aG (pv 0) (aG (dS (v:=.int 3) (by rfl) hdp ⟨_,rfl⟩) aF))) aF)))
   (aM (c8 (dU (dO (bG Z M (aG (pv 1) aF)))) gS b8)
   (aW (bC (pv 1)))),?_⟩
  refine⟨_,rfl,m,x,d,rfl,hx,fun y H1 W r1=>?_⟩;refine⟨m,y,_,d',rfl,r1,ho,fun z H2 s2 U=>?_⟩;refine⟨_,rfl,m,z,d',rfl,U,fun H3 O=>⟨_,rfl,?_⟩⟩;rw[hrow];refine dD ?_;exact⟨_,rfl,k _ _ ((W.trans s2).trans O) (U.same O)⟩
structure S3(H:Hp)(lf lp lh:Ag)(fs ps hs:List Str):Prop where
 f:H lf=some (.lst (fs.map V.str))
 p:H lp=some (.lst (ps.map V.str))
 h:H lh=some (.lst (hs.map V.str))
 f1:1≤fs.length
 f2:fs.length≤44
 p1:ps.length=10
 h1:hs.length=5
 nf:Nms fs
 np:Nms ps
 nh:Nms hs
theorem S3.but{H H':Hp}{lf z B:Ag}{fs ps F:List Str}{p c:Ag}{ns:List Int}{t:Int}(x:S3 H lf z B fs ps F)(q:cV H p c ns t)(k:aZ p H H'):S3 H' lf z B fs ps F:=⟨bH x.f q k,bH x.p q k,bH x.h q k,x.f1,x.f2,x.p1,x.h1,x.nf,x.np,x.nh⟩
theorem S3.same{H H':Hp}{lf q z:Ag}{fs ps B:List Str}(x:S3 H lf q z fs ps B)(k:bW H H'):S3 H' lf q z fs ps B:=⟨k _ _ x.f,k _ _ x.p,k _ _ x.h,x.f1,x.f2,x.p1,x.h1,x.nf,x.np,x.nh⟩
inductive fV:Str→List Ai→Prop
 | part {land:Str} {R:List P3} (hl:cC land=true) (hr:xT R) (h2:2≤R.length) (h6:R.length≤6) (ha:(R.map pD).all gE=true):fV "part" [.str land,.tuple (R.map pD)]
 | join {land:Str} {R:List Str} (hl:cC land=true) (hr:eZ R=true) (h2:2≤R.length) (h6:R.length≤6) (ha:(R.map AQ).all cE=true):fV "join" [.tuple (R.map AQ),.str land]
 | forfeit {land house:Str} (hl:cC land=true) (hh:cC house=true):fV "forfeit" [.str land,.str house]
 | measure {field:Str} {n:Int} (hf:cC field=true) (h0:0≤n) (h1:n≤10000000):fV "measure" [.str field,.int n]
 | mend {house other:Str} (hh:cC house=true) (ho:cC other=true) (hne:house≠other):fV "mend" [.str house,.str other]
 | alone {house:Str} (hh:cC house=true):fV "alone" [.str house]
 | breach {field:Str} {n1 n2 n3:Int} (hf:cC field=true) (h10:0≤n1) (h11:n1≤9999999) (h20:0≤n2) (h21:n2≤1000000000) (h30:0≤n3) (h31:n3≤1000000):fV "breach" [.str field,.int n1,.int n2,.int n3]
 | view {field house:Str} {n1:Int} (hf:cC field=true) (h10:0≤n1) (h11:n1≤9999999) (hh:cC house=true):fV "view" [.str field,.int n1,.str house]
def gJ(word name:Str)(day:Int)(ds:List Ai):Ai:=.tuple (.str word :: .str name :: .int day :: ds)
theorem aGp{word name:Str}{day:Int}{ds:List Ai}(h:fV word ds)(hn:cC name=true)(h0:0≤day)(h1:day≤9999):rowD (gJ word name day ds)=true:=by
 have go:decide (word∈fE)=true→fS word ds=true→rowD (gJ word name day ds)=true:=fun a b=>by
  show(decide (word∈fE) && (cC name && (decide (0≤day∧day≤9999) && fS word ds)))=true;rw[a,hn,b,Ic (show 0≤day∧day≤9999 from⟨h0,h1⟩)];rfl
 cases h with
 | @part B R Z hr h2 h6 ha=>
  refine go (by decide) ?_;show(cC B && ((R.map pD).all gE && decide (2≤(R.map pD).length∧(R.map pD).length≤6) && eZ ((R.map pD).map c3)))=true;have e:(R.map pD).map c3=R.map (·.1):=by rw[Ct];rfl
  rw[Z,ha,e,Ad,Ic (show 2≤R.length∧R.length≤6 from⟨h2,h6⟩)];exact Ic (BP.mpr hr)
 | @join B R Z hr h2 h6 ha=>
  refine go (by decide) ?_;rw[show fS "join" [.tuple (R.map AQ),.str B]=yG [.tuple (R.map AQ),.str B] from by unfold fS;rw[Ia (by decide),Ib rfl]];show(((R.map AQ).all cE && decide (2≤(R.map AQ).length∧(R.map AQ).length≤6) && eZ ((R.map AQ).map aBi)) && cC B)=true;have e:(R.map AQ).map aBi=R:=by rw[Ct];exact List.map_id R
  rw[Z,ha,e,Ad,Ic (show 2≤R.length∧R.length≤6 from⟨h2,h6⟩),hr];rfl
 | @forfeit B q Z O=>
  refine go (by decide) ?_;rw[show fS "forfeit" [.str B,.str q]=mM [.str B,.str q] from by unfold fS;rw[Ia (by decide),Ia (by decide),Ib rfl]];show(true && (cC B && (cC q && true)))=true;rw[Z,O];rfl
 | @measure z n Y h0 h1=>
  refine go (by decide) ?_;rw[show fS "measure" [.str z,.int n]=mJ [.str z,.int n] from by unfold fS;rw[Ia (by decide),Ia (by decide),Ia (by decide),Ib rfl]];show(cC z && decide (0≤n∧n≤10000000))=true;rw[Y,Ic (show 0≤n∧n≤10000000 from⟨h0,h1⟩)];rfl
 | @mend q other O ho ag=>
  refine go (by decide) ?_;rw[show fS "mend" [.str q,.str other]=tG [.str q,.str other] from by unfold fS;rw[Ia (by decide),Ia (by decide),Ia (by decide),Ia (by decide),Ib rfl]];show(cC q && cC other && !decide (q=other))=true;rw[O,ho,decide_eq_false ag];rfl
 | @alone q O=>
  refine go (by decide) ?_;rw[show fS "alone" [.str q]=sH [.str q] from by unfold fS;rw[Ia (by decide),Ia (by decide),Ia (by decide),Ia (by decide),Ia (by decide),Ib rfl]];exact O
 | @breach z F U W Y J M ac ad ah af=>
  refine go (by decide) ?_;rw[show fS "breach" [.str z,.int F,.int U,.int W]=oS [.str z,.int F,.int U,.int W] from by unfold fS;rw[Ia (by decide),Ia (by decide),Ia (by decide),Ia (by decide),Ia (by decide),Ia (by decide),Ib rfl]];show(cC z && decide (0≤F∧F≤9999999) && decide (0≤U∧U≤1000000000) && decide (0≤W∧W≤1000000))=true;rw[Y,Ic (show 0≤F∧F≤9999999 from⟨J,M⟩),Ic (show 0≤U∧U≤1000000000 from⟨ac,ad⟩),Ic (show 0≤W∧W≤1000000 from⟨ah,af⟩)];rfl
 | @view z q F Y J M O=>
  refine go (by decide) ?_;rw[show fS "view" [.str z,.int F,.str q]=yF [.str z,.int F,.str q] from by unfold fS;rw[Ia (by decide),Ia (by decide),Ia (by decide),Ia (by decide),Ia (by decide),Ia (by decide),Ia (by decide)]];show(cC z && decide (0≤F∧F≤9999999) && cC q)=true;rw[Y,Ic (show 0≤F∧F≤9999999 from⟨J,M⟩),O];rfl
theorem kG{m:Bool}{H:Hp}{z:Str}(h:cC z=true):RdV m H (.str z) (.str z):=.str z (by have:=(iM h).2;omega)
theorem aGq{w:Str}(h:w∈fE):w.length≤1000:=by
 have:∀ w∈fE,w.length≤1000:=by decide
 exact this w h
theorem aCt{q us vs M:List Str}(U:PyProof.Rows.sortedS q=true)(O:q.Perm us)(J:(us ++ vs).Perm M)(hn:Nms M):eZ q=true∧∀ z∈q,cC z=true:=by
 have F:us.Nodup:=(C3.mp (J.nodup_iff.mpr hn.nd)).1;have B:q.Nodup:=O.nodup_iff.mpr F;refine⟨Ic (((hJ q U).and B).imp fun{a b} h=>?_),fun z hz=>hn.ok z (J.mem_iff.mp (Eo _ (O.mem_iff.mp hz)))⟩;rcases Fp (a.cps.toList < b.cps.toList)with z | z
 ·exact z
 ·exact absurd (oH (EZ (Dy.mp h.1) (Dy.mp z))) h.2
def FIn(word:Str)(ds:List Ai)(fs:List Str):Prop:=inV (.str word) [V.str "measure",.str "breach",.str "view"]=true→∀ z cS,ds=.str z :: cS→z∈fs
inductive yP(vs:List V)(H:Hp)(Q:VK)(u3_:XK):Prop
 | mk (p c:Ag) (ns:List Int) (a:Int) (word name:Str) (day:Int) (tS lf lp lh:Ag) (fs ps hs:List Str) (q0:vs=[.ref p,.str word,.str name,.int day,.ref tS]) (q1:cV H p c ns a) (q2:a≤700000) (q3:H tS=some (.tup [.ref lf,.ref lp,.ref lh])) (q4:S3 H lf lp lh fs ps hs) (q5:word∈fE) (q6:cC name=true) (q7:∀(t:Ag) (ds:List Ai) (cS:List V) (a':Int) (H':Hp),H' t=some (.tup (.str word :: .str name :: .int day :: cS))→cJ false H' cS ds→fV word ds→FIn word ds fs→a≤a'→a'≤a + 80→cV H' p c ns a'→aZ p H H'→Q (.ref t) H'):yP vs H Q u3_
def aDi:Sp:=fun vs H Q u3_=>yP vs H Q u3_
theorem hZ:bY ["_law_pen_here","_law_word","_law_name","_law_day","_law_sorts_here","_law_fields","_law_plots","_law_houses","_law_land","_law_at","_law_house","_law_field","_law_some_here","_law_parts","_law_inch"] ["_law_pen_here","_law_word","_law_name","_law_day","_law_sorts_here"] (aO pO):=⟨rfl,rfl,rfl,by decide,rfl,by decide,by decide⟩
theorem aGr{f:Ag}{fd:AK}(F:Fun K "_law_row_of" "_law_row_of" pO f fd)(W:mg "len"=none)(aq:mg "tuple"=none)
  (GT:Cl P w K mg base 1 "_law_take" ["_law_pen_here","_law_many"] iO)
  (GN:Cl P w K mg base 2 "_law_number" ["_law_pen_here","_law_bottom","_law_most"] aGj)
  (GS:Cl P w K mg base 2 "_law_some" ["_law_pen_here","_law_names_here","_law_many"] aGm):
  cY P w K mg base CX0 3 f fd ["_law_pen_here","_law_word","_law_name","_law_day","_law_sorts_here"] aDi:=by
 refine F.ok hZ (fun vs H Q E h=>?_) (fun el A outer s H vs Q E hr h=>?_)
 ·obtain⟨p,c,ns,a,word,name,day,tS,lf,lp,lh,fs,ps,hs,rfl,_⟩:=h;rfl
 ·obtain⟨p,c,ns,a,word,name,day,tS,lf,lp,lh,fs,ps,hs,rfl,hp,ha,htS,h3,hwd,hnm,k⟩:=h;have ab:cZ 1 _:=hr.mono (by decide);refine⟨_,aM (iY (pv 4) (kM rfl (cO (bJ (i:=5) hZ.nd rfl (AE rfl)) (cO (bJ (i:=6) hZ.nd rfl (AE rfl)) (cO (bJ (i:=7) hZ.nd rfl (En rfl)) iQ)))))
   (aM (bQ (i:=8) hZ.nd rfl (AE rfl) (cH dB (pv 6) (bG GT ab (aG (pv 0) (aG (aX bE (by rfl) W AO (aG (pv 6) aF)) aF))) Ig))
   (aM (bQ (i:=9) hZ.nd rfl (AE rfl) (bG GT ab (aG (pv 0) (aG (aX bE (by rfl) W AO (aG (pv 7) aF)) aF))))
   (aM (bQ (i:=10) hZ.nd rfl (AE rfl) (cH dB (pv 7) (pv 9) Ig))
   (aM (bQ (i:=11) hZ.nd rfl (AE rfl) (cH dB (pv 5) (bG GT ab (aG (pv 0) (aG (aX bE (by rfl) W AO (aG (pv 5) aF)) aF))) Ig))
   (aM (c8 (cA xC (pv 1) (dA (aG cG (aG cG aF))) (by with_unfolding_all rfl))
    (aM (bQ (i:=12) hZ.nd rfl (AE rfl) (bG GS hr (aG (pv 0) (aG (pv 6) (aG (cH dB (dP (aG aQ (aG aQ (aG (cB eJ aQ (bG GT ab (aG (pv 0) (aG aQ aF)))) aF)))) (bG GT ab (aG (pv 0) (aG aQ aF))) Ig) aF)))))
    (aM (c8 (cA eY (pv 1) cG (cM _)) (aW (bC (dA (aG (pv 1) (aG (pv 2) (aG (pv 3) (aG (cQ cX (by rfl) aq (by kernel_rfl) (aG (pv 12) aF)) (aG (pv 8) aF)))))))) b8)
    (aM (jO (i:=13) (N:=["_law_one","_law_houses","_law_pen_here"]) (src:=[none,some 7,some 0]) (osc:=aO pO) (oN:=["_law_pen_here","_law_word","_law_name","_law_day","_law_sorts_here","_law_fields","_law_plots","_law_houses","_law_land","_law_at","_law_house","_law_field","_law_some_here","_law_parts","_law_inch"]) ⟨by rfl,by decide,by decide,by decide,rfl,by rfl⟩ hZ.nd rfl
      (i5 (pv 12))
      fun cl s H fp di C=>⟨bJ (i:=0) (show(["_law_one","_law_houses","_law_pen_here"]:List Str).Nodup by decide) rfl (AE rfl),dW,dA (aG (pv 0) (aG (cH (r:=aGS K) dB (pv 1) (bG GT ab (aG (pv 2) (aG (aX (r:=fZ K) bE (by rfl) W AO (aG (pv 1) aF)) aF))) Ig) (aG (bG GN hr (aG (pv 2) (aG aQ (aG (cB kW aQ aQ) aF)))) aF)))⟩)
    (aW (bC (dA (aG (pv 1) (aG (pv 2) (aG (pv 3) (aG (pv 8) (aG (cQ cX (by rfl) aq (by kernel_rfl) (aG (pv 13) aF)) aF)))))))))))
    b8)
   (aM (c8 (cA eY (pv 1) cG (cM _)) (aW (bC (dA (aG (pv 1) (aG (pv 2) (aG (pv 3) (aG (pv 8) (aG (pv 10) aF)))))))) b8)
   (aM (c8 (cA eY (pv 1) cG (cM _)) (aW (bC (dA (aG (pv 1) (aG (pv 2) (aG (pv 3) (aG (pv 11) (aG (bG GN hr (aG (pv 0) (aG aQ (aG (cB kW aQ aQ) aF)))) aF)))))))) b8)
   (aM (c8 (cA eY (pv 1) cG (cM _)) (aW (bC (dA (aG (pv 1) (aG (pv 2) (aG (pv 3) (aG (pv 10) (aG (cH dB (pv 7) (cB gQ (cB eJ (cB eJ (pv 9) aQ) (bG GT ab (aG (pv 0) (aG (cB kQ (aX bE (by rfl) W AO (aG (pv 7) aF)) aQ) aF)))) (aX bE (by rfl) W AO (aG (pv 7) aF))) Ig) aF)))))))) b8)
   (aM (c8 (cA eY (pv 1) cG (cM _)) (aW (bC (dA (aG (pv 1) (aG (pv 2) (aG (pv 3) (aG (pv 10) aF))))))) b8)
   (aM (bQ (i:=14) hZ.nd rfl (AE rfl) (bG GN hr (aG (pv 0) (aG aQ (aG (cB kQ (cB kW aQ aQ) aQ) aF)))))
   (aM (c8 (cA eY (pv 1) cG (cM _)) (aW (bC (dA (aG (pv 1) (aG (pv 2) (aG (pv 3) (aG (pv 11) (aG (pv 14) (aG (pv 10) aF))))))))) b8)
   (aW (bC (dA (aG (pv 1) (aG (pv 2) (aG (pv 3) (aG (pv 11) (aG (pv 14) (aG (bG GN hr (aG (pv 0) (aG aQ (aG (cB kW aQ aQ) aF)))) (aG (bG GN hr (aG (pv 0) (aG aQ (aG (cB kW aQ aQ) aF)))) aF))))))))))))))))))))),?_⟩
  have fin:∀(cS:List V) (ds:List Ai) (H':Hp) (a':Int),cJ false H' cS ds→fV word ds→FIn word ds fs→cV H' p c ns a'→aZ p H H'→a≤a'→a'≤a + 80→∀ t,H' t=none→Q (.ref t) (upd H' t (.tup (.str word :: .str name :: .int day :: cS))):=fun cS ds H' a' hR hS cj h1 h2 h4 h5 t ht=>k t ds cS a' _ aH (hR.same (aV ht)) hS cj h4 h5 (h1.same (aV ht)) (h2.same (aV ht));have cp:∀ j:Int,0≤j→j≤1000000→aIl 10 j:=fun j h1 h2=>⟨h1,h2,by decide⟩
  have p6:((10:Int) ^ Do 6)=1000000:=by decide
  have p7:((10:Int) ^ Do 7)=10000000:=by decide
  have p9:((10:Int) ^ Do 9)=1000000000:=by decide
  have e9:(10:Int) ^ 9=1000000000:=by decide
  have z2:(2:Nat)≤sizeLine:=aS (by decide);have z3:(3:Nat)≤sizeLine:=aS (by decide);have z4:(4:Nat)≤sizeLine:=aS (by decide);have z5:(5:Nat)≤sizeLine:=aS (by decide);have z6:(6:Nat)≤sizeLine:=aS (by decide);have z7:(7:Nat)≤sizeLine:=aS (by decide);have cc:=h3.p1;have b5:=h3.h1;have dy:=h3.f1;have ef:=h3.f2;refine⟨_,rfl,tS,_,rfl,bI htS,rfl,_,_,rfl,_,_,rfl,_,_,rfl,rfl,_,rfl,_,rfl,_,rfl,lp,_,rfl,.inl (bF h3.p),p,c,ns,a,_,rfl,hp,by omega,by rw[Ad];omega,by rw[Ad];omega,fun r1 a1 H1 bK bR ek dR aU bj=>?_⟩;have aD:=h3.but hp bj;obtain⟨v,hv,Z⟩:=gR (xs:=ps.map V.str) (i:=r1) bK bR;obtain⟨land,hland,rfl⟩:=Bs.mp hv;have M:=h3.np.ok land hland;refine⟨lp,_,r1,_,rfl,rfl,bF aD.p,Z,_,rfl,_,rfl,lh,_,rfl,.inl (bF aD.h),p,c,ns,a1,_,rfl,aU,by omega,by rw[Ad];omega,by rw[Ad];omega,fun r2 a2 H2 du cR ei dw bw bo=>?_⟩;have ar:=aD.but aU bo;rw[Ad]at cR;obtain⟨j2,rfl⟩:∃ j2:Nat,r2=j2:=⟨r2.toNat,by omega⟩
  obtain⟨house,hj2⟩:∃ y,hs[j2]?=some y:=⟨_,Ab (by omega)⟩
  have B:=h3.nh.ok house (AN hj2);have Z:atI (hs.map V.str) ((j2:Nat):Int)=some (V.str house):=fG (by rw[AS,hj2];rfl);refine⟨_,rfl,_,rfl,lh,_,(j2:Int),_,rfl,rfl,bF ar.h,Z,_,rfl,_,rfl,_,rfl,lf,_,rfl,.inl (bF ar.f),p,c,ns,a2,_,rfl,bw,by omega,by rw[Ad];omega,by rw[Ad];omega,fun r3 a3 H3 cw cy eo d4 ci a0=>?_⟩;have bn:=ar.but bw a0;obtain⟨v,hv,Z⟩:=gR (xs:=fs.map V.str) (i:=r3) cw cy;obtain⟨field,hfield,rfl⟩:=Bs.mp hv;have J:=h3.nf.ok field hfield;refine⟨lf,_,r3,_,rfl,rfl,bF bn.f,Z,?_⟩;have k3:=(bj.trans bo).trans a0;refine⟨_,rfl,z2,fun q hq=>?_⟩;have sq:=aV (o:=.tup [V.str "part",.str "join"]) hq;have Y:=ci.same sq;have ai:=bn.same sq;have k4:=k3.same sq;have bx:upd H3 q (.tup [V.str "part",.str "join"]) q=_:=aH;refine⟨q,_,rfl,.inr (bI bx),rfl,rfl,_,rfl,?_⟩;generalize upd H3 q (.tup [V.str "part",.str "join"])=H4 at Y ai k4 bx ⊢;refine dY (fun g1=>?_) (fun g1=>?_)
  ·refine⟨_,rfl,_,rfl,_,rfl,p,c,ns,a3,_,rfl,Y,by omega,by decide,by decide,fun x1 a5 H5 dl eh dk dv bc cK=>?_⟩;refine⟨_,_,rfl,rfl,z3,fun u hu=>?_⟩;have su:=aV (o:=.lst [V.int 2,.int 6,.int (2 + x1)]) hu;refine⟨_,rfl,p,c,ns,a5,_,rfl,bc.same su,by omega,by decide,by decide,fun x2 a6 H6 bP dt eg d2 bv ba=>?_⟩;obtain⟨v,hv,Z⟩:=gR (xs:=[V.int 2,.int 6,.int (2 + x1)]) (i:=x2) bP (by show x2 < 3;omega);obtain⟨n,rfl,hn,hn2⟩:∃ n:Nat,v=.int n∧n≤6∧2≤n:=by
    simp only[An,Az,or_false]at hv;rcases hv with rfl | rfl | rfl
    ·exact⟨2,rfl,by omega,by omega⟩
    ·exact⟨6,rfl,by omega,by omega⟩
    ·exact⟨(2 + x1).toNat,by congr 1;omega,by omega,by omega⟩
   have bq:aZ p H4 H6:=(cK.same su).trans ba;refine⟨u,_,x2,_,rfl,rfl,bF (bH aH (bc.same su) ba),Z,?_⟩;have bd:=ai.but Y bq;refine⟨p,c,ns,a6,lp,ps,n,rfl,bv,by omega,bd.p,cc,hn,fun L ms a7 H7 hL eq bT bh eu d5 aj bf=>?_⟩;obtain⟨us,vv,hpu,hpw⟩:=bh;obtain⟨hris,hnms⟩:=aCt bT hpu hpw h3.np;have cq:=bd.but bv bf;have k7:=(k4.trans bq).trans bf;refine⟨_,rfl,rfl,_,rfl,dY (fun g2=>?_) (fun g2=>?_)⟩
   ·refine⟨_,rfl,_,rfl,_,rfl,_,rfl,L,_,rfl,.inl ⟨bF hL,fun tt aA=>?_⟩⟩;have st:=aV (o:=.tup (ms.map V.str)) aA;have U:word="join":=by
     have:=Ie g2;injection this
    have aJ:(ms.map AQ).all cE=true:=by
     rw[DD,A8];exact fun z hz=>hnms z hz
    exact⟨_,rfl,z5,fun t ht=>fin _ [.tuple (ms.map AQ),.str land] _ a7 (.cons (.tup aH (by rw[Ad];omega) (mQ fun z hz=>by have:=(iM (hnms z hz)).2;omega)) (.cons (kG M) .nil)) (by rw[U];exact .join M hris (by omega) (by omega) aJ) (by rw[U];exact fun z=>absurd z (by decide)) (aj.same st) (k7.same st) (by omega) (by omega) t ht⟩
   ·refine⟨_,rfl,L,rfl,⟨_,bF hL⟩,?_⟩;refine jC (K:=K) (xs:=ms.map V.str) (fun i ys σ' H'=>∃(a':Int) (o:Option V),σ'=[o,some (.ref lh),some (.ref p)]∧cV H' p c ns a'∧aZ p H7 H'∧a7≤a'∧a'≤a7 + 4 * i∧ys.length=i∧∃ R:List P3,cJ false H' ys (R.map pD)∧R.map (·.1)=ms.take i∧(R.map pD).all gE=true)
     ⟨a7,none,rfl,aj,aZ.refl p H7,by omega,by omega,rfl,[],.nil,by simp,rfl⟩ (aS (by rw[Ad];omega)) (fun i ys σ H p=>by obtain⟨_,_,_,_,_,_,_,e,_⟩:=p;omega) (fun i ys σ H p=>by obtain⟨_,_,_,_,kk,_⟩:=p;exact bF (bH hL aj kk)) ?_ ?_
    ·rintro i x ys σ' H8 hx ⟨a8,o,rfl,ah,k8,cg,aN,av,R,rR,eR,aR⟩;have hi:i < ms.length:=by
      have:=(AM.mp hx).1;simpa using this
     have ex:x=V.str ms[i]:=by
      rw[AS,Ab hi]at hx;cases hx;rfl
     subst ex;have br:=hnms _ (Bn hi);dsimp only[dG];have bp:=bH cq.h aj k8;refine dJ ?_;refine⟨_,rfl,_,rfl,_,rfl,_,rfl,lh,_,rfl,.inl (bF bp),p,c,ns,a8,_,rfl,ah,by omega,by rw[Ad];omega,by rw[Ad];omega,fun r4 a9 H9 bm aI et dF aK au=>?_⟩;obtain⟨v,hv,Z⟩:=gR (xs:=hs.map V.str) (i:=r4) bm aI;obtain⟨hse,hhse,rfl⟩:=Bs.mp hv;have ao:=h3.nh.ok hse hhse;refine⟨lh,_,r4,_,rfl,rfl,bF (bH bp ah au),Z,_,rfl,_,_,rfl,rfl,cp _ (by decide) (by decide),p,c,ns,a9,1,10000000,(by show[V.ref p,V.int 1,V.int ((10:Int) ^ Do 7)] ++ []=_;rw[p7];rfl),aK,by omega,by decide,by decide,by omega,fun n1 b1 G1 ae af ax az aa O=>?_⟩;refine⟨z3,fun q1 b4=>?_⟩;have aw:=aV (o:=.tup [V.str ms[i],.str hse,.int n1]) b4;refine⟨b1,_,rfl,aa.same aw,((k8.trans au).trans O).same aw,by omega,by omega,by rw[Au,av];rfl,R ++ [(ms[i],hse,n1)],?_,?_,?_⟩
     ·rw[AY];exact cJ.app ((aAb (aAb rR ah au) aK O).same aw) (.cons (.tup aH (by show 3≤1000;decide) (.cons (kG br) (.cons (kG ao) (.cons (.int n1) .nil)))) .nil)
     ·rw[AY,eR,Bk,Ab hi];rfl
     ·rw[AY,List.all_append,aR];show(true && ((cC ms[i] && cC hse && decide (1≤n1∧n1≤10000000)) && true))=true;rw[br,ao,Ic (show 1≤n1∧n1≤10000000 from⟨ae,af⟩)];rfl
    ·rintro ys σ' H8 ⟨a8,o,rfl,ah,k8,cg,aN,av,R,rR,eR,aR⟩ D hD;rw[Ad]at aN;have sD:=aV (o:=.lst ys) hD;refine⟨_,rfl,_,rfl,_,rfl,_,rfl,_,rfl,D,_,rfl,.inl ⟨bF aH,fun tt aA=>?_⟩⟩;have st:=aV (o:=.tup ys) aA;have U:word="part":=by
      have h0:"part"=word∨"join"=word:=by simpa[inV,eqV]using g1
      have h1:word="part"∨word="join":=h0.imp Eq.symm Eq.symm;rcases h1 with h1 | h1
      ·exact h1
      ·exact absurd (Ic (by rw[h1])) g2
     rw[Ad,BI]at eR;have en:R.length=ms.length:=by rw[← eR,Ad]
     have bO:xT R:=by
      have:=Ie hris;rw[← eR]at this;exact(BP (f:=fun x:P3=>x.1) (R:=fun a b:Str=>a.cps.toList < b.cps.toList)).mp this
     exact⟨z5,fun t ht=>fin _ [.str land,.tuple (R.map pD)] _ a8 (.cons (kG M) (.cons (.tup aH (by rw[av,Ad];omega) ((rR.same sD).same st)) .nil)) (by rw[U];exact .part M bO (by omega) (by omega) aR) (by rw[U];exact fun z=>absurd z (by decide)) ((ah.same sD).same st) (((k7.trans k8).same sD).same st) (by omega) (by omega) t ht⟩
  ·refine⟨_,rfl,rfl,_,rfl,dY (fun g2=>?_) (fun g2=>?_)⟩
   ·have U:word="forfeit":=by
     have:=Ie g2;injection this
    exact⟨_,rfl,_,rfl,_,rfl,_,rfl,_,rfl,z5,fun t ht=>fin _ [.str land,.str house] _ a3 (.cons (kG M) (.cons (kG B) .nil)) (by rw[U];exact .forfeit M B) (by rw[U];exact fun z=>absurd z (by decide)) Y k4 (by omega) (by omega) t ht⟩
   ·refine⟨_,rfl,rfl,_,rfl,dY (fun g3=>?_) (fun g3=>?_)⟩
    ·refine⟨_,rfl,_,rfl,_,rfl,_,rfl,_,rfl,_,_,rfl,rfl,cp _ (by decide) (by decide),p,c,ns,a3,0,10000000,(by show[V.ref p,V.int 0,V.int ((10:Int) ^ Do 7)] ++ []=_;rw[p7];rfl),Y,by omega,by decide,by decide,by omega,fun n1 b1 G1 ae af ax az aa O=>?_⟩;have U:word="measure":=by
      have:=Ie g3;injection this
     exact⟨z5,fun t ht=>fin _ [.str field,.int n1] _ b1 (.cons (kG J) (.cons (.int n1) .nil)) (by rw[U];exact .measure J ae af) (fun _ z cS e=>by cases e;exact hfield) aa (k4.trans O) (by omega) (by omega) t ht⟩
    ·refine⟨_,rfl,rfl,_,rfl,dY (fun g4=>?_) (fun g4=>?_)⟩
     ·refine⟨_,rfl,_,rfl,_,rfl,_,rfl,_,rfl,_,rfl,_,_,rfl,rfl,_,rfl,_,rfl,lh,_,rfl,.inl (bF ai.h),_,_,rfl,rfl,p,c,ns,a3,_,rfl,Y,by omega,by rw[Ad];omega,by rw[Ad];omega,fun r4 b1 G1 bm aI ax az aa O=>?_⟩;have hh:=bH ai.h Y O;refine⟨_,_,rfl,rfl,_,rfl,lh,_,rfl,.inl (bF hh),_,_,rfl,rfl,by rw[Ad];omega,?_⟩;have e5:((hs.map V.str).length:Int)=5:=by rw[Ad,b5];rfl
      rw[e5]at aI;obtain⟨j4,ej4⟩:∃ j4:Nat,((j2:Int) + 1 + r4) % ((hs.map V.str).length:Int)=j4:=⟨(((j2:Int) + 1 + r4) % ((hs.map V.str).length:Int)).toNat,by rw[e5];omega⟩
      have cx:j4 < 5∧j4≠j2:=by
       rw[e5]at ej4;omega
      obtain⟨other,hot⟩:∃ y,hs[j4]?=some y:=⟨_,Ab (by omega)⟩
      have ad:=h3.nh.ok other (AN hot);have ck:house≠other:=fun z=>by
       have cu:j2 < hs.length:=by omega
       have bN:j4 < hs.length:=by omega
       rw[Ab cu]at hj2;rw[Ab bN]at hot;injection hj2 with hj2;injection hot with hot;rw[← hj2,← hot]at z;exact cx.2 ((Ef h3.nh.nd).mp z).symm
      have am:atI (hs.map V.str) ((j4:Nat):Int)=some (V.str other):=fG (by rw[AS,hot];rfl);rw[← ej4]at am;have U:word="mend":=by
       have:=Ie g4;injection this
      exact⟨lh,_,_,_,rfl,rfl,bF hh,am,z5,fun t ht=>fin _ [.str house,.str other] _ b1 (.cons (kG B) (.cons (kG ad) .nil)) (by rw[U];exact .mend B ad ck) (by rw[U];exact fun z=>absurd z (by decide)) aa (k4.trans O) (by omega) (by omega) t ht⟩
     ·refine⟨_,rfl,rfl,_,rfl,dY (fun g5=>?_) (fun g5=>?_)⟩
      ·have U:word="alone":=by
        have:=Ie g5;injection this
       exact⟨_,rfl,_,rfl,_,rfl,_,rfl,z4,fun t ht=>fin _ [.str house] _ a3 (.cons (kG B) .nil) (by rw[U];exact .alone B) (by rw[U];exact fun z=>absurd z (by decide)) Y k4 (by omega) (by omega) t ht⟩
      ·refine⟨_,rfl,_,_,rfl,rfl,cp _ (by decide) (by decide),_,_,rfl,rfl,p,c,ns,a3,0,9999999,(by show[V.ref p,V.int 0,V.int ((10:Int) ^ Do 7 - 1)] ++ []=_;rw[p7];rfl),Y,by omega,by decide,by decide,by omega,fun n1 b1 G1 ae af ax az aa O=>?_⟩;refine⟨_,rfl,rfl,_,rfl,dY (fun g6=>?_) (fun g6=>?_)⟩
       ·have U:word="view":=by
         have:=Ie g6;injection this
        exact⟨_,rfl,_,rfl,_,rfl,_,rfl,_,rfl,_,rfl,z6,fun t ht=>fin _ [.str field,.int n1,.str house] _ b1 (.cons (kG J) (.cons (.int n1) (.cons (kG B) .nil))) (by rw[U];exact .view J ae af B) (fun _ z cS e=>by cases e;exact hfield) aa (k4.trans O) (by omega) (by omega) t ht⟩
       ·refine⟨_,rfl,_,rfl,_,rfl,_,rfl,_,rfl,_,rfl,_,_,rfl,rfl,cp _ (by decide) (by decide),p,c,ns,b1,0,1000000000,(by show[V.ref p,V.int 0,V.int ((10:Int) ^ Do 9)] ++ []=_;rw[p9];rfl),aa,by omega,by decide,by decide,by omega,fun n2 b2 G2 cb cD dz d3 be aP=>?_⟩;refine⟨_,rfl,_,_,rfl,rfl,cp _ (by decide) (by decide),p,c,ns,b2,0,1000000,(by show[V.ref p,V.int 0,V.int ((10:Int) ^ Do 6)] ++ []=_;rw[p6];rfl),be,by omega,by decide,by decide,by omega,fun n3 b3 G3 cf cv ee eb bu aT=>?_⟩;have U:word="breach":=by
         have ng:∀ z:Str,¬ decide (V.str word=V.str z)=true→word≠z:=fun z hz e=>hz (Ic (by rw[e]));have bb:word≠"part"∧word≠"join":=by
          constructor
          ·intro z;exact g1 (by rw[z];rfl)
          ·intro z;exact g1 (by rw[z];rfl)
         have hm:=hwd;simp only[fE,An,Az,or_false]at hm;rcases hm with z | z | z | z | z | z | z | z
         ·exact absurd z bb.1
         ·exact absurd z bb.2
         ·exact absurd z (ng _ g2)
         ·exact absurd z (ng _ g3)
         ·exact absurd z (ng _ g4)
         ·exact absurd z (ng _ g5)
         ·exact z
         ·exact absurd z (ng _ g6)
        exact⟨z7,fun t ht=>fin _ [.str field,.int n1,.int n2,.int n3] _ b3 (.cons (kG J) (.cons (.int n1) (.cons (.int n2) (.cons (.int n3) .nil)))) (by rw[U];exact .breach J ae af cb cD cf cv) (fun _ z cS e=>by cases e;exact hfield) bu (((k4.trans O).trans aP).trans aT) (by omega) (by omega) t ht⟩
inductive v8(vs:List V)(H:Hp)(Q:VK)(u3_:XK):Prop
 | mk (p c:Ag) (ns:List Int) (a:Int) (l:Ag) (xs:List V) (q0:vs=[.ref p,.ref l]) (q1:cV H p c ns a) (q2:a≤800000) (q3:H l=some (.tup xs)) (q4:xs.length≤6) (q5:∀(q:Ag) (ys:List V) (a':Int) (H':Hp),H q=none→H' q=some (.lst ys)→ys.Perm xs→a≤a'→a'≤a + 6→cV H' p c ns a'→aZ p H H'→Q (.ref q) H'):v8 vs H Q u3_
def aBr:Sp:=fun vs H Q u3_=>v8 vs H Q u3_
theorem aBs:bY ["_law_pen_here","_law_some_here","_law_left"] ["_law_pen_here","_law_some_here"] (aO m8):=⟨rfl,rfl,rfl,by decide,rfl,by decide,by decide⟩
theorem aEx{f:Ag}{fd:AK}(F:Fun K "_law_turned" "_law_turned" m8 f fd)(U:mg "list"=none)(Y:mg "range"=none)(O:mg "len"=none)
  (GT:Cl P w K mg base 1 "_law_take" ["_law_pen_here","_law_many"] iO):
  cY P w K mg base CX0 2 f fd ["_law_pen_here","_law_some_here"] aBr:=by
 refine F.ok aBs (fun vs H Q E h=>?_) (fun aw A outer s H vs Q E hr h=>?_)
 ·obtain⟨p,c,ns,a,l,xs,rfl,_⟩:=h;rfl
 ·obtain⟨p,c,ns,a,l,xs,rfl,hp,ha,hl,hxl,k⟩:=h;refine⟨_,aM (bQ (i:=2) aBs.nd rfl (En rfl) (cQ eD (by rfl) U (by kernel_rfl) (aG (pv 1) aF)))
   (aW (bC (eG (N:=["_law_k","_law_left","_law_pen_here"]) (src:=[none,some 2,some 0]) (osc:=aO m8) (oN:=["_law_pen_here","_law_some_here","_law_left"]) ⟨by rfl,by decide,by decide,by decide,rfl,by rfl⟩
     (fM rfl Y (aG (aX bE (by rfl) O AO (aG (pv 1) aF)) aF))
     fun cl s H fp di C=>⟨bJ (i:=0) (show(["_law_k","_law_left","_law_pen_here"]:List Str).Nodup by decide) rfl (AE rfl),dW,zN (K:=K) BJ PySem.F.slot_list_pop PySem.F.type_list_pop aAr (pv 1) (aG (bG GT hr (aG (pv 2) (aG (aX (r:=fZ K) bE (by rfl) O AO (aG (pv 1) aF)) aF))) aF)⟩))),?_⟩
  refine⟨_,rfl,l,_,rfl,.inr (bI hl),fun L hL=>?_⟩;have s0:=aV (o:=.lst xs) hL;have af:L≠p:=by
   obtain⟨z,_,e⟩:=hp.ob;exact(aY e hL).symm
  have ag:L≠c:=(aY hp.ce hL).symm;refine⟨_,rfl,l,_,rfl,.inr (bI (s0 _ _ hl)),xs.length,rfl,by omega,by omega,?_⟩;refine jP (fun i ys σ' H'=>Ex3 fun(a':Int) (vs:List V) (o:Option V)=>Aw6 (σ'=[o,some (.ref L),some (.ref p)]) (cV H' p c ns a') (aZ p H H') (a≤a') (a'≤a + i) (Aw3 (ys.length=i) (H' L=some (.lst vs)) (vs.length + i=xs.length∧(ys ++ vs).Perm xs)))
   ⟨a,xs,none,rfl,hp.same s0,bW.but s0,by omega,by omega,rfl,aH,by omega,Dl _⟩ (aS (by omega)) (fun i ys σ H p=>by obtain⟨_,_,_,_,_,_,_,_,e,_⟩:=p;omega) ?_ ?_
  ·rintro i ys σ' H1 hi ⟨a1,vs,o,rfl,q,B,ah,ad,Z,M,ai,J⟩;dsimp only[dG];refine dJ ?_;refine⟨_,rfl,.inl ⟨rfl,_,bF M⟩,_,rfl,_,rfl,L,_,rfl,.inl (bF M),p,c,ns,a1,_,rfl,q,by omega,by omega,by omega,fun r1 a2 H2 ar ay av ax an W=>?_⟩;obtain⟨j,rfl⟩:∃ j:Nat,r1=j:=⟨r1.toNat,by omega⟩
   have ae:=bH M q W;obtain⟨y,hy⟩:∃ y,vs[j]?=some y:=⟨_,Ab (by omega)⟩
   have ak:seqIndex? (j:Int) vs.length=some j:=by
    unfold seqIndex?;simp;omega
   refine⟨L,_,_,j,y,rfl,rfl,ae,by omega,by omega,ak,hy,a2,vs.eraseIdx j,_,rfl,?_,?_,by omega,by omega,by rw[Au,Z];rfl,aH,?_,?_⟩
   ·obtain⟨⟨z,hz,e⟩,ce,ge,sm⟩:=an;exact⟨⟨z,hz,by rw[bM af.symm];exact e⟩,by rw[bM ag.symm];exact ce,ge,sm⟩
   ·intro b o e ne;rw[bM (aY e hL)];exact(B.trans W) b o e ne
   ·rw[CV (by omega)];omega
   ·rw[Bg];exact(Bu ys (pQ vs j y hy)).trans J
  ·rintro ys σ' H1 ⟨a1,vs,o,rfl,q,B,ah,ad,Z,M,ai,J⟩ D hD;have sD:=aV (o:=.lst ys) hD;have ao:vs=[]:=CH (by have:=Bm xs.length;omega);rw[ao,Cg]at J;have ac:H D=none:=by
    cases e:H D with
    | none=>rfl
    | some x=>
     by_cases z:D=p
     ·obtain⟨y,_,e2⟩:=q.ob;rw[z]at hD;rw[hD]at e2;cases e2
     ·exact absurd (B D x e z) (by rw[hD];simp)
   exact k D ys a1 _ ac aH J (by omega) (by have:=Bm xs.length;omega) (q.same sD) (B.same sD)
def hid(F:Ag)(H:Hp):Hp:=fun a=>if a=F then none else H a
theorem aHw{F:Ag}{H:Hp}{o:HO}:hid F (upd H F o)=hid F H:=by
 funext a;unfold hid;by_cases h:a=F
 ·rw[Ib h,Ib h]
 ·rw[Ia h,Ia h,bM h]
theorem jW{F a:Ag}{H:Hp}{o:HO}(h:hid F H a=some o):a≠F∧H a=some o:=by
 unfold hid at h;by_cases z:a=F
 ·rw[Ib z]at h;cases h
 ·rw[Ia z]at h;exact⟨z,h⟩
theorem pR{F a:Ag}{H:Hp}{o:HO}(n:a≠F)(h:H a=some o):hid F H a=some o:=by
 unfold hid;rw[Ia n];exact h
theorem n8{F:Ag}{H H':Hp}{m:Bool}{xs:List V}{ds:List Ai}(r:cJ m (hid F H) xs ds)(k:∀ a o,a≠F→H a=some o→(∀ q r,o≠.dK (q :: r))→H' a=some o):cJ m (hid F H') xs ds:=
 r.keep fun a o e n=>by
  obtain⟨z,e'⟩:=jW e;exact pR z (k a o z e' n)
theorem aHx{F:Ag}{H:Hp}{m:Bool}{xs:List V}{ds:List Ai}(r:cJ m (hid F H) xs ds):cJ m H xs ds:=r.keep fun a o e _=>(jW e).2
theorem aJc{F:Ag}{H H':Hp}{m:Bool}{xs:List V}{ds:List Ai}(r:cJ m H xs ds)(hF:H F=none)(s:bW H H'):cJ m (hid F H') xs ds:=
 r.keep fun a o e _=>pR (fun z=>by rw[z,hF]at e;cases e) (s a o e)
theorem cJ.set{m:Bool}{H:Hp}:∀{xs:List V}{ds:List Ai}{j:Nat}{x:V}{d:Ai},cJ m H xs ds→RdV m H x d→cJ m H (xs.set j x) (ds.set j d)
 | _,_,_,_,_,.nil,_=>.nil
 | _,_,0,_,_,.cons a r,h=>.cons h r
 | _,_,j + 1,_,_,.cons a r,h=>.cons a (cJ.set r h)
theorem aGs{m:Bool}{H:Hp}:∀{ys xs:List V},ys.Perm xs→∀{ds:List Ai},cJ m H xs ds→∃ es:List Ai,es.Perm ds∧cJ m H ys es:=by
 intro ys xs O
 induction O with
 | nil=>intro ds r;exact⟨ds,.refl _,r⟩
 | cons a _ U=>
  intro ds r;cases r with
  | cons B z=>
   obtain⟨es,h1,h2⟩:=U z;exact⟨_ :: es,h1.cons _,.cons B h2⟩
 | swap a b l=>
  intro ds r;cases r with
  | cons B z=>
   cases z with
   | cons J M=>exact⟨_ :: _ :: _,.swap _ _ _,.cons J (.cons B M)⟩
 | trans _ _ F q=>
  intro ds r;obtain⟨es,h1,h2⟩:=q r;obtain⟨fs,h3,h4⟩:=F h2;exact⟨fs,h3.trans h1,h4⟩
theorem tI{α:Type}(f:α→Ai):∀{l z:List Ai},l.Perm z→∀{R:List α},z=R.map f→∃ T:List α,T.Perm R∧l=T.map f:=by
 intro l z J
 induction J with
 | nil=>intro R e;exact⟨R,.refl _,e⟩
 | cons a _ F=>
  intro R e;cases R with
  | nil=>cases e
  | cons x R=>
   injection e with e1 e2;obtain⟨T,h1,h2⟩:=F e2;exact⟨x :: T,h1.cons _,by rw[e1,h2];rfl⟩
 | swap a b l=>
  intro R e;cases R with
  | nil=>cases e
  | cons x R=>
   cases R with
   | nil=>injection e with e1 e2;cases e2
   | cons y R=>
    injection e with e1 e2;injection e2 with e2 e3;exact⟨y :: x :: R,.swap _ _ _,by rw[e1,e2,e3];rfl⟩
 | trans _ _ q B=>
  intro R e;obtain⟨T,h1,h2⟩:=B e;obtain⟨U,h3,h4⟩:=q h2;exact⟨U,h3.trans h1,h4⟩
inductive kZ:Ai→Ai→Prop
 | same {d:Ai} (h:eI d=false):kZ d d
 | lst {es gs:List Ai} (hp:(gs.map (dQ 1)).Perm es):kZ (.tuple es) (.list gs)
 | tup {es gs:List Ai} (hp:(gs.map (dQ 1)).Perm es):kZ (.tuple es) (.tuple gs)
theorem aHy{d:Ai}(h:eI d=false)(n:Nat):dQ n d=d:=by
 cases n with
 | zero=>rfl
 | succ n=>
  cases d with
  | list ds=>simp[eI]at h
  | tuple ds=>simp[eI]at h
  | _=>rfl
theorem kZ.two{d g:Ai}(h:kZ d g):dQ 2 g=d∨∃ es z,d=.tuple es∧dQ 2 g=.tuple z∧z.Perm es:=by
 cases h with
 | same h=>exact .inl (aHy h 2)
 | @lst es gs q=>exact .inr ⟨es,gs.map (dQ 1),rfl,rfl,q⟩
 | @tup es gs q=>exact .inr ⟨es,gs.map (dQ 1),rfl,rfl,q⟩
inductive gY:List Ai→List Ai→Prop
 | nil:gY [] []
 | cons {d g:Ai} {ds gs:List Ai} (h:kZ d g) (r:gY ds gs):gY (d :: ds) (g :: gs)
theorem gY.of:∀{ds gs:List Ai},ds.length=gs.length→(∀(j:Nat) (d g:Ai),ds[j]?=some d→gs[j]?=some g→kZ d g)→gY ds gs
 | [],[],_,_=>.nil
 | d :: ds,g :: gs,q,h=>.cons (h 0 d g rfl rfl) (gY.of (by simpa using q) fun j a b ha z=>h (j + 1) a b (by simpa using ha) (by simpa using z))
theorem gY.one{d:Ai}{ds gs:List Ai}(h:gY (d :: ds) gs)(hd:eI d=false):∃ q,gs.map (dQ 2)=d :: q.map (dQ 2)∧gY ds q:=by
 cases h with
 | @cons _ g _ q h r=>
  refine⟨q,?_,r⟩;rw[A4];rcases h.two with e | ⟨es,z,e,_⟩
  ·rw[e]
  ·rw[e]at hd;simp[eI]at hd
theorem gY.tup{es ds gs:List Ai}(h:gY (.tuple es :: ds) gs):∃ F q,gs.map (dQ 2)=.tuple F :: q.map (dQ 2)∧F.Perm es∧gY ds q:=by
 cases h with
 | @cons _ g _ q h r=>
  cases h with
  | same h=>simp[eI]at h
  | @lst _ z B=>exact⟨z.map (dQ 1),q,rfl,B,r⟩
  | @tup _ z B=>exact⟨z.map (dQ 1),q,rfl,B,r⟩
theorem gY.end{gs:List Ai}(h:gY [] gs):gs.map (dQ 2)=[]:=by cases h;rfl
theorem v9{word name:Str}{day:Int}{ds gs:List Ai}(h:fV word ds)(ha:gY (.str word :: .str name :: .int day :: ds) gs):nM (.tuple (gs.map (dQ 2))) (gJ word name day ds):=by
 obtain⟨g1,e1,h1⟩:=ha.one rfl;obtain⟨g2,e2,h2⟩:=h1.one rfl;obtain⟨g3,e3,h3⟩:=h2.one rfl;rw[e1,e2,e3];cases h with
 | @part F R hl O M J q=>
  obtain⟨g4,e4,h4⟩:=h3.one rfl;obtain⟨ls,g5,e5,hp,h5⟩:=h4.tup;rw[e4,e5,h5.end];obtain⟨T,hT,rfl⟩:=tI pD hp rfl;have U:=hT.length_eq;refine .part hT O (by omega) (by omega) ?_;rw[A8]at q ⊢;exact fun x Y=>q x ((hT.map pD).mem_iff.mp Y)
 | @join F R hl O M J q=>
  obtain⟨ls,g4,e4,hp,h4⟩:=h3.tup;obtain⟨g5,e5,h5⟩:=h4.one rfl;rw[e4,e5,h5.end];obtain⟨T,hT,rfl⟩:=tI AQ hp rfl;have U:=hT.length_eq;refine .join hT O (by omega) ?_;rw[A8]at q ⊢;exact fun x Y=>q x ((hT.map AQ).mem_iff.mp Y)
 | @forfeit F z hl W=>
  obtain⟨g4,e4,h4⟩:=h3.one rfl;obtain⟨g5,e5,h5⟩:=h4.one rfl;rw[e4,e5,h5.end];exact .other (by decide) (by decide)
 | @measure B n Z h0 ac=>
  obtain⟨g4,e4,h4⟩:=h3.one rfl;obtain⟨g5,e5,h5⟩:=h4.one rfl;rw[e4,e5,h5.end];exact .other (by decide) (by decide)
 | @mend z other W ho ad=>
  obtain⟨g4,e4,h4⟩:=h3.one rfl;obtain⟨g5,e5,h5⟩:=h4.one rfl;rw[e4,e5,h5.end];exact .other (by decide) (by decide)
 | @alone z W=>
  obtain⟨g4,e4,h4⟩:=h3.one rfl;rw[e4,h4.end];exact .short (by simp)
 | @breach B n1 n2 n3 Z _ _ _ _ _ _=>
  obtain⟨g4,e4,h4⟩:=h3.one rfl;obtain⟨g5,e5,h5⟩:=h4.one rfl;obtain⟨g6,e6,J⟩:=h5.one rfl;obtain⟨g7,e7,h7⟩:=J.one rfl;rw[e4,e5,e6,e7,h7.end];exact .short (by simp)
 | @view B z n1 Z _ _ W=>
  obtain⟨g4,e4,h4⟩:=h3.one rfl;obtain⟨g5,e5,h5⟩:=h4.one rfl;obtain⟨g6,e6,J⟩:=h5.one rfl;rw[e4,e5,e6,J.end];exact .short (by simp)
def nE:Ai→Bool
 | .str _=>true
 | .tuple es=>es.all fun e=>!eI e
 | _=>false
theorem fV.inner{word:Str}{ds:List Ai}(h:fV word ds):∀ d∈ds,eI d=false∨∃ es,d=.tuple es∧es.length≤6∧es.all nE=true:=by
 intro d hd;cases h with
 | @part z R O U F B q=>
  simp only[An,Az,or_false]at hd;rcases hd with rfl | rfl
  ·exact .inl rfl
  ·refine .inr ⟨_,rfl,by rw[Ad];exact B,?_⟩;rw[DD,A8];exact fun x _=>rfl
 | @join z R O U F B q=>
  simp only[An,Az,or_false]at hd;rcases hd with rfl | rfl
  ·refine .inr ⟨_,rfl,by rw[Ad];exact B,?_⟩;rw[DD,A8];exact fun x _=>rfl
  ·exact .inl rfl
 | forfeit O J=>
  simp only[An,Az,or_false]at hd;rcases hd with rfl | rfl <;> exact .inl rfl
 | measure M h0 W=>
  simp only[An,Az,or_false]at hd;rcases hd with rfl | rfl <;> exact .inl rfl
 | mend J Z Y=>
  simp only[An,Az,or_false]at hd;rcases hd with rfl | rfl <;> exact .inl rfl
 | alone J=>
  simp only[An,Az,or_false]at hd;rcases hd with rfl;exact .inl rfl
 | breach M _ _ _ _ _ _=>
  simp only[An,Az,or_false]at hd;rcases hd with rfl | rfl | rfl | rfl <;> exact .inl rfl
 | view M _ _ J=>
  simp only[An,Az,or_false]at hd;rcases hd with rfl | rfl | rfl <;> exact .inl rfl
theorem yQ{e:Ai}(h:nE e=true):dQ 1 e=e∧∀ ds,e=.tuple ds→dQ 1 (.list ds)=e:=by
 cases e with
 | str z=>exact⟨rfl,fun ds z=>nomatch z⟩
 | tuple ds=>
  have q:ds.map (dQ 0)=ds:=by
   have:∀ l:List Ai,l.map (dQ 0)=l:=fun l=>by
    induction l with
    | nil=>rfl
    | cons a l B=>rw[A4,B];rfl
   exact this ds
  refine⟨?_,fun F z=>?_⟩
  ·show Dw (ds.map (dQ 0))=_;rw[q]
  ·cases z;show Dw (ds.map (dQ 0))=_;rw[q]
 | _=>simp[nE]at h
def nG(e:Ai):Prop:=(eI e=false∧OkD 102 0 e)∨∃ is:List Ai,e=.tuple is∧is.length≤3∧∀ i∈is,OkD 102 0 i
theorem qM:∀ l:List Ai,l.map (dQ 0)=l
 | []=>rfl
 | a :: l=>by rw[A4,qM l];rfl
theorem aHz{g:Ai}(h:nG (dQ 1 g)):OkD 315 1 g:=by
 have go:∀ q:List Ai,nG (.tuple q)→q.length≤3∧∀ i∈q,OkD 102 0 i:=fun q z=>by
  rcases z with⟨z,_⟩ | ⟨is',z,h1,h2⟩
  ·simp[eI]at z
  ·cases z;exact⟨h1,h2⟩
 cases g with
 | list q=>
  have h':nG (.tuple (q.map (dQ 0))):=h;rw[qM]at h';obtain⟨h1,h2⟩:=go q h';exact OkD.list h2 h1
 | tuple q=>
  have h':nG (.tuple (q.map (dQ 0))):=h;rw[qM]at h';obtain⟨h1,h2⟩:=go q h';exact OkD.tuple h2 h1
 | _=>
  rcases h with⟨_,z⟩ | ⟨_,z,_⟩
  ·exact OkD.mono z (by decide) (by decide)
  ·cases z
theorem fV.ok{word:Str}{ds:List Ai}(h:fV word ds):∀ d∈ds,(eI d=false∧OkD 102 0 d)∨∃ es,d=.tuple es∧es.length≤6∧∀ e∈es,nG e:=by
 have nm:∀{z:Str},cC z=true→eI (AQ z)=false∧OkD 102 0 (.str z):=fun h=>⟨rfl,OkD.name h⟩
 have it:∀{i:Int},0≤i→i≤1000000000→eI (C2 i)=false∧OkD 102 0 (.int i):=fun Z h1=>⟨rfl,OkD.int Z (DR h1 (by decide))⟩
 intro d hd;cases h with
 | @part W R U hr ab Y q=>
  simp only[An,Az,or_false]at hd;rcases hd with rfl | rfl
  ·exact .inl (nm U)
  ·refine .inr ⟨_,rfl,by rw[Ad];exact Y,fun e M=>?_⟩;obtain⟨x,hx,rfl⟩:=Bs.mp M;have hp:=A8.mp q _ M;have B:(cC x.1 && cC x.2.1 && decide (1≤x.2.2∧x.2.2≤10000000))=true:=hp;rw[AH,AH]at B;have hb:=Ie B.2;refine .inr ⟨_,rfl,by simp,fun i hi=>?_⟩;simp only[An,Az,or_false]at hi;rcases hi with rfl | rfl | rfl
   ·exact(nm B.1.1).2
   ·exact(nm B.1.2).2
   ·exact(it (by omega) (by omega)).2
 | @join W R U hr ab Y q=>
  simp only[An,Az,or_false]at hd;rcases hd with rfl | rfl
  ·refine .inr ⟨_,rfl,by rw[Ad];exact Y,fun e M=>?_⟩;obtain⟨x,hx,rfl⟩:=Bs.mp M;exact .inl (nm (A8.mp q _ M))
  ·exact .inl (nm U)
 | forfeit U J=>
  simp only[An,Az,or_false]at hd;rcases hd with rfl | rfl
  ·exact .inl (nm U)
  ·exact .inl (nm J)
 | measure O Z ai=>
  simp only[An,Az,or_false]at hd;rcases hd with rfl | rfl
  ·exact .inl (nm O)
  ·exact .inl (it Z (by omega))
 | mend J ho ak=>
  simp only[An,Az,or_false]at hd;rcases hd with rfl | rfl
  ·exact .inl (nm J)
  ·exact .inl (nm ho)
 | alone J=>
  simp only[An,Az,or_false]at hd;rcases hd with rfl;exact .inl (nm J)
 | breach O F ac aa ag ad aj=>
  simp only[An,Az,or_false]at hd;rcases hd with rfl | rfl | rfl | rfl
  ·exact .inl (nm O)
  ·exact .inl (it F (by omega))
  ·exact .inl (it aa (by omega))
  ·exact .inl (it ad (by omega))
 | view O F ac J=>
  simp only[An,Az,or_false]at hd;rcases hd with rfl | rfl | rfl
  ·exact .inl (nm O)
  ·exact .inl (it F (by omega))
  ·exact .inl (nm J)
theorem gY.mem:∀{ds gs:List Ai}{g:Ai},gY ds gs→g∈gs→∃ d∈ds,kZ d g
 | _,_,_,.nil,h=>by simp at h
 | _,_,_,.cons h r,q=>by
  rcases An.mp q with rfl | z
  ·exact⟨_,by simp,h⟩
  ·obtain⟨d,hd,hi⟩:=gY.mem r z;exact⟨d,by simp[hd],hi⟩
theorem gY.len:∀{ds gs:List Ai},gY ds gs→gs.length=ds.length
 | _,_,.nil=>rfl
 | _,_,.cons _ r=>by rw[A5,A5,gY.len r]
theorem aCu{w:Str}(h:w∈fE):cC w=true:=by
 have:∀ w∈fE,cC w=true:=by decide
 exact this w h
theorem fV.word{word:Str}{ds:List Ai}(h:fV word ds):word∈fE:=by
 cases h <;> decide
theorem fV.len{word:Str}{ds:List Ai}(h:fV word ds):ds.length≤4:=by
 cases h <;> simp
theorem aGt{word name:Str}{day:Int}{ds:List Ai}(h:fV word ds)(hn:cC name=true)(q:0≤day)(h1:day≤9999):∀ d∈(AQ word :: AQ name :: C2 day :: ds),(eI d=false∧OkD 102 0 d)∨∃ es,d=.tuple es∧es.length≤6∧∀ e∈es,nG e:=fun d hd=>by
 simp only[An]at hd;rcases hd with rfl | rfl | rfl | hd
 ·exact .inl ⟨rfl,OkD.name (aCu h.word)⟩
 ·exact .inl ⟨rfl,OkD.name hn⟩
 ·exact .inl ⟨rfl,OkD.int q (DR h1 (by decide))⟩
 ·exact h.ok d hd
theorem yR{J gs:List Ai}(h:∀ d∈J,(eI d=false∧OkD 102 0 d)∨∃ es,d=.tuple es∧es.length≤6∧∀ e∈es,nG e)(ha:gY J gs)(Z:J.length≤7):OkD 13352 3 (.list gs)∧OkD 13352 3 (.tuple gs):=by
 have hl:=ha.len;have B:∀ g∈gs,OkD 1905 2 g:=fun g U=>by
  obtain⟨d,hd,hi⟩:=ha.mem U;have q:∀{es M:List Ai},Dw es∈J→(M.map (dQ 1)).Perm es→M.length≤6∧∀ x∈M,OkD 315 1 x:=fun{es M} hm F=>by
   rcases h _ hm with⟨z,_⟩ | ⟨es',z,h6,hs⟩
   ·simp[eI]at z
   ·cases z;have O:=F.length_eq;rw[Ad]at O;exact⟨by omega,fun x Y=>aHz (hs _ (F.mem_iff.mp (Bs.mpr ⟨x,Y,rfl⟩)))⟩
  cases hi with
  | same W=>
   rcases h _ hd with⟨_,z⟩ | ⟨es,rfl,_⟩
   ·exact OkD.mono z (by decide) (by decide)
   ·simp[eI]at W
  | lst F=>
   obtain⟨m1,m2⟩:=q hd F;exact OkD.list m2 m1
  | tup F=>
   obtain⟨m1,m2⟩:=q hd F;exact OkD.tuple m2 m1
 exact⟨OkD.list (n:=7) B (by omega),OkD.tuple (n:=7) B (by omega)⟩
theorem gY.refl_of:∀{q:List Ai},(∀ d∈q,eI d=false∨∃ es,d=.tuple es∧es.all nE=true)→gY q q
 | [],_=>.nil
 | d :: q,h=>by
  refine .cons ?_ (gY.refl_of fun x F=>h x (by simp[F]));rcases h d (by simp)with z | ⟨es,rfl,hs⟩
  ·exact .same z
  ·refine .tup ?_;have:es.map (dQ 1)=es:=by
    have:∀ l:List Ai,l.all nE=true→l.map (dQ 1)=l:=fun l=>by
     induction l with
     | nil=>intro _;rfl
     | cons a l B=>
      intro z;rw[CF,AH]at z;rw[A4,(yQ z.1).1,B z.2]
    exact this es hs
   rw[this]
inductive aDj(H H':Hp)(x:V):Prop
 | mk (q:_) (xs:_) (q0:x=.ref q) (q1:H q=none) (q2:(H' q=some (.lst xs)∨H' q=some (.tup xs))) (q3:∀ b,V.ref b∈xs→∀ ys,H' b=some (.lst ys)→H b=none∧b≠q):aDj H H' x
def aJ7(H H':Hp)(x:V):Prop:=aDj H H' x
inductive wA(vs:List V)(H:Hp)(Q:VK)(u3_:XK):Prop
 | mk (p c:Ag) (ns:List Int) (a:Int) (tr:Ag) (word name:Str) (day:Int) (ds:List Ai) (q0:vs=[.ref p,.ref tr]) (q1:cV H p c ns a) (q2:a≤700000) (q3:RdV false H (.ref tr) (gJ word name day ds)) (q4:fV word ds) (q5:cC name=true) (q6:0≤day) (q7:day≤9999) (q8:∀(x:V) (d2:Ai) (a':Int) (H':Hp),RdV true H' x d2→OkD 13352 3 d2→nM (dQ 3 d2) (gJ word name day ds)→aJ7 H H' x→a≤a'→a'≤a + 200→cV H' p c ns a'→aZ p H H'→Q x H'):wA vs H Q u3_
def aBt:Sp:=fun vs H Q u3_=>wA vs H Q u3_
theorem aHA{H:Hp}{p c b:Ag}{ns:List Int}{a:Int}{o:HO}(q:cV H p c ns a)(h1:b≠p)(h2:b≠c):cV (upd H b o) p c ns a:=by
 obtain⟨⟨z,hz,e⟩,ce,ge,sm⟩:=q;exact⟨⟨z,hz,by rw[bM h1.symm];exact e⟩,by rw[bM h2.symm];exact ce,ge,sm⟩
theorem aBu{H:Hp}{p c b:Ag}{ns:List Int}{a:Int}(q:cV H p c ns a)(h:H b=none):b≠p∧b≠c:=by
 refine⟨?_,(aY q.ce h).symm⟩;obtain⟨z,_,e⟩:=q.ob;exact(aY e h).symm
theorem aBv{H H':Hp}{p c b:Ag}{ns:List Int}{a:Int}(k:aZ p H H')(q:cV H' p c ns a)(h:H' b=none):H b=none:=by
 cases e:H b with
 | none=>rfl
 | some x=>exact absurd (k b x e (aBu q h).1) (by rw[h];simp)
theorem aGu{H:Hp}{b:Ag}:∀{xs:List V}{ds:List Ai},cJ false H xs ds→V.ref b∈xs→∃ o,H b=some o∧∀ ys,o≠.lst ys
 | _,_,.nil,h=>by simp at h
 | _,_,.cons a r,h=>by
  rcases An.mp h with z | z
  ·cases a with
   | lst hm e q r=>cases hm
   | tup e q r=>cases z;exact⟨_,e,fun ys z=>nomatch z⟩
   | dct hm e=>cases z;exact⟨_,e,fun ys z=>nomatch z⟩
   | _=>cases z
  ·exact aGu r z
theorem qN:∀ R:List P3,AX (R.map pD)=false
 | []=>rfl
 | x :: R=>by
  show((pD x).hasDict || AX (R.map pD))=false;rw[qN R];rfl
theorem tJ:∀ R:List Str,AX (R.map AQ)=false
 | []=>rfl
 | x :: R=>by
  show((AQ x).hasDict || AX (R.map AQ))=false;rw[tJ R];rfl
theorem fV.nodict{word:Str}{ds:List Ai}(h:fV word ds):AX ds=false:=by
 cases h with
 | @part q R _ _ _ _ _=>
  show(false || (AX (R.map pD) || false))=false;rw[qN];rfl
 | @join q R _ _ _ _ _=>
  show(AX (R.map AQ) || (false || false))=false;rw[tJ];rfl
 | _=>rfl
theorem aHB{F:Ag}{H H':Hp}{m:Bool}{x:V}{d:Ai}(r:RdV m H x d)(hF:H F=none)(k:∀ a o,H a=some o→(∀ q r,o≠.dK (q :: r))→H' a=some o):RdV m (hid F H') x d:=
 r.keep fun a o e n=>pR (fun z=>by rw[z,hF]at e;cases e) (k a o e n)
theorem aAc{H:Hp}{b:Ag}:∀{xs:List V}{ds:List Ai},cJ true H xs ds→V.ref b∈xs→∃ o,H b=some o∧∀ B r,o≠.dK (B :: r)
 | _,_,.nil,h=>by simp at h
 | _,_,.cons a r,h=>by
  rcases An.mp h with z | z
  ·cases a with
   | lst hm e q r=>cases z;exact⟨_,e,fun _ _ z=>nomatch z⟩
   | tup e q r=>cases z;exact⟨_,e,fun _ _ z=>nomatch z⟩
   | dct hm e=>cases hm
   | _=>cases z
  ·exact aAc r z
theorem aHC{H0 H:Hp}{p b:Ag}{o:HO}(k:aZ p H0 H)(h:H0 b=none):aZ p H0 (upd H b o):=fun a u e ne=>by
 rw[bM (aY e h)];exact k a u e ne
theorem oA:bY ["_law_pen_here","_law_row_here","_law_found","_law_at","_law_some_here"] ["_law_pen_here","_law_row_here"] (aO m9):=⟨rfl,rfl,rfl,by decide,rfl,by decide,by decide⟩
theorem aEy{f:Ag}{fd:AK}(F:Fun K "_law_listed" "_law_listed" m9 f fd)(T:Txt K mg)(aj:mg "list"=none)(bq:mg "range"=none)
  (GT:Cl P w K mg base 1 "_law_take" ["_law_pen_here","_law_many"] iO)
  (GU:Cl P w K mg base 2 "_law_turned" ["_law_pen_here","_law_some_here"] aBr):
  cY P w K mg base CX0 3 f fd ["_law_pen_here","_law_row_here"] aBt:=by
 refine F.ok oA (fun vs H Q E h=>?_) (fun dv A outer s H vs Q E hr h=>?_)
 ·obtain⟨p,c,ns,a,tr,word,name,day,ds,rfl,_⟩:=h;rfl
 ·obtain⟨p,c,ns,a,tr,word,name,day,ds,rfl,hp,ha,hrd,hS,hnm,hday0,hday1,k⟩:=h;have bc:cZ 1 _:=hr.mono (by decide);refine⟨_,aM (bQ (i:=2) oA.nd rfl (AE rfl) (cQ eD (by rfl) aj (by kernel_rfl) (aG (pv 1) aF)))
   (aM (mV Cr rfl (fM rfl bq (aG (aX bE (by rfl) T.len AO (aG (pv 1) aF)) aF)) (bJ (i:=3) oA.nd rfl (AE rfl))
    (aW (c8 (dO (aX dH (by rfl) T.isi (by kernel_rfl) (aG (cH c5 (pv 1) (pv 3) Ig) (aG (dL (v:=.ty "tuple") (by rfl) T.tuple (by kernel_rfl) rfl) aF))))
     (aM (bQ (i:=4) oA.nd rfl (AE rfl) (bG GU hr (aG (pv 0) (aG (cH c5 (pv 1) (pv 3) Ig) aF))))
     (aM (jO (i:=4) (N:=["_law_one","_law_pen_here"]) (src:=[none,some 0]) (osc:=aO m9) (oN:=["_law_pen_here","_law_row_here","_law_found","_law_at","_law_some_here"]) ⟨by rfl,by decide,by decide,by decide,rfl,by rfl⟩ oA.nd rfl
       (i5 (pv 4))
       fun cl s H fp di C=>⟨bJ (i:=0) (show(["_law_one","_law_pen_here"]:List Str).Nodup by decide) rfl (AE rfl),dW,aEJ (PW.pt (nT (dO (aX (r:=o0 K) dH (by rfl) T.isi (by kernel_rfl) (aG (pv 0) (aG (dL (v:=.ty "tuple") (by rfl) T.tuple (by kernel_rfl) rfl) aF)))) (j0 (cA eY (bG GT bc (aG (pv 1) (aG aQ aF))) aQ (cM _))))) (cQ (r:=jN K) eD (by rfl) aj (by kernel_rfl) (aG (pv 0) aF)) (pv 0)⟩)
     (aW (iY (cH dB (dP (aG (pv 4) (aG (cQ cX (by rfl) T.tuple (by kernel_rfl) (aG (pv 4) aF)) aF))) (bG GT bc (aG (pv 0) (aG aQ aF))) Ig) (aEL (pv 2) (pv 3) aAp))))) b8)))
   (aW (bC (cH dB (dP (aG (pv 2) (aG (cQ cX (by rfl) T.tuple (by kernel_rfl) (aG (pv 2) aF)) aF))) (bG GT bc (aG (pv 0) (aG aQ aF))) Ig)))),?_⟩
  have aK:RdV false H (.ref tr) (.tuple (.str word :: .str name :: .int day :: ds)):=hrd;have bd:∀ d∈(AQ word :: AQ name :: C2 day :: ds),eI d=false∨∃ es,d=.tuple es∧es.length≤6∧es.all nE=true:=fun d hd=>by
   simp only[An]at hd;rcases hd with rfl | rfl | rfl | hd
   ·exact .inl rfl
   ·exact .inl rfl
   ·exact .inl rfl
   ·exact hS.inner d hd
  have bw:AX (AQ word :: AQ name :: C2 day :: ds)=false:=by
   show(false || (false || (false || AX ds)))=false;rw[hS.nodict];rfl
  have bj:(AQ word :: AQ name :: C2 day :: ds).length≤7:=by
   have:=hS.len;simp only[A5];omega
  have ab:∀ gs,gY (AQ word :: AQ name :: C2 day :: ds) gs→nM (.tuple (gs.map (dQ 2))) (gJ word name day ds):=fun gs h=>v9 hS h;have hok:∀ gs,gY (AQ word :: AQ name :: C2 day :: ds) gs→OkD 13352 3 (.list gs)∧OkD 13352 3 (.tuple gs):=fun gs h=>yR (aGt hS hnm hday0 hday1) h bj;generalize (AQ word :: AQ name :: C2 day :: ds)=dF at aK bd bw bj ab hok;generalize gJ word name day ds=dR at ab k;clear hrd hS;cases aK with
  | @tup _ xs _ e hl r=>
  have c6:=r.len;have r3:=r.flip bw true;refine⟨_,rfl,tr,_,rfl,.inr (bI e),fun F hF=>?_⟩;have s0:=aV (o:=.lst xs) hF;obtain⟨nFp,nFc⟩:=aBu hp hF;refine⟨_,rfl,tr,_,rfl,.inr (bI (s0 _ _ e)),xs.length,rfl,by omega,by omega,k9 (n:=(xs.length:Int).toNat) (fun i σ H'=>Ex3 fun(o3 o4:Option V) (a':Int)=>∃(fs:List V) (gs:List Ai),Aw6 (σ=[some (.ref p),some (.ref tr),some (.ref F),o3,o4]) (cV H' p c ns a') (a≤a') (a'≤a + 20 * i) (aZ p H H') (Aw3 (H' F=some (.lst fs)) (cJ true (hid F H') fs gs) (Aw3 (gs.length=dF.length) ((∀(j:Nat) (d g:Ai),dF[j]?=some d→gs[j]?=some g→if j < i then kZ d g else g=d)) (∀ b,V.ref b∈fs→∀ ys,H' b=some (.lst ys)→H b=none∧b≠F))))
   ⟨_,_,a,xs,dF,rfl,hp.same s0,by omega,by omega,bW.but s0,aH,aJc r3 hF s0,rfl,(fun j d g h1 h2=>by
    rw[Ia (Nat.not_lt_zero j)];rw[h1]at h2;cases h2;rfl),fun b hb ys h=>by
     obtain⟨o,ho,hno⟩:=aGu r hb;rw[bM (aY ho hF),ho]at h;cases h;exact absurd rfl (hno ys)⟩ ?_ ?_⟩
  ·rintro i σ H1 hi ⟨o3,o4,a1,fs,gs,rfl,J,bz,ca,k1,am,rg,ah,au,ad⟩;dsimp only[dG];have cm:i < xs.length:=by have:=Bm xs.length;omega
   have e1:=k1 _ _ e (gH hp e (fun _ _ z=>nomatch z));obtain⟨y,hy⟩:∃ y,xs[i]?=some y:=⟨_,Ab cm⟩
   have bK:atI xs ((0:Int) + (i:Nat))=some y:=by
    rw[Hb];exact fG hy
   obtain⟨d,hd,rd⟩:=r3.at hy;have cq:=hX rd hp k1;have br:d∈dF:=AN hd;refine⟨_,rfl,_,rfl,tr,_,_,_,rfl,rfl,bI e1,bK,_,"tuple",_,_,rfl,kF cq,iU d,_,rfl,dY (fun g=>?_) (fun g=>?_)⟩
   ·obtain⟨es,rfl,hes6,hsm⟩:∃ es,d=.tuple es∧es.length≤6∧es.all nE=true:=by
     rcases bd d br with z | z
     ·cases d with
      | tuple es=>simp[eI]at z
      | _=>simp[gC]at g
     ·exact z
    cases rd with
    | @tup b zs _ eb dq rz=>
    have cT:=rz.len;have b0:=k1 _ _ eb (gH hp eb (fun _ _ z=>nomatch z));refine⟨_,rfl,_,rfl,_,rfl,tr,_,_,_,rfl,rfl,bI e1,bK,p,c,ns,a1,b,zs,rfl,J,by omega,b0,by omega,fun q ys a2 H2 hq bD bn dt dk aJ aB=>?_⟩;obtain⟨es',hes',rys⟩:=aGs bn rz;have dj:=rys.len;have dh:ys.length≤6:=by rw[bn.length_eq];omega
    have bu:∀ e∈es',nE e=true:=fun e he=>A8.mp hsm e (hes'.mem_iff.mp he);have k2:=k1.trans aB;have bm:=bH am J aB;refine⟨_,rfl,q,rfl,⟨_,bF bD⟩,?_⟩;refine jC (K:=K) (xs:=ys) (fun i2 us σ' H'=>Ex3 fun(a':Int) (o:Option V) (B:List Ai)=>Aw6 (σ'=[o,some (.ref p)]) (cV H' p c ns a') (aZ p H2 H') (a2≤a') (a'≤a2 + i2) (Aw3 (cJ true (hid F H') us B) (B.map (dQ 1)=es'.take i2) (us.length=i2)))
     ⟨a2,none,[],rfl,aJ,aZ.refl p H2,by omega,by omega,.nil,by simp,rfl⟩ (aS (by omega)) (fun i ys σ H p=>by obtain⟨_,_,_,_,_,_,_,_,_,_,e⟩:=p;omega) (fun i us σ H p=>by obtain⟨_,_,_,_,_,kk,_⟩:=p;exact bF (bH bD aJ kk)) ?_ ?_
    ·rintro i2 x us σ' H3 hx ⟨a3,o,B,rfl,M,k3,cz,cf,ru,eg,aU⟩;dsimp only[dG];have du:i2 < ys.length:=(AM.mp hx).1;obtain⟨e2,he2,rx⟩:=rys.at hx;have cy:=bu e2 (AN he2);obtain⟨t1,t2⟩:=yQ cy;have kA:aZ p H H3:=k2.trans k3;have b9:=hX rx hp kA;have an:=bH bm aJ k3;have bt:∀ g,dQ 1 g=e2→(B ++ [g]).map (dQ 1)=es'.take (i2 + 1):=fun g hg=>by
      rw[AY,eg,Bk,he2];show _ ++ [dQ 1 g]=_;rw[hg];rfl
     have aL:∀(H4:Hp) (a4:Int),cV H4 p c ns a4→aZ p H3 H4→a3≤a4→a4≤a3 + 1→Ex3 fun(a':Int) (o:Option V) (B:List Ai)=>Aw6 (([some x,some (.ref p)]:L2.St)=[o,some (.ref p)]) (cV H4 p c ns a') (aZ p H2 H4) (a2≤a') (a'≤a2 + ((i2 + 1:Nat):Int)) (Aw3 (cJ true (hid F H4) (us ++ [x]) B) (B.map (dQ 1)=es'.take (i2 + 1)) ((us ++ [x]).length=i2 + 1)):=fun H4 a4 az k4 l4 u4=>
      ⟨a4,_,B ++ [e2],rfl,az,k3.trans k4,by omega,by omega,cJ.app (n8 ru fun a o _ e n=>k4 a o e (gH M e n)) (.cons (aHB rx hF fun a o e n=>(kA.trans k4) a o e (gH hp e n)) .nil),bt e2 t1,by rw[Au,aU];rfl⟩
     refine dJ ?_;refine⟨_,rfl,_,"tuple",_,_,rfl,kF b9,iU e2,_,rfl,dY (fun g2=>?_) (fun g2=>?_)⟩
     ·refine⟨_,rfl,p,c,ns,a3,_,rfl,M,by omega,by decide,by decide,fun r4 a4 H4 dm dz cj b5 az af=>?_⟩;refine⟨rfl,_,rfl,dY (fun g3=>?_) (fun g3=>?_)⟩
      ·obtain⟨aA,rfl⟩:∃ aA,e2=.tuple aA:=by
        cases e2 with
        | tuple z=>exact⟨z,rfl⟩
        | _=>simp[gC]at g2
       cases rx with
       | @tup b2 bo _ bB bT cU=>
       have cN:=(kA.trans af) _ _ bB (gH hp bB (fun _ _ z=>nomatch z));refine⟨_,rfl,b2,bo,rfl,.inr (bI cN),fun L1 bp=>?_⟩;have aw:=aV (o:=.lst bo) bp;have b1:L1≠F:=(aY (bH an M af) bp).symm;refine⟨a4,_,B ++ [.list aA],rfl,az.same aw,(k3.trans af).same aw,by omega,by omega,cJ.app (n8 ru fun a o _ e n=>aw _ _ (af a o e (gH M e n))) (.cons (.lst rfl (pR b1 aH) bT (cU.keep fun a o e n=>pR (fun z=>by rw[z,hF]at e;cases e) (aw _ _ ((kA.trans af) a o e (gH hp e n))))) .nil),bt _ (t2 aA rfl),by rw[Au,aU];rfl⟩
      ·exact⟨_,rfl,aL H4 a4 az af cj b5⟩
     ·exact⟨_,rfl,aL H3 a3 M (aZ.refl p H3) (by omega) (by omega)⟩
    ·rintro us σ' H3 ⟨a3,o,B,rfl,M,k3,cz,cf,ru,eg,aU⟩ D hD;have an:=bH bm aJ k3;have kA:aZ p H H3:=k2.trans k3;have bx:D≠F:=(aY an hD).symm;have cK:H D=none:=aBv kA M hD;have sD:=aV (o:=.lst us) hD;refine⟨_,rfl,_,rfl,D,_,rfl,.inl ⟨bF aH,fun T2 ai=>?_⟩⟩;have sT:=aV (o:=.tup us) ai;refine⟨zZ2,fun W hW=>?_⟩;have sW:=aV (o:=.lst [V.ref D,.ref T2]) hW;have sA:=(sD.trans sT).trans sW;refine⟨_,rfl,p,c,ns,a3,_,rfl,M.same sA,by omega,by decide,by decide,fun r5 a5 Y a0 cw bU b4 ay U=>?_⟩;obtain⟨v,hv,hat5⟩:=gR (xs:=[V.ref D,.ref T2]) (i:=r5) a0 (by show r5 < 2;omega);have ao:aZ p H3 Y:=(bW.but sA).trans U;have aa:=M.same sA;have cv:Y D=some (.lst us):=bH (sW _ _ (sT _ _ aH)) aa U;have ae:Y T2=some (.tup us):=nC (sW _ _ aH) aa U;have be:Y W=some (.lst [V.ref D,.ref T2]):=bH aH aa U;have ax:=bH an M ao;have cD:T2≠F:=(aY (sD _ _ an) ai).symm;have bA:cJ true (hid F Y) us B:=n8 ru fun a o _ e n=>ao a o e (gH M e n);have ak:cJ true (hid F Y) fs gs:=n8 rg fun a o _ e n=>(aB.trans (k3.trans ao)) a o e (gH J e n);have bL:(B.map (dQ 1)).Perm es:=by
      rw[eg,Br (by omega)];exact hes'
     have aP:us.length≤1000:=by omega
     obtain⟨g2,rv,hg2,hvn⟩:∃ g2,RdV true (hid F Y) v g2∧kZ (.tuple es) g2∧∀ b ys,v=.ref b→Y b=some (.lst ys)→H b=none∧b≠F:=by
      simp only[An,Az,or_false]at hv;rcases hv with rfl | rfl
      ·exact⟨.list B,.lst rfl (pR bx cv) aP bA,.lst bL,fun b ys z _=>by cases z;exact⟨cK,bx⟩⟩
      ·exact⟨.tuple B,.tup (pR cD ae) aP bA,.tup bL,fun b ys z y=>by cases z;rw[ae]at y;cases y⟩
     have cb:fs.length=dF.length:=by rw[rg.len,ah]
     have cc:ixN fs.length ((0:Int) + (i:Nat))=some i:=by
      unfold ixN;rw[Hb,Ib (by omega),Ib (by omega)];simp
     refine⟨W,_,r5,_,rfl,rfl,bF be,hat5,_,rfl,_,rfl,F,fs,_,i,rfl,rfl,ax,cc,_,_,a5,fs.set i v,gs.set i g2,rfl,aHA ay nFp nFc,by omega,by omega,aHC (kA.trans ao) hF,aH,(by rw[aHw];exact cJ.set ak rv),by rw[Es];exact ah,fun j d' g' h1 h2=>?_,fun b hb ys O=>?_⟩
     ·by_cases aD:j=i
      ·subst aD;rw[Ib (BN _)];rw[hd]at h1;cases h1;rw[DZ (by omega)]at h2;cases h2;exact hg2
      ·rw[Fg (fun z=>aD z.symm)]at h2;have:=au j d' g' h1 h2;by_cases aq:j < i
       ·rw[Ib aq]at this;rw[Ib (by omega)];exact this
       ·rw[Ia aq]at this;rw[Ia (by omega)];exact this
     ·have cu:b≠F:=by
       rcases DF hb with z | z
       ·obtain⟨o,ho,_⟩:=aAc ak z;exact(jW ho).1
       ·subst z;cases rv with
        | lst hm e hl r=>exact(jW e).1
        | tup e hl r=>exact(jW e).1
        | dct hm e=>cases hm
      rw[bM cu]at O;rcases DF hb with z | z
      ·obtain⟨o,ho,hno⟩:=aAc rg z;have Z:=(jW ho).2;have ar:=(aB.trans (k3.trans ao)) b o Z (gH J Z hno);rw[O]at ar;cases ar;exact ad b z ys Z
      ·exact hvn b ys z.symm O
   ·have b7:eI d=false:=by
     rcases bd d br with z | ⟨es,rfl,_⟩
     ·exact z
     ·exact absurd rfl g
    refine⟨_,_,a1,fs,gs,rfl,J,bz,by omega,k1,am,rg,ah,fun j d' g' h1 h2=>?_,ad⟩;have:=au j d' g' h1 h2;by_cases aD:j=i
    ·subst aD;rw[Ib (BN _)];rw[Ia (Cf _)]at this;rw[hd]at h1;cases h1;rw[this];exact .same b7
    ·by_cases aq:j < i
     ·rw[Ib aq]at this;rw[Ib (by omega)];exact this
     ·rw[Ia aq]at this;rw[Ia (by omega)];exact this
  ·rintro σ H1 ⟨o3,o4,a1,fs,gs,rfl,J,bz,ca,k1,am,rg,ah,au,ad⟩;have dn:=Bm xs.length;have cb:fs.length=dF.length:=by rw[rg.len,ah]
   have ac:gY dF gs:=gY.of (by omega) fun j d g h1 h2=>by
    have hj:=(AM.mp h1).1;have:=au j d g h1 h2;rw[Ib (by omega)]at this;exact this
   refine⟨_,rfl,_,rfl,F,_,rfl,.inl ⟨bF am,fun T2 ai=>?_⟩⟩;have sT:=aV (o:=.tup fs) ai;refine⟨zZ2,fun W hW=>?_⟩;have sW:=aV (o:=.lst [V.ref F,.ref T2]) hW;have sA:=sT.trans sW;have aa:=J.same sA;refine⟨_,rfl,p,c,ns,a1,_,rfl,aa,by omega,by decide,by decide,fun r5 a5 Y a0 cw bU b4 ay U=>?_⟩;obtain⟨v,hv,hat5⟩:=gR (xs:=[V.ref F,.ref T2]) (i:=r5) a0 (by show r5 < 2;omega);have ap:aZ p H1 Y:=(bW.but sA).trans U;have be:Y W=some (.lst [V.ref F,.ref T2]):=bH aH aa U;have ax:=bH am J ap;have ae:Y T2=some (.tup fs):=nC (sW _ _ aH) aa U;have ak:cJ true Y fs gs:=aHx (n8 rg fun a o _ e n=>ap a o e (gH J e n));have cL:H T2=none:=aBv k1 J ai;have bv:∀ b,V.ref b∈fs→∀ ys,Y b=some (.lst ys)→H b=none∧b≠F:=fun b hb ys O=>by
    obtain⟨o,ho,hno⟩:=aAc rg hb;have Z:=(jW ho).2;have ar:=ap b o Z (gH J Z hno);rw[O]at ar;cases ar;exact ad b hb ys Z
   refine⟨W,_,r5,_,rfl,rfl,bF be,hat5,?_⟩;simp only[An,Az,or_false]at hv;rcases hv with rfl | rfl
   ·exact k _ (.list gs) a5 Y (.lst rfl ax (by omega) ak) (hok gs ac).1 (ab gs ac) ⟨F,fs,rfl,hF,.inl ax,bv⟩ (by omega) (by omega) ay (k1.trans ap)
   ·refine k _ (.tuple gs) a5 Y (.tup ae (by omega) ak) (hok gs ac).2 (ab gs ac) ⟨T2,fs,rfl,cL,.inr ae,fun b hb ys O=>⟨(bv b hb ys O).1,fun z=>?_⟩⟩ (by omega) (by omega) ay (k1.trans ap);rw[z,ae]at O;cases O
def c4:Ai→Bool
 | .tuple [f,h,a,i]=>cE f && cE h && dI 1 1000000 a && dI 0 10000000 i
 | _=>false
def aBw:Ai→Bool
 | .tuple ds=>decide (1≤ds.length∧ds.length≤8) && ds.all c4 && decide (ds.map c3).Nodup
 | _=>false
inductive yS(vs:List V)(H:Hp)(Q:VK)(u3_:XK):Prop
 | mk (m:Bool) (x:V) (d:Ai) (q0:vs=[x]) (q1:RdV m H x d) (q2:∀ H',bW H H'→Q (.bl (c4 d)) H'):yS vs H Q u3_
def aDk:Sp:=fun vs H Q u3_=>yS vs H Q u3_
inductive aDl(vs:List V)(H:Hp)(Q:VK)(u3_:XK):Prop
 | mk (m:Bool) (x:V) (d:Ai) (q0:vs=[x]) (q1:RdV m H x d) (q2:∀ H',bW H H'→Q (.bl (aBw d)) H'):aDl vs H Q u3_
def aH2:Sp:=fun vs H Q u3_=>aDl vs H Q u3_
theorem qO:bY ["thing","field","house","acres","inches"] ["thing"] (aO l9):=⟨rfl,rfl,rfl,by decide,rfl,by decide,by decide⟩
theorem aGv{f:Ag}{fd:AK}(F:Fun K "is_field" "is_field" l9 f fd)(T:Txt K mg)
  (GN:Cl P w K mg base 1 "is_name" ["thing"] jV)
  (GW:Cl P w K mg base 2 "is_whole" ["thing","least","most"] nB):
  cY P w K mg base CX0 3 f fd ["thing"] aDk:=by
 refine F.ok qO (fun vs H Q E h=>?_) (fun ag A outer s H vs Q E hr h=>?_)
 ·obtain⟨m,x,d,rfl,_⟩:=h;rfl
 ·obtain⟨m,x,d,rfl,hx,k⟩:=h;have J:cZ 1 _:=hr.mono (by decide);obtain⟨ta,hacres⟩:=T.fieldAcres;obtain⟨ti,hinches⟩:=T.inches;refine⟨_,aM (c8 (PW.pt (iD (dU (dO (aX dH (by rfl) T.isi (by kernel_rfl) (aG (pv 0) (aG (dL (v:=.ty "tuple") (by rfl) T.tuple (by kernel_rfl) rfl) aF)))))
    (fW (cA sJ (aX bE (by rfl) T.len AO (aG (pv 0) aF)) aQ (cM _))))) (aW (bC jK)) b8)
   (aM (iY (pv 0) (kM rfl (cO (bJ (i:=1) qO.nd rfl (AE rfl)) (cO (bJ (i:=2) qO.nd rfl (AE rfl)) (cO (bJ (i:=3) qO.nd rfl (AE rfl)) (cO (bJ (i:=4) qO.nd rfl (AE rfl)) iQ))))))
   (aM (c8 (PW.pt (iD (dU (dO (bG GN J (aG (pv 1) aF)))) (fW (dU (dO (bG GN J (aG (pv 2) aF))))))) (aW (bC jK)) b8)
   (aW (bC (d9 (bG GW hr (aG (pv 3) (aG aQ (aG (dS (v:=.int 1000000) (by rfl) hacres ⟨_,rfl⟩) aF)))) (gF (bG GW hr (aG (pv 4) (aG aQ (aG (dS (v:=.int 10000000) (by rfl) hinches ⟨_,rfl⟩) aF)))))))))),?_⟩
  refine⟨_,rfl,_,"tuple",_,_,rfl,kF hx,iU d,_,rfl,?_⟩;cases hd:gC d with
  | false=>
   have e:c4 d=false:=by
    cases d with
    | tuple ds=>simp[gC]at hd
    | _=>rfl
   rw[e]at k;exact k H (bW.refl H)
  | true=>
   obtain⟨ds,rfl⟩:∃ ds,d=.tuple ds:=by
    cases d with
    | tuple z=>exact⟨z,rfl⟩
    | _=>simp[gC]at hd
   cases hx with
   | @tup a xs _ e hl r=>
    have M:=r.len;refine dD ?_;refine⟨_,rfl,a,xs,rfl,.inr (bI e),rfl,_,rfl,?_⟩;by_cases O:xs.length=4
    ·rw[Ic (show V.int (xs.length:Int)=V.int 4 by rw[O];rfl)];refine dD ?_
     match xs,ds,O,r with
     | [x1,x2,x3,x4],[d1,d2,d3,d4],_,.cons r1 (.cons r2 (.cons r3 (.cons r4 .nil)))=>
      refine⟨_,rfl,a,_,rfl,bI e,rfl,_,_,rfl,_,_,rfl,_,_,rfl,_,_,rfl,rfl,?_⟩;have Z:∀ H',bW H H'→Q (.bl (cE d1 && cE d2 && dI 1 1000000 d3 && dI 0 10000000 d4)) H':=k;refine⟨_,rfl,m,x1,d1,rfl,r1,fun H1 B=>⟨_,rfl,?_⟩⟩;refine dY (fun g=>?_) (fun g=>?_)
      ·have W:cE d1=false:=by simpa using g
       have:=Z H1 B;rw[W]at this;exact this
      ·have W:cE d1=true:=by simpa using g
       refine⟨_,rfl,m,x2,d2,rfl,r2.same B,fun H2 U=>⟨_,rfl,?_⟩⟩;refine dY (fun g2=>?_) (fun g2=>?_)
       ·have q:cE d2=false:=by simpa using g2
        have:=Z H2 (B.trans U);rw[W,q]at this;exact this
       ·have q:cE d2=true:=by simpa using g2
        have:=Z H2 (B.trans U);rw[W,q,Ba,Ba]at this;refine⟨_,rfl,m,x3,d3,1,1000000,rfl,(r3.same B).same U,_,rfl,dY (fun g3=>?_) (fun g3=>?_)⟩
        ·rw[g3,Ba]at this;exact⟨_,rfl,m,x4,d4,0,10000000,rfl,(r4.same B).same U,this⟩
        ·have Y:dI 1 1000000 d3=false:=by simpa using g3
         rw[Y]at this;exact this
    ·rw[decide_eq_false (show¬ V.int (xs.length:Int)=V.int 4 from fun z=>O (by have:=V.int.inj z;omega))];refine dJ ?_;have e2:c4 (.tuple ds)=false:=by
      match ds,M with
      | [],_=>rfl
      | [_],_=>rfl
      | [_,_],_=>rfl
      | [_,_,_],_=>rfl
      | [_,_,_,_],h=>exact absurd (by simpa using h) O
      | _ :: _ :: _ :: _ :: _ :: _,_=>rfl
     have:=k H (bW.refl H);rw[e2]at this;exact this
theorem jX{d:Ai}(h:c4 d=true):∃(f:Str) (g a i:Ai),d=.tuple [.str f,g,a,i]∧cC f=true∧cE g=true∧dI 1 1000000 a=true∧dI 0 10000000 i=true:=by
 match d,h with
 | .tuple [.str f,g,a,i],h=>
  simp only[c4,cE,AH]at h;exact⟨f,g,a,i,rfl,h.1.1.1,h.1.1.2,h.1.2,h.2⟩
 | .tuple [.none,g,a,i],h=>simp[c4,cE]at h
 | .tuple [.bool _,g,a,i],h=>simp[c4,cE]at h
 | .tuple [.int _,g,a,i],h=>simp[c4,cE]at h
 | .tuple [.list _,g,a,i],h=>simp[c4,cE]at h
 | .tuple [.tuple _,g,a,i],h=>simp[c4,cE]at h
 | .tuple [.dict _,g,a,i],h=>simp[c4,cE]at h
theorem aHD{m:Bool}{H:Hp}{x:V}{d:Ai}(r:RdV m H x d)(h:c4 d=true):∃ a xs,x=.ref a∧H a=some (.tup xs)∧atI xs 0=some (V.str (c3 d)):=by
 obtain⟨f,g,a,i,rfl,_⟩:=jX h;cases r with
 | @tup a xs _ e _ r=>
  cases r with
  | cons q rs=>
   cases q;refine⟨a,_,rfl,e,?_⟩;unfold atI ixN;rw[Ib (by decide),Ib (by rw[A5];omega)];rfl
theorem aJ8:bY ["thing"] ["thing"] (aO gT):=⟨rfl,rfl,rfl,by decide,rfl,by decide,by decide⟩
theorem aJd{f:Ag}{fd:AK}(F:Fun K "is_laying" "is_laying" gT f fd)(T:Txt K mg)
  (GF:Cl P w K mg base 3 "is_field" ["thing"] aDk):
  cY P w K mg base CX0 4 f fd ["thing"] aH2:=by
 refine F.ok aJ8 (fun vs H Q E h=>?_) (fun ao A outer s H vs Q E hr h=>?_)
 ·obtain⟨m,x,d,rfl,_⟩:=h;rfl
 ·obtain⟨m,x,d,rfl,hx,k⟩:=h;obtain⟨tf,hfields⟩:=T.mostFields;refine⟨_,aM (c8 (PW.pt (iD (dU (dO (aX dH (by rfl) T.isi (by kernel_rfl) (aG (pv 0) (aG (dL (v:=.ty "tuple") (by rfl) T.tuple (by kernel_rfl) rfl) aF)))))
    (fW (dU (uH oW oW aQ (aX bE (by rfl) T.len AO (aG (pv 0) aF)) (dS (v:=.int 8) (by rfl) hfields ⟨_,rfl⟩)))))) (aW (bC jK)) b8)
   (aM (c8 (dU (dO (aX (p4 rfl) (by rfl) T.al (by kernel_rfl) (aG (eG (N:=["field"]) (src:=[none]) (osc:=aO gT) (oN:=["thing"]) ⟨by rfl,by decide,by decide,by decide,rfl,by rfl⟩ (iE (pv 0))
     fun cl s H fp di C=>⟨bJ (i:=0) (show(["field"]:List Str).Nodup by decide) rfl (AE rfl),dW,bG GF hr (aG (pv 0) aF)⟩) aF)))) (aW (bC jK)) b8)
   (aW (bC (gO eY (aX aD0 (by rfl) T.len AO (aG (cQ (aDZ rfl) (by rfl) T.set (by kernel_rfl) (aG (eG (N:=["field"]) (src:=[none]) (osc:=aO gT) (oN:=["thing"]) ⟨by rfl,by decide,by decide,by decide,rfl,by rfl⟩ (iE (pv 0))
     fun cl s H fp di C=>⟨bJ (i:=0) (show(["field"]:List Str).Nodup by decide) rfl (AE rfl),dW,cH (r:=wN K) c5 (pv 0) aQ Ig⟩) aF)) aF)) (aX bE (by rfl) T.len AO (aG (pv 0) aF)) (cM _))))),?_⟩
  refine⟨_,rfl,_,"tuple",_,_,rfl,kF hx,iU d,_,rfl,?_⟩;cases hd:gC d with
  | false=>
   have e:aBw d=false:=by
    cases d with
    | tuple ds=>simp[gC]at hd
    | _=>rfl
   rw[e]at k;exact k H (bW.refl H)
  | true=>
   obtain⟨ds,rfl⟩:∃ ds,d=.tuple ds:=by
    cases d with
    | tuple z=>exact⟨z,rfl⟩
    | _=>simp[gC]at hd
   cases hx with
   | @tup a xs _ e hl r=>
    have O:=r.len;have Y:∀ H',bW H H'→Q (.bl (decide (1≤ds.length∧ds.length≤8) && ds.all c4 && decide (ds.map c3).Nodup)) H':=k;have B:¬ (1≤ds.length∧ds.length≤8)→Q (.bl false) H:=fun h=>by
     have:=Y H (bW.refl H);rw[decide_eq_false h]at this;exact this
    refine dD ?_;refine⟨_,rfl,a,xs,rfl,.inr (bI e),_,_,rfl,rfl,_,rfl,dY (fun h1=>?_) (fun h1=>?_)⟩
    ·have Z:(1:Int)≤xs.length:=Ie h1;refine⟨_,_,rfl,rfl,_,rfl,?_⟩;by_cases h8:(xs.length:Int)≤8
     ·rw[Ic h8];refine dD ?_;have q:1≤ds.length∧ds.length≤8:=by omega
      refine⟨_,rfl,a,rfl,⟨xs,bI e⟩,?_⟩;refine gN (xs:=xs) (fun i ys σ H'=>bW H H'∧ys=((ds.take i).map fun d=>V.bl (c4 d))∧∃ o,σ=[o]) ⟨bW.refl H,rfl,none,rfl⟩ (aS (by omega)) (fun i ys σ H' p=>by rw[p.2.1,Ad,Bh];omega) (fun i ys σ H' p=>bI (p.1 _ _ e)) ?_ ?_
      ·rintro i y ys σ H' hy ⟨S,rfl,o,rfl⟩;dsimp only[dG];obtain⟨d',hd',r'⟩:=r.at hy;refine dJ ?_;refine⟨_,rfl,m,y,d',rfl,r'.same S,fun H2 s2=>⟨S.trans s2,?_,_,rfl⟩⟩;rw[Bk,hd',AY];rfl
      ·rintro ys σ H1 ⟨S,rfl,o,rfl⟩ D hD;have M:DC xs.length ds=ds:=Br (by omega);rw[M];have U:=S.trans (aV (o:=.lst (ds.map fun d=>V.bl (c4 d))) hD);refine⟨D,ds.map c4,rfl,bF (by rw[aH,Ct];rfl),?_⟩;generalize upd H1 D (.lst (ds.map fun d=>V.bl (c4 d)))=H2 at U ⊢;refine⟨_,rfl,?_⟩;rw[DD];refine dY (fun g=>?_) (fun g=>?_)
       ·have W:ds.all c4=false:=by
         have:(ds.all (id ∘ c4))=ds.all c4:=rfl;rw[this]at g;simpa using g
        have:=Y H2 U;rw[W,Gz,Df]at this;exact this
       ·have W:ds.all c4=true:=by
         have:(ds.all (id ∘ c4))=ds.all c4:=rfl;rw[this]at g;simpa using g
        have ga:=A8.mp W;refine⟨_,rfl,a,rfl,⟨xs,bI (U _ _ e)⟩,?_⟩;refine gN (xs:=xs) (fun i ys σ H'=>bW H H'∧ys=((ds.take i).map fun d=>V.str (c3 d))∧∃ o,σ=[o]) ⟨U,rfl,none,rfl⟩ (aS (by omega)) (fun i ys σ H' p=>by rw[p.2.1,Ad,Bh];omega) (fun i ys σ H' p=>bI (p.1 _ _ e)) ?_ ?_
        ·rintro i y ys σ H' hy ⟨S,rfl,o,rfl⟩;dsimp only[dG];obtain⟨d',hd',r'⟩:=r.at hy;obtain⟨a',xs',rfl,e',hat⟩:=aHD r' (ga d' (AN hd'));refine dJ ?_;refine⟨_,rfl,a',xs',0,_,rfl,rfl,bI (S _ _ e'),hat,S,?_,_,rfl⟩;rw[Bk,hd',AY];rfl
        ·rintro ys σ H3 ⟨S,rfl,o,rfl⟩ D3 ab;rw[M];have S3:=S.trans (aV (o:=.lst (ds.map fun d=>V.str (c3 d))) ab);refine⟨D3,ds.map c3,rfl,bF (by rw[aH,Ct];rfl),by rw[Ad];omega,fun D4 J=>?_⟩;generalize upd H3 D3 (.lst (ds.map fun d=>V.str (c3 d)))=H4 at S3 J ⊢;refine⟨D4,ds.map c3,rfl,aH,by rw[Ad];omega,?_⟩;have S4:=S3.trans (aV (o:=aFd P w D4 (ds.map c3)) J);refine⟨_,rfl,a,xs,rfl,.inr (bI (S4 _ _ e)),rfl,?_⟩;have hc:=xQ (ds.map c3);have e5:decide (V.int ((fA (fun i=>(ds.map c3).getD i "") (ds.map c3).length).length:Nat)=V.int (xs.length:Int))=decide (ds.map c3).Nodup:=by
          rw[← hc,decide_eq_decide,Ad,O];constructor
          ·intro z;exact V.int.inj z
          ·intro z;rw[z]
         have:=Y _ S4;rw[Ic q,W,Ba,Ba]at this;show Q (.bl (decide (V.int ((fA (fun i=>(ds.map c3).getD i "") (ds.map c3).length).length:Nat)=V.int (xs.length:Int)))) _;rw[e5];exact this
     ·rw[decide_eq_false h8];exact dJ (B (by omega))
    ·have Z:¬ (1:Int)≤xs.length:=fun z=>h1 (Ic z);exact⟨false,rfl,dJ (B (by omega))⟩
mutual
inductive jY:Ai→Prop
 | non:jY .none
 | bl (b:Bool):jY (.bool b)
 | int (i:Int):jY (.int i)
 | str (z:Str):jY (.str z)
 | tup {ds:List Ai} (h:kH ds):jY (.tuple ds)
inductive kH:List Ai→Prop
 | nil:kH []
 | cons {d:Ai} {ds:List Ai} (a:jY d) (r:kH ds):kH (d :: ds)
end
mutual
theorem RdV.unl{H:Hp}:∀{x:V}{d:Ai},RdV true H x d→jY d→RdV false H x d
 | _,_,.non,_=>.non
 | _,_,.bl b,_=>.bl b
 | _,_,.int i,_=>.int i
 | _,_,.str z h,_=>.str z h
 | _,_,.tup e q r,.tup h=>.tup e q (cJ.unl r h)
theorem cJ.unl{H:Hp}:∀{xs:List V}{ds:List Ai},cJ true H xs ds→kH ds→cJ false H xs ds
 | _,_,.nil,_=>.nil
 | _,_,.cons a r,.cons b s=>.cons (RdV.unl a b) (cJ.unl r s)
end
theorem tK:∀ R:List P3,kH (R.map pD)
 | []=>.nil
 | x :: R=>.cons (.tup (.cons (.str _) (.cons (.str _) (.cons (.int _) .nil)))) (tK R)
theorem wB:∀ R:List Str,kH (R.map AQ)
 | []=>.nil
 | x :: R=>.cons (.str _) (wB R)
theorem fV.plain{word:Str}{ds:List Ai}(h:fV word ds)(name:Str)(day:Int):jY (gJ word name day ds):=by
 refine .tup (.cons (.str _) (.cons (.str _) (.cons (.int _) ?_)));cases h with
 | @part q R _ _ _ _ _=>exact .cons (.str _) (.cons (.tup (tK R)) .nil)
 | @join q R _ _ _ _ _=>exact .cons (.tup (wB R)) (.cons (.str _) .nil)
 | forfeit _ _=>exact .cons (.str _) (.cons (.str _) .nil)
 | measure _ _ _=>exact .cons (.str _) (.cons (.int _) .nil)
 | mend _ _ _=>exact .cons (.str _) (.cons (.str _) .nil)
 | alone _=>exact .cons (.str _) .nil
 | breach _ _ _ _ _ _ _=>exact .cons (.str _) (.cons (.int _) (.cons (.int _) (.cons (.int _) .nil)))
 | view _ _ _ _=>exact .cons (.str _) (.cons (.int _) (.cons (.str _) .nil))
def fmV(g0 g1 g2 g3 g4 g5 g6 g7:Ag):List (Key×V):=[(Aw "part",.ref g0),(Aw "join",.ref g1),(Aw "forfeit",.ref g2),(Aw "measure",.ref g3),(Aw "mend",.ref g4),(Aw "alone",.ref g5),(Aw "breach",.ref g6),(Aw "view",.ref g7)]
def fmR(g0 g1 g2 g3 g4 g5 g6 g7:Ag):List (Key×Ac):=[(Aw "part",.ref g0),(Aw "join",.ref g1),(Aw "forfeit",.ref g2),(Aw "measure",.ref g3),(Aw "mend",.ref g4),(Aw "alone",.ref g5),(Aw "breach",.ref g6),(Aw "view",.ref g7)]
theorem aJe(F B M J q O z U:Ag):KV (fmV F B M J q O z U) (fmR F B M J q O z U):=.cons ⟨rfl,rfl⟩ (.cons ⟨rfl,rfl⟩ (.cons ⟨rfl,rfl⟩ (.cons ⟨rfl,rfl⟩ (.cons ⟨rfl,rfl⟩ (.cons ⟨rfl,rfl⟩ (.cons ⟨rfl,rfl⟩ (.cons ⟨rfl,rfl⟩ (.nil))))))))
theorem d8(w:A2)(s:Str):AV w.params s=aH9 w (Aw s):=by
 first | rfl | (unfold aH9 hashStr AV;rfl)
theorem isS(s:Str)(t:Tok):uD (Aw s) (.str s t)=true:=by
 show Fv s (.str s t)=true;simp[Fv]
theorem aHE{P:AG}{w:A2}{K:Aj}{a:Ag}{e:Nat}{U q B F z M J O:Tok}{g0 g1 Y g3 Z g5 g6 g7:Ag}(l:K.lookup a=some { cls:=.type "dict",data:=.dict #[⟨AV w.params "part",.str "part" U,.ref g0⟩,⟨AV w.params "join",.str "join" q,.ref g1⟩,⟨AV w.params "forfeit",.str "forfeit" B,.ref Y⟩,⟨AV w.params "measure",.str "measure" F,.ref g3⟩,⟨AV w.params "mend",.str "mend" z,.ref Z⟩,⟨AV w.params "alone",.str "alone" M,.ref g5⟩,⟨AV w.params "breach",.str "breach" J,.ref g6⟩,⟨AV w.params "view",.str "view" O,.ref g7⟩] e }):∀ h:Bp,K.In h→h.DictOf (c9 P w) a (fmR g0 g1 Y g3 Z g5 g6 g7):=by
 intro h hK;refine⟨_,_,_,hK _ _ l,⟨rfl,rfl,rfl⟩,rfl,?_,?_,?_⟩
 ·intro en W;simp only[List.mem_toArray,An,Az,or_false]at W;rcases W with rfl | rfl | rfl | rfl | rfl | rfl | rfl | rfl
  ·exact⟨Aw "part",isS "part" U,d8 w "part"⟩
  ·exact⟨Aw "join",isS "join" q,d8 w "join"⟩
  ·exact⟨Aw "forfeit",isS "forfeit" B,d8 w "forfeit"⟩
  ·exact⟨Aw "measure",isS "measure" F,d8 w "measure"⟩
  ·exact⟨Aw "mend",isS "mend" z,d8 w "mend"⟩
  ·exact⟨Aw "alone",isS "alone" M,d8 w "alone"⟩
  ·exact⟨Aw "breach",isS "breach" J,d8 w "breach"⟩
  ·exact⟨Aw "view",isS "view" O,d8 w "view"⟩
 ·exact .cons (isS "part" U) rfl (.cons (isS "join" q) rfl (.cons (isS "forfeit" B) rfl (.cons (isS "measure" F) rfl (.cons (isS "mend" z) rfl (.cons (isS "alone" M) rfl (.cons (isS "breach" J) rfl (.cons (isS "view" O) rfl (.nil))))))))
 ·show([Aw "part",Aw "join",Aw "forfeit",Aw "measure",Aw "mend",Aw "alone",Aw "breach",Aw "view"]:List Key).Nodup;decide
theorem aH3(g0 Z g2 g3 U g5 W Y:Ag)(kind:Str):fQ (fmV g0 Z g2 g3 U g5 W Y) (Aw kind)=if kind="part" then some (.ref g0) else if kind="join" then some (.ref Z) else if kind="forfeit" then some (.ref g2) else if kind="measure" then some (.ref g3) else if kind="mend" then some (.ref U) else if kind="alone" then some (.ref g5) else if kind="breach" then some (.ref W) else if kind="view" then some (.ref Y) else none:=by
 unfold fmV;by_cases M:kind="part"
 ·rw[Ib M];subst M;rfl
 rw[dX (show¬ (Aw "part":Key)=Aw kind from fun z=>M (by injection z with z;exact z.symm)),Ia M];by_cases h1:kind="join"
 ·rw[Ib h1];subst h1;rfl
 rw[dX (show¬ (Aw "join":Key)=Aw kind from fun z=>h1 (by injection z with z;exact z.symm)),Ia h1];by_cases h2:kind="forfeit"
 ·rw[Ib h2];subst h2;rfl
 rw[dX (show¬ (Aw "forfeit":Key)=Aw kind from fun z=>h2 (by injection z with z;exact z.symm)),Ia h2];by_cases q:kind="measure"
 ·rw[Ib q];subst q;rfl
 rw[dX (show¬ (Aw "measure":Key)=Aw kind from fun z=>q (by injection z with z;exact z.symm)),Ia q];by_cases B:kind="mend"
 ·rw[Ib B];subst B;rfl
 rw[dX (show¬ (Aw "mend":Key)=Aw kind from fun z=>B (by injection z with z;exact z.symm)),Ia B];by_cases O:kind="alone"
 ·rw[Ib O];subst O;rfl
 rw[dX (show¬ (Aw "alone":Key)=Aw kind from fun z=>O (by injection z with z;exact z.symm)),Ia O];by_cases J:kind="breach"
 ·rw[Ib J];subst J;rfl
 rw[dX (show¬ (Aw "breach":Key)=Aw kind from fun z=>J (by injection z with z;exact z.symm)),Ia J];by_cases F:kind="view"
 ·rw[Ib F];subst F;rfl
 rw[dX (show¬ (Aw "view":Key)=Aw kind from fun z=>F (by injection z with z;exact z.symm)),Ia F];rfl
theorem aJ9(Z Y g2 g3 O g5 U W:Ag)(kind:Str):(fQ (fmV Z Y g2 g3 O g5 U W) (Aw kind)).isSome=decide (kind∈fE):=by
 rw[aH3];simp only[fE,An,Az,or_false];by_cases J:kind="part"
 ·rw[Ib J,Ic (by simp[J])];rfl
 rw[Ia J];by_cases h1:kind="join"
 ·rw[Ib h1,Ic (by simp[h1])];rfl
 rw[Ia h1];by_cases h2:kind="forfeit"
 ·rw[Ib h2,Ic (by simp[h2])];rfl
 rw[Ia h2];by_cases z:kind="measure"
 ·rw[Ib z,Ic (by simp[z])];rfl
 rw[Ia z];by_cases q:kind="mend"
 ·rw[Ib q,Ic (by simp[q])];rfl
 rw[Ia q];by_cases M:kind="alone"
 ·rw[Ib M,Ic (by simp[M])];rfl
 rw[Ia M];by_cases F:kind="breach"
 ·rw[Ib F,Ic (by simp[F])];rfl
 rw[Ia F];by_cases B:kind="view"
 ·rw[Ib B,Ic (by simp[B])];rfl
 rw[Ia B];rw[decide_eq_false (by simp[J,h1,h2,z,q,M,F,B])];rfl
theorem aKa{P:AG}{w:A2}{K:Aj}{mg:Str→Option Ac}{base:Bp}{J F z U B M O q:Ag}{d0:AK}(G0:cY P w K mg base CX0 6 J d0 ["rest"] (fH aBm))(k0:Al K (.ref J)=true)(b0:eU K d0 ["rest"] []){d1:AK}(G1:cY P w K mg base CX0 6 F d1 ["rest"] (fH yG))(k1:Al K (.ref F)=true)(b1:eU K d1 ["rest"] []){d2:AK}(G2:cY P w K mg base CX0 6 z d2 ["rest"] (fH mM))(k2:Al K (.ref z)=true)(b2:eU K d2 ["rest"] []){d3:AK}(G3:cY P w K mg base CX0 6 U d3 ["rest"] (fH mJ))(k3:Al K (.ref U)=true)(b3:eU K d3 ["rest"] []){d4:AK}(G4:cY P w K mg base CX0 6 B d4 ["rest"] (fH tG))(k4:Al K (.ref B)=true)(b4:eU K d4 ["rest"] []){d5:AK}(G5:cY P w K mg base CX0 6 M d5 ["rest"] (fH sH))(k5:Al K (.ref M)=true)(b5:eU K d5 ["rest"] []){d6:AK}(G6:cY P w K mg base CX0 6 O d6 ["rest"] (fH oS))(k6:Al K (.ref O)=true)(b6:eU K d6 ["rest"] []){W:AK}(G7:cY P w K mg base CX0 6 q W ["rest"] (fH yF))(k7:Al K (.ref q)=true)(b7:eU K W ["rest"] []):
  ∀(kind:Str) (v:V),fQ (fmV J F z U B M O q) (Aw kind)=some v→∃(a:Ag) (fd:AK),v=.ref a∧cY P w K mg base CX0 6 a fd ["rest"] (fH (fS kind))∧Al K (.ref a)=true∧eU K fd ["rest"] []:=by
 intro kind v h;rw[aH3]at h;by_cases h0:kind="part"
 ·rw[Ib h0]at h;cases h;subst h0;have e:fS "part"=aBm:=by funext ds;unfold fS;rw[Ib rfl]
  exact⟨J,d0,rfl,by rw[e];exact G0,k0,b0⟩
 rw[Ia h0]at h;by_cases h1:kind="join"
 ·rw[Ib h1]at h;cases h;subst h1;have e:fS "join"=yG:=by funext ds;unfold fS;rw[Ia (by decide),Ib rfl]
  exact⟨F,d1,rfl,by rw[e];exact G1,k1,b1⟩
 rw[Ia h1]at h;by_cases h2:kind="forfeit"
 ·rw[Ib h2]at h;cases h;subst h2;have e:fS "forfeit"=mM:=by funext ds;unfold fS;rw[Ia (by decide),Ia (by decide),Ib rfl]
  exact⟨z,d2,rfl,by rw[e];exact G2,k2,b2⟩
 rw[Ia h2]at h;by_cases Y:kind="measure"
 ·rw[Ib Y]at h;cases h;subst Y;have e:fS "measure"=mJ:=by funext ds;unfold fS;rw[Ia (by decide),Ia (by decide),Ia (by decide),Ib rfl]
  exact⟨U,d3,rfl,by rw[e];exact G3,k3,b3⟩
 rw[Ia Y]at h;by_cases h4:kind="mend"
 ·rw[Ib h4]at h;cases h;subst h4;have e:fS "mend"=tG:=by funext ds;unfold fS;rw[Ia (by decide),Ia (by decide),Ia (by decide),Ia (by decide),Ib rfl]
  exact⟨B,d4,rfl,by rw[e];exact G4,k4,b4⟩
 rw[Ia h4]at h;by_cases h5:kind="alone"
 ·rw[Ib h5]at h;cases h;subst h5;have e:fS "alone"=sH:=by funext ds;unfold fS;rw[Ia (by decide),Ia (by decide),Ia (by decide),Ia (by decide),Ia (by decide),Ib rfl]
  exact⟨M,d5,rfl,by rw[e];exact G5,k5,b5⟩
 rw[Ia h5]at h;by_cases h6:kind="breach"
 ·rw[Ib h6]at h;cases h;subst h6;have e:fS "breach"=oS:=by funext ds;unfold fS;rw[Ia (by decide),Ia (by decide),Ia (by decide),Ia (by decide),Ia (by decide),Ia (by decide),Ib rfl]
  exact⟨O,d6,rfl,by rw[e];exact G6,k6,b6⟩
 rw[Ia h6]at h;by_cases Z:kind="view"
 ·rw[Ib Z]at h;cases h;subst Z;have e:fS "view"=yF:=by funext ds;unfold fS;rw[Ia (by decide),Ia (by decide),Ia (by decide),Ia (by decide),Ia (by decide),Ia (by decide),Ia (by decide)]
  exact⟨q,W,rfl,by rw[e];exact G7,k7,b7⟩
 rw[Ia Z]at h;cases h
def rkD:List (Key×V):=[(Aw "measure",.int 0),(Aw "mend",.int 2),(Aw "alone",.int 2),(Aw "breach",.int 3),(Aw "view",.int 3)]
def rk(w:Str):Int:=if w="measure" then 0 else if w="mend"∨w="alone" then 2 else if w="breach"∨w="view" then 3 else 1
theorem aJf:∀ w∈fE,(fQ rkD (Aw w)).getD (.int 1)=.int (rk w):=by decide
inductive aDm(H:Hp)(x:V)(word name:Str)(day:Int):Prop
 | mk (t:_) (cS:_) (q0:x=.ref t) (q1:H t=some (.tup (.str word :: .str name :: .int day :: cS))) (q2:word∈fE):aDm H x word name day
def aH4(H:Hp)(x:V)(word name:Str)(day:Int):Prop:=aDm H x word name day
theorem aGw{word name:Str}{day:Int}{cS:List V}:atI (V.str word :: .str name :: .int day :: cS) 0=some (.str word)∧atI (V.str word :: .str name :: .int day :: cS) 1=some (.str name)∧atI (V.str word :: .str name :: .int day :: cS) 2=some (.int day):=by
 have q:(V.str word :: V.str name :: V.int day :: cS).length=cS.length + 3:=rfl;unfold atI ixN;rw[q,Ib (by decide),Ib (by omega),Ib (by decide),Ib (by omega),Ib (by decide),Ib (by omega)];exact⟨rfl,rfl,rfl⟩
inductive yT(vs:List V)(H:Hp)(Q:VK)(u3_:XK):Prop
 | mk (x:V) (word name:Str) (day:Int) (q0:vs=[x]) (q1:aH4 H x word name day) (q2:∀(q:Ag) (H':Hp),bW H H'→H' q=some (.tup [.int day,.int (rk word),.str name])→Q (.ref q) H'):yT vs H Q u3_
def qQ:Sp:=fun vs H Q u3_=>yT vs H Q u3_
theorem aDn:bY ["_law_row_here","_law_ranks"] ["_law_row_here"] (aO sG):=⟨rfl,rfl,rfl,by decide,rfl,by decide,by decide⟩
theorem aGx{f:Ag}{fd:AK}(F:Fun K "_law_place" "_law_place" sG f fd):cY P w K mg base CX0 1 f fd ["_law_row_here"] qQ:=by
 refine F.ok aDn (fun vs H Q E h=>?_) (fun W A outer s H vs Q E M h=>?_)
 ·obtain⟨x,word,name,day,rfl,_⟩:=h;rfl
 ·obtain⟨x,word,name,day,rfl,⟨t,cS,rfl,ht,hw⟩,k⟩:=h;have O:=aCR M;refine⟨_,aM (bQ (i:=1) aDn.nd rfl (AE rfl) (aCQ (iW cG aQ (iW cG aQ (iW cG aQ (iW cG aQ (iW cG aQ aCP))))) rfl rfl (by simp) (by decide)))
   (aW (bC (dA (aG (cH c5 (pv 0) aQ Ig) (aG (aE1 O (pv 1) (cH c5 (pv 0) aQ Ig) aQ ⟨rfl,rfl,rfl,rfl⟩) (aG (cH c5 (pv 0) aQ Ig) aF)))))),?_⟩
  obtain⟨r0,r1,r2⟩:=aGw (word:=word) (name:=name) (day:=day) (cS:=cS);refine fun d hd=>?_;refine⟨aH,rkD,rfl,(by show 5≤15;decide),?_⟩;rw[show pI [] rkD=rkD by first | rfl | decide];have J:bW H (upd (upd H d (.dK [])) d (.dK rkD)):=fun b o e=>by rw[aCB,bM (aY e hd)];exact e
  have z:upd (upd H d (.dK [])) d (.dK rkD) d=some (.dK rkD):=aH;generalize upd (upd H d (.dK [])) d (.dK rkD)=H2 at J z ⊢;have B:=J _ _ ht;refine⟨_,rfl,t,_,2,_,rfl,rfl,bI B,r2,⟨_,rfl,d,rfl,.inl ⟨rkD,.inl z⟩,_,rfl,t,_,0,_,rfl,rfl,bI B,r0,_,.inl ⟨rkD,Aw word,.inl z,rfl,rfl⟩,?_⟩⟩;rw[aJf word hw];refine⟨_,rfl,t,_,1,_,rfl,rfl,bI B,r1,zZ3,fun q U=>?_⟩;exact k q _ (J.trans (aV U)) aH
def rkP:List (Key×V):=[(Aw "measure",.int 0),(Aw "part",.int 1),(Aw "join",.int 1),(Aw "forfeit",.int 1),(Aw "mend",.int 2),(Aw "alone",.int 2),(Aw "breach",.int 3),(Aw "view",.int 3)]
theorem aHF:∀ w∈fE,fQ rkP (Aw w)=some (.int (rk w)):=by decide
structure t9(w:A2)(K:Aj)(a:Ag):Prop where
 ex:∃(e:Nat) (x0 x1 x2 x3 x4 x5 x6 x7 y0 y1 y2 y3 y4 y5 y6 y7:Tok),K.lookup a=some { cls:=.type "dict",data:=.dict #[⟨AV w.params "measure",.str "measure" x0,.int 0 y0⟩,⟨AV w.params "part",.str "part" x1,.int 1 y1⟩,⟨AV w.params "join",.str "join" x2,.int 1 y2⟩,⟨AV w.params "forfeit",.str "forfeit" x3,.int 1 y3⟩,⟨AV w.params "mend",.str "mend" x4,.int 2 y4⟩,⟨AV w.params "alone",.str "alone" x5,.int 2 y5⟩,⟨AV w.params "breach",.str "breach" x6,.int 3 y6⟩,⟨AV w.params "view",.str "view" x7,.int 3 y7⟩] e }
theorem t9.dict{P:AG}{w:A2}{K:Aj}{a:Ag}(r:t9 w K a):∃ vs,KV rkP vs∧∀ h:Bp,K.In h→h.DictOf (c9 P w) a vs:=by
 obtain⟨e,x0,x1,x2,x3,x4,x5,x6,x7,y0,y1,y2,y3,y4,y5,y6,y7,l⟩:=r.ex;refine⟨[(Aw "measure",.int 0 y0),(Aw "part",.int 1 y1),(Aw "join",.int 1 y2),(Aw "forfeit",.int 1 y3),(Aw "mend",.int 2 y4),(Aw "alone",.int 2 y5),(Aw "breach",.int 3 y6),(Aw "view",.int 3 y7)],?_,fun h z=>⟨_,_,_,z _ _ l,⟨rfl,rfl,rfl⟩,rfl,?_,?_,?_⟩⟩
 ·exact .cons ⟨rfl,_,rfl⟩ (.cons ⟨rfl,_,rfl⟩ (.cons ⟨rfl,_,rfl⟩ (.cons ⟨rfl,_,rfl⟩ (.cons ⟨rfl,_,rfl⟩ (.cons ⟨rfl,_,rfl⟩ (.cons ⟨rfl,_,rfl⟩ (.cons ⟨rfl,_,rfl⟩ (.nil))))))))
 ·intro B q;simp only[List.mem_toArray,An,Az,or_false]at q;rcases q with rfl | rfl | rfl | rfl | rfl | rfl | rfl | rfl
  ·exact⟨Aw "measure",isS "measure" x0,d8 w "measure"⟩
  ·exact⟨Aw "part",isS "part" x1,d8 w "part"⟩
  ·exact⟨Aw "join",isS "join" x2,d8 w "join"⟩
  ·exact⟨Aw "forfeit",isS "forfeit" x3,d8 w "forfeit"⟩
  ·exact⟨Aw "mend",isS "mend" x4,d8 w "mend"⟩
  ·exact⟨Aw "alone",isS "alone" x5,d8 w "alone"⟩
  ·exact⟨Aw "breach",isS "breach" x6,d8 w "breach"⟩
  ·exact⟨Aw "view",isS "view" x7,d8 w "view"⟩
 ·exact .cons (isS "measure" x0) rfl (.cons (isS "part" x1) rfl (.cons (isS "join" x2) rfl (.cons (isS "forfeit" x3) rfl (.cons (isS "mend" x4) rfl (.cons (isS "alone" x5) rfl (.cons (isS "breach" x6) rfl (.cons (isS "view" x7) rfl (.nil))))))))
 ·show([Aw "measure",Aw "part",Aw "join",Aw "forfeit",Aw "mend",Aw "alone",Aw "breach",Aw "view"]:List Key).Nodup;decide
theorem aHG:bY ["row"] ["row"] (aO rX):=⟨rfl,rfl,rfl,by decide,rfl,by decide,by decide⟩
theorem aGy{f:Ag}{fd:AK}(F:Fun K "order" "order" rX f fd){z:Ag}(R:t9 w K z)(M:mg "RANKS"=some (.ref z)):cY P w K mg base CX0 1 f fd ["row"] qQ:=by
 refine F.ok aHG (fun vs H Q E h=>?_) (fun J A outer s H vs Q E O h=>?_)
 ·obtain⟨x,word,name,day,rfl,_⟩:=h;rfl
 ·obtain⟨x,word,name,day,rfl,⟨t,cS,rfl,ht,hw⟩,k⟩:=h;obtain⟨rvs,rel,hd⟩:=R.dict (P:=P);refine⟨_,aW (bC (dA (aG (cH c5 (pv 0) aQ Ig) (aG (aCV hd rel (by rfl) M (cH c5 (pv 0) aQ Ig) Ig) (aG (cH c5 (pv 0) aQ Ig) aF))))),?_⟩;obtain⟨r0,r1,r2⟩:=aGw (word:=word) (name:=name) (day:=day) (cS:=cS);refine⟨_,rfl,t,_,2,_,rfl,rfl,bI ht,r2,_,rfl,t,_,0,_,rfl,rfl,bI ht,r0,Aw word,_,rfl,aHF word hw,_,rfl,t,_,1,_,rfl,rfl,bI ht,r1,zZ3,fun q B=>?_⟩;exact k q _ (aV B) aH
def aBx(ds:List Ai):Prop:=∀ d∈ds,c4 d=true∧OkD 5000 1 d∧d.hasDict=false
def uA(f h:Str)(a i:Int):Ai:=.tuple [.str f,.str h,.int a,.int i]
theorem aCv{f h:Str}{a i:Int}(z:cC f=true)(q:cC h=true)(a1:1≤a)(a2:a≤1000000)(F:0≤i)(B:i≤10000000):c4 (uA f h a i)=true∧OkD 5000 1 (uA f h a i)∧(uA f h a i).hasDict=false:=by
 refine⟨?_,?_,rfl⟩
 ·show(cC f && cC h && decide (1≤a∧a≤1000000) && decide (0≤i∧i≤10000000))=true;rw[z,q,Ic ⟨a1,a2⟩,Ic ⟨F,B⟩];rfl
 ·have b:(10000000:Int) < 10 ^ 60:=by decide
  refine(OkD.tuple (n:=4) (b:=102) (k:=0) (fun d hd=>?_) (by show 4≤4;decide)).mono (by decide) (by decide);simp only[An,Az,or_false]at hd;rcases hd with rfl | rfl | rfl | rfl
  ·exact OkD.name z
  ·exact OkD.name q
  ·exact OkD.int (by omega) (by omega)
  ·exact OkD.int (by omega) (by omega)
inductive yU(vs:List V)(H:Hp)(Q:VK)(u3_:XK):Prop
 | mk (p c:Ag) (ns:List Int) (a:Int) (lf lh:Ag) (ws hs:List Str) (q0:vs=[.ref p,.ref lf,.ref lh]) (q1:cV H p c ns a) (q2:a≤800000) (q3:H lf=some (.lst (ws.map V.str))) (q4:(∀ w∈ws,cC w=true)) (q5:ws.length≤44) (q6:H lh=some (.lst (hs.map V.str))) (q7:(∀ w∈hs,cC w=true)) (q8:1≤hs.length) (q9:hs.length≤44) (q10:∀ t xs ds a' H',H' t=some (.tup xs)→cJ false H' xs ds→aBx ds→ds.map c3=ws→a≤a'→a'≤a + 400→cV H' p c ns a'→aZ p H H'→Q (.ref t) H'):yU vs H Q u3_
def aDo:Sp:=fun vs H Q u3_=>yU vs H Q u3_
theorem uB:bY ["_law_pen_here","_law_fields","_law_houses","_law_found","_law_field","_law_house"] ["_law_pen_here","_law_fields","_law_houses"] (aO sB):=⟨rfl,rfl,rfl,by decide,rfl,by decide,by decide⟩
theorem aGz{f:Ag}{fd:AK}(F:Fun K "_law_laying" "_law_laying" sB f fd)(ae:mg "len"=none)(ao:mg "tuple"=none)
  (GT:Cl P w K mg base 1 "_law_take" ["_law_pen_here","_law_many"] iO)
  (GN:Cl P w K mg base 2 "_law_number" ["_law_pen_here","_law_bottom","_law_most"] aGj):
  cY P w K mg base CX0 3 f fd ["_law_pen_here","_law_fields","_law_houses"] aDo:=by
 refine F.ok uB (fun vs H Q E h=>?_) (fun bj A outer s H vs Q E hr h=>?_)
 ·obtain⟨p,c,ns,a,lf,lh,ws,hs,rfl,_⟩:=h;rfl
 ·obtain⟨p,c,ns,a,lf,lh,ws,hs,rfl,hp,ha,hlf,hw,hwl,hlh,hh,hl1,hl2,k⟩:=h;have aI:cZ 1 _:=hr.mono (by decide);refine⟨_,aM (bQ (i:=3) uB.nd rfl (AE rfl) (dP aF))
   (aM (mV Cr rfl (i5 (pv 1)) (bJ (i:=4) uB.nd rfl (AE rfl))
    (aM (bQ (i:=5) uB.nd rfl (AE rfl) (cH dB (pv 2) (bG GT aI (aG (pv 0) (aG (aX bE (by rfl) ae AO (aG (pv 2) aF)) aF))) Ig))
    (aW (oD (sU BJ CA Cz jB (pv 3) (aG (dA (aG (pv 4) (aG (pv 5) (aG (bG GN hr (aG (pv 0) (aG aQ (aG (cB kW aQ aQ) aF)))) (aG (bG GN hr (aG (pv 0) (aG aQ (aG (cB kW aQ aQ) aF)))) aF))))) aF))))))
   (aW (bC (cQ cX (by rfl) ao (by kernel_rfl) (aG (pv 3) aF))))),?_⟩
  have cp:∀ j:Int,0≤j→j≤1000000→aIl 10 j:=fun j h1 h2=>⟨h1,h2,by decide⟩
  have p6:((10:Int) ^ Do 6)=1000000:=by decide
  have p7:((10:Int) ^ Do 7)=10000000:=by decide
  have e9:(10:Int) ^ 9=1000000000:=by decide
  refine⟨A0 _,fun L hL=>?_⟩;have S0:=aV (o:=.lst []) hL;have ay:L≠p:=by
   obtain⟨l,_,z⟩:=hp.ob;exact(aY z hL).symm
  have aC:L≠c:=(aY hp.ce hL).symm;have aL:lf≠L:=aY hlf hL;have ax:lh≠L:=aY hlh hL;refine⟨_,rfl,lf,rfl,⟨_,bF (S0 _ _ hlf)⟩,uF (K:=K) (xs:=ws.map V.str) (fun i σ H'=>Ex3 fun(o4 o5:Option V) (a':Int)=>∃(xs:List V) (ds:List Ai),Aw6 (σ=[some (.ref p),some (.ref lf),some (.ref lh),some (.ref L),o4,o5]) (H' L=some (.lst xs)) (cJ false H' xs ds) (aBx ds) (ds.map c3=ws.take i) (Aw6 (cV H' p c ns a') (a≤a') (a'≤a + 8 * i) (aZ p H H') (H' lf=some (.lst (ws.map V.str))) (H' lh=some (.lst (hs.map V.str)))))
   ⟨none,none,a,[],[],rfl,aH,.nil,(fun d hd=>by simp at hd),by simp,hp.same S0,by omega,by simp,bW.but S0,S0 _ _ hlf,S0 _ _ hlh⟩ (fun i σ H' _ h=>?_) ?_ ?_⟩
  ·obtain⟨_,_,_,_,_,_,_,_,_,_,_,_,_,_,h,_⟩:=h;exact bF h
  ·rintro i x σ H1 hx ⟨o4,o5,a1,xs,ds,rfl,U,W,aa,O,B,am,ai,ab,Z,M⟩;have hi:i < ws.length:=by
    have:=(AM.mp hx).1;simpa using this
   obtain⟨fn,hfn,rfl⟩:∃ fn,ws[i]?=some fn∧x=V.str fn:=by
    rw[AS]at hx;cases e:ws[i]? with
    | none=>rw[e]at hx;cases hx
    | some z=>rw[e]at hx;exact⟨z,rfl,(CD.inj hx).symm⟩
   dsimp only[dG];refine⟨_,rfl,_,rfl,_,rfl,lh,_,rfl,.inl (bF M),p,c,ns,a1,_,rfl,B,by omega,by rw[Ad];omega,by rw[Ad];omega,fun r1 a2 H2 ar av l2 u2 a0 Y=>?_⟩;have ah:=bH M B Y;obtain⟨v,hv,hat⟩:=gR (xs:=hs.map V.str) (i:=r1) ar av;obtain⟨hn,hhn,rfl⟩:=Bs.mp hv;refine⟨lh,_,r1,_,rfl,rfl,bF ah,hat,?_⟩;have aU:=bH U B Y;refine⟨_,rfl,.inl ⟨rfl,_,bF aU⟩,_,rfl,_,rfl,_,rfl,_,_,rfl,rfl,cp _ (by decide) (by decide),p,c,ns,a2,1,1000000,(by show[V.ref p,V.int 1,V.int ((10:Int) ^ Do 6)] ++ []=_;rw[p6];rfl),a0,by omega,by decide,by decide,by omega,fun n1 a3 H3 aw aE l3 u3 aJ af=>?_⟩;refine⟨_,rfl,_,_,rfl,rfl,cp _ (by decide) (by decide),p,c,ns,a3,0,10000000,(by show[V.ref p,V.int 0,V.int ((10:Int) ^ Do 7)] ++ []=_;rw[p7];rfl),aJ,by omega,by decide,by decide,by omega,fun n2 a4 H4 aB aT l4 u4 aA an=>?_⟩;refine⟨zZ4,fun q hq=>?_⟩;have sq:=aV (o:=.tup [V.str fn,.str hn,.int n1,.int n2]) hq;have J:=((Y.trans af).trans an).same sq;have ag:=bH U B J;have aD:q≠L:=(aY (bH U B ((Y.trans af).trans an)) hq).symm;have az:=aCv (hw fn (AN hfn)) (hh hn hhn) aw aE aB aT;have bb:xs.length≤44:=by
    have e1:=W.len;have e2:=congrArg List.length O;rw[Ad,Bh]at e2;omega
   refine⟨L,xs,_,rfl,rfl,ag,lI (by omega),?_⟩;have aj:=aAb W B J;have kL:∀(b:Ag) (o:HO),upd H4 q (.tup [V.str fn,.str hn,.int n1,.int n2]) b=some o→b≠L→upd (upd H4 q (.tup [V.str fn,.str hn,.int n1,.int n2])) L (.lst (xs ++ [V.ref q])) b=some o:=fun b o e ne=>by rw[bM ne];exact e
   refine⟨_,_,a4,xs ++ [V.ref q],ds ++ [uA fn hn n1 n2],rfl,aH,?_,?_,?_,?_,by omega,by omega,?_,?_,?_⟩
   ·refine cJ.app (aj.keepF fun b o e _ au=>kL b o e fun z=>?_) (.cons (.tup (kL _ _ aH aD) (by show 4≤1000;decide) (.cons (.str _ (by have:=iM (hw fn (AN hfn));omega)) (.cons (.str _ (by have:=iM (hh hn hhn);omega)) (.cons (.int _) (.cons (.int _) .nil))))) .nil);rw[z,ag]at e;exact au _ (CD.inj e).symm
   ·intro d hd;rcases Bo.mp hd with z | z
    ·exact aa d z
    ·rw[BC.mp z];exact az
   ·rw[AY,O,Bk,hfn];rfl
   ·obtain⟨⟨l,hl,e⟩,ce,ge,sm⟩:=aA.same sq;exact⟨⟨l,hl,kL _ _ e ay.symm⟩,kL _ _ ce aC.symm,ge,sm⟩
   ·intro b o e ne;exact kL b o ((ab.trans J) b o e ne) (aY e hL)
   ·exact kL _ _ (bH Z B J) aL
   ·exact kL _ _ (bH M B J) ax
  ·rintro σ H1 ⟨o4,o5,a1,xs,ds,rfl,U,W,aa,O,B,am,ai,ab,Z,M⟩;rw[Ad]at ai O;rw[BI]at O;refine⟨_,rfl,L,xs,rfl,.inl ⟨bF U,fun t ht=>?_⟩⟩;have S1:=aV (o:=.tup xs) ht;exact k t xs ds a1 _ aH (W.same S1) aa O am (by omega) (B.same S1) (ab.same S1)
theorem fV.fourth{word:Str}{ds:List Ai}(h:fV word ds):∃ d q,ds=d :: q∧(inV (.str word) [V.str "measure",.str "breach",.str "view"]=true→∃ z,d=.str z):=by
 cases h with
 | part _ _ _ _ _=>exact⟨_,_,rfl,fun z=>absurd z (by decide)⟩
 | join _ _ _ _ _=>exact⟨_,_,rfl,fun z=>absurd z (by decide)⟩
 | forfeit _ _=>exact⟨_,_,rfl,fun z=>absurd z (by decide)⟩
 | measure _ _ _=>exact⟨_,_,rfl,fun z=>⟨_,rfl⟩⟩
 | mend _ _ _=>exact⟨_,_,rfl,fun z=>absurd z (by decide)⟩
 | alone _=>exact⟨_,_,rfl,fun z=>absurd z (by decide)⟩
 | breach _ _ _ _ _ _ _=>exact⟨_,_,rfl,fun z=>⟨_,rfl⟩⟩
 | view _ _ _ _=>exact⟨_,_,rfl,fun z=>⟨_,rfl⟩⟩
structure bS where
 word:Str
 name:Str
 day:Int
 ds:List Ai
def bS.d(r:bS):Ai:=gJ r.word r.name r.day r.ds
def bS.key(r:bS):L2.K3:=(r.day,rk r.word,r.name)
structure bS.Ok(r:bS)(fs:List Str):Prop where
 rs:fV r.word r.ds
 nm:cC r.name=true
 d0:0≤r.day
 d1:r.day≤9999
 fi:FIn r.word r.ds fs
theorem bS.Ok.row{r:bS}{fs:List Str}(h:r.Ok fs):rowD r.d=true:=aGp h.rs h.nm h.d0 h.d1
theorem bS.Ok.at{r:bS}{fs:List Str}(h:r.Ok fs){m:Bool}{H:Hp}{x:V}(rd:RdV m H x r.d):aH4 H x r.word r.name r.day:=by
 unfold bS.d gJ at rd;cases rd with
 | @tup a xs _ e J q=>
  cases q with
  | cons z q=>
   cases q with
   | cons F q=>
    cases q with
    | cons B q=>
     cases z;cases F;cases B;exact⟨a,_,rfl,e,h.rs.word⟩
inductive aDp(H:Hp)(t:Ag)(ws:List Str):Prop
 | mk (ps:_) (q0:H t=some (.tup ps)) (q1:ps.length=ws.length) (q2:∀(i:Nat) (x:V),ps[i]?=some x→∃(b:Ag) (z:Str) (cS:List V),x=.ref b∧H b=some (.tup (.str z :: cS))∧ws[i]?=some z):aDp H t ws
def pF(H:Hp)(t:Ag)(ws:List Str):Prop:=aDp H t ws
theorem pF.same{H H':Hp}{t:Ag}{q:List Str}(h:pF H t q)(s:bW H H'):pF H' t q:=by
 obtain⟨ps,e,hl,ha⟩:=h;refine⟨ps,s _ _ e,hl,fun i x B=>?_⟩;obtain⟨b,z,cS,ex,eb,hw⟩:=ha i x B;exact⟨b,z,cS,ex,s _ _ eb,hw⟩
theorem pF.of{m:Bool}{H:Hp}{t:Ag}{ds:List Ai}(r:RdV m H (.ref t) (.tuple ds))(F:ds.all c4=true):pF H t (ds.map c3):=by
 cases r with
 | @tup _ xs _ e W q=>
  refine⟨xs,e,by rw[q.len,Ad],fun i x U=>?_⟩;obtain⟨d,hd,rd⟩:=q.at U;have z:=A8.mp F d (AN hd);obtain⟨f,g,a,j,rfl,_⟩:=jX z;cases rd with
  | @tup b ys _ O M B=>
   cases B with
   | cons J Y=>
    cases J;exact⟨b,f,_,rfl,O,by rw[AS,hd];rfl⟩
inductive qR(vs:List V)(H:Hp)(Q:VK)(u3_:XK):Prop
 | mk (m:Bool) (x:V) (d:Ai) (q0:vs=[x]) (q1:RdV m H x d) (q2:aBw (dQ 2 d)=true) (q3:∀ y H',bW H H'→RdV m H' y (dQ 2 d)→Q y H'):qR vs H Q u3_
def pS:Sp:=fun vs H Q u3_=>qR vs H Q u3_
inductive aH5(H:Hp)(x:V)(r:bS):Prop
 | mk (d:_) (q0:RdV true H x d) (q1:nM (dQ 3 d) r.d):aH5 H x r
def Thg(H:Hp)(x:V)(r:bS):Prop:=aH5 H x r
theorem Thg.same{H H':Hp}{x:V}{r:bS}(h:Thg H x r)(s:bW H H'):Thg H' x r:=by
 obtain⟨d,rd,o⟩:=h;exact⟨d,rd.same s,o⟩
inductive wC(vs:List V)(H:Hp)(Q:VK)(u3_:XK):Prop
 | mk (t:Ag) (ws:List Str) (x:V) (r:bS) (q0:vs=[.ref t,x]) (q1:pF H t ws) (q2:ws.length≤8) (q3:Thg H x r) (q4:r.Ok ws) (q5:∀ y H',bW H H'→RdV false H' y r.d→Q y H'):wC vs H Q u3_
def oB:Sp:=fun vs H Q u3_=>wC vs H Q u3_
theorem wD:bY ["thing","laying"] ["thing"] (aO jJ):=⟨rfl,rfl,rfl,by decide,rfl,by decide,by decide⟩
theorem aBy{f:Ag}{fd:AK}(F:Fun K "laying_of" "laying_of" jJ f fd)(q:∃ t,mg "LAYING_DEPTH"=some (.int 2 t))
  (W:Cl P w K mg base 3 "as_tuples" ["thing","deep"] (aGh 2))
  (U:Cl P w K mg base 4 "is_laying" ["thing"] aH2):
  cY P w K mg base CX0 5 f fd ["thing"] pS:=by
 refine F.ok wD (fun vs H Q E h=>?_) (fun Y A outer s H vs Q E J h=>?_)
 ·obtain⟨m,x,d,rfl,_⟩:=h;rfl
 ·obtain⟨m,x,d,rfl,hx,hl,k⟩:=h;have z:cZ 3 _:=J.mono (by decide);obtain⟨td,hdp⟩:=q;refine⟨_,aM (bQ (i:=1) wD.nd rfl (AE rfl) (bG W z (aG (pv 0) (aG (dS (v:=.int 2) (by rfl) hdp ⟨_,rfl⟩) aF))))
   (aM (c8 (dU (dO (bG U J (aG (pv 1) aF)))) gS b8)
   (aW (bC (pv 1)))),?_⟩
  refine⟨_,rfl,m,x,d,rfl,hx,fun y H1 O M=>?_⟩;refine⟨_,rfl,m,y,_,rfl,M,fun Z B=>⟨_,rfl,?_⟩⟩;rw[hl];refine dD ?_;exact⟨_,rfl,k _ _ (O.trans B) (M.same B)⟩
theorem wE:bY ["laying","thing","row","field"] ["laying","thing"] (aO m7):=⟨rfl,rfl,rfl,by decide,rfl,by decide,by decide⟩
theorem aEz{f:Ag}{fd:AK}(F:Fun K "row_for" "row_for" m7 f fd)
  (GR:Cl P w K mg base 8 "row_of" ["thing"] aBp)
  (GF:Cl P w K mg base 1 "field_of" ["row"] yI):
  cY P w K mg base CX0 9 f fd ["laying","thing"] oB:=by
 refine F.ok wE (fun vs H Q E h=>?_) (fun ao A outer s H vs Q E hr h=>?_)
 ·obtain⟨t,ws,x,r,rfl,_⟩:=h;rfl
 ·obtain⟨t,ws,x,r,rfl,hL,hw8,⟨d,hx,hord⟩,hok,k⟩:=h;have Z:cZ 1 _:=hr.mono (by decide);refine⟨_,aM (bQ (i:=2) wE.nd rfl (AE rfl) (bG GR hr (aG (pv 1) aF)))
   (aM (bQ (i:=3) wE.nd rfl (AE rfl) (bG GF Z (aG (pv 2) aF)))
   (aM (c8 (PW.pt (nT (cA aGO (pv 3) aEI (cM _)) (j0 (cA i6 (pv 3) (eG (N:=["place"]) (src:=[none]) (osc:=aO m7) (oN:=["laying","thing","row","field"]) ⟨by rfl,by decide,by decide,by decide,rfl,by rfl⟩ (iE (pv 0))
     fun cl s H fp di C=>⟨bJ (i:=0) (show(["place"]:List Str).Nodup by decide) rfl (AE rfl),dW,cH (r:=wN K) c5 (pv 0) aQ Ig⟩) (by with_unfolding_all rfl))))) gS b8)
   (aW (bC (pv 2))))),?_⟩
  refine⟨_,rfl,true,x,d,r.d,rfl,hx,hord,hok.row,fun y H1 Y ry=>?_⟩;have J:RdV false H1 y r.d:=RdV.unl ry (hok.rs.plain r.name r.day);obtain⟨d4,rd',erd,hf4⟩:=hok.rs.fourth;obtain⟨O,U,B,rfl,etr,r4⟩:∃ O U B,y=.ref O∧H1 O=some (.tup (.str r.word :: .str r.name :: .int r.day :: U :: B))∧RdV false H1 U d4:=by
   unfold bS.d gJ at J;rw[erd]at J;cases J with
   | @tup a xs _ e hl q=>
    cases q with
    | cons q1 q=>
    cases q with
    | cons q2 q=>
    cases q with
    | cons q3 q=>
    cases q with
    | cons q4 q=>
     cases q1;cases q2;cases q3;exact⟨a,_,_,rfl,e,q4⟩
  refine⟨_,rfl,O,r.word,_,_,U,B,rfl,etr,fun H2 W=>?_⟩;have aa:=(hL.same Y).same W;by_cases g:inV (.str r.word) [V.str "measure",.str "breach",.str "view"]=true
  ·obtain⟨z,rfl⟩:=hf4 g;have hz:z∈ws:=hok.fi g z rd' erd;cases r4;rw[Ib g];refine⟨_,rfl,rfl,_,rfl,?_⟩;rw[decide_eq_false (show¬ V.str z=V.non from fun y=>nomatch y)];refine dJ ?_;obtain⟨ps,eps,hpl,hps⟩:=aa;refine⟨_,rfl,_,rfl,t,rfl,⟨ps,bI eps⟩,?_⟩;refine gN (xs:=ps) (fun i ys σ H'=>bW H2 H'∧ys=(ws.take i).map V.str∧∃ o,σ=[o]) ⟨bW.refl H2,by simp,none,rfl⟩ (aS (by omega)) (fun i ys σ H' p=>by rw[p.2.1,Ad,Bh];omega) (fun i ys σ H' p=>bI (p.1 _ _ eps)) ?_ ?_
   ·rintro i px ys σ H' ab ⟨S,rfl,o,rfl⟩;dsimp only[dG];obtain⟨b,zz,rr,rfl,eb,hw⟩:=hps i px ab;refine dJ ?_;refine⟨_,rfl,b,_,0,_,rfl,rfl,bI (S _ _ eb),fG (j:=0) rfl,S,?_,_,rfl⟩;rw[Bk,hw,AY];rfl
   ·rintro ys σ H' ⟨S,rfl,o,rfl⟩ D hD;rw[hpl,BI];have sD:=aV (o:=.lst (ws.map V.str)) hD;refine⟨D,_,rfl,.inl (bF aH),rfl,iN ws,_,rfl,?_⟩;have M:inV (.str z) (ws.map V.str)=true:=by
     unfold inV;rw[CT];exact⟨V.str z,Bs.mpr ⟨z,hz,rfl⟩,by simp[eqV]⟩
    rw[Ib rfl,M];refine dD ?_;have sA:=(W.trans S).trans sD;exact⟨_,rfl,k _ _ (Y.trans sA) (J.same sA)⟩
  ·rw[Ia g];refine⟨_,rfl,rfl,_,rfl,?_⟩;rw[Ic rfl];refine dD ?_;exact⟨_,rfl,k _ _ (Y.trans W) (J.same W)⟩
theorem aAd:bY ["laying","thing"] ["laying","thing"] (aO gU):=⟨rfl,rfl,rfl,by decide,rfl,by decide,by decide⟩
theorem wX{f:Ag}{fd:AK}(F:Fun K "row_for_roll" "row_for_roll" gU f fd)
  (J:Cl P w K mg base 9 "row_for" ["laying","thing"] oB):
  cY P w K mg base CX0 10 f fd ["laying","thing"] oB:=by
 refine F.ok aAd (fun vs H Q E h=>?_) (fun q A outer s H vs Q E B h=>?_)
 ·obtain⟨t,ws,x,r,rfl,_⟩:=h;rfl
 ·refine⟨_,aW (aGY (fun e s z=>z) (aW (bC (bG J B (aG (pv 0) (aG (pv 1) aF)))))),?_⟩;obtain⟨t,ws,x,r,rfl,hL,hw8,ht,hok,k⟩:=h;exact⟨_,rfl,_,rfl,t,ws,x,r,rfl,hL,hw8,ht,hok,k⟩
mutual
theorem RdV.keepN{m:Bool}{H H':Hp}(k:∀ a o,H a=some o→(∀ B,o≠.dK B)→H' a=some o):∀{x:V}{d:Ai},RdV m H x d→d.hasDict=false→RdV m H' x d
 | _,_,.non,_=>.non
 | _,_,.bl b,_=>.bl b
 | _,_,.int i,_=>.int i
 | _,_,.str z h,_=>.str z h
 | _,_,.lst hm e q r,hd=>.lst hm (k _ _ e (fun _ z=>nomatch z)) q (cJ.keepN k r hd)
 | _,_,.tup e q r,hd=>.tup (k _ _ e (fun _ z=>nomatch z)) q (cJ.keepN k r hd)
 | _,_,.dct hm e,hd=>by simp[Ey]at hd
theorem cJ.keepN{m:Bool}{H H':Hp}(k:∀ a o,H a=some o→(∀ z,o≠.dK z)→H' a=some o):∀{xs:List V}{ds:List Ai},cJ m H xs ds→AX ds=false→cJ m H' xs ds
 | _,_,.nil,_=>.nil
 | _,_,.cons a r,hd=>by
  have q:(Ey _ || AX _)=false:=hd;rw[Fi]at q;exact .cons (RdV.keepN k a q.1) (cJ.keepN k r q.2)
end
def qS(H:Hp)(fh:List (Key×V))(us:List bS):Prop:=fh.length=us.length∧∀(i:Nat) (p:Key×V),fh[i]?=some p→∃ u,us[i]?=some u∧p.1=Aw u.name∧RdV false H p.2 u.d
theorem qS.same{H H':Hp}{fh:List (Key×V)}{us:List bS}(h:qS H fh us)(s:∀{x:V}{d:Ai},RdV false H x d→RdV false H' x d):qS H' fh us:=
 ⟨h.1,fun i p q=>by obtain⟨u,a,b,c⟩:=h.2 i p q;exact⟨u,a,b,s c⟩⟩
inductive aKb(t q D:Ag)(H:Hp)(rs:List bS)(i:Nat)(σ:L2.St)(H':Hp):Prop
 | mk (o3 o4:Option V) (fh:List (Key×V)) (us:List bS) (q0:σ=[some (.ref t),some (.ref q),some (.ref D),o3,o4]) (q1:bW H H') (q2:H' D=some (.dK fh)) (q3:qS H' fh us) (q4:(us.map (·.name)).Nodup) (q5:∀ r,r∈us↔r∈rs.take i):aKb t q D H rs i σ H'
def Pv(t q D:Ag)(H:Hp)(rs:List bS)(i:Nat)(σ:L2.St)(H':Hp):Prop:=aKb t q D H rs i σ H'
structure aGA(H:Hp)(ws:List Str)(xs:List V)(rs:List bS):Prop where
 len:xs.length=rs.length
 at':∀(i:Nat) (x:V),xs[i]?=some x→∃ r,rs[i]?=some r∧Thg H x r∧r.Ok ws
 uniq:∀ r∈rs,∀ r'∈rs,r.name=r'.name→r=r'
inductive tM(vs:List V)(H:Hp)(Q:VK)(u3_:XK):Prop
 | mk (t:Ag) (ws:List Str) (q:Ag) (xs:List V) (rs:List bS) (q0:vs=[.ref t,.ref q]) (q1:pF H t ws) (q2:ws.length≤8) (q3:(H q=some (.lst xs)∨H q=some (.tup xs))) (q4:rs.length≤200) (q5:aGA H ws xs rs) (q6:∀(D:Ag) (fh:List (Key×V)) (us:List bS) (H':Hp),bW H H'→H D=none→H' D=some (.dK fh)→qS H' fh us→(us.map (·.name)).Nodup→(∀ r,r∈us↔r∈rs)→Q (.ref D) H'):tM vs H Q u3_
def yV:Sp:=fun vs H Q u3_=>tM vs H Q u3_
theorem fV.dep{word:Str}{ds:List Ai}(h:fV word ds):∀ d∈ds,aEc 2 d:=by
 have q:∀{n:Nat} {d:Ai},eI d=false→aEc n d:=fun{n d} hd=>by
  have:∀ ds,d≠.tuple ds∧d≠.list ds:=fun ds=>⟨fun z=>by rw[z]at hd;simp[eI]at hd,fun z=>by rw[z]at hd;simp[eI]at hd⟩
  cases n with
  | zero=>exact this
  | succ n=>exact .inl this
 intro d hd;rcases h.ok d hd with⟨z,_⟩ | ⟨es,rfl,_,hs⟩
 ·exact q z
 ·refine .inr ⟨es,rfl,fun e F=>?_⟩;rcases hs e F with⟨z,_⟩ | ⟨is,rfl,_,hi⟩
  ·exact q z
  ·refine .inr ⟨is,rfl,fun i B=>?_⟩;have hz:=(hi i B).dp;refine q ?_;cases i with
   | list ds=>simp[BG]at hz
   | tuple ds=>simp[BG]at hz
   | _=>rfl
theorem aDq{word name:Str}{day:Int}{ds:List Ai}(h:fV word ds):∀ e∈(AQ word :: AQ name :: C2 day :: ds),aEc 2 e:=fun e q=>by
 simp only[An]at q;rcases q with rfl | rfl | rfl | q
 ·exact .inl fun ds=>⟨(fun z=>nomatch z),fun z=>nomatch z⟩
 ·exact .inl fun ds=>⟨(fun z=>nomatch z),fun z=>nomatch z⟩
 ·exact .inl fun ds=>⟨(fun z=>nomatch z),fun z=>nomatch z⟩
 ·exact h.dep e q
theorem fI{word name:Str}{day:Int}{ds:List Ai}(h:fV word ds):AX (AQ word :: AQ name :: C2 day :: ds)=false:=by
 show(false || (false || (false || AX ds)))=false;rw[h.nodict];rfl
theorem aDr{fh:List (Key×V)}{k:Key}{v:V}(h:fQ fh k=some v):∃ i:Nat,fh[i]?=some (k,v):=by
 unfold fQ at h;cases q:fh.find? (fun F=>decide (F.1=k))with
 | none=>rw[q]at h;cases h
 | some p=>
  rw[q]at h;have J:=List.find?_some q;have hm:=List.mem_of_find?_eq_some q;obtain⟨i,hi⟩:=BQ hm;have z:p.1=k:=Ie J;have B:p.2=v:=by simpa using h
  refine⟨i,?_⟩;rw[hi,← z,← B]
theorem qT{fh:List (Key×V)}{k:Key}(h:fQ fh k=none):∀ p∈fh,p.1≠k:=fun p z e=>by
 unfold fQ at h;cases q:fh.find? (fun B=>decide (B.1=k))with
 | none=>
  have:=List.find?_eq_none.mp q p z;exact this (Ic e)
 | some F=>rw[q]at h;cases h
theorem iP:bY ["laying","things","named","thing","row"] ["laying","things"] (aO jU):=⟨rfl,rfl,rfl,by decide,rfl,by decide,by decide⟩
theorem aCw{f:Ag}{fd:AK}(F:Fun K "by_names" "by_names" jU f fd)
  (GR:Cl P w K mg base 10 "row_for_roll" ["laying","thing"] oB):
  cY P w K mg base CX0 11 f fd ["laying","things"] yV:=by
 refine F.ok iP (fun vs H Q E h=>?_) (fun aD A outer s H vs Q E hr h=>?_)
 ·obtain⟨t,ws,q,xs,rs,rfl,_⟩:=h;rfl
 ·obtain⟨t,ws,q,xs,rs,rfl,hL,hw8,hqq,h200,hT,k⟩:=h;have ar:=hT.len;have hu:(A.deeper (EX "by_names" (aO jU) s.heap.objs.size f aD)).units + 4 * 2 + 8 < cLine:=by have:=hr.un;omega
  rcases hqq with hq | hq
  ·refine⟨_,aM (bQ (i:=2) iP.nd rfl (AE rfl) aAx)
    (aM (mV Cr rfl (i5 (pv 1)) (bJ (i:=3) iP.nd rfl (AE rfl))
     (aM (bQ (i:=4) iP.nd rfl (AE rfl) (bG GR hr (aG (pv 0) (aG (pv 3) aF))))
     (aW (c8 (cA (xW (n:=2) hu) (aFw (pv 2) (cH c5 (pv 4) aQ Ig) (pv 4) ⟨rfl,rfl,rfl,rfl⟩) (pv 4) (cM _)) gS b8))))
    (aW (bC (pv 2)))),?_⟩
   refine fun D hD=>?_;have sD:=aV (o:=.dK []) hD;refine⟨_,rfl,q,rfl,⟨xs,bF (sD _ _ hq)⟩,uF (K:=K) (xs:=xs) (Pv t q D H rs) ⟨none,none,[],[],rfl,sD,aH,⟨rfl,fun i p J=>by simp at J⟩,Gx,fun r=>by simp⟩ (fun j σ H' _ z=>by obtain⟨_,_,_,_,_,S,_⟩:=z;exact bF (S _ _ hq)) ?_ ?_⟩
   ·rintro i x σ H1 hx ⟨o3,o4,fh,us,rfl,S,W,hN,M,B⟩;obtain⟨r,hr1,ht,hok⟩:=hT.at' i x hx;have hm:=AN hr1;dsimp only[dG];refine⟨_,rfl,_,rfl,t,ws,x,r,rfl,hL.same S,hw8,ht.same S,hok,fun y H2 s2 ry=>?_⟩;have nod:=fI (word:=r.word) (name:=r.name) (day:=r.day) hok.rs;have ad:r.d.hasDict=false:=nod;have dep:=aDq (word:=r.word) (name:=r.name) (day:=r.day) hok.rs;have U:=hN.same fun z=>z.same s2;have O:=s2 _ _ W;obtain⟨a,cS,rfl,ea,_⟩:=hok.at ry;have aA:fh.length≤200:=by
     rw[hN.1];have h1:us.length≤(rs.take i).length:=by
      have h2:us.Nodup:=DG (fun h e=>h (by rw[e])) (BP.mp M);exact DU h2 fun z hz=>(B z).mp hz
     rw[Bh]at h1;omega
    have ab:rs.take (i + 1)=rs.take i ++ [r]:=by rw[Bk,hr1];rfl
    refine⟨_,rfl,D,rfl,.inl ⟨_,.inl O⟩,_,rfl,a,_,1,_,rfl,rfl,bI ea,fG (j:=1) rfl,_,rfl,fh,Aw r.name,O,by omega,rfl,fun v hv=>?_,fun hv=>?_⟩
    ·obtain⟨j,Y⟩:=aDr hv;obtain⟨u,hu1,hu2,ru⟩:=U.2 j _ Y;have am:u.name=r.name:=by injection hu2.symm
     have aj:u∈rs:=Cp ((B u).mp (AN hu1));have ap:u=r:=hT.uniq u aj r hm am;subst ap;obtain⟨b,_,rfl,eb,_⟩:=hok.at ru;refine⟨_,rfl,b,a,_,rfl,rfl,ru,ry,dep,nod,_,rfl,dD ?_⟩;refine⟨_,_,fh,us,rfl,S.trans s2,O,U,M,fun z=>?_⟩;rw[ab,Bo,B z,BC];exact⟨.inl,fun h=>h.elim id fun e=>by rw[e];exact(B u).mp (AN hu1)⟩
    ·have nm:∀ p∈fh,p.1≠Aw r.name:=qT hv;have ep:gG fh (Aw r.name) (V.ref a)=fh ++ [(Aw r.name,V.ref a)]:=by
      unfold gG;rw[Ia];intro h;obtain⟨p,J,e⟩:=CT.mp h;exact nm p J (Ie e)
     rw[ep];have kN:∀ b o,H2 b=some o→(∀ kv,o≠.dK kv)→upd H2 D (.dK (fh ++ [(Aw r.name,V.ref a)])) b=some o:=fun b o e ho=>by
      rw[bM fun z=>by rw[z,O]at e;cases e;exact ho _ rfl];exact e
     have Z:=RdV.keepN kN ry ad;refine⟨_,rfl,a,a,_,rfl,rfl,Z,Z,dep,nod,_,rfl,dD ?_⟩;have nu:∀ u∈us,u.name≠r.name:=fun u hu e=>by
      obtain⟨j,Y⟩:=BQ hu;have aa:j < fh.length:=by rw[hN.1];exact(AM.mp Y).1
      obtain⟨u',hu1,hu2,_⟩:=hN.2 j fh[j] (Ab aa);rw[Y]at hu1;cases hu1;exact nm fh[j] (Bn aa) (by rw[hu2,e])
     refine⟨_,_,fh ++ [(Aw r.name,V.ref a)],us ++ [r],rfl,fun b o e=>?_,aH,⟨by rw[Au,Au,hN.1];rfl,fun j p J=>?_⟩,?_,fun z=>?_⟩
     ·rw[bM fun z=>by rw[z,hD]at e;cases e];exact s2 _ _ (S _ _ e)
     ·by_cases Y:j < fh.length
      ·rw[BD Y]at J;obtain⟨u,h1,h2,h3⟩:=U.2 j p J;have ac:u∈rs:=Cp ((B u).mp (AN h1));obtain⟨j2,hj2⟩:=BQ ac;have an:j2 < xs.length:=by rw[hT.len];exact(AM.mp hj2).1
       obtain⟨u2,hu2,_,hok2⟩:=hT.at' j2 _ (Ab an);rw[hj2]at hu2;cases hu2;exact⟨u,by rw[BD (by rw[← hN.1];exact Y)];exact h1,h2,RdV.keepN kN h3 (fI (word:=u.word) (name:=u.name) (day:=u.day) hok2.rs)⟩
      ·rw[Bz (by omega)]at J;have e0:j - fh.length=0:=by
        cases h:j - fh.length with
        | zero=>rfl
        | succ n=>rw[h]at J;simp at J
       rw[e0]at J;have ao:(Aw r.name,V.ref a)=p:=by simpa using J
       subst ao;exact⟨r,by rw[Bz (by rw[← hN.1];omega),← hN.1,e0];rfl,rfl,Z⟩
     ·rw[AY,C3];refine⟨M,by simp,fun p J q hq=>?_⟩;obtain⟨u,hu,rfl⟩:=Bs.mp J;have:q=r.name:=by simpa using hq
      rw[this];exact nu u hu
     ·rw[ab,Bo,Bo,B z]
   ·rintro σ H1 ⟨o3,o4,fh,us,rfl,S,W,hN,M,B⟩;rw[ar,BI]at B;exact⟨_,rfl,k D fh us H1 S hD W hN M B⟩
  ·refine⟨_,aM (bQ (i:=2) iP.nd rfl (AE rfl) aAx)
    (aM (mV Cr rfl (iE (pv 1)) (bJ (i:=3) iP.nd rfl (AE rfl))
     (aM (bQ (i:=4) iP.nd rfl (AE rfl) (bG GR hr (aG (pv 0) (aG (pv 3) aF))))
     (aW (c8 (cA (xW (n:=2) hu) (aFw (pv 2) (cH c5 (pv 4) aQ Ig) (pv 4) ⟨rfl,rfl,rfl,rfl⟩) (pv 4) (cM _)) gS b8))))
    (aW (bC (pv 2)))),?_⟩
   refine fun D hD=>?_;have sD:=aV (o:=.dK []) hD;refine⟨_,rfl,q,rfl,⟨xs,bI (sD _ _ hq)⟩,aGM (K:=K) (xs:=xs) (Pv t q D H rs) ⟨none,none,[],[],rfl,sD,aH,⟨rfl,fun i p J=>by simp at J⟩,Gx,fun r=>by simp⟩ (fun j σ H' _ z=>by obtain⟨_,_,_,_,_,S,_⟩:=z;exact bI (S _ _ hq)) ?_ ?_⟩
   ·rintro i x σ H1 hx ⟨o3,o4,fh,us,rfl,S,W,hN,M,B⟩;obtain⟨r,hr1,ht,hok⟩:=hT.at' i x hx;have hm:=AN hr1;dsimp only[dG];refine⟨_,rfl,_,rfl,t,ws,x,r,rfl,hL.same S,hw8,ht.same S,hok,fun y H2 s2 ry=>?_⟩;have nod:=fI (word:=r.word) (name:=r.name) (day:=r.day) hok.rs;have ad:r.d.hasDict=false:=nod;have dep:=aDq (word:=r.word) (name:=r.name) (day:=r.day) hok.rs;have U:=hN.same fun z=>z.same s2;have O:=s2 _ _ W;obtain⟨a,cS,rfl,ea,_⟩:=hok.at ry;have aA:fh.length≤200:=by
     rw[hN.1];have h1:us.length≤(rs.take i).length:=by
      have h2:us.Nodup:=DG (fun h e=>h (by rw[e])) (BP.mp M);exact DU h2 fun z hz=>(B z).mp hz
     rw[Bh]at h1;omega
    have ab:rs.take (i + 1)=rs.take i ++ [r]:=by rw[Bk,hr1];rfl
    refine⟨_,rfl,D,rfl,.inl ⟨_,.inl O⟩,_,rfl,a,_,1,_,rfl,rfl,bI ea,fG (j:=1) rfl,_,rfl,fh,Aw r.name,O,by omega,rfl,fun v hv=>?_,fun hv=>?_⟩
    ·obtain⟨j,Y⟩:=aDr hv;obtain⟨u,hu1,hu2,ru⟩:=U.2 j _ Y;have am:u.name=r.name:=by injection hu2.symm
     have aj:u∈rs:=Cp ((B u).mp (AN hu1));have ap:u=r:=hT.uniq u aj r hm am;subst ap;obtain⟨b,_,rfl,eb,_⟩:=hok.at ru;refine⟨_,rfl,b,a,_,rfl,rfl,ru,ry,dep,nod,_,rfl,dD ?_⟩;refine⟨_,_,fh,us,rfl,S.trans s2,O,U,M,fun z=>?_⟩;rw[ab,Bo,B z,BC];exact⟨.inl,fun h=>h.elim id fun e=>by rw[e];exact(B u).mp (AN hu1)⟩
    ·have nm:∀ p∈fh,p.1≠Aw r.name:=qT hv;have ep:gG fh (Aw r.name) (V.ref a)=fh ++ [(Aw r.name,V.ref a)]:=by
      unfold gG;rw[Ia];intro h;obtain⟨p,J,e⟩:=CT.mp h;exact nm p J (Ie e)
     rw[ep];have kN:∀ b o,H2 b=some o→(∀ kv,o≠.dK kv)→upd H2 D (.dK (fh ++ [(Aw r.name,V.ref a)])) b=some o:=fun b o e ho=>by
      rw[bM fun z=>by rw[z,O]at e;cases e;exact ho _ rfl];exact e
     have Z:=RdV.keepN kN ry ad;refine⟨_,rfl,a,a,_,rfl,rfl,Z,Z,dep,nod,_,rfl,dD ?_⟩;have nu:∀ u∈us,u.name≠r.name:=fun u hu e=>by
      obtain⟨j,Y⟩:=BQ hu;have aa:j < fh.length:=by rw[hN.1];exact(AM.mp Y).1
      obtain⟨u',hu1,hu2,_⟩:=hN.2 j fh[j] (Ab aa);rw[Y]at hu1;cases hu1;exact nm fh[j] (Bn aa) (by rw[hu2,e])
     refine⟨_,_,fh ++ [(Aw r.name,V.ref a)],us ++ [r],rfl,fun b o e=>?_,aH,⟨by rw[Au,Au,hN.1];rfl,fun j p J=>?_⟩,?_,fun z=>?_⟩
     ·rw[bM fun z=>by rw[z,hD]at e;cases e];exact s2 _ _ (S _ _ e)
     ·by_cases Y:j < fh.length
      ·rw[BD Y]at J;obtain⟨u,h1,h2,h3⟩:=U.2 j p J;have ac:u∈rs:=Cp ((B u).mp (AN h1));obtain⟨j2,hj2⟩:=BQ ac;have an:j2 < xs.length:=by rw[hT.len];exact(AM.mp hj2).1
       obtain⟨u2,hu2,_,hok2⟩:=hT.at' j2 _ (Ab an);rw[hj2]at hu2;cases hu2;exact⟨u,by rw[BD (by rw[← hN.1];exact Y)];exact h1,h2,RdV.keepN kN h3 (fI (word:=u.word) (name:=u.name) (day:=u.day) hok2.rs)⟩
      ·rw[Bz (by omega)]at J;have e0:j - fh.length=0:=by
        cases h:j - fh.length with
        | zero=>rfl
        | succ n=>rw[h]at J;simp at J
       rw[e0]at J;have ao:(Aw r.name,V.ref a)=p:=by simpa using J
       subst ao;exact⟨r,by rw[Bz (by rw[← hN.1];omega),← hN.1,e0];rfl,rfl,Z⟩
     ·rw[AY,C3];refine⟨M,by simp,fun p J q hq=>?_⟩;obtain⟨u,hu,rfl⟩:=Bs.mp J;have:q=r.name:=by simpa using hq
      rw[this];exact nu u hu
     ·rw[ab,Bo,Bo,B z]
   ·rintro σ H1 ⟨o3,o4,fh,us,rfl,S,W,hN,M,B⟩;rw[ar,BI]at B;exact⟨_,rfl,k D fh us H1 S hD W hN M B⟩
def wF(os:List bS):Prop:=os.Pairwise fun a b=>nO a.key b.key=true
theorem wG:∀{l m:List bS},l.Perm m→wF l→wF m→l=m
 | [],m,h,_,_=>(EG h.symm).symm
 | x :: r,[],h,_,_=>by simpa using h.length_eq
 | x :: r,y :: q,h,h1,h2=>by
  obtain⟨a1,a2⟩:=Ck.mp h1;obtain⟨b1,b2⟩:=Ck.mp h2;have e:x=y:=by
   rcases An.mp (h.mem_iff.mp (AI (a:=x) (l:=r)))with e | hx
   ·exact e
   ·rcases An.mp (h.mem_iff.mpr (AI (a:=y) (l:=q)))with e | hy
    ·exact e.symm
    ·have:=vM (a1 y hy) (b1 x hx);rw[aAV]at this;cases this
  subst e;rw[wG ((Fe x).mp h) a2 b2]
theorem aEA{us:List bS}{kk:List L2.K3}{p:List Nat}(J:kk=us.map bS.key)(hn:(us.map (·.name)).Nodup)(M:aAW kk p){d:bS}:(p.map fun i=>us.getD i d).Perm us∧wF (p.map fun i=>us.getD i d):=by
 subst J;obtain⟨hp,hs⟩:=M;rw[Ad]at hp;have F:∀ i∈p,i < us.length:=fun i hi=>BK.mp (hp.mem_iff.mp hi);have B:(us.map bS.key).Nodup:=by
  refine BP.mpr ((BP.mp hn).imp fun{a b} h e=>h ?_);exact congrArg (fun z:L2.K3=>z.2.2) e
 refine⟨?_,?_⟩
 ·refine(hp.map _).trans (FS ?_);apply CJ;intro j;rw[AS];by_cases q:j < us.length
  ·rw[Da q,Ab q];simp[q]
  ·rw[AZ (by simpa using q),AZ (by omega)];rfl
 ·have h:=hs B;have e:(p.map fun i=>(us.map bS.key).getD i k0)=(p.map fun i=>us.getD i d).map bS.key:=by
   rw[Ct];refine C9 fun i hi=>?_;have:=F i hi;simp[this]
  rw[e]at h;exact BP.mp h
structure cW(H:Hp)(xs:List V)(us:List bS)(fs:List Str):Prop where
 len:xs.length=us.length
 at':∀(i:Nat) (x:V),xs[i]?=some x→∃ u,us[i]?=some u∧RdV false H x u.d∧u.Ok fs
theorem cW.same{H H':Hp}{xs:List V}{us:List bS}{fs:List Str}(h:cW H xs us fs)(s:bW H H'):cW H' xs us fs:=
 ⟨h.len,fun i x q=>by obtain⟨u,a,b,c⟩:=h.at' i x q;exact⟨u,a,b.same s,c⟩⟩
theorem cW.rdvs{H:Hp}:∀{xs:List V}{us:List bS}{fs:List Str},cW H xs us fs→cJ false H xs (us.map bS.d)
 | [],[],_,_=>.nil
 | [],_ :: _,_,h=>by have:=h.len;simp at this
 | _ :: _,[],_,h=>by have:=h.len;simp at this
 | x :: xs,u :: us,fs,h=>by
  obtain⟨u',e,r,_⟩:=h.at' 0 x rfl;have q:u=u':=by simpa using e
  subst q;exact .cons r (cW.rdvs ⟨by simpa using h.len,fun i y z=>h.at' (i + 1) y z⟩)
inductive aDs(H:Hp)(y:V)(k:L2.K3):Prop
 | mk (t:_) (cS:_) (w:_) (n:_) (d:_) (q0:y=.ref t) (q1:H t=some (.tup (.str w :: .str n :: .int d :: cS))) (q2:k=(d,rk w,n)):aDs H y k
def aBz(H:Hp)(y:V)(k:L2.K3):Prop:=aDs H y k
theorem aGB{H:Hp}{y:V}{k:L2.K3}{u:bS}{fs:List Str}(h:aBz H y k)(r:RdV false H y u.d)(ok:u.Ok fs):k=u.key:=by
 obtain⟨t,cS,w,n,d,rfl,e,rfl⟩:=h;obtain⟨t',rest',e1,e2,_⟩:=ok.at r;cases e1;rw[e]at e2;cases e2;rfl
theorem wH{H1 H':Hp}{xs:List V}{us:List bS}{fs:List Str}{kk:List L2.K3}{p:List Nat}(hR:cW H1 xs us fs)(hn:(us.map (·.name)).Nodup)(U:kk.length=xs.length)(hk:∀ i,i < xs.length→aBz H1 (xs.getD i .non) (kk.getD i k0))(J:aAW kk p)(s:bW H1 H'):
  ∃ os:List bS,os.Perm us∧wF os∧cW H' (p.map fun i=>xs.getD i .non) os fs:=by
 have F:=hR.len;have ek:kk=us.map bS.key:=by
  apply F6 (by rw[Ad];omega);intro i h1 h2;have hi:i < xs.length:=by omega
  have Y:i < us.length:=by omega
  obtain⟨u,e,r,ok⟩:=hR.at' i xs[i] (Ab hi);have eu:us[i]=u:=by rw[Ab Y]at e;simpa using e
  have h3:=hk i hi;have W:xs.getD i .non=xs[i]:=by simp[hi]
  have e2:kk.getD i k0=kk[i]:=by simp[h1]
  rw[W,e2]at h3;rw[Dd,eu];exact aGB h3 r ok
 cases us with
 | nil=>
  have q:xs=[]:=CH (by simpa using F);have Z:p=[]:=by
   have h:=J.1.length_eq;rw[U,q]at h;simpa using h
  subst q Z;exact⟨[],Dl _,CS,⟨rfl,fun i x B=>by simp at B⟩⟩
 | cons M O=>
  obtain⟨h1,h2⟩:=aEA (d:=M) ek hn J;refine⟨_,h1,h2,⟨by rw[Ad,Ad],fun i x B=>?_⟩⟩;rw[AS]at B;obtain⟨j,hj,rfl⟩:=DS.mp B;have z:j < xs.length:=by
   have:=BK.mp (J.1.mem_iff.mp (AN hj));omega
  obtain⟨u,e,r,ok⟩:=hR.at' j xs[j] (Ab z);refine⟨u,?_,?_,ok⟩
  ·rw[AS,hj];show some ((M :: O).getD j M)=some u;rw[Ak,e];rfl
  ·have W:xs.getD j .non=xs[j]:=by simp[z]
   rw[W];exact r.same s
theorem aDt{H1:Hp}{xs:List V}{us:List bS}{fs:List Str}(hR:cW H1 xs us fs):∀ y∈xs,∀(H':Hp) (Q:VK),bW H1 H'→(∀ t a b c z,bW H' z→z t=some (.tup [.int a,.int b,.str c])→aBz H1 y (a,b,c)→Q (.ref t) z)→qQ [y] H' Q E0:=fun y J H' Q S h=>by
 obtain⟨i,hi⟩:=BQ J;obtain⟨u,_,r,ok⟩:=hR.at' i y hi;have B:=ok.at r;obtain⟨t,cS,rfl,e,hw⟩:=B;exact⟨_,u.word,u.name,u.day,rfl,⟨t,cS,rfl,S _ _ e,hw⟩,fun q H2 M F=>h q _ _ _ H2 M F ⟨t,cS,_,_,_,rfl,e,rfl⟩⟩
inductive aDu(vs:List V)(H:Hp)(Q:VK)(u3_:XK):Prop
 | mk (p c:Ag) (ns:List Int) (a:Int) (name:Str) (day:Int) (tS lf lp lh:Ag) (fs ps hs:List Str) (q0:vs=[.ref p,.str name,.int day,.ref tS]) (q1:cV H p c ns a) (q2:a≤600000) (q3:H tS=some (.tup [.ref lf,.ref lp,.ref lh])) (q4:S3 H lf lp lh fs ps hs) (q5:cC name=true) (q6:0≤day) (q7:day≤9999) (q8:∀(x:V) (r:bS) (a':Int) (H':Hp),RdV false H' x r.d→r.name=name→r.Ok fs→a≤a'→a'≤a + 90→cV H' p c ns a'→aZ p H H'→Q x H'):aDu vs H Q u3_
def aH6:Sp:=fun vs H Q u3_=>aDu vs H Q u3_
theorem aH7:bY ["_law_pen_here","_law_name","_law_day","_law_sorts_here","_law_terms"] ["_law_pen_here","_law_name","_law_day","_law_sorts_here"] (aO aEf):=⟨rfl,rfl,rfl,by decide,rfl,by decide,by decide⟩
theorem aJg{f:Ag}{fd:AK}(F:Fun K "_law_row" "_law_row" aEf f fd)
  (GT:Cl P w K mg base 1 "_law_take" ["_law_pen_here","_law_many"] iO)
  (GR:Cl P w K mg base 3 "_law_row_of" ["_law_pen_here","_law_word","_law_name","_law_day","_law_sorts_here"] aDi):
  cY P w K mg base CX0 4 f fd ["_law_pen_here","_law_name","_law_day","_law_sorts_here"] aH6:=by
 refine F.ok aH7 (fun vs H Q E h=>?_) (fun ak A outer s H vs Q E hr h=>?_)
 ·obtain⟨p,c,ns,a,name,day,tS,lf,lp,lh,fs,ps,hs,rfl,_⟩:=h;rfl
 ·obtain⟨p,c,ns,a,name,day,tS,lf,lp,lh,fs,ps,hs,rfl,hp,ha,htS,h3,hnm,d0,d1,k⟩:=h;have M:cZ 1 _:=hr.mono (by decide);refine⟨_,aM (bQ (i:=4) aH7.nd rfl (AE rfl) (dP (aG cG (aG cG (aG cG (aG cG (aG cG (aG cG (aG cG (aG cG (aG cG (aG cG aF))))))))))))
   (aW (bC (bG GR hr (aG (pv 0) (aG (cH dB (pv 4) (bG GT M (aG (pv 0) (aG aQ aF))) Ig) (aG (pv 1) (aG (pv 2) (aG (pv 3) aF)))))))),?_⟩
  refine⟨aKH,fun L hL=>?_⟩;have Z:=aV (o:=.lst [V.str "part",.str "join",.str "forfeit",.str "measure",.str "mend",.str "alone",.str "breach",.str "view",.str "part",.str "join"]) hL;refine⟨_,rfl,_,rfl,_,rfl,p,c,ns,a,_,rfl,hp.same Z,by omega,by decide,by decide,fun Y a1 H1 U an aj ae aa B=>?_⟩;obtain⟨v,hv,hat⟩:=gR (xs:=[V.str "part",.str "join",.str "forfeit",.str "measure",.str "mend",.str "alone",.str "breach",.str "view",.str "part",.str "join"]) (i:=Y) U (by show Y < 10;omega);obtain⟨word,rfl,hw⟩:∃ word:Str,v=.str word∧word∈fE:=by
   simp only[An,Az,or_false]at hv;rcases hv with rfl | rfl | rfl | rfl | rfl | rfl | rfl | rfl | rfl | rfl <;> exact⟨_,rfl,by decide⟩
  have J:aZ p H H1:=(bW.but Z).trans B;refine⟨L,_,Y,_,rfl,rfl,bF (bH aH (hp.same Z) B),hat,_,rfl,_,rfl,_,rfl,p,c,ns,a1,word,name,day,tS,lf,lp,lh,fs,ps,hs,rfl,aa,by omega,nC htS hp J,h3.but hp J,hw,hnm,fun t ds cS a2 H2 ht q z W ag am ab O=>?_⟩;have ai:=q.len;have ad:=z.len;exact k (.ref t) ⟨word,name,day,ds⟩ a2 H2 (.tup ht (by simp only[A5];omega) (.cons (.str word (aGq hw)) (.cons (kG hnm) (.cons (.int day) q)))) rfl ⟨z,hnm,d0,d1,W⟩ (by omega) (by omega) ab (J.trans O)
def aDv(fq:List Ai)(os:List bS):Ai:=.tuple [.tuple fq,.tuple (os.map bS.d)]
inductive aDw(vs:List V)(H:Hp)(Q:VK)(E:XK):Prop
 | mk (x:V) (q:Ag) (d0:Ai) (fq:List Ai) (xs:List V) (rs us0:List bS) (h0:vs=[x,.ref q]) (rx:RdV true H x d0) (ed:dQ 2 d0=.tuple fq) (hl:aBw (.tuple fq)=true) (hf:fq.all c4=true) (h8:fq.length≤8)
   (hq:H q=some (.lst xs)∨H q=some (.tup xs)) (h200:rs.length≤200) (hT:aGA H (fq.map c3) xs rs) (hn:(us0.map (·.name)).Nodup) (hm:∀ r,r∈us0↔r∈rs) (h40:us0.length≤40)
   (k:∀(t:Ag) (os:List bS) (H':Hp),bW H H'→os.Perm us0→wF os→RdV false H' (.ref t) (aDv fq os)→Q (.ref t) H'):aDw vs H Q E
def aBA:Sp:=fun vs H Q E=>aDw vs H Q E
theorem aCx{d:Ai}(h:cE d=true):jY d:=by
 cases d with
 | str z=>exact .str z
 | _=>simp[cE]at h
theorem tN{lo hi:Int}{d:Ai}(h:dI lo hi d=true):jY d:=by
 cases d with
 | int i=>exact .int i
 | _=>simp[dI]at h
theorem aBB{d:Ai}(h:c4 d=true):jY d:=by
 obtain⟨f,g,a,j,rfl,_,h2,h3,h4⟩:=jX h;exact .tup (.cons (.str f) (.cons (aCx h2) (.cons (tN h3) (.cons (tN h4) .nil))))
theorem nH:∀{fq:List Ai},fq.all c4=true→kH fq
 | [],_=>.nil
 | d :: r,h=>by
  rw[CF,AH]at h;exact .cons (aBB h.1) (nH h.2)
theorem wI:bY ["laying","rows","made","named"] ["laying","rows"] (aO oQ):=⟨rfl,rfl,rfl,by decide,rfl,by decide,by decide⟩
theorem aEB{f fL fB fO:Ag}{fd aa ac ab:AK}(F:Fun K "roll_of" "roll_of" oQ f fd)(T:Txt K mg)(M:mg "list"=none)(af:mg "sorted"=none)(W:∃ t,mg "MOST_ROWS"=some (.int 40 t))
  (GL:cY P w K mg base CX0 5 fL aa ["thing"] pS) (mL:mg "laying_of"=some (.ref fL)) (kL:Al K (.ref fL)=true) (bL:eU K aa ["thing"] [])
  (GB:cY P w K mg base CX0 11 fB ac ["laying","things"] yV) (mB:mg "by_names"=some (.ref fB)) (kB:Al K (.ref fB)=true) (bB:eU K ac ["laying","things"] [])
  (GO:cY P w K mg base CX0 1 fO ab ["row"] qQ) (mO:mg "order"=some (.ref fO)) (kO:Al K (.ref fO)=true) (bO:eU K ab ["row"] []):
  cY P w K mg base CX0 12 f fd ["laying","rows"] aBA:=by
 refine F.ok wI (fun vs H Q E h=>?_) (fun bi A outer s H vs Q E hr h=>?_)
 ·obtain⟨x,q,d0,fq,xs,rs,us0,rfl,_⟩:=h;rfl
 ·obtain⟨x,q,d0,fq,xs,rs,us0,rfl,rx,ed,hl,hf,h8,hq,h200,hT,hn,hm,h40,k⟩:=h;have ar:cZ 5 _:=hr.mono (by decide);have an:cZ (1 + 2) _:=hr.mono (by decide);obtain⟨tm,hmr⟩:=W;refine⟨_,aM (bQ (i:=2) wI.nd rfl (AE rfl) (fF GL ar rfl mL kL bL .nil i3 (aG (pv 0) aF)))
   (aM (c8 (dU (dO (aX g9 (by rfl) T.isi (by kernel_rfl) (aG (pv 1) (aG (dA (aG (dL (v:=.ty "list") (by rfl) M (by kernel_rfl) rfl) (aG (dL (v:=.ty "tuple") (by rfl) T.tuple (by kernel_rfl) rfl) aF))) aF))))) gS b8)
   (aM (bQ (i:=3) wI.nd rfl (AE rfl) (fF GB hr rfl mB kB bB .nil i3 (aG (pv 2) (aG (pv 1) aF))))
   (aM (c8 (cA aAm (aX aDV (by rfl) T.len AO (aG (pv 3) aF)) (dS (v:=.int 40) (by rfl) hmr ⟨_,rfl⟩) (cM _)) gS b8)
   (aW (bC (dA (aG (pv 2) (aG (cQ cX (by rfl) T.tuple (by kernel_rfl) (aG (vP GO an bO (by rfl) af (by rfl) mO (aG (aEb (pv 3)) aF)) aF)) aF)))))))),?_⟩
  refine⟨_,rfl,true,x,d0,rfl,rx,by rw[ed];exact hl,fun y H1 s1 ry=>?_⟩;rw[ed]at ry;have U:RdV false H1 y (.tuple fq):=RdV.unl ry (.tup (nH hf));obtain⟨tl,rfl⟩:∃ tl,y=.ref tl:=by
   cases U with
   | tup e hl r=>exact⟨_,rfl⟩
  have aj:pF H1 tl (fq.map c3):=pF.of U hf;refine⟨_,rfl,zZ2,fun q2 az=>?_⟩;have s2:=aV (o:=.tup [V.ty "list",.ty "tuple"]) az;have ad:∀{H':Hp},bW H H'→H' q=some (.lst xs)∨H' q=some (.tup xs):=fun S=>hq.imp (S _ _) (S _ _);have B:=s1.trans s2;obtain⟨tq,htq,hkq⟩:∃ tq,jM K (upd H1 q2 (.tup [V.ty "list",.ty "tuple"])) (.ref q) tq∧Et K tq [.type "list",.type "tuple"]=some true:=by
   rcases ad B with e | e
   ·exact⟨_,jM.lst e,qL (.list [])⟩
   ·exact⟨_,jM.tup e,qL (.tuple [])⟩
  refine⟨_,q2,"list","tuple",tq,true,rfl,aH,htq,hkq,_,rfl,dD ?_⟩;generalize upd H1 q2 (.tup [V.ty "list",.ty "tuple"])=H2 at s2 B htq ⊢;refine⟨_,rfl,_,rfl,tl,_,q,xs,rs,rfl,aj.same s2,by rw[Ad];exact h8,ad B,h200,⟨hT.len,fun i z hz=>by obtain⟨r,a,b,c⟩:=hT.at' i z hz;exact⟨r,a,b.same B,c⟩,hT.uniq⟩,fun D fh us H3 s3 bg Z hN Y O=>?_⟩;have aN:us.length≤40:=by
   have h2:us.Nodup:=DG (fun h e=>h (by rw[e])) (BP.mp Y);have:=DU h2 (l₂:=us0) fun z hz=>(hm z).mpr ((O z).mp hz);omega
  have aq:us.Perm us0:=by
   have h1:us.Nodup:=DG (fun h e=>h (by rw[e])) (BP.mp Y);have h2:us0.Nodup:=DG (fun h e=>h (by rw[e])) (BP.mp hn);exact(List.perm_ext_iff_of_nodup h1 h2).mpr fun z=>(O z).trans (hm z).symm
  refine⟨_,rfl,D,fh,rfl,Z,_,_,rfl,rfl,_,rfl,?_⟩;rw[decide_eq_false (show¬ ((40:Int) < (fh.length:Int)) by rw[hN.1];omega)];refine dD ?_;have hok:∀ u∈us,u.Ok (fq.map c3):=fun u hu=>by
   obtain⟨j,hj⟩:=BQ ((O u).mp hu);have ay:j < xs.length:=by rw[hT.len];exact(AM.mp hj).1
   obtain⟨u2,h2,_,h4⟩:=hT.at' j _ (Ab ay);rw[hj]at h2;cases h2;exact h4
  have aA:cW H3 (fh.map (·.2)) us (fq.map c3):=⟨by rw[Ad,hN.1],fun i z hz=>by
   rw[AS]at hz;obtain⟨pz,hp,rfl⟩:=DS.mp hz;obtain⟨u,a,_,c⟩:=hN.2 i pz hp;exact⟨u,a,c,hok u (AN a)⟩⟩
  refine⟨_,rfl,_,rfl,D,fh,rfl,Z,fun v hv=>?_⟩;have sv:=aV (o:=xV v D) hv;have J:=aA.same sv;refine⟨v,fh.map (·.2),aBz (upd H3 v (xV v D)),rfl,.inr ⟨D,fh,aH,sv _ _ Z,rfl⟩,by rw[Ad,hN.1];omega,aDt J,fun E1 kk p H5 s5 hE aw hk ho eE=>?_⟩
  obtain⟨os,ho1,ho2,ho3⟩:=wH J Y aw hk ho s5;refine⟨E1,_,rfl,.inl ⟨bF eE,fun l hl=>⟨zZ2,fun t ht=>?_⟩⟩⟩;have sl:=aV (o:=.tup (p.map fun i=>(fh.map (·.2)).getD i .non)) hl
  have el:upd H5 l (.tup (p.map fun i=>(fh.map (·.2)).getD i .non)) l=some (.tup (p.map fun i=>(fh.map (·.2)).getD i .non)):=aH
  generalize upd H5 l (.tup (p.map fun i=>(fh.map (·.2)).getD i .non))=H6 at sl el ht ⊢
  have st:=aV (o:=.tup [V.ref tl,.ref l]) ht;have ax:bW H2 H6:=((s3.trans sv).trans s5).trans sl;have ae:=ax.trans st;have bp:=ho1.length_eq;have bh:=ho3.len;refine k t os _ (B.trans ae) (ho1.trans aq) ho2 (.tup aH (by show 2≤1000;decide) (.cons (U.same (s2.trans ae)) (.cons (.tup (st _ _ el) (by omega) ((ho3.rdvs).same (sl.trans st))) .nil)))
theorem aGC(p q:P3):okD (pD p) (pD q)=true:=by
 simp[okD,okL,pD]
theorem yX:∀(R S:List P3),okL (R.map pD) (S.map pD)=true
 | [],_=>by simp[okL]
 | p :: R,[]=>by simp[okL]
 | p :: R,q :: S=>by
  rw[A4,A4];unfold okL;split
  ·exact yX R S
  ·exact aGC p q
theorem aBC:∀(R S:List Str),okL (R.map AQ) (S.map AQ)=true
 | [],_=>by simp[okL]
 | p :: R,[]=>by simp[okL]
 | p :: R,q :: S=>by
  rw[A4,A4];unfold okL;split
  ·exact aBC R S
  ·simp[okD]
theorem aHH{word:Str}{ds es:List Ai}(h:fV word ds)(h':fV word es):okL ds es=true:=by
 generalize hw:word=q at h';cases h <;> cases h' <;> first | exact absurd hw (by decide) | simp[okL,okD,yX,aBC]
theorem aDx{u v:bS}{fs:List Str}(h:u.Ok fs)(h':v.Ok fs):okD u.d v.d=true:=by
 unfold bS.d gJ;simp only[okD];unfold okL;split
 ·next e=>
  have q:u.word=v.word:=by simpa[BF]using e
  unfold okL;split
  ·unfold okL;split
   ·have h2:=h'.rs;rw[← q]at h2;exact aHH h.rs h2
   ·simp[okD]
  ·simp[okD]
 ·simp[okD]
theorem aBD:∀ R:List P3,plL (R.map pD)=true
 | []=>rfl
 | p :: R=>by simp[plL,plD,pD,aBD R]
theorem aDy:∀ R:List Str,plL (R.map AQ)=true
 | []=>rfl
 | p :: R=>by simp[plL,plD,aDy R]
theorem yY:∀ R:List P3,Bf (R.map pD)≤1
 | []=>by simp[Bf]
 | p :: R=>by
  have:=yY R;simp[Bf,BG,pD];omega
theorem aBE:∀ R:List Str,Bf (R.map AQ)=0
 | []=>by simp[Bf]
 | p :: R=>by simp[Bf,BG,aBE R]
theorem yZ:∀ R:List P3,(R.map pD).all gE=true→A1 (R.map pD)=true
 | [],_=>by simp[A1]
 | p :: R,h=>by
  rw[A4,CF,AH]at h;have h1:(cC p.1 && cC p.2.1 && decide (1≤p.2.2∧p.2.2≤10000000))=true:=h.1;rw[AH,AH]at h1;simp[A1,B1,pD,dZ h1.1.1,dZ h1.1.2];exact yZ R h.2
theorem aBF:∀ R:List Str,(R.map AQ).all cE=true→A1 (R.map AQ)=true
 | [],_=>by simp[A1]
 | p :: R,h=>by
  rw[A4,CF,AH]at h;simp[A1,B1,dZ (show cC p=true from h.1)];exact aBF R h.2
theorem fV.pll{word:Str}{ds:List Ai}(h:fV word ds):plL ds=true∧A1 ds=true∧Bf ds≤2:=by
 cases h with
 | @part F R z _ _ _ ha=>
  have:=yY R;exact⟨by simp[plL,plD,aBD],by simp[A1,B1,dZ z,yZ R ha],by simp[Bf,BG];omega⟩
 | @join F R z _ _ _ ha=>exact⟨by simp[plL,plD,aDy],by simp[A1,B1,dZ z,aBF R ha],by simp[Bf,BG,aBE]⟩
 | forfeit z q=>exact⟨by simp[plL,plD],by simp[A1,B1,dZ z,dZ q],by simp[Bf,BG]⟩
 | measure B _ _=>exact⟨by simp[plL,plD],by simp[A1,B1,dZ B],by simp[Bf,BG]⟩
 | mend q J _=>exact⟨by simp[plL,plD],by simp[A1,B1,dZ q,dZ J],by simp[Bf,BG]⟩
 | alone q=>exact⟨by simp[plL,plD],by simp[A1,B1,dZ q],by simp[Bf,BG]⟩
 | breach B _ _ _ _ _ _=>exact⟨by simp[plL,plD],by simp[A1,B1,dZ B],by simp[Bf,BG]⟩
 | view B _ _ q=>exact⟨by simp[plL,plD],by simp[A1,B1,dZ B,dZ q],by simp[Bf,BG]⟩
theorem bS.Ok.rowD{u:bS}{fs:List Str}(h:u.Ok fs):L2.RowD u.d:=by
 obtain⟨h1,h2,h3⟩:=h.rs.pll;have hw:EY u.word=true:=by
  have:∀ w∈fE,EY w=true:=by decide
  exact this _ h.rs.word
 refine⟨⟨_,_,rfl⟩,?_,?_,?_⟩
 ·simp[bS.d,gJ,plD,plL,h1]
 ·simp[bS.d,gJ,B1,A1,hw,dZ h.nm,h2]
 ·simp[bS.d,gJ,BG,Bf];omega
theorem bS.d_inj{u v:bS}(h:u.d=v.d):u=v:=by
 obtain⟨a,b,c,d⟩:=u;obtain⟨a',b',c',d'⟩:=v;unfold bS.d gJ at h;injection h with h;injection h with h1 h;injection h with h2 h;injection h with h3 h;injection h1 with h1;injection h2 with h2;injection h3 with h3;dsimp only at h1 h2 h3 h;rw[h1,h2,h3,h]
def kI(us:List bS):Prop:=us.Pairwise fun a b=>ltD a.d b.d=true
theorem wJ{fs:List Str}:∀{l m:List bS},l.Perm m→(∀ u∈l,u.Ok fs)→kI l→kI m→l=m
 | [],m,h,_,_,_=>(EG h.symm).symm
 | x :: r,[],h,_,_,_=>by simpa using h.length_eq
 | x :: r,y :: q,h,ok,h1,h2=>by
  obtain⟨a1,a2⟩:=Ck.mp h1;obtain⟨b1,b2⟩:=Ck.mp h2;have e:x=y:=by
   rcases An.mp (h.mem_iff.mp (AI (a:=x) (l:=r)))with e | hx
   ·exact e
   ·have z:=h.mem_iff.mpr (AI (a:=y) (l:=q));rcases An.mp z with e | J
    ·exact e.symm
    ·have B:=(ok x AI).rowD.pl;have:=aCa _ _ _ B (ok y z).rowD.pl B (a1 y J) (b1 x hx);rw[qG B]at this;cases this
  subst e;rw[wJ ((Fe x).mp h) (fun u F=>ok u (AL _ F)) a2 b2]
def kJ(us:List bS)(bs:List Str):List bS:=us.filter fun r=>decide (((us.map (·.name)).countP fun y=>decide (y=r.name))=1) && !decide (r.name∈bs)
theorem oT{us:List bS}{r:bS}{fs:List Str}(ok:∀ u∈us,u.Ok fs)(q:r.Ok fs):((us.map bS.d).any fun e=>BF e r.d)=true↔r∈us:=by
 rw[CT];constructor
 ·rintro⟨e,he,h⟩;obtain⟨u,hu,rfl⟩:=Bs.mp he;have:=bS.d_inj (n5 _ _ (ok u hu).rowD.pl h q.rowD.pl);rw[← this];exact hu
 ·exact fun h=>⟨r.d,List.mem_map_of_mem h,vR _ q.rowD.pl⟩
theorem qU:∀{us:List bS}{fs:List Str},(∀ u∈us,u.Ok fs)→A1 (us.map bS.d)=true
 | [],_,_=>by simp[A1]
 | u :: us,fs,h=>by
  rw[A4];unfold A1;rw[(h u AI).rowD.ly,qU fun v q=>h v (AL _ q)];rfl
theorem aEC{H H':Hp}{a:Ag}(s:bW H H')(h:H' a=none):H a=none:=by
 cases q:H a with
 | none=>rfl
 | some o=>rw[s _ _ q]at h;cases h
theorem wK{d:Ai}(h:c4 d=true):d.hasDict=false∧dQ 1 d=d:=by
 obtain⟨f,g,a,i,rfl,_,hg,ha,hi⟩:=jX h;refine⟨?_,by show Dw _=_;rw[qM]⟩;cases g <;> first | cases hg | skip
 cases a <;> first | cases ha | skip
 all_goals (cases i <;> first | cases hi | rfl)
theorem wL{fq:List Ai}(h:fq.all c4=true):(Dw fq).hasDict=false:=by
 show AX fq=false
 induction fq with
 | nil=>rfl
 | cons d r q=>
  rw[CF,AH]at h;show(d.hasDict || AX r)=false;rw[(wK h.1).1,q h.2];rfl
theorem aDz{fq:List Ai}(h:fq.all c4=true):dQ 2 (.tuple fq)=.tuple fq:=by
 show Dw (fq.map (dQ 1))=_;congr 1
 induction fq with
 | nil=>rfl
 | cons d r q=>
  rw[CF,AH]at h;rw[A4,(wK h.1).2,q h.2]
theorem bS.Ok.okd{r:bS}{fs:List Str}(h:r.Ok fs):OkD 13352 3 r.d∧nM (dQ 3 r.d) r.d:=by
 have F:∀ d∈(AQ r.word :: AQ r.name :: C2 r.day :: r.ds),eI d=false∨∃ es,d=.tuple es∧es.all nE=true:=fun d hd=>by
  simp only[An]at hd;rcases hd with rfl | rfl | rfl | hd
  ·exact .inl rfl
  ·exact .inl rfl
  ·exact .inl rfl
  ·rcases h.rs.inner d hd with z | ⟨es,z,_,y⟩
   ·exact .inl z
   ·exact .inr ⟨es,z,y⟩
 have q:=gY.refl_of F;have B:(AQ r.word :: AQ r.name :: C2 r.day :: r.ds).length≤7:=by
  have:=h.rs.len;simp only[A5];omega
 exact⟨(yR (aGt h.rs h.nm h.d0 h.d1) q B).2,v9 h.rs q⟩
theorem bS.Ok.thg{r:bS}{fs:List Str}(h:r.Ok fs){H:Hp}{x:V}(rd:RdV false H x r.d):Thg H x r:=⟨r.d,rd.flip (fI h.rs) true,h.okd.2⟩
structure gZ(H:Hp)(t:Ag)(fq:List Ai)(us:List bS)(bs:List Str):Prop where
 ex:∃(lay fo ba:Ag) (ys:List V),H t=some (.tup [.ref lay,.ref fo,.ref ba])∧RdV false H (.ref lay) (.tuple fq)∧H fo=some (.tup ys)∧cW H ys us (fq.map c3)∧H ba=some (.tup (bs.map V.str))
 lf:fq.all c4=true
 ll:aBw (.tuple fq)=true
 l8:fq.length≤8
 u6:us.length≤60
 b6:bs.length≤60
theorem gZ.same{H H':Hp}{t:Ag}{fq:List Ai}{us:List bS}{bs:List Str}(h:gZ H t fq us bs)(s:bW H H'):gZ H' t fq us bs:=by
 obtain⟨lay,fo,ba,ys,h1,h2,h3,h4,h5⟩:=h.ex;exact⟨⟨lay,fo,ba,ys,s _ _ h1,h2.same s,s _ _ h3,h4.same s,s _ _ h5⟩,h.lf,h.ll,h.l8,h.u6,h.b6⟩
theorem gZ.ok{H:Hp}{t:Ag}{fq:List Ai}{us:List bS}{bs:List Str}(h:gZ H t fq us bs):∀ u∈us,u.Ok (fq.map c3):=fun u q=>by
 obtain⟨lay,fo,ba,ys,_,_,_,h4,_⟩:=h.ex;obtain⟨i,hi⟩:=BQ q;obtain⟨u',e,_,ok⟩:=h4.at' i _ (Ab (by rw[h4.len];exact(AM.mp hi).1));rw[hi]at e;cases e;exact ok
theorem cW.snoc{H:Hp}{xs:List V}{us:List bS}{fs:List Str}{x:V}{u:bS}(h:cW H xs us fs)(rd:RdV false H x u.d)(ok:u.Ok fs):cW H (xs ++ [x]) (us ++ [u]) fs:=by
 refine⟨by rw[Au,Au,h.len];rfl,fun i y q=>?_⟩;have B:=h.len;rcases F1 i xs.length with z | z | z
 ·rw[BD z]at q;obtain⟨v,h1,h2⟩:=h.at' i y q;exact⟨v,by rw[BD (by omega)];exact h1,h2⟩
 ·rw[z,Bz (Ao _),Nat.sub_self]at q;cases q;exact⟨u,by rw[z,B,Bz (Ao _),Nat.sub_self];rfl,rd,ok⟩
 ·rw[AZ (by rw[Au];show xs.length + 1≤i;omega)]at q;cases q
theorem cW.pick{H:Hp}{xs:List V}{us:List bS}{fs:List Str}(h:cW H xs us fs){o:List Nat}(O:o.Perm (AU us.length)):∃ vs:List bS,vs.Perm us∧cW H (o.map fun i=>xs.getD i .non) vs fs∧(o.map fun i=>(us.map bS.d).getD i .none)=vs.map bS.d:=by
 have U:=h.len;have F:∀ i∈o,i < us.length:=fun i hi=>BK.mp (O.mem_iff.mp hi);cases us with
 | nil=>
  have:o=[]:=by simpa using O
  subst this;exact⟨[],.refl _,⟨rfl,fun i x M=>by simp at M⟩,rfl⟩
 | cons z q=>
  refine⟨o.map fun i=>(z :: q).getD i z,?_,⟨by rw[Ad,Ad],fun i x M=>?_⟩,?_⟩
  ·refine(O.map _).trans (FS ?_);apply CJ;intro j;rw[AS];by_cases B:j < (z :: q).length
   ·rw[Da B,Ab B];show some ((z :: q).getD j z)=_;rw[Ak,Ab B];rfl
   ·rw[AZ (by simpa using B),AZ (by omega)];rfl
  ·rw[AS]at M;obtain⟨j,B,rfl⟩:=DS.mp M;have J:j < xs.length:=by have:=F j (AN B);omega
   obtain⟨u,e,r,ok⟩:=h.at' j xs[j] (Ab J);refine⟨u,?_,?_,ok⟩
   ·rw[AS,B];show some ((z :: q).getD j z)=some u;rw[Ak,e];rfl
   ·rw[Ak,Ab J];exact r
  ·rw[Ct];refine C9 fun i hi=>?_;have:=F i hi;show((z :: q).map bS.d).getD i .none=((z :: q).getD i z).d;rw[Ak,AS,Ak,Ab this];rfl
theorem aDA{vs:List bS}{l:List Ai}(e:l=vs.map bS.d)(h:l.Pairwise fun a b=>ltD a b=true):kI vs:=by
 rw[e]at h;exact BP.mp h
theorem qV(us:List bS)(bs:List Str):(kJ us bs).length≤us.length:=List.length_filter_le _ _
theorem aED{z:Str}:∀{l:List Str},l.countP (fun y=>decide (y=z))=1→∀{a b:List Str},l=a ++ z :: b→z ∉ a∧z ∉ b:=by
 intro l h a b e;rw[e,List.countP_append,List.countP_cons_of_pos (by simp)]at h;constructor
 ·intro hz;have:0 < a.countP fun y=>decide (y=z):=List.countP_pos_iff.mpr ⟨z,hz,by simp⟩;omega
 ·intro hz;have:0 < b.countP fun y=>decide (y=z):=List.countP_pos_iff.mpr ⟨z,hz,by simp⟩;omega
theorem aBG(us:List bS)(bs:List Str):((kJ us bs).map (·.name)).Nodup:=by
 have B:∀(p:bS→Bool) (pre us:List bS),(∀ r∈us,p r=true→((pre ++ us).map (·.name)).countP (fun y=>decide (y=r.name))=1)→((us.filter p).map (·.name)).Nodup:=by
  intro p pre us
  induction us generalizing pre with
  | nil=>intro _;simp
  | cons u us J=>
   intro h;have z:=J (pre ++ [u]) fun r F q=>by
    rw[Bg];exact h r (AL _ F) q
   rw[F5];split
   ·next q=>
    rw[A4,CL];refine⟨fun hm=>?_,z⟩;obtain⟨v,hv,e⟩:=Bs.mp hm;have h1:=h u AI q;rw[AY,A4]at h1;exact(aED h1 rfl).2 (by rw[← e];exact List.mem_map_of_mem (Er.mp hv).1)
   ·exact z
 refine B _ [] us fun r F q=>?_;simp only[AH]at q;exact Ie q.1
inductive qW(vs:List V)(H:Hp)(Q:VK)(u3_:XK):Prop
 | mk (t:Ag) (fq:List Ai) (us:List bS) (bs:List Str) (q0:vs=[.ref t]) (q1:gZ H t fq us bs) (q2:∀(l:Ag) (xs:List V) (H':Hp),bW H H'→H l=none→H' l=some (.lst xs)→cW H' xs (kJ us bs) (fq.map c3)→Q (.ref l) H'):qW vs H Q u3_
def pT:Sp:=fun vs H Q u3_=>qW vs H Q u3_
inductive y8(vs:List V)(H:Hp)(Q:VK)(u3_:XK):Prop
 | mk (x:V) (d0:Ai) (fq:List Ai) (q0:vs=[x]) (q1:RdV true H x d0) (q2:dQ 2 d0=.tuple fq) (q3:aBw (.tuple fq)=true) (q4:fq.all c4=true) (q5:fq.length≤8) (q6:∀(t:Ag) (H':Hp),bW H H'→gZ H' t fq [] []→Q (.ref t) H'):y8 vs H Q u3_
def aDB:Sp:=fun vs H Q u3_=>y8 vs H Q u3_
inductive tO(vs:List V)(H:Hp)(Q:VK)(u3_:XK):Prop
 | mk (t:Ag) (x:V) (fq:List Ai) (us:List bS) (bs:List Str) (r:bS) (q0:vs=[.ref t,x]) (q1:gZ H t fq us bs) (q2:Thg H x r) (q3:r.Ok (fq.map c3)) (q4:us.length < 40) (q5:us.Nodup) (q6:(r∈us→∀ H',bW H H'→Q (.ref t) H')) (q7:(r ∉ us→∀(t':Ag) (us':List bS) (H':Hp),bW H H'→gZ H' t' fq us' bs→us'.Perm (us ++ [r])→kI us'→Q (.ref t') H')):tO vs H Q u3_
def y9:Sp:=fun vs H Q u3_=>tO vs H Q u3_
inductive tP(vs:List V)(H:Hp)(Q:VK)(u3_:XK):Prop
 | mk (t:Ag) (fq:List Ai) (us:List bS) (bs:List Str) (q0:vs=[.ref t]) (q1:gZ H t fq us bs) (q2:us.length≤40) (q3:∀(t':Ag) (os:List bS) (H':Hp),bW H H'→os.Perm (kJ us bs)→wF os→RdV false H' (.ref t') (aDv fq os)→Q (.ref t') H'):tP vs H Q u3_
def zC:Sp:=fun vs H Q u3_=>tP vs H Q u3_
theorem oU{a b:V}{r:List V}:atI (a :: b :: r) 1=some b:=fG (j:=1) rfl
theorem qX{H:Hp}{x:V}{u:bS}{fs:List Str}(rd:RdV false H x u.d)(ok:u.Ok fs):∃ q cS,x=.ref q∧H q=some (.tup (.str u.word :: .str u.name :: cS)):=by
 obtain⟨t,cS,e,h,_⟩:=ok.at rd;exact⟨t,_,e,h⟩
theorem wM:bY ["state","laying","forms","backs","names"] ["state"] (aO gW):=⟨rfl,rfl,rfl,by decide,rfl,by decide,by decide⟩
theorem aBH{f:Ag}{fd:AK}(F:Fun K "standing" "standing" gW f fd)
  :cY P w K mg base CX0 2 f fd ["state"] pT:=by
 refine F.ok wM (fun vs H Q E h=>?_) (fun ah A outer s H vs Q E hr h=>?_)
 ·obtain⟨t,fq,us,bs,rfl,_⟩:=h;rfl
 ·obtain⟨t,fq,us,bs,rfl,st,k⟩:=h;have nd:=wM.nd;refine⟨_,(aM (iY (pv 0) (kM rfl (cO (bJ (i:=1) nd rfl (AE rfl)) (cO (bJ (i:=2) nd rfl (AE rfl)) (cO (bJ (i:=3) nd rfl (En rfl)) iQ)))))
   (aM (bQ (i:=4) nd rfl (En rfl) (eG (N:=["row"]) (src:=[none]) (osc:=aO gW) (oN:=["state","laying","forms","backs","names"]) ⟨by rfl,by decide,by decide,by decide,rfl,by rfl⟩ (iE (pv 2)) (fun cl s H fp di C=>⟨bJ (i:=0) (show(["row"]:List Str).Nodup by decide) rfl (AE rfl),dW,cH (r:=wN K) c5 (pv 0) aQ Ig⟩)))
   (aW (bC (eG (N:=["row","backs","names"]) (src:=[none,some 3,some 4]) (osc:=aO gW) (oN:=["state","laying","forms","backs","names"]) ⟨by rfl,by decide,by decide,by decide,rfl,by rfl⟩ (iE (pv 2)) (fun cl s H fp di C=>⟨bJ (i:=0) (show(["row","backs","names"]:List Str).Nodup by decide) rfl (AE rfl),zM (PW.pt (nT (cA eY (zN (K:=K) BJ PySem.F.slot_list_count PySem.F.type_list_count yA (pv 2) (aG (cH (r:=wN K) c5 (pv 0) aQ Ig) aF)) aQ (cM _)) (j0 (cA (r:=rIn K true) i6 (cH (r:=wN K) c5 (pv 0) aQ Ig) (pv 1) (by with_unfolding_all rfl))))),pv 0⟩)))))),?_⟩
  obtain⟨lay,fo,ba,ys,h1,h2,h3,h4,h5⟩:=st.ex;have O:=h4.len;have ai:=st.u6;have z6:ys.length≤sizeLine:=aS (by omega);refine⟨_,rfl,t,_,rfl,bI h1,rfl,_,_,rfl,_,_,rfl,_,_,rfl,rfl,_,rfl,fo,rfl,⟨_,bI h3⟩,?_⟩;refine gN (K:=K) (xs:=ys) (fun i zs J H'=>∃(o:Option V),J=[o]∧H'=H∧zs=((us.take i).map (·.name)).map V.str) ⟨none,rfl,rfl,rfl⟩ z6 (fun i zs σ H' p=>by obtain⟨_,_,_,rfl⟩:=p;rw[Ad,Ad,Bh];omega) (fun i zs σ H' p=>by obtain⟨_,_,rfl,_⟩:=p;exact bI h3) ?_ ?_
  ·rintro i v zs J H' Z ⟨o,rfl,rfl,rfl⟩;obtain⟨u,hu,rd,ok⟩:=h4.at' i v Z;obtain⟨q,cS,rfl,hq⟩:=qX rd ok;dsimp only[dG];refine dJ ?_;refine⟨_,rfl,q,_,1,_,rfl,rfl,bI hq,oU,_,rfl,rfl,?_⟩;rw[Bk,hu,AY,AY];rfl
  rintro zs J H' ⟨o,rfl,rfl,rfl⟩ N hN;rw[O,BI];have B:=aV (o:=.lst ((us.map (·.name)).map V.str)) hN
  have eN:upd H' N (.lst ((us.map (·.name)).map V.str)) N=some (.lst ((us.map (·.name)).map V.str)):=aH
  generalize upd H' N _=H1 at B eN ⊢;dsimp only[dG];obtain⟨z,hpp⟩:∃ z:bS→Bool,z=fun r=>decide (((us.map (·.name)).countP fun y=>decide (y=r.name))=1) && !decide (r.name∈bs):=⟨_,rfl⟩
  refine⟨_,rfl,fo,rfl,⟨_,bI (B _ _ h3)⟩,?_⟩;refine gN (K:=K) (xs:=ys) (fun i zs J H'=>∃(o:Option V),Aw3 (J=[o,some (.ref ba),some (.ref N)]) (H'=H1) (zs.length≤i∧cW H1 zs ((us.take i).filter z) (fq.map c3))) ⟨none,rfl,rfl,Ao _,⟨rfl,fun i x hx=>by simp at hx⟩⟩ z6 (fun i zs σ H' p=>by obtain⟨_,_,_,h,_⟩:=p;exact h) (fun i zs σ H' p=>by obtain⟨_,_,rfl,_⟩:=p;exact bI (B _ _ h3)) ?_ ?_
  ·rintro i v zs J H2 Z ⟨o,rfl,rfl,M,hR⟩;obtain⟨u,hu,rd,ok⟩:=h4.at' i v Z;have U:=rd.same B;obtain⟨q,cS,rfl,hq⟩:=qX U ok;have Y:(us.take (i + 1)).filter z=(us.take i).filter z ++ if z u=true then[u] else[]:=by
    rw[Bk,hu,List.filter_append];congr 1;show List.filter _ [u]=_;rw[F5,List.filter_nil]
   dsimp only[dG];refine⟨_,rfl,.inl ⟨rfl,_,bF eN⟩,_,rfl,q,_,1,_,rfl,rfl,bI hq,oU,N,_,u.name,rfl,rfl,eN,rfl,_,rfl,dY (fun g=>?_) fun g=>?_⟩
   ·have g1:((us.map (·.name)).countP fun y=>decide (y=u.name))=1:=by
     have:=V.int.inj (Ie g);omega
    refine⟨_,rfl,q,_,1,_,rfl,rfl,bI hq,oU,_,rfl,ba,_,rfl,.inr (bI (B _ _ h5)),rfl,iN _,_,rfl,?_⟩;show if (if true=true then !inV (V.str u.name) (bs.map V.str) else inV (V.str u.name) (bs.map V.str))=true then _ else _
    rw[Ib rfl,zY];by_cases W:u.name∈bs
    ·rw[Ic W];refine dD ⟨_,rfl,rfl,by omega,?_⟩;have:z u=false:=by rw[hpp];dsimp only;rw[Ic W];simp
     rw[Y,this,Ia AD,Cg];exact hR
    ·rw[decide_eq_false W];have:z u=true:=by rw[hpp];dsimp only;rw[decide_eq_false W,Ic g1];rfl
     refine dJ ⟨_,rfl,_,rfl,rfl,by rw[Au];exact Gc M,?_⟩;rw[Y,this,Ib rfl];exact hR.snoc U ok
   ·have:z u=false:=by
     rw[hpp];dsimp only;rw[decide_eq_false fun e=>g (Ic (by rw[e];rfl))];rfl
    refine⟨_,rfl,rfl,by omega,?_⟩;rw[Y,this,Ia AD,Cg];exact hR
  ·rintro zs J H2 ⟨o,rfl,rfl,M,hR⟩ L hL;have sL:=aV (o:=.lst zs) hL;rw[O,BI]at hR;refine k L zs _ (B.trans sL) (aEC B hL) aH ?_;unfold kJ;rw[← hpp];exact hR.same sL
theorem aDC:bY ["laying"] ["laying"] (aO rY):=⟨rfl,rfl,rfl,by decide,rfl,by decide,by decide⟩
theorem aGD{f:Ag}{fd:AK}(F:Fun K "start" "start" rY f fd)
  (GL:Cl P w K mg base 5 "laying_of" ["thing"] pS)
  :cY P w K mg base CX0 6 f fd ["laying"] aDB:=by
 refine F.ok aDC (fun vs H Q E h=>?_) (fun ab A outer s H vs Q E hr h=>?_)
 ·obtain⟨x,d0,fq,rfl,_⟩:=h;rfl
 ·obtain⟨x,d0,fq,rfl,rd,ed,J,hf,h8,k⟩:=h;have nd:=aDC.nd;have B:cZ 5 _:=hr;refine⟨_,(aW (bC (dA (aG (bG GL B (aG (pv 0) aF)) (aG (dA aF) (aG (dA aF) aF)))))),_,rfl,true,x,d0,rfl,rd,by rw[ed];exact J,fun y H1 Z U=>?_⟩;rw[ed]at U;have z:RdV false H1 y (.tuple fq):=RdV.unl U (.tup (nH hf));obtain⟨tl,rfl⟩:∃ tl,y=.ref tl:=by
   cases z with
   | tup e J r=>exact⟨_,rfl⟩
  refine⟨A0 _,fun W h1=>?_⟩;have M:=aV (o:=.tup []) h1;refine⟨A0 _,fun O h2=>?_⟩;have q:=aV (o:=.tup []) h2;refine⟨zZ3,fun t ht=>?_⟩;have st:=aV (o:=.tup [V.ref tl,.ref W,.ref O]) ht;have Y:=(M.trans q).trans st;exact k t _ (Z.trans Y) ⟨⟨tl,W,O,[],aH,z.same Y,st _ _ (q _ _ aH),⟨rfl,fun i x hx=>by simp at hx⟩,st _ _ aH⟩,hf,J,h8,A0 _,A0 _⟩
theorem zD:bY ["state","thing","laying","forms","backs","row","told"] ["state","thing"] (aO mH):=⟨rfl,rfl,rfl,by decide,rfl,by decide,by decide⟩
theorem aCy{f:Ag}{fd:AK}(F:Fun K "written" "written" mH f fd)(Z:mg "len"=none)(ap:mg "tuple"=none)(ac:mg "list"=none)(J:mg "sorted"=none)(an:∃ t,mg "MOST_FORMS"=some (.int 60 t))(aj:∃ t,mg "MOST_ROWS"=some (.int 40 t))
  (GR:Cl P w K mg base 9 "row_for" ["laying","thing"] oB)
  (GS:Cl P w K mg base 2 "standing" ["state"] pT)
  :cY P w K mg base CX0 10 f fd ["state","thing"] y9:=by
 refine F.ok zD (fun vs H Q E h=>?_) (fun bp A outer s H vs Q E hr h=>?_)
 ·obtain⟨t,x,fq,us,bs,r,rfl,_⟩:=h;rfl
 ·obtain⟨t,x,fq,us,bs,r,rfl,st,hth,hok,h40,hun,k1,k2⟩:=h;have nd:=zD.nd;obtain⟨tf,hmf⟩:=an;obtain⟨tm,hmr⟩:=aj;have aA:cZ 9 _:=hr;have ax:cZ 2 _:=hr.mono (by decide);have am:cZ 1 _:=hr.mono (by decide);refine⟨_,(aM (iY (pv 0) (kM rfl (cO (bJ (i:=2) nd rfl (AE rfl)) (cO (bJ (i:=3) nd rfl (AE rfl)) (cO (bJ (i:=4) nd rfl (AE rfl)) iQ)))))
   (aM (bQ (i:=5) nd rfl (AE rfl) (bG GR aA (aG (pv 2) (aG (pv 1) aF))))
   (aM (c8 (cA (aIM am) (pv 5) (pv 3) (by with_unfolding_all rfl)) (aW (bC (pv 0))) b8)
   (aM (bQ (i:=6) nd rfl (AE rfl) (dA (aG (pv 2) (aG (cQ cX (by rfl) ap (by kernel_rfl) (aG (aX (qI am) (by rfl) J (by kernel_rfl) (aG (cB aBT (cQ eD (by rfl) ac (by kernel_rfl) (aG (pv 3) aF)) (dP (aG (pv 5) aF))) aF)) aF)) (aG (pv 4) aF)))))
   (aM (c8 (PW.pt (iD (cA aAm (aX bE (by rfl) Z AO (aG (cH c5 (pv 6) aQ Ig) aF)) (dS (v:=.int 60) (by rfl) hmf ⟨_,rfl⟩) (cM _)) (fW (cA aAm (aX bE (by rfl) Z AO (aG (bG GS ax (aG (pv 6) aF)) aF)) (dS (v:=.int 40) (by rfl) hmr ⟨_,rfl⟩) (cM _))))) gS b8)
   (aW (bC (pv 6)))))))),?_⟩
  obtain⟨lay,fo,ba,ys,h1,h2,h3,h4,h5⟩:=st.ex;have bf:=h4.len;refine⟨_,rfl,t,_,rfl,bI h1,rfl,_,_,rfl,_,_,rfl,_,_,rfl,rfl,_,rfl,_,rfl,lay,_,x,r,rfl,pF.of h2 st.lf,by rw[Ad];exact st.l8,hth,hok,fun y H1 s1 ry=>?_⟩;dsimp only[dG];have z:=st.ok;have ak:=h4.same s1;refine⟨_,rfl,_,rfl,false,r.d,us.map bS.d,ry,.inl (.tup (s1 _ _ h3) (by omega) ak.rdvs),hok.rowD.ly,qU z,Bi hok.rowD.dp (by decide),_,rfl,dY (fun g=>?_) fun g=>?_⟩
  ·exact⟨_,rfl,k1 ((oT z hok).mp (by simpa using g)) H1 s1⟩
  have Y:r ∉ us:=fun h=>g (by simpa using(oT z hok).mpr h);refine⟨_,rfl,_,rfl,fo,ys,rfl,.inr (bI (s1 _ _ h3)),fun L hL=>?_⟩;have sL:=aV (o:=.lst ys) hL;refine⟨_,rfl,zZ1,fun L1 ag=>?_⟩;have ah:=aV (o:=.lst [y]) ag;have n1:L≠L1:=aY aH ag;refine⟨L,L1,ys,[y],rfl,rfl,ah _ _ aH,aH,aS (by show ys.length + 1≤1000000;omega),fun L2 aP=>?_⟩;have aB:=aV (o:=.lst (ys ++ [y])) aP;have s2:=(sL.trans ah).trans aB;have e2:upd (upd (upd H1 L (.lst ys)) L1 (.lst [y])) L2 (.lst (ys ++ [y])) L2=some (.lst (ys ++ [y])):=aH;generalize upd (upd (upd H1 L (.lst ys)) L1 (.lst [y])) L2 _=H2 at s2 e2 ⊢;have aq:cW H2 (ys ++ [y]) (us ++ [r]) (fq.map c3):=(ak.same s2).snoc (ry.same s2) hok;have q:∀ u∈us ++ [r],u.Ok (fq.map c3):=fun u hu=>by
   rcases Bo.mp hu with h | h
   ·exact z u h
   ·rw[BC.mp h];exact hok
  have B:∀ d∈(us ++ [r]).map bS.d,∃ u∈us ++ [r],u.d=d:=fun d hd=>by
   obtain⟨u,hu,e⟩:=Bs.mp hd;exact⟨u,hu,e⟩
  have aK:(us ++ [r]).Nodup:=C3.mpr ⟨hun,by simp,fun a ha b hb e=>Y (by rw[BC.mp hb]at e;rw[← e];exact ha)⟩;refine⟨L2,ys ++ [y],(us ++ [r]).map bS.d,rfl,e2,aq.rdvs,fun d hd e he=>?_,fun d hd=>?_,by rw[Ad,Au];show _ + 1 < 64;omega,fun L3 o ay ho hs=>?_⟩
  ·obtain⟨u,hu,rfl⟩:=B d hd;obtain⟨v,hv,rfl⟩:=B e he;exact aDx (q u hu) (q v hv)
  ·obtain⟨u,hu,rfl⟩:=B d hd;exact(q u hu).rowD
  rw[Ad]at ho;obtain⟨vs,hp,hV,ed⟩:=aq.pick ho;have ab:kI vs:=aDA ed (hs (zX (fun _ _ e=>bS.d_inj e) aK));have aD:=aV (o:=.lst (o.map fun i=>(ys ++ [y]).getD i .non)) ay;refine⟨L3,_,rfl,.inl ⟨bF aH,fun M aC=>?_⟩⟩;have aI:=aV (o:=.tup (o.map fun i=>(ys ++ [y]).getD i .non)) aC;have s3:=aD.trans aI;have O:upd (upd H2 L3 (.lst (o.map fun i=>(ys ++ [y]).getD i .non))) M (.tup (o.map fun i=>(ys ++ [y]).getD i .non)) M=some (.tup (o.map fun i=>(ys ++ [y]).getD i .non)):=aH;generalize upd (upd H2 L3 (.lst (o.map fun i=>(ys ++ [y]).getD i .non))) M _=H3 at s3 O ⊢;have af:=hV.same s3;generalize (o.map fun i=>(ys ++ [y]).getD i .non)=zs at O af;have bi:vs.length=us.length + 1:=by rw[hp.length_eq,Au];rfl
  have bj:=af.len;refine⟨_,rfl,zZ3,fun W az=>?_⟩;have U:=aV (o:=.tup [V.ref lay,.ref M,.ref ba]) az;have sA:=(s1.trans s2).trans (s3.trans U);have ae:gZ (upd H3 W (.tup [V.ref lay,.ref M,.ref ba])) W fq vs bs:=⟨⟨lay,M,ba,zs,aH,h2.same sA,U _ _ O,af.same U,sA _ _ h5⟩,st.lf,st.ll,st.l8,by omega,st.b6⟩
  have ai:upd H3 W (.tup [V.ref lay,.ref M,.ref ba]) W=some (.tup [V.ref lay,.ref M,.ref ba]):=aH;have aa:=U _ _ O;generalize upd H3 W _=H4 at sA ae ai aa ⊢;dsimp only[dG];refine⟨_,rfl,W,_,1,_,rfl,rfl,bI ai,rfl,M,_,rfl,.inr (bI aa),_,_,rfl,rfl,_,rfl,?_⟩;rw[decide_eq_false (show¬ ((60:Int) < (zs.length:Int)) by omega)];refine dD ?_;refine⟨_,rfl,W,fq,vs,bs,rfl,ae,fun l xs H5 s5 bm aE aT=>?_⟩;have bh:=aT.len;have bg:=qV vs bs;refine⟨l,_,rfl,.inl (bF aE),_,_,rfl,rfl,_,rfl,?_⟩;rw[decide_eq_false (show¬ ((40:Int) < (xs.length:Int)) by omega)];refine dD ?_;exact⟨_,rfl,k2 Y W vs H5 (sA.trans s5) (ae.same s5) hp ab⟩
theorem zE:bY ["state"] ["state"] (aO mI):=⟨rfl,rfl,rfl,by decide,rfl,by decide,by decide⟩
theorem aCz{f:Ag}{fd:AK}(F:Fun K "roll_now" "roll_now" mI f fd)
  (Z:Cl P w K mg base 12 "roll_of" ["laying","rows"] aBA)
  (GS:Cl P w K mg base 2 "standing" ["state"] pT)
  :cY P w K mg base CX0 13 f fd ["state"] zC:=by
 refine F.ok zE (fun vs H Q E h=>?_) (fun ae A outer s H vs Q E q h=>?_)
 ·obtain⟨t,fq,us,bs,rfl,_⟩:=h;rfl
 ·obtain⟨t,fq,us,bs,rfl,st,h40,k⟩:=h;have nd:=zE.nd;have B:cZ 12 _:=q;have O:cZ 2 _:=q.mono (by decide);refine⟨_,(aW (bC (bG Z B (aG (cH c5 (pv 0) aQ Ig) (aG (bG GS O (aG (pv 0) aF)) aF))))),?_⟩;obtain⟨lay,fo,ba,ys,h1,h2,h3,h4,h5⟩:=st.ex;have M:=st.ok;refine⟨_,rfl,t,_,0,_,rfl,rfl,bI h1,rfl,_,rfl,t,fq,us,bs,rfl,st,fun l xs H1 Y hl el hR=>?_⟩;have J:=aBG us bs;have ad:=qV us bs;have af:∀ r∈kJ us bs,r.Ok (fq.map c3):=fun r q=>M r (Er.mp q).1;refine⟨.ref lay,l,.tuple fq,fq,xs,kJ us bs,kJ us bs,rfl,(h2.same Y).flip (wL st.lf) true,aDz st.lf,st.ll,st.lf,st.l8,.inl el,by omega,⟨hR.len,fun i z hz=>?_,fun r q r' U e=>?_⟩,J,fun r=>Iff.rfl,by omega,fun t' os H2 s2 hp W rd=>k t' os H2 (Y.trans s2) hp W rd⟩
  ·obtain⟨u,e,rd,ok⟩:=hR.at' i z hz;exact⟨u,e,ok.thg rd,ok⟩
  ·obtain⟨i,hi⟩:=BQ q;obtain⟨j,hj⟩:=BQ U;obtain⟨hi',ei⟩:=AM.mp hi;obtain⟨hj',ej⟩:=AM.mp hj;have h2:=Cy.mp (BP.mp J);rcases F1 i j with z | z | z
   ·exact absurd (by rw[ei,ej];exact e) (h2 i j hi' hj' z)
   ·subst z;rw[← ei,← ej]
   ·exact absurd (by rw[ei,ej];exact e.symm) (h2 j i hj' hi' z)
theorem aCA{us vs:List bS}{bs q:List Str}(z:us.Perm vs)(B:bs.Perm q):(kJ us bs).Perm (kJ vs q):=by
 have e:(fun r:bS=>decide (((us.map (·.name)).countP fun y=>decide (y=r.name))=1) && !decide (r.name∈bs))=fun r:bS=>decide (((vs.map (·.name)).countP fun y=>decide (y=r.name))=1) && !decide (r.name∈q):=by
  funext r;rw[(z.map (·.name)).countP_eq,decide_eq_decide.mpr (B.mem_iff (a:=r.name))]
 unfold kJ;rw[e];exact z.filter _
theorem kI.nd{us:List bS}{fs:List Str}(h:kI us)(ok:∀ u∈us,u.Ok fs):us.Nodup:=by
 induction us with
 | nil=>simp
 | cons x r q=>
  obtain⟨a,b⟩:=Ck.mp h;refine CL.mpr ⟨fun B=>?_,q b fun u z=>ok u (AL _ z)⟩;have:=a x B;rw[qG (ok x AI).rowD.pl]at this;cases this
def stD(fq:List Ai)(us:List bS)(bs:List Str):Ai:=.tuple [.tuple fq,.tuple (us.map bS.d),.tuple (bs.map AQ)]
theorem gZ.rd{H:Hp}{t:Ag}{fq:List Ai}{us:List bS}{bs:List Str}(h:gZ H t fq us bs)(q:∀ b∈bs,cC b=true):RdV false H (.ref t) (stD fq us bs):=by
 obtain⟨lay,fo,ba,ys,h1,h2,h3,h4,h5⟩:=h.ex;have J:=h4.len;have F:=h.u6;have B:=h.b6;exact .tup h1 (by show 3≤1000;decide) (.cons h2 (.cons (.tup h3 (by omega) h4.rdvs) (.cons (.tup h5 (by rw[Ad];omega) (mQ fun z hz=>by have:=(iM (q z hz)).2;omega)) .nil)))
theorem aGE{a b c:Ai}(ha:OkD 900000 4 a)(q:OkD 900000 4 b)(hc:OkD 900000 4 c):OkD 3000000 10 (.tuple [a,b,c]):=by
 refine(OkD.tuple (n:=3) (b:=900000) (k:=4) (fun d hd=>?_) (by show 3≤3;decide)).mono (by decide) (by decide);simp only[An,Az,or_false]at hd;rcases hd with rfl | rfl | rfl
 ·exact ha
 ·exact q
 ·exact hc
theorem aDD{fq:List Ai}(q:aBx fq)(z:fq.length≤8):OkD 900000 4 (.tuple fq):=(OkD.tuple (fun d hd=>(q d hd).2.1) z).mono (by decide) (by decide)
theorem aBI{os:List bS}{fs:List Str}(q:∀ r∈os,r.Ok fs)(h:os.length≤60):OkD 900000 4 (.tuple (os.map bS.d)):=(OkD.tuple (n:=60) (b:=13352) (k:=3) (fun d hd=>by
  obtain⟨r,hr,rfl⟩:=Bs.mp hd;exact(q r hr).okd.1) (by rw[Ad];exact h)).mono (by decide) (by decide)
theorem aGF{bs:List Str}(q:∀ b∈bs,cC b=true)(h:bs.length≤60):OkD 900000 4 (.tuple (bs.map AQ)):=(OkD.tuple (n:=60) (b:=102) (k:=0) (fun d hd=>by
  obtain⟨r,hr,rfl⟩:=Bs.mp hd;exact OkD.name (q r hr)) (by rw[Ad];exact h)).mono (by decide) (by decide)
theorem gZ.okd{H:Hp}{t:Ag}{fq:List Ai}{us:List bS}{bs:List Str}(h:gZ H t fq us bs)(q:aBx fq)(z:∀ b∈bs,cC b=true):OkD 3000000 10 (stD fq us bs):=
 aGE (aDD q h.l8) (aBI h.ok h.u6) (aGF z h.b6)
theorem aHI{fq:List Ai}{os:List bS}{fs:List Str}(q:aBx fq)(B:fq.length≤8)(z:∀ r∈os,r.Ok fs)(h:os.length≤60):OkD 3000000 10 (aDv fq os):=by
 refine(OkD.tuple (n:=2) (b:=900000) (k:=4) (fun d hd=>?_) (by show 2≤2;decide)).mono (by decide) (by decide);simp only[An,Az,or_false]at hd;rcases hd with rfl | rfl
 ·exact aDD q B
 ·exact aBI z h
theorem tQ{H:Hp}{m:Bool}{a:Ag}{d:Ai}(r:RdV m H (.ref a) d)(o:OkD 3000000 10 d):RpV H (.ref a) d.shown:=.ref r o.sh (Bi o.dp (by decide)) (Bi o.len (by rw[PySem.sizeLine_eq];omega))
inductive pG(vs:List V)(H:Hp)(Q:VK)(u3_:XK):Prop
 | mk (lF lB:Ag) (xs:List V) (fo:List bS) (ba:List Str) (fs:List Str) (q0:vs=[.ref lF,.ref lB]) (q1:H lF=some (.lst xs)) (q2:cW H xs fo fs) (q3:fo.length≤40) (q4:H lB=some (.lst (ba.map V.str))) (q5:∀(t:Ag) (ys:List V) (os:List bS) (H':Hp),bW H H'→H' t=some (.tup ys)→cW H' ys os fs→os.Perm (kJ fo ba)→wF os→Q (.ref t) H'):pG vs H Q u3_
def tR:Sp:=fun vs H Q u3_=>pG vs H Q u3_
inductive oC(vs:List V)(H:Hp)(Q:VK)(u3_:XK):Prop
 | mk (t tL lF lB:Ag) (fq:List Ai) (us:List bS) (bs:List Str) (xs:List V) (fo:List bS) (ba:List Str) (q0:vs=[.ref t,.ref tL,.ref lF,.ref lB]) (q1:gZ H t fq us bs) (q2:RdV false H (.ref tL) (.tuple fq)) (q3:aBx fq) (q4:H lF=some (.lst xs)) (q5:cW H xs fo (fq.map c3)) (q6:us.Perm fo) (q7:kI us) (q8:us.length≤40) (q9:H lB=some (.lst (ba.map V.str))) (q10:bs.Perm ba) (q11:sortedS bs=true) (q12:(∀ b∈bs,cC b=true)) (q13:∀ H',bW H H'→Q (.bl true) H'):oC vs H Q u3_
def qY:Sp:=fun vs H Q u3_=>oC vs H Q u3_
theorem tT:bY ["_law_forms","_law_backs","_law_names_here","_law_some_here"] ["_law_forms","_law_backs"] (aO f8):=⟨rfl,rfl,rfl,by decide,rfl,by decide,by decide⟩
theorem aAe{f fK:Ag}{fd W:AK}(F:Fun K "_law_standing" "_law_standing" f8 f fd)(Z:mg "tuple"=none)(z:mg "sorted"=none)
  (GK:cY P w K mg base CX0 1 fK W ["_law_row_here"] qQ) (mK:mg "_law_place"=some (.ref fK)) (kK:Al K (.ref fK)=true) (bK:eU K W ["_law_row_here"] [])
  :cY P w K mg base CX0 4 f fd ["_law_forms","_law_backs"] tR:=by
 refine F.ok tT (fun vs H Q E h=>?_) (fun aI A outer s H vs Q E hr h=>?_)
 ·obtain⟨lF,lB,xs,fo,ba,fs,rfl,_⟩:=h;rfl
 ·obtain⟨lF,lB,ys,us,bs,fs,rfl,h3,h4,h40,h5,k⟩:=h;have nd:=tT.nd;have ac:cZ 3 _:=hr;refine⟨_,(aM (bQ (i:=2) nd rfl (En rfl) (eG (N:=["_law_row_here"]) (src:=[none]) (osc:=aO f8) (oN:=["_law_forms","_law_backs","_law_names_here","_law_some_here"]) ⟨by rfl,by decide,by decide,by decide,rfl,by rfl⟩ (i5 (pv 0)) (fun cl s H fp di C=>⟨bJ (i:=0) (show(["_law_row_here"]:List Str).Nodup by decide) rfl (AE rfl),dW,cH (r:=wN K) c5 (pv 0) aQ Ig⟩)))
   (aM (jO (i:=3) (N:=["_law_row_here","_law_backs","_law_names_here"]) (src:=[none,some 1,some 2]) (osc:=aO f8) (oN:=["_law_forms","_law_backs","_law_names_here","_law_some_here"]) ⟨by rfl,by decide,by decide,by decide,rfl,by rfl⟩ nd rfl (i5 (pv 0)) (fun cl s H fp di C=>⟨bJ (i:=0) (show(["_law_row_here","_law_backs","_law_names_here"]:List Str).Nodup by decide) rfl (AE rfl),zM (PW.pt (nT (cA eY (zN (K:=K) BJ PySem.F.slot_list_count PySem.F.type_list_count yA (pv 2) (aG (cH (r:=wN K) c5 (pv 0) aQ Ig) aF)) aQ (cM _)) (j0 (cA (r:=rIn K true) i6 (cH (r:=wN K) c5 (pv 0) aQ Ig) (pv 1) (by with_unfolding_all rfl))))),pv 0⟩))
   (aW (bC (cQ cX (by rfl) Z (by kernel_rfl) (aG (vP GK ac bK (by rfl) z (by rfl) mK (aG (pv 3) aF)) aF)))))),?_⟩
  have O:=h4.len;have z6:ys.length≤sizeLine:=aS (by omega);refine⟨_,rfl,lF,rfl,⟨_,bF h3⟩,?_⟩;refine jC (K:=K) (xs:=ys) (fun i zs J H'=>∃(o:Option V),J=[o]∧H'=H∧zs=((us.take i).map (·.name)).map V.str) ⟨none,rfl,rfl,rfl⟩ z6 (fun i zs σ H' p=>by obtain⟨_,_,_,rfl⟩:=p;rw[Ad,Ad,Bh];omega) (fun i zs σ H' p=>by obtain⟨_,_,rfl,_⟩:=p;exact bF h3) ?_ ?_
  ·rintro i v zs J H' hv ⟨o,rfl,rfl,rfl⟩;obtain⟨u,hu,rd,ok⟩:=h4.at' i v hv;obtain⟨q,cS,rfl,hq⟩:=qX rd ok;dsimp only[dG];refine dJ ?_;refine⟨_,rfl,q,_,1,_,rfl,rfl,bI hq,oU,_,rfl,rfl,?_⟩;rw[Bk,hu,AY,AY];rfl
  rintro zs J H' ⟨o,rfl,rfl,rfl⟩ N hN;rw[O,BI];have M:=aV (o:=.lst ((us.map (·.name)).map V.str)) hN
  have eN:upd H' N (.lst ((us.map (·.name)).map V.str)) N=some (.lst ((us.map (·.name)).map V.str)):=aH
  generalize upd H' N _=H1 at M eN ⊢;dsimp only[dG];obtain⟨B,hpp⟩:∃ B:bS→Bool,B=fun r=>decide (((us.map (·.name)).countP fun y=>decide (y=r.name))=1) && !decide (r.name∈bs):=⟨_,rfl⟩
  refine⟨_,rfl,lF,rfl,⟨_,bF (M _ _ h3)⟩,?_⟩;refine jC (K:=K) (xs:=ys) (fun i zs J H'=>∃(o:Option V),Aw3 (J=[o,some (.ref lB),some (.ref N)]) (H'=H1) (zs.length≤i∧cW H1 zs ((us.take i).filter B) fs)) ⟨none,rfl,rfl,Ao _,⟨rfl,fun i x hx=>by simp at hx⟩⟩ z6 (fun i zs σ H' p=>by obtain⟨_,_,_,h,_⟩:=p;exact h) (fun i zs σ H' p=>by obtain⟨_,_,rfl,_⟩:=p;exact bF (M _ _ h3)) ?_ ?_
  ·rintro i v zs J H2 hv ⟨o,rfl,rfl,U,hR⟩;obtain⟨u,hu,rd,ok⟩:=h4.at' i v hv;have Y:=rd.same M;obtain⟨q,cS,rfl,hq⟩:=qX Y ok;have et:(us.take (i + 1)).filter B=(us.take i).filter B ++ if B u=true then[u] else[]:=by
    rw[Bk,hu,List.filter_append];congr 1;show List.filter _ [u]=_;rw[F5,List.filter_nil]
   dsimp only[dG];refine⟨_,rfl,.inl ⟨rfl,_,bF eN⟩,_,rfl,q,_,1,_,rfl,rfl,bI hq,oU,N,_,u.name,rfl,rfl,eN,rfl,_,rfl,dY (fun g=>?_) fun g=>?_⟩
   ·have g1:((us.map (·.name)).countP fun y=>decide (y=u.name))=1:=by
     have:=V.int.inj (Ie g);omega
    refine⟨_,rfl,q,_,1,_,rfl,rfl,bI hq,oU,_,rfl,lB,_,rfl,.inl (bF (M _ _ h5)),rfl,iN _,_,rfl,?_⟩;show if (if true=true then !inV (V.str u.name) (bs.map V.str) else inV (V.str u.name) (bs.map V.str))=true then _ else _
    rw[Ib rfl,zY];by_cases g2:u.name∈bs
    ·rw[Ic g2];refine dD ⟨_,rfl,rfl,by omega,?_⟩;have:B u=false:=by rw[hpp];dsimp only;rw[Ic g2];simp
     rw[et,this,Ia AD,Cg];exact hR
    ·rw[decide_eq_false g2];have:B u=true:=by rw[hpp];dsimp only;rw[decide_eq_false g2,Ic g1];rfl
     refine dJ ⟨_,rfl,_,rfl,rfl,by rw[Au];exact Gc U,?_⟩;rw[et,this,Ib rfl];exact hR.snoc Y ok
   ·have:B u=false:=by
     rw[hpp];dsimp only;rw[decide_eq_false fun e=>g (Ic (by rw[e];rfl))];rfl
    refine⟨_,rfl,rfl,by omega,?_⟩;rw[et,this,Ia AD,Cg];exact hR
  ·rintro zs J H2 ⟨o,rfl,rfl,U,hR⟩ L hL;have sL:=aV (o:=.lst zs) hL;rw[O,BI]at hR;have eL:upd H2 L (.lst zs) L=some (.lst zs):=aH;generalize upd H2 L _=H3 at sL eL ⊢;have hS:cW H3 zs (kJ us bs) fs:=by
    unfold kJ;rw[← hpp];exact hR.same sL
   have ar:=qV us bs;have am:=hS.len;refine⟨_,rfl,L,zs,aBz H3,rfl,.inl (bF eL),by omega,aDt hS,fun E1 kk B HF sF hE ae hk ho eE=>?_⟩;obtain⟨os,ho1,ho2,ho3⟩:=wH hS (aBG us bs) ae hk ho sF;refine⟨E1,_,rfl,.inl ⟨bF eE,fun l hl=>?_⟩⟩;have sl:=aV (o:=.tup (B.map fun i=>zs.getD i .non)) hl;exact k l _ os _ ((M.trans sL).trans (sF.trans sl)) aH (ho3.same sl) ho1 ho2
theorem qZ:bY ["_law_state","_law_laying_here","_law_forms","_law_backs","_law_owed"] ["_law_state","_law_laying_here","_law_forms","_law_backs"] (aO gX):=⟨rfl,rfl,rfl,by decide,rfl,by decide,by decide⟩
theorem wY{f:Ag}{fd:AK}(F:Fun K "_law_state_right" "_law_state_right" gX f fd)(ab:mg "tuple"=none)(J:mg "sorted"=none)(B:mg "repr"=none)
  (GN:Cl P w K mg base 13 "roll_now" ["state"] zC)
  (GS:Cl P w K mg base 4 "_law_standing" ["_law_forms","_law_backs"] tR)
  :cY P w K mg base CX0 14 f fd ["_law_state","_law_laying_here","_law_forms","_law_backs"] qY:=by
 refine F.ok qZ (fun vs H Q E h=>?_) (fun bK A outer s H vs Q E hr h=>?_)
 ·obtain⟨t,tL,lF,lB,fq,us,bs,xs,fo,ba,rfl,_⟩:=h;rfl
 ·obtain⟨t,tL,lF,lB,fq,us,bs,xs,fo,ba,rfl,st,rL,hFl,eF,hF,hp,hrise,h40,eB,hb,hs,hnb,k⟩:=h;have nd:=qZ.nd;have aw:cZ 13 _:=hr;have bb:cZ 4 _:=hr.mono (by decide);have U:cZ 1 _:=hr.mono (by decide);refine⟨_,(aM (bQ (i:=4) nd rfl (AE rfl) (dA (aG (pv 1) (aG (cQ cX (by rfl) ab (by kernel_rfl) (aG (aX (qI U) (by rfl) J (by kernel_rfl) (aG (pv 2) aF)) aF)) (aG (cQ cX (by rfl) ab (by kernel_rfl) (aG (aX qA (by rfl) J (by kernel_rfl) (aG (pv 3) aF)) aF)) aF)))))
   (aM (c8 (cA sJ (aX (f7 U) (by rfl) B (by kernel_rfl) (aG (pv 0) aF)) (aX (f7 U) (by rfl) B (by kernel_rfl) (aG (pv 4) aF)) (cM _)) (aW (bC jK)) b8)
   (aW (bC (gO eY (aX (f7 U) (by rfl) B (by kernel_rfl) (aG (bG GN aw (aG (pv 0) aF)) aF)) (aX (f7 U) (by rfl) B (by kernel_rfl) (aG (dA (aG (pv 1) (aG (bG GS bb (aG (pv 2) (aG (pv 3) aF))) aF))) aF)) (cM _)))))),?_⟩
  have bv:=hF.len;have bt:=hp.length_eq;have bO:=hb.length_eq;have bz:=st.b6;have q:=st.ok;have W:∀ u∈fo,u.Ok (fq.map c3):=fun u hu=>q u (hp.mem_iff.mpr hu);have M:∀ d∈fo.map bS.d,∃ u∈fo,u.d=d:=fun d hd=>by
   obtain⟨u,hu,e⟩:=Bs.mp hd;exact⟨u,hu,e⟩
  have aT:fo.Nodup:=hp.nodup_iff.mp (hrise.nd q);refine⟨_,rfl,_,rfl,lF,xs,fo.map bS.d,rfl,eF,hF.rdvs,fun d hd e he=>?_,fun d hd=>?_,by rw[Ad];omega,fun L3 o aD ho bf=>?_⟩
  ·obtain⟨u,hu,rfl⟩:=M d hd;obtain⟨v,hv,rfl⟩:=M e he;exact aDx (W u hu) (W v hv)
  ·obtain⟨u,hu,rfl⟩:=M d hd;exact(W u hu).rowD
  rw[Ad]at ho;obtain⟨vs,hpv,hV,ed⟩:=hF.pick ho;have Z:kI vs:=aDA ed (bf (zX (fun _ _ e=>bS.d_inj e) aT));have ev:us=vs:=wJ (hp.trans hpv.symm) q hrise Z;subst ev;have aN:=aV (o:=.lst (o.map fun i=>xs.getD i .non)) aD;refine⟨L3,_,rfl,.inl ⟨bF aH,fun tp aL=>?_⟩⟩;have aR:=aV (o:=.tup (o.map fun i=>xs.getD i .non)) aL;have s3:=aN.trans aR;have af:upd (upd H L3 (.lst (o.map fun i=>xs.getD i .non))) tp (.tup (o.map fun i=>xs.getD i .non)) tp=some (.tup (o.map fun i=>xs.getD i .non)):=aH;generalize upd (upd H L3 (.lst (o.map fun i=>xs.getD i .non))) tp _=H3 at s3 af ⊢;have ah:=hV.same s3;generalize (o.map fun i=>xs.getD i .non)=zs at af ah;have bA:=ah.len;refine⟨_,rfl,lB,ba,rfl,bF (s3 _ _ eB),by omega,fun L4 Y aP aC aI=>?_⟩;have em:Y=bs:=j7 (aC.trans hb.symm) (hJ _ aI) (hJ _ hs);subst em;have ag:=aV (o:=.lst (Y.map V.str)) aP;refine⟨L4,_,rfl,.inl ⟨bF aH,fun tb bc=>⟨zZ3,fun O hO=>?_⟩⟩⟩;have ad:=aV (o:=.tup (Y.map V.str)) bc;have s4:=s3.trans (ag.trans ad);have av:upd (upd H3 L4 (.lst (Y.map V.str))) tb (.tup (Y.map V.str)) tb=some (.tup (Y.map V.str)):=aH;have aa:=(ag.trans ad) _ _ af;have ao:=ah.same (ag.trans ad);generalize upd (upd H3 L4 (.lst (Y.map V.str))) tb _=H4 at s4 av aa ao hO ⊢;have sO:=aV (o:=.tup [V.ref tL,.ref tp,.ref tb]) hO;have eO:upd H4 O (.tup [V.ref tL,.ref tp,.ref tb]) O=some (.tup [V.ref tL,.ref tp,.ref tb]):=aH;generalize upd H4 O _=H5 at sO eO ⊢;have s5:=s4.trans sO;have ac:=st.same s5;have rO:RdV false H5 (.ref O) (stD fq us Y):=.tup eO (by show 3≤1000;decide) (.cons (rL.same s5) (.cons (.tup (sO _ _ aa) (by omega) (ao.same sO).rdvs) (.cons (.tup (sO _ _ av) (by rw[Ad];omega) (mQ fun z hz=>by have:=(iM (hnb z hz)).2;omega)) .nil)))
  have an:=ac.okd hFl hnb;refine⟨_,rfl,.ref t,_,rfl,tQ (ac.rd hnb) an,_,rfl,.ref O,_,rfl,tQ rO an,rfl,_,rfl,?_⟩;rw[Ic rfl];refine dD ?_;refine⟨_,rfl,t,fq,us,Y,rfl,ac,h40,fun t' os H6 s6 ai aU aB=>?_⟩;have aA:∀ r∈os,r.Ok (fq.map c3):=fun r hr=>q r (Er.mp (ai.mem_iff.mp hr)).1;have bd:os.length≤60:=by have:=qV us Y;have:=ai.length_eq;omega
  have aq:=aHI hFl st.l8 aA bd;refine⟨.ref t',_,rfl,tQ aB aq,_,rfl,_,rfl,_,rfl,lF,lB,xs,fo,ba,_,rfl,(s5.trans s6) _ _ eF,hF.same (s5.trans s6),by omega,(s5.trans s6) _ _ eB,fun tS ys ap H7 s7 eS am aK aJ=>?_⟩;have aE:ap=os:=wG (aK.trans ((aCA hp hb).symm.trans ai.symm)) aJ aU;subst aE;have bu:=am.len;refine⟨zZ2,fun R hR=>?_⟩;have sR:=aV (o:=.tup [V.ref tL,.ref tS]) hR;have s8:=(s5.trans s6).trans (s7.trans sR);have rR:RdV false (upd H7 R (.tup [V.ref tL,.ref tS])) (.ref R) (aDv fq ap):=.tup aH (by show 2≤1000;decide) (.cons (rL.same s8) (.cons (.tup (sR _ _ eS) (by omega) (am.same sR).rdvs) .nil));refine⟨.ref R,_,rfl,tQ rR aq,rfl,?_⟩;rw[Ic rfl];exact k _ s8
theorem aJh{ds:List Ai}{q:List Str}(z:aBx ds)(e:ds.map c3=q)(hw:Nms q)(h1:1≤q.length)(F:q.length≤8):aBw (.tuple ds)=true∧ds.all c4=true∧ds.length≤8:=by
 have B:ds.length=q.length:=by rw[← e,Ad]
 have ha:ds.all c4=true:=A8.mpr fun d hd=>(z d hd).1;refine⟨?_,ha,by omega⟩;show(decide (1≤ds.length∧ds.length≤8) && ds.all c4 && decide (ds.map c3).Nodup)=true;rw[ha,Ic (show 1≤ds.length∧ds.length≤8 by omega),Ic (show(ds.map c3).Nodup by rw[e];exact hw.nd)];rfl
theorem cW.but{H H':Hp}{p c:Ag}{ns:List Int}{a:Int}{xs:List V}{us:List bS}{fs:List Str}(h:cW H xs us fs)(q:cV H p c ns a)(k:aZ p H H'):cW H' xs us fs:=
 ⟨h.len,fun i x z=>by obtain⟨u,a,b,c⟩:=h.at' i x z;exact⟨u,a,hX b q k,c⟩⟩
theorem aAf{H:Hp}{a b:Ag}{o:HO}{xs:List V}(ha:H a=some o)(q:H b=some (.lst xs))(h:∀ ys,o≠.lst ys):a≠b:=fun e=>by
 rw[e,q]at ha;cases ha;exact h xs rfl
theorem aAg{H:Hp}{l:Ag}{xs ys:List V}{x:V}{d:Ai}(r:RdV false H x d)(e:H l=some (.lst xs)):RdV false (upd H l (.lst ys)) x d:=
 r.keepF fun a o q _ h=>by rw[bM (aAf q e h)];exact q
theorem uC{H:Hp}{l a:Ag}{xs ys zs:List V}(r:H a=some (.tup zs))(e:H l=some (.lst xs)):upd H l (.lst ys) a=some (.tup zs):=by
 rw[bM (aAf r e fun _ z=>nomatch z)];exact r
theorem cW.lst{H:Hp}{l:Ag}{zs q xs:List V}{us:List bS}{fs:List Str}(h:cW H xs us fs)(e:H l=some (.lst zs)):cW (upd H l (.lst q)) xs us fs:=
 ⟨h.len,fun i x z=>by obtain⟨u,a,b,c⟩:=h.at' i x z;exact⟨u,a,aAg b e,c⟩⟩
theorem gZ.lst{H:Hp}{l t:Ag}{zs q:List V}{fq:List Ai}{us:List bS}{bs:List Str}(h:gZ H t fq us bs)(e:H l=some (.lst zs)):gZ (upd H l (.lst q)) t fq us bs:=by
 obtain⟨lay,fo,ba,ys,h1,h2,h3,h4,h5⟩:=h.ex;exact⟨⟨lay,fo,ba,ys,uC h1 e,aAg h2 e,uC h3 e,h4.lst e,uC h5 e⟩,h.lf,h.ll,h.l8,h.u6,h.b6⟩
theorem gZ.but{H H':Hp}{p c:Ag}{ns:List Int}{a:Int}{t:Ag}{fq:List Ai}{us:List bS}{bs:List Str}(h:gZ H t fq us bs)(q:cV H p c ns a)(k:aZ p H H'):gZ H' t fq us bs:=by
 obtain⟨lay,fo,ba,ys,h1,h2,h3,h4,h5⟩:=h.ex;exact⟨⟨lay,fo,ba,ys,nC h1 q k,hX h2 q k,nC h3 q k,h4.but q k,nC h5 q k⟩,h.lf,h.ll,h.l8,h.u6,h.b6⟩
theorem cV.lst{H:Hp}{p c l:Ag}{ns:List Int}{a:Int}{zs q:List V}(h:cV H p c ns a)(e:H l=some (.lst zs))(n:c≠l):cV (upd H l (.lst q)) p c ns a:=by
 obtain⟨b,hb,ho⟩:=h.ob;refine⟨⟨b,hb,?_⟩,?_,h.ge,h.sm⟩
 ·rw[bM (aAf ho e fun _ z=>nomatch z)];exact ho
 ·rw[bM n];exact h.ce
inductive aBJ(vs:List V)(H:Hp)(Q:VK)(u3_:XK):Prop
 | mk (p c:Ag) (ns:List Int) (a:Int) (m:Nat) (q0:vs=[.ref p,.int m]) (q1:cV H p c ns a) (q2:a≤10000) (q3:m≤31) (q4:∀(t tL lR lN:Ag) (fq:List Ai) (xs:List V) (us:List bS) (rs:List Str) (a':Int) (H':Hp),H' t=some (.tup [.ref tL,.ref lR,.ref lN])→RdV false H' (.ref tL) (.tuple fq)→aBx fq→aBw (.tuple fq)=true→fq.all c4=true→fq.length≤8→H' lR=some (.lst xs)→cW H' xs us (fq.map c3)→us.length=m→H' lN=some (.lst (rs.map V.str))→rs.length=40→Nms rs→a≤a'→a'≤a + 10000→cV H' p c ns a'→Q (.ref t) H'):aBJ vs H Q u3_
def aGG:Sp:=fun vs H Q u3_=>aBJ vs H Q u3_
theorem aGH:bY ["_law_pen_here","_law_many","_law_fields","_law_plots","_law_houses","_law_names_here","_law_laying_here","_law_days_here","_law_few","_law_rows","_law_k","_law_name"] ["_law_pen_here","_law_many"] (aO yB):=⟨rfl,rfl,rfl,by decide,rfl,by decide,by decide⟩
theorem aHJ{f ag fL fD fT fR:Ag}{fd aa ao bj av bi:AK}(F:Fun K "_law_pool" "_law_pool" yB f fd)(aL:mg "range"=none)
  (bO:cY P w K mg base CX0 3 ag aa ["_law_pen_here","_law_fields","_law_rows"] aDg) (ci:mg "_law_sorts"=some (.ref ag)) (kSo:Al K (.ref ag)=true) (cx:eU K aa ["_law_pen_here","_law_fields","_law_rows"] [])
  (GL:cY P w K mg base CX0 3 fL ao ["_law_pen_here","_law_fields","_law_houses"] aDo) (mL:mg "_law_laying"=some (.ref fL)) (kL:Al K (.ref fL)=true) (bL:eU K ao ["_law_pen_here","_law_fields","_law_houses"] [])
  (GD:cY P w K mg base CX0 2 fD bj ["_law_pen_here","_law_many"] aGl) (mD:mg "_law_days"=some (.ref fD)) (kD:Al K (.ref fD)=true) (bD:eU K bj ["_law_pen_here","_law_many"] [])
  (GT:cY P w K mg base CX0 1 fT av ["_law_pen_here","_law_many"] iO) (mT:mg "_law_take"=some (.ref fT)) (kT:Al K (.ref fT)=true) (bT:eU K av ["_law_pen_here","_law_many"] [])
  (GR:cY P w K mg base CX0 4 fR bi ["_law_pen_here","_law_name","_law_day","_law_sorts_here"] aH6) (mR:mg "_law_row"=some (.ref fR)) (kR:Al K (.ref fR)=true) (bR:eU K bi ["_law_pen_here","_law_name","_law_day","_law_sorts_here"] [])
  :cY P w K mg base CX0 5 f fd ["_law_pen_here","_law_many"] aGG:=by
 refine F.ok aGH (fun vs H Q E h=>?_) (fun ef A outer s H vs Q E hr h=>?_)
 ·obtain⟨p,c,ns,a,m,rfl,_⟩:=h;rfl
 ·obtain⟨p,c,ns,a,m,rfl,hp,ha,hm,k⟩:=h;have nd:=aGH.nd;have cs:cZ 4 _:=hr;have ar:cZ 3 _:=hr.mono (by decide);have bx:cZ 2 _:=hr.mono (by decide);have U:cZ 1 _:=hr.mono (by decide);refine⟨_,(aM (iY (fF bO ar rfl ci kSo cx .nil i3 (aG (pv 0) (aG (cB eJ aQ (fF GT U rfl mT kT bT .nil i3 (aG (pv 0) (aG aQ aF)))) (aG aQ aF)))) (kM rfl (cO (bJ (i:=2) nd rfl (AE rfl)) (cO (bJ (i:=3) nd rfl (AE rfl)) (cO (bJ (i:=4) nd rfl (AE rfl)) (cO (bJ (i:=5) nd rfl (AE rfl)) iQ))))))
   (aM (bQ (i:=6) nd rfl (AE rfl) (fF GL ar rfl mL kL bL .nil i3 (aG (pv 0) (aG (pv 2) (aG (pv 4) aF)))))
   (aM (bQ (i:=7) nd rfl (AE rfl) (fF GD bx rfl mD kD bD .nil i3 (aG (pv 0) (aG (pv 1) aF))))
   (aM (bQ (i:=8) nd rfl (AE rfl) (cB eJ aQ (fF GT U rfl mT kT bT .nil i3 (aG (pv 0) (aG aQ aF)))))
   (aM (bQ (i:=9) nd rfl (AE rfl) (dP aF))
   (aM (mV Cr rfl (fM rfl aL (aG (pv 1) aF)) (g:=dG 10) (bJ (i:=10) nd rfl (AE rfl))
   (aM (bQ (i:=11) nd rfl (AE rfl) (cH dB (pv 5) (cH dB (dP (aG (cB gQ (pv 10) aQ) (aG (fF GT U rfl mT kT bT .nil i3 (aG (pv 0) (aG (pv 8) aF))) aF))) (fF GT U rfl mT kT bT .nil i3 (aG (pv 0) (aG aQ aF))) Ig) Ig))
    (aW (oD (sU BJ CA Cz jB (pv 9) (aG (fF GR cs rfl mR kR bR .nil i3 (aG (pv 0) (aG (pv 11) (aG (cH dB (pv 7) (pv 10) Ig) (aG (dA (aG (pv 2) (aG (pv 3) (aG (pv 4) aF)))) aF))))) aF))))))
   (aW (bC (dA (aG (pv 6) (aG (pv 9) (aG (pv 5) aF)))))))))))),?_⟩
  refine⟨_,rfl,_,rfl,p,c,ns,a,_,rfl,hp,by omega,by decide,by decide,fun r1 a1 H1 dc dm ed dw bU d4=>?_⟩;obtain⟨nf,hnf⟩:∃ nf:Nat,(1 + r1:Int)=nf:=⟨(1 + r1).toNat,by omega⟩
  refine⟨_,_,rfl,rfl,p,c,ns,a1,nf,40,by(try dsimp only);rw[hnf];rfl,bU,by omega,by omega,by omega,fun t l1 l2 l3 l4 ws ps hs rs aA HA ht bd dF aj cu cn b3 aR bz ax bN b5 au d3 dj J cy=>?_⟩;refine⟨t,_,rfl,bI ht,rfl,_,_,rfl,_,_,rfl,_,_,rfl,_,_,rfl,rfl,_,rfl,_,rfl,_,rfl,p,c,ns,aA,l1,l3,ws,hs,rfl,J,by omega,bd,aj.ok,by omega,aR,ax.ok,by omega,by omega,fun tL ev fq aC HC cq bm a0 ap d2 dv aU b4=>?_⟩;obtain⟨hlay,hlf,hl8⟩:=aJh a0 ap aj (by omega) (by omega);refine⟨_,rfl,_,rfl,p,c,ns,aC,m,rfl,aU,by omega,by omega,fun lD ds aB HB cf dV cb ee ei ab aq=>?_⟩;refine⟨_,rfl,p,c,ns,aB,_,rfl,ab,by omega,by decide,by decide,fun r5 a5 H5 du eg dd dk z ak=>?_⟩;refine⟨_,_,rfl,rfl,A0 _,fun lR bh=>?_⟩;have sR:=aV (o:=.lst []) bh;have k1:=b4.trans (aq.trans ak);have k0:=cy.trans k1;have nR:∀{b:Ag} {o:HO},H5 b=some o→b≠lR:=fun e=>aY e bh;have j1:=bH bd J k1;have j2:=bH cu J k1;have j3:=bH aR J k1;have j4:=bH bN J k1;have jD:=bH cf ab ak;have eR:upd H5 lR (.lst []) lR=some (.lst []):=aH;have cw:=(RdV.tup cq (by have:=bm.len;omega) bm)
  have jL:=(hX (hX cw aU aq) ab ak)
  have cD:S3 H5 l1 l2 l3 ws ps hs:=⟨j1,j2,j3,by omega,by omega,cn,bz,aj,b3,ax⟩
  have am:=z.same sR;have en:((m:Nat):Int).toNat=m:=Bm _;refine⟨_,rfl,m,rfl,by omega,by omega,k9 (n:=((m:Nat):Int).toNat) (fun i σ H'=>Ex3 fun(af ad:Option V) (a':Int)=>∃(xs:List V) (us:List bS),Aw6 (σ=[some (.ref p),some (.int m),some (.ref l1),some (.ref l2),some (.ref l3),some (.ref l4),some (.ref tL),some (.ref lD),some (.int (1 + r5)),some (.ref lR),af,ad]) (cV H' p c ns a') (aZ p H5 H') (H' lR=some (.lst xs)) (cW H' xs us ws) (Aw3 (us.length=i) (a5≤a') (a'≤a5 + 92 * i))) ⟨none,none,a5,[],[],rfl,am,bW.but sR,eR,⟨rfl,fun i x hx=>by simp at hx⟩,rfl,by omega,by omega⟩ ?_ ?_⟩
  ·rintro i σ HD hi ⟨af,ad,aD,xs,us,rfl,B,kD,Z,Y,M,bA,aI⟩;rw[en]at hi;dsimp only[dG];have q4:=bH j4 z kD;refine⟨_,rfl,_,rfl,_,_,rfl,rfl,(show(0:Int) < 30 by decide),_,rfl,_,rfl,p,c,ns,aD,_,rfl,B,by omega,by omega,DR (show 1 + r5≤31 by omega) (by decide),fun r6 a6 H6 b1 d6 ea dz am b0=>?_⟩;refine⟨zZ2,fun q hq=>?_⟩;have sq:=aV (o:=.lst [V.int ((0 + (i:Int)) % 30),.int r6]) hq;have aT:upd H6 q (.lst [V.int ((0 + (i:Int)) % 30),.int r6]) q=some (.lst [V.int ((0 + (i:Int)) % 30),.int r6]):=aH;generalize upd H6 q (.lst [V.int ((0 + (i:Int)) % 30),.int r6])=H7 at sq aT ⊢;have aJ:=am.same sq;refine⟨_,rfl,p,c,ns,a6,_,rfl,aJ,by omega,by decide,by decide,fun r8 a8 H8 cr et d5 de cj be=>?_⟩;obtain⟨v,hv,hat⟩:=gR (xs:=[V.int ((0 + (i:Int)) % 30),.int r6]) (i:=r8) cr (by show r8 < 2;omega);obtain⟨n,rfl,hn⟩:∃ n:Nat,v=.int n∧n < 40:=by
    simp only[An,Az,or_false]at hv;rcases hv with rfl | rfl
    ·exact⟨((0 + (i:Int)) % 30).toNat,by rw[DJ (by omega)],by omega⟩
    ·exact⟨r6.toNat,by rw[DJ b1],by omega⟩
   refine⟨q,_,r8,_,rfl,rfl,bF (bH aT aJ be),hat,?_⟩;have W:aZ p HD H8:=(b0.same sq).trans be;have ay:n < rs.length:=by omega
   have bc:i < ds.length:=by omega
   have ca:rs[n]?=some rs[n]:=Ab ay;have hd:ds[i]?=some ds[i]:=Ab bc;have aP:atI (rs.map V.str) (n:Int)=some (.str rs[n]):=fG (by rw[AS,ca];rfl);have bg:atI (ds.map V.int) (0 + (i:Int))=some (.int ds[i]):=by
    rw[Hb];exact fG (by rw[AS,hd];rfl)
   refine⟨l4,_,_,_,rfl,rfl,bF (bH q4 B W),aP,?_⟩;have aK:=kD.trans W;have cv:=bH Z B W;refine⟨_,rfl,.inl ⟨rfl,_,bF cv⟩,_,rfl,_,rfl,_,rfl,_,rfl,lD,_,_,_,rfl,rfl,bF (bH jD z aK),bg,_,rfl,_,rfl,_,rfl,zZ3,fun q3 cg=>?_⟩;have ae:=aV (o:=.tup [V.ref l1,.ref l2,.ref l3]) cg;have ah:=au.ok _ (Bn ay);obtain⟨dd0,dd1⟩:=cb _ (Bn bc);refine⟨p,c,ns,a8,rs[n],ds[i],q3,l1,l2,l3,ws,ps,hs,rfl,cj.same ae,by omega,aH,(cD.but z aK).same ae,ah,dd0,dd1,fun x r aE HE az el aN ej db bw bB=>?_⟩;have ai:aZ p HD HE:=W.trans fun b o e hb=>bB b o (ae _ _ e) hb;have ac:=bH Z B ai;have dr:=Y.len;refine⟨lR,xs,x,rfl,rfl,ac,A6 (show xs.length < 1000000 by omega) (aS (Ao _)),_,_,aE,xs ++ [x],us ++ [r],rfl,bw.lst ac (nR z.ce),fun b o e hb=>?_,aH,((Y.but B ai).snoc az aN).lst ac,by rw[Au,M];rfl,by omega,by omega⟩;rw[bM (nR e)];exact kD.trans ai b o e hb
  ·rintro σ HD ⟨af,ad,aD,xs,us,rfl,B,kD,Z,Y,M,bA,aI⟩;rw[en]at M aI;refine⟨_,rfl,_,rfl,_,rfl,zZ3,fun O hO=>?_⟩;have sO:=aV (o:=.tup [V.ref tL,.ref lR,.ref l4]) hO;subst ap;exact k O tL lR l4 fq xs us rs aD _ aH ((hX jL z kD).same sO) a0 hlay hlf hl8 (sO _ _ Z) (Y.same sO) M (sO _ _ (bH j4 z kD)) b5 au (by omega) (by omega) (B.same sO)
inductive aDE(K:Aj)(vs:List V)(H:Hp)(Q:VK)(u3_:XK):Prop
 | mk (a:Ag) (ns:List Int) (q0:vs=[.ref a]) (q1:SqL K H a (ns.map V.int)) (q2:ns.length≤63) (q3:∀ H',Q (.bl true) H'):aDE K vs H Q u3_
def aDF(K:Aj):Sp:=fun vs H Q u3_=>aDE K vs H Q u3_
inductive aGI(H:Hp)(lF lP:Ag)(fq:List Ai)(y:V):Prop
 | mk (q t l:Ag) (us:List bS) (xs:List V) (fo:List bS) (q0:y=.ref q) (q1:H q=some (.tup [.ref t,.ref l])) (q2:gZ H t fq us []) (q3:H l=some (.lst xs)) (q4:cW H xs fo (fq.map c3)) (q5:us.Perm fo) (q6:kI us) (q7:us.length≤34) (q8:l≠lF) (q9:l≠lP):aGI H lF lP fq y
def wZ(H:Hp)(lF lP:Ag)(fq:List Ai)(y:V):Prop:=aGI H lF lP fq y
structure Lw(H:Hp)(p c:Ag)(ns:List Int)(a:Int)(tL lR lF lP lQ t:Ag)(fq:List Ai)(xs xf ps qs:List V)(rs fo qr us:List bS):Prop where
 pen:cV H p c ns a
 rL:RdV false H (.ref tL) (.tuple fq)
 eR:H lR=some (.lst xs)
 hR:cW H xs rs (fq.map c3)
 eF:H lF=some (.lst xf)
 hF:cW H xf fo (fq.map c3)
 eP:H lP=some (.lst ps)
 hP:∀ y∈ps,wZ H lF lP fq y
 eQ:H lQ=some (.lst qs)
 hQ:cW H qs qr (fq.map c3)
 st:gZ H t fq us []
structure Dif(c lR lQ lF lP:Ag):Prop where
 cF:c≠lF
 cP:c≠lP
 rF:lR≠lF
 rP:lR≠lP
 qF:lQ≠lF
 qP:lQ≠lP
 fP:lF≠lP
section
variable{H H':Hp}{p c:Ag}{ns:List Int}{a a':Int}{tL lR lF lP lQ t:Ag}{fq:List Ai}{xs xf ps qs:List V}{rs fo qr us:List bS}
theorem wZ.but{y:V}(h:wZ H lF lP fq y)(z:cV H p c ns a)(k:aZ p H H'):wZ H' lF lP fq y:=by
 obtain⟨q,t,l,us,xs,fo,e,h1,h2,h3,h4,h5,h6,h7,h8,h9⟩:=h;exact⟨q,t,l,us,xs,fo,e,nC h1 z k,h2.but z k,bH h3 z k,h4.but z k,h5,h6,h7,h8,h9⟩
theorem wZ.lst{y:V}{b:Ag}{zs B:List V}(h:wZ H lF lP fq y)(e:H b=some (.lst zs))(F:b=lF∨b=lP):wZ (upd H b (.lst B)) lF lP fq y:=by
 obtain⟨q,t,l,us,xs,fo,e1,h1,h2,h3,h4,h5,h6,h7,h8,h9⟩:=h;have z:l≠b:=by
  rcases F with rfl | rfl
  ·exact h8
  ·exact h9
 exact⟨q,t,l,us,xs,fo,e1,uC h1 e,h2.lst e,by rw[bM z];exact h3,h4.lst e,h5,h6,h7,h8,h9⟩
theorem Lw.but(h:Lw H p c ns a tL lR lF lP lQ t fq xs xf ps qs rs fo qr us)(z:cV H' p c ns a')(k:aZ p H H'):Lw H' p c ns a' tL lR lF lP lQ t fq xs xf ps qs rs fo qr us:=
 ⟨z,hX h.rL h.pen k,bH h.eR h.pen k,h.hR.but h.pen k,bH h.eF h.pen k,h.hF.but h.pen k,bH h.eP h.pen k,fun y q=>(h.hP y q).but h.pen k,bH h.eQ h.pen k,h.hQ.but h.pen k,h.st.but h.pen k⟩
theorem Lw.same(h:Lw H p c ns a tL lR lF lP lQ t fq xs xf ps qs rs fo qr us)(s:bW H H'):Lw H' p c ns a tL lR lF lP lQ t fq xs xf ps qs rs fo qr us:=h.but (h.pen.same s) (bW.but s)
theorem Lw.setF(h:Lw H p c ns a tL lR lF lP lQ t fq xs xf ps qs rs fo qr us)(d:Dif c lR lQ lF lP){x:V}{u:bS}(r:RdV false H x u.d)(ok:u.Ok (fq.map c3)):Lw (upd H lF (.lst (xf ++ [x]))) p c ns a tL lR lF lP lQ t fq xs (xf ++ [x]) ps qs rs (fo ++ [u]) qr us:=
 ⟨h.pen.lst h.eF d.cF,aAg h.rL h.eF,by rw[bM d.rF];exact h.eR,h.hR.lst h.eF,aH,(h.hF.snoc r ok).lst h.eF,by rw[bM d.fP.symm];exact h.eP,fun y q=>(h.hP y q).lst h.eF (.inl rfl),by rw[bM d.qF];exact h.eQ,h.hQ.lst h.eF,h.st.lst h.eF⟩
theorem Lw.setP(h:Lw H p c ns a tL lR lF lP lQ t fq xs xf ps qs rs fo qr us)(d:Dif c lR lQ lF lP){x:V}(r:wZ H lF lP fq x):Lw (upd H lP (.lst (ps ++ [x]))) p c ns a tL lR lF lP lQ t fq xs xf (ps ++ [x]) qs rs fo qr us:=
 ⟨h.pen.lst h.eP d.cP,aAg h.rL h.eP,by rw[bM d.rP];exact h.eR,h.hR.lst h.eP,by rw[bM d.fP];exact h.eF,h.hF.lst h.eP,aH,fun y q=>by
   rcases Bo.mp q with z | z
   ·exact(h.hP y z).lst h.eP (.inr rfl)
   ·rw[BC.mp z];exact r.lst h.eP (.inr rfl),by rw[bM d.qP];exact h.eQ,h.hQ.lst h.eP,h.st.lst h.eP⟩
theorem Lw.to(h:Lw H p c ns a tL lR lF lP lQ t fq xs xf ps qs rs fo qr us){t':Ag}{q:List bS}(s:gZ H t' fq q []):Lw H p c ns a tL lR lF lP lQ t' fq xs xf ps qs rs fo qr q:=
 ⟨h.pen,h.rL,h.eR,h.hR,h.eF,h.hF,h.eP,h.hP,h.eQ,h.hQ,s⟩
end
structure Cn(i:Nat)(fo us:List bS):Prop where
 pf:us.Perm fo
 rise:kI us
 few:fo.length≤i
theorem aGJ(xs:List V)(k:Nat):jZ xs none (some (k:Int))=xs.take k:=by
 unfold jZ;rw[HT.sIx_none,HT.sIx_nat,D0,F0,← List.take_eq_take_min]
theorem aDG:∀{us:List bS}{fs:List Str},(∀ u∈us,u.Ok fs)→AX (us.map bS.d)=false
 | [],_,_=>rfl
 | u :: us,fs,h=>by
  show(AX _ || AX (us.map bS.d))=false;rw[aDG fun v q=>h v (AL _ q),fI (h u AI).rs];rfl
theorem cW.ok{H:Hp}{xs:List V}{us:List bS}{fs:List Str}(h:cW H xs us fs):∀ u∈us,u.Ok fs:=fun u q=>by
 obtain⟨i,hi⟩:=BQ q;obtain⟨u',e,_,ok⟩:=h.at' i _ (Ab (by rw[h.len];exact(AM.mp hi).1));rw[hi]at e;cases e;exact ok
theorem cW.rdl{H:Hp}{l:Ag}{xs:List V}{us:List bS}{fs:List Str}(h:cW H xs us fs)(e:H l=some (.lst xs))(q:us.length≤60):RdV true H (.ref l) (.list (us.map bS.d)):=
 .lst rfl e (by rw[h.len];omega) (h.rdvs.flip (aDG h.ok) true)
theorem cW.app{H:Hp}{xs ys:List V}{us vs:List bS}{fs:List Str}(h:cW H xs us fs)(g:cW H ys vs fs):cW H (xs ++ ys) (us ++ vs) fs:=by
 refine⟨by rw[Au,Au,h.len,g.len],fun i y q=>?_⟩;have z:=h.len;by_cases hi:i < xs.length
 ·rw[BD hi]at q;rw[BD (by omega)];exact h.at' i y q
 ·rw[Bz (by omega)]at q;rw[Bz (by omega),← z];exact g.at' _ y q
theorem aBK{d:Ai}(h:c4 d=true):∃ fs:List Ai,d=.tuple fs∧fs.length=4∧fs.map (dQ 0)=fs∧AX fs=false:=by
 obtain⟨f,g,a,j,rfl,h1,h2,h3,h4⟩:=jX h;exact⟨_,rfl,rfl,rfl,(wK h).1⟩
theorem aH8:bY ["_law_script","_law_pen_here","_law_laying_here","_law_rows","_law_names_here","_law_state","_law_forms","_law_past","_law_row_here","_law_old","_law_state_ahead","_law_thing","_law_copied","_law_elder","_law_some_here","_law_more"] ["_law_script"] (aO tZ):=⟨rfl,rfl,rfl,by decide,rfl,by decide,by decide⟩
theorem aJi{f:Ag}{fd:AK}(F:Fun K "law" "law" tZ f fd)(a0:mg "len"=none)(bb:mg "list"=none)(d4:mg "min"=none)(eg:mg "range"=none)(ad:mg "repr"=none)
  (GP:Cl P w K mg base 1 "_law_pen" ["_law_script"] (aHZ K))
  (fN:Cl P w K mg base 5 "_law_pool" ["_law_pen_here","_law_many"] aGG)
  (fK:Cl P w K mg base 6 "start" ["laying"] aDB)
  (bR:Cl P w K mg base 14 "_law_state_right" ["_law_state","_law_laying_here","_law_forms","_law_backs"] qY)
  (GW:Cl P w K mg base 10 "written" ["state","thing"] y9)
  (GT:Cl P w K mg base 1 "_law_take" ["_law_pen_here","_law_many"] iO)
  (gt:Cl P w K mg base 3 "_law_listed" ["_law_pen_here","_law_row_here"] aBt)
  :cY P w K mg base CX0 15 f fd ["_law_script"] (aDF K):=by
 refine F.ok aH8 (fun vs H Q E h=>?_) (fun hK A outer s H vs Q E hr h=>?_)
 ·obtain⟨a,ns,rfl,_⟩:=h;rfl
 ·obtain⟨sc,ns,rfl,hS,hln,k⟩:=h;have nd:=aH8.nd;have hu:=Nat.lt_of_succ_lt (aCR hr);have au:cZ 14 _:=hr;have b9:cZ 10 _:=hr.mono (by decide);have f5:cZ 6 _:=hr.mono (by decide);have gh:cZ 5 _:=hr.mono (by decide);have gc:cZ 3 _:=hr.mono (by decide);have Y:cZ 1 _:=hr.mono (by decide);refine⟨_,(aM (bQ (i:=1) nd rfl (En rfl) (bG GP Y (aG (pv 0) aF)))
   (aM (iY (bG fN gh (aG (pv 1) (aG (cH dB (dP (aG aQ (aG (bG GT Y (aG (pv 1) (aG aQ aF))) aF))) (bG GT Y (aG (pv 1) (aG aQ aF))) Ig) aF))) (kM rfl (cO (bJ (i:=2) nd rfl (AE rfl)) (cO (bJ (i:=3) nd rfl (En rfl)) (cO (bJ (i:=4) nd rfl (AE rfl)) iQ)))))
   (aM (kX (bQ (i:=5) nd rfl (AE rfl) (bG fK f5 (aG (cH dB (dP (aG (pv 2) (aG (eG (N:=["_law_part"]) (src:=[none]) (osc:=aO tZ) (oN:=["_law_script","_law_pen_here","_law_laying_here","_law_rows","_law_names_here","_law_state","_law_forms","_law_past","_law_row_here","_law_old","_law_state_ahead","_law_thing","_law_copied","_law_elder","_law_some_here","_law_more"]) ⟨by rfl,by decide,by decide,by decide,rfl,by rfl⟩ (iE (pv 2)) (fun cl s H fp di C=>⟨bJ (i:=0) (show(["_law_part"]:List Str).Nodup by decide) rfl (AE rfl),dW,cQ (r:=jN K) eD (by rfl) bb (by kernel_rfl) (aG (pv 0) aF)⟩)) aF))) (bG GT Y (aG (pv 1) (aG aQ aF))) Ig) aF))))
   (aM (c8 (dU (dO (bG bR au (aG (pv 5) (aG (pv 2) (aG (dP aF) (aG (dP aF) aF))))))) (aW (bC jK)) b8)
   (aM (bQ (i:=6) nd rfl (AE rfl) (dP aF))
   (aM (bQ (i:=7) nd rfl (AE rfl) (dP (aG (dA (aG (pv 5) (aG (dP aF) aF))) aF)))
   (aM (mV Cr rfl (i5 (cB aBT (pv 3) (eG (N:=["_law_k","_law_pen_here","_law_rows"]) (src:=[none,some 1,some 3]) (osc:=aO tZ) (oN:=["_law_script","_law_pen_here","_law_laying_here","_law_rows","_law_names_here","_law_state","_law_forms","_law_past","_law_row_here","_law_old","_law_state_ahead","_law_thing","_law_copied","_law_elder","_law_some_here","_law_more"]) ⟨by rfl,by decide,by decide,by decide,rfl,by rfl⟩ (fM rfl eg (aG (aX (rG rfl) (by rfl) d4 (by kernel_rfl) (aG (aX bE (by rfl) a0 AO (aG (pv 3) aF)) (aG aQ aF))) aF)) (fun cl s H fp di C=>⟨bJ (i:=0) (show(["_law_k","_law_pen_here","_law_rows"]:List Str).Nodup by decide) rfl (AE rfl),dW,cH (r:=aGS K) dB (pv 2) (bG GT Y (aG (pv 1) (aG (aX (r:=fZ K) bE (by rfl) a0 AO (aG (pv 2) aF)) aF))) Ig⟩)))) (g:=dG 8) (bJ (i:=8) nd rfl (AE rfl))
   (aM (bQ (i:=9) nd rfl (AE rfl) (aX (f7 Y) (by rfl) ad (by kernel_rfl) (aG (pv 5) aF)))
    (aM (bQ (i:=10) nd rfl (AE rfl) (pv 5))
    (aM (kX (bQ (i:=11) nd rfl (AE rfl) (cH dB (dP (aG (pv 8) (aG (bG gt gc (aG (pv 1) (aG (pv 8) aF))) aF))) (bG GT Y (aG (pv 1) (aG aQ aF))) Ig)))
    (aM (bQ (i:=12) nd rfl (AE rfl) (aX (f7 Y) (by rfl) ad (by kernel_rfl) (aG (pv 11) aF)))
    (aM (kX (bQ (i:=5) nd rfl (AE rfl) (bG GW b9 (aG (pv 5) (aG (pv 11) aF)))))
    (aM (c8 (cA sJ (aX (f7 Y) (by rfl) ad (by kernel_rfl) (aG (pv 11) aF)) (pv 12) (cM _)) (aW (bC jK)) b8)
    (aM (kX (c8 (cA (x9 Y) (pv 8) (pv 6) (by with_unfolding_all rfl)) (aW (oD (sU BJ CA Cz jB (pv 6) (aG (pv 8) aF)))) b8))
    (aM (c8 (PW.pt (iD (cA sJ (aX (f7 Y) (by rfl) ad (by kernel_rfl) (aG (pv 10) aF)) (pv 9) (cM _)) (fW (dU (dO (bG bR au (aG (pv 5) (aG (pv 2) (aG (pv 6) (aG (dP aF) aF)))))))))) (aW (bC jK)) b8)
    (aW (oD (sU BJ CA Cz jB (pv 7) (aG (dA (aG (pv 5) (aG (cQ eD (by rfl) bb (by kernel_rfl) (aG (pv 6) aF)) aF))) aF)))))))))))))
   (aM (iY (cH dB (pv 7) (bG GT Y (aG (pv 1) (aG (aX bE (by rfl) a0 AO (aG (pv 7) aF)) aF))) Ig) (kM rfl (cO (bJ (i:=13) nd rfl (AE rfl)) (cO (bJ (i:=14) nd rfl (En rfl)) iQ))))
   (aM (bQ (i:=15) nd rfl (AE rfl) (gM oE (pv 3) iR (iS aQ)))
   (aM (kX (c8 (cA (aFK hu) (pv 15) (dP aF) (cM _)) (aM (kX (bQ (i:=13) nd rfl (AE rfl) (bG GW b9 (aG (pv 13) (aG (cH dB (pv 15) aQ Ig) aF)))))
    (aW (bQ (i:=14) nd rfl (En rfl) (cB aBT (pv 14) (eG (N:=["_law_row_here","_law_some_here"]) (src:=[none,some 14]) (osc:=aO tZ) (oN:=["_law_script","_law_pen_here","_law_laying_here","_law_rows","_law_names_here","_law_state","_law_forms","_law_past","_law_row_here","_law_old","_law_state_ahead","_law_thing","_law_copied","_law_elder","_law_some_here","_law_more"]) ⟨by rfl,by decide,by decide,by decide,rfl,by rfl⟩ (i5 (pv 15)) (fun cl s H fp di C=>⟨bJ (i:=0) (show(["_law_row_here","_law_some_here"]:List Str).Nodup by decide) rfl (AE rfl),zM (cA (x9 Y) (pv 0) (pv 1) (by with_unfolding_all rfl)),pv 0⟩)))))) b8))
   (aW (bC (d9 (bG bR au (aG (pv 13) (aG (pv 2) (aG (pv 14) (aG (dP aF) aF))))) (gF (bG bR au (aG (pv 5) (aG (pv 2) (aG (pv 6) (aG (dP aF) aF))))))))))))))))))),?_⟩
  refine⟨_,rfl,sc,ns,rfl,hS,hln,fun p c H1 ee s1 np=>?_⟩;refine⟨_,rfl,_,rfl,p,c,ns,0,_,rfl,ee,by omega,by decide,by decide,fun r2 a2 H2 gr hL hY im ax gj=>?_⟩;refine⟨zZ2,fun q hq=>?_⟩;have sq:=aV (o:=.lst [V.int 30,.int r2]) hq;have dc:upd H2 q (.lst [V.int 30,.int r2]) q=some (.lst [V.int 30,.int r2]):=aH;generalize upd H2 q (.lst [V.int 30,.int r2])=H3 at sq dc ⊢;have ci:=ax.same sq;refine⟨_,rfl,p,c,ns,a2,_,rfl,ci,by omega,by decide,by decide,fun r4 a4 H4 fy h4 hW h8 e9 eX=>?_⟩;obtain⟨v,hv,hat⟩:=gR (xs:=[V.int 30,.int r2]) (i:=r4) fy (by show r4 < 2;omega);obtain⟨m,rfl,hm⟩:∃ m:Nat,v=.int m∧m≤30:=by
   simp only[An,Az,or_false]at hv;rcases hv with rfl | rfl
   ·exact⟨30,rfl,by omega⟩
   ·exact⟨r2.toNat,by rw[DJ gr],by omega⟩
  refine⟨q,_,r4,_,rfl,rfl,bF (bH dc ci eX),hat,p,c,ns,a4,m,rfl,e9,by omega,by omega,fun t tL lR lN fq xs rs zs a5 H5 et rL bc b7 bn eB eR hR ie eN bP ii ij il aT=>?_⟩;refine⟨t,_,rfl,bI et,rfl,_,_,rfl,_,_,rfl,_,_,rfl,rfl,?_⟩;clear hat hv eX e9 ci dc sq hq gj ax ee s1 np hS;refine⟨fun U H'=>∃(t0:Ag) (a':Int),U=[some (.ref sc),some (.ref p),some (.ref tL),some (.ref lR),some (.ref lN),some (.ref t0),none,none,none,none,none,none,none,none,none,none]∧cV H' p c ns a'∧a'≤a5 + 1∧aZ p H5 H'∧gZ H' t0 fq [] [],?_,?_⟩
  ·obtain⟨bi,etL,hlx,rlx⟩:∃ bi,H5 tL=some (.tup bi)∧bi.length≤1000∧cJ false H5 bi fq:=by
    cases rL with
    | tup e hl r=>exact⟨_,e,hl,r⟩
   have eA:=rlx.len;refine⟨_,rfl,_,rfl,tL,rfl,⟨_,bI etL⟩,?_⟩;refine gN (K:=K) (xs:=bi) (fun i ys U H'=>∃(o:Option V) (es:List Ai),Aw3 (U=[o]) (bW H5 H') (Aw3 (ys.length=i) (es.map (dQ 1)=fq.take i) (cJ true H' ys es))) ⟨none,[],rfl,fun _ _ e=>e,rfl,rfl,.nil⟩ (aS (by omega)) (fun i ys σ H' p=>by obtain⟨_,_,_,_,e,_⟩:=p;omega) (fun i ys σ H' p=>by obtain⟨_,_,_,s,_⟩:=p;exact bI (s _ _ etL)) ?_ ?_
   ·rintro i v ys U H6 hv ⟨o,es,rfl,s6,az,bL,cb⟩;obtain⟨d,hd,rv⟩:=rlx.at hv;obtain⟨fs,rfl,hf4,hf0,hfn⟩:=aBK (A8.mp bn d (AN hd));obtain⟨b,zs,rfl,eb,rz⟩:∃ b zs,v=.ref b∧H5 b=some (.tup zs)∧cJ false H5 zs fs:=by
     cases rv with
     | tup e hl r=>exact⟨_,_,rfl,e,r⟩
    have ik:zs.length=4:=by rw[rz.len,hf4]
    dsimp only[dG];refine dJ ?_;refine⟨_,rfl,b,zs,rfl,.inr (bI (s6 _ _ eb)),fun l hl=>?_⟩;have sl:=aV (o:=.lst zs) hl;refine⟨_,es ++ [.list fs],rfl,s6.trans sl,by rw[Au,az];rfl,?_,(cb.same sl).app (.cons (.lst rfl aH (by omega) ((rz.same (s6.trans sl)).flip hfn true)) .nil)⟩;rw[AY,bL,Bk,hd];show _ ++ [Dw (fs.map (dQ 0))]=_;rw[hf0];rfl
   rintro ys U H6 ⟨o,es,rfl,s6,az,bL,cb⟩ C hC;have sC:=aV (o:=.lst ys) hC;have rC:RdV true (upd H6 C (.lst ys)) (.ref C) (.list es):=.lst rfl aH (by omega) (cb.same sC);generalize upd H6 C _=H7 at sC rC ⊢;rw[eA,BI]at bL;refine⟨zZ2,fun q hq=>?_⟩;have sq:=aV (o:=.lst [V.ref tL,.ref C]) hq;have ak:upd H7 q (.lst [V.ref tL,.ref C]) q=some (.lst [V.ref tL,.ref C]):=aH;generalize upd H7 q _=H8 at sq ak ⊢;have eq:=s6.trans (sC.trans sq);have bT:=aT.same eq;refine⟨_,rfl,p,c,ns,a5,_,rfl,bT,by omega,by decide,by decide,fun r aK HK r0 r1 ih h7 ao bU=>?_⟩;have kK:aZ p H5 HK:=(bW.but eq).trans bU;have c2:r=0∨r=1:=by omega
   rcases c2 with rfl | rfl
   ·refine⟨q,_,0,.ref tL,rfl,rfl,bF (bH ak bT bU),rfl,.ref tL,.tuple fq,fq,rfl,(hX rL aT kK).flip (wL bn) true,aDz bn,b7,bn,eB,fun t0 H' s' dh=>⟨t0,aK,rfl,ao.same s',by omega,kK.same s',dh⟩⟩
   ·refine⟨q,_,1,.ref C,rfl,rfl,bF (bH ak bT bU),rfl,.ref C,.list es,fq,rfl,hX (rC.same sq) bT bU,by show Dw (es.map (dQ 1))=_;rw[bL],b7,bn,eB,fun t0 H' s' dh=>⟨t0,aK,rfl,ao.same s',by omega,kK.same s',dh⟩⟩
  rintro U H6 ⟨t0,a6,rfl,e0,iq,k6,cD⟩;have d7:=hX rL aT k6;have cz:=bH eR aT k6;have fD:=hR.but aT k6;refine⟨_,rfl,_,rfl,A0 _,fun e1 h1=>⟨A0 _,fun e2 h2=>?_⟩⟩;have ff:=aV (o:=.lst []) h1;have cc:=aV (o:=.lst []) h2;have se:=ff.trans cc;refine⟨t0,tL,e1,e2,fq,[],[],[],[],[],rfl,cD.same se,d7.same se,bc,cc _ _ aH,⟨rfl,fun i x hx=>by simp at hx⟩,.refl _,CS,by decide,aH,.refl _,rfl,fun b hb=>by simp at hb,fun H7 s7=>⟨_,rfl,dD ?_⟩⟩;have bv:=se.trans s7;clear h1 h2 ff cc se s7 e1 e2;refine⟨A0 _,fun lF bu=>?_⟩;have sF:=aV (o:=.lst []) bu;have eF:upd H7 lF (.lst []) lF=some (.lst []):=aH;generalize upd H7 lF (.lst [])=H8 at sF eF ⊢;refine⟨_,rfl,A0 _,fun l0 cq=>?_⟩;have s0:=aV (o:=.lst []) cq;have bz:upd H8 l0 (.lst []) l0=some (.lst []):=aH;generalize upd H8 l0 (.lst [])=H9 at s0 bz ⊢;refine⟨zZ2,fun q0 e5=>?_⟩;have aB:=aV (o:=.tup [V.ref t0,.ref l0]) e5;have cw:upd H9 q0 (.tup [V.ref t0,.ref l0]) q0=some (.tup [V.ref t0,.ref l0]):=aH;generalize upd H9 q0 _=HA at aB cw ⊢;refine⟨zZ1,fun lP aP=>?_⟩;have sP:=aV (o:=.lst [V.ref q0]) aP;have eP:upd HA lP (.lst [V.ref q0]) lP=some (.lst [V.ref q0]):=aH;generalize upd HA lP _=HB at sP eP ⊢;have ek:=bv.trans sF;have bt:=ek.trans (s0.trans aB);have ai:=bt.trans sP;have bN:=aB.trans sP;have nl:(∀(i:Nat) (x:V),([]:List V)[i]?=some x→∃ u,([]:List bS)[i]?=some u∧RdV false HB x u.d∧u.Ok (fq.map c3)):=fun i x hx=>by simp at hx
  have bg:wZ HB lF lP fq (.ref q0):=⟨q0,t0,l0,[],[],[],rfl,sP _ _ cw,cD.same ai,bN _ _ bz,⟨rfl,nl⟩,.refl _,CS,by decide,(aY eF cq).symm,aY (aB _ _ bz) aP⟩
  have W:=e0.same ai;have eA:=hR.len;dsimp only[dG];refine⟨_,rfl,?_⟩;obtain⟨n4,hn4,h4a,h4b⟩:∃ n4:Nat,(if (4:Int) < ((xs.length:Nat):Int) then(4:Int) else((xs.length:Nat):Int))=(n4:Int)∧n4≤4∧(0 < n4→0 < xs.length):=by
   by_cases g:(4:Int) < ((xs.length:Nat):Int)
   ·exact⟨4,by rw[Ib g];rfl,by omega,by omega⟩
   ·exact⟨xs.length,by rw[Ia g],by omega,by omega⟩
  have be:=ai _ _ cz;have cf:=fD.same ai;refine⟨_,rfl,lR,_,rfl,.inl (bF be),_,_,rfl,n4,by rw[hn4],by omega,by omega,?_⟩;refine jP (n:=((n4:Nat):Int).toNat) (fun i ys U H'=>Ex3 fun(o:Option V) (a':Int) (es:List bS)=>Aw6 (U=[o,some (.ref p),some (.ref lR)]) (cV H' p c ns a') (aZ p HB H') (a'≤a6 + i) (ys.length=i) (cW H' ys es (fq.map c3))) ⟨none,a6,[],rfl,W,aZ.refl _ _,by omega,rfl,⟨rfl,fun i x hx=>by simp at hx⟩⟩ (aS (by rw[Bm];omega)) (fun i ys σ H' q=>by obtain⟨_,_,_,_,_,_,_,e,_⟩:=q;omega) ?_ ?_
  ·rintro i ys U HC hi ⟨o,aC,es,rfl,bf,kC,ef,az,hE⟩;rw[Bm]at hi;dsimp only[dG];refine dJ ?_;have em:=h4b (by omega);refine⟨_,rfl,_,rfl,_,rfl,lR,_,rfl,.inl (bF (bH be W kC)),p,c,ns,aC,_,rfl,bf,by omega,by omega,DR (show((xs.length:Nat):Int)≤30 by omega) (by decide),fun r aD HD r0 r1 hB io gl dR=>?_⟩;obtain⟨j,rfl⟩:∃ j:Nat,r=j:=⟨r.toNat,by omega⟩
   have hj:j < xs.length:=by omega
   have kD:=kC.trans dR;obtain⟨u,_,ru,oku⟩:=(cf.but W kD).at' j _ (Ab hj);exact⟨lR,_,_,_,rfl,rfl,bF (bH be W kD),fG (Ab hj),_,aD,es ++ [u],rfl,gl,kD,by omega,by rw[Au,az];rfl,(hE.but bf dR).snoc ru oku⟩
  rintro ys U HC ⟨o,aC,es,rfl,bf,kC,ef,az,hE⟩ E eO;rw[Bm]at az ef;have sE:=aV (o:=.lst ys) eO;have eE:upd HC E (.lst ys) E=some (.lst ys):=aH;generalize upd HC E _=HD at sE eE ⊢;have kD:aZ p HB HD:=kC.same sE;refine⟨lR,E,xs,ys,rfl,rfl,bH be W kD,eE,aS (by omega),fun lQ dd=>?_⟩;have sQ:=aV (o:=.lst (xs ++ ys)) dd;have eQ:upd HD lQ (.lst (xs ++ ys)) lQ=some (.lst (xs ++ ys)):=aH;generalize upd HD lQ _=HE at sQ eQ ⊢;have kE:aZ p HB HE:=kD.same sQ;have fC:=(bf.same sE).same sQ;have h9:=hE.len;have nQ:∀{b:Ag} {z:List V},HB b=some (.lst z)→lQ≠b:=fun e=>(aY (bH e W kD) dd).symm;have eH:Dif c lR lQ lF lP:=by
   have c6:=e0.ce;exact⟨aY (bv _ _ c6) bu,aY (bt _ _ c6) aP,aY (bv _ _ cz) bu,aY (bt _ _ cz) aP,nQ ((s0.trans bN) _ _ eF),nQ eP,aY ((s0.trans aB) _ _ eF) aP⟩
  have fU:Lw HE p c ns aC tL lR lF lP lQ t0 fq xs [] [.ref q0] (xs ++ ys) rs [] (rs ++ es) []:=⟨fC,hX (d7.same ai) W kE,bH be W kE,cf.but W kE,bH ((s0.trans bN) _ _ eF) W kE,⟨rfl,fun i x hx=>by simp at hx⟩,bH eP W kE,fun y hy=>by rw[BC.mp hy];exact bg.but W kE,eQ,(cf.but W kE).app ((hE.same sE).same sQ),(cD.same ai).but W kE⟩
  have fO:Cn 0 [] []:=⟨.refl _,CS,Ao _⟩
  have aN:∀ b∈([]:List Str),cC b=true:=fun b hb=>by simp at hb
  clear bg eP eF sP aB s0 sF aP bu cq e5 bt ai ek bv bN cw bz sE sQ eE eO dd kD kE kC bf hE nl;refine⟨lQ,rfl,⟨_,bF eQ⟩,uF (K:=K) (xs:=xs ++ ys) (fun i σ H'=>Ex3 fun(o8 o9 bm:Option V)=>Ex3 fun(bj aw:Option V) (t:Ag)=>Ex3 fun(xf ps:List V) (fo:List bS)=>∃(us:List bS) (a':Int),Aw6 (σ=[some (.ref sc),some (.ref p),some (.ref tL),some (.ref lR),some (.ref lN),some (.ref t),some (.ref lF),some (.ref lP),o8,o9,bm,bj,aw,none,none,none]) (Lw H' p c ns a' tL lR lF lP lQ t fq xs xf ps (xs ++ ys) rs fo (rs ++ es) us) (Cn i fo us) (a'≤aC + 202 * i) (0 < ps.length) (ps.length≤i + 1)) ⟨none,none,none,none,none,t0,[],[.ref q0],[],[],aC,rfl,fU,fO,by omega,Hi,Ao _⟩ (fun i σ H' _ z=>by obtain⟨_,_,_,_,_,_,_,_,_,_,_,_,z,_⟩:=z;exact bF z.eQ) ?_ ?_⟩
  ·rintro i v σ HI hv ⟨o8,o9,bm,bj,aw,t,xf,ps,fo,us,aI,rfl,lw,cn,eK,gy,ca⟩;have h3:i < 34:=by
    have:=(AM.mp hv).1;rw[Au]at this;omega
   obtain⟨u,hu,rdv,oku⟩:=lw.hQ.at' i v hv;obtain⟨tr,cS,rfl,etr,_⟩:=oku.at rdv;dsimp only[dG];have dv:=lw.st.okd bc aN;have fz:=cn.pf.length_eq;have he:=cn.few;refine⟨_,rfl,.ref t,_,rfl,tQ (lw.st.rd aN) dv,_,rfl,fun U H'=>∃(x:Ag) (d:Ai) (a':Int),U=[some (.ref sc),some (.ref p),some (.ref tL),some (.ref lR),some (.ref lN),some (.ref t),some (.ref lF),some (.ref lP),some (.ref tr),some (.str (stD fq us []).shown),some (.ref t),some (.ref x),aw,none,none,none]∧Lw H' p c ns a' tL lR lF lP lQ t fq xs xf ps (xs ++ ys) rs fo (rs ++ es) us∧a'≤aI + 201∧RdV true H' (.ref x) d∧OkD 13352 3 d∧nM (dQ 3 d) u.d∧RdV false H' (.ref tr) u.d,?_,?_⟩
   ·refine⟨_,rfl,_,rfl,_,rfl,p,c,ns,aI,tr,u.word,u.name,u.day,u.ds,rfl,lw.pen,by omega,rdv,oku.rs,oku.nm,oku.d0,oku.d1,fun x d2 aJ HJ rx de aU gw gp e4 da cL=>?_⟩;obtain⟨qx,_,rfl,_⟩:=gw;refine⟨zZ2,fun q hq=>?_⟩;have sq:=aV (o:=.lst [V.ref tr,.ref qx]) hq;have ak:upd HJ q (.lst [V.ref tr,.ref qx]) q=some (.lst [V.ref tr,.ref qx]):=aH;generalize upd HJ q _=HK at sq ak ⊢;have ao:=da.same sq;refine⟨_,rfl,p,c,ns,aJ,_,rfl,ao,by omega,by decide,by decide,fun r aL HL r0 r1 hV h5 e7 bw=>?_⟩;have kL:aZ p HI HL:=(cL.same sq).trans bw;have cu:=hX rdv lw.pen kL;have c2:r=0∨r=1:=by omega
    rcases c2 with rfl | rfl
    ·exact⟨q,_,0,.ref tr,rfl,rfl,bF (bH ak ao bw),rfl,tr,u.d,aL,rfl,lw.but e7 kL,by omega,cu.flip (fI oku.rs) true,oku.okd.1,oku.okd.2,cu⟩
    ·exact⟨q,_,1,.ref qx,rfl,rfl,bF (bH ak ao bw),rfl,qx,d2,aL,rfl,lw.but e7 kL,by omega,hX (rx.same sq) ao bw,de,aU,cu⟩
   rintro U HJ ⟨x,d,aJ,rfl,aa,e4,rx,de,aU,dV⟩;have b4:OkD 3000000 10 d:=de.mono (by decide) (by decide);refine⟨_,rfl,.ref x,_,rfl,tQ rx b4,fun U H'=>∃(t':Ag) (B:List bS),U=[some (.ref sc),some (.ref p),some (.ref tL),some (.ref lR),some (.ref lN),some (.ref t'),some (.ref lF),some (.ref lP),some (.ref tr),some (.str (stD fq us []).shown),some (.ref t),some (.ref x),some (.str d.shown),none,none,none]∧Lw H' p c ns aJ tL lR lF lP lQ t' fq xs xf ps (xs ++ ys) rs fo (rs ++ es) B∧gZ H' t fq us []∧RdV true H' (.ref x) d∧RdV false H' (.ref tr) u.d∧kI B∧((u∈fo∧B.Perm fo)∨(u ∉ fo∧B.Perm (fo ++ [u]))),?_,?_⟩
   ·refine⟨_,rfl,_,rfl,t,.ref x,fq,us,[],u,rfl,aa.st,⟨d,rx,aU⟩,oku,by omega,cn.rise.nd aa.st.ok,fun Z H2 s2=>?_,fun ap t' B H2 s2 cm ax cj=>?_⟩
    ·exact⟨t,us,rfl,aa.same s2,aa.st.same s2,rx.same s2,dV.same s2,cn.rise,.inl ⟨cn.pf.mem_iff.mp Z,cn.pf⟩⟩
    ·exact⟨t',B,rfl,(aa.same s2).to cm,aa.st.same s2,rx.same s2,dV.same s2,cj,.inr ⟨fun h=>ap (cn.pf.mem_iff.mpr h),ax.trans (cn.pf.append_right _)⟩⟩
   rintro U HK ⟨t',B,rfl,O,ej,gb,eu,d3,cv⟩;refine⟨_,rfl,.ref x,_,rfl,tQ gb b4,_,rfl,rfl,_,rfl,?_⟩;rw[Ic rfl];refine dD ?_;have hO:=O.hF.len;refine⟨fun U H'=>∃(af:List V) (aE:List bS),U=[some (.ref sc),some (.ref p),some (.ref tL),some (.ref lR),some (.ref lN),some (.ref t'),some (.ref lF),some (.ref lP),some (.ref tr),some (.str (stD fq us []).shown),some (.ref t),some (.ref x),some (.str d.shown),none,none,none]∧Lw H' p c ns aJ tL lR lF lP lQ t' fq xs af ps (xs ++ ys) rs aE (rs ++ es) B∧gZ H' t fq us []∧Cn (i + 1) aE B,?_,?_⟩
   ·refine⟨_,rfl,_,rfl,true,u.d,fo.map bS.d,eu.flip (fI oku.rs) true,.inr (O.hF.rdl O.eF (by omega)),oku.rowD.ly,qU O.hF.ok,Bi oku.rowD.dp (by decide),_,rfl,?_⟩;rw[Ib rfl];rcases cv with⟨Z,bx⟩ | ⟨ap,bx⟩
    ·rw[(oT O.hF.ok oku).mpr Z];exact dD ⟨xf,fo,rfl,O,ej,⟨bx,d3,by omega⟩⟩
    ·rw[Bool.eq_false_iff.mpr fun h=>ap ((oT O.hF.ok oku).mp h)];refine dJ ⟨_,rfl,.inl ⟨rfl,_,bF O.eF⟩,_,rfl,lF,xf,.ref tr,rfl,rfl,O.eF,A6 (show xf.length < 1000000 by omega) (aS (Ao _)),?_⟩;exact⟨xf ++ [.ref tr],fo ++ [u],rfl,O.setF eH eu oku,ej.lst O.eF,⟨bx,d3,by rw[Au];show fo.length + 1≤_;omega⟩⟩
   rintro U HL ⟨af,aE,rfl,ag,gv,aj⟩;have g7:=aj.pf.length_eq;have gm:=aj.few;refine⟨_,rfl,.ref t,_,rfl,tQ (gv.rd aN) dv,_,rfl,rfl,_,rfl,?_⟩;rw[Ic rfl];refine dD ?_;refine⟨_,rfl,_,rfl,_,rfl,A0 _,fun b1 cK=>?_⟩;have sb:=aV (o:=.lst []) cK;have ay:=ag.same sb;refine⟨t',tL,lF,b1,fq,B,[],af,aE,[],rfl,ay.st,ay.rL,bc,ay.eF,ay.hF,aj.pf,aj.rise,by omega,aH,.refl _,rfl,aN,fun HY sY=>⟨_,rfl,dD ?_⟩⟩;have ah:=ay.same sY;generalize upd HL b1 _=HM at ay sY;refine⟨_,rfl,.inl ⟨rfl,_,bF ah.eP⟩,_,rfl,_,rfl,lF,_,rfl,.inl (bF ah.eF),fun l1 df=>⟨zZ2,fun q1 dz=>?_⟩⟩;have dF:=aV (o:=.lst af) df;have en:upd HY l1 (.lst af) l1=some (.lst af):=aH;have gi:l1≠lF:=(aY ah.eF df).symm;have gg:l1≠lP:=(aY ah.eP df).symm;generalize upd HY l1 _=HZ at dF en dz ⊢;have cr:=aV (o:=.tup [V.ref t',.ref l1]) dz;have fc:upd HZ q1 (.tup [V.ref t',.ref l1]) q1=some (.tup [V.ref t',.ref l1]):=aH;generalize upd HZ q1 _=HW at cr fc ⊢;have bA:=ah.same (dF.trans cr);have dg:wZ HW lF lP fq (.ref q1):=⟨q1,t',l1,B,af,aE,rfl,fc,bA.st,cr _ _ en,bA.hF,aj.pf,aj.rise,by omega,gi,gg⟩
   exact⟨lP,ps,.ref q1,rfl,rfl,bA.eP,A6 (show ps.length < 1000000 by omega) (aS (Ao _)),_,_,_,_,_,t',af,ps ++ [.ref q1],aE,B,aJ,rfl,bA.setP eH dg,aj,by omega,by rw[Au];exact Nat.succ_pos _,by rw[Au];show ps.length + 1≤_;omega⟩
  ·rintro σ HI ⟨o8,o9,bm,bj,aw,t,xf,ps,fo,us,aI,rfl,lw,cn,eK,gy,ca⟩;rw[Au]at ca eK;have fe:=cn.few;rw[Au]at fe;have fz:=cn.pf.length_eq;refine⟨_,rfl,_,rfl,_,rfl,lP,_,rfl,.inl (bF lw.eP),p,c,ns,aI,_,rfl,lw.pen,by omega,by omega,DR (show((ps.length:Nat):Int)≤40 by omega) (by decide),fun r aJ HJ r0 r1 gp e4 da cL=>?_⟩;have aa:=lw.but da cL;obtain⟨j,rfl⟩:∃ j:Nat,r=j:=⟨r.toNat,by omega⟩
   have hj:j < ps.length:=by omega
   refine⟨lP,_,_,_,rfl,rfl,bF aa.eP,fG (Ab hj),?_⟩;obtain⟨q,tE,lE,ab,xE,J,e,h1,bK,eE,hE,pE,rE,lE34,nF,nP⟩:=aa.hP ps[j] (Bn hj);rw[e];refine⟨q,_,rfl,bI h1,rfl,_,_,rfl,_,_,rfl,rfl,_,rfl,1,rfl,lR,_,rfl,bF aa.eR,fun M hM=>?_⟩;rw[show(some (1:Int))=some ((1:Nat):Int) from rfl,aGJ];have sM:=aV (o:=.lst (xs.take 1)) hM;have eM:upd HJ M (.lst (xs.take 1)) M=some (.lst (xs.take 1)):=aH;generalize upd HJ M _=HK at sM eM ⊢;have O:=aa.same sM;have b3:=bK.same sM;have ea:=sM _ _ eE;have ey:=hE.same sM;refine⟨fun U H'=>∃(tE lE:Ag) (ab J:List bS) (xE:List V),U=[some (.ref sc),some (.ref p),some (.ref tL),some (.ref lR),some (.ref lN),some (.ref t),some (.ref lF),some (.ref lP),o8,o9,bm,bj,aw,some (.ref tE),some (.ref lE),some (.ref M)]∧Lw H' p c ns aJ tL lR lF lP lQ t fq xs xf ps (xs ++ ys) rs fo (rs ++ es) us∧gZ H' tE fq ab []∧H' lE=some (.lst xE)∧cW H' xE J (fq.map c3)∧ab.Perm J∧kI ab∧ab.length≤35,?_,?_⟩
   ·refine⟨_,rfl,A0 _,fun q2 f4=>?_⟩;have an:=aV (o:=.lst []) f4;refine⟨M,q2,_,rfl,rfl,bF (an _ _ eM),bF aH,_,rfl,?_⟩;generalize upd HK q2 _=HL at an;have ag:=O.same an;have ar:=b3.same an;have dw:=an _ _ ea;have fg:=ey.same an;have cR:=an _ _ eM;refine dY (fun g=>?_) fun g=>?_
    ·have g1:0 < (xs.take 1).length:=Ie g;obtain⟨x,ex⟩:∃ x,xs.take 1=[x]:=by
      cases xs with
      | nil=>simp at g1
      | cons x r=>exact⟨x,rfl⟩
     have em:xs[0]?=some x:=by
      cases xs with
      | nil=>simp at g1
      | cons y r=>cases ex;rfl
     rw[ex]at cR;obtain⟨u,hu,rdx,oku⟩:=ag.hR.at' 0 x em;refine⟨fun U H'=>∃(t':Ag) (B:List bS),U=[some (.ref sc),some (.ref p),some (.ref tL),some (.ref lR),some (.ref lN),some (.ref t),some (.ref lF),some (.ref lP),o8,o9,bm,bj,aw,some (.ref t'),some (.ref lE),some (.ref M)]∧bW HL H'∧gZ H' t' fq B []∧kI B∧((u∈J∧B.Perm J)∨(u ∉ J∧B.Perm (J ++ [u]))),?_,?_⟩
     ·refine⟨_,rfl,_,rfl,M,_,0,x,rfl,rfl,bF cR,rfl,tE,x,fq,ab,[],u,rfl,ar,oku.thg rdx,oku,by omega,rE.nd ar.ok,fun Z H2 s2=>?_,fun ap t' B H2 s2 cm ax cj=>?_⟩
      ·exact⟨tE,ab,rfl,s2,ar.same s2,rE,.inl ⟨pE.mem_iff.mp Z,pE⟩⟩
      ·exact⟨t',B,rfl,s2,cm,cj,.inr ⟨fun h=>ap (pE.mem_iff.mpr h),ax.trans (pE.append_right _)⟩⟩
     rintro U HN ⟨t',B,rfl,sN,eW,rN,cv⟩;have el:=sN _ _ dw;have am:=fg.same sN;have e3:=sN _ _ cR;have ed:=rdx.same sN;have dy:=ag.same sN;have bx:=pE.length_eq;refine⟨_,rfl,_,rfl,M,rfl,⟨_,bF e3⟩,?_⟩;refine jC (K:=K) (xs:=[x]) (fun i zs U H'=>∃(o:Option V),Aw3 (U=[o,some (.ref lE)]) (H'=HN) (zs.length≤i∧(0 < i→(u∈J→zs=[])∧(u ∉ J→zs=[x])))) ⟨none,rfl,rfl,Ao _,fun h=>absurd h (Cf 0)⟩ (zZ1) (fun i zs σ H' q=>by obtain⟨_,_,_,h,_⟩:=q;exact h) (fun i zs σ H' q=>by obtain⟨_,_,rfl,_⟩:=q;exact bF e3) ?_ ?_
     ·rintro i v zs U H' hv ⟨o,rfl,rfl,bP,c1⟩;have hi:i=0:=by
       have:=(AM.mp hv).1;simp at this;exact this
      subst hi;cases hv;have ae:zs=[]:=CH (Nat.le_zero.mp bP);subst ae;dsimp only[dG];refine⟨_,rfl,_,rfl,true,u.d,J.map bS.d,ed.flip (fI oku.rs) true,.inr (am.rdl el (by omega)),oku.rowD.ly,qU am.ok,Bi oku.rowD.dp (by decide),_,rfl,?_⟩;rw[Ib rfl];by_cases Z:u∈J
      ·rw[(oT am.ok oku).mpr Z];exact dD ⟨_,rfl,rfl,A0 _,fun _=>⟨fun _=>rfl,fun h=>absurd Z h⟩⟩
      ·rw[Bool.eq_false_iff.mpr fun h=>Z ((oT am.ok oku).mp h)];exact dJ ⟨_,rfl,_,rfl,rfl,Ao _,fun _=>⟨fun h=>absurd h Z,fun _=>rfl⟩⟩
     rintro zs U H' ⟨o,rfl,rfl,bP,c1⟩ C hC;have sC:=aV (o:=.lst zs) hC;have eC:upd H' C (.lst zs) C=some (.lst zs):=aH;generalize upd H' C _=HC at sC eC ⊢;have hk:zs.length≤1:=bP;have hG:=am.len;refine⟨lE,C,xE,zs,rfl,rfl,sC _ _ el,eC,aS (by omega),fun D hD=>?_⟩;have sD:=aV (o:=.lst (xE ++ zs)) hD;have s3:=sC.trans sD;rcases cv with⟨Z,hpe2⟩ | ⟨ap,hpe2⟩
     ·have ae:=(c1 Hi).1 Z;subst ae;rw[Cg];rw[Cg]at sD s3;exact⟨t',D,B,J,xE,rfl,dy.same s3,eW.same s3,aH,am.same s3,hpe2,rN,by have:=hpe2.length_eq;omega⟩
     ·have ae:=(c1 Hi).2 ap;subst ae;exact⟨t',D,B,J ++ [u],xE ++ [x],rfl,dy.same s3,eW.same s3,aH,(am.snoc ed oku).same s3,hpe2,rN,by have:=hpe2.length_eq;rw[Au]at this;simp at this;omega⟩
    ·exact⟨tE,lE,ab,J,xE,rfl,ag,ar,dw,fg,pE,rE,by omega⟩
   clear aa O bK eE hE b3 ea ey pE rE e h1 nF nP lE34 xE J ab tE lE;rintro U HL ⟨tE,lE,ab,J,xE,rfl,ag,bK,eE,hE,pE,rE,gz⟩;refine⟨_,rfl,_,rfl,_,rfl,A0 _,fun b1 cK=>?_⟩;have sb:=aV (o:=.lst []) cK;refine⟨tE,tL,lE,b1,fq,ab,[],xE,J,[],rfl,bK.same sb,ag.rL.same sb,bc,sb _ _ eE,hE.same sb,pE,rE,by omega,aH,.refl _,rfl,aN,fun HY sY=>?_⟩;have ah:=(ag.same sb).same sY;generalize upd HL b1 _=HM at sY;refine⟨_,rfl,dJ ?_⟩;refine⟨_,rfl,_,rfl,_,rfl,A0 _,fun b2 fT=>?_⟩;have f3:=aV (o:=.lst []) fT;have bO:=ah.same f3;exact⟨t,tL,lF,b2,fq,us,[],xf,fo,[],rfl,bO.st,bO.rL,bc,bO.eF,bO.hF,cn.pf,cn.rise,by omega,aH,.refl _,rfl,aN,fun HV _=>k HV⟩
theorem all_mk{l:FY}{w:A2}{K:Aj}{h:Bp}{mg:Str→Option Ac}{fa:Ag}(X:K.In h)(G:h.Ns mainGlobals mg)(hfa:mg "law"=some (.ref fa))
  {fIN:Ag} {odIN anIN:Option Ag} {slIN:Array (Option Ac)} {ocIN kVIN dcIN pmIN cdIN ctIN:Ac} {fNB:Ag} {odNB anNB:Option Ag} {slNB:Array (Option Ac)} {ocNB kVNB dcNB pmNB cdNB ctNB:Ac} {fIW:Ag} {odIW anIW:Option Ag} {slIW:Array (Option Ac)} {ocIW kVIW dcIW pmIW cdIW ctIW:Ac} {fRI:Ag} {odRI anRI:Option Ag} {slRI:Array (Option Ac)} {ocRI kVRI dcRI pmRI cdRI ctRI:Ac} {fFD:Ag} {odFD anFD:Option Ag} {slFD:Array (Option Ac)} {ocFD kVFD dcFD pmFD cdFD ctFD:Ac} {fLY:Ag} {odLY anLY:Option Ag} {slLY:Array (Option Ac)} {ocLY kVLY dcLY pmLY cdLY ctLY:Ac} {fPT:Ag} {odPT anPT:Option Ag} {slPT:Array (Option Ac)} {ocPT kVPT dcPT pmPT cdPT ctPT:Ac} {fAP:Ag} {odAP anAP:Option Ag} {slAP:Array (Option Ac)} {ocAP kVAP dcAP pmAP cdAP ctAP:Ac} {fAN:Ag} {odAN anAN:Option Ag} {slAN:Array (Option Ac)} {ocAN kVAN dcAN pmAN cdAN ctAN:Ac} {fRP:Ag} {odRP anRP:Option Ag} {slRP:Array (Option Ac)} {ocRP kVRP dcRP pmRP cdRP ctRP:Ac} {fRL:Ag} {odRL anRL:Option Ag} {slRL:Array (Option Ac)} {ocRL kVRL dcRL pmRL cdRL ctRL:Ac} {fIC:Ag} {odIC anIC:Option Ag} {slIC:Array (Option Ac)} {ocIC kVIC dcIC pmIC cdIC ctIC:Ac} {fF0:Ag} {odF0 anF0:Option Ag} {slF0:Array (Option Ac)} {ocF0 kVF0 dcF0 pmF0 cdF0 ctF0:Ac} {fF1:Ag} {odF1 anF1:Option Ag} {slF1:Array (Option Ac)} {ocF1 kVF1 dcF1 pmF1 cdF1 ctF1:Ac} {fF2:Ag} {odF2 anF2:Option Ag} {slF2:Array (Option Ac)} {ocF2 kVF2 dcF2 pmF2 cdF2 ctF2:Ac} {fF3:Ag} {odF3 anF3:Option Ag} {slF3:Array (Option Ac)} {ocF3 kVF3 dcF3 pmF3 cdF3 ctF3:Ac} {fF4:Ag} {odF4 anF4:Option Ag} {slF4:Array (Option Ac)} {ocF4 kVF4 dcF4 pmF4 cdF4 ctF4:Ac} {fF5:Ag} {odF5 anF5:Option Ag} {slF5:Array (Option Ac)} {ocF5 kVF5 dcF5 pmF5 cdF5 ctF5:Ac} {fF6:Ag} {odF6 anF6:Option Ag} {slF6:Array (Option Ac)} {ocF6 kVF6 dcF6 pmF6 cdF6 ctF6:Ac} {fF7:Ag} {odF7 anF7:Option Ag} {slF7:Array (Option Ac)} {ocF7 kVF7 dcF7 pmF7 cdF7 ctF7:Ac} {fIR:Ag} {odIR anIR:Option Ag} {slIR:Array (Option Ac)} {ocIR kVIR dcIR pmIR cdIR ctIR:Ac} {fAT:Ag} {odAT anAT:Option Ag} {slAT:Array (Option Ac)} {ocAT kVAT dcAT pmAT cdAT ctAT:Ac} {fIO:Ag} {odIO anIO:Option Ag} {slIO:Array (Option Ac)} {ocIO kVIO dcIO pmIO cdIO ctIO:Ac} {fRO:Ag} {odRO anRO:Option Ag} {slRO:Array (Option Ac)} {ocRO kVRO dcRO pmRO cdRO ctRO:Ac} {fFO:Ag} {odFO anFO:Option Ag} {slFO:Array (Option Ac)} {ocFO kVFO dcFO pmFO cdFO ctFO:Ac} {fOr:Ag} {odOr anOr:Option Ag} {slOr:Array (Option Ac)} {ocOr kVOr dcOr pmOr cdOr ctOr:Ac} {fLG:Ag} {odLG anLG:Option Ag} {slLG:Array (Option Ac)} {ocLG kVLG dcLG pmLG cdLG ctLG:Ac} {fRF:Ag} {odRF anRF:Option Ag} {slRF:Array (Option Ac)} {ocRF kVRF dcRF pmRF cdRF ctRF:Ac} {fRR:Ag} {odRR anRR:Option Ag} {slRR:Array (Option Ac)} {ocRR kVRR dcRR pmRR cdRR ctRR:Ac} {fBN:Ag} {odBN anBN:Option Ag} {slBN:Array (Option Ac)} {ocBN kVBN dcBN pmBN cdBN ctBN:Ac} {fRoO:Ag} {odRoO anRoO:Option Ag} {slRoO:Array (Option Ac)} {ocRoO kVRoO dcRoO pmRoO cdRoO ctRoO:Ac} {fSD:Ag} {odSD anSD:Option Ag} {slSD:Array (Option Ac)} {ocSD kVSD dcSD pmSD cdSD ctSD:Ac} {fST:Ag} {odST anST:Option Ag} {slST:Array (Option Ac)} {ocST kVST dcST pmST cdST ctST:Ac} {fWR:Ag} {odWR anWR:Option Ag} {slWR:Array (Option Ac)} {ocWR kVWR dcWR pmWR cdWR ctWR:Ac} {fRN:Ag} {odRN anRN:Option Ag} {slRN:Array (Option Ac)} {ocRN kVRN dcRN pmRN cdRN ctRN:Ac} {fP:Ag} {odP anP:Option Ag} {slP:Array (Option Ac)} {ocP kVP dcP pmP cdP ctP:Ac} {fT:Ag} {odT anT:Option Ag} {slT:Array (Option Ac)} {ocT kVT dcT pmT cdT ctT:Ac} {fN:Ag} {odN anN:Option Ag} {slN:Array (Option Ac)} {ocN kVN dcN pmN cdN ctN:Ac} {fSo:Ag} {odSo anSo:Option Ag} {slSo:Array (Option Ac)} {ocSo kVSo dcSo pmSo cdSo ctSo:Ac} {fD:Ag} {odD anD:Option Ag} {slD:Array (Option Ac)} {ocD kVD dcD pmD cdD ctD:Ac} {fNu:Ag} {odNu anNu:Option Ag} {slNu:Array (Option Ac)} {ocNu kVNu dcNu pmNu cdNu ctNu:Ac} {fLO:Ag} {odLO anLO:Option Ag} {slLO:Array (Option Ac)} {ocLO kVLO dcLO pmLO cdLO ctLO:Ac} {fSm:Ag} {odSm anSm:Option Ag} {slSm:Array (Option Ac)} {ocSm kVSm dcSm pmSm cdSm ctSm:Ac} {fRo:Ag} {odRo anRo:Option Ag} {slRo:Array (Option Ac)} {ocRo kVRo dcRo pmRo cdRo ctRo:Ac} {fR:Ag} {odR anR:Option Ag} {slR:Array (Option Ac)} {ocR kVR dcR pmR cdR ctR:Ac} {fU:Ag} {odU anU:Option Ag} {slU:Array (Option Ac)} {ocU kVU dcU pmU cdU ctU:Ac} {fLi:Ag} {odLi anLi:Option Ag} {slLi:Array (Option Ac)} {ocLi kVLi dcLi pmLi cdLi ctLi:Ac} {fK:Ag} {odK anK:Option Ag} {slK:Array (Option Ac)} {ocK kVK dcK pmK cdK ctK:Ac} {fLS:Ag} {odLS anLS:Option Ag} {slLS:Array (Option Ac)} {ocLS kVLS dcLS pmLS cdLS ctLS:Ac} {fSR:Ag} {odSR anSR:Option Ag} {slSR:Array (Option Ac)} {ocSR kVSR dcSR pmSR cdSR ctSR:Ac} {fPo:Ag} {odPo anPo:Option Ag} {slPo:Array (Option Ac)} {ocPo kVPo dcPo pmPo cdPo ctPo:Ac} {fL:Ag} {odL anL:Option Ag} {slL:Array (Option Ac)} {ocL kVL dcL pmL cdL ctL:Ac}
  {t_MOST_FIELDS:Tok}
  {t_MOST_FIELD_ACRES:Tok}
  {t_LONGEST:Tok}
  {t_LAST_DAY:Tok}
  {t_FEWEST_LANDS:Tok}
  {t_MOST_LANDS:Tok}
  {t_MOST_PART_ACRES:Tok}
  {t_MOST_INCHES:Tok}
  {t_MOST_PENCE:Tok}
  {t_MOST_SPADES:Tok}
  {t_ROW_DEPTH:Tok}
  {t_LAYING_DEPTH:Tok}
  {t_MOST_ROWS:Tok}
  {t_MOST_FORMS:Tok}
  {t_FORMS:Ag} {eF:Nat} {xk0 xk1 xk2 xk3 xk4 xk5 xk6 xk7:Tok}
  {t_RANKS:Ag} {eR:Nat} {xr0 xr1 xr2 xr3 xr4 xr5 xr6 xr7 yr0 yr1 yr2 yr3 yr4 yr5 yr6 yr7:Tok}
  (aIN:Am K mainGlobals "is_name"=some (some (.ref fIN))) (lIN:K.lookup fIN=some ⟨ocIN,odIN,.func (AB "is_name" "is_name" (bX m5) (bV m5) (aO m5) .none kVIN dcIN pmIN anIN cdIN ctIN),slIN⟩) (cIN:Ar K cdIN "is_name"=true) (kIN:Al K (.ref fIN)=true)
  (aNB:Am K mainGlobals "is_number"=some (some (.ref fNB))) (lNB:K.lookup fNB=some ⟨ocNB,odNB,.func (AB "is_number" "is_number" (bX jF) (bV jF) (aO jF) .none kVNB dcNB pmNB anNB cdNB ctNB),slNB⟩) (cNB:Ar K cdNB "is_number"=true) (kNB:Al K (.ref fNB)=true)
  (aIW:Am K mainGlobals "is_whole"=some (some (.ref fIW))) (lIW:K.lookup fIW=some ⟨ocIW,odIW,.func (AB "is_whole" "is_whole" (bX l7) (bV l7) (aO l7) .none kVIW dcIW pmIW anIW cdIW ctIW),slIW⟩) (cIW:Ar K cdIW "is_whole"=true) (kIW:Al K (.ref fIW)=true)
  (aRI:Am K mainGlobals "is_rising"=some (some (.ref fRI))) (lRI:K.lookup fRI=some ⟨ocRI,odRI,.func (AB "is_rising" "is_rising" (bX m6) (bV m6) (aO m6) .none kVRI dcRI pmRI anRI cdRI ctRI),slRI⟩) (cRI:Ar K cdRI "is_rising"=true) (kRI:Al K (.ref fRI)=true)
  (aFD:Am K mainGlobals "is_field"=some (some (.ref fFD))) (lFD:K.lookup fFD=some ⟨ocFD,odFD,.func (AB "is_field" "is_field" (bX l9) (bV l9) (aO l9) .none kVFD dcFD pmFD anFD cdFD ctFD),slFD⟩) (cFD:Ar K cdFD "is_field"=true) (kFD:Al K (.ref fFD)=true)
  (aLY:Am K mainGlobals "is_laying"=some (some (.ref fLY))) (lLY:K.lookup fLY=some ⟨ocLY,odLY,.func (AB "is_laying" "is_laying" (bX gT) (bV gT) (aO gT) .none kVLY dcLY pmLY anLY cdLY ctLY),slLY⟩) (cLY:Ar K cdLY "is_laying"=true) (kLY:Al K (.ref fLY)=true)
  (aPT:Am K mainGlobals "is_part"=some (some (.ref fPT))) (lPT:K.lookup fPT=some ⟨ocPT,odPT,.func (AB "is_part" "is_part" (bX oK) (bV oK) (aO oK) .none kVPT dcPT pmPT anPT cdPT ctPT),slPT⟩) (cPT:Ar K cdPT "is_part"=true) (kPT:Al K (.ref fPT)=true)
  (aAP:Am K mainGlobals "all_parts"=some (some (.ref fAP))) (lAP:K.lookup fAP=some ⟨ocAP,odAP,.func (AB "all_parts" "all_parts" (bX iJ) (bV iJ) (aO iJ) .none kVAP dcAP pmAP anAP cdAP ctAP),slAP⟩) (cAP:Ar K cdAP "all_parts"=true) (kAP:Al K (.ref fAP)=true)
  (aAN:Am K mainGlobals "all_names"=some (some (.ref fAN))) (lAN:K.lookup fAN=some ⟨ocAN,odAN,.func (AB "all_names" "all_names" (bX iK) (bV iK) (aO iK) .none kVAN dcAN pmAN anAN cdAN ctAN),slAN⟩) (cAN:Ar K cdAN "all_names"=true) (kAN:Al K (.ref fAN)=true)
  (aRP:Am K mainGlobals "are_parts"=some (some (.ref fRP))) (lRP:K.lookup fRP=some ⟨ocRP,odRP,.func (AB "are_parts" "are_parts" (bX iL) (bV iL) (aO iL) .none kVRP dcRP pmRP anRP cdRP ctRP),slRP⟩) (cRP:Ar K cdRP "are_parts"=true) (kRP:Al K (.ref fRP)=true)
  (aRL:Am K mainGlobals "are_lands"=some (some (.ref fRL))) (lRL:K.lookup fRL=some ⟨ocRL,odRL,.func (AB "are_lands" "are_lands" (bX jG) (bV jG) (aO jG) .none kVRL dcRL pmRL anRL cdRL ctRL),slRL⟩) (cRL:Ar K cdRL "are_lands"=true) (kRL:Al K (.ref fRL)=true)
  (aIC:Am K mainGlobals "is_inch"=some (some (.ref fIC))) (lIC:K.lookup fIC=some ⟨ocIC,odIC,.func (AB "is_inch" "is_inch" (bX oM) (bV oM) (aO oM) .none kVIC dcIC pmIC anIC cdIC ctIC),slIC⟩) (cIC:Ar K cdIC "is_inch"=true) (kIC:Al K (.ref fIC)=true)
  (aF0:Am K mainGlobals "fits_part"=some (some (.ref fF0))) (lF0:K.lookup fF0=some ⟨ocF0,odF0,.func (AB "fits_part" "fits_part" (bX rS) (bV rS) (aO rS) .none kVF0 dcF0 pmF0 anF0 cdF0 ctF0),slF0⟩) (cF0:Ar K cdF0 "fits_part"=true) (kF0:Al K (.ref fF0)=true)
  (aF1:Am K mainGlobals "fits_join"=some (some (.ref fF1))) (lF1:K.lookup fF1=some ⟨ocF1,odF1,.func (AB "fits_join" "fits_join" (bX rT) (bV rT) (aO rT) .none kVF1 dcF1 pmF1 anF1 cdF1 ctF1),slF1⟩) (cF1:Ar K cdF1 "fits_join"=true) (kF1:Al K (.ref fF1)=true)
  (aF2:Am K mainGlobals "fits_forfeit"=some (some (.ref fF2))) (lF2:K.lookup fF2=some ⟨ocF2,odF2,.func (AB "fits_forfeit" "fits_forfeit" (bX jH) (bV jH) (aO jH) .none kVF2 dcF2 pmF2 anF2 cdF2 ctF2),slF2⟩) (cF2:Ar K cdF2 "fits_forfeit"=true) (kF2:Al K (.ref fF2)=true)
  (aF3:Am K mainGlobals "fits_measure"=some (some (.ref fF3))) (lF3:K.lookup fF3=some ⟨ocF3,odF3,.func (AB "fits_measure" "fits_measure" (bX jI) (bV jI) (aO jI) .none kVF3 dcF3 pmF3 anF3 cdF3 ctF3),slF3⟩) (cF3:Ar K cdF3 "fits_measure"=true) (kF3:Al K (.ref fF3)=true)
  (aF4:Am K mainGlobals "fits_mend"=some (some (.ref fF4))) (lF4:K.lookup fF4=some ⟨ocF4,odF4,.func (AB "fits_mend" "fits_mend" (bX rU) (bV rU) (aO rU) .none kVF4 dcF4 pmF4 anF4 cdF4 ctF4),slF4⟩) (cF4:Ar K cdF4 "fits_mend"=true) (kF4:Al K (.ref fF4)=true)
  (aF5:Am K mainGlobals "fits_alone"=some (some (.ref fF5))) (lF5:K.lookup fF5=some ⟨ocF5,odF5,.func (AB "fits_alone" "fits_alone" (bX oO) (bV oO) (aO oO) .none kVF5 dcF5 pmF5 anF5 cdF5 ctF5),slF5⟩) (cF5:Ar K cdF5 "fits_alone"=true) (kF5:Al K (.ref fF5)=true)
  (aF6:Am K mainGlobals "fits_breach"=some (some (.ref fF6))) (lF6:K.lookup fF6=some ⟨ocF6,odF6,.func (AB "fits_breach" "fits_breach" (bX mC) (bV mC) (aO mC) .none kVF6 dcF6 pmF6 anF6 cdF6 ctF6),slF6⟩) (cF6:Ar K cdF6 "fits_breach"=true) (kF6:Al K (.ref fF6)=true)
  (aF7:Am K mainGlobals "fits_view"=some (some (.ref fF7))) (lF7:K.lookup fF7=some ⟨ocF7,odF7,.func (AB "fits_view" "fits_view" (bX rV) (bV rV) (aO rV) .none kVF7 dcF7 pmF7 anF7 cdF7 ctF7),slF7⟩) (cF7:Ar K cdF7 "fits_view"=true) (kF7:Al K (.ref fF7)=true)
  (aIR:Am K mainGlobals "is_row"=some (some (.ref fIR))) (lIR:K.lookup fIR=some ⟨ocIR,odIR,.func (AB "is_row" "is_row" (bX rW) (bV rW) (aO rW) .none kVIR dcIR pmIR anIR cdIR ctIR),slIR⟩) (cIR:Ar K cdIR "is_row"=true) (kIR:Al K (.ref fIR)=true)
  (aAT:Am K mainGlobals "as_tuples"=some (some (.ref fAT))) (lAT:K.lookup fAT=some ⟨ocAT,odAT,.func (AB "as_tuples" "as_tuples" (bX jT) (bV jT) (aO jT) .none kVAT dcAT pmAT anAT cdAT ctAT),slAT⟩) (cAT:Ar K cdAT "as_tuples"=true) (kAT:Al K (.ref fAT)=true)
  (aIO:Am K mainGlobals "in_order"=some (some (.ref fIO))) (lIO:K.lookup fIO=some ⟨ocIO,odIO,.func (AB "in_order" "in_order" (bX mE) (bV mE) (aO mE) .none kVIO dcIO pmIO anIO cdIO ctIO),slIO⟩) (cIO:Ar K cdIO "in_order"=true) (kIO:Al K (.ref fIO)=true)
  (aRO:Am K mainGlobals "row_of"=some (some (.ref fRO))) (lRO:K.lookup fRO=some ⟨ocRO,odRO,.func (AB "row_of" "row_of" (bX oP) (bV oP) (aO oP) .none kVRO dcRO pmRO anRO cdRO ctRO),slRO⟩) (cRO:Ar K cdRO "row_of"=true) (kRO:Al K (.ref fRO)=true)
  (aFO:Am K mainGlobals "field_of"=some (some (.ref fFO))) (lFO:K.lookup fFO=some ⟨ocFO,odFO,.func (AB "field_of" "field_of" (bX mG) (bV mG) (aO mG) .none kVFO dcFO pmFO anFO cdFO ctFO),slFO⟩) (cFO:Ar K cdFO "field_of"=true) (kFO:Al K (.ref fFO)=true)
  (aOr:Am K mainGlobals "order"=some (some (.ref fOr))) (lOr:K.lookup fOr=some ⟨ocOr,odOr,.func (AB "order" "order" (bX rX) (bV rX) (aO rX) .none kVOr dcOr pmOr anOr cdOr ctOr),slOr⟩) (cOr:Ar K cdOr "order"=true) (kOr:Al K (.ref fOr)=true)
  (aLG:Am K mainGlobals "laying_of"=some (some (.ref fLG))) (lLG:K.lookup fLG=some ⟨ocLG,odLG,.func (AB "laying_of" "laying_of" (bX jJ) (bV jJ) (aO jJ) .none kVLG dcLG pmLG anLG cdLG ctLG),slLG⟩) (cLG:Ar K cdLG "laying_of"=true) (kLG:Al K (.ref fLG)=true)
  (aRF:Am K mainGlobals "row_for"=some (some (.ref fRF))) (lRF:K.lookup fRF=some ⟨ocRF,odRF,.func (AB "row_for" "row_for" (bX m7) (bV m7) (aO m7) .none kVRF dcRF pmRF anRF cdRF ctRF),slRF⟩) (cRF:Ar K cdRF "row_for"=true) (kRF:Al K (.ref fRF)=true)
  (aRR:Am K mainGlobals "row_for_roll"=some (some (.ref fRR))) (lRR:K.lookup fRR=some ⟨ocRR,odRR,.func (AB "row_for_roll" "row_for_roll" (bX gU) (bV gU) (aO gU) .none kVRR dcRR pmRR anRR cdRR ctRR),slRR⟩) (cRR:Ar K cdRR "row_for_roll"=true) (kRR:Al K (.ref fRR)=true)
  (aBN:Am K mainGlobals "by_names"=some (some (.ref fBN))) (lBN:K.lookup fBN=some ⟨ocBN,odBN,.func (AB "by_names" "by_names" (bX jU) (bV jU) (aO jU) .none kVBN dcBN pmBN anBN cdBN ctBN),slBN⟩) (cBN:Ar K cdBN "by_names"=true) (kBN:Al K (.ref fBN)=true)
  (aRoO:Am K mainGlobals "roll_of"=some (some (.ref fRoO))) (lRoO:K.lookup fRoO=some ⟨ocRoO,odRoO,.func (AB "roll_of" "roll_of" (bX oQ) (bV oQ) (aO oQ) .none kVRoO dcRoO pmRoO anRoO cdRoO ctRoO),slRoO⟩) (cRoO:Ar K cdRoO "roll_of"=true) (kRoO:Al K (.ref fRoO)=true)
  (aSD:Am K mainGlobals "standing"=some (some (.ref fSD))) (lSD:K.lookup fSD=some ⟨ocSD,odSD,.func (AB "standing" "standing" (bX gW) (bV gW) (aO gW) .none kVSD dcSD pmSD anSD cdSD ctSD),slSD⟩) (cSD:Ar K cdSD "standing"=true) (kSD:Al K (.ref fSD)=true)
  (aST:Am K mainGlobals "start"=some (some (.ref fST))) (lST:K.lookup fST=some ⟨ocST,odST,.func (AB "start" "start" (bX rY) (bV rY) (aO rY) .none kVST dcST pmST anST cdST ctST),slST⟩) (cST:Ar K cdST "start"=true) (kST:Al K (.ref fST)=true)
  (aWR:Am K mainGlobals "written"=some (some (.ref fWR))) (lWR:K.lookup fWR=some ⟨ocWR,odWR,.func (AB "written" "written" (bX mH) (bV mH) (aO mH) .none kVWR dcWR pmWR anWR cdWR ctWR),slWR⟩) (cWR:Ar K cdWR "written"=true) (kWR:Al K (.ref fWR)=true)
  (aRN:Am K mainGlobals "roll_now"=some (some (.ref fRN))) (lRN:K.lookup fRN=some ⟨ocRN,odRN,.func (AB "roll_now" "roll_now" (bX mI) (bV mI) (aO mI) .none kVRN dcRN pmRN anRN cdRN ctRN),slRN⟩) (cRN:Ar K cdRN "roll_now"=true) (kRN:Al K (.ref fRN)=true)
  (aP:Am K mainGlobals "_law_pen"=some (some (.ref fP))) (lP:K.lookup fP=some ⟨ocP,odP,.func (AB "_law_pen" "_law_pen" (bX aEe) (bV aEe) (aO aEe) .none kVP dcP pmP anP cdP ctP),slP⟩) (cP:Ar K cdP "_law_pen"=true) (kP:Al K (.ref fP)=true)
  (aT:Am K mainGlobals "_law_take"=some (some (.ref fT))) (lT:K.lookup fT=some ⟨ocT,odT,.func (AB "_law_take" "_law_take" (bX vW) (bV vW) (aO vW) .none kVT dcT pmT anT cdT ctT),slT⟩) (cT:Ar K cdT "_law_take"=true) (kT:Al K (.ref fT)=true)
  (aN:Am K mainGlobals "_law_names"=some (some (.ref fN))) (lN:K.lookup fN=some ⟨ocN,odN,.func (AB "_law_names" "_law_names" (bX pN) (bV pN) (aO pN) .none kVN dcN pmN anN cdN ctN),slN⟩) (cN:Ar K cdN "_law_names"=true) (kN:Al K (.ref fN)=true)
  (aSo:Am K mainGlobals "_law_sorts"=some (some (.ref fSo))) (lSo:K.lookup fSo=some ⟨ocSo,odSo,.func (AB "_law_sorts" "_law_sorts" (bX rZ) (bV rZ) (aO rZ) .none kVSo dcSo pmSo anSo cdSo ctSo),slSo⟩) (cSo:Ar K cdSo "_law_sorts"=true) (kSo:Al K (.ref fSo)=true)
  (aD:Am K mainGlobals "_law_days"=some (some (.ref fD))) (lD:K.lookup fD=some ⟨ocD,odD,.func (AB "_law_days" "_law_days" (bX vX) (bV vX) (aO vX) .none kVD dcD pmD anD cdD ctD),slD⟩) (cD:Ar K cdD "_law_days"=true) (kD:Al K (.ref fD)=true)
  (aNu:Am K mainGlobals "_law_number"=some (some (.ref fNu))) (lNu:K.lookup fNu=some ⟨ocNu,odNu,.func (AB "_law_number" "_law_number" (bX oR) (bV oR) (aO oR) .none kVNu dcNu pmNu anNu cdNu ctNu),slNu⟩) (cNu:Ar K cdNu "_law_number"=true) (kNu:Al K (.ref fNu)=true)
  (aLO:Am K mainGlobals "_law_laying"=some (some (.ref fLO))) (lLO:K.lookup fLO=some ⟨ocLO,odLO,.func (AB "_law_laying" "_law_laying" (bX sB) (bV sB) (aO sB) .none kVLO dcLO pmLO anLO cdLO ctLO),slLO⟩) (cLO:Ar K cdLO "_law_laying"=true) (kLO:Al K (.ref fLO)=true)
  (aSm:Am K mainGlobals "_law_some"=some (some (.ref fSm))) (lSm:K.lookup fSm=some ⟨ocSm,odSm,.func (AB "_law_some" "_law_some" (bX vY) (bV vY) (aO vY) .none kVSm dcSm pmSm anSm cdSm ctSm),slSm⟩) (cSm:Ar K cdSm "_law_some"=true) (kSm:Al K (.ref fSm)=true)
  (aRo:Am K mainGlobals "_law_row_of"=some (some (.ref fRo))) (lRo:K.lookup fRo=some ⟨ocRo,odRo,.func (AB "_law_row_of" "_law_row_of" (bX pO) (bV pO) (aO pO) .none kVRo dcRo pmRo anRo cdRo ctRo),slRo⟩) (cRo:Ar K cdRo "_law_row_of"=true) (kRo:Al K (.ref fRo)=true)
  (aR:Am K mainGlobals "_law_row"=some (some (.ref fR))) (lR:K.lookup fR=some ⟨ocR,odR,.func (AB "_law_row" "_law_row" (bX aEf) (bV aEf) (aO aEf) .none kVR dcR pmR anR cdR ctR),slR⟩) (cR:Ar K cdR "_law_row"=true) (kR:Al K (.ref fR)=true)
  (aU:Am K mainGlobals "_law_turned"=some (some (.ref fU))) (lU:K.lookup fU=some ⟨ocU,odU,.func (AB "_law_turned" "_law_turned" (bX m8) (bV m8) (aO m8) .none kVU dcU pmU anU cdU ctU),slU⟩) (cU:Ar K cdU "_law_turned"=true) (kU:Al K (.ref fU)=true)
  (aLi:Am K mainGlobals "_law_listed"=some (some (.ref fLi))) (lLi:K.lookup fLi=some ⟨ocLi,odLi,.func (AB "_law_listed" "_law_listed" (bX m9) (bV m9) (aO m9) .none kVLi dcLi pmLi anLi cdLi ctLi),slLi⟩) (cLi:Ar K cdLi "_law_listed"=true) (kLi:Al K (.ref fLi)=true)
  (aK:Am K mainGlobals "_law_place"=some (some (.ref fK))) (lK:K.lookup fK=some ⟨ocK,odK,.func (AB "_law_place" "_law_place" (bX sG) (bV sG) (aO sG) .none kVK dcK pmK anK cdK ctK),slK⟩) (cK:Ar K cdK "_law_place"=true) (kK:Al K (.ref fK)=true)
  (aLS:Am K mainGlobals "_law_standing"=some (some (.ref fLS))) (lLS:K.lookup fLS=some ⟨ocLS,odLS,.func (AB "_law_standing" "_law_standing" (bX f8) (bV f8) (aO f8) .none kVLS dcLS pmLS anLS cdLS ctLS),slLS⟩) (cLS:Ar K cdLS "_law_standing"=true) (kLS:Al K (.ref fLS)=true)
  (aSR:Am K mainGlobals "_law_state_right"=some (some (.ref fSR))) (lSR:K.lookup fSR=some ⟨ocSR,odSR,.func (AB "_law_state_right" "_law_state_right" (bX gX) (bV gX) (aO gX) .none kVSR dcSR pmSR anSR cdSR ctSR),slSR⟩) (cSR:Ar K cdSR "_law_state_right"=true) (kSR:Al K (.ref fSR)=true)
  (aPo:Am K mainGlobals "_law_pool"=some (some (.ref fPo))) (lPo:K.lookup fPo=some ⟨ocPo,odPo,.func (AB "_law_pool" "_law_pool" (bX yB) (bV yB) (aO yB) .none kVPo dcPo pmPo anPo cdPo ctPo),slPo⟩) (cPo:Ar K cdPo "_law_pool"=true) (kPo:Al K (.ref fPo)=true)
  (aL:Am K mainGlobals "law"=some (some (.ref fL))) (lL:K.lookup fL=some ⟨ocL,odL,.func (AB "law" "law" (bX tZ) (bV tZ) (aO tZ) .none kVL dcL pmL anL cdL ctL),slL⟩) (cL:Ar K cdL "law"=true) (kL:Al K (.ref fL)=true)
  (z_isinstance:Am K mainGlobals "isinstance"=some none)
  (z_str:Am K mainGlobals "str"=some none)
  (z_len:Am K mainGlobals "len"=some none)
  (z_all:Am K mainGlobals "all"=some none)
  (z_int:Am K mainGlobals "int"=some none)
  (z_bool:Am K mainGlobals "bool"=some none)
  (z_tuple:Am K mainGlobals "tuple"=some none)
  (z_set:Am K mainGlobals "set"=some none)
  (z_list:Am K mainGlobals "list"=some none)
  (z_sorted:Am K mainGlobals "sorted"=some none)
  (z_abs:Am K mainGlobals "abs"=some none)
  (z_range:Am K mainGlobals "range"=some none)
  (z_min:Am K mainGlobals "min"=some none)
  (z_repr:Am K mainGlobals "repr"=some none)
  (q_MOST_FIELDS:Am K mainGlobals "MOST_FIELDS"=some (some (.int 8 t_MOST_FIELDS)))
  (q_MOST_FIELD_ACRES:Am K mainGlobals "MOST_FIELD_ACRES"=some (some (.int 1000000 t_MOST_FIELD_ACRES)))
  (q_LONGEST:Am K mainGlobals "LONGEST"=some (some (.int 8 t_LONGEST)))
  (q_LAST_DAY:Am K mainGlobals "LAST_DAY"=some (some (.int 9999 t_LAST_DAY)))
  (q_FEWEST_LANDS:Am K mainGlobals "FEWEST_LANDS"=some (some (.int 2 t_FEWEST_LANDS)))
  (q_MOST_LANDS:Am K mainGlobals "MOST_LANDS"=some (some (.int 6 t_MOST_LANDS)))
  (q_MOST_PART_ACRES:Am K mainGlobals "MOST_PART_ACRES"=some (some (.int 10000000 t_MOST_PART_ACRES)))
  (q_MOST_INCHES:Am K mainGlobals "MOST_INCHES"=some (some (.int 10000000 t_MOST_INCHES)))
  (q_MOST_PENCE:Am K mainGlobals "MOST_PENCE"=some (some (.int 1000000000 t_MOST_PENCE)))
  (q_MOST_SPADES:Am K mainGlobals "MOST_SPADES"=some (some (.int 1000000 t_MOST_SPADES)))
  (q_ROW_DEPTH:Am K mainGlobals "ROW_DEPTH"=some (some (.int 3 t_ROW_DEPTH)))
  (q_LAYING_DEPTH:Am K mainGlobals "LAYING_DEPTH"=some (some (.int 2 t_LAYING_DEPTH)))
  (q_MOST_ROWS:Am K mainGlobals "MOST_ROWS"=some (some (.int 40 t_MOST_ROWS)))
  (q_MOST_FORMS:Am K mainGlobals "MOST_FORMS"=some (some (.int 60 t_MOST_FORMS)))
  (q_FORMS:Am K mainGlobals "FORMS"=some (some (.ref t_FORMS)))
  (lFm:K.lookup t_FORMS=some { cls:=.type "dict",data:=.dict #[⟨AV w.params "part",.str "part" xk0,.ref fF0⟩,⟨AV w.params "join",.str "join" xk1,.ref fF1⟩,⟨AV w.params "forfeit",.str "forfeit" xk2,.ref fF2⟩,⟨AV w.params "measure",.str "measure" xk3,.ref fF3⟩,⟨AV w.params "mend",.str "mend" xk4,.ref fF4⟩,⟨AV w.params "alone",.str "alone" xk5,.ref fF5⟩,⟨AV w.params "breach",.str "breach" xk6,.ref fF6⟩,⟨AV w.params "view",.str "view" xk7,.ref fF7⟩] eF }) (hzF:(t_FORMS == sysModules)=false)
  (q_RANKS:Am K mainGlobals "RANKS"=some (some (.ref t_RANKS)))
  (lRk:K.lookup t_RANKS=some { cls:=.type "dict",data:=.dict #[⟨AV w.params "measure",.str "measure" xr0,.int 0 yr0⟩,⟨AV w.params "part",.str "part" xr1,.int 1 yr1⟩,⟨AV w.params "join",.str "join" xr2,.int 1 yr2⟩,⟨AV w.params "forfeit",.str "forfeit" xr3,.int 1 yr3⟩,⟨AV w.params "mend",.str "mend" xr4,.int 2 yr4⟩,⟨AV w.params "alone",.str "alone" xr5,.int 2 yr5⟩,⟨AV w.params "breach",.str "breach" xr6,.int 3 yr6⟩,⟨AV w.params "view",.str "view" xr7,.int 3 yr7⟩] eR })
  :∃ fd:AK,(∀(s:Af) (v:Ac),Gu s fd ⟨[v],[]⟩ [("_law_script",v)])∧∀ base:Bp,K.In base→base.Ns mainGlobals mg→cY l.prog w K mg base CX0 15 fa fd ["_law_script"] (aDF K):=by
 have e:=hfa.symm.trans (Ap X G aL);cases e;have FIN:=cI (st:=m5) lIN cIN kIN;have mIN:=Ap X G aIN;have bIN:=FIN.binds (ps:=["thing"]) fun _ _ _ _ _ _ us hl=>by obtain⟨_,rfl⟩:=gP hl;rfl
 have FNB:=cI (st:=jF) lNB cNB kNB;have mNB:=Ap X G aNB;have bNB:=FNB.binds (ps:=["thing"]) fun _ _ _ _ _ _ us hl=>by obtain⟨_,rfl⟩:=gP hl;rfl
 have FIW:=cI (st:=l7) lIW cIW kIW;have mIW:=Ap X G aIW;have bIW:=FIW.binds (ps:=["thing","least","most"]) fun _ _ _ _ _ _ us hl=>by obtain⟨_,_,_,rfl⟩:=aEE hl;rfl
 have FRI:=cI (st:=m6) lRI cRI kRI;have mRI:=Ap X G aRI;have bRI:=FRI.binds (ps:=["things"]) fun _ _ _ _ _ _ us hl=>by obtain⟨_,rfl⟩:=gP hl;rfl
 have FFD:=cI (st:=l9) lFD cFD kFD;have mFD:=Ap X G aFD;have bFD:=FFD.binds (ps:=["thing"]) fun _ _ _ _ _ _ us hl=>by obtain⟨_,rfl⟩:=gP hl;rfl
 have FLY:=cI (st:=gT) lLY cLY kLY;have mLY:=Ap X G aLY;have bLY:=FLY.binds (ps:=["thing"]) fun _ _ _ _ _ _ us hl=>by obtain⟨_,rfl⟩:=gP hl;rfl
 have FPT:=cI (st:=oK) lPT cPT kPT;have mPT:=Ap X G aPT;have bPT:=FPT.binds (ps:=["thing"]) fun _ _ _ _ _ _ us hl=>by obtain⟨_,rfl⟩:=gP hl;rfl
 have FAP:=cI (st:=iJ) lAP cAP kAP;have mAP:=Ap X G aAP;have bAP:=FAP.binds (ps:=["thing"]) fun _ _ _ _ _ _ us hl=>by obtain⟨_,rfl⟩:=gP hl;rfl
 have FAN:=cI (st:=iK) lAN cAN kAN;have mAN:=Ap X G aAN;have bAN:=FAN.binds (ps:=["thing"]) fun _ _ _ _ _ _ us hl=>by obtain⟨_,rfl⟩:=gP hl;rfl
 have FRP:=cI (st:=iL) lRP cRP kRP;have mRP:=Ap X G aRP;have bRP:=FRP.binds (ps:=["thing"]) fun _ _ _ _ _ _ us hl=>by obtain⟨_,rfl⟩:=gP hl;rfl
 have FRL:=cI (st:=jG) lRL cRL kRL;have mRL:=Ap X G aRL;have bRL:=FRL.binds (ps:=["thing"]) fun _ _ _ _ _ _ us hl=>by obtain⟨_,rfl⟩:=gP hl;rfl
 have FIC:=cI (st:=oM) lIC cIC kIC;have mIC:=Ap X G aIC;have bIC:=FIC.binds (ps:=["thing"]) fun _ _ _ _ _ _ us hl=>by obtain⟨_,rfl⟩:=gP hl;rfl
 have FF0:=cI (st:=rS) lF0 cF0 kF0;have mF0:=Ap X G aF0;have bF0:=FF0.binds (ps:=["rest"]) fun _ _ _ _ _ _ us hl=>by obtain⟨_,rfl⟩:=gP hl;rfl
 have FF1:=cI (st:=rT) lF1 cF1 kF1;have mF1:=Ap X G aF1;have bF1:=FF1.binds (ps:=["rest"]) fun _ _ _ _ _ _ us hl=>by obtain⟨_,rfl⟩:=gP hl;rfl
 have FF2:=cI (st:=jH) lF2 cF2 kF2;have mF2:=Ap X G aF2;have bF2:=FF2.binds (ps:=["rest"]) fun _ _ _ _ _ _ us hl=>by obtain⟨_,rfl⟩:=gP hl;rfl
 have FF3:=cI (st:=jI) lF3 cF3 kF3;have mF3:=Ap X G aF3;have bF3:=FF3.binds (ps:=["rest"]) fun _ _ _ _ _ _ us hl=>by obtain⟨_,rfl⟩:=gP hl;rfl
 have FF4:=cI (st:=rU) lF4 cF4 kF4;have mF4:=Ap X G aF4;have bF4:=FF4.binds (ps:=["rest"]) fun _ _ _ _ _ _ us hl=>by obtain⟨_,rfl⟩:=gP hl;rfl
 have FF5:=cI (st:=oO) lF5 cF5 kF5;have mF5:=Ap X G aF5;have bF5:=FF5.binds (ps:=["rest"]) fun _ _ _ _ _ _ us hl=>by obtain⟨_,rfl⟩:=gP hl;rfl
 have FF6:=cI (st:=mC) lF6 cF6 kF6;have mF6:=Ap X G aF6;have bF6:=FF6.binds (ps:=["rest"]) fun _ _ _ _ _ _ us hl=>by obtain⟨_,rfl⟩:=gP hl;rfl
 have FF7:=cI (st:=rV) lF7 cF7 kF7;have mF7:=Ap X G aF7;have bF7:=FF7.binds (ps:=["rest"]) fun _ _ _ _ _ _ us hl=>by obtain⟨_,rfl⟩:=gP hl;rfl
 have FIR:=cI (st:=rW) lIR cIR kIR;have mIR:=Ap X G aIR;have bIR:=FIR.binds (ps:=["thing"]) fun _ _ _ _ _ _ us hl=>by obtain⟨_,rfl⟩:=gP hl;rfl
 have FAT:=cI (st:=jT) lAT cAT kAT;have mAT:=Ap X G aAT;have bAT:=FAT.binds (ps:=["thing","deep"]) fun _ _ _ _ _ _ us hl=>by obtain⟨_,_,rfl⟩:=rA hl;rfl
 have FIO:=cI (st:=mE) lIO cIO kIO;have mIO:=Ap X G aIO;have bIO:=FIO.binds (ps:=["thing"]) fun _ _ _ _ _ _ us hl=>by obtain⟨_,rfl⟩:=gP hl;rfl
 have FRO:=cI (st:=oP) lRO cRO kRO;have mRO:=Ap X G aRO;have bRO:=FRO.binds (ps:=["thing"]) fun _ _ _ _ _ _ us hl=>by obtain⟨_,rfl⟩:=gP hl;rfl
 have FFO:=cI (st:=mG) lFO cFO kFO;have mFO:=Ap X G aFO;have bFO:=FFO.binds (ps:=["row"]) fun _ _ _ _ _ _ us hl=>by obtain⟨_,rfl⟩:=gP hl;rfl
 have FOr:=cI (st:=rX) lOr cOr kOr;have mOr:=Ap X G aOr;have bOr:=FOr.binds (ps:=["row"]) fun _ _ _ _ _ _ us hl=>by obtain⟨_,rfl⟩:=gP hl;rfl
 have FLG:=cI (st:=jJ) lLG cLG kLG;have mLG:=Ap X G aLG;have bLG:=FLG.binds (ps:=["thing"]) fun _ _ _ _ _ _ us hl=>by obtain⟨_,rfl⟩:=gP hl;rfl
 have FRF:=cI (st:=m7) lRF cRF kRF;have mRF:=Ap X G aRF;have bRF:=FRF.binds (ps:=["laying","thing"]) fun _ _ _ _ _ _ us hl=>by obtain⟨_,_,rfl⟩:=rA hl;rfl
 have FRR:=cI (st:=gU) lRR cRR kRR;have mRR:=Ap X G aRR;have bRR:=FRR.binds (ps:=["laying","thing"]) fun _ _ _ _ _ _ us hl=>by obtain⟨_,_,rfl⟩:=rA hl;rfl
 have FBN:=cI (st:=jU) lBN cBN kBN;have mBN:=Ap X G aBN;have bBN:=FBN.binds (ps:=["laying","things"]) fun _ _ _ _ _ _ us hl=>by obtain⟨_,_,rfl⟩:=rA hl;rfl
 have FRoO:=cI (st:=oQ) lRoO cRoO kRoO;have mRoO:=Ap X G aRoO;have bRoO:=FRoO.binds (ps:=["laying","rows"]) fun _ _ _ _ _ _ us hl=>by obtain⟨_,_,rfl⟩:=rA hl;rfl
 have FSD:=cI (st:=gW) lSD cSD kSD;have mSD:=Ap X G aSD;have bSD:=FSD.binds (ps:=["state"]) fun _ _ _ _ _ _ us hl=>by obtain⟨_,rfl⟩:=gP hl;rfl
 have FST:=cI (st:=rY) lST cST kST;have mST:=Ap X G aST;have bST:=FST.binds (ps:=["laying"]) fun _ _ _ _ _ _ us hl=>by obtain⟨_,rfl⟩:=gP hl;rfl
 have FWR:=cI (st:=mH) lWR cWR kWR;have mWR:=Ap X G aWR;have bWR:=FWR.binds (ps:=["state","thing"]) fun _ _ _ _ _ _ us hl=>by obtain⟨_,_,rfl⟩:=rA hl;rfl
 have FRN:=cI (st:=mI) lRN cRN kRN;have mRN:=Ap X G aRN;have bRN:=FRN.binds (ps:=["state"]) fun _ _ _ _ _ _ us hl=>by obtain⟨_,rfl⟩:=gP hl;rfl
 have FP:=cI (st:=aEe) lP cP kP;have mP:=Ap X G aP;have bP:=FP.binds (ps:=["_law_script"]) fun _ _ _ _ _ _ us hl=>by obtain⟨_,rfl⟩:=gP hl;rfl
 have FT:=cI (st:=vW) lT cT kT;have mT:=Ap X G aT;have bT:=FT.binds (ps:=["_law_pen_here","_law_many"]) fun _ _ _ _ _ _ us hl=>by obtain⟨_,_,rfl⟩:=rA hl;rfl
 have FN:=cI (st:=pN) lN cN kN;have mN:=Ap X G aN;have bN:=FN.binds (ps:=["_law_pen_here","_law_many"]) fun _ _ _ _ _ _ us hl=>by obtain⟨_,_,rfl⟩:=rA hl;rfl
 have FSo:=cI (st:=rZ) lSo cSo kSo;have mSo:=Ap X G aSo;have bSo:=FSo.binds (ps:=["_law_pen_here","_law_fields","_law_rows"]) fun _ _ _ _ _ _ us hl=>by obtain⟨_,_,_,rfl⟩:=aEE hl;rfl
 have FD:=cI (st:=vX) lD cD kD;have mD:=Ap X G aD;have bD:=FD.binds (ps:=["_law_pen_here","_law_many"]) fun _ _ _ _ _ _ us hl=>by obtain⟨_,_,rfl⟩:=rA hl;rfl
 have FNu:=cI (st:=oR) lNu cNu kNu;have mNu:=Ap X G aNu;have bNu:=FNu.binds (ps:=["_law_pen_here","_law_bottom","_law_most"]) fun _ _ _ _ _ _ us hl=>by obtain⟨_,_,_,rfl⟩:=aEE hl;rfl
 have FLO:=cI (st:=sB) lLO cLO kLO;have mLO:=Ap X G aLO;have bLO:=FLO.binds (ps:=["_law_pen_here","_law_fields","_law_houses"]) fun _ _ _ _ _ _ us hl=>by obtain⟨_,_,_,rfl⟩:=aEE hl;rfl
 have FSm:=cI (st:=vY) lSm cSm kSm;have mSm:=Ap X G aSm;have bSm:=FSm.binds (ps:=["_law_pen_here","_law_names_here","_law_many"]) fun _ _ _ _ _ _ us hl=>by obtain⟨_,_,_,rfl⟩:=aEE hl;rfl
 have FRo:=cI (st:=pO) lRo cRo kRo;have mRo:=Ap X G aRo;have bRo:=FRo.binds (ps:=["_law_pen_here","_law_word","_law_name","_law_day","_law_sorts_here"]) fun _ _ _ _ _ _ us hl=>by obtain⟨_,_,_,_,_,rfl⟩:=aKc hl;rfl
 have FR:=cI (st:=aEf) lR cR kR;have mR:=Ap X G aR;have bR:=FR.binds (ps:=["_law_pen_here","_law_name","_law_day","_law_sorts_here"]) fun _ _ _ _ _ _ us hl=>by obtain⟨_,_,_,_,rfl⟩:=aJj hl;rfl
 have FU:=cI (st:=m8) lU cU kU;have mU:=Ap X G aU;have bU:=FU.binds (ps:=["_law_pen_here","_law_some_here"]) fun _ _ _ _ _ _ us hl=>by obtain⟨_,_,rfl⟩:=rA hl;rfl
 have FLi:=cI (st:=m9) lLi cLi kLi;have mLi:=Ap X G aLi;have bLi:=FLi.binds (ps:=["_law_pen_here","_law_row_here"]) fun _ _ _ _ _ _ us hl=>by obtain⟨_,_,rfl⟩:=rA hl;rfl
 have FK:=cI (st:=sG) lK cK kK;have mK:=Ap X G aK;have bK:=FK.binds (ps:=["_law_row_here"]) fun _ _ _ _ _ _ us hl=>by obtain⟨_,rfl⟩:=gP hl;rfl
 have FLS:=cI (st:=f8) lLS cLS kLS;have mLS:=Ap X G aLS;have bLS:=FLS.binds (ps:=["_law_forms","_law_backs"]) fun _ _ _ _ _ _ us hl=>by obtain⟨_,_,rfl⟩:=rA hl;rfl
 have FSR:=cI (st:=gX) lSR cSR kSR;have mSR:=Ap X G aSR;have bSR:=FSR.binds (ps:=["_law_state","_law_laying_here","_law_forms","_law_backs"]) fun _ _ _ _ _ _ us hl=>by obtain⟨_,_,_,_,rfl⟩:=aJj hl;rfl
 have FPo:=cI (st:=yB) lPo cPo kPo;have mPo:=Ap X G aPo;have bPo:=FPo.binds (ps:=["_law_pen_here","_law_many"]) fun _ _ _ _ _ _ us hl=>by obtain⟨_,_,rfl⟩:=rA hl;rfl
 have FL:=cI (st:=tZ) lL cL kL;have mL:=Ap X G aL;have bL:=FL.binds (ps:=["_law_script"]) fun _ _ _ _ _ _ us hl=>by obtain⟨_,rfl⟩:=gP hl;rfl
 have n_isinstance:=BB X G z_isinstance;have n_str:=BB X G z_str;have n_len:=BB X G z_len;have n_all:=BB X G z_all;have n_int:=BB X G z_int;have n_bool:=BB X G z_bool;have n_tuple:=BB X G z_tuple;have n_set:=BB X G z_set;have n_list:=BB X G z_list;have n_sorted:=BB X G z_sorted;have n_abs:=BB X G z_abs;have n_range:=BB X G z_range;have n_min:=BB X G z_min;have n_repr:=BB X G z_repr;have g_MOST_FIELDS:=Ap X G q_MOST_FIELDS;have g_MOST_FIELD_ACRES:=Ap X G q_MOST_FIELD_ACRES;have g_LONGEST:=Ap X G q_LONGEST;have g_LAST_DAY:=Ap X G q_LAST_DAY;have g_FEWEST_LANDS:=Ap X G q_FEWEST_LANDS;have g_MOST_LANDS:=Ap X G q_MOST_LANDS;have g_MOST_PART_ACRES:=Ap X G q_MOST_PART_ACRES;have g_MOST_INCHES:=Ap X G q_MOST_INCHES;have g_MOST_PENCE:=Ap X G q_MOST_PENCE;have g_MOST_SPADES:=Ap X G q_MOST_SPADES;have g_ROW_DEPTH:=Ap X G q_ROW_DEPTH;have g_LAYING_DEPTH:=Ap X G q_LAYING_DEPTH;have g_MOST_ROWS:=Ap X G q_MOST_ROWS;have g_MOST_FORMS:=Ap X G q_MOST_FORMS;have g_FORMS:=Ap X G q_FORMS;have g_RANKS:=Ap X G q_RANKS;refine⟨AB "law" "law" (bX tZ) (bV tZ) (aO tZ) .none kVL dcL pmL anL cdL ctL,fun s v=>.of_eq rfl,fun base _ _=>?_⟩;have T:Txt K mg:=⟨n_isinstance,n_str,n_len,n_all,n_int,n_bool,n_tuple,n_set,⟨_,g_MOST_FIELDS⟩,⟨_,g_MOST_FIELD_ACRES⟩,⟨_,g_LONGEST⟩,⟨_,g_LAST_DAY⟩,⟨_,g_FEWEST_LANDS⟩,⟨_,g_MOST_LANDS⟩,⟨_,g_MOST_PART_ACRES⟩,⟨_,g_MOST_INCHES⟩,⟨_,g_MOST_PENCE⟩,⟨_,g_MOST_SPADES⟩⟩
 have RK:t9 w K t_RANKS:=⟨_,_,_,_,_,_,_,_,_,_,_,_,_,_,_,_,_,lRk⟩
 have GT:=aHa (P:=l.prog) (w:=w) (base:=base) FT n_len n_abs;have GIN:=aHh (aEl (P:=l.prog) (w:=w) (base:=base) FIN T) aEm;have GNB:=aHi (P:=l.prog) (w:=w) (base:=base) FNB T;have GIW:=aCg FIW ⟨_,_,GNB,mNB,kNB,bNB⟩;have GRI:=aEu (P:=l.prog) (w:=w) (base:=base) FRI T n_list n_sorted;have GFD:=aGv FFD T ⟨_,_,GIN,mIN,kIN,bIN⟩ ⟨_,_,GIW,mIW,kIW,bIW⟩;have GLY:=aJd FLY T ⟨_,_,GFD,mFD,kFD,bFD⟩;have GPT:=aHj FPT T ⟨_,_,GIN,mIN,kIN,bIN⟩ ⟨_,_,GIW,mIW,kIW,bIW⟩;have GIC:=aHk FIC T ⟨_,_,GIW,mIW,kIW,bIW⟩;have GAP:=aHm FAP T ⟨_,_,GPT,mPT,kPT,bPT⟩;have GAN:=aHl FAN T ⟨_,_,GIN,mIN,kIN,bIN⟩;have GRP:=aHq FRP T ⟨_,_,GAP,mAP,kAP,bAP⟩ ⟨_,_,GRI,mRI,kRI,bRI⟩;have GRL:=aHp FRL T ⟨_,_,GAN,mAN,kAN,bAN⟩ ⟨_,_,GRI,mRI,kRI,bRI⟩;have GF0:=aGd FF0 T ⟨_,_,GIN,mIN,kIN,bIN⟩ ⟨_,_,GRP,mRP,kRP,bRP⟩;have GF1:=aGe FF1 T ⟨_,_,GIN,mIN,kIN,bIN⟩ ⟨_,_,GRL,mRL,kRL,bRL⟩;have GF2:=aBh FF2 T ⟨_,_,GAN,mAN,kAN,bAN⟩;have GF3:=aBf FF3 T ⟨_,_,GIN,mIN,kIN,bIN⟩ ⟨_,_,GIW,mIW,kIW,bIW⟩;have GF4:=aF8 FF4 T ⟨_,_,GAN,mAN,kAN,bAN⟩;have GF5:=aEp FF5 T ⟨_,_,GIN,mIN,kIN,bIN⟩;have GF6:=aCl FF6 T ⟨_,_,GIN,mIN,kIN,bIN⟩ ⟨_,_,GIW,mIW,kIW,bIW⟩ ⟨_,_,GIC,mIC,kIC,bIC⟩;have GF7:=aFY FF7 T ⟨_,_,GIN,mIN,kIN,bIN⟩ ⟨_,_,GIC,mIC,kIC,bIC⟩;have GIR:=aGf FIR T (aHE lFm) (aJe fF0 fF1 fF2 fF3 fF4 fF5 fF6 fF7) hzF g_FORMS (aJ9 fF0 fF1 fF2 fF3 fF4 fF5 fF6 fF7) (aKa GF0 kF0 bF0 GF1 kF1 bF1 GF2 kF2 bF2 GF3 kF3 bF3 GF4 kF4 bF4 GF5 kF5 bF5 GF6 kF6 bF6 GF7 kF7 bF7) ⟨_,_,GIN,mIN,kIN,bIN⟩ ⟨_,_,GIW,mIW,kIW,bIW⟩;have GAT2:=aCp FAT T n_list mAT kAT bAT (aCp FAT T n_list mAT kAT bAT (aI9 (P:=l.prog) (w:=w) (base:=base) FAT T n_list mAT kAT bAT))
 have mAT2:=mAT;have kAT2:=kAT;have bAT2:=bAT;have GAT:=aCp FAT T n_list mAT kAT bAT GAT2;have GIO:=aJb FIO T n_sorted ⟨_,_,GAP,mAP,kAP,bAP⟩ ⟨_,_,GAN,mAN,kAN,bAN⟩;have GRO:=aEw FRO ⟨_,g_ROW_DEPTH⟩ ⟨_,_,GAT,mAT,kAT,bAT⟩ ⟨_,_,GIO,mIO,kIO,bIO⟩ ⟨_,_,GIR,mIR,kIR,bIR⟩;have GFO:=aCo (P:=l.prog) (w:=w) (mg:=mg) (base:=base) FFO;have GOr:=aGy (P:=l.prog) (base:=base) FOr RK g_RANKS;have GLG:=aBy FLG ⟨_,g_LAYING_DEPTH⟩ ⟨_,_,GAT2,mAT2,kAT2,bAT2⟩ ⟨_,_,GLY,mLY,kLY,bLY⟩;have GRF:=aEz FRF ⟨_,_,GRO,mRO,kRO,bRO⟩ ⟨_,_,GFO,mFO,kFO,bFO⟩;have GRR:=wX FRR ⟨_,_,GRF,mRF,kRF,bRF⟩;have GBN:=aCw FBN ⟨_,_,GRR,mRR,kRR,bRR⟩;have GRoO:=aEB FRoO T n_list n_sorted ⟨_,g_MOST_ROWS⟩ GLG mLG kLG bLG GBN mBN kBN bBN GOr mOr kOr bOr;have GN:=aFS FN n_len n_range n_min ⟨_,_,GT,mT,kT,bT⟩;have GSo:=aGn FSo ⟨_,_,GT,mT,kT,bT⟩ ⟨_,_,GN,mN,kN,bN⟩;have GNu:=aJa FNu n_min ⟨_,_,GT,mT,kT,bT⟩;have GD:=aHv FD n_range n_len n_int ⟨_,_,GT,mT,kT,bT⟩;have GLO:=aGz FLO n_len n_tuple ⟨_,_,GT,mT,kT,bT⟩ ⟨_,_,GNu,mNu,kNu,bNu⟩;have GSm:=aHu FSm n_list n_range n_sorted n_len ⟨_,_,GT,mT,kT,bT⟩;have GRo:=aGr FRo n_len n_tuple ⟨_,_,GT,mT,kT,bT⟩ ⟨_,_,GNu,mNu,kNu,bNu⟩ ⟨_,_,GSm,mSm,kSm,bSm⟩;have GR:=aJg FR ⟨_,_,GT,mT,kT,bT⟩ ⟨_,_,GRo,mRo,kRo,bRo⟩;have GK:=aGx (P:=l.prog) (w:=w) (mg:=mg) (base:=base) FK;have GSD:=aBH (P:=l.prog) (w:=w) (mg:=mg) (base:=base) FSD;have GST:=aGD FST ⟨_,_,GLG,mLG,kLG,bLG⟩;have GWR:=aCy FWR n_len n_tuple n_list n_sorted ⟨_,g_MOST_FORMS⟩ ⟨_,g_MOST_ROWS⟩ ⟨_,_,GRF,mRF,kRF,bRF⟩ ⟨_,_,GSD,mSD,kSD,bSD⟩;have GU:=aEx FU n_list n_range n_len ⟨_,_,GT,mT,kT,bT⟩
 have GLi:=aEy FLi T n_list n_range ⟨_,_,GT,mT,kT,bT⟩ ⟨_,_,GU,mU,kU,bU⟩;have GRN:=aCz FRN ⟨_,_,GRoO,mRoO,kRoO,bRoO⟩ ⟨_,_,GSD,mSD,kSD,bSD⟩;have GLS:=aAe FLS n_tuple n_sorted GK mK kK bK;have GSR:=wY FSR n_tuple n_sorted n_repr ⟨_,_,GRN,mRN,kRN,bRN⟩ ⟨_,_,GLS,mLS,kLS,bLS⟩;have GPo:=aHJ FPo n_range GSo mSo kSo bSo GLO mLO kLO bLO GD mD kD bD GT mT kT bT GR mR kR bR;exact aJi FL n_len n_list n_min n_range n_repr ⟨_,_,(aIZ FP n_list),mP,kP,bP⟩ ⟨_,_,GPo,mPo,kPo,bPo⟩ ⟨_,_,GST,mST,kST,bST⟩ ⟨_,_,GSR,mSR,kSR,bSR⟩ ⟨_,_,GWR,mWR,kWR,bWR⟩ ⟨_,_,GT,mT,kT,bT⟩ ⟨_,_,GLi,mLi,kLi,bLi⟩
theorem walk{l:FY}{q:AG}{loose:List Str}{XP:(Str→Option Ac)→Bp→Prop}{YP:A2→Bp→Prop}{d:DefRec}{K:Params→Aj}(hn:l.most=some 63)(hdf:d.params.defaults=[])
  (hY:∀(w:A2) (h:Bp),YP w h→(K w.params).In h)
  (F:∀(w:A2) (mg:Str→Option Ac) (fa:Ag) (h:Bp),(K w.params).In h→h.Ns mainGlobals mg→mg d.name=some (.ref fa)→
   ∃ fd:AK,(∀(s:Af) (u:Ac),Gu s fd ⟨[u],[]⟩ [("_law_script",u)])∧∀ base:Bp,(K w.params).In base→base.Ns mainGlobals mg→cY l.prog w (K w.params) mg base CX0 15 fa fd ["_law_script"] (aDF (K w.params))):
  PySem.W.WalkO q loose XP YP l.row.toRowW d [] (fun f vs=>Hg f vs):=
 L2.walk_of (n:=63) (k:=15) (x:="_law_script") (CX:=fun _=>CX0) (sp:=fun w=>aDF (K w.params)) hn (by decide) hdf ⟨rfl,by decide,by decide,rfl⟩ hY F (fun _ _ a ns hl _ hS=>⟨a,ns,rfl,hS,hl,fun _=>rfl⟩) fun _ _ _ _ _ z=>z
end K59
end
namespace PySem.W.Fast
def tw12952305434617988003:=0
def tw17040947349640093608:=0
def tw14785569787141579024:=0
def tw11477346198790728940:=0
def tw12589645228290743100:=0
def tw8557234276394687102:=0
def tw14985852769057446964:=0
def tw871152318629656195:=0
def tw14481719162188102797:=0
def tw10922055206414139643:=0
def tw7997688631347272982:=0
def tw7576325094337436004:=0
def tw13403201368737456893:=0
def tw4534480712387264366:=0
def tw3880617222764746686:=0
def tw9198201007905133446:=0
def tw3146130903849930211:=0
def tw5117840506609827952:=0
def tw8503111022034157418:=0
def tw11080521696487352105:=0
def tw15181385195114303322:=0
def tw16451971167612132281:=0
def tw10309335041979398057:=0
def tw9864392863707477477:=0
def tw14727286389235301848:=0
def tw391966248395181838:=0
def tw2157803932077562621:=0
def tw15376320142413770969:=0
def tw4845449778958035411:=0
def tw2778133231049411341:=0
def tw11475859407103321891:=0
def tw2521679530822985760:=0
def tw11550229527303319662:=0
def tw4152458875906938956:=0
def tw11834273039274138813:=0
def tw11484786526388011409:=0
def tw14254486472409213656:=0
def tw6104055579596140743:=0
def tw9551808812292174419:=0
def tw18362459157734739085:=0
def tw5945261463174984966:=0
def tw11407070774062847178:=0
def tw12450649564275754888:=0
def tw6954208279170260056:=0
def tw14954299130434484611:=0
def tw17956263573187805893:=0
def tw1382659130605884702:=0
def tw9322917579566891908:=0
def tw7850178218101307997:=0
def tw16838140715791320976:=0
def tw13279468408452402984:=0
def tw17489144275097232204:=0
def tw15372780263774198845:=0
def tw14246005442671691449:=0
def tw10920658916081677159:=0
def tw869580340346677426:=0
def tw3055789768701060340:=0
def tw11767863345295884709:=0
def tw5268402120397947821:=0
def tw3371708480812788861:=0
def tw4357604788633808711:=0
def tw2877761950461386182:=0
def tw12003478829400295373:=0
def tw15094335976071493996:=0
def tw14752877234858494189:=0
def tw8305229138311368376:=0
def tw13163276559385516407:=0
def tw2515782429656084053:=0
def tw9066406122853067015:=0
def tw4013529512717542518:=0
def tw11714011975864698094:=0
def tw10552482236834036710:=0
def tw2453473662934907439:=0
def tw13126550088170673216:=0
def tw14680896475021506766:=0
def tw11359731719239902286:=0
def tw3759567087197408827:=0
def tw11644727087493718837:=0
def tw6209042416260237218:=0
def tw11665610501079369055:=0
def tw5272583842050913469:=0
def tw1934092460584967568:=0
def tw9937107461096061331:=0
def tw5193246398338108800:=0
def tw5631919478420222869:=0
def tw4707909750939901104:=0
def tw17612117699285275442:=0
def tw13025216403158829815:=0
def tw10791183579561390504:=0
def tw7081474011685526255:=0
def tw16922580998193463780:=0
def tw9318810494146300307:=0
def tw16849832006923241132:=0
def tw12152165316399388581:=0
def tw3950112390057088673:=0
def tw1932378558706847624:=0
def tw5765500513520695160:=0
def tw16704717759520211591:=0
def tw2956781325113675987:=0
def tw13172642871523345606:=0
def tw2334104184687980454:=0
def tw8471567841545666129:=0
def tw16749513482771385295:=0
def tw3292022845427296050:=0
def tw3366333985440972201:=0
def tw6510464855152042516:=0
def tw12122356311964697140:=0
def tw4795559979777682579:=0
def tw9048097169623308810:=0
def tw11442108689557955706:=0
def tw18403165554652693567:=0
def tw12986369791587446873:=0
def tw10415895097182286783:=0
def tw16079302997552951476:=0
def tw11727406473968287278:=0
def tw17693164320713385562:=0
def tw10311780461098022188:=0
def tw5474739626279259821:=0
def tw1869474474567707986:=0
def tw14877014730787149943:=0
def tw12652138765031948670:=0
def tw2029084413048482283:=0
def tw13360205426697762134:=0
def tw13659568817143276790:=0
def tw5402398164843760752:=0
def tw16022301546013468125:=0
def tw10477581404615313503:=0
def tw6292585230992320018:=0
def tw5439739603416257739:=0
def tw11135265736785436144:=0
def tw377031361147025360:=0
def tw11939495852890775133:=0
def tw4963126145039661774:=0
def tw4925395369709281849:=0
def tw7830769437311018572:=0
def tw2370098084089086363:=0
def tw5911440345417230661:=0
def tw12148159983046266337:=0
def tw18247439093960181393:=0
def tw11341933229092168936:=0
def tw3013954660418254962:=0
def tw14749204600666660139:=0
def tw2225709428327876674:=0
def tw14201545251672949410:=0
def tw12226801949502890961:=0
def tw13228554346634405296:=0
def tw7661141807706062229:=0
def tw3924494383653238661:=0
def tw15302945275092226263:=0
def tw15365752270165433799:=0
def tw17721395014215744014:=0
def tw1222493838555812346:=0
def tw702247986176540325:=0
def tw7079226120910787852:=0
def tw2096172860427915598:=0
def tw4078254684606461271:=0
def tw10426495966620260275:=0
def tw2116818412509638621:=0
def tw13284359504773315676:=0
def tw1973634445737216019:=0
def tw7370124209836116601:=0
def tw18237483065637432974:=0
def tw7955802098766340009:=0
def tw6848632027239258248:=0
def tw8016493843446282616:=0
def tw16896648788420389827:=0
def tw8808740498203513341:=0
def tw18106411102367069319:=0
def tw6288240793193640279:=0
def tw16041906818228113787:=0
def tw10043691032995110929:=0
def tw4401992699727095233:=0
def tw3825144237888449983:=0
def tw15273683779386396665:=0
def tw7936237928249564892:=0
def tw16857265483547900246:=0
def tw9235350474439211807:=0
def tw4388212720423952790:=0
def tw6810945648368046745:=0
def tw17776094366455249887:=0
def tw2959310589627360152:=0
def tw2068943026349688587:=0
def tw14870844860756459588:=0
def tw12901190403565129130:=0
def tw4798949192235144751:=0
def tw14392239196314431191:=0
def tw4461402475614007865:=0
def tw4153593524982378976:=0
def tw5757180930535903888:=0
def tw15797834579776294851:=0
def tw15402602822712047902:=0
def tw25937880120008889:=0
def tw2163837986374851978:=0
def tw7522304852927099643:=0
def tw15177330902591894699:=0
def tw13729595805679719413:=0
def tw6748839174717501306:=0
def tw14494433662558252243:=0
def tw8850071959437438988:=0
def tw16772309979044199213:=0
def tw12503462043940632281:=0
def tw9361968381040764636:=0
def tw14086441706905129208:=0
def tw3022771864197567214:=0
def tw12799707493373589509:=0
def tw11376079492409628501:=0
def tw15313615022983862429:=0
def tw2317098526483747268:=0
def tw426320745027105851:=0
def tw7070424009094202576:=0
def tw14785507315871569443:=0
def tw1568600020077990924:=0
def tw8052915896531898865:=0
def tw7789349891504484018:=0
def tw10428438492564463836:=0
def tw12774430159279022090:=0
def tw14452620667829771553:=0
def tw7032111273814611268:=0
def tw2173610727616734905:=0
def tw8935658929421913236:=0
def tw2504490747853104063:=0
def tw7518558499846082570:=0
def tw9235908739770655360:=0
def tw11924365186794184596:=0
def tw9655733074132610185:=0
def tw7273425848130962413:=0
def tw8422747826451015600:=0
def tw10982915918142996510:=0
def tw15467155582246671608:=0
def tw13087545836951417388:=0
def tw5533319603724124508:=0
def tw18406513687830774850:=0
def tw4103500024756647158:=0
def tw5094828629519083196:=0
def tw3460340716544293849:=0
def tw9112269267137661668:=0
def tw2534174860908191180:=0
def tw12776674602029715278:=0
def tw12948230487928732934:=0
def tw10027513039334139204:=0
def tw3054221091017611575:=0
def tw16827438429507141314:=0
def tw12095799905120547707:=0
def tw6971359592466517046:=0
def tw4183911648653919918:=0
def tw13608041435625914176:=0
def tw17936017238810679199:=0
def tw16609499434338033120:=0
def tw5214546460999435789:=0
def tw9709383217298076955:=0
def tw6868775970591079512:=0
def tw6218278480100349519:=0
def tw2028926386412806866:=0
def tw3005545752777516000:=0
def tw10635742622268790544:=0
def tw10364570595973436179:=0
def tw11685640581016693407:=0
def tw15499179130868240157:=0
def tw8531106772048768549:=0
def tw7400367388027535494:=0
def tw18306795189660585099:=0
def tw2749561624927610110:=0
def tw18301155602851507940:=0
def tw17003636892438783824:=0
def tw15084531246577029360:=0
def tw17389529100675712066:=0
def tw5677288322549312819:=0
def tw7203387197208371680:=0
def tw10425031823166925770:=0
def tw13346241295117523506:=0
def tw16421088129183443448:=0
def tw4115270912832515775:=0
def tw9081698957870434964:=0
def tw5119268100210417107:=0
def tw8414191278830133364:=0
def tw5822123885369590883:=0
def tw14853628744646354627:=0
def tw3063030381753095387:=0
def tw10866573809935777851:=0
def tw1940762025851552399:=0
def tw10143333897699504764:=0
def tw11894209895567457831:=0
def tw11161595664773799534:=0
def tw14396286639747882515:=0
def tw6622098083503382797:=0
def tw2704060303703316436:=0
def tw7541485406702214388:=0
def tw8303740762212552728:=0
def tw10782336457139416613:=0
def tw17422521456294091640:=0
def tw17119787298547334286:=0
def tw2018675977871312451:=0
def tw4027525817088747274:=0
def tw21886039950615274:=0
def tw6211344987691609172:=0
def tw13767420549015668044:=0
def tw3132556674010806625:=0
def tw3392904465359985884:=0
def tw4141412695991922244:=0
def tw11002955570508704739:=0
def tw9171579647054705364:=0
def tw8857950950781085540:=0
def tw1617836453791166722:=0
def tw17760588677553903244:=0
def tw16389949599891966658:=0
def tw13509784923001117221:=0
def tw15420816212820384470:=0
def tw17188044574810574259:=0
def tw3760065206267872773:=0
def tw11816308668679339923:=0
def tw15549634733105697550:=0
def tw18112174831176511138:=0
def tw3525068054756590475:=0
def tw11981339271541503997:=0
def tw17632568857240301765:=0
def tw5292434502579827104:=0
def tw9480583159609149232:=0
def tw17435126122481738124:=0
def tw9118676852970316341:=0
def tw17392091689742013925:=0
def tw11821265726981455942:=0
def tw971077081920437617:=0
def tw6753613925661581317:=0
def tw14793899013749283689:=0
def tw127963123534709886:=0
def tw9726479720027153445:=0
def tw16579888586761464781:=0
def tw16981868595505307333:=0
def tw17934827486789134925:=0
def tw7342149188357060153:=0
def tw17401749291562405596:=0
def tw12162995755350829844:=0
def tw13621053792526707010:=0
def tw16541295552176371856:=0
def tw15267514410154507208:=0
def tw8584076925268881373:=0
def tw5640732477044989607:=0
def tw5686328756401424969:=0
def tw7419058397445933381:=0
def tw10793920428339850628:=0
def tw130147916153471359:=0
def tw11561472594676764281:=0
def tw17104845163226743445:=0
def tw15830702600463718044:=0
def tw17601772526476780263:=0
def tw13501704180410701308:=0
def tw13872699613961897977:=0
def tw14053980351889330421:=0
def tw8100703843457570370:=0
def tw17325225972017461410:=0
def tw17460339310154057384:=0
def tw18260664371866242684:=0
def tw9415950271472981237:=0
def tw17579512372901955141:=0
def tw10260648938669355555:=0
def tw15121020965434252394:=0
def tw7092859237983195112:=0
def tw8899226470235126141:=0
def tw5188013373404478044:=0
def tw4522762159431732781:=0
def tw14247234943789273349:=0
def tw7540230673712312463:=0
def tw12241231508024544261:=0
def tw17057760531380123481:=0
def tw5424921796804976801:=0
def tw3692507932385455761:=0
def tw8329709851117494171:=0
def tw4808679089508542524:=0
def tw1498567387493894108:=0
def tw2708728774282896399:=0
def tw14728283012404185688:=0
def tw16791207657871356647:=0
def tw13099922405114272900:=0
def tw13761224490833374877:=0
def tw15693138557935507046:=0
def tw13994469796617983670:=0
def tw15203660447717565091:=0
def tw11392801248871306931:=0
def tw6836504672948896279:=0
def tw3114002753570707313:=0
def tw11034730570121968853:=0
def tw9881251298696743435:=0
def tw18232878241818770002:=0
def tw3071897571782770880:=0
def tw324313305627076199:=0
def tw18093535031399594610:=0
def tw1038059199917881252:=0
def tw14206678641269735006:=0
def tw9611205858064147948:=0
def tw6136960019514244339:=0
def tw7684524815656542649:=0
def tw15569107400063400357:=0
def tw13210683397643798713:=0
def tw17548748749188448933:=0
def tw11022832793895878134:=0
def tw18260610436178491814:=0
def tw15700701590217519861:=0
def tw15857475961954080848:=0
def tw13202666759121807361:=0
def tw1993836008949186535:=0
def tw14539803728592831303:=0
def tw12928483631072572110:=0
def tw17100513530437375129:=0
def tw9341308559772101524:=0
def tw13939026379350523155:=0
def tw10650157245092132009:=0
def tw11181097057552961105:=0
def tw6674489388775482690:=0
def tw6484767185413892471:=0
def tw17469578228388121253:=0
def tw16577628391384075347:=0
def tw15370574598007965849:=0
def tw12124487204911371498:=0
def tw10190947814570806702:=0
def tw11269634704487729348:=0
def tw7348267717087660448:=0
def tw3022576422813375863:=0
def tw260447174196794156:=0
def tw7723219732147218714:=0
def tw206134729933780581:=0
def tw2687184058137230642:=0
def tw12067162360134190026:=0
def tw8106843983910028627:=0
def tw4991177221558687556:=0
def tw11279923016619613139:=0
def tw7446405512186630954:=0
def tw596751373498954803:=0
def tw4182135419455376135:=0
def tw297308825439085029:=0
def tw4578417297183478969:=0
def tw18269902274623356666:=0
def tw16076783454330328416:=0
def tw13472207210978080519:=0
def tw1337660763180876358:=0
end PySem.W.Fast
open PySem PySem.W PyProof.Rows
set_option maxRecDepth 100000 in
set_option maxHeartbeats 0 in
theorem PySem.Challenge.cw_dykelengths_k59_rows_written_down_holds : PySem.Challenge.rw_dykelengths_k59_rows_written_down.Holds := by
 w_on;o_law;k_head;(case hw=>w_witness2)
 k_fill
 refine K59.walk (l:=PySem.Challenge.rw_dykelengths_k59_rows_written_down) rfl rfl (fun w h Y=>PySem.W.kIn_of Y) ?F
 case F=>
  intro w mg fa h KX G hmg
  refine' K59.all_mk KX G hmg ?aIN ?lIN ?cIN ?kIN ?aNB ?lNB ?cNB ?kNB ?aIW ?lIW ?cIW ?kIW ?aRI ?lRI ?cRI ?kRI ?aFD ?lFD ?cFD ?kFD ?aLY ?lLY ?cLY ?kLY ?aPT ?lPT ?cPT ?kPT ?aAP ?lAP ?cAP ?kAP ?aAN ?lAN ?cAN ?kAN ?aRP ?lRP ?cRP ?kRP ?aRL ?lRL ?cRL ?kRL ?aIC ?lIC ?cIC ?kIC ?aF0 ?lF0 ?cF0 ?kF0 ?aF1 ?lF1 ?cF1 ?kF1 ?aF2 ?lF2 ?cF2 ?kF2 ?aF3 ?lF3 ?cF3 ?kF3 ?aF4 ?lF4 ?cF4 ?kF4 ?aF5 ?lF5 ?cF5 ?kF5 ?aF6 ?lF6 ?cF6 ?kF6 ?aF7 ?lF7 ?cF7 ?kF7 ?aIR ?lIR ?cIR ?kIR ?aAT ?lAT ?cAT ?kAT ?aIO ?lIO ?cIO ?kIO ?aRO ?lRO ?cRO ?kRO ?aFO ?lFO ?cFO ?kFO ?aOr ?lOr ?cOr ?kOr ?aLG ?lLG ?cLG ?kLG ?aRF ?lRF ?cRF ?kRF ?aRR ?lRR ?cRR ?kRR ?aBN ?lBN ?cBN ?kBN ?aRoO ?lRoO ?cRoO ?kRoO ?aSD ?lSD ?cSD ?kSD ?aST ?lST ?cST ?kST ?aWR ?lWR ?cWR ?kWR ?aRN ?lRN ?cRN ?kRN ?aP ?lP ?cP ?kP ?aT ?lT ?cT ?kT ?aN ?lN ?cN ?kN ?aSo ?lSo ?cSo ?kSo ?aD ?lD ?cD ?kD ?aNu ?lNu ?cNu ?kNu ?aLO ?lLO ?cLO ?kLO ?aSm ?lSm ?cSm ?kSm ?aRo ?lRo ?cRo ?kRo ?aR ?lR ?cR ?kR ?aU ?lU ?cU ?kU ?aLi ?lLi ?cLi ?kLi ?aK ?lK ?cK ?kK ?aLS ?lLS ?cLS ?kLS ?aSR ?lSR ?cSR ?kSR ?aPo ?lPo ?cPo ?kPo ?aL ?lL ?cL ?kL ?z_isinstance ?z_str ?z_len ?z_all ?z_int ?z_bool ?z_tuple ?z_set ?z_list ?z_sorted ?z_abs ?z_range ?z_min ?z_repr ?q_MOST_FIELDS ?q_MOST_FIELD_ACRES ?q_LONGEST ?q_LAST_DAY ?q_FEWEST_LANDS ?q_MOST_LANDS ?q_MOST_PART_ACRES ?q_MOST_INCHES ?q_MOST_PENCE ?q_MOST_SPADES ?q_ROW_DEPTH ?q_LAYING_DEPTH ?q_MOST_ROWS ?q_MOST_FORMS ?q_FORMS ?lFm ?hzF ?q_RANKS ?lRk
  case aIN|lIN|cIN|kIN|aNB|lNB|cNB|kNB|aIW|lIW|cIW|kIW|aRI|lRI|cRI|kRI|aFD|lFD|cFD|kFD|aLY|lLY|cLY|kLY|aPT|lPT|cPT|kPT|aAP|lAP|cAP|kAP|aAN|lAN|cAN|kAN|aRP|lRP|cRP|kRP|aRL|lRL|cRL|kRL|aIC|lIC|cIC|kIC|aF0|lF0|cF0|kF0|aF1|lF1|cF1|kF1|aF2|lF2|cF2|kF2|aF3|lF3|cF3|kF3|aF4|lF4|cF4|kF4|aF5|lF5|cF5|kF5|aF6|lF6|cF6|kF6|aF7|lF7|cF7|kF7|aIR|lIR|cIR|kIR|aAT|lAT|cAT|kAT|aIO|lIO|cIO|kIO|aRO|lRO|cRO|kRO|aFO|lFO|cFO|kFO|aOr|lOr|cOr|kOr|aLG|lLG|cLG|kLG|aRF|lRF|cRF|kRF|aRR|lRR|cRR|kRR|aBN|lBN|cBN|kBN|aRoO|lRoO|cRoO|kRoO|aSD|lSD|cSD|kSD|aST|lST|cST|kST|aWR|lWR|cWR|kWR|aRN|lRN|cRN|kRN|aP|lP|cP|kP|aT|lT|cT|kT|aN|lN|cN|kN|aSo|lSo|cSo|kSo|aD|lD|cD|kD|aNu|lNu|cNu|kNu|aLO|lLO|cLO|kLO|aSm|lSm|cSm|kSm|aRo|lRo|cRo|kRo|aR|lR|cR|kR|aU|lU|cU|kU|aLi|lLi|cLi|kLi|aK|lK|cK|kK|aLS|lLS|cLS|kLS|aSR|lSR|cSR|kSR|aPo|lPo|cPo|kPo|aL|lL|cL|kL|z_isinstance|z_str|z_len|z_all|z_int|z_bool|z_tuple|z_set|z_list|z_sorted|z_abs|z_range|z_min|z_repr|q_MOST_FIELDS|q_MOST_FIELD_ACRES|q_LONGEST|q_LAST_DAY|q_FEWEST_LANDS|q_MOST_LANDS|q_MOST_PART_ACRES|q_MOST_INCHES|q_MOST_PENCE|q_MOST_SPADES|q_ROW_DEPTH|q_LAYING_DEPTH|q_MOST_ROWS|q_MOST_FORMS|q_FORMS|lFm=>k_is
  case hzF=>first | rfl | decide
  case q_RANKS|lRk=>k_is
