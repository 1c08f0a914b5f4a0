import PyProof.Rows.All
import Wide.All
import OpenK.AllK
import Wide.FinOn
import Lean
import PyProof.EqAt
import PyProof.EqKinds
import PyProof.TupleCall
import KE.KIntText
import KE.KDictList
import PyProof.StationsW
import PyProof.ExcClass2
import OpenK.KRaise
import OpenK.KOwn
import KE.KTryMore
import PyProof.NsDelKeeps
import PyProof.Rows.Catch
import PyProof.ExcArgs
import PyProof.AttrMissHeap
import KE.KDictOf
import KE.KPairComp
import PyProof.P3In
import KE.KSortTup
import PyProof.EnumFor
import PyProof.EnumMake
import PyProof.EnumStmt
import PyProof.Rows.EnumRows
import PyProof.StrCalls
import PyProof.NeData
import PySem.Challenge.RW_dykelengths_k06_what_makes_no_roll
set_option linter.all false
set_option maxRecDepth 100000
set_option Elab.async false
set_option maxHeartbeats 16000000
noncomputable section
local macro_rules
|`(tactic|omega)=>`(tactic|lia)
local macro_rules
|`(tactic|decide)=>`(tactic|decide +kernel)
open PySem renaming wpAny_bind→Aa,Value→Ac,Shared→Ad,wpAny_pure→Ae,Addr→Ah,PyData→Aj,wpAny_ite_false→An,Program→Ay,FuncData→AH,boot_len→AI,Around→AO,World→AV,wpAny_holding→A1,wpAny_mono→A9,Heap→Ba,Expr→Bf,strKind→Bl,codeAny_builtin→BB,wpAny_newObj_type→BI,wpAny_ite_true→BJ,wpAny_isInstance→BS,wpAny_typeOf→B0,Stmt→B3,wpAny_call_entry→Ck,mem_of_lookup→Cm,wpAny_of_eq→Cr,wpAny_call→Cy,sizeLine_eq→Cz,codeAny_mono→CB,wpAny_setField→CF,wpAny_truthy_bool→CH,wpAny_callSpecial?_slot→CI,wpAny_Call_Name_kw→CO,SetTable→C9,wpAny_passesOwn→Dg,wpAny_execs_nil→Dh,wpAny_standAt→Dj,plainId_quiet→Dk,sysModules→Dq,wpAny_setState_of→Dr,Scope→Ds,wpAny_runValue→DB,codeAny_call_builtin→DC,wpAny_askSetting→DD,wpAny_setEntries_of→DH,wpAny_attempt→DK,wpAny_specialOf→DO,wpAny_getItem_str_slice→DU,wpAny_field→DV,NameKind→D6,Model→Ed,wpAny_execs_cons→Ee,Keyword→EC,wpAny_rule→EF,wpAny_pyIter_list→EO,fits_of_scanBound→ES,wpAny_newList→EU,GenState→E2,IsPart→E7,wpAny_updateSeq→Fc,post_val_or_str→Fd,codeAny_of_tree→Fe,weight_type_call_type→Fj,wpAny_fieldsOf→Fu,sizeLine_eq→Fv,Ctx→FE,sizeLine→F2,ExcBaseFacts→Ga,BindsTo→Gb,noFill_tuple_add→Gh,check_set_init_1→Gi,Paired→Gj,wpAny_newTuple→Gq,wpAny_load→Gr,typeIs_str→Gs,strKind_is→Gu,isSubtype_type→Gv,seq_tuple_add→GG,call→GU,concat_meets→Hg,Result→Hh,Fin→Hi,wpAny_load'→Hm,seqIndex_of→Hn,Drawn→Hu,CmpOp→Hv
open List renaming length_map→Ab,getElem?_eq_getElem→Af,length_append→Ak,mem_cons→Al,length_take→Am,size_toArray→Ao,getD_eq_getElem?_getD→Av,mem_of_getElem?→Ax,mem_append→Az,not_mem_nil→AA,getElem?_map→AC,mem_cons_self→AF,mem_cons_of_mem→AK,range→AL,length_cons→AM,getElem?_eq_some_iff→AR,map_append→AS,getElem?_eq_none→AY,length_drop→AZ,mem_append_right→A2,map_cons→A3,mem_filterMap→A4,mem_singleton→A6,mem_map→Bb,all_eq_true→Bg,take_add_one→Bn,mem_range→Bt,mem_of_mem_take→Bv,length_nil→By,take_of_length_le→BE,length_range→BF,lookup_cons→BN,getElem_mem→BO,getElem?_append_right→BP,pairwise_map→BR,getElem?_append_left→BV,take_length→B8,map_map→Cn,append_nil→Cp,getElem?_of_mem→Cw,ext_getElem?→CC,nodup_cons→CP,forIn_cons→CQ,all_cons→CW,getElem?_range→C3,lt_irrefl→C4,getElem_map→C5,eq_nil_of_length_eq_zero→C7,pairwise_cons→C8,nodup_append→Dd,append_assoc→De,not_lt→Dm,mem_of_mem_drop→Dn,length_eraseIdx_of_lt→Do,map_nil→Dt,find?_cons→DE,drop_eq_nil_of_le→DP,getElem_inj→DY,any_eq_true→DZ,mem_iff_getElem→D8,mem_append_left→D9,map_congr_left→Eg,filterMap_cons→Eh,idxOf_lt_length_of_mem→Ej,all_map→Ek,take→Eo,getElem?_take→Et,drop_zero→Eu,pairwise_iff_getElem→Ey,mem_or_eq_of_mem_set→Ez,length→EB,any_cons→EE,le_antisymm→EL,getElem?_set_self→ET,length_singleton→EZ,getElem?_set_ne→E3,lt_trans→Fp,getElem_idxOf→Fs,take_sublist→Fx,ext_getElem→FJ,countP_cons→FK,range'→FQ,range_succ→FX,of_mem_zip→FY,nil_append→FZ,mem_filter→F0,take_zero→Gd,perm_cons→Ge,nodup_nil→Gf,forIn_nil→Gg,sum_cons→Gn,map→GC
open PySem.W renaming Frag→Ag,keepIn→Au,nsIn→AD,mg_of→AQ,mg_none_of→Bm,kitOne→Bs,fnOf→BU,codeIn→B4,kia_tup→Cd,kia_one→Ce,kas_sort→CK,kitAny→CZ,findIn→C2,callWith_K→Ef,kitx_list→Er,kitx_dict→Es,hideAll_get→ER,exmOne→EW,specialIn→Fl,methodObj→Fn,instObj→FA,OpenLaw→FC,lookIn→FO,kas_item→F1,mroIn→F3,excIn→F4,kas_tail3→GX,kas_count→GY,looks_findIn→G9,kas_rev→Hc,kas_descPart→He,looks_mroIn→Ho,kas_item_eq→Hr,KasT→Ht
open PySem.Heap renaming get?_push_of_some→Ai,get?_push_size→Aq,lt_size→Ar,get?_update_self→Bh,get?_update_other→Bq,get?_update_ne→BM,size_push→B5,SameBut→DQ,SetOf→Ft,FlyingW→Fy
open Nat renaming le_refl→Ap,ne_of_lt→AG,lt_of_lt_of_le→A5,le_trans→Bc,lt_succ_of_lt→Bj,zero_le→Bo,lt_irrefl→Bx,lt_succ_self→B9,ne_of_gt→CJ,le_succ→CU,le_of_lt→Dv,lt_trans→DS,lt_or_ge→FF,le_of_eq→FH,sub_zero→Gx,mod_lt→Hk
open Sum renaming inr→Aw,inl→Fh
open PySem.Value renaming ref→AB,type→AJ,str→Bw,none→BH,int→Ci,isStrOf_shape→E6,isStrOf→Ff,builtin→Fg,bool→Fk,float→Gw
open Or renaming inl→AE,inr→Ei
open Bool renaming false_ne_true→AN,and_eq_true→AX,true_and→A7,eq_iff_iff→Cq,false_eq_true→Ct,false_and→C6,and_false→E4
open PySem.PyData renaming keyHash→AU,str→AW,hasDictAll→Be,canLayAll0→Bi,depthAll→Bk,depth→B2,canLay0→Cc,eqv→CA,shown→Dl,eqvAll→DA,tuple→DI,strOk→Ec,showable→EM,hasDict→EY,int→Gz
open PySem.SetTable renaming fresh→A8,grown→Dc,below→DG
open PySem.Str renaming ofString→Bd,length_append→Co
open PySem.Obj renaming mapSeq→Bp,data_mapFields→BW,isFreed_of_fields→CN,mapFields→EI,putSet→Hj
open PySem.NameKind renaming free→Br,cell→DT
open Array renaming getD_eq_getD_getElem?→Bu,length_toList→BL,getElem?_eq_getElem→Ca,mapM_eq_mapM_toList→Du,toList_inj→DX,perm_iff_toList_perm→Ep,toList_map→FI
open False renaming elim→Bz
open PySem.F renaming plainAttrs_list→BA,excBase_ValueError→BK,called_set→BQ,type_list_append→BX,slot_list_append→BY,plain_list_iadd→Dp,args_tuple_add_2→Ex,entry_tuple_add→EA,slot_tuple_add→EH,plain_proto_collect→E8,entry_proto_collect→E9,entry_type_call→FS,entry_list_iadd→FU,typeCall_set_1→F8,entry_set_init→F9
open PySem.Around renaming under_plainId→BC,under_plain→Fi
open PyProof.Rows.F renaming plain_set_update_loop→BD,entry_set_update_loop→Cs
open Int renaming toNat_natCast→BG,toNat→CD,emod_lt_of_pos→CM,emod_nonneg→CS,le_refl→Eb,toNat_of_nonneg→Em,mul_nonneg→Gk,lt_trans→Gy
open PySem.Data renaming set→BZ,seq→CT,fields→FV
open PyProof.Rows renaming slot_tuple_getitem→B1,listUpdate_at→DM,callWith_type1→DW,SortKind→D5,AllBare→ED,Keyed→EJ,IsTup→EK,listItems_at→E5,SortSt→Fw,seqEpoch_at→Gm,StrsAre→Gp,plain_sorted→G8,entry_sorted→Hf,IntsAre→Hl,kind_sorted→Hq
open PySem.Builtin.Frozenset renaming updateFrom→B7,isAnySet→DN
open Option renaming some→Cb,map_eq_some_iff→CG
open PySem.Builtin.List renaming listExtendWith→Cf,listItems→CY,listUpdate→En
open True renaming intro→Cg
open PySem.Heap.SameBut renaming update→Cj
open PySem.Sem renaming wp→Cu
open PySem.PassesOwn renaming never→Cv
open ForInStep renaming yield→CL
open Ne renaming symm→CV
open PySem.Builtin.Slice renaming slicePlaces→Da,sliceAdjust→D7
open PySem.Builtin.Tuple renaming tupleExact→Df
open PySem.Calls renaming evalArgs_plain→Di,callWith_builtin→EN,spliced_cons→Fq
open List.Pairwise renaming imp→Dw,nil→Ea
open PySem.Shared renaming TypeIs→Dy
open List.Perm renaming refl→DF
open List.Nodup renaming length_le_of_subset→DJ
open PySem.Txt renaming slice→D0,slice_le→EV
open PySem.Code renaming quiet_builtin→Ew
open PySem.StrLaws renaming join_length_le→EG
open PySem.SeqAt.EqAt renaming str_str→EX
open Decidable renaming em→Fb
open PySem.Walks renaming toS→Fz,list→GJ
open PyProof.Rows.SortSt renaming mk'→FW
open PySem.Moved renaming mono→F7
open PySem.Paired renaming length→Gc
open PySem.Flow renaming ret→GE
open PySem.SeqAt renaming EqAt→GK
open PySem.Reads renaming dict→GQ
open PUnit renaming unit→GV
open Except renaming ok→GZ
open PySem.W.Looks renaming ld→Hs
open Prod renaming ext→Hw
theorem Ia{c:Prop}{h:Decidable c}(n:¬c){α:Sort u}{t e:α}:ite c t e=e:=if_neg n
theorem Ib{c:Prop}{h:Decidable c}(n:c){α:Sort u}{t e:α}:ite c t e=t:=if_pos n
theorem Ic{p:Prop}[s:Decidable p](h:p):decide p=true:=decide_eq_true h
theorem Ie{p:Prop}[s:Decidable p](h:decide p=true):p:=of_decide_eq_true h
theorem Ig{α:Sort u}{β:Sort v}{γ:Sort w}{f:α→β→γ}:∀a b,f a b=f a b:=fun _ _=>rfl
abbrev Ih:=List (PySem.Addr×PySem.Obj)
namespace L2
open PySem PySem.Spec PyProof.Rows
inductive Ex3{α β γ:Type}(p:α→β→γ→Prop):Prop
 | mk (a:α) (b:β) (c:γ) (h:p a b c):Ex3 p
inductive Aw3(a b c:Prop):Prop
 | mk (h:a) (i:b) (j:c):Aw3 a b c
inductive Aw6(a b c d e f:Prop):Prop
 | mk (h:a) (i:b) (j:c) (k:d) (l:e) (m:f):Aw6 a b c d e f
theorem gS{α:Type}{us:List α}(h:us.length=1):∃ a0,us=[a0]:=by
 cases us with
 | nil=>simp at h
 | cons a0 z=>
  cases z with
  | nil=>exact⟨a0,rfl⟩
  | cons _ _=>simp at h
theorem rE{α:Type}{us:List α}(h:us.length=2):∃ a0 a1,us=[a0,a1]:=by
 cases us with
 | nil=>simp at h
 | cons a0 z=>
  cases z with
  | nil=>simp at h
  | cons a1 F=>
   cases F with
   | nil=>exact⟨a0,a1,rfl⟩
   | cons _ _=>simp at h
theorem aC3{α:Type}{us:List α}(h:us.length=3):∃ a0 a1 a2,us=[a0,a1,a2]:=by
 cases us with
 | nil=>simp at h
 | cons a0 z=>
  cases z with
  | nil=>simp at h
  | cons a1 F=>
   cases F with
   | nil=>simp at h
   | cons a2 J=>
    cases J with
    | nil=>exact⟨a0,a1,a2,rfl⟩
    | cons _ _=>simp at h
theorem aI7{α:Type}{us:List α}(h:us.length=4):∃ a0 a1 a2 a3,us=[a0,a1,a2,a3]:=by
 cases us with
 | nil=>simp at h
 | cons a0 F=>
  cases F with
  | nil=>simp at h
  | cons a1 J=>
   cases J with
   | nil=>simp at h
   | cons a2 O=>
    cases O with
    | nil=>simp at h
    | cons a3 z=>
     cases z with
     | nil=>exact⟨a0,a1,a2,a3,rfl⟩
     | cons _ _=>simp at h
theorem aJ5{α:Type}{us:List α}(h:us.length=5):∃ a0 a1 a2 a3 a4,us=[a0,a1,a2,a3,a4]:=by
 cases us with
 | nil=>simp at h
 | cons a0 J=>
  cases J with
  | nil=>simp at h
  | cons a1 O=>
   cases O with
   | nil=>simp at h
   | cons a2 U=>
    cases U with
    | nil=>simp at h
    | cons a3 z=>
     cases z with
     | nil=>simp at h
     | cons a4 F=>
      cases F with
      | nil=>exact⟨a0,a1,a2,a3,a4,rfl⟩
      | cons _ _=>simp at h
abbrev Key:=Sum Int Str
def rF:Key→Ac→Bool
 | .inl k,v=>Value.isInt k v
 | .inr x,v=>Ff x v
def aHY(w:AV):Key→Int
 | .inl k=>hashInt k
 | .inr x=>hashStr w x
theorem d8:∀{k:Key}{v:Ac},rF k v=true→(∃ i t,k=Fh i∧v=Ci i t)∨(∃ x t,k=Aw x∧v=Bw x t)
 | .inl i,v,h=>by
  obtain⟨t,e⟩:=Value.isInt_shape (k:=i) (v:=v) h;exact .inl ⟨i,t,rfl,e⟩
 | .inr x,v,h=>by
  obtain⟨t,e⟩:=E6 (x:=x) (v:=v) h;exact .inr ⟨x,t,rfl,e⟩
theorem aC4(i:Int)(t:Tok):rF (.inl i) (.int i t)=true:=by simp[rF,Value.isInt]
theorem aC5(x:Str)(t:Tok):rF (.inr x) (.str x t)=true:=by simp[rF,Ff]
theorem aHZ(a b:Int):decide ((Fh a:Key)=Fh b)=(a == b):=by
 by_cases e:a=b
 ·subst e;simp
 ·have h:¬ (Fh a:Key)=Fh b:=fun q=>e (Fh.inj q);rw[decide_eq_false h];exact(beq_eq_false_iff_ne.mpr e).symm
theorem aH0(a b:Str):decide ((Aw a:Key)=Aw b)=decide (a=b):=by
 by_cases e:a=b
 ·subst e;simp
 ·have h:¬ (Aw a:Key)=Aw b:=fun q=>e (Aw.inj q);rw[decide_eq_false h,decide_eq_false e]
theorem aH1(a:Int)(b:Str):decide ((Fh a:Key)=Aw b)=false:=decide_eq_false (fun q=>nomatch q)
theorem aH2(a:Str)(b:Int):decide ((Aw a:Key)=Fh b)=false:=decide_eq_false (fun q=>nomatch q)
def c9(prog:Ay)(w:AV):PySem.KeyKind prog w Key where
 is:=rF
 hash:=aHY w
 inj:=fun v a b ha hb=>by
  rcases d8 ha with⟨i,t,rfl,rfl⟩ | ⟨x,t,rfl,rfl⟩
  ·rcases d8 hb with⟨j,u,rfl,e⟩ | ⟨y,u,rfl,e⟩
   ·injection e with e1 _;rw[e1]
   ·exact nomatch e
  ·rcases d8 hb with⟨j,u,rfl,e⟩ | ⟨y,u,rfl,e⟩
   ·exact nomatch e
   ·injection e with e1 _;rw[e1]
 byValue:=fun k v h=>by
  rcases d8 h with⟨i,t,rfl,rfl⟩ | ⟨x,t,rfl,rfl⟩ <;> rfl
 pyHash:=fun hv h=>by
  rcases d8 hv with⟨i,t,rfl,rfl⟩ | ⟨x,t,rfl,rfl⟩
  ·exact wpAny_pyHash_int h
  ·exact wpAny_pyHash_str h
 eqBool:=fun hu hv h=>by
  rcases d8 hu with⟨i,t,rfl,rfl⟩ | ⟨x,t,rfl,rfl⟩
  ·rcases d8 hv with⟨j,u,rfl,rfl⟩ | ⟨y,u,rfl,rfl⟩
   ·rw[aHZ]at h;exact wpAny_eqBool_int h
   ·rw[aH1]at h;exact SeqAt.EqAt.int_str i t y u _ _ _ _ h
  ·rcases d8 hv with⟨j,u,rfl,rfl⟩ | ⟨y,u,rfl,rfl⟩
   ·rw[aH2]at h;exact SeqAt.EqAt.str_int x t j u _ _ _ _ h
   ·rw[aH0]at h;exact wpAny_eqBool_str h
 «strs»:=fun k x t v h=>by
  rcases d8 h with⟨i,u,rfl,e⟩ | ⟨y,u,rfl,e⟩
  ·exact nomatch e
  ·injection e with e1 _;subst e1;cases v <;> rfl
theorem yR(prog:Ay)(w:AV)(i:Int)(t:Tok):(c9 prog w).is (.inl i) (.int i t)=true:=aC4 i t
theorem yS(prog:Ay)(w:AV)(x:Str)(t:Tok):(c9 prog w).is (.inr x) (.str x t)=true:=aC5 x t
inductive V where
 | non | bl (b:Bool) | int (i:Int) | str (x:Str) | byt (b:Array UInt8) | flt (b:UInt64) | ref (a:Ah) | ty (n:String)
 deriving DecidableEq
def c5:V→Ac→Prop
 | .non,u=>u=BH
 | .bl b,u=>u=Fk b
 | .int i,u=>∃ t,u=Ci i t
 | .str x,u=>∃ t,u=Bw x t
 | .byt b,u=>∃ t,u=Value.bytes b t
 | .flt b,u=>∃ t,u=Gw b t
 | .ref a,u=>u=AB a
 | .ty n,u=>u=AJ n
abbrev cG:List V→List Ac→Prop:=Gj c5
theorem cG.length{xs:List V}{us:List Ac}(r:cG xs us):xs.length=us.length:=Gc r
theorem cG.get:∀{xs:List V}{us:List Ac}{i:Nat}{x:V},cG xs us→xs[i]?=some x→∃ u,us[i]?=some u∧c5 x u
 | _,_,_,_,.nil,e=>by simp at e
 | _,_,0,_,.cons r _,e=>by simp at e;subst e;exact⟨_,rfl,r⟩
 | _,_,i + 1,x,.cons _ t,e=>by
  obtain⟨u,h1,h2⟩:=cG.get (i:=i) (x:=x) t (by simpa using e);exact⟨u,by simpa using h1,h2⟩
theorem cG.set{x:V}{u:Ac}(r:c5 x u):∀{xs:List V}{us:List Ac} (i:Nat),cG xs us→cG (xs.set i x) (us.set i u)
 | _,_,_,.nil=>.nil
 | _,_,0,.cons _ t=>.cons r t
 | _,_,i + 1,.cons q t=>.cons q (cG.set r i t)
theorem cG.append:∀{xs ys:List V}{us z:List Ac},cG xs us→cG ys z→cG (xs ++ ys) (us ++ z)
 | _,_,_,_,.nil,s=>s
 | _,_,_,_,.cons r t,s=>.cons r (cG.append t s)
theorem cG.take:∀{xs:List V}{us:List Ac} (n:Nat),cG xs us→cG (xs.take n) (us.take n)
 | _,_,0,_=>.nil
 | _,_,_ + 1,.nil=>.nil
 | _,_,n + 1,.cons r t=>.cons r (cG.take n t)
theorem cG.drop:∀{xs:List V}{us:List Ac} (n:Nat),cG xs us→cG (xs.drop n) (us.drop n)
 | _,_,0,r=>r
 | _,_,_ + 1,.nil=>.nil
 | _,_,n + 1,.cons _ t=>cG.drop n t
def nX:Option V→Option Ac→Prop
 | some v,some u=>c5 v u
 | none,none=>True
 | _,_=>False
def KV{κ:Type}:List (κ×V)→List (κ×Ac)→Prop:=Gj fun(p:κ×V) (q:κ×Ac)=>p.1=q.1∧c5 p.2 q.2
def kV:Key→V
 | .inl i=>.int i
 | .inr x=>.str x
inductive HO where
  | lst (xs:List V)
  | tup (xs:List V)
  | dK (fg:List (Key×V)) | dT (fg:List (List Key×V))
  | set (S:Int→Bool) (n:Nat)
  | ins (C dx:Ah) (fs:List (Str×V))
  | own (x:Ah)
  | xd (fs:List (Str×V))
  | met (f x:Ah)
  | rng (lo hi:Int)
  | frz (o:Obj) (u:HO)
  | tbl (ps:Array Ac)
  | ext (φ:Ba→Prop)
abbrev Hp:=Ah→Option HO
def upd(H:Hp)(a:Ah)(o:HO):Hp:=fun b=>if b=a then some o else H b
theorem aH{H:Hp}{a:Ah}{o:HO}:upd H a o a=some o:=by unfold upd;rw[Ib rfl]
theorem aS{H:Hp}{a b:Ah}{o:HO}(h:b≠a):upd H a o b=H b:=by unfold upd;rw[Ia h]
theorem aGk{H:Hp}{a:Ah}{o u:HO}:upd (upd H a o) a u=upd H a u:=by
 funext b;unfold upd;split <;> rfl
theorem aD6{H:Hp}{a b:Ah}{o u:HO}(h:H a=some o)(h':H b=some u)(d:o≠u):a≠b:=by
 intro e;subst e;rw[h]at h';exact d (Cb.inj h')
theorem bE{H:Hp}{a b:Ah}{o:HO}(h:H a=some o)(h':H b=none):a≠b:=by
 intro e;subst e;rw[h]at h';cases h'
section
variable(P:Ay)(w:AV)
def lG(h:Ba)(a:Ah)(items:Array Ac):Prop:=∃ o,h.get? a=some o∧(o.cls=.type "tuple"∧∃ n,o.data=.seq items n)∧o.dict=none
theorem lG.tup{h:Ba}{a:Ah}{z:Array Ac}(x:lG h a z):EK h a z:=by
 obtain⟨o,e,c,_⟩:=x;exact⟨o,e,c⟩
instance lG.coe{h:Ba}{a:Ah}{items:Array Ac}:Coe (lG h a items) (EK h a items):=⟨lG.tup⟩
theorem lG.lt{h:Ba}{a:Ah}{z:Array Ac}(x:lG h a z):a < h.objs.size:=x.tup.lt
def cP(H:Hp)(h:Ba)(a:Ah):HO→Prop
 | .lst xs=>xs.length≤sizeLine∧∃(its:List Ac) (n:Nat),cG xs its∧h.get? a=some { cls:=.type "list",data:=.seq its.toArray n }
 | .tup xs=>xs.length≤sizeLine∧∃ its:List Ac,cG xs its∧lG h a its.toArray
 | .dK fg=>fg.length≤sizeLine∧(a == sysModules)=false∧∃ vs,KV fg vs∧h.DictOf (c9 P w) a vs
 | .dT fg=>fg.length≤sizeLine∧(a == sysModules)=false∧∃ xs:List (List Key×Ah×Ac),
   Gj (fun(p:List Key×V) (q:List Key×Ah×Ac)=>p.1=q.1∧H q.2.1=some (.tup (p.1.map kV))∧c5 p.2 q.2.2) fg xs∧
   ∃ o es ep,h.get? a=some o∧o.ExactDict∧o.data=.dict es ep∧es.toList=xs.map (entryOfKey (tupleKind (c9 P w)))∧(xs.map (·.1)).Nodup
 | .set S n=>h.SetOf (intKind P w) a S n
 | .ins C dx fs=>H dx=some (.own a)∧fs.length≤1000∧dx≠a∧h.get? a=some (FA C dx)∧
   ∃ mA,h.Ns1 dx mA∧(∀ f,nX (fs.lookup f) (mA f))∧PySem.Within mA (fs.map (·.1))
 | .own _=>∃ o,h.get? a=some o
 | .xd fs=>∃ mA,h.Ns1 a mA∧∀ f,nX (fs.lookup f) (mA f)
 | .rng lo hi=>∃ t u v,h.get? a=some { cls:=.type "range",data:=.fields #[.int lo t,.int hi u,.int 1 v] }
 | .frz o u=>h.get? a=some o∧cP H h a u
 | .tbl ps=>h.get? a=some { cls:=.none,data:=.fields ps }
 | .met f x=>h.get? a=some (Fn (.ref f) (.ref x))
 | .ext φ=>φ h∧(∃ o,h.get? a=some o)∧∀ h1 h2:Ba,φ h1→(∀ o,h1.get? a=some o→h2.get? a=some o)→φ h2
def HOk(H:Hp)(h:Ba):Prop:=∀ a o,H a=some o→cP P w H h a o
end
section
variable{P:Ay}{w:AV}{H H':Hp}{h h':Ba}{a:Ah}{o:HO}
theorem cP.lt(x:cP P w H h a o):a < h.objs.size:=by
 cases o with
 | lst xs=>obtain⟨_,_,_,_,e⟩:=x;exact Ar e
 | tup xs=>obtain⟨_,_,_,p⟩:=x;exact p.lt
 | dK fg=>obtain⟨_,_,_,_,o,_,_,e,_⟩:=x;exact Ar e
 | dT fg=>obtain⟨_,_,_,_,o,_,_,e,_⟩:=x;exact Ar e
 | set S n=>obtain⟨o,_,_,_,e,_⟩:=x;exact Ar e
 | ins C dx fs=>obtain⟨_,_,_,e,_⟩:=x;exact Ar e
 | own y=>obtain⟨_,e⟩:=x;exact Ar e
 | xd fs=>obtain⟨_,⟨_,_,_,e,_⟩,_⟩:=x;exact Ar e
 | rng lo hi=>obtain⟨_,_,_,e⟩:=x;exact Ar e
 | frz ob u=>obtain⟨e,_⟩:=x;exact Ar e
 | tbl ps=>exact Ar (show h.get? a=some _ from x)
 | met f y=>exact Ar (show h.get? a=some _ from x)
 | ext φ=>obtain⟨_,⟨_,e⟩,_⟩:=x;exact Ar e
theorem Paired.mapP{α β:Type}{F G:α→β→Prop}:∀{J:List α}{z:List β},Gj F J z→(∀ a b,F a b→G a b)→Gj G J z
 | _,_,.nil,_=>.nil
 | _,_,.cons r t,f=>.cons (f _ _ r) (Paired.mapP t f)
theorem cP.stay(x:cP P w H h a o)(k:∀ b u,(b=a∨H b=some (.own a))→h.get? b=some u→h'.get? b=some u)
  (F:∀ b,H b=some (.own a)→H' b=some (.own a)) (ht:∀ b xs,H b=some (.tup xs)→H' b=some (.tup xs)):cP P w H' h' a o:=by
 induction o with
 | lst xs=>obtain⟨z,its,n,r,e⟩:=x;exact⟨z,its,n,r,k _ _ (.inl rfl) e⟩
 | tup xs=>obtain⟨z,its,r,ob,e,c⟩:=x;exact⟨z,its,r,ob,k _ _ (.inl rfl) e,c⟩
 | dK fg=>obtain⟨z,y,vs,r,ob,es,ep,e,c⟩:=x;exact⟨z,y,vs,r,ob,es,ep,k _ _ (.inl rfl) e,c⟩
 | dT fg=>
  obtain⟨z,y,xs,r,ob,es,ep,e,c⟩:=x;exact⟨z,y,xs,Paired.mapP r fun p q z=>⟨z.1,ht _ _ z.2.1,z.2.2⟩,ob,es,ep,k _ _ (.inl rfl) e,c⟩
 | set S n=>obtain⟨ob,es,ep,t,e,c⟩:=x;exact⟨ob,es,ep,t,k _ _ (.inl rfl) e,c⟩
 | ins C dx fs=>
  obtain⟨d,z,ne,e,mA,⟨od,es,ep,e2,c⟩,r⟩:=x;exact⟨F _ d,z,ne,k _ _ (.inl rfl) e,mA,⟨od,es,ep,k _ _ (.inr d) e2,c⟩,r⟩
 | own y=>obtain⟨ob,e⟩:=x;exact⟨ob,k _ _ (.inl rfl) e⟩
 | xd fs=>obtain⟨mA,⟨od,es,ep,e,c⟩,r⟩:=x;exact⟨mA,⟨od,es,ep,k _ _ (.inl rfl) e,c⟩,r⟩
 | rng lo hi=>obtain⟨t,u,v,e⟩:=x;exact⟨t,u,v,k _ _ (.inl rfl) e⟩
 | frz ob u J=>obtain⟨e,q⟩:=x;exact⟨k _ _ (.inl rfl) e,J q⟩
 | tbl ps=>
  have e:h.get? a=some { cls:=.none,data:=.fields ps }:=x;show h'.get? a=some { cls:=.none,data:=.fields ps };exact k a _ (.inl rfl) e
 | met f y=>
  have e:h.get? a=some (Fn (.ref f) (.ref y)):=x;show h'.get? a=some (Fn (.ref f) (.ref y));exact k a _ (.inl rfl) e
 | ext φ=>obtain⟨p,⟨o,e⟩,st⟩:=x;exact⟨st _ _ p fun o q=>k _ _ (.inl rfl) q,⟨o,k _ _ (.inl rfl) e⟩,st⟩
theorem HOk.lt(x:HOk P w H h)(e:H a=some o):a < h.objs.size:=(x a o e).lt
theorem HOk.fresh(x:HOk P w H h)(e:h.objs.size≤a):H a=none:=by
 cases q:H a with
 | none=>rfl
 | some u=>exact absurd (A5 (x.lt q) e) (Bx _)
theorem HOk.kept(x:HOk P w H h)(k:∀ b u,h.get? b=some u→h'.get? b=some u):HOk P w H h':=fun a o e=>
 (x a o e).stay (fun b u _ q=>k b u q) (fun _ q=>q) fun _ _ q=>q
theorem HOk.laid(x:HOk P w H h)(k:∀ b u,h.get? b=some u→h'.get? b=some u)(F:h.objs.size≤a)(new:cP P w (upd H a o) h' a o):HOk P w (upd H a o) h':=fun b u e=>by
 have hn:=x.fresh F;by_cases z:b=a
 ·subst z;rw[aH]at e;cases e;exact new
 ·rw[aS z]at e;exact(x b u e).stay (fun c v _ q=>k c v q) (fun c q=>by rw[aS (bE q hn)];exact q) fun c xs q=>by rw[aS (bE q hn)];exact q
end
def Rd(H:Hp)(a:Ah)(u:HO):Prop:=H a=some u∨∃ o,H a=some (.frz o u)
theorem Rd.ok{P:Ay}{w:AV}{H:Hp}{h:Ba}{a:Ah}{u:HO}(r:Rd H a u)(x:HOk P w H h):cP P w H h a u:=by
 rcases r with r | ⟨o,r⟩
 ·exact x a u r
 ·obtain⟨_,q⟩:=x a _ r;exact q
def Mut:Option HO→Prop
 | some (.lst _)=>True
 | some (.dK _)=>True
 | some (.dT _)=>True
 | some (.set _ _)=>True
 | some (.ins _ _ _)=>True
 | some (.ext _)=>True
 | _=>False
section
variable{P:Ay}{w:AV}{H:Hp}{h h':Ba}{x e:Ah}{o':HO}
theorem HOk.write(ok:HOk P w H h)(U:Mut (H x))(Z:e=x∨H e=some (.own x))(k:∀ b u,b≠e→h.get? b=some u→h'.get? b=some u)(Y:∃ u,h'.get? e=some u)
  (new:cP P w (upd H x o') h' x o'):HOk P w (upd H x o') h':=fun b u q=>by
 have J:∀ c y,H c=some (.own y)→c≠x:=fun c y r z=>by subst z;rw[r]at U;exact U
 have O:∀ c xs,H c=some (.tup xs)→c≠x:=fun c xs r z=>by subst z;rw[r]at U;exact U
 by_cases W:b=x
 ·subst W;rw[aH]at q;cases q;exact new
 ·rw[aS W]at q;by_cases F:b=e
  ·have q':H b=some (.own x):=by
    rcases Z with z | z
    ·exact absurd (F.trans z) W
    ·rw[F];exact z
   rw[q]at q';cases q';obtain⟨v,hv⟩:=Y;exact⟨v,by rw[F];exact hv⟩
  ·refine(ok b u q).stay (fun c v hc r=>k c v ?_ r) (fun c r=>by rw[aS (J c b r)];exact r) fun c xs r=>by rw[aS (O c xs r)];exact r
   rcases hc with rfl | hc
   ·exact F
   ·rintro rfl;rcases Z with z | z
    ·exact J c b hc z
    ·rw[hc]at z;cases z;exact W rfl
end
structure Un(fs ex:List Ah)(H H':Hp)(h h':Ba):Prop where
 keep:∀ b o,h.get? b=some o→H b=none→b ∉ fs→b ∉ ex→h'.get? b=some o
 slot:∀ b o,h.get? b=some o→H b=none→b∈fs→b ∉ ex→∃ sl,h'.get? b=some { o with slots:=sl }
 free:∀ b o,h.get? b=some o→H b=none→b ∉ ex→H' b=none
 there:∀ b o,h.get? b=some o→b ∉ ex→∃ o',h'.get? b=some o'
 tups:∀ b xs,H b=some (.tup xs)→H' b=some (.tup xs)
 frzs:∀ b o u,H b=some (.frz o u)→H' b=some (.frz o u)
 tbls:∀ b ps,H b=some (.tbl ps)→∃ more,H' b=some (.tbl (ps ++ more))
section
variable{fs fs' ex ex':List Ah}{H H1 H2:Hp}{h h1 h2 h':Ba}{a x e:Ah}{o:HO}
theorem Un.any(u:Un fs ex H H1 h h1){b:Ah}{ob:Obj}(q:h.get? b=some ob)(n:H b=none)(z:b ∉ ex):∃ J,h1.get? b=some { ob with slots:=J }:=by
 by_cases F:b∈fs
 ·exact u.slot b ob q n F z
 ·exact⟨ob.slots,u.keep b ob q n F z⟩
theorem Un.kept(k:∀ b u,h.get? b=some u→h'.get? b=some u):Un fs ex H H h h':=
 ⟨fun b ob q _ _ _=>k b ob q,fun b ob q _ _ _=>⟨ob.slots,k b ob q⟩,fun _ _ _ n _=>n,fun b ob q _=>⟨ob,k b ob q⟩,fun _ _ q=>q,fun _ _ _ q=>q,fun _ ps q=>⟨#[],by rw[q];simp⟩⟩
theorem Un.refl:Un fs ex H H h h:=Un.kept fun _ _ q=>q
theorem Un.laid(k:∀ b u,h.get? b=some u→h'.get? b=some u)(z:h.objs.size≤a)(hn:H a=none):Un fs ex H (upd H a o) h h' where
 keep:=fun b u q _ _ _=>k b u q
 slot:=fun b u q _ _ _=>⟨u.slots,k b u q⟩
 free:=fun b u q n _=>by rw[aS (AG (A5 (Ar q) z))];exact n
 there:=fun b u q _=>⟨u,k b u q⟩
 tups:=fun b xs q=>by rw[aS (bE q hn)];exact q
 frzs:=fun b u xs q=>by rw[aS (bE q hn)];exact q
 tbls:=fun b ps q=>⟨#[],by rw[aS (bE q hn),q];simp⟩
theorem Un.write(J:Mut (H x))(Y:e=x∨H e=some (.own x))(k:∀ b u,b≠e→h.get? b=some u→h'.get? b=some u)(O:∃ u,h'.get? e=some u):Un fs ex H (upd H x o) h h':=by
 have U:∀ b,H b=none→b≠x:=fun b n z=>by subst z;rw[n]at J;exact J
 have W:∀ b,H b=none→b≠e:=fun b n z=>by
  subst z;rcases Y with r | r
  ·exact U b n r
  ·rw[n]at r;cases r
 have hm:∀ b u,H b=some u→¬ Mut (some u)→b≠x:=fun b u q nm z=>by subst z;rw[q]at J;exact nm J
 refine⟨fun b u q n _ _=>k b u (W b n) q,fun b u q n _ _=>⟨u.slots,k b u (W b n) q⟩,fun b u q n _=>by rw[aS (U b n)];exact n,fun b u q _=>?_,
  fun b xs q=>by rw[aS (hm b _ q fun z=>z)];exact q,fun b u xs q=>by rw[aS (hm b _ q fun z=>z)];exact q,fun b ps q=>⟨#[],by rw[aS (hm b _ q fun z=>z),q];simp⟩⟩
 by_cases F:b=e
 ·subst F;exact O
 ·exact⟨u,k b u F q⟩
end
def trk(h:Ba)(H:Hp):List Ah:=(AL h.objs.size).filter fun a=>(H a).isSome
def w6(h:Ba)(H:Hp):Ba:=PySem.W.hideAll h (trk h H)
theorem aC6(h:Ba)(H:Hp):(w6 h H).objs.size=h.objs.size:=PySem.W.hideAll_size _ _
theorem aD7{h:Ba}{H:Hp}{b:Ah}{o:Obj}(e:h.get? b=some o)(n:H b=none):(w6 h H).get? b=some o:=
 PySem.W.hideAll_get _ e fun hm=>by
  have q:(H b).isSome=true:=(F0.mp hm).2;rw[n]at q;simp at q
theorem aGl{h:Ba}{H:Hp}{b:Ah}{o:Obj}(e:(w6 h H).get? b=some o):h.get? b=some o∧H b=none:=by
 have F:h.get? b=some o:=PySem.W.of_hideAll (trk h H) e;refine⟨F,?_⟩;cases q:H b with
 | none=>rfl
 | some x=>
  have hm:b∈trk h H:=F0.mpr ⟨Bt.mpr (Ar F),by simp[q]⟩;have z:(w6 h H).get? b=none:=PySem.W.hideAll_none (trk h H) hm;rw[z]at e;cases e
def aGm(g h:Ba)(L:Ah):List (Ah×Obj):=(AL h.objs.size).filterMap fun a=>if a=L∨(g.get? a).isSome=true then none else(h.get? a).map fun o=>(a,o)
def cM(g h:Ba)(L d:Ah):List (Ah×Obj):=(aGm g h L).filter fun p=>decide (p.1≠d)
structure Mod(K:Ag)(mg:Str→Option Ac)(base:Ba):Prop where
 kin:K.In base
 glob:base.Ns mainGlobals mg
 blt:∃ mb,base.Ns builtinsNs mb∧∀ x:Str,x≠"__name__"→mb x=bootBuiltins x
 nolimit:base.NoLimit
structure Cx where
 prog:Ay
 w:AV
 K:Ag
 mg:Str→Option Ac
 base:Ba
 A:AO
 N:List Str
 s₀:Ad
 H₀:Hp
 env:Env
 outer:List Env
 stack:List Env
 ex:List Ah
 fn:Str→Bool
 calm:Bool
 pn:List (Ah×Obj)
 xe:Ac→Ad→Prop
def frs(l:List Env):List Ah:=l.filterMap (·.frame)
abbrev Cx.fs(X:Cx):List Ah:=frs X.outer
def Vis(sc:Ds)(x:Str):Prop:=sc.names.lookup x=some .local∨sc.names.lookup x=some .cell∨sc.names.lookup x=some .free
def Loc(sc:Ds)(x:Str):Prop:=sc.names.lookup x=some .local∨sc.names.lookup x=some .cell
def aJ6(env:Env)(h:Ba)(m:Str→Option Ac)(x:Str)(u:Ac):Prop:=
 (env.kindOf x=some .local∧m x=some u)∨((env.kindOf x=some .cell∨env.kindOf x=some .free)∧∃ c,env.cells.lookup x=some c∧h.IsCell c (some u))
structure Cx.Ok(X:Cx):Prop where
 mod:Mod X.K X.mg X.base
 kind:X.env.scope.kind=.function
 glob:X.env.globals=mainGlobals
 blt:X.env.builtins=builtinsNs
 above:X.s₀.heap.objs.size≤X.env.locals
 inj:∀ x y c,X.env.cells.lookup x=some c→X.env.cells.lookup y=some c→x=y
 has:∀ x,(X.env.kindOf x=some .cell∨X.env.kindOf x=some .free)→∃ c,X.env.cells.lookup x=some c
 cab:∀ x c,X.fn x=true→X.env.cells.lookup x=some c→X.s₀.heap.objs.size≤c
 hd:X.calm=true→X.A.handled=none
 frames:X.A.frames=some X.stack
 stk:X.stack=X.outer∨(X.stack=X.env :: X.outer∧X.env.frame=some X.env.locals)
 exf:∀ b∈X.ex,b≠X.env.locals∧∀ x c,X.env.cells.lookup x=some c→c≠b
 bs:∀ b o,X.base.get? b=some o→X.s₀.heap.get? b=some o∧X.H₀ b=none
 bsz:X.base.objs.size≤X.s₀.heap.objs.size
 noex:∀ b o,X.base.get? b=some o→b ∉ X.ex
 exfs:∀ b∈X.ex,b ∉ X.fs
 funs:X.s₀.heap.FunFrames X.base X.outer
 frf:∀ b∈X.fs,X.H₀ b=none
structure Inv(X:Cx)(fc:List (Ah×Obj))(σ:List (Option V))(H:Hp)(s:Ad):Prop where
 ok:X.Ok
 os:s.os=X.s₀.os
 bare:ED s.gens
 base:Un X.fs X.ex X.H₀ H X.s₀.heap s.heap
 loc:∃ m,s.heap.Ns X.env.locals m∧∀(i:Nat) (x:Str) (v:V),X.N[i]?=some x→σ[i]?=some (some v)→Vis X.env.scope x→∃ u,c5 v u∧aJ6 X.env s.heap m x u
 cell:∀ x c,X.env.cells.lookup x=some c→∃ v,s.heap.IsCell c v
 free:H X.env.locals=none
 freeC:∀ x c,X.env.cells.lookup x=some c→H c=none
 pin:∀ p∈X.pn ++ fc,s.heap.get? p.1=some p.2∧H p.1=none∧p.1≠X.env.locals∧p.1 ∉ X.fs∧∀ v,p.2.data≠.cell v
 hok:HOk X.prog X.w H s.heap
 len:σ.length=X.N.length
section
variable{X:Cx}{fc:List (Ah×Obj)}{σ:List (Option V)}{H H':Hp}{s:Ad}{h':Ba}
theorem Cx.Ok.nofr(ok:X.Ok){b:Ah}{o:Obj}(e:X.base.get? b=some o):b ∉ X.fs:=fun z=>by
 have:=(ok.funs.mem z).1;rw[e]at this;cases this
theorem Inv.bs(I:Inv X fc σ H s):∀ b o,X.base.get? b=some o→s.heap.get? b=some o∧H b=none:=fun b o e=>
 ⟨I.base.keep b o (I.ok.bs b o e).1 (I.ok.bs b o e).2 (I.ok.nofr e) (I.ok.noex b o e),I.base.free b o (I.ok.bs b o e).1 (I.ok.bs b o e).2 (I.ok.noex b o e)⟩
theorem Inv.bk(I:Inv X fc σ H s):∀ b o,X.base.get? b=some o→s.heap.get? b=some o:=fun b o e=>(I.bs b o e).1
theorem Inv.mod(I:Inv X fc σ H s):Mod X.K X.mg X.base:=I.ok.mod
theorem Inv.kIn(I:Inv X fc σ H s):X.K.In s.heap:=I.ok.mod.kin.keeps I.bk
theorem Inv.lt(I:Inv X fc σ H s):X.env.locals < s.heap.objs.size:=let ⟨_,hn,_⟩:=I.loc;hn.lt
theorem Inv.sz(I:Inv X fc σ H s):X.s₀.heap.objs.size≤s.heap.objs.size:=Bc I.ok.above (Dv I.lt)
theorem Inv.nofs(I:Inv X fc σ H s){a:Ah}(h:s.heap.objs.size≤a):a ∉ X.fs:=fun z=>by
 obtain⟨_,o,ho,_⟩:=I.ok.funs.mem z;exact absurd (A5 (Ar ho) (Bc I.sz h)) (Bx _)
theorem Inv.cne(I:Inv X fc σ H s):∀ x c,X.env.cells.lookup x=some c→c≠X.env.locals:=fun x c e z=>by
 obtain⟨v,o,ho,hd⟩:=I.cell x c e;obtain⟨m,⟨o',es,ep,ho',hd',_⟩,_⟩:=I.loc;rw[z,ho']at ho;cases ho;rw[hd']at hd;cases hd
theorem Inv.funs(I:Inv X fc σ H s):s.heap.FunFrames X.base X.outer:=by
 have all:∀(l:List Env),(∀ b∈frs l,b∈X.fs)→X.s₀.heap.FunFrames X.base l→s.heap.FunFrames X.base l:=by
  intro l
  induction l with
  | nil=>intro _ _;trivial
  | cons env r U=>
   intro O W;obtain⟨hk,⟨L,o,hf,hn,ho,hd⟩,hr⟩:=W;have F:L∈X.fs:=O L (by unfold frs;rw[Eh,hf];exact AF);obtain⟨sl,e⟩:=I.base.slot L o ho (I.ok.frf L F) F fun z=>I.ok.exfs L z F;exact⟨hk,⟨L,_,hf,hn,e,hd⟩,U (fun b J=>O b (by unfold frs;rw[Eh,hf];exact AK _ J)) hr⟩
 exact all X.outer (fun _ J=>J) I.ok.funs
theorem Inv.stack(I:Inv X fc σ H s):s.heap.FunFrames X.base X.stack:=by
 rcases I.ok.stk with e | ⟨e,z⟩
 ·rw[e];exact I.funs
 ·rw[e];obtain⟨m,hn,_⟩:=I.loc;refine .cons (by rw[I.ok.kind];decide) z hn ?_ I.funs;exact Heap.get?_none_of_le (Bc I.ok.bsz I.ok.above)
theorem Inv.stkSub(I:Inv X fc σ H s):∀ b∈frs X.stack,b∈X.env.locals :: X.fs:=fun b z=>by
 rcases I.ok.stk with e | ⟨e,F⟩
 ·rw[e]at z;exact AK _ z
 ·rw[e]at z;unfold frs at z;rw[Eh,F]at z;exact z
theorem Inv.stkFree(I:Inv X fc σ H s):∀ b∈frs X.stack,H b=none:=fun b F=>by
 rcases Al.mp (I.stkSub b F)with e | F
 ·rw[e];exact I.free
 ·obtain⟨_,o,ho,_⟩:=I.ok.funs.mem F;exact I.base.free b o ho (I.ok.frf b F) fun z=>I.ok.exfs b z F
theorem Inv.step{g':Array E2}{t':Nat}{d':Hu}{ch:List Ah}(I:Inv X fc σ H s)
  (O:∀ b∈ch,(b∈X.ex∨X.s₀.heap.objs.size≤b)∧b≠X.env.locals∧(∀ x c,X.env.cells.lookup x=some c→c≠b)∧∀ p∈X.pn ++ fc,p.1≠b)
  (keep:∀ b o,b≠X.env.locals→b ∉ X.fs→b ∉ ch→s.heap.get? b=some o→H b=none→h'.get? b=some o)
  (slot:∀ b o,b≠X.env.locals→b∈X.fs→b ∉ ch→s.heap.get? b=some o→H b=none→∃ sl,h'.get? b=some { o with slots:=sl }) (free:∀ b o,b ∉ ch→s.heap.get? b=some o→H b=none→H' b=none)
  (there:∀ b o,b ∉ ch→s.heap.get? b=some o→∃ o',h'.get? b=some o')
  (tups:∀ b xs,H b=some (.tup xs)→H' b=some (.tup xs)) (frzs:∀ b o u,H b=some (.frz o u)→H' b=some (.frz o u)) (tbls:∀ b ps,H b=some (.tbl ps)→∃ ae,H' b=some (.tbl (ps ++ ae)))
  (ns:∀ m,s.heap.Ns X.env.locals m→h'.Ns X.env.locals m) (hok:HOk X.prog X.w H' h') (hg:ED g'):
  Inv X fc σ H' { s with heap:=h',gens:=g',drawn:=d',toks:=t' }:=by
 have ad:∀ b o,X.s₀.heap.get? b=some o→b≠X.env.locals:=fun b o e=>AG (A5 (Ar e) I.ok.above);have W:∀ b o,X.s₀.heap.get? b=some o→b ∉ X.ex→b ∉ ch:=fun b o e F Z=>by
  rcases(O b Z).1 with z | z
  ·exact F z
  ·exact absurd (A5 (Ar e) z) (Bx _)
 have U:∀ x c,X.env.cells.lookup x=some c→∀ v,s.heap.IsCell c v→h'.IsCell c v:=fun x c e v ⟨o,ho,hd⟩=>by
  have J:c ∉ ch:=fun z=>(O c z).2.2.1 x c e rfl;by_cases hc:c∈X.fs
  ·obtain⟨sl,q⟩:=slot c o (I.cne x c e) hc J ho (I.freeC x c e);exact⟨_,q,hd⟩
  ·exact⟨o,keep c o (I.cne x c e) hc J ho (I.freeC x c e),hd⟩
 refine⟨I.ok,I.os,hg,⟨fun b o e n Z F=>?_,fun b o e n Z F=>?_,fun b o e n F=>?_,fun b o e F=>?_,fun b xs e=>tups b xs (I.base.tups b xs e),fun b o xs e=>frzs b o xs (I.base.frzs b o xs e),fun b ps e=>?_⟩,?_,fun x c e=>?_,?_,fun x c e=>?_,fun p hp=>?_,hok,I.len⟩
 ·exact keep b o (ad b o e) Z (W b o e F) (I.base.keep b o e n Z F) (I.base.free b o e n F)
 ·obtain⟨sl,Y⟩:=I.base.slot b o e n Z F;obtain⟨sl',e2⟩:=slot b _ (ad b o e) Z (W b o e F) Y (I.base.free b o e n F);exact⟨sl',e2⟩
 ·obtain⟨o',Y⟩:=I.base.there b o e F;exact free b o' (W b o e F) Y (I.base.free b o e n F)
 ·obtain⟨o',Y⟩:=I.base.there b o e F;exact there b o' (W b o e F) Y
 ·obtain⟨m1,Y⟩:=I.base.tbls b ps e;obtain⟨m2,e2⟩:=tbls b _ Y;exact⟨m1 ++ m2,by rw[e2,Array.append_assoc]⟩
 ·obtain⟨m,hn,hl⟩:=I.loc;refine⟨m,ns m hn,fun i x v Y e2 e3=>?_⟩;obtain⟨u,r,l⟩:=hl i x v Y e2 e3;refine⟨u,r,?_⟩;rcases l with l | ⟨k,c,e,z⟩
  ·exact .inl l
  ·exact .inr ⟨k,c,e,U x c e _ z⟩
 ·obtain⟨v,z⟩:=I.cell x c e;exact⟨v,U x c e v z⟩
 ·obtain⟨m,⟨o,_,_,ho,_⟩,_⟩:=I.loc;exact free _ o (fun z=>(O _ z).2.1 rfl) ho I.free
 ·obtain⟨v,o,ho,hd⟩:=I.cell x c e;exact free c o (fun z=>(O c z).2.2.1 x c e rfl) ho (I.freeC x c e)
 ·obtain⟨e,n,ne,nf,d⟩:=I.pin p hp;have J:p.1 ∉ ch:=fun z=>(O p.1 z).2.2.2 p hp rfl;exact⟨keep p.1 p.2 ne nf J e n,free p.1 p.2 J e n,ne,nf,d⟩
theorem Inv.un{t':Nat}(I:Inv X fc σ H s)(u:Un X.fs [] H H' s.heap h')(hok:HOk X.prog X.w H' h'):Inv X fc σ H' { s with heap:=h',toks:=t' }:=by
 obtain⟨m,⟨o,es,ep,ho,r⟩,_⟩:=id I.loc;obtain⟨sl,hL⟩:=u.any ho I.free (by simp);exact I.step (g':=s.gens) (d':=s.drawn) (ch:=[]) (fun _ z=>nomatch z) (fun b o _ F _ e n=>u.keep b o e n F (by simp)) (fun b o _ F _ e n=>u.slot b o e n F (by simp)) (fun b o _ e n=>u.free b o e n (by simp)) (fun b o _ e=>u.there b o e (by simp)) u.tups u.frzs u.tbls (fun J hm=>by
  obtain⟨o',es',ep',ho',r'⟩:=hm;rw[ho]at ho';cases ho';exact⟨_,es',ep',hL,r'⟩) hok I.bare
theorem Inv.call{g':Array E2}{t':Nat}{d':Hu}{ch:List Ah}(I:Inv X fc σ H s)(u:Un (frs X.stack) ch H H' s.heap h')(hok:HOk X.prog X.w H' h')(U:ED g')
  (F:∀ b∈ch,(b∈X.ex∨X.s₀.heap.objs.size≤b)∧b≠X.env.locals∧(∀ x c,X.env.cells.lookup x=some c→c≠b)∧∀ p∈X.pn ++ fc,p.1≠b):
  Inv X fc σ H' { s with heap:=h',gens:=g',drawn:=d',toks:=t' }:=by
 obtain⟨m,⟨o,es,ep,ho,r⟩,_⟩:=id I.loc;obtain⟨sl,J⟩:=u.any ho I.free fun z=>(F _ z).2.1 rfl;exact I.step (ch:=ch) F (fun b o J O hc e n=>u.keep b o e n (fun z=>(Al.mp (I.stkSub b z)).elim J O) hc) (fun b o _ _ hc e n=>u.any e n hc) (fun b o hc e n=>u.free b o e n hc) (fun b o hc e=>u.there b o e hc) u.tups u.frzs u.tbls (fun W hm=>by
  obtain⟨o',es',ep',ho',r'⟩:=hm;rw[ho]at ho';cases ho';exact⟨_,es',ep',J,r'⟩) hok U
theorem Inv.turned{t':Nat}{it:Ah}(I:Inv X fc σ H s)(k:∀ b o,b≠it→s.heap.get? b=some o→h'.get? b=some o)(hn:H it=none)(J:it≠X.env.locals)
  (h1:it∈X.ex∨X.s₀.heap.objs.size≤it) (h2:∀ x c,X.env.cells.lookup x=some c→c≠it) (O:∀ p∈X.pn ++ fc,p.1≠it):Inv X fc σ H { s with heap:=h',toks:=t' }:=by
 have F:∀ b u,H b=some u→b≠it:=fun b u e z=>by rw[z,hn]at e;cases e
 refine I.step (g':=s.gens) (d':=s.drawn) (ch:=[it]) (fun b U=>?_) (fun b o _ _ hc e _=>k b o (fun z=>hc (by simp[z])) e) (fun b o _ _ hc e _=>⟨o.slots,k b o (fun z=>hc (by simp[z])) e⟩) (fun _ _ _ _ n=>n)
  (fun b o hc e=>⟨o,k b o (fun z=>hc (by simp[z])) e⟩) (fun _ _ e=>e) (fun _ _ _ e=>e) (fun b ps e=>⟨#[],by rw[e];simp⟩) (fun m hm=>?_) (fun b u e=>?_) I.bare
 ·have e:b=it:=by simpa using U
  subst e;exact⟨h1,J,h2,O⟩
 ·obtain⟨o,es,ep,ho,r⟩:=hm;exact⟨o,es,ep,k _ o (CV J) ho,r⟩
 ·refine(I.hok b u e).stay (fun c v hc q=>k c v ?_ q) (fun _ q=>q) fun _ _ q=>q;rcases hc with z | z
  ·rw[z];exact F b u e
  ·exact F c _ z
theorem Inv.tok(I:Inv X fc σ H s)(t:Nat):Inv X fc σ H { s with toks:=t }:=I.un (h':=s.heap) (t':=t) Un.refl I.hok
theorem Inv.kept{t':Nat}(I:Inv X fc σ H s)(k:∀ b u,s.heap.get? b=some u→h'.get? b=some u):Inv X fc σ H { s with heap:=h',toks:=t' }:=I.un (Un.kept k) (I.hok.kept k)
theorem Inv.laid{a:Ah}{o:HO}{t':Nat}(I:Inv X fc σ H s)(k:∀ b u,s.heap.get? b=some u→h'.get? b=some u)(z:s.heap.objs.size≤a)(new:cP X.prog X.w (upd H a o) h' a o):
  Inv X fc σ (upd H a o) { s with heap:=h',toks:=t' }:=I.un (Un.laid k z (I.hok.fresh z)) (I.hok.laid k z new)
theorem Inv.write{x e:Ah}{o:HO}{t':Nat}(I:Inv X fc σ H s)(F:Mut (H x))(J:e=x∨H e=some (.own x))(k:∀ b u,b≠e→s.heap.get? b=some u→h'.get? b=some u)(z:∃ u,h'.get? e=some u)
  (new:cP X.prog X.w (upd H x o) h' x o):Inv X fc σ (upd H x o) { s with heap:=h',toks:=t' }:=I.un (Un.write F J k z) (I.hok.write F J k z new)
theorem Inv.pins_of{F:List (Ah×Obj)}(I:Inv X fc σ H s)(h:∀ p∈F,s.heap.get? p.1=some p.2∧H p.1=none∧p.1≠X.env.locals∧p.1 ∉ X.fs∧∀ v,p.2.data≠.cell v):Inv X F σ H s:=
 ⟨I.ok,I.os,I.bare,I.base,I.loc,I.cell,I.free,I.freeC,fun p J=>(Az.mp J).elim (fun z=>I.pin p (D9 _ z)) (h p),I.hok,I.len⟩
theorem rJ{N:List Str}(hN:N.Nodup){i j:Nat}{x:Str}(a:N[i]?=some x)(b:N[j]?=some x):i=j:=by
 obtain⟨h1,e1⟩:=AR.mp a;obtain⟨h2,e2⟩:=AR.mp b;exact(DY hN).mp (e1.trans e2.symm)
theorem vJ{M:Ed}{A:AO}{E:Ac→Ad→Prop}{i:Nat}{x:Str}{v:V}{u:Ac}{Q:Unit→Ad→Prop}(I:Inv X fc σ H s)(hN:X.N.Nodup)(hi:X.N[i]?=some x)(U:Loc X.env.scope x)(r:c5 v u)
  (h:∀ s',Inv X fc (σ.set i (some v)) H s'→(∃ a,DQ a s.heap s'.heap∧(a=X.env.locals∨X.env.cells.lookup x=some a))→Q () s') (hf:X.fn x=true∨X.env.scope.names.lookup x=some .local:=by first | exact .inl rfl | exact .inr rfl | assumption):wpAny M A (storeName X.env x u) Q E s:=by
 obtain⟨m,hn,hl⟩:=id I.loc;have af:(X.env.scope.kind == .class || (X.env.scope.kind == .module && X.env.locals != X.env.globals))=false:=by rw[I.ok.kind];rfl
 have ae:i < σ.length:=by rw[I.len];exact(AR.mp hi).1
 have cne:=I.cne;have O:∀{a:Ah} {h':Ba},(∃ o,s.heap.get? a=some o∧H a=none)→DQ a s.heap h'→HOk X.prog X.w H h':=fun{a h'} ha F b ob e=>by
  obtain⟨_,_,hfree⟩:=ha;refine(I.hok b ob e).stay (fun c w' hc q=>(F.2 c ?_).trans q) (fun _ q=>q) fun _ _ q=>q;rintro rfl;rcases hc with rfl | hc
  ·rw[hfree]at e;cases e
  ·rw[hfree]at hc;cases hc
 rcases U with Y | Y
 ·refine wpAny_storeName_local Y hn (fun h' aj F=>?_) af;obtain⟨oL,_,_,hoL,_⟩:=id hn;refine h _ ⟨I.ok,I.os,I.bare,⟨fun b o e n hb U=>?_,fun b o e n hb U=>?_,I.base.free,fun b o e U=>?_,I.base.tups,I.base.frzs,I.base.tbls⟩,⟨_,aj,fun j y v' J W e3=>?_⟩,fun y c e=>?_,I.free,I.freeC,fun p hp=>?_,O ⟨oL,hoL,I.free⟩ F,by simpa using I.len⟩ ⟨_,F,.inl rfl⟩
  ·exact(F.2 b (AG (A5 (Ar e) I.ok.above))).trans (I.base.keep b o e n hb U)
  ·obtain⟨sl,J⟩:=I.base.slot b o e n hb U;exact⟨sl,(F.2 b (AG (A5 (Ar e) I.ok.above))).trans J⟩
  ·obtain⟨o',J⟩:=I.base.there b o e U;exact⟨o',(F.2 b (AG (A5 (Ar e) I.ok.above))).trans J⟩
  ·by_cases hj:j=i
   ·subst hj;rw[hi]at J;cases J;rw[ET ae]at W;cases W;exact⟨u,r,.inl ⟨Y,by simp⟩⟩
   ·rw[E3 (CV hj)]at W;obtain⟨u',r',q⟩:=hl j y v' J W e3;refine⟨u',r',?_⟩;rcases q with⟨k,e⟩ | ⟨k,c,e,z⟩
    ·refine .inl ⟨k,?_⟩;have:y≠x:=fun e=>hj (rJ hN J (e ▸ hi));simp[this,e]
    ·exact .inr ⟨k,c,e,z.sameBut F (cne y c e)⟩
  ·obtain⟨w',z⟩:=I.cell y c e;exact⟨w',z.sameBut F (cne y c e)⟩
  ·obtain⟨e,n,ne,nf,d⟩:=I.pin p hp;exact⟨(F.2 p.1 ne).trans e,n,ne,nf,d⟩
 ·have Z:X.fn x=true:=by
   rcases hf with z | z
   ·exact z
   ·rw[z]at Y;cases Y
  obtain⟨c,hc⟩:=I.ok.has x (.inl Y);obtain⟨w',z⟩:=I.cell x c hc;refine wpAny_storeName_cell I.ok.kind Y hc z (fun h' ad F=>?_);obtain⟨oc,hoc,hocd⟩:=id z;refine h { s with heap:=h' } ⟨I.ok,I.os,I.bare,⟨fun b o e n hb U=>?_,fun b o e n hb U=>?_,I.base.free,fun b o e U=>?_,I.base.tups,I.base.frzs,I.base.tbls⟩,⟨m,hn.sameBut F (CV (cne x c hc)),fun j y v' J W e3=>?_⟩,fun y c' e=>?_,I.free,I.freeC,fun p hp=>?_,O ⟨oc,hoc,I.freeC x c hc⟩ F,by simpa using I.len⟩ ⟨c,F,.inr hc⟩
  ·exact(F.2 b (AG (A5 (Ar e) (I.ok.cab x c Z hc)))).trans (I.base.keep b o e n hb U)
  ·obtain⟨sl,J⟩:=I.base.slot b o e n hb U;exact⟨sl,(F.2 b (AG (A5 (Ar e) (I.ok.cab x c Z hc)))).trans J⟩
  ·obtain⟨o',J⟩:=I.base.there b o e U;exact⟨o',(F.2 b (AG (A5 (Ar e) (I.ok.cab x c Z hc)))).trans J⟩
  ·by_cases hj:j=i
   ·subst hj;rw[hi]at J;cases J;rw[ET ae]at W;cases W;exact⟨u,r,.inr ⟨.inl Y,c,hc,ad⟩⟩
   ·rw[E3 (CV hj)]at W;obtain⟨u',r',q⟩:=hl j y v' J W e3;refine⟨u',r',?_⟩;rcases q with q | ⟨k,c',e,z'⟩
    ·exact .inl q
    ·refine .inr ⟨k,c',e,z'.sameBut F ?_⟩;rintro rfl;exact hj (rJ hN J (I.ok.inj _ _ _ e hc ▸ hi))
  ·by_cases ag:c'=c
   ·subst ag;exact⟨_,ad⟩
   ·obtain⟨w2,z2⟩:=I.cell y c' e;exact⟨w2,z2.sameBut F ag⟩
  ·obtain⟨e,n,ne,nf,d⟩:=I.pin p hp;refine⟨(F.2 p.1 ?_).trans e,n,ne,nf,d⟩;intro q;rw[q,hoc]at e;have q':oc=p.2:=Cb.inj e;exact d w' (by rw[← q'];exact hocd)
theorem rK{M:Ed}{A:AO}{E:Ac→Ad→Prop}{i:Nat}{x:Str}{v:V}{u:Ac}{Q:Unit→Ad→Prop}(I:Inv X fc σ H s)(hN:X.N.Nodup)(hi:X.N[i]?=some x)(z:Loc X.env.scope x)(r:c5 v u)
  (h:∀ s',Inv X fc (σ.set i (some v)) H s'→Q () s') (J:X.fn x=true∨X.env.scope.names.lookup x=some .local:=by first | exact .inl rfl | exact .inr rfl | assumption):wpAny M A (storeName X.env x u) Q E s:=
 vJ I hN hi z r (fun s' F _=>h s' F) J
theorem Inv.call'{s':Ad}{ch:List Ah}(I:Inv X fc σ H s)(F:s'.os=s.os)(u:Un (frs X.stack) ch H H' s.heap s'.heap)(hok:HOk X.prog X.w H' s'.heap)(J:ED s'.gens)
  (z:∀ b∈ch,(b∈X.ex∨X.s₀.heap.objs.size≤b)∧b≠X.env.locals∧(∀ x c,X.env.cells.lookup x=some c→c≠b)∧∀ p∈X.pn ++ fc,p.1≠b):Inv X fc σ H' s':=by
 obtain⟨h',g',d',t',o'⟩:=s';have e:o'=s.os:=F;subst e;exact I.call (g':=g') (t':=t') (d':=d') u hok J z
end
abbrev XK:=Ac→Option Ah→Hp→Prop
abbrev St:=List (Option V)
abbrev VK:=V→Hp→Prop
abbrev TE:=St→Hp→VK→Prop
abbrev TT:=St→Hp→(Bool→Hp→Prop)→Prop
abbrev TA:=St→Hp→(List V→Hp→Prop)→Prop
structure mY where
 nx:St→Hp→Prop
 rt:VK
 bk:St→Hp→Prop:=fun _ _=>False
 ct:St→Hp→Prop:=fun _ _=>False
abbrev TS:=mY→St→Hp→Prop
inductive aI8(X:Cx)(fc:List (Ah×Obj))(σ:St)(Q:VK)(u:Ac)(s':Ad):Prop
 | mk (v:_) (H':_) (q0:Inv X fc σ H' s') (q1:c5 v u) (q2:Q v H'):aI8 X fc σ Q u s'
def EP(X:Cx)(fc:List (Ah×Obj))(σ:St)(Q:VK)(u:Ac)(s':Ad):Prop:=aI8 X fc σ Q u s'
def TP(X:Cx)(fc:List (Ah×Obj))(σ:St)(Q:Bool→Hp→Prop)(b:Bool)(s':Ad):Prop:=∃ H',Inv X fc σ H' s'∧Q b H'
inductive aI9(X:Cx)(fc:List (Ah×Obj))(σ:St)(Q:List V→Hp→Prop)(us:List Ac)(s':Ad):Prop
 | mk (vs:_) (H':_) (q0:Inv X fc σ H' s') (q1:cG vs us) (q2:Q vs H'):aI9 X fc σ Q us s'
def AP(X:Cx)(fc:List (Ah×Obj))(σ:St)(Q:List V→Hp→Prop)(us:List Ac)(s':Ad):Prop:=aI9 X fc σ Q us s'
def SP(X:Cx)(fc:List (Ah×Obj))(D:mY)(f:Flow)(s':Ad):Prop:=
 match f with
 | .next=>∃ σ' H',Inv X fc σ' H' s'∧D.nx σ' H'
 | .brk=>∃ σ' H',Inv X fc σ' H' s'∧D.bk σ' H'
 | .cont=>∃ σ' H',Inv X fc σ' H' s'∧D.ct σ' H'
 | .ret u=>∃ v σ' H',Inv X fc σ' H' s'∧c5 v u∧D.rt v H'
structure PE(X:Cx)(e:Bf)(t:TE):Prop where
 run:
  ∀(fc:List (Ah×Obj)) (s:Ad) (σ:St) (H:Hp) (Q:VK),Inv X fc σ H s→t σ H Q→wpAny (model X.prog X.w) X.A (eval e X.env) (EP X fc σ Q) X.xe s
instance{X:Cx}{e:Bf}{t:TE}:CoeFun (PE X e t) (fun _=>
 ∀(fc:List (Ah×Obj)) (s:Ad) (σ:St) (H:Hp) (Q:VK),Inv X fc σ H s→t σ H Q→wpAny (model X.prog X.w) X.A (eval e X.env) (EP X fc σ Q) X.xe s):=⟨fun h=>h.run⟩
structure PT(X:Cx)(e:Bf)(t:TT):Prop where
 run:
  ∀(fc:List (Ah×Obj)) (s:Ad) (σ:St) (H:Hp) (Q:Bool→Hp→Prop),Inv X fc σ H s→t σ H Q→wpAny (model X.prog X.w) X.A (isTrue e X.env (eval e X.env)) (TP X fc σ Q) X.xe s
instance{X:Cx}{e:Bf}{t:TT}:CoeFun (PT X e t) (fun _=>
 ∀(fc:List (Ah×Obj)) (s:Ad) (σ:St) (H:Hp) (Q:Bool→Hp→Prop),Inv X fc σ H s→t σ H Q→wpAny (model X.prog X.w) X.A (isTrue e X.env (eval e X.env)) (TP X fc σ Q) X.xe s):=⟨fun h=>h.run⟩
structure PW(X:Cx)(e:Bf)(t:TT):Prop where
 run:
  ∀(whole:Sem Ac) (fc:List (Ah×Obj)) (s:Ad) (σ:St) (H:Hp) (Q:Bool→Hp→Prop),Inv X fc σ H s→t σ H Q→wpAny (model X.prog X.w) X.A (isTrue e X.env whole) (TP X fc σ Q) X.xe s
instance{X:Cx}{e:Bf}{t:TT}:CoeFun (PW X e t) (fun _=>
 ∀(whole:Sem Ac) (fc:List (Ah×Obj)) (s:Ad) (σ:St) (H:Hp) (Q:Bool→Hp→Prop),Inv X fc σ H s→t σ H Q→wpAny (model X.prog X.w) X.A (isTrue e X.env whole) (TP X fc σ Q) X.xe s):=⟨fun h=>h.run⟩
theorem PW.pt{X:Cx}{e:Bf}{t:TT}(h:PW X e t):PT X e t:=⟨h.run _⟩
structure PA(X:Cx)(es:List Bf)(t:TA):Prop where
 run:
  ∀(pos:Pos) (fc:List (Ah×Obj)) (s:Ad) (σ:St) (H:Hp) (Q:List V→Hp→Prop),Inv X fc σ H s→t σ H Q→wpAny (model X.prog X.w) X.A (spliced (backTo pos (starEach es X.env))) (AP X fc σ Q) X.xe s
instance{X:Cx}{es:List Bf}{t:TA}:CoeFun (PA X es t) (fun _=>
 ∀(pos:Pos) (fc:List (Ah×Obj)) (s:Ad) (σ:St) (H:Hp) (Q:List V→Hp→Prop),Inv X fc σ H s→t σ H Q→wpAny (model X.prog X.w) X.A (spliced (backTo pos (starEach es X.env))) (AP X fc σ Q) X.xe s):=⟨fun h=>h.run⟩
structure PS(X:Cx)(st:B3)(t:TS):Prop where
 run:
  ∀(fc:List (Ah×Obj)) (s:Ad) (σ:St) (H:Hp) (D:mY),Inv X fc σ H s→t D σ H→wpAny (model X.prog X.w) X.A (exec st X.env) (SP X fc D) X.xe s
instance{X:Cx}{st:B3}{t:TS}:CoeFun (PS X st t) (fun _=>
 ∀(fc:List (Ah×Obj)) (s:Ad) (σ:St) (H:Hp) (D:mY),Inv X fc σ H s→t D σ H→wpAny (model X.prog X.w) X.A (exec st X.env) (SP X fc D) X.xe s):=⟨fun h=>h.run⟩
structure PSs(X:Cx)(st:List B3)(t:TS):Prop where
 run:
  ∀(fc:List (Ah×Obj)) (s:Ad) (σ:St) (H:Hp) (D:mY),Inv X fc σ H s→t D σ H→wpAny (model X.prog X.w) X.A (execs st X.env) (SP X fc D) X.xe s
instance{X:Cx}{st:List B3}{t:TS}:CoeFun (PSs X st t) (fun _=>
 ∀(fc:List (Ah×Obj)) (s:Ad) (σ:St) (H:Hp) (D:mY),Inv X fc σ H s→t D σ H→wpAny (model X.prog X.w) X.A (execs st X.env) (SP X fc D) X.xe s):=⟨fun h=>h.run⟩
theorem thn{α:Type}{t:Sem α}{Q z:α→Ad→Prop}{M:Ed}{A:AO}{E:Ac→Ad→Prop}{s:Ad}(h:wpAny M A t Q E s)(F:∀ a s,Q a s→z a s):wpAny M A t z E s:=A9 h F fun _ _ x=>x
section
variable{X:Cx}
inductive aD8(i:Nat)(σ:St)(H:Hp)(Q:VK):Prop
 | mk (v:_) (q0:σ[i]?=some (some v)) (q1:Q v H):aD8 i σ H Q
def aJa(i:Nat):TE:=fun σ H Q=>aD8 i σ H Q
def tC(v:V):TE:=fun _ H Q=>Q v H
theorem aH3{i:Nat}{x:Str}{pos:Pos}(hN:X.N[i]?=some x)(O:Vis X.env.scope x)(hd:(x == ("__debug__":Str))=false:=by decide)(J:(x == ("__classdict__":Str))=false:=by decide):PE X (.Name x pos) (aJa i):=by
 constructor;intro fc s σ H Q I h;obtain⟨v,e,h⟩:=h;obtain⟨m,hn,hl⟩:=I.loc;obtain⟨u,r,l⟩:=hl i x v hN e O;have F:EP X fc σ Q u s:=⟨v,H,I,r,h⟩
 rcases l with⟨z,hm⟩ | ⟨z,c,hc,hcell⟩
 ·exact wpAny_Name (wpAny_loadName_local I.ok.kind z hn hm F) hd
 ·rcases z with z | z
  ·exact wpAny_Name (wpAny_loadName_cell I.ok.kind z hc hcell F) hd
  ·exact wpAny_Name (wpAny_loadName_free I.ok.kind z hc hcell F J) hd
theorem aI{i j pos}:PE X (.Constant (.int i) j pos) (tC (.int i)):=⟨fun _ _ _ H _ I h=>wpAny_Constant_int ⟨.int i,H,I.tok _,⟨_,rfl⟩,h⟩⟩
theorem gC{b j pos}:PE X (.Constant (.bool b) j pos) (tC (.bl b)):=⟨fun _ _ _ H _ I h=>Constant_bool ⟨.bl b,H,I,rfl,h⟩⟩
theorem iB{j pos}:PE X (.Constant .none j pos) (tC .non):=⟨fun _ _ _ H _ I h=>Constant_none ⟨.non,H,I,rfl,h⟩⟩
theorem aT{x j pos}:PE X (.Constant (.str x) j pos) (tC (.str x)):=⟨fun _ _ _ H _ I h=>Calls.Constant_str ⟨.str x,H,I.tok _,⟨_,rfl⟩,h⟩⟩
def Gl(X:Cx)(x:Str):Prop:=X.env.kindOf x=some .globalImplicit
theorem l9{E:Ac→Ad→Prop}{fc:List (Ah×Obj)}{s:Ad}{σ:St}{H:Hp}{x:Str}{u:Ac}{pos:Pos}{Q:Ac→Ad→Prop}(I:Inv X fc σ H s)(z:Gl X x)(hm:X.mg x=some u)(h:Q u s)
  (hd:(x == ("__debug__":Str))=false:=by decide):wpAny (model X.prog X.w) X.A (eval (.Name x pos) X.env) Q E s:=
 Calls.Name_function_global I.ok.kind z (Calls.loadGlobal_global (by rw[I.ok.glob];exact I.mod.glob.keeps I.bk) hm h) hd
theorem o8{E:Ac→Ad→Prop}{fc:List (Ah×Obj)}{s:Ad}{σ:St}{H:Hp}{x:Str}{u:Ac}{pos:Pos}{Q:Ac→Ad→Prop}(I:Inv X fc σ H s)(z:Gl X x)(hm:X.mg x=none)(F:bootBuiltins x=some u)(h:Q u s)
  (hn:x≠"__name__":=by decide) (hd:(x == ("__debug__":Str))=false:=by decide):wpAny (model X.prog X.w) X.A (eval (.Name x pos) X.env) Q E s:=by
 obtain⟨mb,h1,h2⟩:=I.mod.blt;exact Calls.Name_function_global I.ok.kind z (Calls.loadGlobal_builtin (by rw[I.ok.glob];exact I.mod.glob.keeps I.bk) hm (by rw[I.ok.blt];exact h1.keeps I.bk) ((h2 x hn).trans F) h) hd
theorem cE{x:Str}{v:V}{u:Ac}{pos:Pos}(z:Gl X x)(hm:X.mg x=some u)(r:c5 v u)(hd:(x == ("__debug__":Str))=false:=by decide):PE X (.Name x pos) (tC v):=
 ⟨fun _ _ _ H _ I h=>l9 I z hm ⟨v,H,I,r,h⟩ hd⟩
theorem dI{x:Str}{v:V}{u:Ac}{pos:Pos}(z:Gl X x)(hm:X.mg x=none)(F:bootBuiltins x=some u)(r:c5 v u)(hn:x≠"__name__":=by decide)(hd:(x == ("__debug__":Str))=false:=by decide):PE X (.Name x pos) (tC v):=
 ⟨fun _ _ _ H _ I h=>o8 I z hm F ⟨v,H,I,r,h⟩ hn hd⟩
variable{a b:Bf}{ta tb:TE}{pos:Pos}
structure PC(X:Cx)(op:Hv)(a b:Bf)(t:TE):Prop where
 run:
  ∀(fc:List (Ah×Obj)) (s:Ad) (σ:St) (H:Hp) (Q:VK),Inv X fc σ H s→t σ H Q→
   wpAny (model X.prog X.w) X.A (eval a X.env) (fun v s₁=>wpAny (model X.prog X.w) X.A (eval b X.env) (fun u s₂=>wpAny (model X.prog X.w) X.A (compareOp op v u) (EP X fc σ Q) X.xe s₂) X.xe s₁) X.xe s
instance{X:Cx}{op:Hv}{a b:Bf}{t:TE}:CoeFun (PC X op a b t) (fun _=>
 ∀(fc:List (Ah×Obj)) (s:Ad) (σ:St) (H:Hp) (Q:VK),Inv X fc σ H s→t σ H Q→
  wpAny (model X.prog X.w) X.A (eval a X.env) (fun v s₁=>wpAny (model X.prog X.w) X.A (eval b X.env) (fun u s₂=>wpAny (model X.prog X.w) X.A (compareOp op v u) (EP X fc σ Q) X.xe s₂) X.xe s₁) X.xe s):=⟨fun h=>h.run⟩
inductive As{α:Type}(f:α→V)(x:V)(Q:α→Prop):Prop
 | mk (c:α) (h:x=f c) (q:Q c):As f x Q
def tB(t:TE):TT:=fun σ H Q=>t σ H fun x H1=>As V.bl x fun c=>Q c H1
theorem dO{e:Bf}{t:TE}(h:PE X e t)(U:∀ z,isTrue e X.env z=(do let v ← z;standAt e.pos;holding [v] (truthy v)):=by intro _;rfl):PT X e (tB t):=by
 constructor;intro fc s σ H Q I hw;refine isTrue_plain (thn (h fc s σ H _ I hw) fun v s1 ⟨x,H1,F,J,O⟩=>?_) (U _);obtain⟨d,rfl,q⟩:=O;cases J;exact CH ⟨H1,F,q⟩
variable{tA ix:TT}{cM:List Bf}
def aJ7(t u:TT):TT:=fun σ H Q=>t σ H fun c H1=>if c=true then u σ H1 Q else Q false H1
def tOr(t u:TT):TT:=fun σ H Q=>t σ H fun c H1=>if c=true then Q true H1 else u σ H1 Q
def aJ8(t:TT):TT:=fun σ H Q=>t σ H fun c H1=>Q (!c) H1
theorem jA(ha:PT X a tA):PW X (.BoolOp .And [a] pos) tA:=by
 constructor;intro z fc s σ H Q I h;refine isTrue_and (thn (ha fc s σ H Q I h) fun c s1 e=>?_);cases c with
 | true=>exact isTrue_and_nil e
 | false=>exact e
theorem fX(ha:PT X a tA):PW X (.BoolOp .Or [a] pos) tA:=by
 constructor;intro z fc s σ H Q I h;refine isTrue_or (thn (ha fc s σ H Q I h) fun c s1 e=>?_);cases c with
 | false=>exact isTrue_or_nil e
 | true=>exact e
theorem lH(ha:PT X a tA)(O:PW X (.BoolOp .And (b :: cM) pos) ix):PW X (.BoolOp .And (a :: b :: cM) pos) (aJ7 tA ix):=by
 constructor;intro J fc s σ H Q I h;refine isTrue_and (thn (ha fc s σ H _ I h) fun c s1 ⟨H1,z,F⟩=>?_);cases c with
 | true=>exact O J fc s1 σ H1 Q z F
 | false=>exact⟨H1,z,F⟩
theorem hU(ha:PT X a tA)(O:PW X (.BoolOp .Or (b :: cM) pos) ix):PW X (.BoolOp .Or (a :: b :: cM) pos) (tOr tA ix):=by
 constructor;intro J fc s σ H Q I h;refine isTrue_or (thn (ha fc s σ H _ I h) fun c s1 ⟨H1,z,F⟩=>?_);cases c with
 | true=>exact⟨H1,z,F⟩
 | false=>exact O J fc s1 σ H1 Q z F
theorem dR(ha:PT X a tA):PT X (.UnaryOp .Not a pos) (aJ8 tA):=by
 constructor;intro fc s σ H Q I h;exact isTrue_not (ha fc s σ H (fun c H1=>Q (!c) H1) I h)
def aJb(ta tb:TE):TE:=fun σ H Q=>ta σ H fun x H1=>As V.bl x fun c=>if c=true then tb σ H1 Q else Q (.bl false) H1
def aJc(ta:TE):TE:=fun σ H Q=>ta σ H fun x H1=>As V.bl x fun c=>Q (.bl (!c)) H1
theorem fY{op}{t:TE}(h:PE X a t):PE X (.BoolOp op [a] pos) t:=⟨fun fc s σ H Q I hw=>BoolOp_one (h fc s σ H Q I hw)⟩
theorem dX(ha:PE X a ta)(O:PE X (.BoolOp .And (b :: cM) pos) tb):PE X (.BoolOp .And (a :: b :: cM) pos) (aJb ta tb):=by
 constructor;intro fc s σ H Q I h;refine BoolOp_and (thn (ha fc s σ H _ I h) fun v s1 ⟨x,H1,F,J,z⟩=>?_);obtain⟨c,rfl,z⟩:=z;cases J;refine CH ?_;cases c with
 | true=>exact O fc s1 σ H1 Q F z
 | false=>exact⟨.bl false,H1,F,rfl,z⟩
theorem aH4(ha:PE X a ta):PE X (.UnaryOp .Not a pos) (aJc ta):=by
 constructor;intro fc s σ H Q I h;refine UnaryOp_ (thn (ha fc s σ H _ I h) fun v s1 ⟨x,H1,F,J,z⟩=>?_);obtain⟨c,rfl,z⟩:=z;cases J;exact not_of (CH ⟨.bl (!c),H1,F,rfl,z⟩)
end
def SqL(K:Ag)(H:Hp)(a:Ah)(xs:List V):Prop:=
 Rd H a (.lst xs)∨
  ∃(o:Obj) (its:Array Ac) (n:Nat),K.lookup a=some o∧o.cls=.type "list"∧o.dict=none∧o.data=.seq its n∧its.size≤sizeLine∧cG xs its.toList
def SqT(K:Ag)(H:Hp)(a:Ah)(xs:List V):Prop:=
 Rd H a (.tup xs)∨
  ∃(o:Obj) (its:Array Ac) (n:Nat),K.lookup a=some o∧o.cls=.type "tuple"∧o.data=.seq its n∧its.size≤sizeLine∧cG xs its.toList
def aJ9:Ac→Option V
 | .none=>some .non
 | .bool b=>some (.bl b)
 | .int i _=>some (.int i)
 | .str x _=>some (.str x)
 | .bytes b _=>some (.byt b)
 | .float b _=>some (.flt b)
 | .ref a=>some (.ref a)
 | .type n=>some (.ty n)
 | _=>none
theorem c5.abs{x:V}{u:Ac}(r:c5 x u):aJ9 u=some x:=by
 cases x with
 | non=>cases r;rfl
 | bl _=>cases r;rfl
 | int _=>obtain⟨t,rfl⟩:=r;rfl
 | str _=>obtain⟨t,rfl⟩:=r;rfl
 | byt _=>obtain⟨t,rfl⟩:=r;rfl
 | flt _=>obtain⟨t,rfl⟩:=r;rfl
 | ref _=>cases r;rfl
 | ty _=>cases r;rfl
theorem c5.inj{x y:V}{u:Ac}(r:c5 x u)(q:c5 y u):x=y:=Cb.inj (r.abs.symm.trans q.abs)
theorem cG.inj:∀{xs ys:List V}{us:List Ac},cG xs us→cG ys us→xs=ys
 | _,_,_,.nil,.nil=>rfl
 | _,_,_,.cons r t,.cons z t'=>by rw[r.inj z,cG.inj t t']
section
variable{X:Cx}{fc:List (Ah×Obj)}{σ:St}{H:Hp}{s:Ad}{a:Ah}{xs ys:List V}
theorem aU{K:Ag}(h:H a=some (.lst xs)):SqL K H a xs:=.inl (.inl h)
theorem bG{K:Ag}(h:H a=some (.tup xs)):SqT K H a xs:=.inl (.inl h)
theorem Inv.list(I:Inv X fc σ H s)(h:SqL X.K H a xs):∃ its:List Ac,cG xs its∧PlainL s.heap a its.toArray∧xs.length≤sizeLine:=by
 rcases h with h | ⟨o,its,n,J,hc,hd,F,hz,r⟩
 ·obtain⟨z,its,n,r,e⟩:=h.ok I.hok;exact⟨its,r,⟨_,n,e,rfl,rfl,rfl⟩,z⟩
 ·refine⟨its.toList,r,⟨o,n,I.kIn a o J,hc,hd,by simpa using F⟩,?_⟩;have e:=r.length;simp only[BL]at e;omega
theorem Inv.tuple(I:Inv X fc σ H s)(h:SqT X.K H a xs):∃ its:List Ac,cG xs its∧EK s.heap a its.toArray∧xs.length≤sizeLine:=by
 rcases h with h | ⟨o,its,n,J,hc,F,hz,r⟩
 ·obtain⟨z,its,r,p⟩:=h.ok I.hok;exact⟨its,r,p.tup,z⟩
 ·refine⟨its.toList,r,⟨o,I.kIn a o J,hc,n,by simpa using F⟩,?_⟩;have e:=r.length;simp only[BL]at e;omega
theorem Inv.list_inj(I:Inv X fc σ H s)(h:SqL X.K H a xs)(h':SqL X.K H a ys):xs=ys:=by
 obtain⟨its,r,⟨o,n,e,_,_,d⟩,_⟩:=I.list h;obtain⟨its',r',⟨o',n',e',_,_,d'⟩,_⟩:=I.list h';rw[e]at e';cases e';rw[d]at d';injection d' with d1 _;have:its=its':=by simpa using congrArg Array.toList d1
 subst this;exact r.inj r'
theorem Inv.tuple_inj(I:Inv X fc σ H s)(h:SqT X.K H a xs)(h':SqT X.K H a ys):xs=ys:=by
 obtain⟨its,r,⟨o,e,_,n,d⟩,_⟩:=I.tuple h;obtain⟨its',r',⟨o',e',_,n',d'⟩,_⟩:=I.tuple h';rw[e]at e';cases e';rw[d]at d';injection d' with d1 _;have:its=its':=by simpa using congrArg Array.toList d1
 subst this;exact r.inj r'
end
abbrev Cx.wish(X:Cx)(E:Ac→Ad→Prop):Cx:={ X with xe:=E }
abbrev Cx.nox(X:Cx):Cx:=X.wish fun _ _=>False
theorem Cx.Ok.wish{X:Cx}(ok:X.Ok)(E:Ac→Ad→Prop):(X.wish E).Ok:=
 ⟨ok.mod,ok.kind,ok.glob,ok.blt,ok.above,ok.inj,ok.has,ok.cab,ok.hd,ok.frames,ok.stk,ok.exf,ok.bs,ok.bsz,ok.noex,ok.exfs,ok.funs,ok.frf⟩
theorem Cx.Ok.unwish{X:Cx}{E:Ac→Ad→Prop}(ok:(X.wish E).Ok):X.Ok:=
 ⟨ok.mod,ok.kind,ok.glob,ok.blt,ok.above,ok.inj,ok.has,ok.cab,ok.hd,ok.frames,ok.stk,ok.exf,ok.bs,ok.bsz,ok.noex,ok.exfs,ok.funs,ok.frf⟩
section
variable{X:Cx}{fc:List (Ah×Obj)}{σ:St}{H:Hp}{s:Ad}{E:Ac→Ad→Prop}
theorem Inv.wish(I:Inv X fc σ H s)(E:Ac→Ad→Prop):Inv (X.wish E) fc σ H s:=⟨I.ok.wish E,I.os,I.bare,I.base,I.loc,I.cell,I.free,I.freeC,I.pin,I.hok,I.len⟩
theorem Inv.unwish(I:Inv (X.wish E) fc σ H s):Inv X fc σ H s:=⟨I.ok.unwish,I.os,I.bare,I.base,I.loc,I.cell,I.free,I.freeC,I.pin,I.hok,I.len⟩
theorem SP.unwish{D:mY}{f:Flow}{s':Ad}(h:SP (X.wish E) fc D f s'):SP X fc D f s':=by
 cases f with
 | next=>obtain⟨σ',H',I,q⟩:=h;exact⟨σ',H',I.unwish,q⟩
 | brk=>obtain⟨σ',H',I,q⟩:=h;exact⟨σ',H',I.unwish,q⟩
 | cont=>obtain⟨σ',H',I,q⟩:=h;exact⟨σ',H',I.unwish,q⟩
 | ret u=>obtain⟨v,σ',H',I,r,q⟩:=h;exact⟨v,σ',H',I.unwish,r,q⟩
theorem PSs.nox{st:List B3}{t:TS}(h:PSs X.nox st t):PSs X st t:=⟨fun fc s σ H D I hw=>
 A9 (h fc s σ H D (I.wish _) hw) (fun _ _ q=>q.unwish) fun _ _ z=>Bz z⟩
end
section
variable{X:Cx}{st:B3}{cM:List B3}{t u:TS}{e:Bf}{te:TE}{pos:Pos}
def aJd:TS:=fun D σ H=>D.nx σ H
def aKa(t u:TS):TS:=fun D σ H=>t { D with nx:=u D } σ H
theorem bH:PSs X [] aJd:=⟨fun _ _ σ H _ I h=>Dh ⟨σ,H,I,h⟩⟩
theorem aJ(h1:PS X st t)(h2:PSs X cM u):PSs X (st :: cM) (aKa t u):=by
 constructor;intro fc s σ H D I h;refine Ee (thn (h1 fc s σ H { D with nx:=u D } I h) fun f s1 q=>?_);cases f with
 | next=>
  obtain⟨σ',H',I',q⟩:=q;exact h2 fc s1 σ' H' D I' q
 | ret v=>exact q
 | brk=>exact q
 | cont=>exact q
theorem aN(h1:PS X st t):PSs X [st] t:=by
 constructor;intro fc s σ H D I h;refine Ee (thn (h1 fc s σ H D I h) fun f s1 q=>?_);cases f with
 | next=>exact Dh q
 | ret v=>exact q
 | brk=>exact q
 | cont=>exact q
theorem Inv.quiet{fc:List (Ah×Obj)}{σ:St}{H:Hp}{s:Ad}(I:Inv X fc σ H s):interactive X.env=false:=by simp[interactive,I.ok.kind]
def aJe(te:TE):TS:=fun D σ H=>te σ H fun _ H1=>D.nx σ H1
theorem jB(O:PE X e te)(F:swapsWith e none pos.line X.env=pure false:=by rfl):PS X (.Expr e pos) (aJe te):=by
 constructor;intro fc s σ H D I h;exact wpAny_Expr_any (thn (O fc s σ H _ I h) fun v s1 ⟨x,H1,z,U,J⟩=>⟨σ,H1,z,J⟩) I.quiet F
def aKb(te:TE):TS:=fun D σ H=>te σ H D.rt
theorem aV(O:PE X e te):PS X (.Return (some e) pos) (aKb te):=by
 constructor;intro fc s σ H D I h;exact wpAny_Return_some (thn (O fc s σ H _ I h) fun v s1 ⟨x,H1,z,F,J⟩=>⟨x,σ,H1,z,F,J⟩)
def aKc(c:TT)(t u:TS):TS:=fun D σ H=>c σ H fun b H1=>if b=true then t D σ H1 else u D σ H1
theorem cI{c:Bf}{a b:List B3}{tc:TT}(hc:PT X c tc)(ha:PSs X a t)(J:PSs X b u):PS X (.If c a b pos) (aKc tc t u):=by
 constructor;intro fc s σ H D I h;refine wpAny_If (thn (hc fc s σ H _ I h) fun d s1 ⟨H1,z,F⟩=>?_);cases d with
 | true=>exact ha fc s1 σ H1 D z F
 | false=>exact J fc s1 σ H1 D z F
end
abbrev TG:=V→St→Hp→(St→Hp→Prop)→Prop
abbrev TGs:=List V→St→Hp→(St→Hp→Prop)→Prop
structure PG(X:Cx)(target:Bf)(t:TG):Prop where
 run:
  ∀(fc:List (Ah×Obj)) (s:Ad) (σ:St) (H:Hp) (v:V) (u:Ac) (Q:St→Hp→Prop),Inv X fc σ H s→c5 v u→t v σ H Q→
   wpAny (model X.prog X.w) X.A (assign target X.env u) (fun _ s'=>∃ σ' H',Inv X fc σ' H' s'∧Q σ' H') X.xe s
instance{X:Cx}{target:Bf}{t:TG}:CoeFun (PG X target t) (fun _=>
 ∀(fc:List (Ah×Obj)) (s:Ad) (σ:St) (H:Hp) (v:V) (u:Ac) (Q:St→Hp→Prop),Inv X fc σ H s→c5 v u→t v σ H Q→
  wpAny (model X.prog X.w) X.A (assign target X.env u) (fun _ s'=>∃ σ' H',Inv X fc σ' H' s'∧Q σ' H') X.xe s):=⟨fun h=>h.run⟩
structure PGs(X:Cx)(ts:List Bf)(t:TGs):Prop where
 run:
  ∀(fc:List (Ah×Obj)) (s:Ad) (σ:St) (H:Hp) (vs:List V) (us:List Ac) (Q:St→Hp→Prop),Inv X fc σ H s→cG vs us→t vs σ H Q→
   wpAny (model X.prog X.w) X.A (assignInOrder ((assignEach ts X.env).map (·.2)) us) (fun _ s'=>∃ σ' H',Inv X fc σ' H' s'∧Q σ' H') X.xe s
instance{X:Cx}{ts:List Bf}{t:TGs}:CoeFun (PGs X ts t) (fun _=>
 ∀(fc:List (Ah×Obj)) (s:Ad) (σ:St) (H:Hp) (vs:List V) (us:List Ac) (Q:St→Hp→Prop),Inv X fc σ H s→cG vs us→t vs σ H Q→
  wpAny (model X.prog X.w) X.A (assignInOrder ((assignEach ts X.env).map (·.2)) us) (fun _ s'=>∃ σ' H',Inv X fc σ' H' s'∧Q σ' H') X.xe s):=⟨fun h=>h.run⟩
abbrev aH5:=V→V→V→Hp→(Hp→Prop)→Prop
def aJf(X:Cx)(t:aH5):Prop:=
 ∀(fc:List (Ah×Obj)) (s:Ad) (σ:St) (H:Hp) (o i v:V) (ov iv u:Ac) (Q:Hp→Prop),Inv X fc σ H s→c5 o ov→c5 i iv→c5 v u→t o i v H Q→
  wpAny (model X.prog X.w) X.A (setItem ov iv u) (fun _ s'=>∃ H',Inv X fc σ H' s'∧Q H') X.xe s
section
variable{X:Cx}{pos:Pos}
def cC(i:Nat):TG:=fun v σ H Q=>Q (σ.set i (some v)) H
theorem bJ{i:Nat}{x:Str}(hN:X.N.Nodup)(hi:X.N[i]?=some x)(z:Loc X.env.scope x)(J:X.fn x=true∨X.env.scope.names.lookup x=some .local:=by first | exact .inl rfl | exact .inr rfl | assumption):PG X (.Name x pos) (cC i):=by
 constructor;intro fc s σ H v u Q I r h;exact wpAny_assign_Name (rK I hN hi z r (fun s' F=>⟨_,H,F,h⟩) J)
def aKd:TGs:=fun vs σ H Q=>vs=[]∧Q σ H
inductive aBZ(t:TG)(u:TGs)(vs:List V)(σ:St)(H:Hp)(Q:(St→Hp→Prop)):Prop
 | mk (v:_) (r:_) (q0:vs=v :: r) (q1:t v σ H fun σ' H'=>u r σ' H' Q):aBZ t u vs σ H Q
def aJg(t:TG)(u:TGs):TGs:=fun vs σ H Q=>aBZ t u vs σ H Q
theorem kW:PGs X [] aKd:=by
 constructor;intro fc s σ H vs z Q I r h;obtain⟨e,h⟩:=h;subst e;cases r;exact assignInOrder_nil ⟨σ,H,I,h⟩
theorem cT{e:Bf}{es:List Bf}{t:TG}{u:TGs}(h1:PG X e t)(h2:PGs X es u)
  (z:(assignEach (e :: es) X.env).map (·.2)=assign e X.env :: (assignEach es X.env).map (·.2):=by rfl):PGs X (e :: es) (aJg t u):=by
 constructor;intro fc s σ H vs U Q I r h;obtain⟨v,vr,e1,h⟩:=h;subst e1;cases r with
 | cons r O=>
  rw[z];refine assignInOrder_cons (thn (h1 fc s σ H _ _ _ I r h) fun _ s1 ⟨σ1,H1,F,J⟩=>?_);exact h2 fc s1 σ1 H1 _ _ Q F O J
inductive aD9(K:Ag)(n:Nat)(t:TGs)(v:V)(σ:St)(H:Hp)(Q:(St→Hp→Prop)):Prop
 | mk (a:_) (xs:_) (q0:v=.ref a) (q1:SqT K H a xs) (q2:xs.length=n) (q3:t xs σ H Q):aD9 K n t v σ H Q
def aKe(K:Ag)(n:Nat)(t:TGs):TG:=fun v σ H Q=>aD9 K n t v σ H Q
theorem nM{es:List Bf}{k:Nat}{t:TGs}{n:Nat}(hc:X.calm=true)(h:PGs X es t)
  (hn:(assignEach es X.env).length=n:=by rfl) (z:(assignEach es X.env).findIdx? (·.1)=none:=by rfl):PG X (.Tuple es k pos) (aKe X.K n t):=by
 constructor;intro fc s σ H v u Q I r hw;obtain⟨a,xs,e1,hq,hl,hw⟩:=hw;subst e1;cases r;obtain⟨its,rv,ht,hz⟩:=I.tuple hq;refine assign_Tuple_tuple (I.ok.hd hc) ht (by simp[hn,← hl,rv.length]) z fun h' F=>?_;have J:Inv X fc σ H { s with heap:=h' }:=I.kept (t':=s.toks) fun b o e=>F b o (AG (Ar e)) e;exact h fc _ σ H xs _ Q J (by simpa using rv) hw
def aKf(to ti:TE)(t:aH5):TG:=fun v σ H Q=>to σ H fun o H1=>ti σ H1 fun i H2=>t o i v H2 fun H3=>Q σ H3
theorem aAZ{o i:Bf}{to J:TE}{t:aH5}(ho:PE X o to)(hi:PE X i J)(U:aJf X t)
  (ha:∀ v,assign (.Subscript o i pos) X.env v=(do
   let z ← holding [v] (eval o X.env)
   let F ← holding [v,z] (eval i X.env)
   standAt pos
   holding [v,z,F] (setItem z F v)
   release [v,z,F] []):=by intro _;rfl):PG X (.Subscript o i pos) (aKf to J t):=by
 constructor;intro fc s σ H v u Q I r h;rw[ha];refine Aa (A1 (thn (ho fc s σ H _ I h) fun z s1 ⟨x,H1,Y,Z,q1⟩=>?_));refine Aa (A1 (thn (hi fc s1 σ H1 _ Y q1) fun F s2 ⟨y,H2,I2,W,O⟩=>?_));refine Aa (Dj (Aa (A1 (thn (U fc s2 σ H2 x y v z F u _ I2 Z W r O) fun _ s3 ⟨H3,I3,q3⟩=>?_))));exact wpAny_release ⟨σ,H3,I3,q3⟩
def aH6(te:TE)(g:TG):TS:=fun D σ H=>te σ H fun x H1=>g x σ H1 D.nx
theorem jN{tg e:Bf}{te:TE}{g:TG}(U:PE X e te)(W:PG X tg g)(z:swapsWithSole [tg] e pos.line X.env=pure false:=by rfl)(hw:swappedStores [tg] e X.env=pure none:=by rfl)
  (h1:(assignEach [tg] X.env).map (·.2)=[assign tg X.env]:=by rfl):PS X (.Assign [tg] e pos) (aH6 te g):=by
 constructor;intro fc s σ H D I h;refine wpAny_Assign_stores (thn (U fc s σ H _ I h) fun v s1 ⟨x,H1,F,J,O⟩=>?_) z hw;rw[h1];exact thn (W fc s1 σ H1 x v _ F J O) fun _ Y q=>q
theorem aZ{i:Nat}{x:Str}{e:Bf}{te:TE}{ir:Pos}(hN:X.N.Nodup)(hi:X.N[i]?=some x)(J:Loc X.env.scope x)(Y:PE X e te)(z:swapsWith e (some (.Name x ir)) pos.line X.env=pure false:=by rfl)(W:X.fn x=true∨X.env.scope.names.lookup x=some .local:=by first | exact .inl rfl | exact .inr rfl | assumption):
  PS X (.Assign [.Name x ir] e pos) (aH6 te (cC i)):=by
 constructor;intro fc s σ H D I h;refine wpAny_Assign_Name (thn (Y fc s σ H _ I h) fun v s1 ⟨y,H1,F,O,U⟩=>?_) z;exact rK F hN hi J O (fun s2 Z=>⟨_,H1,Z,U⟩) W
end
section
variable{X:Cx}{pos:Pos}
inductive yT(c:TT)(tb:TS)(D:mY)(σ:St)(H:Hp):Prop
 | mk (W:Nat→St→Hp→Prop) (q0:(∃ m,W m σ H)) (q1:∀ m σ H,W m σ H→
 c σ H fun b H1=>if b=true then∃ N:St→Hp→Prop,(∀ σ' H',N σ' H'→∃ m',m' < m∧W m' σ' H')∧tb { D with nx:=N,ct:=N,bk:=D.nx } σ H1 else D.nx σ H1):yT c tb D σ H
def aH7(c:TT)(tb:TS):TS:=fun D σ H=>yT c tb D σ H
theorem aEa{c:Bf}{z:List B3}{tc:TT}{tb:TS}(O:PassesOwn (model X.prog X.w) X.A X.env X.xe)(hc:PT X c tc)(hb:PSs X z tb):PS X (.While c z [] pos) (aH7 tc tb):=by
 constructor;intro fc s σ H D I h;obtain⟨W,⟨m0,w0⟩,turn⟩:=h;refine wpAny_While (codeAny_whileLoop (fun n s'=>∃ Y H',Inv X fc Y H' s'∧W n Y H') ?_ m0 ⟨σ,H,I,w0⟩);rintro n s1 ⟨σ1,H1,Z,w1⟩;refine Dg O (thn (hc fc s1 σ1 H1 _ Z (turn n σ1 H1 w1)) fun b s2 ⟨H2,U,F⟩=>?_);cases b with
 | true=>
  obtain⟨N,hN,F⟩:=F;rw[Ib rfl];refine Dg O (thn (hb fc s2 σ1 H2 _ U F) fun f s3 J=>?_);cases f with
  | next=>
   obtain⟨σ3,H3,I3,n3⟩:=J;obtain⟨m',hm,w3⟩:=hN σ3 H3 n3;exact⟨m',hm,σ3,H3,I3,w3⟩
  | cont=>
   obtain⟨σ3,H3,I3,n3⟩:=J;obtain⟨m',hm,w3⟩:=hN σ3 H3 n3;exact⟨m',hm,σ3,H3,I3,w3⟩
  | brk=>exact J
  | ret v=>exact J
 | false=>
  rw[Ia AN];exact Dh ⟨σ1,H2,U,F⟩
end
structure It where
 go:Nat→Hp→Prop
 yld:Nat→Hp→V→Hp→Prop
 stop:Nat→Hp→Prop
def lE(X:Cx)(fc:List (Ah×Obj))(H:Hp)(b:Ah):Prop:=
 H b=none∧b≠X.env.locals∧b ∉ X.fs∧(b∈X.ex∨X.s₀.heap.objs.size≤b)∧(∀ x c,X.env.cells.lookup x=some c→c≠b)∧∀ p∈X.pn ++ fc,p.1≠b
theorem Inv.fpOk{X:Cx}{fc:List (Ah×Obj)}{σ:St}{H H':Hp}{s:Ad}{b:Ah}(I:Inv X fc σ H s)(F:s.heap.objs.size≤b)(hn:H' b=none):lE X fc H' b:=by
 refine⟨hn,CJ (A5 I.lt F),I.nofs F,.inr (Bc I.sz F),fun x c e z=>?_,fun p J z=>?_⟩
 ·obtain⟨v,q⟩:=I.cell x c e;exact absurd (A5 q.lt (by rw[z];exact F)) (Bx _)
 ·exact absurd (A5 (Ar (I.pin p J).1) (by rw[z];exact F)) (Bx _)
structure aC7(P:Ay)(w:AV)(K:Ag)(tg:Bf)(J:It)(fp:List Ah)(it:Ah)(tn:Nat→Ba→Prop):Prop where
 mem:it∈fp
 obj:∀ i h,tn i h→∀ b∈fp,∃ o,h.get? b=some o∧∀ v,o.data≠.cell v
 keep:∀ i h h',tn i h→(∀ b∈fp,∀ o,h.get? b=some o→h'.get? b=some o)→tn i h'
 item:∀(X:Cx),X.prog=P→X.w=w→X.K=K→X.calm=true→∀(i:Nat) (fc:List (Ah×Obj)) (s:Ad) (σ:St) (H:Hp) (E:Ac→Ad→Prop),Inv X fc σ H s→(∀ b∈fp,lE X fc H b)→tn i s.heap→J.go i H→
  wpAny (model P w) X.A (pyNext (.ref it)) (fun r s1=>∃ u,r=some u∧
   wpAny (model P w) X.A (letOwnedTupleGo tg (.ref it) u) (fun _ s2=>∃ x H',Inv X fc σ H' s2∧c5 x u∧J.yld i H x H'∧tn (i + 1) s2.heap∧∀ b∈fp,H' b=none) E s1) E s
 done:∀(X:Cx),X.prog=P→X.w=w→X.K=K→X.calm=true→∀(i:Nat) (fc:List (Ah×Obj)) (s:Ad) (σ:St) (H:Hp) (E:Ac→Ad→Prop),Inv X fc σ H s→(∀ b∈fp,lE X fc H b)→tn i s.heap→J.stop i H→
  wpAny (model P w) X.A (pyNext (.ref it)) (fun r s1=>r=none∧Inv X fc σ H s1) E s
 self:∀(A:AO) (i:Nat) (s:Ad) (Q:Ac→Ad→Prop) (E:Ac→Ad→Prop),tn i s.heap→Q (.ref it) s→wpAny (model P w) A (pyIter (.ref it)) Q E s
abbrev TI:=St→Hp→(It→Hp→Prop)→Prop
inductive aHr(X:Cx)(fc:List (Ah×Obj))(σ:St)(tg:Bf)(R:It→Hp→Prop)(itv:Ac)(s2:Ad):Prop
 | mk (it:Ah) (fp:List Ah) (tn:Nat→Ba→Prop) (J:It) (H':Hp) (q0:itv=.ref it) (q1:Inv X fc σ H' s2) (q2:aC7 X.prog X.w X.K tg J fp it tn) (q3:tn 0 s2.heap) (q4:(∀ b∈fp,lE X fc H' b)) (q5:R J H'):aHr X fc σ tg R itv s2
def PIE(X:Cx)(fc:List (Ah×Obj))(σ:St)(tg:Bf)(R:It→Hp→Prop)(itv:Ac)(s2:Ad):Prop:=aHr X fc σ tg R itv s2
structure PI(X:Cx)(tg iter:Bf)(wi:TI):Prop where
 run:
  ∀(fc:List (Ah×Obj)) (s:Ad) (σ:St) (H:Hp) (R:It→Hp→Prop),Inv X fc σ H s→wi σ H R→
   wpAny (model X.prog X.w) X.A (eval iter X.env) (fun v s1=>wpAny (model X.prog X.w) X.A (pyIter v) (PIE X fc σ tg R) X.xe s1) X.xe s
instance{X:Cx}{tg iter:Bf}{wi:TI}:CoeFun (PI X tg iter wi) (fun _=>
 ∀(fc:List (Ah×Obj)) (s:Ad) (σ:St) (H:Hp) (R:It→Hp→Prop),Inv X fc σ H s→wi σ H R→
  wpAny (model X.prog X.w) X.A (eval iter X.env) (fun v s1=>wpAny (model X.prog X.w) X.A (pyIter v) (PIE X fc σ tg R) X.xe s1) X.xe s):=⟨fun h=>h.run⟩
theorem aB0{M : Ed}{A : AO}{E : Ac → Ad → Prop}{s : Ad}{tg : Bf}{it : Ah}{u : Ac}{o : Obj}{n : String}{vs : Array Ac}{Q : Unit → Ad → Prop}(F : s.heap.get? it = some o)(hc : o.cls = .type n)(hd : o.data = .fields vs)
    (hn : ["enumerate", "zip", "dict_itemiterator", "dict_reverseitemiterator", "odict_iterator", "itertools.zip_longest", "itertools.pairwise"].contains n = false) (z : Q () s) : wpAny M A (letOwnedTupleGo tg (.ref it) u) Q E s := by
  unfold letOwnedTupleGo;cases tg <;> first
    | exact Ae z
    | (cases u <;> first
        | exact Ae z
        | (refine Aa (Gr F ?_)
           rw[hc, hd];show wpAny M A (if (["enumerate", "zip", "dict_itemiterator", "dict_reverseitemiterator", "odict_iterator", "itertools.zip_longest", "itertools.pairwise"].contains n && vs[0]? == some (rawInt _)) = true then _ else _) Q E s;rw[Ia (by intro h;rw[hn, C6]at h;cases h)];exact Ae z))
def Itl(K:Ag)(a:Ah):It:=
 ⟨fun i H=>∃ xs x,SqL K H a xs∧xs[i]?=some x,fun i H x H'=>H'=H∧∀ xs,SqL K H a xs→xs[i]?=some x,fun i H=>∃ xs,SqL K H a xs∧xs.length≤i⟩
def Itt(K:Ag)(a:Ah):It:=
 ⟨fun i H=>∃ xs x,SqT K H a xs∧xs[i]?=some x,fun i H x H'=>H'=H∧∀ xs,SqT K H a xs→xs[i]?=some x,fun i H=>∃ xs,SqT K H a xs∧xs.length≤i⟩
def Itr(lo:Int)(n:Nat):It:=⟨fun i _=>i < n,fun i H x H'=>H'=H∧x=.int (lo + i),fun i _=>n≤i⟩
theorem aC8{P:Ay}{w:AV}{K:Ag}{tg:Bf}(a it:Ah):aC7 P w K tg (Itl K a) [it] it (fun i h=>h.IsListIter it a i) where
 mem:=by simp
 obj:=fun i h st b F=>by
  have e:b=it:=by simpa using F
  subst e;obtain⟨o,e,c,d⟩:=st;exact⟨o,e,fun v z=>by rw[d]at z;cases z⟩
 keep:=fun i h h' st k=>st.at fun o e=>k it (by simp) o e
 item:=by
  intro X W hw U hc i fc s σ H E I O st Y;subst W hw U;obtain⟨xs,x,hq,hx⟩:=Y;obtain⟨its,rv,p,hz⟩:=I.list hq;obtain⟨u,hu,ru⟩:=rv.get hx;obtain⟨f0,f1,f2,f3,f4,f5⟩:=O it (by simp);refine wpAny_pyNext_list_item st p.isList (x:=u) (by simpa using hu) fun h' J sb=>?_;have I1:Inv X fc σ H { s with heap:=h' }:=I.turned (t':=s.toks) (fun b o F e=>(sb.2 b F).trans e) f0 f1 f3 f4 f5;obtain⟨o,e,c,d⟩:=id J;exact⟨u,rfl,aB0 (s:={ s with heap:=h' }) e c d (by decide) ⟨x,H,I1,ru,⟨rfl,fun ys hy=>by rw[I.list_inj hy hq];exact hx⟩,J,fun b F=>(O b F).1⟩⟩
 done:=by
  intro X W hw U hc i fc s σ H E I O st Y;subst W hw U;obtain⟨xs,hq,hx⟩:=Y;obtain⟨its,rv,p,hz⟩:=I.list hq;obtain⟨f0,f1,f2,f3,f4,f5⟩:=O it (by simp);have hl:=rv.length;exact wpAny_pyNext_list_end (I.ok.hd hc) st p.isList (by simp;omega) fun h' Z=>⟨rfl,I.turned (t':=s.toks) (fun b o F e=>Z b o F e) f0 f1 f3 f4 f5⟩
 self:=fun _ _ _ _ _ st h=>wpAny_pyIter_listiter st h
theorem aA0{P:Ay}{w:AV}{K:Ag}{tg:Bf}(a it:Ah):aC7 P w K tg (Itt K a) [it] it (fun i h=>h.IsTupleIter it a i) where
 mem:=by simp
 obj:=fun i h st b F=>by
  have e:b=it:=by simpa using F
  subst e;obtain⟨o,e,c,d⟩:=st;exact⟨o,e,fun v z=>by rw[d]at z;cases z⟩
 keep:=fun i h h' st k=>st.at fun o e=>k it (by simp) o e
 item:=by
  intro X W hw U hc i fc s σ H E I O st Y;subst W hw U;obtain⟨xs,x,hq,hx⟩:=Y;obtain⟨its,rv,p,hz⟩:=I.tuple hq;obtain⟨u,hu,ru⟩:=rv.get hx;obtain⟨f0,f1,f2,f3,f4,f5⟩:=O it (by simp);refine wpAny_pyNext_tuple_item st (show s.heap.IsTuple a its.toArray from p) (x:=u) (by simpa using hu) fun h' J sb=>?_;have I1:Inv X fc σ H { s with heap:=h' }:=I.turned (t':=s.toks) (fun b o F e=>(sb.2 b F).trans e) f0 f1 f3 f4 f5;obtain⟨o,e,c,d⟩:=id J;exact⟨u,rfl,aB0 (s:={ s with heap:=h' }) e c d (by decide) ⟨x,H,I1,ru,⟨rfl,fun ys hy=>by rw[I.tuple_inj hy hq];exact hx⟩,J,fun b F=>(O b F).1⟩⟩
 done:=by
  intro X W hw U hc i fc s σ H E I O st Y;subst W hw U;obtain⟨xs,hq,hx⟩:=Y;obtain⟨its,rv,p,hz⟩:=I.tuple hq;obtain⟨f0,f1,f2,f3,f4,f5⟩:=O it (by simp);have hl:=rv.length;exact wpAny_pyNext_tuple_end (I.ok.hd hc) st (show s.heap.IsTuple a its.toArray from p) (by simp;omega) fun h' Z=>⟨rfl,I.turned (t':=s.toks) (fun b o F e=>Z b o F e) f0 f1 f3 f4 f5⟩
 self:=fun _ _ _ _ _ st h=>wpAny_pyIter_tupleiter st h
theorem aA1{P:Ay}{w:AV}{K:Ag}{tg:Bf}(it:Ah)(lo:Int)(n:Nat):aC7 P w K tg (Itr lo n) [it] it (fun i h=>IsRangeIter h it (lo + (i:Nat) * 1) ((n:Int) - (i:Nat)) 1) where
 mem:=by simp
 obj:=fun i h st b F=>by
  have e:b=it:=by simpa using F
  subst e;exact⟨_,st,fun v z=>by
   have z':FV _=Data.cell v:=z;cases z'⟩
 keep:=fun i h h' st k=>k it (by simp) _ st
 item:=by
  intro X Y hw U hc i fc s σ H E I O st Z;subst Y hw U;obtain⟨f0,f1,f2,f3,f4,f5⟩:=O it (by simp);have W:=Walks.range (prog:=X.prog) (w:=X.w) (I.ok.hd hc) it lo 1 n;refine W.item i s _ _ Z st fun v h' tk hv J kk=>?_;obtain⟨t,rfl⟩:=hv;have I1:Inv X fc σ H { s with heap:=h',toks:=tk }:=I.turned (fun b o F e=>kk b o (by simpa using F) e) f0 f1 f3 f4 f5;refine⟨_,rfl,aB0 (s:={ s with heap:=h',toks:=tk }) (n:="range_iterator") J rfl rfl (by decide) ⟨.int (lo + i),H,I1,⟨t,?_⟩,⟨rfl,rfl⟩,J,fun b F=>(O b F).1⟩⟩;rw[Int.mul_one]
 done:=by
  intro X Y hw U hc i fc s σ H E I O st Z;subst Y hw U;obtain⟨f0,f1,f2,f3,f4,f5⟩:=O it (by simp);exact wpAny_pyNext_range_end (I.ok.hd hc) st (by have:n≤i:=Z;omega) fun h' eb=>⟨rfl,I.turned (t':=s.toks) (fun b o F e=>eb b o F e) f0 f1 f3 f4 f5⟩
 self:=fun _ _ _ _ _ st h=>wpAny_pyIter_rangeiter st h
section
variable{X:Cx}{tg:Bf}
def aJh(K:Ag)(tl:TE):TI:=fun σ H R=>tl σ H fun x H1=>As V.ref x fun a=>(∃ xs,SqL K H1 a xs)∧R (Itl K a) H1
def aKg(K:Ag)(tl:TE):TI:=fun σ H R=>tl σ H fun x H1=>As V.ref x fun a=>(∃ xs,SqT K H1 a xs)∧R (Itt K a) H1
theorem jC{l:Bf}{tl:TE}(O:PE X l tl):PI X tg l (aJh X.K tl):=by
 constructor;intro fc s σ H R I h;refine thn (O fc s σ H _ I h) fun v s1 ⟨x,H1,z,F,J⟩=>?_;obtain⟨a,e,⟨xs,hq⟩,q⟩:=J;subst e;cases F;obtain⟨its,rv,p,hz⟩:=z.list hq;refine EO p.isList ?_;refine⟨s1.heap.objs.size,[s1.heap.objs.size],_,_,H1,rfl,z.kept (t':=s1.toks) fun b o e=>Ai _ e,aC8 a _,⟨_,Aq _ rfl,rfl,rfl⟩,fun b U=>?_,q⟩;have e:b=s1.heap.objs.size:=by simpa using U
 subst e;exact z.fpOk (Ap _) (z.hok.fresh (Ap _))
theorem jO{l:Bf}{tl:TE}(O:PE X l tl):PI X tg l (aKg X.K tl):=by
 constructor;intro fc s σ H R I h;refine thn (O fc s σ H _ I h) fun v s1 ⟨x,H1,z,F,J⟩=>?_;obtain⟨a,e,⟨xs,hq⟩,q⟩:=J;subst e;cases F;obtain⟨its,rv,p,hz⟩:=z.tuple hq;refine wpAny_pyIter_tuple (show s1.heap.IsTuple a its.toArray from p) ?_;refine⟨s1.heap.objs.size,[s1.heap.objs.size],_,_,H1,rfl,z.kept (t':=s1.toks) fun b o e=>Ai _ e,aA0 a _,⟨_,Aq _ rfl,rfl,rfl⟩,fun b U=>?_,q⟩;have e:b=s1.heap.objs.size:=by simpa using U
 subst e;exact z.fpOk (Ap _) (z.hok.fresh (Ap _))
theorem yU{fc:List (Ah×Obj)}{σ:St}{H:Hp}{s:Ad}{R:It→Hp→Prop}{E:Ac→Ad→Prop}{lo hi:Int}{t u v:Tok}{tk:Nat}(I:Inv X fc σ H s)(h1:-(2 ^ 62)≤lo)(h2:lo < 2 ^ 62)(F:-(2 ^ 62)≤hi)(U:hi < 2 ^ 62)
  (q:R (Itr lo (hi - lo).toNat) H):wpAny (model X.prog X.w) X.A (pyIter (.ref s.heap.objs.size)) (PIE X fc σ tg R) E { s with heap:=s.heap.push { cls:=.type "range",data:=.fields #[.int lo t,.int hi u,.int 1 v] },toks:=tk }:=by
 refine wpAny_pyIter_range (IsRange.new ..) (small_one h1 h2 F U) ?_;have z:Inv X fc σ H { s with heap:=s.heap.push { cls:=.type "range",data:=.fields #[.int lo t,.int hi u,.int 1 v] },toks:=tk }:=I.kept fun b o e=>Ai _ e;refine⟨(s.heap.push { cls:=.type "range",data:=.fields #[.int lo t,.int hi u,.int 1 v] }).objs.size,[(s.heap.push { cls:=.type "range",data:=.fields #[.int lo t,.int hi u,.int 1 v] }).objs.size],_,_,H,rfl,
  z.kept (t':=tk) fun b o e=>Ai _ e,aA1 _ lo (hi - lo).toNat,?_,fun b W=>?_,q⟩
 ·have J:lo + ((0:Nat):Int) * 1=lo:=by simp
  have O:(((hi - lo).toNat:Nat):Int) - ((0:Nat):Int)=Builtin.Range.rangeSize lo hi 1:=by rw[rangeSize_one];split <;> omega
  show IsRangeIter _ _ (lo + ((0:Nat):Int) * 1) ((((hi - lo).toNat:Nat):Int) - ((0:Nat):Int)) 1;rw[J,O];exact Aq _ rfl
 ·have e:b=(s.heap.push { cls:=.type "range",data:=.fields #[.int lo t,.int hi u,.int 1 v] }).objs.size:=by simpa using W
  subst e;exact z.fpOk (Ap _) (z.hok.fresh (Ap _))
def aJi(ta:TA):TI:=fun σ H R=>ta σ H fun vs H1=>∃ j:Int,vs=[.int j]∧-(2 ^ 62)≤j∧j < 2 ^ 62∧R (Itr 0 j.toNat) H1
def aJj(ta:TA):TI:=fun σ H R=>ta σ H fun vs H1=>∃ i j:Int,vs=[.int i,.int j]∧(-(2 ^ 62)≤i∧i < 2 ^ 62∧-(2 ^ 62)≤j∧j < 2 ^ 62)∧R (Itr i (j - i).toNat) H1
theorem fE{a:Bf}{ta:TA}{p pos:Pos}(W:Gl X "range")(hm:X.mg "range"=none)(ha:PA X [a] ta)(F:starEach [a] X.env=[(false,eval a X.env)]:=by rfl):PI X tg (.Call (.Name "range" p) [a] [] pos) (aJi ta):=by
 constructor;intro fc s σ H R I h;refine Call_ (o8 I W hm boot_range (DW (thn (ha pos fc s σ H _ I h) fun Y s1 ⟨vs,H1,J,O,z⟩=>?_) F rfl));obtain⟨j,e,z,q2,q⟩:=z;subst e;cases O with
 | cons r U=>
  cases U;obtain⟨t,rfl⟩:=r;exact call_range_1 (yU J (by omega) (by omega) z q2 (by simpa using q))
theorem aC9{a b:Bf}{ta:TA}{p pos:Pos}(Z:Gl X "range")(hm:X.mg "range"=none)(ha:PA X [a,b] ta)(O:starEach [a,b] X.env=[(false,eval a X.env),(false,eval b X.env)]:=by rfl)(z:starEach [b] X.env=[(false,eval b X.env)]:=by rfl):
  PI X tg (.Call (.Name "range" p) [a,b] [] pos) (aJj ta):=by
 constructor;intro fc s σ H R I h;refine Call_ (o8 I Z hm boot_range (DW (thn (ha pos fc s σ H _ I h) fun us s1 ⟨vs,H1,U,W,F⟩=>?_) (by rw[O,z]) (by rw[z];rfl)));obtain⟨i,j,e,⟨F,q2,q3,q4⟩,q⟩:=F;subst e;cases W with
 | cons r J=>
  cases J with
  | cons Y J=>
   cases J;obtain⟨t,rfl⟩:=r;obtain⟨t',rfl⟩:=Y;exact call_range_2 (yU U F q2 q3 q4 q)
def aKh(wi:TI)(g:TG)(tb:TS):TS:=fun D σ H=>wi σ H fun J H1=>∃ W:Nat→Nat→St→Hp→Prop,(∃ m,W 0 m σ H1)∧∀ i m σ H,W i m σ H→
 (J.stop i H∧D.nx σ H)∨(J.go i H∧∃ N:St→Hp→Prop,(∀ σ' H',N σ' H'→∃ m',m' < m∧W (i + 1) m' σ' H')∧∀ x H',J.yld i H x H'→g x σ H' fun σ2 H2=>tb { D with nx:=N,ct:=N,bk:=D.nx } σ2 H2)
def nN(fp:List Ah)(h:Ba):List (Ah×Obj):=fp.filterMap fun b=>(h.get? b).map fun o=>(b,o)
theorem kX{fp:List Ah}{h:Ba}{b:Ah}{o:Obj}(z:b∈fp)(e:h.get? b=some o):(b,o)∈nN fp h:=A4.mpr ⟨b,z,by rw[e];rfl⟩
theorem vK{fp:List Ah}{h:Ba}{p:Ah×Obj}(z:p∈nN fp h):p.1∈fp∧h.get? p.1=some p.2:=by
 obtain⟨b,hb,e⟩:=A4.mp z;cases q:h.get? b with
 | none=>rw[q]at e;cases e
 | some o=>
  rw[q]at e;have F:(b,o)=p:=Cb.inj e;subst F;exact⟨hb,q⟩
theorem Inv.pinned{fc:List (Ah×Obj)}{σ:St}{H:Hp}{s:Ad}{fp:List Ah}(I:Inv X fc σ H s)(J:∀ b∈fp,lE X fc H b)(F:∀ b∈fp,∃ o,s.heap.get? b=some o∧∀ v,o.data≠.cell v):Inv X (fc ++ nN fp s.heap) σ H s:=
 I.pins_of fun p O=>(Az.mp O).elim (fun z=>I.pin p (A2 _ z)) fun z=>by
  obtain⟨hb,e⟩:=vK z;obtain⟨f0,f1,f2,_⟩:=J p.1 hb;obtain⟨o,e',d⟩:=F p.1 hb;rw[e]at e';cases e';exact⟨e,f0,f1,f2,d⟩
theorem Inv.unpinned{fc pl:List (Ah×Obj)}{σ:St}{H:Hp}{s:Ad}(I:Inv X (fc ++ pl) σ H s):Inv X fc σ H s:=I.pins_of fun p z=>I.pin p (A2 _ (D9 _ z))
theorem jP{F:Bf}{Z:List B3}{wi:TI}{g:TG}{tb:TS}{pos:Pos}(hp:PassesOwn (model X.prog X.w) X.A X.env X.xe)(hc:X.calm=true)(hi:PI X tg F wi)(hg:PG X tg g)(Y:PSs X Z tb)
  (hs:∀ x,foldedSetIterable F X.env x=pure x:=by intro _;rfl):PS X (.For tg F Z [] pos) (aKh wi g tb):=by
 constructor;intro fc s σ H D I h;refine wpAny_For (thn (hi fc s σ H _ I h) fun v s1 h1=>thn h1 fun aD s2 h2=>?_) hs;obtain⟨it,fp,tn,J,H2,e,I2,T,st2,f2,W,⟨m0,w0⟩,turn⟩:=h2;subst e;have z:∀{H':Hp},(∀ b∈fp,H' b=none)→∀ b∈fp,lE X fc H' b:=fun hn b Y=>⟨hn b Y,(f2 b Y).2⟩
 refine codeAny_forLoop_any (fun n s'=>∃ i σ' H',Inv X fc σ' H' s'∧tn i s'.heap∧(∀ b∈fp,H' b=none)∧W i n σ' H') ?_ m0 ⟨0,σ,H2,I2,st2,fun b Y=>(f2 b Y).1,w0⟩;rintro n s3 ⟨i,σ3,H3,I3,ad,af,w3⟩;rcases turn i n σ3 H3 w3 with⟨stop,qn⟩ | ⟨go,N,hN,step⟩
 ·refine Dg hp (thn (T.done X rfl rfl rfl hc i fc s3 σ3 H3 X.xe I3 (z af) ad stop) fun r s4 ⟨hr,I4⟩=>?_);subst hr;exact Dh ⟨σ3,H3,I4,qn⟩
 ·refine Dg hp (thn (T.item X rfl rfl rfl hc i fc s3 σ3 H3 X.xe I3 (z af) ad go) fun r s4 ⟨u,hr,h4⟩=>?_);subst hr;refine Dg hp (thn h4 fun _ s5 ⟨x,H5,I5,r5,y5,ac,an⟩=>?_);have ak:=I5.pinned (z an) (T.obj _ _ ac);refine Dg hp (thn (hg _ s5 σ3 H5 x u _ ak r5 (step x H5 y5)) fun _ s6 ⟨σ6,H6,I6,q6⟩=>?_);refine Dg hp (thn (Y _ s6 σ6 H6 _ I6 q6) fun f s7 q7=>?_);have again:∀{O:St} {U:Hp},Inv X (fc ++ nN fp s5.heap) O U s7→N O U→∃ m,m < n∧∃ i σ' H',Inv X fc σ' H' s7∧tn i s7.heap∧(∀ b∈fp,H' b=none)∧W i m σ' H':=fun{O U} I7 n7=>by
   obtain⟨m',hm,w7⟩:=hN O U n7;refine⟨m',hm,i + 1,O,U,I7.unpinned,T.keep _ _ _ ac fun b Y o e=>(I7.pin (b,o) (A2 _ (A2 _ (kX Y e)))).1,fun b Y=>?_,w7⟩;obtain⟨o,e,d⟩:=T.obj _ _ ac b Y;exact(I7.pin (b,o) (A2 _ (A2 _ (kX Y e)))).2.1
  cases f with
  | next=>obtain⟨O,U,I7,n7⟩:=q7;exact again I7 n7
  | cont=>obtain⟨O,U,I7,n7⟩:=q7;exact again I7 n7
  | brk=>obtain⟨O,U,I7,q7⟩:=q7;exact⟨O,U,I7.unpinned,q7⟩
  | ret v=>obtain⟨x7,O,U,I7,r7,q7⟩:=q7;exact⟨x7,O,U,I7.unpinned,r7,q7⟩
end
theorem rL{K:Ag}{a:Ah}{xs:List V}{g:TG}{tb:TS}{D:mY}{σ:St}{H:Hp}(z:Nat→St→Hp→Prop)(Z:z 0 σ H)(hl:∀ i σ H,i≤xs.length→z i σ H→SqL K H a xs)
  (Y:∀ i x σ H,xs[i]?=some x→z i σ H→g x σ H fun J H2=>tb { D with nx:=z (i + 1),ct:=z (i + 1),bk:=D.nx } J H2) (hd:∀ σ H,z xs.length σ H→D.nx σ H):
  ∃ W:Nat→Nat→St→Hp→Prop,(∃ m,W 0 m σ H)∧∀ i m σ H,W i m σ H→
   ((Itl K a).stop i H∧D.nx σ H)∨((Itl K a).go i H∧∃ N:St→Hp→Prop,(∀ O H',N O H'→∃ U,U < m∧W (i + 1) U O H')∧∀ x H',(Itl K a).yld i H x H'→g x σ H' fun J H2=>tb { D with nx:=N,ct:=N,bk:=D.nx } J H2):=by
 refine⟨fun i m σ H=>m=xs.length - i∧i≤xs.length∧z i σ H,⟨xs.length,by simp,Bo _,Z⟩,?_⟩;rintro i m σ H ⟨rfl,hi,p⟩;have q:=hl i σ H hi p;by_cases F:i < xs.length
 ·refine .inr ⟨⟨xs,xs[i],q,by simp[F]⟩,z (i + 1),fun O H' p'=>⟨xs.length - (i + 1),by omega,rfl,F,p'⟩,fun x H' y=>?_⟩;obtain⟨e,y⟩:=y;subst e;exact Y i x σ _ (y xs q) p
 ·have e:i=xs.length:=by omega
  subst e;exact .inl ⟨⟨xs,q,Ap _⟩,hd σ H p⟩
theorem aGn{K:Ag}{a:Ah}{xs:List V}{g:TG}{tb:TS}{D:mY}{σ:St}{H:Hp}(z:Nat→St→Hp→Prop)(Z:z 0 σ H)(hl:∀ i σ H,i≤xs.length→z i σ H→SqT K H a xs)
  (Y:∀ i x σ H,xs[i]?=some x→z i σ H→g x σ H fun J H2=>tb { D with nx:=z (i + 1),ct:=z (i + 1),bk:=D.nx } J H2) (hd:∀ σ H,z xs.length σ H→D.nx σ H):
  ∃ W:Nat→Nat→St→Hp→Prop,(∃ m,W 0 m σ H)∧∀ i m σ H,W i m σ H→
   ((Itt K a).stop i H∧D.nx σ H)∨((Itt K a).go i H∧∃ N:St→Hp→Prop,(∀ O H',N O H'→∃ U,U < m∧W (i + 1) U O H')∧∀ x H',(Itt K a).yld i H x H'→g x σ H' fun J H2=>tb { D with nx:=N,ct:=N,bk:=D.nx } J H2):=by
 refine⟨fun i m σ H=>m=xs.length - i∧i≤xs.length∧z i σ H,⟨xs.length,by simp,Bo _,Z⟩,?_⟩;rintro i m σ H ⟨rfl,hi,p⟩;have q:=hl i σ H hi p;by_cases F:i < xs.length
 ·refine .inr ⟨⟨xs,xs[i],q,by simp[F]⟩,z (i + 1),fun O H' p'=>⟨xs.length - (i + 1),by omega,rfl,F,p'⟩,fun x H' y=>?_⟩;obtain⟨e,y⟩:=y;subst e;exact Y i x σ _ (y xs q) p
 ·have e:i=xs.length:=by omega
  subst e;exact .inl ⟨⟨xs,q,Ap _⟩,hd σ H p⟩
theorem iQ{lo:Int}{n:Nat}{g:TG}{tb:TS}{D:mY}{σ:St}{H:Hp}(F:Nat→St→Hp→Prop)(Z:F 0 σ H)
  (Y:∀ i σ H,i < n→F i σ H→g (.int (lo + i)) σ H fun J H2=>tb { D with nx:=F (i + 1),ct:=F (i + 1),bk:=D.nx } J H2) (hd:∀ σ H,F n σ H→D.nx σ H):
  ∃ W:Nat→Nat→St→Hp→Prop,(∃ m,W 0 m σ H)∧∀ i m σ H,W i m σ H→
   ((Itr lo n).stop i H∧D.nx σ H)∨((Itr lo n).go i H∧∃ N:St→Hp→Prop,(∀ O H',N O H'→∃ U,U < m∧W (i + 1) U O H')∧∀ x H',(Itr lo n).yld i H x H'→g x σ H' fun J H2=>tb { D with nx:=N,ct:=N,bk:=D.nx } J H2):=by
 refine⟨fun i m σ H=>m=n - i∧i≤n∧F i σ H,⟨n,by simp,Bo _,Z⟩,?_⟩;rintro i m σ H ⟨rfl,hi,p⟩;by_cases z:i < n
 ·refine .inr ⟨z,F (i + 1),fun O H' p'=>⟨n - (i + 1),by omega,rfl,z,p'⟩,fun x H' y=>?_⟩;obtain⟨e,y⟩:=y;subst e y;exact Y i σ _ z p
 ·have e:i=n:=by omega
  subst e;exact .inl ⟨Ap _,hd σ H p⟩
abbrev R2:=V→V→Hp→VK→Prop
def OpR(X:Cx)(f:Ac→Ac→Sem Ac)(r:R2):Prop:=
 ∀(fc:List (Ah×Obj)) (s:Ad) (σ:St) (H:Hp) (x y:V) (v u:Ac) (Q:VK),Inv X fc σ H s→c5 x v→c5 y u→r x y H Q→
  wpAny (model X.prog X.w) X.A (f v u) (EP X fc σ Q) X.xe s
def UnR(X:Cx)(f:Ac→Sem Ac)(r:V→Hp→VK→Prop):Prop:=
 ∀(fc:List (Ah×Obj)) (s:Ad) (σ:St) (H:Hp) (x:V) (v:Ac) (Q:VK),Inv X fc σ H s→c5 x v→r x H Q→
  wpAny (model X.prog X.w) X.A (f v) (EP X fc σ Q) X.xe s
def eY(X:Cx)(f:Ac)(r:List V→Hp→VK→Prop):Prop:=
 ∀(fc:List (Ah×Obj)) (s:Ad) (σ:St) (H:Hp) (xs:List V) (us:List Ac) (Q:VK),Inv X fc σ H s→cG xs us→r xs H Q→
  wpAny (model X.prog X.w) X.A (call f us) (EP X fc σ Q) X.xe s
def tOp(r:R2)(ta tb:TE):TE:=fun σ H Q=>ta σ H fun x H1=>tb σ H1 fun y H2=>r x y H2 Q
def tUn(r:V→Hp→VK→Prop)(ta:TE):TE:=fun σ H Q=>ta σ H fun x H1=>r x H1 Q
inductive aJk(C:Int→Int→Prop)(g:Int→Int→V)(x:V)(y:V)(H:Hp)(Q:VK):Prop
 | mk (i:_) (j:_) (q0:x=.int i) (q1:y=.int j) (q2:C i j) (q3:Q (g i j) H):aJk C g x y H Q
def rI(C:Int→Int→Prop)(g:Int→Int→V):R2:=fun x y H Q=>aJk C g x y H Q
inductive aHs(g:Int→Int→V)(x:V)(y:V)(H:Hp)(Q:VK):Prop
 | mk (i:_) (j:_) (q0:x=.int i) (q1:y=.int j) (q2:Q (g i j) H):aHs g x y H Q
def rI0(g:Int→Int→V):R2:=fun x y H Q=>aHs g x y H Q
inductive aJl(g:Int→V)(x:V)(H:Hp)(Q:VK):Prop
 | mk (i:_) (q0:x=.int i) (q1:Q (g i) H):aJl g x H Q
def rU(g:Int→V):V→Hp→VK→Prop:=fun x H Q=>aJl g x H Q
section
variable{X:Cx}{a b c:Bf}{ta tb tc:TE}{pos:Pos}
theorem aH8(ha:PE X a ta)(hb:PE X b tb){fc:List (Ah×Obj)}{s:Ad}{σ:St}{H:Hp}{R:V→V→Hp→Prop}(I:Inv X fc σ H s)
  (h:ta σ H fun x H1=>tb σ H1 fun y H2=>R x y H2) {Q:Ac→Ad→Prop} {f:Ac→Ac→Sem Ac}
  (Y:∀ v u z x y H2,Inv X fc σ H2 z→c5 x v→c5 y u→R x y H2→wpAny (model X.prog X.w) X.A (f v u) Q X.xe z):
  wpAny (model X.prog X.w) X.A (eval a X.env) (fun v s₁=>wpAny (model X.prog X.w) X.A (eval b X.env) (fun u s₂=>wpAny (model X.prog X.w) X.A (f v u) Q X.xe s₂) X.xe s₁) X.xe s:=by
 refine thn (ha fc s σ H _ I h) fun v s1 ⟨x,H1,O,U,W⟩=>?_;refine thn (hb fc s1 σ H1 _ O W) fun u z ⟨y,H2,Z,J,F⟩=>?_;exact Y v u z x y H2 Z U J F
theorem aX{z:Operator}{r:R2}(O:OpR X (binaryOp z) r)(ha:PE X a ta)(W:PE X b tb):PE X (.BinOp a z b pos) (tOp r ta tb):=by
 constructor;intro fc s σ H Q I h;exact wpAny_BinOp (aH8 ha W I h fun v u U x y H2 J Y F q=>O fc U σ H2 x y v u Q J Y F q)
theorem aHt{z:UnaryOp}{r:V→Hp→VK→Prop}(O:UnR X (unaryOp z) r)(ha:PE X a ta):PE X (.UnaryOp z a pos) (tUn r ta):=by
 constructor;intro fc s σ H Q I h;exact UnaryOp_ (thn (ha fc s σ H _ I h) fun v s1 ⟨x,H1,F,J,U⟩=>O fc s1 σ H1 x v Q F J U)
theorem opI{f:Ac→Ac→Sem Ac}{C:Int→Int→Prop}{g:Int→Int→Int}
  (z:∀(i j:Int) (t u:Tok) (s:Ad) (Q:Ac→Ad→Prop) (E:Ac→Ad→Prop),C i j→Q (.int (g i j) s.toks) { s with toks:=s.toks + 1 }→wpAny (model X.prog X.w) X.A (f (.int i t) (.int j u)) Q E s):
  OpR X f (rI C fun i j=>.int (g i j)):=by
 intro fc s σ H x y v u Q I J F h;obtain⟨i,j,rfl,rfl,hc,q⟩:=h;obtain⟨t,rfl⟩:=J;obtain⟨t',rfl⟩:=F;exact z i j t t' s _ _ hc ⟨.int (g i j),H,I.tok _,⟨_,rfl⟩,q⟩
theorem aJm{f:Ac→Ac→Sem Ac}{g:Int→Int→Int}
  (z:∀(i j:Int) (t u:Tok) (s:Ad) (Q:Ac→Ad→Prop) (E:Ac→Ad→Prop),Q (.int (g i j) s.toks) { s with toks:=s.toks + 1 }→wpAny (model X.prog X.w) X.A (f (.int i t) (.int j u)) Q E s):
  OpR X f (rI0 fun i j=>.int (g i j)):=by
 intro fc s σ H x y v u Q I J F h;obtain⟨i,j,rfl,rfl,q⟩:=h;obtain⟨t,rfl⟩:=J;obtain⟨t',rfl⟩:=F;exact z i j t t' s _ _ ⟨.int (g i j),H,I.tok _,⟨_,rfl⟩,q⟩
theorem aGo{f:Ac→Ac→Sem Ac}{g:Int→Int→Bool}
  (z:∀(i j:Int) (t u:Tok) (s:Ad) (Q:Ac→Ad→Prop) (E:Ac→Ad→Prop),Q (.bool (g i j)) s→wpAny (model X.prog X.w) X.A (f (.int i t) (.int j u)) Q E s):
  OpR X f (rI0 fun i j=>.bl (g i j)):=by
 intro fc s σ H x y v u Q I J F h;obtain⟨i,j,rfl,rfl,q⟩:=h;obtain⟨t,rfl⟩:=J;obtain⟨t',rfl⟩:=F;exact z i j t t' s _ _ ⟨.bl (g i j),H,I,rfl,q⟩
def aKi(i j:Int):Prop:=0 < j∧j < 1073741824
def aH9(i j:Int):Prop:=0≤j∧j≤1000000∧i.natAbs < 2 ^ 64
def aIa(i j:Int):Prop:=(-(2 ^ 64) < i∧i < 2 ^ 64)∨(-(2 ^ 64) < j∧j < 2 ^ 64)
theorem aIa.ok{i j:Int}(h:aIa i j):IntMulOk i j:=by
 rcases h with⟨h1,h2⟩ | ⟨h1,h2⟩
 ·exact .of_left (intBits_le_64 h1 h2)
 ·exact .of_right (intBits_le_64 h1 h2)
theorem dF:OpR X (binaryOp .Add) (rI0 fun i j=>.int (i + j)):=aJm fun _ _ _ _ _ _ _ q=>add_int q
theorem iX:OpR X (binaryOp .Sub) (rI0 fun i j=>.int (i - j)):=aJm fun _ _ _ _ _ _ _ q=>sub_int q
theorem kY:OpR X (binaryOp .Mult) (rI aIa fun i j=>.int (i * j)):=opI fun _ _ _ _ _ _ _ hc q=>mul_int q hc.ok
theorem w8:OpR X (binaryOp .FloorDiv) (rI aKi fun i j=>.int (i / j)):=opI fun i j _ _ _ _ _ hc q=>by
 have h1:(0:Int) < j:=hc.1;have h2:j < 1073741824:=hc.2;exact floordiv_int (by omega) (by rw[Int.fdiv_eq_ediv_of_nonneg i (by omega)];exact q) (.inl (PyProof.noPylong_small (by omega)))
theorem f7:OpR X (binaryOp .Mod) (rI (fun _ j=>0 < j) fun i j=>.int (i % j)):=opI fun i j _ _ _ _ _ hc q=>by
 have h1:(0:Int) < j:=hc;exact mod_int' (by omega) (by rw[Int.fmod_eq_emod_of_nonneg i (by omega)];exact q)
theorem iC:OpR X (binaryOp .Pow) (rI aH9 fun i j=>.int (i ^ j.toNat)):=opI fun _ _ _ _ _ _ _ hc q=>pow_int_small hc.1 hc.2.1 hc.2.2 q
theorem unI{f:Ac→Sem Ac}{g:Int→Int}
  (z:∀(i:Int) (t:Tok) (s:Ad) (Q:Ac→Ad→Prop) (E:Ac→Ad→Prop),Q (.int (g i) s.toks) { s with toks:=s.toks + 1 }→wpAny (model X.prog X.w) X.A (f (.int i t)) Q E s):
  UnR X f (rU fun i=>.int (g i)):=by
 intro fc s σ H x v Q I F h;obtain⟨i,rfl,q⟩:=h;obtain⟨t,rfl⟩:=F;exact z i t s _ _ ⟨.int (g i),H,I.tok _,⟨_,rfl⟩,q⟩
theorem aEb:UnR X (unaryOp .USub) (rU fun i=>.int (-i)):=unI fun _ _ _ _ _ q=>neg_int q
end
def aJn:V→V→Bool
 | .non,.non=>true | .non,.int _=>true | .int _,.non=>true | .non,.bl _=>true | .bl _,.non=>true | .non,.str _=>true | .str _,.non=>true
 | .int _,.int _=>true | .bl _,.bl _=>true | .str _,.str _=>true | .byt _,.byt _=>true
 | .int _,.str _=>true | .str _,.int _=>true | .bl _,.str _=>true | .str _,.bl _=>true
 | _,_=>false
def rEq:R2:=fun x y H Q=>aJn x y=true∧Q (.bl (decide (x=y))) H
def rNe:R2:=fun x y H Q=>aJn x y=true∧Q (.bl (!decide (x=y))) H
theorem aB1{i j:Int}:decide (V.int i=V.int j)=(i == j):=by
 rw[Cq];simp
theorem aEc{i j:Bool}:decide (V.bl i=V.bl j)=(i == j):=by
 rw[Cq];simp
theorem aB2{i j:Str}:decide (V.str i=V.str j)=(i == j):=by
 rw[Cq];simp
theorem aB3{i j:Array UInt8}:decide (V.byt i=V.byt j)=(i.toList == j.toList):=by
 rw[Cq];cases i;cases j;simp
section
variable{X:Cx}{a b c:Bf}{ta tb tc:TE}{pos:Pos}
theorem dC{fc:List (Ah×Obj)}{σ:St}{H:Hp}{s:Ad}{Q:VK}{k z:Bool}(I:Inv X fc σ H s)(q:Q (.bl k) H)(e:k=z):EP X fc σ Q (.bool z) s:=by
 subst e;exact⟨.bl k,H,I,rfl,q⟩
theorem dM:OpR X (compareOp .Eq) rEq:=by
 intro fc s σ H x y v u Q I F z h;obtain⟨hs,q⟩:=h;cases x with
 | non=>
  cases F;cases y with
  | non=>cases z;exact PySem.EqNone.eq_none_none (dC I q (by simp))
  | bl j=>cases z;exact PySem.EqNone.eq_none_bool (dC I q (by simp))
  | int j=>obtain⟨t',rfl⟩:=z;exact PySem.EqNone.eq_none_int (dC I q (by simp))
  | str j=>obtain⟨t',rfl⟩:=z;exact PySem.EqNone.eq_none_str (dC I q (by simp))
  | _=>exact absurd (show false=true from hs) AN
 | bl i=>
  cases F;cases y with
  | non=>cases z;exact PySem.EqNone.eq_bool_none (dC I q (by simp))
  | bl j=>cases z;exact eq_bool (dC I q aEc)
  | str j=>obtain⟨t',rfl⟩:=z;exact PySem.EqMixed.eq_bool_str (dC I q (by simp))
  | _=>exact absurd (show false=true from hs) AN
 | int i=>
  obtain⟨t,rfl⟩:=F;cases y with
  | non=>cases z;exact PySem.EqNone.eq_int_none (dC I q (by simp))
  | int j=>obtain⟨t',rfl⟩:=z;exact eq_int (dC I q aB1)
  | str j=>obtain⟨t',rfl⟩:=z;exact PySem.EqMixed.eq_int_str (dC I q (by simp))
  | _=>exact absurd (show false=true from hs) AN
 | str i=>
  obtain⟨t,rfl⟩:=F;cases y with
  | non=>cases z;exact PySem.EqNone.eq_str_none (dC I q (by simp))
  | bl j=>cases z;exact PySem.EqMixed.eq_str_bool (dC I q (by simp))
  | int j=>obtain⟨t',rfl⟩:=z;exact PySem.EqMixed.eq_str_int (dC I q (by simp))
  | str j=>obtain⟨t',rfl⟩:=z;exact eq_str (dC I q aB2)
  | _=>exact absurd (show false=true from hs) AN
 | byt i=>
  obtain⟨t,rfl⟩:=F;cases y with
  | byt j=>obtain⟨t',rfl⟩:=z;exact PySem.W.eq_bytes (dC I q aB3)
  | _=>exact absurd (show false=true from hs) AN
 | _=>cases y <;> exact absurd (show false=true from hs) AN
theorem vL:OpR X (compareOp .NotEq) rNe:=by
 intro fc s σ H x y v u Q I F z h;obtain⟨hs,q⟩:=h;cases x with
 | non=>
  cases F;cases y with
  | non=>cases z;exact PySem.EqNone.ne_none_none (dC I q (by simp))
  | bl j=>cases z;exact PySem.EqNone.ne_none_bool (dC I q (by simp))
  | int j=>obtain⟨t',rfl⟩:=z;exact PySem.EqNone.ne_none_int (dC I q (by simp))
  | str j=>obtain⟨t',rfl⟩:=z;exact PySem.EqNone.ne_none_str (dC I q (by simp))
  | _=>exact absurd (show false=true from hs) AN
 | bl i=>
  cases F;cases y with
  | non=>cases z;exact PySem.EqNone.ne_bool_none (dC I q (by simp))
  | bl j=>cases z;exact ne_bool (dC I q (congrArg not aEc))
  | str j=>obtain⟨t',rfl⟩:=z;exact PySem.EqMixed.ne_bool_str (dC I q (by simp))
  | _=>exact absurd (show false=true from hs) AN
 | int i=>
  obtain⟨t,rfl⟩:=F;cases y with
  | non=>cases z;exact PySem.EqNone.ne_int_none (dC I q (by simp))
  | int j=>obtain⟨t',rfl⟩:=z;exact ne_int (dC I q (congrArg not aB1))
  | str j=>obtain⟨t',rfl⟩:=z;exact PySem.EqMixed.ne_int_str (dC I q (by simp))
  | _=>exact absurd (show false=true from hs) AN
 | str i=>
  obtain⟨t,rfl⟩:=F;cases y with
  | non=>cases z;exact PySem.EqNone.ne_str_none (dC I q (by simp))
  | bl j=>cases z;exact PySem.EqMixed.ne_str_bool (dC I q (by simp))
  | int j=>obtain⟨t',rfl⟩:=z;exact PySem.EqMixed.ne_str_int (dC I q (by simp))
  | str j=>obtain⟨t',rfl⟩:=z;exact ne_str (dC I q (congrArg not aB2))
  | _=>exact absurd (show false=true from hs) AN
 | byt i=>
  obtain⟨t,rfl⟩:=F;cases y with
  | byt j=>obtain⟨t',rfl⟩:=z;exact PySem.W.ne_bytes (dC I q (congrArg not aB3))
  | _=>exact absurd (show false=true from hs) AN
 | _=>cases y <;> exact absurd (show false=true from hs) AN
theorem aEd:OpR X (compareOp .Lt) (rI0 fun i j=>.bl (decide (i < j))):=aGo fun _ _ _ _ _ _ _ q=>lt_int q
theorem m3:OpR X (compareOp .LtE) (rI0 fun i j=>.bl (decide (i≤j))):=aGo fun _ _ _ _ _ _ _ q=>le_int q
theorem aEe:OpR X (compareOp .Gt) (rI0 fun i j=>.bl (decide (j < i))):=aGo fun _ _ _ _ _ _ _ q=>gt_int q
theorem aJo:OpR X (compareOp .GtE) (rI0 fun i j=>.bl (decide (j≤i))):=aGo fun _ _ _ _ _ _ _ q=>ge_int q
theorem aGp:OpR X (compareOp .IsNot) (fun x y H Q=>y=.non∧Q (.bl (!decide (x=.non))) H):=by
 intro fc s σ H x y v u Q I z F h;obtain⟨rfl,q⟩:=h;cases F;refine isnot_none_gen (dC I q ?_);cases x <;> first
  | (cases z;rfl)
  | (obtain⟨t,rfl⟩:=z;rfl)
theorem bX(b:Bf){z:Hv}(h:z≠.In:=by decide)(h2:z≠.NotIn:=by decide):behindInMarks z b=false:=by
 have F:(z == CmpOp.In)=false:=by cases z <;> first | rfl | exact absurd rfl h
 have J:(z == CmpOp.NotIn)=false:=by cases z <;> first | rfl | exact absurd rfl h2
 cases b <;> simp[behindInMarks,F,J]
theorem fS{z:Hv}{r:R2}(O:OpR X (compareOp z) r)(ha:PE X a ta)(W:PE X b tb)(hm:behindInMarks z b=false):PE X (.Compare a [z] [b] pos) (tOp r ta tb):=by
 constructor;intro fc s σ H Q I h;exact wpAny_Compare1 (aH8 ha W I h fun v u U x y H2 J Y F q=>O fc U σ H2 x y v u Q J Y F q) hm
def aHu(t:TE):TT:=fun σ H Q=>t σ H fun x H'=>As V.bl x fun k=>Q k H'
theorem bK{F:Hv}{r:R2}(ho:OpR X (compareOp F) r)(ha:PE X a ta)(hb:PE X b tb)(hm:behindInMarks F b=false):PT X (.Compare a [F] [b] pos) (aHu (tOp r ta tb)):=by
 constructor;intro fc s σ H Q I h;refine wpAny_isTrue_Compare1 (thn (ha fc s σ H _ I h) fun v s1 ⟨x,H1,W,Y,Z⟩=>thn (hb fc s1 σ H1 _ W Z) fun u s2 ⟨y,H2,I2,U,O⟩=>
  thn (ho fc s2 σ H2 x y v u _ I2 Y U O) fun c s3 ⟨z,H3,I3,J,k,e,q3⟩=>?_) hm
 subst e;cases J;exact CH ⟨H3,I3,q3⟩
def aEf(r r':R2)(ta tb tc:TE):TE:=fun σ H Q=>ta σ H fun x H1=>tb σ H1 fun y H2=>r x y H2 fun z H3=>As V.bl z fun k=>
 (if k=true then tc σ H3 fun w' H4=>r' y w' H4 Q else Q (.bl false) H3)
theorem rM{O F:Hv}{r r':R2}(ho:OpR X (compareOp O) r)(J:OpR X (compareOp F) r')(ha:PE X a ta)(hb:PE X b tb)(hc:PE X c tc)
  (hm:lastMarks [O,F] [b,c]=false:=by with_unfolding_all rfl):PE X (.Compare a [O,F] [b,c] pos) (aEf r r' ta tb tc):=by
 constructor;intro fc s σ H Q I h;refine Compare_chain (thn (ha fc s σ H _ I h) fun v s1 ⟨x,H1,I1,r1,q1⟩=>chain_link (thn (hb fc s1 σ H1 _ I1 q1) fun u s2 ⟨y,H2,I2,U,q2⟩=>
  thn (ho fc s2 σ H2 x y v u _ I2 r1 U q2) fun d s3 ⟨z,Z,Y,r3,k,e,W⟩=>?_)) hm
 subst e;cases r3;refine CH ?_;cases k with
 | false=>exact ite_ff ⟨.bl false,Z,Y,rfl,W⟩
 | true=>exact ite_tt (chain_last (thn (hc fc s3 σ Z _ Y W) fun w' s4 ⟨z',H4,I4,r4,q4⟩=>J fc s4 σ H4 y z' u w' Q I4 U r4 q4))
theorem rN{O F:Hv}{r r':R2}(ho:OpR X (compareOp O) r)(J:OpR X (compareOp F) r')(ha:PE X a ta)(hb:PE X b tb)(hc:PE X c tc)
  (hm:lastMarks [O,F] [b,c]=false:=by with_unfolding_all rfl):PT X (.Compare a [O,F] [b,c] pos) (aHu (aEf r r' ta tb tc)):=by
 constructor;intro fc s σ H Q I h;refine isTrue_chain (thn (ha fc s σ H _ I h) fun v s1 ⟨x,H1,I1,r1,q1⟩=>test_link (thn (hb fc s1 σ H1 _ I1 q1) fun u s2 ⟨y,H2,I2,U,q2⟩=>
  thn (ho fc s2 σ H2 x y v u _ I2 r1 U q2) fun d s3 ⟨z,Z,Y,r3,k,e,W⟩=>?_)) hm
 subst e;cases r3;refine CH ?_;cases k with
 | false=>
  obtain⟨k',e',q'⟩:=W;cases e';exact ite_ff ⟨Z,Y,q'⟩
 | true=>
  refine ite_tt (test_last (thn (hc fc s3 σ Z _ Y W) fun w' s4 ⟨z',H4,I4,r4,q4⟩=>thn (J fc s4 σ H4 y z' u w' _ I4 U r4 q4) fun d' s5 ⟨z2,H5,I5,r5,k2,e2,q5⟩=>?_));subst e2;cases r5;exact CH ⟨H5,I5,q5⟩
theorem pA:(sizeLine:Nat) < 2 ^ 63:=by rw[Fv];decide
inductive lI(x:V)(y:V)(H:Hp)(Q:VK):Prop
 | mk (i:_) (j:_) (q0:x=.str i) (q1:y=.str j) (q2:i.length + j.length≤sizeLine) (q3:Q (.str (i ++ j)) H):lI x y H Q
def w9:V→V→Hp→VK→Prop:=fun x y H Q=>lI x y H Q
theorem gT:OpR X (binaryOp .Add) w9:=by
 intro fc s σ H x y v u Q I J z h;obtain⟨i,j,rfl,rfl,hz,q⟩:=h;obtain⟨t,rfl⟩:=J;obtain⟨F,rfl⟩:=z;exact add_str (fun F tk=>⟨.str (i ++ j),H,I.tok _,⟨_,rfl⟩,q⟩) hz
theorem gE{x:V}{us:List Ac}(r:cG [x] us):∃ u,us=[u]∧c5 x u:=by
 cases r with
 | cons z F=>cases F;exact⟨_,rfl,z⟩
theorem aEg{x y:V}{us:List Ac}(r:cG [x,y] us):∃ u z,us=[u,z]∧c5 x u∧c5 y z:=by
 cases r with
 | cons O U=>
  cases U with
  | cons F J=>cases J;exact⟨_,_,rfl,O,F⟩
inductive nY(xs:List V)(H:Hp)(Q:VK):Prop
 | mk (i:_) (q0:xs=[.int i]) (q1:Q (.int (if i < 0 then -i else i)) H):nY xs H Q
def aA2:List V→Hp→VK→Prop:=fun xs H Q=>nY xs H Q
theorem rO:eY X (.builtin "abs") aA2:=by
 intro fc s σ H xs z Q I r h;obtain⟨i,rfl,q⟩:=h;obtain⟨u,rfl,t,rfl⟩:=gE r;exact call_abs_int fun u tk=>⟨.int (if i < 0 then -i else i),H,I.tok _,⟨_,rfl⟩,q⟩
inductive m4(xs:List V)(H:Hp)(Q:VK):Prop
 | mk (i:_) (j:_) (q0:xs=[.int i,.int j]) (q1:Q (.int (if j < i then j else i)) H):m4 xs H Q
def yV:List V→Hp→VK→Prop:=fun xs H Q=>m4 xs H Q
theorem vM(hc:X.calm=true):eY X (.builtin "min") yV:=by
 intro fc s σ H xs F Q I r h;obtain⟨i,j,rfl,q⟩:=h;obtain⟨u,w',rfl,⟨t,rfl⟩,⟨t',rfl⟩⟩:=aEg r;refine min_two_ints (I.ok.hd hc) fun h' tk k=>⟨_,H,I.kept k,?_,q⟩
 by_cases z:j < i
 ·rw[Ib z,Ib z];exact⟨_,rfl⟩
 ·rw[Ia z,Ia z];exact⟨_,rfl⟩
theorem aDa:eY X (.type "int") (fun xs H Q=>(∃ i,xs=[.int i]∧Q (.int i) H)∨∃ k,xs=[.bl k]∧Q (.int (if k then 1 else 0)) H):=by
 intro fc s σ H xs z Q I r h;rcases h with⟨i,rfl,q⟩ | ⟨k,rfl,q⟩
 ·obtain⟨u,rfl,t,rfl⟩:=gE r;exact call_int_int ⟨.int i,H,I,⟨_,rfl⟩,q⟩
 ·obtain⟨u,rfl,r1⟩:=gE r;cases r1;exact call_int_bool ⟨.int (if k then 1 else 0),H,I.tok _,⟨_,rfl⟩,q⟩
end
structure aIb(h:Ba)(x dx C:Ah)(mA:Str→Option Ac):Prop where
 obj:h.get? x=some (FA C dx)
 ns:h.Ns1 dx mA
 ne:dx≠x
theorem aDb{h:Ba}{dx:Ah}{mA:Str→Option Ac}(n:h.Ns1 dx mA):∃ od,h.get? dx=some od∧∀ name,FO name od=some (mA name):=by
 obtain⟨o,es,ep,ho,hd,hk,_,hm⟩:=n;refine⟨o,ho,fun name=>?_⟩;have e:=hm name;unfold nsFind findBy at e;rw[← Array.find?_toList]at e;unfold FO;rw[hd];dsimp only;split
 ·rename_i y q;rw[q]at e;exact congrArg some e
 ·rename_i q;rw[q]at e;have a:es.toList.any (·.refKey)=false:=by
   rw[List.any_eq_false];intro y F;obtain⟨z,t,hkey⟩:=hk y (Array.mem_toList_iff.mp F);simp[DictEntry.refKey,hkey]
  have J:¬ es.toList.any (·.refKey)=true:=by rw[a];exact AN
  rw[Ia J];exact congrArg some e
theorem aIb.look{h:Ba}{x dx C:Ah}{mA:Str→Option Ac}(I:aIb h x dx C mA):∃ od,PySem.W.InstAt h x (FA C dx) C (some od)∧∀ name,FO name od=some (mA name):=
 let ⟨od,ho,hl⟩:=aDb I.ns
 ⟨od,⟨I.obj,rfl,rfl,ho⟩,hl⟩
section
variable{prog:Ay}{w:AV}{A:AO}{E:Ac→Ad→Prop}{s:Ad}{K:Ag}{x dx C f:Ah}{mA:Str→Option Ac}{name:Str}{v:Ac}
end
theorem nX.some_of{v:V}{o:Option Ac}(r:nX (some v) o):∃ u,o=some u∧c5 v u:=by
 cases o with
 | none=>exact(show False from r).elim
 | some u=>exact⟨u,rfl,r⟩
section
variable{P:Ay}{w:AV}{H H':Hp}{h h':Ba}{a C dx:Ah}{fs fs':List (Str×V)}
theorem aB4(hok:HOk P w H h)(e:H a=some (.ins C dx fs)):∃ mA,aIb h a dx C mA∧(∀ f,nX (fs.lookup f) (mA f))∧PySem.Within mA (fs.map (·.1))∧fs.length≤1000∧H dx=some (.own a):=by
 obtain⟨d,z,ne,ob,mA,n,r,q⟩:=(show cP P w H h a (.ins C dx fs) from hok a _ e)
 exact⟨mA,⟨ob,n,ne⟩,r,q,z,d⟩
end
structure Cls(K:Ag)(C:Ah):Prop where
 pg:PySem.W.plainGet K C Str.empty=true
 hd:PySem.W.hasDictIn K C=true
 po:PySem.W.plainOver K C=true
 sa:C2 K (.ref C) "__setattr__"=some (some (.builtin "object.__setattr__"))
theorem Cls.get{K:Ag}{C:Ah}(c:Cls K C)(f:Str):PySem.W.plainGet K C f=true:=c.pg
structure Con(K:Ag)(C:Ah)(f:Str)(v:V)(u:Ac):Prop where
 at_:C2 K (.ref C) f=some (some u)
 rel:c5 v u
 get:Fl K u "__get__"=some none
 cp:PySem.W.copiedNames.contains f=false
structure aKR(K:Ag)(C:Ah)(m:Str)(f:Ah):Prop where
 at_:C2 K (.ref C) m=some (some (.ref f))
 fn:PySem.W.isFn K (.ref f)=true
 kp:Au K (.ref f)=true
section
variable{X:Cx}{fc:List (Ah×Obj)}{σ:St}{H:Hp}{s:Ad}{a C dx:Ah}{fs:List (Str×V)}{f:Str}{v:V}{A:AO}{E:Ac→Ad→Prop}
end
section
variable{X:Cx}{o e value:Bf}{f:Str}{pos ir tpos:Pos}{ta tv:TE}
end
section
variable{X:Cx}{fc:List (Ah×Obj)}{σ:St}{H:Hp}{s:Ad}{A:AO}{E:Ac→Ad→Prop}{Q:Ac→Ad→Prop}{c:Ac}{b:Bool}
inductive iD(K:Ag)(H:Hp):V→Ac→Prop where
 | non:iD K H .non (.type "NoneType")
 | bl (x:Bool):iD K H (.bl x) (.type "bool")
 | int (i:Int):iD K H (.int i) (.type "int")
 | str (x:Str):iD K H (.str x) (.type "str")
 | flt (x:UInt64):iD K H (.flt x) (.type "float")
 | lst {a:Ah} {xs:List V} (e:H a=some (.lst xs)):iD K H (.ref a) (.type "list")
 | frz {a:Ah} {o:Obj} {xs:List V} (e:H a=some (.frz o (.lst xs))):iD K H (.ref a) (.type "list")
 | tup {a:Ah} {xs:List V} (e:H a=some (.tup xs)):iD K H (.ref a) (.type "tuple")
 | dK {a:Ah} {fg:List (Key×V)} (e:H a=some (.dK fg)):iD K H (.ref a) (.type "dict")
 | dT {a:Ah} {fg:List (List Key×V)} (e:H a=some (.dT fg)):iD K H (.ref a) (.type "dict")
 | ins {a C dx:Ah} {fs:List (Str×V)} (e:H a=some (.ins C dx fs)) (cl:Cls K C) (ha:C2 K (.ref C) "__class__"=some (some (.builtin "object.__class__")))
   (hn:Fl K (.builtin "object.__class__") "__get__"=some (some (.builtin "getset_descriptor.__get__"))) (htk:PySem.W.takesIn K (.builtin "object.__class__")=some true)
   (hm:F3 K C (.type "object")=some true):iD K H (.ref a) (.ref C)
theorem aDc{x:V}{u t:Ac}(I:Inv X fc σ H s)(U:c5 x u)(ty:iD X.K H x t)(e:Bs X.K t c=some b)(h:∀ tk,Q (.bool b) { s with toks:=tk }):
  wpAny (model X.prog X.w) A (call (.builtin "isinstance") [u,c]) Q E s:=by
 cases ty with
 | non=>cases(show u=BH from U);exact Ce PySem.W.kitx_none I.kIn Cg e (fun z=>nomatch z) h
 | bl y=>cases(show u=Fk y from U);exact Ce PySem.W.kitx_bool I.kIn Cg e (fun z=>nomatch z) h
 | int i=>obtain⟨t,q⟩:=(show∃ t,u=Ci i t from U);cases q;exact Ce PySem.W.kitx_int I.kIn Cg e (fun z=>nomatch z) h
 | str y=>obtain⟨t,q⟩:=(show∃ t,u=Bw y t from U);cases q;exact Ce PySem.W.kitx_str I.kIn Cg e (fun z=>nomatch z) h
 | flt y=>obtain⟨t,q⟩:=(show∃ t,u=Gw y t from U);cases q;exact Ce PySem.W.kitx_float I.kIn Cg e (fun z=>nomatch z) h
 | @lst a xs F=>
  cases(show u=AB a from U);obtain⟨_,_,n,_,h1⟩:=(show cP X.prog X.w H s.heap a (.lst xs) from I.hok a _ F)
  exact Ce Er I.kIn ⟨_,h1,rfl⟩ e (fun z=>nomatch z) h
 | @frz a ob xs F=>
  cases(show u=AB a from U);obtain⟨_,_,_,n,_,h1⟩:=(show cP X.prog X.w H s.heap a (.frz ob (.lst xs)) from I.hok a _ F)
  exact Ce Er I.kIn ⟨_,h1,rfl⟩ e (fun z=>nomatch z) h
 | @tup a xs F=>
  cases(show u=AB a from U);obtain⟨_,_,_,p⟩:=(show cP X.prog X.w H s.heap a (.tup xs) from I.hok a _ F)
  obtain⟨o,h1,h2,_⟩:=p;exact Ce PySem.W.kitx_tuple I.kIn ⟨o,h1,h2.1⟩ e (fun z=>nomatch z) h
 | @dK a fg F=>
  cases(show u=AB a from U);obtain⟨_,_,vs,_,p⟩:=(show cP X.prog X.w H s.heap a (.dK fg) from I.hok a _ F)
  obtain⟨o,es,ep,h1,h2,_⟩:=p;exact Ce Es I.kIn ⟨o,h1,h2.1⟩ e (fun z=>nomatch z) h
 | @dT a fg F=>
  cases(show u=AB a from U);obtain⟨_,_,xs,_,o,es,ep,h1,h2,_⟩:=(show cP X.prog X.w H s.heap a (.dT fg) from I.hok a _ F)
  exact Ce Es I.kIn ⟨o,h1,h2.1⟩ e (fun z=>nomatch z) h
 | @ins a C dx fs F Z ha hn Y hm=>
  cases(show u=AB a from U);obtain⟨mA,O,_⟩:=aB4 I.hok F;obtain⟨od,J,_⟩:=O.look;exact Ce (PySem.W.kitx_own (Z.get _) Z.hd ha hn Y hm) I.kIn J e (fun z=>nomatch z) h
end
structure cQ(k:Nat)(A:AO):Prop where
 hd:A.handled=none
 dp:A.depth + 3 * k + 5 < recursionLimit
 un:A.units + 16 * k + 200 < cLine
 gd:A.guards=some []
theorem cQ.mono{j k:Nat}{A:AO}(r:cQ k A)(h:j≤k):cQ j A:=⟨r.hd,by have:=r.dp;omega,by have:=r.un;omega,r.gd⟩
theorem cQ.deeper{k:Nat}{A:AO}(r:cQ (k + 1) A)(env:Env):cQ k (A.deeper env):=
 ⟨r.hd,by have:=r.dp;show A.depth + 1 + 3 * k + 5 < _;omega,by have:=r.un;show A.units + 3 + 16 * k + 200 < _;omega,r.gd⟩
theorem cQ.in1{k:Nat}{A:AO}(r:cQ (k + 1) A):cQ k A.in1:=
 ⟨r.hd,by have:=r.dp;show A.depth + 3 * k + 5 < _;omega,by have:=r.un;show A.units + 1 + 16 * k + 200 < _;omega,r.gd⟩
theorem cQ.depth{k:Nat}{A:AO}(r:cQ k A):A.depth < recursionLimit:=by have:=r.dp;omega
theorem cQ.units{k:Nat}{A:AO}(r:cQ k A):A.units + 64 < cLine:=by have:=r.un;omega
theorem cQ.units0{k:Nat}{A:AO}(r:cQ k A):A.units < cLine:=by have:=r.un;omega
def aIc:TA:=fun _ H Q=>Q [] H
def aB5(ta:TE)(tr:TA):TA:=fun σ H Q=>ta σ H fun x H1=>tr σ H1 fun xs H2=>Q (x :: xs) H2
section
variable{X:Cx}{e:Bf}{es:List Bf}{te:TE}{t:TA}{pos:Pos}
theorem aF:PA X [] aIc:=⟨fun _ _ _ _ H Q I h=>Calls.spliced_nil ⟨[],H,I,.nil,h⟩⟩
theorem gF(ha:PE X e te)(O:PA X es t)(F:starEach (e :: es) X.env=(false,eval e X.env) :: starEach es X.env:=by rfl):PA X (e :: es) (aB5 te t):=by
 constructor;intro pos fc s σ H Q I h;rw[F];show wpAny _ _ (spliced ((false,eval e X.env) :: backTo pos (starEach es X.env))) _ _ s;refine Fq (thn (ha fc s σ H _ I h) fun u s1 ⟨x,H1,U,W,Y⟩=>?_);exact thn (O pos fc s1 σ H1 _ U Y) fun us s2 ⟨xs,H2,Z,J,z⟩=>⟨x :: xs,H2,Z,.cons W J,z⟩
def aKj(t:TA):TE:=fun σ H Q=>t σ H fun xs H1=>xs.length≤sizeLine∧∀ p,H1 p=none→Q (.ref p) (upd H1 p (.tup xs))
def aKk(t:TA):TE:=fun σ H Q=>t σ H fun xs H1=>xs.length≤sizeLine∧∀ p,H1 p=none→Q (.ref p) (upd H1 p (.lst xs))
theorem cA{x1}(h:PA X es t):PE X (.Tuple es x1 pos) (aKj t):=by
 constructor;intro fc s σ H Q I U;refine wpAny_Tuple_spliced (thn (h pos fc s σ H _ I U) fun O s1 ⟨xs,H1,F,r,z,q⟩=>⟨by rw[← r.length];exact z,?_⟩);have J:H1 s1.heap.objs.size=none:=F.hok.fresh (Ap _);refine⟨.ref s1.heap.objs.size,upd H1 s1.heap.objs.size (.tup xs),F.laid (t':=s1.toks) (fun b u e=>Ai _ e) (Ap _) ?_,rfl,q _ J⟩;exact⟨z,O,r,⟨_,Aq _ rfl,⟨rfl,_,rfl⟩,rfl⟩⟩
theorem cW(h:PA X es t):PE X (.List es pos) (aKk t):=by
 constructor;intro fc s σ H Q I U;refine wpAny_List_spliced (thn (h pos fc s σ H _ I U) fun O s1 ⟨xs,H1,F,r,z,q⟩=>⟨by rw[← r.length];exact z,?_⟩);have J:H1 s1.heap.objs.size=none:=F.hok.fresh (Ap _);refine⟨.ref s1.heap.objs.size,upd H1 s1.heap.objs.size (.lst xs),F.laid (t':=s1.toks) (fun b u e=>Ai _ e) (Ap _) ?_,rfl,q _ J⟩;exact⟨z,O,0,r,Aq _ rfl⟩
end
abbrev Sp:=List V→Hp→VK→XK→Prop
abbrev CXT:=List Env→Hp→Ad→XK→Ac→Ad→Prop
structure aEh(P:Ay)(w:AV)(K:Ag)(mg:Str→Option Ac)(base:Ba)(A:AO)(outer:List Env)(s:Ad)(H:Hp):Prop where
 frames:A.frames=some outer
 mod:Mod K mg base
 bs:∀ b o,base.get? b=some o→s.heap.get? b=some o∧H b=none
 bsz:base.objs.size≤s.heap.objs.size
 funs:s.heap.FunFrames base outer
 frf:∀ b∈frs outer,H b=none
 hok:HOk P w H s.heap
 bare:ED s.gens
inductive aJp(outer:List Env)(P:Ay)(w:AV)(H:Hp)(s:Ad)(Q:VK)(u:Ac)(s':Ad):Prop
 | mk (v:_) (H':_) (q0:s'.os=s.os) (q1:ED s'.gens) (q2:Un (frs outer) [] H H' s.heap s'.heap) (q3:HOk P w H' s'.heap) (q4:c5 v u) (q5:Q v H'):aJp outer P w H s Q u s'
def CE(outer:List Env)(P:Ay)(w:AV)(H:Hp)(s:Ad)(Q:VK)(u:Ac)(s':Ad):Prop:=aJp outer P w H s Q u s'
def CR(CX:CXT)(outer:List Env)(P:Ay)(w:AV)(H:Hp)(s:Ad)(Q:VK)(E:XK)(r:Hh)(s':Ad):Prop:=
 match r with
 | .ok (.ret u)=>CE outer P w H s Q u s'
 | .ok _=>False
 | .error e=>CX outer H s E e s'
structure b8(P:Ay)(w:AV)(K:Ag)(mg:Str→Option Ac)(base:Ba)(CX:CXT)(k:Nat)(f:Ah)(fd:AH)(ps:List Str)(sp:Sp):Prop where
 len:∀ vs H Q E,sp vs H Q E→vs.length=ps.length
 run:∀(A:AO) (outer:List Env) (s:Ad) (H:Hp) (args:Args) (us:List Ac) (vs:List V) (Q:VK) (E:XK),cQ k A→aEh P w K mg base A outer s H→Gb s fd args (ps.zip us)→cG vs us→sp vs H Q E→
  codeAny (model P w) A (.call (.ref f) args) (CR CX outer P w H s Q E) s
section
variable{X:Cx}{fc:List (Ah×Obj)}{σ:St}{H:Hp}{s s':Ad}
theorem Inv.env0(I:Inv X fc σ H s):aEh X.prog X.w X.K X.mg X.base X.A X.stack s H:=
 ⟨I.ok.frames,I.ok.mod,I.bs,Bc I.ok.bsz I.sz,I.stack,I.stkFree,I.hok,I.bare⟩
theorem Inv.after{Q:VK}{u:Ac}(I:Inv X fc σ H s)(h:CE X.stack X.prog X.w H s Q u s'):EP X fc σ Q u s':=by
 obtain⟨v,H',os,bare,un,hok,r,q⟩:=h;obtain⟨hh,g,d,t,os'⟩:=s';obtain rfl:os'=s.os:=os;exact⟨v,H',I.call (h':=hh) (g':=g) (d':=d) (t':=t) (ch:=[]) un hok bare (fun b z=>absurd z (by simp)),r,q⟩
end
def aHv(sp:Sp)(iw:List V)(E:XK)(t:TA):TE:=fun σ H Q=>t σ H fun vs H1=>sp (vs ++ iw) H1 Q E
def cZ(K:Ag)(fd:AH)(ps:List Str)(ds:List Ac):Prop:=
 ∀(s:Ad) (us:List Ac),K.In s.heap→(us ++ ds).length=ps.length→Gb s fd ⟨us,[]⟩ (ps.zip (us ++ ds))
theorem cZ.all{K:Ag}{fd:AH}{ps:List Str}(h:∀ us:List Ac,us.length=ps.length→bindArgs fd ⟨us,[]⟩=pure (ps.zip us)):cZ K fd ps []:=fun s us _ z=>by
 rw[Cp]at z ⊢;exact .of_eq (h us z)
def pB(CX:CXT)(X:Cx)(E:XK):Prop:=∀(fc:List (Ah×Obj)) (σ:St) (H:Hp) (s:Ad) (e:Ac) (s':Ad),Inv X fc σ H s→CX X.stack H s E e s'→X.xe e s'
section
variable{X:Cx}{CX:CXT}{k:Nat}{f C:Ah}{fd:AH}{ps:List Str}{sp:Sp}{iw:List V}{ds:List Ac}{E:XK}{x m:Str}{p pos ig:Pos}{e o:Bf}{es:List Bf}{ta:TE}{t:TA}
theorem aEi{fc:List (Ah×Obj)}{σ:St}{H:Hp}{s:Ad}{Q:VK}{us:List Ac}{vs:List V}(F:b8 X.prog X.w X.K X.mg X.base CX k f fd ps sp)(O:cQ k X.A)(Y:cZ X.K fd ps ds)(hd:cG iw ds)(U:pB CX X E)
  (I:Inv X fc σ H s) (r:cG vs us) (h:sp (vs ++ iw) H Q E):wpAny (model X.prog X.w) X.A (call (.ref f) us) (EP X fc σ Q) X.xe s:=by
 have J:cG (vs ++ iw) (us ++ ds):=r.append hd;have W:(us ++ ds).length=ps.length:=by rw[← J.length];exact F.len _ _ _ _ h
 refine Cy (CB (F.run X.A X.stack s H ⟨us,[]⟩ (us ++ ds) (vs ++ iw) Q E O I.env0 (Y s us I.kIn W) J h) fun r s' z=>?_);cases r with
 | error e=>exact U fc σ H s e s' I z
 | ok fl=>
  cases fl with
  | ret u=>exact I.after z
  | next=>exact Bz z
  | brk=>exact Bz z
  | cont=>exact Bz z
theorem cV(F:b8 X.prog X.w X.K X.mg X.base CX k f fd ps sp)(U:cQ k X.A)(hg:Gl X x)(hm:X.mg x=some (.ref f))(Y:Au X.K (.ref f)=true)(hb:cZ X.K fd ps ds)(hd:cG iw ds)(W:pB CX X E)
  (ha:PA X (e :: es) t) (z:(x == ("__debug__":Str))=false:=by decide) (Z:starEach (e :: es) X.env=(false,eval e X.env) :: starEach es X.env:=by rfl) (J:(backTo pos (starEach es X.env)).any (·.1)=false:=by rfl):
  PE X (.Call (.Name x p) (e :: es) [] pos) (aHv sp iw E t):=by
 constructor;intro fc s σ H Q I h;refine CO (l9 I hg hm ?_ z);refine Ef (h₀:=X.base) I.ok.mod.kin Y (thn (ha pos fc s σ H _ I h) fun us s1 ⟨vs,H1,O,r,q⟩=>⟨O.kIn,?_⟩) Z J;exact aEi F U hb hd W O r q
structure Mk(K:Ag)(C f:Ah):Prop where
 makes:PySem.W.makesIn K C=true
 init:C2 K (.ref C) "__init__"=some (some (.ref f))
 fn:PySem.W.isFn K (.ref f)=true
 kp:Au K (.ref C)=true
end
structure PK(X:Cx)(iu:List EC)(t:TA):Prop where
 run:
  ∀(pos:Pos) (fc:List (Ah×Obj)) (s:Ad) (σ:St) (H:Hp) (Q:List V→Hp→Prop),Inv X fc σ H s→t σ H Q→wpAny (model X.prog X.w) X.A (evalAll ((backToKw pos (keywordEach iu X.env)).map (·.2))) (AP X fc σ Q) X.xe s
instance{X:Cx}{iu:List EC}{t:TA}:CoeFun (PK X iu t) (fun _=>
 ∀(pos:Pos) (fc:List (Ah×Obj)) (s:Ad) (σ:St) (H:Hp) (Q:List V→Hp→Prop),Inv X fc σ H s→t σ H Q→wpAny (model X.prog X.w) X.A (evalAll ((backToKw pos (keywordEach iu X.env)).map (·.2))) (AP X fc σ Q) X.xe s):=⟨fun h=>h.run⟩
section
variable{X:Cx}{CX:CXT}{k:Nat}{f C:Ah}{fd:AH}{ps ks:List Str}{sp:Sp}{E:XK}{x m:Str}{p pos ig kpos:Pos}{e o:Bf}{es:List Bf}{iu:List EC}{te ta:TE}{t tk:TA}{nm:Option Str}
theorem aId:PK X [] aIc:=⟨fun _ _ _ _ H Q I h=>wpAny_evalAll_nil ⟨[],H,I,.nil,h⟩⟩
theorem aGq(ha:PE X e te)(J:PK X iu t):PK X (⟨nm,e,kpos⟩ :: iu) (aB5 te t):=by
 constructor;intro pos fc s σ H Q I h;show wpAny _ _ (evalAll ((do let v ← eval e X.env;standAt pos;pure v) :: (backToKw pos (keywordEach iu X.env)).map (·.2))) _ _ s
 refine wpAny_evalAll_cons (Aa (thn (ha fc s σ H _ I h) fun u s1 ⟨x,H1,O,U,W⟩=>Aa (Dj (Ae ?_))));exact thn (J pos fc s1 σ H1 _ O W) fun Z s2 ⟨xs,H2,Y,F,z⟩=>⟨x :: xs,H2,Y,.cons U F,z⟩
structure aKl(K:Ag)(fd:AH)(ps ks:List Str)(g:List Ac→List Ac→List Ac)(gV:List V→List V→List V):Prop where
 to:∀(s:Ad) (us ws:List Ac),K.In s.heap→(g us ws).length=ps.length→Gb s fd ⟨us,ks.zip ws⟩ (ps.zip (g us ws))
 rel:∀{vs:List V} {us:List Ac} {zs:List V} {ws:List Ac},cG vs us→cG zs ws→cG (gV vs zs) (g us ws)
variable{g:List Ac→List Ac→List Ac}{gV:List V→List V→List V}
end
structure bU(N P:List Str)(sc:Ds):Prop where
 kind:sc.kind=.function
 co:sc.isCoroutine=false
 gen:sc.isGenerator=false
 nd:N.Nodup
 pre:N.take P.length=P
 par:∀ x∈P,sc.names.lookup x=some .local∨sc.names.lookup x=some .cell
 nofree:∀ y∈sc.names,y.2≠.free
theorem vN{z:Str→Option D6}{x:Str}:∀{binds:List (Str×Ac)}{m:Str→Option Ac},(∀ v,(x,v) ∉ binds)→bindL z binds m x=m x
 | [],_,_=>rfl
 | (n,v) :: r,m,h=>by
  unfold bindL;rw[vN fun w hw=>h w (AK _ hw)];split
  ·have:x≠n:=by rintro rfl;exact h v AF
   simp[this]
  ·rfl
theorem vO{z:Str→Option D6}{x:Str}:∀{binds:List (Str×Ac)}{m:Str→Option Ac},(∀ v,(x,v) ∉ binds)→bindC z binds m x=m x
 | [],_,_=>rfl
 | (n,v) :: r,m,h=>by
  unfold bindC;rw[vO fun w hw=>h w (AK _ hw)];split
  ·rfl
  ·have:x≠n:=by rintro rfl;exact h v AF
   simp[this]
theorem vP{z:Str→Option D6}{x:Str}{v:Ac}:∀{P:List Str}{vs:List Ac}{i:Nat}{m:Str→Option Ac},P.Nodup→P[i]?=some x→vs[i]?=some v→z x=some .local→
  bindL z (P.zip vs) m x=some v
 | [],_,_,_,_,h,_,_=>by simp at h
 | _ :: _,[],_,_,_,_,h,_=>by simp at h
 | p :: P,w :: vs,0,m,nd,h1,h2,F=>by
  simp at h1 h2;subst h1;subst h2;show bindL z ((p,w) :: P.zip vs) m p=_;unfold bindL;rw[vN fun v J=>(CP.mp nd).1 (FY J).1,Ib F];simp
 | p :: P,w :: vs,i + 1,m,nd,h1,h2,F=>by
  show bindL z ((p,w) :: P.zip vs) m x=_;unfold bindL;exact vP (i:=i) (CP.mp nd).2 (by simpa using h1) (by simpa using h2) F
theorem vQ{z:Str→Option D6}{x:Str}{v:Ac}:∀{P:List Str}{vs:List Ac}{i:Nat}{m:Str→Option Ac},P.Nodup→P[i]?=some x→vs[i]?=some v→z x≠some .local→
  bindC z (P.zip vs) m x=some v
 | [],_,_,_,_,h,_,_=>by simp at h
 | _ :: _,[],_,_,_,_,h,_=>by simp at h
 | p :: P,w :: vs,0,m,nd,h1,h2,F=>by
  simp at h1 h2;subst h1;subst h2;show bindC z ((p,w) :: P.zip vs) m p=_;unfold bindC;rw[vO fun v J=>(CP.mp nd).1 (FY J).1,Ia F];simp
 | p :: P,w :: vs,i + 1,m,nd,h1,h2,F=>by
  show bindC z ((p,w) :: P.zip vs) m x=_;unfold bindC;exact vQ (i:=i) (CP.mp nd).2 (by simpa using h1) (by simpa using h2) F
def m6(N:List Str)(vs:List V):St:=vs.map some ++ List.replicate (N.length - vs.length) none
def dG(CX:CXT)(P:Ay)(w:AV)(K:Ag)(mg:Str→Option Ac)(base:Ba)(N:List Str)(qual:Str)(scope:Ds)(f:Ah)(cd:Ac)(A:AO)(outer:List Env)(s:Ad)(H:Hp)(E:XK):Cx where
 prog:=P
 w:=w
 K:=K
 mg:=mg
 base:=base
 A:=A.deeper (envOfC qual scope s.heap.objs.size f cd)
 N:=N
 s₀:=s
 H₀:=H
 env:=envOfC qual scope s.heap.objs.size f cd
 outer:=outer
 stack:=envOfC qual scope s.heap.objs.size f cd :: outer
 ex:=[]
 calm:=true
 fn:=fun _=>true
 pn:=[]
 xe:=fun e s'=>wpAny (model P w) (A.deeper (envOfC qual scope s.heap.objs.size f cd)) (leaving (envOfC qual scope s.heap.objs.size f cd) e) (fun _ s''=>CX outer H s E e s'') (fun e' s''=>CX outer H s E e' s'') s'
theorem yX{z:Ds}{n:Nat}{x:Str}(h:z.names.lookup x=some .cell):∃ c,(cellsFrom n z.names []).lookup x=some c:=by
 have q:=PySem.W.cellsFrom_some z.names n [] (.inl h);exact Option.isSome_iff_exists.mp q
theorem aDd{CX:CXT}{P:Ay}{w:AV}{K:Ag}{mg:Str→Option Ac}{base:Ba}{N ps:List Str}{qual:Str}{scope:Ds}{f:Ah}{cd:Ac}{A:AO}{outer:List Env}{s s1:Ad}{H:Hp}{E:XK}{us:List Ac}{vs:List V}
  (S:bU N ps scope) (hd:A.handled=none) (F:aEh P w K mg base A outer s H) (hl:vs.length=ps.length) (r:cG vs us)
  (x:InCallC s s.heap.objs.size (bindL (envOfC qual scope s.heap.objs.size f cd).kindOf (ps.zip us) fun _=>none) (cellsFrom (s.heap.objs.size + 1) scope.names []) (bindC (envOfC qual scope s.heap.objs.size f cd).kindOf (ps.zip us) fun _=>none) s1):
  Inv (dG CX P w K mg base N qual scope f cd A outer s H E) [] (m6 N vs) H s1:=by
 have Y:ps.length≤N.length:=by have:=congrArg EB S.pre;rw[Am]at this;omega
 obtain⟨h1,tk,rfl,hk⟩:=x.done;have J:∀ b:Ah,b ∉ (dG CX P w K mg base N qual scope f cd A outer s H E).ex:=fun b z=>absurd (show b∈([]:List Ah) from z) (by simp);refine⟨⟨F.mod,S.kind,rfl,rfl,Ap _,fun y z c h1 h2=>?_,fun y O=>?_,fun y c _ h=>?_,fun _=>hd,Around.frames_deeper F.frames,.inr ⟨rfl,rfl⟩,fun b z=>absurd z (J b),F.bs,F.bsz,fun b _ _=>J b,fun b z=>absurd z (J b),F.funs,F.frf⟩,
  rfl,F.bare,Un.kept hk,⟨_,x.toInCall.ns,fun i y v h1 h2 Z=>?_⟩,fun y c h=>⟨_,x.cell y c h⟩,F.hok.fresh (Ap _),fun y c h=>?_,fun p W=>absurd (show p∈([]:List (Ah×Obj)) from W) (by simp),F.hok.kept hk,?_⟩
 ·exact name_of_addr x.apart (Cm h1) (Cm h2)
 ·have O:scope.names.lookup y=some .cell∨scope.names.lookup y=some .free:=O;rcases O with O | O
  ·exact yX O
  ·exact absurd rfl (S.nofree _ (Cm O))
 ·exact Dv (x.above y c (Cm h))
 ·have hi:i < vs.length:=by
   unfold m6 at h2;by_cases hi:i < vs.length
   ·exact hi
   ·rw[BP (by simpa using hi)]at h2;rw[List.getElem?_replicate]at h2;split at h2 <;> cases h2
  have ha:vs[i]?=some v:=by
   unfold m6 at h2;rw[BV (by simpa using hi),AC]at h2;cases e:vs[i]? with
   | none=>rw[e]at h2;cases h2
   | some a=>rw[e]at h2;cases h2;rfl
  obtain⟨u,hu,rv⟩:=r.get ha;have W:ps[i]?=some y:=by
   rw[← S.pre,List.getElem?_take_of_lt (by omega)];exact h1
  have U:ps.Nodup:=by rw[← S.pre];exact S.nd.sublist (Fx _ _)
  refine⟨u,rv,?_⟩;rcases S.par y (Ax W)with k | k
  ·exact .inl ⟨k,vP U W hu k⟩
  ·obtain⟨c,e⟩:=yX (n:=s.heap.objs.size + 1) k;refine .inr ⟨.inl k,c,e,?_⟩;have q:=x.cell y c e;rw[vQ U W hu (by show scope.names.lookup y≠_;rw[k];decide)]at q;exact q
 ·exact F.hok.fresh (Dv (x.above y c (Cm h)))
 ·unfold m6;show _=N.length;rw[Ak,Ab,List.length_replicate];omega
theorem aEj{CX:CXT}{P:Ay}{w:AV}{K:Ag}{mg:Str→Option Ac}{base:Ba}{k:Nat}{f:Ah}{name qual:Str}{F:Arguments}{O:List B3}{scope:Ds}{dV kV ac pm z ct oc:Ac}{an od:Option Ah}
  {aj:Array (Option Ac)} {N ps:List Str} {sp:Sp} (lk:K.lookup f=some ⟨oc,od,.func (BU name qual F O scope dV kV ac pm an z ct),aj⟩) (ai:B4 K z qual=true) (S:bU N ps scope)
  (len:∀ vs H Q E,sp vs H Q E→vs.length=ps.length)
  (Y:∀(A:AO) (outer:List Env) (s:Ad) (H:Hp) (vs:List V) (Q:VK) (E:XK),cQ k (A.deeper (envOfC qual scope s.heap.objs.size f z))→sp vs H Q E→
   ∃ t,PSs (dG CX P w K mg base N qual scope f z A outer s H E) O t∧t { nx:=fun _ H'=>Q .non H',rt:=Q } (m6 N vs) H):
  b8 P w K mg base CX (k + 1) f (BU name qual F O scope dV kV ac pm an z ct) ps sp:=by
 refine⟨len,fun A outer s H am us vs Q E hr e0 hb r ad=>?_⟩;have hl:=len _ _ _ _ ad;have KX:K.In s.heap:=e0.mod.kin.keeps fun b o e=>(e0.bs b o e).1;have ah:s.heap.NoLimit:=e0.mod.nolimit.keeps fun b o e=>(e0.bs b o e).1;have U:∀ y∈ps.zip us,scope.names.lookup y.1=some .local∨(scope.names.lookup y.1=some .cell∧((cellsFrom (s.heap.objs.size + 1) scope.names []).lookup y.1).isSome=true):=fun⟨n,v⟩ hy=>by
  rcases S.par n (FY hy).1 with q | q
  ·exact .inl q
  ·exact .inr ⟨q,PySem.W.cellsFrom_some _ _ _ (.inl q)⟩
 refine codeAny_call_function hr.depth (KX _ _ lk) rfl S.co S.gen rfl (PySem.W.codeRec_of KX ai) (hb _ _ _ _ ?_);refine wpAny_newFunctionEnv_cells S.kind U fun env he s1 x=>?_;subst he;refine⟨ah.keeps x.toInCall.keep,codeAny_func ?_⟩;obtain⟨t,ht,hq⟩:=Y A outer s H vs Q E (hr.deeper _) ad;have I:Inv (dG CX P w K mg base N qual scope f z A outer s H E) [] (m6 N vs) H s1:=aDd S hr.hd e0 hl r x;refine A9 (ht [] s1 (m6 N vs) H _ I hq) (fun fl s' Z=>?_) fun e s' Z=>Z;have aa:∀{σ':St} {H':Hp} {v:V} {u:Ac},Inv (dG CX P w K mg base N qual scope f z A outer s H E) [] σ' H' s'→c5 v u→Q v H'→CE outer P w H s Q u s':=
  fun{σ' H' v u} J rv q=>⟨v,H',J.os,J.bare,J.base,J.hok,rv,q⟩
 cases fl with
 | ret u=>
  obtain⟨v,σ',H',J,rv,q⟩:=Z;exact aa J rv q
 | next=>
  obtain⟨σ',H',J,q⟩:=Z;exact aa (v:=V.non) (u:=BH) J rfl q
 | brk=>
  obtain⟨_,_,_,q⟩:=Z;exact Bz q
 | cont=>
  obtain⟨_,_,_,q⟩:=Z;exact Bz q
section
variable{X:Cx}{x:Str}{p pos:Pos}{e:Bf}{es:List Bf}{t:TA}{id T:String}{r:List V→Hp→VK→Prop}
def tCB(r:List V→Hp→VK→Prop)(t:TA):TE:=fun σ H Q=>t σ H fun vs H1=>r vs H1 Q
theorem aP(hc:eY X (.builtin id) r)(hg:Gl X x)(hm:X.mg x=none)(W:bootBuiltins x=some (.builtin id))(ha:PA X (e :: es) t)(hn:x≠"__name__":=by decide)(z:(x == ("__debug__":Str))=false:=by decide)
  (Y:starEach (e :: es) X.env=(false,eval e X.env) :: starEach es X.env:=by rfl) (F:(backTo pos (starEach es X.env)).any (·.1)=false:=by rfl):PE X (.Call (.Name x p) (e :: es) [] pos) (tCB r t):=by
 constructor;intro fc s σ H Q I h;refine CO (o8 I hg hm W ?_ hn z);exact PyProof.Rows.callWith_builtin1 (thn (ha pos fc s σ H _ I h) fun Z s1 ⟨vs,H1,J,O,U⟩=>hc fc s1 σ H1 vs Z Q J O U) Y F
theorem cY(hc:eY X (.type T) r)(hg:Gl X x)(hm:X.mg x=none)(W:bootBuiltins x=some (.type T))(ha:PA X (e :: es) t)(hn:x≠"__name__":=by decide)(z:(x == ("__debug__":Str))=false:=by decide)
  (Y:starEach (e :: es) X.env=(false,eval e X.env) :: starEach es X.env:=by rfl) (F:(backTo pos (starEach es X.env)).any (·.1)=false:=by rfl):PE X (.Call (.Name x p) (e :: es) [] pos) (tCB r t):=by
 constructor;intro fc s σ H Q I h;refine CO (o8 I hg hm W ?_ hn z);exact DW (thn (ha pos fc s σ H _ I h) fun Z s1 ⟨vs,H1,J,O,U⟩=>hc fc s1 σ H1 vs Z Q J O U) Y F
end
end L2
namespace HT
open PySem PyProof.Rows
section
open PySem.SeqAt
open PySem.AutoSeq1 (wpAny_loadPart')
open PySem.MeetsSeq PySem.MeetsSeq2 PySem.MeetsSeq3
end
section
variable{prog:Ay}{w:AV}{A:AO}{E:Ac→Ad→Prop}{s:Ad}
theorem cat_tup{t b:Ah}{vs z:List Ac}{Q:Ac→Ad→Prop}(ht:EK s.heap t vs.toArray)(J:EK s.heap b z.toArray)(F:vs≠[])
  (h1:z=[]→Q (.ref t) s) (h2:z≠[]→Q (.ref s.heap.objs.size) { s with heap:=s.heap.push { cls:=.type "tuple",data:=.seq (vs ++ z).toArray } })
  (hsz:vs.length + z.length≤sizeLine):wpAny (model prog w) A (binaryOp .Add (.ref t) (.ref b)) Q E s:=by
 obtain⟨⟨cls,dd,data,sl⟩,ho,hc,n,hd⟩:=id ht;obtain⟨⟨cls2,dd2,data2,sl2⟩,ho2,hc2,n2,hd2⟩:=id J;simp only at hc hd hc2 hd2;subst hc hd hc2 hd2;have e:vs.toArray ++ z.toArray=(vs ++ z).toArray:=by simp
 by_cases hw:z=[]
 ·exact Hg ⟨_,ho,rfl⟩ ⟨_,ho2,rfl⟩ Gh GG EH EA (Ex _ _)
   (tuple_addW1 t b vs.toArray z.toArray n n2 dd dd2 sl sl2 (by simpa using F) (by simp[hw])) ⟨ho,ho2,h1 hw⟩
 ·refine Hg ⟨_,ho,rfl⟩ ⟨_,ho2,rfl⟩ Gh GG EH EA (Ex _ _)
   (tuple_addW2 t b vs.toArray z.toArray n n2 dd dd2 sl sl2 (by simpa using F) (by simpa using hw) (by rw[Ao,Ao];exact hsz)) ⟨ho,ho2,?_⟩
  rw[e];exact h2 hw
def sIx(n d:Nat):Option Int→Nat
 | none=>d
 | some v=>if v < 0 then(v + (n:Int)).toNat else min v.toNat n
theorem sIx_none(n d:Nat):sIx n d none=d:=rfl
theorem sIx_nat(n d k:Nat):sIx n d (some (k:Int))=min k n:=by
 show(if (k:Int) < 0 then((k:Int) + (n:Int)).toNat else min (k:Int).toNat n)=min k n;rw[Ia (by omega),BG]
theorem aIe(n d:Nat)(hd:d≤n)(o:Option Int):sIx n d o≤n:=by
 cases o with
 | none=>exact hd
 | some v=>
  show(if v < 0 then(v + (n:Int)).toNat else min v.toNat n)≤n;by_cases z:v < 0
  ·rw[Ib z];omega
  ·rw[Ia z];exact Nat.min_le_right _ _
theorem aB6(v:Int)(n d:Nat):(if v < 0 then max (v + (n:Int)) 0 else min v (n:Int))=((sIx n d (some v):Nat):Int):=by
 show(if v < 0 then max (v + (n:Int)) 0 else min v (n:Int))=(((if v < 0 then(v + (n:Int)).toNat else min v.toNat n):Nat):Int)
 by_cases z:v < 0
 ·simp only[Ib z];omega
 ·simp only[Ia z];omega
theorem aA3(lo hi:Option Int)(n:Nat):D7 lo hi 1 (n:Int)=(((sIx n 0 lo:Nat):Int),((sIx n n hi:Nat):Int)):=by
 have h1:¬ ((1:Int) < 0):=by omega
 unfold D7;simp only[h1,if_false];refine Hw ?_ ?_
 ·cases lo with
  | none=>rfl
  | some v=>exact aB6 v n 0
 ·cases hi with
  | none=>rfl
  | some v=>exact aB6 v n n
theorem aA4(i j:Nat):Da (i:Int) (j:Int) 1=j - i:=by
 unfold Da;have h1:(1:Int) > 0:=by omega
 simp only[h1,if_true,Int.ediv_one];split <;> omega
theorem rP{v:Ac}{o:Option Int}{Q:Option Int→Ad→Prop}(p:E7 v o)(h:Q o s):wpAny (model prog w) A (Builtin.Slice.slicePartIndex v) Q E s:=by
 cases p with
 | none=>exact slicePart_none h
 | int i t=>exact slicePart_int h
theorem sliceApplied_gen{J:Ah}{z F:Ac}{lo hi:Option Int}{n:Nat}{Q:Int×Int×Nat→Ad→Prop}(U:s.heap.IsSliceOf J z F .none)(pl:E7 z lo)(O:E7 F hi)
  (h:Q (((sIx n 0 lo:Nat):Int),1,sIx n n hi - sIx n 0 lo) s):wpAny (model prog w) A (Builtin.Slice.sliceApplied (.ref J) (pure (n:Int))) Q E s:=by
 obtain⟨os,hos,hcs,hds⟩:=id U;unfold Builtin.Slice.sliceApplied Builtin.Slice.sliceFields;refine Aa (Aa (DV hos hds (x:=z) rfl (Aa (DV hos hds (x:=F) rfl (Aa (DV hos hds (x:=.none) rfl (Ae ?_)))))));refine Aa (slicePart_none ?_);show wpAny _ _ (if ((1:Int) == 0)=true then _ else _) _ _ s;rw[Ia (by decide)];refine Aa (rP pl (Aa (rP O (Aa (Ae ?_)))));show wpAny _ _ (match D7 lo hi 1 (n:Int)with | (lo,hi)=>pure (lo,(1:Int),Da lo hi 1)) _ _ s;rw[aA3 lo hi n];show wpAny _ _ (pure (((sIx n 0 lo:Nat):Int),(1:Int),Da ((sIx n 0 lo:Nat):Int) ((sIx n n hi:Nat):Int) 1)) _ _ s;rw[aA4];exact Ae h
theorem aEk(xs:Array Ac)(i k:Nat):((AL k).filterMap fun(m:Nat)=>xs[((i:Int) + (m:Int) * 1).toNat]?).toArray=((xs.toList.drop i).take k).toArray:=by
 have e:(fun(m:Nat)=>xs[((i:Int) + (m:Int) * 1).toNat]?)=fun m=>xs[i + m]?:=by
  funext m;have:((i:Int) + (m:Int) * 1).toNat=i + m:=by omega
  rw[this]
 rw[e];have:=pick_run xs i k;rw[List.filterMap_map]at this;have z:((fun x=>xs[x]?) ∘ fun x=>i + x)=fun m=>xs[i + m]?:=rfl;rw[z]at this;rw[this]
theorem getItem_tuple_cut{t J:Ah}{z:Array Ac}{Y Z:Ac}{lo hi:Option Int}{Q:Ac→Ad→Prop}(ht:EK s.heap t z)(W:s.heap.IsSliceOf J Y Z .none)(pl:E7 Y lo)(pu:E7 Z hi)
  (hw:¬ (sIx z.size 0 lo=0∧sIx z.size z.size hi=z.size))
  (h:Q (.ref s.heap.objs.size) { s with heap:=s.heap.push { cls:=.type "tuple",data:=.seq ((z.toList.drop (sIx z.size 0 lo)).take (sIx z.size z.size hi - sIx z.size 0 lo)).toArray } })
  (hsz:z.size≤sizeLine):wpAny (model prog w) A (getItem (.ref t) (.ref J)) Q E s:=by
 have F:sizeOk (.seq ((z.toList.drop (sIx z.size 0 lo)).take (sIx z.size z.size hi - sIx z.size 0 lo)).toArray):=by
  show((z.toList.drop (sIx z.size 0 lo)).take (sIx z.size z.size hi - sIx z.size 0 lo)).toArray.size≤sizeLine;rw[Ao,Am,AZ,BL];omega
 have hj:sIx z.size z.size hi≤z.size:=aIe _ _ (Ap _) hi;obtain⟨os,hos,hcs,hds⟩:=id W;have O:s.TypeIs (.ref J) "slice":=⟨os,hos,hcs⟩
 unfold getItem
 try with_reducible refine A1 ?_
 first | refine Aa (Ae ?_) | skip
 refine Aa (wpAny_sequenceKey ht.typeIs (by decide) ?_);refine Aa (CI (name:=Bd "__getitem__") ht.typeIs B1
  (Ck B1 ht.typeIs entry_tuple_getitem ?_ (args_tuple_getitem _ _)))
 show wpAny _ _ (Builtin.Tuple.tupleItemsOf (.ref t) >>= _) _ _ s;refine Aa (tupleItemsOf_ ht ?_);refine Aa (B0 O ?_);rw[Ib (by decide)];refine Aa (sliceApplied_gen W pl pu ?_);have U:¬ ((((sIx z.size 0 lo:Nat):Int) == 0 && (1:Int) == 1 && (sIx z.size z.size hi - sIx z.size 0 lo) == z.size)=true):=by
  intro q;rw[AX,AX]at q;have q1:((sIx z.size 0 lo:Nat):Int)=0:=eq_of_beq q.1.1;have q2:sIx z.size z.size hi - sIx z.size 0 lo=z.size:=eq_of_beq q.2;exact hw ⟨by omega,by omega⟩
 show wpAny _ _ (if (((sIx z.size 0 lo:Nat):Int) == 0 && (1:Int) == 1 && (sIx z.size z.size hi - sIx z.size 0 lo) == z.size)=true then _ else _) _ _ s;rw[Ia U,aEk]
 first
  | exact Aa (m:=Df _) (BI (Ae ⟨_,rfl,Ae h⟩) F)
  | exact Aa (m:=Df _) (BI (Aa (Ae (Ae ⟨_,rfl,Ae h⟩))) F)
  | exact Aa (Aa (m:=Df _) (BI (Ae (Ae ⟨_,rfl,Ae h⟩)) F))
  | exact Aa (Aa (m:=Df _) (BI (Ae ⟨_,rfl,Ae h⟩) F))
end
end HT
namespace L2
open PySem PySem.Spec PyProof.Rows
abbrev TO:=St→Hp→(Option Int→Hp→Prop)→Prop
structure PO(X:Cx)(e:Option Bf)(t:TO):Prop where
 run:
  ∀(fc:List (Ah×Obj)) (s:Ad) (σ:St) (H:Hp) (Q:Option Int→Hp→Prop),Inv X fc σ H s→t σ H Q→
   wpAny (model X.prog X.w) X.A (evalPart e X.env) (fun u s'=>∃ o H',Inv X fc σ H' s'∧E7 u o∧Q o H') X.xe s
instance{X:Cx}{e:Option Bf}{t:TO}:CoeFun (PO X e t) (fun _=>
 ∀(fc:List (Ah×Obj)) (s:Ad) (σ:St) (H:Hp) (Q:Option Int→Hp→Prop),Inv X fc σ H s→t σ H Q→
  wpAny (model X.prog X.w) X.A (evalPart e X.env) (fun u s'=>∃ o H',Inv X fc σ H' s'∧E7 u o∧Q o H') X.xe s):=⟨fun h=>h.run⟩
def aGr:TO:=fun _ H Q=>Q none H
def aJq(t:TE):TO:=fun σ H Q=>t σ H fun x H1=>As V.int x fun i=>Q (some i) H1
section
variable{X:Cx}{e:Bf}{te:TE}{lo hi:Option Bf}{tl th:TO}{pos p2:Pos}
theorem cN:PO X none aGr:=by
 constructor;intro fc s σ H Q I h;rw[evalPart_none];exact Ae ⟨none,H,I,.none,h⟩
theorem cO(h:PE X e te):PO X (some e) (aJq te):=by
 constructor;intro fc s σ H Q I hw;rw[evalPart_some];refine thn (h fc s σ H _ I hw) fun u s1 ⟨x,H1,z,F,J⟩=>?_;obtain⟨i,rfl,q⟩:=J;obtain⟨t,rfl⟩:=F;exact⟨some i,H1,z,.int i t,q⟩
def SlR(X:Cx)(r:V→Option Int→Option Int→Hp→VK→Prop):Prop:=
 ∀(fc:List (Ah×Obj)) (s:Ad) (σ:St) (H:Hp) (x:V) (v vl vu:Ac) (lo hi:Option Int) (sl:Ah) (Q:VK),Inv X fc σ H s→c5 x v→s.heap.IsSliceOf sl vl vu .none→E7 vl lo→E7 vu hi→r x lo hi H Q→
  ∃ T id,typeLookup (.type T) "__getitem__"=pure (some (.builtin id))∧s.TypeIs v T∧wpAny (model X.prog X.w) X.A (getItem v (.ref sl)) (EP X fc σ Q) X.xe s
def tSl(r:V→Option Int→Option Int→Hp→VK→Prop)(te:TE)(tl th:TO):TE:=fun σ H Q=>te σ H fun x H1=>tl σ H1 fun l H2=>th σ H2 fun u H3=>r x l u H3 Q
theorem cB{r:V→Option Int→Option Int→Hp→VK→Prop}(W:SlR X r)(he:PE X e te)(hl:PO X lo tl)(hu:PO X hi th):PE X (.Subscript e (.Slice lo hi none p2) pos) (tSl r te tl th):=by
 constructor;intro fc s σ H Q I h;refine Subscript_ (thn (he fc s σ H _ I h) fun v s1 ⟨x,H1,Y,Z,q1⟩=>?_);refine wpAny_Slice (thn (hl fc s1 σ H1 _ Y q1) fun F s2 ⟨l,H2,I2,pl,U⟩=>thn (hu fc s2 σ H2 _ I2 U) fun J z ⟨u,O,I3,pu,q3⟩=>?_);rw[evalPart_none];refine Ae ?_;have I4:Inv X fc σ O { z with heap:=z.heap.push { cls:=.type "slice",data:=.fields #[F,J,.none] } }:=I3.kept (t':=z.toks) fun b ob q=>Ai _ q;obtain⟨T,id,hT,ht,hg⟩:=W fc { z with heap:=z.heap.push { cls:=.type "slice",data:=.fields #[F,J,.none] } } σ O x v F J l u z.heap.objs.size Q I4 Z (Heap.IsSliceOf.new ..) pl pu q3;show wpAny (model X.prog X.w) X.A (subscriptTail e (.Slice lo hi none p2) v (.ref z.heap.objs.size)) (EP X fc σ Q) X.xe { z with heap:=z.heap.push { cls:=.type "slice",data:=.fields #[F,J,.none] } };exact tail_any (ops:=[.ref z.heap.objs.size,v]) ht hT hg (by with_unfolding_all rfl)
def dQ(xs:List V)(lo hi:Option Int):List V:=(xs.drop (HT.sIx xs.length 0 lo)).take (HT.sIx xs.length xs.length hi - HT.sIx xs.length 0 lo)
theorem pZ(xs:List V)(lo hi:Option Int):(dQ xs lo hi).length≤xs.length:=by
 unfold dQ;rw[Am,AZ];omega
inductive aEl(K:Ag)(x:V)(lo:Option Int)(hi:Option Int)(H:Hp)(Q:VK):Prop
 | mk (a:_) (xs:_) (q0:x=.ref a) (q1:SqT K H a xs) (q2:¬ (HT.sIx xs.length 0 lo=0∧HT.sIx xs.length xs.length hi=xs.length)) (q3:∀ p,H p=none→Q (.ref p) (upd H p (.tup (dQ xs lo hi)))):aEl K x lo hi H Q
def aKm(K:Ag):V→Option Int→Option Int→Hp→VK→Prop:=fun x lo hi H Q=>aEl K x lo hi H Q
theorem aIf:SlR X (aKm X.K):=by
 intro fc s σ H x v W Y lo hi U Q I J F pl O h;obtain⟨a,xs,rfl,hx,hw,q⟩:=h;cases J;obtain⟨its,r,ht,hz⟩:=I.tuple hx;have z:its.toArray.size=xs.length:=by rw[Ao];exact r.length.symm
 refine⟨"tuple",_,B1.lookup,ht.typeIs,HT.getItem_tuple_cut ht F pl O (by rw[z];exact hw) ?_ (by rw[z];exact hz)⟩;rw[z];refine⟨.ref s.heap.objs.size,_,I.laid (t':=s.toks) (o:=.tup (dQ xs lo hi)) (fun b ob q=>Ai _ q) (Ap _) ?_,rfl,q _ (I.hok.fresh (Ap _))⟩;exact⟨Bc (pZ xs lo hi) hz,_,(r.drop (HT.sIx xs.length 0 lo)).take (HT.sIx xs.length xs.length hi - HT.sIx xs.length 0 lo),⟨_,Aq _ rfl,⟨rfl,_,rfl⟩,rfl⟩⟩
inductive aB7(K:Ag)(x:V)(y:V)(H:Hp)(Q:VK):Prop
 | mk (a:_) (b:_) (xs:_) (ys:_) (q0:x=.ref a) (q1:y=.ref b) (q2:SqT K H a xs) (q3:SqT K H b ys) (q4:xs≠[]) (q5:xs.length + ys.length≤sizeLine) (q6:(ys=[]→Q (.ref a) H)) (q7:(ys≠[]→∀ p,H p=none→Q (.ref p) (upd H p (.tup (xs ++ ys))))):aB7 K x y H Q
def aJr(K:Ag):R2:=fun x y H Q=>aB7 K x y H Q
theorem cG.nil_iff{xs:List V}{us:List Ac}(r:cG xs us):us=[]↔xs=[]:=by
 cases r with
 | nil=>simp
 | cons _ _=>simp
theorem aGs:OpR X (binaryOp .Add) (aJr X.K):=by
 intro fc s σ H x y v u Q I J F h;obtain⟨a,b,xs,ys,rfl,rfl,ha,hb,hx,hz,q1,q2⟩:=h;cases J;cases F;obtain⟨its,r1,p1,_⟩:=I.tuple ha;obtain⟨its2,r2,p2,_⟩:=I.tuple hb;refine HT.cat_tup p1 p2 (fun z=>hx (r1.nil_iff.mp z)) (fun z=>⟨.ref a,H,I,rfl,q1 (r2.nil_iff.mp z)⟩) (fun z=>?_) (by rw[← r1.length,← r2.length];exact hz);refine⟨.ref s.heap.objs.size,_,I.laid (t':=s.toks) (o:=.tup (xs ++ ys)) (fun b ob q=>Ai _ q) (Ap _) ?_,rfl,q2 (fun w=>z (r2.nil_iff.mpr w)) _ (I.hok.fresh (Ap _))⟩;exact⟨by rw[Ak];exact hz,_,r1.append r2,⟨_,Aq _ rfl,⟨rfl,_,rfl⟩,rfl⟩⟩
end
def ixN(n:Nat)(i:Int):Option Nat:=if 0≤i then(if i < n then some i.toNat else none) else if -(n:Int)≤i then some (i + n).toNat else none
def atI{α:Type}(xs:List α)(i:Int):Option α:=(ixN xs.length i).bind fun j=>xs[j]?
theorem aB8{n:Nat}{i:Int}{j:Nat}(h:ixN n i=some j):seqIndex? i n=some j∧j < n∧-(n:Int)≤i∧i < n:=by
 unfold ixN at h;by_cases z:0≤i
 ·rw[Ib z]at h;by_cases h1:i < n
  ·rw[Ib h1]at h;have e:i.toNat=j:=Cb.inj h;exact⟨by rw[Hn z h1,e],by omega,by omega,h1⟩
  ·rw[Ia h1]at h;cases h
 ·rw[Ia z]at h;by_cases h1:-(n:Int)≤i
  ·rw[Ib h1]at h;have e:(i + n).toNat=j:=Cb.inj h;exact⟨by rw[seqIndex_neg (by omega) h1,e],by omega,h1,by omega⟩
  ·rw[Ia h1]at h;cases h
theorem xA{α:Type}{xs:List α}{i:Int}{v:α}(h:atI xs i=some v):∃ j,seqIndex? i xs.length=some j∧xs[j]?=some v∧j < xs.length∧-(xs.length:Int)≤i∧i < xs.length:=by
 unfold atI at h;cases e:ixN xs.length i with
 | none=>rw[e]at h;cases h
 | some j=>
  rw[e]at h;obtain⟨h1,h2,h3,h4⟩:=aB8 e;exact⟨j,h1,h,h2,h3,h4⟩
theorem bS{α:Type}{xs:List α}{j:Nat}{v:α}(h:xs[j]?=some v):atI xs (j:Int)=some v:=by
 have z:j < xs.length:=(AR.mp h).1;have e:ixN xs.length (j:Int)=some j:=by
  unfold ixN;rw[Ib (by omega),Ib (by omega)];simp
 unfold atI;rw[e];exact h
def aGt(b:Bf):Prop:=∀ o i,subscripted b false o i=operate [o,i] (getItem o i)
def IxR(X:Cx)(r:R2):Prop:=
 ∀(value slice:Bf) (fc:List (Ah×Obj)) (s:Ad) (σ:St) (H:Hp) (x y:V) (v u:Ac) (Q:VK),Inv X fc σ H s→c5 x v→c5 y u→r x y H Q→
  subscripted slice false v u=operate [v,u] (getItem v u)→wpAny (model X.prog X.w) X.A (subscriptTail value slice v u) (EP X fc σ Q) X.xe s
def MtR(X:Cx)(id:String)(r:V→List V→Hp→VK→Prop):Prop:=
 ∀(fc:List (Ah×Obj)) (s:Ad) (σ:St) (H:Hp) (x:V) (xs:List V) (v:Ac) (us:List Ac) (Q:VK),Inv X fc σ H s→c5 x v→cG xs us→r x xs H Q→
  wpAny (model X.prog X.w) X.A (call (.builtin id) (v :: us)) (EP X fc σ Q) X.xe s
section
variable{X:Cx}{a b:Bf}{ta tb:TE}{pos:Pos}
theorem bZ{r:R2}(F:IxR X r)(ha:PE X a ta)(W:PE X b tb)(z:aGt b):PE X (.Subscript a b pos) (tOp r ta tb):=by
 constructor;intro fc s σ H Q I h;exact Subscript_ (aH8 ha W I h fun v u U x y H2 O Y J q=>F a b fc U σ H2 x y v u Q O Y J q (z _ _))
inductive aEm(K:Ag)(x:V)(y:V)(H:Hp)(Q:VK):Prop
 | mk (p:_) (xs:_) (i:_) (v:_) (q0:x=.ref p) (q1:y=.int i) (q2:SqL K H p xs) (q3:atI xs i=some v) (q4:Q v H):aEm K x y H Q
def aDe(K:Ag):R2:=fun x y H Q=>aEm K x y H Q
inductive aEn(K:Ag)(x:V)(y:V)(H:Hp)(Q:VK):Prop
 | mk (p:_) (xs:_) (i:_) (v:_) (q0:x=.ref p) (q1:y=.int i) (q2:SqT K H p xs) (q3:atI xs i=some v) (q4:Q v H):aEn K x y H Q
def aGu(K:Ag):R2:=fun x y H Q=>aEn K x y H Q
inductive aEo(x:V)(y:V)(H:Hp)(Q:VK):Prop
 | mk (z:_) (i:_) (c:_) (q0:x=.str z) (q1:y=.int i) (q2:z.length≤sizeLine) (q3:atI z.cps.toList i=some c) (q4:Q (.str ⟨#[c]⟩) H):aEo x y H Q
def aKn:R2:=fun x y H Q=>aEo x y H Q
theorem cH:IxR X (aDe X.K):=by
 intro value J fc s σ H x y v u Q I rx Y h U;obtain⟨p,xs,i,z,rfl,rfl,hq,he,q⟩:=h;cases rx;obtain⟨t,rfl⟩:=Y;obtain⟨its,r,pl,hz⟩:=I.list hq;obtain⟨j,h1,h2,h3,h4,h5⟩:=xA he;obtain⟨w,ew,rw'⟩:=r.get h2;have Z:=r.length;have hn:=pA;have F:EP X fc σ Q w s:=⟨z,H,I,rw',q⟩
 by_cases W:0≤i
 ·have O:i.toNat=j:=by
   rw[Hn W h5]at h1;exact Cb.inj h1
  exact item_listR pl.isList W (by omega) (by rw[O];simpa using ew) F U
 ·have O:(i + (its.toArray.size:Int)).toNat=j:=by
   rw[seqIndex_neg (by omega) h4]at h1;rw[Ao,← Z];exact Cb.inj h1
  exact subscriptTail_builtinR (x:=w) pl.isList.typeIs slot_list_getitem.lookup
   (wpAny_getItem_list_neg (Q:=fun r s'=>r=w∧EP X fc σ Q r s') pl.isList (by omega) (by rw[Ao] <;> omega) (by omega) (by rw[O];simpa using ew) ⟨rfl,F⟩) U
theorem cX:IxR X (aGu X.K):=by
 intro value F fc s σ H x y v u Q I Y U h O;obtain⟨p,xs,i,z,rfl,rfl,hq,he,q⟩:=h;cases Y;obtain⟨t,rfl⟩:=U;obtain⟨its,r,pl,hz⟩:=I.tuple hq;obtain⟨j,h1,h2,h3,h4,h5⟩:=xA he;obtain⟨w,ew,rw'⟩:=r.get h2;have W:=r.length;have hn:=pA;have J:EP X fc σ Q w s:=⟨z,H,I,rw',q⟩
 exact subscriptTail_builtinR (x:=w) pl.typeIs slot_tuple_getitem.lookup
  (getItem_tuple (j:=j) (Q:=fun r s'=>r=w∧EP X fc σ Q r s') pl (by omega) (by omega) (by rw[Ao,← W];exact h1) (by simpa using ew) ⟨rfl,J⟩) O
theorem pC:IxR X aKn:=by
 intro value F fc s σ H x y v u Q I Z O h J;obtain⟨z,i,c,rfl,rfl,hz,he,q⟩:=h;obtain⟨t,rfl⟩:=Z;obtain⟨t',rfl⟩:=O;obtain⟨j,h1,h2,h3,h4,h5⟩:=xA he;have Y:z.cps.toList.length=z.length:=by simp[Str.length]
 rw[Y]at h1 h4 h5;have hn:=pA;exact tail_any (Gs s z t) slot_str_getitem.lookup (getItem_str (c:=c) (by
  have U:decide (i < -(2 ^ 63:Int))=false:=decide_eq_false (by omega);have W:decide (i ≥ 2 ^ 63)=false:=decide_eq_false (by omega);rw[U,W,Bool.or_false]) (by rw[h1];simpa using h2) ⟨.str ⟨#[c]⟩,H,I.tok _,⟨_,rfl⟩,q⟩) J
theorem aA5(its:List Ac)(n j:Nat)(u:Ac):Bp (·.setIfInBounds j u) { cls:=.type "list",data:=.seq its.toArray n }={ cls:=.type "list",data:=.seq (its.set j u).toArray n }:=by
 simp[Bp]
theorem Inv.lst{fc:List (Ah×Obj)}{σ:St}{H:Hp}{s:Ad}{p:Ah}{xs:List V}(I:Inv X fc σ H s)(h:H p=some (.lst xs)):
  ∃(its:List Ac) (n:Nat),cG xs its∧s.heap.get? p=some { cls:=.type "list",data:=.seq its.toArray n }∧xs.length≤sizeLine:=by
 obtain⟨z,its,n,r,e⟩:=I.hok p _ h;exact⟨its,n,r,e,z⟩
theorem Inv.lstUpd{fc:List (Ah×Obj)}{σ:St}{H:Hp}{s:Ad}{p:Ah}{xs ys:List V}{its its':List Ac}{n z:Nat}{f:Obj→Obj}(I:Inv X fc σ H s)(h:H p=some (.lst xs))
  (J:s.heap.get? p=some { cls:=.type "list",data:=.seq its.toArray n }) (F:f { cls:=.type "list",data:=.seq its.toArray n }={ cls:=.type "list",data:=.seq its'.toArray z }) (r:cG ys its') (hz:ys.length≤sizeLine) (t:Nat):
  Inv X fc σ (upd H p (.lst ys)) { s with heap:=s.heap.update p f,toks:=t }:=by
 have e:(s.heap.update p f).get? p=some { cls:=.type "list",data:=.seq its'.toArray z }:=by
  rw[Bh f J (by rw[F] <;> rfl),F]
 refine I.write (x:=p) (e:=p) (by rw[h];trivial) (.inl rfl) (fun b u O q=>(Bq _ _ (CV O)).trans q) ⟨_,e⟩ ?_;exact⟨hz,its',z,r,e⟩
inductive aB9(o:V)(i:V)(v:V)(H:Hp)(Q:(Hp→Prop)):Prop
 | mk (p:_) (xs:_) (k:_) (j:_) (q0:o=.ref p) (q1:i=.int k) (q2:H p=some (.lst xs)) (q3:ixN xs.length k=some j) (q4:Q (upd H p (.lst (xs.set j v)))):aB9 o i v H Q
def aJs:V→V→V→Hp→(Hp→Prop)→Prop:=fun o i v H Q=>aB9 o i v H Q
theorem rQ:aJf X aJs:=by
 intro fc s σ H o i v ov iv u Q I Z Y U h;obtain⟨p,xs,k,j,rfl,rfl,hp,hj,q⟩:=h;cases Z;obtain⟨t,rfl⟩:=Y;obtain⟨its,n,r,ho,hz⟩:=I.lst hp;obtain⟨h1,h2,h3,h4⟩:=aB8 hj;have F:=r.length;have hn:=pA;have J:Inv X fc σ (upd H p (.lst (xs.set j v))) { s with heap:=s.heap.update p (Bp (·.setIfInBounds j u)) }:=
  I.lstUpd hp ho (aA5 its n j u) (r.set U j) (by rw[List.length_set];exact hz) s.toks
 by_cases O:0≤k
 ·have z:k.toNat=j:=by
   rw[Hn O h4]at h1;exact Cb.inj h1
  exact PySem.W.ki_setAt ho O (by omega) (by rw[Ao,← F];exact h4) (by rw[z];exact⟨_,J,q⟩)
 ·have z:(k + (its.toArray.size:Int)).toNat=j:=by
   rw[seqIndex_neg (by omega) h3]at h1;rw[Ao,← F];exact Cb.inj h1
  exact PySem.W.ki_setBack ho (by omega) (by rw[Ao,← F];exact h3) (by omega) (by rw[z];exact⟨_,J,q⟩)
theorem xB(lo hi:Option Int)(n:Nat):(sliceBounds lo hi none n).1=((HT.sIx n 0 lo:Nat):Int)∧(sliceBounds lo hi none n).2.1=((HT.sIx n n hi:Nat):Int)∧(sliceBounds lo hi none n).2.2=1:=by
 refine⟨?_,?_,rfl⟩
 ·cases lo with
  | none=>simp[sliceBounds,HT.sIx]
  | some i=>
   simp only[sliceBounds,HT.sIx,Option.getD_none,show(1:Int) > 0 by decide,if_true];by_cases h:i < 0
   ·simp only[h,if_true] <;> omega
   ·simp only[h,if_false] <;> omega
 ·cases hi with
  | none=>simp[sliceBounds,HT.sIx]
  | some i=>
   simp only[sliceBounds,HT.sIx,Option.getD_none,show(1:Int) > 0 by decide,if_true];by_cases h:i < 0
   ·simp only[h,if_true] <;> omega
   ·simp only[h,if_false] <;> omega
theorem u9(its:List Ac)(lo hi:Option Int):slicePick its.toArray lo hi none=((its.drop (HT.sIx its.length 0 lo)).take (HT.sIx its.length its.length hi - HT.sIx its.length 0 lo)).toArray:=by
 obtain⟨h1,h2,h3⟩:=xB lo hi its.toArray.size;unfold slicePick;rw[h1,h2,h3];simp only[sliceRange_one,pick_run,Ao] <;> rfl
inductive aEp(K:Ag)(x:V)(lo:Option Int)(hi:Option Int)(H:Hp)(Q:VK):Prop
 | mk (a:_) (xs:_) (q0:x=.ref a) (q1:SqL K H a xs) (q2:∀ p,H p=none→Q (.ref p) (upd H p (.lst (dQ xs lo hi)))):aEp K x lo hi H Q
def aKo(K:Ag):V→Option Int→Option Int→Hp→VK→Prop:=fun x lo hi H Q=>aEp K x lo hi H Q
theorem fG:SlR X (aKo X.K):=by
 intro fc s σ H x v W Y lo hi U Q I J F pl O h;obtain⟨a,xs,rfl,hx,q⟩:=h;cases J;obtain⟨its,r,ht,hz⟩:=I.list hx;have z:=r.length;refine⟨"list",_,slot_list_getitem.lookup,ht.isList.typeIs,wpAny_getItem_list_slice ht.isList F pl O .none (by simp) ?_ (by rw[Ao] <;> omega)⟩;rw[u9,← z];refine⟨.ref s.heap.objs.size,_,I.laid (t':=s.toks) (o:=.lst (dQ xs lo hi)) (fun b ob q=>Ai _ q) (Ap _) ?_,rfl,q _ (I.hok.fresh (Ap _))⟩;exact⟨Bc (pZ xs lo hi) hz,_,0,(r.drop (HT.sIx xs.length 0 lo)).take (HT.sIx xs.length xs.length hi - HT.sIx xs.length 0 lo),Aq _ rfl⟩
def hV:V→Bool
 | .non=>true
 | .bl _=>true
 | .int _=>true
 | .str _=>true
 | _=>false
def eqV:V→V→Bool
 | .non,.non=>true
 | .bl a,.bl b=>a == b
 | .bl a,.int b=>(if a then 1 else 0) == b
 | .int a,.bl b=>a == (if b then 1 else 0)
 | .int a,.int b=>a == b
 | .str a,.str b=>a == b
 | _,_=>false
theorem xC{A:AO}{s:Ad}{y x:V}{u v:Ac}(F:c5 y u)(z:c5 x v)(O:hV y=true)(J:hV x=true):GK A s u v (eqV y x):=by
 cases y with
 | non=>
  cases F;cases x with
  | non=>cases z;exact SeqAt.EqAt.same _
  | bl b=>cases z;exact SeqAt.EqAt.none_bool b
  | int b=>obtain⟨t,rfl⟩:=z;exact SeqAt.EqAt.none_int b t
  | str b=>obtain⟨t,rfl⟩:=z;exact SeqAt.EqAt.none_str b t
  | _=>exact absurd (show false=true from J) AN
 | bl a=>
  cases F;cases x with
  | non=>cases z;exact SeqAt.EqAt.bool_none a
  | bl b=>cases z;exact SeqAt.EqAt.bool_bool a b
  | int b=>obtain⟨t,rfl⟩:=z;exact SeqAt.EqAt.bool_int a b t
  | str b=>obtain⟨t,rfl⟩:=z;exact SeqAt.EqAt.bool_str a b t
  | _=>exact absurd (show false=true from J) AN
 | int a=>
  obtain⟨t',rfl⟩:=F;cases x with
  | non=>cases z;exact SeqAt.EqAt.int_none a t'
  | bl b=>cases z;exact SeqAt.EqAt.int_bool a t' b
  | int b=>obtain⟨t,rfl⟩:=z;exact SeqAt.EqAt.int_int a t' b t
  | str b=>obtain⟨t,rfl⟩:=z;exact SeqAt.EqAt.int_str a t' b t
  | _=>exact absurd (show false=true from J) AN
 | str a=>
  obtain⟨t',rfl⟩:=F;cases x with
  | non=>cases z;exact SeqAt.EqAt.str_none a t'
  | bl b=>cases z;exact SeqAt.EqAt.str_bool a t' b
  | int b=>obtain⟨t,rfl⟩:=z;exact SeqAt.EqAt.str_int a t' b t
  | str b=>obtain⟨t,rfl⟩:=z;exact EX a t' b t
  | _=>exact absurd (show false=true from J) AN
 | _=>exact absurd (show false=true from O) AN
def eqU(x:V)(u:Ac):Bool:=match u with
 | .none=>eqV .non x
 | .bool b=>eqV (.bl b) x
 | .int i _=>eqV (.int i) x
 | .str z _=>eqV (.str z) x
 | _=>false
theorem aEq{x y:V}{u:Ac}(r:c5 y u)(f:hV y=true):eqU x u=eqV y x:=by
 cases y with
 | non=>cases r;rfl
 | bl b=>cases r;rfl
 | int i=>obtain⟨t,rfl⟩:=r;rfl
 | str z=>obtain⟨t,rfl⟩:=r;rfl
 | _=>exact absurd (show false=true from f) AN
theorem nZ{x:V}:∀{xs:List V}{us:List Ac},cG xs us→xs.all hV=true→us.any (eqU x)=xs.any fun y=>eqV y x
 | _,_,.nil,_=>rfl
 | y :: xs,u :: us,.cons r t,f=>by
  rw[CW,AX]at f;rw[EE,EE,aEq r f.1,nZ t f.2]
theorem lJ{A:AO}{s:Ad}{x:V}{v:Ac}(J:c5 x v)(F:hV x=true):∀{xs:List V}{us:List Ac},cG xs us→xs.all hV=true→∀ u∈us,GK A s u v (eqU x u)
 | _,_,.nil,_=>fun u z=>by cases z
 | y :: xs,u :: us,.cons r t,f=>fun O z=>by
  rw[CW,AX]at f;rcases Al.mp z with rfl | z
  ·rw[aEq r f.1];exact xC r J f.1 F
  ·exact lJ J F t f.2 O z
def inV(x:V)(xs:List V):Bool:=xs.any fun y=>eqV y x
inductive aHw(K:Ag)(neg:Bool)(x:V)(y:V)(H:Hp)(Q:VK):Prop
 | mk (p:_) (xs:_) (q0:y=.ref p) (q1:(SqL K H p xs∨SqT K H p xs)) (q2:hV x=true) (q3:xs.all hV=true) (q4:Q (.bl (if neg then !inV x xs else inV x xs)) H):aHw K neg x y H Q
def rIn(K:Ag)(neg:Bool):R2:=fun x y H Q=>aHw K neg x y H Q
theorem pE:OpR X (compareOp .In) (rIn X.K false):=by
 intro fc s σ H x y v u Q I F J h;obtain⟨p,xs,rfl,z,fx,fs,q⟩:=h;cases J;rcases z with z | z
 ·obtain⟨its,r,pl,hz⟩:=I.list z;refine SeqAt.in_listAt (eqU x) pl.isList (fun w hw=>lJ F fx r fs w (by simpa using hw)) ⟨.bl _,H,I,rfl,?_⟩;rw[show its.toArray.any (eqU x)=its.any (eqU x) by simp,nZ r fs];exact q
 ·obtain⟨its,r,pl,hz⟩:=I.tuple z;refine SeqAt.in_tupleAt (eqU x) pl (fun w hw=>lJ F fx r fs w (by simpa using hw)) ⟨.bl _,H,I,rfl,?_⟩;rw[show its.toArray.any (eqU x)=its.any (eqU x) by simp,nZ r fs];exact q
theorem iL:OpR X (compareOp .NotIn) (rIn X.K true):=by
 intro fc s σ H x y v u Q I F J h;obtain⟨p,xs,rfl,z,fx,fs,q⟩:=h;cases J;rcases z with z | z
 ·obtain⟨its,r,pl,hz⟩:=I.list z;refine SeqAt.notIn_listAt (eqU x) pl.isList (fun w hw=>lJ F fx r fs w (by simpa using hw)) ⟨.bl _,H,I,rfl,?_⟩;rw[show its.toArray.any (eqU x)=its.any (eqU x) by simp,nZ r fs];exact q
 ·obtain⟨its,r,pl,hz⟩:=I.tuple z;refine SeqAt.notIn_tupleAt (eqU x) pl (fun w hw=>lJ F fx r fs w (by simpa using hw)) ⟨.bl _,H,I,rfl,?_⟩;rw[show its.toArray.any (eqU x)=its.any (eqU x) by simp,nZ r fs];exact q
inductive jT(K:Ag)(xs:List V)(H:Hp)(Q:VK):Prop
 | mk (p:_) (ys:_) (q0:xs=[.ref p]) (q1:(SqL K H p ys∨SqT K H p ys)) (q2:Q (.int ys.length) H):jT K xs H Q
def iY(K:Ag):List V→Hp→VK→Prop:=fun xs H Q=>jT K xs H Q
theorem aW:eY X (.builtin "len") (iY X.K):=by
 intro fc s σ H xs J Q I r h;obtain⟨p,ys,rfl,F,q⟩:=h;obtain⟨u,rfl,rx⟩:=gE r;cases rx;have hn:=pA;rcases F with F | F
 ·obtain⟨its,r',pl,hz⟩:=I.list F;have z:=r'.length;exact Calls.call_len_list pl.isList (by simp only[Ao] <;> omega) ⟨.int ys.length,H,I.tok _,⟨s.toks + 1,by rw[Ao,z]⟩,q⟩
 ·obtain⟨its,r',pl,hz⟩:=I.tuple F;have z:=r'.length;exact len_tuple pl (by simp only[Ao] <;> omega) ⟨.int ys.length,H,I.tok _,⟨s.toks + 1,by rw[Ao,z]⟩,q⟩
inductive jU(xs:List V)(H:Hp)(Q:VK):Prop
 | mk (z:_) (q0:xs=[.str z]) (q1:z.length≤sizeLine) (q2:Q (.int z.length) H):jU xs H Q
def rS:List V→Hp→VK→Prop:=fun xs H Q=>jU xs H Q
theorem n6:eY X (.builtin "len") rS:=by
 intro fc s σ H xs F Q I r h;obtain⟨z,rfl,hz,q⟩:=h;obtain⟨u,rfl,t,rfl⟩:=gE r;have hn:=pA;exact len_str (by omega) ⟨.int z.length,H,I.tok _,⟨_,rfl⟩,q⟩
inductive jV(K:Ag)(xs:List V)(H:Hp)(Q:VK):Prop
 | mk (p:_) (ys:_) (q0:xs=[.ref p]) (q1:(SqL K H p ys∨SqT K H p ys)) (q2:∀ l,H l=none→Q (.ref l) (upd H l (.lst ys))):jV K xs H Q
def rT(K:Ag):List V→Hp→VK→Prop:=fun xs H Q=>jV K xs H Q
theorem gH:eY X (.type "list") (rT X.K):=by
 intro fc s σ H xs Y Q I r h;obtain⟨p,ys,rfl,U,q⟩:=h;obtain⟨u,rfl,rx⟩:=gE r;cases rx;have O:∀(z:List Ac),cG ys z→ys.length≤sizeLine→∀(h':Ba) (F:Nat),(∀ b o',s.heap.get? b=some o'→h'.get? b=some o')→
   h'.get? s.heap.objs.size=some { cls:=.type "list",dict:=none,data:=.seq z.toArray F,slots:=#[] }→EP X fc σ Q (.ref s.heap.objs.size) { s with heap:=h' }:=fun z J hz h' F kp e=>
  ⟨.ref s.heap.objs.size,_,I.laid (t':=s.toks) kp (Ap _) (show cP X.prog X.w _ h' _ (.lst ys) from⟨hz,z,F,J,e⟩),rfl,q _ (I.hok.fresh (Ap _))⟩
 rcases U with U | U
 ·obtain⟨z,J,pl,hz⟩:=I.list U;have W:=J.length;obtain⟨o,ho,hc,n,hd⟩:=pl.isList;exact call_list_seq p (.inl rfl) ho hc hd (fun h' F kp e=>O z J hz h' F kp e) (by simp only[Ao] <;> omega)
 ·obtain⟨z,J,pl,hz⟩:=I.tuple U;have W:=J.length;obtain⟨o,ho,hc,n,hd⟩:=pl;exact call_list_seq p (.inr rfl) ho hc hd (fun h' F kp e=>O z J hz h' F kp e) (by simp only[Ao] <;> omega)
inductive jE(K:Ag)(xs:List V)(H:Hp)(Q:VK):Prop
 | mk (p:_) (ys:_) (q0:xs=[.ref p]) (q1:((SqL K H p ys∧∀ l,H l=none→Q (.ref l) (upd H l (.tup ys)))∨(SqT K H p ys∧Q (.ref p) H))):jE K xs H Q
def qH(K:Ag):List V→Hp→VK→Prop:=fun xs H Q=>jE K xs H Q
theorem c0:eY X (.type "tuple") (qH X.K):=by
 intro fc s σ H xs O Q I r h;obtain⟨p,ys,rfl,h⟩:=h;obtain⟨u,rfl,rx⟩:=gE r;cases rx;rcases h with⟨hq,q⟩ | ⟨hq,q⟩
 ·obtain⟨its,r',pl,hz⟩:=I.list hq;have F:=r'.length;refine call_tuple_list pl.isList (fun h' kp=>?_) (by simp only[Ao] <;> omega);have z:Inv X fc σ H { s with heap:=h' }:=I.kept (t':=s.toks) kp;have J:Inv X fc σ (upd H h'.objs.size (.tup ys)) { s with heap:=h'.push { cls:=.type "tuple",data:=.seq its.toArray } }:=
   z.laid (t':=s.toks) (fun b o e=>Ai _ e) (Ap _) (show cP X.prog X.w _ _ _ (.tup ys) from⟨hz,its,r',⟨_,Aq _ rfl,⟨rfl,_,rfl⟩,rfl⟩⟩)
  exact⟨.ref h'.objs.size,_,J,rfl,q _ (z.hok.fresh (Ap _))⟩
 ·obtain⟨its,r',pl,hz⟩:=I.tuple hq;exact call_tuple_same pl ⟨.ref p,H,I,rfl,q⟩
def tyV(K:Ag)(T:String)(x:V)(H:Hp):Prop:=match x with
 | .str _=>T="str"
 | .int _=>T="int"
 | .ref p=>(T="list"∧∃ xs,SqL K H p xs)∨(T="tuple"∧∃ o,K.lookup p=some o∧o.cls=.type "tuple"∧o.dict=none)∨
   (T="dict"∧((∃ fg,H p=some (.dK fg))∨∃ fg,H p=some (.dT fg)))∨(T="set"∧∃ S n,H p=some (.set S n))∨(T="tuple"∧∃ xs,H p=some (.tup xs))
 | _=>False
theorem aIg{fc:List (Ah×Obj)}{σ:St}{H:Hp}{s:Ad}{T:String}{x:V}{v:Ac}(I:Inv X fc σ H s)(r:c5 x v)(ty:tyV X.K T x H):
  s.TypeIs v T∧∀ a,v=.ref a→∃ ob,s.heap.get? a=some ob∧ob.dict=none:=by
 cases x with
 | str z=>
  obtain⟨t,rfl⟩:=r;cases(show T="str" from ty);exact⟨Gs s z t,fun _ e=>nomatch e⟩
 | int i=>
  obtain⟨t,rfl⟩:=r;cases(show T="int" from ty);exact⟨typeIs_int s i t,fun _ e=>nomatch e⟩
 | ref p=>
  cases r;rcases ty with⟨rfl,xs,hq⟩ | ⟨rfl,o,hk,hc,hd⟩ | ⟨rfl,hk⟩ | ⟨rfl,S,n,hk⟩ | ⟨rfl,xs,hq⟩
  ·obtain⟨its,_,pl,_⟩:=I.list hq;refine⟨pl.isList.typeIs,fun a e=>?_⟩;cases e;obtain⟨o,n,e,c,hd,_⟩:=pl;exact⟨o,e,hd⟩
  ·refine⟨⟨o,I.kIn p o hk,hc⟩,fun a e=>?_⟩;cases e;exact⟨o,I.kIn _ o hk,hd⟩
  ·have z:∃ o,s.heap.get? p=some o∧o.ExactDict:=by
    rcases hk with⟨fg,hk⟩ | ⟨fg,hk⟩
    ·obtain⟨_,_,_,_,o,_,_,e,ex,_⟩:=I.hok p _ hk;exact⟨o,e,ex⟩
    ·obtain⟨_,_,_,_,o,_,_,e,ex,_⟩:=I.hok p _ hk;exact⟨o,e,ex⟩
   obtain⟨o,e,ex⟩:=z;refine⟨⟨o,e,ex.1⟩,fun a F=>?_⟩;cases F;exact⟨o,e,ex.2.1⟩
  ·obtain⟨o,_,_,_,e,ex,_⟩:=I.hok p _ hk;refine⟨⟨o,e,ex.1⟩,fun a F=>?_⟩;cases F;exact⟨o,e,ex.2.1⟩
  ·obtain⟨_,_,_,o,e,⟨c,_⟩,hd⟩:=(show cP X.prog X.w H s.heap p (.tup xs) from I.hok p _ hq)
   refine⟨⟨o,e,c⟩,fun a F=>?_⟩;cases F;exact⟨o,e,hd⟩
 | _=>exact Bz ty
def tBM(K:Ag)(T:String)(r:V→List V→Hp→VK→Prop)(to:TE)(t:TA):TE:=fun σ H Q=>to σ H fun x H1=>tyV K T x H1∧t σ H1 fun xs H2=>r x xs H2 Q
variable{o e:Bf}{es:List Bf}{to:TE}{t:TA}{name:Str}{ig gx:Pos}{T id:String}{r:V→List V→Hp→VK→Prop}
theorem lM(pa:PlainAttrs T)(slot:Slot T name id)(U:typeOf (.builtin id)=pure (.type "method_descriptor"))(hm:MtR X id r)(ho:PE X o to)(ha:PA X (e :: es) t)
  (F:attributeBase o name X.env (eval o X.env)=eval o X.env:=by rfl)
  (O:((backTo gx (starEach (e :: es) X.env)).all (fun x=>!x.1) && (backToKw gx (keywordEach [] X.env)).all (fun x=>x.1.isSome)
   && decide ((e :: es).length + ([]:List EC).length + (if ([]:List EC).isEmpty then 0 else 1) < 30))=true:=by rfl)
  (J:(ig.endLine == gx.line)=true:=by rfl) (hs:starEach (e :: es) X.env=(false,eval e X.env) :: starEach es X.env:=by rfl) (z:(backTo gx (starEach es X.env)).any (·.1)=false:=by rfl):
  PE X (.Call (.Attribute o name ig) (e :: es) [] gx) (tBM X.K T r to t):=by
 constructor;intro fc s σ H Q I h;refine wpAny_Call_method_late F O J rfl (thn (ho fc s σ H _ I h) fun v s1 ⟨x,H1,Y,Z,ty,q1⟩=>?_);obtain⟨h1,h2⟩:=aIg Y Z ty;refine⟨T,id,pa,slot,U,h1,h2,?_⟩;have W:=ha gx fc s1 σ H1 _ Y q1;rw[hs]at W ⊢;refine EN (by show(false || (backTo gx (starEach es X.env)).any (·.1))=false;rw[z] <;> rfl) (Di ?_)
 exact thn W fun us s2 ⟨vs,H2,I2,r2,q2⟩=>hm fc s2 σ H2 x vs v us Q I2 Z r2 q2
end
def MtM(X:Cx)(id:String)(r:V→List V→Hp→VK→Prop):Prop:=
 ∀(fc:List (Ah×Obj)) (s:Ad) (σ:St) (H:Hp) (x:V) (xs:List V) (v:Ac) (us:List Ac) (Q:VK),Inv X fc σ H s→c5 x v→cG xs us→r x xs H Q→
  wpAny (model X.prog X.w) X.A (call (.builtin id) (v :: us)) (EP X fc σ Q) X.xe s
theorem cG.one:∀{x:V}{us:List Ac},cG [x] us→∃ u,us=[u]∧c5 x u
 | _,_,.cons r .nil=>⟨_,rfl,r⟩
theorem cG.eraseIdx:∀{xs:List V}{us:List Ac} (i:Nat),cG xs us→cG (xs.eraseIdx i) (us.eraseIdx i)
 | _,_,_,.nil=>.nil
 | _,_,0,.cons _ t=>t
 | _,_,i + 1,.cons r t=>.cons r (cG.eraseIdx i t)
theorem vR{α:Type}:∀(l:List α) (i:Nat),(l.eraseIdx i).length≤l.length
 | [],_=>Ap _
 | _ :: _,0=>CU _
 | _ :: r,i + 1=>Nat.succ_le_succ (vR r i)
section
variable{X:Cx}{fc:List (Ah×Obj)}{σ:St}{H:Hp}{s:Ad}{l b:Ah}{xs ys zs:List V}
theorem Inv.lset{its its':List Ac}{n:Nat}{f:Array Ac→Array Ac}{t':Nat}(I:Inv X fc σ H s)(z:H l=some (.lst xs))
  (e:s.heap.get? l=some { cls:=.type "list",data:=.seq its.toArray n }) (J:f its.toArray=its'.toArray) (O:cG ys its') (hz:ys.length≤sizeLine):
  Inv X fc σ (upd H l (.lst ys)) { s with heap:=s.heap.update l (Bp f),toks:=t' }:=by
 have q:=PySem.IsL.update e f;rw[J]at q;refine I.write (x:=l) (e:=l) (by rw[z];exact trivial) (.inl rfl) (fun W u U F=>(Bq s.heap (Bp f) (CV U)).trans F) ⟨_,q⟩ ?_;exact⟨hz,its',_,O,q⟩
theorem Inv.lnew{its:List Ac}{t':Nat}(I:Inv X fc σ H s)(z:cG ys its)(hz:ys.length≤sizeLine):
  Inv X fc σ (upd H s.heap.objs.size (.lst ys)) { s with heap:=s.heap.push { cls:=.type "list",data:=.seq its.toArray },toks:=t' }:=
 I.laid (fun _ _ q=>Ai _ q) (Ap _) ⟨hz,its,0,z,Aq _ rfl⟩
theorem Inv.fresh(I:Inv X fc σ H s):H s.heap.objs.size=none:=I.hok.fresh (Ap _)
theorem Inv.lstM(I:Inv X fc σ H s)(F:H l=some (.lst xs)):xs.length≤sizeLine∧∃(its:List Ac) (n:Nat),cG xs its∧xs.length=its.length∧s.heap.get? l=some { cls:=.type "list",data:=.seq its.toArray n }:=by
 obtain⟨z,its,n,r,e⟩:=I.hok l _ F;exact⟨z,its,n,r,r.length,e⟩
end
section
variable{X:Cx}
inductive vS(x:V)(vs:List V)(H:Hp)(Q:VK):Prop
 | mk (l:_) (xs:_) (y:_) (q0:x=.ref l) (q1:vs=[y]) (q2:H l=some (.lst xs)) (q3:xs.length < sizeLine) (q4:Q .non (upd H l (.lst (xs ++ [y])))):vS x vs H Q
def aGv:V→List V→Hp→VK→Prop:=fun x vs H Q=>vS x vs H Q
theorem gB:MtM X "list.append" aGv:=by
 intro fc s σ H x vs v U Q I O J h;obtain⟨l,xs,y,rfl,rfl,hH,hz,q⟩:=h;cases O;obtain⟨u,rfl,ru⟩:=J.one;obtain⟨z,its,n,r,hl,e⟩:=I.lstM hH;refine call_meets F.slot_list_append ⟨_,e,rfl⟩ F.entry_list_append (F.args_list_append_2 _ _) (PySem.list_append l its.toArray n u (by rw[Ao];omega)) ⟨e,?_⟩;refine⟨.non,_,I.lset (its':=its ++ [u]) hH e (by simp) (r.append (.cons ru .nil)) ?_,rfl,q⟩;rw[Ak,EZ];omega
inductive yY(x:V)(vs:List V)(H:Hp)(Q:VK):Prop
 | mk (l:_) (xs:_) (i:_) (k:_) (y:_) (q0:x=.ref l) (q1:vs=[.int i]) (q2:H l=some (.lst xs)) (q3:-(2 ^ 63)≤i) (q4:i < 2 ^ 63) (q5:seqIndex? i xs.length=some k) (q6:xs[k]?=some y) (q7:Q y (upd H l (.lst (xs.eraseIdx k)))):yY x vs H Q
def aIh:V→List V→Hp→VK→Prop:=fun x vs H Q=>yY x vs H Q
theorem yZ:MtM X "list.pop" aIh:=by
 intro fc s σ H x vs v U Q I O J h;obtain⟨l,xs,i,k,y,rfl,rfl,hH,h1,h2,hk,hy,q⟩:=h;cases O;obtain⟨u,rfl,ru⟩:=J.one;obtain⟨t,rfl⟩:=ru;obtain⟨z,its,n,r,hl,e⟩:=I.lstM hH;obtain⟨w,hw,rw'⟩:=r.get hy;refine call_meets F.slot_list_pop ⟨_,e,rfl⟩ F.entry_list_pop (F.args_list_pop_2 _ _)
  (MeetsSeq.list_pop_at l its.toArray n i t k w (fitsIndex_both h1 h2) (by rw[Ao,← hl];exact hk) (by rw[← Array.getElem?_toList];exact hw) (by rw[Ao];omega)) ⟨e,?_⟩
 refine⟨y,_,I.lset (its':=its.eraseIdx k) hH e ?_ (r.eraseIdx k) ?_,rw',q⟩
 ·show its.toArray.eraseIdxIfInBounds k=(its.eraseIdx k).toArray;rw[List.eraseIdxIfInBounds_toArray]
 ·have:=vR xs k;omega
inductive aEr(x:V)(y:V)(H:Hp)(Q:VK):Prop
 | mk (l:_) (b:_) (xs:_) (zs:_) (q0:x=.ref l) (q1:y=.ref b) (q2:H l=some (.lst xs)) (q3:H b=some (.lst zs)) (q4:xs.length + zs.length≤sizeLine) (q5:∀ p,H p=none→Q (.ref p) (upd H p (.lst (xs ++ zs)))):aEr x y H Q
def aKp:R2:=fun x y H Q=>aEr x y H Q
theorem nO:OpR X (binaryOp .Add) aKp:=by
 intro fc s σ H x y v u Q I O F h;obtain⟨l,b,xs,zs,rfl,rfl,hH,hB,hz,q⟩:=h;cases O;cases F;obtain⟨z,its,n,r,hl,e⟩:=I.lstM hH;obtain⟨z2,its2,n2,r2,hl2,e2⟩:=I.lstM hB;refine PySem.P.add_list e e2 ?_ (by rw[Ao,Ao];omega);have J:its.toArray ++ its2.toArray=(its ++ its2).toArray:=by simp
 rw[J];exact⟨.ref _,_,I.lnew (t':=s.toks) (r.append r2) (by rw[Ak];omega),rfl,q _ I.fresh⟩
end
section
variable{prog:Ay}{w:AV}{A:AO}{E:Ac→Ad→Prop}{s:Ad}
end
section
variable{X:Cx}
end
section
variable{κ:Type}[DecidableEq κ]
def fJ(fg:List (κ×V))(k:κ):Option V:=(fg.find? fun kv=>decide (kv.1=k)).map (·.2)
def f8(fg:List (κ×V))(k:κ)(v:V):List (κ×V):=
 if (fg.any fun kv=>decide (kv.1=k))=true then fg.map (fun kv=>if kv.1=k then(kv.1,v) else kv) else fg ++ [(k,v)]
def aKH(fg:List (κ×V))(k:κ):List (κ×V):=fg.filter fun kv=>decide (kv.1≠k)
theorem rV{k:κ}:fJ ([]:List (κ×V)) k=none:=rfl
theorem jW{p:κ×V}{r:List (κ×V)}{k:κ}(e:p.1=k):fJ (p :: r) k=some p.2:=by simp[fJ,DE,e]
theorem dS{p:κ×V}{r:List (κ×V)}{k:κ}(e:¬ p.1=k):fJ (p :: r) k=fJ r k:=by simp[fJ,DE,e]
theorem rW(k:κ):∀ fg:List (κ×V),(fg.any fun z=>decide (z.1=k))=(fJ fg k).isSome
 | []=>rfl
 | p :: r=>by
  rw[EE];by_cases e:p.1=k
  ·simp only[jW e,Ic e,Bool.true_or,Option.isSome_some]
  ·rw[dS e,decide_eq_false e,Bool.false_or];exact rW k r
theorem jF(fg:List (κ×V))(k:κ)(v:V):(f8 fg k v).length≤fg.length + 1:=by
 unfold f8;split
 ·rw[Ab];omega
 ·rw[Ak,AM,By];omega
theorem rX{fg:List (κ×V)}{k:κ}(v:V)(h:fJ fg k=none):f8 fg k v=fg ++ [(k,v)]:=by
 unfold f8;rw[rW,h];exact Ia (by decide)
theorem nX.isSome_eq{o:Option V}{u:Option Ac}(r:nX o u):o.isSome=u.isSome:=by
 cases o with
 | none=>cases u with
  | none=>rfl
  | some _=>exact(show False from r).elim
 | some _=>cases u with
  | none=>exact(show False from r).elim
  | some _=>rfl
theorem KV.val{fg:List (κ×V)}{vs:List (κ×Ac)}(r:KV fg vs)(k:κ):nX (fJ fg k) (valueAt vs k):=by
 unfold KV at r
 induction r with
 | nil=>exact Cg
 | @cons p q ps F h t O=>
  obtain⟨h1,h2⟩:=h;by_cases e:p.1=k
  ·have J:q.1=k:=h1.symm.trans e;have b:valueAt (q :: F) k=some q.2:=by simp[valueAt,DE,J]
   rw[jW e,b];exact h2
  ·have J:¬ q.1=k:=fun z=>e (h1.trans z);have b:valueAt (q :: F) k=valueAt F k:=by simp[valueAt,DE,J]
   rw[dS e,b];exact O
theorem KV.any{fg:List (κ×V)}{vs:List (κ×Ac)}(r:KV fg vs)(k:κ):(fg.any fun z=>decide (z.1=k))=vs.any fun z=>decide (z.1=k):=by
 unfold KV at r
 induction r with
 | nil=>rfl
 | cons h t F=>rw[EE,EE,F,h.1]
theorem KV.repl{fg:List (κ×V)}{vs:List (κ×Ac)}(r:KV fg vs)(k:κ){y:V}{u:Ac}(J:c5 y u):
  KV (fg.map fun F=>if F.1=k then(F.1,y) else F) (vs.map fun F=>if F.1=k then(F.1,u) else F):=by
 unfold KV at r ⊢
 induction r with
 | nil=>exact .nil
 | @cons p q ps U h t O=>
  rw[A3,A3];refine .cons ?_ O;obtain⟨h1,h2⟩:=h;by_cases e:p.1=k
  ·rw[Ib e,Ib (h1.symm.trans e)];exact⟨h1,J⟩
  ·rw[Ia e,Ia (fun z=>e (h1.trans z))];exact⟨h1,h2⟩
theorem KV.put{fg:List (κ×V)}{vs:List (κ×Ac)}(r:KV fg vs)(k:κ){y:V}{u:Ac}(z:c5 y u):KV (f8 fg k y) (stored vs k u):=by
 unfold f8 stored;rw[r.any k];by_cases e:(vs.any fun F=>decide (F.1=k))=true
 ·rw[Ib e,Ib e];exact r.repl k z
 ·rw[Ia e,Ia e];exact Paired.snoc r ⟨rfl,z⟩
theorem KV.length{fg:List (κ×V)}{vs:List (κ×Ac)}(r:KV fg vs):fg.length=vs.length:=Gc r
end
theorem rY{P:Ay}{w:AV}{k:Key}{u:Ac}(r:c5 (kV k) u):(c9 P w).is k u=true:=by
 cases k with
 | inl i=>obtain⟨t,e⟩:=(show∃ t,u=Ci i t from r);subst e;exact yR P w i t
 | inr x=>obtain⟨t,e⟩:=(show∃ t,u=Bw x t from r);subst e;exact yS P w x t
theorem vT{P:Ay}{w:AV}:∀{ks:List Key}{us:List Ac},cG (ks.map kV) us→ItemsAre (c9 P w) ks us
 | [],_,r=>by rw[Dt]at r;cases r;exact .nil
 | k :: ks,_,r=>by
  rw[A3]at r;cases r with
  | cons h t=>exact .cons (rY h) (vT t)
abbrev KT(H:Hp):List (List Key×V)→List (List Key×Ah×Ac)→Prop:=Gj fun p q=>p.1=q.1∧H q.2.1=some (.tup (p.1.map kV))∧c5 p.2 q.2.2
theorem KT.val{H:Hp}{fg:List (List Key×V)}{xs:List (List Key×Ah×Ac)}(r:KT H fg xs)(k:List Key):nX (fJ fg k) ((atKey xs k).map (·.2)):=by
 induction r with
 | nil=>exact Cg
 | @cons p q ps F h t O=>
  obtain⟨h1,_,h2⟩:=h;by_cases e:p.1=k
  ·have J:q.1=k:=h1.symm.trans e;have b:atKey (q :: F) k=some q.2:=by simp[atKey,DE,J]
   rw[jW e,b];exact h2
  ·have J:¬ q.1=k:=fun z=>e (h1.trans z);have b:atKey (q :: F) k=atKey F k:=by simp[atKey,DE,J]
   rw[dS e,b];exact O
theorem KT.repl{H:Hp}{fg:List (List Key×V)}{xs:List (List Key×Ah×Ac)}(r:KT H fg xs)(k:List Key){y:V}{u:Ac}(J:c5 y u):
  KT H (fg.map fun F=>if F.1=k then(F.1,y) else F) (xs.map (putAt k u)):=by
 induction r with
 | nil=>exact .nil
 | @cons p q ps U h t O=>
  rw[A3,A3];refine .cons ?_ O;obtain⟨h1,h2,h3⟩:=h;unfold putAt;by_cases e:p.1=k
  ·rw[Ib e,Ib (h1.symm.trans e)];exact⟨h1,h2,J⟩
  ·rw[Ia e,Ia (fun z=>e (h1.trans z))];exact⟨h1,h2,h3⟩
theorem KT.put{H:Hp}{fg:List (List Key×V)}{xs:List (List Key×Ah×Ac)}(r:KT H fg xs)(k:List Key){b:Ah}{y:V}{u:Ac}(J:H b=some (.tup (k.map kV)))(z:c5 y u):
  KT H (f8 fg k y) (storedH xs k b u):=by
 have e:(fg.any fun F=>decide (F.1=k))=(atKey xs k).isSome:=by
  rw[rW,(r.val k).isSome_eq,Option.isSome_map]
 unfold f8 storedH;rw[e];by_cases q:(atKey xs k).isSome=true
 ·rw[Ib q,Ib q];exact r.repl k z
 ·rw[Ia q,Ia q];exact Paired.snoc r ⟨rfl,J,z⟩
theorem KT.keeps{H H':Hp}{fg:List (List Key×V)}{xs:List (List Key×Ah×Ac)}(r:KT H fg xs)(ht:∀ b ys,H b=some (.tup ys)→H' b=some (.tup ys)):KT H' fg xs:=
 Paired.mapP r fun _ _ z=>⟨z.1,ht _ _ z.2.1,z.2.2⟩
section
variable{P:Ay}{w:AV}{H:Hp}{h:Ba}{a:Ah}
theorem aHx{u:HO}(ok:HOk P w H h)(e:Rd H a u):cP P w H h a u:=e.ok ok
theorem y8{fg:List (Key×V)}(ok:HOk P w H h)(e:Rd H a (.dK fg)):fg.length≤sizeLine∧(a == sysModules)=false∧∃ vs,KV fg vs∧h.DictOf (c9 P w) a vs:=
 show cP P w H h a (.dK fg) from aHx ok e
theorem y9{fg:List (Key×V)}(ok:HOk P w H h)(e:H a=some (.dK fg)):fg.length≤sizeLine∧(a == sysModules)=false∧∃ vs,KV fg vs∧h.DictOf (c9 P w) a vs:=y8 ok (.inl e)
theorem aA6{ks:List Key}(ok:HOk P w H h)(e:H a=some (.tup (ks.map kV))):(tupleKind (c9 P w)).is h ks a:=by
 obtain⟨_,its,r,o,h1,⟨h2,n,h3⟩,_⟩:=(show cP P w H h a (.tup (ks.map kV)) from ok a _ e)
 exact⟨o,its.toArray,n,h1,h2,h3,by simpa using vT r⟩
theorem aCa{fg:List (List Key×V)}(ok:HOk P w H h)(e:Rd H a (.dT fg)):fg.length≤sizeLine∧(a == sysModules)=false∧
  ∃ xs,KT H fg xs∧h.DictOfH (tupleKind (c9 P w)) a xs:=by
 obtain⟨z,y,xs,r,o,es,ep,h1,h2,h3,h4,h5⟩:=(show cP P w H h a (.dT fg) from aHx ok e)
 refine⟨z,y,xs,r,o,es,ep,h1,h2,h3,h4,fun x F=>?_,h5⟩;have all:∀{l:List (List Key×V)} {m:List (List Key×Ah×Ac)},KT H l m→∀ x∈m,(tupleKind (c9 P w)).is h x.1 x.2.1:=by
  intro l m q
  induction q with
  | nil=>intro x F;exact nomatch F
  | @cons p q ps U J t O=>
   intro x F;rcases Al.mp F with e | F
   ·subst e;exact aA6 ok (by rw[← J.1];exact J.2.1)
   ·exact O x F
 exact all r x F
theorem aJt{fg:List (List Key×V)}(ok:HOk P w H h)(e:H a=some (.dT fg)):fg.length≤sizeLine∧(a == sysModules)=false∧
  ∃ xs,KT H fg xs∧h.DictOfH (tupleKind (c9 P w)) a xs:=aCa ok (.inl e)
end
def rZ(H:Hp)(a:Ah)(y:V)(r:Option V):Prop:=
 (∃ fg k,Rd H a (.dK fg)∧y=kV k∧r=fJ fg k)∨∃ fg k b,Rd H a (.dT fg)∧y=.ref b∧H b=some (.tup (k.map kV))∧r=fJ fg k
def zC(H:Hp)(a:Ah)(y v:V)(H':Hp):Prop:=
 (∃ fg k,H a=some (.dK fg)∧y=kV k∧fg.length < sizeLine∧H'=upd H a (.dK (f8 fg k v)))∨
 ∃ fg k b,H a=some (.dT fg)∧y=.ref b∧H b=some (.tup (k.map kV))∧fg.length < sizeLine∧H'=upd H a (.dT (f8 fg k v))
theorem rZ.k{H:Hp}{a:Ah}{fg:List (Key×V)}{k:Key}(e:H a=some (.dK fg)):rZ H a (kV k) (fJ fg k):=.inl ⟨fg,k,.inl e,rfl,rfl⟩
theorem zC.k{H:Hp}{a:Ah}{fg:List (Key×V)}{k:Key}{v:V}(e:H a=some (.dK fg))(z:fg.length < sizeLine):zC H a (kV k) v (upd H a (.dK (f8 fg k v))):=.inl ⟨fg,k,e,rfl,z,rfl⟩
section
variable{X:Cx}{fc:List (Ah×Obj)}{σ:St}{H:Hp}{s:Ad}{a:Ah}{y v:V}{u r:Ac}{o:Option V}{A:AO}{E:Ac→Ad→Prop}
theorem Inv.big(I:Inv X fc σ H s):sysModules < s.heap.objs.size:=by
 have h:mainGlobals < s.heap.objs.size:=(I.mod.glob.keeps I.bk).lt;exact DS (by decide) h
theorem aDf{Q:Ac→Ad→Prop}(O:A.units + 1 < cLine)(I:Inv X fc σ H s)(g:rZ H a y (some v))(J:c5 y u)(h:∀ F s',Inv X fc σ H s'→c5 v F→Q F s'):
  wpAny (model X.prog X.w) A (getItem (.ref a) u) Q E s:=by
 rcases g with⟨fg,k,e,ey,l⟩ | ⟨fg,k,b,e,ey,eb,l⟩
 ·subst ey;obtain⟨z,hd,vs,rel,dd⟩:=y8 I.hok e;obtain⟨F,hw,rw'⟩:=nX.some_of (v:=v) (o:=valueAt vs k) (by rw[l];exact rel.val k);exact wpAny_getItem_of (rY J) dd.mapOf hw (h F _ (I.tok _) rw')
 ·subst ey;cases(show u=AB b from J);obtain⟨z,hd,xs,rel,dd⟩:=aCa I.hok e;obtain⟨F,hw,rw'⟩:=nX.some_of (v:=v) (o:=(atKey xs k).map (·.2)) (by rw[l];exact rel.val k)
  obtain⟨p,hp,hp2⟩:=CG.mp hw;refine wpAny_getItem_heap (tupleKind_room_in1 O) (aA6 I.hok eb) dd hp ?_;rw[hp2];exact h F _ (I.tok _) rw'
theorem qQ{h':Ba}{t':Nat}{ob:HO}(I:Inv X fc σ H s)(F:Mut (H a))(J:DQ a s.heap h')(O:∃ q,h'.get? a=some q)(new:cP X.prog X.w (upd H a ob) h' a ob):
  Inv X fc σ (upd H a ob) { s with heap:=h',toks:=t' }:=
 I.write (x:=a) (e:=a) F (.inl rfl) (fun b q U z=>(J.2 b U).trans z) O new
theorem aA7{P:Ay}{w:AV}{H':Hp}{h':Ba}{fg:List (Key×V)}{vs:List (Key×Ac)}(z:fg.length≤sizeLine)(hd:(a == sysModules)=false)(rel:KV fg vs)(dd:h'.DictOf (c9 P w) a vs):
  cP P w H' h' a (.dK fg):=⟨z,hd,vs,rel,dd⟩
theorem aDg{H':Hp}{Q:Unit→Ad→Prop}(hu:A.units + 1 < cLine)(I:Inv X fc σ H s)(g:zC H a y v H')(U:c5 y u)(W:c5 v r)(h:∀ s',Inv X fc σ H' s'→Q () s'):
  wpAny (model X.prog X.w) A (setItem (.ref a) u r) Q E s:=by
 rcases g with⟨fg,k,e,ey,l,eH⟩ | ⟨fg,k,b,e,ey,eb,l,eH⟩
 ·subst ey eH;obtain⟨z,hd,vs,rel,dd⟩:=y9 I.hok e;have hz:vs.length≤sizeLine:=by rw[← rel.length];exact z
  have O:(f8 fg k v).length≤sizeLine:=by have:=jF fg k v;omega
  refine wpAny_setItem_pairs (hsz:=hz) (rY U) dd fun h' F J=>h _ ?_;have Z:∃ q,h'.get? a=some q:=let ⟨q,_,_,hq,_⟩:=F;⟨q,hq⟩
  exact qQ I (by rw[e];exact Cg) J Z (aA7 O hd (rel.put k W) F)
 ·subst ey eH;cases(show u=AB b from U);obtain⟨z,hd,xs,rel,dd⟩:=aJt I.hok e;have hz:xs.length≤sizeLine:=by rw[← Gc rel];exact z
  have O:(f8 fg k v).length≤sizeLine:=by have:=jF fg k v;omega
  refine wpAny_setItem_heap (hsz:=hz) (tupleKind_room_in1 hu) (aA6 I.hok eb) dd fun h' F J=>h _ ?_;obtain⟨q,es,ep,hq,h2,h3,h4,_,h5⟩:=F;refine qQ I (by rw[e];exact Cg) J ⟨q,hq⟩ ⟨O,hd,_,(rel.put k eb W).keeps fun c ys Y=>?_,q,es,ep,hq,h2,h3,h4,h5⟩;rw[aS (aD6 Y e (fun z=>nomatch z))];exact Y
end
section
variable{X:Cx}{fc:List (Ah×Obj)}{σ:St}{H:Hp}{s:Ad}{a:Ah}{fg:List (Key×V)}{k:Key}{u:Ac}{A:AO}{E:Ac→Ad→Prop}
theorem aJu{Q:Ac→Ad→Prop}(I:Inv X fc σ H s)(e:Rd H a (.dK fg))(h:∀ t s',Inv X fc σ H s'→Q (.int fg.length t) s'):wpAny (model X.prog X.w) A (call (.builtin "len") [.ref a]) Q E s:=by
 obtain⟨z,hd,vs,rel,dd⟩:=y8 I.hok e;refine call_len_dict hd dd (by rw[← rel.length];rw[Fv]at z;omega) ?_;rw[← rel.length];exact h _ _ (I.tok _)
end
def aIi(i:Bf):Prop:=∀ ov iv,subscripted i false ov iv=operate [ov,iv] (getItem ov iv)
theorem aCb{prog:Ay}{w:AV}{A:AO}{E:Ac→Ad→Prop}{s:Ad}{env:Env}{value z:Bf}{pos:Pos}{T id:String}{Q:Ac→Ad→Prop}
  (hl:typeLookup (.type T) "__getitem__"=pure (some (.builtin id))) (Y:aIi z)
  (h:wpAny (model prog w) A (eval value env) (fun o W=>wpAny (model prog w) A (eval z env) (fun i J=>J.TypeIs o T∧wpAny (model prog w) A (getItem o i) Q E J) E W) E s):
  wpAny (model prog w) A (eval (.Subscript value z pos) env) Q E s:=by
 refine Subscript_ (A9 h (fun o W h₁=>A9 h₁ (fun i J O=>?_) fun _ _ x=>x) fun _ _ x=>x);obtain⟨hT,O⟩:=O;unfold subscriptTail;refine Aa ?_;rw[getitemInPython_of_ne hT.not_modules];refine Aa (DO hT hl ?_);have F:wpAny (model prog w) A (subscripted z false o i) (fun r U=>wpAny (model prog w) A (letTemporaryGo value o r >>= fun _=>pure r) Q E U) E J:=by
  rw[Y o i];exact wpAny_operating (A9 O (fun r U Z=>Aa (wpAny_letTemporaryGo (Ae Z))) fun _ _ x=>x)
 first
  | exact Ae (Aa F)
  | exact Aa (Ae (Aa F))
  | exact Aa F
theorem zE{X:Cx}{fc:List (Ah×Obj)}{σ:St}{H:Hp}{s:Ad}{a:Ah}{y:V}{o:Option V}(I:Inv X fc σ H s)(g:rZ H a y o):s.TypeIs (.ref a) "dict":=by
 rcases g with⟨fg,k,e,_,_⟩ | ⟨fg,k,b,e,_,_,_⟩
 ·obtain⟨_,_,vs,_,dd⟩:=y8 I.hok e;exact dd.typeIs
 ·obtain⟨_,_,xs,_,dd⟩:=aCa I.hok e;exact dd.typeIs
def aJv(td ty:TE):TE:=fun σ H Q=>td σ H fun x H1=>ty σ H1 fun y H2=>∃ a v,x=.ref a∧rZ H2 a y (some v)∧Q v H2
def aJw(td ty tv:TE):TS:=fun D σ H=>tv σ H fun v H1=>td σ H1 fun x H2=>ty σ H2 fun y H3=>∃ a H4,x=.ref a∧zC H3 a y v H4∧D.nx σ H4
section
variable{X:Cx}{o i e value:Bf}{pos ir tpos:Pos}{td ty tv:TE}
theorem n8(hu:X.A.units + 1 < cLine)(ho:PE X o td)(hi:PE X i ty)(U:aIi i):PE X (.Subscript o i pos) (aJv td ty):=by
 constructor;intro fc s σ H Q I h;refine aCb PySem.F.slot_dict_getitem.lookup U (thn (ho fc s σ H _ I h) fun u s1 ⟨x,H1,Y,rx,Z⟩=>thn (hi fc s1 σ H1 _ Y Z) fun iv s2 ⟨y,H2,J,W,a,v,ex,g,O⟩=>?_);subst ex;obtain rfl:u=AB a:=rx;exact⟨zE J g,aDf hu J g W fun w' s3 I3 z=>⟨v,H2,I3,z,O⟩⟩
theorem xE(hu:X.A.units + 1 < cLine)(ho:PE X o td)(hi:PE X i ty)(hv:PE X value tv)(F:swapsWith value (some (.Subscript o i ir)) pos.line X.env=pure false):
  PS X (.Assign [.Subscript o i ir] value pos) (aJw td ty tv):=by
 constructor;intro fc s σ H D I h;refine wpAny_Assign_Subscript (thn (hv fc s σ H _ I h) fun r s1 ⟨v,H1,W,U,Y⟩=>thn (ho fc s1 σ H1 _ W Y) fun u s2 ⟨x,H2,I2,rx,z⟩=>thn (hi fc s2 σ H2 _ I2 z) fun iv s3 ⟨y,H3,I3,O,a,J,ex,g,Z⟩=>?_) F;subst ex;obtain rfl:u=AB a:=rx;exact aDg hu I3 g O U fun s4 I4=>⟨σ,J,I4,Z⟩
end
theorem zF{P:Ay}{w:AV}{H:Hp}(h:Ba)(z:sysModules < h.objs.size):cP P w H (h.push { cls:=.type "dict",data:=.dict #[] }) h.objs.size (.dK []):=
 ⟨Bo _,beq_eq_false_iff_ne.mpr (CV (AG z)),[],.nil,Heap.DictOf.new h⟩
def aIj:TE:=fun _ H Q=>∀ p,H p=none→Q (.ref p) (upd H p (.dK []))
section
variable{X:Cx}{pos:Pos}
theorem iZ:PE X (.Dict [] [] pos) aIj:=⟨fun fc s σ H Q I h=>
 wpAny_Dict_empty ⟨.ref s.heap.objs.size,_,I.laid (a:=s.heap.objs.size) (o:=.dK []) (t':=s.toks) (fun _ _ q=>Ai _ q) (Ap _) (zF s.heap I.big),rfl,h _ (I.hok.fresh (Ap _))⟩⟩
end
def aA8:List (TE×TE)→St→Hp→(List (V×V)→Hp→Prop)→Prop
 | [],_,H,Q=>Q [] H
 | (tk,tv) :: r,σ,H,Q=>tk σ H fun x H1=>tv σ H1 fun y H2=>aA8 r σ H2 fun ps H3=>Q ((x,y) :: ps) H3
abbrev VV:List (V×V)→List (Ac×Ac)→Prop:=Gj fun p q=>c5 p.1 q.1∧c5 p.2 q.2
def PPs(X:Cx)(pos:Pos)(keys:List (Option Bf))(values:List Bf)(trs:List (TE×TE)):Prop:=
 ∀(fc:List (Ah×Obj)) (s:Ad) (σ:St) (H:Hp) (Q:List (V×V)→Hp→Prop),Inv X fc σ H s→aA8 trs σ H Q→
  wpAny (model X.prog X.w) X.A (evalPairs (pairTrees keys values X.env pos)) (fun vs s'=>∃ ps H',Inv X fc σ H' s'∧VV ps vs∧Q ps H') X.xe s
theorem xF{X:Cx}{pos:Pos}:PPs X pos [] [] []:=fun fc s σ H Q I h=>pairTrees_nil_walk ⟨[],H,I,.nil,h⟩
theorem lN{X:Cx}{pos:Pos}{k v:Bf}{ks:List (Option Bf)}{vs:List Bf}{tk tv:TE}{z:List (TE×TE)}(W:PE X k tk)(hv:PE X v tv)(J:PPs X pos ks vs z):
  PPs X pos (some k :: ks) (v :: vs) ((tk,tv) :: z):=fun fc s σ H Q I h=>
 pairTrees_cons_walk (thn (W fc s σ H _ I h) fun u s1 ⟨x,H1,U,rx,Y⟩=>thn (hv fc s1 σ H1 _ U Y) fun w2 s2 ⟨y,H2,I2,O,F⟩=>
  thn (J fc s2 σ H2 _ I2 F) fun ws s3 ⟨ps,H3,I3,rel,Z⟩=>⟨(x,y) :: ps,H3,I3,.cons ⟨rx,O⟩ rel,Z⟩)
def gJ(fg more:List (Key×V)):List (Key×V):=more.foldl (fun acc kv=>f8 acc kv.1 kv.2) fg
theorem KV.merge:∀{z:List (Key×V)}{rs:List (Key×Ac)}{fg:List (Key×V)}{vs:List (Key×Ac)},KV z rs→KV fg vs→KV (gJ fg z) (merged vs rs):=by
 intro z rs fg vs r;unfold KV at r
 induction r generalizing fg vs with
 | nil=>intro q;exact q
 | @cons p q ps O h t F=>
  intro J;have e:KV (f8 fg p.1 p.2) (stored vs q.1 q.2):=by
   have:=J.put p.1 h.2;rw[← h.1];exact this
  exact F e
theorem m7:∀(z fg:List (Key×V)),(gJ fg z).length≤fg.length + z.length
 | [],fg=>by show fg.length≤fg.length + 0;omega
 | p :: r,fg=>by
  have h1:=m7 r (f8 fg p.1 p.2);have h2:=jF fg p.1 p.2;show(gJ (f8 fg p.1 p.2) r).length≤_;rw[AM];omega
theorem sI{P:Ay}{w:AV}:∀{fg:List (Key×V)}{F:List (Ac×Ac)},VV (fg.map fun z=>(kV z.1,z.2)) F→∃ rs,Carries (c9 P w) F rs∧KV fg rs
 | [],_,r=>by rw[Dt]at r;cases r;exact⟨[],Cg,.nil⟩
 | p :: fg,_,r=>by
  rw[A3]at r;cases r with
  | @cons a b as bs h t=>
   obtain⟨rs,c,q⟩:=sI (P:=P) (w:=w) t;obtain⟨b1,b2⟩:=b;exact⟨(p.1,b2) :: rs,⟨rY h.1,rfl,c⟩,.cons ⟨rfl,h.2⟩ q⟩
def aJx(trs:List (TE×TE)):TE:=fun σ H Q=>∀ p,H p=none→aA8 trs σ (upd H p (.dK [])) fun ps H2=>H2 p=some (.dK [])∧∃ fg:List (Key×V),ps=fg.map (fun kv=>(kV kv.1,kv.2))∧fg.length≤15∧Q (.ref p) (upd H2 p (.dK (gJ [] fg)))
theorem xG{X:Cx}{pos:Pos}{F:List (Option Bf)}{J:List Bf}{W:List (TE×TE)}(h:PPs X pos F J W)(U:F.all (·.isSome)=true)(hl:F.length=J.length)(h0:F≠[])
  (Y:F.length≤15):PE X (.Dict F J pos) (aJx W):=by
 constructor;intro fc s σ H Q I q;have hn:=I.hok.fresh (Ap s.heap.objs.size);have I1:=I.laid (a:=s.heap.objs.size) (o:=.dK []) (h':=s.heap.push { cls:=.type "dict",data:=.dict #[] }) (t':=s.toks) (fun _ _ q=>Ai _ q) (Ap _) (zF s.heap I.big);refine wpAny_Dict_walk (knd:=c9 X.prog X.w) U hl h0 Y (thn (h fc _ σ _ _ I1 (q _ hn)) fun ws s2 ⟨ps,H2,Z,rel,e,fg,ep,lk,q2⟩=>?_);subst ep;obtain⟨rs,c,rk⟩:=sI (P:=X.prog) (w:=X.w) rel;obtain⟨z,hd,vs0,r0,dd⟩:=y9 Z.hok e;cases r0;refine⟨rs,c,dd,fun h' O hs=>⟨.ref s.heap.objs.size,_,?_,rfl,q2⟩⟩;have hz:(gJ [] fg).length≤sizeLine:=by
  have h1:=m7 fg [];rw[By]at h1;rw[Fv];omega
 have he:∃ q,h'.get? s.heap.objs.size=some q:=let ⟨q,_,_,hq,_⟩:=O;⟨q,hq⟩
 exact qQ Z (by rw[e];exact Cg) hs he (aA7 hz hd (rk.merge .nil) O)
structure M1(X:Cx)(o:Bf)(m:Str)(ig:Pos)(e:Bf)(gx:Pos):Prop where
 base:attributeBase o m X.env (eval o X.env)=eval o X.env
 few:((backTo gx (starEach [e] X.env)).all (fun x=>!x.1) && (backToKw gx (keywordEach [] X.env)).all (fun x=>x.1.isSome)
  && decide (([e]:List Bf).length + ([]:List EC).length + (if ([]:List EC).isEmpty then 0 else 1) < 30))=true
 line:(ig.endLine == gx.line)=true
 trees:backTo gx (starEach [e] X.env)=[(false,eval e X.env)]
structure M2(X:Cx)(o:Bf)(m:Str)(ig:Pos)(e f:Bf)(gx:Pos):Prop where
 base:attributeBase o m X.env (eval o X.env)=eval o X.env
 few:((backTo gx (starEach [e,f] X.env)).all (fun x=>!x.1) && (backToKw gx (keywordEach [] X.env)).all (fun x=>x.1.isSome)
  && decide (([e,f]:List Bf).length + ([]:List EC).length + (if ([]:List EC).isEmpty then 0 else 1) < 30))=true
 line:(ig.endLine == gx.line)=true
 trees:backTo gx (starEach [e,f] X.env)=[(false,eval e X.env),(false,eval f X.env)]
def IsD(H:Hp)(a:Ah):Prop:=(∃ fg,Rd H a (.dK fg))∨∃ fg,Rd H a (.dT fg)
theorem aEs{X:Cx}{fc:List (Ah×Obj)}{σ:St}{H:Hp}{s:Ad}{a:Ah}(I:Inv X fc σ H s)(d:IsD H a):
  s.TypeIs (.ref a) "dict"∧(∀ b,AB a=.ref b→∃ ob,s.heap.get? b=some ob∧ob.dict=none)∧(a == sysModules)=false:=by
 rcases d with⟨fg,e⟩ | ⟨fg,e⟩
 ·obtain⟨_,hd,vs,_,dd⟩:=y8 I.hok e;refine⟨dd.typeIs,fun b q=>?_,hd⟩;cases q;obtain⟨ob,_,_,h1,h2,_⟩:=dd;exact⟨ob,h1,h2.2.1⟩
 ·obtain⟨_,hd,xs,_,dd⟩:=aCa I.hok e;refine⟨dd.typeIs,fun b q=>?_,hd⟩;cases q;obtain⟨ob,_,_,h1,h2,_⟩:=dd;exact⟨ob,h1,h2.2.1⟩
section
variable{X:Cx}{fc:List (Ah×Obj)}{σ:St}{H:Hp}{s:Ad}{a:Ah}{y d:V}{u r:Ac}{o:Option V}{A:AO}{E:Ac→Ad→Prop}
end
section
variable{X:Cx}{o e f:Bf}{ig gx:Pos}{td ty tx:TE}
end
section
variable{X:Cx}{fc:List (Ah×Obj)}{σ:St}{H:Hp}{s:Ad}{a:Ah}{fg:List (Key×V)}{A:AO}{E:Ac→Ad→Prop}
end
section
variable{X:Cx}{fc:List (Ah×Obj)}{σ:St}{H:Hp}{s:Ad}{a:Ah}{y:V}{u:Ac}{A:AO}{E:Ac→Ad→Prop}
end
end L2
namespace Att
open PySem PySem.W PySem.Calls PyProof.Rows
theorem qI{P:Params}{h:Ba}:∀(ns:List Int) (vs:List Ac),WellAll P h vs (ns.map WData.int)→Hl vs ns:=by
 intro ns
 induction ns with
 | nil=>
  intro vs w;rw[Dt]at w;cases w;exact .nil
 | cons n ns z=>
  intro vs w;rw[A3]at w;cases w with
  | cons a b=>
   cases a;exact .cons _ _ (z _ b)
theorem aDh{l:OpenLaw}{n:Nat}(hn:l.most=some n){P:Params}{h:Ba}{args:List WData}{F:List Ac}
  (z:l.row.toRowW.claim.pre args=true) (Y:WellAll P h F args):
  ∃ a vs ns,F=[AB a]∧args=[WData.list (ns.map WData.int)]∧h.get? a=some { cls:=.type "list",data:=.seq vs.toArray }∧Hl vs ns∧ns.length≤n:=by
 have Z:WShape.hasAll [] args [.list .int]=true:=(pre_splitW z).1;have hc:l.pre.holds [] { args:=args }=true:=(pre_splitW z).2;obtain⟨d,r,rfl,h1,h2⟩:=hasAllW_cons Z;obtain rfl:=hasAllW_nil h2;obtain⟨xs,rfl,h3⟩:=hasW_list h1;obtain⟨ns,rfl⟩:=items_int h3;have O:ns.length≤n:=by
  unfold OpenLaw.pre at hc;have W:(WTm.not (.lt (.lit (.int (n:Int))) (.len (.arg 0)))).holds [] { args:=[.list (ns.map .int)] }=true:=by
   have W:=(holds_andW hc).1;rw[hn]at W;exact W
  have U:=condW_of W (w_not (w_lt w_lit (w_len_list (w_arg rfl))));rw[Ab]at U;refine Nat.le_of_not_lt fun q=>?_;have q':(n:Int) < ((ns.length:Nat):Int):=by omega
  first
   | (rw[Ic q']at U;exact absurd U (by decide))
   | (simp at U;omega)
 cases Y with
 | cons w1 w2=>
  cases w2;cases w1 with
  | list ho J=>exact⟨_,_,ns,rfl,rfl,ho,qI ns _ J,O⟩
theorem aDi(l:OpenLaw)(args:List WData):l.row.toRowW.claim.post args (.bool true) args=true:=
 postW_of (r:=l.row.toRowW) (X:=(true == true))
  (show WShape.has [] (.bool true) .bool=true by first | rfl | decide | simp[WShape.has,WShape.arms,WShape.armsAll])
  (show(WTm.eq .res (.lit (.bool true))).value [] { args:=args,res:=some (.bool true),after:=args }=some (.bool (true == true)) from w_eq_bool (w_res rfl) w_lit) rfl
theorem attach_call{l:OpenLaw}{n:Nat}{q:Ay}{z:List Str}{XP:(Str→Option Ac)→Ba→Prop}{YP:AV→Ba→Prop}{d:DefRec}
  (hn:l.most=some n) (W:d.params.defaults=[])
  (call:∀(w:AV) (s₀ F:Ad) (mg mb:Str→Option Ac) (O:Ah) (o:Obj) (pm cd J:Ac) (a:Ah) (vs:List Ac) (ns:List Int),
   Ground q z [] XP w s₀ mg mb F.heap→YP w F.heap→
   F.heap.get? O=some o→o.data=.func (docDef d.name d.params d.body d.scope pm cd J)→F.heap.CodeRec cd d.name→mg d.name=some (.ref O)→
   F.heap.get? a=some { cls:=.type "list",data:=.seq vs.toArray }→Hl vs ns→ns.length≤n→F.gens=#[]→
   codeAny (model l.prog w) callerA (.call (.ref O) ⟨[.ref a],[]⟩) (fun r s'=>r=.ok (.ret (.bool true))∧OldK F.heap s'.heap∧s'.os=F.os∧ED s'.gens) F):
  WalkO q z XP YP l.row.toRowW d [] (fun f vs=>GU f vs):=by
 intro w s₀ F mg mb G Y O o pm cd J dV kV ho hd ad hD ac hg af ag as U ae ak Z aj;obtain rfl:dV=.none:=Dflts.none hD W;obtain rfl:kV=.none:=Dflts.noKw hD;obtain⟨a,vs,ns,rfl,rfl,hobj,hints,hlen⟩:=aDh hn U Z;refine enter_call (CB (call w s₀ F mg mb O o pm cd J a vs ns G Y ho (fd_plain hd) ad ac hobj hints hlen hg) fun r s' hq=>?_);obtain⟨rfl,h2,h3,h4⟩:=hq;exact⟨.inl ⟨.bool true,.bool true,[],rfl,fun _=>rfl,.bool true,aDi l _,fun _=>⟨Ea,fun _ hm=>(nomatch hm)⟩⟩,h2,h3,h4⟩
section
variable{prog:Ay}{w:AV}{A:AO}{E:Ac→Ad→Prop}{s:Ad}{K:Frag}
end
end Att
namespace L2
open PySem PySem.Spec PyProof.Rows
theorem vU:∀{vs:List Ac}{ns:List Int},Hl vs ns→cG (ns.map V.int) vs
 | _,_,.nil=>.nil
 | _,_,.cons n t h=>.cons ⟨t,rfl⟩ (vU h)
def aIk(H:Hp):Prop:=∀ b,H b=none∨∃ o xs,H b=some (.frz o (.lst xs))
theorem aEt{P:Ay}{w:AV}{K:Ag}{mg mb:Str→Option Ac}{CX:CXT}{k:Nat}{fa a:Ah}{fd:AH}{x:Str}{sp:Sp}{J:Ad}{vs:List Ac}{ns:List Int}
  (KX:K.In J.heap) (ac:J.heap.Ns mainGlobals mg) (U:J.heap.Ns builtinsNs mb) (am:∀ x:Str,x≠"__name__"→mb x=bootBuiltins x) (ad:J.heap.NoLimit) (hg:J.gens=#[])
  (ha:J.heap.get? a=some { cls:=.type "list",data:=.seq vs.toArray }) (hi:Hl vs ns) (hl:ns.length≤sizeLine) (hr:cQ k callerA)
  (F:∀ base:Ba,K.In base→base.Ns mainGlobals mg→b8 P w K mg base CX k fa fd [x] sp) (Z:∀(s:Ad) (u:Ac),Gb s fd ⟨[u],[]⟩ [(x,u)])
  (an:∀ H:Hp,aIk H→SqL K H a (ns.map V.int)→sp [.ref a] H (fun v _=>v=.bl true) fun _ _ _=>False)
  (ag:∀ H e s',CX [] H J (fun _ _ _=>False) e s'→False):
  codeAny (model P w) callerA (.call (.ref fa) ⟨[.ref a],[]⟩) (fun r s'=>r=.ok (.ret (.bool true))∧OldK J.heap s'.heap∧s'.os=J.os∧ED s'.gens) J:=by
 have rv:=vU hi;have af:=hi.length;have Y:∀ H:Hp,aIk H→SqL K H a (ns.map V.int)→HOk P w H J.heap→(∀ b,H b≠none→b=a)→(H a≠none→K.lookup a=none)→
   codeAny (model P w) callerA (.call (.ref fa) ⟨[.ref a],[]⟩) (fun r s'=>r=.ok (.ret (.bool true))∧OldK J.heap s'.heap∧s'.os=J.os∧ED s'.gens) J:=by
  intro H hO hS hok hA hK;have O:∀{b:Ah} {o:Obj},J.heap.get? b=some o→H b=none→(w6 J.heap H).get? b=some o:=fun e n=>aD7 e n;have aj:∀{b:Ah} {o:Obj} {es:Array DictEntry} {ep:Nat},J.heap.get? b=some o→o.data=.dict es ep→H b=none:=fun{b o es ep} e d=>by
   cases q:H b with
   | none=>rfl
   | some u=>
    have e':b=a:=hA b (by rw[q];simp);subst e';rw[ha]at e;cases e;have d':CT vs.toArray _=Data.dict es ep:=d;cases d'
  have W:∀{b:Ah} {m:Str→Option Ac},J.heap.Ns b m→(w6 J.heap H).Ns b m:=fun{b m} ⟨o,es,ep,e,d,r⟩=>⟨o,es,ep,O e (aj e d),d,r⟩
  have ae:K.In (w6 J.heap H):=fun b o e=>O (KX b o e) (by
   cases q:H b with
   | none=>rfl
   | some u=>
    have e':b=a:=hA b (by rw[q];simp);subst e';rw[hK (by rw[q];simp)]at e;cases e)
  have hM:Mod K mg (w6 J.heap H):=⟨ae,W ac,⟨mb,W U,am⟩,let ⟨mc,h1,h2⟩:=ad;⟨mc,W h1,h2⟩⟩
  have e0:aEh P w K mg (w6 J.heap H) callerA [] J H:=⟨rfl,hM,fun b o e=>aGl e,FH (aC6 _ _),trivial,fun b U=>absurd (show b∈([]:List Ah) from U) (by simp),hok,.of_eq hg⟩
  refine CB ((F _ ae (W ac)).run callerA [] J H ⟨[.ref a],[]⟩ [.ref a] [.ref a] _ _ hr e0 (Z J (.ref a)) (.cons rfl .nil) (an H hO hS)) fun r s' h=>?_;cases r with
  | error e=>exact(ag H e s' h).elim
  | ok fl=>
   cases fl with
   | next=>exact Bz h
   | brk=>exact Bz h
   | cont=>exact Bz h
   | ret u=>
    obtain⟨v,H',os,bare,un,hok',r',q⟩:=h;have q':v=.bl true:=q;subst q';obtain rfl:u=Fk true:=r';refine⟨rfl,OldK.of_keep fun b o e=>?_,os,bare⟩;cases q:H b with
    | none=>exact un.keep b o e q (by intro z;exact absurd (show b∈([]:List Ah) from z) (by simp)) (by simp)
    | some u=>
     rcases hO b with z | ⟨ob,xs,z⟩
     ·rw[q]at z;cases z
     ·have z2:=un.frzs b ob _ z;obtain⟨e1,_⟩:=hok b _ z;obtain⟨e2,_⟩:=hok' b _ z2;rw[e]at e1;cases e1;exact e2
 cases hk:K.lookup a with
 | some o=>
  have e:=KX a o hk;rw[ha]at e;cases e;refine Y (fun _=>none) (fun _=>.inl rfl) (.inr ⟨_,vs.toArray,_,hk,rfl,rfl,rfl,by rw[Ao,af];exact hl,by simpa using rv⟩) (fun b u z=>by have z':(none:Option HO)=some u:=z;cases z') (fun b z=>absurd rfl z) fun z=>absurd rfl z
 | none=>
  refine Y (fun b=>if b=a then some (.frz { cls:=.type "list",data:=.seq vs.toArray } (.lst (ns.map V.int))) else none) (fun b=>?_) (.inl (.inr ⟨{ cls:=.type "list",data:=.seq vs.toArray },Ib rfl⟩)) (fun b u z=>?_) (fun b z=>?_) fun _=>hk
  ·by_cases U:b=a
   ·exact .inr ⟨_,_,Ib U⟩
   ·exact .inl (Ia U)
  ·by_cases U:b=a
   ·have z':=(Ib U).symm.trans z;cases z';subst U;exact⟨ha,by rw[Ab];exact hl,vs,_,rv,ha⟩
   ·have z':=(Ia U).symm.trans z;cases z'
  ·by_cases U:b=a
   ·exact U
   ·exact absurd (Ia U) z
abbrev KOf{K:Ag}{h:Ba}(_:K.In h):Ag:=K
theorem walk_of{l:FC}{n k:Nat}{q:Ay}{J:List Str}{XP:(Str→Option Ac)→Ba→Prop}{YP:AV→Ba→Prop}{d:DefRec}{K:Params→Ag}{CX:AV→CXT}{sp:AV→Sp}{x:Str}
  (hn:l.most=some n) (af:n≤sizeLine) (aa:d.params.defaults=[]) (hr:cQ k callerA)
  (hY:∀(w:AV) (h:Ba),YP w h→(K w.params).In h)
  (F:∀(w:AV) (mg:Str→Option Ac) (Z:Ah) (h:Ba),(K w.params).In h→h.Ns mainGlobals mg→mg d.name=some (.ref Z)→
   ∃ fd:AH,(∀(s:Ad) (u:Ac),Gb s fd ⟨[u],[]⟩ [(x,u)])∧
    ∀ base:Ba,(K w.params).In base→base.Ns mainGlobals mg→b8 l.prog w (K w.params) mg base (CX w) k Z fd [x] (sp w))
  (ae:∀(w:AV) (H:Hp) (a:Ah) (ns:List Int),ns.length≤n→aIk H→SqL (K w.params) H a (ns.map V.int)→sp w [.ref a] H (fun v _=>v=.bl true) fun _ _ _=>False)
  (ac:∀(w:AV) (H:Hp) (s:Ad) (e:Ac) (s':Ad),CX w [] H s (fun _ _ _=>False) e s'→False):
  PySem.W.WalkO q J XP YP l.row.toRowW d [] (fun f vs=>GU f vs):=by
 refine Att.attach_call hn aa fun w s₀ s₁ mg mb Z o pm cd ak a vs ns G Y ho hd an ad U O z hg=>?_;have KX:=hY w _ Y;obtain⟨fd,hb,hF⟩:=F w mg Z _ KX G.T.g ad;exact aEt KX G.T.g G.T.b G.T.builtins G.T.nolimit hg U O (Bc z af) hr hF hb (fun H hO hS=>ae w H a ns z hO hS) fun H e s'=>ac w H s₁ e s'
def eU(s:B3):Arguments:=match s with
 | .FunctionDef _ a _ _ _ _ _ _ _ _=>a
 | _=>{ posonlyargs:=[],args:=[],vararg:=none,kwonlyargs:=[],kw_defaults:=[],kwarg:=none,defaults:=[] }
def d9(s:B3):List B3:=match s with
 | .FunctionDef _ _ b _ _ _ _ _ _ _=>b
 | _=>[]
def aO(s:B3):Ds:=match s with
 | .FunctionDef _ _ _ _ _ _ sc _ _ _=>sc
 | _=>{ kind:=.function,names:=[],isGenerator:=false,isCoroutine:=false }
abbrev CX0:CXT:=fun _ _ _ _ _ _=>False
abbrev E0:XK:=fun _ _ _=>False
theorem fQ{X:Cx}:pB CX0 X E0:=fun _ _ _ _ _ _ _ h=>h.elim
structure Fun(K:Ag)(x qual:Str)(st:B3)(f:Ah)(fd:AH):Prop where
 ex:∃(oc:Ac) (od:Option Ah) (kV doc pm:Ac) (an:Option Ah) (cdv ct:Ac) (osl:Array (Option Ac)),
  fd=BU x qual (eU st) (d9 st) (aO st) .none kV doc pm an cdv ct∧K.lookup f=some ⟨oc,od,.func fd,osl⟩∧B4 K cdv qual=true
 kp:Au K (.ref f)=true
section
variable{P:Ay}{w:AV}{K:Ag}{mg:Str→Option Ac}{base:Ba}
theorem Fun.ok{x qual:Str}{st:B3}{f:Ah}{fd:AH}{N ps:List Str}{k:Nat}{sp:Sp}(F:Fun K x qual st f fd)(S:bU N ps (aO st))(len:∀ vs H Q E,sp vs H Q E→vs.length=ps.length)
  (J:∀(z:Ac) (A:AO) (outer:List Env) (s:Ad) (H:Hp) (vs:List V) (Q:VK) (E:XK),cQ k (A.deeper (envOfC qual (aO st) s.heap.objs.size f z))→sp vs H Q E→
   ∃ t,PSs (dG CX0 P w K mg base N qual (aO st) f z A outer s H E).nox (d9 st) t∧t { nx:=fun _ H'=>Q .non H',rt:=Q } (m6 N vs) H):b8 P w K mg base CX0 (k + 1) f fd ps sp:=by
 obtain⟨oc,od,kV,doc,pm,an,z,ct,osl,rfl,lk,hcd⟩:=F.ex;refine aEj lk hcd S len fun A outer s H vs Q E U O=>?_;obtain⟨t,h,q⟩:=J z A outer s H vs Q E U O;exact⟨t,h.nox,q⟩
theorem Fun.binds{x qual:Str}{st:B3}{f:Ah}{fd:AH}{ps:List Str}(F:Fun K x qual st f fd)
  (h:∀(kV z O:Ac) (U:Option Ah) (J ct:Ac) (us:List Ac),us.length=ps.length→bindArgs (BU x qual (eU st) (d9 st) (aO st) .none kV z O U J ct) ⟨us,[]⟩=pure (ps.zip us)):cZ K fd ps []:=by
 obtain⟨oc,od,kV,z,O,U,J,ct,osl,rfl,lk,hcd⟩:=F.ex;exact .all (h kV z O U J ct)
theorem jQ{x qual:Str}{st:B3}{f:Ah}{W:Ac}{od U:Option Ah}{J:Array (Option Ac)}{kV F O z ct:Ac}(l:K.lookup f=some ⟨W,od,.func (BU x qual (eU st) (d9 st) (aO st) .none kV F O U z ct),J⟩)
  (c:B4 K z qual=true) (k:Au K (.ref f)=true):Fun K x qual st f (BU x qual (eU st) (d9 st) (aO st) .none kV F O U z ct):=⟨⟨W,od,kV,F,O,U,z,ct,J,rfl,l,c⟩,k⟩
end
theorem aHy{A:AO}{k:Nat}(z:cQ k A):A.units + 1 < cLine:=Nat.lt_of_le_of_lt (Nat.add_le_add_left (by decide:1≤64) _) z.units
theorem jX{n:Nat}(h:n≤1000):n < sizeLine:=Nat.lt_of_le_of_lt h (by decide)
section
variable{X:Cx}
theorem pv(i:Nat){x:Str}{pos:Pos}(hN:X.N[i]?=some x:=by rfl)(F:Vis X.env.scope x:=by first | exact AE rfl | exact Ei (AE rfl) | exact Ei (Ei rfl))(hd:(x == ("__debug__":Str))=false:=by decide)
  (z:(x == ("__classdict__":Str))=false:=by decide):PE X (.Name x pos) (aJa i):=aH3 hN F hd z
end
theorem c7{A B:Prop}(h:B):if false=true then A else B:=by
 rw[Ia AN];exact h
theorem c8{A B:Prop}(h:A):if true=true then A else B:=by
 rw[Ib rfl];exact h
theorem dH{c A B:Prop}[Decidable c](h1:c→A)(h2:¬ c→B):if c then A else B:=by
 by_cases h:c
 ·rw[Ib h];exact h1 h
 ·rw[Ia h];exact h2 h
def aY(H H':Hp):Prop:=∀ b o,H b=some o→H' b=some o
theorem aY.refl(H:Hp):aY H H:=fun _ _ h=>h
theorem aY.trans{H H1 H2:Hp}(a:aY H H1)(b:aY H1 H2):aY H H2:=fun c o h=>b c o (a c o h)
theorem aY.seq{K:Ag}{H H':Hp}{a:Ah}{xs:List V}(e:aY H H')(h:SqL K H a xs):SqL K H' a xs:=by
 rcases h with(h | ⟨o,h⟩) | h
 ·exact .inl (.inl (e _ _ h))
 ·exact .inl (.inr ⟨o,e _ _ h⟩)
 ·exact .inr h
section
variable{X:Cx}
inductive m8(xs:List V)(H:Hp)(Q:VK):Prop
 | mk (a:_) (fg:_) (q0:xs=[V.ref a]) (q1:H a=some (.dK fg)) (q2:Q (.int fg.length) H):m8 xs H Q
def zG:List V→Hp→VK→Prop:=fun xs H Q=>m8 xs H Q
theorem aDj:eY X (.builtin "len") zG:=by
 intro fc s σ H xs F Q I r h;obtain⟨a,fg,rfl,ha,q⟩:=h;obtain⟨u,rfl,ru⟩:=gE r;cases ru;exact aJu I (.inl ha) fun t s' z=>⟨.int fg.length,H,z,⟨t,rfl⟩,q⟩
end
section
variable{κ:Type}[DecidableEq κ]
end
section
variable{X:Cx}{fc:List (Ah×Obj)}{σ:St}{H:Hp}{s:Ad}
theorem Inv.track{D:Ah}{ob:HO}(I:Inv X fc σ H s)(O:lE X fc H D)(new:cP X.prog X.w (upd H D ob) s.heap D ob):Inv X fc σ (upd H D ob) s:=by
 obtain⟨hn,hL,hfs,hex,hce,hpi⟩:=O;have F:∀ b u,H b=some u→b≠D:=fun b u e=>bE e hn;refine I.step (g':=s.gens) (t':=s.toks) (d':=s.drawn) (h':=s.heap) (H':=upd H D ob) (ch:=[D]) (fun b J=>?_) (fun b o _ _ _ e _=>e) (fun b o _ _ _ e _=>⟨o.slots,e⟩) (fun b o hc e n=>?_)
  (fun b o _ e=>⟨o,e⟩) (fun b xs e=>by rw[aS (F b _ e)];exact e) (fun b o u e=>by rw[aS (F b _ e)];exact e) (fun b ps e=>⟨#[],by rw[aS (F b _ e),e];simp⟩) (fun m hm=>hm) (fun b u e=>?_) I.bare
 ·have e:b=D:=by simpa using J
  subst e;exact⟨hex,hL,hce,hpi⟩
 ·rw[aS (fun z=>hc (by simp[z]))];exact n
 ·by_cases J:b=D
  ·subst J;rw[aH]at e;cases e;exact new
  ·rw[aS J]at e;exact(I.hok b u e).stay (fun c v _ q=>q) (fun c q=>by rw[aS (F c _ q)];exact q) fun c xs q=>by rw[aS (F c _ q)];exact q
end
def iJ(env:Env):List (Str×D6)→List (Str×Ah)→List (Str×Ah)
 | [],cs=>cs
 | (n,k) :: r,cs=>iJ env r (if k=.free then(match env.cells.lookup n with | some c=>(n,c) :: cs | none=>cs) else cs)
theorem sJ{α β:Type}(f:α→β→Sem (ForInStep β))(g:α→β→β):∀(l:List α) (b:β),(∀ y∈l,∀ b,f y b=pure (.yield (g y b)))→(forIn l b f:Sem β)=pure (l.foldl (fun b y=>g y b) b)
 | [],b,_=>rfl
 | a :: r,b,h=>by
  rw[CQ,h a AF b];exact sJ f g r (g a b) fun y z=>h y (AK _ z)
def vV(env:Env)(y:Str×D6)(cs:List (Str×Ah)):List (Str×Ah):=if y.2=.free then(match env.cells.lookup y.1 with | some c=>(y.1,c) :: cs | none=>cs) else cs
theorem sK(env:Env):∀(l:List (Str×D6)) (z:List (Str×Ah)),l.foldl (fun b y=>vV env y b) z=iJ env l z
 | [],z=>rfl
 | (n,k) :: r,z=>by
  rw[List.foldl_cons,sK env r];rfl
theorem oA{scope:Ds}{env:Env}(h:∀ y∈scope.names,y.2=.free→∃ c,env.cells.lookup y.1=some c):closureFor scope env=pure (iJ env scope.names []):=by
 simp only[closureFor];rw[sJ _ (vV env) scope.names [] (fun y J b=>?_)]
 ·rw[sK];rfl
 ·obtain⟨n,k⟩:=y;by_cases z:k=.free
  ·obtain⟨c,hc⟩:=h (n,k) J z;subst z;have e:cellOf env n=pure c:=by unfold cellOf;rw[hc]
   have F:vV env (n,Br) b=(n,c) :: b:=by unfold vV;rw[Ib rfl,hc]
   simp only[e,F];rfl
  ·have e:(k == Br)=false:=by simpa using z
   have F:vV env (n,k) b=b:=by unfold vV;rw[Ia z]
   simp only[e,F,Ct,if_false]
theorem pF{env:Env}:∀(l:List (Str×D6)) (z:List (Str×Ah)),(∀ x c,z.lookup x=some c→env.cells.lookup x=some c)→∀ x c,(iJ env l z).lookup x=some c→env.cells.lookup x=some c
 | [],z,h,x,c,e=>h x c e
 | (n,k) :: r,z,h,x,c,e=>by
  unfold iJ at e;refine pF r _ (fun x c e=>?_) x c e;by_cases J:k=.free
  ·rw[Ib J]at e;cases hc:env.cells.lookup n with
   | none=>rw[hc]at e;exact h x c e
   | some d=>
    rw[hc]at e;by_cases F:x=n
    ·subst F;simp at e;rw[← e];exact hc
    ·have:(x == n)=false:=by simpa using F
     rw[BN,this]at e;exact h x c e
  ·rw[Ia J]at e;exact h x c e
theorem pI{env:Env}:∀(l:List (Str×D6)) (z:List (Str×Ah)) (x:Str),(∀ y∈l,y.2=.free→∃ c,env.cells.lookup y.1=some c)→((∃ c,z.lookup x=some c)∨(x,Br)∈l)→∃ c,(iJ env l z).lookup x=some c
 | [],z,x,_,h=>by
  rcases h with h | h
  ·exact h
  ·simp at h
 | (n,k) :: r,z,x,hc,h=>by
  unfold iJ;refine pI r _ x (fun y O=>hc y (AK _ O)) ?_;rcases h with⟨c,h⟩ | h
  ·refine .inl ?_;split
   ·split
    ·rename_i d _;by_cases J:x=n
     ·subst J;exact⟨d,by simp⟩
     ·have:(x == n)=false:=by simpa using J
      exact⟨c,by rw[BN,this];exact h⟩
    ·exact⟨c,h⟩
   ·exact⟨c,h⟩
  ·rcases Al.mp h with h | h
   ·cases h;obtain⟨d,hd⟩:=hc (n,Br) AF rfl;refine .inl ⟨d,?_⟩;rw[Ib rfl];have F:env.cells.lookup n=some d:=hd;rw[F];simp
   ·exact .inr h
theorem sM{env : Env} : ∀{names : List (Str × D6)}{x : Str}, (∀ y ∈ names, y.2 ≠ .cell) →
    ((names.map fun(n, k) => if (k == Br && env.scope.kind == .function && env.kindOf n == some .cell) then(n, DT) else(n, k)).lookup x = some .cell ∨
     (names.map fun(n, k) => if (k == Br && env.scope.kind == .function && env.kindOf n == some .cell) then(n, DT) else(n, k)).lookup x = some .free) → names.lookup x = some .free
  | [], x, _, h => by simp at h
  | (n, k) :: r, x, hc, h => by
    have U := @sM env r x fun y J => hc y (AK _ J);have O := hc (n, k) AF;rw[A3]at h;by_cases F : x = n
    · subst F
      rw[BN, beq_self_eq_true];simp only;by_cases z : (k == Br && env.scope.kind == .function && env.kindOf x == some .cell) = true
      · have : (k == Br) = true := by
          rw[AX, AX]at z;exact z.1.1
        simpa using this
      · simp only[Ia z, BN, beq_self_eq_true]at h
        rcases h with h | h
        · exact absurd (Cb.inj h) O
        · exact h
    · have e : (x == n) = false := by simpa using F
      rw[BN, e];refine U ?_;by_cases z : (k == Br && env.scope.kind == .function && env.kindOf n == some .cell) = true
      · simp only[Ib z, BN, e]at h
        exact h
      · simp only[Ia z, BN, e]at h
        exact h
theorem oB{env : Env} : ∀{names : List (Str × D6)}{x : Str}, names.lookup x = some .free →
    ((names.map fun(n, k) => if (k == Br && env.scope.kind == .function && env.kindOf n == some .cell) then(n, DT) else(n, k)).lookup x = some .cell ∨
     (names.map fun(n, k) => if (k == Br && env.scope.kind == .function && env.kindOf n == some .cell) then(n, DT) else(n, k)).lookup x = some .free)
  | [], x, h => by simp at h
  | (n, k) :: r, x, h => by
    have J := @oB env r x;rw[A3];by_cases F : x = n
    · subst F
      rw[BN, beq_self_eq_true]at h;simp only at h;cases h;by_cases z : (Br == Br && env.scope.kind == .function && env.kindOf x == some .cell) = true
      · refine .inl ?_
        show List.lookup x ((if (Br == Br && env.scope.kind == .function && env.kindOf x == some .cell) = true then(x, DT) else(x, Br)) :: _) = _;rw[Ib z, BN, beq_self_eq_true]
      · refine .inr ?_
        show List.lookup x ((if (Br == Br && env.scope.kind == .function && env.kindOf x == some .cell) = true then(x, DT) else(x, Br)) :: _) = _;rw[Ia z, BN, beq_self_eq_true]
    · have e : (x == n) = false := by simpa using F
      rw[BN, e]at h;have := J h;by_cases z : (k == Br && env.scope.kind == .function && env.kindOf n == some .cell) = true
      · simp only[Ib z, BN, e]
        exact this
      · simp only[Ia z, BN, e]
        exact this
def blk(X:Cx)(N:List Str)(scope:Ds)(cl:List (Str×Ah))(s:Ad)(H:Hp)(fp:List Ah)(fc:List (Ah×Obj))(C:Ah):Cx where
 prog:=X.prog
 w:=X.w
 K:=X.K
 mg:=X.mg
 base:=X.base
 A:=X.A
 N:=N
 s₀:=s
 H₀:=H
 env:=compEnvC scope cl C X.env
 outer:=X.stack
 stack:=X.stack
 ex:=fp
 fn:=fun _=>false
 calm:=X.calm
 pn:=X.pn ++ fc
 xe:=fun _ _=>False
def aHz(N:List Str)(src:List (Option Nat))(scope:Ds)(oN:List Str):Bool:=
 (N.zip src).all fun p=>match p.2 with | none=>true | some j=>(oN[j]? == some p.1) && (scope.names.lookup p.1 == some .free)
structure zH(N:List Str)(src:List (Option Nat))(scope osc:Ds)(oN:List Str):Prop where
 kind:scope.kind=.function
 nocell:∀ y∈scope.names,y.2≠.cell
 names:∀ y∈scope.names,y.2=.local→scope.names.lookup y.1=some .local
 fr:∀ y∈scope.names,y.2=.free→osc.names.lookup y.1=some .cell∨osc.names.lookup y.1=some .free
 len:src.length=N.length
 srcs:aHz N src scope oN=true
def sub(src:List (Option Nat))(σ:St):St:=src.map fun o=>match o with | none=>none | some j=>(σ[j]?).getD none
theorem aEu{N:List Str}{src:List (Option Nat)}{scope:Ds}{oN:List Str}(h:aHz N src scope oN=true){i j:Nat}{x:Str}(h1:N[i]?=some x)(h2:src[i]?=some (some j)):oN[j]?=some x∧scope.names.lookup x=some .free:=by
 have hm:(x,some j)∈N.zip src:=by
  refine Ax (i:=i) ?_;rw[List.getElem?_zip_eq_some];exact⟨h1,h2⟩
 have:=Bg.mp h _ hm;simp only[AX,beq_iff_eq]at this;exact this
theorem aIl{src:List (Option Nat)}{σ:St}{i:Nat}{v:V}(h:(sub src σ)[i]?=some (some v)):∃ j,src[i]?=some (some j)∧σ[j]?=some (some v):=by
 unfold sub at h;rw[AC]at h;cases e:src[i]? with
 | none=>rw[e]at h;simp at h
 | some o=>
  rw[e]at h;cases o with
  | none=>simp at h
  | some j=>
   refine⟨j,rfl,?_⟩;cases z:σ[j]? with
   | none=>simp[z]at h
   | some F=>
    simp[z]at h;rw[h]
structure PTs(X:Cx)(ifs:List Bf)(t:TT):Prop where
 run:
  ∀(fc:List (Ah×Obj)) (s:Ad) (σ:St) (H:Hp) (Q:Bool→Hp→Prop),Inv X fc σ H s→t σ H Q→
   wpAny (model X.prog X.w) X.A (forIn ifs true fun c r=>if r=true then do let ok ← isTrue c X.env (eval c X.env);pure (CL ok) else pure (CL r)) (TP X fc σ Q) X.xe s
instance{X:Cx}{ifs:List Bf}{t:TT}:CoeFun (PTs X ifs t) (fun _=>
 ∀(fc:List (Ah×Obj)) (s:Ad) (σ:St) (H:Hp) (Q:Bool→Hp→Prop),Inv X fc σ H s→t σ H Q→
  wpAny (model X.prog X.w) X.A (forIn ifs true fun c r=>if r=true then do let ok ← isTrue c X.env (eval c X.env);pure (CL ok) else pure (CL r)) (TP X fc σ Q) X.xe s):=⟨fun h=>h.run⟩
theorem dY{X:Cx}:PTs X [] (fun _ H Q=>Q true H):=⟨fun _ _ _ H _ I h=>wpAny_tests_nil ⟨H,I,h⟩⟩
theorem aGw{X:Cx}{c:Bf}{t:TT}(h:PT X c t):PTs X [c] t:=⟨fun fc s σ H Q I q=>wpAny_tests_one (h fc s σ H Q I q)⟩
section
variable{X:Cx}{fc:List (Ah×Obj)}{σ:St}{H:Hp}{s:Ad}
theorem Inv.clos{N:List Str}{src:List (Option Nat)}{scope:Ds}(B:zH N src scope X.env.scope X.N)(I:Inv X fc σ H s):∀ y∈scope.names,y.2=.free→∃ c,X.env.cells.lookup y.1=some c:=
 fun y z F=>I.ok.has y.1 (B.fr y z F)
theorem Inv.block{N:List Str}{src:List (Option Nat)}{scope:Ds}{fp:List Ah}{s1:Ad}{C:Ah}{m:Str→Option Ac}(B:zH N src scope X.env.scope X.N)(I:Inv X fc σ H s)
  (hf:∀ b∈fp,lE X fc H b) (ac:∀ b∈fp,b < s.heap.objs.size) (Z:s.heap.objs.size≤C) (W:s1.os=s.os) (O:ED s1.gens) (Y:∀ b o,s.heap.get? b=some o→s1.heap.get? b=some o) (hn:s1.heap.Ns C m):
  Inv (blk X N scope (iJ X.env scope.names []) s H fp fc C) [] (sub src σ) H s1:=by
 have J:=I.clos B;have F:∀ x c,(iJ X.env scope.names []).lookup x=some c→X.env.cells.lookup x=some c:=pF _ _ (fun x c e=>by simp at e);have ai:∀ b∈frs X.stack,b < s.heap.objs.size:=fun b O=>by
  obtain⟨_,o,W,_⟩:=I.stack.mem O;exact Ar W
 refine⟨⟨I.ok.mod,B.kind,I.ok.glob,I.ok.blt,Z,fun x y c e1 e2=>I.ok.inj x y c (F x c e1) (F y c e2),fun x hx=>?_,fun x c hx=>absurd hx AN,I.ok.hd,I.ok.frames,.inl rfl,fun b O=>⟨?_,fun x c e=>?_⟩,fun b o e=>?_,Bc I.ok.bsz I.sz,fun b o e O=>?_,fun b O hz=>?_,I.stack,I.stkFree⟩,
  W,O,Un.kept Y,⟨m,hn,fun i x v e1 e2 e3=>?_⟩,fun x c e=>?_,?_,fun x c e=>I.freeC x c (F x c e),fun p hp=>?_,I.hok.kept Y,?_⟩
 ·have ag:=sM (env:=X.env) B.nocell hx;exact pI _ _ x J (.inr (Cm ag))
 ·exact AG (A5 (ac b O) Z)
 ·exact(hf b O).2.2.2.2.1 x c (F x c e)
 ·exact I.bs b o e
 ·rcases(hf b O).2.2.2.1 with z | z
  ·exact I.ok.noex b o e z
  ·exact absurd (A5 (Ar e) (Bc I.ok.bsz z)) (Bx _)
 ·rcases Al.mp (I.stkSub b hz)with e | z
  ·exact(hf b O).2.1 e
  ·exact(hf b O).2.2.1 z
 ·obtain⟨j,ej,ev⟩:=aIl e2;obtain⟨oj,fj⟩:=aEu B.srcs e1 ej;have U:=B.fr _ (Cm fj) rfl;obtain⟨m0,hn0,hl0⟩:=id I.loc;obtain⟨u,ru,lk⟩:=hl0 j x v oj ev (.inr U);refine⟨u,ru,.inr ⟨oB fj,?_⟩⟩;rcases lk with⟨k,_⟩ | ⟨k,c,hc,hcell⟩
  ·have k':X.env.scope.names.lookup x=some .local:=k;rcases U with z | z <;> (rw[k']at z;cases z)
  ·obtain⟨c',hc'⟩:=pI (env:=X.env) scope.names [] x J (.inr (Cm fj));have e:=F x c' hc';rw[hc]at e;cases e;obtain⟨o,W,hd⟩:=hcell;exact⟨c,hc',o,Y _ _ W,hd⟩
 ·obtain⟨v,o,W,hd⟩:=I.cell x c (F x c e);exact⟨v,o,Y _ _ W,hd⟩
 ·exact I.hok.fresh Z
 ·have ah:p∈X.pn ++ fc:=by
   rcases Az.mp hp with z | z
   ·exact z
   ·simp at z
  obtain⟨q1,q2,q3,q4,q5⟩:=I.pin p ah;refine⟨Y _ _ q1,q2,AG (A5 (Ar q1) Z),fun z=>?_,q5⟩;rcases Al.mp (I.stkSub _ z)with e | z
  ·exact q3 e
  ·exact q4 z
 ·show(sub src σ).length=N.length;unfold sub;rw[Ab];exact B.len
end
section
variable{prog:Ay}{w:AV}{A:AO}{R:Hh→Ad→Prop}{s:Ad}
theorem zI{J z F:Bf}{O:List Bf}{scope:Ds}{pos:Pos}{it U:Ac}{env:Env}(I:Nat→Ad→Prop)
  (Y:∀ n s,I n s→wpAny (model prog w) A (pyNext it) (fun r s₁=>match r with
   | none=>R (.ok .next) s₁
   | some v=>wpAny (model prog w) A (letOwnedTupleGo z it v) (fun _ W=>wpAny (model prog w) A (assign z env v) (fun _ s₂=>
     wpAny (model prog w) A (forIn O true fun c r=>if r=true then do let ok ← isTrue c env (eval c env);pure (CL ok) else pure (CL r)) (fun ok Z=>
      if ok=true then wpAny (model prog w) A (eval J env) (fun x s₄=>
       wpAny (model prog w) A (call (.builtin "list.append") [U,x]) (fun _ s₅=>∃ m,m < n∧I m s₅) (fun _ _=>False) s₄) (fun _ _=>False) Z
      else∃ m,m < n∧I m Z) (fun _ _=>False) s₂) (fun _ _=>False) W) (fun _ _=>False) s₁) (fun _ _=>False) s)
  (n:Nat) (h:I n s):
  codeAny (model prog w) A (.compLoop (.ListComp J [⟨z,F,O,0⟩] scope pos) 0 it U env) R s:=by
 have nv:∀{α:Type} {t:Sem α} {Q:α→Ad→Prop} {E:Ac→Ad→Prop} {s:Ad},wpAny (model prog w) A t Q (fun _ _=>False) s→wpAny (model prog w) A t Q E s:=fun h=>A9 h (fun _ _ x=>x) fun _ _ x=>x.elim;refine codeAny_loop rfl I (fun n s hI=>?_) n h;show wpAny _ A ((compTurn (.ListComp J [⟨z,F,O,0⟩] scope pos) 0 it U env).onRaise (fun x=>do noteFrame x env;theTreesLotGoes x)) _ _ s;refine wpAny_noted ?_;rw[compTurn_list];refine Aa (Dj (Aa (nv (thn (Y n s hI) (fun r s₁ h₁=>?_)))));cases r with
 | none=>exact Ae h₁
 | some v=>
  refine Aa (A9 h₁ (fun _ W ac=>?_) fun _ _ x=>x.elim);refine Aa (A9 ac (fun _ s₂ h₂=>Aa (A9 h₂ (fun ok Z h₃=>?_) fun _ _ h'=>h'.elim)) fun _ _ h'=>h'.elim);cases ok with
  | false=>exact Ae ⟨rfl,h₃⟩
  | true=>
   exact Aa (Aa (A9 h₃ (fun x s₄ h₄=>Aa (A9 h₄ (fun _ s₅ h₅=>Ae (Ae ⟨rfl,h₅⟩)) fun _ _ h'=>h'.elim)) fun _ _ h'=>h'.elim))
end
inductive aCc(J : It)(g : TG)(tt : TT)(te : TE)(σ₀ : St)(H₀ : Hp)(Q : VK) : Prop
  | mk (W : Nat → Nat → List V → St → Hp → Prop) (q0 : (∃ m, W 0 m [] σ₀ H₀)) (q1 : ∀ i m ys σ H, W i m ys σ H → ys.length ≤ sizeLine ∧
    ((J.stop i H ∧ ∀ D, H D = none → Q (.ref D) (upd H D (.lst ys))) ∨
     (J.go i H ∧ ∃ N : List V → St → Hp → Prop, (∀ zs σ' H', N zs σ' H' → ∃ m', m' < m ∧ W (i + 1) m' zs σ' H') ∧
       ∀ x H', J.yld i H x H' → g x σ H' fun σ2 H2 => tt σ2 H2 fun b H3 => if b = true then te σ2 H3 fun v H4 => N (ys ++ [v]) σ2 H4 else N ys σ2 H3))) : aCc J g tt te σ₀ H₀ Q
def sN(J:It)(g:TG)(tt:TT)(te:TE)(σ₀:St)(H₀:Hp)(Q:VK):Prop:=aCc J g tt te σ₀ H₀ Q
section
variable{X:Cx}{fc:List (Ah×Obj)}{σ:St}
theorem vW{tg ay az:Bf}{aL:List Bf}{scope:Ds}{pos:Pos}{N:List Str}{src:List (Option Nat)}{g:TG}{tt:TT}{te:TE}{J:It}{fp:List Ah}{it:Ah}{tn:Nat→Ba→Prop}{H2:Hp}{Y:Ad}{Q:VK}{E:Ac→Ad→Prop}
  {RR:Ac→Ah→Hh→Ad→Prop} (B:zH N src scope X.env.scope X.N) (hc:X.calm=true)
  (O:∀ cl s H fp fc C,PG (blk X N scope cl s H fp fc C) tg g∧PTs (blk X N scope cl s H fp fc C) aL tt∧PE (blk X N scope cl s H fp fc C) az te)
  (I2:Inv X fc σ H2 Y) (T:aC7 X.prog X.w X.K tg J fp it tn) (bx:tn 0 Y.heap) (f2:∀ b∈fp,lE X fc H2 b) (cw:sN J g tt te (sub src σ) H2 Q)
  (b6:∀ D C H' m s',Inv X fc σ H' s'→s'.heap.Ns C m→lE X fc H' C→D≠C→Q (.ref D) H'→RR (.ref D) C (.ok .next) s'):
  wpAny (model X.prog X.w) X.A (newList []) (fun bo s₃=>wpAny (model X.prog X.w) X.A (newFunctionEnv scope X.env.globals (iJ X.env scope.names []) [] X.env.qual none .none (some X.env)) (fun ax s₄=>
   codeAny (model X.prog X.w) X.A (.compStart (.ListComp az [⟨tg,ay,aL,0⟩] scope pos) 0 (.ref it) bo { ax with scope:=relabel scope X.env }) (RR bo ax.locals) s₄) E s₃) E Y:=by
 refine BI (wpAny_newFunctionEnv B.nocell (by intro y hy;simp at hy) (fun h₁ ak ae=>?_) B.kind);dsimp only at ak ae ⊢;generalize aR:Y.heap.push { cls:=.type "list",dict:=none,data:=.seq ([]:List Ac).toArray }=HH at ak ae ⊢;have aA:HH.objs.size=Y.heap.objs.size + 1:=by rw[← aR,B5]
 have ai:Y.heap.objs.size≠HH.objs.size:=by rw[aA];exact AG (B9 _)
 have am:Y.heap.objs.size≤HH.objs.size:=by rw[aA];exact CU _
 have ar:∀ b∈fp,b < Y.heap.objs.size:=fun b O=>by
  obtain⟨o,e,_⟩:=T.obj _ _ bx b O;exact Ar e
 have br:∀ b o,Y.heap.get? b=some o→h₁.get? b=some o:=fun b o e=>
  ae.extBut b o (by rw[aA];exact AG (Bj (Ar e))) (Ai _ (aR ▸ Ai _ e))
 have bB:h₁.PlainList Y.heap.objs.size #[]:=⟨_,ae.extBut _ _ ai (Ai _ (aR ▸ Aq _ rfl))⟩
 have bp:tn 0 h₁:=T.keep _ _ _ bx fun b _ o e=>br b o e;obtain⟨W,⟨m0,w0⟩,turn⟩:=cw;have bn:∀ b∈frs X.stack,b < Y.heap.objs.size:=fun b O=>by
  obtain⟨_,o,ho,_⟩:=I2.stack.mem O;exact Ar ho
 generalize F:blk X N scope (iJ X.env scope.names []) Y H2 fp fc HH.objs.size=U;have bq:=O (iJ X.env scope.names []) Y H2 fp fc HH.objs.size;rw[F]at bq;have eP:U.prog=X.prog:=by rw[← F];rfl
 have eW:U.w=X.w:=by rw[← F];rfl
 have eK:U.K=X.K:=by rw[← F];rfl
 have eA:U.A=X.A:=by rw[← F];rfl
 have eE:U.env=compEnvC scope (iJ X.env scope.names []) HH.objs.size X.env:=by rw[← F];rfl
 have eL:U.env.locals=HH.objs.size:=by rw[eE];rfl
 have eF:U.fs=frs X.stack:=by rw[← F];rfl
 have eX:U.ex=fp:=by rw[← F];rfl
 have eS:U.s₀=Y:=by rw[← F];rfl
 have eH:U.H₀=H2:=by rw[← F];rfl
 have eC:U.calm=true:=by rw[← F];exact hc
 have bA:U.pn=X.pn ++ fc:=by rw[← F];rfl
 have bb:U.xe=fun _ _=>False:=by rw[← F];rfl
 have ac:∀ x c,U.env.cells.lookup x=some c→X.env.cells.lookup x=some c:=fun x c e=>by
  rw[eE]at e;exact pF scope.names [] (fun x c e=>by simp at e) x c e
 have af:∀ x c,U.env.cells.lookup x=some c→c < Y.heap.objs.size:=fun x c e=>by
  obtain⟨v,o,ho,_⟩:=I2.cell x c (ac x c e);exact Ar ho
 have ah:∀ p∈X.pn ++ fc,p.1 < Y.heap.objs.size:=fun p Z=>Ar (I2.pin p Z).1;generalize hD:Y.heap.objs.size=D at *;generalize cL:HH.objs.size=C at *;have av:∀ s₃:Ad,s₃={ Y with heap:=h₁,toks:=Y.toks + ([]:List (Str×Ac)).length }→
   codeAny (model X.prog X.w) X.A (.compLoop (.ListComp az [⟨tg,ay,aL,0⟩] scope pos) 0 (.ref it) (.ref D) (compEnvC scope (iJ X.env scope.names []) C X.env)) (RR (.ref D) C) s₃:=by
  rintro s₃ rfl;have I3:Inv U [] (sub src σ) H2 { Y with heap:=h₁,toks:=Y.toks + ([]:List (Str×Ac)).length }:=by
   rw[← F];exact I2.block B f2 (by rw[hD];exact ar) (by rw[hD];exact am) rfl I2.bare br ak
  have bP:H2 D=none:=I2.hok.fresh (FH hD);have bT:D ∉ U.fs:=fun z=>by rw[eF]at z;exact absurd (bn D z) (Bx _)
  have aw:∀{σ':St} {H':Hp} {s':Ad} {pl:List (Ah×Obj)} {its:List Ac} {n:Nat},Inv U pl σ' H' s'→H' D=none→s'.heap.get? D=some { cls:=.type "list",data:=.seq its.toArray n }→
    Inv U ((D,{ cls:=.type "list",data:=.seq its.toArray n }) :: pl) σ' H' s':=fun{σ' H' s' pl its n} I' hn hg=>
   I'.pins_of fun p Z=>by
    rcases Al.mp Z with e | Z
    ·subst e;exact⟨hg,hn,by rw[eL];exact ai,bT,fun v z=>by cases z⟩
    ·exact I'.pin p (A2 _ Z)
  obtain⟨n0,hg0⟩:=bB;have b3:=aw (its:=[]) I3 bP hg0;have ba:∀{H':Hp} {pl:List (Ah×Obj)},(∀ p∈pl,p.1=D)→(∀ b∈fp,H' b=none)→∀ b∈fp,lE U pl H' b:=fun{H' pl} hpl hn b O=>by
   refine⟨hn b O,by rw[eL];exact AG (A5 (ar b O) am),fun z=>?_,.inl (by rw[eX];exact O),fun x c e=>(f2 b O).2.2.2.2.1 x c (ac x c e),fun p Z=>?_⟩
   ·rw[eF]at z;rcases Al.mp (I2.stkSub b z)with e | z
    ·exact(f2 b O).2.1 e
    ·exact(f2 b O).2.2.1 z
   ·rw[bA]at Z;rcases Az.mp Z with z | z
    ·exact(f2 b O).2.2.2.2.2 p z
    ·rw[hpl p z];exact CJ (ar b O)
  refine zI (fun n s'=>∃ i ys its nn σ' H',Inv U [(D,{ cls:=.type "list",data:=.seq its.toArray nn })] σ' H' s'∧tn i s'.heap∧(∀ b∈fp,H' b=none)∧cG ys its∧W i n ys σ' H') ?_ m0
   ⟨0,[],[],n0,sub src σ,H2,b3,bp,fun b O=>(f2 b O).1,.nil,w0⟩
  rintro n s4 ⟨i,ys,its,nn,σ4,H4,I4,bh,bF,aq,w4⟩;obtain⟨hsz,hcase⟩:=turn i n ys σ4 H4 w4;have one:∀{o:Obj},∀ p∈[(D,o)],p.1=D:=fun{o} p Z=>by
   have:=A6.mp Z;rw[this]
  rcases hcase with⟨stop,qn⟩ | ⟨go,Nx,hN,step⟩
  ·have aj:=T.done U eP eW eK eC i _ s4 σ4 H4 (fun _ _=>False) I4 (ba one bF) bh stop;rw[eA]at aj;refine thn aj fun r s5 ⟨hr,I5⟩=>?_;subst hr;have pd:=I5.pin _ (A2 _ AF);have b9:Un (frs X.stack) fp H2 H4 Y.heap s5.heap:=by
    have:=I5.base;rw[eF,eX,eS,eH]at this;exact this
   have bg:HOk X.prog X.w H4 s5.heap:=by
    have:=I5.hok;rw[eP,eW]at this;exact this
   have b1:s5.os=Y.os:=by
    have:=I5.os;rw[eS]at this;exact this
   have J5:Inv X fc σ H4 s5:=I2.call' b1 b9 bg I5.bare fun b O=>⟨(f2 b O).2.2.2.1,(f2 b O).2.1,(f2 b O).2.2.2.2.1,(f2 b O).2.2.2.2.2⟩
   have fD:lE X fc H4 D:=I2.fpOk (FH hD) pd.2.1;have J6:Inv X fc σ (upd H4 D (.lst ys)) s5:=J5.track fD ⟨hsz,its,nn,aq,pd.1⟩;obtain⟨mm,nsC,_⟩:=I5.loc;rw[eL]at nsC;have cc:H4 C=none:=by
    have:=I5.free;rw[eL]at this;exact this
   have fC:lE X fc (upd H4 D (.lst ys)) C:=I2.fpOk (by rw[hD];exact am) (by rw[aS (CV ai)];exact cc);exact b6 D C _ mm s5 J6 nsC fC ai (qn D pd.2.1)
  ·have ag:=T.item U eP eW eK eC i _ s4 σ4 H4 (fun _ _=>False) I4 (ba one bF) bh go;rw[eA]at ag;refine thn ag fun r s5 ⟨u,hr,h5⟩=>?_;subst hr;refine thn h5 fun _ s6 ⟨x,H6,I6,r6,y6,aC,cg⟩=>?_;have b5:=I6.pinned (ba one cg) (T.obj _ _ aC);obtain⟨hg,ht,he⟩:=bq;have e1:=hg _ s6 σ4 H6 x u _ b5 r6 (step x H6 y6);rw[eP,eW,eA,eE,bb]at e1;refine thn e1 fun _ s7 ⟨σ7,H7,I7,q7⟩=>?_;have e2:=ht _ s7 σ7 H7 _ I7 q7;rw[eP,eW,eA,eE,bb]at e2;refine thn e2 fun ok s8 ⟨H8,I8,q8⟩=>?_;have bI:∀{σ':St} {H':Hp} {s':Ad} {ad:List Ac} {an:Nat} {zs:List V},Inv U ([(D,{ cls:=.type "list",data:=.seq ad.toArray an })] ++ nN fp s6.heap) σ' H' s'→cG zs ad→Nx zs σ' H'→
     ∃ m,m < n∧∃ i ys its nn σ' H',Inv U [(D,{ cls:=.type "list",data:=.seq its.toArray nn })] σ' H' s'∧tn i s'.heap∧(∀ b∈fp,H' b=none)∧cG ys its∧W i m ys σ' H':=fun{σ' H' s' ad an zs} I' vs' n'=>by
    obtain⟨m',hm,w'⟩:=hN zs σ' H' n';refine⟨m',hm,i + 1,zs,ad,an,σ',H',I'.unpinned,T.keep _ _ _ aC fun b O o e=>(I'.pin (b,o) (A2 _ (A2 _ (kX O e)))).1,fun b O=>?_,vs',w'⟩;obtain⟨o,e,d⟩:=T.obj _ _ aC b O;exact(I'.pin (b,o) (A2 _ (A2 _ (kX O e)))).2.1
   cases ok with
   | false=>
    simp only[Ct,if_false]at q8 ⊢;exact bI I8 aq q8
   | true=>
    simp only[if_true]at q8 ⊢;have e3:=he _ s8 σ7 H8 _ I8 q8;rw[eP,eW,eA,eE,bb]at e3;refine thn e3 fun v s9 ⟨y,H9,I9,r9,q9⟩=>?_;have pd:=I9.pin _ (A2 _ (D9 _ AF));have cv:=aq.length;refine wpAny_list_append_plain (hsz:=by simp only[Ao];omega) (⟨nn,pd.1⟩:s9.heap.PlainList D its.toArray) fun h' ⟨an,ci⟩ bR=>?_;have b4:Inv U (nN fp s6.heap) σ7 H9 s9:=I9.pins_of fun p Z=>I9.pin p (A2 _ (A2 _ Z));have b0:Inv U (nN fp s6.heap) σ7 H9 { s9 with heap:=h' }:=b4.turned (t':=s9.toks) (it:=D) (fun b o O e=>(bR.2 b O).trans e) pd.2.1 (by rw[eL];exact ai) (.inr (by rw[eS];exact FH hD))
     (fun x c e=>AG (af x c e)) fun p Z=>by
      rw[bA]at Z;rcases Az.mp Z with z | z
      ·exact AG (ah p z)
      ·exact AG (ar _ (vK z).1)
    have bi:h'.get? D=some { cls:=.type "list",data:=.seq (its ++ [v]).toArray an }:=by
     rw[ci];simp
    exact bI (aw (s':={ s9 with heap:=h' }) b0 pd.2.1 bi) (aq.append (.cons r9 .nil)) q9
 exact codeAny_compStart_list (av _ rfl) (T.self X.A 0 _ _ _ bp (av _ rfl))
end
def aHA(src:List (Option Nat))(wi:TI)(g:TG)(tt:TT)(te:TE):TE:=fun σ H Q=>wi σ H fun J H1=>sN J g tt te (sub src σ) H1 Q
section
variable{X:Cx}
theorem fU{tg z F:Bf}{O:List Bf}{scope osc:Ds}{pos:Pos}{N oN:List Str}{src:List (Option Nat)}{Y:TI}{g:TG}{Z:TT}{te:TE}(B:zH N src scope osc oN)(hi:PI X tg z Y)
  (U:∀ cl s H fp fc C,PG (blk X N scope cl s H fp fc C) tg g∧PTs (blk X N scope cl s H fp fc C) O Z∧PE (blk X N scope cl s H fp fc C) F te)
  (hc:X.calm=true:=by rfl) (eo:X.env.scope=osc:=by rfl) (eN:X.N=oN:=by rfl)
  (hs:∀ x,foldedSetIterable z X.env x=pure x:=by intro _;rfl):PE X (.ListComp F [⟨tg,z,O,0⟩] scope pos) (aHA src Y g Z te):=by
 subst eo eN;constructor;intro fc s σ H Q I h;rw[eval_ListComp];refine wpAny_comprehension_free (use:=none) (cl:=iJ X.env scope.names []) rfl hs (oA (I.clos B)) B.kind B.names (thn (hi fc s σ H _ I h) fun xv s1 h1=>thn h1 fun af s2 h2=>?_);obtain⟨it,fp,tn,J,H2,e,I2,T,st2,f2,cw⟩:=h2;subst e;refine vW B hc U I2 T st2 f2 cw fun D C H' m s' J' W fC ah q=>?_;refine⟨m,W,fun h' sb=>⟨.ref D,H',?_,rfl,q⟩⟩;obtain⟨f0,f1,_,f3,f4,f5⟩:=fC;exact J'.turned (t':=s'.toks) (fun b o U e=>(sb.2 b U).trans e) f0 f1 f3 f4 f5
theorem f9{tg F U:Bf}{O:List Bf}{scope osc:Ds}{pos ps Y:Pos}{y:Str}{i:Nat}{N oN:List Str}{src:List (Option Nat)}{wi:TI}{g:TG}{tt:TT}{te:TE}(B:zH N src scope osc oN)(hN:X.N.Nodup)(hy:X.N[i]?=some y)(hi:PI X tg F wi)
  (hb:∀ cl s H fp fc C,PG (blk X N scope cl s H fp fc C) tg g∧PTs (blk X N scope cl s H fp fc C) O tt∧PE (blk X N scope cl s H fp fc C) U te)
  (W:X.env.scope.names.lookup y=some .local:=by rfl)
  (ae:swapsWith (.ListComp U [⟨tg,F,O,0⟩] scope pos) (some (.Name y Y)) ps.line X.env=pure true:=by rfl)
  (hc:X.calm=true:=by rfl) (eo:X.env.scope=osc:=by rfl) (eN:X.N=oN:=by rfl)
  (hs:∀ x,foldedSetIterable F X.env x=pure x:=by intro _;rfl):PS X (.Assign [.Name y Y] (.ListComp U [⟨tg,F,O,0⟩] scope pos) ps) (aH6 (aHA src wi g tt te) (cC i)):=by
 subst eo eN;constructor;intro fc s σ H D I h;rw[exec_Assign_Name_used _ _ _ _ ae];refine Aa (Dj (Aa ?_));show wpAny _ _ (evalThenUse (.ListComp U [⟨tg,F,O,0⟩] scope pos) X.env (assign (.Name y Y) X.env)) _ _ s;have e:evalThenUse (.ListComp U [⟨tg,F,O,0⟩] scope pos) X.env (assign (.Name y Y) X.env)=(do
   let _ ← comprehension (.ListComp U [⟨tg,F,O,0⟩] scope pos) scope X.env (firstIterPos [⟨tg,F,O,0⟩] pos) (newList []) (firstAsync [⟨tg,F,O,0⟩]) (firstIter [⟨tg,F,O,0⟩] X.env) (some (assign (.Name y Y) X.env))):=rfl
 rw[e];refine Aa ?_;refine wpAny_comprehension_free (use:=some (assign (.Name y Y) X.env)) (cl:=iJ X.env scope.names []) rfl hs (oA (I.clos B)) B.kind B.names (thn (hi fc s σ H _ I h) fun xv s1 h1=>thn h1 fun ap s2 h2=>?_);obtain⟨it,fp,tn,J,H2,e,I2,T,st2,f2,cw⟩:=h2;subst e;refine vW B hc hb I2 T st2 f2 cw fun D' C H' m s' J' ag fC ar q=>?_;obtain⟨f0,f1,_,f3,f4,f5⟩:=fC;refine wpAny_assign_Name (vJ J' hN hy (.inl W) (v:=.ref D') rfl (fun aa ad ⟨a,sb,ha⟩=>?_) (.inr W));have Z:C≠a:=by
  rcases ha with rfl | ha
  ·exact f1
  ·exact fun z=>f4 y a ha z.symm
 refine⟨m,ag.sameBut sb Z,fun h' ac=>Ae (Ae ⟨_,H',ad.turned (t':=aa.toks) (fun b o hb e=>(ac.2 b hb).trans e) f0 f1 f3 f4 f5,q⟩)⟩
end
section
variable{X:Cx}
inductive lB(K:Ag)(xs:List V)(H:Hp)(Q:VK):Prop
 | mk (x:_) (n:_) (t:_) (b:_) (q0:xs=[x,.ty n]) (q1:iD K H x t) (q2:Bs K t (.type n)=some b) (q3:Q (.bl b) H):lB K xs H Q
def vA(K:Ag):List V→Hp→VK→Prop:=fun xs H Q=>lB K xs H Q
theorem dN:eY X (.builtin "isinstance") (vA X.K):=by
 intro fc s σ H xs z Q I r h;obtain⟨x,n,t,b,rfl,ty,e,q⟩:=h;obtain⟨u,w',rfl,r1,r2⟩:=aEg r;cases r2;exact aDc I r1 ty e fun tk=>⟨.bl b,H,I.tok _,rfl,q⟩
inductive m9(x:V)(y:V)(H:Hp)(Q:VK):Prop
 | mk (i:_) (j:_) (q0:x=.str i) (q1:y=.str j) (q2:Q (.bl (!decide (j.cps.toList < i.cps.toList))) H):m9 x y H Q
def zJ:V→V→Hp→VK→Prop:=fun x y H Q=>m9 x y H Q
theorem vX:OpR X (compareOp .LtE) zJ:=by
 intro fc s σ H x y v u Q I F z h;obtain⟨i,j,rfl,rfl,q⟩:=h;obtain⟨t,rfl⟩:=F;obtain⟨t',rfl⟩:=z;exact PySem.P.le_str ⟨.bl _,H,I,rfl,q⟩
def vY(i j:Int):Prop:=0 < j∧j.natAbs.log2 < 9000
theorem vY.of{i j:Int}(h:0 < j)(h2:j < 2 ^ 512):vY i j:=by
 refine⟨h,?_⟩;have z:j.natAbs≠0:=by omega
 have:j.natAbs.log2 < 512:=(Nat.log2_lt z).mpr (by
  have e:((2:Int) ^ 512)=((2 ^ 512:Nat):Int):=by decide
  rw[e]at h2;omega)
 omega
theorem sO:OpR X (binaryOp .FloorDiv) (rI vY fun i j=>.int (i / j)):=opI fun i j _ _ _ _ _ hc q=>by
 have h1:(0:Int) < j:=hc.1;refine floordiv_int (by omega) ?_ (AE (PyProof.noPylong_of_log2 hc.2));rw[Int.fdiv_eq_ediv_of_nonneg i (by omega)];exact q
def Its(x:Str):It:=⟨fun i _=>i < x.cps.size,fun i H v H'=>H'=H∧∃ c,x.cps[i]?=some c∧v=.str ⟨#[c]⟩,fun i _=>x.cps.size≤i⟩
theorem aEv{P:Ay}{w:AV}{K:Ag}{tg:Bf}(it:Ah)(x:Str)(t:Tok)(nm:String)(ac:nm="str_ascii_iterator"∨nm="str_iterator")
  (W:∀ A':AO,A'.handled=none→Walks P w A' it [it] [it] x.cps.size (SignAt x) (fun i h=>h.IsStrIter it nm x t i))
  (F:∀(A:AO) (i:Nat) (s:Ad) (Q:Ac→Ad→Prop) (E:Ac→Ad→Prop),s.heap.IsStrIter it nm x t i→Q (.ref it) s→wpAny (model P w) A (pyIter (.ref it)) Q E s):
  aC7 P w K tg (Its x) [it] it (fun i h=>i≤x.cps.size∧h.IsStrIter it nm x t i) where
 mem:=by simp
 obj:=fun i h st b J=>by
  have e:b=it:=by simpa using J
  subst e;obtain⟨_,o,e,c,d⟩:=st;exact⟨o,e,fun v z=>by rw[d]at z;cases z⟩
 keep:=fun i h h' st k=>⟨st.1,by obtain⟨_,o,e,c,d⟩:=st;exact⟨o,k it (by simp) o e,c,d⟩⟩
 item:=by
  intro X hP hw Z hc i fc s σ H E I U st Y;subst hP hw Z;obtain⟨f0,f1,f2,f3,f4,f5⟩:=U it (by simp);refine(W X.A (I.ok.hd hc)).item i s _ _ Y st.2 fun v h' tk hv O kk=>?_;obtain⟨c,u,ec,rfl⟩:=hv;have I1:Inv X fc σ H { s with heap:=h',toks:=tk }:=I.turned (fun b o J e=>kk b o (by simpa using J) e) f0 f1 f3 f4 f5;obtain⟨o,e,c',d⟩:=id O;refine⟨_,rfl,aB0 (s:={ s with heap:=h',toks:=tk }) e c' d (by rcases ac with rfl | rfl <;> decide) ⟨.str ⟨#[c]⟩,H,I1,⟨u,rfl⟩,⟨rfl,c,ec,rfl⟩,⟨Y,O⟩,fun b J=>(U b J).1⟩⟩
 done:=by
  intro X hP hw Z hc i fc s σ H E I U st Y;subst hP hw Z;obtain⟨f0,f1,f2,f3,f4,f5⟩:=U it (by simp);have e:i=x.cps.size:=Nat.le_antisymm st.1 Y;subst e;exact(W X.A (I.ok.hd hc)).done s _ _ st.2 fun h' tk kk=>⟨rfl,I.turned (fun b o J e=>kk b o (by simpa using J) e) f0 f1 f3 f4 f5⟩
 self:=fun A i s Q E st h=>F A i s Q E st.2 h
def aKq(tl:TE):TI:=fun σ H R=>tl σ H fun x H1=>As V.str x fun z=>R (Its z) H1
theorem aIm{tg l:Bf}{tl:TE}(hl:PE X l tl):PI X tg l (aKq tl):=by
 constructor;intro fc s σ H R I h;refine thn (hl fc s σ H _ I h) fun v s1 ⟨x,H1,Z,r1,q1⟩=>?_;obtain⟨z,rfl,q⟩:=q1;obtain⟨t,rfl⟩:=r1;have O:∀(nm:String) (J:nm="str_ascii_iterator"∨nm="str_iterator")
   (W:∀ U:AO,U.handled=none→Walks X.prog X.w U s1.heap.objs.size [s1.heap.objs.size] [s1.heap.objs.size] z.cps.size (SignAt z) (fun i h=>h.IsStrIter s1.heap.objs.size nm z t i))
   (F:∀(A:AO) (i:Nat) (s:Ad) (Q:Ac→Ad→Prop) (E:Ac→Ad→Prop),s.heap.IsStrIter s1.heap.objs.size nm z t i→Q (.ref s1.heap.objs.size) s→wpAny (model X.prog X.w) A (pyIter (.ref s1.heap.objs.size)) Q E s),
   PIE X fc σ tg R (.ref s1.heap.objs.size) { s1 with heap:=s1.heap.push { cls:=.type nm,data:=.fields #[.str z t,.int 0 0] } }:=fun nm J W F=>by
  refine⟨s1.heap.objs.size,[s1.heap.objs.size],_,_,H1,rfl,Z.kept (t':=s1.toks) fun b o e=>Ai _ e,aEv s1.heap.objs.size z t nm J W F,⟨Bo _,_,Aq _ rfl,rfl,rfl⟩,fun b hb=>?_,q⟩;have e:b=s1.heap.objs.size:=by simpa using hb
  subst e;exact Z.fpOk (Ap _) (Z.hok.fresh (Ap _))
 cases ha:z.cps.all (· < 128)
 ·exact wpAny_pyIter_wide ha (O "str_iterator" (.inr rfl) (fun U Y=>Walks.strWide Y _ z t) fun A i s Q E st h=>wpAny_pyIter_striter_wide st h)
 ·exact wpAny_pyIter_ascii ha (O "str_ascii_iterator" (.inl rfl) (fun U Y=>Walks.strAscii Y _ z t) fun A i s Q E st h=>wpAny_pyIter_striter_ascii st h)
inductive sP(x:V)(lo:Option Int)(hi:Option Int)(H:Hp)(Q:VK):Prop
 | mk (z:_) (q0:x=.str z) (q1:z.length≤sizeLine) (q2:Q (.str (D0 z lo hi)) H):sP x lo hi H Q
def aEw:V→Option Int→Option Int→Hp→VK→Prop:=fun x lo hi H Q=>sP x lo hi H Q
theorem aEx:SlR X aEw:=by
 intro fc s σ H x v vl vu lo hi sl Q I rx Z pl Y h;obtain⟨z,rfl,hz,q⟩:=h;obtain⟨t,rfl⟩:=rx;refine⟨"str",_,F.slot_str_getitem.lookup,Gs _ _ _,?_⟩;have J:∀ U k,EP X fc σ Q (.str (D0 z lo hi) U) { s with toks:=k }:=fun U k=>⟨.str _,H,I.tok _,⟨_,rfl⟩,q⟩
 obtain⟨o,ho,hc,hd⟩:=Z;cases pl with
 | none=>
  cases Y with
  | none=>exact DU (l:=none) (u:=none) (st:=none) ⟨o,ho,hc,hd⟩ rfl (Fd ⟨Bc (EV z _ _) hz,J⟩)
  | int j O=>exact DU (l:=none) (u:=some (j,O)) (st:=none) ⟨o,ho,hc,hd⟩ rfl (Fd ⟨Bc (EV z _ _) hz,J⟩)
 | int i W=>
  cases Y with
  | none=>exact DU (l:=some (i,W)) (u:=none) (st:=none) ⟨o,ho,hc,hd⟩ rfl (Fd ⟨Bc (EV z _ _) hz,J⟩)
  | int j O=>exact DU (l:=some (i,W)) (u:=some (j,O)) (st:=none) ⟨o,ho,hc,hd⟩ rfl (Fd ⟨Bc (EV z _ _) hz,J⟩)
theorem aCd:∀{ys:List Str}{us:List Ac},cG (ys.map V.str) us→Gp us ys
 | [],_,.nil=>.nil
 | y :: ys,_,.cons ⟨t,rfl⟩ r=>.cons y t (aCd r)
inductive p0(K:Ag)(x:V)(xs:List V)(H:Hp)(Q:VK):Prop
 | mk (z:_) (p:_) (ys:_) (q0:x=.str z) (q1:xs=[.ref p]) (q2:SqL K H p (ys.map V.str)) (q3:(ys.map (·.length)).sum + ys.length * z.length≤16777216) (q4:Q (.str (Txt.join z ys)) H):p0 K x xs H Q
def aDk(K:Ag):V→List V→Hp→VK→Prop:=fun x xs H Q=>p0 K x xs H Q
theorem aGx:MtR X "str.join" (aDk X.K):=by
 intro fc s σ H x xs v J Q I F r h;obtain⟨z,p,ys,rfl,rfl,hx,hz,q⟩:=h;obtain⟨t,rfl⟩:=F;obtain⟨u,rfl,ru⟩:=gE r;cases ru;obtain⟨its,rv,pl,_⟩:=I.list hx;exact join_list pl.isList (by simpa using aCd rv) hz fun O k=>⟨.str _,H,I.tok _,⟨_,rfl⟩,q⟩
theorem zK:∀{bs:List Bool}{us:List Ac},cG (bs.map V.bl) us→∀(i:Nat) v,us[i]?=some v→∃ b,bs[i]?=some b∧v=.bool b
 | [],_,.nil,i,v,e=>by simp at e
 | b :: bs,_,.cons rfl r,0,v,e=>by simp at e;exact⟨b,rfl,e.symm⟩
 | b :: bs,_,.cons rfl r,i + 1,v,e=>by
  obtain⟨c,h1,h2⟩:=zK r i v (by simpa using e);exact⟨c,by simpa using h1,h2⟩
theorem aA9(bs:List Bool):((AL bs.length).all fun i=>(bs[i]?).getD true)=bs.all id:=by
 rw[Cq,Bg,Bg];constructor
 ·intro h b F;obtain⟨i,hi,e⟩:=D8.mp F;have:=h i (Bt.mpr hi);rw[Af hi]at this;simpa[e]using this
 ·intro h i hi;have z:=Bt.mp hi;rw[Af z];exact h _ (BO z)
inductive oC(K:Ag)(xs:List V)(H:Hp)(Q:VK):Prop
 | mk (p:Ah) (bs:List Bool) (q0:xs=[.ref p]) (q1:SqL K H p (bs.map V.bl)) (q2:Q (.bl (bs.all id)) H):oC K xs H Q
def aBa(K:Ag):List V→Hp→VK→Prop:=fun xs H Q=>oC K xs H Q
theorem oD(hc:X.calm=true):eY X (.builtin "all") (aBa X.K):=by
 intro fc s σ H xs Z Q I r h;obtain⟨p,bs,rfl,hx,q⟩:=h;obtain⟨u,rfl,ru⟩:=gE r;cases ru;obtain⟨its,rv,pl,_⟩:=I.list hx;have J:=pl.isList;have z:its.length=bs.length:=by have:=rv.length;simpa using this.symm
 have F:p < s.heap.objs.size:=by obtain⟨_,e,_⟩:=J;exact Ar e
 refine call_all_walk (EO J ?_);refine⟨s.heap.objs.size,[s.heap.objs.size,p],[s.heap.objs.size],its.toArray.size,_,_,fun i=>(bs[i]?).getD true,rfl,GJ (A:=X.A.in1) (I.ok.hd hc) _ p (AG F) its.toArray,
  ⟨⟨_,Aq _ rfl,rfl,rfl⟩,J.push _⟩,fun i v s' Y E' U O=>?_,fun h' tk W=>?_⟩
 ·obtain⟨b,e,rfl⟩:=zK rv i v (by simpa using U);simp only[e,Option.getD_some]at O;exact CH O
 ·rw[Ao,z,aA9];exact⟨.bl _,H,I.kept fun b x e=>W b x (fun hm=>by rw[A6.mp hm]at e;exact Bx _ (Ar e)) (Ai _ e),rfl,q⟩
def vB:List V→List V→Bool
 | [],[]=>true
 | x :: xs,y :: ys=>eqV x y && vB xs ys
 | _,_=>false
theorem sQ:∀{xs ys:List V},xs.length≠ys.length→vB xs ys=false
 | [],[],h=>absurd rfl h
 | [],_ :: _,_=>rfl
 | _ :: _,[],_=>rfl
 | x :: xs,y :: ys,h=>by
  show(eqV x y && vB xs ys)=false;rw[sQ (fun e=>h (by simp[e])),E4]
theorem sU:∀{xs ys:List V},xs.length=ys.length→((AL xs.length).all fun i=>eqV (xs[i]?.getD .non) (ys[i]?.getD .non))=vB xs ys
 | [],[],_=>rfl
 | x :: xs,y :: ys,h=>by
  have z:=sU (xs:=xs) (ys:=ys) (by simpa using h);rw[AM,List.range_succ_eq_map,CW,Ek];show(eqV x y && _)=(eqV x y && vB xs ys)
  rw[← z];rfl
theorem zL{A:AO}{s:Ad}{xs ys:List V}{us J:List Ac}(U:cG xs us)(O:cG ys J)(f1:xs.all hV=true)(f2:ys.all hV=true)(j:Nat)(h1:j < us.toArray.size)(h2:j < J.toArray.size):
  GK A s us.toArray[j] J.toArray[j] (eqV (xs[j]?.getD .non) (ys[j]?.getD .non)):=by
 have l1:=U.length;have W:=O.length;have F:j < xs.length:=by simpa[l1]using h1
 have z:j < ys.length:=by simpa[W]using h2
 obtain⟨u,eu,ru⟩:=U.get (Af F);obtain⟨w',ew,rw'⟩:=O.get (Af z);have Y:us.toArray[j]=u:=by
  rw[Af (by simpa using h1)]at eu;simpa using eu
 have Z:J.toArray[j]=w':=by
  rw[Af (by simpa using h2)]at ew;simpa using ew
 rw[Y,Z,Af F,Af z];exact xC ru rw' (Bg.mp f1 _ (BO F)) (Bg.mp f2 _ (BO z))
inductive sV(K:Ag)(x:V)(y:V)(H:Hp)(Q:VK):Prop
 | mk (p:_) (q:_) (xs:_) (ys:_) (q0:x=.ref p) (q1:y=.ref q) (q2:SqL K H p xs) (q3:SqL K H q ys) (q4:xs.all hV=true) (q5:ys.all hV=true) (q6:Q (.bl (vB xs ys)) H):sV K x y H Q
def aEy(K:Ag):V→V→Hp→VK→Prop:=fun x y H Q=>sV K x y H Q
theorem aEz(z:X.A.units < cLine):OpR X (compareOp .Eq) (aEy X.K):=by
 intro fc s σ H x y v u Q I J F h;obtain⟨p,q,xs,ys,rfl,rfl,h1,h2,f1,f2,hq⟩:=h;cases J;cases F;obtain⟨us,r1,p1,_⟩:=I.list h1;obtain⟨ws,r2,p2,_⟩:=I.list h2;have l1:=r1.length;have O:=r2.length;by_cases e:xs.length=ys.length
 ·refine SeqAt.eq_listAt p1.isList p2.isList (by simp;omega) z (zL r1 r2 f1 f2) ?_;rw[Ao,← l1,sU e];exact⟨.bl _,H,I,rfl,hq⟩
 ·refine SeqAt.eq_list_lengthsAt p1.isList p2.isList (by simp;omega) z ?_;rw[sQ e]at hq;exact⟨.bl _,H,I,rfl,hq⟩
inductive sX(K:Ag)(x:V)(y:V)(H:Hp)(Q:VK):Prop
 | mk (p:_) (q:_) (xs:_) (ys:_) (q0:x=.ref p) (q1:y=.ref q) (q2:SqL K H p xs) (q3:SqL K H q ys) (q4:xs.all hV=true) (q5:ys.all hV=true) (q6:Q (.bl (!vB xs ys)) H):sX K x y H Q
def aEA(K:Ag):V→V→Hp→VK→Prop:=fun x y H Q=>sX K x y H Q
theorem aEB(z:X.A.units < cLine):OpR X (compareOp .NotEq) (aEA X.K):=by
 intro fc s σ H x y v u Q I J F h;obtain⟨p,q,xs,ys,rfl,rfl,h1,h2,f1,f2,hq⟩:=h;cases J;cases F;obtain⟨us,r1,p1,_⟩:=I.list h1;obtain⟨ws,r2,p2,_⟩:=I.list h2;have l1:=r1.length;have O:=r2.length;by_cases e:xs.length=ys.length
 ·refine SeqAt.RcNeAt.lists p1.isList p2.isList (by simp;omega) z (zL r1 r2 f1 f2) X.prog X.w _ _ ?_;rw[Ao,← l1,sU e];exact⟨.bl _,H,I,rfl,hq⟩
 ·refine SeqAt.RcNeAt.lists_lengths p1.isList p2.isList (by simp;omega) z X.prog X.w _ _ ?_;rw[sQ e]at hq;exact⟨.bl _,H,I,rfl,hq⟩
end
theorem aM{n:Nat}(h:n≤1000000):n≤sizeLine:=by
 have:sizeLine=16777216:=Fv;omega
theorem qR{J:It}{g:TG}{Z:TT}{te:TE}{σ₀:St}{H₀:Hp}{Q:VK}(n:Nat)(z:Nat→List V→St→Hp→Prop)(h0:z 0 [] σ₀ H₀)(hn:n≤sizeLine)(U:∀ i ys σ H,z i ys σ H→ys.length≤i)
  (Y:∀ i ys σ H,i < n→z i ys σ H→J.go i H) (F:∀ ys σ H,z n ys σ H→J.stop n H)
  (hs:∀ i ys σ H x H',i < n→z i ys σ H→J.yld i H x H'→g x σ H' fun W H2=>Z W H2 fun b H3=>if b=true then te W H3 fun v H4=>z (i + 1) (ys ++ [v]) W H4 else z (i + 1) ys W H3)
  (hd:∀ ys σ H,z n ys σ H→∀ D,H D=none→Q (.ref D) (upd H D (.lst ys))):sN J g Z te σ₀ H₀ Q:=by
 refine⟨fun i m ys σ H=>m=n - i∧i≤n∧z i ys σ H,⟨n,by simp,Bo _,h0⟩,?_⟩;rintro i m ys σ H ⟨rfl,hi,p⟩;refine⟨Bc (U i ys σ H p) (Bc hi hn),?_⟩;by_cases O:i < n
 ·exact .inr ⟨Y i ys σ H O p,z (i + 1),fun zs σ' H' p'=>⟨n - (i + 1),by omega,rfl,O,p'⟩,fun x H' y=>hs i ys σ H x H' O p y⟩
 ·have e:i=n:=by omega
  subst e;exact .inl ⟨F ys σ H p,hd ys σ H p⟩
theorem aEC{x:Str}{g:TG}{O:TT}{te:TE}{U:St}{H₀:Hp}{Q:VK}(z:Nat→List V→St→Hp→Prop)(h0:z 0 [] U H₀)(hn:x.cps.size≤sizeLine)(F:∀ i ys σ H,z i ys σ H→ys.length≤i)
  (Y:∀ i c ys σ H,x.cps[i]?=some c→z i ys σ H→g (.str ⟨#[c]⟩) σ H fun J H2=>O J H2 fun b W=>if b=true then te J W fun v Z=>z (i + 1) (ys ++ [v]) J Z else z (i + 1) ys J W)
  (hd:∀ ys σ H,z x.cps.size ys σ H→∀ D,H D=none→Q (.ref D) (upd H D (.lst ys))):sN (Its x) g O te U H₀ Q:=
 qR x.cps.size z h0 hn F (fun i _ _ _ h _=>h) (fun _ _ _ _=>Ap _) (fun i ys σ H v H' hi p y=>by
  obtain⟨e,c,ec,rfl⟩:=y;subst e;exact Y i c ys σ _ ec p) hd
theorem i3{lo:Int}{n:Nat}{g:TG}{O:TT}{te:TE}{U:St}{H₀:Hp}{Q:VK}(z:Nat→List V→St→Hp→Prop)(h0:z 0 [] U H₀)(hn:n≤sizeLine)(F:∀ i ys σ H,z i ys σ H→ys.length≤i)
  (Y:∀ i ys σ H,i < n→z i ys σ H→g (.int (lo + i)) σ H fun J H2=>O J H2 fun b W=>if b=true then te J W fun v Z=>z (i + 1) (ys ++ [v]) J Z else z (i + 1) ys J W)
  (hd:∀ ys σ H,z n ys σ H→∀ D,H D=none→Q (.ref D) (upd H D (.lst ys))):sN (Itr lo n) g O te U H₀ Q:=
 qR n z h0 hn F (fun i _ _ _ h _=>h) (fun _ _ _ _=>Ap _) (fun i ys σ H v H' hi p y=>by
  obtain⟨e,rfl⟩:=y;subst e;exact Y i ys σ _ hi p) hd
theorem jY{K:Ag}{a:Ah}{xs:List V}{g:TG}{U:TT}{te:TE}{W:St}{H₀:Hp}{Q:VK}(z:Nat→List V→St→Hp→Prop)(h0:z 0 [] W H₀)(hn:xs.length≤sizeLine)(F:∀ i ys σ H,z i ys σ H→ys.length≤i)
  (O:∀ i ys σ H,z i ys σ H→SqL K H a xs)
  (Z:∀ i x ys σ H,xs[i]?=some x→z i ys σ H→g x σ H fun J H2=>U J H2 fun b Y=>if b=true then te J Y fun v H4=>z (i + 1) (ys ++ [v]) J H4 else z (i + 1) ys J Y)
  (hd:∀ ys σ H,z xs.length ys σ H→∀ D,H D=none→Q (.ref D) (upd H D (.lst ys))):sN (Itl K a) g U te W H₀ Q:=
 qR xs.length z h0 hn F (fun i ys σ H h p=>⟨xs,xs[i],O i ys σ H p,by simp[h]⟩) (fun ys σ H p=>⟨xs,O _ ys σ H p,Ap _⟩) (fun i ys σ H v H' hi p y=>by
  obtain⟨e,y⟩:=y;subst e;exact Z i v ys σ _ (y xs (O i ys σ _ p)) p) hd
theorem i5{K:Ag}{a:Ah}{xs:List V}{g:TG}{U:TT}{te:TE}{W:St}{H₀:Hp}{Q:VK}(z:Nat→List V→St→Hp→Prop)(h0:z 0 [] W H₀)(hn:xs.length≤sizeLine)(F:∀ i ys σ H,z i ys σ H→ys.length≤i)
  (O:∀ i ys σ H,z i ys σ H→SqT K H a xs)
  (Z:∀ i x ys σ H,xs[i]?=some x→z i ys σ H→g x σ H fun J H2=>U J H2 fun b Y=>if b=true then te J Y fun v H4=>z (i + 1) (ys ++ [v]) J H4 else z (i + 1) ys J Y)
  (hd:∀ ys σ H,z xs.length ys σ H→∀ D,H D=none→Q (.ref D) (upd H D (.lst ys))):sN (Itt K a) g U te W H₀ Q:=
 qR xs.length z h0 hn F (fun i ys σ H h p=>⟨xs,xs[i],O i ys σ H p,by simp[h]⟩) (fun ys σ H p=>⟨xs,O _ ys σ H p,Ap _⟩) (fun i ys σ H v H' hi p y=>by
  obtain⟨e,y⟩:=y;subst e;exact Z i v ys σ _ (y xs (O i ys σ _ p)) p) hd
def aQ(p:Ah)(H H':Hp):Prop:=∀ b o,H b=some o→b≠p→H' b=some o
theorem aQ.refl(p:Ah)(H:Hp):aQ p H H:=fun _ _ e _=>e
theorem aQ.trans{p:Ah}{H H1 H2:Hp}(a:aQ p H H1)(b:aQ p H1 H2):aQ p H H2:=fun c o e h=>b c o (a c o e h) h
theorem aQ.same{p:Ah}{H H1 H2:Hp}(a:aQ p H H1)(b:aY H1 H2):aQ p H H2:=fun c o e h=>b c o (a c o e h)
theorem aY.but{p:Ah}{H H1:Hp}(a:aY H H1):aQ p H H1:=fun c o e _=>a c o e
theorem aQ.upd{p:Ah}{o:HO}{H H1:Hp}(a:aQ p H H1):aQ p H (upd H1 p o):=fun c u e h=>by rw[aS h];exact a c u e h
theorem aK{p:Ah}{o:HO}{H:Hp}(h:H p=none):aY H (upd H p o):=fun c u e=>by rw[aS (bE e h)];exact e
section
variable{X:Cx}
end
section
variable{X:Cx}
inductive aED(t:TS)(D:mY)(σ:St)(H:Hp):Prop
 | mk (R:St→Hp→Prop) (q0:t { D with nx:=R } σ H) (q1:∀ σ' H',R σ' H'→D.nx σ' H'):aED t D σ H
def aKr(t:TS):TS:=fun D σ H=>aED t D σ H
theorem pJ{st:B3}{t:TS}(h:PS X st t):PS X st (aKr t):=by
 constructor;intro fc s σ H D I q;obtain⟨R,q1,q2⟩:=q;refine thn (h fc s σ H _ I q1) fun f s' z=>?_;cases f with
 | next=>obtain⟨σ',H',I',r⟩:=z;exact⟨σ',H',I',q2 _ _ r⟩
 | brk=>exact z
 | cont=>exact z
 | ret u=>exact z
end
theorem vZ:∀ ns:List Int,(ns.map V.int).all hV=true
 | []=>rfl
 | _ :: r=>vZ r
theorem sY{K:Ag}{T U:String}{b:Bool}(hn:(AJ T == AJ U)=false)(hm:PySem.W.kitMeta U=true)(z:(PySem.fastBuiltinMro T).map (·.contains (AJ U))=some b):Bs K (.type T) (.type U)=some b:=by
 unfold Bs;rw[Ia (by rw[hn];exact AN)];show(if PySem.W.kitMeta U=true then PySem.W.subIn K (AJ T) (AJ U) else none)=_;rw[Ib hm];exact z
theorem lO{K:Ag}{T:String}:Bs K (.type T) (.type T)=some true:=by
 unfold Bs;rw[Ib (by rw[beq_self_eq_true])]
theorem iE{xs:List V}{i:Int}(F:0≤i)(h1:i < xs.length):∃ v,v∈xs∧atI xs i=some v:=by
 have z:i.toNat < xs.length:=by omega
 refine⟨xs[i.toNat],BO z,?_⟩;have e:=bS (xs:=xs) (j:=i.toNat) (v:=xs[i.toNat]) (Af z);rw[Em F]at e;exact e
def aEE:Bf→Bool
 | .Starred ..=>false
 | _=>true
theorem aDl{e:Bf}{es:List Bf}{env:Env}(h:aEE e=true):starEach (e :: es) env=(false,eval e env) :: starEach es env:=by
 cases e <;> first | rfl | cases h
theorem aG{X:Cx}{e:Bf}{es:List Bf}{te:TE}{t:TA}(ha:PE X e te)(F:PA X es t)(z:aEE e=true:=by rfl):PA X (e :: es) (aB5 te t):=gF ha F (aDl z)
section
variable{X:Cx}
theorem Inv.turnedL{fc:List (Ah×Obj)}{σ:St}{H:Hp}{s:Ad}{h':Ba}{t':Nat}{fp:List Ah}(I:Inv X fc σ H s)(k:∀ b o,b ∉ fp→s.heap.get? b=some o→h'.get? b=some o)(J:∀ b∈fp,lE X fc H b):
  Inv X fc σ H { s with heap:=h',toks:=t' }:=by
 have F:∀ b u,H b=some u→b ∉ fp:=fun b u e z=>by rw[(J b z).1]at e;cases e
 refine I.step (g':=s.gens) (d':=s.drawn) (ch:=fp) (fun b O=>?_) (fun b o _ _ hc e _=>k b o hc e) (fun b o _ _ hc e _=>⟨o.slots,k b o hc e⟩) (fun _ _ _ _ n=>n)
  (fun b o hc e=>⟨o,k b o hc e⟩) (fun _ _ e=>e) (fun _ _ _ e=>e) (fun b ps e=>⟨#[],by rw[e];simp⟩) (fun m hm=>?_) (fun b u e=>?_) I.bare
 ·obtain⟨_,h1,_,h3,h4,h5⟩:=J b O;exact⟨h3,h1,h4,h5⟩
 ·obtain⟨o,es,ep,ho,r⟩:=hm;exact⟨o,es,ep,k _ o (fun z=>(J _ z).2.1 rfl) ho,r⟩
 ·refine(I.hok b u e).stay (fun c v hc q=>k c v ?_ q) (fun _ q=>q) fun _ _ q=>q;rcases hc with z | z
  ·rw[z];exact F b u e
  ·exact F c _ z
structure ZA(z TI TO i1 i2:Ah):Prop where
 a1:TI≠z
 a2:TO≠z
 a3:i1≠z
 a4:i2≠z
 a5:TI≠TO
 a6:TI≠i1
 a7:TI≠i2
 a8:TO≠i1
 a9:TO≠i2
 a10:i1≠i2
end
def i6(σ:List Str)(v:Str):List Str:=if v∈σ then σ else σ ++ [v]
def eO(val:Nat→Str):Nat→List Str
 | 0=>[]
 | i + 1=>i6 (eO val i) (val i)
theorem oE(σ:List Str)(k:Str):(σ.any fun x=>x == k)=decide (k∈σ):=by
 rw[Cq,DZ,decide_eq_true_iff];constructor
 ·rintro⟨x,hx,e⟩;rw[beq_iff_eq]at e;exact e ▸ hx
 ·intro h;exact⟨k,h,beq_self_eq_true k⟩
theorem v0(σ:List Str)(v k:Str):((i6 σ v).any fun x=>x == k)=((σ.any fun x=>x == k) || decide (k=v)):=by
 rw[oE,oE];unfold i6;split
 ·next h=>
  rw[Cq];simp only[decide_eq_true_eq,Bool.or_eq_true];constructor
  ·intro z;exact .inl z
  ·rintro(z | z)
   ·exact z
   ·exact z ▸ h
 ·rw[Cq];simp
theorem iM(σ:List Str)(v:Str):(i6 σ v).length=if (σ.any fun x=>x == v)=true then σ.length else σ.length + 1:=by
 rw[oE];unfold i6;by_cases h:v∈σ
 ·rw[Ib h,Ib (Ic h)]
 ·rw[Ia h,Ia (by simpa using h),Ak];rfl
theorem mC(val:Nat→Str):∀ i,(eO val i).length≤i
 | 0=>Ap _
 | i + 1=>by
  have z:=mC val i;show(i6 _ _).length≤_;rw[iM];split <;> omega
theorem aDm{prog:Ay}{w:AV}{A:AO}{R:Hh→Ad→Prop}{I:Ah}{fp wr:List Ah}{G:Array E2→Array E2→Prop}{n:Nat}{P:Nat→Ac→Prop}{St:Nat→Ad→Prop}
  (W:WalksS prog w A.in1 I fp wr G n P St) (S:Ah) (Z:¬ S∈fp) (val:Nat→Str) (ag:∀(i:Nat) (v:Ac),P i v→∃ t,v=Bw (val i) t) (U:n + 1 < scanBound):
  ∀(k i:Nat) (s:Ad),n - i=k→i≤n→St i s→Ft (Bl prog w) s.heap S (fun O=>(eO val i).any fun x=>x == O) (eO val i).length→
   (∀ s':Ad,Moved (S :: wr) G s s'→Ft (Bl prog w) s'.heap S (fun O=>(eO val n).any fun x=>x == O) (eO val n).length→R (GZ (GE BH)) s')→
   codeAny (model prog w) A (Code.builtin "set.update.loop" { pos:=[AB S,AB I] }) R s:=by
 have ah:¬ S∈wr:=fun h=>Z (W.sub S h);have z:∀ b,b∈wr→b∈S :: wr:=fun b U=>AK S U;intro k
 induction k with
 | zero=>
  intro i s hk hi J hS hR;have ai:i=n:=by omega
  subst ai;refine BB Cs ?_;rw[BC BD];refine Aa (W.done s _ _ J fun s' hm=>?_);refine Ae (hR s' (F7 hm z) ?_);obtain⟨o,es,ep,t,ho,cM⟩:=hS;exact⟨o,es,ep,t,hm.heap S o ah ho,cM⟩
 | succ k ih=>
  intro i s hk hi J hS hR;have ae:i < n:=by omega
  refine BB Cs ?_;rw[BC BD];refine Aa (W.item i s _ _ ae J fun v s' hP Y hm=>?_);obtain⟨t,rfl⟩:=ag i v hP;have ak:Ft (Bl prog w) s'.heap S (fun O=>(eO val i).any fun x=>x == O) (eO val i).length:=by
   obtain⟨o,es,ep,tb,ho,cM⟩:=hS;exact⟨o,es,ep,tb,hm.heap S o ah ho,cM⟩
  have F:(eO val i).length + 1 < scanBound:=by
   have:=mC val i;omega
  refine Aa (A1 (A1 (Aa ((Bl prog w).pyHash (Gu prog w (val i) t) ?_))));refine wpAny_setAddHashed_of (Gu prog w (val i) t) rfl ak F fun h' ad am=>?_;refine Ae ⟨Dk BD _,?_⟩;refine ih (i + 1) _ (by omega) ae (W.frame (i + 1) s' h' _ Y (CU s'.toks) fun b U o e=>?_) ?_ fun aj af ac=>?_
  ·rw[ad.right b fun h=>Z (h ▸ U)];exact e
  ·refine SetOf_congr am (fun O=>?_) ?_
   ·show _=((i6 _ _).any _)
    rw[v0]
   ·show _=(i6 _ _).length;rw[iM]
  ·refine hR aj (Moved.trans W.gtrans (Moved.then_heap (F7 hm z) (CU s'.toks) fun b o U e=>?_) af) ac;rw[ad.right b fun h=>U (h ▸ AF)];exact e
theorem vC{prog:Ay}{w:AV}{A:AO}{E:Ac→Ad→Prop}{s:Ad}{l:Ah}{z:Array Ac}{val:Nat→Str}{Q:Ac→Ad→Prop}(hh:A.handled=none)(hl:s.heap.IsList l z)
  (hi:∀(i:Nat) (v:Ac),z[i]?=some v→∃ t,v=Bw (val i) t) (hb:z.size + 1 < scanBound)
  (h:∀(h':Ba) (tk:Nat),Ft (Bl prog w) h' s.heap.objs.size (fun k'=>(eO val z.size).any fun x=>x == k') (eO val z.size).length→
   (∀(b:Nat) (o:Obj),b < s.heap.objs.size→s.heap.get? b=some o→h'.get? b=some o)→Q (AB s.heap.objs.size) { s with heap:=h',toks:=tk }):
  wpAny (model prog w) A (call (AJ "set") [AB l]) Q E s:=by
 obtain⟨c,tl,hmro⟩:=BQ.mro;have W:=BQ.made;have aa:=BQ.sub;have ao:=F8 (AB l);refine Cy (Fe (Ae ⟨Ew _ (by decide),BB FS ?_⟩));rw[Fi (Fj "set" [AB l] []) rfl];unfold Builtin.«type.__call__»;dsimp only
 iterate 2 refine An (by first | rfl | decide) ?_
 refine Aa (Cr ao ?_);refine Aa (Cr hmro ?_);refine An (by first | rfl | decide) ?_;refine Aa (Cr W ?_);refine Aa (Ae ?_);refine Aa (A1 (Cy (CB (code_set_new_1 (Q₁:=fun obj s₁=>∃ led,obj=AB s.heap.objs.size∧s₁={ s with heap:=s.heap.push { cls:=AJ "set",data:=BZ #[] 0 (A8 0 0 led) } }) (E:=E) (AB l) fun led=>⟨led,rfl,rfl⟩) fun r s₁ J=>?_)));cases r with
 | error e=>exact J
 | ok fl=>
  cases fl with
  | next=>exact J.elim
  | brk=>exact J.elim
  | cont=>exact J.elim
  | ret v=>
   obtain⟨led,rfl,rfl⟩:=J;have hS:=Aq s.heap (o:={ cls:=AJ "set",data:=BZ #[] 0 (A8 0 0 led) }) rfl;have hT:Dy { s with heap:=s.heap.push { cls:=AJ "set",data:=BZ #[] 0 (A8 0 0 led) } } (AB s.heap.objs.size) "set":=⟨_,hS,rfl⟩
   have ai:=BQ.init.lookup;have an:=BQ.init.bind (AB s.heap.objs.size);obtain⟨ol,hol,hcl,nl,hdl⟩:=hl;have O:=Ai { cls:=AJ "set",data:=BZ #[] 0 (A8 0 0 led) } hol;have Z:Heap.IsList (s.heap.push { cls:=AJ "set",data:=BZ #[] 0 (A8 0 0 led) }) l z:=⟨ol,O,hcl,nl,hdl⟩
   refine Aa (BS hT aa ?_);refine An (by first | rfl | decide) ?_;refine Aa (A1 ?_);unfold callSpecial?;refine Aa (DO hT ai ?_);dsimp only;refine A1 ?_;refine Aa (Cr an ?_);refine Aa (Cy (CB (DC BQ.init.plain F9 (R:=fun r s'=>match r with | .ok (.ret v)=>v=.none∧Q (.ref s.heap.objs.size) s' | _=>False) (Gi hT ?_)) fun r s₁ J=>?_))
   ·unfold Builtin.«set.__init__»;refine Aa (BJ (by first | rfl | decide) (Ae ?_));refine Aa (Aa (Aa (B0 hT (An (by first | rfl | decide) (Ae ?_)))));refine Ae ?_;refine Aa ?_;unfold checkCount
    iterate 2 refine An (by first | rfl | decide) ?_
    refine An (by first | rfl | decide) (Ae ?_);refine Aa (Ae ?_);refine Aa ?_;unfold setUsed setState;refine Aa (Aa (Hm hS ?_));dsimp only;refine An (by first | rfl | decide) (Ae ?_);refine Ae ?_;refine An (by first | rfl | decide) ?_;show wpAny _ _ (do let ax ← B7 "set.__init__" s.heap.objs.size (AB l);ret BH) _ _ _;refine Aa ?_;unfold B7;refine Aa ?_;have Y:Dy { s with heap:=s.heap.push { cls:=AJ "set",data:=BZ #[] 0 (A8 0 0 led) } } (AB l) "list":=⟨ol,O,hcl⟩
    unfold DN;refine Aa (BS Y F.sub_list_set ?_);refine BS Y F.sub_list_frozenset ?_;refine An (by first | rfl | decide) ?_;refine Aa (B0 Y ?_);refine An (by first | rfl | decide) ?_;refine Aa (EO Z ?_);refine Aa (DB ?_);have ac:l < s.heap.objs.size:=Ar hol;have U:(s.heap.push { cls:=AJ "set",data:=BZ #[] 0 (A8 0 0 led) }).objs.size=s.heap.objs.size + 1:=B5 _ _;have ae:l≠(s.heap.push { cls:=AJ "set",data:=BZ #[] 0 (A8 0 0 led) }).objs.size:=by rw[U];exact AG (Bj ac)
    have ah:¬ s.heap.objs.size∈[(s.heap.push { cls:=AJ "set",data:=BZ #[] 0 (A8 0 0 led) }).objs.size,l]:=by
     rw[U];simp only[Al,AA,or_false,not_or];exact⟨AG (B9 _),CJ ac⟩
    have aj:A.in1.in1.in1.handled=none:=hh;refine aDm (Fz (GJ aj _ l ae z)) s.heap.objs.size ah val hi hb (z.size - 0) 0 _ rfl (Bo _) ⟨⟨_,Aq _ rfl,rfl,rfl⟩,Heap.IsList.push Z _⟩ ?_ ?_
    ·have ad:=Ai { cls:=AJ "list_iterator",data:=FV #[AB l,Ci 0 0] } hS;exact SetOf_congr (Obj.SetObjOf.setOf (setObjOf_fresh led) ad (by show 0 < scanBound;decide)) (fun x=>rfl) rfl
    ·rintro⟨h',g',d',tk',os'⟩ hm hS';refine Ae (Ae ⟨rfl,?_⟩);have e1:=hm.gens;have e2:=hm.drawn;have e3:=hm.os;dsimp only at e1 e2 e3;subst e1 e2 e3;refine h h' tk' hS' fun b o hb e=>hm.heap b o ?_ ?_
     ·simp only[Al,AA,or_false,not_or];rw[U];exact⟨AG hb,AG (Bj hb)⟩
     ·exact Ai _ (Ai _ e)
   ·cases r with
    | error e=>exact J.elim
    | ok fl=>
     cases fl with
     | next=>exact J.elim
     | brk=>exact J.elim
     | cont=>exact J.elim
     | ret v=>
      obtain⟨rfl,q⟩:=J;refine Ae ?_;refine An (by first | rfl | decide) ?_;exact Ae q
section
variable{X:Cx}
def aEF(P:Ay)(w:AV)(a:Ah)(ss:List Str):HO:=.ext fun h=>Ft (Bl P w) h a (fun k=>(eO (fun i=>ss.getD i "") ss.length).any fun x=>x == k) (eO (fun i=>ss.getD i "") ss.length).length
theorem aDn(hc:X.calm=true):eY X (.type "set") (fun xs H Q=>∃(p:Ah) (F:List Str),xs=[.ref p]∧SqL X.K H p (F.map V.str)∧F.length≤1000∧∀ a,H a=none→Q (.ref a) (upd H a (aEF X.prog X.w a F))):=by
 intro fc s σ H xs us Q I r h;obtain⟨p,F,rfl,hx,h1000,q⟩:=h;obtain⟨u,rfl,ru⟩:=gE r;cases ru;obtain⟨its,rv,pl,_⟩:=I.list hx;have z:=rv.length;rw[Ab]at z;refine vC (val:=fun i=>F.getD i "") (I.ok.hd hc) pl.isList (fun i v Z=>?_) (by rw[Ao,← z];show _ < 4096;omega) fun h' tk U Y=>?_
 ·have J:its[i]?=some v:=by simpa using Z
  have hi:i < F.length:=by
   rw[z];exact(AR.mp J).1
  have e:(F.map V.str)[i]?=some (V.str (F.getD i "")):=by
   rw[AC,Af hi];simp[hi]
  obtain⟨u,hu,ru⟩:=rv.get e;rw[J]at hu;cases hu;exact ru
 ·have O:its.toArray.size=F.length:=by rw[Ao,← z]
  rw[O]at U;have W:∀ b u,s.heap.get? b=some u→h'.get? b=some u:=fun b u e=>Y b u (Ar e) e;have hn:H s.heap.objs.size=none:=I.hok.fresh (Ap _);refine⟨.ref s.heap.objs.size,_,I.laid (t':=tk) (o:=aEF X.prog X.w s.heap.objs.size F) W (Ap _) ⟨U,?_,fun h1 h2 f g=>?_⟩,rfl,q _ hn⟩
  ·obtain⟨o,_,_,_,e,_⟩:=U;exact⟨o,e⟩
  ·obtain⟨o,es,ep,t,e,cM⟩:=f;exact⟨o,es,ep,t,g o e,cM⟩
theorem aDo:eY X (.builtin "len") (fun xs H Q=>∃(p:Ah) (z:List Str),xs=[.ref p]∧H p=some (aEF X.prog X.w p z)∧z.length≤1000∧Q (.int ((eO (fun i=>z.getD i "") z.length).length:Nat)) H):=by
 intro fc s σ H xs J Q I r h;obtain⟨p,z,rfl,hx,h1000,q⟩:=h;obtain⟨u,rfl,ru⟩:=gE r;cases ru;obtain⟨⟨o,es,ep,t,ho,hex,hd,_,_,_,hf,hn⟩,_,_⟩:cP X.prog X.w H s.heap p (aEF X.prog X.w p z):=I.hok p _ hx;have F:=mC (fun i=>z.getD i "") z.length;exact call_len_set ho hex hd hf (by omega) ⟨.int _,H,I.tok _,⟨_,by rw[hn]⟩,q⟩
theorem sZ(val:Nat→Str):∀ i k,k∈eO val i↔∃ j,j < i∧val j=k
 | 0,k=>by
  show k∈[]↔_;simp
 | i + 1,k=>by
  show k∈i6 (eO val i) (val i)↔_;have F:=sZ val i;unfold i6;by_cases h:val i∈eO val i
  ·rw[Ib h,F k];constructor
   ·rintro⟨j,hj,e⟩;exact⟨j,by omega,e⟩
   ·rintro⟨j,hj,e⟩;by_cases z:j=i
    ·subst z;obtain⟨j',hj',e'⟩:=(F _).mp h;exact⟨j',hj',e'.trans e⟩
    ·exact⟨j,by omega,e⟩
  ·rw[Ia h,Az,F k,A6];constructor
   ·rintro(⟨j,hj,e⟩ | e)
    ·exact⟨j,by omega,e⟩
    ·exact⟨i,by omega,e.symm⟩
   ·rintro⟨j,hj,e⟩;by_cases z:j=i
    ·subst z;exact .inr e.symm
    ·exact .inl ⟨j,by omega,e⟩
theorem v3(val:Nat→Str):∀ i,(eO val i).length=i↔((AL i).map val).Nodup
 | 0=>by simp[eO]
 | i + 1=>by
  have J:=v3 val i;have O:=mC val i;show(i6 (eO val i) (val i)).length=_↔_;rw[iM,oE,FX,AS,Dd];have hm:val i∈eO val i↔val i∈(AL i).map val:=by
   rw[sZ,Bb];constructor
   ·rintro⟨j,hj,e⟩;exact⟨j,Bt.mpr hj,e⟩
   ·rintro⟨j,hj,e⟩;exact⟨j,Bt.mp hj,e⟩
  by_cases h:val i∈eO val i
  ·rw[Ib (Ic h)];constructor
   ·intro z;omega
   ·rintro⟨_,_,z⟩;exact absurd rfl (z _ (hm.mp h) _ (by simp))
  ·rw[Ia (by simpa using h)];constructor
   ·intro z;refine⟨J.mp (by omega),by simp,fun a ha b U e=>?_⟩;have F:b=val i:=by simpa using U
    subst F;exact h (hm.mpr (e ▸ ha))
   ·rintro⟨z,_,_⟩;rw[J.mpr z]
theorem v4(z:List Str):decide (((eO (fun i=>z.getD i "") z.length).length:Int)=(z.length:Int))=decide z.Nodup:=by
 have e:(AL z.length).map (fun i=>z.getD i "")=z:=by
  apply CC;intro j;rw[AC];by_cases h:j < z.length
  ·rw[C3 h,Af h];simp[h]
  ·rw[AY (by rw[BF];omega),AY (by omega)];rfl
 have:=v3 (fun i=>z.getD i "") z.length;rw[e]at this;rw[decide_eq_decide,← this];omega
inductive zO(K:Ag)(x:V)(y:V)(H:Hp)(Q:VK):Prop
 | mk (a:_) (b:_) (ys:_) (q0:x=.ref a) (q1:y=.ref b) (q2:SqT K H a []) (q3:SqT K H b ys) (q4:Q (.ref b) H):zO K x y H Q
def aIn(K:Ag):R2:=fun x y H Q=>zO K x y H Q
theorem aEG:OpR X (binaryOp .Add) (aIn X.K):=by
 intro fc s σ H x y v u Q I F z h;obtain⟨a,b,ys,rfl,rfl,ha,hb,q⟩:=h;cases F;cases z;obtain⟨its,r1,p1,_⟩:=I.tuple ha;obtain⟨its2,r2,p2,_⟩:=I.tuple hb;cases r1;obtain⟨⟨cls,dd,data,sl⟩,ho,hc,n,hd⟩:=id p1;obtain⟨⟨cls2,dd2,data2,sl2⟩,ho2,hc2,n2,hd2⟩:=id p2;simp only at hc hd hc2 hd2;subst hc hd hc2 hd2;exact Hg ⟨_,ho,rfl⟩ ⟨_,ho2,rfl⟩ Gh GG EH EA (Ex _ _)
   (tuple_addW0 a b _ _ n n2 dd dd2 sl sl2 (by simp)) ⟨ho,ho2,⟨.ref b,H,I,rfl,q⟩⟩
end
section
variable{prog:Ay}{w:AV}{A:AO}{E:Ac→Ad→Prop}{s:Ad}
end
section
variable{X:Cx}{e st:Bf}{te ts:TE}{pos p2:Pos}
end
section
variable{X:Cx}
end
mutual
inductive RdV(m:Bool)(H:Hp):V→Aj→Prop
 | non:RdV m H .non .none
 | bl (b:Bool):RdV m H (.bl b) (.bool b)
 | int (i:Int):RdV m H (.int i) (.int i)
 | str (z:Str) (h:z.length≤1000):RdV m H (.str z) (.str z)
 | lst {a:Ah} {xs:List V} {ds:List Aj} (hm:m=true) (e:H a=some (.lst xs)) (hl:xs.length≤1000) (r:cF m H xs ds):RdV m H (.ref a) (.list ds)
 | tup {a:Ah} {xs:List V} {ds:List Aj} (e:H a=some (.tup xs)) (hl:xs.length≤1000) (r:cF m H xs ds):RdV m H (.ref a) (.tuple ds)
 | dct {a:Ah} (hm:m=false) (e:H a=some (.dK [])):RdV m H (.ref a) (.dict [])
inductive cF(m:Bool)(H:Hp):List V→List Aj→Prop
 | nil:cF m H [] []
 | cons {x:V} {d:Aj} {xs:List V} {ds:List Aj} (a:RdV m H x d) (r:cF m H xs ds):cF m H (x :: xs) (d :: ds)
end
mutual
theorem RdV.keep{m:Bool}{H H':Hp}(k:∀ a o,H a=some o→(∀ J r,o≠.dK (J :: r))→H' a=some o):∀{x:V}{d:Aj},RdV m H x d→RdV m H' x d
 | _,_,.non=>.non
 | _,_,.bl b=>.bl b
 | _,_,.int i=>.int i
 | _,_,.str z h=>.str z h
 | _,_,.lst hm e F r=>.lst hm (k _ _ e (fun _ _ z=>nomatch z)) F (cF.keep k r)
 | _,_,.tup e F r=>.tup (k _ _ e (fun _ _ z=>nomatch z)) F (cF.keep k r)
 | _,_,.dct hm e=>.dct hm (k _ _ e (fun _ _ z=>nomatch z))
theorem cF.keep{m:Bool}{H H':Hp}(k:∀ a o,H a=some o→(∀ z r,o≠.dK (z :: r))→H' a=some o):∀{xs:List V}{ds:List Aj},cF m H xs ds→cF m H' xs ds
 | _,_,.nil=>.nil
 | _,_,.cons a r=>.cons (RdV.keep k a) (cF.keep k r)
end
theorem RdV.same{m:Bool}{H H':Hp}{x:V}{d:Aj}(h:RdV m H x d)(s:aY H H'):RdV m H' x d:=h.keep fun a o e _=>s a o e
theorem cF.same{m:Bool}{H H':Hp}{x:List V}{d:List Aj}(h:cF m H x d)(s:aY H H'):cF m H' x d:=h.keep fun a o e _=>s a o e
theorem cF.len{m:Bool}{H:Hp}:∀{xs:List V}{ds:List Aj},cF m H xs ds→xs.length=ds.length
 | _,_,.nil=>rfl
 | _,_,.cons _ r=>by rw[AM,AM,cF.len r]
theorem cF.app{m:Bool}{H:Hp}:∀{xs:List V}{ds:List Aj}{ys:List V}{es:List Aj},cF m H xs ds→cF m H ys es→cF m H (xs ++ ys) (ds ++ es)
 | _,_,_,_,.nil,h=>h
 | _,_,_,_,.cons a r,h=>.cons a (cF.app r h)
theorem cF.at{m:Bool}{H:Hp}:∀{xs:List V}{ds:List Aj}{i:Nat}{x:V},cF m H xs ds→xs[i]?=some x→∃ d,ds[i]?=some d∧RdV m H x d
 | _,_,0,_,.cons a r,e=>by simp at e;subst e;exact⟨_,rfl,a⟩
 | _,_,i + 1,_,.cons a r,e=>by simp at e;simpa using cF.at r e
theorem cF.drop{m:Bool}{H:Hp}:∀{xs:List V}{ds:List Aj} (i:Nat),cF m H xs ds→cF m H (xs.drop i) (ds.drop i)
 | _,_,0,h=>h
 | _,_,i + 1,.nil=>.nil
 | _,_,i + 1,.cons _ r=>cF.drop i r
theorem cF.take{m:Bool}{H:Hp}:∀{xs:List V}{ds:List Aj} (i:Nat),cF m H xs ds→cF m H (xs.take i) (ds.take i)
 | _,_,0,_=>by simpa using cF.nil
 | _,_,i + 1,.nil=>.nil
 | _,_,i + 1,.cons a r=>.cons a (cF.take i r)
section
variable{X:Cx}
mutual
theorem RdV.reads{fc:List (Ah×Obj)}{σ:St}{m:Bool}{H:Hp}{s:Ad}(I:Inv X fc σ H s):∀{x:V}{d:Aj}{v:Ac},RdV m H x d→c5 x v→∃ as,Reads s.heap v d as∧(m=true→d.hasDict=false)∧(m=false→¬ sysModules∈as)
 | _,_,_,.non,r=>by cases r;exact⟨[],.none,fun _=>rfl,fun _=>by simp⟩
 | _,_,_,.bl b,r=>by cases r;exact⟨[],.bool b,fun _=>rfl,fun _=>by simp⟩
 | _,_,_,.int i,r=>by obtain⟨t,rfl⟩:=r;exact⟨[],.int i t,fun _=>rfl,fun _=>by simp⟩
 | _,_,_,.str z _,r=>by obtain⟨t,rfl⟩:=r;exact⟨[],.str z t,fun _=>rfl,fun _=>by simp⟩
 | _,_,_,.lst hm e _ rs,r=>by
  cases r;obtain⟨_,its,n,rv,eo⟩:cP X.prog X.w H s.heap _ (.lst _):=I.hok _ _ e;obtain⟨as,ra,h1,h2⟩:=cF.reads I rs rv;exact⟨_,.list eo rfl rfl (by simpa using ra),fun _=>h1 hm,fun z=>by rw[hm]at z;cases z⟩
 | _,_,_,.tup e _ rs,r=>by
  cases r;obtain⟨_,its,rv,pt⟩:cP X.prog X.w H s.heap _ (.tup _):=I.hok _ _ e;obtain⟨as,ra,h1,h2⟩:=cF.reads I rs rv;obtain⟨o,eo,⟨hc,n,hd⟩,_⟩:=pt;exact⟨as,.tuple eo hc hd (by simpa using ra),h1,h2⟩
 | _,_,_,.dct hm e,r=>by
  cases r;obtain⟨_,hs,vs,kv,o,es,ep,eo,hx,hd,hk,hp,_⟩:cP X.prog X.w H s.heap _ (.dK []):=I.hok _ _ e;cases kv;have F:es.toList=[]:=by
   cases h:es.toList with
   | nil=>rfl
   | cons y r=>rw[h]at hp;cases hp
  refine⟨_,GQ (kvs:=[]) (as:=[]) (bs:=[]) eo hx.1 hd (by rw[F];exact .nil) (by rw[F];exact .nil),(fun z=>by rw[hm]at z;cases z),fun _=>?_⟩;intro z;simp at z;rw[z]at hs;simp at hs
theorem cF.reads{fc:List (Ah×Obj)}{σ:St}{m:Bool}{H:Hp}{s:Ad}(I:Inv X fc σ H s):∀{xs:List V}{ds:List Aj}{vs:List Ac},cF m H xs ds→cG xs vs→∃ as,ReadsAll s.heap vs ds as∧(m=true→Be ds=false)∧(m=false→¬ sysModules∈as)
 | _,_,_,.nil,.nil=>⟨[],.nil,fun _=>rfl,fun _=>by simp⟩
 | _,_,_,.cons a r,.cons J F=>by
  obtain⟨as,h1,h2,h3⟩:=RdV.reads I a J;obtain⟨bs,g1,g2,g3⟩:=cF.reads I r F;refine⟨as ++ bs,.cons h1 g1,fun z=>?_,fun z w=>?_⟩
  ·unfold Be;rw[h2 z,g2 z];rfl
  ·rcases Az.mp w with w | w
   ·exact h3 z w
   ·exact g3 z w
end
inductive nA(xs:List V)(H:Hp)(Q:VK):Prop
 | mk (a:Ah) (m:Bool) (d:Aj) (q0:xs=[.ref a]) (q1:RdV m H (.ref a) d) (q2:d.showable=true) (q3:d.depth≤20) (q4:d.shown.length≤sizeLine) (q5:Q (.str d.shown) H):nA xs H Q
def zQ:List V→Hp→VK→Prop:=fun xs H Q=>nA xs H Q
theorem pK{k:Nat}(F:cQ k X.A):eY X (.builtin "repr") zQ:=by
 intro fc s σ H xs O Q I r h;obtain⟨a,m,d,rfl,hx,hs,hd,hz,q⟩:=h;obtain⟨u,rfl,ru⟩:=gE r;cases ru;obtain⟨as,hrd,h1,h2⟩:=RdV.reads I hx rfl;refine repr_of_reads' hrd hs (fun z=>?_) F.gd (by have:=F.un;omega) (fun b o e=>e) (fun h' u tk J=>⟨.str d.shown,H,I.kept (t':=tk) J,⟨u,rfl⟩,q⟩) hz;cases m with
 | true=>rw[h1 rfl]at z;cases z
 | false=>exact h2 rfl
end
section
variable{prog:Ay}{w:AV}{A:AO}{E:Ac→Ad→Prop}{s:Ad}
theorem oF{t J:Ah}{z:Array Ac}{W Y:Ac}{lo hi:Option Int}{Q:Ac→Ad→Prop}(ht:EK s.heap t z)(U:s.heap.IsSliceOf J W Y .none)(pl:E7 W lo)(Z:E7 Y hi)
  (hw:HT.sIx z.size 0 lo=0∧HT.sIx z.size z.size hi=z.size) (h:Q (.ref t) s):wpAny (model prog w) A (getItem (.ref t) (.ref J)) Q E s:=by
 obtain⟨os,hos,hcs,hds⟩:=id U;have O:s.TypeIs (.ref J) "slice":=⟨os,hos,hcs⟩
 unfold getItem
 try with_reducible refine A1 ?_
 first | refine Aa (Ae ?_) | skip
 refine Aa (wpAny_sequenceKey ht.typeIs (by decide) ?_);refine Aa (CI (name:=Bd "__getitem__") ht.typeIs B1
  (Ck B1 ht.typeIs entry_tuple_getitem ?_ (args_tuple_getitem _ _)))
 show wpAny _ _ (Builtin.Tuple.tupleItemsOf (.ref t) >>= _) _ _ s;refine Aa (tupleItemsOf_ ht ?_);refine Aa (B0 O ?_);rw[Ib (by decide)];refine Aa (HT.sliceApplied_gen U pl Z ?_);have F:(((HT.sIx z.size 0 lo:Nat):Int) == 0 && (1:Int) == 1 && (HT.sIx z.size z.size hi - HT.sIx z.size 0 lo) == z.size)=true:=by
  rw[hw.1,hw.2];simp
 show wpAny _ _ (if (((HT.sIx z.size 0 lo:Nat):Int) == 0 && (1:Int) == 1 && (HT.sIx z.size z.size hi - HT.sIx z.size 0 lo) == z.size)=true then _ else _) _ _ s;rw[Ib F];obtain⟨⟨cls,dd,data,sl'⟩,ho,hc,n,hd⟩:=id ht;simp only at hc hd;subst hc hd
 wp_walk
 exact⟨_,rfl,Ae h⟩
end
section
variable{X:Cx}
inductive aEH(K:Ag)(x:V)(lo:Option Int)(hi:Option Int)(H:Hp)(Q:VK):Prop
 | mk (a:_) (xs:_) (q0:x=.ref a) (q1:H a=some (.tup xs)) (q2:∀ r H',aY H H'→H' r=some (.tup (dQ xs lo hi))→Q (.ref r) H'):aEH K x lo hi H Q
def aKs(K:Ag):V→Option Int→Option Int→Hp→VK→Prop:=fun x lo hi H Q=>aEH K x lo hi H Q
theorem eI:SlR X (aKs X.K):=by
 intro fc s σ H x v Y Z lo hi U Q I J F pl O h;obtain⟨a,xs,rfl,hx,q⟩:=h;by_cases hw:HT.sIx xs.length 0 lo=0∧HT.sIx xs.length xs.length hi=xs.length
 ·cases J;obtain⟨its,r,ht,hz⟩:=I.tuple (bG hx);have z:its.toArray.size=xs.length:=by rw[Ao];exact r.length.symm
  refine⟨"tuple",_,B1.lookup,ht.typeIs,oF ht F pl O (by rw[z];exact hw) ⟨.ref a,H,I,rfl,q a H (aY.refl H) ?_⟩⟩;have e:dQ xs lo hi=xs:=by
   unfold dQ;rw[hw.1,hw.2,Eu,Gx,B8]
  rw[e];exact hx
 ·exact aIf fc s σ H _ v Y Z lo hi U Q I J F pl O ⟨a,xs,rfl,bG hx,hw,fun p W=>q p _ (aK W) aH⟩
inductive aCe(x:V)(y:V)(H:Hp)(Q:VK):Prop
 | mk (a:_) (b:_) (xs:_) (ys:_) (q0:x=.ref a) (q1:y=.ref b) (q2:H a=some (.tup xs)) (q3:H b=some (.tup ys)) (q4:xs.length + ys.length≤1000000) (q5:∀ r H',aY H H'→H' r=some (.tup (xs ++ ys))→Q (.ref r) H'):aCe x y H Q
def aJy:R2:=fun x y H Q=>aCe x y H Q
theorem fV:OpR X (binaryOp .Add) aJy:=by
 intro fc s σ H x y v u Q I J z h;obtain⟨a,b,xs,ys,rfl,rfl,ha,hb,hz,q⟩:=h;by_cases F:xs=[]
 ·subst F;exact aEG fc s σ H _ _ v u Q I J z ⟨a,b,ys,rfl,rfl,bG ha,bG hb,q b H (aY.refl H) hb⟩
 ·refine aGs fc s σ H _ _ v u Q I J z ⟨a,b,xs,ys,rfl,rfl,bG ha,bG hb,F,aM hz,fun h1=>?_,fun h1 p O=>q p _ (aK O) aH⟩;subst h1;exact q a H (aY.refl H) (by rw[Cp];exact ha)
theorem gM{α:Type}(xs:List V)(n:Nat):dQ xs none (some (n:Int))=xs.take n:=by
 unfold dQ;rw[HT.sIx_none,HT.sIx_nat,Eu,Gx];by_cases h:n≤xs.length
 ·rw[Nat.min_eq_left h]
 ·rw[Nat.min_eq_right (by omega),B8,BE (by omega)]
theorem eQ{α:Type}(xs:List V)(n:Nat):dQ xs (some (n:Int)) none=xs.drop n:=by
 unfold dQ;rw[HT.sIx_none,HT.sIx_nat];by_cases h:n≤xs.length
 ·rw[Nat.min_eq_left h];exact BE (by rw[AZ];exact Ap _)
 ·rw[Nat.min_eq_right (by omega),DP (Ap _),DP (by omega),List.take_nil]
mutual
theorem RdV.flip{H:Hp}:∀{x:V}{d:Aj},RdV false H x d→d.hasDict=false→∀ m,RdV m H x d
 | _,_,.non,_,_=>.non
 | _,_,.bl b,_,_=>.bl b
 | _,_,.int i,_,_=>.int i
 | _,_,.str z h,_,_=>.str z h
 | _,_,.lst hm _ _ _,_,_=>nomatch hm
 | _,_,.tup e F r,h,m=>.tup e F (cF.flip r (by unfold EY at h;exact h) m)
 | _,_,.dct _ _,h,_=>by unfold EY at h;cases h
theorem cF.flip{H:Hp}:∀{xs:List V}{ds:List Aj},cF false H xs ds→Be ds=false→∀ m,cF m H xs ds
 | _,_,.nil,_,_=>.nil
 | _,_,.cons a r,h,m=>by
  unfold Be at h;rw[Bool.or_eq_false_iff]at h;exact .cons (RdV.flip a h.1 m) (cF.flip r h.2 m)
end
mutual
theorem RdV.keepF{H H':Hp}(k:∀ a o,H a=some o→(∀ F r,o≠.dK (F :: r))→(∀ xs,o≠.lst xs)→H' a=some o):∀{x:V}{d:Aj},RdV false H x d→RdV false H' x d
 | _,_,.non=>.non
 | _,_,.bl b=>.bl b
 | _,_,.int i=>.int i
 | _,_,.str z h=>.str z h
 | _,_,.lst hm _ _ _=>nomatch hm
 | _,_,.tup e J r=>.tup (k _ _ e (fun _ _ z=>nomatch z) (fun _ z=>nomatch z)) J (cF.keepF k r)
 | _,_,.dct hm e=>.dct hm (k _ _ e (fun _ _ z=>nomatch z) (fun _ z=>nomatch z))
theorem cF.keepF{H H':Hp}(k:∀ a o,H a=some o→(∀ z r,o≠.dK (z :: r))→(∀ xs,o≠.lst xs)→H' a=some o):∀{xs:List V}{ds:List Aj},cF false H xs ds→cF false H' xs ds
 | _,_,.nil=>.nil
 | _,_,.cons a r=>.cons (RdV.keepF k a) (cF.keepF k r)
end
end
open PySem PySem.Spec PyProof.Rows PySem.W
def hW{α:Type}(n:Nat)(P:α→Prop):Ht α→Prop
 | .ret a=>P a
 | .ask i j k=>i < n∧j < n∧∀ b,hW n P (k b)
theorem hW.bind{α β:Type}{n:Nat}{P:α→Prop}{Q:β→Prop}{f:α→Ht β}:∀{t:Ht α},hW n P t→(∀ a,P a→hW n Q (f a))→hW n Q (t.bind f)
 | .ret a,h,g=>by rw[KasT.bind.eq_1];exact g a h
 | .ask i j k,h,g=>by
  rw[KasT.bind.eq_2];exact⟨h.1,h.2.1,fun b=>hW.bind (h.2.2 b) g⟩
def Pm(n:Nat)(p:Array Nat):Prop:=p.Perm (AL n).toArray
theorem Pm.lt{n:Nat}{p:Array Nat}(h:Pm n p)(hn:0 < n)(i:Nat):p.getD i 0 < n:=by
 by_cases hi:i < p.size
 ·have hm:p[i]∈(AL n).toArray:=h.mem_iff.mp (Array.getElem_mem hi);have:p[i] < n:=by simpa using hm
  rw[Bu,Ca hi];exact this
 ·rw[Bu,Array.getElem?_eq_none (by omega)];exact hn
theorem Pm.rev{n:Nat}{p:Array Nat}(h:Pm n p)(i j:Nat):Pm n (Hc p i j):=(mirror_perm p i j _).trans h
theorem Pm.bub{n:Nat}{p:Array Nat}(h:Pm n p)(i j:Nat):Pm n (bubble p i j):=(bubble_perm p i j).trans h
section
variable{n:Nat}(hn:0 < n)
include hn
theorem tD{p:Array Nat}(h:Pm n p):∀(f x:Nat),hW n (fun _=>True) (kas_asc p f x)
 | 0,x=>by rw[kas_asc.eq_1];trivial
 | f + 1,x=>by
  rw[kas_asc.eq_2];refine⟨h.lt hn _,h.lt hn _,fun b=>?_⟩;cases b
  ·exact tD h f (x + 1)
  ·exact trivial
theorem mE:∀(f:Nat) {p:Array Nat} (x y:Nat),Pm n p→hW n (fun r=>Pm n r.1) (kas_desc f p x y)
 | 0,p,x,y,h=>by rw[kas_desc.eq_1];exact h
 | f + 1,p,x,y,h=>by
  rw[kas_desc.eq_2];refine⟨h.lt hn _,h.lt hn _,fun b=>?_⟩;cases b
  ·refine⟨h.lt hn _,h.lt hn _,fun b=>?_⟩;cases b
   ·exact mE f _ _ h
   ·exact h
  ·show hW n _ (if y > 0 then _ else _);split
   ·exact mE f _ _ (h.rev _ _)
   ·exact mE f _ _ h
theorem nP{p:Array Nat}(h:Pm n p)(k:Nat):∀(f x y:Nat),hW n (fun _=>True) (kas_place p k f x y)
 | 0,x,y=>by rw[kas_place.eq_1];trivial
 | f + 1,x,y=>by
  rw[kas_place.eq_2];split
  ·trivial
  ·refine⟨h.lt hn _,h.lt hn _,fun b=>?_⟩;cases b
   ·exact nP h k f _ _
   ·exact nP h k f _ _
theorem zS:∀(f:Nat) {p:Array Nat} (x:Nat),Pm n p→hW n (Pm n) (kas_bin f p x)
 | 0,p,x,h=>by rw[kas_bin.eq_1];exact h
 | f + 1,p,x,h=>by
  rw[kas_bin.eq_2];exact(nP hn h x _ _ _).bind fun l _=>zS f _ (h.bub _ _)
theorem tE{p:Array Nat}(h:Pm n p)(a b:Nat):hW n (fun r=>Pm n r.2) (GX a b p):=by
 unfold GX;exact(tD hn (h.rev _ _) _ _).bind fun m _=>h.rev _ _
theorem nB{p:Array Nat}(h:Pm n p)(a b:Nat):hW n (fun r=>Pm n r.2) (He a b p):=by
 unfold He;refine(mE hn _ _ _ h).bind fun r z=>?_;split
 ·exact tE hn (z.rev _ _) _ _
 ·exact tE hn z _ _
theorem aBb{p:Array Nat}(h:Pm n p)(a:Nat):hW n (fun r=>Pm n r.2) (GY a p):=by
 unfold GY;refine(tD hn h _ _).bind fun m _=>?_;split
 ·exact h
 ·split
  ·refine⟨h.lt hn _,h.lt hn _,fun b=>?_⟩;cases b
   ·exact nB hn (h.rev _ _) _ _
   ·exact h
  ·exact nB hn h _ _
theorem iR:hW n (Pm n) (CK n):=by
 unfold CK;refine(aBb hn (Array.Perm.refl _) n).bind fun r z=>?_;split
 ·exact zS hn _ _ z
 ·exact z
end
section
variable{prog:Ay}{w:AV}{A:AO}{E:Ac→Ad→Prop}{s:Ad}
theorem iT{x:Ah}{its:Array Ac}{Q:Array Ac→Ad→Prop}(z:EK s.heap x its)(h:Q its s):wpAny (model prog w) A (CY (AB x)) Q E s:=by
 obtain⟨⟨cls,dd,data,sl⟩,ho,hc,n,hd⟩:=id z;simp only at hc hd;subst hc hd;unfold CY
 wp_walk
 exact h
end
section
variable{prog:Ay}{w:AV}{A:AO}{E:Ac→Ad→Prop}{s:Ad}
inductive aEI(h:Ba)(v:Ac):Prop
 | mk (t:_) (a:_) (b:_) (c:_) (u1:_) (u2:_) (u3:_) (q0:v=.ref t) (q1:EK h t #[.int a u1,.int b u2,.str c u3]):aEI h v
def aJz(h:Ba)(v:Ac):Prop:=aEI h v
theorem lP{α β:Type}{f:α→Sem β}{R:α→β→Prop}:∀(l:List α) {Q:List β→Ad→Prop},(∀ v∈l,∃ r,R v r∧∀ U:β→Ad→Prop,U r s→wpAny (model prog w) A (f v) U E s)→(∀ rs:List β,rs.length=l.length→(∀ r∈rs,∃ v∈l,R v r)→Q rs s)→wpAny (model prog w) A (List.mapM f l) Q E s
 | [],Q,_,q=>by
  rw[List.mapM_nil];exact Ae (q [] rfl fun r F=>by simp at F)
 | a :: l,Q,h,q=>by
  rw[List.mapM_cons];obtain⟨r,F,hw⟩:=h a AF;refine Aa (hw _ (Aa (lP l (fun v J=>h v (AK _ J)) fun rs W O=>Ae (q (r :: rs) (by rw[AM,AM,W]) fun z hz=>?_))));rcases Al.mp hz with rfl | hz
  ·exact⟨a,AF,F⟩
  ·obtain⟨v,J,hR⟩:=O z hz;exact⟨v,AK _ J,hR⟩
theorem aJA{ks:List Ac}{Q:D5→Ad→Prop}(hk:∀ v∈ks,aJz s.heap v)(h:∀ b,Q (tuples' b) s):wpAny (model prog w) A (keyKind' ks.toArray) Q E s:=by
 rw[keyKind'_eq,Du];refine Aa ?_;rw[← bind_pure_comp];refine Aa (lP (R:=fun _ r=>∃ a u,r=some (Ci a u)) ks (fun v J=>?_) fun rs hl F=>Ae ?_)
 ·obtain⟨t,a,b,c,u1,u2,u3,rfl,ht⟩:=hk v J;refine⟨some (.int a u1),⟨a,u1,rfl⟩,fun W q=>?_⟩;rw[kas_first_eq];refine Aa (B0 ht.typeIs ?_);refine An (by decide) ?_;refine Aa (iT ht ?_);exact Ae q
 ·have z:(rs.toArray.all fun x=>x.isSome)=true:=by
   rw[List.all_toArray,Bg];intro r Y;obtain⟨v,_,a,u,rfl⟩:=F r Y;rfl
  refine BJ (by rw[z];rfl) ?_;refine Aa (EF ?_);rw[oneTypeOnly'_eq,Du]
  iterate 2 refine Aa ?_
  rw[← bind_pure_comp];refine Aa (lP (R:=fun _ r=>r=AJ "int") _ (fun v J=>?_) fun ts ac Z=>Ae ?_)
  ·have O:some v∈rs:=by simpa using J
   obtain⟨_,_,a,u,e⟩:=F _ O;cases e;exact⟨_,rfl,fun W q=>B0 (typeIs_int s a u) q⟩
  ·cases U:ts.toArray[0]? with
   | none=>exact Ae (Ae (h _))
   | some t=>exact Ae (Ae (h _))
end
section
variable{prog:Ay}{w:AV}{A:AO}{E:Ac→Ad→Prop}{s:Ad}
theorem aJB{a kS:Ah}{st:Fw}{z:Array Ac}{e e1:Nat}{P:Hi→Ad→Prop}(ha:s.heap.get? a=some (seqObj "list" #[] e1))(U:s.heap.get? kS=some (seqObj "list" z e))(J:a≠kS)(O:z.size≤sizeLine)(hz:(arrOf st).size≤sizeLine)(W:failedOf st=none)
  (h:P (Fin.done (GE BH)) { s with heap:=(s.heap.update kS (Bp fun _=>#[])).update a (Bp fun _=>(arrOf st).map (·.2)) }):wpAny (model prog w) A (ksk_tail a false e1 (.ref kS) st) P E s:=by
 unfold ksk_tail;refine Aa (DM U rfl ?_ O (Bo _));refine Aa (wpAny_letGo ?_);have F:(s.heap.update kS (Bp fun _=>#[])).get? a=some (seqObj "list" #[] e1):=by
  rw[BM _ _ _ _ J];exact ha
 refine Aa (Gm F rfl ?_);refine Aa (DM F rfl ?_ (Bo _) (by show((arrOf st).map (·.2)).size≤_;rw[Array.size_map];omega))
 rw[W];refine An (by simp) ?_;exact Ae h
end
section
variable{X:Cx}{fc:List (Ah×Obj)}{σ:St}
inductive aEJ(H:Hp)(v:Ac):Prop
 | mk (t:_) (a:_) (b:_) (c:_) (q0:v=.ref t) (q1:H t=some (.tup [.int a,.int b,.str c])):aEJ H v
def aKS(H:Hp)(v:Ac):Prop:=aEJ H v
end
section
variable{X:Cx}{fc:List (Ah×Obj)}{σ:St}{H:Hp}{s:Ad}
end
section
variable{X:Cx}{e:Bf}{ta:TA}
end
open PySem.SeqAt
open PySem.AutoSeq1 (wpAny_loadPart')
open PySem.MeetsSeq PySem.MeetsSeq2 PySem.MeetsSeq3
inductive aHB(X:Cx)(k:Nat)(ps:List Str)(f:Ah)(sp:Sp):Prop
 | mk (fd:AH) (q0:b8 X.prog X.w X.K X.mg X.base CX0 k f fd ps sp) (q1:Au X.K (.ref f)=true) (q2:cZ X.K fd ps []):aHB X k ps f sp
def FnV(X:Cx)(k:Nat)(ps:List Str)(f:Ah)(sp:Sp):Prop:=aHB X k ps f sp
def aIo(X:Cx)(k:Nat)(ps:List Str)(tv:TE)(t:TA):TE:=fun σ H Q=>tv σ H fun v H1=>∃(f:Ah) (sp:Sp),v=.ref f∧FnV X k ps f sp∧t σ H1 fun vs H2=>sp vs H2 Q E0
theorem aEK{X:Cx}{k:Nat}{ps:List Str}{x:Str}{p pos:Pos}{e:Bf}{es:List Bf}{tv:TE}{t:TA}(hv:PE X (.Name x p) tv)(W:cQ k X.A)(ha:PA X (e :: es) t)
  (he:starEach (e :: es) X.env=(false,eval e X.env) :: starEach es X.env:=by rfl) (z:(backTo pos (starEach es X.env)).any (·.1)=false:=by rfl):
  PE X (.Call (.Name x p) (e :: es) [] pos) (aIo X k ps tv t):=by
 constructor;intro fc s σ H Q I h;refine CO (thn (hv fc s σ H _ I h) fun u s1 ⟨y,H1,J,Y,f,sp,U,⟨fd,F,Z,hb⟩,h2⟩=>?_);subst U;cases Y;refine Ef (h₀:=X.base) J.ok.mod.kin Z (thn (ha pos fc s1 σ H1 _ J h2) fun us s2 ⟨vs,H2,O,r,q⟩=>⟨O.kIn,?_⟩) he z;exact aEi F W hb .nil fQ O r (by rw[Cp];exact q)
def aJC(fg:List (Key×V))(ty:TE):TE:=fun σ H Q=>ty σ H fun y H2=>∃ k v,y=kV k∧fJ fg k=some v∧Q v H2
theorem aCf{X:Cx}{i:Bf}{x:Str}{ty:TE}{a:Ah}{vs:List (Key×Ac)}{fg:List (Key×V)}{p pos:Pos}(hd:∀ h:Ba,X.K.In h→h.DictOf (c9 X.prog X.w) a vs)(rel:KV fg vs)(hg:Gl X x)(hm:X.mg x=some (.ref a))(hi:PE X i ty)(U:aIi i)(z:(x == ("__debug__":Str))=false:=by decide):
  PE X (.Subscript (.Name x p) i pos) (aJC fg ty):=by
 constructor;intro fc s σ H Q I h;have ho:PE X (.Name x p) (tC (.ref a)):=cE hg hm rfl z;refine aCb PySem.F.slot_dict_getitem.lookup U (thn (ho fc s σ H (fun v H1=>v=.ref a∧ty σ H1 fun y H2=>∃ k v,y=kV k∧fJ fg k=some v∧Q v H2) I ⟨rfl,h⟩) fun u s1 ⟨x,H1,Z,rx,ex,q1⟩=>thn (hi fc s1 σ H1 _ Z q1) fun iv s2 ⟨y,H2,J,Y,k,v,W,l,O⟩=>?_);subst ex W;obtain rfl:u=AB a:=rx;have dd:=hd s2.heap J.kIn;refine⟨?_,?_⟩
 ·obtain⟨o,es,ep,e,hx,_⟩:=dd;exact⟨o,e,hx.1⟩
 ·obtain⟨w',hw,rw'⟩:=nX.some_of (v:=v) (o:=valueAt vs k) (by rw[← l];exact rel.val k);exact wpAny_getItem_of (rY Y) dd.mapOf hw ⟨v,H2,J.tok _,rw',O⟩
theorem aDp{X:Cx}{a:Ah}{vs:List (Key×Ac)}{fg:List (Key×V)}(hd:∀ h:Ba,X.K.In h→h.DictOf (c9 X.prog X.w) a vs)(rel:KV fg vs)(hz:(a == sysModules)=false):OpR X (compareOp .NotIn) (fun x y H Q=>∃ k,x=kV k∧y=.ref a∧Q (.bl (!(fJ fg k).isSome)) H):=by
 intro fc s σ H x y v u Q I F z h;obtain⟨k,rfl,rfl,q⟩:=h;cases z;refine wpAny_notIn_of (rY F) hz (hd _ I.kIn).mapOf ?_;rw[← (rel.val k).isSome_eq];exact⟨.bl _,H,I.tok _,rfl,q⟩
section
variable{X:Cx}{fc:List (Ah×Obj)}{σ:St}{H:Hp}{s:Ad}{A:AO}{E:Ac→Ad→Prop}{Q:Ac→Ad→Prop}{b:Bool}
theorem aBc{x:V}{u t:Ac}{q:Ah}{n1 Z:String}(I:Inv X fc σ H s)(U:c5 x u)(ty:iD X.K H x t)(hq:H q=some (.tup [.ty n1,.ty Z]))(e:CZ X.K t [.type n1,.type Z]=some b)(h:∀ tk,Q (.bool b) { s with toks:=tk }):
  wpAny (model X.prog X.w) A (call (.builtin "isinstance") [u,.ref q]) Q E s:=by
 obtain⟨_,its,Y,hT⟩:cP X.prog X.w H s.heap q (.tup [.ty n1,.ty Z]):=I.hok _ _ hq;obtain⟨⟨cls,dd,data,sl⟩,ho,hc,n,hd⟩:=hT.tup;simp only at hc hd;subst hc hd;have hi:its=[.type n1,.type Z]:=by
  cases Y with
  | cons r1 Y=>
   cases Y with
   | cons r2 Y=>
    cases Y;cases r1;cases r2;rfl
 subst hi;cases ty with
 | non=>cases(show u=BH from U);exact Cd PySem.W.kitx_none I.kIn Cg ho e (fun z=>nomatch z) h
 | bl y=>cases(show u=Fk y from U);exact Cd PySem.W.kitx_bool I.kIn Cg ho e (fun z=>nomatch z) h
 | int i=>obtain⟨t,q⟩:=(show∃ t,u=Ci i t from U);cases q;exact Cd PySem.W.kitx_int I.kIn Cg ho e (fun z=>nomatch z) h
 | str y=>obtain⟨t,q⟩:=(show∃ t,u=Bw y t from U);cases q;exact Cd PySem.W.kitx_str I.kIn Cg ho e (fun z=>nomatch z) h
 | flt y=>obtain⟨t,q⟩:=(show∃ t,u=Gw y t from U);cases q;exact Cd PySem.W.kitx_float I.kIn Cg ho e (fun z=>nomatch z) h
 | @lst a xs F=>
  cases(show u=AB a from U);obtain⟨_,_,n,_,h1⟩:=(show cP X.prog X.w H s.heap a (.lst xs) from I.hok a _ F)
  exact Cd Er I.kIn ⟨_,h1,rfl⟩ ho e (fun z=>nomatch z) h
 | @frz a ob xs F=>
  cases(show u=AB a from U);obtain⟨_,_,_,n,_,h1⟩:=(show cP X.prog X.w H s.heap a (.frz ob (.lst xs)) from I.hok a _ F)
  exact Cd Er I.kIn ⟨_,h1,rfl⟩ ho e (fun z=>nomatch z) h
 | @tup a xs F=>
  cases(show u=AB a from U);obtain⟨_,_,_,p⟩:=(show cP X.prog X.w H s.heap a (.tup xs) from I.hok a _ F)
  obtain⟨o,h1,h2,_⟩:=p;exact Cd PySem.W.kitx_tuple I.kIn ⟨o,h1,h2.1⟩ ho e (fun z=>nomatch z) h
 | @dK a fg F=>
  cases(show u=AB a from U);obtain⟨_,_,vs,_,p⟩:=(show cP X.prog X.w H s.heap a (.dK fg) from I.hok a _ F)
  obtain⟨o,es,ep,h1,h2,_⟩:=p;exact Cd Es I.kIn ⟨o,h1,h2.1⟩ ho e (fun z=>nomatch z) h
 | @dT a fg F=>
  cases(show u=AB a from U);obtain⟨_,_,xs,_,o,es,ep,h1,h2,_⟩:=(show cP X.prog X.w H s.heap a (.dT fg) from I.hok a _ F)
  exact Cd Es I.kIn ⟨o,h1,h2.1⟩ ho e (fun z=>nomatch z) h
 | @ins a C dx fs F cl ha hn ac hm=>
  cases(show u=AB a from U);obtain⟨mA,O,_⟩:=aB4 I.hok F;obtain⟨od,J,_⟩:=O.look;exact Cd (PySem.W.kitx_own (cl.get _) cl.hd ha hn ac hm) I.kIn J ho e (fun z=>nomatch z) h
inductive jZ(K:Ag)(xs:List V)(H:Hp)(Q:VK):Prop
 | mk (x:_) (q:_) (n1:_) (n2:_) (t:_) (b:_) (q0:xs=[x,.ref q]) (q1:H q=some (.tup [.ty n1,.ty n2])) (q2:iD K H x t) (q3:CZ K t [.type n1,.type n2]=some b) (q4:Q (.bl b) H):jZ K xs H Q
def tF(K:Ag):List V→Hp→VK→Prop:=fun xs H Q=>jZ K xs H Q
theorem gN:eY X (.builtin "isinstance") (tF X.K):=by
 intro fc s σ H xs z Q I r h;obtain⟨x,q0,n1,n2,t,b,rfl,hq,ty,e,q⟩:=h;obtain⟨u,w',rfl,r1,r2⟩:=aEg r;cases r2;exact aBc I r1 ty hq e fun tk=>⟨.bl b,H,I.tok _,rfl,q⟩
end
theorem aIp{X:Cx}{K:Ag}{o e:Bf}{es:List Bf}{to:TE}{t:TA}{name:Str}{ig gx:Pos}{T id:String}{r:V→List V→Hp→VK→Prop}(Z:PlainAttrs T)(slot:Slot T name id)(U:typeOf (.builtin id)=pure (.type "method_descriptor"))(hm:MtR X id r)(ho:PE X o to)(ha:PA X (e :: es) t)(W:X.K=K:=by rfl)
  (F:attributeBase o name X.env (eval o X.env)=eval o X.env:=by rfl)
  (O:((backTo gx (starEach (e :: es) X.env)).all (fun x=>!x.1) && (backToKw gx (keywordEach [] X.env)).all (fun x=>x.1.isSome)
   && decide ((e :: es).length + ([]:List EC).length + (if ([]:List EC).isEmpty then 0 else 1) < 30))=true:=by rfl)
  (J:(ig.endLine == gx.line)=true:=by rfl) (Y:starEach (e :: es) X.env=(false,eval e X.env) :: starEach es X.env:=by rfl) (z:(backTo gx (starEach es X.env)).any (·.1)=false:=by rfl):
  PE X (.Call (.Attribute o name ig) (e :: es) [] gx) (tBM K T r to t):=by
 subst W;exact lM Z slot U hm ho ha F O J Y z
theorem nQ:∀{z:List Str}{us:List Ac},cG (z.map V.str) us→Gp us z
 | [],_,r=>by rw[Dt]at r;cases r;exact .nil
 | s :: z,_,r=>by
  rw[A3]at r;cases r with
  | cons F J=>
   obtain⟨t,e⟩:=F;subst e;exact .cons s t (nQ J)
theorem iN:∀{us:List Ac}{ns:List Str},Gp us ns→cG (ns.map V.str) us
 | _,_,.nil=>.nil
 | _,_,.cons i t r=>.cons ⟨t,rfl⟩ (iN r)
inductive j6(K:Ag)(xs:List V)(H:Hp)(Q:VK):Prop
 | mk (p:Ah) (ns:List Str) (q0:xs=[.ref p]) (q1:SqL K H p (ns.map V.str)) (q2:ns.length < 64) (q3:∀(l:Ah) (ms:List Str),H l=none→ms.Perm ns→sortedS ms=true→Q (.ref l) (upd H l (.lst (ms.map V.str)))):j6 K xs H Q
def tG(K:Ag):List V→Hp→VK→Prop:=fun xs H Q=>j6 K xs H Q
theorem xH{X:Cx}:eY X (.builtin "sorted") (tG X.K):=by
 intro fc s σ H xs us Q I r h;obtain⟨p,ns,rfl,hx,h64,q⟩:=h;obtain⟨u,rfl,ru⟩:=gE r;cases ru;obtain⟨its,rv,pl,_⟩:=I.list hx;have hi:Gp its ns:=nQ rv;have z:=rv.length;rw[Ab]at z;refine sorted_strs pl.isList hi (by omega) fun out F Z J O=>?_;have W:∀ b o,s.heap.get? b=some o→(sortedAll s.heap its out).get? b=some o:=fun b o e=>sortedAll_old e;obtain⟨e,he⟩:=sortedAll_at s.heap its out;have hn:H (s.heap.objs.size + 1)=none:=I.hok.fresh (CU _);have U:=J.length_eq;have Y:cG (F.map V.str) out.toList:=iN Z;refine⟨.ref (s.heap.objs.size + 1),_,I.laid (t':=s.toks) (o:=.lst (F.map V.str)) W (CU _) ⟨aM (by rw[Ab];omega),out.toList,e,Y,by rw[he] <;> rfl⟩,rfl,q _ F hn J O⟩
def tH(w:AV)(es:Array (Int×Ac))(t:C9):Prop:=t.led=!w.params.followText "set-order"∧(es.size=0∨t.plain=false)
def jR(prog:Ay)(w:AV)(h:Ba)(a:Ah)(S:Str→Bool)(n:Nat):Prop:=
 ∃ o es ep t,h.get? a=some o∧o.ExactSet∧o.data=.set es ep t∧ElemsOf (Bl prog w) es.toList∧(∀ k,S k=true↔∃ e∈es.toList,(Bl prog w).is k e.2=true)
  ∧es.size < scanBound∧t.fits es.size=true∧es.size=n∧tH w es t
theorem jR.at{prog:Ay}{w:AV}{h h':Ba}{a:Ah}{S:Str→Bool}{n:Nat}(x:jR prog w h a S n)(e:∀ o,h.get? a=some o→h'.get? a=some o):jR prog w h' a S n:=by
 obtain⟨o,es,ep,t,h1,r⟩:=x;exact⟨o,es,ep,t,e o h1,r⟩
theorem jR.congr{prog:Ay}{w:AV}{h:Ba}{a:Ah}{S S':Str→Bool}{n z:Nat}(x:jR prog w h a S n)(e:∀ k,S k=S' k)(F:n=z):jR prog w h a S' z:=by
 have J:S=S':=funext e;subst J F;exact x
theorem vD(t:C9)(n:Nat):(t.orStandIn n).led=t.led:=by
 unfold SetTable.orStandIn;split <;> rfl
theorem aBd(t:C9)(es:Array (Int×Ac))(h:Int)(x:Ac):(layNew t es h x).2.1.led=t.led:=by
 unfold layNew;split
 ·exact vD _ _
 ·rfl
theorem vE(t:C9)(es:Array (Int×Ac))(n:Nat)(F:t.plain=false):(relayAll t es n).2.1.led=t.led∧(relayAll t es n).2.1.plain=false:=by
 unfold relayAll;split
 ·next t' ord e=>
  dsimp only;split
  ·dsimp only;unfold SetTable.relaid SetTable.laid at e;cases z:SetTable.layClean (SetTable.sizeAbove n - 1) (es.map (·.1))with
   | none=>rw[z]at e;cases e
   | some J=>
    rw[z]at e;cases e;exact⟨rfl,F⟩
  ·exact⟨rfl,rfl⟩
 ·exact⟨rfl,rfl⟩
theorem jR.stored{prog:Ay}{w:AV}{h:Ba}{a:Ah}{o:Obj}{es:Array (Int×Ac)}{ep:Nat}{t:C9}(Z:h.get? a=some o)(O:o.ExactSet)(hd:o.data=.set es ep t)
  {z:Array (Int×Ac)} {t':C9} {S':Str→Bool} (J:ElemsOf (Bl prog w) z.toList) (F:∀ k,S' k=true↔∃ e∈z.toList,(Bl prog w).is k e.2=true) (W:z.size < scanBound) (U:t'.fits z.size=true) (Y:tH w z t'):
  (h.update a (Hj z t')).get? a=some { o with data:=.set z (ep + 1) t' }∧jR prog w (h.update a (Hj z t')) a S' z.size:=by
 obtain⟨hg,_⟩:=SetOf_store (knd:=Bl prog w) (S':=S') Z O hd J F W U;exact⟨hg,_,z,ep + 1,t',hg,O,rfl,J,F,W,U,rfl,Y⟩
theorem aJD{prog:Ay}{w:AV}{A:AO}{E:Ac→Ad→Prop}{s:Ad}{a:Ah}{S:Str→Bool}{n:Nat}{k:Str}{tk:Tok}{Q:Bool→Ad→Prop}(hS:jR prog w s.heap a S n)(W:n + 1 < scanBound)
  (h:∀ h',DQ a s.heap h'→jR prog w h' a (fun k'=>S k' || decide (k'=k)) (if S k then n else n + 1)→Q (!S k) { s with heap:=h' }):
  wpAny (model prog w) A (setAddHashed a (.str k tk) ((Bl prog w).hash k)) Q E s:=by
 have Y:=Gu prog w k tk;obtain⟨o,es,ep,t,ho,hex,hd,hel,hmem,hb,hf,hn,hTab⟩:=hS;have aA:es.size + 1 < scanBound:=by rw[hn];exact W
 unfold setAddHashed setAddHashedIn;refine A1 (Aa (Dr ho hd hf ?_));dsimp only;rw[byScan_of (x:=Bw k tk) rfl hb hel,Ib rfl];unfold setAddByScan;refine Aa (Aa (EF (Aa (wpAny_setScan_of Y ho hd hf hel ?_))));cases hr:List.findIdx? (fun e=>(Bl prog w).is k e.2) es.toList with
 | some j=>
  dsimp only;obtain⟨hj,hpj,_⟩:=List.findIdx?_eq_some_iff_getElem.mp hr;have aa:S k=true:=(hmem k).mpr ⟨es.toList[j],BO hj,hpj⟩;refine Ae (Ae ?_);have q:=h s.heap (Heap.SameBut.refl a s.heap) ⟨o,es,ep,t,ho,hex,hd,hel,fun z=>by
   rw[Bool.or_eq_true,decide_eq_true_eq,← hmem z];exact⟨fun hz=>hz.elim id (fun e=>e ▸ aa),.inl⟩,hb,hf,by rw[aa];exact hn,hTab⟩
  rw[aa]at q;exact q
 | none=>
  dsimp only;have aa:S k=false:=by
   cases hz:S k with
   | false=>rfl
   | true=>
    obtain⟨e,he,hp⟩:=(hmem k).mp hz;have z:=List.findIdx?_eq_none_iff.mp hr e he;rw[hp]at z;exact Bool.noConfusion z
  have F:=layNew_perm t es ((Bl prog w).hash k) (Bw k tk);have J:=layNew_fits t es ((Bl prog w).hash k) (Bw k tk);have O:=aBd t es ((Bl prog w).hash k) (Bw k tk);generalize hL:layNew t es ((Bl prog w).hash k) (Bw k tk)=L at F J O ⊢;obtain⟨es1,t1,wasD,gave⟩:=L;dsimp only at F J O ⊢;rw[Array.toList_push]at F;have ac:ElemsOf (Bl prog w) es1.toList:=(hel.push Y rfl).perm F;have Z:=mem_push_iff Y hmem F;have af:es1.size=n + 1:=by rw[← BL,F.length_eq,Ak,BL,hn];rfl
  have ak:es1.size < scanBound:=by rw[af];exact W
  have gw:∀(b:Bool) {s₁:Ad} {Q':Unit→Ad→Prop},Q' () s₁→wpAny (model prog w) A (match b with | true=>rule "set.scan.the-table-gave-way" | false=>pure ()) Q' E s₁:=fun b s₁ Q' hq=>by cases b <;> first | exact Ae hq | exact EF hq
  have ae:∀ h',DQ a s.heap h'→jR prog w h' a (fun k'=>S k' || decide (k'=k)) es1.size→Q true { s with heap:=h' }:=fun h' x1 x2=>by
   have q:=h h' x1;rw[aa]at q;rw[af]at x2;exact q x2
  have ah:∀ U:C9,U.led=t.led→U.plain=false→U.fits es1.size=true→
    wpAny (model prog w) A (do
     storeSet a es1 U
     if (!wasD && U.tooFull)=true then do
       (match (relayAll U es1 (Dc es1.size)).2.2 with | true=>rule "set.scan.the-table-gave-way" | false=>pure ())
       storeSet a (relayAll U es1 (Dc es1.size)).1 (relayAll U es1 (Dc es1.size)).2.1
       pure (some true)
      else pure (some true)) (fun r s'=>wpAny (model prog w) A (match r with | some added=>pure added | none=>setAddHashedIn a (.str k tk) ((Bl prog w).hash k) 99999) Q E s') E s:=by
   intro U l2 p2 f2;refine Aa (wpAny_storeSet_of ho hd ?_ (ES ak));obtain⟨ho1,hS1⟩:=jR.stored (prog:=prog) (w:=w) ho hex hd ac Z ak f2 ⟨by rw[l2];exact hTab.1,.inr p2⟩;have am:=Cj s.heap a (Hj es1 U);split
   ·have hp:=relayAll_perm U es1 (Dc es1.size);have aj:=relayAll_fits U es1 (Dc es1.size);obtain⟨rl,rp⟩:=vE U es1 (Dc es1.size) p2;generalize relayAll U es1 (Dc es1.size)=R at hp aj rl rp ⊢;obtain⟨es2,t3,g2⟩:=R;dsimp only at hp aj rl rp ⊢;have ao:ElemsOf (Bl prog w) es2.toList:=ac.perm hp;have ai:∀ z,(S z || decide (z=k))=true↔∃ e∈es2.toList,(Bl prog w).is z e.2=true:=fun z=>(Z z).trans ⟨fun⟨e,he,q⟩=>⟨e,hp.mem_iff.mpr he,q⟩,fun⟨e,he,q⟩=>⟨e,hp.mem_iff.mp he,q⟩⟩;have ag:es2.size=es1.size:=by rw[← BL,hp.length_eq,BL]
    have an:es2.size < scanBound:=by rw[ag];exact ak
    refine Aa (gw _ (Aa (wpAny_storeSet_of ho1 rfl ?_ (ES an))));obtain⟨_,hS2⟩:=jR.stored (prog:=prog) (w:=w) ho1 hex rfl ao ai an aj ⟨by rw[rl,l2];exact hTab.1,.inr rp⟩;rw[ag]at hS2;exact Ae (Ae (ae _ (am.trans (Cj _ a _)) hS2))
   ·exact Ae (Ae (ae _ am hS1))
  refine Aa (gw _ ?_);split
  ·next hpl=>
   rw[hashByValue_scannable 8 (x:=Bw k tk) rfl];refine Aa (Ae ?_);exact ah { t1 with plain:=false } O rfl (SetTable.fits_plain_off J)
  ·next hpl=>
   refine Aa (Ae ?_);exact ah t1 O (by simpa using hpl) J
theorem aBe{h:Ba}{a:Ah}{z:Array Ac}(x:h.IsTuple a z)(o:Obj):(h.push o).IsTuple a z:=by
 obtain⟨u,hu,r⟩:=x;exact⟨u,Ai o hu,r⟩
theorem aEL{prog:Ay}{w:AV}{A:AO}{R:Hh→Ad→Prop}{I:Ah}{fp wr:List Ah}{G:Array E2→Array E2→Prop}{n:Nat}{P:Nat→Ac→Prop}{St:Nat→Ad→Prop}
  (W:WalksS prog w A.in1 I fp wr G n P St) (S:Ah) (Z:¬ S∈fp) (val:Nat→Str) (ag:∀(i:Nat) (v:Ac),P i v→∃ t,v=Bw (val i) t) (U:n + 1 < scanBound):
  ∀(k i:Nat) (s:Ad),n - i=k→i≤n→St i s→jR prog w s.heap S (fun O=>(eO val i).any fun x=>x == O) (eO val i).length→
   (∀ s':Ad,Moved (S :: wr) G s s'→jR prog w s'.heap S (fun O=>(eO val n).any fun x=>x == O) (eO val n).length→R (GZ (GE BH)) s')→
   codeAny (model prog w) A (Code.builtin "set.update.loop" { pos:=[AB S,AB I] }) R s:=by
 have ah:¬ S∈wr:=fun h=>Z (W.sub S h);have z:∀ b,b∈wr→b∈S :: wr:=fun b U=>AK S U;intro k
 induction k with
 | zero=>
  intro i s hk hi J hS hR;have ai:i=n:=by omega
  subst ai;refine BB Cs ?_;rw[BC BD];refine Aa (W.done s _ _ J fun s' hm=>?_);refine Ae (hR s' (F7 hm z) ?_);exact hS.at fun o ho=>hm.heap S o ah ho
 | succ k ih=>
  intro i s hk hi J hS hR;have ae:i < n:=by omega
  refine BB Cs ?_;rw[BC BD];refine Aa (W.item i s _ _ ae J fun v s' hP Y hm=>?_);obtain⟨t,rfl⟩:=ag i v hP;have ak:jR prog w s'.heap S (fun O=>(eO val i).any fun x=>x == O) (eO val i).length:=by
   exact hS.at fun o ho=>hm.heap S o ah ho
  have F:(eO val i).length + 1 < scanBound:=by
   have:=mC val i;omega
  refine Aa (A1 (A1 (Aa ((Bl prog w).pyHash (Gu prog w (val i) t) ?_))));refine aJD ak F fun h' ad am=>?_;refine Ae ⟨Dk BD _,?_⟩;refine ih (i + 1) _ (by omega) ae (W.frame (i + 1) s' h' _ Y (CU s'.toks) fun b U o e=>?_) ?_ fun aj af ac=>?_
  ·rw[ad.right b fun h=>Z (h ▸ U)];exact e
  ·refine am.congr (fun O=>?_) ?_
   ·show _=((i6 _ _).any _)
    rw[v0]
   ·show _=(i6 _ _).length;rw[iM]
  ·refine hR aj (Moved.trans W.gtrans (Moved.then_heap (F7 hm z) (CU s'.toks) fun b o U e=>?_) af) ac;rw[ad.right b fun h=>U (h ▸ AF)];exact e
theorem aHC{prog:Ay}{w:AV}{A:AO}{E:Ac→Ad→Prop}{s:Ad}(a:Ac){Q₁:Ac→Ad→Prop}
  (h:Q₁ (.ref s.heap.objs.size) { s with heap:=s.heap.push { cls:=.type "set",dict:=none,data:=.set #[] 0 (.fresh 0 0 (!w.params.followText "set-order")) } }):
  codeAny (model prog w) A (.call (.builtin "set.__new__") ⟨[.type "set",a],[]⟩) (wants Q₁ E) s:=by
 apply Fe;show wpAny (model prog w) A.in1 (checkBuiltinCall "set.__new__" ⟨[.type "set",a],[]⟩ >>= fun _=>again (.builtin "set.__new__" ⟨[.type "set",a],[]⟩)) _ _ s;apply Aa;refine Cr (F.newCall_set_1 a) (Ae ⟨Dk F.plain_set_new _,?_⟩);apply BB F.entry_set_new;rw[BC F.plain_set_new];unfold Builtin.«set.__new__» Builtin.Frozenset.newClass;have z:=sub_set_self;obtain⟨hp,gs,dr,tk,os⟩:=s;dsimp only
 wp_walk
 apply DD;apply Ae;dsimp only;simp only[newObj];apply Aa;apply wpAny_alloc;exact Ae (Ae h)
theorem zU{prog:Ay}{w:AV}{A:AO}{E:Ac→Ad→Prop}{s:Ad}{l:Ah}{z:Array Ac}{val:Nat→Str}{Q:Ac→Ad→Prop}(hh:A.handled=none)(hl:s.heap.IsList l z)
  (hi:∀(i:Nat) (v:Ac),z[i]?=some v→∃ t,v=Bw (val i) t) (hb:z.size + 1 < scanBound)
  (h:∀(h':Ba) (tk:Nat),jR prog w h' s.heap.objs.size (fun k'=>(eO val z.size).any fun x=>x == k') (eO val z.size).length→
   (∀(b:Nat) (o:Obj),b < s.heap.objs.size→s.heap.get? b=some o→h'.get? b=some o)→Q (AB s.heap.objs.size) { s with heap:=h',toks:=tk }):
  wpAny (model prog w) A (call (AJ "set") [AB l]) Q E s:=by
 obtain⟨c,tl,hmro⟩:=BQ.mro;have W:=BQ.made;have aa:=BQ.sub;have ao:=F8 (AB l);refine Cy (Fe (Ae ⟨Ew _ (by decide),BB FS ?_⟩));rw[Fi (Fj "set" [AB l] []) rfl];unfold Builtin.«type.__call__»;dsimp only
 iterate 2 refine An (by first | rfl | decide) ?_
 refine Aa (Cr ao ?_);refine Aa (Cr hmro ?_);refine An (by first | rfl | decide) ?_;refine Aa (Cr W ?_);refine Aa (Ae ?_);refine Aa (A1 (Cy (CB (aHC (Q₁:=fun obj s₁=>∃ led,led=(!w.params.followText "set-order")∧obj=AB s.heap.objs.size∧s₁={ s with heap:=s.heap.push { cls:=AJ "set",data:=BZ #[] 0 (A8 0 0 led) } }) (E:=E) (AB l) ⟨_,rfl,rfl,rfl⟩) fun r s₁ J=>?_)));cases r with
 | error e=>exact J
 | ok fl=>
  cases fl with
  | next=>exact J.elim
  | brk=>exact J.elim
  | cont=>exact J.elim
  | ret v=>
   obtain⟨led,hled,rfl,rfl⟩:=J;have hS:=Aq s.heap (o:={ cls:=AJ "set",data:=BZ #[] 0 (A8 0 0 led) }) rfl;have hT:Dy { s with heap:=s.heap.push { cls:=AJ "set",data:=BZ #[] 0 (A8 0 0 led) } } (AB s.heap.objs.size) "set":=⟨_,hS,rfl⟩
   have ai:=BQ.init.lookup;have an:=BQ.init.bind (AB s.heap.objs.size);obtain⟨ol,hol,hcl,nl,hdl⟩:=hl;have O:=Ai { cls:=AJ "set",data:=BZ #[] 0 (A8 0 0 led) } hol;have Z:Heap.IsList (s.heap.push { cls:=AJ "set",data:=BZ #[] 0 (A8 0 0 led) }) l z:=⟨ol,O,hcl,nl,hdl⟩
   refine Aa (BS hT aa ?_);refine An (by first | rfl | decide) ?_;refine Aa (A1 ?_);unfold callSpecial?;refine Aa (DO hT ai ?_);dsimp only;refine A1 ?_;refine Aa (Cr an ?_);refine Aa (Cy (CB (DC BQ.init.plain F9 (R:=fun r s'=>match r with | .ok (.ret v)=>v=.none∧Q (.ref s.heap.objs.size) s' | _=>False) (Gi hT ?_)) fun r s₁ J=>?_))
   ·unfold Builtin.«set.__init__»;refine Aa (BJ (by first | rfl | decide) (Ae ?_));refine Aa (Aa (Aa (B0 hT (An (by first | rfl | decide) (Ae ?_)))));refine Ae ?_;refine Aa ?_;unfold checkCount
    iterate 2 refine An (by first | rfl | decide) ?_
    refine An (by first | rfl | decide) (Ae ?_);refine Aa (Ae ?_);refine Aa ?_;unfold setUsed setState;refine Aa (Aa (Hm hS ?_));dsimp only;refine An (by first | rfl | decide) (Ae ?_);refine Ae ?_;refine An (by first | rfl | decide) ?_;show wpAny _ _ (do let ay ← B7 "set.__init__" s.heap.objs.size (AB l);ret BH) _ _ _;refine Aa ?_;unfold B7;refine Aa ?_;have Y:Dy { s with heap:=s.heap.push { cls:=AJ "set",data:=BZ #[] 0 (A8 0 0 led) } } (AB l) "list":=⟨ol,O,hcl⟩
    unfold DN;refine Aa (BS Y F.sub_list_set ?_);refine BS Y F.sub_list_frozenset ?_;refine An (by first | rfl | decide) ?_;refine Aa (B0 Y ?_);refine An (by first | rfl | decide) ?_;refine Aa (EO Z ?_);refine Aa (DB ?_);have ac:l < s.heap.objs.size:=Ar hol;have U:(s.heap.push { cls:=AJ "set",data:=BZ #[] 0 (A8 0 0 led) }).objs.size=s.heap.objs.size + 1:=B5 _ _;have ae:l≠(s.heap.push { cls:=AJ "set",data:=BZ #[] 0 (A8 0 0 led) }).objs.size:=by rw[U];exact AG (Bj ac)
    have ah:¬ s.heap.objs.size∈[(s.heap.push { cls:=AJ "set",data:=BZ #[] 0 (A8 0 0 led) }).objs.size,l]:=by
     rw[U];simp only[Al,AA,or_false,not_or];exact⟨AG (B9 _),CJ ac⟩
    have aj:A.in1.in1.in1.handled=none:=hh;refine aEL (Fz (GJ aj _ l ae z)) s.heap.objs.size ah val hi hb (z.size - 0) 0 _ rfl (Bo _) ⟨⟨_,Aq _ rfl,rfl,rfl⟩,Heap.IsList.push Z _⟩ ?_ ?_
    ·have ad:=Ai { cls:=AJ "list_iterator",data:=FV #[AB l,Ci 0 0] } hS;exact⟨_,#[],0,_,ad,⟨rfl,rfl,rfl⟩,rfl,(fun e he=>by simp at he),(fun k=>by show(false=true)↔_;simp),(by decide),rfl,rfl,hled,.inl rfl⟩
    ·rintro⟨h',g',d',tk',os'⟩ hm hS';refine Ae (Ae ⟨rfl,?_⟩);have e1:=hm.gens;have e2:=hm.drawn;have e3:=hm.os;dsimp only at e1 e2 e3;subst e1 e2 e3;refine h h' tk' hS' fun b o hb e=>hm.heap b o ?_ ?_
     ·simp only[Al,AA,or_false,not_or];rw[U];exact⟨AG hb,AG (Bj hb)⟩
     ·exact Ai _ (Ai _ e)
   ·cases r with
    | error e=>exact J.elim
    | ok fl=>
     cases fl with
     | next=>exact J.elim
     | brk=>exact J.elim
     | cont=>exact J.elim
     | ret v=>
      obtain⟨rfl,q⟩:=J;refine Ae ?_;refine An (by first | rfl | decide) ?_;exact Ae q
theorem zV{prog:Ay}{w:AV}{A:AO}{E:Ac→Ad→Prop}{s:Ad}{l:Ah}{z:Array Ac}{val:Nat→Str}{Q:Ac→Ad→Prop}(hh:A.handled=none)(hl:s.heap.IsTuple l z)
  (hi:∀(i:Nat) (v:Ac),z[i]?=some v→∃ t,v=Bw (val i) t) (hb:z.size + 1 < scanBound)
  (h:∀(h':Ba) (tk:Nat),jR prog w h' s.heap.objs.size (fun k'=>(eO val z.size).any fun x=>x == k') (eO val z.size).length→
   (∀(b:Nat) (o:Obj),b < s.heap.objs.size→s.heap.get? b=some o→h'.get? b=some o)→Q (AB s.heap.objs.size) { s with heap:=h',toks:=tk }):
  wpAny (model prog w) A (call (AJ "set") [AB l]) Q E s:=by
 obtain⟨c,tl,hmro⟩:=BQ.mro;have W:=BQ.made;have aa:=BQ.sub;have ao:=F8 (AB l);refine Cy (Fe (Ae ⟨Ew _ (by decide),BB FS ?_⟩));rw[Fi (Fj "set" [AB l] []) rfl];unfold Builtin.«type.__call__»;dsimp only
 iterate 2 refine An (by first | rfl | decide) ?_
 refine Aa (Cr ao ?_);refine Aa (Cr hmro ?_);refine An (by first | rfl | decide) ?_;refine Aa (Cr W ?_);refine Aa (Ae ?_);refine Aa (A1 (Cy (CB (aHC (Q₁:=fun obj s₁=>∃ led,led=(!w.params.followText "set-order")∧obj=AB s.heap.objs.size∧s₁={ s with heap:=s.heap.push { cls:=AJ "set",data:=BZ #[] 0 (A8 0 0 led) } }) (E:=E) (AB l) ⟨_,rfl,rfl,rfl⟩) fun r s₁ J=>?_)));cases r with
 | error e=>exact J
 | ok fl=>
  cases fl with
  | next=>exact J.elim
  | brk=>exact J.elim
  | cont=>exact J.elim
  | ret v=>
   obtain⟨led,hled,rfl,rfl⟩:=J;have hS:=Aq s.heap (o:={ cls:=AJ "set",data:=BZ #[] 0 (A8 0 0 led) }) rfl;have hT:Dy { s with heap:=s.heap.push { cls:=AJ "set",data:=BZ #[] 0 (A8 0 0 led) } } (AB s.heap.objs.size) "set":=⟨_,hS,rfl⟩
   have ai:=BQ.init.lookup;have an:=BQ.init.bind (AB s.heap.objs.size);obtain⟨ol,hol,hcl,nl,hdl⟩:=hl;have O:=Ai { cls:=AJ "set",data:=BZ #[] 0 (A8 0 0 led) } hol;have Z:Heap.IsTuple (s.heap.push { cls:=AJ "set",data:=BZ #[] 0 (A8 0 0 led) }) l z:=⟨ol,O,hcl,nl,hdl⟩
   refine Aa (BS hT aa ?_);refine An (by first | rfl | decide) ?_;refine Aa (A1 ?_);unfold callSpecial?;refine Aa (DO hT ai ?_);dsimp only;refine A1 ?_;refine Aa (Cr an ?_);refine Aa (Cy (CB (DC BQ.init.plain F9 (R:=fun r s'=>match r with | .ok (.ret v)=>v=.none∧Q (.ref s.heap.objs.size) s' | _=>False) (Gi hT ?_)) fun r s₁ J=>?_))
   ·unfold Builtin.«set.__init__»;refine Aa (BJ (by first | rfl | decide) (Ae ?_));refine Aa (Aa (Aa (B0 hT (An (by first | rfl | decide) (Ae ?_)))));refine Ae ?_;refine Aa ?_;unfold checkCount
    iterate 2 refine An (by first | rfl | decide) ?_
    refine An (by first | rfl | decide) (Ae ?_);refine Aa (Ae ?_);refine Aa ?_;unfold setUsed setState;refine Aa (Aa (Hm hS ?_));dsimp only;refine An (by first | rfl | decide) (Ae ?_);refine Ae ?_;refine An (by first | rfl | decide) ?_;show wpAny _ _ (do let ay ← B7 "set.__init__" s.heap.objs.size (AB l);ret BH) _ _ _;refine Aa ?_;unfold B7;refine Aa ?_;have Y:Dy { s with heap:=s.heap.push { cls:=AJ "set",data:=BZ #[] 0 (A8 0 0 led) } } (AB l) "tuple":=⟨ol,O,hcl⟩
    unfold DN;refine Aa (BS Y F.sub_tuple_set ?_);refine BS Y F.sub_tuple_frozenset ?_;refine An (by first | rfl | decide) ?_;refine Aa (B0 Y ?_);refine An (by first | rfl | decide) ?_;refine Aa (wpAny_pyIter_tuple Z ?_);refine Aa (DB ?_);have ac:l < s.heap.objs.size:=Ar hol;have U:(s.heap.push { cls:=AJ "set",data:=BZ #[] 0 (A8 0 0 led) }).objs.size=s.heap.objs.size + 1:=B5 _ _;have ae:l≠(s.heap.push { cls:=AJ "set",data:=BZ #[] 0 (A8 0 0 led) }).objs.size:=by rw[U];exact AG (Bj ac)
    have ah:¬ s.heap.objs.size∈[(s.heap.push { cls:=AJ "set",data:=BZ #[] 0 (A8 0 0 led) }).objs.size,l]:=by
     rw[U];simp only[Al,AA,or_false,not_or];exact⟨AG (B9 _),CJ ac⟩
    have aj:A.in1.in1.in1.handled=none:=hh;refine aEL (Fz (Walks.tuple aj _ l ae z)) s.heap.objs.size ah val hi hb (z.size - 0) 0 _ rfl (Bo _) ⟨⟨_,Aq _ rfl,rfl,rfl⟩,aBe Z _⟩ ?_ ?_
    ·have ad:=Ai { cls:=AJ "tuple_iterator",data:=FV #[AB l,Ci 0 0] } hS;exact⟨_,#[],0,_,ad,⟨rfl,rfl,rfl⟩,rfl,(fun e he=>by simp at he),(fun k=>by show(false=true)↔_;simp),(by decide),rfl,rfl,hled,.inl rfl⟩
    ·rintro⟨h',g',d',tk',os'⟩ hm hS';refine Ae (Ae ⟨rfl,?_⟩);have e1:=hm.gens;have e2:=hm.drawn;have e3:=hm.os;dsimp only at e1 e2 e3;subst e1 e2 e3;refine h h' tk' hS' fun b o hb e=>hm.heap b o ?_ ?_
     ·simp only[Al,AA,or_false,not_or];rw[U];exact⟨AG hb,AG (Bj hb)⟩
     ·exact Ai _ (Ai _ e)
   ·cases r with
    | error e=>exact J.elim
    | ok fl=>
     cases fl with
     | next=>exact J.elim
     | brk=>exact J.elim
     | cont=>exact J.elim
     | ret v=>
      obtain⟨rfl,q⟩:=J;refine Ae ?_;refine An (by first | rfl | decide) ?_;exact Ae q
theorem jG{α:Type}:∀(l:List α) (j:Nat) (y:α),l[j]?=some y→(y :: l.eraseIdx j).Perm l
 | [],j,y,h=>by simp at h
 | x :: r,0,y,h=>by
  simp at h;subst h;simp
 | x :: r,j + 1,y,h=>by
  simp at h;rw[List.eraseIdx_cons_succ];exact(List.Perm.swap x y _).trans ((jG r j y h).cons x)
theorem aGy{M:Ed}{A:AO}{Q:Nat→Ad→Prop}{E:Ac→Ad→Prop}{s:Ad}{src:Source}{n:Nat}(hn:n≠0)(h:∀ i d,i < n→Q i { s with drawn:=d }):wpAny M A (choose src n) Q E s:=
 fun _ _ _=>⟨hn,h _ _ (Hk _ (Nat.pos_of_ne_zero hn))⟩
theorem aBf{α:Type}{M:Ed}{A:AO}{E:Ac→Ad→Prop}:∀(n:Nat) (xs:List α) (s:Ad) (Q:List α→Ad→Prop),xs.length=n→(∀ ys d,ys.Perm xs→Q ys { s with drawn:=d })→wpAny M A (drawOrder n xs) Q E s:=by
 intro n
 induction n with
 | zero=>
  intro xs s Q z h;obtain rfl:xs=[]:=C7 z;exact Ae (h [] s.drawn (DF _))
 | succ n J=>
  intro xs s Q z h;cases xs with
  | nil=>simp at z
  | cons x r=>
   unfold drawOrder;refine Aa (aGy (by simp) fun i d hi=>?_);obtain⟨y,hy⟩:∃ y,(x :: r)[i]?=some y:=⟨_,Af hi⟩
   rw[hy];dsimp only;refine Aa (J _ _ _ (by rw[Do hi];simp at z ⊢;exact z) fun ys O F=>Ae (h _ _ ((F.cons y).trans (jG _ i y hy))))
theorem dJ:Slot "set_iterator" "__next__" "set_iterator.__next__":=
 .of (owner:="set_iterator") (n:="__next__") (by rw[typeLookup_type,builtinLookup_eq_fast];kernel_rfl) (by decide) (by decide) (by decide) (by first | exact .inl (by decide) | exact .inr (by decide)) (by rw[Gv];kernel_rfl)
theorem oG:Slot "set_iterator" "__iter__" "set_iterator.__iter__":=
 .of (owner:="set_iterator") (n:="__iter__") (by rw[typeLookup_type,builtinLookup_eq_fast];kernel_rfl) (by decide) (by decide) (by decide) (by first | exact .inl (by decide) | exact .inr (by decide)) (by rw[Gv];kernel_rfl)
theorem gZ:entryFor table "set_iterator.__next__"=some Builtin.«set_iterator.__next__»:=entryFor_of_tree (by kernel_rfl)
theorem vF:entryFor table "set_iterator.__iter__"=some Builtin.«dict_keyiterator.__iter__»:=entryFor_alias (id':="dict_keyiterator.__iter__") (by kernel_rfl) rfl (by decide) (by kernel_rfl)
theorem qJ:entryFor table "set.__iter__"=some Builtin.«frozenset.__iter__»:=entryFor_alias (id':="frozenset.__iter__") (by kernel_rfl) rfl (by decide) (by kernel_rfl)
theorem zW:Manifest.owners.lookup (String.ofList ("set_iterator".toList.reverse).reverse)=some Manifest.sig_set_iterator:=by kernel_rfl
theorem iO(a:Ac):argsOk "set_iterator.__next__" ⟨[a],[]⟩:=by
 unfold argsOk;rw[signature?_of (id:="set_iterator.__next__") (n:="__next__".toList.reverse) (o:="set_iterator".toList.reverse) (by kernel_rfl) zW]
 kernel_rfl
theorem xI(a:Ac):argsOk "set_iterator.__iter__" ⟨[a],[]⟩:=by
 unfold argsOk;rw[signature?_of (id:="set_iterator.__iter__") (n:="__iter__".toList.reverse) (o:="set_iterator".toList.reverse) (by kernel_rfl) zW]
 kernel_rfl
def i7(first:Ac)(i:Nat)(S:Ah)(n ep:Nat):Obj:={ cls:=.type "set_iterator",dict:=none,data:=.fields #[first,.int i 0,.ref S,.int n 0,.int ep 0],slots:=#[] }
section
variable{prog:Ay}{w:AV}{A:AO}{E:Ac→Ad→Prop}{s:Ad}{I S T:Ah}{i m ep:Nat}{o ot:Obj}{es:Array (Int×Ac)}{t:C9}{ic:Array Ac}{x:Ac}
theorem tI{M:Ed}{B:AO}{z:Ac→Ad→Prop}{Q:Fin→Ad→Prop}{s:Ad}(F:B.handled=none)(h:∀(e:Ac) (h':Ba),(∀ b u,s.heap.get? b=some u→h'.get? b=some u)→Dy { s with heap:=h' } e "StopIteration"→z e { s with heap:=h' }):
  wpAny M B (newExc (.type "StopIteration") [] >>= fun e=>raiseNew e) Q z s:=by
 refine Aa ?_;simp only[newExc,newTuple];apply Aa;refine BI ?_ (by size_fits);apply Aa (m:=firstArgMember _ _);refine Cr (a:=BH) (by first | rfl | (simp only[firstArgMember];rfl)) ?_;refine BI (h:=?_) (by size_fits);simp only[raiseNew];refine Aa (wpAny_handled ?_);rw[F];refine Aa (Ae (wpAny_throw (h (.ref _) _ (fun b u e=>Ai _ (Ai _ e)) ⟨_,Aq _ rfl,rfl⟩)))
theorem aDq(F:s.heap.get? I=some (i7 (.ref T) i S es.size ep))(U:s.heap.get? S=some o)(hd:o.data=.set es ep t)(O:t.fits es.size=true)(hT:s.heap.get? T=some ot)(J:ot.data=.seq ic m){p:Nat}{tk:Tok}{Z:Int}(hp:ic[i]?=some (.int p tk))(W:es[p]?=some (Z,x)){Q:Option Ac→Ad→Prop}
  (Y:∀ h',h'.get? I=some (i7 (.ref T) (i + 1) S es.size ep)→DQ I s.heap h'→Q (some x) { s with heap:=h' }):wpAny (model prog w) A (pyNext (.ref I)) Q E s:=by
 have z:s.TypeIs (.ref I) "set_iterator":=⟨_,F,rfl⟩
 unfold pyNext;apply Aa;apply DK;refine CI (name:=Bd "__next__") z dJ (Ck dJ z gZ ?_ (iO _));unfold Builtin.«set_iterator.__next__»;refine Aa (Ae ?_);refine Aa (Fu F rfl ?_);dsimp only;refine Aa (DH U hd O ?_);rw[Ia (show¬ ((((es.size:Nat):Int) != ((es.size:Nat):Int))=true) by simp)];refine Aa (wpAny_seqItems hT J ?_);dsimp only;rw[show((i:Nat):Int).toNat=i from BG i,hp];dsimp only;unfold setNextDrawn;refine Aa (Aa (Dr U hd O ?_));dsimp only;rw[Ia (show¬ ((ep != ((ep:Nat):Int).toNat)=true) by simp)];rw[show((p:Nat):Int).toNat=p from BG p,W];refine Ae ?_;refine Aa (CF F rfl (by simp[i7]) (Ae ⟨x,rfl,Ae (Y _ ?_ (Cj ..))⟩));rw[Bh _ F (CN (BW rfl _))];rfl
theorem aEM(hh:A.handled=none)(F:s.heap.get? I=some (i7 (.ref T) i S es.size ep))(hS:s.heap.get? S=some o)(hd:o.data=.set es ep t)(hf:t.fits es.size=true)(W:s.heap.get? T=some ot)(J:ot.data=.seq ic m)(Y:ic[i]?=none){Q:Option Ac→Ad→Prop}
  (Z:∀ h',(∀ b u,b≠I→s.heap.get? b=some u→h'.get? b=some u)→Q none { s with heap:=h' }):wpAny (model prog w) A (pyNext (.ref I)) Q E s:=by
 have z:s.TypeIs (.ref I) "set_iterator":=⟨_,F,rfl⟩
 unfold pyNext;apply Aa;apply DK;refine CI (name:=Bd "__next__") z dJ (Ck dJ z gZ ?_ (iO _));unfold Builtin.«set_iterator.__next__»;refine Aa (Ae ?_);refine Aa (Fu F rfl ?_);dsimp only;refine Aa (DH hS hd hf ?_);rw[Ia (show¬ ((((es.size:Nat):Int) != ((es.size:Nat):Int))=true) by simp)];refine Aa (wpAny_seqItems W J ?_);dsimp only;rw[show((i:Nat):Int).toNat=i from BG i,Y];dsimp only;refine Aa (CF F rfl (by simp[i7]) ?_);have O:=Bh (EI (·.setIfInBounds 0 (rawInt 0))) F (CN (BW rfl _))
 refine Aa (CF O (BW rfl _) (by simp[i7]) ?_);refine tI (show A.in1.handled=none from hh) fun e h' k U=>?_;refine Aa (BS (T:="StopIteration") (b:=true) U isSubtype_stop ?_);refine Ae (Z h' fun b u nb hb=>k b u ?_);exact(Cj _ I _).extBut b u nb ((Cj _ I _).extBut b u nb hb)
theorem aDr{F nx:Nat}(O:s.heap.get? I=some (i7 (rawInt F) i S es.size ep))(hS:s.heap.get? S=some o)(hd:o.data=.set es ep t)(Z:t.fits es.size=true)
  (hN:∀(B:AO) (Y:Ac→Ad→Prop) (U:Option (Ac×Nat)→Ad→Prop),U (some (x,nx)) s→wpAny (model prog w) B (setNext S F i ep) U Y s) {Q:Option Ac→Ad→Prop}
  (W:∀ h',h'.get? I=some (i7 (rawInt nx) (i + 1) S es.size ep)→DQ I s.heap h'→Q (some x) { s with heap:=h' }):wpAny (model prog w) A (pyNext (.ref I)) Q E s:=by
 have J:s.TypeIs (.ref I) "set_iterator":=⟨_,O,rfl⟩
 unfold pyNext;apply Aa;apply DK;refine CI (name:=Bd "__next__") J dJ (Ck dJ J gZ ?_ (iO _));unfold Builtin.«set_iterator.__next__»;refine Aa (Ae ?_);refine Aa (Fu O rfl ?_);dsimp only;refine Aa (DH hS hd Z ?_);rw[Ia (show¬ ((((es.size:Nat):Int) != ((es.size:Nat):Int))=true) by simp)];dsimp only[rawInt];refine Aa ?_;rw[show((i:Nat):Int).toNat=i from BG i,show((F:Nat):Int).toNat=F from BG F,show((ep:Nat):Int).toNat=ep from BG ep];refine hN _ _ _ ?_;dsimp only;refine Aa (CF O rfl (by simp[i7]) ?_);have z:=Bh (EI (·.setIfInBounds 0 (rawInt nx))) O (CN (BW rfl _))
 refine Aa (CF z (BW rfl _) (by simp[i7]) (Ae ⟨x,rfl,Ae (W _ ?_ ((Cj ..).trans (Cj ..)))⟩));exact(Bh _ z (CN (BW (BW rfl _) _))).trans rfl
theorem aEN{z:Nat}(hh:A.handled=none)(J:s.heap.get? I=some (i7 (rawInt z) i S es.size ep))(Z:s.heap.get? S=some o)(hd:o.data=.set es ep t)(Y:t.fits es.size=true)
  (hN:∀(B:AO) (E':Ac→Ad→Prop) (O:Option (Ac×Nat)→Ad→Prop),O none s→wpAny (model prog w) B (setNext S z i ep) O E' s) {Q:Option Ac→Ad→Prop}
  (W:∀ h',(∀ b u,b≠I→s.heap.get? b=some u→h'.get? b=some u)→Q none { s with heap:=h' }):wpAny (model prog w) A (pyNext (.ref I)) Q E s:=by
 have F:s.TypeIs (.ref I) "set_iterator":=⟨_,J,rfl⟩
 unfold pyNext;apply Aa;apply DK;refine CI (name:=Bd "__next__") F dJ (Ck dJ F gZ ?_ (iO _));unfold Builtin.«set_iterator.__next__»;refine Aa (Ae ?_);refine Aa (Fu J rfl ?_);dsimp only;refine Aa (DH Z hd Y ?_);rw[Ia (show¬ ((((es.size:Nat):Int) != ((es.size:Nat):Int))=true) by simp)];dsimp only[rawInt];refine Aa ?_;rw[show((i:Nat):Int).toNat=i from BG i,show((z:Nat):Int).toNat=z from BG z,show((ep:Nat):Int).toNat=ep from BG ep];refine hN _ _ _ ?_;dsimp only;refine Aa (CF J rfl (by simp[i7]) ?_);refine tI (show A.in1.handled=none from hh) fun e h' k U=>?_;refine Aa (BS (T:="StopIteration") (b:=true) U isSubtype_stop ?_);refine Ae (W h' fun b u nb hb=>k b u ?_);exact(Cj _ I _).extBut b u nb hb
theorem aCg{first:Ac}(F:s.heap.get? I=some (i7 first i S es.size ep)){Q:Ac→Ad→Prop}(h:Q (.ref I) s):wpAny (model prog w) A (pyIter (.ref I)) Q E s:=by
 have z:s.TypeIs (.ref I) "set_iterator":=⟨_,F,rfl⟩
 refine wpAny_pyIter_slot z oG (Ck oG z vF ?_ (xI _));exact Ae ⟨_,rfl,"set_iterator",_,z,dJ.lookup,h⟩
end
theorem v5{α:Type}(next:Nat→Nat):∀(z k:Nat) (left:List α) (out:Array α),left.length=z→(pickOrder.go next z k left out).toList.Perm (out.toList ++ left)
 | 0,k,[],out,_=>by
  unfold pickOrder.go;rw[Cp]
 | z + 1,k,x :: r,out,F=>by
  unfold pickOrder.go;have hi:next k % (x :: r).length < (x :: r).length:=Hk _ (by simp)
  obtain⟨y,hy⟩:∃ y,(x :: r)[next k % (x :: r).length]?=some y:=⟨_,Af hi⟩
  rw[hy];dsimp only;refine(v5 next z (k + 1) _ _ (by rw[Do hi];simp at F ⊢;exact F)).trans ?_;rw[Array.toList_push,De];exact List.Perm.append_left _ (jG _ _ y hy)
theorem tJ{α:Type}(next:Nat→Nat)(xs:Array α):(pickOrder next xs).toList.Perm xs.toList:=by
 unfold pickOrder;have h:=v5 next xs.size 0 xs.toList #[] (by simp)
 simpa using h
section
variable{prog:Ay}{w:AV}{A:AO}{I S T:Ah}{m ep:Nat}{o ot:Obj}{es:Array (Int×Ac)}{t:C9}{ic:Array Ac}
theorem aIq(hh:A.handled=none)(hS:S≠I)(Z:T≠I)(hd:o.data=.set es ep t)(W:t.fits es.size=true)(F:ot.data=.seq ic m)(hp:∀ i,i < ic.size→∃(p:Nat) (tk:Tok) (z:Int×Ac),ic[i]?=some (.int p tk)∧es[p]?=some z):
  Walks prog w A I [I,S,T] [I] ic.size (fun i v=>∃(p:Nat) (tk:Tok) (z:Int),ic[i]?=some (.int p tk)∧es[p]?=some (z,v)) (fun i h=>h.get? I=some (i7 (.ref T) i S es.size ep)∧h.get? S=some o∧h.get? T=some ot) where
 sub:=fun b Y=>by simp at Y;simp[Y]
 frame:=fun _ _ _ st O=>⟨O I (by simp) _ st.1,O S (by simp) _ st.2.1,O T (by simp) _ st.2.2⟩
 item:=fun i s Q E hi st J=>by
  obtain⟨p,tk,⟨z,v⟩,h1,h2⟩:=hp i hi;refine aDq st.1 st.2.1 hd W st.2.2 F h1 h2 fun h' hI U=>?_;exact J v h' s.toks ⟨p,tk,z,h1,h2⟩ ⟨hI,U.extBut S _ hS st.2.1,U.extBut T _ Z st.2.2⟩ fun b u nb e=>U.extBut b u (by simpa using nb) e
 done:=fun s Q E st J=>aEM hh st.1 st.2.1 hd W st.2.2 F (by simp) fun h' k=>J h' s.toks fun b u nb e=>k b u (by simpa using nb) e
 self:=fun i s Q E st J=>aCg st.1 J
theorem aIr(hh:A.handled=none)(hS:S≠I)(hd:o.data=.set es ep t)(W:t.fits es.size=true)(O:Nat→Nat)(ord:List Ac)
  (hN:∀(i:Nat) (s:Ad),s.heap.get? S=some o→i≤ord.length→∀(B:AO) (J:Ac→Ad→Prop) (z:Option (Ac×Nat)→Ad→Prop),z ((ord[i]?).map fun v=>(v,O (i + 1))) s→wpAny (model prog w) B (setNext S (O i) i ep) z J s):
  Walks prog w A I [I,S] [I] ord.length (fun i v=>ord[i]?=some v) (fun i h=>h.get? I=some (i7 (rawInt (O i)) i S es.size ep)∧h.get? S=some o) where
 sub:=fun b Y=>by simp at Y;simp[Y]
 frame:=fun _ _ _ st U=>⟨U I (by simp) _ st.1,U S (by simp) _ st.2⟩
 item:=fun i s Q E hi st F=>by
  obtain⟨v,hv⟩:∃ v,ord[i]?=some v:=⟨_,Af hi⟩
  refine aDr (x:=v) (nx:=O (i + 1)) st.1 st.2 hd W (fun B J z q=>hN i s st.2 (Dv hi) B J z (by rw[hv];exact q)) fun h' hI Z=>?_;exact F v h' s.toks hv ⟨hI,Z.extBut S _ hS st.2⟩ fun b u nb e=>Z.extBut b u (by simpa using nb) e
 done:=fun s Q E st F=>aEN hh st.1 st.2 hd W (fun B J z q=>hN _ s st.2 (Ap _) B J z (by rw[AY (Ap _)];exact q)) fun h' k=>F h' s.toks fun b u nb e=>k b u (by simpa using nb) e
 self:=fun i s Q E st F=>aCg st.1 F
structure aKt(prog:Ay)(w:AV)(A:AO)(S:Ah)(el:List Ac)(s s2:Ad)(I:Ah):Prop where
 w:∃(fp:List Ah) (P:Nat→Ac→Prop) (St:Nat→Ba→Prop),Walks prog w A I fp [I] el.length P St∧St 0 s2.heap∧I∈fp∧(∀ b∈fp,b < s2.heap.objs.size∧(b=S∨s.heap.objs.size≤b))∧∀ acc,ItemsOf P acc el.length→acc.toList.Perm el
 keep:∀ b u,s.heap.get? b=some u→s2.heap.get? b=some u
 new:s.heap.objs.size≤I
 gens:s2.gens=s.gens
 os:s2.os=s.os
 toks:s2.toks=s.toks
theorem aEO{ord:List Ac}{z:Array Ac}(h:ItemsOf (fun i v=>ord[i]?=some v) z ord.length):z.toList=ord:=by
 obtain⟨hl,h⟩:=h;apply CC;intro j;by_cases F:j < z.size
 ·have:=h j z[j] (by simp[F]);rw[this];simp[F]
 ·rw[AY (by simpa using F),AY (by omega)]
end
section
variable{prog:Ay}{w:AV}{A:AO}{S:Ah}{ep:Nat}{o:Obj}{es:Array (Int×Ac)}{t:C9}
theorem zX{ys:List Nat}{n:Nat}(O:ys.Perm (AL n))(hn:n=es.size):∀ i,i < (ys.map fun(i:Nat)=>rawInt i).toArray.size→∃(p:Nat) (tk:Tok) (z:Int×Ac),(ys.map fun(i:Nat)=>rawInt i).toArray[i]?=some (.int p tk)∧es[p]?=some z:=by
 intro i hi;have F:i < ys.length:=by simpa using hi
 have hm:ys[i]∈AL n:=O.mem_iff.mp (BO F);have J:ys[i] < es.size:=by rw[← hn];exact Bt.mp hm
 exact⟨ys[i],0,es[ys[i]],by simp[F,rawInt],by simp[J]⟩
theorem xJ{ys:List Nat}{n:Nat}(Y:ys.Perm (AL n))(hn:n=es.size){F:Array Ac}(h:ItemsOf (fun i v=>∃(p:Nat) (tk:Tok) (z:Int),(ys.map fun(i:Nat)=>rawInt i).toArray[i]?=some (.int p tk)∧es[p]?=some (z,v)) F ys.length):F.toList.Perm (es.toList.map (·.2)):=by
 have e:F.toList=ys.map fun p=>(es.toList.getD p (0,.none)).2:=by
  apply CC;intro j;by_cases O:j < ys.length
  ·have J:j < F.size:=by rw[h.1];exact O
   obtain⟨p,tk,z,h1,h2⟩:=h.2 j F[j] (by simp[J]);simp[O,rawInt]at h1;obtain⟨h1,_⟩:=h1;have U:ys[j]=p:=by exact_mod_cast h1
   rw[AC,Af O,U];have W:es.toList[p]?=some (z,F[j]):=by simpa using h2
   simp[List.getD,h2,W,J]
  ·rw[AY (by have:=h.1;simp;omega),AY (by simpa using O)]
 rw[e];refine(Y.map _).trans (List.Perm.of_eq ?_);apply CC;intro j;rw[AC,AC];by_cases O:j < n
 ·rw[C3 O];have J:j < es.size:=by omega
  simp[List.getD,J]
 ·rw[AY (by simpa using O),AY (by simp;omega)];rfl
theorem aEP(hh:A.handled=none)(an:o.cls=.type "set")(hd:o.data=.set es ep t)(U:t.fits es.size=true)(hb:es.size < scanBound)(ad:tH w es t){E:Ac→Ad→Prop}{s:Ad}{R:Ac→Ad→Prop}(hS:s.heap.get? S=some o)
  (h:∀(I:Ah) (s2:Ad),aKt prog w A S (es.toList.map (·.2)) s s2 I→R (.ref I) s2):wpAny (model prog w) A (pyIter (.ref S)) R E s:=by
 have ao:s.TypeIs (.ref S) "set":=⟨_,hS,an⟩
 have ac:=Ar hS;refine wpAny_pyIter_slot ao F.slot_set_iter (Ck F.slot_set_iter ao qJ ?_ (F.args_set_iter_1 _));unfold Builtin.«frozenset.__iter__» Builtin.Frozenset.slot0 Builtin.Frozenset.sizeOf;refine Aa (Aa (Ae (Ae ?_)));refine Aa (Aa (DH hS hd U (Ae ?_)));refine Aa ?_;unfold setDrawn setsByText;refine Aa (Dr hS hd U (Aa (Aa (DD (Ae (Ae ?_))))));have aC:(es.toList.map (·.2)).length=es.size:=by simp
 have aa:(∀(i:Nat) (s:Ad),s.heap.get? S=some o→i≤es.size→True)→∀(sl:Nat→Nat) (ord:List Ac),sl 0=0→ord.Perm (es.toList.map (·.2))→
   (∀(i:Nat) (s:Ad),s.heap.get? S=some o→i≤ord.length→∀(B:AO) (E':Ac→Ad→Prop) (Q':Option (Ac×Nat)→Ad→Prop),Q' ((ord[i]?).map fun v=>(v,sl (i + 1))) s→wpAny (model prog w) B (setNext S (sl i) i ep) Q' E' s)→
   wpAny (model prog w) A.in1 (do ret (← newFields "set_iterator" [rawInt 0,rawInt 0,.ref S,rawInt es.size,rawInt (← setEpoch S)])) (fun aa s'=>∃ v,aa=.done (.ret v)∧∃ T' r,s'.TypeIs v T'∧typeLookup (.type T') "__next__"=pure (some r)∧R v s') E s:=by
  intro _ sl ord h0 J hN;refine Aa (wpAny_setEpoch_of hS hd U ?_);refine Aa (BI (Ae ⟨_,rfl,"set_iterator",_,⟨_,Aq _ rfl,rfl⟩,dJ.lookup,h _ _ ?_⟩));have ak:ord.length=(es.toList.map (·.2)).length:=J.length_eq
  refine⟨⟨[s.heap.objs.size,S],_,_,ak ▸ aIr hh (AG ac) hd U sl ord hN,⟨by rw[h0];exact Aq _ rfl,Ai _ hS⟩,by simp,?_,fun ay ha=>?_⟩,fun b u e=>Ai _ e,Ap _,rfl,rfl,rfl⟩
  ·intro b hb;rw[B5];simp at hb;rcases hb with rfl | rfl
   ·exact⟨B9 _,.inr (Ap _)⟩
   ·exact⟨Bj ac,.inl rfl⟩
  ·rw[← ak]at ha;rw[aEO ha];exact J
 dsimp only;cases Z:(model prog w).w.params.followText "set-order" with
 | true=>
  rw[Ia (by simp)];refine Aa (Ae ?_);refine aa (fun _ _ _ _=>trivial) (fun _=>0) ((pickOrder ((model prog w).w.params.setOrder S ep) es).toList.map (·.2)) rfl ((tJ _ es).map _) fun i s1 O hi B E' Q' q=>?_
  unfold setNext setsByText setWalk setsByText;refine Aa (Dr O hd U ?_);refine Aa (Aa (DD (Ae ?_)));dsimp only;rw[Z,Ib rfl];rw[Ia (show¬ ((ep != ep)=true) by simp)];refine Aa (Aa (Dr O hd U ?_));refine Aa (Aa (DD (Ae ?_)));dsimp only;rw[Z,Ib rfl];refine Aa (DD (Ae (Ae ?_)));simpa[Function.comp_def]using q
 | false=>
  by_cases h1:es.size > 1
  ·have W:t.plain=false:=ad.2.resolve_left (by omega);refine BJ (Ic (show((!false) && (!t.plain && decide (es.size > 1)))=true by rw[W];simp[h1])) ?_;refine Aa (aBf es.size (AL es.size) s _ (by simp) fun ys d J=>?_);have am:ys.length=es.size:=by rw[J.length_eq];simp
   refine Aa (Gq ?_ (by rw[Ab,am];exact ES hb));have O:(s.heap.push { cls:=.type "tuple",data:=.seq (ys.map fun(i:Nat)=>rawInt i).toArray }).get? S=some o:=Ai _ hS;refine Aa (wpAny_setEpoch_of O hd U ?_);refine Aa (BI (Ae ⟨_,rfl,"set_iterator",_,⟨_,Aq _ rfl,rfl⟩,dJ.lookup,h _ _ ?_⟩));have Y:(s.heap.push { cls:=.type "tuple",data:=.seq (ys.map fun(i:Nat)=>rawInt i).toArray }).objs.size=s.heap.objs.size + 1:=B5 _ _;have ai:(ys.map fun(i:Nat)=>rawInt i).toArray.size=(es.toList.map (·.2)).length:=by simp[am]
   have hw:=aIq (prog:=prog) (w:=w) (A:=A) (I:=(s.heap.push { cls:=.type "tuple",data:=.seq (ys.map fun(i:Nat)=>rawInt i).toArray }).objs.size) (S:=S) (T:=s.heap.objs.size) (o:=o) (ot:={ cls:=.type "tuple",data:=.seq (ys.map fun(i:Nat)=>rawInt i).toArray }) hh (by rw[Y];exact AG (Bj ac)) (by rw[Y];exact AG (B9 _)) hd U rfl (zX J rfl);rw[ai]at hw;refine⟨⟨_,_,_,hw,⟨Aq _ rfl,Ai _ O,Ai _ (Aq _ rfl)⟩,by simp,?_,fun ay ha=>?_⟩,fun b u e=>Ai _ (Ai _ e),by dsimp only;rw[Y];exact CU _,rfl,rfl,rfl⟩
   ·intro b hb;have h3:b=s.heap.objs.size + 1∨b=S∨b=s.heap.objs.size:=by
     rw[Y]at hb;simpa using hb
    dsimp only;rw[B5,Y];rcases h3 with rfl | rfl | rfl
    ·exact⟨B9 _,.inr (CU _)⟩
    ·exact⟨Bj (Bj ac),.inl rfl⟩
    ·exact⟨Bj (B9 _),.inr (Ap _)⟩
   ·rw[← ai,Ao,Ab]at ha;exact xJ J rfl ha
  ·refine An (decide_eq_false (show¬ (((!false) && (!t.plain && decide (es.size > 1)))=true) by simp[h1])) ?_;refine Aa (Ae ?_);have au:(!t.plain && decide (es.size > 1))=false:=by simp[h1]
   have ap:t.led=true:=by
    have z:=ad.1;rw[show w.params.followText "set-order"=false from Z]at z;exact z
   have ar:t.place.size=es.size:=by
    unfold SetTable.fits at U;simp at U;exact U.1
   refine aa (fun _ _ _ _=>trivial) (fun i=>if i=0 then 0 else t.place.getD 0 0 + 1) (es.toList.map (·.2)) rfl (DF _) fun i s1 O hi B E' Q' q=>?_
   unfold setNext setsByText;refine Aa (Dr O hd U ?_);refine Aa (Aa (DD (Ae ?_)));dsimp only;rw[Z,Ia (by simp)];refine An (decide_eq_false (show¬ ((!t.plain && decide (es.size > 1))=true) by rw[au];simp)) ?_;refine Aa (An (decide_eq_false (show¬ ((!t.led && !es.isEmpty)=true) by rw[ap];simp)) (Ae (Ae ?_)));have ae:es.size=0∨es.size=1:=by omega
   rcases ae with hz | hz
   ·have af:es=#[]:=Array.eq_empty_of_size_eq_zero hz;have W:t.place=#[]:=Array.eq_empty_of_size_eq_zero (by omega);subst af;have av:i=0:=by simpa using hi
    subst av;rw[W];simpa[DG,DG.go]using q
   ·obtain⟨e,af⟩:=Array.size_eq_one_iff.mp hz;obtain⟨j,W⟩:=Array.size_eq_one_iff.mp (ar.trans hz);subst af;have aw:i=0∨i=1:=by
     have:i≤1:=by simpa using hi
     omega
    rw[W]at q ⊢;rcases aw with rfl | rfl
    ·simpa[DG,DG.go]using q
    ·simpa[DG,DG.go]using q
end
section
variable{prog:Ay}{w:AV}{A:AO}{S:Ah}{ep:Nat}{o:Obj}{es:Array (Int×Ac)}{t:C9}
theorem zY(hh:A.handled=none)(J:o.cls=.type "set")(hd:o.data=.set es ep t)(hf:t.fits es.size=true)(hb:es.size < scanBound)(ag:tH w es t){E:Ac→Ad→Prop}{s:Ad}{Q:List Ac→Ad→Prop}(hS:s.heap.get? S=some o)
  (h:∀(ak:List Ac) (h':Ba) (d:Hu) (tk:Nat),ak.Perm (es.toList.map (·.2))→(∀ b u,s.heap.get? b=some u→h'.get? b=some u)→s.heap.objs.size < h'.objs.size→Q ak { s with heap:=h',drawn:=d,toks:=tk }):wpAny (model prog w) A (collect (.ref S)) Q E s:=by
 have af:=Ar hS;unfold collect;apply Aa;apply DB;apply BB E9;rw[BC E8];show wpAny _ A.in1 (newList [] >>= fun l=>again (.builtin "list.__iadd__" ⟨[l,.ref S],[]⟩)) _ _ s;apply Aa;refine BI (Ae ⟨Dk Dp _,BB FU ?_⟩);rw[BC Dp];have Y:(s.heap.push { cls:=.type "list",data:=.seq ([]:List Ac).toArray }).get? S=some o:=Ai _ hS;have ap:(s.heap.push { cls:=.type "list",data:=.seq ([]:List Ac).toArray }).get? s.heap.objs.size=some { cls:=.type "list",data:=.seq ([]:List Ac).toArray }:=Aq _ rfl;have e1:Builtin.List.listSameRef (.ref s.heap.objs.size) (.ref S)=false:=by
  show(s.heap.objs.size == S)=false;simpa using CJ af
 show wpAny _ A.in1 (Cf (.ref s.heap.objs.size) (.ref S) (.ref s.heap.objs.size)) _ _ _;unfold Cf;refine Aa (B0 (T:="set") ⟨o,Y,J⟩ ?_);rw[Ia (by rw[e1];decide)];refine Aa (aEP (A:=A.in1) hh J hd hf hb ag Y fun I s2 it=>?_);have U:=it.keep S o Y;have ad:=it.keep _ _ ap;refine Aa (A1 ?_);unfold Builtin.List.listLengthHint;refine Aa (DO (T:="set") ⟨o,U,J⟩ F.slot_set_len.lookup ?_);generalize hid:("set.__len__":String)=au
 wp_delta
 rw[show splitId au=some ("set","__len__") from by subst hid;decide];subst hid;refine Aa (BS (b:=true) (T:="set") ⟨o,U,J⟩ sub_set_self ?_);refine An (by rfl) ?_;refine BJ (by decide) ?_;refine Aa (B0 (T:="set") ⟨o,U,J⟩ ?_);refine Ae ?_;refine BJ (by decide) ?_;refine Aa (EF ?_);obtain⟨fp,P,St,W,st0,hI,hfp,hit⟩:=it.w;have ah:(s.heap.push { cls:=.type "list",data:=.seq ([]:List Ac).toArray }).objs.size=s.heap.objs.size + 1:=B5 _ _;have ac:s.heap.objs.size ∉ fp:=fun hm=>by
  rcases(hfp _ hm).2 with z | z
  ·exact absurd z (CJ af)
  ·dsimp only at z;rw[ah]at z;exact absurd z (Nat.not_succ_le_self _)
 apply Aa;show wpAny _ A.in1 (updateSeq s.heap.objs.size (·.push .none) >>= fun _=>updateSeq s.heap.objs.size (·.pop)) _ _ _
 apply Aa;refine Fc ad rfl ?_;have aj:=Bh (Bp (·.push BH)) ad rfl
 refine Fc aj rfl ?_;have ar:=Bh (Bp (·.pop)) aj rfl
 have aa:∀ b u,b≠s.heap.objs.size→s2.heap.get? b=some u→((s2.heap.update s.heap.objs.size (Bp (·.push BH))).update s.heap.objs.size (Bp (·.pop))).get? b=some u:=
  fun b u nb e=>(Bq _ _ (CV nb)).trans ((Bq _ _ (CV nb)).trans e)
 have aq:(es.toList.map (·.2)).length≤sizeLine:=by
  rw[Ab,BL];exact ES hb
 refine Ae ⟨Dk F.plain_extend_loop _,codeAny_extend_loopS (Fz W) aq s.heap.objs.size ac _ _ 0 _ _ _ rfl (Bo _) (W.frame 0 _ _ st0 fun b hb u e=>aa b u (fun z=>ac (z ▸ hb)) e) ar (ItemsOf.nil P) fun s' O c' hm ae ai=>?_⟩;show wpAny _ A (load s.heap.objs.size >>= _) _ _ s';apply Aa;refine Gr ae (Ae ?_);obtain⟨h',g',d',tk',os'⟩:=s';have g1:=hm.gens;have g2:=hm.os;dsimp only at g1 g2;have g3:=it.gens;have g4:=it.os;rw[g3]at g1;rw[g4]at g2;dsimp only at g1 g2;subst g1 g2;refine h O.toList h' d' tk' (hit O ai) (fun b u e=>?_) (Ar ae);have Z:=Ar e;have nb:b≠s.heap.objs.size:=AG Z;have nI:b≠I:=fun z=>by
  have z2:=it.new;dsimp only at z2;rw[ah,← z]at z2;exact absurd (DS Z z2) (Bx _)
 refine hm.heap b u (by simp[nb,nI]) (aa b u nb (it.keep b u (Ai _ e)))
end
theorem iP{α:Type}[DecidableEq α]:∀(L M:List α),L.Nodup→(∀ x∈L,x∈M)→M.length=L.length→M.Perm L
 | [],M,_,_,J=>by
  have:M=[]:=C7 J;rw[this]
 | x :: r,M,hn,hm,J=>by
  obtain⟨hx,hr⟩:=CP.mp hn;have F:=hm x (by simp);have U:=iP r (M.erase x) hr (fun y O=>(List.mem_erase_of_ne (show y≠x from fun z=>hx (by rw[← z];exact O))).mpr (hm y (by simp[O]))) (by rw[List.length_erase_of_mem F,J];simp);exact(List.perm_cons_erase F).trans (U.cons x)
section
variable{prog:Ay}{w:AV}{A:AO}{S:Ah}{E:Ac→Ad→Prop}{s:Ad}
theorem zZ(hh:A.handled=none){f:Str→Bool}{n:Nat}(hS:jR prog w s.heap S f n){O:List Str}(af:O.Nodup)(W:∀ k,f k=true↔k∈O)(hn:n=O.length)(am:n < 64){Q:Ac→Ad→Prop}
  (h:∀(l:Ah) (h':Ba) (d:Hu) (tk e:Nat) (out:Array Ac) (ms:List Str),s.heap.objs.size≤l→(∀ b u,s.heap.get? b=some u→h'.get? b=some u)→h'.get? l=some (seqObj "list" out e)→Gp out.toList ms→ms.Perm O→sortedS ms=true→Q (.ref l) { s with heap:=h',drawn:=d,toks:=tk }):
  wpAny (model prog w) A (call (.builtin "sorted") [.ref S]) Q E s:=by
 obtain⟨o,es,ep,t,ho,hex,hd,hel,hm,hb,hf,hsz,hTab⟩:=hS;refine Calls.call_function_entry Hq G8 Hf (args_sorted1 _) ?_;unfold Builtin.«sorted»;apply Aa (m:=checkCount "sorted" 1 1 _);apply Ae;refine Aa (zY (A:=A.in1) hh hex.1 hd hf hb hTab ho fun z h1 d tk hp J ac=>?_);have Z:∀ v,v∈z→∃ x t,v=.str x t:=fun v hv=>by
  obtain⟨e,he,rfl⟩:=Bb.mp (hp.mem_iff.mp hv);obtain⟨⟨k,J,_⟩,_⟩:=hel e he;obtain⟨t,ht⟩:=E6 J;exact⟨k,t,ht⟩
 have hA:=strsAre_map z Z;have aj:z.length=n:=by rw[hp.length_eq,Ab,BL];exact hsz
 have hM:(z.map strOf).Perm O:=by
  refine((hp.map strOf)).trans (iP O _ af (fun x hx=>?_) (by rw[Ab,Ab,BL,hsz,hn]));obtain⟨e,he,J⟩:=(hm x).mp ((W x).mpr hx);obtain⟨t,ht⟩:=E6 J;exact Bb.mpr ⟨e.2,Bb.mpr ⟨e,he,rfl⟩,by rw[ht];rfl⟩
 have ah:z.length≤sizeLine:=by rw[Fv];omega
 apply Aa;refine EU ?_ ah;have F:(h1.push (seqObj "list" z.toArray 0)).get? h1.objs.size=some (seqObj "list" z.toArray 0):=Aq _ rfl;refine Aa (A1 (Ck slot_list_sort ⟨_,F,rfl⟩ entry_list_sort (list_sort_treeK strKind_oneLt F hA.keysOf (fun v₁ v₂ cM e=>keyKind_strs (by rw[← e];exact hA)) (by omega) fun ag a1 a2=>⟨_,rfl,?_⟩) (args_list_sort _)));obtain⟨ms,b1,b2,b3⟩:=sorted_out_str hA a1 a2;refine Ae ⟨_,rfl,?_⟩;obtain⟨e,he⟩:=sortedHeap_at (vs:=z) (out:=(arrOf ag).map (·.2)) F
 have Y:s.heap.objs.size≤h1.objs.size:=Dv ac;refine h _ _ d tk e _ ms Y (fun b u eb=>?_) he b1 (b2.trans hM) b3;have U:=Ar (J b u eb);rw[sortedHeap_old (AG U) (by rw[B5];exact Bj U)];exact Ai _ (J b u eb)
end
section
variable{X:Cx}{fc:List (Ah×Obj)}{σ:St}{H H':Hp}{s:Ad}{h':Ba}
theorem Inv.laidD{a:Ah}{o:HO}{t':Nat}{d':Hu}(I:Inv X fc σ H s)(k:∀ b u,s.heap.get? b=some u→h'.get? b=some u)(F:s.heap.objs.size≤a)(new:cP X.prog X.w (upd H a o) h' a o):
  Inv X fc σ (upd H a o) { s with heap:=h',drawn:=d',toks:=t' }:=by
 have u:Un (frs X.stack) [] H (upd H a o) s.heap h':=Un.laid k F (I.hok.fresh F);exact I.call (g':=s.gens) (d':=d') u (I.hok.laid k F new) I.bare (fun _ z=>nomatch z)
theorem tK(val:Nat→Str):∀ i,(eO val i).Nodup
 | 0=>Gf
 | i + 1=>by
  show(i6 (eO val i) (val i)).Nodup;have z:=tK val i;unfold i6;split
  ·exact z
  ·next hne=>
   rw[Dd];exact⟨z,by simp,fun x F y J e=>hne (by rw[← (show y=val i from by simpa using J),← e];exact F)⟩
def qK(ss:List Str):List Str:=eO (fun i=>ss.getD i "") ss.length
theorem z8(z:List Str)(k:Str):k∈qK z↔k∈z:=by
 unfold qK;rw[sZ];constructor
 ·rintro⟨j,hj,e⟩;rw[← e,Av,Af hj];exact BO hj
 ·intro F;obtain⟨j,hj,e⟩:=D8.mp F;exact⟨j,hj,by rw[Av,Af hj];exact e⟩
theorem nR(z:List Str):(qK z).Nodup:=tK _ _
def aEQ(P:Ay)(w:AV)(a:Ah)(ss:List Str):HO:=.ext fun h=>jR P w h a (fun k=>(qK ss).any fun x=>x == k) (qK ss).length
theorem z9{F:List Str}{its:List Ac}(O:cG (F.map V.str) its){i:Nat}{v:Ac}(U:its.toArray[i]?=some v):∃ t,v=Bw (F.getD i "") t:=by
 have z:=O.length;rw[Ab]at z;have J:its[i]?=some v:=by simpa using U
 have hi:i < F.length:=by
  rw[z];exact(AR.mp J).1
 have e:(F.map V.str)[i]?=some (V.str (F.getD i "")):=by
  rw[AC,Af hi];simp[hi]
 obtain⟨u,hu,ru⟩:=O.get e;rw[J]at hu;cases hu;exact ru
theorem aDs(hc:X.calm=true):eY X (.type "set") (fun xs H Q=>∃(p:Ah) (J:List Str),xs=[.ref p]∧(H p=some (.lst (J.map V.str))∨H p=some (.tup (J.map V.str)))∧J.length≤1000∧∀ a,H a=none→Q (.ref a) (upd H a (aEQ X.prog X.w a J))):=by
 intro fc s σ H xs us Q I r h;obtain⟨p,J,rfl,O,h1000,q⟩:=h;obtain⟨u,rfl,ru⟩:=gE r;cases ru;have U:∀(F:List Ac),F.length=J.length→∀(h':Ba) (tk:Nat),jR X.prog X.w h' s.heap.objs.size (fun k'=>(eO (fun i=>J.getD i "") F.toArray.size).any fun x=>x == k') (eO (fun i=>J.getD i "") F.toArray.size).length→
   (∀(b:Nat) (o:Obj),b < s.heap.objs.size→s.heap.get? b=some o→h'.get? b=some o)→EP X fc σ Q (AB s.heap.objs.size) { s with heap:=h',toks:=tk }:=by
  intro F hl h' tk Z hk;have Y:F.toArray.size=J.length:=by rw[Ao,hl]
  rw[Y]at Z;have aa:∀ b u,s.heap.get? b=some u→h'.get? b=some u:=fun b u e=>hk b u (Ar e) e;have hn:H s.heap.objs.size=none:=I.hok.fresh (Ap _);refine⟨.ref s.heap.objs.size,_,I.laid (t':=tk) (o:=aEQ X.prog X.w s.heap.objs.size J) aa (Ap _) ⟨Z,?_,fun h1 h2 f g=>?_⟩,rfl,q _ hn⟩
  ·obtain⟨o,_,_,_,e,_⟩:=Z;exact⟨o,e⟩
  ·exact f.at g
 rcases O with O | O
 ·obtain⟨F,rv,pl,_⟩:=I.list (aU O);have z:=rv.length;rw[Ab]at z;exact zU (val:=fun i=>J.getD i "") (I.ok.hd hc) pl.isList (fun i v W=>z9 rv W) (by rw[Ao,← z];show _ < 4096;omega) (U F z.symm)
 ·obtain⟨F,rv,pl,_⟩:=I.tuple (bG O);have z:=rv.length;rw[Ab]at z;exact zV (val:=fun i=>J.getD i "") (I.ok.hd hc) pl (fun i v W=>z9 rv W) (by rw[Ao,← z];show _ < 4096;omega) (U F z.symm)
theorem xK(hc:X.calm=true):eY X (.builtin "sorted") (fun xs H Q=>∃(p:Ah) (z:List Str),xs=[.ref p]∧H p=some (aEQ X.prog X.w p z)∧z.length < 64∧∀(l:Ah) (F:List Str),H l=none→F.Perm (qK z)→sortedS F=true→Q (.ref l) (upd H l (.lst (F.map V.str)))):=by
 intro fc s σ H xs us Q I r h;obtain⟨p,z,rfl,hx,h64,q⟩:=h;obtain⟨u,rfl,ru⟩:=gE r;cases ru;obtain⟨hS,_,_⟩:cP X.prog X.w H s.heap p (aEQ X.prog X.w p z):=I.hok p _ hx;have ac:(qK z).length≤z.length:=mC (fun i=>z.getD i "") z.length;refine zZ (I.ok.hd hc) hS (nR z) (fun k=>by rw[oE];simp) rfl (by omega) fun l h' d tk e out F O W ho ha J U=>?_;have Y:cG (F.map V.str) out.toList:=iN ha;have Z:=J.length_eq;exact⟨.ref l,_,I.laidD (t':=tk) (d':=d) (o:=.lst (F.map V.str)) W O ⟨aM (by rw[Ab];omega),out.toList,e,Y,by rw[ho] <;> rfl⟩,rfl,q l F (I.hok.fresh O) J U⟩
theorem oH:∀(p:Str) (l:List Str),risingS p l=true→(∀ x∈l,¬ x.cps.toList < p.cps.toList)∧l.Pairwise fun a b=>¬ b.cps.toList < a.cps.toList
 | p,[],_=>⟨fun x F=>by simp at F,Ea⟩
 | p,x :: r,h=>by
  have h':(!ltCps x.cps.toList p.cps.toList && risingS x r)=true:=h;rw[AX,ltCps_eq]at h';have F:¬ x.cps.toList < p.cps.toList:=by simpa using h'.1
  obtain⟨i1,i2⟩:=oH x r h'.2;refine⟨fun y J=>?_,C8.mpr ⟨i1,i2⟩⟩;rcases Al.mp J with rfl | J
  ·exact F
  ·intro z;have h1:=i1 y J;exact F (List.lt_of_le_of_lt (Dm.mp h1) z)
theorem kZ:∀(l:List Str),sortedS l=true→l.Pairwise fun a b=>¬ b.cps.toList < a.cps.toList
 | [],_=>Ea
 | x :: r,h=>C8.mpr (oH x r h)
theorem qS{a b:Str}(h:a.cps.toList=b.cps.toList):a=b:=by
 cases a;cases b;congr;exact DX.mp h
theorem lQ:∀{l m:List Str},l.Perm m→(l.Pairwise fun a b=>¬ b.cps.toList < a.cps.toList)→(m.Pairwise fun a b=>¬ b.cps.toList < a.cps.toList)→l=m
 | [],m,h,_,_=>(List.Perm.eq_nil h.symm).symm
 | x :: r,[],h,_,_=>by simpa using h.length_eq
 | x :: r,y :: q,h,h1,h2=>by
  obtain⟨a1,a2⟩:=C8.mp h1;obtain⟨b1,b2⟩:=C8.mp h2;have e:x=y:=by
   rcases Al.mp (h.mem_iff.mp (AF (a:=x) (l:=r)))with e | hx
   ·exact e
   ·rcases Al.mp (h.mem_iff.mpr (AF (a:=y) (l:=q)))with e | hy
    ·exact e.symm
    ·exact qS (EL (Dm.mp (a1 y hy)) (Dm.mp (b1 x hx)))
  subst e;rw[lQ ((Ge x).mp h) a2 b2]
end
def dZ{α:Type}(o:Nat→Nat→Bool):Ht α→α
 | .ret a=>a
 | .ask i j k=>dZ o (k (o i j))
def tM:Nat→List Nat→List (List Nat)
 | 0,_=>[[]]
 | f + 1,l=>l.flatMap fun x=>(tM f (l.erase x)).map (x :: ·)
theorem tN:∀(q l:List Nat),q.Perm l→q∈tM q.length l
 | [],l,_=>by simp[tM]
 | x :: r,l,h=>by
  have z:x∈l:=h.mem_iff.mp (by simp);have F:r.Perm (l.erase x):=by
   have:=h.trans (List.perm_cons_erase z);exact(Ge x).mp this
  show x :: r∈l.flatMap _;exact List.mem_flatMap.mpr ⟨x,z,Bb.mpr ⟨r,tN r _ F,rfl⟩⟩
def j7(n:Nat):Bool:=(tM n (AL n)).all fun π=>(dZ (fun i j=>decide (π.getD i 0 < π.getD j 0)) (CK n)).toList.map (fun i=>π.getD i 0) == AL n
theorem aIs:j7 2=true:=by decide
theorem aIt:j7 3=true:=by decide
theorem aIu:j7 4=true:=by decide
theorem aIv:j7 5=true:=by decide
theorem aIw:j7 6=true:=by decide
theorem nS{α:Type}{n:Nat}{P:α→Prop}{o o':Nat→Nat→Bool}(h:∀ i j,i < n→j < n→o i j=o' i j):∀{t:Ht α},hW n P t→dZ o t=dZ o' t
 | .ret a,_=>rfl
 | .ask i j k,z=>by
  show dZ o (k (o i j))=dZ o' (k (o' i j));rw[h i j z.1 z.2.1];exact nS h (z.2.2 _)
theorem hW.run{α:Type}{n:Nat}{P:α→Prop}(o:Nat→Nat→Bool):∀{t:Ht α},hW n P t→P (dZ o t)
 | .ret a,h=>h
 | .ask i j k,h=>by
  show P (dZ o (k (o i j)));exact hW.run o (h.2.2 (o i j))
theorem hW.wpO{α:Type}{n:Nat}{P:α→Prop}{z:Nat→Nat→(Bool→Ad→Prop)→Ad→Prop}{Q:α→Ad→Prop}{s:Ad}{o:Nat→Nat→Bool}(hc:∀ i j C,i < n→j < n→C (o i j) s→z i j C s):∀{t:Ht α},hW n P t→Q (dZ o t) s→t.kasWp z Q s
 | .ret a,_,q=>by rw[KasT.kasWp.eq_1];exact q
 | .ask i j k,h,q=>by
  rw[KasT.kasWp.eq_2];exact hc i j _ h.1 h.2.1 (hW.wpO hc (h.2.2 _) q)
abbrev P3:=Str×Str×Int
def xM(x y:P3):Bool:=if x.1 == y.1 then(if x.2.1 == y.2.1 then(if x.2.2 == y.2.2 then false else decide (x.2.2 < y.2.2)) else decide (x.2.1.cps.toList < y.2.1.cps.toList)) else decide (x.1.cps.toList < y.1.cps.toList)
inductive aCh(h:Ba)(v:Ac)(x:P3):Prop
 | mk (t:_) (u1:_) (u2:_) (u3:_) (q0:v=.ref t) (q1:EK h t #[.str x.1 u1,.str x.2.1 u2,.int x.2.2 u3]):aCh h v x
def nC(h:Ba)(v:Ac)(x:P3):Prop:=aCh h v x
section
variable{prog:Ay}{w:AV}{A:AO}{E:Ac→Ad→Prop}{s:Ad}
theorem xN{a b:Int}{t u:Tok}{Q:Bool→Ad→Prop}(h:Q (decide (a < b)) s):wpAny (model prog w) A (oneLt' false (Ci a t) (Ci b u)) Q E s:=by
 rw[oneLt'_eq];show wpAny _ _ (compareOp .Lt (Ci a t) (Ci b u) >>= _) _ _ _;apply Aa;refine lt_int ?_
 wp_walk
 exact h
theorem xO{a b:Str}{t u:Tok}{Q:Bool→Ad→Prop}(h:Q (decide (a.cps.toList < b.cps.toList)) s):wpAny (model prog w) A (oneLt' false (Bw a t) (Bw b u)) Q E s:=by
 rw[oneLt'_eq];show wpAny _ _ (compareOp .Lt (Bw a t) (Bw b u) >>= _) _ _ _;apply Aa;refine lt_str ?_
 wp_walk
 exact h
theorem ltP{z:Bool}{v1 Z:Ac}{x y:P3}{C:Bool→Ad→Prop}(O:nC s.heap v1 x)(U:nC s.heap Z y)(h:C (xM x y) s):wpAny (model prog w) A (keyLt' (tuples' z) v1 Z) C E s:=by
 obtain⟨a1,b1,c1⟩:=x;obtain⟨a2,b2,c2⟩:=y;obtain⟨p1,t1,t2,t3,rfl,O⟩:=O;obtain⟨p2,u1,u2,u3,rfl,U⟩:=U;dsimp only at O U;unfold xM at h;dsimp only at h;show wpAny _ _ (CY (.ref p1) >>= _) _ _ _;refine Aa (iT O ?_);refine Aa (iT U ?_);dsimp only[List.zip_cons_cons,List.zipIdx_cons,List.zip_nil_left];rw[List.zipIdx_nil];have e1:∀{Q:Bool→Ad→Prop} {a b:Int} {t u:Tok},Q (a == b) s→wpAny (model prog w) A (eqBool (.int a t) (.int b u)) Q E s:=fun{Q a b t u} q=>xC (y:=.int a) (x:=.int b) ⟨t,rfl⟩ ⟨u,rfl⟩ rfl rfl prog w _ _ q;have Y:∀{Q:Bool→Ad→Prop} {a b:Str} {t u:Tok},Q (a == b) s→wpAny (model prog w) A (eqBool (.str a t) (.str b u)) Q E s:=fun{Q a b t u} q=>EX a t b u prog w _ _ q;refine Aa ?_;rw[CQ];refine Aa (Aa (Y ?_));cases hz:(a1 == a2)with
 | false=>
  rw[hz]at h;refine BJ (by decide) ?_;refine Aa ?_;show wpAny _ _ (oneLt' (z && 0 == 0) (Bw a1 t1) (Bw a2 u1)) _ _ _;cases z
  ·exact xO (Ae (Ae (Ae h)))
  ·exact oneLt_str (Ae (Ae (Ae h)))
 | true=>
  rw[hz,Ib rfl]at h;refine An (by decide) (Ae ?_);dsimp only;rw[CQ];refine Aa (Aa (Y ?_));cases J:(b1 == b2)with
  | false=>
   rw[J]at h;refine BJ (by decide) ?_;refine Aa ?_;have W:(z && ((0 + 1:Nat) == 0))=false:=by cases z <;> rfl
   show wpAny _ _ (oneLt' (z && (0 + 1 == 0)) (Bw b1 t2) (Bw b2 u2)) _ _ _;rw[W];exact xO (Ae (Ae (Ae h)))
  | true=>
   rw[J,Ib rfl]at h;refine An (by decide) (Ae ?_);dsimp only;rw[CQ];refine Aa (Aa (e1 ?_));cases F:(c1 == c2)with
   | false=>
    rw[F]at h;refine BJ (by decide) ?_;refine Aa ?_;have W:(z && ((0 + 1 + 1:Nat) == 0))=false:=by cases z <;> rfl
    show wpAny _ _ (oneLt' (z && (0 + 1 + 1 == 0)) (Ci c1 t3) (Ci c2 u3)) _ _ _;rw[W];exact xN (Ae (Ae (Ae h)))
   | true=>
    rw[F,Ib rfl]at h;refine An (by decide) (Ae ?_);dsimp only;rw[Gg];exact Ae (Ae h)
end
def gU(ps:List P3):List Nat:=(dZ (fun i j=>xM (ps.getD i ("","",0)) (ps.getD j ("","",0))) (CK ps.length)).toList
theorem j8(ps:List P3)(h:0 < ps.length):(gU ps).Perm (AL ps.length):=by
 have:=hW.run (fun i j=>xM (ps.getD i ("","",0)) (ps.getD j ("","",0))) (iR h);exact Ep.mp this
section
variable{prog:Ay}{w:AV}{A:AO}{E:Ac→Ad→Prop}{s:Ad}
theorem aJE{ks:List Ac}{Q:D5→Ad→Prop}(hk:∀ v∈ks,∃ x,nC s.heap v x)(h:∀ b,Q (tuples' b) s):wpAny (model prog w) A (keyKind' ks.toArray) Q E s:=by
 rw[keyKind'_eq,Du];refine Aa ?_;rw[← bind_pure_comp];refine Aa (lP (R:=fun _ r=>∃ a u,r=some (Bw a u)) ks (fun v J=>?_) fun rs hl F=>Ae ?_)
 ·obtain⟨x,t,u1,u2,u3,rfl,ht⟩:=hk v J;refine⟨some (.str x.1 u1),⟨x.1,u1,rfl⟩,fun W q=>?_⟩;rw[kas_first_eq];refine Aa (B0 ht.typeIs ?_);refine An (by decide) ?_;refine Aa (iT ht ?_);exact Ae q
 ·have z:(rs.toArray.all fun x=>x.isSome)=true:=by
   rw[List.all_toArray,Bg];intro r Y;obtain⟨v,_,a,u,rfl⟩:=F r Y;rfl
  refine BJ (by rw[z];rfl) ?_;refine Aa (EF ?_);rw[oneTypeOnly'_eq,Du]
  iterate 2 refine Aa ?_
  rw[← bind_pure_comp];refine Aa (lP (R:=fun _ r=>r=AJ "str") _ (fun v J=>?_) fun ts ac Z=>Ae ?_)
  ·have O:some v∈rs:=by simpa using J
   obtain⟨_,_,a,u,e⟩:=F _ O;cases e;exact⟨_,rfl,fun W q=>B0 (Gs s a u) q⟩
  ·cases U:ts.toArray[0]? with
   | none=>exact Ae (Ae (h _))
   | some t=>exact Ae (Ae (h _))
theorem aJF{b:Bool}{vs:List Ac}{ps:List P3}{Q:Unit×Fw→Ad→Prop}(hl:vs.length=ps.length)(h2:2≤vs.length)(J:vs.length < 64)(U:∀ i,i < vs.length→nC s.heap (vs.getD i .none) (ps.getD i ("","",0)))
  (h:∀ st:Fw,(arrOf st).map (·.2)=((gU ps).map fun i=>vs.getD i .none).toArray→failedOf st=none→Q ((),st) s):wpAny (model prog w) A (sortRuns'.run (FW (tuples' b) (vs.toArray.zip vs.toArray) #[] 7 none)) Q E s:=by
 have hz:(vs.toArray.zip vs.toArray).size=vs.length:=by simp
 have F:=kas_runs (prog:=prog) (w:=w) (A:=A) (E:=E) (κ:=tuples' b) (it:=vs.toArray.zip vs.toArray) (n:=vs.length) (s:=s) (Q:=fun u st s'=>s'=s∧Q (u,st) s) (G:=fun p s'=>p.toList=gU ps∧s'=s) h2 J (fun p' O s' W ha hf hG=>?_)
  (hW.wpO (n:=vs.length) (P:=Pm vs.length) (o:=fun i j=>xM (ps.getD i ("","",0)) (ps.getD j ("","",0))) (fun i j C hi hj Z=>?_) (iR (by omega)) ⟨by unfold gU;rw[hl],rfl⟩)
 ·have Y:kas_st (tuples' b) (vs.toArray.zip vs.toArray) (AL vs.length).toArray=FW (tuples' b) (vs.toArray.zip vs.toArray) #[] 7 none:=by
   unfold kas_st;have:=kas_range (vs.toArray.zip vs.toArray);rw[hz]at this;rw[this]
  rw[Y]at F;exact A9 F (fun r s' z=>by
   obtain⟨rfl,q⟩:=z;exact q) fun e s' z=>z
 ·obtain⟨hp,rfl⟩:=hG;refine⟨rfl,h O ?_ hf⟩;rw[ha];apply DX.mp;rw[Array.map_map,FI,hp];show _=(gU ps).map _;refine Eg fun i _=>?_;show(F1 (pairsOf vs) i).2=_;rw[Hr]
 ·unfold kas_cmp;show wpAny _ _ (keyLt' _ (F1 (pairsOf vs) i).1 (F1 (pairsOf vs) j).1) _ _ _;rw[Hr,Hr];exact ltP (U i hi) (U j hj) Z
theorem nC.keep{h h':Ba}{v:Ac}{x:P3}(p:nC h v x)(k:∀ b o,h.get? b=some o→o.cls=.type "tuple"→h'.get? b=some o):nC h' v x:=by
 obtain⟨t,u1,u2,u3,e,o,ho,hc,r⟩:=p;exact⟨t,u1,u2,u3,e,o,k t o ho hc,hc,r⟩
theorem aBg{a:Ah}{vs:List Ac}{ps:List P3}{n:Nat}{P:Hi→Ad→Prop}(gA:s.heap.get? a=some (seqObj "list" vs.toArray n))(hl:vs.length=ps.length)(h2:2≤vs.length)(ae:vs.length < 64)(hk:∀ i,i < vs.length→nC s.heap (vs.getD i .none) (ps.getD i ("","",0)))
  (h:∀(h':Ba) (e:Nat),(∀ b u,b≠a→s.heap.get? b=some u→h'.get? b=some u)→h'.get? a=some (seqObj "list" ((gU ps).map fun i=>vs.getD i .none).toArray e)→P (.done (.ret .none)) { s with heap:=h' }):
  wpAny (model prog w) A (Builtin.«list.sort» ⟨[.ref a],[]⟩) P E s:=by
 have zz:∀ m,m≤vs.length→m≤sizeLine:=fun m hm=>aM (by omega);rw[list_sort_plain];refine Aa (E5 gA rfl ?_);refine Aa (DM gA rfl ?_ (by rw[Ao];exact zz _ (Ap _)) (Bo _));have J:=get?_update_seq gA (fun _=>#[]);generalize (if ((#[]:Array Ac).size == vs.toArray.size)=true then n else n + 1)=e1 at J;have U:∀ b u,b≠a→s.heap.get? b=some u→(s.heap.update a (Bp fun _=>#[])).get? b=some u:=fun b u nb e=>by
  rw[BM _ _ _ _ nb];exact e
 dsimp only;generalize s.heap.update a (Bp fun _=>#[])=h1 at J U ⊢;refine Aa (Gm J rfl ?_);refine Aa (Gq ?_ (by simpa using zz _ (Ap _)));refine Aa (EU ?_ (Bo _));refine A1 ?_;have O:((h1.push { cls:=AJ "tuple",data:=CT vs.toArray.toList.toArray }).push { cls:=AJ "list",data:=CT ([]:List Ac).toArray }).get? a=some (seqObj "list" #[] e1):=Ai _ (Ai _ J);have F:∀ b u,b≠a→s.heap.get? b=some u→((h1.push { cls:=AJ "tuple",data:=CT vs.toArray.toList.toArray }).push { cls:=AJ "list",data:=CT ([]:List Ac).toArray }).get? b=some u:=fun b u nb e=>Ai _ (Ai _ (U b u nb e));dsimp only;generalize (h1.push { cls:=AJ "tuple",data:=CT vs.toArray.toList.toArray }).push { cls:=AJ "list",data:=CT ([]:List Ac).toArray }=h3 at O F ⊢;have Y:∀ i,i < vs.length→nC h3 (vs.getD i .none) (ps.getD i ("","",0)):=fun i hi=>(hk i hi).keep fun b o e hc=>F b o (fun z=>by
  rw[z,gA]at e;cases e;have ad:(AJ "list")=AJ "tuple":=hc;injection ad with z2;exact absurd z2 (by decide)) e
 have W:¬ vs.toArray.size < 2:=by simpa using Nat.not_lt.mpr h2
 rw[Ia W,Ia W];refine Aa (aJE (fun v hv=>?_) fun b=>?_)
 ·obtain⟨i,hi,rfl⟩:=D8.mp hv;have:=Y i hi;rw[Av,Af hi]at this;exact⟨_,this⟩
 ·refine Aa (aJF hl h2 ae Y fun st Z hf=>?_);dsimp only;refine Aa (Gm O rfl ?_);have ag:((gU ps).map fun i=>vs.getD i .none).length=vs.length:=by rw[Ab,(j8 ps (by omega)).length_eq,BF,hl]
  refine Aa (DM O rfl ?_ (Bo _) (by show((arrOf st).map (·.2)).size≤_;rw[Z,Ao,ag];exact Nat.le_succ_of_le (zz _ (Ap _))))
  rw[hf];refine An (by simp) ?_;obtain⟨e3,gA3⟩:∃ e3,(h3.update a (Bp fun _=>(arrOf st).map (·.2))).get? a=some (seqObj "list" ((arrOf st).map (·.2)) e3):=⟨_,get?_update_seq O (fun _=>(arrOf st).map (·.2))⟩
  refine Ae (h _ e3 (fun b u nb e=>?_) (by rw[← Z];exact gA3));rw[BM _ _ _ _ nb];exact F b u nb e
end
section
variable{prog:Ay}{w:AV}{A:AO}{E:Ac→Ad→Prop}{s:Ad}
theorem aAa{p:Ah}{its:List Ac}{Q:List Ac→Ad→Prop}(O:EK s.heap p its.toArray)(U:its.length≤sizeLine)
  (h:∀ h1:Ba,(∀ b u,s.heap.get? b=some u→h1.get? b=some u)→s.heap.objs.size≤h1.objs.size→Q its { s with heap:=h1 }):wpAny (model prog w) A (collect (.ref p)) Q E s:=by
 obtain⟨o,ho,hc,n,hd⟩:=O;unfold collect;apply Aa;apply DB;apply BB E9;rw[BC E8];show wpAny _ A.in1 (newList [] >>= fun l=>again (.builtin "list.__iadd__" ⟨[l,.ref p],[]⟩)) _ _ s;apply Aa;refine BI (Ae ⟨Dk Dp _,BB FU ?_⟩);rw[BC Dp];have F:(s.heap.push (seqObj "list" #[] 0)).get? p=some o:=Ai _ ho;have z:(s.heap.push (seqObj "list" #[] 0)).get? s.heap.objs.size=some (seqObj "list" #[] 0):=Aq _ rfl;show wpAny _ A.in1 (Cf (.ref s.heap.objs.size) (.ref p) (.ref s.heap.objs.size)) _ _ { s with heap:=s.heap.push (seqObj "list" #[] 0) };unfold Cf;refine Aa (B0 (T:="tuple") ⟨o,F,hc⟩ ?_);rw[Ib (by simp)];apply Aa;refine E5 F hd ?_;apply Aa;refine E5 z rfl ?_;rw[Ia (by simp)];refine Aa (DM z rfl ?_ (Bo _) (by show(#[] ++ its.toArray).size≤sizeLine + 1;simp only[Array.size_append,Ao,By];omega));apply Ae;have J:=get?_update_seq z (· ++ its.toArray)
 show wpAny (model prog w) A (load s.heap.objs.size >>= _) Q E _;refine Aa (Gr J ?_);show wpAny _ _ (pure ((#[]:Array Ac) ++ its.toArray).toList) Q E _;rw[show((#[]:Array Ac) ++ its.toArray).toList=its by simp];refine Ae (h _ (fun b u e=>?_) (Dv (Ar J)));rw[BM _ _ _ _ (AG (Ar e))];exact Ai _ e
theorem tO{p:Ah}{its:List Ac}{Q:Ac→Ad→Prop}(Z:EK s.heap p its.toArray)(U:its.length < 64)
  (h:∀(h1:Ba),(∀ b u,s.heap.get? b=some u→h1.get? b=some u)→s.heap.objs.size≤h1.objs.size→wpAny (model prog w) A.in1.in1 (Builtin.«list.sort» ⟨[.ref h1.objs.size],[]⟩) (fun F s'=>F=.done (.ret .none)∧Q (.ref h1.objs.size) s') E { s with heap:=h1.push (seqObj "list" its.toArray 0) }):
  wpAny (model prog w) A (call (.builtin "sorted") [.ref p]) Q E s:=by
 have O:its.length≤sizeLine:=aM (by omega);refine Calls.call_function_entry Hq G8 Hf (args_sorted1 _) ?_;unfold Builtin.«sorted»;apply Aa (m:=checkCount "sorted" 1 1 _);apply Ae;refine Aa (aAa Z O fun h1 W Y=>?_);apply Aa;refine EU ?_ O;have J:(h1.push (seqObj "list" its.toArray 0)).get? h1.objs.size=some (seqObj "list" its.toArray 0):=Aq _ rfl;refine Aa (A1 (Ck slot_list_sort ⟨_,J,rfl⟩ entry_list_sort (A9 (h h1 W Y) (fun F s' z=>⟨.none,z.1,?_⟩) fun _ _ e=>e) (args_list_sort _)));exact Ae ⟨_,rfl,z.2⟩
end
section
variable{X:Cx}
inductive jH(xs:List V)(H:Hp)(Q:VK):Prop
 | mk (p:Ah) (ns:List Str) (q0:xs=[.ref p]) (q1:H p=some (.tup (ns.map V.str))) (q2:ns.length < 64) (q3:∀(l:Ah) (ms:List Str),H l=none→ms.Perm ns→sortedS ms=true→Q (.ref l) (upd H l (.lst (ms.map V.str)))):jH xs H Q
def qL:List V→Hp→VK→Prop:=fun xs H Q=>jH xs H Q
theorem vG:eY X (.builtin "sorted") qL:=by
 intro fc s σ H xs us Q I r h;obtain⟨p,ns,rfl,hx,h64,q⟩:=h;obtain⟨u,rfl,ru⟩:=gE r;cases ru;obtain⟨its,rv,ht,_⟩:=I.tuple (bG hx);have hi:Gp its ns:=nQ rv;have O:=rv.length;rw[Ab]at O;refine tO ht (by omega) fun h1 W Y=>?_;have F:(h1.push (seqObj "list" its.toArray 0)).get? h1.objs.size=some (seqObj "list" its.toArray 0):=Aq _ rfl;refine list_sort_treeK strKind_oneLt F hi.keysOf (fun v₁ v₂ cM e=>keyKind_strs (by rw[← e];exact hi)) (by omega) fun J a1 a2=>⟨rfl,?_⟩
 obtain⟨ms,b1,b2,b3⟩:=sorted_out_str hi a1 a2;obtain⟨e,he⟩:=sortedHeap_at (vs:=its) (out:=(arrOf J).map (·.2)) F
 have Z:=b2.length_eq;refine⟨.ref h1.objs.size,_,I.laid (t':=s.toks) (o:=.lst (ms.map V.str)) (fun b u U=>?_) Y ⟨aM (by rw[Ab];omega),((arrOf J).map (·.2)).toList,e,iN b1,by rw[he] <;> rfl⟩,rfl,q _ ms (I.hok.fresh Y) b2 b3⟩
 have z:=Ar (W b u U);rw[sortedHeap_old (AG z) (by rw[B5];exact Bj z)];exact Ai _ (W b u U)
inductive aCi(H:Hp)(v:V)(x:P3):Prop
 | mk (t:_) (q0:v=.ref t) (q1:H t=some (.tup [.str x.1,.str x.2.1,.int x.2.2])):aCi H v x
def v6(H:Hp)(v:V)(x:P3):Prop:=aCi H v x
theorem v6.real{fc:List (Ah×Obj)}{σ:St}{H:Hp}{s:Ad}{v:V}{u:Ac}{x:P3}(I:Inv X fc σ H s)(h:v6 H v x)(r:c5 v u):nC s.heap u x:=by
 obtain⟨t,rfl,ht⟩:=h;cases r;obtain⟨_,its,z,hT⟩:cP X.prog X.w H s.heap t (.tup [.str x.1,.str x.2.1,.int x.2.2]):=I.hok _ _ ht;cases z with
 | cons J z=>
  cases z with
  | cons O z=>
   cases z with
   | cons F z=>
    cases z;obtain⟨u1,e1⟩:=J;obtain⟨u2,e2⟩:=O;obtain⟨u3,e3⟩:=F;subst e1 e2 e3;exact⟨t,u1,u2,u3,rfl,hT⟩
theorem pL{vs:List V}{its:List Ac}(r:cG vs its):∀(q:List Nat),(∀ i∈q,i < vs.length)→cG (q.map fun i=>vs.getD i .non) (q.map fun i=>its.getD i .none)
 | [],_=>.nil
 | i :: q,h=>by
  have hi:=h i (by simp);obtain⟨u,hu,ru⟩:=r.get (Af hi);refine .cons ?_ (pL r q fun j z=>h j (by simp[z]));show c5 (vs.getD i .non) (its.getD i .none);rw[Av,Av,Af hi,hu];exact ru
inductive j9(xs:List V)(H:Hp)(Q:VK):Prop
 | mk (p:Ah) (vs:List V) (ps:List P3) (q0:xs=[.ref p]) (q1:H p=some (.tup vs)) (q2:vs.length=ps.length) (q3:2≤vs.length) (q4:vs.length < 64) (q5:(∀ i,i < vs.length→v6 H (vs.getD i .non) (ps.getD i ("","",0)))) (q6:∀(l:Ah),H l=none→Q (.ref l) (upd H l (.lst ((gU ps).map fun i=>vs.getD i .non)))):j9 xs H Q
def tP:List V→Hp→VK→Prop:=fun xs H Q=>j9 xs H Q
theorem xP:eY X (.builtin "sorted") tP:=by
 intro fc s σ H xs us Q I r h;obtain⟨p,vs,ps,rfl,hx,hl,h2,h64,hk,q⟩:=h;obtain⟨u,rfl,ru⟩:=gE r;cases ru;obtain⟨its,rv,ht,_⟩:=I.tuple (bG hx);have Z:=rv.length;refine tO ht (by omega) fun h1 O hg=>?_;have W:(h1.push (seqObj "list" its.toArray 0)).get? h1.objs.size=some (seqObj "list" its.toArray 0):=Aq _ rfl;have F:∀ b u,s.heap.get? b=some u→(h1.push (seqObj "list" its.toArray 0)).get? b=some u:=fun b u e=>Ai _ (O b u e);have J:=j8 ps (by omega);have ad:(gU ps).length=ps.length:=by rw[J.length_eq,BF]
 refine aBg (ps:=ps) W (by omega) (by omega) (by omega) (fun i hi=>?_) fun h' e Y he=>⟨rfl,?_⟩
 ·have z:i < vs.length:=by omega
  obtain⟨u,hu,ru⟩:=rv.get (Af z);have:=hk i z;rw[Av,Af z]at this;rw[Av,hu];exact(v6.real I this ru).keep fun b o U _=>F b o U
 ·refine⟨.ref h1.objs.size,_,I.laid (t':=s.toks) (o:=.lst ((gU ps).map fun i=>vs.getD i .non)) (fun b u U=>Y b u (AG (Ar (O b u U))) (F b u U)) hg ⟨aM (by rw[Ab];omega),(gU ps).map fun i=>its.getD i .none,e,pL rv _ (fun i hi=>?_),he⟩,rfl,q _ (I.hok.fresh hg)⟩;have:=J.mem_iff.mp hi;rw[Bt]at this;omega
end
def v7(R:List P3):Prop:=R.Pairwise fun a b=>a.1.cps.toList < b.1.cps.toList
theorem aBh{R:List P3}(h:v7 R):R.Nodup:=h.imp fun{a b} z e=>by
 subst e;exact C4 _ z
theorem aGz{R:List P3}(h:v7 R){a b:P3}(ha:a∈R)(Y:b∈R):xM a b=decide (R.idxOf a < R.idxOf b):=by
 have ia:=Ej ha;have ib:=Ej Y;have O:R[R.idxOf a]=a:=Fs ia;have U:R[R.idxOf b]=b:=Fs ib;have W:=Ey.mp h;rcases Nat.lt_trichotomy (R.idxOf a) (R.idxOf b)with z | z | z
 ·have F:=W _ _ ia ib z;rw[O,U]at F;have J:(a.1 == b.1)=false:=by
   rw[beq_eq_false_iff_ne];intro e;rw[e]at F;exact C4 _ F
  unfold xM;rw[J,Ic z];exact Ic F
 ·have e:a=b:=by rw[← O,← U];simp[z]
  subst e;unfold xM;simp
 ·have F:=W _ _ ib ia z;rw[O,U]at F;have J:(a.1 == b.1)=false:=by
   rw[beq_eq_false_iff_ne];intro e;rw[e]at F;exact C4 _ F
  unfold xM;rw[J,decide_eq_false (show¬ (R.idxOf a < R.idxOf b) by omega)];exact decide_eq_false fun y=>C4 _ (Fp F y)
theorem aDt{n:Nat}(h2:2≤n)(z:n≤6):j7 n=true:=by
 have:n=2∨n=3∨n=4∨n=5∨n=6:=by omega
 rcases this with rfl | rfl | rfl | rfl | rfl
 ·exact aIs
 ·exact aIt
 ·exact aIu
 ·exact aIv
 ·exact aIw
theorem aDu{R:List P3}(h:R.Nodup):R.map (fun x=>R.idxOf x)=AL R.length:=by
 apply FJ
 ·simp
 ·intro i h1 h2;have z:i < R.length:=by simpa using h1
  simp only[C5,List.getElem_range];exact h.idxOf_getElem i z
theorem aAb{T R:List P3}(Y:T.Perm R)(hR:v7 R)(h2:2≤T.length)(h6:T.length≤6)(d:P3):(gU T).map (fun i=>T.getD i d)=R:=by
 have hl:=Y.length_eq;have hn:=aBh hR;obtain⟨π,hπ⟩:∃ π,π=T.map (fun x=>R.idxOf x):=⟨_,rfl⟩
 have Z:π.Perm (AL T.length):=by
  rw[hπ,hl,← aDu hn];exact Y.map _
 have aa:π.length=T.length:=by rw[hπ,Ab]
 have O:π∈tM T.length (AL T.length):=by
  have:=tN π _ Z;rw[aa]at this;exact this
 have J:∀ i,i < T.length→π.getD i 0=R.idxOf (T.getD i ("","",0)):=fun i hi=>by
  rw[hπ,Av,Av,AC,Af hi];rfl
 have F:∀ i,i < T.length→T.getD i ("","",0)∈R:=fun i hi=>by
  rw[Av,Af hi];exact Y.mem_iff.mp (BO hi)
 have hk:gU T=(dZ (fun i j=>decide (π.getD i 0 < π.getD j 0)) (CK T.length)).toList:=by
  unfold gU;congr 1;refine nS (n:=T.length) (P:=Pm T.length) (fun i j hi W=>?_) (iR (by omega));rw[J i hi,J j W];exact aGz hR (F i hi) (F j W)
 have hs:=Bg.mp (aDt h2 h6) π O;have U:=eq_of_beq hs;rw[← hk]at U;have ac:(gU T).length=T.length:=by rw[(j8 T (by omega)).length_eq,BF]
 apply FJ
 ·rw[Ab,ac,hl]
 ·intro j h1 ag;have W:j < (gU T).length:=by simpa using h1
  have e:((gU T).map (fun i=>π.getD i 0))[j]?=(AL T.length)[j]?:=by rw[U]
  rw[AC,Af W,C3 (by omega)]at e;have e':π.getD (gU T)[j] 0=j:=by simpa using e
  have z:(gU T)[j] < T.length:=by
   have:=(j8 T (by omega)).mem_iff.mp (BO W)
   rwa [Bt]at this
  rw[J _ z]at e';rw[C5];have hm:=F _ z;have hd:T.getD (gU T)[j] d=T.getD (gU T)[j] ("","",0):=by
   rw[Av,Av,Af z];rfl
  rw[hd];have:=Fs (Ej hm);rw[← this];congr 1
section
variable{n:Nat}{π:Nat→Nat}
abbrev Kp(π:Nat→Nat)(p:Array Nat)(j:Nat):Nat:=π (p.getD j 0)
abbrev ord(π:Nat→Nat):Nat→Nat→Bool:=fun i j=>decide (π i < π j)
def KS(π:Nat→Nat)(p:Array Nat)(k:Nat):Prop:=∀ i j,i < j→j < k→Kp π p i < Kp π p j
theorem iU{α β:Type}(o:Nat→Nat→Bool)(f:α→Ht β):∀ t:Ht α,dZ o (t.bind f)=dZ o (f (dZ o t))
 | .ret a=>by rw[KasT.bind.eq_1];rfl
 | .ask i j k=>by
  rw[KasT.bind.eq_2];show dZ o ((k (o i j)).bind f)=_;rw[iU o f (k (o i j))];rfl
theorem kC{α:Type}(o:Nat→Nat→Bool)(i j:Nat)(k:Bool→Ht α):dZ o (.ask i j k)=dZ o (k (o i j)):=rfl
theorem oI{p:Array Nat}{j v:Nat}(h:p[j]?=some v):p.getD j 0=v:=by rw[Bu,h];rfl
theorem Pm.size{p:Array Nat}(h:Pm n p):p.size=n:=by rw[h.size_eq];simp
theorem Pm.ne{p:Array Nat}(h:Pm n p){i j:Nat}(hi:i < n)(O:j < n)(F:i≠j):p.getD i 0≠p.getD j 0:=by
 have hz:=h.size;have z:p.toList.Nodup:=(Ep.mp h).nodup_iff.mpr (by simpa using List.nodup_range);rw[oI (Ca (by omega)),oI (Ca (by omega))];intro e;have J:p.toList[i]'(by simpa using(by omega:i < p.size))=p.toList[j]'(by simpa using(by omega:j < p.size)):=by simpa using e
 exact F ((DY z).mp J)
variable(hn:0 < n)(hπ:∀ i j,i < n→j < n→π i=π j→i=j)
include hn hπ
theorem aER{p:Array Nat}(h:Pm n p){i j:Nat}(hi:i < n)(F:j < n)(z:i≠j):Kp π p i≠Kp π p j:=fun e=>h.ne hi F z (hπ _ _ (h.lt hn i) (h.lt hn j) e)
theorem aCj{p:Array Nat}(h:Pm n p){k:Nat}(W:1≤k)(z:k < n)(J:KS π p k)(Y:¬ Kp π p k < Kp π p (k - 1)):KS π p (k + 1):=by
 intro i j F U;by_cases e:j=k
 ·subst e;have h1:Kp π p (j - 1) < Kp π p j:=by
   have:=aER hn hπ h (i:=j - 1) (j:=j) (by omega) z (by omega);omega
  by_cases O:i=j - 1
  ·rw[O];exact h1
  ·exact DS (J i (j - 1) (by omega) (by omega)) h1
 ·exact J i j F (by omega)
theorem qT{p:Array Nat}(h:Pm n p):∀(f x:Nat),1≤x→x + f≤n→KS π p x→x≤dZ (ord π) (kas_asc p f x)∧dZ (ord π) (kas_asc p f x)≤x + f∧KS π p (dZ (ord π) (kas_asc p f x))
 | 0,x,h1,h2,z=>by
  rw[kas_asc.eq_1];exact⟨Ap _,by show x≤x + 0;omega,z⟩
 | f + 1,x,h1,h2,z=>by
  rw[kas_asc.eq_2,kC];by_cases F:Kp π p x < Kp π p (x - 1)
  ·rw[show ord π (p.getD x 0) (p.getD (x - 1) 0)=true from Ic F];show x≤dZ (ord π) (.ret x)∧_;exact⟨Ap _,by show x≤x + (f + 1);omega,z⟩
  ·rw[show ord π (p.getD x 0) (p.getD (x - 1) 0)=false from decide_eq_false F];have J:=qT h f (x + 1) (by omega) (by omega) (aCj hn hπ h h1 (by omega) z F);show x≤dZ (ord π) (kas_asc p f (x + 1))∧dZ (ord π) (kas_asc p f (x + 1))≤x + (f + 1)∧KS π p (dZ (ord π) (kas_asc p f (x + 1)));exact⟨by omega,by omega,J.2.2⟩
def KF(π:Nat→Nat)(p:Array Nat)(k:Nat):Prop:=∀ j,1≤j→j < k→Kp π p j < Kp π p (j - 1)
omit hn hπ in
theorem aES{p:Array Nat}{k:Nat}(h:KF π p k):∀(d i:Nat),i + d + 1 < k→Kp π p (i + d + 1) < Kp π p i
 | 0,i,z=>h (i + 0 + 1) (by omega) z
 | d + 1,i,z=>by
  have h1:=aES h d i (by omega);have h2:=h (i + (d + 1) + 1) (by omega) z;have e:i + (d + 1) + 1 - 1=i + d + 1:=by omega
  rw[e]at h2;exact DS h2 h1
theorem aAc{p:Array Nat}(h:Pm n p):∀(f x:Nat),1≤x→x + f≤n→KF π p x→∃ m,dZ (ord π) (kas_desc f p x 0)=(p,m,0)∧x≤m∧m≤x + f∧KF π p m
 | 0,x,h1,h2,z=>by
  rw[kas_desc.eq_1];exact⟨x,rfl,Ap _,by omega,z⟩
 | f + 1,x,h1,h2,z=>by
  rw[kas_desc.eq_2,kC];by_cases F:Kp π p x < Kp π p (x - 1)
  ·rw[show ord π (p.getD x 0) (p.getD (x - 1) 0)=true from Ic F];have J:KF π p (x + 1):=fun j a b=>by
    by_cases e:j=x
    ·rw[e];exact F
    ·exact z j a (by omega)
   obtain⟨m,e,a,b,c⟩:=aAc h f (x + 1) (by omega) (by omega) J;refine⟨m,?_,by omega,by omega,c⟩;exact e
  ·rw[show ord π (p.getD x 0) (p.getD (x - 1) 0)=false from decide_eq_false F];refine⟨x,?_,Ap _,by omega,z⟩;show dZ (ord π) (.ask (p.getD (x - 1) 0) (p.getD x 0) _)=_;rw[kC];have O:Kp π p (x - 1) < Kp π p x:=by
    have:=aER hn hπ h (i:=x - 1) (j:=x) (by omega) (by omega) (by omega);omega
   rw[show ord π (p.getD (x - 1) 0) (p.getD x 0)=true from Ic O];rfl
omit hn hπ in
theorem aET{p:Array Nat}{m k:Nat}(hm:m≤p.size)(z:k < m):(Hc p 0 m).getD k 0=p.getD (m - 1 - k) 0:=by
 unfold Hc;rw[Bu,getElem?_mirror_all hm,Ib ⟨Bo _,z⟩,Bu];congr 2;omega
theorem aDv{p:Array Nat}(h:Pm n p){m:Nat}(h1:1≤m)(hm:m≤n)(U:KF π p m):∃ r,dZ (ord π) (GX m n p)=r∧1≤r.1∧r.1≤n∧Pm n r.2∧KS π r.2 r.1:=by
 have hz:=h.size;have z:Pm n (Hc p 0 m):=h.rev 0 m;have F:KS π (Hc p 0 m) m:=fun i j O J=>by
  show π _ < π _;rw[aET (by omega) (by omega),aET (by omega) J];have:=aES U (j - i - 1) (m - 1 - j) (by omega);have e:m - 1 - j + (j - i - 1) + 1=m - 1 - i:=by omega
  rw[e]at this;exact this
 have ha:=qT hn hπ z (n - m) m h1 (by omega) F;refine⟨_,rfl,?_⟩;unfold GX;rw[iU];exact⟨by show 1≤dZ (ord π) _;omega,by show dZ (ord π) _≤n;omega,z,ha.2.2⟩
theorem aDw{p:Array Nat}(h:Pm n p):∃ r,dZ (ord π) (GY n p)=r∧1≤r.1∧r.1≤n∧Pm n r.2∧KS π r.2 r.1:=by
 unfold GY;rw[iU];have O:KS π p 1:=fun i j U hj=>by omega
 have ha:=qT hn hπ h (n - 1) 1 (Ap _) (by omega) O;generalize hm:dZ (ord π) (kas_asc p (n - 1) 1)=m at ha ⊢;by_cases e:m=n
 ·rw[Ib (by rw[e];simp)];exact⟨(m,p),rfl,by show 1≤m;omega,by show m≤n;omega,h,ha.2.2⟩
 ·rw[Ia (by simpa using e)];by_cases z:m > 1
  ·rw[Ib z,kC];have W:Kp π p 0 < Kp π p (m - 1):=ha.2.2 0 (m - 1) (by omega) (by omega);rw[show ord π (p.getD 0 0) (p.getD (m - 1) 0)=true from Ic W];exact⟨(m,p),rfl,by show 1≤m;omega,by show m≤n;omega,h,ha.2.2⟩
  ·rw[Ia z];have Y:m=1:=by omega
   subst Y;unfold He;rw[iU];have J:Kp π p 1 < Kp π p 0:=by
    by_cases hc:Kp π p 1 < Kp π p 0
    ·exact hc
    ·exfalso;obtain⟨g,hg⟩:∃ g,n - 1=g + 1:=⟨n - 2,by omega⟩
     rw[hg,kas_asc.eq_2,kC,show ord π (p.getD 1 0) (p.getD (1 - 1) 0)=false from decide_eq_false hc]at hm;have:=(qT hn hπ h g 2 (by omega) (by omega) (aCj hn hπ h (Ap _) (by omega) O hc)).1;have Z:dZ (ord π) (kas_asc p g 2)=1:=hm;omega
   have F:KF π p 2:=fun j a b=>by
    have:j=1:=by omega
    subst this;exact J
   obtain⟨m2,e2,a2,b2,c2⟩:=aAc hn hπ h (n - 2) 2 (by omega) (by omega) F;rw[show n - (1 + 1)=n - 2 from rfl,e2];dsimp only;rw[Ia (by omega)];exact aDv hn hπ h (by omega) (by omega) c2
theorem pM{p:Array Nat}(h:Pm n p){k:Nat}(U:k < n)(J:KS π p k):∀(f l r:Nat),l≤r→r≤k→r - l≤f→(∀ j,j < l→Kp π p j < Kp π p k)→(∀ j,r≤j→j < k→Kp π p k < Kp π p j)→
  ∃ m,dZ (ord π) (kas_place p k f l r)=m∧m≤k∧(∀ j,j < m→Kp π p j < Kp π p k)∧∀ j,m≤j→j < k→Kp π p k < Kp π p j
 | 0,l,r,h1,h2,Z,O,F=>by
  rw[kas_place.eq_1];have:l=r:=by omega
  subst this;exact⟨l,rfl,h2,O,F⟩
 | f + 1,l,r,h1,h2,Z,O,F=>by
  rw[kas_place.eq_2];by_cases z:l ≥ r
  ·rw[Ib z];have:l=r:=by omega
   subst this;exact⟨l,rfl,h2,O,F⟩
  ·rw[Ia z,kC];have W:(l + r) / 2 < r∧l≤(l + r) / 2:=by omega
   by_cases hc:Kp π p k < Kp π p ((l + r) / 2)
   ·rw[show ord π (p.getD k 0) (p.getD ((l + r) / 2) 0)=true from Ic hc];show∃ m,dZ (ord π) (kas_place p k f l ((l + r) / 2))=m∧_;refine pM h U J f l ((l + r) / 2) (by omega) (by omega) (by omega) O fun j a b=>?_;by_cases e:j=(l + r) / 2
    ·rw[e];exact hc
    ·exact DS hc (J _ _ (by omega) b)
   ·rw[show ord π (p.getD k 0) (p.getD ((l + r) / 2) 0)=false from decide_eq_false hc];show∃ m,dZ (ord π) (kas_place p k f ((l + r) / 2 + 1) r)=m∧_;have Y:Kp π p ((l + r) / 2) < Kp π p k:=by
     have:=aER hn hπ h (i:=(l + r) / 2) (j:=k) (by omega) U (by omega);omega
    refine pM h U J f ((l + r) / 2 + 1) r (by omega) h2 (by omega) (fun j a=>?_) F;by_cases e:j=(l + r) / 2
    ·rw[e];exact Y
    ·exact DS (J _ _ (by omega) (by omega)) Y
theorem aCk:∀(f:Nat) {p:Array Nat} (k:Nat),Pm n p→k + f=n→KS π p k→Pm n (dZ (ord π) (kas_bin f p k))∧KS π (dZ (ord π) (kas_bin f p k)) n
 | 0,p,k,h,Z,F=>by
  rw[kas_bin.eq_1];have:k=n:=by omega
  subst this;exact⟨h,F⟩
 | f + 1,p,k,h,Z,F=>by
  rw[kas_bin.eq_2,iU];obtain⟨m,e,a,b,c⟩:=pM hn hπ h (by omega) F k 0 k (by omega) (Ap _) (by omega) (fun j z=>by omega) (fun j z y=>by omega);rw[e];refine aCk f (k + 1) (h.bub _ _) (by omega) fun i j J hj=>?_;have hz:=h.size;have at':∀ x,Kp π (bubble p k (k - m)) x=if x=m then Kp π p k else if m < x∧x≤k then Kp π p (x - 1) else Kp π p x:=fun x=>by
   show π _=_;rw[Bu,getElem?_bubble (by omega) (k - m) (by omega)];have em:k - (k - m)=m:=by omega
   rw[em]
   repeat' split
   all_goals (rw[← Bu])
  rw[at' i,at' j];have aa:∀ x y,x≤y→y < k→Kp π p x≤Kp π p y:=fun x y h1 h2=>by
   rcases FF x y with z | z
   ·exact Dv (F x y z h2)
   ·have:x=y:=by omega
    rw[this];exact Ap _
  by_cases O:i=m
  ·rw[Ib O,Ia (by omega),Ib (by omega)];exact c _ (by omega) (by omega)
  ·rw[Ia O];by_cases W:m < i∧i≤k
   ·rw[Ib W,Ia (by omega),Ib (by omega)];exact F _ _ (by omega) (by omega)
   ·rw[Ia W];by_cases Y:j=m
    ·rw[Ib Y];exact b _ (by omega)
    ·rw[Ia Y];by_cases U:m < j∧j≤k
     ·rw[Ib U];have hi:i < m:=by omega
      rcases FF i (j - 1)with z | z
      ·exact F _ _ z (by omega)
      ·omega
     ·rw[Ia U];exact F _ _ J (by omega)
theorem aEU:Pm n (dZ (ord π) (CK n))∧KS π (dZ (ord π) (CK n)) n:=by
 unfold CK;rw[iU];obtain⟨r,e,a,b,c,d⟩:=aDw hn hπ (p:=(AL n).toArray) (Array.Perm.refl _);rw[e];by_cases z:r.1 < n
 ·rw[Ib z];have F:max r.1 1=r.1:=by omega
  rw[F];exact aCk hn hπ _ _ c (by omega) d
 ·rw[Ia z];have:r.1=n:=by omega
  rw[this]at d;exact⟨c,d⟩
end
theorem v8{α:Type}{p q:α→Bool}:∀{l:List α},(∀ x∈l,p x=true→q x=true)→(∃ x∈l,q x=true∧p x=false)→l.countP p < l.countP q
 | [],_,h=>by obtain⟨x,z,_⟩:=h;simp at z
 | a :: l,h1,h2=>by
  have le:l.countP p≤l.countP q:=List.countP_mono_left fun x z=>h1 x (AK _ z);rw[FK,FK];obtain⟨x,z,hq,hp⟩:=h2;rcases Al.mp z with rfl | z
  ·rw[Ib hq,Ia (by rw[hp];simp)];omega
  ·have F:=v8 (fun x z=>h1 x (AK _ z)) ⟨x,z,hq,hp⟩;by_cases ha:p a=true
   ·rw[Ib ha,Ib (h1 a AF ha)];omega
   ·rw[Ia ha];omega
theorem aGA{n:Nat}{o:Nat→Nat→Bool}(U:∀ i,o i i=false)(Y:∀ i j k,o i j=true→o j k=true→o i k=true)(to:∀ i j,i < n→j < n→i≠j→o i j=true∨o j i=true):
  ∃ π:Nat→Nat,(∀ i j,i < n→j < n→o i j=ord π i j)∧∀ i j,i < n→j < n→π i=π j→i=j:=by
 let π:Nat→Nat:=fun i=>(AL n).countP fun k=>o k i
 have up:∀ i j,i < n→j < n→o i j=true→π i < π j:=fun i j hi F h=>v8 (fun x _ W=>Y x i j W h) ⟨i,Bt.mpr hi,h,U i⟩;refine⟨π,fun i j hi F=>?_,fun i j hi F e=>?_⟩
 ·cases O:o i j with
  | true=>exact(Ic (up i j hi F O)).symm
  | false=>
   refine(decide_eq_false fun z=>?_).symm;by_cases e:i=j
   ·rw[e]at z;exact Bx _ z
   ·rcases to i j hi F e with y | y
    ·rw[O]at y;cases y
    ·exact Bx _ (DS z (up j i F hi y))
 ·by_cases J:i=j
  ·exact J
  ·rcases to i j hi F J with y | y
   ·have:=up i j hi F y;omega
   ·have:=up j i F hi y;omega
abbrev K3:=Int×Int×Str
def lF(x y:K3):Bool:=if x.1 == y.1 then(if x.2.1 == y.2.1 then(if x.2.2 == y.2.2 then false else decide (x.2.2.cps.toList < y.2.2.cps.toList)) else decide (x.2.1 < y.2.1)) else decide (x.1 < y.1)
theorem aAd(x:K3):lF x x=false:=by unfold lF;simp
theorem tQ(x y:K3):lF x y=true↔x.1 < y.1∨x.1=y.1∧(x.2.1 < y.2.1∨x.2.1=y.2.1∧x.2.2.cps.toList < y.2.2.cps.toList):=by
 unfold lF;by_cases h1:x.1=y.1
 ·rw[Ib (by simpa using h1)];by_cases h2:x.2.1=y.2.1
  ·rw[Ib (by simpa using h2)];by_cases F:x.2.2=y.2.2
   ·rw[Ib (by simpa using F),F];constructor
    ·intro z;cases z
    ·rintro(z | ⟨_,z | ⟨_,z⟩⟩)
     ·omega
     ·omega
     ·exact absurd z (C4 _)
   ·rw[Ia (by simpa using F),decide_eq_true_iff];constructor
    ·intro z;exact .inr ⟨h1,.inr ⟨h2,z⟩⟩
    ·rintro(z | ⟨_,z | ⟨_,z⟩⟩)
     ·omega
     ·omega
     ·exact z
  ·rw[Ia (by simpa using h2),decide_eq_true_iff];constructor
   ·intro z;exact .inr ⟨h1,.inl z⟩
   ·rintro(z | ⟨_,z | ⟨z,_⟩⟩)
    ·omega
    ·exact z
    ·exact absurd z h2
 ·rw[Ia (by simpa using h1),decide_eq_true_iff];constructor
  ·intro z;exact .inl z
  ·rintro(z | ⟨z,_⟩)
   ·exact z
   ·exact absurd z h1
theorem tT{x y z:K3}(h1:lF x y=true)(h2:lF y z=true):lF x z=true:=by
 rw[tQ]at h1 h2 ⊢;rcases h1 with a | ⟨a,b | ⟨b,c⟩⟩ <;> rcases h2 with O | ⟨O,F | ⟨F,J⟩⟩
 ·exact .inl (by omega)
 ·exact .inl (by omega)
 ·exact .inl (by omega)
 ·exact .inl (by omega)
 ·exact .inr ⟨by omega,.inl (by omega)⟩
 ·exact .inr ⟨by omega,.inl (by omega)⟩
 ·exact .inl (by omega)
 ·exact .inr ⟨by omega,.inl (by omega)⟩
 ·exact .inr ⟨by omega,.inr ⟨by omega,Fp c J⟩⟩
theorem aBi{x y:K3}(h:x≠y):lF x y=true∨lF y x=true:=by
 rw[tQ,tQ];by_cases h1:x.1=y.1
 ·by_cases h2:x.2.1=y.2.1
  ·have F:x.2.2≠y.2.2:=fun z=>h (Hw h1 (Hw h2 z));rcases Fb (x.2.2.cps.toList < y.2.2.cps.toList)with z | z
   ·exact .inl (.inr ⟨h1,.inr ⟨h2,z⟩⟩)
   ·rcases Fb (y.2.2.cps.toList < x.2.2.cps.toList)with z' | z'
    ·exact .inr (.inr ⟨h1.symm,.inr ⟨h2.symm,z'⟩⟩)
    ·exact absurd (qS (EL (Dm.mp z') (Dm.mp z))) F
  ·rcases Int.lt_or_gt_of_ne h2 with z | z
   ·exact .inl (.inr ⟨h1,.inl z⟩)
   ·exact .inr (.inr ⟨h1.symm,.inl z⟩)
 ·rcases Int.lt_or_gt_of_ne h1 with z | z
  ·exact .inl (.inl z)
  ·exact .inr (.inl z)
abbrev k0:K3:=(0,0,"")
def aAe(kk:List K3)(p:List Nat):Prop:=p.Perm (AL kk.length)∧(kk.Nodup→(p.map fun i=>kk.getD i k0).Pairwise fun a b=>lF a b=true)
theorem aEV{kk:List K3}(h:0 < kk.length):aAe kk (dZ (fun i j=>lF (kk.getD i k0) (kk.getD j k0)) (CK kk.length)).toList:=by
 refine⟨Ep.mp (hW.run _ (iR h)),fun hn=>?_⟩;have ne:∀ i j,i < kk.length→j < kk.length→i≠j→kk.getD i k0≠kk.getD j k0:=fun i j hi F z e=>by
  rw[Av,Av,Af hi,Af F]at e;exact z ((DY hn).mp e)
 obtain⟨π,h1,h2⟩:=aGA (n:=kk.length) (o:=fun i j=>lF (kk.getD i k0) (kk.getD j k0)) (fun i=>aAd _) (fun i j k=>tT) (fun i j hi F z=>aBi (ne i j hi F z));have e:dZ (fun i j=>lF (kk.getD i k0) (kk.getD j k0)) (CK kk.length)=dZ (ord π) (CK kk.length):=nS (n:=kk.length) (P:=Pm kk.length) h1 (iR h);rw[e];obtain⟨hP,hS⟩:=aEU h h2;have hz:=hP.size;rw[Ey];intro i j hi F z;have W:i < kk.length:=by simpa[hz]using hi
 have J:j < kk.length:=by simpa[hz]using F
 have:=hS i j z J;have O:(dZ (ord π) (CK kk.length)).getD i 0=(dZ (ord π) (CK kk.length)).toList[i]'(by simpa using(by omega:i < (dZ (ord π) (CK kk.length)).size)):=by rw[oI (Ca (by omega))];simp
 have U:(dZ (ord π) (CK kk.length)).getD j 0=(dZ (ord π) (CK kk.length)).toList[j]'(by simpa using(by omega:j < (dZ (ord π) (CK kk.length)).size)):=by rw[oI (Ca (by omega))];simp
 rw[C5,C5,← O,← U];rw[h1 _ _ (hP.lt h i) (hP.lt h j)];exact Ic this
inductive aEW(h:Ba)(v:Ac)(k:K3):Prop
 | mk (t:_) (u1:_) (u2:_) (u3:_) (q0:v=.ref t) (q1:EK h t #[.int k.1 u1,.int k.2.1 u2,.str k.2.2 u3]):aEW h v k
def aBj(h:Ba)(v:Ac)(k:K3):Prop:=aEW h v k
theorem aBj.weak{h:Ba}{v:Ac}{k:K3}(x:aBj h v k):aJz h v:=by
 obtain⟨t,u1,u2,u3,e,ht⟩:=x;exact⟨t,k.1,k.2.1,k.2.2,u1,u2,u3,e,ht⟩
section
variable{prog:Ay}{w:AV}{A:AO}{E:Ac→Ad→Prop}{s:Ad}
theorem aKu{z:Bool}{v1 Z:Ac}{x y:K3}{C:Bool→Ad→Prop}(O:aBj s.heap v1 x)(U:aBj s.heap Z y)(h:C (lF x y) s):wpAny (model prog w) A (keyLt' (tuples' z) v1 Z) C E s:=by
 obtain⟨a1,b1,c1⟩:=x;obtain⟨a2,b2,c2⟩:=y;obtain⟨p1,t1,t2,t3,rfl,O⟩:=O;obtain⟨p2,u1,u2,u3,rfl,U⟩:=U;dsimp only at O U;unfold lF at h;dsimp only at h;show wpAny _ _ (CY (.ref p1) >>= _) _ _ _;refine Aa (iT O ?_);refine Aa (iT U ?_);dsimp only[List.zip_cons_cons,List.zipIdx_cons,List.zip_nil_left];rw[List.zipIdx_nil];have Y:∀{Q:Bool→Ad→Prop} {a b:Int} {t u:Tok},Q (a == b) s→wpAny (model prog w) A (eqBool (.int a t) (.int b u)) Q E s:=fun{Q a b t u} q=>xC (y:=.int a) (x:=.int b) ⟨t,rfl⟩ ⟨u,rfl⟩ rfl rfl prog w _ _ q;have e2:∀{Q:Bool→Ad→Prop} {a b:Str} {t u:Tok},Q (a == b) s→wpAny (model prog w) A (eqBool (.str a t) (.str b u)) Q E s:=fun{Q a b t u} q=>EX a t b u prog w _ _ q;refine Aa ?_;rw[CQ];refine Aa (Aa (Y ?_));cases hz:(a1 == a2)with
 | false=>
  rw[hz]at h;refine BJ (by decide) ?_;refine Aa ?_;show wpAny _ _ (oneLt' (z && 0 == 0) (Ci a1 t1) (Ci a2 u1)) _ _ _;cases z
  ·exact xN (Ae (Ae (Ae h)))
  ·exact oneLt_int (Ae (Ae (Ae h)))
 | true=>
  rw[hz,Ib rfl]at h;refine An (by decide) (Ae ?_);dsimp only;rw[CQ];refine Aa (Aa (Y ?_));cases J:(b1 == b2)with
  | false=>
   rw[J]at h;refine BJ (by decide) ?_;refine Aa ?_;have W:(z && ((0 + 1:Nat) == 0))=false:=by cases z <;> rfl
   show wpAny _ _ (oneLt' (z && (0 + 1 == 0)) (Ci b1 t2) (Ci b2 u2)) _ _ _;rw[W];exact xN (Ae (Ae (Ae h)))
  | true=>
   rw[J,Ib rfl]at h;refine An (by decide) (Ae ?_);dsimp only;rw[CQ];refine Aa (Aa (e2 ?_));cases F:(c1 == c2)with
   | false=>
    rw[F]at h;refine BJ (by decide) ?_;refine Aa ?_;have W:(z && ((0 + 1 + 1:Nat) == 0))=false:=by cases z <;> rfl
    show wpAny _ _ (oneLt' (z && (0 + 1 + 1 == 0)) (Bw c1 t3) (Bw c2 u3)) _ _ _;rw[W];exact xO (Ae (Ae (Ae h)))
   | true=>
    rw[F,Ib rfl]at h;refine An (by decide) (Ae ?_);dsimp only;rw[Gg];exact Ae (Ae h)
theorem tU{ks its:List Ac}(z:ks.length=its.length)(i:Nat):F1 (ks.toArray.zip its.toArray) i=(ks.getD i .none,its.getD i .none):=by
 unfold F1;by_cases h:i < ks.length
 ·have hz:i < (ks.toArray.zip its.toArray).size:=by simp[z];omega
  rw[Bu,Ca hz,Av,Av,Af h,Af (by omega)];simp
 ·have hz:¬ i < (ks.toArray.zip its.toArray).size:=by simp[z];omega
  rw[Bu,Array.getElem?_eq_none (by omega),Av,Av,AY (by omega),AY (by omega)];rfl
theorem aJG{b:Bool}{ks its:List Ac}{kk:List K3}{Q:Unit×Fw→Ad→Prop}(J:ks.length=its.length)(W:kk.length=its.length)(h2:2≤its.length)(O:its.length < 64)(Y:∀ i,i < its.length→aBj s.heap (ks.getD i .none) (kk.getD i k0))
  (h:∀(st:Fw) (p:List Nat),aAe kk p→(arrOf st).map (·.2)=(p.map fun i=>its.getD i .none).toArray→failedOf st=none→Q ((),st) s):wpAny (model prog w) A (sortRuns'.run (FW (tuples' b) (ks.toArray.zip its.toArray) #[] 7 none)) Q E s:=by
 have hz:(ks.toArray.zip its.toArray).size=its.length:=by simp[J]
 have F:=kas_runs (prog:=prog) (w:=w) (A:=A) (E:=E) (κ:=tuples' b) (it:=ks.toArray.zip its.toArray) (n:=its.length) (s:=s) (Q:=fun u st s'=>s'=s∧Q (u,st) s) (G:=fun p s'=>p=dZ (fun i j=>lF (kk.getD i k0) (kk.getD j k0)) (CK its.length)∧s'=s) h2 O (fun p' U s' aa ha hf hG=>?_)
  (hW.wpO (n:=its.length) (P:=Pm its.length) (o:=fun i j=>lF (kk.getD i k0) (kk.getD j k0)) (fun i j C hi hj hC=>?_) (iR (by omega)) ⟨rfl,rfl⟩)
 ·have e1:kas_st (tuples' b) (ks.toArray.zip its.toArray) (AL its.length).toArray=FW (tuples' b) (ks.toArray.zip its.toArray) #[] 7 none:=by
   unfold kas_st;have:=kas_range (ks.toArray.zip its.toArray);rw[hz]at this;rw[this]
  rw[e1]at F;exact A9 F (fun r s' z=>by
   obtain⟨rfl,q⟩:=z;exact q) fun e s' z=>z
 ·obtain⟨rfl,rfl⟩:=hG;have Z:=aEV (kk:=kk) (by omega);rw[W]at Z;refine⟨rfl,h U _ Z ?_ hf⟩;rw[ha];apply DX.mp;rw[Array.map_map,FI];show _=GC _ _;refine Eg fun i _=>?_;show(F1 (ks.toArray.zip its.toArray) i).2=_;rw[tU J]
 ·unfold kas_cmp;rw[tU J,tU J];exact aKu (Y i hi) (Y j hj) hC
end
section
variable{prog:Ay}{w:AV}{A:AO}{E:Ac→Ad→Prop}{s:Ad}
theorem aKv{a kS:Ah}{ks its:List Ac}{kk:List K3}{e e1:Nat}{P:Hi→Ad→Prop}(ha:s.heap.get? a=some (seqObj "list" #[] e1))(hk:s.heap.get? kS=some (seqObj "list" ks.toArray e))(ac:a≠kS)(hl:ks.length=its.length)(W:its.length < 64)(Z:kk.length=its.length)(hK:∀ i,i < its.length→aBj s.heap (ks.getD i .none) (kk.getD i k0))
  (h:∀ p:List Nat,aAe kk p→P (Fin.done (GE BH)) { s with heap:=(s.heap.update kS (Bp fun _=>#[])).update a (Bp fun _=>(p.map fun i=>its.getD i .none).toArray) }):wpAny (model prog w) A (ksk_end a false its.toArray e1 (.ref kS) ks.toArray) P E s:=by
 have z:∀ n:Nat,n < 64→n≤sizeLine:=fun n hn=>aM (by omega);have O:(ks.toArray.zip its.toArray).size=its.length:=by simp[hl]
 have Y:∀(st:Fw) (p:List Nat),aAe kk p→(arrOf st).map (·.2)=(p.map fun i=>its.getD i .none).toArray→failedOf st=none→wpAny (model prog w) A (ksk_tail a false e1 (.ref kS) st) P E s:=fun st p ho J hf=>by
  have af:=ho.1.length_eq;rw[BF]at af;have ad:(arrOf st).size=its.length:=by
   have h1:((arrOf st).map (·.2)).size=(arrOf st).size:=Array.size_map ..
   have h2:(p.map fun i=>its.getD i BH).toArray.size=p.length:=by simp
   rw[J]at h1;omega
  refine aJB ha hk ac (by rw[Ao];exact z _ (by omega)) (by rw[ad];exact z _ W) hf ?_;rw[J];exact h p ho
 unfold ksk_end;dsimp only;by_cases h2:its.length < 2
 ·have F:its.toArray.size < 2:=by simpa using h2
  rw[Ia AN,Ib F];refine Aa (Ae ?_);rw[Ib F,Ia AN];refine Aa (Ae ?_);refine Y _ (AL its.length) ⟨by rw[Z],fun _=>?_⟩ ?_ rfl
  ·rw[Ey];intro i j hi U ai;simp at hi U;omega
  ·show(ks.toArray.zip its.toArray).map (·.2)=_
   apply DX.mp;rw[FI,Array.toList_zip];show GC Prod.snd (ks.zip its)=_;rw[List.map_snd_zip (by omega)];apply CC;intro j;rw[AC];by_cases U:j < its.length
   ·rw[C3 U,Af U];simp[U]
   ·rw[AY (by omega),AY (by simpa using U)];rfl
 ·have F:¬ its.toArray.size < 2:=by simpa using h2
  rw[Ia AN,Ia F];refine Aa (aJA (fun v hv=>?_) fun b=>?_)
  ·obtain⟨i,hi,rfl⟩:=D8.mp hv;have:=(hK i (by omega)).weak;rw[Av,Af hi]at this;exact this
  rw[Ia F,Ia AN];exact Aa (aJG hl Z (by omega) W hK fun st p ho J hf=>Y st p ho J hf)
end
section
variable{X:Cx}{fc:List (Ah×Obj)}{σ:St}
inductive aCl(H:Hp)(v:Ac)(k:K3):Prop
 | mk (t:_) (q0:v=.ref t) (q1:H t=some (.tup [.int k.1,.int k.2.1,.str k.2.2])):aCl H v k
def aEX(H:Hp)(v:Ac)(k:K3):Prop:=aCl H v k
theorem aEX.real{H:Hp}{s:Ad}{v:Ac}{k:K3}(I:Inv X fc σ H s)(h:aEX H v k):aBj s.heap v k:=by
 obtain⟨t,rfl,ht⟩:=h;obtain⟨_,its,z,hT⟩:cP X.prog X.w H s.heap t (.tup [.int k.1,.int k.2.1,.str k.2.2]):=I.hok _ _ ht;cases z with
 | cons J z=>
  cases z with
  | cons O z=>
   cases z with
   | cons F z=>
    cases z;obtain⟨u1,e1⟩:=J;obtain⟨u2,e2⟩:=O;obtain⟨u3,e3⟩:=F;subst e1 e2 e3;exact⟨t,u1,u2,u3,rfl,hT⟩
structure KsX(KR:V→K3→Prop)(H:Hp)(xd:List V)(ks:List Ac)(kk:List K3):Prop where
 len:ks.length=xd.length∧kk.length=xd.length
 key:∀ i,i < xd.length→aEX H (ks.getD i .none) (kk.getD i k0)
 kr:∀ i,i < xd.length→KR (xd.getD i .non) (kk.getD i k0)
theorem KsX.nil{KR:V→K3→Prop}{H:Hp}:KsX KR H [] [] []:=⟨⟨rfl,rfl⟩,fun i hi=>by simp at hi,fun i hi=>by simp at hi⟩
theorem KsX.same{KR:V→K3→Prop}{H H':Hp}{xd:List V}{ks:List Ac}{kk:List K3}(h:KsX KR H xd ks kk)(s:aY H H'):KsX KR H' xd ks kk:=
 ⟨h.len,fun i hi=>by obtain⟨t,e,ht⟩:=h.key i hi;exact⟨t,e,s _ _ ht⟩,h.kr⟩
theorem mG{α:Type}(l:List α)(x d:α)(i:Nat):(l ++ [x]).getD i d=if i < l.length then l.getD i d else if i=l.length then x else d:=by
 rw[Av,Av];by_cases h:i < l.length
 ·rw[Ib h,BV h]
 ·rw[Ia h,BP (by omega)];by_cases h2:i=l.length
  ·rw[Ib h2,h2];simp
  ·rw[Ia h2,AY (by simp;omega)];rfl
theorem KsX.snoc{KR:V→K3→Prop}{H:Hp}{xd:List V}{ks:List Ac}{kk:List K3}{y:V}{a b:Int}{c:Str}{t:Ah}(h:KsX KR H xd ks kk)(z:KR y (a,b,c))(ht:H t=some (.tup [.int a,.int b,.str c])):KsX KR H (xd ++ [y]) (ks ++ [AB t]) (kk ++ [(a,b,c)]):=by
 obtain⟨l1,l2⟩:=h.len;refine⟨⟨by simp[l1],by simp[l2]⟩,fun i hi=>?_,fun i hi=>?_⟩
 ·rw[mG,mG,l1,l2];by_cases h1:i < xd.length
  ·rw[Ib h1,Ib h1];exact h.key i h1
  ·have:i=xd.length:=by simp at hi;omega
   rw[Ia h1,Ia h1,Ib this,Ib this];exact⟨t,rfl,ht⟩
 ·rw[mG,mG,l2];by_cases h1:i < xd.length
  ·rw[Ib h1,Ib h1];exact h.kr i h1
  ·have:i=xd.length:=by simp at hi;omega
   rw[Ia h1,Ia h1,Ib this,Ib this];exact z
theorem aDx{k:Nat}{f:Ah}{fd:AH}{x:Str}{sp:Sp}{A':AO}{E:Ac→Ad→Prop}(F:b8 X.prog X.w X.K X.mg X.base CX0 k f fd [x] sp)(hr:cQ k A')(hA:A'.frames=some X.stack)(hb:cZ X.K fd [x] [])
  {D kS:Ah} {H0:Hp} {e1:Nat} {xs:List V} {KR:V→K3→Prop} (fD:∀ H',H' D=none→lE X fc H' D) (fK:∀ H',H' kS=none→lE X fc H' kS) (ar:D≠kS)
  (af:∀ y∈xs,∀(H':Hp) (Q:VK),aY H0 H'→(∀ t a b c J,aY H' J→J t=some (.tup [.int a,.int b,.str c])→KR y (a,b,c)→Q (.ref t) J)→sp [y] H' Q E0) {er:Ac→Ac→Sem (ForInStep PUnit)} {Q:Ad→Prop}
  {U:Ac→PUnit→Sem (ForInStep PUnit)} (aa:∀ v u,U v u=(do
   let r ← (call (.ref f) [v]).attempt
   match r with
   | GZ k=>do
    En (.ref kS) fun x=>x.push k
    pure (CL GV)
   | Except.error e=>er v e)):
  ∀(cM:List Ac) (xr:List V) (s:Ad) (H:Hp) (ks:List Ac) (kk:List K3) (xd:List V) (e:Nat),cG xr cM→(∀ y∈xr,y∈xs)→Inv X fc σ H s→aY H0 H→H D=none→H kS=none→s.heap.get? D=some (seqObj "list" #[] e1)→s.heap.get? kS=some (seqObj "list" ks.toArray e)→KsX KR H xd ks kk→ks.length + cM.length < 64→
   (∀(s':Ad) (H':Hp) (W:List Ac) (ax:List K3) (e':Nat),Inv X fc σ H' s'→aY H0 H'→H' D=none→H' kS=none→s'.heap.get? D=some (seqObj "list" #[] e1)→s'.heap.get? kS=some (seqObj "list" W.toArray e')→KsX KR H' (xd ++ xr) W ax→W.length=ks.length + cM.length→Q s')→
   wpAny (model X.prog X.w) A' (forIn cM GV U) (fun _ s'=>Q s') E s:=by
 intro cM
 induction cM with
 | nil=>
  intro xr s H ks kk xd e r O I S hD hK gD gK hk ai q;rw[Gg];cases r;exact Ae (q s H ks kk e I S hD hK gD gK (by rw[Cp];exact hk) rfl)
 | cons v cM ih=>
  intro xr s H ks kk xd e r O I S hD hK gD gK hk ai q;rw[AM]at ai;cases r with
  | @cons y _ aw _ r1 r2=>
  rw[CQ,aa];refine Aa (Aa (DK ?_));have I3:Inv X ((D,seqObj "list" #[] e1) :: (kS,seqObj "list" ks.toArray e) :: fc) σ H s:=I.pins_of fun p Y=>by
   rcases Al.mp Y with z | Y
   ·subst z;exact⟨gD,hD,(fD H hD).2.1,(fD H hD).2.2.1,fun v z=>by cases z⟩
   ·rcases Al.mp Y with z | Y
    ·subst z;exact⟨gK,hK,(fK H hK).2.1,(fK H hK).2.2.1,fun v z=>by cases z⟩
    ·exact I.pin p (A2 _ Y)
  have e0:aEh X.prog X.w X.K X.mg X.base A' X.stack s H:=⟨hA,I.env0.mod,I.env0.bs,I.env0.bsz,I.env0.funs,I.env0.frf,I.env0.hok,I.env0.bare⟩
  refine Cy (CB (F.run A' X.stack s H ⟨[v],[]⟩ [v] [y] (fun u J=>∃ t a b c,u=.ref t∧J t=some (.tup [.int a,.int b,.str c])∧aY H J∧KR y (a,b,c)) E0 hr e0 (hb s [v] I.kIn rfl) (.cons r1 .nil)
   (af y (O y AF) H _ S fun t a b c J s2 h2 Z=>⟨t,a,b,c,rfl,h2,s2,Z⟩)) fun r s' hq=>?_)
  cases r with
  | error e=>exact Bz hq
  | ok fl=>
   cases fl with
   | next=>exact Bz hq
   | brk=>exact Bz hq
   | cont=>exact Bz hq
   | ret u=>
    obtain⟨vv,H',I',r',t,a,b,c,rfl,ht,S',Z⟩:=I3.after hq;cases r';obtain⟨gD',hD',_⟩:=I'.pin (D,seqObj "list" #[] e1) (A2 _ AF);obtain⟨gK',hK',_⟩:=I'.pin (kS,seqObj "list" ks.toArray e) (A2 _ (AK _ AF));have I4:Inv X fc σ H' s':=I'.pins_of fun p Y=>I'.pin p (A2 _ (AK _ (AK _ Y)));refine Aa (DM gK' rfl ?_ (aM (by rw[Ao];omega)) (by rw[Array.size_push,Ao];exact Nat.le_succ_of_le (aM (by omega))));refine Ae ?_;have ah:=get?_update_seq gK' (fun x=>x.push (.ref t));have ep:(ks.toArray.push (.ref t))=(ks ++ [AB t]).toArray:=by simp
    rw[ep]at ah;have I5:Inv X fc σ H' { s' with heap:=s'.heap.update kS (Bp fun x=>x.push (.ref t)) }:=I4.turnedL (t':=s'.toks) (fp:=[kS]) (fun b o hb e=>by
     rw[BM _ _ _ _ (fun z=>hb (by simp[z]))];exact e) fun b hb=>by
      rw[A6.mp hb];exact fK H' hK'
    refine ih aw _ H' (ks ++ [AB t]) (kk ++ [(a,b,c)]) (xd ++ [y]) _ r2 (fun y hy=>O y (AK _ hy)) I5 (S.trans S') hD' hK' ?_ ah ((hk.same S').snoc Z ht) (by rw[Ak,EZ];omega) fun an J aj am ao a1 a2 a3 a4 a5 a6 a7 a8=>?_
    ·show(s'.heap.update kS _).get? D=_;rw[BM _ _ _ _ ar];exact gD'
    ·refine q an J aj am ao a1 a2 a3 a4 a5 a6 ?_ (by rw[a8,Ak,EZ,AM];omega);rw[De]at a7;exact a7
end
section
variable{X:Cx}{fc:List (Ah×Obj)}{σ:St}{H:Hp}{s:Ad}
theorem aAf{k:Nat}{f l:Ah}{fd:AH}{x:Str}{sp:Sp}{xs:List V}{its:List Ac}{KR:V→K3→Prop}{Q:VK}{E:Ac→Ad→Prop}(F:b8 X.prog X.w X.K X.mg X.base CX0 k f fd [x] sp)(hr:cQ (k + 2) X.A)(hb:cZ X.K fd [x] [])
  (I:Inv X fc σ H s) (rv:cG xs its) (aq:∀(B:AO) (Q':List Ac→Ad→Prop) (E':Ac→Ad→Prop),B.handled=none→(∀(h1:Ba) (tk:Nat),(∀ b u,s.heap.get? b=some u→h1.get? b=some u)→s.heap.objs.size≤h1.objs.size→Q' its { s with heap:=h1,toks:=tk })→wpAny (model X.prog X.w) B (collect (.ref l)) Q' E' s) (bq:xs.length < 64)
  (ap:∀ y∈xs,∀(H':Hp) (Q:VK),aY H H'→(∀ t a b c af,aY H' af→af t=some (.tup [.int a,.int b,.str c])→KR y (a,b,c)→Q (.ref t) af)→sp [y] H' Q E0)
  (q:∀ D (kk:List K3) (p:List Nat) H',aY H H'→H D=none→kk.length=xs.length→(∀ i,i < xs.length→KR (xs.getD i .non) (kk.getD i k0))→aAe kk p→H' D=some (.lst (p.map fun i=>xs.getD i .non))→Q (.ref D) H'):
  wpAny (model X.prog X.w) X.A (call (.builtin "sorted") [.ref l] [(Bd "key",.ref f)]) (EP X fc σ Q) E s:=by
 have bg:=rv.length;have zz:its.length≤sizeLine:=aM (by omega);refine call_function_entry_kw Hq G8 Hf (ksk_s1 _ _) ?_;refine Aa (Ae ?_);refine Aa (aq _ _ _ hr.hd fun h1 tk av ao=>?_);refine Aa (EU ?_ zz);dsimp only;obtain⟨D,hD⟩:∃ D,D=h1.objs.size:=⟨_,rfl⟩
 have J:(h1.push (seqObj "list" its.toArray 0)).get? D=some (seqObj "list" its.toArray 0):=by
  rw[hD];exact Aq _ rfl
 have ad:∀ b o,s.heap.get? b=some o→(h1.push (seqObj "list" its.toArray 0)).get? b=some o:=fun b o e=>Ai _ (av b o e);have ac:(h1.push (seqObj "list" its.toArray 0)).objs.size=D + 1:=by rw[size_push',hD]
 change wpAny _ _ (do let _ ← holding [AB h1.objs.size] (call (.builtin "list.sort") [AB h1.objs.size] [(Bd "key",.ref f)]);ret (AB h1.objs.size)) _ _ { s with heap:=h1.push (seqObj "list" its.toArray 0),toks:=tk };rw[← hD];generalize h1.push (seqObj "list" its.toArray 0)=h2 at J ad ac ⊢;have ae:s.heap.objs.size≤D:=by rw[hD];exact ao
 refine Aa (A1 (wpAny_call_entry_kw slot_list_sort ⟨_,J,rfl⟩ entry_list_sort ?_ (ksk_l1 _ _)));rw[ksk_t1];unfold ksk_tree;refine Aa (E5 J rfl ?_);refine Aa (DM J rfl ?_ (by rw[Ao];exact zz) (Bo _));have O:=get?_update_seq J (fun _=>#[]);generalize (if ((#[]:Array Ac).size == its.toArray.size)=true then 0 else 0 + 1)=e1 at O;have aa:∀ b o,s.heap.get? b=some o→(h2.update D (Bp fun _=>#[])).get? b=some o:=fun b o e=>by
  rw[BM _ _ _ _ (AG (A5 (Ar e) ae))];exact ad b o e
 have Z:(h2.update D (Bp fun _=>#[])).objs.size=D + 1:=by rw[Heap.size_update,ac]
 dsimp only;generalize h2.update D (Bp fun _=>#[])=h3 at O aa Z ⊢;refine Aa (Gm O rfl ?_);refine Aa (Gq ?_ (by simpa using zz));refine Aa (EU ?_ (Bo _));dsimp only;refine A1 ?_;obtain⟨kS,hkS⟩:∃ kS,kS=(h3.push { cls:=AJ "tuple",data:=CT its.toArray.toList.toArray }).objs.size:=⟨_,rfl⟩
 have au:((h3.push { cls:=AJ "tuple",data:=CT its.toArray.toList.toArray }).push { cls:=AJ "list",data:=CT ([]:List Ac).toArray }).get? kS=some (seqObj "list" ([]:List Ac).toArray 0):=by
  rw[hkS];exact Aq _ rfl
 have aj:((h3.push { cls:=AJ "tuple",data:=CT its.toArray.toList.toArray }).push { cls:=AJ "list",data:=CT ([]:List Ac).toArray }).get? D=some (seqObj "list" #[] e1):=Ai _ (Ai _ O);have W:∀ b o,s.heap.get? b=some o→((h3.push { cls:=AJ "tuple",data:=CT its.toArray.toList.toArray }).push { cls:=AJ "list",data:=CT ([]:List Ac).toArray }).get? b=some o:=fun b o e=>Ai _ (Ai _ (aa b o e));have Y:kS=D + 2:=by rw[hkS,B5,Z]
 rw[← hkS];generalize (h3.push { cls:=AJ "tuple",data:=CT its.toArray.toList.toArray }).push { cls:=AJ "list",data:=CT ([]:List Ac).toArray }=h4 at au aj W ⊢;have ag:D≠kS:=AG (by rw[Y];exact Bj (B9 _));have I4:Inv X fc σ H { s with heap:=h4,toks:=tk }:=I.kept (t':=tk) W;have lD:s.heap.objs.size≤D:=ae;have lK:s.heap.objs.size≤kS:=by rw[Y];exact Bc ae (Nat.le_add_right _ _)
 have nD:H D=none:=I.hok.fresh lD;have nK:H kS=none:=I.hok.fresh lK;have fD:∀ H',H' D=none→lE X fc H' D:=fun H' hn=>I.fpOk lD hn;have fK:∀ H',H' kS=none→lE X fc H' kS:=fun H' hn=>I.fpOk lK hn;unfold ksk_rest;refine Aa (EF ?_);refine Aa ?_;rw[← Array.forIn_toList];have aR:cQ k X.A.in1.in1:=(hr.in1).in1;refine aDx (KR:=KR) (X:=X) (fc:=fc) (σ:=σ) (A':=X.A.in1.in1) F aR I.ok.frames hb (D:=D) (kS:=kS) (H0:=H) (e1:=e1) (xs:=xs) fD fK ag ap (er:=fun v e=>do
     rule "list.sort.key-raised"
     let ar ← CY (.ref kS)
     En (.ref kS) fun x=>#[]
     letGo ar.toList.reverse [e]
     En (AB D) fun x=>its.toArray
     throw e
     pure (CL GV)) (fun v u=>by congr 1) its xs _ H [] [] [] 0 rv (fun y hy=>hy) I4 (aY.refl H) nD nK aj au KsX.nil (by simp;omega) ?_
 intro s' H' ks kk e' I' S ai aB ak am U bt;rw[FZ]at U;obtain⟨z1,z2⟩:=U.len;refine Aa (E5 am rfl ?_);refine aKv (kk:=kk) ak am ag (by omega) (by omega) (by omega) (fun i hi=>(U.key i (by omega)).real I') fun p ho=>?_;refine⟨_,rfl,Ae ⟨_,rfl,?_⟩⟩;have aw:∀ i∈p,i < xs.length:=fun i hi=>by
  have:=ho.1.mem_iff.mp hi;rw[Bt]at this;omega
 have aC:=pL rv p aw;have I6:Inv X fc σ H' { s' with heap:=(s'.heap.update kS (Bp fun _=>#[])).update D (Bp fun _=>(p.map fun i=>its.getD i .none).toArray) }:=I'.turnedL (t':=s'.toks) (fp:=[kS,D]) (fun b o hb e=>by
  rw[BM _ _ _ _ (fun z=>hb (by simp[z])),BM _ _ _ _ (fun z=>hb (by simp[z]))];exact e) fun b hb=>by
   simp only[Al,AA,or_false]at hb;rcases hb with rfl | rfl
   ·exact fK H' aB
   ·exact fD H' ai
 have az:((s'.heap.update kS (Bp fun _=>#[])).update D (Bp fun _=>(p.map fun i=>its.getD i .none).toArray)).get? D=_:=get?_update_seq (c:="list") (xs:=#[]) (n:=e1) (by
  rw[BM _ _ _ _ ag];exact ak) fun _=>(p.map fun i=>its.getD i .none).toArray
 have aD:=ho.1.length_eq;rw[BF]at aD;have aE:(p.map fun i=>xs.getD i V.non).length≤sizeLine:=aM (by rw[Ab];omega);exact⟨.ref D,_,I6.track (ob:=.lst (p.map fun i=>xs.getD i .non)) (fD H' ai) ⟨aE,_,_,aC,az⟩,rfl,q D kk p _ (S.trans (aK ai)) nD (by omega) (fun i hi=>U.kr i hi) ho aH⟩
end
section
variable{X:Cx}{fc:List (Ah×Obj)}{σ:St}{H:Hp}{s:Ad}{a:Ah}{fg:List (Key×V)}{k:Key}{u r:Ac}{A:AO}{E:Ac→Ad→Prop}
theorem aKw{z:V}{Q:Ac→Ad→Prop}(I:Inv X fc σ H s)(e:H a=some (.dK fg))(hl:fg.length < 1000)(Z:c5 (kV k) u)(rz:c5 z r)
  (h1:∀ v W s',fJ fg k=some v→Inv X fc σ H s'→c5 v W→Q W s') (h2:∀ s',fJ fg k=none→Inv X fc σ (upd H a (.dK (f8 fg k z))) s'→Q r s'):wpAny (model X.prog X.w) A (call (.builtin "dict.setdefault") [.ref a,u,r]) Q E s:=by
 obtain⟨zz,hd,vs,rel,dd⟩:=y9 I.hok e;refine call_meetsIn PySem.F.slot_dict_setdefault dd.typeIs PySem.F.entry_dict_setdefault (PySem.F.args_dict_setdefault_3 _ _ _) (kt_meets_setdefault (c9 X.prog X.w) a (rY Z) hd r) ⟨vs,dd,by rw[← rel.length];exact zz,fun W hw=>?_,fun hn h' U Y=>?_⟩
 ·have J:=rel.val k;rw[hw]at J;cases O:fJ fg k with
  | none=>rw[O]at J;cases J
  | some v=>
   rw[O]at J;obtain⟨w2,e2,r2⟩:=nX.some_of (v:=v) (o:=some W) J;cases e2;exact h1 v _ _ O (I.tok _) r2
 ·have O:fJ fg k=none:=by
   have J:=rel.val k;rw[hn]at J;cases O:fJ fg k with
   | none=>rfl
   | some v=>
    rw[O]at J;obtain⟨w2,e2,_⟩:=nX.some_of (v:=v) (o:=none) J;cases e2
  have he:∃ q,h'.get? a=some q:=let ⟨q,_,_,hq,_⟩:=U;⟨q,hq⟩
  have aa:=jF fg k z;exact h2 _ O (qQ I (by rw[e];exact Cg) Y he (aA7 (aM (by omega)) hd (rel.put k rz) U))
end
def aKx(td ty tx:TE):TE:=fun σ H Q=>td σ H fun x H1=>∃ a,x=.ref a∧IsD H1 a∧ty σ H1 fun y H2=>tx σ H2 fun z H3=>∃ fg k,H3 a=some (.dK fg)∧fg.length < 1000∧y=kV k∧
 (∀ v,fJ fg k=some v→Q v H3)∧(fJ fg k=none→Q z (upd H3 a (.dK (f8 fg k z))))
section
variable{X:Cx}{o e f:Bf}{ig gx:Pos}{td ty tx:TE}
theorem aEY(ho:PE X o td)(he:PE X e ty)(hf:PE X f tx)(m:M2 X o "setdefault" ig e f gx):PE X (.Call (.Attribute o "setdefault" ig) [e,f] [] gx) (aKx td ty tx):=by
 constructor;intro fc s σ H Q I h;refine wpAny_Call_method m.base m.few m.line PySem.F.plainAttrs_dict PySem.F.slot_dict_setdefault PySem.F.type_dict_setdefault (thn (ho fc s σ H _ I h) fun u s1 ⟨x,H1,O,rx,a,ex,d,q1⟩=>?_);subst ex;obtain rfl:u=AB a:=rx;obtain⟨t1,t2,_⟩:=aEs O d;refine⟨t1,t2,?_⟩;rw[m.trees];refine EN rfl (Di (Fq (thn (he fc s1 σ H1 _ O q1) fun iv s2 ⟨y,H2,I2,Z,W⟩=>
  Fq (thn (hf fc s2 σ H2 _ I2 W) fun fv s3 ⟨z,H3,I3,U,fg,k,ea,hl,Y,q3,q4⟩=>Calls.spliced_nil ?_))))
 subst Y;exact aKw I3 ea hl Z U (fun v w' s4 hv J r4=>⟨v,H3,J,r4,q3 v hv⟩) fun s4 hn J=>⟨z,_,J,U,q4 hn⟩
end
def v9(v d:Ah):HO:=.ext fun h=>h.IsValuesView v d
def aJH(td:TE):TE:=fun σ H Q=>td σ H fun x H1=>∃ d fg,x=.ref d∧H1 d=some (.dK fg)∧∀ v,H1 v=none→Q (.ref v) (upd H1 v (v9 v d))
section
variable{X:Cx}{o:Bf}{ig gx:Pos}{td:TE}
theorem aDy(Z:PE X o td)(z:attributeBase o "values" X.env (eval o X.env)=eval o X.env:=by rfl)(J:(ig.endLine == gx.line)=true:=by rfl):PE X (.Call (.Attribute o "values" ig) [] [] gx) (aJH td):=by
 constructor;intro fc s σ H Q I h;refine wpAny_Call_method0_late z J (thn (Z fc s σ H _ I h) fun v s1 ⟨x,H1,U,W,d,fg,ex,hd,Y⟩=>?_);subst ex;obtain rfl:v=AB d:=W;obtain⟨t1,t2,_⟩:=aEs U (.inl ⟨fg,.inl hd⟩);obtain⟨zz,hds,vs,rel,dd⟩:=y9 U.hok hd;refine⟨"dict","dict.values",PySem.F.plainAttrs_dict,PySem.F.slot_dict_values,PySem.F.type_dict_values,t1,t2,EN rfl (PySem.evalArgs_none ?_)⟩;refine call_meetsIn PySem.F.slot_dict_values dd.typeIs PySem.F.entry_dict_values (PySem.F.args_dict_values_1 _) (meets_dict_values (c9 X.prog X.w) d hds) ⟨⟨vs,dd⟩,?_⟩;have hn:=U.hok.fresh (Ap s1.heap.objs.size);have O:Heap.IsValuesView (s1.heap.push { cls:=.type "dict_values",data:=.fields #[.ref d] }) s1.heap.objs.size d:=⟨_,Aq _ rfl,rfl,rfl⟩
 refine⟨.ref s1.heap.objs.size,_,U.laid (t':=s1.toks) (o:=v9 s1.heap.objs.size d) (fun b u e=>Ai _ e) (Ap _) ⟨O,⟨_,Aq _ rfl⟩,fun h1 h2 f g=>?_⟩,rfl,Y _ hn⟩;obtain⟨ob,hob,r⟩:=f;exact⟨ob,g ob hob,r⟩
end
section
variable{prog:Ay}{w:AV}{A:AO}{v d:Ah}{vs:List (Key×Ac)}
theorem tV(hh:A.handled=none){E:Ac→Ad→Prop}{s:Ad}{Q:List Ac→Ad→Prop}(hv:s.heap.IsValuesView v d)(hm:s.heap.DictOf (c9 prog w) d vs)(hz:vs.length≤1000)
  (h:∀(h':Ba) (tk:Nat),(∀ b u,s.heap.get? b=some u→h'.get? b=some u)→s.heap.objs.size≤h'.objs.size→Q (vs.map (·.2)) { s with heap:=h',toks:=tk }):wpAny (model prog w) A (collect (.ref v)) Q E s:=by
 obtain⟨ov,hov,hcv,hdv⟩:=id hv;obtain⟨od,es,ep,hod,hrest⟩:=id hm;have av:=Ar hov;have Z:=Ar hod;unfold collect;apply Aa;apply DB;apply BB E9;rw[BC E8];show wpAny _ A.in1 (newList [] >>= fun l=>again (.builtin "list.__iadd__" ⟨[l,.ref v],[]⟩)) _ _ s;apply Aa;refine BI (Ae ⟨Dk Dp _,BB FU ?_⟩);rw[BC Dp];have ad:(s.heap.push { cls:=.type "list",data:=.seq ([]:List Ac).toArray }).get? v=some ov:=Ai _ hov;have ai:(s.heap.push { cls:=.type "list",data:=.seq ([]:List Ac).toArray }).get? d=some od:=Ai _ hod;have am:(s.heap.push { cls:=.type "list",data:=.seq ([]:List Ac).toArray }).get? s.heap.objs.size=some { cls:=.type "list",data:=.seq ([]:List Ac).toArray }:=Aq _ rfl;have e1:Builtin.List.listSameRef (.ref s.heap.objs.size) (.ref v)=false:=by
  show(s.heap.objs.size == v)=false;simpa using CJ av
 show wpAny _ A.in1 (Cf (.ref s.heap.objs.size) (.ref v) (.ref s.heap.objs.size)) _ _ _;unfold Cf;refine Aa (B0 (T:="dict_values") ⟨ov,ad,hcv⟩ ?_);rw[Ia (by rw[e1];decide)];refine Aa (wpAny_pyIter_values (kvs:=vs) (ep:=ep) (knd:=c9 prog w) ⟨ov,ad,hcv,hdv⟩ ⟨od,es,ai,hrest⟩ ?_);have aq:(s.heap.push { cls:=.type "list",data:=.seq ([]:List Ac).toArray }).objs.size=s.heap.objs.size + 1:=B5 _ _;obtain⟨I,hI⟩:∃ I,I=(s.heap.push { cls:=.type "list",data:=.seq ([]:List Ac).toArray }).objs.size:=⟨_,rfl⟩
 dsimp only;have gI:((s.heap.push { cls:=.type "list",data:=.seq ([]:List Ac).toArray }).push { cls:=.type "dict_valueiterator",data:=.fields #[.ref d,.int 0 0,.int vs.length 0,.int ep 0] }).get? I=some { cls:=.type "dict_valueiterator",data:=.fields #[.ref d,.int 0 0,.int vs.length 0,.int ep 0] }:=by
  rw[hI];exact Aq _ rfl
 have z:∀ b u,(s.heap.push { cls:=.type "list",data:=.seq ([]:List Ac).toArray }).get? b=some u→((s.heap.push { cls:=.type "list",data:=.seq ([]:List Ac).toArray }).push { cls:=.type "dict_valueiterator",data:=.fields #[.ref d,.int 0 0,.int vs.length 0,.int ep 0] }).get? b=some u:=fun b u e=>Ai _ e;rw[← hI];generalize (s.heap.push { cls:=.type "list",data:=.seq ([]:List Ac).toArray }).push { cls:=.type "dict_valueiterator",data:=.fields #[.ref d,.int 0 0,.int vs.length 0,.int ep 0] }=h2 at gI z ⊢;have ac:=z _ _ ad;have ap:=z _ _ ai;have ag:=z _ _ am;have O:I=s.heap.objs.size + 1:=by rw[hI,aq]
 refine Aa (A1 ?_);unfold Builtin.List.listLengthHint;refine Aa (DO (T:="dict_values") ⟨ov,ac,hcv⟩ F.slot_dict_values_len.lookup ?_);generalize hid:("dict_values.__len__":String)=au
 wp_delta
 rw[show splitId au=some ("dict_values","__len__") from by subst hid;decide];subst hid;refine Aa (BS (b:=true) (T:="dict_values") ⟨ov,ac,hcv⟩ (by rw[Gv];kernel_rfl) ?_);refine An (by rfl) ?_;refine BJ (by decide) ?_;refine Aa (B0 (T:="dict_values") ⟨ov,ac,hcv⟩ ?_);refine Ae ?_;refine BJ (by decide) ?_;refine Aa (EF ?_);have aw:d≠I:=by rw[O];exact AG (Bj Z)
 have an:s.heap.objs.size ∉ [I,d]:=by
  rw[O];simp only[Al,AA,or_false,not_or];exact⟨AG (B9 _),CJ Z⟩
 apply Aa;show wpAny _ A.in1 (updateSeq s.heap.objs.size (·.push .none) >>= fun _=>updateSeq s.heap.objs.size (·.pop)) _ _ _
 apply Aa;refine Fc ag rfl ?_;have aj:=Bh (Bp (·.push BH)) ag rfl
 refine Fc aj rfl ?_;have ao:=Bh (Bp (·.pop)) aj rfl
 have aa:∀ b u,b≠s.heap.objs.size→h2.get? b=some u→((h2.update s.heap.objs.size (Bp (·.push BH))).update s.heap.objs.size (Bp (·.pop))).get? b=some u:=
  fun b u nb e=>(Bq _ _ (CV nb)).trans ((Bq _ _ (CV nb)).trans e)
 have W:=Walks.dictValues (prog:=prog) (w:=w) (knd:=c9 prog w) (A:=A.in1) hh I d aw vs ep;have ak:I≠s.heap.objs.size:=by rw[O];exact CJ (B9 _)
 refine Ae ⟨Dk F.plain_extend_loop _,codeAny_extend_loopS (Fz W) (aM (by omega)) s.heap.objs.size an _ _ 0 _ _ _ rfl (Bo _) ⟨⟨_,aa _ _ ak gI,rfl,rfl⟩,⟨od,es,aa _ _ (AG Z) ap,hrest⟩⟩ ao (ItemsOf.nil _) fun s' J c' U ah Y=>?_⟩;show wpAny _ A (load s.heap.objs.size >>= _) _ _ s';apply Aa;refine Gr ah (Ae ?_);obtain⟨h',g',d',tk',os'⟩:=s';have g1:=U.gens;have g2:=U.os;have g3:=U.drawn;dsimp only at g1 g2 g3;subst g1 g2 g3;have af:J.toList=vs.map (·.2):=by
  apply CC;intro j;by_cases hj:j < J.size
  ·obtain⟨k,hk⟩:=Y.2 j J[j] (by simp[hj]);rw[AC,hk];simp[hj]
  ·have:=Y.1;rw[AY (by simpa using hj),AY (by rw[Ab];omega)]
 rw[af];refine h h' tk' (fun b u e=>?_) (Dv (Ar ah));have ae:=Ar e;have nb:b≠s.heap.objs.size:=AG ae;have nI:b≠I:=by rw[O];exact AG (Bj ae)
 exact U.heap b u (by simp[nb,nI]) (aa b u nb (z b u (Ai _ e)))
end
def aKy(K:Ag)(sp:Sp)(ta:TA):TE:=fun σ H Q=>ta σ H fun vs H1=>∃(l:Ah) (xs:List V) (KR:V→K3→Prop),vs=[V.ref l]∧(SqL K H1 l xs∨∃ d fg,H1 l=some (v9 l d)∧H1 d=some (.dK fg)∧xs=fg.map (·.2))∧xs.length < 64∧
 (∀ y∈xs,∀(H':Hp) (Q:VK),aY H1 H'→(∀ t a b c H'',aY H' H''→H'' t=some (.tup [.int a,.int b,.str c])→KR y (a,b,c)→Q (.ref t) H'')→sp [y] H' Q E0)∧
 ∀ D (kk:List K3) (p:List Nat) H',aY H1 H'→H1 D=none→kk.length=xs.length→(∀ i,i < xs.length→KR (xs.getD i .non) (kk.getD i k0))→aAe kk p→H' D=some (.lst (p.map fun i=>xs.getD i .non))→Q (.ref D) H'
theorem aGB{fg:List (Key×V)}{vs:List (Key×Ac)}(r:KV fg vs):cG (fg.map (·.2)) (vs.map (·.2)):=by
 induction r with
 | nil=>exact .nil
 | cons h _ z=>exact .cons h.2 z
section
variable{X:Cx}{e:Bf}{ta:TA}
theorem aBk{k:Nat}{f:Ah}{fd:AH}{x g:Str}{sp:Sp}{p pk kp pos:Pos}(F:b8 X.prog X.w X.K X.mg X.base CX0 k f fd [x] sp)(hr:cQ (k + 2) X.A)(hb:cZ X.K fd [x] [])(hg:Gl X "sorted")(hm:X.mg "sorted"=none)(aa:Gl X g)(ac:X.mg g=some (.ref f))(ha:PA X [e] ta)
  (hd:(g == ("__debug__":Str))=false:=by decide) (he:starEach [e] X.env=[(false,eval e X.env)]:=by rfl):
  PE X (.Call (.Name "sorted" p) [e] [⟨some "key",.Name g pk,kp⟩] pos) (aKy X.K sp ta):=by
 constructor;intro fc s σ H Q I h;refine CO (o8 I hg hm boot_sorted ?_ (by decide) (by decide));refine callWith_builtin_kwB (by rw[he];rfl) (by rfl) ?_;have z:=ha pos fc s σ H _ I h
 ·rw[he]at z ⊢;refine evalArgs_kwB (by rfl) (thn z fun us s1 ⟨vs,H1,I1,r,q1⟩=>?_);obtain⟨l,xs,KR,rfl,O,h64,hkey,q⟩:=q1;have Y:PK X [⟨some "key",.Name g pk,kp⟩] (aB5 (tC (.ref f)) aIc):=aGq (cE aa ac rfl hd) aId;refine thn (Y pos fc s1 σ H1 (fun zs H2=>zs=[V.ref f]∧H2=H1) I1 ⟨rfl,rfl⟩) fun ws s2 ⟨zs,H2,J,rz,ez,eH⟩=>?_;subst ez eH;cases rz with
  | cons r1 r2=>
   cases r1;cases r2;cases r with
   | cons r3 r4=>
    cases r3;cases r4;rcases O with O | ⟨d,fg,O,W,rfl⟩
    ·obtain⟨its,rv,pl,_⟩:=J.list O;have U:=rv.length;refine aAf (KR:=KR) F hr hb J rv (fun B Q' E' hB Z=>?_) h64 hkey q;refine collect_list pl.isList (Z _ s2.toks (fun b u e=>?_) ?_) (aM (by omega))
     ·rw[BM _ _ _ _ (AG (Ar e))];exact Ai _ e
     ·rw[Heap.size_update,B5];exact CU _
    ·obtain⟨hv,_,_⟩:cP X.prog X.w H2 s2.heap l (v9 l d):=J.hok l _ O;obtain⟨_,_,vs,rel,dd⟩:=y9 J.hok W;have U:=rel.length;rw[Ab]at h64;refine aAf (KR:=KR) F hr hb J (aGB rel) (fun B Q' E' hB Z=>?_) (by rw[Ab];exact h64) hkey q;exact tV hB hv dd (by omega) fun h' tk k1 k2=>Z h' tk k1 k2
end
inductive Fm:V→Str→Prop
 | str (z:Str) (h:z.length≤sizeLine):Fm (.str z) z
 | int (i:Int) (h:i.natAbs.log2 < 1920):Fm (.int i) (toString i)
abbrev TJ:=Str→St→Hp→VK→Prop
structure PJ(X:Cx)(es:List Bf)(t:TJ):Prop where
 run:∀(fc:List (Ah×Obj)) (s:Ad) (σ:St) (H:Hp) (Q:VK) (acc:Str),Inv X fc σ H s→t acc σ H Q→wpAny (model X.prog X.w) X.A (joinParts acc (evalEach es X.env)) (EP X fc σ Q) X.xe s
inductive J0(acc:Str)(σ:St)(H:Hp)(Q:VK):Prop
 | mk (h:acc.length≤sizeLine) (q:Q (.str acc) H):J0 acc σ H Q
inductive JC(z:Str)(t:TJ)(acc:Str)(σ:St)(H:Hp)(Q:VK):Prop
 | mk (h:(acc ++ z).length≤sizeLine) (q:t (acc ++ z) σ H Q):JC z t acc σ H Q
inductive JF(t:TJ)(acc:Str)(σ:St)(x:V)(H:Hp)(Q:VK):Prop
 | mk (z:Str) (f:Fm x z) (h:(acc ++ z).length≤sizeLine) (q:t (acc ++ z) σ H Q):JF t acc σ x H Q
section
variable{X:Cx}{es:List Bf}{t:TJ}{te:TE}
end
open PySem PySem.Spec PyProof.Rows PySem.Builtin PySem.Builtin.Str
inductive aGC(x:V)(xs:List V)(H:Hp)(Q:VK):Prop
 | mk (z y:PySem.Str) (h0:x=.str z) (h1:xs=[.str y]) (hy:(y.length == 0)=false) (hz:z.length + 2≤sizeLine) (q:∀ L,H L=none→Q (.ref L) (upd H L (.lst ((Txt.split z y).map V.str)))):aGC x xs H Q
open PySem PySem.Spec PyProof.Rows PySem.NumText
inductive aJI(xs:List V)(H:Hp)(Q:VK):Prop
 | mk (x:V) (z:Str) (h0:xs=[x]) (f:Fm x z) (q:Q (.str z) H):aJI xs H Q
inductive aJJ(xs:List V)(H:Hp)(Q:VK):Prop
 | mk (z:Str) (n:Int) (h0:xs=[.str z]) (hn:PySem.intText? z=some n) (hl:z.length≤640) (q:Q (.int n) H):aJJ xs H Q
section
variable{prog:Ay}{w:AV}{K:Type}[DecidableEq K]{knd:HeapKind prog w K}{A:AO}{E:Ac→Ad→Prop}{s:Ad}
end
open PySem PySem.SetTable
inductive aEZ(t:C9):Probe→Nat→Prop
 | here {p:Probe} {n:Nat}:t.slot p.j=.empty→aEZ t p n
 | step {p:Probe} {n:Nat}:aEZ t (t.advance p) n→aEZ t p (n + 1)
def aKI(t:C9)(i perturb:Nat):Probe:={ j:=i,more:=runEnd t.mask i - i,i:=i,perturb:=perturb,dummy:=none }
def orb(m:Nat):Nat→Nat→Nat
 | 0,i=>i
 | k + 1,i=>orb m k ((i * 5 + 1) % m)
structure aJK(t:C9)(n:Nat):Prop where
 size:t.place.size=n
 nod:t.dummies=#[]
 mask:(t.mask=7∧n≤4)∨(t.mask=31∧n≤18)
inductive aE0(owner:Array (Option Nat)):Nat→Nat→Nat→Prop
 | here {i p n:Nat}:(owner.getD i (some 0)).isNone=true→aE0 owner i p (n + 1)
 | step {i p n:Nat}:aE0 owner (SetTable.leap 31 i p).1 (SetTable.leap 31 i p).2 n→aE0 owner i p (n + 1)
structure aKT(owner:Array (Option Nat))(k:Nat):Prop where
 size:owner.size=32
 perm:((AL 32).filterMap fun j=>owner.getD j none).Perm (AL k)
section
variable{prog:Ay}{w:AV}{A:AO}{E:Ac→Ad→Prop}{s:Ad}
inductive aHD(prog:Ay)(w:AV)(h:Ba)(ks:List (List Str))(v:Ac):Prop
 | mk (b:_) (k:_) (q0:v=.ref b) (q1:IsTupleKey (strKind prog w) h k b) (q2:k∈ks):aHD prog w h ks v
def ElT(prog:Ay)(w:AV)(h:Ba)(ks:List (List Str))(v:Ac):Prop:=aHD prog w h ks v
end
section
variable{prog:Ay}{w:AV}{A:AO}{E:Ac→Ad→Prop}{s:Ad}
structure aKU(prog:Ay)(w:AV)(h:Ba)(a:Ah)(rs:List Ah)(ks:List (List Str))(o:Obj)(es:Array (Int×Ac))(ep:Nat)(t:C9):Prop where
 at_:h.get? a=some o
 ex:o.ExactSet
 data:o.data=.set es ep t
 perm:(es.toList.map (·.2)).Perm (rs.map AB)
 els:∀ e∈es.toList,ElT prog w h ks e.2
 tab:aJK t es.size
 led:tH w es t
end
abbrev P2:=Str×Str
inductive aCm(h:Ba)(v:Ac)(x:P2):Prop
 | mk (t:_) (u1:_) (u2:_) (q0:v=.ref t) (q1:EK h t #[.str x.1 u1,.str x.2 u2]):aCm h v x
def aKJ(h:Ba)(v:Ac)(x:P2):Prop:=aCm h v x
section
variable{prog:Ay}{w:AV}{A:AO}{E:Ac→Ad→Prop}{s:Ad}
end
section
variable{prog:Ay}{w:AV}{A:AO}{E:Ac→Ad→Prop}{s:Ad}
end
def aE1(H:Hp)(r:Ah):P2:=match H r with
 | some (.tup [.str x,.str y])=>(x,y)
 | _=>("","")
def aKK(H:Hp)(rs:List Ah):Prop:=∀ r∈rs,H r=some (.tup [.str (aE1 H r).1,.str (aE1 H r).2])
section
variable{P:Ay}{w:AV}{H:Hp}{h:Ba}{a:Ah}
end
theorem aCn:∀{rs:List Ah}{its:List Ac},cG (rs.map V.ref) its→its=rs.map AB
 | [],_,.nil=>rfl
 | r :: rs,_,.cons e q=>by
  rw[aCn q];cases e;rfl
section
variable{X:Cx}{fc:List (Ah×Obj)}{σ:St}{H:Hp}{s:Ad}
end
section
variable{prog:Ay}{w:AV}{A:AO}{E:Ac→Ad→Prop}{s:Ad}{d I:Ah}{od:Obj}{es:Array DictEntry}{ep i:Nat}
end
section
variable{X:Cx}
end
section
variable{X:Cx}{e st:Bf}{te ts:TE}{pos p2:Pos}
end
structure Fly(P:Ay)(w:AV)(outer:List Env)(H H':Hp)(s:Ad)(x:Ah)(C:Ac)(s':Ad):Prop where
 os:s'.os=s.os
 bare:ED s'.gens
 ex:∃(B:Ba) (a0:Ac),Fy B outer x C a0 s'.heap∧HOk P w H' B∧(∀ b o,s.heap.get? b=some o→H b=none→b ∉ frs outer→B.get? b=some o)∧∀ b o,s.heap.get? b=some o→b ∉ frs outer→∃ o',B.get? b=some o'
 frf:∀ b∈frs outer,H b=none
 slot:∀ b o,s.heap.get? b=some o→H b=none→b∈frs outer→∃ sl,s'.heap.get? b=some { o with slots:=sl }
 free:∀ b o,s.heap.get? b=some o→H b=none→H' b=none
 tups:∀ b xs,H b=some (.tup xs)→H' b=some (.tup xs)
 frzs:∀ b o u,H b=some (.frz o u)→H' b=some (.frz o u)
 tbls:∀ b ps,H b=some (.tbl ps)→∃ more,H' b=some (.tbl (ps ++ more))
def CXr(P:Ay)(w:AV):CXT:=fun outer H s E e s'=>∃(x:Ah) (C:Ac) (H':Hp),e=.ref x∧Fly P w outer H H' s x C s'∧E C none H'
theorem Fly.un{P:Ay}{w:AV}{outer:List Env}{H H':Hp}{s s':Ad}{x:Ah}{C:Ac}(h:Fly P w outer H H' s x C s'):Un (frs outer) [] H H' s.heap s'.heap:=by
 obtain⟨B,a0,fl,hok,hk,ht⟩:=h.ex;refine⟨fun b o e n z _=>fl.1 b o (hk b o e n z),fun b o e n z _=>h.slot b o e n z,fun b o e n _=>h.free b o e n,fun b o e _=>?_,h.tups,h.frzs,h.tbls⟩;by_cases hm:b∈frs outer
 ·obtain⟨sl,e1⟩:=h.slot b o e (h.frf b hm) hm;exact⟨_,e1⟩
 ·obtain⟨o1,e1⟩:=ht b o e hm;exact⟨o1,fl.1 b o1 e1⟩
theorem Fly.hok{P:Ay}{w:AV}{outer:List Env}{H H':Hp}{s s':Ad}{x:Ah}{C:Ac}(h:Fly P w outer H H' s x C s'):HOk P w H' s'.heap:=by
 obtain⟨B,a0,fl,hok,hk,ht⟩:=h.ex;exact hok.kept fl.1
section
variable{P:Ay}{w:AV}{K:Ag}{mg:Str→Option Ac}{base:Ba}{N:List Str}{qual:Str}{scope:Ds}{f:Ah}{cd:Ac}{A:AO}{outer:List Env}{s:Ad}{H:Hp}{E:XK}
theorem aAg{fc:List (Ah×Obj)}{σ:St}{H1:Hp}{s1:Ad}{h':Ba}{e C:Ah}{args:List Ac}(I:Inv (dG (CXr P w) P w K mg base N qual scope f cd A outer s H E) fc σ H1 s1)
  (hx:Heap.MadeExcOf s1.heap h' e (.ref C) args) (hE:E (.ref C) none H1):(dG (CXr P w) P w K mg base N qual scope f cd A outer s H E).xe (.ref e) { s1 with heap:=h' }:=by
 have Y:∀ env∈(envOfC qual scope s.heap.objs.size f cd :: outer),∀ b,env.frame=some b→b∈frs (envOfC qual scope s.heap.objs.size f cd :: outer):=fun env O b U=>A4.mpr ⟨env,O,U⟩;have W:s1.heap.FunFrames base (envOfC qual scope s.heap.objs.size f cd :: outer):=I.stack;have aa:∀ b∈frs (envOfC qual scope s.heap.objs.size f cd :: outer),H1 b=none:=I.stkFree;show wpAny _ _ (leaving _ _) _ _ _;refine wpAny_leaves_madeW (base:=hideAll s1.heap (frs (envOfC qual scope s.heap.objs.size f cd :: outer))) (h:=s1.heap) (L:=s.heap.objs.size) I.ok.frames rfl (fun b o q=>of_hideAll _ q) (funFrames_hide W Y) hx fun Z t x1 x2 x3 x4=>?_;have hL:∀ b,b∈frs (envOfC qual scope s.heap.objs.size f cd :: outer)→b=s.heap.objs.size∨b∈frs outer:=fun b U=>by
  obtain⟨env,O,J⟩:=A4.mp U;rcases Al.mp O with rfl | O
  ·exact .inl (Cb.inj J).symm
  ·exact .inr (A4.mpr ⟨env,O,J⟩)
 have F:∀ b o,s.heap.get? b=some o→H b=none→b ∉ frs outer→(hideAll s1.heap (frs (envOfC qual scope s.heap.objs.size f cd :: outer))).get? b=some o:=fun b o q n nf=>
  ER _ (I.base.keep b o q n nf (by simp[dG])) fun hm=>by
   rcases hL b hm with z | z
   ·rw[z]at q;exact absurd (Ar q) (Bx _)
   ·exact nf z
 have slot:∀ b o,s.heap.get? b=some o→H b=none→b∈frs outer→∃ sl,Z.get? b=some { o with slots:=sl }:=fun b o q n J=>by
  obtain⟨sl,e1⟩:=I.base.slot b o q n J (by simp[dG]);have hm:b∈frs (envOfC qual scope s.heap.objs.size f cd :: outer):=by
   obtain⟨env,O,J⟩:=A4.mp J;exact A4.mpr ⟨env,.tail _ O,J⟩
  obtain⟨_,o2,e2,hd⟩:=W.mem hm;rw[e1]at e2;cases e2;obtain⟨sl2,e3⟩:=x4 b _ (hx.keeps b _ e1) hd;exact⟨sl2,e3⟩
 refine⟨e,.ref C,H1,rfl,⟨I.os,I.bare,⟨_,_,x1,fun a o q=>(I.hok a o q).stay (fun b u U e=>ER _ e fun hm=>?_) (fun _ q=>q) fun _ _ q=>q,F,fun b o q nf=>?_⟩,I.ok.frf,slot,fun b o q n=>I.base.free b o q n (by simp[dG]),I.base.tups,I.base.frzs,I.base.tbls⟩,hE⟩
 ·have hn:=aa b hm;rcases U with rfl | U
  ·rw[q]at hn;cases hn
  ·rw[U]at hn;cases hn
 ·obtain⟨o1,e1⟩:=I.base.there b o q (by simp[dG]);refine⟨o1,ER _ e1 fun hm=>?_⟩;rcases hL b hm with z | z
  ·rw[z]at q;exact absurd (Ar q) (Bx _)
  ·exact nf z
theorem lS{E':XK}(hE:∀ C dx H',E' C dx H'→E C dx H'):pB (CXr P w) (dG (CXr P w) P w K mg base N qual scope f cd A outer s H E) E':=by
 rintro fc σ H1 s1 e s2 I ⟨x,C,H2,rfl,F,Y⟩;have aa:s1.heap.FunFrames base (envOfC qual scope s.heap.objs.size f cd :: outer):=I.stack;have ai:∀ b∈frs (envOfC qual scope s.heap.objs.size f cd :: outer),H1 b=none:=I.stkFree;obtain⟨B,a0,fl,hokB,hkB,htB⟩:=F.ex;have fl:Fy B (envOfC qual scope s.heap.objs.size f cd :: outer) x C a0 s2.heap:=fl;show wpAny _ _ (leaving _ _) _ _ _;refine wpAny_leaves_onW (base:=B) (L:=s.heap.objs.size) I.ok.frames rfl fl fun Z y1 y2=>?_;have hL:∀ b,b∈frs (envOfC qual scope s.heap.objs.size f cd :: outer)→b=s.heap.objs.size∨b∈frs outer:=fun b hb=>by
  obtain⟨env,U,J⟩:=A4.mp hb;rcases Al.mp U with rfl | U
  ·exact .inl (Cb.inj J).symm
  ·exact .inr (A4.mpr ⟨env,U,J⟩)
 have up:∀ b,b∈frs outer→b∈frs (envOfC qual scope s.heap.objs.size f cd :: outer):=fun b J=>by
  obtain⟨env,U,J⟩:=A4.mp J;exact A4.mpr ⟨env,.tail _ U,J⟩
 have nox:∀ b:Ah,b ∉ (dG (CXr P w) P w K mg base N qual scope f cd A outer s H E).ex:=fun b=>by simp[dG]
 have O:∀ b o,s1.heap.get? b=some o→H1 b=none→b∈frs (envOfC qual scope s.heap.objs.size f cd :: outer)→∃ W,Z.get? b=some { o with slots:=W }:=fun b o q n hm=>by
  obtain⟨W,e1⟩:=F.slot b o q n hm;obtain⟨_,o2,e2,hd⟩:=aa.mem hm;rw[q]at e2;cases e2;obtain⟨sl2,e3⟩:=y2 b _ e1 hd;exact⟨sl2,e3⟩
 refine⟨x,C,H2,rfl,⟨F.os.trans I.os,F.bare,⟨B,a0,y1,hokB,fun b o q n nf=>hkB b o (I.base.keep b o q n nf (nox b)) (I.base.free b o q n (nox b)) fun hm=>?_,fun b o q nf=>?_⟩,I.ok.frf,fun b o q n J=>?_,fun b o q n=>?_,fun b xs q=>F.tups b xs (I.base.tups b xs q),fun b o u q=>F.frzs b o u (I.base.frzs b o u q),fun b ps q=>?_⟩,hE _ _ _ Y⟩
 ·rcases hL b hm with z | z
  ·rw[z]at q;exact absurd (Ar q) (Bx _)
  ·exact nf z
 ·obtain⟨o1,e1⟩:=I.base.there b o q (nox b);refine htB b o1 e1 fun hm=>?_;rcases hL b hm with z | z
  ·rw[z]at q;exact absurd (Ar q) (Bx _)
  ·exact nf z
 ·obtain⟨W,e1⟩:=I.base.slot b o q n J (nox b);obtain⟨sl2,e2⟩:=O b _ e1 (I.base.free b o q n (nox b)) (up b J);exact⟨sl2,e2⟩
 ·obtain⟨o1,e1⟩:=I.base.there b o q (nox b);exact F.free b o1 e1 (I.base.free b o q n (nox b))
 ·obtain⟨m1,e1⟩:=I.base.tbls b ps q;obtain⟨m2,e2⟩:=F.tbls b _ e1;exact⟨m1 ++ m2,by rw[← Array.append_assoc];exact e2⟩
end
structure aCo(h:Ba)(C:Ah)(iq:List Ac)(newId:String)(tl:List Ac)(N':Ah)(nm q:Str)(bs:List Ac)(hdct:Bool)(sn:List Str)(sub:List Ac)(ab:Bool)(col:Option Bool)(dd:Option Ah)(k0 k1 k2 k3 k5:Option Ac)(mN:Str→Option Ac):Prop where
 ob:h.get? C=some (excClassObj nm q C N' bs tl hdct sn sub ab col dd k0 k1 k2 k3 k5 newId)
 ns:h.Ns N' mN
 ni:mN "__init__"=none
 tl:OwnTail h iq tl
theorem aCo.keeps{h h':Ba}{C:Ah}{iq:List Ac}{newId:String}{tl:List Ac}{z:Ah}{nm q:Str}{bs:List Ac}{hdct:Bool}{sn:List Str}{sub:List Ac}{ab:Bool}{col:Option Bool}{dd:Option Ah}{k0 k1 k2 k3 k5:Option Ac}{mN:Str→Option Ac}
  (x:aCo h C iq newId tl z nm q bs hdct sn sub ab col dd k0 k1 k2 k3 k5 mN) (k:∀ b o,h.get? b=some o→h'.get? b=some o):aCo h' C iq newId tl z nm q bs hdct sn sub ab col dd k0 k1 k2 k3 k5 mN:=⟨k _ _ x.ob,x.ns.keeps k,x.ni,x.tl.keeps k⟩
theorem aBl{K:Ag}{h:Ba}{C:Ah}{iq:List Ac}{newId:String}(X:K.In h)(z:excIn K C iq newId=true):
  ∃ tl N' nm q bs hdct sn sub ab col dd k0 k1 k2 k3 k5 mN,aCo h C iq newId tl N' nm q bs hdct sn sub ab col dd k0 k1 k2 k3 k5 mN:=by
 unfold excIn at z;split at z
 ·rename_i d1 cl F Y;split at z
  ·rename_i c1 Z j0 j1 W j3 J j5 U es;simp only[AX,beq_iff_eq,Bool.not_eq_true']at z;obtain⟨⟨⟨⟨⟨z1,z2⟩,z3⟩,z4⟩,z5⟩,z6⟩:=z;subst z1 z2;have O:F=#[j0,j1,W,j3,some (.builtin J),j5]:=DX.mp es;cases cl;simp only at U z3 z5 z6;subst U z3 O;exact⟨_,_,_,_,_,_,_,_,_,_,_,_,_,_,_,_,_,X _ _ Y,.of_isNs (isNs_of_in X z5),nsMap_none_of_in X z5 z6,tail_of_in X z4⟩
  ·cases z
 ·cases z
section
variable{P:Ay}{w:AV}{K:Ag}{mg:Str→Option Ac}{base:Ba}{N:List Str}{qual:Str}{scope:Ds}{f:Ah}{cd:Ac}{A:AO}{outer:List Env}{s:Ad}{H:Hp}{E:XK}
theorem lT{x:Str}{C:Ah}{B newId ii:String}{iq:List Ac}{np gx pos:Pos}{F:Bf}{es:List Bf}{t:TA}(Z:Ga B newId ii iq)(hg:Gl (dG (CXr P w) P w K mg base N qual scope f cd A outer s H E) x)(hm:mg x=some (.ref C))(hq:excIn K C iq newId=true)(ha:PA (dG (CXr P w) P w K mg base N qual scope f cd A outer s H E) (F :: es) t)
  (Y:starEach (F :: es) (dG (CXr P w) P w K mg base N qual scope f cd A outer s H E).env=(false,eval F (dG (CXr P w) P w K mg base N qual scope f cd A outer s H E).env) :: starEach es (dG (CXr P w) P w K mg base N qual scope f cd A outer s H E).env:=by rfl)
  (O:(backTo gx (starEach es (dG (CXr P w) P w K mg base N qual scope f cd A outer s H E).env)).any (·.1)=false:=by rfl) (hd:(x == ("__debug__":Str))=false:=by decide):
  PS (dG (CXr P w) P w K mg base N qual scope f cd A outer s H E) (.Raise (some (.Call (.Name x np) (F :: es) [] gx)) none pos) (fun D σ H1=>t σ H1 fun vs H2=>vs.length≤sizeLine∧E (.ref C) none H2):=by
 constructor;intro fc s1 σ H1 D I h;obtain⟨tl,N',nm,q,bs,hdct,sn,sub,ab,col,dd,k0,k1,k2,k3,k5,mN,hO⟩:=aBl (C:=C) I.ok.mod.kin hq;have W:=hO.keeps I.bk;refine wpAny_Raise_call_subT (C:=C) (nm:=nm) (q:=q) (N:=N') (bs:=bs) (bm:=tl) (hdct:=hdct) (sn:=sn) (sub:=sub) (ab:=ab) (col:=col) (dd:=dd) (k0:=k0) (k1:=k1) (k2:=k2) (k3:=k3) (k5:=k5)
  Z (mN:=mN) (W.tl.hasType Z.hasBase) (I.ok.hd rfl) ?_ W.ni ?_
 ·rw[Y];show(false || (backTo gx (starEach es (dG (CXr P w) P w K mg base N qual scope f cd A outer s H E).env)).any (·.1))=false
  rw[O];rfl
 ·refine A9 ((cE (v:=.ref C) hg hm rfl hd).run fc s1 σ H1 (fun v H'=>v=.ref C∧H'=H1) I ⟨rfl,rfl⟩) (fun u s2 U=>?_) fun _ _ y=>y;obtain⟨v,H2,I2,rv,rfl,rfl⟩:=U;cases rv;refine⟨rfl,?_⟩;have z:=ha gx fc s2 σ H2 _ I2 h;rw[Y]at z ⊢;refine Di (A9 z (fun us s3 U=>?_) fun _ _ y=>y);obtain⟨vs,H3,I3,r3,hl,hE⟩:=U;have J:=hO.keeps I3.bk;exact⟨rfl,by rw[← r3.length];exact hl,J.ob,J.ns,J.tl,fun h' e hx=>aAg I3 hx hE⟩
theorem Fun.okR{x qual:Str}{st:B3}{f:Ah}{fd:AH}{N ps:List Str}{k:Nat}{sp:Sp}(F:Fun K x qual st f fd)(S:bU N ps (aO st))(len:∀ vs H Q E,sp vs H Q E→vs.length=ps.length)
  (J:∀(z:Ac) (A:AO) (outer:List Env) (s:Ad) (H:Hp) (vs:List V) (Q:VK) (E:XK),cQ k (A.deeper (envOfC qual (aO st) s.heap.objs.size f z))→sp vs H Q E→
   ∃ t,PSs (dG (CXr P w) P w K mg base N qual (aO st) f z A outer s H E) (d9 st) t∧t { nx:=fun _ H'=>Q .non H',rt:=Q } (m6 N vs) H):b8 P w K mg base (CXr P w) (k + 1) f fd ps sp:=by
 obtain⟨oc,od,kV,doc,pm,an,z,ct,osl,rfl,lk,hcd⟩:=F.ex;exact aEj lk hcd S len fun A outer s H vs Q E U O=>J z A outer s H vs Q E U O
end
theorem Fly.lands{P:Ay}{w:AV}{M:Ed}{A:AO}{env:Env}{outer:List Env}{L:Ah}{base:Ba}{H H':Hp}{s J:Ad}{x:Ah}{C:Ac}{Q E:Ac→Ad→Prop}{R:Ad→Prop}(F:Fly P w (env :: outer) H H' s x C J)
  (Y:s.heap.FunFrames base (env :: outer)) (U:A.frames=some (env :: outer)) (Z:env.frame=some L) (k:∀ O,Fly P w (env :: outer) H H' s x C { J with heap:=O }→R { J with heap:=O }):
  wpAny M A (noteFrame (.ref x) env) (fun _ s3=>wpAny M A (setFlight (.ref x) none) (fun _ s4=>R s4) E s3) E J:=by
 obtain⟨B,a0,fl,hokB,hkB,htB⟩:=F.ex;refine wpAny_looks_onW U Z fl fun h4 z u4=>?_;refine wpAny_landsW (s:={ J with heap:=h4 }) z fun O W u5=>k O ?_;refine⟨F.os,F.bare,⟨B,a0,W,hokB,hkB,htB⟩,F.frf,fun b o q n hm=>?_,F.free,F.tups,F.frzs,F.tbls⟩;obtain⟨sl,e1⟩:=F.slot b o q n hm;obtain⟨_,o2,e2,hd⟩:=Y.mem hm;rw[q]at e2;cases e2;obtain⟨sl2,e3⟩:=(u4.trans u5) b _ e1 hd;exact⟨sl2,e3⟩
theorem Inv.caught{X:Cx}{fc:List (Ah×Obj)}{σ:St}{H H':Hp}{s s':Ad}{x:Ah}{C:Ac}(I:Inv X fc σ H s)(F:Fly X.prog X.w X.stack H H' s x C s'):Inv X fc σ H' s':=
 I.call' (ch:=[]) F.os F.un F.hok F.bare (fun b z=>absurd z (by simp))
theorem Fly.obj{P:Ay}{w:AV}{outer:List Env}{H H':Hp}{s s':Ad}{x:Ah}{C:Ac}(F:Fly P w outer H H' s x C s'):∃ ob vs,s'.heap.get? x=some ob∧ob.cls=C∧ob.data=.fields vs:=by
 obtain⟨B,a0,fl,_⟩:=F.ex;obtain⟨_,_,_,oe,vs,_,_,_,he,hc,hd,_⟩:=fl;exact⟨oe,vs,he,hc.1,hd⟩
section
variable{prog:Ay}{w:AV}{A:AO}{E:Ac→Ad→Prop}{s:Ad}{κ:D5}{it:Array EJ}
def pN(prog:Ay)(w:AV)(A:AO)(s:Ad)(κ:D5)(it:Array EJ):Prop:=
 ∀ x y,x∈it.toList→y∈it.toList→∀ C:Bool→Ad→Prop,(∀ b,C b s)→wpAny (model prog w) A (keyLt' κ x.1 y.1) C (fun _ _=>False) s
variable(hc:pN prog w A s κ it)
include hc
end
def Pl(a b out:Array EJ)(ia ib:Nat):Prop:=(out.toList ++ (a.toList.drop ia ++ b.toList.drop ib)).Perm (a.toList ++ b.toList)
section
variable{a b out:Array EJ}{ia ib k:Nat}
end
structure Sg(st st':Fw):Prop where
 kind:kindOf st'=kindOf st
 arr:arrOf st'=arrOf st
 pend:pendingOf st'=pendingOf st
 fail:failedOf st'=failedOf st
structure GL(a b:Array EJ)(x:Nat)(out:Array EJ)(ia ib:Nat):Prop where
 pl:Pl a b out ia ib
 la:ia + 1 < a.size
 lb:ib < b.size
 on:x≤ia + ib
section
variable{prog:Ay}{w:AV}{A:AO}{E:Ac→Ad→Prop}{s:Ad}{κ:D5}{it:Array EJ}(hc:pN prog w A s κ it)
include hc
end
def Ph(a b out:Array EJ)(na nb:Nat):Prop:=(out.toList ++ (a.toList.take na ++ b.toList.take nb)).Perm (a.toList ++ b.toList)
section
variable{a b out:Array EJ}{na nb k:Nat}
end
structure GH(a b:Array EJ)(x:Nat)(out:Array EJ)(na nb:Nat):Prop where
 pl:Ph a b out na nb
 la:1≤na
 lb:2≤nb
 ua:na≤a.size
 ub:nb≤b.size
 on:x + na + nb≤a.size + b.size
section
variable{prog:Ay}{w:AV}{A:AO}{E:Ac→Ad→Prop}{s:Ad}{κ:D5}{it:Array EJ}(hc:pN prog w A s κ it)
include hc
end
structure Sm(st st':Fw):Prop where
 kind:kindOf st'=kindOf st
 arr:(arrOf st').Perm (arrOf st)
 pend:pendingOf st'=pendingOf st
 fail:failedOf st'=failedOf st
structure GS(κ:D5)(it:Array EJ)(st:Fw):Prop where
 kind:kindOf st=κ
 perm:(arrOf st).Perm it
 fail:failedOf st=none
section
variable{prog:Ay}{w:AV}{A:AO}{E:Ac→Ad→Prop}{s:Ad}{κ:D5}{it:Array EJ}
variable(hc:pN prog w A s κ it)
include hc
end
def aJL:List (Nat×Nat×Nat)→Nat→Nat→Prop
 | [],a,b=>a=b
 | r :: l,a,b=>r.1=a∧1≤r.2.1∧aJL l (a + r.2.1) b
section
variable{prog:Ay}{w:AV}{A:AO}{E:Ac→Ad→Prop}{s:Ad}{κ:D5}{it:Array EJ}
variable(hc:pN prog w A s κ it)
include hc
end
section
variable{prog:Ay}{w:AV}{A:AO}{E:Ac→Ad→Prop}{s:Ad}{κ:D5}{it:Array EJ}
structure SR(κ:D5)(it:Array EJ)(lo:Nat)(st:Fw):Prop where
 gs:GS κ it st
 le:lo≤it.size
 sg:aJL (pendingOf st).toList 0 lo
variable(hc:pN prog w A s κ it)
include hc
end
def aE2(c:Ah)(qual:Str):HO:=.ext fun h=>h.CodeRec (.ref c) qual
structure aKL(T:Ah)(pos:Pos)(qual:Str)(H:Hp):Prop where
 ex:∃ ps,H T=some (.tbl ps)∧TriplesOk ps.toList∧(codeAmong pos ps.toList=none∨∃ c,codeAmong pos ps.toList=some (.ref c)∧H c=some (aE2 c qual))
def aKM(T:Ah)(H H':Hp):Prop:=∀ b o,b≠T→H b=some o→H' b=some o
section
variable{X:Cx}{fc:List (Ah×Obj)}{σ:St}{H:Hp}{s:Ad}
end
structure aJM(ps fs:List Str)(sc:Ds):Prop where
 kind:sc.kind=.function
 co:sc.isCoroutine=false
 gen:sc.isGenerator=false
 nd:ps.Nodup
 par:∀ x∈ps,sc.names.lookup x=some .local
 fr:∀ x∈fs,sc.names.lookup x=some .free
 nocell:∀ y∈sc.names,y.2≠.cell
section
variable{X:Cx}{fc:List (Ah×Obj)}{σ:St}{H:Hp}{s:Ad}
end
section
variable{prog:Ay}{w:AV}{A:AO}{E:Ac→Ad→Prop}{s:Ad}
inductive aCp(h:Ba)(v:Ac):Prop
 | mk (t:_) (a:_) (b:_) (u1:_) (u2:_) (q0:v=.ref t) (q1:EK h t #[.int a u1,.int b u2]):aCp h v
def aKN(h:Ba)(v:Ac):Prop:=aCp h v
end
section
variable{X:Cx}{fc:List (Ah×Obj)}{σ:St}
inductive aCq(H:Hp)(v:Ac):Prop
 | mk (t:_) (a:_) (b:_) (q0:v=.ref t) (q1:H t=some (.tup [.int a,.int b])):aCq H v
def aKO(H:Hp)(v:Ac):Prop:=aCq H v
end
section
variable{X:Cx}{fc:List (Ah×Obj)}{σ:St}{H:Hp}{s:Ad}
end
section
variable{X:Cx}{e:Bf}{ta:TA}
end
section
variable{X:Cx}
end
section
variable{X:Cx}{tg:Bf}
end
section
variable{X:Cx}
inductive aBm(H:Hp):V→Prop
 | str (z:Str):aBm H (.str z)
 | non:aBm H .non
 | int (i:Int):aBm H (.int i)
 | bl (b:Bool):aBm H (.bl b)
 | lst {a:Ah} {xs:List V} (e:H a=some (.lst xs)):aBm H (.ref a)
 | tup {a:Ah} {xs:List V} (e:H a=some (.tup xs)):aBm H (.ref a)
inductive Thg(H:Hp):V→Option (List V)→Prop
 | lst {a:Ah} {xs:List V} (e:H a=some (.lst xs)) (h:∀ v∈xs,aBm H v):Thg H (.ref a) (some xs)
 | tup {a:Ah} {xs:List V} (e:H a=some (.tup xs)):Thg H (.ref a) none
 | dct {a:Ah} {fg:List (Key×V)} (e:H a=some (.dK fg)):Thg H (.ref a) none
 | non:Thg H .non none
 | str (z:Str):Thg H (.str z) none
 | bl (b:Bool):Thg H (.bl b) none
end
section
variable{X:Cx}
inductive RpV(H:Hp):V→Str→Prop
 | non:RpV H .non "None"
 | bl (b:Bool):RpV H (.bl b) (if b then "True" else "False")
 | str (z:Str) (h:(reprText z).length≤sizeLine):RpV H (.str z) (reprText z)
 | ref {a:Ah} {m:Bool} {d:Aj} (r:RdV m H (.ref a) d) (h1:d.showable=true) (h2:d.depth≤20) (h3:d.shown.length≤sizeLine):RpV H (.ref a) d.shown
end
def OkS:Nat→Aj→Prop
 | 0,d=>(∃ z,d=.str z)∨∃ i,d=.int i
 | n + 1,d=>(∃ z,d=.str z)∨(∃ i,d=.int i)∨∃ ds,d=.tuple ds∧∀ e∈ds,OkS n e
open Classical in
section
variable{X:Cx}{fc:List (Ah×Obj)}{σ:St}{H:Hp}{s:Ad}
open Classical in
end
section
variable{X:Cx}
open Classical in
end
section
variable{X:Cx}
end
inductive aJN(X:Cx)(fc:List (Ah×Obj))(σ:St)(E':XK)(x:Ac)(s':Ad):Prop
 | mk (H1:_) (s1:_) (q0:Inv X fc σ H1 s1) (q1:CXr X.prog X.w X.stack H1 s1 E' x s'):aJN X fc σ E' x s'
def XP(X:Cx)(fc:List (Ah×Obj))(σ:St)(E':XK)(x:Ac)(s':Ad):Prop:=aJN X fc σ E' x s'
structure PX(X:Cx)(e:Bf)(te:XK→TE):Prop where
 run:∀(E':XK) (fc:List (Ah×Obj)) (s:Ad) (σ:St) (H:Hp) (Q:VK),Inv X fc σ H s→te E' σ H Q→wpAny (model X.prog X.w) X.A (eval e X.env) (EP X fc σ Q) (XP X fc σ E') s
structure PXs(X:Cx)(b:List B3)(tb:XK→TS):Prop where
 run:∀(E':XK) (fc:List (Ah×Obj)) (s:Ad) (σ:St) (H:Hp) (D:mY),Inv X fc σ H s→tb E' D σ H→wpAny (model X.prog X.w) X.A (execs b X.env) (SP X fc D) (XP X fc σ E') s
section
variable{X:Cx}{k:Nat}{f:Ah}{fd:AH}{ps:List Str}{sp:Sp}{x:Str}{p pos:Pos}{e:Bf}{es:List Bf}{t:TA}{te:XK→TE}
theorem aGD{fc:List (Ah×Obj)}{σ:St}{H:Hp}{s:Ad}{Q:VK}{O:XK}{us:List Ac}{vs:List V}(F:b8 X.prog X.w X.K X.mg X.base (CXr X.prog X.w) k f fd ps sp)(U:cQ k X.A)(Y:cZ X.K fd ps [])
  (I:Inv X fc σ H s) (r:cG vs us) (h:sp vs H Q O):wpAny (model X.prog X.w) X.A (call (.ref f) us) (EP X fc σ Q) (XP X fc σ O) s:=by
 have W:us.length=ps.length:=by rw[← r.length];exact F.len _ _ _ _ h
 have J:=Y s us I.kIn (by rw[Cp];exact W);rw[Cp]at J;refine Cy (CB (F.run X.A X.stack s H ⟨us,[]⟩ us vs Q O U I.env0 J r h) fun r s' z=>?_);cases r with
 | error e=>exact⟨H,s,I,z⟩
 | ok fl=>
  cases fl with
  | ret u=>exact I.after z
  | next=>exact Bz z
  | brk=>exact Bz z
  | cont=>exact Bz z
theorem aGE(F:b8 X.prog X.w X.K X.mg X.base (CXr X.prog X.w) k f fd ps sp)(Y:cQ k X.A)(hg:Gl X x)(hm:X.mg x=some (.ref f))(Z:Au X.K (.ref f)=true)(hb:cZ X.K fd ps [])
  (ha:PA X.nox (e :: es) t) (J:(x == ("__debug__":Str))=false:=by decide) (he:starEach (e :: es) X.env=(false,eval e X.env) :: starEach es X.env:=by rfl) (O:(backTo pos (starEach es X.env)).any (·.1)=false:=by rfl):
  PX X (.Call (.Name x p) (e :: es) [] pos) (fun W=>fun σ H Q=>t σ H fun vs H1=>sp vs H1 Q W):=by
 constructor;intro W fc s σ H Q I h;refine CO (l9 I hg hm ?_ J);refine Ef (h₀:=X.base) I.ok.mod.kin Z (A9 (ha pos fc s σ H _ (I.wish _) h) (fun us s1 ⟨vs,H1,U,r,q⟩=>⟨U.kIn,?_⟩) fun _ _ z=>Bz z) he O;exact aGD F Y hb U.unwish r q
theorem aE3(U:PX X e te)(J:swapsWith e none pos.line X.env=pure false:=by rfl):PXs X [.Expr e pos] (fun z D σ H=>te z σ H fun _ H1=>D.nx σ H1):=by
 constructor;intro z fc s σ H D I h;exact Ee (wpAny_Expr_any (thn (U.run z fc s σ H _ I h) fun v s1 ⟨x,H1,F,W,O⟩=>Dh ⟨σ,H1,F,O⟩) I.quiet J)
end
abbrev Cx.hand(X:Cx)(v:Ac):Cx:={ X with A:=X.A.mark (some v),calm:=false,xe:=fun _ _=>False }
section
variable{X:Cx}{fc:List (Ah×Obj)}{σ:St}{H:Hp}{s:Ad}{v:Ac}
theorem Inv.hand(I:Inv X fc σ H s)(v:Ac):Inv (X.hand v) fc σ H s:=
 have ok:=I.ok
 ⟨⟨ok.mod,ok.kind,ok.glob,ok.blt,ok.above,ok.inj,ok.has,ok.cab,(fun z=>by cases z),ok.frames,ok.stk,ok.exf,ok.bs,ok.bsz,ok.noex,ok.exfs,ok.funs,ok.frf⟩,I.os,I.bare,I.base,I.loc,I.cell,I.free,I.freeC,I.pin,I.hok,I.len⟩
theorem Inv.unhand(I:Inv (X.hand v) fc σ H s)(ok:X.Ok):Inv X fc σ H s:=⟨ok,I.os,I.bare,I.base,I.loc,I.cell,I.free,I.freeC,I.pin,I.hok,I.len⟩
theorem mJ{M:Ed}{A:AO}{E:Ac→Ad→Prop}{i:Nat}{x:Str}{pos:Pos}{Q:Unit→Ad→Prop}(I:Inv X fc σ H s)(hN:X.N.Nodup)(hi:X.N[i]?=some x)(hk:X.env.scope.names.lookup x=some .local)
  (h:∀ s',Inv X fc (σ.set i none) H s'→Q () s'):wpAny M A (do bindName X.env x .none;unbindBehindTheSuite X.env x pos) Q E s:=by
 obtain⟨m,hn,hl⟩:=id I.loc;have U:(X.env.scope.kind == .class || (X.env.scope.kind == .module && X.env.locals != X.env.globals))=false:=by rw[I.ok.kind];rfl
 have Z:i < σ.length:=by rw[I.len];exact(AR.mp hi).1
 have cne:=I.cne;refine wpAny_nameGoes_keeps hk hn U fun h' v Y F=>?_;obtain⟨oL,_,_,hoL,_⟩:=id hn;refine h _ ⟨I.ok,I.os,I.bare,⟨fun b o e n hb O=>?_,fun b o e n hb O=>?_,I.base.free,fun b o e O=>?_,I.base.tups,I.base.frzs,I.base.tbls⟩,⟨_,Y,fun j y v' J W e3=>?_⟩,fun y c e=>?_,I.free,I.freeC,fun p hp=>?_,fun b ob e=>?_,by simpa using I.len⟩
 ·exact(F.2 b (AG (A5 (Ar e) I.ok.above))).trans (I.base.keep b o e n hb O)
 ·obtain⟨sl,J⟩:=I.base.slot b o e n hb O;exact⟨sl,(F.2 b (AG (A5 (Ar e) I.ok.above))).trans J⟩
 ·obtain⟨o',J⟩:=I.base.there b o e O;exact⟨o',(F.2 b (AG (A5 (Ar e) I.ok.above))).trans J⟩
 ·by_cases hj:j=i
  ·subst hj;rw[ET Z]at W;cases W
  ·rw[E3 (CV hj)]at W;obtain⟨u',r',q⟩:=hl j y v' J W e3;refine⟨u',r',?_⟩;rcases q with⟨k,e⟩ | ⟨k,c,e,z⟩
   ·refine .inl ⟨k,?_⟩;have:y≠x:=fun e=>hj (rJ hN J (e ▸ hi));simp[this,e]
   ·exact .inr ⟨k,c,e,z.sameBut F (cne y c e)⟩
 ·obtain⟨w',z⟩:=I.cell y c e;exact⟨w',z.sameBut F (cne y c e)⟩
 ·obtain⟨e,n,ne,nf,d⟩:=I.pin p hp;exact⟨(F.2 p.1 ne).trans e,n,ne,nf,d⟩
 ·refine(I.hok b ob e).stay (fun c w' hc q=>(F.2 c ?_).trans q) (fun _ q=>q) fun _ _ q=>q;rintro rfl;rcases hc with rfl | hc
  ·rw[I.free]at e;cases e
  ·rw[I.free]at hc;cases hc
end
def nE(y:Ah)(C:Ac):HO:=.ext fun h=>∃ ob vs,h.get? y=some ob∧ob.cls=C∧ob.data=.fields vs
theorem Fly.again{P:Ay}{w:AV}{M:Ed}{A:AO}{env:Env}{outer:List Env}{base:Ba}{H H':Hp}{s J:Ad}{x:Ah}{C:Ac}{E:Ac→Ad→Prop}{R:Ad→Prop}(F:Fly P w (env :: outer) H H' s x C J)
  (U:s.heap.FunFrames base (env :: outer)) (k:∀ z,Fly P w (env :: outer) H H' s x C { J with heap:=z }→R { J with heap:=z }):
  wpAny M A (setFlight (.ref x) none) (fun _ Y=>R Y) E J:=by
 obtain⟨B,a0,fl,hokB,hkB,htB⟩:=F.ex;refine lands_againW fl fun z O W=>k z ?_;refine⟨F.os,F.bare,⟨B,a0,O,hokB,hkB,htB⟩,F.frf,fun b o q n hm=>?_,F.free,F.tups,F.frzs,F.tbls⟩;obtain⟨sl,e1⟩:=F.slot b o q n hm;obtain⟨_,o2,e2,hd⟩:=U.mem hm;rw[q]at e2;cases e2;obtain⟨sl2,e3⟩:=W b _ e1 hd;exact⟨sl2,e3⟩
theorem aBn{P:Ay}{w:AV}{H:Hp}{h:Ba}{a:Ah}{o:HO}(x:cP P w H h a o):∃ ob,h.get? a=some ob:=by
 cases o with
 | lst xs=>obtain⟨_,_,_,_,e⟩:=x;exact⟨_,e⟩
 | tup xs=>obtain⟨_,_,_,_,e,_⟩:=x;exact⟨_,e⟩
 | dK fg=>obtain⟨_,_,_,_,o,_,_,e,_⟩:=x;exact⟨_,e⟩
 | dT fg=>obtain⟨_,_,_,_,o,_,_,e,_⟩:=x;exact⟨_,e⟩
 | set S n=>obtain⟨o,_,_,_,e,_⟩:=x;exact⟨_,e⟩
 | ins C dx fs=>obtain⟨_,_,_,e,_⟩:=x;exact⟨_,e⟩
 | own y=>exact x
 | xd fs=>obtain⟨_,⟨_,_,_,e,_⟩,_⟩:=x;exact⟨_,e⟩
 | rng lo hi=>obtain⟨_,_,_,e⟩:=x;exact⟨_,e⟩
 | frz ob u=>exact⟨_,x.1⟩
 | tbl ps=>exact⟨_,x⟩
 | met f y=>exact⟨_,x⟩
 | ext φ=>exact x.2.1
theorem Fly.track{X:Cx}{fc:List (Ah×Obj)}{σ:St}{H H':Hp}{s s':Ad}{x:Ah}{C:Ac}(I:Inv X fc σ H s)(ad:X.stack=X.env :: X.outer)(ac:X.env.frame=some X.env.locals)(ae:X.ex=[])(F:Fly X.prog X.w X.stack H H' s x C s'):
  H' x=none∧Inv X fc σ (upd H' x (nE x C)) s':=by
 have J:=I.caught F;obtain⟨ob,vs,ho,hc,hd⟩:=F.obj;obtain⟨B,a0,fl,hokB,hkB,htB⟩:=F.ex;have hB:B.get? x=none:=fl.2.1;have hn:H' x=none:=by
  cases q:H' x with
  | none=>rfl
  | some o=>
   obtain⟨o',e⟩:=aBn (hokB x o q);rw[hB]at e;cases e
 have W:∀ b∈frs X.stack,b≠x:=fun b O z=>by
  obtain⟨_,o,e,h⟩:=fl.2.2.1.mem O;rw[z,ho]at e;cases e;exact h vs hd
 have Y:X.env.locals∈frs X.stack:=by rw[ad];exact A4.mpr ⟨_,AF,ac⟩
 have U:∀ b o,s.heap.get? b=some o→b≠x:=fun b o e z=>by
  by_cases O:b∈frs X.stack
  ·exact W b O z
  ·obtain⟨o',e'⟩:=htB b o e O;rw[z,hB]at e';cases e'
 have aa:∀ b o,X.s₀.heap.get? b=some o→b≠x:=fun b o e=>by
  obtain⟨o',e'⟩:=I.base.there b o e (by rw[ae];simp);exact U b o' e'
 have Z:∀ b u,H' b=some u→b≠x:=fun b u e=>bE e hn;refine⟨hn,⟨J.ok,J.os,J.bare,⟨J.base.keep,J.base.slot,fun b o e n hx=>?_,J.base.there,fun b xs e=>?_,fun b o u e=>?_,fun b ps e=>?_⟩,J.loc,J.cell,?_,fun y c e=>?_,fun p hp=>?_,fun b o e=>?_,J.len⟩⟩
 ·rw[aS (aa b o e)];exact J.base.free b o e n hx
 ·have q:=J.base.tups b xs e;rw[aS (Z b _ q)];exact q
 ·have q:=J.base.frzs b o u e;rw[aS (Z b _ q)];exact q
 ·obtain⟨more,q⟩:=J.base.tbls b ps e;exact⟨more,by rw[aS (Z b _ q)];exact q⟩
 ·rw[aS (W _ Y)];exact J.free
 ·obtain⟨v,o,e2,h2⟩:=J.cell y c e;rw[aS fun z=>by rw[z,ho]at e2;cases e2;rw[hd]at h2;cases h2];exact J.freeC y c e
 ·obtain⟨e,n,ne,nf,d⟩:=J.pin p hp;refine⟨e,?_,ne,nf,d⟩;rw[aS (U _ _ (I.pin p hp).1)];exact n
 ·by_cases O:b=x
  ·subst O;rw[aH]at e;cases e;exact⟨⟨ob,vs,ho,hc,hd⟩,⟨ob,ho⟩,fun h1 h2 ⟨o1,v1,e1,c1,d1⟩ k=>⟨o1,v1,k _ e1,c1,d1⟩⟩
  ·rw[aS O]at e;exact(J.hok b o e).stay (fun c v _ q=>q) (fun c q=>by rw[aS (Z c _ q)];exact q) fun c xs q=>by rw[aS (Z c _ q)];exact q
def unE(ie:Nat)(D:mY):mY:={ nx:=fun σ H=>D.nx (σ.set ie none) H,rt:=D.rt,bk:=fun σ H=>D.bk (σ.set ie none) H,ct:=fun σ H=>D.ct (σ.set ie none) H }
theorem aE4{X:Cx}{W:List B3}{tb:XK→TS}{ie:Nat}{dn n:Str}{C0:Ah}{b₀:B3}{J:List B3}{th:TS}{np Y pos:Pos}
  (O:X.stack=X.env :: X.outer) (ac:X.env.frame=some X.env.locals) (ah:X.ex=[]) (hb:PXs X W tb) (hg:Gl X dn) (hm:X.mg dn=some (.ref C0)) (hN:X.N.Nodup) (U:X.N[ie]?=some n) (hn:X.env.scope.names.lookup n=some .local)
  (hh:∀ v,PSs (X.hand v) (b₀ :: J) th) (hd:(dn == ("__debug__":Str))=false:=by decide):
  PS X (.Try W [.ExceptHandler (some (.Name dn np)) (some n) (b₀ :: J) Y] [] [] pos) (fun D σ H=>tb (fun C _ H'=>exmOne X.K C (.ref C0)=some true∧∀ y,H' y=none→th (unE ie D) (σ.set ie (some (.ref y))) (upd H' y (nE y C))) D σ H):=by
 constructor;intro fc s σ H D I h;refine wpAny_Try_except (A9 (hb.run _ fc s σ H D I h) (fun f s1 r=>?_) fun e s1 z=>?_)
 ·cases f with
  | next=>exact Dh r
  | _=>exact r
 ·obtain⟨H1,s0,I1,x,C,H',rfl,F,hx,hy⟩:=z;have aa:s0.heap.FunFrames X.base (X.env :: X.outer):=O ▸ I1.stack;have F':Fly X.prog X.w (X.env :: X.outer) H1 H' s0 x C s1:=O ▸ F;refine F'.lands (Q:=X.xe) (R:=fun s4=>wpAny (model X.prog X.w) X.A (handleBy (.ref x) X.env [.ExceptHandler (some (.Name dn np)) (some n) (b₀ :: J) Y]) _ _ s4) aa (O ▸ I1.ok.frames) ac fun h5 F5=>?_;have I5:=I1.caught (s':={ s1 with heap:=h5 }) (by rw[O];exact F5);refine wpAny_handleBy_cons (codeAny_handlers_test ?_) (by intro q;cases q);refine l9 (X:=X.hand (.ref x)) (I5.hand _) hg hm ?_ hd;obtain⟨ob,vs,ho,hc,hd5⟩:=F5.obj;have LT:Looks (model X.prog X.w) h5 (typeOf (.ref x)) C:=by
   rw[← hc];unfold typeOf;exact(Hs ho).andThen .now
  refine(exm_one (M:=model X.prog X.w) I5.kIn LT hx).at ?_;refine codeAny_handlers_suite_as ?_;refine F5.again (R:=fun s4=>_) aa fun h6 F6=>?_;obtain⟨hnx,I6⟩:=Fly.track (s':={ s1 with heap:=h6 }) I1 O ac ah (by rw[O];exact F6);refine rK (X:=X.hand (.ref x)) (I6.hand _) hN U (.inl hn) (v:=.ref x) rfl (fun s7 I7=>?_) (.inr hn);refine A9 ((hh (.ref x)).run fc s7 _ _ (unE ie D) I7 (hy x hnx)) (fun f s8 r=>?_) fun _ _ z=>Bz z;cases f with
  | next=>
   obtain⟨σ',H'',I8,q⟩:=r;exact mJ (I8.unhand I.ok) hN U hn fun s9 Z=>⟨_,_,Z,q⟩
  | brk=>
   obtain⟨σ',H'',I8,q⟩:=r;exact mJ (I8.unhand I.ok) hN U hn fun s9 Z=>⟨_,_,Z,q⟩
  | cont=>
   obtain⟨σ',H'',I8,q⟩:=r;exact mJ (I8.unhand I.ok) hN U hn fun s9 Z=>⟨_,_,Z,q⟩
  | ret u=>
   obtain⟨v,σ',H'',I8,rr,q⟩:=r;exact mJ (I8.unhand I.ok) hN U hn fun s9 Z=>⟨v,_,_,Z,rr,q⟩
open PySem PySem.Spec PyProof.Rows PySem.W Builtin Builtin.ObjectAttr PySem.Calls Builtin.Getset_descriptor
structure xQ(K:Ag)(D:Ah):Prop where
 ga:findIn K (.ref D) "__getattribute__"=some (some (.builtin "BaseException.__getattribute__"))
 gn:findIn K (.ref D) "__getattr__"=some none
 mb:mroIn K D (.type "BaseException")=some true
 hd:hasDictIn K D=true
 ha:findIn K (.ref D) "__class__"=some (some (.builtin "object.__class__"))
 hm:mroIn K D (.type "object")=some true
 hn:specialIn K (.builtin "object.__class__") "__get__"=some (some (.builtin "getset_descriptor.__get__"))
 ht:takesIn K (.builtin "object.__class__")=some true
def tW(y:Ah)(C:Ac)(h:Ba):Prop:=∃ ob vs,h.get? y=some ob∧ob.cls=C∧ob.data=.fields vs
theorem tW.ty{y:Ah}{C:Ac}{h:Ba}{M:Ed}(x:tW y C h):Looks M h (typeOf (.ref y)) C:=by
 obtain⟨ob,vs,ho,hc,_⟩:=x;rw[← hc];unfold typeOf;exact(Hs ho).andThen .now
theorem aE5{K:Ag}{M:Ed}{h:Ba}{D y:Ah}(k:xQ K D)(X:K.In h):Looks M h (Builtin.ObjectAttr.find (.ref y) (.ref D) "__class__") (.bind (.builtin "getset_descriptor.__get__") (.builtin "object.__class__")):=by
 have a1:=G9 (M:=M) X k.ha;have a2:Looks M h (Builtin.ObjectAttr.getOf (some (.builtin "object.__class__"))) (some (.builtin "getset_descriptor.__get__")):=looks_specialIn X k.hn;have a3:=looks_takesIn (M:=M) X k.ht;exact a1.andThen (a2.andThen (Looks.andThen (a:=some (.builtin "getset_descriptor.__get__",.builtin "object.__class__")) (a3.andThen .now) (Looks.tag .now)))
theorem aGF{prog:Ay}{w:AV}{A:AO}{s:Ad}{K:Ag}{D y:Ah}{z:Ac}{R:Hh→Ad→Prop}(k:xQ K D)(X:K.In s.heap)(p:tW y (.ref D) s.heap)(q:R (.ok (.ret (.ref D))) s):
  codeAny (model prog w) A (.call (.builtin "getset_descriptor.__get__") ⟨[.builtin "object.__class__",.ref y,z],[]⟩) R s:=by
 obtain⟨hp,g,d,t,os⟩:=s;have J:=p.ty (M:=model prog w);have F:=Ho (M:=model prog w) X k.hm;refine DC KF.slot_gs.plain KF.entry_gs (KF.slot_gs.check _ _ _ _ _ _ _ _ KF.type_class (KF.args_gs _ _ _) (?_));unfold Builtin.«getset_descriptor.__get__» descrGet;rw[dga_obj];refine Aa (Ae ?_);unfold descrGetter descrCheckInstance descrNameAndClass isInstance;simp only[KF.owner_class]
 repeat lk
 refine⟨Ew _ (by decide),BB KF.entry_class (?_)⟩;unfold Builtin.«object.__class__» shownTypeOf
 repeat lk
 exact q
theorem aDz{prog:Ay}{w:AV}{A:AO}{E:Ac→Ad→Prop}{z:Ba}{g:Array E2}{d:Hu}{t:Nat}{os:OsState}{K:Ag}{D y:Ah}{tk:Tok}{Q:Fin→Ad→Prop}(k:xQ K D)(X:K.In z)(p:tW y (.ref D) z)(q:Q (.done (.ret (.ref D))) ⟨z,g,d,t,os⟩):
  wpAny (model prog w) A (Builtin.«object.__getattribute__» ⟨[.ref y,.str "__class__" tk],[]⟩) Q E ⟨z,g,d,t,os⟩:=by
 have F:=p.ty (M:=model prog w);have J:=aE5 (M:=model prog w) (y:=y) k X;unfold Builtin.«object.__getattribute__»;refine Aa (Ae (Aa (Ae (Aa (F.at (Aa (J.at ?_)))))));show wpAny _ _ (holding [.builtin "object.__class__"] (call (.builtin "getset_descriptor.__get__") [.builtin "object.__class__",.ref y,.ref D]) >>= ret) _ _ _;exact Aa (A1 (Cy (aGF (s:=⟨z,g,d,t,os⟩) k X p (Ae q))))
theorem aDA{M:Ed}{A:AO}{E:Ac→Ad→Prop}{J:Ba}{g:Array E2}{d:Hu}{t:Nat}{os:OsState}{K:Ag}{D y:Ah}{z:Ac}{Q:Unit→Ad→Prop}(k:xQ K D)(X:K.In J)(p:tW y (.ref D) J)(q:Q () ⟨J,g,d,t,os⟩):
  wpAny M A (checkBuiltinCall "BaseException.__getattribute__" ⟨[.ref y,z],[]⟩) Q E ⟨J,g,d,t,os⟩:=by
 have O:=p.ty (M:=M);have U:=Ho (M:=M) X k.mb;have W:builtinKind "BaseException.__getattribute__"=some .slot:=by decide
 have Y:splitId "BaseException.__getattribute__"=some ("BaseException","__getattribute__"):=by decide
 have Z:=F.args_bexc_ga (.ref y) z;simp only[checkBuiltinCall,W,Y];refine Aa (Aa (O.at (U.at ?_)))
 repeat wp_step
 exact q
theorem aDB{prog:Ay}{w:AV}{A:AO}{E:Ac→Ad→Prop}{s:Ad}{K:Ag}{D y:Ah}{Q:Option Ac→Ad→Prop}(k:xQ K D)(X:K.In s.heap)(p:tW y (.ref D) s.heap)(q:Q (some (.ref D)) { s with toks:=s.toks + 1 }):
  wpAny (model prog w) A (getAttr? (.ref y) "__class__") Q E s:=by
 obtain⟨hp,g,d,t,os⟩:=s;have J:=p.ty (M:=model prog w);have U:=G9 (M:=model prog w) X k.ga;have W:=G9 (M:=model prog w) X k.gn;have Y:=Ho (M:=model prog w) X k.mb;have O:=F.excAttr_ValueError.ga.bind (.ref y);unfold getAttr? getAttrBy? getAttrBy;refine Aa (wpAny_mkText (Aa (DK (A1 (Aa (J.at (Aa (U.at ?_))))))));show wpAny _ _ (if (onTheHeap (.ref D) && Fg "BaseException.__getattribute__" == Fg "object.__getattribute__")=true then _ else getAttrByItsOwn _ _ _ _ _ _) _ _ _;have z:(Fg "BaseException.__getattribute__" == Fg "object.__getattribute__")=false:=by decide
 rw[Ia (by rw[z,E4];exact AN)];unfold getAttrByItsOwn hookBefore;refine Aa ?_;show wpAny _ _ (typeLookup (.ref D) "__getattr__") _ _ _;refine W.at ?_;refine Aa (DK (A1 ?_));show wpAny _ _ (boundAndCalled _ _ _) _ _ _;unfold boundAndCalled;rw[O];refine Aa (Ae ?_);refine Cy (DC F.excAttr_ValueError.ga.plain F.entry_bexc_ga (aDA k X p (aDz k X p ?_)));exact Ae (Ae q)
theorem aAh{K:Ag}{y D:Ah}(k:xQ K D):KitX K (.ref y) (.ref D) (tW y (.ref D)):=by
 have hc:∃ o cd,K.lookup D=some o∧o.data=.cls cd:=by
  obtain⟨cdD,hcD,_⟩:=any_some k.hd;unfold clsIn at hcD;split at hcD
  ·rename_i c' d' J U F;exact⟨_,J,F,rfl⟩
  ·cases hcD
 obtain⟨o,cd,F,hd⟩:=hc;refine⟨fun M h _ p=>p.ty,fun M h X _ A Q E s kp q=>?_,fun h Y dd W n Z X O=>Bool.eq_false_iff.mpr fun q=>?_,fun X p q=>aDB k X p q⟩
 ·have e:=kp _ _ (X _ _ F);obtain⟨oc,od,oda,osl⟩:=o;dsimp only at hd;subst hd;unfold isType loadHead;exact Aa (wpAny_loadPart e (Ae q))
 ·have e:D=Y:=AB.inj (beq_iff_eq.mp q);subst e;have z:=(X _ _ F).symm.trans O;cases z;cases hd
section
variable{X:Cx}
inductive kE(K:Ag)(xs:List V)(H:Hp)(Q:VK):Prop
 | mk (y D:Ah) (v:V) (c:Ac) (b:Bool) (q0:xs=[.ref y,v]) (q1:(∀ u,c5 v u→u=c)) (q2:H y=some (nE y (.ref D))) (q3:xQ K D) (q4:kitOne K (.ref D) c=some b) (q5:Q (.bl b) H):kE K xs H Q
def tX(K:Ag):List V→Hp→VK→Prop:=fun xs H Q=>kE K xs H Q
theorem oJ:eY X (.builtin "isinstance") (tX X.K):=by
 intro fc s σ H xs O Q I r h;obtain⟨y,D,v,c,b,rfl,hv,hy,k,e,q⟩:=h;cases r with
 | cons F r=>
 cases r with
 | cons J r=>
 cases r;cases(show _=AB y from F);cases hv _ J;obtain⟨p,_⟩:cP X.prog X.w H s.heap y (nE y (.ref D)):=I.hok _ _ hy;exact kia_one (aAh k) I.kIn p e (fun z=>nomatch z) fun tk=>⟨.bl b,H,I.tok tk,rfl,q⟩
inductive jI(K:Ag)(xs:List V)(H:Hp)(Q:VK):Prop
 | mk (y D tp:Ah) (cs:List Ah) (b:Bool) (q0:xs=[.ref y,.ref tp]) (q1:H tp=some (.tup (cs.map V.ref))) (q2:H y=some (nE y (.ref D))) (q3:xQ K D) (q4:kitAny K (.ref D) (cs.map AB)=some b) (q5:Q (.bl b) H):jI K xs H Q
def qM(K:Ag):List V→Hp→VK→Prop:=fun xs H Q=>jI K xs H Q
theorem nG:eY X (.builtin "isinstance") (qM X.K):=by
 intro fc s σ H xs O Q I r h;obtain⟨y,D,tp,cs,b,rfl,ht,hy,k,e,q⟩:=h;cases r with
 | cons F r=>
 cases r with
 | cons J r=>
 cases r;cases(show _=AB y from F);cases(show _=AB tp from J);obtain⟨p,_⟩:cP X.prog X.w H s.heap y (nE y (.ref D)):=I.hok _ _ hy;obtain⟨_,its,rv,hT⟩:cP X.prog X.w H s.heap tp (.tup (cs.map V.ref)):=I.hok _ _ ht;obtain⟨⟨cls,dd,data,sl⟩,ho,hc,n,hd⟩:=hT.tup;simp only at hc hd;subst hc hd;obtain rfl:=aCn rv;exact kia_tup (aAh k) I.kIn p ho e (fun z=>nomatch z) fun tk=>⟨.bl b,H,I.tok tk,rfl,q⟩
end
section
variable{H H':Hp}{L:List (Ah×Obj)}{b:Ah}{o:Obj}
variable{P:Ay}{w:AV}{h h':Ba}{fs:List Ah}
end
section
variable{P:Ay}{w:AV}{K:Ag}{mg:Str→Option Ac}{base:Ba}{N:List Str}{qual:Str}{scope:Ds}{f:Ah}{cd:Ac}{A:AO}{outer:List Env}{s:Ad}{H:Hp}{E:XK}
structure aKP(cl:List (Str×Ah))(L:List (Ah×Obj))(fs:List Str)(zs:List V):Prop where
 pr:Gj (fun(x:Str) (v:V)=>∃ b o u,cl.lookup x=some b∧L.lookup b=some o∧o.data=.cell (some u)∧c5 v u) fs zs
 all:∀ x b,cl.lookup x=some b→∃ o u,L.lookup b=some o∧o.data=.cell u
 inj:∀ x y b,cl.lookup x=some b→cl.lookup y=some b→x=y
end
section
variable{X:Cx}{k:Nat}{x:Str}{p pos:Pos}
end
inductive Thn(H:Hp):V→Prop
 | non:Thn H .non
 | bl (b:Bool):Thn H (.bl b)
 | int (i:Int):Thn H (.int i)
 | str (z:Str):Thn H (.str z)
 | lst {a:Ah} {xs:List V} (e:H a=some (.lst xs)):Thn H (.ref a)
 | tup {a:Ah} {xs:List V} (e:H a=some (.tup xs)):Thn H (.ref a)
 | dct {a:Ah} {fg:List (Key×V)} (e:H a=some (.dK fg)):Thn H (.ref a)
section
variable{X:Cx}
end
section
variable{prog:Ay}{w:AV}{A:AO}{E:Ac→Ad→Prop}{s:Ad}
end
section
variable{X:Cx}
end
section
variable{prog:Ay}{w:AV}{A:AO}{E:Ac→Ad→Prop}{s:Ad}{T:String}{r d:Ah}{n:Nat}{P:Nat→Ac→Prop}{OK:Ba→Prop}
end
section
variable{X:Cx}
end
section
variable{prog:Ay}{w:AV}{A:AO}{E:Ac→Ad→Prop}{s:Ad}
def aKz(P:Ay)(w:AV)(h:Ba)(q:Ah)(kv:Key×Ac):Prop:=∃ o key n,h.get? q=some o∧o.cls=.type "tuple"∧o.data=.seq #[key,kv.2] n∧(c9 P w).is kv.1 key=true
end
section
variable{X:Cx}
end
open PySem.W in
section
variable{X:Cx}
end
section
variable{X:Cx}{fc:List (Ah×Obj)}{σ:St}{H:Hp}{s:Ad}{d:Ah}{fg:List (Key×V)}
end
section
variable{X:Cx}{tg:Bf}
end
inductive aHE(h:Ba)(v:Ac)(z:Str):Prop
 | mk (t:_) (u:_) (a:_) (b:_) (q0:v=.ref t) (q1:EK h t #[.str z u,a,b]):aHE h v z
def NmT(h:Ba)(v:Ac)(z:Str):Prop:=aHE h v z
section
variable{prog:Ay}{w:AV}{A:AO}{E:Ac→Ad→Prop}{s:Ad}
end
section
variable{X:Cx}
end
section
variable{X:Cx}
end
mutual
def ltD:Aj→Aj→Bool
 | .str x,.str y=>decide (x.cps.toList < y.cps.toList)
 | .int i,.int j=>decide (i < j)
 | .tuple xs,.tuple ys=>ltL xs ys
 | _,_=>false
def ltL:List Aj→List Aj→Bool
 | [],[]=>false
 | [],_ :: _=>true
 | _ :: _,[]=>false
 | x :: xs,y :: ys=>if CA x y=true then ltL xs ys else ltD x y
end
mutual
def okD:Aj→Aj→Bool
 | .str _,.str _=>true
 | .int _,.int _=>true
 | .tuple xs,.tuple ys=>okL xs ys
 | _,_=>false
def okL:List Aj→List Aj→Bool
 | x :: xs,y :: ys=>if CA x y=true then okL xs ys else okD x y
 | _,_=>true
end
section
end
mutual
def plD:Aj→Bool
 | .str _=>true
 | .int _=>true
 | .tuple xs=>plL xs
 | _=>false
def plL:List Aj→Bool
 | []=>true
 | x :: xs=>plD x && plL xs
end
mutual
theorem aE6:∀(x y:Aj),plD x=true→CA x y=true→plD y=true→x=y
 | .str a,y,_,h,z=>by
  cases y <;> simp only[plD,Ct]at z <;> simp only[CA,Ct]at h;rw[eq_of_beq h]
 | .int a,y,_,h,z=>by
  cases y <;> simp only[plD,Ct]at z <;> simp only[CA,Ct]at h;rw[eq_of_beq h]
 | .tuple xs,y,F,h,z=>by
  cases y <;> simp only[plD,Ct]at F z <;> simp only[CA,Ct]at h;rw[aCr xs _ F h z]
 | .none,_,h,_,_=>by simp[plD]at h
 | .bool _,_,h,_,_=>by simp[plD]at h
 | .list _,_,h,_,_=>by simp[plD]at h
 | .dict _,_,h,_,_=>by simp[plD]at h
theorem aCr:∀(xs ys:List Aj),plL xs=true→DA xs ys=true→plL ys=true→xs=ys
 | [],ys,_,h,_=>by
  cases ys with
  | nil=>rfl
  | cons _ _=>simp[DA]at h
 | x :: xs,ys,z,h,F=>by
  cases ys with
  | nil=>simp[DA]at h
  | cons y ys=>
   simp only[plL,AX]at z F;simp only[DA,AX]at h;rw[aE6 x y z.1 h.1 F.1,aCr xs ys z.2 h.2 F.2]
end
mutual
theorem oK:∀(x:Aj),plD x=true→CA x x=true
 | .str a,_=>by simp[CA]
 | .int a,_=>by simp[CA]
 | .tuple xs,h=>by
  simp only[plD]at h;simp only[CA];exact wA xs h
 | .none,h=>by simp[plD]at h
 | .bool _,h=>by simp[plD]at h
 | .list _,h=>by simp[plD]at h
 | .dict _,h=>by simp[plD]at h
theorem wA:∀(xs:List Aj),plL xs=true→DA xs xs=true
 | [],_=>by simp[DA]
 | x :: xs,h=>by
  simp only[plL,AX]at h;simp only[DA,oK x h.1,wA xs h.2,Bool.and_self]
end
structure RowD(d:Aj):Prop where
 fm:∃ k xs,d=.tuple (.str k :: xs)
 pl:plD d=true
 ly:d.canLay0=true
 dp:d.depth≤6
inductive aHF(h:Ba)(v:Ac)(d:Aj):Prop
 | mk (as:_) (q0:Reads h v d as):aHF h v d
def RdT(h:Ba)(v:Ac)(d:Aj):Prop:=aHF h v d
inductive aHG(h:Ba)(v:Ac):Prop
 | mk (t:_) (z:_) (u:_) (cM:_) (q0:v=.ref t) (q1:EK h t (Bw z u :: cM).toArray):aHG h v
def FsT(h:Ba)(v:Ac):Prop:=aHG h v
section
variable{prog:Ay}{w:AV}{A:AO}{E:Ac→Ad→Prop}{s:Ad}
end
section
variable{X:Cx}
end
section
variable{X:Cx}
end
section
variable{X:Cx}
inductive oM(K:Ag)(x:V)(y:V)(H:Hp)(Q:VK):Prop
 | mk (p:_) (q:_) (xs:_) (q0:x=.ref p) (q1:y=.ref q) (q2:SqL K H p xs) (q3:SqL K H q []) (q4:Q (.bl (decide (0 < xs.length))) H):oM K x y H Q
def aBo(K:Ag):V→V→Hp→VK→Prop:=fun x y H Q=>oM K x y H Q
theorem aE7(J:X.A.units < cLine):OpR X (compareOp .NotEq) (aBo X.K):=by
 intro fc s σ H x y v u Q I O F h;obtain⟨p,q,xs,rfl,rfl,h1,h2,hq⟩:=h;cases xs with
 | nil=>exact aEB J fc s σ H _ _ v u Q I O F ⟨p,q,[],[],rfl,rfl,h1,h2,rfl,rfl,hq⟩
 | cons z r=>
  cases O;cases F;obtain⟨us,r1,p1,_⟩:=I.list h1;obtain⟨ws,r2,p2,_⟩:=I.list h2;have l1:=r1.length;have U:=r2.length;refine SeqAt.RcNeAt.lists_lengths p1.isList p2.isList (by simp at l1 U ⊢;omega) J X.prog X.w _ _ ?_;rw[Ic (show 0 < (z :: r).length by simp)]at hq;exact⟨.bl _,H,I,rfl,hq⟩
end
section
variable{X:Cx}
end
section
variable{X:Cx}
end
section
variable{X:Cx}{es:List Bf}{t:TA}{pos:Pos}
def aJO(t:TA):TE:=fun σ H Q=>t σ H fun xs H1=>xs.length≤sizeLine∧∀ D,H1 D=none→D≠sysModules→Q (.ref D) (upd H1 D (.lst xs))
theorem xR(h:PA X es t):PE X (.List es pos) (aJO t):=by
 constructor;intro fc s σ H Q I W;refine wpAny_List_spliced (thn (h pos fc s σ H _ I W) fun U s1 ⟨xs,H1,F,r,z,q⟩=>⟨by rw[← r.length];exact z,?_⟩);have O:H1 s1.heap.objs.size=none:=F.hok.fresh (Ap _);have J:=F.big;refine⟨.ref s1.heap.objs.size,upd H1 s1.heap.objs.size (.lst xs),F.laid (t':=s1.toks) (fun b u e=>Ai _ e) (Ap _) ?_,rfl,q _ O fun e=>?_⟩
 ·exact⟨z,U,0,r,Aq _ rfl⟩
 ·rw[e]at J;exact absurd J (Bx _)
inductive aE8(x:V)(y:V)(H:Hp)(Q:VK):Prop
 | mk (m m':Bool) (d d':Aj) (q0:RdV m H x d) (q1:RdV m' H y d') (q2:d.canLay0=true) (q3:d'.canLay0=true) (q4:d.depth≤8) (q5:Q (.bl (!CA d d')) H):aE8 x y H Q
def aKA:V→V→Hp→VK→Prop:=fun x y H Q=>aE8 x y H Q
theorem aBp{k:Nat}(F:cQ k X.A):OpR X (compareOp .NotEq) aKA:=by
 intro fc s σ H x y v u Q I J z h;obtain⟨m,m',d,d',h1,h2,h3,h4,h5,q⟩:=h;obtain⟨as,r1,_⟩:=RdV.reads I h1 J;obtain⟨bs,r2,_⟩:=RdV.reads I h2 z;have hm:=Nat.min_le_left d.depth d'.depth;have O:=F.un;exact PySem.SeqAt.compareNe_reads r1 r2 h3 h4 (by omega) ⟨.bl _,H,I,rfl,q⟩
end
section
variable{X:Cx}
inductive oO(K:Ag)(x:V)(y:V)(H:Hp)(Q:VK):Prop
 | mk (p:_) (q:_) (xs:_) (q0:x=.ref p) (q1:y=.ref q) (q2:SqL K H p xs) (q3:SqL K H q []) (q4:Q (.bl (decide (xs=[]))) H):oO K x y H Q
def aBq(K:Ag):V→V→Hp→VK→Prop:=fun x y H Q=>oO K x y H Q
theorem aE9(J:X.A.units < cLine):OpR X (compareOp .Eq) (aBq X.K):=by
 intro fc s σ H x y v u Q I O F h;obtain⟨p,q,xs,rfl,rfl,h1,h2,hq⟩:=h;cases xs with
 | nil=>exact aEz J fc s σ H _ _ v u Q I O F ⟨p,q,[],[],rfl,rfl,h1,h2,rfl,rfl,hq⟩
 | cons z r=>
  cases O;cases F;obtain⟨us,r1,p1,_⟩:=I.list h1;obtain⟨ws,r2,p2,_⟩:=I.list h2;have l1:=r1.length;have U:=r2.length;refine SeqAt.eq_list_lengthsAt p1.isList p2.isList (by simp at l1 U ⊢;omega) J ?_;rw[decide_eq_false (show¬ (z :: r)=[] by simp)]at hq;exact⟨.bl _,H,I,rfl,hq⟩
end
structure aKQ(T:Ah)(Ps:List Pos)(qual:Str)(H:Hp):Prop where
 ex:∃ ps,H T=some (.tbl ps)∧TriplesOk ps.toList∧∀ pos∈Ps,codeAmong pos ps.toList=none∨∃ c,codeAmong pos ps.toList=some (.ref c)∧H c=some (aE2 c qual)
section
variable{X:Cx}{fc:List (Ah×Obj)}{σ:St}{H:Hp}{s:Ad}
end
section
variable{X:Cx}{k:Nat}{x:Str}{p pos:Pos}
end
section
variable{X:Cx}{e:Bf}{ta:TA}
end
abbrev Kq(H H':Hp):Prop:=∀ b o,H b=some o→(∀ kv r,o≠.dK (kv :: r))→(∀ ps,o≠.tbl ps)→H' b=some o
def aGG(M:Ed)(Γ:FE)(p:Pos)(s:Ad):Sem Fin→Option (Pos×Sem Fin×Ad)
 | .rule _ k=>some (p,k (),s)
 | .at p' k=>some (p',k (),s)
 | .loadIfAlive a k=>some (p,k (s.heap.get? a),s)
 | .point _ k=>some (p,k (),s)
 | .alloc o k=>some (p,k s.heap.objs.size,{ s with heap:=s.heap.push o })
 | .fresh k=>some (p,k s.toks,{ s with toks:=s.toks + 1 })
 | .ask k=>some (p,k ⟨M.prog,M.w.params⟩,s)
 | .os q _ k=>some (p,k (Os.step s.os q).2,{ s with os:=(Os.step s.os q).1 })
 | .handled own k=>some (p,k (if own then Γ.own else Γ.handled),s)
 | .stack k=>some (p,k ((Γ.code,p) :: Γ.below),s)
 | .thread k=>some (p,k 0,s)
 | .newGen c k=>some (p,k s.gens.size,{ s with gens:=s.gens.push (.fresh c) })
 | .update a _ f k=>some (p,k (),{ s with heap:=s.heap.update a f })
 | .choose src n k=>some (p,k (M.w.draws src (s.drawn.get src) % n),{ s with drawn:=s.drawn.bump src })
 | _=>none
theorem fH{M:Ed}{Γ:FE}{p z:Pos}{t t':Sem Fin}{s s1:Ad}{e:End}{s':Ad}(h:Runs M Γ p t [] s e s')(q:aGG M Γ p s t=some (z,t',s1)):Runs M Γ z t' [] s1 e s':=by
 cases h <;> cases q <;> assumption
theorem tY{M:Ed}{Γ:FE}{p:Pos}{t:Sem Fin}{fs:List Frame}{s:Ad}{e:End}{s':Ad}(h:Runs M Γ p t fs s e s'):∀{W:End}{Y:Ad},Runs M Γ p t fs s W Y→e=W∧s'=Y:=by
 induction h with
 | done=>intro W Y F;cases F;exact⟨rfl,rfl⟩
 | raise=>intro W Y F;cases F;exact⟨rfl,rfl⟩
 | yield=>intro W Y F;cases F;exact⟨rfl,rfl⟩
 | again _ _ O=>intro W Y F;cases F with | again _ r=>exact O r
 | rule _ O=>exact fun F=>O (fH F rfl)
 | «at» _ O=>exact fun F=>O (fH F rfl)
 | load q _ O=>intro W Y F;cases F with | load z r=>rw[q]at z;cases z;exact O r
 | update _ _ O=>exact fun F=>O (fH F rfl)
 | loadIfAlive _ O=>exact fun F=>O (fH F rfl)
 | point _ O=>exact fun F=>O (fH F rfl)
 | alloc _ O=>exact fun F=>O (fH F rfl)
 | fresh _ O=>exact fun F=>O (fH F rfl)
 | ask _ O=>exact fun F=>O (fH F rfl)
 | choose _ _ O=>exact fun F=>O (fH F rfl)
 | os _ O=>exact fun F=>O (fH F rfl)
 | handled _ O=>exact fun F=>O (fH F rfl)
 | genState q _ O=>intro W Y F;cases F with | genState z r=>rw[q]at z;cases z;exact O r
 | stack _ O=>exact fun F=>O (fH F rfl)
 | thread _ O=>exact fun F=>O (fH F rfl)
 | newGen _ O=>exact fun F=>O (fH F rfl)
 | call _ _ J U=>
  intro W Y F;cases F with
  | call a b=>
   obtain⟨x,y⟩:=J a;cases x;cases y;exact U b
  | callSusp a=>
   obtain⟨x,_⟩:=J a;cases x
 | callSusp _ J=>
  intro W Y F;cases F with
  | call a b=>
   obtain⟨x,_⟩:=J a;cases x
  | callSusp a=>
   obtain⟨x,y⟩:=J a;cases x;exact⟨rfl,y⟩
 | resumeFresh q a c b J U=>
  intro W Y F;cases F with
  | resumeFresh z a2 c2 Z=>
   rw[q]at z;cases z;obtain⟨x,y⟩:=J a2;cases x;cases y;exact U Z
  | resumeSuspended z=>rw[q]at z;cases z
  | resumeJustStarted z n=>exact absurd rfl n
  | resumeRunning z=>rw[q]at z;cases z
  | resumeFinished z=>rw[q]at z;cases z
 | resumeSuspended q a c b J U=>
  intro W Y F;cases F with
  | resumeFresh z=>rw[q]at z;cases z
  | resumeSuspended z a2 c2 Z=>
   rw[q]at z;cases z;obtain⟨x,y⟩:=J a2;cases x;cases y;exact U Z
  | resumeJustStarted z=>rw[q]at z;cases z
  | resumeThrowFresh z=>rw[q]at z;cases z
  | resumeRunning z=>rw[q]at z;cases z
  | resumeFinished z=>rw[q]at z;cases z
 | resumeJustStarted q n _ O=>
  intro W Y F;cases F with
  | resumeFresh=>exact absurd rfl n
  | resumeSuspended z=>rw[q]at z;cases z
  | resumeJustStarted _ _ r=>exact O r
  | resumeRunning z=>rw[q]at z;cases z
  | resumeFinished z=>rw[q]at z;cases z
 | resumeThrowFresh q _ O=>
  intro W Y F;cases F with
  | resumeSuspended z=>rw[q]at z;cases z
  | resumeThrowFresh _ r=>exact O r
  | resumeRunning z=>rw[q]at z;cases z
  | resumeFinished z=>rw[q]at z;cases z
 | resumeRunning q _ O=>
  intro W Y F;cases F with
  | resumeFresh z=>rw[q]at z;cases z
  | resumeSuspended z=>rw[q]at z;cases z
  | resumeJustStarted z=>rw[q]at z;cases z
  | resumeThrowFresh z=>rw[q]at z;cases z
  | resumeRunning _ r=>exact O r
  | resumeFinished z=>rw[q]at z;cases z
 | resumeFinished q _ O=>
  intro W Y F;cases F with
  | resumeFresh z=>rw[q]at z;cases z
  | resumeSuspended z=>rw[q]at z;cases z
  | resumeJustStarted z=>rw[q]at z;cases z
  | resumeThrowFresh z=>rw[q]at z;cases z
  | resumeRunning z=>rw[q]at z;cases z
  | resumeFinished _ r=>exact O r
 | segRet _ _ J U=>
  intro W Y F;cases F with
  | segRet a b=>
   obtain⟨x,y⟩:=J a;cases x;cases y;exact U b
  | segSuspOut _ a=>obtain⟨x,_⟩:=J a;cases x
  | segSuspGen _ a=>obtain⟨x,_⟩:=J a;cases x
 | segGen _ _ J U=>
  intro W Y F;cases F with
  | segGen a b=>
   obtain⟨x,y⟩:=J a;cases x;cases y;exact U b
  | segSuspOut _ a=>obtain⟨x,_⟩:=J a;cases x
  | segSuspGen _ a=>obtain⟨x,_⟩:=J a;cases x
 | segSuspOut q _ J=>
  intro W Y F;cases F with
  | segRet a b=>obtain⟨x,_⟩:=J a;cases x
  | segGen a b=>obtain⟨x,_⟩:=J a;cases x
  | segSuspOut _ a=>
   obtain⟨x,y⟩:=J a;cases x;exact⟨rfl,y⟩
  | segSuspGen z=>rw[q]at z;cases z
 | segSuspGen q _ _ _ J U=>
  intro W Y F;cases F with
  | segRet a b=>obtain⟨x,_⟩:=J a;cases x
  | segGen a b=>obtain⟨x,_⟩:=J a;cases x
  | segSuspOut z=>rw[q]at z;cases z
  | segSuspGen z a _ b=>
   rw[q]at z;cases z;obtain⟨x,y⟩:=J a;cases x;cases y;exact U b
theorem aDC{M:Ed}{Γ:FE}{p:Pos}{g:Nat}{r:Resume}{s:Ad}{J F:GenResult}{s' O:Ad}(h:Wakes M Γ p g r s J s')(z:Wakes M Γ p g r s F O):J=F∧s'=O:=by
 unfold Wakes at h z;split at h
 ·exact h.elim
 ·rename_i c e;rw[e]at z;split at h
  ·dsimp only at z;obtain⟨e₁,s₁,a,_,rfl,rfl⟩:=h;obtain⟨e₂,s₂',a₂,_,rfl,rfl⟩:=z;obtain⟨x,y⟩:=tY a a₂;cases x;cases y;exact⟨rfl,rfl⟩
  ·rename_i U;dsimp only at z;split at z
   ·rename_i hz;injection hz with hz;exact absurd hz U
   ·obtain⟨rfl,rfl⟩:=h;obtain⟨rfl,rfl⟩:=z;exact⟨rfl,rfl⟩
   ·rename_i hz;cases hz
  ·dsimp only at z;obtain⟨rfl,rfl⟩:=h;obtain⟨rfl,rfl⟩:=z;exact⟨rfl,rfl⟩
 ·rename_i e;rw[e]at z;dsimp only at z;obtain⟨e₁,s₁,a,_,rfl,rfl⟩:=h;obtain⟨e₂,s₂',a₂,_,rfl,rfl⟩:=z;obtain⟨x,y⟩:=tY a a₂;cases x;cases y;exact⟨rfl,rfl⟩
 all_goals
  rename_i e;rw[e]at z;dsimp only at z;obtain⟨rfl,rfl⟩:=h;obtain⟨rfl,rfl⟩:=z;exact⟨rfl,rfl⟩
theorem aGH{α:Type}{M:Ed}{Γ:FE}:∀(t:Sem α) {Q F:α→Pos→Ad→Prop}{E J:Ac→Pos→Ad→Prop}{p:Pos}{s:Ad},Cu M Γ t Q E p s→Cu M Γ t F J p s→Cu M Γ t (fun a p s=>Q a p s∧F a p s) (fun e p s=>E e p s∧J e p s) p s:=by
 intro t
 induction t with
 | pure a=>intro Q F E J p s h h';rw[Cu]at *;exact⟨h,h'⟩
 | raise e=>intro Q F E J p s h h';rw[Cu]at *;exact⟨h,h'⟩
 | unsupported w=>intro Q F E J p s h h';rw[Cu]at h;exact h.elim
 | finish w=>intro Q F E J p s h h';rw[Cu]at h;exact h.elim
 | register w k=>intro Q F E J p s h h';rw[Cu]at h;exact h.elim
 | yield v g l k=>intro Q F E J p s h h';rw[Cu]at h;exact h.elim
 | fork c k=>intro Q F E J p s h h';rw[Cu]at h;exact h.elim
 | await a f d l k=>intro Q F E J p s h h';rw[Cu]at h;exact h.elim
 | rule U k z=>intro Q F E J p s h h';rw[Cu]at *;exact z _ h h'
 | «at» q k z=>intro Q F E J p s h h';rw[Cu]at *;exact z _ h h'
 | load a q k z=>
  intro Q F E J p s h h';rw[Cu]at *;obtain⟨o,x,y⟩:=h;obtain⟨o',x',y'⟩:=h';rw[x]at x';cases x';exact⟨o,x,z _ y y'⟩
 | update a q f k z=>intro Q F E J p s h h';rw[Cu]at *;exact⟨h.1,z _ h.2 h'.2⟩
 | loadIfAlive a k z=>intro Q F E J p s h h';rw[Cu]at *;exact z _ h h'
 | point l k z=>intro Q F E J p s h h';rw[Cu]at *;exact z _ h h'
 | alloc o k z=>intro Q F E J p s h h';rw[Cu]at *;exact z _ h h'
 | fresh k z=>intro Q F E J p s h h';rw[Cu]at *;exact z _ h h'
 | ask k z=>intro Q F E J p s h h';rw[Cu]at *;exact z _ h h'
 | choose O n k z=>intro Q F E J p s h h';rw[Cu]at *;exact⟨h.1,z _ h.2 h'.2⟩
 | os q l k z=>intro Q F E J p s h h';rw[Cu]at *;exact z _ h h'
 | call c hd g l k z=>
  intro Q F E J p s h h';rw[Cu]at *;obtain⟨r,s1,a,b⟩:=h;obtain⟨r',s1',a',b'⟩:=h';obtain⟨x,y⟩:=tY a a';cases x;cases y;exact⟨r,s1,a,z _ b b'⟩
 | handled own k z=>intro Q F E J p s h h';rw[Cu]at *;exact z _ h h'
 | genState g k z=>
  intro Q F E J p s h h';rw[Cu]at *;obtain⟨o,x,y⟩:=h;obtain⟨o',x',y'⟩:=h';rw[x]at x';cases x';exact⟨o,x,z _ y y'⟩
 | newGen c k z=>intro Q F E J p s h h';rw[Cu]at *;exact z _ h h'
 | resume g r l k z=>
  intro Q F E J p s h h';rw[Cu]at *;obtain⟨res,s1,a,b⟩:=h;obtain⟨res',s1',a',b'⟩:=h';obtain⟨x,y⟩:=aDC a a';cases x;cases y;exact⟨res,s1,a,z _ b b'⟩
 | stack k z=>intro Q F E J p s h h';rw[Cu]at *;exact z _ h h'
 | thread k z=>intro Q F E J p s h h';rw[Cu]at *;exact z _ h h'
theorem lU{α:Type}{M:Ed}{A:AO}{t:Sem α}{Q F:α→Ad→Prop}{E z:Ac→Ad→Prop}{s:Ad}(h:wpAny M A t Q E s)(h':wpAny M A t F z s):wpAny M A t (fun a s=>Q a s∧F a s) (fun e s=>E e s∧z e s) s:=
 fun Γ p i=>aGH t (h Γ p i) (h' Γ p i)
inductive aFa(h:Ba)(x:Ah):Prop
 | mk (ob:_) (vs:_) (q0:h.get? x=some ob) (q1:ob.data=.fields vs) (q2:vs[2]?=some .none):aFa h x
def aJP(h:Ba)(x:Ah):Prop:=aFa h x
inductive aFb(h:Ba)(x:Ah):Prop
 | mk (ob:_) (vs:_) (T:_) (oT:_) (ts:_) (q0:h.get? x=some ob) (q1:ob.data=.fields vs) (q2:vs[2]?=some .none) (q3:vs[1]?=some (.ref T)) (q4:T≠x) (q5:h.get? T=some oT) (q6:oT.data=.fields ts) (q7:3 < ts.size):aFb h x
def vH(h:Ba)(x:Ah):Prop:=aFb h x
section
variable{M:Ed}{A:AO}{E:Ac→Ad→Prop}{s:Ad}
theorem aCs{base:Ba}{env:Env}{outer:List Env}{L e:Ah}{Y:Obj}{vs:Array Ac}{F:Ac}{z:Bool}
  (U:A.frames=some (env :: outer)) (hl:s.heap.FunFrames base (env :: outer)) (hf:env.frame=some L) (Z:s.heap.get? e=some Y) (hd:Y.data=.fields vs) (h2:vs[2]?=some .none):
  wpAny M A (do let a ← frameOf env;let pl ← entryPlaceOf L z;let b ← EntryCells.newEntry F a .none (rawInt L) .none pl;setField (.ref e) 1 b) (fun _ s'=>vH s'.heap e) E s:=by
 have ac:=(Array.getElem?_eq_some_iff.mp h2).1;have J:e ∉ (env :: outer).filterMap (·.frame):=fun hm=>by
  obtain⟨_,o,ho,hnf⟩:=hl.mem hm;rw[Z]at ho;cases ho;exact hnf vs hd
 refine Aa (wpAny_frameOf_fun U hl hf fun h1 q1=>Aa (wpAny_entryPlaceOf fun pl W=>?_));unfold EntryCells.newEntry newFields;refine Aa (BI ?_ (W.sizeOk5 _ _ _ _ _));have O:h1.get? e=some Y:=(q1.2.1 e J).trans Z;refine CF (Ai _ O) hd (by omega) ?_;have ne:h1.objs.size≠e:=CJ (Ar O);refine⟨_,_,h1.objs.size,_,_,Bh _ (Ai _ O) (CN (BW hd _)),BW hd _,?_,?_,ne,(Bq _ _ ne.symm).trans (Aq _ rfl),rfl,?_⟩
 ·rw[Array.getElem?_setIfInBounds_ne (by decide)];exact h2
 ·simp[show 1 < vs.size by omega]
 ·simp only[Ao,Ak,AM,By];omega
theorem oP{e:Ah}(h:vH s.heap e):wpAny M A (setFlight (.ref e) none) (fun _ s'=>vH s'.heap e) E s:=by
 obtain⟨ob,vs,T,oT,ts,h1,h2,h3,h4,h5,h6,h7,h8⟩:=h;unfold setFlight;refine Aa (DV h1 h2 h4 ?_);rw[Ib (show(AB T != BH)=true from by simp)];refine CF h6 h7 h8 ⟨ob,vs,T,_,_,(Bq _ _ h5).trans h1,h2,h3,h4,h5,Bh _ h6 (CN (BW h7 _)),BW h7 _,?_⟩;rw[Array.size_setIfInBounds];exact h8
theorem aBr{base:Ba}{env:Env}{outer:List Env}{L e:Ah}{F:Obj}{vs:Array Ac}
  (z:A.frames=some (env :: outer)) (U:s.heap.FunFrames base (env :: outer)) (O:env.frame=some L) (J:s.heap.get? e=some F) (hd:F.data=.fields vs) (h1:vs[1]?=some .none) (h2:vs[2]?=some .none):
  wpAny M A (noteFrame (.ref e) env) (fun _ s'=>vH s'.heap e) E s:=by
 unfold noteFrame;simp only[O];refine Aa (DV J hd h1 ?_);rw[Ia (by decide)];exact aCs z U O J hd h2
theorem wB{base:Ba}{env:Env}{outer:List Env}{L e:Ah}(O:A.frames=some (env :: outer))(W:s.heap.FunFrames base (env :: outer))(U:env.frame=some L)(h:vH s.heap e):
  wpAny M A (noteFrame (.ref e) env) (fun _ s'=>vH s'.heap e) E s:=by
 obtain⟨ob,vs,T,oT,ts,h1,h2,h3,h4,h5,h6,h7,h8⟩:=id h;unfold noteFrame;simp only[U];refine Aa (DV h1 h2 h4 ?_);rw[Ib (show(AB T != BH)=true from by simp)];refine Aa (DV h6 h7 (Ca h8) ?_);split
 ·exact Ae h
 ·refine Aa (CF h6 h7 h8 ?_);have other:∀ b,b≠T→(s.heap.update T (EI (·.setIfInBounds 3 BH))).get? b=s.heap.get? b:=fun b F=>Bq _ _ (CV F)
  refine aCs (base:=base) O (W.of_keeps fun b o F J=>⟨o,(other b fun z=>?_).trans F,rfl⟩) U ((other e h5.symm).trans h1) h2 h3;rw[z,h6]at F;cases F;exact J ts h7
theorem aBs{base:Ba}{env:Env}{outer:List Env}{L e:Ah}(F:A.frames=some (env :: outer))(J:s.heap.FunFrames base (env :: outer))(O:env.frame=some L)(h:vH s.heap e):
  wpAny M A (leaving env (.ref e)) (fun _ s'=>vH s'.heap e) E s:=by
 unfold leaving;exact Aa (A9 (wB F J O h) (fun _ s' h'=>oP h') fun _ _ z=>z)
theorem aAi{base:Ba}{env:Env}{outer:List Env}{L e:Ah}{J:Obj}{vs:Array Ac}
  (F:A.frames=some (env :: outer)) (U:s.heap.FunFrames base (env :: outer)) (W:env.frame=some L) (O:s.heap.get? e=some J) (hd:J.data=.fields vs) (h1:vs[1]?=some .none) (h2:vs[2]?=some .none):
  wpAny M A (leaving env (.ref e)) (fun _ s'=>vH s'.heap e) E s:=by
 unfold leaving;exact Aa (A9 (aBr F U W O hd h1 h2) (fun _ s' h'=>oP h') fun _ _ z=>z)
end
def CXc(P:Ay)(w:AV):CXT:=fun outer H s E e s'=>CXr P w outer H s E e s'∧∃ x,e=.ref x∧vH s'.heap x
section
variable{P:Ay}{w:AV}{K:Ag}{mg:Str→Option Ac}{base:Ba}{N:List Str}{qual:Str}{scope:Ds}{f:Ah}{cd:Ac}{A:AO}{outer:List Env}{s:Ad}{H:Hp}{E:XK}
theorem aDD{fc:List (Ah×Obj)}{σ:St}{H1:Hp}{s1:Ad}{h':Ba}{e C:Ah}{args:List Ac}(I:Inv (dG (CXc P w) P w K mg base N qual scope f cd A outer s H E) fc σ H1 s1)
  (F:Heap.MadeExcOf s1.heap h' e (.ref C) args) (U:E (.ref C) none H1):(dG (CXc P w) P w K mg base N qual scope f cd A outer s H E).xe (.ref e) { s1 with heap:=h' }:=by
 have W:Inv (dG (CXr P w) P w K mg base N qual scope f cd A outer s H E) fc σ H1 s1:=I.wish (dG (CXr P w) P w K mg base N qual scope f cd A outer s H E).xe;have a:=aAg W F U;have J:s1.heap.FunFrames base (envOfC qual scope s.heap.objs.size f cd :: outer):=I.stack;obtain⟨t,he,_,_⟩:=F.there;have b:=aAi (M:=model P w) (A:=A.deeper (envOfC qual scope s.heap.objs.size f cd)) (E:=fun _ _=>False) (s:={ s1 with heap:=h' }) (base:=base) (e:=e) I.ok.frames (J.of_keeps fun b o Z _=>⟨o,F.keeps b o Z,rfl⟩) rfl he rfl rfl rfl;exact A9 (lU a b) (fun _ s2 ⟨Y,O⟩=>⟨Y,e,rfl,O⟩) fun _ _ z=>z.2.elim
theorem aFc{O:XK}(W:∀ C dx H',O C dx H'→E C dx H'):pB (CXc P w) (dG (CXc P w) P w K mg base N qual scope f cd A outer s H E) O:=by
 rintro fc σ H1 s1 e J I ⟨q,x,rfl,hc⟩;have Y:Inv (dG (CXr P w) P w K mg base N qual scope f cd A outer s H E) fc σ H1 s1:=I.wish (dG (CXr P w) P w K mg base N qual scope f cd A outer s H E).xe;have a:=lS (P:=P) (w:=w) (E:=E) W fc σ H1 s1 (.ref x) J Y q;obtain⟨x',C,H2,e',F,_⟩:=q;cases e';obtain⟨B,a0,fl,_⟩:=F.ex;have fl:Fy B (envOfC qual scope s.heap.objs.size f cd :: outer) x C a0 J.heap:=fl;have b:=aBs (M:=model P w) (A:=A.deeper (envOfC qual scope s.heap.objs.size f cd)) (E:=fun _ _=>False) (s:=J) (e:=x) I.ok.frames fl.2.2.1 rfl hc;exact A9 (lU a b) (fun _ J ⟨Z,U⟩=>⟨Z,x,rfl,U⟩) fun _ _ z=>z.2.elim
theorem wC{x:Str}{C:Ah}{B newId ii:String}{iq:List Ac}{np gx pos:Pos}{F:Bf}{es:List Bf}{t:TA}(Z:Ga B newId ii iq)(hg:Gl (dG (CXc P w) P w K mg base N qual scope f cd A outer s H E) x)(hm:mg x=some (.ref C))(hq:excIn K C iq newId=true)(ha:PA (dG (CXc P w) P w K mg base N qual scope f cd A outer s H E) (F :: es) t)
  (Y:starEach (F :: es) (dG (CXc P w) P w K mg base N qual scope f cd A outer s H E).env=(false,eval F (dG (CXc P w) P w K mg base N qual scope f cd A outer s H E).env) :: starEach es (dG (CXc P w) P w K mg base N qual scope f cd A outer s H E).env:=by rfl)
  (O:(backTo gx (starEach es (dG (CXc P w) P w K mg base N qual scope f cd A outer s H E).env)).any (·.1)=false:=by rfl) (hd:(x == ("__debug__":Str))=false:=by decide):
  PS (dG (CXc P w) P w K mg base N qual scope f cd A outer s H E) (.Raise (some (.Call (.Name x np) (F :: es) [] gx)) none pos) (fun D σ H1=>t σ H1 fun vs H2=>vs.length≤sizeLine∧E (.ref C) none H2):=by
 constructor;intro fc s1 σ H1 D I h;obtain⟨tl,N',nm,q,bs,hdct,sn,sub,ab,col,dd,k0,k1,k2,k3,k5,mN,hO⟩:=aBl (C:=C) I.ok.mod.kin hq;have W:=hO.keeps I.bk;refine wpAny_Raise_call_subT (C:=C) (nm:=nm) (q:=q) (N:=N') (bs:=bs) (bm:=tl) (hdct:=hdct) (sn:=sn) (sub:=sub) (ab:=ab) (col:=col) (dd:=dd) (k0:=k0) (k1:=k1) (k2:=k2) (k3:=k3) (k5:=k5)
  Z (mN:=mN) (W.tl.hasType Z.hasBase) (I.ok.hd rfl) ?_ W.ni ?_
 ·rw[Y];show(false || (backTo gx (starEach es (dG (CXc P w) P w K mg base N qual scope f cd A outer s H E).env)).any (·.1))=false
  rw[O];rfl
 ·refine A9 ((cE (v:=.ref C) hg hm rfl hd).run fc s1 σ H1 (fun v H'=>v=.ref C∧H'=H1) I ⟨rfl,rfl⟩) (fun u s2 U=>?_) fun _ _ y=>y;obtain⟨v,H2,I2,rv,rfl,rfl⟩:=U;cases rv;refine⟨rfl,?_⟩;have z:=ha gx fc s2 σ H2 _ I2 h;rw[Y]at z ⊢;refine Di (A9 z (fun us s3 U=>?_) fun _ _ y=>y);obtain⟨vs,H3,I3,r3,hl,hE⟩:=U;have J:=hO.keeps I3.bk;exact⟨rfl,by rw[← r3.length];exact hl,J.ob,J.ns,J.tl,fun h' e hx=>aDD I3 hx hE⟩
theorem Fun.okRc{x qual:Str}{st:B3}{f:Ah}{fd:AH}{N ps:List Str}{k:Nat}{sp:Sp}(F:Fun K x qual st f fd)(S:bU N ps (aO st))(len:∀ vs H Q E,sp vs H Q E→vs.length=ps.length)
  (J:∀(z:Ac) (A:AO) (outer:List Env) (s:Ad) (H:Hp) (vs:List V) (Q:VK) (E:XK),cQ k (A.deeper (envOfC qual (aO st) s.heap.objs.size f z))→sp vs H Q E→
   ∃ t,PSs (dG (CXc P w) P w K mg base N qual (aO st) f z A outer s H E) (d9 st) t∧t { nx:=fun _ H'=>Q .non H',rt:=Q } (m6 N vs) H):b8 P w K mg base (CXc P w) (k + 1) f fd ps sp:=by
 obtain⟨oc,od,kV,doc,pm,an,z,ct,osl,rfl,lk,hcd⟩:=F.ex;exact aEj lk hcd S len fun A outer s H vs Q E U O=>J z A outer s H vs Q E U O
end
section
variable{prog:Ay}{w:AV}{A:AO}{E:Ac→Ad→Prop}{env:Env}{nm q:Str}{C N:Ah}{bs bm:List Ac}{hdct:Bool}{sn:List Str}{sub:List Ac}{ab:Bool}{col:Option Bool}{dd:Option Ah}{k0 k1 k2 k3 k5:Option Ac}{newId:String}
theorem aBt{s:Ad}{xS cS:Sem Ac}{Q:Flow→Ad→Prop}{x:Ah}(J:bm.contains (.type "BaseException")=true)(hh:A.handled=some (.ref x))
  (h:wpAny (model prog w) A xS (fun v F=>∃ e t,v=.ref e∧F.heap.get? C=some (excClassObj nm q C N bs bm hdct sn sub ab col dd k0 k1 k2 k3 k5 newId)∧F.heap.get? e=some { cls:=.ref C,data:=.fields #[.ref t,.none,.none,.none,.bool false,.none] }∧e≠x∧e≠C∧aJP F.heap x∧
   wpAny (model prog w) A cS (fun c s₂=>c=.none∧s₂=F) E F∧∀ h',h'.get? e=some { cls:=.ref C,data:=.fields #[.ref t,.none,.ref x,.none,.bool true,.none] }→(∀ b,b≠e→h'.get? b=F.heap.get? b)→E (.ref e) { F with heap:=h' }) E s):
  wpAny (model prog w) A (raiseStmt env (some xS) (some cS)) Q E s:=by
 have ac:(AB C :: bm).contains (.type "BaseException")=true:=by rw[List.contains_cons,J,Bool.or_true]
 unfold raiseStmt;refine Aa (A9 h (fun v F h₁=>?_) fun _ _ x=>x);obtain⟨e,t,rfl,hC,he,hex,heC,hctx,hcS,hE⟩:=h₁;refine Aa (A1 (A9 hcS (fun c s₂ h₂=>?_) fun _ _ x=>x));obtain⟨rfl,rfl⟩:=h₂;refine Aa (Ae ?_);obtain⟨hp,g,d,tk,os⟩:=s₂;dsimp only at hC he hctx hE ⊢
 repeat (first | with_reducible refine wpAny_loadPart_at he ?_ | with_reducible refine wpAny_loadPart_at hC ?_ | (with_reducible refine wpAny_isSubtype_exc hC ?_;rw[ac]) | wp_step)
 generalize O:(hp.update e (EI fun x=>x.setIfInBounds 3 BH)).update e (EI fun x=>x.setIfInBounds 4 (Fk true))=h2;have Z:h2.get? e=some { cls:=.ref C,data:=.fields #[.ref t,.none,.none,.none,.bool true,.none] }:=by
  rw[← O];exact Bh _ (Bh _ he rfl) rfl
 have Y:∀ b,b≠e→h2.get? b=hp.get? b:=fun b hb=>by
  rw[← O];exact(Bq _ _ (CV hb)).trans (Bq _ _ (CV hb))
 obtain⟨ob,vs,hob,hvs,hc2⟩:=hctx;have W:h2.get? x=some ob:=(Y x (CV hex)).trans hob;unfold raiseNew;refine Aa (wpAny_handled ?_);rw[hh];have U:((AB x) != (AB e))=true:=by
  rw[bne_iff_ne];intro z;injection z with z;exact hex z.symm
 simp only[U,if_true];refine Aa (A1 (DB (BB (b:=Builtin.«proto.unchain») rfl ?_)));unfold Builtin.«proto.unchain»;refine Aa (DV W hvs hc2 ?_);have hn:((BH) == (BH))=true:=rfl;simp only[hn,if_true,ret];refine Ae ?_;refine Aa (CF (a:=e) Z rfl (by show 2 < 6;decide) (wpAny_throw (hE _ ?_ ?_)))
 ·exact Bh _ Z rfl
 ·exact fun b hb=>(Bq _ _ (CV hb)).trans (Y b hb)
end
section
variable{prog:Ay}{w:AV}{A:AO}{E:Ac→Ad→Prop}{s:Ad}{env:Env}
variable{nm q:Str}{C N:Ah}{bs bm iq:List Ac}{hdct:Bool}{sn:List Str}{sub:List Ac}{ab:Bool}{col:Option Bool}{dd:Option Ah}{k0 k1 k2 k3 k5:Option Ac}{B newId ii:String}
theorem qN(F:Ga B newId ii iq){mN:Str→Option Ac}{x:Str}{y:Ah}{kk:Nat}{np gx cp pos:Pos}{args:List Bf}{Q:Flow→Ad→Prop}
  (U:bm.contains (.type "BaseException")=true) (hh:A.handled=some (.ref y)) (J:(backTo gx (starEach args env)).any (·.1)=false) (Y:mN "__init__"=none)
  (h:wpAny (model prog w) A (eval (.Name x np) env) (fun f s₁=>f=.ref C∧wpAny (model prog w) A (evalArgs (.ref C) true (backTo gx (starEach args env)) [])
   (fun a O=>a.kw=[]∧a.pos.length≤sizeLine∧O.heap.get? C=some (excClassObj nm q C N bs bm hdct sn sub ab col dd k0 k1 k2 k3 k5 newId)∧O.heap.Ns N mN∧OwnTail O.heap iq bm∧aJP O.heap y∧
    ∀ h' e t,O.heap.get? e=none→(∀ b o,O.heap.get? b=some o→h'.get? b=some o)→h'.get? e=some { cls:=.ref C,data:=.fields #[.ref t,.none,.ref y,.none,.bool true,.none] }→E (.ref e) { O with heap:=h' }) E s₁) E s):
  wpAny (model prog w) A (exec (.Raise (some (.Call (.Name x np) args [] gx)) (some (.Constant .none kk cp)) pos) env) Q E s:=by
 rw[arm_exec_Raise];refine Aa (Dj (aBt (C:=C) (nm:=nm) (q:=q) (N:=N) (bs:=bs) (bm:=bm) (hdct:=hdct) (sn:=sn) (sub:=sub) (ab:=ab) (col:=col) (dd:=dd) (k0:=k0) (k1:=k1) (k2:=k2) (k3:=k3) (k5:=k5) (newId:=newId) (x:=y) U hh ?_));refine Aa (A9 (wpAny_Call_ofName (A9 h (fun f s₁ h₁=>?_) fun _ _ x=>x)) (fun v s₃ h₃=>Aa (Dj (Ae h₃))) fun _ _ x=>x);obtain⟨rfl,h₁⟩:=h₁;unfold callWith;refine Aa (A1 (A9 h₁ (fun a O Z=>Aa (Dj ?_)) fun _ _ x=>x));obtain⟨ig,akw⟩:=a;obtain⟨hkw,hlen,hC,hn,T,hctx,Z⟩:=Z;obtain rfl:akw=[]:=hkw;obtain⟨hp,g,d,tk,os⟩:=O;simp only[J];refine Aa (wpAny_keeperOf_exc hC ?_);refine Aa (wpAny_call_exc_subT (hrest:=hlen) F T hC hn Y fun h' e hm=>Aa (A1 (wpAny_point (Ae ?_))));obtain⟨t,ht,_,_⟩:=hm.there;have W:∀ b o,hp.get? b=some o→b≠e:=fun b o z w=>by
  have:=hm.new;rw[w,this]at z;cases z
 obtain⟨ob,vs,z1,z2,z3⟩:=hctx;refine⟨e,t,rfl,hm.keeps _ _ hC,ht,(W _ _ z1).symm,(W _ _ hC).symm,⟨ob,vs,hm.keeps _ _ z1,z2,z3⟩,?_,fun h3 g1 g2=>Z h3 e t hm.new (fun b o z=>(g2 b (W b o z)).trans (hm.keeps b o z)) g1⟩;exact Aa (wpAny_Constant_none (Aa (Dj (Ae ⟨rfl,rfl⟩))))
end
section
variable{P:Ay}{w:AV}{K:Ag}{mg:Str→Option Ac}{base:Ba}{N:List Str}{qual:Str}{scope:Ds}{f:Ah}{cd:Ac}{A:AO}{outer:List Env}{s:Ad}{H:Hp}{E:XK}
theorem aDE{fc:List (Ah×Obj)}{σ:St}{H1:Hp}{s1:Ad}{h':Ba}{e C:Ah}{oe:Obj}{vs:Array Ac}{a0:Ac}(I:Inv (dG (CXr P w) P w K mg base N qual scope f cd A outer s H E) fc σ H1 s1)
  (O:∀ b o,s1.heap.get? b=some o→h'.get? b=some o) (aa:s1.heap.get? e=none) (J:h'.get? e=some oe) (af:oe.cls=.ref C) (ai:oe.data=.fields vs) (h1:vs[1]?=some .none) (h0:vs[0]?=some a0) (hE:E (.ref C) none H1):(dG (CXr P w) P w K mg base N qual scope f cd A outer s H E).xe (.ref e) { s1 with heap:=h' }:=by
 have ad:∀ env∈(envOfC qual scope s.heap.objs.size f cd :: outer),∀ b,env.frame=some b→b∈frs (envOfC qual scope s.heap.objs.size f cd :: outer):=fun env J b F=>A4.mpr ⟨env,J,F⟩;have ac:s1.heap.FunFrames base (envOfC qual scope s.heap.objs.size f cd :: outer):=I.stack;have ag:∀ b∈frs (envOfC qual scope s.heap.objs.size f cd :: outer),H1 b=none:=I.stkFree;show wpAny _ _ (leaving _ _) _ _ _;have hB:∀ b o,(hideAll s1.heap (frs (envOfC qual scope s.heap.objs.size f cd :: outer))).get? b=some o→s1.heap.get? b=some o:=fun b o q=>of_hideAll _ q;have Z:(hideAll s1.heap (frs (envOfC qual scope s.heap.objs.size f cd :: outer))).get? e=none:=by
  cases q:(hideAll s1.heap (frs (envOfC qual scope s.heap.objs.size f cd :: outer))).get? e with
  | none=>rfl
  | some o=>have:=hB e o q;rw[aa]at this;cases this
 refine wpAny_leaving_firstW (base:=hideAll s1.heap (frs (envOfC qual scope s.heap.objs.size f cd :: outer))) (a0:=a0) (L:=s.heap.objs.size) I.ok.frames ((funFrames_hide ac ad).of_keeps fun b o F _=>⟨o,O b o F,rfl⟩) rfl J (fun b o F=>O b o (hB b o F)) Z ai h1 h0 fun Y ae=>?_;obtain⟨y1,⟨_,_,y2⟩,y3,x4⟩:=ae;rw[af]at y3;have x1:Fy (hideAll s1.heap (frs (envOfC qual scope s.heap.objs.size f cd :: outer))) outer e (.ref C) a0 Y:=⟨y1,Z,y2,y3⟩
 have hL:∀ b,b∈frs (envOfC qual scope s.heap.objs.size f cd :: outer)→b=s.heap.objs.size∨b∈frs outer:=fun b F=>by
  obtain⟨env,J,W⟩:=A4.mp F;rcases Al.mp J with rfl | J
  ·exact .inl (Cb.inj W).symm
  ·exact .inr (A4.mpr ⟨env,J,W⟩)
 have U:∀ b o,s.heap.get? b=some o→H b=none→b ∉ frs outer→(hideAll s1.heap (frs (envOfC qual scope s.heap.objs.size f cd :: outer))).get? b=some o:=fun b o q n nf=>
  ER _ (I.base.keep b o q n nf (by simp[dG])) fun hm=>by
   rcases hL b hm with z | z
   ·rw[z]at q;exact absurd (Ar q) (Bx _)
   ·exact nf z
 have slot:∀ b o,s.heap.get? b=some o→H b=none→b∈frs outer→∃ sl,Y.get? b=some { o with slots:=sl }:=fun b o q n W=>by
  obtain⟨sl,e1⟩:=I.base.slot b o q n W (by simp[dG]);have hm:b∈frs (envOfC qual scope s.heap.objs.size f cd :: outer):=by
   obtain⟨env,J,W⟩:=A4.mp W;exact A4.mpr ⟨env,.tail _ J,W⟩
  obtain⟨_,o2,e2,hd⟩:=ac.mem hm;rw[e1]at e2;cases e2;obtain⟨sl2,e3⟩:=x4 b _ (O b _ e1) hd;exact⟨sl2,e3⟩
 refine⟨e,.ref C,H1,rfl,⟨I.os,I.bare,⟨_,_,x1,fun a o q=>(I.hok a o q).stay (fun b u F e=>ER _ e fun hm=>?_) (fun _ q=>q) fun _ _ q=>q,U,fun b o q nf=>?_⟩,I.ok.frf,slot,fun b o q n=>I.base.free b o q n (by simp[dG]),I.base.tups,I.base.frzs,I.base.tbls⟩,hE⟩
 ·have hn:=ag b hm;rcases F with rfl | F
  ·rw[q]at hn;cases hn
  ·rw[F]at hn;cases hn
 ·obtain⟨o1,e1⟩:=I.base.there b o q (by simp[dG]);refine⟨o1,ER _ e1 fun hm=>?_⟩;rcases hL b hm with z | z
  ·rw[z]at q;exact absurd (Ar q) (Bx _)
  ·exact nf z
end
inductive aHH(X:Cx)(fc:List (Ah×Obj))(σ:St)(E':XK)(x:Ac)(s':Ad):Prop
 | mk (H1:_) (s1:_) (q0:Inv X fc σ H1 s1) (q1:CXc X.prog X.w X.stack H1 s1 E' x s'):aHH X fc σ E' x s'
def XPc(X:Cx)(fc:List (Ah×Obj))(σ:St)(E':XK)(x:Ac)(s':Ad):Prop:=aHH X fc σ E' x s'
structure PXc(X:Cx)(e:Bf)(te:XK→TE):Prop where
 run:∀(E':XK) (fc:List (Ah×Obj)) (s:Ad) (σ:St) (H:Hp) (Q:VK),Inv X fc σ H s→te E' σ H Q→wpAny (model X.prog X.w) X.A (eval e X.env) (EP X fc σ Q) (XPc X fc σ E') s
structure aJQ(X:Cx)(b:List B3)(tb:XK→TS):Prop where
 run:∀(E':XK) (fc:List (Ah×Obj)) (s:Ad) (σ:St) (H:Hp) (D:mY),Inv X fc σ H s→tb E' D σ H→wpAny (model X.prog X.w) X.A (execs b X.env) (SP X fc D) (XPc X fc σ E') s
section
variable{X:Cx}{k:Nat}{f:Ah}{fd:AH}{ps:List Str}{sp:Sp}{x:Str}{p pos:Pos}{e:Bf}{es:List Bf}{t:TA}{te:XK→TE}
theorem aGI{fc:List (Ah×Obj)}{σ:St}{H:Hp}{s:Ad}{Q:VK}{O:XK}{us:List Ac}{vs:List V}(F:b8 X.prog X.w X.K X.mg X.base (CXc X.prog X.w) k f fd ps sp)(U:cQ k X.A)(Y:cZ X.K fd ps [])
  (I:Inv X fc σ H s) (r:cG vs us) (h:sp vs H Q O):wpAny (model X.prog X.w) X.A (call (.ref f) us) (EP X fc σ Q) (XPc X fc σ O) s:=by
 have W:us.length=ps.length:=by rw[← r.length];exact F.len _ _ _ _ h
 have J:=Y s us I.kIn (by rw[Cp];exact W);rw[Cp]at J;refine Cy (CB (F.run X.A X.stack s H ⟨us,[]⟩ us vs Q O U I.env0 J r h) fun r s' z=>?_);cases r with
 | error e=>exact⟨H,s,I,z⟩
 | ok fl=>
  cases fl with
  | ret u=>exact I.after z
  | next=>exact Bz z
  | brk=>exact Bz z
  | cont=>exact Bz z
theorem aFd(F:b8 X.prog X.w X.K X.mg X.base (CXc X.prog X.w) k f fd ps sp)(Y:cQ k X.A)(hg:Gl X x)(hm:X.mg x=some (.ref f))(Z:Au X.K (.ref f)=true)(hb:cZ X.K fd ps [])
  (ha:PA X.nox (e :: es) t) (J:(x == ("__debug__":Str))=false:=by decide) (he:starEach (e :: es) X.env=(false,eval e X.env) :: starEach es X.env:=by rfl) (O:(backTo pos (starEach es X.env)).any (·.1)=false:=by rfl):
  PXc X (.Call (.Name x p) (e :: es) [] pos) (fun W=>fun σ H Q=>t σ H fun vs H1=>sp vs H1 Q W):=by
 constructor;intro W fc s σ H Q I h;refine CO (l9 I hg hm ?_ J);refine Ef (h₀:=X.base) I.ok.mod.kin Z (A9 (ha pos fc s σ H _ (I.wish _) h) (fun us s1 ⟨vs,H1,U,r,q⟩=>⟨U.kIn,?_⟩) fun _ _ z=>Bz z) he O;exact aGI F Y hb U.unwish r q
theorem aFe(U:PXc X e te):aJQ X [.Return (some e) pos] (fun z D σ H=>te z σ H D.rt):=by
 constructor;intro z fc s σ H D I h;exact Ee (wpAny_Return_some (thn (U.run z fc s σ H _ I h) fun v s1 ⟨x,H1,F,J,O⟩=>⟨x,σ,H1,F,J,O⟩))
end
theorem Inv.pinOne{X:Cx}{fc:List (Ah×Obj)}{σ:St}{H:Hp}{s:Ad}{x:Ah}{ob:Obj}(I:Inv X fc σ H s)(e:s.heap.get? x=some ob)(n:H x=none)(ne:x≠X.env.locals)(nf:x ∉ X.fs)(d:∀ v,ob.data≠.cell v):Inv X ((x,ob) :: fc) σ H s:=
 ⟨I.ok,I.os,I.bare,I.base,I.loc,I.cell,I.free,I.freeC,fun p z=>by
  rcases Az.mp z with h | h
  ·exact I.pin p (Az.mpr (.inl h))
  ·rcases Al.mp h with rfl | h
   ·exact⟨e,n,ne,nf,d⟩
   ·exact I.pin p (Az.mpr (.inr h)),I.hok,I.len⟩
section
variable{P:Ay}{w:AV}{K:Ag}{mg:Str→Option Ac}{base:Ba}{N:List Str}{qual:Str}{scope:Ds}{f:Ah}{cd:Ac}{A:AO}{outer:List Env}{s:Ad}{H:Hp}{E:XK}
theorem aAj{J:List B3}{tb:XK→TS}{dn x1:Str}{C0 Y:Ah}{B newId ii:String}{iq:List Ac}{e0:Bf}{es:List Bf}{t:TA}{np ar gx cp ae ah pos:Pos}{kk:Nat}(FB:Ga B newId ii iq)
  (hb:aJQ (dG (CXr P w) P w K mg base N qual scope f cd A outer s H E) J tb) (hg:Gl (dG (CXr P w) P w K mg base N qual scope f cd A outer s H E) dn) (hm:mg dn=some (.ref C0)) (az:Gl (dG (CXr P w) P w K mg base N qual scope f cd A outer s H E) x1) (ao:mg x1=some (.ref Y)) (hq:excIn K Y iq newId=true)
  (ha:∀ v,PA ((dG (CXr P w) P w K mg base N qual scope f cd A outer s H E).hand v) (e0 :: es) t)
  (Z:starEach (e0 :: es) (dG (CXr P w) P w K mg base N qual scope f cd A outer s H E).env=(false,eval e0 (dG (CXr P w) P w K mg base N qual scope f cd A outer s H E).env) :: starEach es (dG (CXr P w) P w K mg base N qual scope f cd A outer s H E).env:=by rfl)
  (aB:(backTo gx (starEach es (dG (CXr P w) P w K mg base N qual scope f cd A outer s H E).env)).any (·.1)=false:=by rfl) (hd:(dn == ("__debug__":Str))=false:=by decide) (aq:(x1 == ("__debug__":Str))=false:=by decide):
  PS (dG (CXr P w) P w K mg base N qual scope f cd A outer s H E) (.Try J [.ExceptHandler (some (.Name dn np)) none [.Raise (some (.Call (.Name x1 ar) (e0 :: es) [] gx)) (some (.Constant .none kk cp)) ae] ah] [] [] pos)
   (fun D σ H1=>tb (fun C _ H'=>exmOne K C (.ref C0)=some true∧t σ H' fun vs H2=>vs.length≤sizeLine∧E (.ref Y) none H2) D σ H1):=by
 constructor;intro fc s1 σ H1 D I h;refine wpAny_Try_except (A9 (hb.run _ fc s1 σ H1 D I h) (fun f s1 r=>?_) fun e U z=>?_)
 ·cases f with
  | next=>exact Dh r
  | _=>exact r
 ·obtain⟨H2,s0,I1,⟨x,C,H',rfl,F,hx,hy⟩,x',ex,hc⟩:=z;cases ex;have ag:s0.heap.FunFrames base (envOfC qual scope s.heap.objs.size f cd :: outer):=I1.stack;have F':Fly P w (envOfC qual scope s.heap.objs.size f cd :: outer) H2 H' s0 x C U:=F;have a:=F'.lands (M:=model P w) (A:=A.deeper (envOfC qual scope s.heap.objs.size f cd)) (Q:=fun _ _=>False) (E:=fun _ _=>False) (R:=fun s4=>∃ h5,s4={ U with heap:=h5 }∧Fly P w (envOfC qual scope s.heap.objs.size f cd :: outer) H2 H' s0 x C s4) ag I1.ok.frames rfl fun h5 F5=>⟨h5,rfl,F5⟩
  obtain⟨B',a0,fl,_⟩:=F'.ex;have b:=wB (M:=model P w) (A:=A.deeper (envOfC qual scope s.heap.objs.size f cd)) (E:=fun _ _=>False) (s:=U) (e:=x) I1.ok.frames fl.2.2.1 rfl hc;refine A9 (lU a b) (fun _ s3 ⟨q1,q2⟩=>?_) fun _ _ z=>z.2.elim;refine A9 (lU q1 (oP (E:=fun _ _=>False) q2)) (fun _ s4 ⟨⟨h5,e5,F5⟩,ap⟩=>?_) fun _ _ z=>z.2.elim;subst e5;have I5:=I1.caught (s':={ U with heap:=h5 }) F5;refine wpAny_handleBy_cons (codeAny_handlers_test ?_) (by intro q;cases q);refine l9 (X:=(dG (CXr P w) P w K mg base N qual scope f cd A outer s H E).hand (.ref x)) (I5.hand _) hg hm ?_ hd;obtain⟨ob,vs,ho,hcl,hd5⟩:=F5.obj;have LT:Looks (model P w) h5 (typeOf (.ref x)) C:=by
   rw[← hcl];unfold typeOf;exact(Hs ho).andThen .now
  refine(exm_one (M:=model P w) I5.kIn LT hx).at ?_;refine codeAny_handlers_suite ?_;refine A9 (lU (F5.again (M:=model P w) (E:=fun _ _=>False) (R:=fun s6=>∃ h6,s6={ U with heap:=h6 }∧Fly P w (envOfC qual scope s.heap.objs.size f cd :: outer) H2 H' s0 x C s6) ag fun h6 F6=>⟨h6,rfl,F6⟩) (oP (E:=fun _ _=>False) ap)) (fun _ s6 ⟨⟨h6,e6,F6⟩,ay⟩=>?_) fun _ _ z=>z.2.elim;subst e6;have I6:=I1.caught (s':={ U with heap:=h6 }) F6;obtain⟨hnx,_⟩:=Fly.track (s':={ U with heap:=h6 }) I1 rfl rfl rfl F6;obtain⟨ox,ws,T,oT,ts,g1,g2,g3,_⟩:=ay;obtain⟨B6,a6,fl6,_⟩:=F6.ex;have af:∀ b∈frs (envOfC qual scope s.heap.objs.size f cd :: outer),b≠x:=fun b hb z=>by
   obtain⟨_,o,e,h⟩:=fl6.2.2.1.mem hb;rw[z,g1]at e;cases e;exact h ws g2
  have J6:=(I6.hand (.ref x)).pinOne (x:=x) (ob:=ox) g1 hnx (af _ (A4.mpr ⟨_,AF,rfl⟩)).symm (fun z=>by
   obtain⟨env,Z,hf⟩:=A4.mp z;exact af x (A4.mpr ⟨env,.tail _ Z,hf⟩) rfl) (fun v z=>by rw[g2]at z;cases z)
  refine wpAny_passesOwnAt PassesOwnAt.leaving ?_;obtain⟨tl,N',nm,q,bs,hdct,sn,sub,ab,col,dd,k0,k1,k2,k3,k5,mN,hO⟩:=aBl (C:=Y) I.ok.mod.kin hq;have o1:=hO.keeps I6.bk;refine Ee (qN (C:=Y) (nm:=nm) (q:=q) (N:=N') (bs:=bs) (bm:=tl) (hdct:=hdct) (sn:=sn) (sub:=sub) (ab:=ab) (col:=col) (dd:=dd) (k0:=k0) (k1:=k1) (k2:=k2) (k3:=k3) (k5:=k5) (y:=x)
   FB (mN:=mN) (o1.tl.hasType FB.hasBase) rfl ?_ o1.ni ?_)
  ·rw[Z];show(false || (backTo gx (starEach es (dG (CXr P w) P w K mg base N qual scope f cd A outer s H E).env)).any (·.1))=false
   rw[aB];rfl
  ·refine A9 ((cE (X:=(dG (CXr P w) P w K mg base N qual scope f cd A outer s H E).hand (.ref x)) (v:=.ref Y) az ao rfl aq).run _ _ σ H' (fun v au=>v=.ref Y∧au=H') J6 ⟨rfl,rfl⟩) (fun u s7 hu=>?_) fun _ _ y=>Bz y;obtain⟨v,H7,I7,rv,rfl,rfl⟩:=hu;cases rv;refine⟨rfl,?_⟩;have O:=ha (.ref x) gx _ s7 σ H7 _ I7 hy;have aA:starEach (e0 :: es) ((dG (CXr P w) P w K mg base N qual scope f cd A outer s H E).hand (.ref x)).env=(false,eval e0 (dG (CXr P w) P w K mg base N qual scope f cd A outer s H E).env) :: starEach es (dG (CXr P w) P w K mg base N qual scope f cd A outer s H E).env:=Z;rw[aA]at O;rw[Z];refine Di (A9 O (fun us s3 hu=>?_) fun _ _ y=>Bz y);obtain⟨vs,H3,I3,r3,hl,hE⟩:=hu;have W:=I3.unhand I.ok;have o3:=hO.keeps W.bk;have px:=(W.pin (x,ox) (Az.mpr (.inr AF))).1;exact⟨rfl,by rw[← r3.length];exact hl,o3.ob,o3.ns,o3.tl,⟨ox,ws,px,g2,g3⟩,fun h' e t hn hk Z=>aDE W hk hn Z rfl rfl rfl rfl hE⟩
end
inductive aCt(x:V)(y:V)(H:Hp)(Q:VK):Prop
 | mk (l:_) (b:_) (xs:_) (zs:_) (q0:x=.ref l) (q1:y=.ref b) (q2:H l=some (.lst xs)) (q3:H b=some (.lst zs)) (q4:xs.length + zs.length≤sizeLine) (q5:∀ p,H p=none→p≠sysModules→Q (.ref p) (upd H p (.lst (xs ++ zs)))):aCt x y H Q
def aJR:R2:=fun x y H Q=>aCt x y H Q
mutual
inductive RdL(H:Hp):V→Aj→Prop
 | non:RdL H .non .none
 | bl (b:Bool):RdL H (.bl b) (.bool b)
 | int (i:Int):RdL H (.int i) (.int i)
 | str (z:Str):RdL H (.str z) (.str z)
 | lst {a:Ah} {xs:List V} {ds:List Aj} (e:H a=some (.lst xs)) (n:a≠sysModules) (r:gW H xs ds):RdL H (.ref a) (.list ds)
 | tup {a:Ah} {xs:List V} {ds:List Aj} (e:H a=some (.tup xs)) (r:gW H xs ds):RdL H (.ref a) (.tuple ds)
 | dc0 {a:Ah} (e:H a=some (.dK [])):RdL H (.ref a) (.dict [])
 | dc1 {a:Ah} {k:Str} {v:V} {d:Aj} (e:H a=some (.dK [(Aw k,v)])) (r:RdL H v d):RdL H (.ref a) (.dict [(.str k,d)])
inductive gW(H:Hp):List V→List Aj→Prop
 | nil:gW H [] []
 | cons {x:V} {d:Aj} {xs:List V} {ds:List Aj} (a:RdL H x d) (r:gW H xs ds):gW H (x :: xs) (d :: ds)
end
mutual
theorem RdL.same{H H':Hp}(k:aY H H'):∀{x:V}{d:Aj},RdL H x d→RdL H' x d
 | _,_,.non=>.non
 | _,_,.bl b=>.bl b
 | _,_,.int i=>.int i
 | _,_,.str z=>.str z
 | _,_,.lst e n r=>.lst (k _ _ e) n (gW.same k r)
 | _,_,.tup e r=>.tup (k _ _ e) (gW.same k r)
 | _,_,.dc0 e=>.dc0 (k _ _ e)
 | _,_,.dc1 e r=>.dc1 (k _ _ e) (RdL.same k r)
theorem gW.same{H H':Hp}(k:aY H H'):∀{xs:List V}{ds:List Aj},gW H xs ds→gW H' xs ds
 | _,_,.nil=>.nil
 | _,_,.cons a r=>.cons (RdL.same k a) (gW.same k r)
end
mutual
theorem RdL.of{H:Hp}:∀{x:V}{d:Aj},RdV false H x d→RdL H x d
 | _,_,.non=>.non
 | _,_,.bl b=>.bl b
 | _,_,.int i=>.int i
 | _,_,.str z _=>.str z
 | _,_,.lst hm _ _ _=>nomatch hm
 | _,_,.tup e _ r=>.tup e (gW.of r)
 | _,_,.dct _ e=>.dc0 e
theorem gW.of{H:Hp}:∀{xs:List V}{ds:List Aj},cF false H xs ds→gW H xs ds
 | _,_,.nil=>.nil
 | _,_,.cons a r=>.cons (RdL.of a) (gW.of r)
end
theorem gW.app{H:Hp}:∀{xs:List V}{ds:List Aj}{ys:List V}{es:List Aj},gW H xs ds→gW H ys es→gW H (xs ++ ys) (ds ++ es)
 | _,_,_,_,.nil,r=>r
 | _,_,_,_,.cons a q,r=>.cons a (gW.app q r)
section
variable{X:Cx}
theorem qU:OpR X (binaryOp .Add) aJR:=by
 intro fc s σ H x y v u Q I U J h;obtain⟨l,b,xs,zs,rfl,rfl,hH,hB,hz,q⟩:=h;cases U;cases J;obtain⟨z,its,n,r,hl,e⟩:=I.lstM hH;obtain⟨z2,its2,n2,r2,hl2,e2⟩:=I.lstM hB;refine PySem.P.add_list e e2 ?_ (by rw[Ao,Ao];omega);have O:its.toArray ++ its2.toArray=(its ++ its2).toArray:=by simp
 rw[O];have F:=I.big;exact⟨.ref _,_,I.lnew (t':=s.toks) (r.append r2) (by rw[Ak];omega),rfl,q _ I.fresh fun e=>by rw[e]at F;exact absurd F (Bx _)⟩
mutual
theorem RdL.reads{fc:List (Ah×Obj)}{σ:St}{H:Hp}{s:Ad}(I:Inv X fc σ H s):∀{x:V}{d:Aj}{v:Ac},RdL H x d→c5 x v→∃ as,Reads s.heap v d as∧¬ sysModules∈as
 | _,_,_,.non,r=>by cases r;exact⟨[],.none,by simp⟩
 | _,_,_,.bl b,r=>by cases r;exact⟨[],.bool b,by simp⟩
 | _,_,_,.int i,r=>by obtain⟨t,rfl⟩:=r;exact⟨[],.int i t,by simp⟩
 | _,_,_,.str z,r=>by obtain⟨t,rfl⟩:=r;exact⟨[],.str z t,by simp⟩
 | _,_,_,.lst e hn rs,r=>by
  cases r;obtain⟨_,its,n,rv,eo⟩:cP X.prog X.w H s.heap _ (.lst _):=I.hok _ _ e;obtain⟨as,ra,h2⟩:=gW.reads I rs rv;refine⟨_,.list eo rfl rfl (by simpa using ra),fun w=>?_⟩;rcases Al.mp w with w | w
  ·exact hn w.symm
  ·exact h2 w
 | _,_,_,.tup e rs,r=>by
  cases r;obtain⟨_,its,rv,pt⟩:cP X.prog X.w H s.heap _ (.tup _):=I.hok _ _ e;obtain⟨as,ra,h2⟩:=gW.reads I rs rv;obtain⟨o,eo,⟨hc,n,hd⟩,_⟩:=pt;exact⟨as,.tuple eo hc hd (by simpa using ra),h2⟩
 | _,_,_,.dc0 e,r=>by
  cases r;obtain⟨_,hs,vs,J,o,es,ep,eo,hx,hd,hk,hp,_⟩:cP X.prog X.w H s.heap _ (.dK []):=I.hok _ _ e;cases J;have F:es.toList=[]:=by
   cases h:es.toList with
   | nil=>rfl
   | cons y r=>rw[h]at hp;cases hp
  refine⟨_,GQ (kvs:=[]) (as:=[]) (bs:=[]) eo hx.1 hd (by rw[F];exact .nil) (by rw[F];exact .nil),?_⟩;intro z;simp at z;rw[z]at hs;simp at hs
 | _,_,_,.dc1 e rd,r=>by
  cases r;obtain⟨_,hs,vs,J,o,es,ep,eo,hx,hd,hk,hp,_⟩:cP X.prog X.w H s.heap _ (.dK [_]):=I.hok _ _ e;cases J with
  | cons h1 J=>
  cases J;obtain⟨h1,h2⟩:=h1;cases h:es.toList with
  | nil=>rw[h]at hp;cases hp
  | cons y r=>
   rw[h]at hp;cases hp with
   | cons O W U=>
   cases U;rw[← h1]at O;rcases d8 (k:=Aw _) O with⟨i,t,z,_⟩ | ⟨z',t,z,ek⟩
   ·cases z
   ·cases z;rw[← W]at h2;obtain⟨bs,rb,nb⟩:=RdL.reads I rd h2;refine⟨_,GQ (kvs:=[(.str _,_)]) (as:=[]) (bs:=bs ++ []) eo hx.1 hd (by rw[h];show ReadsAll _ [y.key] _ _;rw[ek];exact .cons (.str _ _) .nil) (by rw[h];exact .cons rb .nil),fun hz=>?_⟩;rw[Cp]at hz;rcases Al.mp hz with hz | hz
    ·rw[← hz]at hs;simp at hs
    ·exact nb hz
theorem gW.reads{fc:List (Ah×Obj)}{σ:St}{H:Hp}{s:Ad}(I:Inv X fc σ H s):∀{xs:List V}{ds:List Aj}{vs:List Ac},gW H xs ds→cG xs vs→∃ as,ReadsAll s.heap vs ds as∧¬ sysModules∈as
 | _,_,_,.nil,.nil=>⟨[],.nil,by simp⟩
 | _,_,_,.cons a r,.cons F z=>by
  obtain⟨as,h1,h3⟩:=RdL.reads I a F;obtain⟨bs,g1,g3⟩:=gW.reads I r z;refine⟨as ++ bs,.cons h1 g1,fun w=>?_⟩;rcases Az.mp w with w | w
  ·exact h3 w
  ·exact g3 w
end
inductive lV(xs:List V)(H:Hp)(Q:VK):Prop
 | mk (a:Ah) (d:Aj) (q0:xs=[.ref a]) (q1:RdL H (.ref a) d) (q2:d.showable=true) (q3:d.depth≤20) (q4:d.shown.length≤sizeLine) (q5:Q (.str d.shown) H):lV xs H Q
def xT:List V→Hp→VK→Prop:=fun xs H Q=>lV xs H Q
theorem aBu{k:Nat}(F:cQ k X.A):eY X (.builtin "repr") xT:=by
 intro fc s σ H xs O Q I r h;obtain⟨a,d,rfl,hx,hs,hd,hz,q⟩:=h;obtain⟨u,rfl,ru⟩:=gE r;cases ru;obtain⟨as,hrd,h2⟩:=RdL.reads I hx rfl;exact repr_of_reads' hrd hs (fun z=>h2) F.gd (by have:=F.un;omega) (fun b o e=>e) (fun h' u tk J=>⟨.str d.shown,H,I.kept (t':=tk) J,⟨u,rfl⟩,q⟩) hz
inductive lW(xs:List V)(H:Hp)(Q:VK):Prop
 | mk (a:Ah) (d:Aj) (q0:xs=[.ref a]) (q1:(RdL H (.ref a) d∨RdV true H (.ref a) d)) (q2:d.showable=true) (q3:d.depth≤20) (q4:d.shown.length≤sizeLine) (q5:Q (.str d.shown) H):lW xs H Q
def xU:List V→Hp→VK→Prop:=fun xs H Q=>lW xs H Q
theorem tZ{k:Nat}(F:cQ k X.A):eY X (.builtin "repr") xU:=by
 intro fc s σ H xs z Q I r h;obtain⟨a,d,e,hx | hx,h1,h2,h3,q⟩:=h
 ·exact aBu F fc s σ H xs z Q I r ⟨a,d,e,hx,h1,h2,h3,q⟩
 ·exact pK F fc s σ H xs z Q I r ⟨a,true,d,e,hx,h1,h2,h3,q⟩
end
def hid(H:Hp)(h:Ah):Hp:=fun b=>if b=h then none else H b
theorem kG{H:Hp}{h:Ah}:hid H h h=none:=Ib rfl
theorem hid_ne{H:Hp}{h b:Ah}(n:b≠h):hid H h b=H b:=Ia n
section
variable{X:Cx}{fc:List (Ah×Obj)}{σ σ1:St}{H H1:Hp}{s s1:Ad}{h:Ah}{xs:List V}
theorem Inv.hide(I:Inv X fc σ H s)(e:H h=some (.lst xs)):∃ ob,s.heap.get? h=some ob∧Inv X ((h,ob) :: fc) σ (hid H h) s:=by
 have hok:=I.hok h _ e;obtain⟨_,its,n,rv,eo⟩:cP X.prog X.w H s.heap h (.lst xs):=hok;have F:∀ b,H b=none→hid H h b=none:=fun b q=>by
  by_cases z:b=h
  ·rw[z];exact kG
  ·rw[hid_ne z];exact q
 have O:h ∉ X.fs:=fun U=>by
  have W:h∈frs X.stack:=by
   rcases I.ok.stk with z | ⟨z,_⟩
   ·rw[z];exact U
   ·rw[z];obtain⟨env,he,hf⟩:=A4.mp U;exact A4.mpr ⟨env,.tail _ he,hf⟩
  have:=I.stkFree h W;rw[e]at this;cases this
 have sub:∀ b o,hid H h b=some o→H b=some o:=fun b o z=>by
  by_cases q:b=h
  ·rw[q,kG]at z;cases z
  ·rw[hid_ne q]at z;exact z
 refine⟨_,eo,⟨I.ok,I.os,I.bare,⟨I.base.keep,I.base.slot,fun b o q n Y=>?_,I.base.there,fun b ys q=>?_,fun b o u q=>?_,fun b ps q=>?_⟩,I.loc,I.cell,?_,fun y c q=>?_,fun p J=>?_,fun b o q=>?_,I.len⟩⟩
 ·by_cases z:b=h
  ·rw[z,kG]
  ·rw[hid_ne z];exact I.base.free b o q n Y
 ·have:=I.base.tups b ys q;rw[hid_ne fun z=>by rw[z,e]at this;cases this];exact this
 ·have:=I.base.frzs b o u q;rw[hid_ne fun z=>by rw[z,e]at this;cases this];exact this
 ·obtain⟨more,this⟩:=I.base.tbls b ps q;exact⟨more,by rw[hid_ne fun z=>by rw[z,e]at this;cases this];exact this⟩
 ·by_cases z:X.env.locals=h
  ·rw[z,kG]
  ·rw[hid_ne z];exact I.free
 ·by_cases z:c=h
  ·rw[z,kG]
  ·rw[hid_ne z];exact I.freeC y c q
 ·rcases Az.mp J with J | J
  ·obtain⟨a1,a2,a3⟩:=I.pin p (Az.mpr (.inl J));exact⟨a1,F _ a2,a3⟩
  ·rcases Al.mp J with rfl | J
   ·exact⟨eo,kG,(fun z=>by have:=I.free;rw[← show h=X.env.locals from z,e]at this;cases this),O,fun v z=>nomatch z⟩
   ·obtain⟨a1,a2,a3⟩:=I.pin p (Az.mpr (.inr J));exact⟨a1,F _ a2,a3⟩
 ·refine(I.hok b o (sub b o q)).stay (fun c v _ q=>q) (fun c q=>?_) fun c ys q=>?_
  ·rw[hid_ne fun z=>by rw[z,e]at q;cases q];exact q
  ·rw[hid_ne fun z=>by rw[z,e]at q;cases q];exact q
theorem Inv.unhide{ob:Obj}(I:Inv X fc σ H s)(e:H h=some (.lst xs))(Y:s.heap.get? h=some ob)(F:Inv X ((h,ob) :: fc) σ1 H1 s1):H1 h=none∧Inv X fc σ1 (upd H1 h (.lst xs)) s1:=by
 obtain⟨zl,its,n,rv,eo⟩:cP X.prog X.w H s.heap h (.lst xs):=I.hok h _ e;rw[Y]at eo;obtain⟨p1,p2,p3,p4,p5⟩:=F.pin (h,ob) (Az.mpr (.inr AF));have p1:s1.heap.get? h=some ob:=p1;have p2:H1 h=none:=p2;have O:∀ b u,H1 b=some u→b≠h:=fun b u q=>bE q p2;refine⟨p2,⟨F.ok,F.os,F.bare,⟨F.base.keep,F.base.slot,fun b o q n U=>?_,F.base.there,fun b ys q=>?_,fun b o u q=>?_,fun b ps q=>?_⟩,F.loc,F.cell,?_,fun y c q=>?_,fun p J=>?_,fun b o q=>?_,F.len⟩⟩
 ·rw[aS fun z=>by have:=I.base.free b o q n U;rw[z,e]at this;cases this];exact F.base.free b o q n U
 ·have q:=F.base.tups b ys q;rw[aS (O b _ q)];exact q
 ·have q:=F.base.frzs b o u q;rw[aS (O b _ q)];exact q
 ·obtain⟨more,q⟩:=F.base.tbls b ps q;exact⟨more,by rw[aS (O b _ q)];exact q⟩
 ·rw[aS (CV p3)];exact F.free
 ·rw[aS fun z=>by
   obtain⟨v,o,e2,h2⟩:=F.cell y c q;rw[z,p1]at e2;cases e2;exact p5 _ h2]
  exact F.freeC y c q
 ·rcases Az.mp J with J | J
  ·obtain⟨a1,a2,a3⟩:=I.pin p (Az.mpr (.inl J));obtain⟨b1,b2,b3⟩:=F.pin p (Az.mpr (.inl J));exact⟨b1,by rw[aS fun z=>by rw[z,e]at a2;cases a2];exact b2,b3⟩
  ·obtain⟨a1,a2,a3⟩:=I.pin p (Az.mpr (.inr J));obtain⟨b1,b2,b3⟩:=F.pin p (Az.mpr (.inr (AK _ J)));exact⟨b1,by rw[aS fun z=>by rw[z,e]at a2;cases a2];exact b2,b3⟩
 ·by_cases W:b=h
  ·subst W;rw[aH]at q;cases q;exact⟨zl,its,n,rv,p1.trans eo⟩
  ·rw[aS W]at q;exact(F.hok b o q).stay (fun c v _ q=>q) (fun c q=>by rw[aS (O c _ q)];exact q) fun c ys q=>by rw[aS (O c _ q)];exact q
theorem aCu{e:Bf}{te:TE}(J:PE X e te):PE X e (fun σ H Q=>∃ h xs,H h=some (.lst xs)∧te σ (hid H h) fun v H1=>H1 h=none→Q v (upd H1 h (.lst xs))):=by
 constructor;intro fc s σ H Q I ⟨h,xs,e,q⟩;obtain⟨ob,ho,I1⟩:=I.hide e;refine A9 (J.run _ s σ _ _ I1 q) (fun v s1 ⟨y,H1,O,r,F⟩=>?_) fun _ _ z=>z;obtain⟨n,I3⟩:=I.unhide e ho O;exact⟨y,_,I3,r,F n⟩
end
end L2
namespace K06
open PySem L2
theorem nW{a b:Str}{X Y:Prop}(n:a≠b)(h:Y):if decide (V.str a=V.str b)=true then X else Y:=dH (fun g=>absurd (V.str.inj (Ie g)) n) fun _=>h
theorem yW{a:Str}{X Y:Prop}(h:X):if decide (V.str a=V.str a)=true then X else Y:=dH (fun _=>h) fun g=>absurd (Ic rfl) g
theorem zZ0:([]:List V).length≤sizeLine:=aM (show 0≤1000000 by decide)
theorem zZ1{a0:V}:[a0].length≤sizeLine:=aM (show 1≤1000000 by decide)
theorem zZ2{a0 a1:V}:[a0,a1].length≤sizeLine:=aM (show 2≤1000000 by decide)
theorem zZ3{a0 a1 a2:V}:[a0,a1,a2].length≤sizeLine:=aM (show 3≤1000000 by decide)
theorem zZ4{a0 a1 a2 a3:V}:[a0,a1,a2,a3].length≤sizeLine:=aM (show 4≤1000000 by decide)
theorem zZ5{a0 a1 a2 a3 a4:V}:[a0,a1,a2,a3,a4].length≤sizeLine:=aM (show 5≤1000000 by decide)
theorem zZ6{a0 a1 a2 a3 a4 a5:V}:[a0,a1,a2,a3,a4,a5].length≤sizeLine:=aM (show 6≤1000000 by decide)
theorem zZ7{a0 a1 a2 a3 a4 a5 a6:V}:[a0,a1,a2,a3,a4,a5,a6].length≤sizeLine:=aM (show 7≤1000000 by decide)
theorem zZ8{a0 a1 a2 a3 a4 a5 a6 a7:V}:[a0,a1,a2,a3,a4,a5,a6,a7].length≤sizeLine:=aM (show 8≤1000000 by decide)
theorem zZ9{a0 a1 a2 a3 a4 a5 a6 a7 a8:V}:[a0,a1,a2,a3,a4,a5,a6,a7,a8].length≤sizeLine:=aM (show 9≤1000000 by decide)
theorem aJS{a0 a1 a2 a3 a4 a5 a6 a7 a8 a9:V}:[a0,a1,a2,a3,a4,a5,a6,a7,a8,a9].length≤sizeLine:=aM (show 10≤1000000 by decide)
def Cl(P:Ay)(w:AV)(K:Ag)(mg:Str→Option Ac)(base:Ba)(k:Nat)(n:Str)(ps:List Str)(sp:Sp):Prop:=∃ f fd,b8 P w K mg base CX0 k f fd ps sp∧mg n=some (.ref f)∧Au K (.ref f)=true∧cZ K fd ps []
theorem bC{X:Cx}{k:Nat}{ps:List Str}{sp:Sp}{x:Str}{p pos:Pos}{e:Bf}{es:List Bf}{t:TA}(c:Cl X.prog X.w X.K X.mg X.base k x ps sp)(W:cQ k X.A)(ha:PA X (e::es) t)(U:Gl X x:=by rfl)(z:(x==("__debug__":Str))=false:=by decide)(O:starEach (e::es) X.env=(false,eval e X.env)::starEach es X.env:=by rfl)(J:(backTo pos (starEach es X.env)).any (·.1)=false:=by rfl):PE X (.Call (.Name x p) (e::es) [] pos) (aHv sp [] E0 t):=by
 obtain⟨f,fd,F,hm,hk,hb⟩:=c;exact cV F W U hm hk hb .nil fQ ha z O J
def top(i:Nat):B3:=PySem.Challenge.pw_dykelengths_k06_what_makes_no_roll.main.body.getD i (.Pass ⟨0,0,0,0⟩)
abbrev qV:B3:=top 17
abbrev pO:B3:=top 30
abbrev t7:B3:=top 31
abbrev qW:B3:=top 32
abbrev t8:B3:=top 33
abbrev kH:B3:=top 34
abbrev xV:B3:=top 35
abbrev mK:B3:=top 36
abbrev mQ:B3:=top 37
abbrev mS:B3:=top 38
abbrev pP:B3:=top 39
abbrev xW:B3:=top 40
abbrev pQ:B3:=top 41
abbrev pR:B3:=top 42
abbrev iV:B3:=top 43
abbrev iW:B3:=top 44
abbrev pS:B3:=top 45
abbrev mU:B3:=top 46
abbrev kJ:B3:=top 47
abbrev pT:B3:=top 48
abbrev aBv:B3:=top 50
abbrev lX:B3:=top 51
abbrev t9:B3:=top 52
abbrev xX:B3:=top 53
abbrev uA:B3:=top 54
abbrev aBw:B3:=top 55
abbrev pU:B3:=top 59
abbrev qX:B3:=top 60
abbrev lY:B3:=top 61
abbrev uB:B3:=top 62
abbrev xY:B3:=top 63
abbrev aIx:B3:=top 65
abbrev aCv:B3:=top 66
abbrev xZ:B3:=top 67
abbrev aBx:B3:=top 68
abbrev aCw:B3:=top 69
abbrev x8:B3:=top 70
abbrev aBy:B3:=top 71
abbrev aCx:B3:=top 72
abbrev x9:B3:=top 73
abbrev aIy:B3:=top 74
abbrev aBz:B3:=top 75
abbrev aFf:B3:=top 77
abbrev mV:B3:=top 76
abbrev qY:B3:=top 78
abbrev aBA:B3:=top 79
abbrev qO:B3:=top 80
def bW(z:Str):Bool:=decide (1≤z.length∧z.length≤8) && z.cps.toList.all fun c=>decide (97≤c∧c≤122)
def isL(c:Nat):Bool:=decide (97≤c∧c≤122)
def gO(i:Nat):Nat:=97 + i % 26
theorem yA(i:Nat):isL (gO i)=true:=by
 unfold isL gO;exact Ic (by omega)
abbrev abc:Str:=Bd "abcdefghijklmnopqrstuvwxyz"
theorem aFg:abc.cps.toList=FQ 97 26:=by decide
theorem aFh{i:Int}(z:0≤i)(h1:i < 26):atI abc.cps.toList i=some (gO i.toNat):=by
 obtain⟨j,rfl⟩:∃ j:Nat,i=j:=⟨i.toNat,by omega⟩
 unfold atI ixN;rw[aFg,Ib z,Ib (by simpa using h1)];simp only[BG,Option.bind_some];rw[List.getElem?_range' (by omega)];unfold gO;congr 1;omega
theorem aGJ:abc.length=26:=by decide
def mk(l:List Nat):Str:=⟨l.toArray⟩
theorem yB{a b:List Nat}(h:mk a=mk b):a=b:=by
 have:=congrArg (fun z:Str=>z.cps.toList) h;simpa[mk]using this
theorem jS(l:List Nat):(mk l).length=l.length:=by
 show l.toArray.size=_;simp
theorem uC(a b:List Nat):mk a ++ mk b=mk (a ++ b):=by
 show(⟨a.toArray ++ b.toArray⟩:Str)=_;simp[mk]
def pV(t k:Nat):List Nat:=[gO (t + 7 * k),gO (t + k / 26)]
def bij:Nat→Nat→List Nat
 | 0,_=>[]
 | f + 1,n=>if n=0 then[] else bij f ((n - 1) / 2) ++ [n % 2]
def bin(t n:Nat):List Nat:=(bij 6 n).map fun d=>gO (t + 9 * d)
theorem aGK:∀ t < 26,((AL 44).map (pV t)).Nodup:=by decide
theorem aIz:∀ t < 26,((AL 44).map fun k=>bin t (k + 1)).Nodup:=by decide
theorem aGL:∀ k < 44,1≤(bij 6 (k + 1)).length∧(bij 6 (k + 1)).length≤8:=by decide
def word(one:Bool)(b:List Nat)(sp t k:Nat):List Nat:=if one then bin t (k + 1) else b.take sp ++ pV t k ++ b.drop sp
theorem aIA{α:Type}{f:Nat→α}{n m:Nat}(h:((AL n).map f).Nodup)(hm:m≤n):((AL m).map f).Nodup:=by
 obtain⟨d,rfl⟩:∃ d,n=m + d:=⟨n - m,by omega⟩
 rw[List.range_add,AS]at h;exact(Dd.mp h).1
theorem aFi{α β:Type}{f:α→β}(F:∀ a b,f a=f b→a=b){l:List α}(h:l.Nodup):(l.map f).Nodup:=by
 rw[List.nodup_iff_pairwise_ne]at h ⊢;exact BR.mpr (h.imp fun z e=>z (F _ _ e))
theorem aGM{one:Bool}{b:List Nat}{sp t m:Nat}(ht:t < 26)(hm:m≤44):((AL m).map fun k=>mk (word one b sp t k)).Nodup:=by
 refine aIA (n:=44) ?_ hm;have e:((AL 44).map fun k=>mk (word one b sp t k))=((AL 44).map (word one b sp t)).map mk:=by rw[Cn];rfl
 rw[e];refine aFi (fun _ _ h=>yB h) ?_;cases one with
 | true=>exact aIz t ht
 | false=>
  have z:(AL 44).map (word false b sp t)=((AL 44).map (pV t)).map fun q=>b.take sp ++ q ++ b.drop sp:=by rw[Cn];rfl
  rw[z];refine aFi (fun x y h=>?_) (aGK t ht);exact List.append_cancel_left (List.append_cancel_right h)
theorem aAk{l:List Nat}(h1:1≤l.length)(z:l.length≤8)(ha:∀ c∈l,isL c=true):bW (mk l)=true:=by
 unfold bW;rw[jS,Ic ⟨h1,z⟩,A7];have e:(mk l).cps.toList=l:=by simp[mk]
 rw[e,Bg];exact ha
theorem dA{z:Str}(h:bW z=true):1≤z.length∧z.length≤8:=by
 unfold bW at h;rw[AX]at h;exact Ie h.1
theorem aDF{one:Bool}{b:List Nat}{sp t k:Nat}(F:k < 44)(O:b.length≤6)(ha:∀ c∈b,isL c=true):bW (mk (word one b sp t k))=true:=by
 cases one with
 | true=>
  have h:=aGL k F;refine aAk (by show 1≤(bin t (k + 1)).length;unfold bin;rw[Ab];omega) (by show(bin t (k + 1)).length≤8;unfold bin;rw[Ab];omega) (fun c hc=>?_);have z:c∈bin t (k + 1):=hc;unfold bin at z;obtain⟨d,_,rfl⟩:=Bb.mp z;exact yA _
 | false=>
  have J:(word false b sp t k).length=b.length + 2:=by
   show(b.take sp ++ pV t k ++ b.drop sp).length=_;rw[Ak,Ak,Am,AZ];show min sp b.length + 2 + (b.length - sp)=_;omega
  refine aAk (by omega) (by omega) (fun c hc=>?_);have z:c∈b.take sp ++ pV t k ++ b.drop sp:=hc;rcases Az.mp z with h | h
  ·rcases Az.mp h with h | h
   ·exact ha c (Bv h)
   ·unfold pV at h;simp only[Al,AA,or_false]at h;rcases h with rfl | rfl
    ·exact yA _
    ·exact yA _
  ·exact ha c (Dn h)
theorem aFj{α:Type}{x:α}:∀{l:List α}{j:Nat},l.Nodup→x ∉ l→(l.set j x).Nodup
 | [],_,_,_=>by simp
 | y :: r,0,h,F=>by
  rw[List.set_cons_zero,CP]at *;exact⟨fun z=>F (AK _ z),h.2⟩
 | y :: r,j + 1,h,F=>by
  rw[List.set_cons_succ];rw[CP]at *;refine⟨fun z=>?_,aFj h.2 fun z=>F (AK _ z)⟩;rcases Ez z with z | z
  ·exact h.1 z
  ·exact F (z ▸ AF)
def lZ:List Str:=["as","with","part","field","none","done","write","back","join"]
theorem aBB:∀ z∈lZ,bW z=true:=by decide
theorem gX:∀ ns:List Str,(ns.map V.str).all hV=true
 | []=>rfl
 | _ :: r=>by simpa[hV]using gX r
theorem qZ(z:Str):∀ ns:List Str,inV (.str z) (ns.map V.str)=decide (z∈ns):=by
 intro ns;unfold inV;rw[List.any_map];rw[Cq,DZ,decide_eq_true_iff];constructor
 ·rintro⟨y,hy,e⟩;have:y=z:=by simpa[eqV]using e
  exact this ▸ hy
 ·intro h;exact⟨z,h,by simp[eqV]⟩
abbrev gP:Key:=Aw ("cells":Str)
abbrev kAt:Key:=Aw ("at":Str)
abbrev jJ:Key:=Aw ("left":Str)
def iF(c:Ah)(a l:Int):List (Key×V):=[(gP,.ref c),(kAt,.int a),(jJ,.int l)]
theorem aIB:¬ (gP=kAt):=by decide
theorem aIC:¬ (gP=jJ):=by decide
theorem aGN:¬ (kAt=jJ):=by decide
theorem aKB:¬ (jJ=kAt):=fun e=>aGN e.symm
theorem aDG(c:Ah)(a l:Int):fJ (iF c a l) gP=some (.ref c):=by
 unfold iF;rw[jW rfl]
theorem aID(c:Ah)(a l:Int):fJ (iF c a l) kAt=some (.int a):=by
 unfold iF;rw[dS aIB,jW rfl]
theorem aFk(c:Ah)(a l:Int):fJ (iF c a l) jJ=some (.int l):=by
 unfold iF;rw[dS aIC,dS aGN,jW rfl]
theorem aIE(c:Ah)(a l z:Int):f8 (iF c a l) kAt (.int z)=iF c z l:=by
 unfold f8 iF;rw[Ib (by rw[DZ];exact⟨(kAt,.int a),by simp,Ic rfl⟩)];simp only[A3,Dt,Ia aIB,Ia aKB,Ib]
theorem aFl(c:Ah)(a l z:Int):f8 (iF c a l) jJ (.int z)=iF c a z:=by
 unfold f8 iF;rw[Ib (by rw[DZ];exact⟨(jJ,.int l),by simp,Ic rfl⟩)];simp only[A3,Dt,Ia aIC,Ia aGN,Ib]
theorem aIF{H:Hp}{p c:Ah}{a l:Int}(h:H p=some (.dK (iF c a l))):rZ H p (.str "left") (some (.int l)):=by
 have:=rZ.k (k:=jJ) h;rw[aFk]at this;exact this
theorem aKC{H:Hp}{p c:Ah}{a l:Int}(h:H p=some (.dK (iF c a l))):rZ H p (.str "at") (some (.int a)):=by
 have:=rZ.k (k:=kAt) h;rw[aID]at this;exact this
theorem aKD{H:Hp}{p c:Ah}{a l:Int}(h:H p=some (.dK (iF c a l))):rZ H p (.str "cells") (some (.ref c)):=by
 have:=rZ.k (k:=gP) h;rw[aDG]at this;exact this
theorem aJT{H:Hp}{p c:Ah}{a l:Int}(z:Int)(h:H p=some (.dK (iF c a l))):zC H p (.str "left") (.int z) (upd H p (.dK (iF c a z))):=by
 have:=zC.k (k:=jJ) (v:=.int z) h (jX (by show 3≤1000;decide));rw[aFl]at this;exact this
theorem aKE{H:Hp}{p c:Ah}{a l:Int}(z:Int)(h:H p=some (.dK (iF c a l))):zC H p (.str "at") (.int z) (upd H p (.dK (iF c z l))):=by
 have:=zC.k (k:=kAt) (v:=.int z) h (jX (by show 3≤1000;decide));rw[aIE]at this;exact this
structure cJ(H:Hp)(p c:Ah)(ns:List Int)(a:Int):Prop where
 ob:∃ l,0≤l∧H p=some (.dK (iF c a l))
 ce:H c=some (.lst (ns.map V.int))
 ge:0≤a
 sm:ns.length≤63
theorem cJ.same{H H':Hp}{p c:Ah}{ns:List Int}{a:Int}(x:cJ H p c ns a)(h:aY H H'):cJ H' p c ns a:=by
 obtain⟨⟨l,hl,e⟩,ce,ge,sm⟩:=x;exact⟨⟨l,hl,h _ _ e⟩,h _ _ ce,ge,sm⟩
theorem cJ.ne{H:Hp}{p c:Ah}{ns:List Int}{a:Int}(x:cJ H p c ns a):c≠p:=by
 obtain⟨⟨l,hl,e⟩,ce,_,_⟩:=x;exact aD6 ce e (by intro z;cases z)
inductive aCy(K:Ag)(vs:List V)(H:Hp)(Q:VK)(u3_:XK):Prop
 | mk (a:Ah) (ns:List Int) (q0:vs=[.ref a]) (q1:SqL K H a (ns.map V.int)) (q2:ns.length≤63) (q3:∀ p c H',cJ H' p c ns 0→aY H H'→H p=none→Q (.ref p) H'):aCy K vs H Q u3_
def aHI(K:Ag):Sp:=fun vs H Q u3_=>aCy K vs H Q u3_
inductive aAl(vs:List V)(H:Hp)(Q:VK)(u3_:XK):Prop
 | mk (p c:Ah) (ns:List Int) (a m:Int) (q0:vs=[.ref p,.int m]) (q1:cJ H p c ns a) (q2:a≤1000000) (q3:0 < m) (q4:m < 2 ^ 512) (q5:∀ r a' H',0≤r→r < m→a≤a'→a'≤a + 1→cJ H' p c ns a'→aQ p H H'→Q (.int r) H'):aAl vs H Q u3_
def gQ:Sp:=fun vs H Q u3_=>aAl vs H Q u3_
variable{P:Ay}{w:AV}{K:Ag}{mg:Str→Option Ac}{base:Ba}
theorem aJU:bU ["_law_script"] ["_law_script"] (aO aIx):=⟨rfl,rfl,rfl,by decide,rfl,by decide,by decide⟩
theorem aJV(ns:List Int)(h:ns.length≤63):dQ (ns.map V.int) none (some 63)=ns.map V.int:=by
 have e:HT.sIx (ns.map V.int).length (ns.map V.int).length (some 63)=(ns.map V.int).length:=by
  have:=HT.sIx_nat (ns.map V.int).length (ns.map V.int).length 63;rw[Ab]at this ⊢;refine Eq.trans this ?_;omega
 unfold dQ;rw[e,HT.sIx_none,Eu,Gx,B8]
theorem aIG{f:Ah}{fd:AH}(F:Fun K "_law_pen" "_law_pen" aIx f fd)(J:mg "list"=none):b8 P w K mg base CX0 1 f fd ["_law_script"] (aHI K):=by
 refine F.ok aJU (fun vs H Q E h=>?_) (fun af A outer s H vs Q E hr h=>?_)
 ·obtain⟨a,ns,rfl,_⟩:=h;rfl
 ·obtain⟨a,ns,rfl,hS,hn,k⟩:=h;refine⟨_,aN (aV (xG (lN aT (cY gH (by rfl) J (by kernel_rfl) (gF (cB fG (pv 0) cN (cO aI)) aF)) (lN aT aI (lN aT aI xF))) rfl rfl (by simp) (by decide))),?_⟩;intro p Y;refine⟨_,rfl,_,rfl,_,_,rfl,(aK Y).seq hS,fun q hq=>?_⟩;rw[aJV ns hn];refine⟨q,_,rfl,.inl (aU aH),fun c hc=>?_⟩;have O:q≠p:=(bE aH hq).symm;have W:c≠p:=(bE (show upd (upd H p (HO.dK [])) q (.lst (ns.map V.int)) p=some (HO.dK []) by rw[aS O.symm,aH]) hc).symm;refine⟨by rw[aS W.symm,aS O.symm,aH],[(gP,.ref c),(kAt,.int 0),(jJ,.int 0)],rfl,by show 3≤15;decide,?_⟩;have em:gJ [] [(gP,V.ref c),(kAt,.int 0),(jJ,.int 0)]=iF c 0 0:=by
   have e1:f8 ([]:List (Key×V)) gP (.ref c)=[(gP,.ref c)]:=by rw[rX _ rV];rfl
   have e2:f8 [(gP,V.ref c)] kAt (.int 0)=[(gP,.ref c),(kAt,.int 0)]:=by rw[rX _ (by rw[dS aIB,rV])];rfl
   have e3:f8 [(gP,V.ref c),(kAt,.int 0)] jJ (.int 0)=[(gP,.ref c),(kAt,.int 0),(jJ,.int 0)]:=by rw[rX _ (by rw[dS aIC,dS aGN,rV])];rfl
   show f8 (f8 (f8 [] gP (.ref c)) kAt (.int 0)) jJ (.int 0)=_;rw[e1,e2,e3];rfl
  rw[em];refine k p c _ ⟨⟨0,Eb _,aH⟩,by rw[aS W,aH],Eb _,hn⟩ (fun b o e=>?_) Y;have z:b≠p:=bE e Y;have U:b≠q:=bE (show upd H p (HO.dK []) b=some o by rw[aS z];exact e) hq;have Z:b≠c:=bE (show upd (upd H p (HO.dK [])) q (.lst (ns.map V.int)) b=some o by rw[aS U,aS z];exact e) hc;rw[aS z,aS Z,aS U,aS z];exact e
theorem l0:bU ["_law_pen_here","_law_many","_law_found","_law_at","_law_cells","_law_cell","_law_one","_law_two"] ["_law_pen_here","_law_many"] (aO aCv):=⟨rfl,rfl,rfl,by decide,rfl,by decide,by decide⟩
theorem aJW{c a b:Int}(hc:0≤c)(h:0≤a)(h2:a≤b):0≤c * a * a∧c * a * a≤c * b * b:=by
 have h1:0≤c * a:=Gk hc h;have z:c * a≤c * b:=Int.mul_le_mul_of_nonneg_left h2 hc;exact⟨Gk h1 h,Int.mul_le_mul z h2 h (Gk hc (Int.le_trans h h2))⟩
theorem aKF(x:Int){a:Int}(h:0≤a)(h2:a≤1000000):Int.natAbs (x % (2147483629:Int) + (1213:Int) * a * a + (3:Int)) < 2 ^ 64:=by
 obtain⟨b1,b2⟩:=aJW (c:=(1213:Int)) (a:=a) (b:=1000000) (by decide) h h2;have z:=CS x (show(2147483629:Int)≠0 by decide);have F:=CM x (show 0 < (2147483629:Int) by decide);omega
theorem aKG{x:Int}:-(2 ^ 64) < x % (2147483543:Int)∧x % (2147483543:Int) < 2 ^ 64:=by
 have z:=CS x (show(2147483543:Int)≠0 by decide);have F:=CM x (show 0 < (2147483543:Int) by decide);omega
theorem aGO{f:Ah}{fd:AH}(F:Fun K "_law_take" "_law_take" aCv f fd)(ac:mg "len"=none)(Y:mg "abs"=none):b8 P w K mg base CX0 1 f fd ["_law_pen_here","_law_many"] gQ:=by
 refine F.ok l0 (fun vs H Q E h=>?_) (fun aj A outer s H vs Q E hr h=>?_)
 ·obtain⟨p,c,ns,a,m,rfl,_⟩:=h;rfl
 ·obtain⟨p,c,ns,a,m,rfl,hp,ha,hm,hm2,k⟩:=h;have hu:=aHy hr;have am:(A.deeper (PyProof.Rows.envOfC "_law_take" (aO aCv) s.heap.objs.size f aj)).units < cLine:=by omega
  refine⟨_,aJ (cI (bK aEe (n8 hu (pv 0) aT Ig) aI (bX _))
    (aJ (aZ (i:=2) l0.nd rfl (AE rfl) (aX f7 (n8 hu (pv 0) aT Ig) (pv 1)))
    (aJ (xE hu (pv 0) aT (aX sO (n8 hu (pv 0) aT Ig) (pv 1)) rfl)
    (aN (aV (pv 2))))) bH)
   (aJ (aZ (i:=3) l0.nd rfl (AE rfl) (n8 hu (pv 0) aT Ig))
   (aJ (xE hu (pv 0) aT (aX dF (pv 3) aI) rfl)
   (aJ (aZ (i:=4) l0.nd rfl (AE rfl) (n8 hu (pv 0) aT Ig))
   (aJ (aZ (i:=5) l0.nd rfl (AE rfl) (aX dF (aX dF (aX kY (aX kY aI (pv 3)) (pv 3)) (aX kY aI (pv 3))) aI))
   (aJ (pJ <| cI (bK (aEB am) (pv 4) (cW aF) (bX _))
    (aN (aZ (i:=5) l0.nd rfl (AE rfl) (bZ cH (pv 4) (aX f7 (pv 3) (aP aW (by rfl) ac AI (gF (pv 4) aF))) Ig))) bH)
   (aJ (pJ <| cI (lH (bK aEd (pv 3) (aP aW (by rfl) ac AI (gF (pv 4) aF)) (bX _))
     (jA (bK aJo (aP rO (by rfl) Y (by kernel_rfl) (gF (pv 5) aF)) (aX iC aI aI) (bX _)))).pt
    (aJ (xE hu (pv 0) aT (aX sO (aP rO (by rfl) Y (by kernel_rfl) (gF (pv 5) aF)) (pv 1)) rfl)
    (aN (aV (aX f7 (aP rO (by rfl) Y (by kernel_rfl) (gF (pv 5) aF)) (pv 1))))) bH)
   (aJ (aZ (i:=6) l0.nd rfl (AE rfl) (aX f7 (aX iC (aX dF (aX dF (aX f7 (pv 5) aI) (aX kY aI (pv 3))) aI) aI) aI))
   (aJ (aZ (i:=7) l0.nd rfl (AE rfl) (aX f7 (aX iC (aX dF (aX dF (pv 6) (aX kY (aX kY aI (pv 3)) (pv 3))) aI) aI) aI))
   (aN (aV (aX f7 (aX sO (aX f7 (aX kY (pv 7) (aX dF (aX f7 (pv 6) aI) aI)) aI) aI) (pv 1)))))))))))),?_⟩
  obtain⟨⟨l,hl0,hob⟩,hce,hge,hsm⟩:=id hp;have ae:=hp.ne;refine⟨_,rfl,p,_,rfl,aIF hob,_,_,rfl,rfl,_,rfl,dH (fun h0=>?_) (fun h0=>?_)⟩
  ·exact⟨_,rfl,p,_,rfl,aIF hob,_,rfl,_,_,rfl,rfl,hm,_,rfl,p,_,rfl,aIF hob,_,rfl,_,_,rfl,rfl,vY.of hm hm2,_,rfl,p,_,rfl,aJT _ hob,_,rfl,k (l % m) a _ (CS _ (by omega)) (CM _ hm) (Eb _) (by omega) ⟨⟨l / m,Int.ediv_nonneg hl0 (by omega),aH⟩,by rw[aS ae];exact hce,hge,hsm⟩ (aQ.refl p H).upd⟩
  ·refine⟨_,rfl,p,_,rfl,aKC hob,_,rfl,_,_,rfl,rfl,_,rfl,p,_,rfl,aKE _ hob,_,rfl,p,_,rfl,aKD aH,_,rfl,_,_,rfl,rfl,.inl (by decide),_,rfl,_,_,rfl,rfl,.inr (by omega),_,rfl,_,_,rfl,rfl,.inl (by decide),_,_,rfl,rfl,_,_,rfl,rfl,?_⟩;have U:aQ p H (upd H p (.dK (iF c (a + 1) l))):=(aQ.refl p H).upd;have O:(upd H p (.dK (iF c (a + 1) l))) c=some (.lst (ns.map V.int)):=by rw[aS ae];exact hce
   refine⟨fun σ' H'=>∃ J:Int,σ'=[some (.ref p),some (.int m),none,some (.int a),some (.ref c),some (.int J),none,none]∧aQ p H H'∧H' p=some (.dK (iF c (a + 1) l))∧H' c=some (.lst (ns.map V.int)),?_,?_⟩
   ·refine⟨_,rfl,Bo _,fun q hq=>?_⟩;have Z:=aK (o:=.lst []) hq;refine⟨c,q,ns.map V.int,[],rfl,rfl,aU (Z _ _ O),aU aH,vZ ns,rfl,_,rfl,dH (fun af=>?_) (fun af=>?_)⟩
    ·have an:0 < ns.length:=by
      cases ns with
      | nil=>exact absurd af (by simp[vB])
      | cons x r=>simp
     have ai:(a % (ns.length:Int)).toNat < ns.length:=by
      have h1:=CM a (show(0:Int) < ns.length by omega);have h2:=CS a (show(ns.length:Int)≠0 by omega);omega
     have ak:atI (ns.map V.int) (a % (ns.length:Int))=some (.int (ns[(a % (ns.length:Int)).toNat])):=by
      have h2:=CS a (show(ns.length:Int)≠0 by omega);have e:=bS (xs:=ns.map V.int) (j:=(a % (ns.length:Int)).toNat) (v:=.int (ns[(a % (ns.length:Int)).toNat])) (by rw[AC,Af ai];rfl);rw[Em h2]at e;exact e
     have ag:atI (ns.map V.int) (a % ((ns.map V.int).length:Int))=some (.int (ns[(a % (ns.length:Int)).toNat])):=by
      rw[Ab];exact ak
     exact⟨_,rfl,_,rfl,_,rfl,c,_,rfl,.inl (aU (Z _ _ O)),_,_,rfl,rfl,(by rw[Ab];omega),c,_,_,_,rfl,rfl,aU (Z _ _ O),ag,_,rfl,U.same Z,Z _ _ aH,Z _ _ O⟩
    ·exact⟨_,rfl,U.same Z,Z _ _ aH,Z _ _ O⟩
   ·rintro σ' H' ⟨J,rfl,kp,W,z⟩;refine⟨fun σ' H'=>∃ J:Int,σ'=[some (.ref p),some (.int m),none,some (.int a),some (.ref c),some (.int J),none,none]∧aQ p H H'∧H' p=some (.dK (iF c (a + 1) l))∧H' c=some (.lst (ns.map V.int)),?_,?_⟩
    ·refine⟨_,rfl,_,rfl,c,_,rfl,.inl (aU z),_,_,rfl,rfl,_,rfl,dH (fun h1=>?_) (fun h1=>?_)⟩
     ·refine⟨_,rfl,_,rfl,_,_,rfl,rfl,⟨by decide,by decide,by decide⟩,_,_,rfl,rfl,_,rfl,dH (fun h2=>?_) (fun h2=>?_)⟩
      ·refine⟨_,rfl,_,rfl,_,rfl,_,_,rfl,rfl,vY.of hm hm2,_,rfl,p,_,rfl,aJT _ W,_,rfl,_,rfl,_,rfl,_,_,rfl,rfl,hm,?_⟩;have ad:0≤(if J < 0 then -J else J):=by split <;> omega
       exact k _ (a + 1) _ (CS _ (by omega)) (CM _ hm) (by omega) (Eb _) ⟨⟨_,Int.ediv_nonneg ad (by omega),aH⟩,by rw[aS ae];exact z,by omega,hsm⟩ kp.upd
      ·exact⟨J,rfl,kp,W,z⟩
     ·exact c7 ⟨J,rfl,kp,W,z⟩
    ·rintro σ' H' ⟨J,rfl,kp,W,z⟩;refine⟨_,rfl,_,_,rfl,rfl,(by show(0:Int) < _;decide),_,rfl,_,_,rfl,rfl,.inl (by decide),_,_,rfl,rfl,_,_,rfl,rfl,_,_,rfl,rfl,⟨by decide,by decide,?_⟩,_,_,rfl,rfl,(by show(0:Int) < _;decide),?_⟩
     ·have e1:=CS J (show(2147483587:Int)≠0 by decide);have e2:=CM J (show 0 < (2147483587:Int) by decide);show Int.natAbs (J % (2147483587:Int) + (45007:Int) * a + (11:Int)) < 2 ^ 64;omega
     ·exact⟨_,rfl,_,rfl,_,_,rfl,rfl,.inl (by decide),_,rfl,_,_,rfl,rfl,.inr (by omega),_,_,rfl,rfl,_,_,rfl,rfl,_,_,rfl,rfl,⟨by decide,by decide,aKF _ hge ha⟩,_,_,rfl,rfl,(by show(0:Int) < _;decide),_,rfl,_,rfl,_,_,rfl,rfl,(by show(0:Int) < _;decide),_,_,rfl,rfl,_,_,rfl,rfl,.inl aKG,_,_,rfl,rfl,(by show(0:Int) < _;decide),_,_,rfl,rfl,vY.of (by decide) (by decide),_,rfl,_,_,rfl,rfl,hm,k _ (a + 1) _ (CS _ (by omega)) (CM _ hm) (by omega) (Eb _) ⟨⟨l,hl0,W⟩,z,by omega,hsm⟩ kp⟩
inductive aHJ(ws:List Str):Prop
 | mk (c1 c2:Nat) (q0:∀ x y z:Nat,mk [x,y,z]∈ws→z=c1∨z=c2):aHJ ws
def Thr(ws:List Str):Prop:=aHJ ws
theorem aFm:∀(f n d:Nat),d∈bij f n→d < 2
 | 0,_,_,h=>by simp[bij]at h
 | f + 1,n,d,h=>by
  unfold bij at h;split at h
  ·simp at h
  ·rcases Az.mp h with h | h
   ·exact aFm f _ d h
   ·rw[A6.mp h];exact Hk _ (by decide)
theorem aDH{one:Bool}{b:List Nat}{sp t m:Nat}(hm:m≤44):Thr ((AL m).map fun k=>mk (word one b sp t k)):=by
 cases one with
 | true=>
  refine⟨gO (t + 9 * 0),gO (t + 9 * 1),fun x y z h=>?_⟩;obtain⟨k,_,e⟩:=Bb.mp h;have e:=yB e;have hz:z∈word true b sp t k:=by rw[e];simp
  obtain⟨d,hd,rfl⟩:=Bb.mp (show z∈(bij 6 (k + 1)).map _ from hz);have:=aFm _ _ _ hd
  match d,this with
  | 0,_=>exact .inl rfl
  | 1,_=>exact .inr rfl
 | false=>
  by_cases J:sp=0
  ·subst J;refine⟨b.getD 0 0,b.getD 0 0,fun x y z h=>?_⟩;obtain⟨k,_,e⟩:=Bb.mp h;have e:pV t k ++ b.drop 0=[x,y,z]:=yB e;unfold pV at e
   match b,e with
   | [],e=>simp at e
   | [c],e=>simp at e;exact .inl e.2.2.symm
   | _ :: _ :: _,e=>simp at e
  ·refine⟨gO (t + 0),gO (t + 1),fun x y z h=>?_⟩;obtain⟨k,F,e⟩:=Bb.mp h;have F:=Bt.mp F;have e:b.take sp ++ pV t k ++ b.drop sp=[x,y,z]:=yB e;have O:=congrArg EB e;simp only[Ak,Am,AZ,pV,AM,By]at O;have U:b.length=1:=by omega
   obtain⟨n,rfl⟩:∃ n,sp=n + 1:=⟨sp - 1,by omega⟩
   match b,U with
   | [c],_=>
    simp[pV]at e;rw[← e.2.2];have:k / 26=0∨k / 26=1:=by omega
    rcases this with h | h <;> rw[h]
    ·exact .inl rfl
    ·exact .inr rfl
theorem aFn{F:List Str}(h:Thr F)(n:Nat):Thr (F.take n):=by
 obtain⟨c1,c2,h⟩:=h;exact⟨c1,c2,fun x y z m=>h x y z (Bv m)⟩
theorem aGP{J:List Str}(h:Thr J){i:Nat}{s:Str}(F:s.length≠3):Thr (J.set i s):=by
 obtain⟨c1,c2,h⟩:=h;refine⟨c1,c2,fun x y z m=>?_⟩;rcases Ez m with m | m
 ·exact h x y z m
 ·rw[← m,jS]at F;exact absurd rfl F
theorem aAm:∀ z∈lZ,z.length≠3:=by decide
structure Nms(ws:List Str):Prop where
 nd:ws.Nodup
 ok:∀ w∈ws,bW w=true
 thr:Thr ws
theorem Nms.take{z:List Str}(h:Nms z)(n:Nat):Nms (z.take n):=⟨h.nd.sublist (Fx n z),fun w hw=>h.ok w (Bv hw),aFn h.thr n⟩
inductive wD(vs:List V)(H:Hp)(Q:VK)(u3_:XK):Prop
 | mk (p c:Ah) (ns:List Int) (a:Int) (m:Nat) (q0:vs=[.ref p,.int m]) (q1:cJ H p c ns a) (q2:a≤900000) (q3:m≤44) (q4:∀ l ws a' H',H l=none→H' l=some (.lst (ws.map V.str))→ws.length=m→Nms ws→a≤a'→a'≤a + 30→cJ H' p c ns a'→aQ p H H'→Q (.ref l) H'):wD vs H Q u3_
def aCz:Sp:=fun vs H Q u3_=>wD vs H Q u3_
theorem nU(l:List Nat):∀(m s:Nat),(FQ s m).filterMap (fun j=>l.toArray[j]?)=(l.drop s).take m
 | 0,s=>by simp
 | m + 1,s=>by
  rw[List.range'_succ,Eh];have z:=nU l m (s + 1);by_cases h:s < l.length
  ·have e:l.toArray[s]?=some l[s]:=by simp[h]
   rw[e];dsimp only;rw[z,List.drop_eq_getElem_cons h,List.take_succ_cons]
  ·have e:l.toArray[s]?=none:=by simp;omega
   rw[e];dsimp only;rw[z,DP (by omega),DP (by omega)];simp
theorem aGQ:∀ n:Nat,n < 7→∀ s:Nat,s < 7→s≤n→Builtin.Str.strSliceIndices none (some (s:Int)) 1 n=FQ 0 s:=by decide
theorem aDI:∀ n:Nat,n < 7→∀ s:Nat,s < 7→s≤n→Builtin.Str.strSliceIndices (some (s:Int)) none 1 n=FQ s (n - s):=by decide
theorem aJX{b:List Nat}{s:Nat}(F:b.length≤6)(z:s≤b.length):D0 (mk b) none (some (s:Int))=mk (b.take s):=by
 unfold D0;rw[jS,aGQ _ (by omega) _ (by omega) z];split
 ·next h=>
  simp at h;rw[h,B8]
 ·have e:=nU b s 0;rw[Eu]at e;exact congrArg mk e
theorem aGR{b:List Nat}{s:Nat}(J:b.length≤6)(z:s≤b.length):D0 (mk b) (some (s:Int)) none=mk (b.drop s):=by
 unfold D0;rw[jS,aDI _ (by omega) _ (by omega) z];split
 ·next h=>
  simp at h;have:s=0∨b.length=0:=by omega
  rcases this with rfl | F
  ·rfl
  ·rw[List.length_eq_zero_iff.mp F];simp
 ·have e:=nU b (b.length - s) s;rw[show(b.drop s).take (b.length - s)=b.drop s from BE (by rw[AZ];exact Ap _)]at e;exact congrArg mk e
theorem aDJ(bs:List Nat):∀ z:Array Nat,(bs.map fun c=>mk [c]).foldl (fun(z:Array Nat) (p:Str)=>z ++ (Bd "").cps ++ p.cps) z=z ++ bs.toArray:=by
 have F:(Bd "").cps=#[]:=by decide
 induction bs with
 | nil=>intro z;simp
 | cons x r J=>
  intro z;rw[A3,List.foldl_cons,J,F];simp[mk]
theorem aGS(bs:List Nat):Txt.join "" (bs.map fun c=>mk [c])=mk bs:=by
 show Builtin.Str.glued _ _=_;unfold Builtin.Str.glued;cases bs with
 | nil=>rfl
 | cons x r=>
  have:=aDJ r #[x];simp only[A3,List.headD_cons,List.drop_succ_cons,Eu];show(⟨List.foldl _ _ _⟩:Str)=_;rw[show(mk [x]).cps=#[x] from rfl];rw[this];simp[mk]
theorem yC(x:Nat){j:Int}(F:j=(x:Int) % 26):atI abc.cps.toList j=some (gO x):=by
 have z:0≤j:=by omega
 have h1:j < 26:=by omega
 rw[aFh z h1];unfold gO;congr 1;omega
theorem aFo(f n:Nat)(h:n≠0):bij (f + 1) n=bij f ((n - 1) / 2) ++ [n % 2]:=by
 show(if n=0 then[] else _)=_;rw[Ia h]
theorem eM:bU ["_law_pen_here","_law_many","_law_letters","_law_way","_law_turn","_law_k","_law_base","_law_spot","_law_found","_law_word","_law_rest","_law_terms"] ["_law_pen_here","_law_many"] (aO xZ):=⟨rfl,rfl,rfl,by decide,rfl,by decide,by decide⟩
theorem aGT{z:List Str}(h:∀ w∈z,w.length=1):(z.map (·.length)).sum=z.length:=by
 induction z with
 | nil=>rfl
 | cons x r F=>
  rw[A3,Gn,F fun w hw=>h w (AK _ hw),h x AF,AM];omega
theorem aFp{f:Ah}{fd:AH}(F:Fun K "_law_names" "_law_names" xZ f fd)(bt:mg "len"=none)(aj:mg "range"=none)(bd:mg "min"=none)
  (GT:Cl P w K mg base 1 "_law_take" ["_law_pen_here","_law_many"] gQ):
  b8 P w K mg base CX0 2 f fd ["_law_pen_here","_law_many"] aCz:=by
 refine F.ok eM (fun vs H Q E h=>?_) (fun du A outer s H vs Q E hr h=>?_)
 ·obtain⟨p,c,ns,a,m,rfl,_⟩:=h;rfl
 ·obtain⟨p,c,ns,a,m,rfl,hp,ha,hm,k⟩:=h;refine⟨_,aJ (aZ (i:=2) eM.nd rfl (Ei rfl) aT)
   (aJ (aZ (i:=3) eM.nd rfl (AE rfl) (bC GT hr (aG (pv 0) (aG aI aF))))
   (aJ (aZ (i:=4) eM.nd rfl (AE rfl) (bC GT hr (aG (pv 0) (aG aI aF))))
   (aJ (aZ (i:=6) eM.nd rfl (AE rfl) (lM PySem.F.plainAttrs_str PySem.F.slot_str_join PySem.F.type_str_join aGx aT (aG (fU (N:=["_law_k","_law_letters","_law_pen_here"]) (src:=[none,some 2,some 0]) (osc:=aO xZ) (oN:=["_law_pen_here","_law_many","_law_letters","_law_way","_law_turn","_law_k","_law_base","_law_spot","_law_found","_law_word","_law_rest","_law_terms"]) ⟨by rfl,by decide,by decide,by decide,rfl,by rfl⟩
      (fE rfl aj (aG (bZ cH (cW (aG (bC GT hr (aG (pv 0) (aG aI aF))) (aG aI (aG aI aF)))) (pv 3) Ig) aF))
      fun cl s H fp fc C=>⟨bJ (i:=0) (show(["_law_k","_law_letters","_law_pen_here"]:List Str).Nodup by decide) rfl (AE rfl),dY,bZ pC (pv 1) (bC GT hr (aG (pv 2) (aG aI aF))) Ig⟩) aF)))
   (aJ (aZ (i:=7) eM.nd rfl (AE rfl) (bC GT hr (aG (pv 0) (aG (aX dF (aP n6 (by rfl) bt AI (aG (pv 6) aF)) aI) aF))))
   (aJ (aZ (i:=8) eM.nd rfl (AE rfl) (cW aF))
   (aJ (jP Cv rfl (fE rfl aj (aG (pv 1) aF)) (bJ (i:=5) eM.nd rfl (AE rfl))
    (aJ (aZ (i:=9) eM.nd rfl (AE rfl) (aX gT (bZ pC (pv 2) (aX f7 (aX dF (pv 4) (aX kY aI (pv 5))) aI) Ig) (bZ pC (pv 2) (aX f7 (aX dF (pv 4) (aX w8 (pv 5) aI)) aI) Ig)))
    (aJ (aZ (i:=9) eM.nd rfl (AE rfl) (aX gT (aX gT (cB aEx (pv 6) cN (cO (pv 7))) (pv 9)) (cB aEx (pv 6) (cO (pv 7)) cN)))
    (aJ (pJ <| cI (bK dM (pv 3) aI (bX _))
     (aJ (aZ (i:=9) eM.nd rfl (AE rfl) aT)
     (aJ (aZ (i:=10) eM.nd rfl (AE rfl) (aX dF (pv 5) aI))
     (aN (aEa Cv (bK aEe (pv 10) aI (bX _))
      (aJ (aZ (i:=9) eM.nd rfl (AE rfl) (aX gT (bZ pC (pv 2) (aX f7 (aX dF (pv 4) (aX kY aI (aX f7 (pv 10) aI))) aI) Ig) (pv 9)))
      (aN (aZ (i:=10) eM.nd rfl (AE rfl) (aX w8 (aX iX (pv 10) aI) aI)))))))) bH)
    (aN (jB (lM BA BY BX gB (pv 8) (aG (pv 9) aF))))))))
   (aJ (aZ (i:=11) eM.nd rfl (AE rfl) (cW (aG aT (aG aT (aG aT (aG aT (aG aT (aG aT (aG aT (aG aT (aG aT aF)))))))))))
   (aJ (pJ <| cI (bK dM (bC GT hr (aG (pv 0) (aG aI aF))) aI (bX _))
    (aN (jP Cv rfl (fE rfl aj (aG (aP (vM rfl) (by rfl) bd (by kernel_rfl) (aG (pv 1) (aG aI aF))) aF)) (bJ (i:=5) eM.nd rfl (AE rfl))
     (aN (cI (PW.pt (lH (bK dM (bC GT hr (aG (pv 0) (aG aI aF))) aI (bX _)) (jA (bK iL (bZ cH (pv 11) (pv 5) Ig) (pv 8) (by with_unfolding_all rfl)))))
      (aN (jN (bZ cH (pv 11) (pv 5) Ig) (aAZ (pv 8) (pv 5) rQ))) bH)))) bH)
   (aN (aV (pv 8))))))))))),?_⟩
  have e0:(Bd "").length=0:=by decide
  have zA:abc.length≤sizeLine:=aM (by rw[aGJ];decide);refine⟨_,rfl,p,c,ns,a,_,rfl,hp,by omega,by decide,by decide,fun W a1 H1 w0 w1 l1 u1 b1 cn=>?_⟩;refine⟨_,rfl,p,c,ns,a1,_,rfl,b1,by omega,by decide,by decide,fun tt a2 H2 t0 t1 l2 u2 bR b7=>?_⟩;obtain⟨t,rfl⟩:∃ t:Nat,tt=t:=⟨tt.toNat,by omega⟩
  refine⟨rfl,_,rfl,p,c,ns,a2,_,rfl,bR,by omega,by decide,by decide,fun r3 a3 H3 dm dv l3 u3 b3 b6=>?_⟩;refine⟨zZ3,fun q hq=>?_⟩;have sq:=aK (o:=.lst [V.int r3,.int 0,.int 6]) hq;obtain⟨v,hv,an⟩:=iE (xs:=[V.int r3,.int 0,.int 6]) (i:=W) w0 (by show W < 3;omega);obtain⟨n,rfl,hn0,hn6⟩:∃ n:Int,v=.int n∧0≤n∧n≤6:=by
   simp only[Al,AA,or_false]at hv;rcases hv with rfl | rfl | rfl
   ·exact⟨_,rfl,by omega,by omega⟩
   ·exact⟨_,rfl,by omega,by omega⟩
   ·exact⟨_,rfl,by omega,by omega⟩
  refine⟨_,rfl,q,_,W,_,rfl,rfl,aU aH,an,n,rfl,by omega,by omega,?_⟩;have kq:aQ p H (upd H3 q (.lst [V.int r3,.int 0,.int 6])):=((cn.trans b7).trans b6).same sq;have bf:=b3.same sq;generalize upd H3 q (.lst [V.int r3,.int 0,.int 6])=H4 at kq bf ⊢;refine i3 (fun i ys σ' H'=>∃(a':Int) (bs:List Nat) (o:Option V),σ'=[o,some (.str abc),some (.ref p)]∧cJ H' p c ns a'∧aQ p H H'∧a3≤a'∧a'≤a3 + i∧ys=(bs.map fun c=>mk [c]).map V.str∧bs.length=i∧(∀ c∈bs,isL c=true))
   ⟨a3,[],none,rfl,bf,kq,by omega,by omega,rfl,rfl,fun w hw=>by simp at hw⟩ (aM (by omega)) (fun i ys σ H p=>by obtain⟨_,bs,_,_,_,_,_,_,rfl,e,_⟩:=p;rw[Ab,Ab,e];exact Ap _) ?_ ?_
  ·rintro i' ys σ' H5 de ⟨a',bs,o,rfl,ay,ba,dr,dl,rfl,hl,hb⟩;dsimp only[cC];refine c8 ?_;refine⟨_,rfl,_,rfl,p,c,ns,a',_,rfl,ay,by omega,by decide,by decide,fun r6 a6 H6 bg bx l6 u6 ar am=>?_⟩;refine⟨_,r6,gO r6.toNat,rfl,rfl,zA,aFh bg bx,a6,bs ++ [gO r6.toNat],_,rfl,ar,ba.trans am,by omega,by omega,by rw[AS,AS];rfl,by rw[Ak,hl];rfl,fun c hc=>?_⟩;rcases Az.mp hc with z | z
   ·exact hb c z
   ·rw[A6.mp z];exact yA _
  ·rintro ys σ' H5 ⟨a4,b,o,rfl,ay,ba,l4,u4,rfl,df,hb⟩ D hD;have aR:b.length≤6:=by omega
   refine⟨_,D,b.map (fun c=>mk [c]),rfl,rfl,aU aH,by
    rw[aGT (fun w hw=>by obtain⟨x,_,rfl⟩:=Bb.mp hw;rfl),Ab,e0];omega,?_⟩
   rw[aGS];have ar:=ay.same (aK (o:=.lst ((b.map fun c=>mk [c]).map V.str)) hD);have am:aQ p H _:=ba.same (aK (o:=.lst ((b.map fun c=>mk [c]).map V.str)) hD);generalize upd H5 D (.lst ((b.map fun c=>mk [c]).map V.str))=H6 at ar am ⊢;refine⟨_,rfl,_,rfl,mk b,rfl,aM (by rw[jS];omega),_,_,rfl,rfl,p,c,ns,a4,_,rfl,ar,by omega,by omega,by rw[jS];omega,fun ss a5 H7 s0 s1 l5 u5 aL ck=>?_⟩;rw[jS]at s1;obtain⟨sp,rfl⟩:∃ sp:Nat,ss=sp:=⟨ss.toNat,by omega⟩
   refine⟨Bo _,fun L hL=>?_⟩;have bn:=am.trans ck;have ao:L≠p:=by
    obtain⟨l,_,z⟩:=aL.ob;exact(bE z hL).symm
   have b2:L≠c:=(bE aL.ce hL).symm;have bi:H L=none:=by
    cases e:H L with
    | none=>rfl
    | some x=>exact absurd (bn L x e ao) (by rw[hL];simp)
   refine⟨_,rfl,m,rfl,by omega,by omega,iQ (n:=(m:Int).toNat) (fun i σ H'=>Ex3 fun o5 o9 O=>σ=[some (.ref p),some (.int m),some (.str abc),some (.int W),some (.int t),o5,some (.str (mk b)),some (.int sp),some (.ref L),o9,O,none]∧H'=upd H7 L (.lst (((AL i).map fun k=>mk (word (decide (W=1)) b sp t k)).map V.str))) ⟨_,_,_,rfl,rfl⟩ ?_ ?_⟩
   ·rintro i σ H' hi ⟨o5,o9,O,rfl,rfl⟩;dsimp only[cC];have cy:i < 44:=by omega
    refine⟨_,rfl,_,rfl,_,rfl,_,_,rfl,rfl,.inl ⟨by decide,by decide⟩,_,_,rfl,rfl,_,_,rfl,rfl,(by show(0:Int) < 26;decide),_,_,gO (t + 7 * i),rfl,rfl,zA,yC _ (by omega),_,rfl,_,rfl,_,rfl,_,_,rfl,rfl,⟨by decide,by decide⟩,_,_,rfl,rfl,_,_,rfl,rfl,(by show(0:Int) < 26;decide),_,_,gO (t + i / 26),rfl,rfl,zA,yC _ (by omega),_,_,rfl,rfl,aM (by show 1 + 1≤1000000;decide),?_⟩;have zB:(mk b).length≤sizeLine:=aM (by rw[jS];omega);have az:∀{x y},(D0 (mk b) x y).length≤6:=fun{x y}=>Bc (EV _ x y) (by rw[jS];omega);have h2:((⟨#[gO (t + 7 * i)]⟩:Str) ++ ⟨#[gO (t + i / 26)]⟩).length=2:=rfl;refine⟨_,rfl,_,rfl,_,rfl,mk b,rfl,zB,_,rfl,_,_,rfl,rfl,aM (by have:=az (x:=none) (y:=some (sp:Int));omega),_,rfl,_,rfl,_,rfl,mk b,rfl,zB,_,_,rfl,rfl,aM (by have:=az (x:=none) (y:=some (sp:Int));have:=az (x:=some (sp:Int)) (y:=none);rw[Co];omega),?_⟩;have ew:(D0 (mk b) none (some (sp:Int)) ++ ((⟨#[gO (t + 7 * i)]⟩:Str) ++ ⟨#[gO (t + i / 26)]⟩)) ++ D0 (mk b) (some (sp:Int)) none=mk (b.take sp ++ pV t i ++ b.drop sp):=by
     rw[aJX aR (by omega),aGR aR (by omega)];rw[show((⟨#[gO (t + 7 * i)]⟩:Str) ++ ⟨#[gO (t + i / 26)]⟩)=mk (pV t i) from rfl,uC,uC]
    rw[ew];refine⟨fun σ' H'=>∃ O,σ'=[some (.ref p),some (.int m),some (.str abc),some (.int W),some (.int t),some (.int (0 + i)),some (.str (mk b)),some (.int sp),some (.ref L),some (.str (mk (word (decide (W=1)) b sp t i))),O,none]∧H'=upd H7 L (.lst (((AL i).map fun k=>mk (word (decide (W=1)) b sp t k)).map V.str)),?_,?_⟩
    ·refine⟨_,rfl,rfl,_,rfl,dH (fun g=>?_) (fun g=>?_)⟩
     ·have g':W=1:=V.int.inj (Ie g);subst g';refine⟨_,rfl,_,_,rfl,rfl,fun mm σ' H'=>∃(r f:Nat) (U:List Nat) (rv:Int) (wv:Str),mm=r∧rv=(r:Int)∧wv=mk (U.map fun d=>gO (t + 9 * d))∧σ'=[some (.ref p),some (.int m),some (.str abc),some (.int 1),some (.int t),some (.int (0 + i)),some (.str (mk b)),some (.int sp),some (.ref L),some (.str wv),some (.int rv),none]∧H'=upd H7 L (.lst (((AL i).map fun k=>mk (word (decide ((1:Int)=1)) b sp t k)).map V.str))∧bij f r ++ U=bij 6 (i + 1)∧r < 2 ^ f∧U.length + f≤6,⟨i + 1,i + 1,6,[],_,_,rfl,(by show 0 + (i:Int) + 1=((i + 1:Nat):Int);omega),(by show Bd ""=mk [];decide),rfl,rfl,by simp,by omega,by simp⟩,?_⟩;rintro mm σ' H' ⟨r,f,U,rv,wv,rfl,rfl,rfl,rfl,rfl,af,bv,db⟩;refine⟨_,rfl,_,_,rfl,rfl,_,rfl,dH (fun g2=>?_) (fun g2=>?_)⟩
      ·have ca:(0:Int) < mm:=Ie g2;refine⟨_,fun dk c4 h=>h,?_⟩;obtain⟨f',rfl⟩:∃ f',f=f' + 1:=by
        cases f with
        | zero=>exact absurd bv (by omega)
        | succ x=>exact⟨x,rfl⟩
       have e2:mk [gO (t + 9 * (mm % 2))] ++ mk (U.map fun d=>gO (t + 9 * d))=mk (((mm % 2) :: U).map fun d=>gO (t + 9 * d)):=by rw[uC];rfl
       refine⟨_,rfl,_,rfl,_,rfl,_,_,rfl,rfl,(by show(0:Int) < 2;decide),_,_,rfl,rfl,.inl ⟨by decide,by decide⟩,_,_,rfl,rfl,_,_,rfl,rfl,(by show(0:Int) < 26;decide),_,_,gO (t + 9 * (mm % 2)),rfl,rfl,zA,yC _ (by omega),_,rfl,_,_,rfl,rfl,aM (by rw[jS,Ab];show 1 + _≤_;omega),_,rfl,_,_,rfl,rfl,_,_,rfl,rfl,⟨by decide,by decide⟩,(mm - 1) / 2,by omega,(mm - 1) / 2,f',(mm % 2) :: U,_,_,rfl,?_,e2,rfl,rfl,?_,?_,?_⟩
       ·show((mm:Int) - 1) / 2=_;omega
       ·rw[← af,aFo f' mm (by omega)];simp
       ·rw[Nat.pow_succ]at bv;omega
       ·rw[AM];omega
      ·have ca:¬ (0:Int) < mm:=fun z=>g2 (Ic z);have hz:mm=0:=by omega
       subst hz;have e3:bij f 0=[]:=by cases f <;> rfl
       rw[e3,FZ]at af;have e4:word (decide ((1:Int)=1)) b sp t i=U.map fun d=>gO (t + 9 * d):=by
        rw[af];rfl
       exact⟨some (V.int ((0:Nat):Int)),by rw[e4],rfl⟩
     ·have g':¬ W=1:=fun z=>g (Ic (by rw[z]));rw[decide_eq_false g'];exact⟨_,rfl,rfl⟩
    ·rintro σ' H' ⟨O,rfl,rfl⟩;refine⟨_,rfl,.inl ⟨rfl,_,aU aH⟩,_,rfl,L,_,_,rfl,rfl,aH,by rw[Ab,Ab,BF];exact jX (by omega),_,_,_,rfl,?_⟩;rw[aGk,FX,AS,AS];rfl
   ·rintro σ H' ⟨o5,o9,O,rfl,rfl⟩;have S8:=aK (o:=.lst (((AL (m:Int).toNat).map fun k=>mk (word (decide (W=1)) b sp t k)).map V.str)) hL;have aq:=aL.same S8;have aC:=bn.same S8;have ap:upd H7 L (.lst (((AL (m:Int).toNat).map fun k=>mk (word (decide (W=1)) b sp t k)).map V.str)) L=_:=aH;have hN:Nms ((AL (m:Int).toNat).map fun k=>mk (word (decide (W=1)) b sp t k)):=by
     refine⟨aGM (by omega) (by omega),fun w hw=>?_,aDH (by omega)⟩;obtain⟨k',hk',rfl⟩:=Bb.mp hw;have:=Bt.mp hk';exact aDF (by omega) aR hb
    have aA:((AL (m:Int).toNat).map fun k=>mk (word (decide (W=1)) b sp t k)).length=m:=by rw[Ab,BF];omega
    generalize ((AL (m:Int).toNat).map fun k=>mk (word (decide (W=1)) b sp t k))=ws at aq aC ap hN aA ⊢;generalize upd H7 L (.lst (ws.map V.str))=H8 at aq aC ap ⊢;refine⟨zZ9,fun T hT=>?_⟩;have S9:=aK (o:=.lst (lZ.map V.str)) hT;have bj:upd H8 T (.lst (lZ.map V.str)) T=some (.lst (lZ.map V.str)):=aH;have bB:=aq.same S9;have ax:=aC.same S9;have bz:=S9 _ _ ap;have cg:T≠L:=(bE ap hT).symm;have bD:T≠p:=by
     obtain⟨l,_,z⟩:=aq.ob;exact(bE z hT).symm
    have eT:upd H8 T (.lst [V.str "as",.str "with",.str "part",.str "field",.str "none",.str "done",.str "write",.str "back",.str "join"])=upd H8 T (.lst (lZ.map V.str)):=rfl;rw[eT];generalize upd H8 T (.lst (lZ.map V.str))=H9 at bB ax bz bj ⊢;refine⟨fun σ' H'=>∃(o5:Option V) (vs:List Str) (a6:Int),σ'=[some (.ref p),some (.int m),some (.str abc),some (.int W),some (.int t),o5,some (.str (mk b)),some (.int sp),some (.ref L),o9,O,some (.ref T)]∧H' L=some (.lst (vs.map V.str))∧vs.length=m∧Nms vs∧cJ H' p c ns a6∧a≤a6∧a6≤a + 30∧aQ p H H',?_,?_⟩
    ·refine⟨_,rfl,p,c,ns,a5,_,rfl,bB,by omega,by decide,by decide,fun r6 a6 dc bg bx l6 u6 aw ah=>?_⟩;have au:=ah _ _ bz ao;have bu:=ah _ _ bj bD;have av:=ax.trans ah;refine⟨rfl,_,rfl,dH (fun g=>?_) (fun g=>?_)⟩
     ·refine⟨_,rfl,_,_,rfl,?_⟩;obtain⟨n9,hn9,n90,n91,n92⟩:∃ n9:Int,(if (9:Int) < m then(9:Int) else m)=n9∧0≤n9∧n9≤9∧n9≤m:=by
       refine⟨_,rfl,?_⟩;split <;> omega
      rw[hn9];refine⟨n9,rfl,by omega,by omega,iQ (n:=n9.toNat) (fun i σ H'=>Ex3 fun(o5:Option V) (vs:List Str) (a7:Int)=>Aw6 (σ=[some (.ref p),some (.int m),some (.str abc),some (.int W),some (.int t),o5,some (.str (mk b)),some (.int sp),some (.ref L),o9,O,some (.ref T)]) (H' L=some (.lst (vs.map V.str))) (H' T=some (.lst (lZ.map V.str))) (vs.length=m) (Nms vs) (Aw3 (cJ H' p c ns a7) (a6≤a7) (a7≤a6 + i∧aQ p H H'))) ⟨_,ws,a6,rfl,au,bu,aA,hN,aw,by omega,by simp,av⟩ ?_ ?_⟩
      ·rintro i σ H' hi ⟨bw,vs,a7,rfl,ai,bo,Z,J,ae,cq,b0,kv⟩;dsimp only[cC];refine⟨_,rfl,p,c,ns,a7,_,rfl,ae,by omega,by decide,by decide,fun r8 a8 dq dh c3 l8 u8 ak ag=>?_⟩;have aa:=ag _ _ ai ao;have Y:=ag _ _ bo bD;have bc:=kv.trans ag;refine⟨rfl,_,rfl,dH (fun g2=>?_) (fun g2=>?_)⟩
       ·obtain⟨term,hterm⟩:∃ x,lZ[i]?=some x:=⟨_,Af (show i < 9 by omega)⟩
        have cr:ixN (lZ.map V.str).length (0 + (i:Int))=some i:=by
         unfold ixN;rw[Ab,Ib (by omega),Ib (by show 0 + (i:Int) < 9;omega)];congr 1;omega
        have an:atI (lZ.map V.str) (0 + (i:Int))=some (V.str term):=by
         unfold atI;rw[cr];simp[hterm]
        have br:ixN (vs.map V.str).length (0 + (i:Int))=some i:=by
         unfold ixN;rw[Ab,Ib (by omega),Ib (by omega)];congr 1;omega
        refine⟨_,rfl,_,rfl,T,_,_,_,rfl,rfl,aU Y,an,_,rfl,L,_,rfl,.inl (aU aa),rfl,gX vs,_,rfl,?_⟩;rw[Ib rfl,qZ];refine dH (fun g3=>?_) (fun g3=>?_)
        ·have b9:term ∉ vs:=by simpa using g3
         refine⟨_,rfl,_,rfl,T,_,_,_,rfl,rfl,aU Y,an,_,rfl,_,rfl,L,_,_,i,rfl,rfl,aa,br,_,vs.set i term,a8,rfl,by rw[aH,← List.map_set],by rw[aS cg];exact Y,by rw[List.length_set,Z],⟨aFj J.nd b9,fun w hw=>?_,aGP J.thr (aAm term (Ax hterm))⟩,?_,by omega,by omega,?_⟩
         ·rcases Ez hw with z | z
          ·exact J.ok w z
          ·rw[z];exact aBB term (Ax hterm)
         ·obtain⟨⟨l,hl,e⟩,ce,ge,sm⟩:=ak;exact⟨⟨l,hl,by rw[aS ao.symm];exact e⟩,by rw[aS b2.symm];exact ce,ge,sm⟩
         ·intro x o e ne;have nx:x≠L:=bE e bi;rw[aS nx];exact bc x o e ne
        ·exact⟨_,vs,a8,rfl,aa,Y,Z,J,ak,by omega,by omega,bc⟩
       ·exact⟨_,vs,a8,rfl,aa,Y,Z,J,ak,by omega,by omega,bc⟩
      ·rintro σ H' ⟨bw,vs,a7,rfl,ai,bo,Z,J,ae,cq,b0,kv⟩;exact⟨_,vs,a7,rfl,ai,Z,J,ae,by omega,by omega,kv⟩
     ·exact⟨_,ws,a6,rfl,au,aA,hN,aw,by omega,by omega,av⟩
    ·rintro σ' H' ⟨bw,vs,a6,rfl,ai,Z,J,ae,cm,cb,kv⟩;exact⟨_,rfl,k L vs a6 H' bi ai Z J cm cb ae kv⟩
structure OkD(b k:Nat)(d:Aj):Prop where
 sh:d.showable=true
 dp:d.depth≤k
 len:d.shown.length≤b
theorem OkD.mono{b z k F:Nat}{d:Aj}(h:OkD b k d)(O:b≤z)(J:k≤F):OkD z F d:=⟨h.sh,Bc h.dp J,Bc h.len O⟩
theorem aFq{b k:Nat}:∀{ds:List Aj},(∀ d∈ds,OkD b k d)→PyData.showableAll ds=true∧Bk ds≤k∧((ds.map Dl).map (·.length)).sum≤ds.length * b
 | [],_=>⟨rfl,Bo _,by simp⟩
 | d :: r,h=>by
  obtain⟨h1,h2,h3⟩:=aFq (ds:=r) fun x z=>h x (AK _ z);obtain⟨g1,g2,g3⟩:=h d AF;refine⟨?_,?_,?_⟩
  ·unfold PyData.showableAll;rw[g1,h1];rfl
  ·unfold Bk;exact Nat.max_le.mpr ⟨g2,h2⟩
  ·rw[A3,A3,Gn,AM,Nat.succ_mul];omega
theorem OkD.tuple{b k n:Nat}{ds:List Aj}(h:∀ d∈ds,OkD b k d)(hn:ds.length≤n):OkD (n * (b + 2) + 3) (k + 1) (.tuple ds):=by
 obtain⟨h1,h2,h3⟩:=aFq h;refine⟨?_,?_,?_⟩
 ·unfold EM;exact h1
 ·unfold B2;omega
 ·unfold Dl;rw[PyProof.Rows.shownAll_eq_map];unfold tupleText;have F:=EG (Bd ", ") (ds.map Dl);have z:(Bd ", ").length=2:=by decide
  have J:(Bd "(").length=1:=by decide
  have O:∀ c:Bool,(Bd (if c=true then ",)" else ")")).length≤2:=by decide
  have U:=O ((ds.map Dl).length == 1);rw[z,Ab]at F;rw[Co,Co,J];have:ds.length * b + ds.length * 2≤n * (b + 2):=by
   rw[← Nat.mul_add];exact Nat.mul_le_mul_right _ hn
  omega
theorem OkD.list{b k n:Nat}{ds:List Aj}(h:∀ d∈ds,OkD b k d)(hn:ds.length≤n):OkD (n * (b + 2) + 3) (k + 1) (.list ds):=by
 obtain⟨h1,h2,h3⟩:=aFq h;refine⟨?_,?_,?_⟩
 ·unfold EM;exact h1
 ·unfold B2;omega
 ·unfold Dl;rw[PyProof.Rows.shownAll_eq_map,listText_eq_join];have F:=EG (Bd ", ") (ds.map Dl);have z:(Bd ", ").length=2:=by decide
  have J:(Bd "[").length=1:=by decide
  have O:(Bd "]").length=1:=by decide
  rw[z,Ab]at F;rw[Co,Co,J,O];have:ds.length * b + ds.length * 2≤n * (b + 2):=by
   rw[← Nat.mul_add];exact Nat.mul_le_mul_right _ hn
  omega
theorem OkD.str{z:Str}(h:Ec z=true)(J:z.length≤10):OkD 102 0 (.str z):=by
 refine⟨by unfold EM;rfl,by unfold B2;exact Ap _,?_⟩;have hz:z.cps.size≤10:=J;have F:(AW z).layable0=true:=by
  unfold PyData.layable0 Cc B2 PyData.weight;rw[h,Ic (show(0:Nat)≤64 by decide),Ic (show z.cps.size≤2 ^ 20 by omega)];rfl
 have:=PyProof.Rows.len_repr_of_layable F;unfold Dl;omega
theorem aGU{i:Int}(z:0≤i)(h1:i < 10 ^ 60):(Bd (toString i)).length≤60:=by
 obtain⟨n,rfl⟩:∃ n:Nat,i=n:=⟨i.toNat,by omega⟩
 rw[PySem.ofString_length];show(Int.repr (n:Int)).length≤60;have e:Int.repr (n:Int)=Nat.repr n:=rfl;rw[e];exact(Nat.length_repr_le_iff (by decide)).mpr (by omega)
theorem OkD.int{i:Int}(z:0≤i)(h1:i < 10 ^ 60):OkD 102 0 (.int i):=by
 refine⟨?_,by unfold B2;exact Ap _,?_⟩
 ·unfold EM;refine Ic ?_;have h2:i.natAbs < 2 ^ 200:=by
   have:(10:Int) ^ 60 < ((2 ^ 200:Nat):Int):=by decide
   omega
  by_cases hz:i.natAbs=0
  ·rw[hz];decide
  ·have:=(Nat.log2_lt hz).mpr h2;omega
 ·unfold Dl;have:=aGU z h1;omega
theorem dU{z:Str}(h:bW z=true):Ec z=true:=by
 unfold bW at h;rw[AX,Bg]at h;unfold Ec;rw[Array.all_eq_true_iff_forall_mem];intro c hc;have:=Ie (h.2 c (by simpa using hc));exact Ic (by omega)
theorem OkD.name{z:Str}(h:bW z=true):OkD 102 0 (.str z):=OkD.str (dU h) (by have:=dA h;omega)
def tyN:Aj→String
 | .none=>"NoneType"
 | .bool _=>"bool"
 | .int _=>"int"
 | .str _=>"str"
 | .list _=>"list"
 | .tuple _=>"tuple"
 | .dict _=>"dict"
def wE:Aj→Bool | .str _=>true | _=>false
def fZ:Aj→Bool | .tuple _=>true | _=>false
def isInt:Aj→Bool | .int _=>true | .bool _=>true | _=>false
def aDK:Aj→Bool | .bool _=>true | _=>false
def bY:Aj→Bool | .str z=>bW z | _=>false
def cK(lo hi:Int):Aj→Bool | .int i=>decide (lo≤i∧i≤hi) | _=>false
def fW:Aj→Bool
 | .tuple [l,h,a]=>bY l && bY h && cK 1 10000000 a
 | _=>false
theorem aCA{K:Ag}(d:Aj):Bs K (.type (tyN d)) (.type "str")=some (wE d):=by
 cases d <;> dsimp only[tyN,wE] <;> first | exact lO | exact sY (by decide) (by decide) (by decide)
theorem jK{K:Ag}(d:Aj):Bs K (.type (tyN d)) (.type "tuple")=some (fZ d):=by
 cases d <;> dsimp only[tyN,fZ] <;> first | exact lO | exact sY (by decide) (by decide) (by decide)
theorem aCB{K:Ag}(d:Aj):Bs K (.type (tyN d)) (.type "int")=some (isInt d):=by
 cases d <;> dsimp only[tyN,isInt] <;> first | exact lO | exact sY (by decide) (by decide) (by decide)
theorem aIH{K:Ag}(d:Aj):Bs K (.type (tyN d)) (.type "bool")=some (aDK d):=by
 cases d <;> dsimp only[tyN,aDK] <;> first | exact lO | exact sY (by decide) (by decide) (by decide)
theorem lC{K:Ag}{m:Bool}{H:Hp}{x:V}{d:Aj}(h:RdV m H x d):iD K H x (.type (tyN d)):=by
 cases h with
 | non=>exact .non
 | bl b=>exact .bl b
 | int i=>exact .int i
 | str z _=>exact .str z
 | lst _ e _ _=>exact .lst e
 | tup e _ _=>exact .tup e
 | dct _ e=>exact .dK e
inductive uD(K:Ag)(vs:List V)(H:Hp)(Q:VK)(u3_:XK):Prop
 | mk (x:_) (q0:vs=[x]) (q1:((∃ z,x=V.str z∧z.length≤1000000∧∀ H',aY H H'→Q (.bl (bW z)) H')∨(∃ t,iD K H x t∧Bs K t (.type "str")=some false∧Q (.bl false) H))):uD K vs H Q u3_
def aAn(K:Ag):Sp:=fun vs H Q u3_=>uD K vs H Q u3_
inductive aAo(vs:List V)(H:Hp)(Q:VK)(u3_:XK):Prop
 | mk (m:Bool) (x:V) (d:Aj) (q0:vs=[x]) (q1:RdV m H x d) (q2:∀ H',aY H H'→Q (.bl (bY d)) H'):aAo vs H Q u3_
def i8:Sp:=fun vs H Q u3_=>aAo vs H Q u3_
inductive aAp(vs:List V)(H:Hp)(Q:VK)(u3_:XK):Prop
 | mk (m:Bool) (x:V) (d:Aj) (q0:vs=[x]) (q1:RdV m H x d) (q2:Q (.bl (isInt d && !aDK d)) H):aAp vs H Q u3_
def aFr:Sp:=fun vs H Q u3_=>aAp vs H Q u3_
inductive wF(vs:List V)(H:Hp)(Q:VK)(u3_:XK):Prop
 | mk (m:Bool) (x:V) (d:Aj) (lo hi:Int) (q0:vs=[x,.int lo,.int hi]) (q1:RdV m H x d) (q2:Q (.bl (cK lo hi d)) H):wF vs H Q u3_
def k9:Sp:=fun vs H Q u3_=>wF vs H Q u3_
inductive aAq(vs:List V)(H:Hp)(Q:VK)(u3_:XK):Prop
 | mk (m:Bool) (x:V) (d:Aj) (q0:vs=[x]) (q1:RdV m H x d) (q2:∀ H',aY H H'→Q (.bl (fW d)) H'):aAq vs H Q u3_
def aFs:Sp:=fun vs H Q u3_=>aAq vs H Q u3_
structure Txt(K:Ag)(mg:Str→Option Ac):Prop where
 isi:mg "isinstance"=none
 str:mg "str"=none
 len:mg "len"=none
 al:mg "all"=none
 int:mg "int"=none
 bool:mg "bool"=none
 tuple:mg "tuple"=none
 set:mg "set"=none
 mostFields:∃ t,mg "MOST_FIELDS"=some (.int 8 t)
 fieldAcres:∃ t,mg "MOST_FIELD_ACRES"=some (.int 1000000 t)
 longest:∃ t,mg "LONGEST"=some (.int 8 t)
 lastDay:∃ t,mg "LAST_DAY"=some (.int 9999 t)
 fewest:∃ t,mg "FEWEST_LANDS"=some (.int 2 t)
 most:∃ t,mg "MOST_LANDS"=some (.int 6 t)
 acres:∃ t,mg "MOST_PART_ACRES"=some (.int 10000000 t)
 inches:∃ t,mg "MOST_INCHES"=some (.int 10000000 t)
 pence:∃ t,mg "MOST_PENCE"=some (.int 1000000000 t)
 spades:∃ t,mg "MOST_SPADES"=some (.int 1000000 t)
theorem aII(K:Ag):Bs K (.type "str") (.type "str")=some true:=by
 unfold Bs;rw[Ib (by rfl)]
theorem scN:bU ["thing"] ["thing"] (aO qV):=⟨rfl,rfl,rfl,by decide,rfl,by decide,by decide⟩
theorem aFt(a b:Nat):(!decide (([b]:List Nat) < [a]))=decide (a≤b):=by
 have:([b]:List Nat) < [a]↔b < a:=by
  constructor
  ·intro h;cases h with
   | rel h=>exact h
   | cons h=>cases h
  ·intro h;exact List.Lex.rel h
 by_cases h:b < a
 ·rw[Ic (this.mpr h),decide_eq_false (by omega)];rfl
 ·rw[decide_eq_false (fun z=>h (this.mp z)),Ic (by omega)];rfl
theorem aDL{f:Ah}{fd:AH}(F:Fun K "is_name" "is_name" qV f fd)(T:Txt K mg):b8 P w K mg base CX0 1 f fd ["thing"] (aAn K):=by
 refine F.ok scN (fun vs H Q E h=>?_) (fun ae A outer s H vs Q E hr h=>?_)
 ·obtain⟨x,rfl,_⟩:=h;rfl
 ·obtain⟨x,rfl,hx⟩:=h;obtain⟨tl,hlong⟩:=T.longest;refine⟨_,aJ (cI (hU (dR (dO (aP dN (by rfl) T.isi (by kernel_rfl) (gF (pv 0) (gF (dI (v:=.ty "str") (by rfl) T.str (by kernel_rfl) rfl) aF)))))
    (fX (dR (rN m3 m3 aI (aP n6 (by rfl) T.len AI (gF (pv 0) aF)) (cE (v:=.int 8) (by rfl) hlong ⟨_,rfl⟩))))).pt (aN (aV gC)) bH)
   (aN (aV (aP (oD rfl) (by rfl) T.al (by kernel_rfl) (gF (fU (N:=["sign"]) (src:=[none]) (osc:=aO qV) (oN:=["thing"]) ⟨by rfl,by decide,by decide,by decide,rfl,by rfl⟩ (aIm (pv 0))
    fun cl s H fp fc C=>⟨bJ (i:=0) (show(["sign"]:List Str).Nodup by decide) rfl (AE rfl),dY,rM vX vX aT (pv 0) aT⟩) aF)))),?_⟩
  rcases hx with⟨z,rfl,hz,k⟩ | ⟨t,ty,e,k⟩
  ·refine⟨_,rfl,_,"str",_,true,rfl,iD.str z,aII K,true,rfl,c7 ?_⟩;refine⟨_,rfl,z,rfl,aM hz,_,_,rfl,rfl,_,rfl,?_⟩;have bad:¬ (1≤z.length∧z.length≤8)→Q (.bl false) H:=fun h=>by
    have:=k H (aY.refl H);unfold bW at this;rw[decide_eq_false h]at this;exact this
   refine dH (fun h1=>?_) (fun h1=>?_)
   ·have U:=Ie h1;refine⟨_,_,rfl,rfl,_,rfl,?_⟩;by_cases Z:(z.length:Int)≤8
    ·rw[Ic Z];refine c7 ?_;refine⟨_,rfl,z,rfl,?_⟩;refine aEC (fun i ys σ H'=>H'=H∧ys=((z.cps.toList.take i).map fun c=>V.bl (decide (97≤c∧c≤122)))∧σ.length=1) ⟨rfl,rfl,rfl⟩ (aM hz) (fun i ys σ H' p=>by rw[p.2.1,Ab,Am];omega) ?_ ?_
     ·rintro i c ys σ H' hc ⟨rfl,rfl,hσ⟩;obtain⟨o,rfl⟩:∃ o,σ=[o]:=by
       match σ,hσ with
       | [o],_=>exact⟨o,rfl⟩
      dsimp only[cC];refine c8 ?_;refine⟨_,rfl,_,_,rfl,rfl,_,rfl,?_⟩;have J:∀ b:Bool,b=decide (97≤c∧c≤122)→(H'=H'∧(GC (fun c=>V.bl (decide (97≤c∧c≤122))) (Eo i z.cps.toList)) ++ [V.bl b]=(z.cps.toList.take (i + 1)).map (fun c=>V.bl (decide (97≤c∧c≤122)))∧([o].set 0 (some (V.str ⟨#[c]⟩))).length=1):=fun b hb=>by
       refine⟨rfl,?_,rfl⟩;rw[Bn,AS,hb];have:z.cps.toList[i]?=some c:=by simpa using hc
       rw[this];rfl
      have e1:(!decide ((⟨#[c]⟩:Str).cps.toList < ("a":Str).cps.toList))=decide (97≤c):=aFt 97 c;have e2:(!decide (("z":Str).cps.toList < (⟨#[c]⟩:Str).cps.toList))=decide (c≤122):=aFt c 122;rw[e1];refine dH (fun O=>?_) (fun O=>?_)
      ·have Y:=Ie O;refine⟨_,_,rfl,rfl,?_⟩;rw[e2];refine J _ ?_;rw[decide_eq_decide];omega
      ·have Y:¬ 97≤c:=fun z=>O (Ic z);refine J false ?_;rw[decide_eq_false (by omega)]
     ·rintro ys σ H' ⟨rfl,rfl,hσ⟩ D hD;have W:Eo z.cps.size z.cps.toList=z.cps.toList:=by rw[← BL];exact B8
      rw[W];refine⟨D,z.cps.toList.map fun c=>decide (97≤c∧c≤122),rfl,aU (by rw[aH,Cn];rfl),?_⟩;have:=k _ (aK (o:=.lst (GC (fun c=>V.bl (decide (97≤c∧c≤122))) z.cps.toList)) hD);unfold bW at this;rw[Ic (by omega),A7]at this;rw[Ek];exact this
    ·rw[decide_eq_false Z];exact c8 (bad (by omega))
   ·have U:¬ (1:Int)≤z.length:=fun z=>h1 (Ic z);exact⟨false,rfl,c8 (bad (by omega))⟩
  ·refine⟨_,rfl,_,"str",t,false,rfl,ty,e,false,rfl,c8 ?_⟩;refine c8 ?_;exact k
theorem aGV{f:Ah}{fd:AH}{k:Nat}{ps:List Str}{sp F:Sp}(G:b8 P w K mg base CX0 k f fd ps sp)(h:∀ vs H Q E,F vs H Q E→sp vs H Q E):b8 P w K mg base CX0 k f fd ps F:=
 ⟨fun vs H Q E z=>G.len vs H Q E (h vs H Q E z),fun A outer s H J U vs Q E O Y W r z=>G.run A outer s H J U vs Q E O Y W r (h vs H Q E z)⟩
theorem aDM(vs:List V)(H:Hp)(Q:VK)(E:XK)(h:i8 vs H Q E):aAn K vs H Q E:=by
 obtain⟨m,x,d,rfl,hx,k⟩:=h;refine⟨x,rfl,?_⟩;have ty:=lC (K:=K) hx;have F:=aCA (K:=K) d;cases hx with
 | str z hz=>exact .inl ⟨z,rfl,by omega,k⟩
 | non=>exact .inr ⟨_,ty,F,k H (aY.refl H)⟩
 | bl b=>exact .inr ⟨_,ty,F,k H (aY.refl H)⟩
 | int i=>exact .inr ⟨_,ty,F,k H (aY.refl H)⟩
 | lst _ _ _ _=>exact .inr ⟨_,ty,F,k H (aY.refl H)⟩
 | tup _ _ _=>exact .inr ⟨_,ty,F,k H (aY.refl H)⟩
 | dct _ _=>exact .inr ⟨_,ty,F,k H (aY.refl H)⟩
theorem aIJ:bU ["thing"] ["thing"] (aO pO):=⟨rfl,rfl,rfl,by decide,rfl,by decide,by decide⟩
theorem aGW{f:Ah}{fd:AH}(F:Fun K "is_number" "is_number" pO f fd)(T:Txt K mg):b8 P w K mg base CX0 1 f fd ["thing"] aFr:=by
 refine F.ok aIJ (fun vs H Q E h=>?_) (fun J A outer s H vs Q E O h=>?_)
 ·obtain⟨m,x,d,rfl,_⟩:=h;rfl
 ·obtain⟨m,x,d,rfl,hx,k⟩:=h;refine⟨_,aN (aV (dX (aP dN (by rfl) T.isi (by kernel_rfl) (aG (pv 0) (aG (dI (v:=.ty "int") (by rfl) T.int (by kernel_rfl) rfl) aF)))
   (fY (aH4 (aP dN (by rfl) T.isi (by kernel_rfl) (aG (pv 0) (aG (dI (v:=.ty "bool") (by rfl) T.bool (by kernel_rfl) rfl) aF))))))),?_⟩
  refine⟨_,rfl,_,"int",_,_,rfl,lC hx,aCB d,_,rfl,dH (fun g=>?_) (fun g=>?_)⟩
  ·rw[g,A7]at k;exact⟨_,rfl,_,"bool",_,_,rfl,lC hx,aIH d,_,rfl,k⟩
  ·have z:isInt d=false:=by simpa using g
   rw[z]at k;exact k
theorem aDN:bU ["thing","least","most"] ["thing","least","most"] (aO t7):=⟨rfl,rfl,rfl,by decide,rfl,by decide,by decide⟩
theorem aBC{f:Ah}{fd:AH}(F:Fun K "is_whole" "is_whole" t7 f fd)(GN:Cl P w K mg base 1 "is_number" ["thing"] aFr):b8 P w K mg base CX0 2 f fd ["thing","least","most"] k9:=by
 refine F.ok aDN (fun vs H Q E h=>?_) (fun Z A outer s H vs Q E W h=>?_)
 ·obtain⟨m,x,d,lo,hi,rfl,_⟩:=h;rfl
 ·obtain⟨m,x,d,lo,hi,rfl,hx,k⟩:=h;refine⟨_,aN (aV (dX (bC GN W (aG (pv 0) aF)) (fY (rM m3 m3 (pv 1) (pv 0) (pv 2))))),_,rfl,m,x,d,rfl,hx,_,rfl,dH (fun g=>?_) (fun g=>?_)⟩
  ·obtain⟨i,rfl⟩:∃ i,d=.int i:=by
    cases d with
    | int i=>exact⟨i,rfl⟩
    | _=>simp[isInt,aDK]at g
   cases hx;refine⟨_,rfl,_,rfl,_,_,rfl,rfl,?_⟩;have U:Q (.bl (decide (lo≤i∧i≤hi))) H:=k;refine⟨_,rfl,dH (fun O=>?_) (fun O=>?_)⟩
   ·have J:lo≤i:=Ie O;refine⟨_,rfl,_,_,rfl,rfl,?_⟩;show Q (.bl (decide (i≤hi))) H;rw[decide_eq_decide.mpr (show i≤hi↔lo≤i∧i≤hi from⟨fun z=>⟨J,z⟩,fun z=>z.2⟩)];exact U
   ·have J:¬ lo≤i:=fun z=>O (Ic z);rw[decide_eq_false (fun z=>J z.1)]at U;exact U
  ·have Y:(isInt d && !aDK d)=false:=by simpa using g
   have e:cK lo hi d=false:=by
    cases d with
    | int i=>simp[isInt,aDK]at Y
    | _=>rfl
   rw[e]at k;exact k
inductive aAr(vs:List V)(H:Hp)(Q:VK)(u3_:XK):Prop
 | mk (m:Bool) (x:V) (d:Aj) (q0:vs=[x]) (q1:RdV m H x d) (q2:Q (.bl (cK 0 9999999 d)) H):aAr vs H Q u3_
def aBD:Sp:=fun vs H Q u3_=>aAr vs H Q u3_
theorem yD:bU ["thing","land","house","acres"] ["thing"] (aO xV):=⟨rfl,rfl,rfl,by decide,rfl,by decide,by decide⟩
theorem aGX{f:Ah}{fd:AH}(F:Fun K "is_part" "is_part" xV f fd)(T:Txt K mg)
  (GN:Cl P w K mg base 1 "is_name" ["thing"] i8)
  (GW:Cl P w K mg base 2 "is_whole" ["thing","least","most"] k9):
  b8 P w K mg base CX0 3 f fd ["thing"] aFs:=by
 refine F.ok yD (fun vs H Q E h=>?_) (fun ae A outer s H vs Q E W h=>?_)
 ·obtain⟨m,x,d,rfl,_⟩:=h;rfl
 ·obtain⟨m,x,d,rfl,hx,k⟩:=h;have J:cQ 1 _:=W.mono (by decide);obtain⟨ta,hacres⟩:=T.acres;refine⟨_,aJ (cI (PW.pt (hU (dR (dO (aP dN (by rfl) T.isi (by kernel_rfl) (aG (pv 0) (aG (dI (v:=.ty "tuple") (by rfl) T.tuple (by kernel_rfl) rfl) aF)))))
    (fX (bK vL (aP aW (by rfl) T.len AI (aG (pv 0) aF)) aI (bX _))))) (aN (aV gC)) bH)
   (aJ (jN (pv 0) (nM rfl (cT (bJ (i:=1) yD.nd rfl (AE rfl)) (cT (bJ (i:=2) yD.nd rfl (AE rfl)) (cT (bJ (i:=3) yD.nd rfl (AE rfl)) kW)))))
   (aN (aV (dX (bC GN J (aG (pv 1) aF)) (dX (bC GN J (aG (pv 2) aF)) (fY (bC GW W (aG (pv 3) (aG aI (aG (cE (v:=.int 10000000) (by rfl) hacres ⟨_,rfl⟩) aF)))))))))),?_⟩
  refine⟨_,rfl,_,"tuple",_,_,rfl,lC hx,jK d,_,rfl,?_⟩;cases hd:fZ d with
  | false=>
   have e:fW d=false:=by
    cases d with
    | tuple ds=>simp[fZ]at hd
    | _=>rfl
   rw[e]at k;exact k H (aY.refl H)
  | true=>
   obtain⟨ds,rfl⟩:∃ ds,d=.tuple ds:=by
    cases d with
    | tuple z=>exact⟨z,rfl⟩
    | _=>simp[fZ]at hd
   cases hx with
   | @tup a xs _ e hl r=>
    have ac:=r.len;refine c7 ?_;refine⟨_,rfl,a,xs,rfl,.inr (bG e),rfl,_,rfl,?_⟩;by_cases O:xs.length=3
    ·rw[Ic (show V.int (xs.length:Int)=V.int 3 by rw[O];rfl)];refine c7 ?_
     match xs,ds,O,r with
     | [x1,x2,x3],[d1,d2,d3],_,.cons r1 (.cons r2 (.cons r3 .nil))=>
      refine⟨_,rfl,a,_,rfl,bG e,rfl,_,_,rfl,_,_,rfl,_,_,rfl,rfl,?_⟩;have Y:∀ H',aY H H'→Q (.bl (bY d1 && bY d2 && cK 1 10000000 d3)) H':=k;refine⟨_,rfl,m,x1,d1,rfl,r1,fun H1 s1=>⟨_,rfl,?_⟩⟩;have k1:=Y H1 s1;refine dH (fun g=>?_) (fun g=>?_)
      ·refine⟨_,rfl,m,x2,d2,rfl,r2.same s1,fun H2 Z=>⟨_,rfl,?_⟩⟩;have k2:=Y H2 (s1.trans Z);rw[g,A7]at k2;refine dH (fun U=>?_) (fun U=>?_)
       ·rw[U,A7]at k2;exact⟨_,rfl,m,x3,d3,1,10000000,rfl,(r3.same s1).same Z,k2⟩
       ·rw[(by simpa using U:bY d2=false)]at k2;exact k2
      ·rw[(by simpa using g:bY d1=false)]at k1;exact k1
    ·rw[decide_eq_false (show¬ V.int (xs.length:Int)=V.int 3 from fun z=>O (by injection z with z;omega))];refine c8 ?_;have e2:fW (.tuple ds)=false:=by
      match ds,(show ds.length≠3 by omega)with
      | [],_=>rfl
      | [_],_=>rfl
      | [_,_],_=>rfl
      | [_,_,_],z=>exact absurd rfl z
      | _ :: _ :: _ :: _ :: _,_=>rfl
     rw[e2]at k;exact k H (aY.refl H)
theorem aIK:bU ["thing"] ["thing"] (aO xW):=⟨rfl,rfl,rfl,by decide,rfl,by decide,by decide⟩
theorem aGY{f:Ah}{fd:AH}(F:Fun K "is_inch" "is_inch" xW f fd)(T:Txt K mg)
  (z:Cl P w K mg base 2 "is_whole" ["thing","least","most"] k9):
  b8 P w K mg base CX0 3 f fd ["thing"] aBD:=by
 refine F.ok aIK (fun vs H Q E h=>?_) (fun O A outer s H vs Q E J h=>?_)
 ·obtain⟨m,x,d,rfl,_⟩:=h;rfl
 ·obtain⟨m,x,d,rfl,hx,k⟩:=h;obtain⟨ti,hin⟩:=T.inches;exact⟨_,aN (aV (bC z J (aG (pv 0) (aG aI (aG (aX iX (cE (v:=.int 10000000) (by rfl) hin ⟨_,rfl⟩) aI) aF))))),_,rfl,_,_,rfl,rfl,m,x,d,0,9999999,rfl,hx,k⟩
def uE:Aj→Bool
 | .tuple ds=>ds.all bY
 | _=>false
def yE:Aj→Bool
 | .tuple ds=>ds.all fW
 | _=>false
inductive aAs(vs:List V)(H:Hp)(Q:VK)(u3_:XK):Prop
 | mk (m:Bool) (x:V) (d:Aj) (q0:vs=[x]) (q1:RdV m H x d) (q2:∀ H',aY H H'→Q (.bl (uE d)) H'):aAs vs H Q u3_
def uF:Sp:=fun vs H Q u3_=>aAs vs H Q u3_
inductive aAt(vs:List V)(H:Hp)(Q:VK)(u3_:XK):Prop
 | mk (m:Bool) (x:V) (d:Aj) (q0:vs=[x]) (q1:RdV m H x d) (q2:∀ H',aY H H'→Q (.bl (yE d)) H'):aAt vs H Q u3_
def aBE:Sp:=fun vs H Q u3_=>aAt vs H Q u3_
theorem aIL:bU ["thing"] ["thing"] (aO mQ):=⟨rfl,rfl,rfl,by decide,rfl,by decide,by decide⟩
theorem aGZ{f:Ah}{fd:AH}(F:Fun K "all_names" "all_names" mQ f fd)(T:Txt K mg)
  (GN:Cl P w K mg base 1 "is_name" ["thing"] i8):
  b8 P w K mg base CX0 2 f fd ["thing"] uF:=by
 refine F.ok aIL (fun vs H Q E h=>?_) (fun W A outer s H vs Q E U h=>?_)
 ·obtain⟨m,x,d,rfl,_⟩:=h;rfl
 ·obtain⟨m,x,d,rfl,hx,k⟩:=h;refine⟨_,aN (aV (dX (aP dN (by rfl) T.isi (by kernel_rfl) (aG (pv 0) (aG (dI (v:=.ty "tuple") (by rfl) T.tuple (by kernel_rfl) rfl) aF)))
   (fY (aP (oD rfl) (by rfl) T.al (by kernel_rfl) (aG (fU (N:=["name"]) (src:=[none]) (osc:=aO mQ) (oN:=["thing"]) ⟨by rfl,by decide,by decide,by decide,rfl,by rfl⟩ (jO (pv 0))
     fun cl s H fp fc C=>⟨bJ (i:=0) (show(["name"]:List Str).Nodup by decide) rfl (AE rfl),dY,bC GN U (aG (pv 0) aF)⟩) aF))))),?_⟩
  refine⟨_,rfl,_,"tuple",_,_,rfl,lC hx,jK d,_,rfl,?_⟩;cases hd:fZ d with
  | false=>
   have e:uE d=false:=by
    cases d with
    | tuple ds=>simp[fZ]at hd
    | _=>rfl
   rw[e]at k;exact k H (aY.refl H)
  | true=>
   obtain⟨ds,rfl⟩:∃ ds,d=.tuple ds:=by
    cases d with
    | tuple z=>exact⟨z,rfl⟩
    | _=>simp[fZ]at hd
   cases hx with
   | @tup a xs _ e hl r=>
    have O:=r.len;have Y:∀ H',aY H H'→Q (.bl (ds.all bY)) H':=k;refine c8 ?_;refine⟨_,rfl,a,rfl,⟨xs,bG e⟩,?_⟩;refine i5 (xs:=xs) (fun i ys σ H'=>aY H H'∧ys=((ds.take i).map fun d=>V.bl (bY d))∧∃ o,σ=[o]) ⟨aY.refl H,rfl,none,rfl⟩ (aM (by omega)) (fun i ys σ H' p=>by rw[p.2.1,Ab,Am];omega) (fun i ys σ H' p=>bG (p.1 _ _ e)) ?_ ?_
    ·rintro i y ys σ H' hy ⟨S,rfl,o,rfl⟩;dsimp only[cC];obtain⟨d',hd',r'⟩:=r.at hy;refine c8 ?_;refine⟨_,rfl,m,y,d',rfl,r'.same S,fun H2 Z=>⟨S.trans Z,?_,_,rfl⟩⟩;rw[Bn,hd',AS];rfl
    ·rintro ys σ H1 ⟨S,rfl,o,rfl⟩ D hD;have J:Eo xs.length ds=ds:=BE (by omega);rw[J];have S1:=S.trans (aK (o:=.lst (ds.map fun d=>V.bl (bY d))) hD);refine⟨D,ds.map bY,rfl,aU (by rw[aH,Cn];rfl),?_⟩;rw[Ek];exact Y _ S1
theorem aIM:bU ["thing"] ["thing"] (aO mK):=⟨rfl,rfl,rfl,by decide,rfl,by decide,by decide⟩
theorem aG0{f:Ah}{fd:AH}(F:Fun K "all_parts" "all_parts" mK f fd)(T:Txt K mg)
  (GN:Cl P w K mg base 3 "is_part" ["thing"] aFs):
  b8 P w K mg base CX0 4 f fd ["thing"] aBE:=by
 refine F.ok aIM (fun vs H Q E h=>?_) (fun W A outer s H vs Q E U h=>?_)
 ·obtain⟨m,x,d,rfl,_⟩:=h;rfl
 ·obtain⟨m,x,d,rfl,hx,k⟩:=h;refine⟨_,aN (aV (dX (aP dN (by rfl) T.isi (by kernel_rfl) (aG (pv 0) (aG (dI (v:=.ty "tuple") (by rfl) T.tuple (by kernel_rfl) rfl) aF)))
   (fY (aP (oD rfl) (by rfl) T.al (by kernel_rfl) (aG (fU (N:=["part"]) (src:=[none]) (osc:=aO mK) (oN:=["thing"]) ⟨by rfl,by decide,by decide,by decide,rfl,by rfl⟩ (jO (pv 0))
     fun cl s H fp fc C=>⟨bJ (i:=0) (show(["part"]:List Str).Nodup by decide) rfl (AE rfl),dY,bC GN U (aG (pv 0) aF)⟩) aF))))),?_⟩
  refine⟨_,rfl,_,"tuple",_,_,rfl,lC hx,jK d,_,rfl,?_⟩;cases hd:fZ d with
  | false=>
   have e:yE d=false:=by
    cases d with
    | tuple ds=>simp[fZ]at hd
    | _=>rfl
   rw[e]at k;exact k H (aY.refl H)
  | true=>
   obtain⟨ds,rfl⟩:∃ ds,d=.tuple ds:=by
    cases d with
    | tuple z=>exact⟨z,rfl⟩
    | _=>simp[fZ]at hd
   cases hx with
   | @tup a xs _ e hl r=>
    have O:=r.len;have Y:∀ H',aY H H'→Q (.bl (ds.all fW)) H':=k;refine c8 ?_;refine⟨_,rfl,a,rfl,⟨xs,bG e⟩,?_⟩;refine i5 (xs:=xs) (fun i ys σ H'=>aY H H'∧ys=((ds.take i).map fun d=>V.bl (fW d))∧∃ o,σ=[o]) ⟨aY.refl H,rfl,none,rfl⟩ (aM (by omega)) (fun i ys σ H' p=>by rw[p.2.1,Ab,Am];omega) (fun i ys σ H' p=>bG (p.1 _ _ e)) ?_ ?_
    ·rintro i y ys σ H' hy ⟨S,rfl,o,rfl⟩;dsimp only[cC];obtain⟨d',hd',r'⟩:=r.at hy;refine c8 ?_;refine⟨_,rfl,m,y,d',rfl,r'.same S,fun H2 Z=>⟨S.trans Z,?_,_,rfl⟩⟩;rw[Bn,hd',AS];rfl
    ·rintro ys σ H1 ⟨S,rfl,o,rfl⟩ D hD;have J:Eo xs.length ds=ds:=BE (by omega);rw[J];have S1:=S.trans (aK (o:=.lst (ds.map fun d=>V.bl (fW d))) hD);refine⟨D,ds.map fW,rfl,aU (by rw[aH,Cn];rfl),?_⟩;rw[Ek];exact Y _ S1
inductive aAu(D:List Aj→Bool)(vs:List V)(H:Hp)(Q:VK)(u3_:XK):Prop
 | mk (m:Bool) (x:V) (ds:List Aj) (q0:vs=[x]) (q1:RdV m H x (.tuple ds)) (q2:∀ H',aY H H'→Q (.bl (D ds)) H'):aAu D vs H Q u3_
def eV(D:List Aj→Bool):Sp:=fun vs H Q u3_=>aAu D vs H Q u3_
def hZ:List Aj→Bool
 | [d1,d2]=>bY d1 && cK 0 10000000 d2
 | _=>false
theorem aAv{ds:List Aj}(h:ds.length≠2):hZ ds=false:=by
 match ds,h with
 | [],_=>rfl
 | [_],_=>rfl
 | [_,_],z=>exact absurd rfl z
 | _ :: _ :: _ :: _,_=>rfl
def p8:List Aj→Bool
 | [d1,d2,d3]=>bY d1 && cK 0 9999999 d2 && bY d3
 | _=>false
theorem aFu{ds:List Aj}(h:ds.length≠3):p8 ds=false:=by
 match ds,h with
 | [],_=>rfl
 | [_],_=>rfl
 | [_,_],_=>rfl
 | [_,_,_],z=>exact absurd rfl z
 | _ :: _ :: _ :: _ :: _,_=>rfl
def pW:List Aj→Bool
 | [d1]=>bY d1
 | _=>false
theorem aDO{ds:List Aj}(h:ds.length≠1):pW ds=false:=by
 match ds,h with
 | [],_=>rfl
 | [_],z=>exact absurd rfl z
 | _ :: _ :: _,_=>rfl
def g8:List Aj→Bool
 | [d1,d2,d3,d4]=>bY d1 && cK 0 9999999 d2 && cK 0 1000000000 d3 && cK 0 1000000 d4
 | _=>false
theorem aBF{ds:List Aj}(h:ds.length≠4):g8 ds=false:=by
 match ds,h with
 | [],_=>rfl
 | [_],_=>rfl
 | [_,_],_=>rfl
 | [_,_,_],_=>rfl
 | [_,_,_,_],z=>exact absurd rfl z
 | _ :: _ :: _ :: _ :: _ :: _,_=>rfl
theorem aBG:bU ["rest"] ["rest"] (aO iW):=⟨rfl,rfl,rfl,by decide,rfl,by decide,by decide⟩
theorem aAw{f:Ah}{fd:AH}(F:Fun K "fits_measure" "fits_measure" iW f fd)(T:Txt K mg)
  (GN:Cl P w K mg base 1 "is_name" ["thing"] i8)
  (GW:Cl P w K mg base 2 "is_whole" ["thing","least","most"] k9):
  b8 P w K mg base CX0 6 f fd ["rest"] (eV hZ):=by
 refine F.ok aBG (fun vs H Q E h=>?_) (fun ae A outer s H vs Q E J h=>?_)
 ·obtain⟨m,x,d,rfl,_⟩:=h;rfl
 ·obtain⟨m,x,ds,rfl,hx,k⟩:=h;have W:cQ 1 _:=J.mono (by decide);have O:cQ 2 _:=J.mono (by decide);have ad:cQ 3 _:=J.mono (by decide);obtain⟨tinches,hinches⟩:=T.inches;refine⟨_,aN (aV (dX (fS dM (aP aW (by rfl) T.len AI (aG (pv 0) aF)) aI (bX _)) (dX (bC GN W (aG (bZ cX (pv 0) aI Ig) aF)) (fY (bC GW O (aG (bZ cX (pv 0) aI Ig) (aG aI (aG (cE (v:=.int 10000000) (by rfl) hinches ⟨_,rfl⟩) aF)))))))),?_⟩;cases hx with
  | @tup a xs _ e hl r=>
   have Z:=r.len;refine⟨_,rfl,a,xs,rfl,.inr (bG e),rfl,_,rfl,?_⟩;by_cases hn:xs.length=2
   ·rw[Ic (show V.int (xs.length:Int)=V.int 2 by rw[hn];rfl)];refine c8 ?_
    match xs,ds,hn,r with
    | [x1,x2],[d1,d2],_,.cons r1 (.cons r2 (.nil))=>
     have Y:∀ H',aY H H'→Q (.bl (bY d1 && cK 0 10000000 d2)) H':=k;have U:=aY.refl H;refine⟨_,rfl,a,_,0,_,rfl,rfl,bG (U _ _ e),rfl,m,x1,d1,rfl,(r1.same U),fun H1 z1=>⟨_,rfl,?_⟩⟩;have s1:=U.trans z1;cases g0:(bY d1)with
     | false=>
      have q:=Y H1 s1;rw[g0]at q;simp only[C6]at q;refine c7 ?_;exact q
     | true=>
      refine c8 ?_;have q:=Y H1 s1;rw[g0,A7]at q;exact⟨_,rfl,a,_,1,_,rfl,rfl,bG (s1 _ _ e),rfl,m,x2,d2,0,10000000,rfl,(r2.same s1),q⟩
   ·rw[decide_eq_false (show¬ V.int (xs.length:Int)=V.int 2 from fun z=>hn (by injection z with z;omega))];refine c7 ?_;rw[aAv (by omega)]at k;exact k H (aY.refl H)
theorem aG1:bU ["rest"] ["rest"] (aO pT):=⟨rfl,rfl,rfl,by decide,rfl,by decide,by decide⟩
theorem aFv{f:Ah}{fd:AH}(F:Fun K "fits_view" "fits_view" pT f fd)(T:Txt K mg)
  (GN:Cl P w K mg base 1 "is_name" ["thing"] i8)
  (GI:Cl P w K mg base 3 "is_inch" ["thing"] aBD):
  b8 P w K mg base CX0 6 f fd ["rest"] (eV p8):=by
 refine F.ok aG1 (fun vs H Q E h=>?_) (fun ah A outer s H vs Q E O h=>?_)
 ·obtain⟨m,x,d,rfl,_⟩:=h;rfl
 ·obtain⟨m,x,ds,rfl,hx,k⟩:=h;have J:cQ 1 _:=O.mono (by decide);have ag:cQ 2 _:=O.mono (by decide);have U:cQ 3 _:=O.mono (by decide);refine⟨_,aN (aV (dX (fS dM (aP aW (by rfl) T.len AI (aG (pv 0) aF)) aI (bX _)) (dX (bC GN J (aG (bZ cX (pv 0) aI Ig) aF)) (dX (bC GI U (aG (bZ cX (pv 0) aI Ig) aF)) (fY (bC GN J (aG (bZ cX (pv 0) aI Ig) aF))))))),?_⟩;cases hx with
  | @tup a xs _ e hl r=>
   have ad:=r.len;refine⟨_,rfl,a,xs,rfl,.inr (bG e),rfl,_,rfl,?_⟩;by_cases hn:xs.length=3
   ·rw[Ic (show V.int (xs.length:Int)=V.int 3 by rw[hn];rfl)];refine c8 ?_
    match xs,ds,hn,r with
    | [x1,x2,x3],[d1,d2,d3],_,.cons r1 (.cons r2 (.cons r3 (.nil)))=>
     have W:∀ H',aY H H'→Q (.bl (bY d1 && cK 0 9999999 d2 && bY d3)) H':=k;have Y:=aY.refl H;refine⟨_,rfl,a,_,0,_,rfl,rfl,bG (Y _ _ e),rfl,m,x1,d1,rfl,(r1.same Y),fun H1 z1=>⟨_,rfl,?_⟩⟩;have s1:=Y.trans z1;cases Z:(bY d1)with
     | false=>
      have q:=W H1 s1;rw[Z]at q;simp only[C6]at q;refine c7 ?_;exact q
     | true=>
      refine c8 ?_;refine⟨_,rfl,a,_,1,_,rfl,rfl,bG (s1 _ _ e),rfl,m,x2,d2,rfl,(r2.same s1),_,rfl,?_⟩;cases g1:(cK 0 9999999 d2)with
      | false=>
       have q:=W H1 s1;rw[Z,A7,g1]at q;simp only[C6]at q;refine c7 ?_;exact q
      | true=>
       refine c8 ?_;refine⟨_,rfl,a,_,2,_,rfl,rfl,bG (s1 _ _ e),rfl,m,x3,d3,rfl,(r3.same s1),fun H3 z3=>?_⟩;have q:=W H3 (s1.trans z3);rw[Z,A7,g1,A7]at q;exact q
   ·rw[decide_eq_false (show¬ V.int (xs.length:Int)=V.int 3 from fun z=>hn (by injection z with z;omega))];refine c7 ?_;rw[aFu (by omega)]at k;exact k H (aY.refl H)
theorem aFw:bU ["rest"] ["rest"] (aO mU):=⟨rfl,rfl,rfl,by decide,rfl,by decide,by decide⟩
theorem aDP{f:Ah}{fd:AH}(F:Fun K "fits_alone" "fits_alone" mU f fd)(T:Txt K mg)
  (GN:Cl P w K mg base 1 "is_name" ["thing"] i8):
  b8 P w K mg base CX0 6 f fd ["rest"] (eV pW):=by
 refine F.ok aFw (fun vs H Q E h=>?_) (fun ac A outer s H vs Q E J h=>?_)
 ·obtain⟨m,x,d,rfl,_⟩:=h;rfl
 ·obtain⟨m,x,ds,rfl,hx,k⟩:=h;have U:cQ 1 _:=J.mono (by decide);have Z:cQ 2 _:=J.mono (by decide);have aa:cQ 3 _:=J.mono (by decide);refine⟨_,aN (aV (dX (fS dM (aP aW (by rfl) T.len AI (aG (pv 0) aF)) aI (bX _)) (fY (bC GN U (aG (bZ cX (pv 0) aI Ig) aF))))),?_⟩;cases hx with
  | @tup a xs _ e hl r=>
   have W:=r.len;refine⟨_,rfl,a,xs,rfl,.inr (bG e),rfl,_,rfl,?_⟩;by_cases hn:xs.length=1
   ·rw[Ic (show V.int (xs.length:Int)=V.int 1 by rw[hn];rfl)];refine c8 ?_
    match xs,ds,hn,r with
    | [x1],[d1],_,.cons r1 (.nil)=>
     have k':∀ H',aY H H'→Q (.bl (bY d1)) H':=k;have O:=aY.refl H;refine⟨_,rfl,a,_,0,_,rfl,rfl,bG (O _ _ e),rfl,m,x1,d1,rfl,(r1.same O),fun H1 Y=>?_⟩;have q:=k' H1 (O.trans Y);exact q
   ·rw[decide_eq_false (show¬ V.int (xs.length:Int)=V.int 1 from fun z=>hn (by injection z with z;omega))];refine c7 ?_;rw[aDO (by omega)]at k;exact k H (aY.refl H)
theorem aDQ:bU ["rest"] ["rest"] (aO kJ):=⟨rfl,rfl,rfl,by decide,rfl,by decide,by decide⟩
theorem aBH{f:Ah}{fd:AH}(F:Fun K "fits_breach" "fits_breach" kJ f fd)(T:Txt K mg)
  (GN:Cl P w K mg base 1 "is_name" ["thing"] i8)
  (GW:Cl P w K mg base 2 "is_whole" ["thing","least","most"] k9)
  (GI:Cl P w K mg base 3 "is_inch" ["thing"] aBD):
  b8 P w K mg base CX0 6 f fd ["rest"] (eV g8):=by
 refine F.ok aDQ (fun vs H Q E h=>?_) (fun ai A outer s H vs Q E Y h=>?_)
 ·obtain⟨m,x,d,rfl,_⟩:=h;rfl
 ·obtain⟨m,x,ds,rfl,hx,k⟩:=h;have ac:cQ 1 _:=Y.mono (by decide);have J:cQ 2 _:=Y.mono (by decide);have Z:cQ 3 _:=Y.mono (by decide);obtain⟨tpence,hpence⟩:=T.pence;obtain⟨tspades,hspades⟩:=T.spades;refine⟨_,aJ (cI (PW.pt (hU (bK vL (aP aW (by rfl) T.len AI (aG (pv 0) aF)) aI (bX _)) (hU (dR (dO (bC GN ac (aG (bZ cX (pv 0) aI Ig) aF)))) (fX (dR (dO (bC GI Z (aG (bZ cX (pv 0) aI Ig) aF)))))))) (aN (aV gC)) bH) (aN (aV (dX (bC GW J (aG (bZ cX (pv 0) aI Ig) (aG aI (aG (cE (v:=.int 1000000000) (by rfl) hpence ⟨_,rfl⟩) aF)))) (fY (bC GW J (aG (bZ cX (pv 0) aI Ig) (aG aI (aG (cE (v:=.int 1000000) (by rfl) hspades ⟨_,rfl⟩) aF)))))))),?_⟩;cases hx with
  | @tup a xs _ e hl r=>
   have ae:=r.len;refine⟨_,rfl,a,xs,rfl,.inr (bG e),rfl,_,rfl,?_⟩;by_cases hn:xs.length=4
   ·rw[Ic (show V.int (xs.length:Int)=V.int 4 by rw[hn];rfl)];refine c7 ?_
    match xs,ds,hn,r with
    | [x1,x2,x3,x4],[d1,d2,d3,d4],_,.cons r1 (.cons r2 (.cons r3 (.cons r4 (.nil))))=>
     have O:∀ H',aY H H'→Q (.bl (bY d1 && cK 0 9999999 d2 && cK 0 1000000000 d3 && cK 0 1000000 d4)) H':=k;have s0:=aY.refl H;refine⟨_,rfl,a,_,0,_,rfl,rfl,bG (s0 _ _ e),rfl,m,x1,d1,rfl,(r1.same s0),fun H1 z1=>⟨_,rfl,?_⟩⟩;have s1:=s0.trans z1;cases U:(bY d1)with
     | false=>
      have q:=O H1 s1;rw[U]at q;simp only[C6]at q;refine c8 ?_;exact q
     | true=>
      refine c7 ?_;refine⟨_,rfl,a,_,1,_,rfl,rfl,bG (s1 _ _ e),rfl,m,x2,d2,rfl,(r2.same s1),_,rfl,?_⟩;cases W:(cK 0 9999999 d2)with
      | false=>
       have q:=O H1 s1;rw[U,A7,W]at q;simp only[C6]at q;refine c8 ?_;exact q
      | true=>
       refine c7 ?_;refine⟨_,rfl,a,_,2,_,rfl,rfl,bG (s1 _ _ e),rfl,m,x3,d3,0,1000000000,rfl,(r3.same s1),_,rfl,?_⟩;cases g2:(cK 0 1000000000 d3)with
       | false=>
        have q:=O H1 s1;rw[U,A7,W,A7,g2]at q;simp only[C6]at q;refine c7 ?_;exact q
       | true=>
        refine c8 ?_;have q:=O H1 s1;rw[U,A7,W,A7,g2,A7]at q;exact⟨_,rfl,a,_,3,_,rfl,rfl,bG (s1 _ _ e),rfl,m,x4,d4,0,1000000,rfl,(r4.same s1),q⟩
   ·rw[decide_eq_false (show¬ V.int (xs.length:Int)=V.int 4 from fun z=>hn (by injection z with z;omega))];refine c8 ?_;rw[aBF (by omega)]at k;exact k H (aY.refl H)
def kK(ds:List Aj):Bool:=decide (ds.length=2) && ds.all bY
def qA:List Aj→Bool
 | [.str a,.str b]=>bW a && bW b && !decide (a=b)
 | _=>false
theorem aAx{ds:List Aj}(h:¬ (ds.length=2∧ds.all bY=true)):qA ds=false:=by
 unfold qA;split
 ·rename_i a b;have:¬ (bW a=true∧bW b=true):=fun z=>h ⟨rfl,by simp[bY,z.1,z.2]⟩;cases ha:bW a <;> cases F:bW b <;> simp_all
 ·rfl
theorem aIN{ds:List Aj}(h:ds.length=2)(g:ds.all bY=true):∃ a b,ds=[.str a,.str b]∧bW a=true∧bW b=true:=by
 match ds,h with
 | [d1,d2],_=>
  simp only[CW,List.all_nil,Bool.and_true,AX]at g;obtain⟨g1,g2⟩:=g;obtain⟨a,rfl,ha⟩:∃ a,d1=.str a∧bW a=true:=by
   cases d1 with
   | str a=>exact⟨a,rfl,g1⟩
   | _=>simp[bY]at g1
  obtain⟨b,rfl,hb⟩:∃ b,d2=.str b∧bW b=true:=by
   cases d2 with
   | str a=>exact⟨a,rfl,g2⟩
   | _=>simp[bY]at g2
  exact⟨a,b,rfl,ha,hb⟩
theorem aBI:bU ["rest"] ["rest"] (aO iV):=⟨rfl,rfl,rfl,by decide,rfl,by decide,by decide⟩
theorem aAy{f:Ah}{fd:AH}(F:Fun K "fits_forfeit" "fits_forfeit" iV f fd)(T:Txt K mg)
  (Z:Cl P w K mg base 2 "all_names" ["thing"] uF):
  b8 P w K mg base CX0 6 f fd ["rest"] (eV kK):=by
 refine F.ok aBI (fun vs H Q E h=>?_) (fun Y A outer s H vs Q E W h=>?_)
 ·obtain⟨m,x,d,rfl,_⟩:=h;rfl
 ·obtain⟨m,x,ds,rfl,hx,k⟩:=h;have J:cQ 2 _:=W.mono (by decide);refine⟨_,aN (aV (dX (fS dM (aP aW (by rfl) T.len AI (aG (pv 0) aF)) aI (bX _)) (fY (bC Z J (aG (pv 0) aF))))),?_⟩;have O:=hx;cases hx with
  | @tup a xs _ e hl r=>
   have U:=r.len;refine⟨_,rfl,a,xs,rfl,.inr (bG e),rfl,_,rfl,?_⟩;unfold kK at k;by_cases hn:xs.length=2
   ·rw[Ic (show V.int (xs.length:Int)=V.int 2 by rw[hn];rfl)];refine c8 ?_;rw[Ic (show ds.length=2 by omega),A7]at k;exact⟨_,rfl,m,_,_,rfl,O,k⟩
   ·rw[decide_eq_false (show¬ V.int (xs.length:Int)=V.int 2 from fun z=>hn (by injection z with z;omega))];refine c7 ?_;rw[decide_eq_false (show¬ ds.length=2 by omega)]at k;exact k H (aY.refl H)
theorem aG2:bU ["rest"] ["rest"] (aO pS):=⟨rfl,rfl,rfl,by decide,rfl,by decide,by decide⟩
theorem aFx{f:Ah}{fd:AH}(F:Fun K "fits_mend" "fits_mend" pS f fd)(T:Txt K mg)
  (GA:Cl P w K mg base 2 "all_names" ["thing"] uF):
  b8 P w K mg base CX0 6 f fd ["rest"] (eV qA):=by
 refine F.ok aG2 (fun vs H Q E h=>?_) (fun ac A outer s H vs Q E Y h=>?_)
 ·obtain⟨m,x,d,rfl,_⟩:=h;rfl
 ·obtain⟨m,x,ds,rfl,hx,k⟩:=h;have J:cQ 2 _:=Y.mono (by decide);refine⟨_,aN (aV (dX (fS dM (aP aW (by rfl) T.len AI (aG (pv 0) aF)) aI (bX _)) (dX (bC GA J (aG (pv 0) aF)) (fY (fS vL (bZ cX (pv 0) aI Ig) (bZ cX (pv 0) aI Ig) (bX _)))))),?_⟩;have O:=hx;cases hx with
  | @tup a xs _ e hl r=>
   have U:=r.len;refine⟨_,rfl,a,xs,rfl,.inr (bG e),rfl,_,rfl,?_⟩;by_cases hn:xs.length=2
   ·rw[Ic (show V.int (xs.length:Int)=V.int 2 by rw[hn];rfl)];refine c8 ?_;refine⟨_,rfl,m,_,_,rfl,O,fun H1 s1=>⟨_,rfl,?_⟩⟩;show if ds.all bY=true then _ else _
    refine dH (fun g=>?_) (fun g=>?_)
    ·obtain⟨z1,z2,rfl,h1,h2⟩:=aIN (by omega) g;cases r with
     | cons r1 r=>
      cases r with
      | cons Z r=>
       cases r;cases r1;cases Z;refine⟨_,rfl,a,_,0,_,rfl,rfl,bG (s1 _ _ e),rfl,_,rfl,a,_,1,_,rfl,rfl,bG (s1 _ _ e),rfl,rfl,?_⟩;have q:=k H1 s1;have W:qA [.str z1,.str z2]=!decide (V.str z1=V.str z2):=by
        show(bW z1 && bW z2 && !decide (z1=z2))=_;rw[h1,h2];by_cases hz:z1=z2
        ·subst hz;simp
        ·rw[decide_eq_false hz,decide_eq_false (fun e=>hz (by injection e))];rfl
       rw[W]at q;exact q
    ·rw[aAx fun z=>g z.2]at k;exact k H1 s1
   ·rw[decide_eq_false (show¬ V.int (xs.length:Int)=V.int 2 from fun z=>hn (by injection z with z;omega))];refine c7 ?_;rw[aAx fun z=>hn (by omega)]at k;exact k H (aY.refl H)
def eJ(ss:List Str):Bool:=decide (ss.Pairwise fun a b=>a.cps.toList < b.cps.toList)
def aAz:Aj→Str | .str z=>z | _=>Bd ""
def dD:Aj→Str
 | .tuple (.str z :: _)=>z
 | _=>Bd ""
def aCC:Aj→Bool
 | .tuple ds=>ds.all fW && decide (2≤ds.length∧ds.length≤6) && eJ (ds.map dD)
 | _=>false
def aAA:Aj→Bool
 | .tuple ds=>ds.all bY && decide (2≤ds.length∧ds.length≤6) && eJ (ds.map aAz)
 | _=>false
inductive uG(vs:List V)(H:Hp)(Q:VK)(u3_:XK):Prop
 | mk (a:Ah) (ss:List Str) (q0:vs=[.ref a]) (q1:(H a=some (.lst (ss.map V.str))∨H a=some (.tup (ss.map V.str)))) (q2:ss.length≤6) (q3:∀ H',aY H H'→Q (.bl (eJ ss)) H'):uG vs H Q u3_
def uH:Sp:=fun vs H Q u3_=>uG vs H Q u3_
inductive aAB(vs:List V)(H:Hp)(Q:VK)(u3_:XK):Prop
 | mk (m:Bool) (x:V) (d:Aj) (q0:vs=[x]) (q1:RdV m H x d) (q2:∀ H',aY H H'→Q (.bl (aCC d)) H'):aAB vs H Q u3_
def aFy:Sp:=fun vs H Q u3_=>aAB vs H Q u3_
inductive aAC(vs:List V)(H:Hp)(Q:VK)(u3_:XK):Prop
 | mk (m:Bool) (x:V) (d:Aj) (q0:vs=[x]) (q1:RdV m H x d) (q2:∀ H',aY H H'→Q (.bl (aAA d)) H'):aAC vs H Q u3_
def aFz:Sp:=fun vs H Q u3_=>aAC vs H Q u3_
theorem uI{m:Bool}{H:Hp}:∀{xs:List V}{ds:List Aj},cF m H xs ds→ds.all bY=true→xs=(ds.map aAz).map V.str
 | _,_,.nil,_=>rfl
 | _,_,.cons (d:=d) r rs,h=>by
  rw[CW,AX]at h;have F:=uI rs h.2;cases d with
  | str z=>
   cases r;rw[F];rfl
  | _=>simp[bY]at h
theorem aIO:bU ["thing"] ["thing"] (aO pP):=⟨rfl,rfl,rfl,by decide,rfl,by decide,by decide⟩
theorem aG3{f:Ah}{fd:AH}(F:Fun K "are_lands" "are_lands" pP f fd)(T:Txt K mg)
  (GA:Cl P w K mg base 2 "all_names" ["thing"] uF)
  (GR:Cl P w K mg base 1 "is_rising" ["things"] uH):
  b8 P w K mg base CX0 5 f fd ["thing"] aFz:=by
 refine F.ok aIO (fun vs H Q E h=>?_) (fun af A outer s H vs Q E hr h=>?_)
 ·obtain⟨m,x,d,rfl,_⟩:=h;rfl
 ·obtain⟨m,x,d,rfl,hx,k⟩:=h;have W:cQ 1 _:=hr.mono (by decide);have U:cQ 2 _:=hr.mono (by decide);obtain⟨tf,hfew⟩:=T.fewest;obtain⟨tm,hmost⟩:=T.most;refine⟨_,aN (aV (dX (bC GA U (aG (pv 0) aF)) (dX (rM m3 m3 (cE (v:=.int 2) (by rfl) hfew ⟨_,rfl⟩) (aP aW (by rfl) T.len AI (aG (pv 0) aF)) (cE (v:=.int 6) (by rfl) hmost ⟨_,rfl⟩)) (fY (bC GR W (aG (pv 0) aF)))))),_,rfl,m,x,d,rfl,hx,fun H1 s1=>⟨_,rfl,?_⟩⟩;refine dH (fun g=>?_) (fun g=>?_)
  ·obtain⟨ds,rfl⟩:∃ ds,d=.tuple ds:=by
    cases d with
    | tuple z=>exact⟨z,rfl⟩
    | _=>simp[uE]at g
   have J:ds.all bY=true:=g;cases hx with
   | @tup a xs _ e hl r=>
    have ae:=r.len;have k':∀ H',aY H H'→Q (.bl (decide (2≤ds.length∧ds.length≤6) && eJ (ds.map aAz))) H':=fun H' s'=>by
     have q:Q (.bl (ds.all bY && decide (2≤ds.length∧ds.length≤6) && eJ (ds.map aAz))) H':=k H' s';rw[J,A7]at q;exact q
    have bad:¬ (2≤ds.length∧ds.length≤6)→Q (.bl false) H1:=fun h=>by
     have q:=k' H1 s1;rw[decide_eq_false h]at q;exact q
    refine⟨_,rfl,a,xs,rfl,.inr (bG (s1 _ _ e)),_,_,rfl,rfl,_,rfl,dH (fun O=>?_) (fun O=>?_)⟩
    ·have aa:(2:Int)≤xs.length:=Ie O;refine⟨_,_,rfl,rfl,_,rfl,dH (fun Y=>?_) (fun Y=>?_)⟩
     ·have Z:(xs.length:Int)≤6:=Ie Y;refine⟨_,rfl,a,ds.map aAz,rfl,.inr ?_,by rw[Ab];omega,fun H2 s2=>?_⟩
      ·rw[← uI r J];exact s1 _ _ e
      ·have q:=k' H2 (s1.trans s2);rw[Ic (by omega),A7]at q;exact q
     ·have Z:¬ (xs.length:Int)≤6:=fun z=>Y (Ic z);exact bad (by omega)
    ·have aa:¬ (2:Int)≤xs.length:=fun z=>O (Ic z);refine⟨_,rfl,c7 ?_⟩;exact bad (by omega)
  ·have J:uE d=false:=by simpa using g
   have e:aAA d=false:=by
    cases d with
    | tuple ds=>
     have z:ds.all bY=false:=J;show(ds.all bY && decide (2≤ds.length∧ds.length≤6) && eJ (ds.map aAz))=false;rw[z];rfl
    | _=>rfl
   rw[e]at k;exact k H1 s1
theorem aIP:bU ["thing"] ["thing"] (aO mS):=⟨rfl,rfl,rfl,by decide,rfl,by decide,by decide⟩
theorem aDR{m:Bool}{H:Hp}{x:V}{d:Aj}(r:RdV m H x d)(h:fW d=true):∃ a xs,x=.ref a∧H a=some (.tup xs)∧atI xs 0=some (V.str (dD d)):=by
 cases d with
 | tuple ds=>
  cases r with
  | @tup a xs _ e _ r=>
   cases r with
   | nil=>simp[fW]at h
   | @cons O d1 _ _ F rs=>
    have hn:bY d1=true:=by
     unfold fW at h;split at h
     ·rename_i J;cases J;simp only[AX]at h;exact h.1.1
     ·cases h
    cases d1 with
    | str z=>
     cases F;refine⟨a,_,rfl,e,?_⟩;unfold atI ixN;rw[Ib (by decide),Ib (by rw[AM];omega)];rfl
    | _=>simp[bY]at hn
 | _=>simp[fW]at h
theorem aG4{f:Ah}{fd:AH}(F:Fun K "are_parts" "are_parts" mS f fd)(T:Txt K mg)
  (GA:Cl P w K mg base 4 "all_parts" ["thing"] aBE)
  (GR:Cl P w K mg base 1 "is_rising" ["things"] uH):
  b8 P w K mg base CX0 5 f fd ["thing"] aFy:=by
 refine F.ok aIP (fun vs H Q E h=>?_) (fun ae A outer s H vs Q E Y h=>?_)
 ·obtain⟨m,x,d,rfl,_⟩:=h;rfl
 ·obtain⟨m,x,d,rfl,hx,k⟩:=h;have O:cQ 1 _:=Y.mono (by decide);obtain⟨tf,hfew⟩:=T.fewest;obtain⟨tm,hmost⟩:=T.most;refine⟨_,aJ (cI (PW.pt (hU (dR (dO (bC GA Y (aG (pv 0) aF)))) (fX (dR (rN m3 m3 (cE (v:=.int 2) (by rfl) hfew ⟨_,rfl⟩) (aP aW (by rfl) T.len AI (aG (pv 0) aF)) (cE (v:=.int 6) (by rfl) hmost ⟨_,rfl⟩)))))) (aN (aV gC)) bH)
   (aN (aV (bC GR O (aG (fU (N:=["part"]) (src:=[none]) (osc:=aO mS) (oN:=["thing"]) ⟨by rfl,by decide,by decide,by decide,rfl,by rfl⟩ (jO (pv 0))
     fun cl s H fp fc C=>⟨bJ (i:=0) (show(["part"]:List Str).Nodup by decide) rfl (AE rfl),dY,bZ (r:=aGu K) cX (pv 0) aI Ig⟩) aF)))),?_⟩
  refine⟨_,rfl,m,x,d,rfl,hx,fun H1 s1=>⟨_,rfl,?_⟩⟩;cases g:yE d with
  | false=>
   refine c8 ?_;have e:aCC d=false:=by
    cases d with
    | tuple ds=>
     have z:ds.all fW=false:=g;show(ds.all fW && decide (2≤ds.length∧ds.length≤6) && eJ (ds.map dD))=false;rw[z];rfl
    | _=>rfl
   rw[e]at k;exact k H1 s1
  | true=>
   refine c7 ?_;obtain⟨ds,rfl⟩:∃ ds,d=.tuple ds:=by
    cases d with
    | tuple z=>exact⟨z,rfl⟩
    | _=>simp[yE]at g
   have Z:ds.all fW=true:=g;cases hx with
   | @tup a xs _ e hl r=>
    have ac:=r.len;have k':∀ H',aY H H'→Q (.bl (decide (2≤ds.length∧ds.length≤6) && eJ (ds.map dD))) H':=fun H' s'=>by
     have q:Q (.bl (ds.all fW && decide (2≤ds.length∧ds.length≤6) && eJ (ds.map dD))) H':=k H' s';rw[Z,A7]at q;exact q
    have bad:¬ (2≤ds.length∧ds.length≤6)→Q (.bl false) H1:=fun h=>by
     have q:=k' H1 s1;rw[decide_eq_false h]at q;exact q
    refine⟨_,rfl,a,xs,rfl,.inr (bG (s1 _ _ e)),_,_,rfl,rfl,_,rfl,dH (fun J=>?_) (fun J=>?_)⟩
    ·have W:(2:Int)≤xs.length:=Ie J;refine⟨_,_,rfl,rfl,_,rfl,?_⟩;by_cases g2:(xs.length:Int)≤6
     ·rw[Ic g2];refine c7 ?_;refine⟨_,rfl,a,rfl,⟨xs,bG (s1 _ _ e)⟩,?_⟩;refine i5 (xs:=xs) (fun i ys σ H'=>aY H1 H'∧ys=((ds.take i).map fun d=>V.str (dD d))∧∃ o,σ=[o]) ⟨aY.refl H1,rfl,none,rfl⟩ (aM (by omega)) (fun i ys σ H' p=>by rw[p.2.1,Ab,Am];omega) (fun i ys σ H' p=>bG (p.1 _ _ (s1 _ _ e))) ?_ ?_
      ·rintro i y ys σ H' hy ⟨S,rfl,o,rfl⟩;dsimp only[cC];obtain⟨d',hd',r'⟩:=r.at hy;obtain⟨b,zs,rfl,hb,hat⟩:=aDR ((r'.same s1).same S) (Bg.mp Z d' (Ax hd'));refine c8 ?_;refine⟨_,rfl,b,zs,0,_,rfl,rfl,bG hb,hat,S,?_,_,rfl⟩;rw[Bn,hd',AS];rfl
      ·rintro ys σ H2 ⟨S,rfl,o,rfl⟩ D hD;have U:Eo xs.length ds=ds:=BE (by omega);rw[U];have S1:=S.trans (aK (o:=.lst (ds.map fun d=>V.str (dD d))) hD);refine⟨D,ds.map dD,rfl,.inl (by rw[aH,Cn];rfl),by rw[Ab];omega,fun H3 s3=>?_⟩;have q:=k' H3 ((s1.trans S1).trans s3);rw[Ic (by omega),A7]at q;exact q
     ·rw[decide_eq_false g2];refine c8 ?_;exact bad (by omega)
    ·have W:¬ (2:Int)≤xs.length:=fun z=>J (Ic z);refine⟨_,rfl,c8 ?_⟩;exact bad (by omega)
def aAD:List Aj→Bool
 | [d1,d2]=>bY d1 && aCC d2
 | _=>false
def wG:List Aj→Bool
 | [d1,d2]=>aAA d1 && bY d2
 | _=>false
theorem aFA{ds:List Aj}(h:ds.length≠2):aAD ds=false:=by
 match ds,h with
 | [],_=>rfl
 | [_],_=>rfl
 | [_,_],z=>exact absurd rfl z
 | _ :: _ :: _ :: _,_=>rfl
theorem aFB{ds:List Aj}(h:ds.length≠2):wG ds=false:=by
 match ds,h with
 | [],_=>rfl
 | [_],_=>rfl
 | [_,_],z=>exact absurd rfl z
 | _ :: _ :: _ :: _,_=>rfl
theorem aG5:bU ["rest"] ["rest"] (aO pQ):=⟨rfl,rfl,rfl,by decide,rfl,by decide,by decide⟩
theorem aFC{f:Ah}{fd:AH}(F:Fun K "fits_part" "fits_part" pQ f fd)(T:Txt K mg)
  (GN:Cl P w K mg base 1 "is_name" ["thing"] i8)
  (GA:Cl P w K mg base 5 "are_parts" ["thing"] aFy):
  b8 P w K mg base CX0 6 f fd ["rest"] (eV aAD):=by
 refine F.ok aG5 (fun vs H Q E h=>?_) (fun Y A outer s H vs Q E O h=>?_)
 ·obtain⟨m,x,d,rfl,_⟩:=h;rfl
 ·obtain⟨m,x,ds,rfl,hx,k⟩:=h;have J:cQ 1 _:=O.mono (by decide);refine⟨_,aN (aV (dX (fS dM (aP aW (by rfl) T.len AI (aG (pv 0) aF)) aI (bX _)) (dX (bC GN J (aG (bZ cX (pv 0) aI Ig) aF)) (fY (bC GA O (aG (bZ cX (pv 0) aI Ig) aF)))))),?_⟩;cases hx with
  | @tup a xs _ e hl r=>
   have W:=r.len;refine⟨_,rfl,a,xs,rfl,.inr (bG e),rfl,_,rfl,?_⟩;by_cases hn:xs.length=2
   ·rw[Ic (show V.int (xs.length:Int)=V.int 2 by rw[hn];rfl)];refine c8 ?_
    match xs,ds,hn,r with
    | [x1,x2],[d1,d2],_,.cons r1 (.cons r2 .nil)=>
     have U:∀ H',aY H H'→Q (.bl (bY d1 && aCC d2)) H':=k;refine⟨_,rfl,a,_,0,_,rfl,rfl,bG e,rfl,m,x1,d1,rfl,r1,fun H1 s1=>⟨_,rfl,?_⟩⟩;refine dH (fun g=>?_) (fun g=>?_)
     ·refine⟨_,rfl,a,_,1,_,rfl,rfl,bG (s1 _ _ e),rfl,m,x2,d2,rfl,r2.same s1,fun H2 Z=>?_⟩;have q:=U H2 (s1.trans Z);rw[g,A7]at q;exact q
     ·have q:=U H1 s1;rw[(by simpa using g:bY d1=false)]at q;exact q
   ·rw[decide_eq_false (show¬ V.int (xs.length:Int)=V.int 2 from fun z=>hn (by injection z with z;omega))];refine c7 ?_;rw[aFA (by omega)]at k;exact k H (aY.refl H)
theorem aG6:bU ["rest"] ["rest"] (aO pR):=⟨rfl,rfl,rfl,by decide,rfl,by decide,by decide⟩
theorem aFD{f:Ah}{fd:AH}(F:Fun K "fits_join" "fits_join" pR f fd)(T:Txt K mg)
  (GN:Cl P w K mg base 1 "is_name" ["thing"] i8)
  (GA:Cl P w K mg base 5 "are_lands" ["thing"] aFz):
  b8 P w K mg base CX0 6 f fd ["rest"] (eV wG):=by
 refine F.ok aG6 (fun vs H Q E h=>?_) (fun Y A outer s H vs Q E O h=>?_)
 ·obtain⟨m,x,d,rfl,_⟩:=h;rfl
 ·obtain⟨m,x,ds,rfl,hx,k⟩:=h;have J:cQ 1 _:=O.mono (by decide);refine⟨_,aN (aV (dX (fS dM (aP aW (by rfl) T.len AI (aG (pv 0) aF)) aI (bX _)) (dX (bC GA O (aG (bZ cX (pv 0) aI Ig) aF)) (fY (bC GN J (aG (bZ cX (pv 0) aI Ig) aF)))))),?_⟩;cases hx with
  | @tup a xs _ e hl r=>
   have W:=r.len;refine⟨_,rfl,a,xs,rfl,.inr (bG e),rfl,_,rfl,?_⟩;by_cases hn:xs.length=2
   ·rw[Ic (show V.int (xs.length:Int)=V.int 2 by rw[hn];rfl)];refine c8 ?_
    match xs,ds,hn,r with
    | [x1,x2],[d1,d2],_,.cons r1 (.cons r2 .nil)=>
     have U:∀ H',aY H H'→Q (.bl (aAA d1 && bY d2)) H':=k;refine⟨_,rfl,a,_,0,_,rfl,rfl,bG e,rfl,m,x1,d1,rfl,r1,fun H1 s1=>⟨_,rfl,?_⟩⟩;refine dH (fun g=>?_) (fun g=>?_)
     ·refine⟨_,rfl,a,_,1,_,rfl,rfl,bG (s1 _ _ e),rfl,m,x2,d2,rfl,r2.same s1,fun H2 Z=>?_⟩;have q:=U H2 (s1.trans Z);rw[g,A7]at q;exact q
     ·have q:=U H1 s1;rw[(by simpa using g:aAA d1=false)]at q;exact q
   ·rw[decide_eq_false (show¬ V.int (xs.length:Int)=V.int 2 from fun z=>hn (by injection z with z;omega))];refine c7 ?_;rw[aFB (by omega)]at k;exact k H (aY.refl H)
def eG:List Str:=["part","join","forfeit","measure","mend","alone","breach","view"]
def eB(kind:Str)(ds:List Aj):Bool:=
 if kind="part" then aAD ds else if kind="join" then wG ds else if kind="forfeit" then kK ds else if kind="measure" then hZ ds else if kind="mend" then qA ds else if kind="alone" then pW ds else if kind="breach" then g8 ds else p8 ds
def rowD:Aj→Bool
 | .tuple (.str kind :: name :: day :: cM)=>decide (kind∈eG) && (bY name && (cK 0 9999 day && eB kind cM))
 | _=>false
inductive wH(vs:List V)(H:Hp)(Q:VK)(u3_:XK):Prop
 | mk (m:Bool) (x:V) (d:Aj) (q0:vs=[x]) (q1:RdV m H x d) (q2:∀ H',aY H H'→Q (.bl (rowD d)) H'):wH vs H Q u3_
def aCD:Sp:=fun vs H Q u3_=>wH vs H Q u3_
theorem aBJ{ds:List Aj}(h:ds.length < 3):rowD (.tuple ds)=false:=by
 match ds,h with
 | [],_=>rfl
 | [d],_=>cases d <;> rfl
 | [d,_],_=>cases d <;> rfl
theorem aDS{d1 J F:Aj}{ds:List Aj}(h:wE d1=false):rowD (.tuple (d1 :: J :: F :: ds))=false:=by
 cases d1 with
 | str z=>simp[wE]at h
 | _=>rfl
theorem oQ:bU ["thing","kind","name","day","fits"] ["thing"] (aO aBv):=⟨rfl,rfl,rfl,by decide,rfl,by decide,by decide⟩
theorem aFE{f ra:Ah}{fd:AH}{ae:List (Key×Ac)}{fg:List (Key×V)}(F:Fun K "is_row" "is_row" aBv f fd)(T:Txt K mg)
  (Z:∀ h:Ba,K.In h→h.DictOf (c9 P w) ra ae) (rel:KV fg ae) (hz:(ra == sysModules)=false) (mF:mg "FORMS"=some (.ref ra))
  (Y:∀ kind:Str,(fJ fg (Aw kind)).isSome=decide (kind∈eG))
  (ak:∀(kind:Str) (v:V),fJ fg (Aw kind)=some v→∃(a:Ah) (fd:AH),v=.ref a∧b8 P w K mg base CX0 6 a fd ["rest"] (eV (eB kind))∧Au K (.ref a)=true∧cZ K fd ["rest"] [])
  (GN:Cl P w K mg base 1 "is_name" ["thing"] i8)
  (GW:Cl P w K mg base 2 "is_whole" ["thing","least","most"] k9):
  b8 P w K mg base CX0 7 f fd ["thing"] aCD:=by
 refine F.ok oQ (fun vs H Q E h=>?_) (fun aA A outer s H vs Q E hr h=>?_)
 ·obtain⟨m,x,d,rfl,_⟩:=h;rfl
 ·obtain⟨m,x,d,rfl,hx,k⟩:=h;have am:cQ 1 _:=hr.mono (by decide);have ai:cQ 2 _:=hr.mono (by decide);obtain⟨tl,hlast⟩:=T.lastDay;refine⟨_,aJ (cI (PW.pt (hU (dR (dO (aP dN (by rfl) T.isi (by kernel_rfl) (aG (pv 0) (aG (dI (v:=.ty "tuple") (by rfl) T.tuple (by kernel_rfl) rfl) aF)))))
    (fX (bK aEd (aP aW (by rfl) T.len AI (aG (pv 0) aF)) aI (bX _))))) (aN (aV gC)) bH)
   (aJ (jN (cB eI (pv 0) cN (cO aI)) (nM rfl (cT (bJ (i:=1) oQ.nd rfl (AE rfl)) (cT (bJ (i:=2) oQ.nd rfl (AE rfl)) (cT (bJ (i:=3) oQ.nd rfl (AE rfl)) kW)))))
   (aJ (cI (PW.pt (hU (dR (dO (aP dN (by rfl) T.isi (by kernel_rfl) (aG (pv 1) (aG (dI (v:=.ty "str") (by rfl) T.str (by kernel_rfl) rfl) aF)))))
    (fX (bK (aDp Z rel hz) (pv 1) (cE (v:=.ref ra) (by rfl) mF rfl) (by with_unfolding_all rfl))))) (aN (aV gC)) bH)
   (aJ (cI (PW.pt (hU (dR (dO (bC GN am (aG (pv 2) aF)))) (fX (dR (dO (bC GW ai (aG (pv 3) (aG aI (aG (cE (v:=.int 9999) (by rfl) hlast ⟨_,rfl⟩) aF))))))))) (aN (aV gC)) bH)
   (aJ (aZ (i:=4) oQ.nd rfl (AE rfl) (aCf Z rel (by rfl) mF (pv 1) Ig))
   (aN (aV (aEK (k:=6) (ps:=["rest"]) (pv 4) hr (aG (cB eI (pv 0) (cO aI) cN) aF)))))))),?_⟩
  refine⟨_,rfl,_,"tuple",_,_,rfl,lC hx,jK d,_,rfl,?_⟩;cases hd:fZ d with
  | false=>
   have e:rowD d=false:=by
    cases d with
    | tuple ds=>simp[fZ]at hd
    | _=>rfl
   rw[e]at k;exact k H (aY.refl H)
  | true=>
   obtain⟨ds,rfl⟩:∃ ds,d=.tuple ds:=by
    cases d with
    | tuple z=>exact⟨z,rfl⟩
    | _=>simp[fZ]at hd
   cases hx with
   | @tup a xs _ e hl r=>
    have au:=r.len;refine c7 ?_;refine⟨_,rfl,a,xs,rfl,.inr (bG e),_,_,rfl,rfl,_,rfl,?_⟩;by_cases hn:(xs.length:Int) < 3
    ·rw[Ic hn];refine c8 ?_;rw[aBJ (by omega)]at k;exact k H (aY.refl H)
    ·rw[decide_eq_false hn];refine c7 ?_;obtain⟨x1,W,U,J,rfl⟩:∃ x1 W U J,xs=x1 :: W :: U :: J:=by
      match xs,hn with
      | [],z=>exact absurd (by decide) z
      | [_],z=>exact absurd (show(1:Int) < 3 by decide) z
      | [_,_],z=>exact absurd (show(2:Int) < 3 by decide) z
      | a :: b :: c :: r,_=>exact⟨a,b,c,r,rfl⟩
     cases r with
     | @cons _ d1 _ _ r1 r=>
     cases r with
     | @cons _ d2 _ _ r2 r=>
     cases r with
     | @cons _ d3 _ ds ag rr=>
     refine⟨_,rfl,_,rfl,a,_,rfl,e,fun t H1 s1 ht=>?_⟩;have ec:dQ (x1 :: W :: U :: J) none (some 3)=[x1,W,U]:=gM (α:=Nat) (x1 :: W :: U :: J) 3;rw[ec]at ht;refine⟨t,_,rfl,bG ht,rfl,_,_,rfl,_,_,rfl,_,_,rfl,rfl,_,rfl,_,"str",_,_,rfl,lC (r1.same s1),aCA d1,_,rfl,?_⟩;cases hk:wE d1 with
     | false=>
      rw[aDS hk]at k;exact k H1 s1
     | true=>
      obtain⟨kind,rfl⟩:∃ z,d1=.str z:=by
       cases d1 with
       | str z=>exact⟨z,rfl⟩
       | _=>simp[wE]at hk
      cases r1;refine c7 ?_;refine⟨_,rfl,Aw kind,rfl,rfl,_,rfl,?_⟩;rw[Y kind];have k':∀ H',aY H H'→Q (.bl (decide (kind∈eG) && (bY d2 && (cK 0 9999 d3 && eB kind ds)))) H':=k;by_cases hw:kind∈eG
      ·rw[Ic hw];refine c7 ?_;rw[Ic hw,A7]at k';refine⟨_,rfl,m,W,d2,rfl,r2.same s1,fun H2 s2=>⟨_,rfl,?_⟩⟩;have O:=s1.trans s2;cases g:bY d2 with
       | false=>
        refine c8 ?_;have q:=k' H2 O;rw[g]at q;exact q
       | true=>
        refine c7 ?_;refine⟨_,rfl,m,U,d3,0,9999,rfl,ag.same O,_,rfl,?_⟩;cases g2:cK 0 9999 d3 with
        | false=>
         refine c8 ?_;have q:=k' H2 O;rw[g,g2]at q;exact q
        | true=>
         refine c7 ?_;have hs:=Y kind;rw[Ic hw]at hs;obtain⟨v,hv⟩:=Option.isSome_iff_exists.mp hs;obtain⟨fa,fda,rfl,FG,fk,fb⟩:=ak kind v hv;refine⟨_,rfl,Aw kind,_,rfl,hv,_,rfl,fa,eV (eB kind),rfl,⟨fda,FG,fk,fb⟩,_,rfl,_,rfl,a,_,rfl,O _ _ e,fun t2 H3 s3 ac=>?_⟩;have ed:dQ (V.str kind :: W :: U :: J) (some 3) none=J:=eQ (α:=Nat) (V.str kind :: W :: U :: J) 3;rw[ed]at ac;refine⟨m,_,ds,rfl,.tup ac (by simp only[AM]at hl;omega) ((rr.same O).same s3),fun H4 s4=>?_⟩;have q:=k' H4 ((O.trans s3).trans s4);rw[g,g2,A7,A7]at q;exact q
      ·rw[decide_eq_false hw];refine c8 ?_;have q:=k' H1 s1;rw[decide_eq_false hw]at q;exact q
inductive qB(vs:List V)(H:Hp)(Q:VK)(u3_:XK):Prop
 | mk (t:Ah) (word:Str) (x1 x2 x3:V) (cM:List V) (q0:vs=[.ref t]) (q1:H t=some (.tup (.str word :: x1 :: x2 :: x3 :: cM))) (q2:∀ H',aY H H'→Q (if inV (.str word) [V.str "measure",.str "breach",.str "view"]=true then x3 else .non) H'):qB vs H Q u3_
def wI:Sp:=fun vs H Q u3_=>qB vs H Q u3_
theorem aDT:bU ["row"] ["row"] (aO uA):=⟨rfl,rfl,rfl,by decide,rfl,by decide,by decide⟩
theorem aBK{f:Ah}{fd:AH}(F:Fun K "field_of" "field_of" uA f fd):b8 P w K mg base CX0 1 f fd ["row"] wI:=by
 refine F.ok aDT (fun vs H Q E h=>?_) (fun J A outer s H vs Q E W h=>?_)
 ·obtain⟨t,word,x1,x2,x3,cM,rfl,_⟩:=h;rfl
 ·obtain⟨t,word,x1,x2,x3,cM,rfl,ht,k⟩:=h;refine⟨_,aJ (cI (bK pE (bZ cX (pv 0) aI Ig) (cA (aG aT (aG aT (aG aT aF)))) (by with_unfolding_all rfl)) (aN (aV (bZ cX (pv 0) aI Ig))) bH)
   (aN (aV iB)),?_⟩
  have Y:(V.str word :: x1 :: x2 :: x3 :: cM).length=cM.length + 4:=rfl;have U:atI (V.str word :: x1 :: x2 :: x3 :: cM) 0=some (.str word):=bS (j:=0) rfl;have a3:atI (V.str word :: x1 :: x2 :: x3 :: cM) 3=some x3:=bS (j:=3) rfl;refine⟨_,rfl,t,_,0,_,rfl,rfl,bG ht,U,zZ3,fun q O=>?_⟩;have z:=aK (o:=.tup [V.str "measure",.str "breach",.str "view"]) O;refine⟨q,_,rfl,.inr (bG aH),rfl,rfl,_,rfl,?_⟩;have k1:=k _ z;rw[Ia AN];refine dH (fun g=>?_) (fun g=>?_)
  ·rw[Ib g]at k1;exact⟨_,rfl,t,_,3,_,rfl,rfl,bG (z _ _ ht),a3,k1⟩
  ·rw[Ia g]at k1;exact k1
def aHK:Aj→Bool | .list _=>true | _=>false
def iK:Aj→Bool | .list _=>true | .tuple _=>true | _=>false
theorem aG7{K:Ag}(d:Aj):Bs K (.type (tyN d)) (.type "list")=some (aHK d):=by
 cases d <;> dsimp only[tyN,aHK] <;> first | exact lO | exact sY (by decide) (by decide) (by decide)
theorem mW{K:Ag}(d:Aj):CZ K (.type (tyN d)) [.type "list",.type "tuple"]=some (iK d):=by
 simp only[CZ,aG7,jK];cases d <;> rfl
def dB:Nat→Aj→Aj
 | 0,d=>d
 | n + 1,.list ds=>.tuple (ds.map (dB n))
 | n + 1,.tuple ds=>.tuple (ds.map (dB n))
 | _ + 1,d=>d
def qP:Aj:=.dict [(.none,.none)]
def RdX(m:Bool)(H:Hp)(x:V)(d:Aj):Prop:=RdV m H x d∨(d=qP∧∃ a fg,x=.ref a∧H a=some (.dK fg))
theorem RdX.same{m:Bool}{H H':Hp}{x:V}{d:Aj}(h:RdX m H x d)(s:aY H H'):RdX m H' x d:=by
 rcases h with h | ⟨h,a,fg,e,z⟩
 ·exact .inl (h.same s)
 ·exact .inr ⟨h,a,fg,e,s _ _ z⟩
theorem RdX.ty{K:Ag}{m:Bool}{H:Hp}{x:V}{d:Aj}(h:RdX m H x d):iD K H x (.type (tyN d)):=by
 rcases h with h | ⟨rfl,a,fg,rfl,z⟩
 ·exact lC h
 ·exact .dK z
theorem RdX.rd{m:Bool}{H:Hp}{x:V}{d:Aj}(h:RdX m H x d)(n:d≠qP):RdV m H x d:=by
 rcases h with h | ⟨h,_⟩
 ·exact h
 ·exact absurd h n
theorem uJ{n:Nat}{d:Aj}(h:dB n d=qP):d=qP:=by
 cases n with
 | zero=>exact h
 | succ n=>
  cases d with
  | list ds=>cases h
  | tuple ds=>cases h
  | _=>exact h
inductive aFF(n:Nat)(m:Bool)(H:Hp)(x:V)(d:Aj):Prop
 | mk (a:_) (xs:_) (ds:_) (q0:x=.ref a) (q1:d=.tuple ds) (q2:H a=some (.tup xs)) (q3:xs.length≤1000) (q4:xs.length=ds.length) (q5:∀(i:Nat) (y:V),xs[i]?=some y→∃ m' e,ds[i]?=some e∧RdV m' H y e∧∀ z H',RdV m' H' z (dB n e)→RdV m H' z (dB n e)):aFF n m H x d
def aFG(n:Nat)(m:Bool)(H:Hp)(x:V)(d:Aj):Prop:=aFF n m H x d
theorem aFG.same{n:Nat}{m:Bool}{H H':Hp}{x:V}{d:Aj}(h:aFG n m H x d)(s:aY H H'):aFG n m H' x d:=by
 obtain⟨a,xs,ds,rfl,rfl,e,h1,h2,h3⟩:=h;exact⟨a,xs,ds,rfl,rfl,s _ _ e,h1,h2,fun i y z=>by
  obtain⟨m',e',g1,g2,g3⟩:=h3 i y z;exact⟨m',e',g1,g2.same s,g3⟩⟩
def uK(n:Nat)(m:Bool)(H:Hp)(x:V)(d:Aj):Prop:=RdX m H x d∨∃ k,n=k + 1∧aFG k m H x d
theorem uK.same{n:Nat}{m:Bool}{H H':Hp}{x:V}{d:Aj}(h:uK n m H x d)(s:aY H H'):uK n m H' x d:=by
 rcases h with h | ⟨k,e,h⟩
 ·exact .inl (h.same s)
 ·exact .inr ⟨k,e,h.same s⟩
inductive aFH(n:Nat)(vs:List V)(H:Hp)(Q:VK)(u3_:XK):Prop
 | mk (m:Bool) (x:V) (d:Aj) (q0:vs=[x,.int n]) (q1:uK n m H x d) (q2:∀ y H',aY H H'→RdX m H' y (dB n d)→Q y H'):aFH n vs H Q u3_
def aFI(n:Nat):Sp:=fun vs H Q u3_=>aFH n vs H Q u3_
theorem aFJ{f:Ah}{fd:AH}{k:Nat}{ps:List Str}:b8 P w K mg base CX0 k f fd ps (fun _ _ _ _=>False):=by
 constructor
 ·intro _ _ _ _ h;exact h.elim
 ·intros;contradiction
theorem aJY:bU ["thing","deep"] ["thing","deep"] (aO lX):=⟨rfl,rfl,rfl,by decide,rfl,by decide,by decide⟩
theorem aIQ{f:Ah}{fd:AH}(F:Fun K "as_tuples" "as_tuples" lX f fd)(T:Txt K mg)(J:mg "list"=none)(mA:mg "as_tuples"=some (.ref f))(Y:Au K (.ref f)=true)(Z:cZ K fd ["thing","deep"] []):
  b8 P w K mg base CX0 1 f fd ["thing","deep"] (aFI 0):=by
 refine F.ok aJY (fun vs H Q E h=>?_) (fun W A outer s H vs Q E U h=>?_)
 ·obtain⟨m,x,d,rfl,_⟩:=h;rfl
 ·obtain⟨m,x,d,rfl,O,k⟩:=h;have G:b8 P w K mg base CX0 0 f fd ["thing","deep"] (fun _ _ _ _=>False):=aFJ;refine⟨_,aJ (cI (PW.pt (hU (bK dM (pv 1) aI (bX _)) (fX (dR (dO (aP gN (by rfl) T.isi (by kernel_rfl) (aG (pv 0) (aG (cA (aG (dI (v:=.ty "list") (by rfl) J (by kernel_rfl) rfl) (aG (dI (v:=.ty "tuple") (by rfl) T.tuple (by kernel_rfl) rfl) aF))) aF)))))))) (aN (aV (pv 0))) bH)
   (aN (aV (cY c0 (by rfl) T.tuple (by kernel_rfl) (aG (fU (N:=["inner","deep"]) (src:=[none,some 1]) (osc:=aO lX) (oN:=["thing","deep"]) ⟨by rfl,by decide,by decide,by decide,rfl,by rfl⟩ (jO (pv 0))
     fun cl s H fp fc C=>⟨bJ (i:=0) (show(["inner","deep"]:List Str).Nodup by decide) rfl (AE rfl),dY,cV G U rfl mA Y Z .nil fQ (aG (pv 0) (aG (aX iX (pv 1) aI) aF))⟩) aF)))),?_⟩
  refine⟨_,rfl,rfl,_,rfl,?_⟩;rw[Ic (show V.int ((0:Nat):Int)=V.int 0 from rfl)];refine c8 ?_;rcases O with O | ⟨_,z,_⟩
  ·exact⟨_,rfl,k _ _ (aY.refl H) O⟩
  ·cases z
theorem aBL{f:Ah}{fd:AH}(F:Fun K "as_tuples" "as_tuples" lX f fd)(T:Txt K mg)(O:mg "list"=none)(mA:mg "as_tuples"=some (.ref f))(kA:Au K (.ref f)=true)(bA:cZ K fd ["thing","deep"] []){n:Nat}
  (G:b8 P w K mg base CX0 (n + 1) f fd ["thing","deep"] (aFI n)):b8 P w K mg base CX0 (n + 2) f fd ["thing","deep"] (aFI (n + 1)):=by
 refine F.ok aJY (fun vs H Q E h=>?_) (fun au A outer s H vs Q E hr h=>?_)
 ·obtain⟨m,x,d,rfl,_⟩:=h;rfl
 ·obtain⟨m,x,d,rfl,J,k⟩:=h;by_cases hs:iK d=true
  ·cases d with
   | list ds=>
    have J:RdV m H x (.list ds):=by
     rcases J with(J | ⟨z,_⟩) | ⟨_,_,_,_,_,_,z,_⟩
     ·exact J
     ·cases z
     ·cases z
    cases J with
    | @lst a xs _ hm e hl r=>
     have ag:=r.len;refine⟨_,aJ (cI (PW.pt (hU (bK dM (pv 1) aI (bX _)) (fX (dR (dO (aP gN (by rfl) T.isi (by kernel_rfl) (aG (pv 0) (aG (cA (aG (dI (v:=.ty "list") (by rfl) O (by kernel_rfl) rfl) (aG (dI (v:=.ty "tuple") (by rfl) T.tuple (by kernel_rfl) rfl) aF))) aF)))))))) (aN (aV (pv 0))) bH)
    (aN (aV (cY c0 (by rfl) T.tuple (by kernel_rfl) (aG (fU (N:=["inner","deep"]) (src:=[none,some 1]) (osc:=aO lX) (oN:=["thing","deep"]) ⟨by rfl,by decide,by decide,by decide,rfl,by rfl⟩ (jC (pv 0))
      fun cl s H fp fc C=>⟨bJ (i:=0) (show(["inner","deep"]:List Str).Nodup by decide) rfl (AE rfl),dY,cV G hr rfl mA kA bA .nil fQ (aG (pv 0) (aG (aX iX (pv 1) aI) aF))⟩) aF)))),?_⟩
     refine⟨_,rfl,rfl,_,rfl,?_⟩;rw[decide_eq_false (show¬ V.int ((n + 1:Nat):Int)=V.int 0 from fun z=>by injection z with z;omega)];refine c7 ?_;refine⟨_,rfl,zZ2,fun q hq=>?_⟩;have U:=aK (o:=.tup [V.ty "list",.ty "tuple"]) hq;refine⟨_,q,"list","tuple",_,_,rfl,aH,iD.lst (U _ _ e),mW (.list ds),_,rfl,c7 ?_⟩;generalize upd H q (.tup [V.ty "list",.ty "tuple"])=H1 at U ⊢;refine⟨_,rfl,a,rfl,⟨xs,aU (U _ _ e)⟩,?_⟩;refine jY (xs:=xs) (fun i ys σ H'=>aY H H'∧cF m H' ys ((ds.take i).map (dB n))∧∃ o,σ=[o,some (.int ((n + 1:Nat):Int))]) ⟨U,by rw[Gd];exact .nil,none,rfl⟩ (aM (by omega)) (fun i ys σ H' p=>by have:=p.2.1.len;rw[Ab,Am]at this;omega) (fun i ys σ H' p=>aU (p.1 _ _ e)) ?_ ?_
     ·rintro i y ys σ H' hy ⟨S,rd,o,rfl⟩;dsimp only[cC];obtain⟨d',hd',r'⟩:=r.at hy;refine c8 ?_;refine⟨_,rfl,_,rfl,_,_,rfl,rfl,m,y,d',(by show[y,V.int (((n + 1:Nat):Int) - 1)] ++ []=_;rw[show(((n + 1:Nat):Int) - 1)=(n:Int) by omega];rfl),(.inl (.inl (r'.same S))),fun y2 H2 s2 Y=>⟨S.trans s2,?_,_,rfl⟩⟩;rw[Bn,hd',AS];have Y:RdV m H2 y2 (dB n d'):=Y.rd fun z=>by rw[uJ z]at r';cases r'
      exact cF.app (rd.same s2) (.cons Y .nil)
     ·rintro ys σ H2 ⟨S,rd,o,rfl⟩ D hD;have aa:Eo xs.length ds=ds:=BE (by omega);rw[aa]at rd;have sD:=aK (o:=.lst ys) hD;refine⟨D,ys,rfl,.inl ⟨aU aH,fun t ht=>?_⟩⟩;have sT:=aK (o:=.tup ys) ht;have Z:=rd.len;rw[Ab]at Z;exact k _ _ ((S.trans sD).trans sT) (.inl <| .tup aH (by omega) ((rd.same sD).same sT))
   | tuple ds=>
    have J:aFG n m H x (.tuple ds):=by
     rcases J with(J | ⟨z,_⟩) | ⟨k,z,J⟩
     ·cases J with
      | @tup a xs _ e hl r=>
       exact⟨a,xs,ds,rfl,rfl,e,hl,r.len,fun i y hy=>by
        obtain⟨d',hd',r'⟩:=r.at hy;exact⟨m,d',hd',r',fun _ _ z=>z⟩⟩
     ·cases z
     ·cases z;exact J
    obtain⟨a,xs,ds,rfl,z,e,hl,ag,hel⟩:=J;cases z
    ·skip
     refine⟨_,aJ (cI (PW.pt (hU (bK dM (pv 1) aI (bX _)) (fX (dR (dO (aP gN (by rfl) T.isi (by kernel_rfl) (aG (pv 0) (aG (cA (aG (dI (v:=.ty "list") (by rfl) O (by kernel_rfl) rfl) (aG (dI (v:=.ty "tuple") (by rfl) T.tuple (by kernel_rfl) rfl) aF))) aF)))))))) (aN (aV (pv 0))) bH)
    (aN (aV (cY c0 (by rfl) T.tuple (by kernel_rfl) (aG (fU (N:=["inner","deep"]) (src:=[none,some 1]) (osc:=aO lX) (oN:=["thing","deep"]) ⟨by rfl,by decide,by decide,by decide,rfl,by rfl⟩ (jO (pv 0))
      fun cl s H fp fc C=>⟨bJ (i:=0) (show(["inner","deep"]:List Str).Nodup by decide) rfl (AE rfl),dY,cV G hr rfl mA kA bA .nil fQ (aG (pv 0) (aG (aX iX (pv 1) aI) aF))⟩) aF)))),?_⟩
     refine⟨_,rfl,rfl,_,rfl,?_⟩;rw[decide_eq_false (show¬ V.int ((n + 1:Nat):Int)=V.int 0 from fun z=>by injection z with z;omega)];refine c7 ?_;refine⟨_,rfl,zZ2,fun q hq=>?_⟩;have U:=aK (o:=.tup [V.ty "list",.ty "tuple"]) hq;refine⟨_,q,"list","tuple",_,_,rfl,aH,iD.tup (U _ _ e),mW (.tuple ds),_,rfl,c7 ?_⟩;generalize upd H q (.tup [V.ty "list",.ty "tuple"])=H1 at U ⊢;refine⟨_,rfl,a,rfl,⟨xs,bG (U _ _ e)⟩,?_⟩;refine i5 (xs:=xs) (fun i ys σ H'=>aY H H'∧cF m H' ys ((ds.take i).map (dB n))∧∃ o,σ=[o,some (.int ((n + 1:Nat):Int))]) ⟨U,by rw[Gd];exact .nil,none,rfl⟩ (aM (by omega)) (fun i ys σ H' p=>by have:=p.2.1.len;rw[Ab,Am]at this;omega) (fun i ys σ H' p=>bG (p.1 _ _ e)) ?_ ?_
     ·rintro i y ys σ H' hy ⟨S,rd,o,rfl⟩;dsimp only[cC];obtain⟨m',d',hd',r',cv⟩:=hel i y hy;refine c8 ?_;refine⟨_,rfl,_,rfl,_,_,rfl,rfl,m',y,d',(by show[y,V.int (((n + 1:Nat):Int) - 1)] ++ []=_;rw[show(((n + 1:Nat):Int) - 1)=(n:Int) by omega];rfl),(.inl (.inl (r'.same S))),fun y2 H2 s2 Y=>⟨S.trans s2,?_,_,rfl⟩⟩;rw[Bn,hd',AS];have Y:RdV m' H2 y2 (dB n d'):=Y.rd fun z=>by rw[uJ z]at r';cases r'
      exact cF.app (rd.same s2) (.cons (cv _ _ Y) .nil)
     ·rintro ys σ H2 ⟨S,rd,o,rfl⟩ D hD;have aa:Eo xs.length ds=ds:=BE (by omega);rw[aa]at rd;have sD:=aK (o:=.lst ys) hD;refine⟨D,ys,rfl,.inl ⟨aU aH,fun t ht=>?_⟩⟩;have sT:=aK (o:=.tup ys) ht;have Z:=rd.len;rw[Ab]at Z;exact k _ _ ((S.trans sD).trans sT) (.inl <| .tup aH (by omega) ((rd.same sD).same sT))
   | _=>simp[iK]at hs
  ·have W:iK d=false:=by simpa using hs
   have et:dB (n + 1) d=d:=by
    cases d with
    | list ds=>simp[iK]at W
    | tuple ds=>simp[iK]at W
    | _=>rfl
   rw[et]at k;have J:RdX m H x d:=by
    rcases J with J | ⟨_,_,_,_,_,_,rfl,_⟩
    ·exact J
    ·simp[iK]at W
   refine⟨_,aJ (cI (PW.pt (hU (bK dM (pv 1) aI (bX _)) (fX (dR (dO (aP gN (by rfl) T.isi (by kernel_rfl) (aG (pv 0) (aG (cA (aG (dI (v:=.ty "list") (by rfl) O (by kernel_rfl) rfl) (aG (dI (v:=.ty "tuple") (by rfl) T.tuple (by kernel_rfl) rfl) aF))) aF)))))))) (aN (aV (pv 0))) bH)
   (aN (aV (cY c0 (by rfl) T.tuple (by kernel_rfl) (aG (fU (N:=["inner","deep"]) (src:=[none,some 1]) (osc:=aO lX) (oN:=["thing","deep"]) ⟨by rfl,by decide,by decide,by decide,rfl,by rfl⟩ (jO (pv 0))
     fun cl s H fp fc C=>⟨bJ (i:=0) (show(["inner","deep"]:List Str).Nodup by decide) rfl (AE rfl),dY,cV G hr rfl mA kA bA .nil fQ (aG (pv 0) (aG (aX iX (pv 1) aI) aF))⟩) aF)))),?_⟩
   refine⟨_,rfl,rfl,_,rfl,?_⟩;rw[decide_eq_false (show¬ V.int ((n + 1:Nat):Int)=V.int 0 from fun z=>by injection z with z;omega)];refine c7 ?_;refine⟨_,rfl,zZ2,fun q hq=>?_⟩;have U:=aK (o:=.tup [V.ty "list",.ty "tuple"]) hq;refine⟨_,q,"list","tuple",_,_,rfl,aH,(J.same U).ty,mW d,_,rfl,?_⟩;rw[W];refine c8 ?_;exact⟨_,rfl,k _ _ U (J.same U)⟩
theorem aBM{H:Hp}{p c a:Ah}{ns:List Int}{t:Int}{o:HO}(F:cJ H p c ns t)(e:H a=some o)(h:∀ z r,o≠.dK (z :: r)):a≠p:=by
 obtain⟨l,_,e2⟩:=F.ob;exact aD6 e e2 (h _ _)
theorem yF{m:Bool}{H H':Hp}{p c:Ah}{ns:List Int}{t:Int}{x:List V}{d:List Aj}(r:cF m H x d)(z:cJ H p c ns t)(k:aQ p H H'):cF m H' x d:=r.keep fun a o e h=>k a o e (aBM z e h)
theorem bQ{H H':Hp}{p c a:Ah}{ns:List Int}{t:Int}{xs:List V}(e:H a=some (.lst xs))(F:cJ H p c ns t)(k:aQ p H H'):H' a=some (.lst xs):=k a _ e (aBM F e (fun _ _ z=>nomatch z))
theorem aG8{H H':Hp}{p c a:Ah}{ns:List Int}{t:Int}{xs:List V}(e:H a=some (.tup xs))(F:cJ H p c ns t)(k:aQ p H H'):H' a=some (.tup xs):=k a _ e (aBM F e (fun _ _ z=>nomatch z))
inductive aCE(vs:List V)(H:Hp)(Q:VK)(u3_:XK):Prop
 | mk (p c:Ah) (ns:List Int) (a lo hi:Int) (q0:vs=[.ref p,.int lo,.int hi]) (q1:cJ H p c ns a) (q2:a≤900000) (q3:0≤lo) (q4:lo≤hi) (q5:hi≤10 ^ 9) (q6:∀ n a' H',lo≤n→n≤hi→a≤a'→a'≤a + 3→cJ H' p c ns a'→aQ p H H'→Q (.int n) H'):aCE vs H Q u3_
def aFK:Sp:=fun vs H Q u3_=>aCE vs H Q u3_
theorem aFL:bU ["_law_pen_here","_law_bottom","_law_most","_law_way","_law_near"] ["_law_pen_here","_law_bottom","_law_most"] (aO x8):=⟨rfl,rfl,rfl,by decide,rfl,by decide,by decide⟩
theorem aIR{f:Ah}{fd:AH}(F:Fun K "_law_number" "_law_number" x8 f fd)(z:mg "min"=none)(GT:Cl P w K mg base 1 "_law_take" ["_law_pen_here","_law_many"] gQ):
  b8 P w K mg base CX0 2 f fd ["_law_pen_here","_law_bottom","_law_most"] aFK:=by
 refine F.ok aFL (fun vs H Q E h=>?_) (fun am A outer s H vs Q E U h=>?_)
 ·obtain⟨p,c,ns,a,lo,hi,rfl,_⟩:=h;rfl
 ·obtain⟨p,c,ns,a,lo,hi,rfl,hp,ha,h0,h1,h2,k⟩:=h;refine⟨_,aJ (aZ (i:=3) aFL.nd rfl (AE rfl) (bC GT U (aG (pv 0) (aG aI aF))))
   (aJ (aZ (i:=4) aFL.nd rfl (AE rfl) (aX dF (pv 1) (bC GT U (aG (pv 0) (aG (aP (vM rfl) (by rfl) z (by kernel_rfl) (aG aI (aG (aX dF (aX iX (pv 2) (pv 1)) aI) aF))) aF)))))
   (aN (aV (bZ cH (cW (aG (pv 1) (aG (pv 2) (aG (pv 4) (aG (aX dF (pv 1) (bC GT U (aG (pv 0) (aG (aX dF (aX iX (pv 2) (pv 1)) aI) aF)))) aF))))) (pv 3) Ig)))),?_⟩
  have b9:(10:Int) ^ 9 + 1 < 2 ^ 512:=by decide
  have e9:(10:Int) ^ 9=1000000000:=by decide
  refine⟨_,rfl,p,c,ns,a,_,rfl,hp,by omega,by decide,by decide,fun W a1 H1 O aq l1 u1 ad ac=>?_⟩;refine⟨_,rfl,_,rfl,_,rfl,_,rfl,_,_,rfl,rfl,_,_,rfl,rfl,_,_,rfl,?_⟩;obtain⟨J,hmm,m0,m1⟩:∃ J:Int,(if hi - lo + 1 < 12 then hi - lo + 1 else 12)=J∧0 < J∧J≤hi - lo + 1:=by
   refine⟨_,rfl,?_⟩;split <;> omega
  rw[hmm];refine⟨p,c,ns,a1,_,rfl,ad,by omega,m0,by omega,fun r2 a2 H2 ak ap l2 u2 Y aa=>?_⟩;refine⟨_,_,rfl,rfl,_,rfl,_,rfl,_,rfl,_,rfl,_,rfl,_,rfl,_,rfl,_,_,rfl,rfl,_,_,rfl,rfl,p,c,ns,a2,_,rfl,Y,by omega,by omega,by omega,fun r3 a3 H3 aj an l3 u3 ae Z=>?_⟩;refine⟨_,_,rfl,rfl,zZ4,fun q hq=>?_⟩;have sq:=aK (o:=.lst [V.int lo,.int hi,.int (lo + r2),.int (lo + r3)]) hq;obtain⟨v,hv,hat⟩:=iE (xs:=[V.int lo,.int hi,.int (lo + r2),.int (lo + r3)]) (i:=W) O (by show W < 4;omega);obtain⟨n,rfl,hn0,hn1⟩:∃ n:Int,v=.int n∧lo≤n∧n≤hi:=by
   simp only[Al,AA,or_false]at hv;rcases hv with rfl | rfl | rfl | rfl
   ·exact⟨_,rfl,by omega,by omega⟩
   ·exact⟨_,rfl,by omega,by omega⟩
   ·exact⟨_,rfl,by omega,by omega⟩
   ·exact⟨_,rfl,by omega,by omega⟩
  exact⟨_,rfl,q,_,W,_,rfl,rfl,aU aH,hat,k n a3 _ hn0 hn1 (by omega) (by omega) (ae.same sq) (((ac.trans aa).trans Z).same sq)⟩
open PySem L2 PyProof.Rows
theorem uL{α:Type}:∀(l:List α) (j:Nat) (y:α),l[j]?=some y→(y :: l.eraseIdx j).Perm l
 | [],j,y,h=>by simp at h
 | x :: r,0,y,h=>by
  simp at h;subst h;simp
 | x :: r,j + 1,y,h=>by
  simp at h;have z:=uL r j y h;rw[List.eraseIdx_cons_succ];exact(List.Perm.swap x y _).trans (z.cons x)
theorem wJ{α β:Type}(f:α→β):∀(l:List α) (j:Nat),(l.map f).eraseIdx j=(l.eraseIdx j).map f
 | [],j=>by simp
 | x :: r,0=>by simp
 | x :: r,j + 1=>by simp[wJ f r j]
inductive wK(vs:List V)(H:Hp)(Q:VK)(u3_:XK):Prop
 | mk (p c:Ah) (ns:List Int) (a:Int) (nf nr:Nat) (q0:vs=[.ref p,.int nf,.int nr]) (q1:cJ H p c ns a) (q2:a≤800000) (q3:nf≤44) (q4:nr≤44) (q5:∀(t l1 l2 l3 l4:Ah) (ws ps hs rs:List Str) (a':Int) (H':Hp),H' t=some (.tup [.ref l1,.ref l2,.ref l3,.ref l4])→H' l1=some (.lst (ws.map V.str))→ws.length=nf→Nms ws→H' l2=some (.lst (ps.map V.str))→ps.length=10→Nms ps→H' l3=some (.lst (hs.map V.str))→hs.length=5→Nms hs→H' l4=some (.lst (rs.map V.str))→rs.length=nr→Nms rs→a≤a'→a'≤a + 200→cJ H' p c ns a'→aQ p H H'→Q (.ref t) H'):wK vs H Q u3_
def aCF:Sp:=fun vs H Q u3_=>wK vs H Q u3_
inductive aAE(vs:List V)(H:Hp)(Q:VK)(u3_:XK):Prop
 | mk (p c:Ah) (ns:List Int) (a:Int) (m:Nat) (q0:vs=[.ref p,.int m]) (q1:cJ H p c ns a) (q2:a≤800000) (q3:m≤44) (q4:∀(l:Ah) (ds:List Int) (a':Int) (H':Hp),H' l=some (.lst (ds.map V.int))→ds.length=m→(∀ d∈ds,0≤d∧d≤9999)→a≤a'→a'≤a + 200→cJ H' p c ns a'→aQ p H H'→Q (.ref l) H'):aAE vs H Q u3_
def aFM:Sp:=fun vs H Q u3_=>aAE vs H Q u3_
inductive aAF(vs:List V)(H:Hp)(Q:VK)(u3_:XK):Prop
 | mk (p c:Ah) (ns:List Int) (a:Int) (l:Ah) (ws:List Str) (m:Nat) (q0:vs=[.ref p,.ref l,.int m]) (q1:cJ H p c ns a) (q2:a≤800000) (q3:H l=some (.lst (ws.map V.str))) (q4:ws.length=10) (q5:m≤6) (q6:∀(q:Ah) (ms:List Str) (a':Int) (H':Hp),H' q=some (.lst (ms.map V.str))→ms.length=m→sortedS ms=true→(∃ us vs:List Str,ms.Perm us∧(us ++ vs).Perm ws)→a≤a'→a'≤a + 10→cJ H' p c ns a'→aQ p H H'→Q (.ref q) H'):aAF vs H Q u3_
def aFN:Sp:=fun vs H Q u3_=>aAF vs H Q u3_
theorem rA:bU ["_law_pen_here","_law_fields","_law_rows","_law_some_here","_law_plots","_law_houses"] ["_law_pen_here","_law_fields","_law_rows"] (aO aBx):=⟨rfl,rfl,rfl,by decide,rfl,by decide,by decide⟩
theorem aFO{f:Ah}{fd:AH}(F:Fun K "_law_sorts" "_law_sorts" aBx f fd)
  (GT:Cl P w K mg base 1 "_law_take" ["_law_pen_here","_law_many"] gQ)
  (GN:Cl P w K mg base 2 "_law_names" ["_law_pen_here","_law_many"] aCz):
  b8 P w K mg base CX0 3 f fd ["_law_pen_here","_law_fields","_law_rows"] aCF:=by
 refine F.ok rA (fun vs H Q E h=>?_) (fun bN A outer s H vs Q E hr h=>?_)
 ·obtain⟨p,c,ns,a,nf,nr,rfl,_⟩:=h;rfl
 ·obtain⟨p,c,ns,a,nf,nr,rfl,hp,ha,hf,hrr,k⟩:=h;have az:cQ 1 _:=hr.mono (by decide);refine⟨_,aJ (cI (bK dM (bC GT az (aG (pv 0) (aG aI aF))) aI (bX _))
    (aJ (aZ (i:=3) rA.nd rfl (AE rfl) (bC GN hr (aG (pv 0) (aG aI aF))))
    (aN (aV (cA (aG (cB fG (pv 3) cN (cO (pv 1))) (aG (cB fG (pv 3) cN (cO aI)) (aG (cB fG (pv 3) cN (cO aI)) (aG (cB fG (pv 3) cN (cO (pv 2))) aF)))))))) bH)
   (aJ (aZ (i:=4) rA.nd rfl (AE rfl) (bC GN hr (aG (pv 0) (aG aI aF))))
   (aJ (aZ (i:=5) rA.nd rfl (AE rfl) (bC GN hr (aG (pv 0) (aG aI aF))))
   (aN (aV (cA (aG (bC GN hr (aG (pv 0) (aG (pv 1) aF))) (aG (pv 4) (aG (pv 5) (aG (bC GN hr (aG (pv 0) (aG (pv 2) aF))) aF))))))))),?_⟩
  refine⟨_,rfl,p,c,ns,a,_,rfl,hp,by omega,by decide,by decide,fun r1 a1 H1 bF bA l1 u1 ai ao=>?_⟩;refine⟨rfl,_,rfl,?_⟩;have z4:(4:Nat)≤sizeLine:=aM (by decide);refine dH (fun g=>?_) (fun g=>?_)
  ·refine⟨_,rfl,p,c,ns,a1,44,rfl,ai,by omega,by omega,fun L J a2 H2 nL hL bw hN l2 u2 O aa=>?_⟩;have ec:∀ n:Nat,dQ (J.map V.str) none (some (n:Int))=(J.take n).map V.str:=fun n=>by rw[gM (α:=Nat),List.map_take]
   have an:dQ (J.map V.str) none (some 10)=(J.take 10).map V.str:=ec 10;have ay:dQ (J.map V.str) none (some 5)=(J.take 5).map V.str:=ec 5;refine⟨_,rfl,_,rfl,_,rfl,L,_,rfl,aU hL,fun q1 bf=>?_⟩;rw[ec nf];have s1:=aK (o:=.lst ((J.take nf).map V.str)) bf;refine⟨_,rfl,_,rfl,L,_,rfl,aU (s1 _ _ hL),fun q2 aL=>?_⟩;rw[an];have ag:=aK (o:=.lst ((J.take 10).map V.str)) aL;have s2:=s1.trans ag;refine⟨_,rfl,_,rfl,L,_,rfl,aU (s2 _ _ hL),fun q3 bd=>?_⟩;rw[ay];have ad:=aK (o:=.lst ((J.take 5).map V.str)) bd;have s3:=s2.trans ad;refine⟨_,rfl,_,rfl,_,rfl,L,_,rfl,aU (s3 _ _ hL),fun q4 ba=>?_⟩;rw[ec nr];have W:=aK (o:=.lst ((J.take nr).map V.str)) ba;have s4:=s3.trans W;refine⟨z4,fun t ht=>?_⟩;have z:=aK (o:=.tup [V.ref q1,.ref q2,.ref q3,.ref q4]) ht;have s5:=s4.trans z;refine k t q1 q2 q3 q4 (J.take nf) (J.take 10) (J.take 5) (J.take nr) a2 _ aH (z _ _ (W _ _ (ad _ _ (ag _ _ aH)))) (by rw[Am];omega) (hN.take nf) (z _ _ (W _ _ (ad _ _ aH))) (by rw[Am];omega) (hN.take 10) (z _ _ (W _ _ aH)) (by rw[Am];omega) (hN.take 5) (z _ _ aH) (by rw[Am];omega) (hN.take nr) (by omega) (by omega) (O.same s5) ((ao.trans aa).same s5)
  ·refine⟨_,rfl,p,c,ns,a1,10,rfl,ai,by omega,by omega,fun L1 aA a2 H2 bI au aj aB l2 u2 O aa=>?_⟩;refine⟨_,rfl,p,c,ns,a2,5,rfl,O,by omega,by omega,fun L2 aR a3 H3 bB aw ap aC l3 u3 Z ak=>?_⟩;refine⟨_,rfl,_,rfl,p,c,ns,a3,nf,rfl,Z,by omega,by omega,fun L3 bb a4 H4 bz aE af ax l4 u4 U ac=>?_⟩;refine⟨_,rfl,_,rfl,_,rfl,_,rfl,p,c,ns,a4,nr,rfl,U,by omega,by omega,fun L4 be a5 H5 bO aD am bc l5 u5 av Y=>?_⟩;refine⟨z4,fun t ht=>?_⟩;have z:=aK (o:=.tup [V.ref L3,.ref L1,.ref L2,.ref L4]) ht;exact k t L3 L1 L2 L4 bb aA aR be a5 _ aH (z _ _ (bQ aE U Y)) af ax (z _ _ (bQ (bQ (bQ au O ak) Z ac) U Y)) aj aB (z _ _ (bQ (bQ aw Z ac) U Y)) ap aC (z _ _ aD) am bc (by omega) (by omega) (av.same z) (((((ao.trans aa).trans ak).trans ac).trans Y).same z)
theorem aBN:bU ["_law_pen_here","_law_names_here","_law_many","_law_left","_law_found"] ["_law_pen_here","_law_names_here","_law_many"] (aO aCx):=⟨rfl,rfl,rfl,by decide,rfl,by decide,by decide⟩
theorem aG9{f:Ah}{fd:AH}(F:Fun K "_law_some" "_law_some" aCx f fd)(Z:mg "list"=none)(ac:mg "range"=none)(ad:mg "sorted"=none)(ag:mg "len"=none)
  (GT:Cl P w K mg base 1 "_law_take" ["_law_pen_here","_law_many"] gQ):
  b8 P w K mg base CX0 2 f fd ["_law_pen_here","_law_names_here","_law_many"] aFN:=by
 refine F.ok aBN (fun vs H Q E h=>?_) (fun aE A outer s H vs Q E hr h=>?_)
 ·obtain⟨p,c,ns,a,l,ws,m,rfl,_⟩:=h;rfl
 ·obtain⟨p,c,ns,a,l,ws,m,rfl,hp,ha,hl,hwl,hm,k⟩:=h;refine⟨_,aJ (aZ (i:=3) aBN.nd rfl (Ei rfl) (cY gH (by rfl) Z (by kernel_rfl) (aG (pv 1) aF)))
   (aJ (f9 (i:=4) (N:=["_law_k","_law_left","_law_pen_here"]) (src:=[none,some 3,some 0]) (osc:=aO aCx) (oN:=["_law_pen_here","_law_names_here","_law_many","_law_left","_law_found"]) ⟨by rfl,by decide,by decide,by decide,rfl,by rfl⟩ aBN.nd rfl
     (fE rfl ac (aG (pv 2) aF))
     fun cl s H fp fc C=>⟨bJ (i:=0) (show(["_law_k","_law_left","_law_pen_here"]:List Str).Nodup by decide) rfl (AE rfl),dY,aIp (K:=K) BA PySem.F.slot_list_pop PySem.F.type_list_pop yZ (pv 1) (aG (bC GT hr (aG (pv 2) (aG (aP (r:=iY K) aW (by rfl) ag AI (aG (pv 1) aF)) aF))) aF)⟩)
   (aN (aV (aP xH (by rfl) ad (by kernel_rfl) (aG (pv 4) aF))))),?_⟩
  refine⟨_,rfl,l,_,rfl,.inl (aU hl),fun L hL=>?_⟩;have s0:=aK (o:=.lst (ws.map V.str)) hL;have ai:L≠p:=by
   obtain⟨z,_,e⟩:=hp.ob;exact(bE e hL).symm
  have av:L≠c:=(bE hp.ce hL).symm;refine⟨_,rfl,m,rfl,by omega,by omega,?_⟩;refine i3 (fun i ys σ' H'=>Ex3 fun(a':Int) (J vs:List Str)=>∃(o:Option V),Aw6 (σ'=[o,some (.ref L),some (.ref p)]) (cJ H' p c ns a') (aQ p H H') (a≤a') (a'≤a + i) (Aw3 (ys=J.map V.str) (J.length=i) (Aw3 (H' L=some (.lst (vs.map V.str))) (vs.length + i=10) ((J ++ vs).Perm ws))))
   ⟨a,[],ws,none,rfl,hp.same s0,aY.but s0,by omega,by omega,rfl,rfl,aH,by omega,DF _⟩ (aM (by omega)) (fun i ys σ H p=>by obtain⟨_,J,_,_,_,_,_,_,_,rfl,e,_⟩:=p;rw[Ab,e];exact Ap _) ?_ ?_
  ·rintro i ys σ' H1 hi ⟨a1,J,vs,o,rfl,U,Y,an,aq,rfl,W,O,aw,aa⟩;dsimp only[cC];refine c8 ?_;refine⟨_,rfl,.inl ⟨rfl,_,aU O⟩,_,rfl,_,rfl,L,_,rfl,.inl (aU O),p,c,ns,a1,_,rfl,U,by omega,by rw[Ab];omega,by rw[Ab];omega,fun r1 a2 H2 aC ar ba aR aj ae=>?_⟩;rw[Ab]at ar;obtain⟨j,rfl⟩:∃ j:Nat,r1=j:=⟨r1.toNat,by omega⟩
   have am:=bQ O U ae;obtain⟨y,hy⟩:∃ y,vs[j]?=some y:=⟨_,Af (by omega)⟩
   have ap:seqIndex? (j:Int) (vs.map V.str).length=some j:=by
    rw[Ab];unfold seqIndex?;simp;omega
   refine⟨L,_,_,j,V.str y,rfl,rfl,am,by omega,by omega,ap,by rw[AC,hy];rfl,?_⟩;refine⟨a2,J ++ [y],vs.eraseIdx j,_,rfl,?_,?_,by omega,by omega,by rw[AS];rfl,by rw[Ak,W];rfl,?_,?_,?_⟩
   ·obtain⟨⟨z,hz,e⟩,ce,ge,sm⟩:=aj;exact⟨⟨z,hz,by rw[aS ai.symm];exact e⟩,by rw[aS av.symm];exact ce,ge,sm⟩
   ·intro b o e ne;rw[aS (bE e hL)];exact(Y.trans ae) b o e ne
   ·rw[aH];congr 2;exact wJ V.str vs j
   ·rw[Do (by omega)];omega
   ·rw[De];exact(List.Perm.append_left J (uL vs j y hy)).trans aa
  ·rintro ys σ' H1 ⟨a1,J,vs,o,rfl,U,Y,an,aq,rfl,W,O,aw,aa⟩ D hD;have sD:=aK (o:=.lst (J.map V.str)) hD;refine⟨_,rfl,D,J,rfl,aU aH,by omega,fun q ms hq af ak=>?_⟩;have s2:=aK (o:=.lst (ms.map V.str)) hq;exact k q ms a1 _ aH (by rw[af.length_eq,W];omega) ak ⟨J,vs,af,aa⟩ (by omega) (by omega) ((U.same sD).same s2) ((Y.same sD).same s2)
theorem pX:bU ["_law_pen_here","_law_many","_law_way","_law_some_here","_law_k","_law_few","_law_found"] ["_law_pen_here","_law_many"] (aO aCw):=⟨rfl,rfl,rfl,by decide,rfl,by decide,by decide⟩
theorem aHa{f:Ah}{fd:AH}(F:Fun K "_law_days" "_law_days" aCw f fd)(Z:mg "range"=none)(az:mg "len"=none)(au:mg "int"=none)
  (GT:Cl P w K mg base 1 "_law_take" ["_law_pen_here","_law_many"] gQ):
  b8 P w K mg base CX0 2 f fd ["_law_pen_here","_law_many"] aFM:=by
 refine F.ok pX (fun vs H Q E h=>?_) (fun cS A outer s H vs Q E hr h=>?_)
 ·obtain⟨p,c,ns,a,m,rfl,_⟩:=h;rfl
 ·obtain⟨p,c,ns,a,m,rfl,hp,ha,hm,k⟩:=h;refine⟨_,aJ (aZ (i:=2) pX.nd rfl (AE rfl) (bC GT hr (aG (pv 0) (aG aI aF))))
   (aJ (aZ (i:=3) pX.nd rfl (Ei rfl) (cW (aG aI (aG aI (aG aI (aG aI (aG (bC GT hr (aG (pv 0) (aG aI aF))) (aG (bC GT hr (aG (pv 0) (aG aI aF))) aF))))))))
   (aJ (f9 (i:=5) (N:=["_law_k","_law_some_here","_law_pen_here"]) (src:=[none,some 3,some 0]) (osc:=aO aCw) (oN:=["_law_pen_here","_law_many","_law_way","_law_some_here","_law_k","_law_few","_law_found"]) ⟨by rfl,by decide,by decide,by decide,rfl,by rfl⟩ pX.nd rfl
     (fE rfl Z (aG (aX dF aI (bC GT hr (aG (pv 0) (aG aI aF)))) aF))
     fun cl s H fp fc C=>⟨bJ (i:=0) (show(["_law_k","_law_some_here","_law_pen_here"]:List Str).Nodup by decide) rfl (AE rfl),dY,bZ (r:=aDe K) cH (pv 1) (bC GT hr (aG (pv 2) (aG aI aF))) Ig⟩)
   (aJ (aZ (i:=6) pX.nd rfl (AE rfl) (cW aF))
   (aJ (jP Cv rfl (fE rfl Z (aG (pv 1) aF)) (bJ (i:=4) pX.nd rfl (AE rfl))
    (aN (jB (lM BA BY BX gB (pv 6) (aG (bZ cH (cW (aG (bZ cH (pv 5) (bC GT hr (aG (pv 0) (aG (aP aW (by rfl) az AI (aG (pv 5) aF)) aF))) Ig) (aG (bC GT hr (aG (pv 0) (aG aI aF))) aF)))
      (cY aDa (by rfl) au (by kernel_rfl) (aG (fS dM (pv 2) aI (bX _)) aF)) Ig) aF)))))
   (aN (aV (pv 6))))))),?_⟩
  refine⟨_,rfl,p,c,ns,a,_,rfl,hp,by omega,by decide,by decide,fun wy a1 H1 w0 w1 cL cv bg bL=>?_⟩;refine⟨_,rfl,p,c,ns,a1,_,rfl,bg,by omega,by decide,by decide,fun x1 a2 H2 c4 cr cj b9 bb bq=>?_⟩;refine⟨_,rfl,p,c,ns,a2,_,rfl,bb,by omega,by decide,by decide,fun x2 a3 H3 b5 ci cs cb bj bp=>?_⟩;refine⟨zZ6,fun L hL=>?_⟩;have sL:=aK (o:=.lst [V.int 0,.int 1,.int 9,.int 9999,.int x1,.int x2]) hL;have bo:∀ v∈[V.int 0,.int 1,.int 9,.int 9999,.int x1,.int x2],∃ d:Int,v=.int d∧0≤d∧d≤9999:=by
   intro v W;simp only[Al,AA,or_false]at W;rcases W with rfl | rfl | rfl | rfl | rfl | rfl
   ·exact⟨_,rfl,by omega,by omega⟩
   ·exact⟨_,rfl,by omega,by omega⟩
   ·exact⟨_,rfl,by omega,by omega⟩
   ·exact⟨_,rfl,by omega,by omega⟩
   ·exact⟨_,rfl,by omega,by omega⟩
   ·exact⟨_,rfl,by omega,by omega⟩
  have ac:=bj.same sL;have k4:aQ p H _:=((bL.trans bq).trans bp).same sL;have ax:upd H3 L (.lst [V.int 0,.int 1,.int 9,.int 9999,.int x1,.int x2]) L=_:=aH;generalize upd H3 L (.lst [V.int 0,.int 1,.int 9,.int 9999,.int x1,.int x2])=H4 at ac k4 ax ⊢;refine⟨_,rfl,p,c,ns,a3,_,rfl,ac,by omega,by decide,by decide,fun r1 a5 H5 cn ck cx c1 ba aB=>?_⟩;refine⟨_,_,rfl,rfl,_,rfl,by omega,by omega,?_⟩;have bi:=bQ ax ac aB;refine i3 (fun i ys σ' H'=>Ex3 fun(a':Int) (ds:List Int) (o:Option V)=>Aw6 (σ'=[o,some (.ref L),some (.ref p)]) (cJ H' p c ns a') (aQ p H H') (a5≤a') (a'≤a5 + i) (Aw3 (ys=ds.map V.int) (ds.length=i) ((∀ d∈ds,0≤d∧d≤9999)∧H' L=some (.lst [V.int 0,.int 1,.int 9,.int 9999,.int x1,.int x2]))))
   ⟨a5,[],none,rfl,ba,k4.trans aB,by omega,by omega,rfl,rfl,(fun d hd=>by simp at hd),bi⟩ (aM (by omega)) (fun i ys σ H p=>by obtain⟨_,ds,_,_,_,_,_,_,rfl,e,_⟩:=p;rw[Ab,e];exact Ap _) ?_ ?_
  ·rintro i ys σ' H6 hi ⟨a6,ds,o,rfl,Y,k6,bF,bv,rfl,av,ak,ar⟩;dsimp only[cC];refine c8 ?_;refine⟨_,rfl,_,rfl,p,c,ns,a6,_,rfl,Y,by omega,by decide,by decide,fun r2 a7 H7 bx cy c3 b7 J aA=>?_⟩;have aw:=bQ ar Y aA;obtain⟨v,W,hat⟩:=iE (xs:=[V.int 0,.int 1,.int 9,.int 9999,.int x1,.int x2]) (i:=r2) bx (by show r2 < 6;omega);obtain⟨d,rfl,hd0,hd1⟩:=bo v W;refine⟨L,_,r2,_,rfl,rfl,aU aw,hat,a7,ds ++ [d],_,rfl,J,k6.trans aA,by omega,by omega,by rw[AS];rfl,by rw[Ak,av];rfl,fun z hz=>?_,aw⟩;rcases Az.mp hz with y | y
   ·exact ak z y
   ·rw[A6.mp y];exact⟨hd0,hd1⟩
  ·rintro ys σ' H6 ⟨a6,ds,o,rfl,Y,k6,bF,bv,rfl,av,ak,ar⟩ D hD;have sD:=aK (o:=.lst (ds.map V.int)) hD;have J:=Y.same sD;have k7:=k6.same sD;have ag:upd H6 D (.lst (ds.map V.int)) D=_:=aH;generalize upd H6 D (.lst (ds.map V.int))=H7 at J k7 ag ⊢;refine⟨Bo _,fun R hR=>?_⟩;have sR:=aK (o:=.lst []) hR;have ay:R≠p:=by
    obtain⟨z,_,e⟩:=J.ob;exact(bE e hR).symm
   have bI:R≠c:=(bE J.ce hR).symm;have bw:D≠R:=bE ag hR;have bf:H R=none:=by
    cases e:H R with
    | none=>rfl
    | some x=>exact absurd (k7 R x e ay) (by rw[hR];simp)
   refine⟨_,rfl,m,rfl,by omega,by omega,iQ (n:=(m:Int).toNat) (fun i σ H'=>Ex3 fun(o4:Option V) (a':Int) (es:List Int)=>Aw6 (σ=[some (.ref p),some (.int m),some (.int wy),some (.ref L),o4,some (.ref D),some (.ref R)]) (cJ H' p c ns a') (a6≤a') (a'≤a6 + 2 * i) (aQ p H H') (Aw3 (H' D=some (.lst (ds.map V.int))) (H' R=some (.lst (es.map V.int))) (es.length=i∧∀ d∈es,0≤d∧d≤9999)))
    ⟨_,a6,[],rfl,J.same sR,by omega,by simp,k7.same sR,sR _ _ ag,aH,rfl,fun d hd=>by simp at hd⟩ ?_ ?_⟩
   ·rintro i σ H8 hi ⟨o4,a8,es,rfl,O,aE,aL,k8,ah,U,ap,aa⟩;dsimp only[cC];refine⟨_,rfl,.inl ⟨rfl,_,aU U⟩,_,rfl,_,rfl,_,rfl,D,_,rfl,.inl (aU ah),p,c,ns,a8,_,rfl,O,by omega,by rw[Ab];omega,by rw[Ab];omega,fun r3 a9 H9 bA bM cq b6 am ae=>?_⟩;have aq:=bQ ah O ae;have bd:=bQ U O ae;obtain⟨v,W,hat⟩:=iE (xs:=ds.map V.int) (i:=r3) bA bM;obtain⟨d,hd,rfl⟩:=Bb.mp W;refine⟨D,_,r3,_,rfl,rfl,aU aq,hat,_,rfl,p,c,ns,a9,_,rfl,am,by omega,by decide,by decide,fun r4 b1 G1 cw ca cc cz bD ad=>?_⟩;refine⟨zZ2,fun q hq=>?_⟩;have sq:=aK (o:=.lst [V.int d,.int r4]) hq;refine⟨_,rfl,rfl,.inr ⟨_,rfl,?_⟩⟩;obtain⟨z,hz,z0,z1⟩:∃ z:Int,(if decide (V.int wy=V.int 0)=true then(1:Int) else 0)=z∧0≤z∧z≤1:=by
     refine⟨_,rfl,?_⟩;split <;> omega
    rw[hz];obtain⟨v,W,hat⟩:=iE (xs:=[V.int d,.int r4]) (i:=z) z0 (by show z < 2;omega);obtain⟨dd,rfl,hdd⟩:∃ dd:Int,v=.int dd∧0≤dd∧dd≤9999:=by
     simp only[Al,AA,or_false]at W;rcases W with rfl | rfl
     ·exact⟨_,rfl,ak d hd⟩
     ·exact⟨_,rfl,by omega,by omega⟩
    refine⟨q,_,z,_,rfl,rfl,aU aH,hat,?_⟩;have bB:=sq _ _ (bQ bd am ad);have bt:=sq _ _ (bQ aq am ad);have be:=bD.same sq;have kq:=((k8.trans ae).trans ad).same sq;refine⟨R,_,_,rfl,rfl,bB,by rw[Ab];exact jX (by omega),_,b1,es ++ [dd],rfl,?_,by omega,by omega,?_,by rw[aS bw];exact bt,by rw[aH,AS];rfl,by rw[Ak,ap];rfl,fun z hz=>?_⟩
    ·obtain⟨⟨z,hz,e⟩,ce,ge,sm⟩:=be;exact⟨⟨z,hz,by rw[aS ay.symm];exact e⟩,by rw[aS bI.symm];exact ce,ge,sm⟩
    ·intro b o e ne;rw[aS (bE e bf)];exact kq b o e ne
    ·rcases Az.mp hz with y | y
     ·exact aa z y
     ·rw[A6.mp y];exact hdd
   ·rintro σ H8 ⟨o4,a8,es,rfl,O,aE,aL,k8,ah,U,ap,aa⟩;exact⟨_,rfl,k R es a8 H8 U (by omega) aa (by omega) (by omega) O k8⟩
theorem aBO{F O:List Str}(Y:O.Perm (qK F))(Z:sortedS O=true):decide (F=O)=eJ F:=by
 unfold eJ;rw[decide_eq_decide];have J:=kZ O Z;constructor
 ·rintro rfl;have hn:F.Nodup:=Y.nodup_iff.mpr (nR F);have h2:=J.and hn;refine h2.imp fun{a b} h=>?_;rcases Fb (a.cps.toList < b.cps.toList)with z | z
  ·exact z
  ·exact absurd (qS (EL (Dm.mp h.1) (Dm.mp z))) h.2
 ·intro h;have hn:F.Nodup:=h.imp fun{a b} z e=>by
   subst e;exact C4 _ z
  have h2:F.Pairwise fun a b=>¬ b.cps.toList < a.cps.toList:=h.imp fun{a b} z y=>C4 _ (Fp z y);have W:(qK F).Perm F:=by
   refine iP F (qK F) hn (fun x U=>(z8 F x).mpr U) ?_;have:=iP (qK F) F (nR F) (fun x U=>(z8 F x).mp U);have h1:=(v4 F)
   rw[Ic hn]at h1;have h3:=Ie h1;unfold qK;omega
  exact lQ (W.symm.trans Y.symm) h2 J
theorem wL:∀(z F:List Str),vB (z.map V.str) (F.map V.str)=decide (z=F)
 | [],[]=>rfl
 | [],_ :: _=>rfl
 | _ :: _,[]=>rfl
 | a :: r,b :: q=>by
  show(eqV (.str a) (.str b) && vB (r.map V.str) (q.map V.str))=_;rw[wL r q];show((a == b) && decide (r=q))=_;rw[Cq];simp
theorem aFP:bU ["things"] ["things"] (aO qW):=⟨rfl,rfl,rfl,by decide,rfl,by decide,by decide⟩
theorem aDU{f:Ah}{fd:AH}(F:Fun K "is_rising" "is_rising" qW f fd)(T:Txt K mg)(z:mg "list"=none)(J:mg "sorted"=none):b8 P w K mg base CX0 1 f fd ["things"] uH:=by
 refine F.ok aFP (fun vs H Q E h=>?_) (fun O A outer s H vs Q E hr h=>?_)
 ·obtain⟨a,ss,rfl,_⟩:=h;rfl
 ·obtain⟨a,ss,rfl,ha,hl,k⟩:=h;have hu:=aHy hr;have Y:(A.deeper (PyProof.Rows.envOfC "is_rising" (aO qW) s.heap.objs.size f O)).units < cLine:=by omega
  refine⟨_,aN (aV (fS (aEz Y) (cY gH (by rfl) z (by kernel_rfl) (aG (pv 0) aF)) (aP (xK rfl) (by rfl) J (by kernel_rfl) (aG (cY (aDs rfl) (by rfl) T.set (by kernel_rfl) (aG (pv 0) aF)) aF)) (bX _))),_,rfl,a,ss.map V.str,rfl,ha.imp aU bG,fun L hL=>?_⟩;have W:=aK (o:=.lst (ss.map V.str)) hL;refine⟨_,rfl,a,ss,rfl,ha.imp (W _ _) (W _ _),by omega,fun S hS=>?_⟩;have sS:=aK (o:=aEQ P w S ss) hS;refine⟨S,ss,rfl,aH,by omega,fun l ms U hp hs=>?_⟩;have Z:=aK (o:=.lst (ms.map V.str)) U;refine⟨L,l,_,_,rfl,rfl,aU (Z _ _ (sS _ _ aH)),aU aH,gX ss,gX ms,?_⟩;rw[wL,aBO hp hs];exact k _ ((W.trans sS).trans Z)
def pD(x:P3):Aj:=.tuple [.str x.1,.str x.2.1,.int x.2.2]
inductive eZ:Aj→Aj→Prop
 | odd {d:Aj} (h:fZ d=false):eZ d d
 | nojoin {n dy f l:Aj} (h:uE f=false):eZ (.tuple [.str "join",n,dy,f,l]) (.tuple [.str "join",n,dy,f,l])
 | short {ds:List Aj} (h:ds.length≠5):eZ (.tuple ds) (.tuple ds)
 | other {kind:Str} {n dy f l:Aj} (h1:kind≠"part") (h2:kind≠"join"):eZ (.tuple [.str kind,n,dy,f,l]) (.tuple [.str kind,n,dy,f,l])
 | part {n dy f:Aj} {T R:List P3} (hp:T.Perm R) (hr:v7 R) (h2:2≤T.length) (h6:T.length≤6) (ha:(T.map pD).all fW=true):eZ (.tuple [.str "part",n,dy,f,.tuple (T.map pD)]) (.tuple [.str "part",n,dy,f,.tuple (R.map pD)])
 | join {n dy l:Aj} {T R:List Str} (hp:T.Perm R) (hr:eJ R=true) (h6:T.length≤6) (ha:(T.map AW).all bY=true):eZ (.tuple [.str "join",n,dy,.tuple (T.map AW),l]) (.tuple [.str "join",n,dy,.tuple (R.map AW),l])
inductive aCG(vs:List V)(H:Hp)(Q:VK)(u3_:XK):Prop
 | mk (m:Bool) (x:V) (d d':Aj) (q0:vs=[x]) (q1:RdV m H x d) (q2:eZ d d') (q3:∀ y H',aY H H'→RdV m H' y d'→Q y H'):aCG vs H Q u3_
def aHL:Sp:=fun vs H Q u3_=>aCG vs H Q u3_
theorem aDV{m:Bool}{H:Hp}{v:V}{x:P3}(h:RdV m H v (pD x)):v6 H v x:=by
 unfold pD at h;cases h with
 | @tup a xs _ e O r=>
  cases r with
  | cons F r=>
   cases r with
   | cons J r=>
    cases r with
    | cons z r=>
     cases r;cases F;cases J;cases z;exact⟨a,rfl,e⟩
theorem aBP{m:Bool}{H:Hp}{vs:List V}{T:List P3}(r:cF m H vs (T.map pD)):∀ i,i < vs.length→v6 H (vs.getD i .non) (T.getD i ("","",0)):=fun i hi=>by
 have z:=r.len;rw[Ab]at z;obtain⟨d,hd,rd⟩:=r.at (Af hi);rw[AC,Af (by omega)]at hd;cases hd;have:=aDV rd;rw[Av,Av,Af hi,Af (by omega)];exact this
theorem wM{m:Bool}{H:Hp}{vs:List V}{ds:List Aj}(r:cF m H vs ds):∀(q:List Nat),(∀ i∈q,i < vs.length)→cF m H (q.map fun i=>vs.getD i .non) (q.map fun i=>ds.getD i .none)
 | [],_=>.nil
 | i :: q,h=>by
  have hi:=h i (by simp);obtain⟨d,hd,rd⟩:=r.at (Af hi);refine .cons ?_ (wM r q fun j z=>h j (by simp[z]));show RdV m H (vs.getD i .non) (ds.getD i .none);rw[Av,Av,Af hi,hd];exact rd
theorem wN{m:Bool}{H:Hp}:∀{vs:List V}{T:List Str},cF m H vs (T.map AW)→vs=T.map V.str∧∀ z∈T,z.length≤1000
 | _,[],.nil=>⟨rfl,fun z hz=>by simp at hz⟩
 | _,t :: T,.cons a r=>by
  obtain⟨e,h⟩:=wN (T:=T) r;cases a with
  | str _ hz=>
   refine⟨by rw[e];rfl,fun z F=>?_⟩;rcases Al.mp F with rfl | y
   ·exact hz
   ·exact h z y
theorem pY{m:Bool}{H:Hp}:∀{T:List Str},(∀ z∈T,z.length≤1000)→cF m H (T.map V.str) (T.map AW)
 | [],_=>.nil
 | t :: T,h=>.cons (.str t (h t (by simp))) (pY fun z hz=>h z (by simp[hz]))
theorem vI{R:List Str}(h:eJ R=true):R.Pairwise fun a b=>¬ b.cps.toList < a.cps.toList:=(Ie h).imp fun{a b} z y=>C4 _ (Fp z y)
theorem wO:bU ["thing","kind","name","day","first","last"] ["thing"] (aO t9):=⟨rfl,rfl,rfl,by decide,rfl,by decide,by decide⟩
theorem aIS{f:Ah}{fd:AH}(F:Fun K "in_order" "in_order" t9 f fd)(T:Txt K mg)(Z:mg "sorted"=none)
  (GP:Cl P w K mg base 4 "all_parts" ["thing"] aBE)
  (GN:Cl P w K mg base 2 "all_names" ["thing"] uF):
  b8 P w K mg base CX0 5 f fd ["thing"] aHL:=by
 refine F.ok wO (fun vs H Q E h=>?_) (fun br A outer s H vs Q E hr h=>?_)
 ·obtain⟨m,x,d,d',rfl,_⟩:=h;rfl
 ·obtain⟨m,x,d,d',rfl,hx,ho,k⟩:=h;have aE:cQ 2 _:=hr.mono (by decide);refine⟨_,aJ (cI (PW.pt (hU (dR (dO (aP dN (by rfl) T.isi (by kernel_rfl) (aG (pv 0) (aG (dI (v:=.ty "tuple") (by rfl) T.tuple (by kernel_rfl) rfl) aF)))))
    (fX (bK vL (aP aW (by rfl) T.len AI (aG (pv 0) aF)) aI (bX _))))) (aN (aV (pv 0))) bH)
   (aJ (jN (pv 0) (nM rfl (cT (bJ (i:=1) wO.nd rfl (AE rfl)) (cT (bJ (i:=2) wO.nd rfl (AE rfl)) (cT (bJ (i:=3) wO.nd rfl (AE rfl)) (cT (bJ (i:=4) wO.nd rfl (AE rfl)) (cT (bJ (i:=5) wO.nd rfl (AE rfl)) kW)))))))
   (aJ (cI (PW.pt (lH (bK dM (pv 1) aT (bX _)) (jA (dO (bC GP hr (aG (pv 5) aF)))))) (aN (aV (cA (aG (pv 1) (aG (pv 2) (aG (pv 3) (aG (pv 4) (aG (cY c0 (by rfl) T.tuple (by kernel_rfl) (aG (aP xP (by rfl) Z (by kernel_rfl) (aG (pv 5) aF)) aF)) aF)))))))) bH)
   (aJ (cI (PW.pt (lH (bK dM (pv 1) aT (bX _)) (jA (dO (bC GN aE (aG (pv 4) aF)))))) (aN (aV (cA (aG (pv 1) (aG (pv 2) (aG (pv 3) (aG (cY c0 (by rfl) T.tuple (by kernel_rfl) (aG (aP vG (by rfl) Z (by kernel_rfl) (aG (pv 4) aF)) aF)) (aG (pv 5) aF)))))))) bH)
   (aN (aV (pv 0)))))),?_⟩
  refine⟨_,rfl,_,"tuple",_,_,rfl,lC hx,jK d,_,rfl,?_⟩;cases ho with
  | @odd _ hn=>
   rw[hn];exact c8 ⟨_,rfl,k _ H (aY.refl H) hx⟩
  | @short ds hn=>
   cases hx with
   | @tup a xs _ e hl r=>
    have bd:=r.len;refine c7 ?_;refine⟨_,rfl,a,xs,rfl,.inr (bG e),rfl,_,rfl,dH (fun g=>?_) (fun g=>?_)⟩
    ·exact⟨_,rfl,k _ H (aY.refl H) (.tup e hl r)⟩
    ·exfalso;apply g;rw[decide_eq_false (show¬ V.int (xs.length:Int)=V.int 5 from fun z=>by injection z with z;omega)];rfl
  | @nojoin n dy f l aB=>
   cases hx with
   | @tup a xs _ e hl r=>
   cases r with
   | @cons x1 _ _ _ r1 r=>
   cases r with
   | @cons x2 _ _ _ r2 r=>
   cases r with
   | @cons x3 _ _ _ r3 r=>
   cases r with
   | @cons x4 _ _ _ W r=>
   cases r with
   | @cons x5 _ _ _ Y r=>
   cases r;cases r1 with
   | str _ J=>
   refine c7 ?_;refine⟨_,rfl,a,_,rfl,.inr (bG e),rfl,_,rfl,dH (fun g=>absurd g (by simp)) (fun g=>?_)⟩;refine⟨_,rfl,a,_,rfl,bG e,rfl,_,_,rfl,_,_,rfl,_,_,rfl,_,_,rfl,_,_,rfl,rfl,_,rfl,rfl,_,rfl,?_⟩;rw[decide_eq_false (show¬ V.str "join"=V.str "part" from fun z=>by injection z with z;exact absurd z (by decide))];refine c7 ?_;refine⟨_,rfl,rfl,_,rfl,?_⟩;rw[Ic (show V.str "join"=V.str "join" from rfl)];refine c8 ?_;refine⟨_,rfl,m,x4,_,rfl,W,fun H1 s1=>⟨_,rfl,?_⟩⟩;rw[aB];refine c7 ?_;exact⟨_,rfl,k _ H1 s1 (.tup (s1 _ _ e) hl (.cons (.str _ J) (.cons (r2.same s1) (.cons (r3.same s1) (.cons (W.same s1) (.cons (Y.same s1) .nil))))))⟩
  | @other kind n dy f l h1 h2=>
   cases hx with
   | @tup a xs _ e hl r=>
   cases r with
   | @cons x1 _ _ _ r1 r=>
   cases r with
   | @cons x2 _ _ _ r2 r=>
   cases r with
   | @cons x3 _ _ _ r3 r=>
   cases r with
   | @cons x4 _ _ _ W r=>
   cases r with
   | @cons x5 _ _ _ Y r=>
   cases r;cases r1 with
   | str _ J=>
   refine c7 ?_;refine⟨_,rfl,a,_,rfl,.inr (bG e),rfl,_,rfl,dH (fun g=>absurd g (by simp)) (fun g=>?_)⟩;refine⟨_,rfl,a,_,rfl,bG e,rfl,_,_,rfl,_,_,rfl,_,_,rfl,_,_,rfl,_,_,rfl,rfl,_,rfl,rfl,_,rfl,?_⟩;rw[decide_eq_false (show¬ V.str kind=V.str "part" from fun z=>by injection z with z;exact h1 z)];refine c7 ?_;refine⟨_,rfl,rfl,_,rfl,?_⟩;rw[decide_eq_false (show¬ V.str kind=V.str "join" from fun z=>by injection z with z;exact h2 z)];refine c7 ?_;exact⟨_,rfl,k _ H (aY.refl H) (.tup e hl (.cons (.str kind J) (.cons r2 (.cons r3 (.cons W (.cons Y .nil))))))⟩
  | @part n dy f T R hp ae h2 h6 ha=>
   cases hx with
   | @tup a xs _ e hl r=>
   cases r with
   | @cons x1 _ _ _ r1 r=>
   cases r with
   | @cons x2 _ _ _ r2 r=>
   cases r with
   | @cons x3 _ _ _ r3 r=>
   cases r with
   | @cons x4 _ _ _ W r=>
   cases r with
   | @cons x5 _ _ _ Y r=>
   cases r;cases r1 with
   | str _ J=>
   refine c7 ?_;refine⟨_,rfl,a,_,rfl,.inr (bG e),rfl,_,rfl,dH (fun g=>absurd g (by simp)) (fun g=>?_)⟩;refine⟨_,rfl,a,_,rfl,bG e,rfl,_,_,rfl,_,_,rfl,_,_,rfl,_,_,rfl,_,_,rfl,rfl,_,rfl,rfl,_,rfl,?_⟩;rw[Ic (show V.str "part"=V.str "part" from rfl)];refine c8 ?_;refine⟨_,rfl,m,x5,_,rfl,Y,fun H1 s1=>⟨_,rfl,?_⟩⟩;refine dH (fun g=>?_) (fun g=>absurd ha g);cases Y with
   | @tup a5 U _ e5 bt af=>
   have aa:=af.len;rw[Ab]at aa;refine⟨_,rfl,_,rfl,_,rfl,_,rfl,_,rfl,a5,U,T,rfl,s1 _ _ e5,aa,by omega,by omega,aBP (af.same s1),fun L hL=>?_⟩;have sL:=aK (o:=.lst ((gU T).map fun i=>U.getD i .non)) hL;have aj:=j8 T (by omega);have bh:(gU T).length=T.length:=by rw[aj.length_eq,BF]
   refine⟨L,_,rfl,.inl ⟨aU aH,fun t ht=>?_⟩⟩;have sT:=aK (o:=.tup ((gU T).map fun i=>U.getD i .non)) ht;have rR:cF m H ((gU T).map fun i=>U.getD i .non) (R.map pD):=by
    have rp:=wM af (gU T) (fun i hi=>by
     have:=aj.mem_iff.mp hi;rw[Bt]at this;omega)
    have e2:(gU T).map (fun i=>(T.map pD).getD i .none)=R.map pD:=by
     rw[← aAb hp ae h2 h6 ("","",0),Cn];refine Eg fun i hi=>?_;have ar:=aj.mem_iff.mp hi;rw[Bt]at ar;simp[ar]
    rw[e2]at rp;exact rp
   refine⟨zZ5,fun t2 ad=>?_⟩;have s2:=aK (o:=.tup [V.str "part",x2,x3,x4,.ref t]) ad;have O:=((s1.trans sL).trans sT).trans s2;exact k _ _ O (.tup aH (by show 5≤1000;decide) (.cons (.str _ J) (.cons (r2.same O) (.cons (r3.same O) (.cons (W.same O) (.cons (.tup (s2 _ _ aH) (by rw[Ab];omega) (rR.same O)) .nil))))))
  | @join n dy l T R hp ae h6 ha=>
   cases hx with
   | @tup a xs _ e hl r=>
   cases r with
   | @cons x1 _ _ _ r1 r=>
   cases r with
   | @cons x2 _ _ _ r2 r=>
   cases r with
   | @cons x3 _ _ _ r3 r=>
   cases r with
   | @cons x4 _ _ _ W r=>
   cases r with
   | @cons x5 _ _ _ Y r=>
   cases r;cases r1 with
   | str _ J=>
   refine c7 ?_;refine⟨_,rfl,a,_,rfl,.inr (bG e),rfl,_,rfl,dH (fun g=>absurd g (by simp)) (fun g=>?_)⟩;refine⟨_,rfl,a,_,rfl,bG e,rfl,_,_,rfl,_,_,rfl,_,_,rfl,_,_,rfl,_,_,rfl,rfl,_,rfl,rfl,_,rfl,?_⟩;rw[decide_eq_false (show¬ V.str "join"=V.str "part" from by decide)];refine c7 ?_;refine⟨_,rfl,rfl,_,rfl,?_⟩;rw[Ic (show V.str "join"=V.str "join" from rfl)];refine c8 ?_;refine⟨_,rfl,m,x4,_,rfl,W,fun H1 s1=>⟨_,rfl,?_⟩⟩;refine dH (fun g=>?_) (fun g=>absurd ha g);cases W with
   | @tup a4 bo _ e4 bp ax=>
   obtain⟨ex4,hz4⟩:=wN ax;subst ex4;refine⟨_,rfl,_,rfl,_,rfl,_,rfl,a4,T,rfl,s1 _ _ e4,by omega,fun L ms hL aw av=>?_⟩;have sL:=aK (o:=.lst (ms.map V.str)) hL;have aA:ms=R:=lQ (aw.trans hp) (kZ ms av) (vI ae);subst aA;refine⟨L,_,rfl,.inl ⟨aU aH,fun t ht=>?_⟩⟩;have sT:=aK (o:=.tup (ms.map V.str)) ht;have rR:cF m H (ms.map V.str) (ms.map AW):=pY fun z hz=>hz4 z (hp.mem_iff.mpr hz);refine⟨_,rfl,zZ5,fun t2 ad=>?_⟩;have s2:=aK (o:=.tup [V.str "join",x2,x3,.ref t,x5]) ad;have O:=((s1.trans sL).trans sT).trans s2;have bj:=hp.length_eq;exact k _ _ O (.tup aH (by show 5≤1000;decide) (.cons (.str _ J) (.cons (r2.same O) (.cons (r3.same O) (.cons (.tup (s2 _ _ aH) (by rw[Ab];omega) (rR.same O)) (.cons (Y.same O) .nil))))))
structure S3(H:Hp)(lf lp lh:Ah)(fs ps hs:List Str):Prop where
 f:H lf=some (.lst (fs.map V.str))
 p:H lp=some (.lst (ps.map V.str))
 h:H lh=some (.lst (hs.map V.str))
 f1:1≤fs.length
 f2:fs.length≤44
 p1:ps.length=10
 h1:hs.length=5
 nf:Nms fs
 np:Nms ps
 nh:Nms hs
theorem S3.but{H H':Hp}{U O J:Ah}{fs ps F:List Str}{p c:Ah}{ns:List Int}{t:Int}(x:S3 H U O J fs ps F)(z:cJ H p c ns t)(k:aQ p H H'):S3 H' U O J fs ps F:=⟨bQ x.f z k,bQ x.p z k,bQ x.h z k,x.f1,x.f2,x.p1,x.h1,x.nf,x.np,x.nh⟩
theorem S3.same{H H':Hp}{O J F:Ah}{fs ps z:List Str}(x:S3 H O J F fs ps z)(k:aY H H'):S3 H' O J F fs ps z:=⟨k _ _ x.f,k _ _ x.p,k _ _ x.h,x.f1,x.f2,x.p1,x.h1,x.nf,x.np,x.nh⟩
inductive f6:Str→List Aj→Prop
 | part {land:Str} {R:List P3} (hl:bW land=true) (hr:v7 R) (h2:2≤R.length) (h6:R.length≤6) (ha:(R.map pD).all fW=true):f6 "part" [.str land,.tuple (R.map pD)]
 | join {land:Str} {R:List Str} (hl:bW land=true) (hr:eJ R=true) (h2:2≤R.length) (h6:R.length≤6) (ha:(R.map AW).all bY=true):f6 "join" [.tuple (R.map AW),.str land]
 | forfeit {land house:Str} (hl:bW land=true) (hh:bW house=true):f6 "forfeit" [.str land,.str house]
 | measure {field:Str} {n:Int} (hf:bW field=true) (h0:0≤n) (h1:n≤10000000):f6 "measure" [.str field,.int n]
 | mend {house other:Str} (hh:bW house=true) (ho:bW other=true) (hne:house≠other):f6 "mend" [.str house,.str other]
 | alone {house:Str} (hh:bW house=true):f6 "alone" [.str house]
 | breach {field:Str} {n1 n2 n3:Int} (hf:bW field=true) (h10:0≤n1) (h11:n1≤9999999) (h20:0≤n2) (h21:n2≤1000000000) (h30:0≤n3) (h31:n3≤1000000):f6 "breach" [.str field,.int n1,.int n2,.int n3]
 | view {field house:Str} {n1:Int} (hf:bW field=true) (h10:0≤n1) (h11:n1≤9999999) (hh:bW house=true):f6 "view" [.str field,.int n1,.str house]
def iG(word name:Str)(day:Int)(ds:List Aj):Aj:=.tuple (.str word :: .str name :: .int day :: ds)
theorem aFQ{word name:Str}{day:Int}{ds:List Aj}(h:f6 word ds)(hn:bW name=true)(h0:0≤day)(h1:day≤9999):rowD (iG word name day ds)=true:=by
 have go:decide (word∈eG)=true→eB word ds=true→rowD (iG word name day ds)=true:=fun a b=>by
  show(decide (word∈eG) && (bW name && (decide (0≤day∧day≤9999) && eB word ds)))=true;rw[a,hn,b,Ic (show 0≤day∧day≤9999 from⟨h0,h1⟩)];rfl
 cases h with
 | @part J R hl hr h2 h6 ha=>
  refine go (by decide) ?_;show(bW J && ((R.map pD).all fW && decide (2≤(R.map pD).length∧(R.map pD).length≤6) && eJ ((R.map pD).map dD)))=true;have e:(R.map pD).map dD=R.map (·.1):=by rw[Cn];rfl
  rw[hl,ha,e,Ab,Ic (show 2≤R.length∧R.length≤6 from⟨h2,h6⟩)];exact Ic (BR.mpr hr)
 | @join J R hl hr h2 h6 ha=>
  refine go (by decide) ?_;rw[show eB "join" [.tuple (R.map AW),.str J]=wG [.tuple (R.map AW),.str J] from by unfold eB;rw[Ia (by decide),Ib rfl]];show(((R.map AW).all bY && decide (2≤(R.map AW).length∧(R.map AW).length≤6) && eJ ((R.map AW).map aAz)) && bW J)=true;have e:(R.map AW).map aAz=R:=by rw[Cn];exact List.map_id R
  rw[hl,ha,e,Ab,Ic (show 2≤R.length∧R.length≤6 from⟨h2,h6⟩),hr];rfl
 | @forfeit J z hl Y=>
  refine go (by decide) ?_;rw[show eB "forfeit" [.str J,.str z]=kK [.str J,.str z] from by unfold eB;rw[Ia (by decide),Ia (by decide),Ib rfl]];show(true && (bW J && (bW z && true)))=true;rw[hl,Y];rfl
 | @measure F n hf h0 h1=>
  refine go (by decide) ?_;rw[show eB "measure" [.str F,.int n]=hZ [.str F,.int n] from by unfold eB;rw[Ia (by decide),Ia (by decide),Ia (by decide),Ib rfl]];show(bW F && decide (0≤n∧n≤10000000))=true;rw[hf,Ic (show 0≤n∧n≤10000000 from⟨h0,h1⟩)];rfl
 | @mend z other Y ho ae=>
  refine go (by decide) ?_;rw[show eB "mend" [.str z,.str other]=qA [.str z,.str other] from by unfold eB;rw[Ia (by decide),Ia (by decide),Ia (by decide),Ia (by decide),Ib rfl]];show(bW z && bW other && !decide (z=other))=true;rw[Y,ho,decide_eq_false ae];rfl
 | @alone z Y=>
  refine go (by decide) ?_;rw[show eB "alone" [.str z]=pW [.str z] from by unfold eB;rw[Ia (by decide),Ia (by decide),Ia (by decide),Ia (by decide),Ia (by decide),Ib rfl]];exact Y
 | @breach F O Z n3 hf U W ai ak aj ah=>
  refine go (by decide) ?_;rw[show eB "breach" [.str F,.int O,.int Z,.int n3]=g8 [.str F,.int O,.int Z,.int n3] from by unfold eB;rw[Ia (by decide),Ia (by decide),Ia (by decide),Ia (by decide),Ia (by decide),Ia (by decide),Ib rfl]];show(bW F && decide (0≤O∧O≤9999999) && decide (0≤Z∧Z≤1000000000) && decide (0≤n3∧n3≤1000000))=true;rw[hf,Ic (show 0≤O∧O≤9999999 from⟨U,W⟩),Ic (show 0≤Z∧Z≤1000000000 from⟨ai,ak⟩),Ic (show 0≤n3∧n3≤1000000 from⟨aj,ah⟩)];rfl
 | @view F z O hf U W Y=>
  refine go (by decide) ?_;rw[show eB "view" [.str F,.int O,.str z]=p8 [.str F,.int O,.str z] from by unfold eB;rw[Ia (by decide),Ia (by decide),Ia (by decide),Ia (by decide),Ia (by decide),Ia (by decide),Ia (by decide)]];show(bW F && decide (0≤O∧O≤9999999) && bW z)=true;rw[hf,Ic (show 0≤O∧O≤9999999 from⟨U,W⟩),Y];rfl
theorem jL{m:Bool}{H:Hp}{z:Str}(h:bW z=true):RdV m H (.str z) (.str z):=.str z (by have:=(dA h).2;omega)
theorem aAG{w:Str}(h:w∈eG):w.length≤1000:=by
 have:∀ w∈eG,w.length≤1000:=by decide
 exact this w h
theorem aBQ{F us vs W:List Str}(Z:PyProof.Rows.sortedS F=true)(Y:F.Perm us)(U:(us ++ vs).Perm W)(hn:Nms W):eJ F=true∧∀ z∈F,bW z=true:=by
 have J:us.Nodup:=(Dd.mp (U.nodup_iff.mpr hn.nd)).1;have O:F.Nodup:=Y.nodup_iff.mpr J;refine⟨Ic (((kZ F Z).and O).imp fun{a b} h=>?_),fun z hz=>hn.ok z (U.mem_iff.mp (D9 _ (Y.mem_iff.mp hz)))⟩;rcases Fb (a.cps.toList < b.cps.toList)with z | z
 ·exact z
 ·exact absurd (qS (EL (Dm.mp h.1) (Dm.mp z))) h.2
def FIn(word:Str)(ds:List Aj)(fs:List Str):Prop:=inV (.str word) [V.str "measure",.str "breach",.str "view"]=true→∀ z cM,ds=.str z :: cM→z∈fs
inductive wP(vs:List V)(H:Hp)(Q:VK)(u3_:XK):Prop
 | mk (p c:Ah) (ns:List Int) (a:Int) (word name:Str) (day:Int) (tS lf lp lh:Ah) (fs ps hs:List Str) (q0:vs=[.ref p,.str word,.str name,.int day,.ref tS]) (q1:cJ H p c ns a) (q2:a≤700000) (q3:H tS=some (.tup [.ref lf,.ref lp,.ref lh])) (q4:S3 H lf lp lh fs ps hs) (q5:word∈eG) (q6:bW name=true) (q7:∀(t:Ah) (ds:List Aj) (cM:List V) (a':Int) (H':Hp),H' t=some (.tup (.str word :: .str name :: .int day :: cM))→cF false H' cM ds→f6 word ds→FIn word ds fs→a≤a'→a'≤a + 80→cJ H' p c ns a'→aQ p H H'→Q (.ref t) H'):wP vs H Q u3_
def yG:Sp:=fun vs H Q u3_=>wP vs H Q u3_
theorem gR:bU ["_law_pen_here","_law_word","_law_name","_law_day","_law_sorts_here","_law_fields","_law_plots","_law_houses","_law_land","_law_at","_law_house","_law_field","_law_some_here","_law_parts","_law_inch"] ["_law_pen_here","_law_word","_law_name","_law_day","_law_sorts_here"] (aO x9):=⟨rfl,rfl,rfl,by decide,rfl,by decide,by decide⟩
theorem aFR{f:Ah}{fd:AH}(F:Fun K "_law_row_of" "_law_row_of" x9 f fd)(Y:mg "len"=none)(aw:mg "tuple"=none)
  (GT:Cl P w K mg base 1 "_law_take" ["_law_pen_here","_law_many"] gQ)
  (GN:Cl P w K mg base 2 "_law_number" ["_law_pen_here","_law_bottom","_law_most"] aFK)
  (GS:Cl P w K mg base 2 "_law_some" ["_law_pen_here","_law_names_here","_law_many"] aFN):
  b8 P w K mg base CX0 3 f fd ["_law_pen_here","_law_word","_law_name","_law_day","_law_sorts_here"] yG:=by
 refine F.ok gR (fun vs H Q E h=>?_) (fun e0 A outer s H vs Q E hr h=>?_)
 ·obtain⟨p,c,ns,a,word,name,day,tS,lf,lp,lh,fs,ps,hs,rfl,_⟩:=h;rfl
 ·obtain⟨p,c,ns,a,word,name,day,tS,lf,lp,lh,fs,ps,hs,rfl,hp,ha,htS,h3,hwd,hnm,k⟩:=h;have af:cQ 1 _:=hr.mono (by decide);refine⟨_,aJ (jN (pv 4) (nM rfl (cT (bJ (i:=5) gR.nd rfl (AE rfl)) (cT (bJ (i:=6) gR.nd rfl (AE rfl)) (cT (bJ (i:=7) gR.nd rfl (Ei rfl)) kW)))))
   (aJ (aZ (i:=8) gR.nd rfl (AE rfl) (bZ cH (pv 6) (bC GT af (aG (pv 0) (aG (aP aW (by rfl) Y AI (aG (pv 6) aF)) aF))) Ig))
   (aJ (aZ (i:=9) gR.nd rfl (AE rfl) (bC GT af (aG (pv 0) (aG (aP aW (by rfl) Y AI (aG (pv 7) aF)) aF))))
   (aJ (aZ (i:=10) gR.nd rfl (AE rfl) (bZ cH (pv 7) (pv 9) Ig))
   (aJ (aZ (i:=11) gR.nd rfl (AE rfl) (bZ cH (pv 5) (bC GT af (aG (pv 0) (aG (aP aW (by rfl) Y AI (aG (pv 5) aF)) aF))) Ig))
   (aJ (cI (bK pE (pv 1) (cA (aG aT (aG aT aF))) (by with_unfolding_all rfl))
    (aJ (aZ (i:=12) gR.nd rfl (AE rfl) (bC GS hr (aG (pv 0) (aG (pv 6) (aG (bZ cH (cW (aG aI (aG aI (aG (aX dF aI (bC GT af (aG (pv 0) (aG aI aF)))) aF)))) (bC GT af (aG (pv 0) (aG aI aF))) Ig) aF)))))
    (aJ (cI (bK dM (pv 1) aT (bX _)) (aN (aV (cA (aG (pv 1) (aG (pv 2) (aG (pv 3) (aG (cY c0 (by rfl) aw (by kernel_rfl) (aG (pv 12) aF)) (aG (pv 8) aF)))))))) bH)
    (aJ (f9 (i:=13) (N:=["_law_one","_law_houses","_law_pen_here"]) (src:=[none,some 7,some 0]) (osc:=aO x9) (oN:=["_law_pen_here","_law_word","_law_name","_law_day","_law_sorts_here","_law_fields","_law_plots","_law_houses","_law_land","_law_at","_law_house","_law_field","_law_some_here","_law_parts","_law_inch"]) ⟨by rfl,by decide,by decide,by decide,rfl,by rfl⟩ gR.nd rfl
      (jC (pv 12))
      fun cl s H fp fc C=>⟨bJ (i:=0) (show(["_law_one","_law_houses","_law_pen_here"]:List Str).Nodup by decide) rfl (AE rfl),dY,cA (aG (pv 0) (aG (bZ (r:=aDe K) cH (pv 1) (bC GT af (aG (pv 2) (aG (aP (r:=iY K) aW (by rfl) Y AI (aG (pv 1) aF)) aF))) Ig) (aG (bC GN hr (aG (pv 2) (aG aI (aG (aX iC aI aI) aF)))) aF)))⟩)
    (aN (aV (cA (aG (pv 1) (aG (pv 2) (aG (pv 3) (aG (pv 8) (aG (cY c0 (by rfl) aw (by kernel_rfl) (aG (pv 13) aF)) aF)))))))))))
    bH)
   (aJ (cI (bK dM (pv 1) aT (bX _)) (aN (aV (cA (aG (pv 1) (aG (pv 2) (aG (pv 3) (aG (pv 8) (aG (pv 10) aF)))))))) bH)
   (aJ (cI (bK dM (pv 1) aT (bX _)) (aN (aV (cA (aG (pv 1) (aG (pv 2) (aG (pv 3) (aG (pv 11) (aG (bC GN hr (aG (pv 0) (aG aI (aG (aX iC aI aI) aF)))) aF)))))))) bH)
   (aJ (cI (bK dM (pv 1) aT (bX _)) (aN (aV (cA (aG (pv 1) (aG (pv 2) (aG (pv 3) (aG (pv 10) (aG (bZ cH (pv 7) (aX f7 (aX dF (aX dF (pv 9) aI) (bC GT af (aG (pv 0) (aG (aX iX (aP aW (by rfl) Y AI (aG (pv 7) aF)) aI) aF)))) (aP aW (by rfl) Y AI (aG (pv 7) aF))) Ig) aF)))))))) bH)
   (aJ (cI (bK dM (pv 1) aT (bX _)) (aN (aV (cA (aG (pv 1) (aG (pv 2) (aG (pv 3) (aG (pv 10) aF))))))) bH)
   (aJ (aZ (i:=14) gR.nd rfl (AE rfl) (bC GN hr (aG (pv 0) (aG aI (aG (aX iX (aX iC aI aI) aI) aF)))))
   (aJ (cI (bK dM (pv 1) aT (bX _)) (aN (aV (cA (aG (pv 1) (aG (pv 2) (aG (pv 3) (aG (pv 11) (aG (pv 14) (aG (pv 10) aF))))))))) bH)
   (aN (aV (cA (aG (pv 1) (aG (pv 2) (aG (pv 3) (aG (pv 11) (aG (pv 14) (aG (bC GN hr (aG (pv 0) (aG aI (aG (aX iC aI aI) aF)))) (aG (bC GN hr (aG (pv 0) (aG aI (aG (aX iC aI aI) aF)))) aF))))))))))))))))))))),?_⟩
  have ae:∀(cM:List V) (ds:List Aj) (H':Hp) (a':Int),cF false H' cM ds→f6 word ds→FIn word ds fs→cJ H' p c ns a'→aQ p H H'→a≤a'→a'≤a + 80→∀ t,H' t=none→Q (.ref t) (upd H' t (.tup (.str word :: .str name :: .int day :: cM))):=fun cM ds H' a' hR hS dm h1 h2 h4 h5 t ht=>k t ds cM a' _ aH (hR.same (aK ht)) hS dm h4 h5 (h1.same (aK ht)) (h2.same (aK ht));have cp:∀ j:Int,0≤j→j≤1000000→aH9 10 j:=fun j h1 h2=>⟨h1,h2,by decide⟩
  have p6:((10:Int) ^ CD 6)=1000000:=by decide
  have p7:((10:Int) ^ CD 7)=10000000:=by decide
  have p9:((10:Int) ^ CD 9)=1000000000:=by decide
  have e9:(10:Int) ^ 9=1000000000:=by decide
  have z2:(2:Nat)≤sizeLine:=aM (by decide);have z3:(3:Nat)≤sizeLine:=aM (by decide);have z4:(4:Nat)≤sizeLine:=aM (by decide);have z5:(5:Nat)≤sizeLine:=aM (by decide);have z6:(6:Nat)≤sizeLine:=aM (by decide);have z7:(7:Nat)≤sizeLine:=aM (by decide);have ci:=h3.p1;have b5:=h3.h1;have eX:=h3.f1;have e8:=h3.f2;refine⟨_,rfl,tS,_,rfl,bG htS,rfl,_,_,rfl,_,_,rfl,_,_,rfl,rfl,_,rfl,_,rfl,_,rfl,lp,_,rfl,.inl (aU h3.p),p,c,ns,a,_,rfl,hp,by omega,by rw[Ab];omega,by rw[Ab];omega,fun r1 a1 H1 cy cw eW eF bq bT=>?_⟩;have bd:=h3.but hp bT;obtain⟨v,hv,ac⟩:=iE (xs:=ps.map V.str) (i:=r1) cy cw;obtain⟨land,hland,rfl⟩:=Bb.mp hv;have U:=h3.np.ok land hland;refine⟨lp,_,r1,_,rfl,rfl,aU bd.p,ac,_,rfl,_,rfl,lh,_,rfl,.inl (aU bd.h),p,c,ns,a1,_,rfl,bq,by omega,by rw[Ab];omega,by rw[Ab];omega,fun r2 a2 H2 ey da en ec bi bw=>?_⟩;have aD:=bd.but bq bw;rw[Ab]at da;obtain⟨j2,rfl⟩:∃ j2:Nat,r2=j2:=⟨r2.toNat,by omega⟩
  obtain⟨house,hj2⟩:∃ y,hs[j2]?=some y:=⟨_,Af (by omega)⟩
  have J:=h3.nh.ok house (Ax hj2);have ac:atI (hs.map V.str) ((j2:Nat):Int)=some (V.str house):=bS (by rw[AC,hj2];rfl);refine⟨_,rfl,_,rfl,lh,_,(j2:Int),_,rfl,rfl,aU aD.h,ac,_,rfl,_,rfl,_,rfl,lf,_,rfl,.inl (aU aD.f),p,c,ns,a2,_,rfl,bi,by omega,by rw[Ab];omega,by rw[Ab];omega,fun r3 a3 H3 dc dk ez eh cq bu=>?_⟩;have bn:=aD.but bi bu;obtain⟨v,hv,ac⟩:=iE (xs:=fs.map V.str) (i:=r3) dc dk;obtain⟨field,hfield,rfl⟩:=Bb.mp hv;have O:=h3.nf.ok field hfield;refine⟨lf,_,r3,_,rfl,rfl,aU bn.f,ac,?_⟩;have k3:=(bT.trans bw).trans bu;refine⟨_,rfl,z2,fun q hq=>?_⟩;have sq:=aK (o:=.tup [V.str "part",.str "join"]) hq;have aa:=cq.same sq;have an:=bn.same sq;have k4:=k3.same sq;have bN:upd H3 q (.tup [V.str "part",.str "join"]) q=_:=aH;refine⟨q,_,rfl,.inr (bG bN),rfl,rfl,_,rfl,?_⟩;generalize upd H3 q (.tup [V.str "part",.str "join"])=H4 at aa an k4 bN ⊢;refine dH (fun g1=>?_) (fun g1=>?_)
  ·refine⟨_,rfl,_,rfl,_,rfl,p,c,ns,a3,_,rfl,aa,by omega,by decide,by decide,fun x1 a5 H5 fa ev eH e2 bh dh=>?_⟩;refine⟨_,_,rfl,rfl,z3,fun u hu=>?_⟩;have su:=aK (o:=.lst [V.int 2,.int 6,.int (2 + x1)]) hu;refine⟨_,rfl,p,c,ns,a5,_,rfl,bh.same su,by omega,by decide,by decide,fun x2 a6 H6 b9 em eS et b0 bv=>?_⟩;obtain⟨v,hv,ac⟩:=iE (xs:=[V.int 2,.int 6,.int (2 + x1)]) (i:=x2) b9 (by show x2 < 3;omega);obtain⟨n,rfl,hn,hn2⟩:∃ n:Nat,v=.int n∧n≤6∧2≤n:=by
    simp only[Al,AA,or_false]at hv;rcases hv with rfl | rfl | rfl
    ·exact⟨2,rfl,by omega,by omega⟩
    ·exact⟨6,rfl,by omega,by omega⟩
    ·exact⟨(2 + x1).toNat,by congr 1;omega,by omega,by omega⟩
   have bR:aQ p H4 H6:=(dh.same su).trans bv;refine⟨u,_,x2,_,rfl,rfl,aU (bQ aH (bh.same su) bv),ac,?_⟩;have bB:=an.but aa bR;refine⟨p,c,ns,a6,lp,ps,n,rfl,b0,by omega,bB.p,ci,hn,fun L ms a7 H7 hL ej cf br e7 eb ap bO=>?_⟩;obtain⟨us,vv,hpu,hpw⟩:=br;obtain⟨hris,hnms⟩:=aBQ cf hpu hpw h3.np;have c2:=bB.but b0 bO;have k7:=(k4.trans bR).trans bO;refine⟨_,rfl,rfl,_,rfl,dH (fun g2=>?_) (fun g2=>?_)⟩
   ·refine⟨_,rfl,_,rfl,_,rfl,_,rfl,L,_,rfl,.inl ⟨aU hL,fun tt bf=>?_⟩⟩;have st:=aK (o:=.tup (ms.map V.str)) bf;have Z:word="join":=by
     have:=Ie g2;injection this
    have aC:(ms.map AW).all bY=true:=by
     rw[Ek,Bg];exact fun z hz=>hnms z hz
    exact⟨_,rfl,z5,fun t ht=>ae _ [.tuple (ms.map AW),.str land] _ a7 (.cons (.tup aH (by rw[Ab];omega) (pY fun z hz=>by have:=(dA (hnms z hz)).2;omega)) (.cons (jL U) .nil)) (by rw[Z];exact .join U hris (by omega) (by omega) aC) (by rw[Z];exact fun z=>absurd z (by decide)) (ap.same st) (k7.same st) (by omega) (by omega) t ht⟩
   ·refine⟨_,rfl,L,rfl,⟨_,aU hL⟩,?_⟩;refine jY (K:=K) (xs:=ms.map V.str) (fun i ys σ' H'=>∃(a':Int) (o:Option V),σ'=[o,some (.ref lh),some (.ref p)]∧cJ H' p c ns a'∧aQ p H7 H'∧a7≤a'∧a'≤a7 + 4 * i∧ys.length=i∧∃ R:List P3,cF false H' ys (R.map pD)∧R.map (·.1)=ms.take i∧(R.map pD).all fW=true)
     ⟨a7,none,rfl,ap,aQ.refl p H7,by omega,by omega,rfl,[],.nil,by simp,rfl⟩ (aM (by rw[Ab];omega)) (fun i ys σ H p=>by obtain⟨_,_,_,_,_,_,_,e,_⟩:=p;omega) (fun i ys σ H p=>by obtain⟨_,_,_,_,kk,_⟩:=p;exact aU (bQ hL ap kk)) ?_ ?_
    ·rintro i x ys σ' H8 hx ⟨a8,o,rfl,ak,k8,ca,bg,bb,R,rR,eR,aR⟩;have hi:i < ms.length:=by
      have:=(AR.mp hx).1;simpa using this
     have ex:x=V.str ms[i]:=by
      rw[AC,Af hi]at hx;cases hx;rfl
     subst ex;have bD:=hnms _ (BO hi);dsimp only[cC];have bx:=bQ c2.h ap k8;refine c8 ?_;refine⟨_,rfl,_,rfl,_,rfl,_,rfl,lh,_,rfl,.inl (aU bx),p,c,ns,a8,_,rfl,ak,by omega,by rw[Ab];omega,by rw[Ab];omega,fun r4 a9 H9 bL ay eu d5 b4 az=>?_⟩;obtain⟨v,hv,ac⟩:=iE (xs:=hs.map V.str) (i:=r4) bL ay;obtain⟨hse,hhse,rfl⟩:=Bb.mp hv;have au:=h3.nh.ok hse hhse;refine⟨lh,_,r4,_,rfl,rfl,aU (bQ bx ak az),ac,_,rfl,_,_,rfl,rfl,cp _ (by decide) (by decide),p,c,ns,a9,1,10000000,(by show[V.ref p,V.int 1,V.int ((10:Int) ^ CD 7)] ++ []=_;rw[p7];rfl),b4,by omega,by decide,by decide,by omega,fun n1 b1 G1 ai aj aB ba ad W=>?_⟩;refine⟨z3,fun q1 dn=>?_⟩;have bc:=aK (o:=.tup [V.str ms[i],.str hse,.int n1]) dn;refine⟨b1,_,rfl,ad.same bc,((k8.trans az).trans W).same bc,by omega,by omega,by rw[Ak,bb];rfl,R ++ [(ms[i],hse,n1)],?_,?_,?_⟩
     ·rw[AS];exact cF.app ((yF (yF rR ak az) b4 W).same bc) (.cons (.tup aH (by show 3≤1000;decide) (.cons (jL bD) (.cons (jL au) (.cons (.int n1) .nil)))) .nil)
     ·rw[AS,eR,Bn,Af hi];rfl
     ·rw[AS,List.all_append,aR];show(true && ((bW ms[i] && bW hse && decide (1≤n1∧n1≤10000000)) && true))=true;rw[bD,au,Ic (show 1≤n1∧n1≤10000000 from⟨ai,aj⟩)];rfl
    ·rintro ys σ' H8 ⟨a8,o,rfl,ak,k8,ca,bg,bb,R,rR,eR,aR⟩ D hD;rw[Ab]at bg;have sD:=aK (o:=.lst ys) hD;refine⟨_,rfl,_,rfl,_,rfl,_,rfl,_,rfl,D,_,rfl,.inl ⟨aU aH,fun tt bf=>?_⟩⟩;have st:=aK (o:=.tup ys) bf;have Z:word="part":=by
      have h0:"part"=word∨"join"=word:=by simpa[inV,eqV]using g1
      have h1:word="part"∨word="join":=h0.imp Eq.symm Eq.symm;rcases h1 with h1 | h1
      ·exact h1
      ·exact absurd (Ic (by rw[h1])) g2
     rw[Ab,B8]at eR;have ee:R.length=ms.length:=by rw[← eR,Ab]
     have dl:v7 R:=by
      have:=Ie hris;rw[← eR]at this;exact(BR (f:=fun x:P3=>x.1) (R:=fun a b:Str=>a.cps.toList < b.cps.toList)).mp this
     exact⟨z5,fun t ht=>ae _ [.str land,.tuple (R.map pD)] _ a8 (.cons (jL U) (.cons (.tup aH (by rw[bb,Ab];omega) ((rR.same sD).same st)) .nil)) (by rw[Z];exact .part U dl (by omega) (by omega) aR) (by rw[Z];exact fun z=>absurd z (by decide)) ((ak.same sD).same st) (((k7.trans k8).same sD).same st) (by omega) (by omega) t ht⟩
  ·refine⟨_,rfl,rfl,_,rfl,dH (fun g2=>?_) (fun g2=>?_)⟩
   ·have Z:word="forfeit":=by
     have:=Ie g2;injection this
    exact⟨_,rfl,_,rfl,_,rfl,_,rfl,_,rfl,z5,fun t ht=>ae _ [.str land,.str house] _ a3 (.cons (jL U) (.cons (jL J) .nil)) (by rw[Z];exact .forfeit U J) (by rw[Z];exact fun z=>absurd z (by decide)) aa k4 (by omega) (by omega) t ht⟩
   ·refine⟨_,rfl,rfl,_,rfl,dH (fun g3=>?_) (fun g3=>?_)⟩
    ·refine⟨_,rfl,_,rfl,_,rfl,_,rfl,_,rfl,_,_,rfl,rfl,cp _ (by decide) (by decide),p,c,ns,a3,0,10000000,(by show[V.ref p,V.int 0,V.int ((10:Int) ^ CD 7)] ++ []=_;rw[p7];rfl),aa,by omega,by decide,by decide,by omega,fun n1 b1 G1 ai aj aB ba ad W=>?_⟩;have Z:word="measure":=by
      have:=Ie g3;injection this
     exact⟨z5,fun t ht=>ae _ [.str field,.int n1] _ b1 (.cons (jL O) (.cons (.int n1) .nil)) (by rw[Z];exact .measure O ai aj) (fun _ z cM e=>by cases e;exact hfield) ad (k4.trans W) (by omega) (by omega) t ht⟩
    ·refine⟨_,rfl,rfl,_,rfl,dH (fun g4=>?_) (fun g4=>?_)⟩
     ·refine⟨_,rfl,_,rfl,_,rfl,_,rfl,_,rfl,_,rfl,_,_,rfl,rfl,_,rfl,_,rfl,lh,_,rfl,.inl (aU an.h),_,_,rfl,rfl,p,c,ns,a3,_,rfl,aa,by omega,by rw[Ab];omega,by rw[Ab];omega,fun r4 b1 G1 bL ay aB ba ad W=>?_⟩;have hh:=bQ an.h aa W;refine⟨_,_,rfl,rfl,_,rfl,lh,_,rfl,.inl (aU hh),_,_,rfl,rfl,by rw[Ab];omega,?_⟩;have e5:((hs.map V.str).length:Int)=5:=by rw[Ab,b5];rfl
      rw[e5]at ay;obtain⟨j4,ej4⟩:∃ j4:Nat,((j2:Int) + 1 + r4) % ((hs.map V.str).length:Int)=j4:=⟨(((j2:Int) + 1 + r4) % ((hs.map V.str).length:Int)).toNat,by rw[e5];omega⟩
      have cm:j4 < 5∧j4≠j2:=by
       rw[e5]at ej4;omega
      obtain⟨other,hot⟩:∃ y,hs[j4]?=some y:=⟨_,Af (by omega)⟩
      have ah:=h3.nh.ok other (Ax hot);have cr:house≠other:=fun z=>by
       have cv:j2 < hs.length:=by omega
       have cD:j4 < hs.length:=by omega
       rw[Af cv]at hj2;rw[Af cD]at hot;injection hj2 with hj2;injection hot with hot;rw[← hj2,← hot]at z;exact cm.2 ((DY h3.nh.nd).mp z).symm
      have av:atI (hs.map V.str) ((j4:Nat):Int)=some (V.str other):=bS (by rw[AC,hot];rfl);rw[← ej4]at av;have Z:word="mend":=by
       have:=Ie g4;injection this
      exact⟨lh,_,_,_,rfl,rfl,aU hh,av,z5,fun t ht=>ae _ [.str house,.str other] _ b1 (.cons (jL J) (.cons (jL ah) .nil)) (by rw[Z];exact .mend J ah cr) (by rw[Z];exact fun z=>absurd z (by decide)) ad (k4.trans W) (by omega) (by omega) t ht⟩
     ·refine⟨_,rfl,rfl,_,rfl,dH (fun g5=>?_) (fun g5=>?_)⟩
      ·have Z:word="alone":=by
        have:=Ie g5;injection this
       exact⟨_,rfl,_,rfl,_,rfl,_,rfl,z4,fun t ht=>ae _ [.str house] _ a3 (.cons (jL J) .nil) (by rw[Z];exact .alone J) (by rw[Z];exact fun z=>absurd z (by decide)) aa k4 (by omega) (by omega) t ht⟩
      ·refine⟨_,rfl,_,_,rfl,rfl,cp _ (by decide) (by decide),_,_,rfl,rfl,p,c,ns,a3,0,9999999,(by show[V.ref p,V.int 0,V.int ((10:Int) ^ CD 7 - 1)] ++ []=_;rw[p7];rfl),aa,by omega,by decide,by decide,by omega,fun n1 b1 G1 ai aj aB ba ad W=>?_⟩;refine⟨_,rfl,rfl,_,rfl,dH (fun g6=>?_) (fun g6=>?_)⟩
       ·have Z:word="view":=by
         have:=Ie g6;injection this
        exact⟨_,rfl,_,rfl,_,rfl,_,rfl,_,rfl,_,rfl,z6,fun t ht=>ae _ [.str field,.int n1,.str house] _ b1 (.cons (jL O) (.cons (.int n1) (.cons (jL J) .nil))) (by rw[Z];exact .view O ai aj J) (fun _ z cM e=>by cases e;exact hfield) ad (k4.trans W) (by omega) (by omega) t ht⟩
       ·refine⟨_,rfl,_,rfl,_,rfl,_,rfl,_,rfl,_,rfl,_,_,rfl,rfl,cp _ (by decide) (by decide),p,c,ns,b1,0,1000000000,(by show[V.ref p,V.int 0,V.int ((10:Int) ^ CD 9)] ++ []=_;rw[p9];rfl),ad,by omega,by decide,by decide,by omega,fun n2 b2 G2 df ck ef ea bp bI=>?_⟩;refine⟨_,rfl,_,_,rfl,rfl,cp _ (by decide) (by decide),p,c,ns,b2,0,1000000,(by show[V.ref p,V.int 0,V.int ((10:Int) ^ CD 6)] ++ []=_;rw[p6];rfl),bp,by omega,by decide,by decide,by omega,fun n3 b3 G3 cj cn ek eD bz bF=>?_⟩;have Z:word="breach":=by
         have ng:∀ z:Str,¬ decide (V.str word=V.str z)=true→word≠z:=fun z hz e=>hz (Ic (by rw[e]));have bA:word≠"part"∧word≠"join":=by
          constructor
          ·intro z;exact g1 (by rw[z];rfl)
          ·intro z;exact g1 (by rw[z];rfl)
         have hm:=hwd;simp only[eG,Al,AA,or_false]at hm;rcases hm with z | z | z | z | z | z | z | z
         ·exact absurd z bA.1
         ·exact absurd z bA.2
         ·exact absurd z (ng _ g2)
         ·exact absurd z (ng _ g3)
         ·exact absurd z (ng _ g4)
         ·exact absurd z (ng _ g5)
         ·exact z
         ·exact absurd z (ng _ g6)
        exact⟨z7,fun t ht=>ae _ [.str field,.int n1,.int n2,.int n3] _ b3 (.cons (jL O) (.cons (.int n1) (.cons (.int n2) (.cons (.int n3) .nil)))) (by rw[Z];exact .breach O ai aj df ck cj cn) (fun _ z cM e=>by cases e;exact hfield) bz (((k4.trans W).trans bI).trans bF) (by omega) (by omega) t ht⟩
def hid(F:Ah)(H:Hp):Hp:=fun a=>if a=F then none else H a
inductive yH:Aj→Aj→Prop
 | same {d:Aj} (h:iK d=false):yH d d
 | lst {es gs:List Aj} (hp:(gs.map (dB 1)).Perm es):yH (.tuple es) (.list gs)
 | tup {es gs:List Aj} (hp:(gs.map (dB 1)).Perm es):yH (.tuple es) (.tuple gs)
inductive aIT:List Aj→List Aj→Prop
 | nil:aIT [] []
 | cons {d g:Aj} {ds gs:List Aj} (h:yH d g) (r:aIT ds gs):aIT (d :: ds) (g :: gs)
def aFS:Aj→Bool
 | .str _=>true
 | .tuple es=>es.all fun e=>!iK e
 | _=>false
theorem aI6{e:Aj}(h:aFS e=true):dB 1 e=e∧∀ ds,e=.tuple ds→dB 1 (.list ds)=e:=by
 cases e with
 | str z=>exact⟨rfl,fun ds z=>nomatch z⟩
 | tuple ds=>
  have F:ds.map (dB 0)=ds:=by
   have:∀ l:List Aj,l.map (dB 0)=l:=fun l=>by
    induction l with
    | nil=>rfl
    | cons a l O=>rw[A3,O];rfl
   exact this ds
  refine⟨?_,fun J z=>?_⟩
  ·show DI (ds.map (dB 0))=_;rw[F]
  ·cases z;show DI (ds.map (dB 0))=_;rw[F]
 | _=>simp[aFS]at h
def rB(e:Aj):Prop:=(iK e=false∧OkD 102 0 e)∨∃ is:List Aj,e=.tuple is∧is.length≤3∧∀ i∈is,OkD 102 0 i
theorem f6.ok{word:Str}{ds:List Aj}(h:f6 word ds):∀ d∈ds,(iK d=false∧OkD 102 0 d)∨∃ es,d=.tuple es∧es.length≤6∧∀ e∈es,rB e:=by
 have nm:∀{z:Str},bW z=true→iK (AW z)=false∧OkD 102 0 (.str z):=fun h=>⟨rfl,OkD.name h⟩
 have it:∀{i:Int},0≤i→i≤1000000000→iK (Gz i)=false∧OkD 102 0 (.int i):=fun h0 h1=>⟨rfl,OkD.int h0 (Int.lt_of_le_of_lt h1 (by decide))⟩
 intro d hd;cases h with
 | @part aa R Z hr ad h6 F=>
  simp only[Al,AA,or_false]at hd;rcases hd with rfl | rfl
  ·exact .inl (nm Z)
  ·refine .inr ⟨_,rfl,by rw[Ab];exact h6,fun e Y=>?_⟩;obtain⟨x,hx,rfl⟩:=Bb.mp Y;have hp:=Bg.mp F _ Y;have J:(bW x.1 && bW x.2.1 && decide (1≤x.2.2∧x.2.2≤10000000))=true:=hp;rw[AX,AX]at J;have hb:=Ie J.2;refine .inr ⟨_,rfl,by simp,fun i hi=>?_⟩;simp only[Al,AA,or_false]at hi;rcases hi with rfl | rfl | rfl
   ·exact(nm J.1.1).2
   ·exact(nm J.1.2).2
   ·exact(it (by omega) (by omega)).2
 | @join aa R Z hr ad h6 F=>
  simp only[Al,AA,or_false]at hd;rcases hd with rfl | rfl
  ·refine .inr ⟨_,rfl,by rw[Ab];exact h6,fun e Y=>?_⟩;obtain⟨x,hx,rfl⟩:=Bb.mp Y;exact .inl (nm (Bg.mp F _ Y))
  ·exact .inl (nm Z)
 | forfeit Z U=>
  simp only[Al,AA,or_false]at hd;rcases hd with rfl | rfl
  ·exact .inl (nm Z)
  ·exact .inl (nm U)
 | measure W h0 ap=>
  simp only[Al,AA,or_false]at hd;rcases hd with rfl | rfl
  ·exact .inl (nm W)
  ·exact .inl (it h0 (by omega))
 | mend U ho ai=>
  simp only[Al,AA,or_false]at hd;rcases hd with rfl | rfl
  ·exact .inl (nm U)
  ·exact .inl (nm ho)
 | alone U=>
  simp only[Al,AA,or_false]at hd;rcases hd with rfl;exact .inl (nm U)
 | breach W O ac af ao ag am=>
  simp only[Al,AA,or_false]at hd;rcases hd with rfl | rfl | rfl | rfl
  ·exact .inl (nm W)
  ·exact .inl (it O (by omega))
  ·exact .inl (it af (by omega))
  ·exact .inl (it ag (by omega))
 | view W O ac U=>
  simp only[Al,AA,or_false]at hd;rcases hd with rfl | rfl | rfl
  ·exact .inl (nm W)
  ·exact .inl (it O (by omega))
  ·exact .inl (nm U)
theorem aBR{w:Str}(h:w∈eG):bW w=true:=by
 have:∀ w∈eG,bW w=true:=by decide
 exact this w h
theorem f6.word{word:Str}{ds:List Aj}(h:f6 word ds):word∈eG:=by
 cases h <;> decide
theorem f6.len{word:Str}{ds:List Aj}(h:f6 word ds):ds.length≤4:=by
 cases h <;> simp
theorem aIU{word name:Str}{day:Int}{ds:List Aj}(h:f6 word ds)(hn:bW name=true)(z:0≤day)(h1:day≤9999):∀ d∈(AW word :: AW name :: Gz day :: ds),(iK d=false∧OkD 102 0 d)∨∃ es,d=.tuple es∧es.length≤6∧∀ e∈es,rB e:=fun d hd=>by
 simp only[Al]at hd;rcases hd with rfl | rfl | rfl | hd
 ·exact .inl ⟨rfl,OkD.name (aBR h.word)⟩
 ·exact .inl ⟨rfl,OkD.name hn⟩
 ·exact .inl ⟨rfl,OkD.int z (Int.lt_of_le_of_lt h1 (by decide))⟩
 ·exact h.ok d hd
theorem yI{H:Hp}{p c b:Ah}{ns:List Int}{a:Int}{o:HO}(F:cJ H p c ns a)(h1:b≠p)(h2:b≠c):cJ (upd H b o) p c ns a:=by
 obtain⟨⟨z,hz,e⟩,ce,ge,sm⟩:=F;exact⟨⟨z,hz,by rw[aS h1.symm];exact e⟩,by rw[aS h2.symm];exact ce,ge,sm⟩
theorem oR:∀ R:List P3,Be (R.map pD)=false
 | []=>rfl
 | x :: R=>by
  show((pD x).hasDict || Be (R.map pD))=false;rw[oR R];rfl
theorem qC:∀ R:List Str,Be (R.map AW)=false
 | []=>rfl
 | x :: R=>by
  show((AW x).hasDict || Be (R.map AW))=false;rw[qC R];rfl
theorem f6.nodict{word:Str}{ds:List Aj}(h:f6 word ds):Be ds=false:=by
 cases h with
 | @part z R _ _ _ _ _=>
  show(false || (Be (R.map pD) || false))=false;rw[oR];rfl
 | @join z R _ _ _ _ _=>
  show(Be (R.map AW) || (false || false))=false;rw[qC];rfl
 | _=>rfl
def cR:Aj→Bool
 | .tuple [f,h,a,i]=>bY f && bY h && cK 1 1000000 a && cK 0 10000000 i
 | _=>false
def mZ:Aj→Bool
 | .tuple ds=>decide (1≤ds.length∧ds.length≤8) && ds.all cR && decide (ds.map dD).Nodup
 | _=>false
inductive wQ(vs:List V)(H:Hp)(Q:VK)(u3_:XK):Prop
 | mk (m:Bool) (x:V) (d:Aj) (q0:vs=[x]) (q1:RdV m H x d) (q2:∀ H',aY H H'→Q (.bl (cR d)) H'):wQ vs H Q u3_
def aCH:Sp:=fun vs H Q u3_=>wQ vs H Q u3_
inductive aCI(vs:List V)(H:Hp)(Q:VK)(u3_:XK):Prop
 | mk (m:Bool) (x:V) (d:Aj) (q0:vs=[x]) (q1:RdX m H x d) (q2:∀ H',aY H H'→Q (.bl (mZ d)) H'):aCI vs H Q u3_
def aHM:Sp:=fun vs H Q u3_=>aCI vs H Q u3_
theorem oS:bU ["thing","field","house","acres","inches"] ["thing"] (aO t8):=⟨rfl,rfl,rfl,by decide,rfl,by decide,by decide⟩
theorem aFT{f:Ah}{fd:AH}(F:Fun K "is_field" "is_field" t8 f fd)(T:Txt K mg)
  (GN:Cl P w K mg base 1 "is_name" ["thing"] i8)
  (GW:Cl P w K mg base 2 "is_whole" ["thing","least","most"] k9):
  b8 P w K mg base CX0 3 f fd ["thing"] aCH:=by
 refine F.ok oS (fun vs H Q E h=>?_) (fun aj A outer s H vs Q E hr h=>?_)
 ·obtain⟨m,x,d,rfl,_⟩:=h;rfl
 ·obtain⟨m,x,d,rfl,hx,k⟩:=h;have O:cQ 1 _:=hr.mono (by decide);obtain⟨ta,hacres⟩:=T.fieldAcres;obtain⟨ti,hinches⟩:=T.inches;refine⟨_,aJ (cI (PW.pt (hU (dR (dO (aP dN (by rfl) T.isi (by kernel_rfl) (aG (pv 0) (aG (dI (v:=.ty "tuple") (by rfl) T.tuple (by kernel_rfl) rfl) aF)))))
    (fX (bK vL (aP aW (by rfl) T.len AI (aG (pv 0) aF)) aI (bX _))))) (aN (aV gC)) bH)
   (aJ (jN (pv 0) (nM rfl (cT (bJ (i:=1) oS.nd rfl (AE rfl)) (cT (bJ (i:=2) oS.nd rfl (AE rfl)) (cT (bJ (i:=3) oS.nd rfl (AE rfl)) (cT (bJ (i:=4) oS.nd rfl (AE rfl)) kW))))))
   (aJ (cI (PW.pt (hU (dR (dO (bC GN O (aG (pv 1) aF)))) (fX (dR (dO (bC GN O (aG (pv 2) aF))))))) (aN (aV gC)) bH)
   (aN (aV (dX (bC GW hr (aG (pv 3) (aG aI (aG (cE (v:=.int 1000000) (by rfl) hacres ⟨_,rfl⟩) aF)))) (fY (bC GW hr (aG (pv 4) (aG aI (aG (cE (v:=.int 10000000) (by rfl) hinches ⟨_,rfl⟩) aF)))))))))),?_⟩
  refine⟨_,rfl,_,"tuple",_,_,rfl,lC hx,jK d,_,rfl,?_⟩;cases hd:fZ d with
  | false=>
   have e:cR d=false:=by
    cases d with
    | tuple ds=>simp[fZ]at hd
    | _=>rfl
   rw[e]at k;exact k H (aY.refl H)
  | true=>
   obtain⟨ds,rfl⟩:∃ ds,d=.tuple ds:=by
    cases d with
    | tuple z=>exact⟨z,rfl⟩
    | _=>simp[fZ]at hd
   cases hx with
   | @tup a xs _ e hl r=>
    have U:=r.len;refine c7 ?_;refine⟨_,rfl,a,xs,rfl,.inr (bG e),rfl,_,rfl,?_⟩;by_cases Y:xs.length=4
    ·rw[Ic (show V.int (xs.length:Int)=V.int 4 by rw[Y];rfl)];refine c7 ?_
     match xs,ds,Y,r with
     | [x1,x2,x3,x4],[d1,d2,d3,d4],_,.cons r1 (.cons r2 (.cons r3 (.cons r4 .nil)))=>
      refine⟨_,rfl,a,_,rfl,bG e,rfl,_,_,rfl,_,_,rfl,_,_,rfl,_,_,rfl,rfl,?_⟩;have k':∀ H',aY H H'→Q (.bl (bY d1 && bY d2 && cK 1 1000000 d3 && cK 0 10000000 d4)) H':=k;refine⟨_,rfl,m,x1,d1,rfl,r1,fun H1 s1=>⟨_,rfl,?_⟩⟩;refine dH (fun g=>?_) (fun g=>?_)
      ·have W:bY d1=false:=by simpa using g
       have:=k' H1 s1;rw[W]at this;exact this
      ·have W:bY d1=true:=by simpa using g
       refine⟨_,rfl,m,x2,d2,rfl,r2.same s1,fun H2 Z=>⟨_,rfl,?_⟩⟩;refine dH (fun g2=>?_) (fun g2=>?_)
       ·have J:bY d2=false:=by simpa using g2
        have:=k' H2 (s1.trans Z);rw[W,J]at this;exact this
       ·have J:bY d2=true:=by simpa using g2
        have:=k' H2 (s1.trans Z);rw[W,J,A7,A7]at this;refine⟨_,rfl,m,x3,d3,1,1000000,rfl,(r3.same s1).same Z,_,rfl,dH (fun g3=>?_) (fun g3=>?_)⟩
        ·rw[g3,A7]at this;exact⟨_,rfl,m,x4,d4,0,10000000,rfl,(r4.same s1).same Z,this⟩
        ·have ae:cK 1 1000000 d3=false:=by simpa using g3
         rw[ae]at this;exact this
    ·rw[decide_eq_false (show¬ V.int (xs.length:Int)=V.int 4 from fun z=>Y (by have:=V.int.inj z;omega))];refine c8 ?_;have e2:cR (.tuple ds)=false:=by
      match ds,U with
      | [],_=>rfl
      | [_],_=>rfl
      | [_,_],_=>rfl
      | [_,_,_],_=>rfl
      | [_,_,_,_],h=>exact absurd (by simpa using h) Y
      | _ :: _ :: _ :: _ :: _ :: _,_=>rfl
     have:=k H (aY.refl H);rw[e2]at this;exact this
theorem i9{d:Aj}(h:cR d=true):∃(f:Str) (g a i:Aj),d=.tuple [.str f,g,a,i]∧bW f=true∧bY g=true∧cK 1 1000000 a=true∧cK 0 10000000 i=true:=by
 match d,h with
 | .tuple [.str f,g,a,i],h=>
  simp only[cR,bY,AX]at h;exact⟨f,g,a,i,rfl,h.1.1.1,h.1.1.2,h.1.2,h.2⟩
 | .tuple [.none,g,a,i],h=>simp[cR,bY]at h
 | .tuple [.bool _,g,a,i],h=>simp[cR,bY]at h
 | .tuple [.int _,g,a,i],h=>simp[cR,bY]at h
 | .tuple [.list _,g,a,i],h=>simp[cR,bY]at h
 | .tuple [.tuple _,g,a,i],h=>simp[cR,bY]at h
 | .tuple [.dict _,g,a,i],h=>simp[cR,bY]at h
theorem aHb{m:Bool}{H:Hp}{x:V}{d:Aj}(r:RdV m H x d)(h:cR d=true):∃ a xs,x=.ref a∧H a=some (.tup xs)∧atI xs 0=some (V.str (dD d)):=by
 obtain⟨f,g,a,i,rfl,_⟩:=i9 h;cases r with
 | @tup a xs _ e _ r=>
  cases r with
  | cons z rs=>
   cases z;refine⟨a,_,rfl,e,?_⟩;unfold atI ixN;rw[Ib (by decide),Ib (by rw[AM];omega)];rfl
theorem aJZ:bU ["thing"] ["thing"] (aO kH):=⟨rfl,rfl,rfl,by decide,rfl,by decide,by decide⟩
theorem aIV{f:Ah}{fd:AH}(F:Fun K "is_laying" "is_laying" kH f fd)(T:Txt K mg)
  (GF:Cl P w K mg base 3 "is_field" ["thing"] aCH):
  b8 P w K mg base CX0 4 f fd ["thing"] aHM:=by
 refine F.ok aJZ (fun vs H Q E h=>?_) (fun an A outer s H vs Q E hr h=>?_)
 ·obtain⟨m,x,d,rfl,_⟩:=h;rfl
 ·obtain⟨m,x,d,rfl,hx,k⟩:=h;obtain⟨tf,hfields⟩:=T.mostFields;refine⟨_,aJ (cI (PW.pt (hU (dR (dO (aP dN (by rfl) T.isi (by kernel_rfl) (aG (pv 0) (aG (dI (v:=.ty "tuple") (by rfl) T.tuple (by kernel_rfl) rfl) aF)))))
    (fX (dR (rN m3 m3 aI (aP aW (by rfl) T.len AI (aG (pv 0) aF)) (cE (v:=.int 8) (by rfl) hfields ⟨_,rfl⟩)))))) (aN (aV gC)) bH)
   (aJ (cI (dR (dO (aP (oD rfl) (by rfl) T.al (by kernel_rfl) (aG (fU (N:=["field"]) (src:=[none]) (osc:=aO kH) (oN:=["thing"]) ⟨by rfl,by decide,by decide,by decide,rfl,by rfl⟩ (jO (pv 0))
     fun cl s H fp fc C=>⟨bJ (i:=0) (show(["field"]:List Str).Nodup by decide) rfl (AE rfl),dY,bC GF hr (aG (pv 0) aF)⟩) aF)))) (aN (aV gC)) bH)
   (aN (aV (fS dM (aP aDo (by rfl) T.len AI (aG (cY (aDn rfl) (by rfl) T.set (by kernel_rfl) (aG (fU (N:=["field"]) (src:=[none]) (osc:=aO kH) (oN:=["thing"]) ⟨by rfl,by decide,by decide,by decide,rfl,by rfl⟩ (jO (pv 0))
     fun cl s H fp fc C=>⟨bJ (i:=0) (show(["field"]:List Str).Nodup by decide) rfl (AE rfl),dY,bZ (r:=aGu K) cX (pv 0) aI Ig⟩) aF)) aF)) (aP aW (by rfl) T.len AI (aG (pv 0) aF)) (bX _))))),?_⟩
  refine⟨_,rfl,_,"tuple",_,_,rfl,hx.ty,jK d,_,rfl,?_⟩;cases hd:fZ d with
  | false=>
   have e:mZ d=false:=by
    cases d with
    | tuple ds=>simp[fZ]at hd
    | _=>rfl
   rw[e]at k;exact k H (aY.refl H)
  | true=>
   obtain⟨ds,rfl⟩:∃ ds,d=.tuple ds:=by
    cases d with
    | tuple z=>exact⟨z,rfl⟩
    | _=>simp[fZ]at hd
   cases hx.rd (fun z=>nomatch z)with
   | @tup a xs _ e hl r=>
    have O:=r.len;have k':∀ H',aY H H'→Q (.bl (decide (1≤ds.length∧ds.length≤8) && ds.all cR && decide (ds.map dD).Nodup)) H':=k;have bad:¬ (1≤ds.length∧ds.length≤8)→Q (.bl false) H:=fun h=>by
     have:=k' H (aY.refl H);rw[decide_eq_false h]at this;exact this
    refine c7 ?_;refine⟨_,rfl,a,xs,rfl,.inr (bG e),_,_,rfl,rfl,_,rfl,dH (fun h1=>?_) (fun h1=>?_)⟩
    ·have ad:(1:Int)≤xs.length:=Ie h1;refine⟨_,_,rfl,rfl,_,rfl,?_⟩;by_cases h8:(xs.length:Int)≤8
     ·rw[Ic h8];refine c7 ?_;have J:1≤ds.length∧ds.length≤8:=by omega
      refine⟨_,rfl,a,rfl,⟨xs,bG e⟩,?_⟩;refine i5 (xs:=xs) (fun i ys σ H'=>aY H H'∧ys=((ds.take i).map fun d=>V.bl (cR d))∧∃ o,σ=[o]) ⟨aY.refl H,rfl,none,rfl⟩ (aM (by omega)) (fun i ys σ H' p=>by rw[p.2.1,Ab,Am];omega) (fun i ys σ H' p=>bG (p.1 _ _ e)) ?_ ?_
      ·rintro i y ys σ H' hy ⟨S,rfl,o,rfl⟩;dsimp only[cC];obtain⟨d',hd',r'⟩:=r.at hy;refine c8 ?_;refine⟨_,rfl,m,y,d',rfl,r'.same S,fun H2 s2=>⟨S.trans s2,?_,_,rfl⟩⟩;rw[Bn,hd',AS];rfl
      ·rintro ys σ H1 ⟨S,rfl,o,rfl⟩ D hD;have U:Eo xs.length ds=ds:=BE (by omega);rw[U];have Z:=S.trans (aK (o:=.lst (ds.map fun d=>V.bl (cR d))) hD);refine⟨D,ds.map cR,rfl,aU (by rw[aH,Cn];rfl),?_⟩;generalize upd H1 D (.lst (ds.map fun d=>V.bl (cR d)))=H2 at Z ⊢;refine⟨_,rfl,?_⟩;rw[Ek];refine dH (fun g=>?_) (fun g=>?_)
       ·have Y:ds.all cR=false:=by
         have:(ds.all (id ∘ cR))=ds.all cR:=rfl;rw[this]at g;simpa using g
        have:=k' H2 Z;rw[Y,E4,C6]at this;exact this
       ·have Y:ds.all cR=true:=by
         have:(ds.all (id ∘ cR))=ds.all cR:=rfl;rw[this]at g;simpa using g
        have ga:=Bg.mp Y;refine⟨_,rfl,a,rfl,⟨xs,bG (Z _ _ e)⟩,?_⟩;refine i5 (xs:=xs) (fun i ys σ H'=>aY H H'∧ys=((ds.take i).map fun d=>V.str (dD d))∧∃ o,σ=[o]) ⟨Z,rfl,none,rfl⟩ (aM (by omega)) (fun i ys σ H' p=>by rw[p.2.1,Ab,Am];omega) (fun i ys σ H' p=>bG (p.1 _ _ e)) ?_ ?_
        ·rintro i y ys σ H' hy ⟨S,rfl,o,rfl⟩;dsimp only[cC];obtain⟨d',hd',r'⟩:=r.at hy;obtain⟨a',xs',rfl,e',hat⟩:=aHb r' (ga d' (Ax hd'));refine c8 ?_;refine⟨_,rfl,a',xs',0,_,rfl,rfl,bG (S _ _ e'),hat,S,?_,_,rfl⟩;rw[Bn,hd',AS];rfl
        ·rintro ys σ H3 ⟨S,rfl,o,rfl⟩ D3 aa;rw[U];have S3:=S.trans (aK (o:=.lst (ds.map fun d=>V.str (dD d))) aa);refine⟨D3,ds.map dD,rfl,aU (by rw[aH,Cn];rfl),by rw[Ab];omega,fun D4 W=>?_⟩;generalize upd H3 D3 (.lst (ds.map fun d=>V.str (dD d)))=H4 at S3 W ⊢;refine⟨D4,ds.map dD,rfl,aH,by rw[Ab];omega,?_⟩;have S4:=S3.trans (aK (o:=aEF P w D4 (ds.map dD)) W);refine⟨_,rfl,a,xs,rfl,.inr (bG (S4 _ _ e)),rfl,?_⟩;have hc:=v4 (ds.map dD);have e5:decide (V.int ((eO (fun i=>(ds.map dD).getD i "") (ds.map dD).length).length:Nat)=V.int (xs.length:Int))=decide (ds.map dD).Nodup:=by
          rw[← hc,decide_eq_decide,Ab,O];constructor
          ·intro z;exact V.int.inj z
          ·intro z;rw[z]
         have:=k' _ S4;rw[Ic J,Y,A7,A7]at this;show Q (.bl (decide (V.int ((eO (fun i=>(ds.map dD).getD i "") (ds.map dD).length).length:Nat)=V.int (xs.length:Int)))) _;rw[e5];exact this
     ·rw[decide_eq_false h8];exact c8 (bad (by omega))
    ·have ad:¬ (1:Int)≤xs.length:=fun z=>h1 (Ic z);exact⟨false,rfl,c8 (bad (by omega))⟩
mutual
inductive iH:Aj→Prop
 | non:iH .none
 | bl (b:Bool):iH (.bool b)
 | int (i:Int):iH (.int i)
 | str (z:Str):iH (.str z)
 | tup {ds:List Aj} (h:jM ds):iH (.tuple ds)
inductive jM:List Aj→Prop
 | nil:jM []
 | cons {d:Aj} {ds:List Aj} (a:iH d) (r:jM ds):jM (d :: ds)
end
mutual
theorem RdV.unl{H:Hp}:∀{x:V}{d:Aj},RdV true H x d→iH d→RdV false H x d
 | _,_,.non,_=>.non
 | _,_,.bl b,_=>.bl b
 | _,_,.int i,_=>.int i
 | _,_,.str z h,_=>.str z h
 | _,_,.tup e F r,.tup h=>.tup e F (cF.unl r h)
theorem cF.unl{H:Hp}:∀{xs:List V}{ds:List Aj},cF true H xs ds→jM ds→cF false H xs ds
 | _,_,.nil,_=>.nil
 | _,_,.cons a r,.cons b s=>.cons (RdV.unl a b) (cF.unl r s)
end
theorem qD:∀ R:List P3,jM (R.map pD)
 | []=>.nil
 | x :: R=>.cons (.tup (.cons (.str _) (.cons (.str _) (.cons (.int _) .nil)))) (qD R)
theorem uM:∀ R:List Str,jM (R.map AW)
 | []=>.nil
 | x :: R=>.cons (.str _) (uM R)
theorem f6.plain{word:Str}{ds:List Aj}(h:f6 word ds)(name:Str)(day:Int):iH (iG word name day ds):=by
 refine .tup (.cons (.str _) (.cons (.str _) (.cons (.int _) ?_)));cases h with
 | @part z R _ _ _ _ _=>exact .cons (.str _) (.cons (.tup (qD R)) .nil)
 | @join z R _ _ _ _ _=>exact .cons (.tup (uM R)) (.cons (.str _) .nil)
 | forfeit _ _=>exact .cons (.str _) (.cons (.str _) .nil)
 | measure _ _ _=>exact .cons (.str _) (.cons (.int _) .nil)
 | mend _ _ _=>exact .cons (.str _) (.cons (.str _) .nil)
 | alone _=>exact .cons (.str _) .nil
 | breach _ _ _ _ _ _ _=>exact .cons (.str _) (.cons (.int _) (.cons (.int _) (.cons (.int _) .nil)))
 | view _ _ _ _=>exact .cons (.str _) (.cons (.int _) (.cons (.str _) .nil))
def fmV(g0 g1 g2 g3 g4 g5 g6 g7:Ah):List (Key×V):=[(Aw "part",.ref g0),(Aw "join",.ref g1),(Aw "forfeit",.ref g2),(Aw "measure",.ref g3),(Aw "mend",.ref g4),(Aw "alone",.ref g5),(Aw "breach",.ref g6),(Aw "view",.ref g7)]
def fmR(g0 g1 g2 g3 g4 g5 g6 g7:Ah):List (Key×Ac):=[(Aw "part",.ref g0),(Aw "join",.ref g1),(Aw "forfeit",.ref g2),(Aw "measure",.ref g3),(Aw "mend",.ref g4),(Aw "alone",.ref g5),(Aw "breach",.ref g6),(Aw "view",.ref g7)]
theorem aIW(O J F U Z W Y z:Ah):KV (fmV O J F U Z W Y z) (fmR O J F U Z W Y z):=.cons ⟨rfl,rfl⟩ (.cons ⟨rfl,rfl⟩ (.cons ⟨rfl,rfl⟩ (.cons ⟨rfl,rfl⟩ (.cons ⟨rfl,rfl⟩ (.cons ⟨rfl,rfl⟩ (.cons ⟨rfl,rfl⟩ (.cons ⟨rfl,rfl⟩ (.nil))))))))
theorem dW(w:AV)(s:Str):AU w.params s=aHY w (Aw s):=by
 first | rfl | (unfold aHY hashStr AU;rfl)
theorem isS(s:Str)(t:Tok):rF (Aw s) (.str s t)=true:=by
 show Ff s (.str s t)=true;simp[Ff]
theorem aHc{P:Ay}{w:AV}{K:Ag}{a:Ah}{e:Nat}{Y O U J F W z Z:Tok}{g0 g1 g2 g3 g4 g5 g6 g7:Ah}(l:K.lookup a=some { cls:=.type "dict",data:=.dict #[⟨AU w.params "part",.str "part" Y,.ref g0⟩,⟨AU w.params "join",.str "join" O,.ref g1⟩,⟨AU w.params "forfeit",.str "forfeit" U,.ref g2⟩,⟨AU w.params "measure",.str "measure" J,.ref g3⟩,⟨AU w.params "mend",.str "mend" F,.ref g4⟩,⟨AU w.params "alone",.str "alone" W,.ref g5⟩,⟨AU w.params "breach",.str "breach" z,.ref g6⟩,⟨AU w.params "view",.str "view" Z,.ref g7⟩] e }):∀ h:Ba,K.In h→h.DictOf (c9 P w) a (fmR g0 g1 g2 g3 g4 g5 g6 g7):=by
 intro h hK;refine⟨_,_,_,hK _ _ l,⟨rfl,rfl,rfl⟩,rfl,?_,?_,?_⟩
 ·intro en he;simp only[List.mem_toArray,Al,AA,or_false]at he;rcases he with rfl | rfl | rfl | rfl | rfl | rfl | rfl | rfl
  ·exact⟨Aw "part",isS "part" Y,dW w "part"⟩
  ·exact⟨Aw "join",isS "join" O,dW w "join"⟩
  ·exact⟨Aw "forfeit",isS "forfeit" U,dW w "forfeit"⟩
  ·exact⟨Aw "measure",isS "measure" J,dW w "measure"⟩
  ·exact⟨Aw "mend",isS "mend" F,dW w "mend"⟩
  ·exact⟨Aw "alone",isS "alone" W,dW w "alone"⟩
  ·exact⟨Aw "breach",isS "breach" z,dW w "breach"⟩
  ·exact⟨Aw "view",isS "view" Z,dW w "view"⟩
 ·exact .cons (isS "part" Y) rfl (.cons (isS "join" O) rfl (.cons (isS "forfeit" U) rfl (.cons (isS "measure" J) rfl (.cons (isS "mend" F) rfl (.cons (isS "alone" W) rfl (.cons (isS "breach" z) rfl (.cons (isS "view" Z) rfl (.nil))))))))
 ·show([Aw "part",Aw "join",Aw "forfeit",Aw "measure",Aw "mend",Aw "alone",Aw "breach",Aw "view"]:List Key).Nodup;decide
theorem aHN(g0 g1 Z g3 g4 g5 g6 g7:Ah)(kind:Str):fJ (fmV g0 g1 Z g3 g4 g5 g6 g7) (Aw kind)=if kind="part" then some (.ref g0) else if kind="join" then some (.ref g1) else if kind="forfeit" then some (.ref Z) else if kind="measure" then some (.ref g3) else if kind="mend" then some (.ref g4) else if kind="alone" then some (.ref g5) else if kind="breach" then some (.ref g6) else if kind="view" then some (.ref g7) else none:=by
 unfold fmV;by_cases W:kind="part"
 ·rw[Ib W];subst W;rfl
 rw[dS (show¬ (Aw "part":Key)=Aw kind from fun z=>W (by injection z with z;exact z.symm)),Ia W];by_cases h1:kind="join"
 ·rw[Ib h1];subst h1;rfl
 rw[dS (show¬ (Aw "join":Key)=Aw kind from fun z=>h1 (by injection z with z;exact z.symm)),Ia h1];by_cases h2:kind="forfeit"
 ·rw[Ib h2];subst h2;rfl
 rw[dS (show¬ (Aw "forfeit":Key)=Aw kind from fun z=>h2 (by injection z with z;exact z.symm)),Ia h2];by_cases F:kind="measure"
 ·rw[Ib F];subst F;rfl
 rw[dS (show¬ (Aw "measure":Key)=Aw kind from fun z=>F (by injection z with z;exact z.symm)),Ia F];by_cases O:kind="mend"
 ·rw[Ib O];subst O;rfl
 rw[dS (show¬ (Aw "mend":Key)=Aw kind from fun z=>O (by injection z with z;exact z.symm)),Ia O];by_cases J:kind="alone"
 ·rw[Ib J];subst J;rfl
 rw[dS (show¬ (Aw "alone":Key)=Aw kind from fun z=>J (by injection z with z;exact z.symm)),Ia J];by_cases Y:kind="breach"
 ·rw[Ib Y];subst Y;rfl
 rw[dS (show¬ (Aw "breach":Key)=Aw kind from fun z=>Y (by injection z with z;exact z.symm)),Ia Y];by_cases U:kind="view"
 ·rw[Ib U];subst U;rfl
 rw[dS (show¬ (Aw "view":Key)=Aw kind from fun z=>U (by injection z with z;exact z.symm)),Ia U];rfl
theorem aJ0(g0 g1 Y g3 g4 g5 g6 Z:Ah)(kind:Str):(fJ (fmV g0 g1 Y g3 g4 g5 g6 Z) (Aw kind)).isSome=decide (kind∈eG):=by
 rw[aHN];simp only[eG,Al,AA,or_false];by_cases O:kind="part"
 ·rw[Ib O,Ic (by simp[O])];rfl
 rw[Ia O];by_cases h1:kind="join"
 ·rw[Ib h1,Ic (by simp[h1])];rfl
 rw[Ia h1];by_cases h2:kind="forfeit"
 ·rw[Ib h2,Ic (by simp[h2])];rfl
 rw[Ia h2];by_cases z:kind="measure"
 ·rw[Ib z,Ic (by simp[z])];rfl
 rw[Ia z];by_cases J:kind="mend"
 ·rw[Ib J,Ic (by simp[J])];rfl
 rw[Ia J];by_cases F:kind="alone"
 ·rw[Ib F,Ic (by simp[F])];rfl
 rw[Ia F];by_cases W:kind="breach"
 ·rw[Ib W,Ic (by simp[W])];rfl
 rw[Ia W];by_cases U:kind="view"
 ·rw[Ib U,Ic (by simp[U])];rfl
 rw[Ia U];rw[decide_eq_false (by simp[O,h1,h2,z,J,F,W,U])];rfl
theorem aJ1{P:Ay}{w:AV}{K:Ag}{mg:Str→Option Ac}{base:Ba}{Z z Y U O W F J:Ah}{d0:AH}(G0:b8 P w K mg base CX0 6 Z d0 ["rest"] (eV aAD))(k0:Au K (.ref Z)=true)(b0:cZ K d0 ["rest"] []){d1:AH}(G1:b8 P w K mg base CX0 6 z d1 ["rest"] (eV wG))(k1:Au K (.ref z)=true)(b1:cZ K d1 ["rest"] []){d2:AH}(G2:b8 P w K mg base CX0 6 Y d2 ["rest"] (eV kK))(k2:Au K (.ref Y)=true)(b2:cZ K d2 ["rest"] []){d3:AH}(G3:b8 P w K mg base CX0 6 U d3 ["rest"] (eV hZ))(k3:Au K (.ref U)=true)(b3:cZ K d3 ["rest"] []){d4:AH}(G4:b8 P w K mg base CX0 6 O d4 ["rest"] (eV qA))(k4:Au K (.ref O)=true)(b4:cZ K d4 ["rest"] []){d5:AH}(G5:b8 P w K mg base CX0 6 W d5 ["rest"] (eV pW))(k5:Au K (.ref W)=true)(b5:cZ K d5 ["rest"] []){d6:AH}(G6:b8 P w K mg base CX0 6 F d6 ["rest"] (eV g8))(k6:Au K (.ref F)=true)(b6:cZ K d6 ["rest"] []){d7:AH}(G7:b8 P w K mg base CX0 6 J d7 ["rest"] (eV p8))(k7:Au K (.ref J)=true)(b7:cZ K d7 ["rest"] []):
  ∀(kind:Str) (v:V),fJ (fmV Z z Y U O W F J) (Aw kind)=some v→∃(a:Ah) (fd:AH),v=.ref a∧b8 P w K mg base CX0 6 a fd ["rest"] (eV (eB kind))∧Au K (.ref a)=true∧cZ K fd ["rest"] []:=by
 intro kind v h;rw[aHN]at h;by_cases h0:kind="part"
 ·rw[Ib h0]at h;cases h;subst h0;have e:eB "part"=aAD:=by funext ds;unfold eB;rw[Ib rfl]
  exact⟨Z,d0,rfl,by rw[e];exact G0,k0,b0⟩
 rw[Ia h0]at h;by_cases h1:kind="join"
 ·rw[Ib h1]at h;cases h;subst h1;have e:eB "join"=wG:=by funext ds;unfold eB;rw[Ia (by decide),Ib rfl]
  exact⟨z,d1,rfl,by rw[e];exact G1,k1,b1⟩
 rw[Ia h1]at h;by_cases h2:kind="forfeit"
 ·rw[Ib h2]at h;cases h;subst h2;have e:eB "forfeit"=kK:=by funext ds;unfold eB;rw[Ia (by decide),Ia (by decide),Ib rfl]
  exact⟨Y,d2,rfl,by rw[e];exact G2,k2,b2⟩
 rw[Ia h2]at h;by_cases h3:kind="measure"
 ·rw[Ib h3]at h;cases h;subst h3;have e:eB "measure"=hZ:=by funext ds;unfold eB;rw[Ia (by decide),Ia (by decide),Ia (by decide),Ib rfl]
  exact⟨U,d3,rfl,by rw[e];exact G3,k3,b3⟩
 rw[Ia h3]at h;by_cases h4:kind="mend"
 ·rw[Ib h4]at h;cases h;subst h4;have e:eB "mend"=qA:=by funext ds;unfold eB;rw[Ia (by decide),Ia (by decide),Ia (by decide),Ia (by decide),Ib rfl]
  exact⟨O,d4,rfl,by rw[e];exact G4,k4,b4⟩
 rw[Ia h4]at h;by_cases h5:kind="alone"
 ·rw[Ib h5]at h;cases h;subst h5;have e:eB "alone"=pW:=by funext ds;unfold eB;rw[Ia (by decide),Ia (by decide),Ia (by decide),Ia (by decide),Ia (by decide),Ib rfl]
  exact⟨W,d5,rfl,by rw[e];exact G5,k5,b5⟩
 rw[Ia h5]at h;by_cases h6:kind="breach"
 ·rw[Ib h6]at h;cases h;subst h6;have e:eB "breach"=g8:=by funext ds;unfold eB;rw[Ia (by decide),Ia (by decide),Ia (by decide),Ia (by decide),Ia (by decide),Ia (by decide),Ib rfl]
  exact⟨F,d6,rfl,by rw[e];exact G6,k6,b6⟩
 rw[Ia h6]at h;by_cases h7:kind="view"
 ·rw[Ib h7]at h;cases h;subst h7;have e:eB "view"=p8:=by funext ds;unfold eB;rw[Ia (by decide),Ia (by decide),Ia (by decide),Ia (by decide),Ia (by decide),Ia (by decide),Ia (by decide)]
  exact⟨J,d7,rfl,by rw[e];exact G7,k7,b7⟩
 rw[Ia h7]at h;cases h
def rk(w:Str):Int:=if w="measure" then 0 else if w="mend"∨w="alone" then 2 else if w="breach"∨w="view" then 3 else 1
inductive aCJ(H:Hp)(x:V)(word name:Str)(day:Int):Prop
 | mk (t:_) (cM:_) (q0:x=.ref t) (q1:H t=some (.tup (.str word :: .str name :: .int day :: cM))) (q2:word∈eG):aCJ H x word name day
def aHO(H:Hp)(x:V)(word name:Str)(day:Int):Prop:=aCJ H x word name day
theorem aIX{word name:Str}{day:Int}{cM:List V}:atI (V.str word :: .str name :: .int day :: cM) 0=some (.str word)∧atI (V.str word :: .str name :: .int day :: cM) 1=some (.str name)∧atI (V.str word :: .str name :: .int day :: cM) 2=some (.int day):=by
 have z:(V.str word :: V.str name :: V.int day :: cM).length=cM.length + 3:=rfl;unfold atI ixN;rw[z,Ib (by decide),Ib (by omega),Ib (by decide),Ib (by omega),Ib (by decide),Ib (by omega)];exact⟨rfl,rfl,rfl⟩
inductive wR(vs:List V)(H:Hp)(Q:VK)(u3_:XK):Prop
 | mk (x:V) (word name:Str) (day:Int) (q0:vs=[x]) (q1:aHO H x word name day) (q2:∀(q:Ah) (H':Hp),aY H H'→H' q=some (.tup [.int day,.int (rk word),.str name])→Q (.ref q) H'):wR vs H Q u3_
def yJ:Sp:=fun vs H Q u3_=>wR vs H Q u3_
def rkP:List (Key×V):=[(Aw "measure",.int 0),(Aw "part",.int 1),(Aw "join",.int 1),(Aw "forfeit",.int 1),(Aw "mend",.int 2),(Aw "alone",.int 2),(Aw "breach",.int 3),(Aw "view",.int 3)]
theorem aHd:∀ w∈eG,fJ rkP (Aw w)=some (.int (rk w)):=by decide
structure rC(w:AV)(K:Ag)(a:Ah):Prop where
 ex:∃(e:Nat) (x0 x1 x2 x3 x4 x5 x6 x7 y0 y1 y2 y3 y4 y5 y6 y7:Tok),K.lookup a=some { cls:=.type "dict",data:=.dict #[⟨AU w.params "measure",.str "measure" x0,.int 0 y0⟩,⟨AU w.params "part",.str "part" x1,.int 1 y1⟩,⟨AU w.params "join",.str "join" x2,.int 1 y2⟩,⟨AU w.params "forfeit",.str "forfeit" x3,.int 1 y3⟩,⟨AU w.params "mend",.str "mend" x4,.int 2 y4⟩,⟨AU w.params "alone",.str "alone" x5,.int 2 y5⟩,⟨AU w.params "breach",.str "breach" x6,.int 3 y6⟩,⟨AU w.params "view",.str "view" x7,.int 3 y7⟩] e }
theorem rC.dict{P:Ay}{w:AV}{K:Ag}{a:Ah}(r:rC w K a):∃ vs,KV rkP vs∧∀ h:Ba,K.In h→h.DictOf (c9 P w) a vs:=by
 obtain⟨e,x0,x1,x2,x3,x4,x5,x6,x7,y0,y1,y2,y3,y4,y5,y6,y7,l⟩:=r.ex;refine⟨[(Aw "measure",.int 0 y0),(Aw "part",.int 1 y1),(Aw "join",.int 1 y2),(Aw "forfeit",.int 1 y3),(Aw "mend",.int 2 y4),(Aw "alone",.int 2 y5),(Aw "breach",.int 3 y6),(Aw "view",.int 3 y7)],?_,fun h F=>⟨_,_,_,F _ _ l,⟨rfl,rfl,rfl⟩,rfl,?_,?_,?_⟩⟩
 ·exact .cons ⟨rfl,_,rfl⟩ (.cons ⟨rfl,_,rfl⟩ (.cons ⟨rfl,_,rfl⟩ (.cons ⟨rfl,_,rfl⟩ (.cons ⟨rfl,_,rfl⟩ (.cons ⟨rfl,_,rfl⟩ (.cons ⟨rfl,_,rfl⟩ (.cons ⟨rfl,_,rfl⟩ (.nil))))))))
 ·intro J z;simp only[List.mem_toArray,Al,AA,or_false]at z;rcases z with rfl | rfl | rfl | rfl | rfl | rfl | rfl | rfl
  ·exact⟨Aw "measure",isS "measure" x0,dW w "measure"⟩
  ·exact⟨Aw "part",isS "part" x1,dW w "part"⟩
  ·exact⟨Aw "join",isS "join" x2,dW w "join"⟩
  ·exact⟨Aw "forfeit",isS "forfeit" x3,dW w "forfeit"⟩
  ·exact⟨Aw "mend",isS "mend" x4,dW w "mend"⟩
  ·exact⟨Aw "alone",isS "alone" x5,dW w "alone"⟩
  ·exact⟨Aw "breach",isS "breach" x6,dW w "breach"⟩
  ·exact⟨Aw "view",isS "view" x7,dW w "view"⟩
 ·exact .cons (isS "measure" x0) rfl (.cons (isS "part" x1) rfl (.cons (isS "join" x2) rfl (.cons (isS "forfeit" x3) rfl (.cons (isS "mend" x4) rfl (.cons (isS "alone" x5) rfl (.cons (isS "breach" x6) rfl (.cons (isS "view" x7) rfl (.nil))))))))
 ·show([Aw "measure",Aw "part",Aw "join",Aw "forfeit",Aw "mend",Aw "alone",Aw "breach",Aw "view"]:List Key).Nodup;decide
theorem aHe:bU ["row"] ["row"] (aO aBw):=⟨rfl,rfl,rfl,by decide,rfl,by decide,by decide⟩
theorem aFU{f:Ah}{fd:AH}(F:Fun K "order" "order" aBw f fd){z:Ah}(R:rC w K z)(J:mg "RANKS"=some (.ref z)):b8 P w K mg base CX0 1 f fd ["row"] yJ:=by
 refine F.ok aHe (fun vs H Q E h=>?_) (fun O A outer s H vs Q E W h=>?_)
 ·obtain⟨x,word,name,day,rfl,_⟩:=h;rfl
 ·obtain⟨x,word,name,day,rfl,⟨t,cM,rfl,ht,hw⟩,k⟩:=h;obtain⟨rvs,rel,hd⟩:=R.dict (P:=P);refine⟨_,aN (aV (cA (aG (bZ cX (pv 0) aI Ig) (aG (aCf hd rel (by rfl) J (bZ cX (pv 0) aI Ig) Ig) (aG (bZ cX (pv 0) aI Ig) aF))))),?_⟩;obtain⟨r0,r1,r2⟩:=aIX (word:=word) (name:=name) (day:=day) (cM:=cM);refine⟨_,rfl,t,_,2,_,rfl,rfl,bG ht,r2,_,rfl,t,_,0,_,rfl,rfl,bG ht,r0,Aw word,_,rfl,aHd word hw,_,rfl,t,_,1,_,rfl,rfl,bG ht,r1,zZ3,fun q U=>?_⟩;exact k q _ (aK U) aH
def yK(ds:List Aj):Prop:=∀ d∈ds,cR d=true∧OkD 5000 1 d∧d.hasDict=false
def g9(f h:Str)(a i:Int):Aj:=.tuple [.str f,.str h,.int a,.int i]
theorem aBS{f h:Str}{a i:Int}(F:bW f=true)(z:bW h=true)(a1:1≤a)(a2:a≤1000000)(J:0≤i)(O:i≤10000000):cR (g9 f h a i)=true∧OkD 5000 1 (g9 f h a i)∧(g9 f h a i).hasDict=false:=by
 refine⟨?_,?_,rfl⟩
 ·show(bW f && bW h && decide (1≤a∧a≤1000000) && decide (0≤i∧i≤10000000))=true;rw[F,z,Ic ⟨a1,a2⟩,Ic ⟨J,O⟩];rfl
 ·have b:(10000000:Int) < 10 ^ 60:=by decide
  refine(OkD.tuple (n:=4) (b:=102) (k:=0) (fun d hd=>?_) (by show 4≤4;decide)).mono (by decide) (by decide);simp only[Al,AA,or_false]at hd;rcases hd with rfl | rfl | rfl | rfl
  ·exact OkD.name F
  ·exact OkD.name z
  ·exact OkD.int (by omega) (by omega)
  ·exact OkD.int (by omega) (by omega)
inductive wS(vs:List V)(H:Hp)(Q:VK)(u3_:XK):Prop
 | mk (p c:Ah) (ns:List Int) (a:Int) (lf lh:Ah) (ws hs:List Str) (q0:vs=[.ref p,.ref lf,.ref lh]) (q1:cJ H p c ns a) (q2:a≤800000) (q3:H lf=some (.lst (ws.map V.str))) (q4:(∀ w∈ws,bW w=true)) (q5:ws.length≤44) (q6:H lh=some (.lst (hs.map V.str))) (q7:(∀ w∈hs,bW w=true)) (q8:1≤hs.length) (q9:hs.length≤44) (q10:∀ t xs ds a' H',H' t=some (.tup xs)→cF false H' xs ds→yK ds→ds.map dD=ws→a≤a'→a'≤a + 400→cJ H' p c ns a'→aQ p H H'→Q (.ref t) H'):wS vs H Q u3_
def aCK:Sp:=fun vs H Q u3_=>wS vs H Q u3_
theorem rD:bU ["_law_pen_here","_law_fields","_law_houses","_law_found","_law_field","_law_house"] ["_law_pen_here","_law_fields","_law_houses"] (aO aBy):=⟨rfl,rfl,rfl,by decide,rfl,by decide,by decide⟩
theorem aFV{f:Ah}{fd:AH}(F:Fun K "_law_laying" "_law_laying" aBy f fd)(ao:mg "len"=none)(ak:mg "tuple"=none)
  (GT:Cl P w K mg base 1 "_law_take" ["_law_pen_here","_law_many"] gQ)
  (GN:Cl P w K mg base 2 "_law_number" ["_law_pen_here","_law_bottom","_law_most"] aFK):
  b8 P w K mg base CX0 3 f fd ["_law_pen_here","_law_fields","_law_houses"] aCK:=by
 refine F.ok rD (fun vs H Q E h=>?_) (fun bB A outer s H vs Q E hr h=>?_)
 ·obtain⟨p,c,ns,a,lf,lh,ws,hs,rfl,_⟩:=h;rfl
 ·obtain⟨p,c,ns,a,lf,lh,ws,hs,rfl,hp,ha,hlf,hw,hwl,hlh,hh,hl1,hl2,k⟩:=h;have aB:cQ 1 _:=hr.mono (by decide);refine⟨_,aJ (aZ (i:=3) rD.nd rfl (AE rfl) (cW aF))
   (aJ (jP Cv rfl (jC (pv 1)) (bJ (i:=4) rD.nd rfl (AE rfl))
    (aJ (aZ (i:=5) rD.nd rfl (AE rfl) (bZ cH (pv 2) (bC GT aB (aG (pv 0) (aG (aP aW (by rfl) ao AI (aG (pv 2) aF)) aF))) Ig))
    (aN (jB (lM BA BY BX gB (pv 3) (aG (cA (aG (pv 4) (aG (pv 5) (aG (bC GN hr (aG (pv 0) (aG aI (aG (aX iC aI aI) aF)))) (aG (bC GN hr (aG (pv 0) (aG aI (aG (aX iC aI aI) aF)))) aF))))) aF))))))
   (aN (aV (cY c0 (by rfl) ak (by kernel_rfl) (aG (pv 3) aF))))),?_⟩
  have cp:∀ j:Int,0≤j→j≤1000000→aH9 10 j:=fun j h1 h2=>⟨h1,h2,by decide⟩
  have p6:((10:Int) ^ CD 6)=1000000:=by decide
  have p7:((10:Int) ^ CD 7)=10000000:=by decide
  have e9:(10:Int) ^ 9=1000000000:=by decide
  refine⟨Bo _,fun L hL=>?_⟩;have S0:=aK (o:=.lst []) hL;have bg:L≠p:=by
   obtain⟨l,_,z⟩:=hp.ob;exact(bE z hL).symm
  have aD:L≠c:=(bE hp.ce hL).symm;have ba:lf≠L:=bE hlf hL;have bf:lh≠L:=bE hlh hL;refine⟨_,rfl,lf,rfl,⟨_,aU (S0 _ _ hlf)⟩,rL (K:=K) (xs:=ws.map V.str) (fun i σ H'=>Ex3 fun(o4 o5:Option V) (a':Int)=>∃(xs:List V) (ds:List Aj),Aw6 (σ=[some (.ref p),some (.ref lf),some (.ref lh),some (.ref L),o4,o5]) (H' L=some (.lst xs)) (cF false H' xs ds) (yK ds) (ds.map dD=ws.take i) (Aw6 (cJ H' p c ns a') (a≤a') (a'≤a + 8 * i) (aQ p H H') (H' lf=some (.lst (ws.map V.str))) (H' lh=some (.lst (hs.map V.str)))))
   ⟨none,none,a,[],[],rfl,aH,.nil,(fun d hd=>by simp at hd),by simp,hp.same S0,by omega,by simp,aY.but S0,S0 _ _ hlf,S0 _ _ hlh⟩ (fun i σ H' _ h=>?_) ?_ ?_⟩
  ·obtain⟨_,_,_,_,_,_,_,_,_,_,_,_,_,_,h,_⟩:=h;exact aU h
  ·rintro i x σ H1 hx ⟨o4,o5,a1,xs,ds,rfl,Y,Z,ad,W,J,aq,an,ae,ac,U⟩;have hi:i < ws.length:=by
    have:=(AR.mp hx).1;simpa using this
   obtain⟨fn,hfn,rfl⟩:∃ fn,ws[i]?=some fn∧x=V.str fn:=by
    rw[AC]at hx;cases e:ws[i]? with
    | none=>rw[e]at hx;cases hx
    | some z=>rw[e]at hx;exact⟨z,rfl,(Cb.inj hx).symm⟩
   dsimp only[cC];refine⟨_,rfl,_,rfl,_,rfl,lh,_,rfl,.inl (aU U),p,c,ns,a1,_,rfl,J,by omega,by rw[Ab];omega,by rw[Ab];omega,fun r1 a2 H2 be bd l2 u2 ax aa=>?_⟩;have ar:=bQ U J aa;obtain⟨v,hv,hat⟩:=iE (xs:=hs.map V.str) (i:=r1) be bd;obtain⟨hn,hhn,rfl⟩:=Bb.mp hv;refine⟨lh,_,r1,_,rfl,rfl,aU ar,hat,?_⟩;have az:=bQ Y J aa;refine⟨_,rfl,.inl ⟨rfl,_,aU az⟩,_,rfl,_,rfl,_,rfl,_,_,rfl,rfl,cp _ (by decide) (by decide),p,c,ns,a2,1,1000000,(by show[V.ref p,V.int 1,V.int ((10:Int) ^ CD 6)] ++ []=_;rw[p6];rfl),ax,by omega,by decide,by decide,by omega,fun n1 a3 H3 aw bj l3 u3 aE ai=>?_⟩;refine⟨_,rfl,_,_,rfl,rfl,cp _ (by decide) (by decide),p,c,ns,a3,0,10000000,(by show[V.ref p,V.int 0,V.int ((10:Int) ^ CD 7)] ++ []=_;rw[p7];rfl),aE,by omega,by decide,by decide,by omega,fun n2 a4 H4 bi aC l4 u4 ay ap=>?_⟩;refine⟨zZ4,fun q hq=>?_⟩;have sq:=aK (o:=.tup [V.str fn,.str hn,.int n1,.int n2]) hq;have O:=((aa.trans ai).trans ap).same sq;have ah:=bQ Y J O;have aA:q≠L:=(bE (bQ Y J ((aa.trans ai).trans ap)) hq).symm;have bb:=aBS (hw fn (Ax hfn)) (hh hn hhn) aw bj bi aC;have bq:xs.length≤44:=by
    have e1:=Z.len;have e2:=congrArg EB W;rw[Ab,Am]at e2;omega
   refine⟨L,xs,_,rfl,rfl,ah,jX (by omega),?_⟩;have aj:=yF Z J O;have kL:∀(b:Ah) (o:HO),upd H4 q (.tup [V.str fn,.str hn,.int n1,.int n2]) b=some o→b≠L→upd (upd H4 q (.tup [V.str fn,.str hn,.int n1,.int n2])) L (.lst (xs ++ [V.ref q])) b=some o:=fun b o e ne=>by rw[aS ne];exact e
   refine⟨_,_,a4,xs ++ [V.ref q],ds ++ [g9 fn hn n1 n2],rfl,aH,?_,?_,?_,?_,by omega,by omega,?_,?_,?_⟩
   ·refine cF.app (aj.keepF fun b o e _ aL=>kL b o e fun z=>?_) (.cons (.tup (kL _ _ aH aA) (by show 4≤1000;decide) (.cons (.str _ (by have:=dA (hw fn (Ax hfn));omega)) (.cons (.str _ (by have:=dA (hh hn hhn);omega)) (.cons (.int _) (.cons (.int _) .nil))))) .nil);rw[z,ah]at e;exact aL _ (Cb.inj e).symm
   ·intro d hd;rcases Az.mp hd with z | z
    ·exact ad d z
    ·rw[A6.mp z];exact bb
   ·rw[AS,W,Bn,hfn];rfl
   ·obtain⟨⟨l,hl,e⟩,ce,ge,sm⟩:=ay.same sq;exact⟨⟨l,hl,kL _ _ e bg.symm⟩,kL _ _ ce aD.symm,ge,sm⟩
   ·intro b o e ne;exact kL b o ((ae.trans O) b o e ne) (bE e hL)
   ·exact kL _ _ (bQ ac J O) ba
   ·exact kL _ _ (bQ U J O) bf
  ·rintro σ H1 ⟨o4,o5,a1,xs,ds,rfl,Y,Z,ad,W,J,aq,an,ae,ac,U⟩;rw[Ab]at an W;rw[B8]at W;refine⟨_,rfl,L,xs,rfl,.inl ⟨aU Y,fun t ht=>?_⟩⟩;have S1:=aK (o:=.tup xs) ht;exact k t xs ds a1 _ aH (Z.same S1) ad W aq (by omega) (J.same S1) (ae.same S1)
theorem f6.fourth{word:Str}{ds:List Aj}(h:f6 word ds):∃ d F,ds=d :: F∧(inV (.str word) [V.str "measure",.str "breach",.str "view"]=true→∃ z,d=.str z):=by
 cases h with
 | part _ _ _ _ _=>exact⟨_,_,rfl,fun z=>absurd z (by decide)⟩
 | join _ _ _ _ _=>exact⟨_,_,rfl,fun z=>absurd z (by decide)⟩
 | forfeit _ _=>exact⟨_,_,rfl,fun z=>absurd z (by decide)⟩
 | measure _ _ _=>exact⟨_,_,rfl,fun z=>⟨_,rfl⟩⟩
 | mend _ _ _=>exact⟨_,_,rfl,fun z=>absurd z (by decide)⟩
 | alone _=>exact⟨_,_,rfl,fun z=>absurd z (by decide)⟩
 | breach _ _ _ _ _ _ _=>exact⟨_,_,rfl,fun z=>⟨_,rfl⟩⟩
 | view _ _ _ _=>exact⟨_,_,rfl,fun z=>⟨_,rfl⟩⟩
structure bV where
 word:Str
 name:Str
 day:Int
 ds:List Aj
def bV.d(r:bV):Aj:=iG r.word r.name r.day r.ds
def bV.key(r:bV):L2.K3:=(r.day,rk r.word,r.name)
structure bV.Ok(r:bV)(fs:List Str):Prop where
 rs:f6 r.word r.ds
 nm:bW r.name=true
 d0:0≤r.day
 d1:r.day≤9999
 fi:FIn r.word r.ds fs
theorem bV.Ok.row{r:bV}{fs:List Str}(h:r.Ok fs):rowD r.d=true:=aFQ h.rs h.nm h.d0 h.d1
theorem bV.Ok.at{r:bV}{fs:List Str}(h:r.Ok fs){m:Bool}{H:Hp}{x:V}(rd:RdV m H x r.d):aHO H x r.word r.name r.day:=by
 unfold bV.d iG at rd;cases rd with
 | @tup a xs _ e O q=>
  cases q with
  | cons F q=>
   cases q with
   | cons z q=>
    cases q with
    | cons J q=>
     cases F;cases z;cases J;exact⟨a,_,rfl,e,h.rs.word⟩
inductive aCL(H:Hp)(t:Ah)(ws:List Str):Prop
 | mk (ps:_) (q0:H t=some (.tup ps)) (q1:ps.length=ws.length) (q2:∀(i:Nat) (x:V),ps[i]?=some x→∃(b:Ah) (z:Str) (cM:List V),x=.ref b∧H b=some (.tup (.str z :: cM))∧ws[i]?=some z):aCL H t ws
def oU(H:Hp)(t:Ah)(ws:List Str):Prop:=aCL H t ws
theorem oU.same{H H':Hp}{t:Ah}{F:List Str}(h:oU H t F)(s:aY H H'):oU H' t F:=by
 obtain⟨ps,e,hl,ha⟩:=h;refine⟨ps,s _ _ e,hl,fun i x J=>?_⟩;obtain⟨b,z,cM,ex,eb,hw⟩:=ha i x J;exact⟨b,z,cM,ex,s _ _ eb,hw⟩
theorem oU.of{m:Bool}{H:Hp}{t:Ah}{ds:List Aj}(r:RdV m H (.ref t) (.tuple ds))(Y:ds.all cR=true):oU H t (ds.map dD):=by
 cases r with
 | @tup _ xs _ e hl q=>
  refine⟨xs,e,by rw[q.len,Ab],fun i x U=>?_⟩;obtain⟨d,hd,rd⟩:=q.at U;have z:=Bg.mp Y d (Ax hd);obtain⟨f,g,a,j,rfl,_⟩:=i9 z;cases rd with
  | @tup b ys _ J O F=>
   cases F with
   | cons W Z=>
    cases W;exact⟨b,f,_,rfl,J,by rw[AC,hd];rfl⟩
inductive aHP(H:Hp)(x:V)(r:bV):Prop
 | mk (d:_) (q0:RdV true H x d) (q1:eZ (dB 3 d) r.d):aHP H x r
def Thg(H:Hp)(x:V)(r:bV):Prop:=aHP H x r
theorem lA{word name:Str}{day:Int}{ds:List Aj}(h:f6 word ds):Be (AW word :: AW name :: Gz day :: ds)=false:=by
 show(false || (false || (false || Be ds)))=false;rw[h.nodict];rfl
def aAH(os:List bV):Prop:=os.Pairwise fun a b=>lF a.key b.key=true
theorem uN:∀{l m:List bV},l.Perm m→aAH l→aAH m→l=m
 | [],m,h,_,_=>(List.Perm.eq_nil h.symm).symm
 | x :: r,[],h,_,_=>by simpa using h.length_eq
 | x :: r,y :: q,h,h1,h2=>by
  obtain⟨a1,a2⟩:=C8.mp h1;obtain⟨b1,b2⟩:=C8.mp h2;have e:x=y:=by
   rcases Al.mp (h.mem_iff.mp (AF (a:=x) (l:=r)))with e | hx
   ·exact e
   ·rcases Al.mp (h.mem_iff.mpr (AF (a:=y) (l:=q)))with e | hy
    ·exact e.symm
    ·have:=tT (a1 y hy) (b1 x hx);rw[aAd]at this;cases this
  subst e;rw[uN ((Ge x).mp h) a2 b2]
theorem aDW{us:List bV}{kk:List L2.K3}{p:List Nat}(U:kk=us.map bV.key)(hn:(us.map (·.name)).Nodup)(W:aAe kk p){d:bV}:(p.map fun i=>us.getD i d).Perm us∧aAH (p.map fun i=>us.getD i d):=by
 subst U;obtain⟨hp,hs⟩:=W;rw[Ab]at hp;have O:∀ i∈p,i < us.length:=fun i hi=>Bt.mp (hp.mem_iff.mp hi);have J:(us.map bV.key).Nodup:=by
  refine BR.mpr ((BR.mp hn).imp fun{a b} h e=>h ?_);exact congrArg (fun z:L2.K3=>z.2.2) e
 refine⟨?_,?_⟩
 ·refine(hp.map _).trans (List.Perm.of_eq ?_);apply CC;intro j;rw[AC];by_cases F:j < us.length
  ·rw[C3 F,Af F];simp[F]
  ·rw[AY (by simpa using F),AY (by omega)];rfl
 ·have h:=hs J;have e:(p.map fun i=>(us.map bV.key).getD i k0)=(p.map fun i=>us.getD i d).map bV.key:=by
   rw[Cn];refine Eg fun i hi=>?_;have:=O i hi;simp[this]
  rw[e]at h;exact BR.mp h
structure c6(H:Hp)(xs:List V)(us:List bV)(fs:List Str):Prop where
 len:xs.length=us.length
 at':∀(i:Nat) (x:V),xs[i]?=some x→∃ u,us[i]?=some u∧RdV false H x u.d∧u.Ok fs
theorem c6.same{H H':Hp}{xs:List V}{us:List bV}{fs:List Str}(h:c6 H xs us fs)(s:aY H H'):c6 H' xs us fs:=
 ⟨h.len,fun i x z=>by obtain⟨u,a,b,c⟩:=h.at' i x z;exact⟨u,a,b.same s,c⟩⟩
theorem c6.rdvs{H:Hp}:∀{xs:List V}{us:List bV}{fs:List Str},c6 H xs us fs→cF false H xs (us.map bV.d)
 | [],[],_,_=>.nil
 | [],_ :: _,_,h=>by have:=h.len;simp at this
 | _ :: _,[],_,h=>by have:=h.len;simp at this
 | x :: xs,u :: us,fs,h=>by
  obtain⟨u',e,r,_⟩:=h.at' 0 x rfl;have F:u=u':=by simpa using e
  subst F;exact .cons r (c6.rdvs ⟨by simpa using h.len,fun i y z=>h.at' (i + 1) y z⟩)
inductive aCM(H:Hp)(y:V)(k:L2.K3):Prop
 | mk (t:_) (cM:_) (w:_) (n:_) (d:_) (q0:y=.ref t) (q1:H t=some (.tup (.str w :: .str n :: .int d :: cM))) (q2:k=(d,rk w,n)):aCM H y k
def aCN(H:Hp)(y:V)(k:L2.K3):Prop:=aCM H y k
theorem aFW{H:Hp}{y:V}{k:L2.K3}{u:bV}{fs:List Str}(h:aCN H y k)(r:RdV false H y u.d)(ok:u.Ok fs):k=u.key:=by
 obtain⟨t,cM,w,n,d,rfl,e,rfl⟩:=h;obtain⟨t',rest',e1,e2,_⟩:=ok.at r;cases e1;rw[e]at e2;cases e2;rfl
theorem aBT{H1 H':Hp}{xs:List V}{us:List bV}{fs:List Str}{kk:List L2.K3}{p:List Nat}(hR:c6 H1 xs us fs)(hn:(us.map (·.name)).Nodup)(ae:kk.length=xs.length)(hk:∀ i,i < xs.length→aCN H1 (xs.getD i .non) (kk.getD i k0))(ho:aAe kk p)(s:aY H1 H'):
  ∃ os:List bV,os.Perm us∧aAH os∧c6 H' (p.map fun i=>xs.getD i .non) os fs:=by
 have Y:=hR.len;have ek:kk=us.map bV.key:=by
  apply FJ (by rw[Ab];omega);intro i h1 h2;have hi:i < xs.length:=by omega
  have U:i < us.length:=by omega
  obtain⟨u,e,r,ok⟩:=hR.at' i xs[i] (Af hi);have eu:us[i]=u:=by rw[Af U]at e;simpa using e
  have h3:=hk i hi;have W:xs.getD i .non=xs[i]:=by simp[hi]
  have e2:kk.getD i k0=kk[i]:=by simp[h1]
  rw[W,e2]at h3;rw[C5,eu];exact aFW h3 r ok
 cases us with
 | nil=>
  have z:xs=[]:=C7 (by simpa using Y);have O:p=[]:=by
   have h:=ho.1.length_eq;rw[ae,z]at h;simpa using h
  subst z O;exact⟨[],DF _,Ea,⟨rfl,fun i x J=>by simp at J⟩⟩
 | cons u0 Z=>
  obtain⟨h1,h2⟩:=aDW (d:=u0) ek hn ho;refine⟨_,h1,h2,⟨by rw[Ab,Ab],fun i x J=>?_⟩⟩;rw[AC]at J;obtain⟨j,hj,rfl⟩:=CG.mp J;have F:j < xs.length:=by
   have:=Bt.mp (ho.1.mem_iff.mp (Ax hj));omega
  obtain⟨u,e,r,ok⟩:=hR.at' j xs[j] (Af F);refine⟨u,?_,?_,ok⟩
  ·rw[AC,hj];show some ((u0 :: Z).getD j u0)=some u;rw[Av,e];rfl
  ·have W:xs.getD j .non=xs[j]:=by simp[F]
   rw[W];exact r.same s
theorem aHf{H1:Hp}{xs:List V}{us:List bV}{fs:List Str}(U:c6 H1 xs us fs):∀ y∈xs,∀(H':Hp) (Q:VK),aY H1 H'→(∀ t a b c z,aY H' z→z t=some (.tup [.int a,.int b,.str c])→aCN H1 y (a,b,c)→Q (.ref t) z)→yJ [y] H' Q E0:=fun y W H' Q S h=>by
 obtain⟨i,hi⟩:=Cw W;obtain⟨u,_,r,ok⟩:=U.at' i y hi;have F:=ok.at r;obtain⟨t,cM,rfl,e,hw⟩:=F;exact⟨_,u.word,u.name,u.day,rfl,⟨t,cM,rfl,S _ _ e,hw⟩,fun q H2 J O=>h q _ _ _ H2 J O ⟨t,cM,_,_,_,rfl,e,rfl⟩⟩
inductive aCO(vs:List V)(H:Hp)(Q:VK)(u3_:XK):Prop
 | mk (p c:Ah) (ns:List Int) (a:Int) (name:Str) (day:Int) (tS lf lp lh:Ah) (fs ps hs:List Str) (q0:vs=[.ref p,.str name,.int day,.ref tS]) (q1:cJ H p c ns a) (q2:a≤600000) (q3:H tS=some (.tup [.ref lf,.ref lp,.ref lh])) (q4:S3 H lf lp lh fs ps hs) (q5:bW name=true) (q6:0≤day) (q7:day≤9999) (q8:∀(x:V) (r:bV) (a':Int) (H':Hp),RdV false H' x r.d→r.name=name→r.Ok fs→a≤a'→a'≤a + 90→cJ H' p c ns a'→aQ p H H'→Q x H'):aCO vs H Q u3_
def aHQ:Sp:=fun vs H Q u3_=>aCO vs H Q u3_
theorem aHR:bU ["_law_pen_here","_law_name","_law_day","_law_sorts_here","_law_terms"] ["_law_pen_here","_law_name","_law_day","_law_sorts_here"] (aO aIy):=⟨rfl,rfl,rfl,by decide,rfl,by decide,by decide⟩
theorem aIY{f:Ah}{fd:AH}(F:Fun K "_law_row" "_law_row" aIy f fd)
  (GT:Cl P w K mg base 1 "_law_take" ["_law_pen_here","_law_many"] gQ)
  (GR:Cl P w K mg base 3 "_law_row_of" ["_law_pen_here","_law_word","_law_name","_law_day","_law_sorts_here"] yG):
  b8 P w K mg base CX0 4 f fd ["_law_pen_here","_law_name","_law_day","_law_sorts_here"] aHQ:=by
 refine F.ok aHR (fun vs H Q E h=>?_) (fun aj A outer s H vs Q E hr h=>?_)
 ·obtain⟨p,c,ns,a,name,day,tS,lf,lp,lh,fs,ps,hs,rfl,_⟩:=h;rfl
 ·obtain⟨p,c,ns,a,name,day,tS,lf,lp,lh,fs,ps,hs,rfl,hp,ha,htS,h3,hnm,d0,d1,k⟩:=h;have ac:cQ 1 _:=hr.mono (by decide);refine⟨_,aJ (aZ (i:=4) aHR.nd rfl (AE rfl) (cW (aG aT (aG aT (aG aT (aG aT (aG aT (aG aT (aG aT (aG aT (aG aT (aG aT aF))))))))))))
   (aN (aV (bC GR hr (aG (pv 0) (aG (bZ cH (pv 4) (bC GT ac (aG (pv 0) (aG aI aF))) Ig) (aG (pv 1) (aG (pv 2) (aG (pv 3) aF)))))))),?_⟩
  refine⟨aJS,fun L hL=>?_⟩;have sL:=aK (o:=.lst [V.str "part",.str "join",.str "forfeit",.str "measure",.str "mend",.str "alone",.str "breach",.str "view",.str "part",.str "join"]) hL;refine⟨_,rfl,_,rfl,_,rfl,p,c,ns,a,_,rfl,hp.same sL,by omega,by decide,by decide,fun Y a1 H1 U aq ai ao ad O=>?_⟩;obtain⟨v,hv,hat⟩:=iE (xs:=[V.str "part",.str "join",.str "forfeit",.str "measure",.str "mend",.str "alone",.str "breach",.str "view",.str "part",.str "join"]) (i:=Y) U (by show Y < 10;omega);obtain⟨word,rfl,hw⟩:∃ word:Str,v=.str word∧word∈eG:=by
   simp only[Al,AA,or_false]at hv;rcases hv with rfl | rfl | rfl | rfl | rfl | rfl | rfl | rfl | rfl | rfl <;> exact⟨_,rfl,by decide⟩
  have k1:aQ p H H1:=(aY.but sL).trans O;refine⟨L,_,Y,_,rfl,rfl,aU (bQ aH (hp.same sL) O),hat,_,rfl,_,rfl,_,rfl,p,c,ns,a1,word,name,day,tS,lf,lp,lh,fs,ps,hs,rfl,ad,by omega,aG8 htS hp k1,h3.but hp k1,hw,hnm,fun t ds cM a2 H2 ht z J aa ap an W Z=>?_⟩;have ag:=z.len;have ah:=J.len;exact k (.ref t) ⟨word,name,day,ds⟩ a2 H2 (.tup ht (by simp only[AM];omega) (.cons (.str word (aAG hw)) (.cons (jL hnm) (.cons (.int day) z)))) rfl ⟨J,hnm,d0,d1,aa⟩ (by omega) (by omega) W (k1.trans Z)
theorem aAI:∀ R:List P3,plL (R.map pD)=true
 | []=>rfl
 | p :: R=>by simp[plL,plD,pD,aAI R]
theorem aCP:∀ R:List Str,plL (R.map AW)=true
 | []=>rfl
 | p :: R=>by simp[plL,plD,aCP R]
theorem wT:∀ R:List P3,Bk (R.map pD)≤1
 | []=>by simp[Bk]
 | p :: R=>by
  have:=wT R;simp[Bk,B2,pD];omega
theorem aAJ:∀ R:List Str,Bk (R.map AW)=0
 | []=>by simp[Bk]
 | p :: R=>by simp[Bk,B2,aAJ R]
theorem wU:∀ R:List P3,(R.map pD).all fW=true→Bi (R.map pD)=true
 | [],_=>by simp[Bi]
 | p :: R,h=>by
  rw[A3,CW,AX]at h;have h1:(bW p.1 && bW p.2.1 && decide (1≤p.2.2∧p.2.2≤10000000))=true:=h.1;rw[AX,AX]at h1;simp[Bi,Cc,pD,dU h1.1.1,dU h1.1.2];exact wU R h.2
theorem aAK:∀ R:List Str,(R.map AW).all bY=true→Bi (R.map AW)=true
 | [],_=>by simp[Bi]
 | p :: R,h=>by
  rw[A3,CW,AX]at h;simp[Bi,Cc,dU (show bW p=true from h.1)];exact aAK R h.2
theorem f6.pll{word:Str}{ds:List Aj}(h:f6 word ds):plL ds=true∧Bi ds=true∧Bk ds≤2:=by
 cases h with
 | @part O R F _ _ _ ha=>
  have:=wT R;exact⟨by simp[plL,plD,aAI],by simp[Bi,Cc,dU F,wU R ha],by simp[Bk,B2];omega⟩
 | @join O R F _ _ _ ha=>exact⟨by simp[plL,plD,aCP],by simp[Bi,Cc,dU F,aAK R ha],by simp[Bk,B2,aAJ]⟩
 | forfeit F z=>exact⟨by simp[plL,plD],by simp[Bi,Cc,dU F,dU z],by simp[Bk,B2]⟩
 | measure J _ _=>exact⟨by simp[plL,plD],by simp[Bi,Cc,dU J],by simp[Bk,B2]⟩
 | mend z U _=>exact⟨by simp[plL,plD],by simp[Bi,Cc,dU z,dU U],by simp[Bk,B2]⟩
 | alone z=>exact⟨by simp[plL,plD],by simp[Bi,Cc,dU z],by simp[Bk,B2]⟩
 | breach J _ _ _ _ _ _=>exact⟨by simp[plL,plD],by simp[Bi,Cc,dU J],by simp[Bk,B2]⟩
 | view J _ _ z=>exact⟨by simp[plL,plD],by simp[Bi,Cc,dU J,dU z],by simp[Bk,B2]⟩
theorem bV.Ok.rowD{u:bV}{fs:List Str}(h:u.Ok fs):L2.RowD u.d:=by
 obtain⟨h1,h2,h3⟩:=h.rs.pll;have hw:Ec u.word=true:=by
  have:∀ w∈eG,Ec w=true:=by decide
  exact this _ h.rs.word
 refine⟨⟨_,_,rfl⟩,?_,?_,?_⟩
 ·simp[bV.d,iG,plD,plL,h1]
 ·simp[bV.d,iG,Cc,Bi,hw,dU h.nm,h2]
 ·simp[bV.d,iG,B2,Bk];omega
theorem bV.d_inj{u v:bV}(h:u.d=v.d):u=v:=by
 obtain⟨a,b,c,d⟩:=u;obtain⟨a',b',c',d'⟩:=v;unfold bV.d iG at h;injection h with h;injection h with h1 h;injection h with h2 h;injection h with h3 h;injection h1 with h1;injection h2 with h2;injection h3 with h3;dsimp only at h1 h2 h3 h;rw[h1,h2,h3,h]
abbrev aDX(K:Ag)(C:Ah):Prop:=F4 K C [.type "ValueError",.type "Exception",.type "BaseException",.type "object"] "ValueError.__new__"=true
inductive uO(DR:Ah)(vs:List V)(H:Hp)(Q:VK)(E:XK):Prop
 | mk (m:Bool) (x:V) (d d':Aj) (q0:vs=[x]) (q1:uK 3 m H x d) (q2:d≠qP) (q3:eZ (dB 3 d) d') (q4:(rowD d'=true→∀ y H',aY H H'→RdV m H' y d'→Q y H')) (q5:(rowD d'=false→∀ H',aY H H'→E (.ref DR) none H')):uO DR vs H Q E
def aAL(DR:Ah):Sp:=fun vs H Q E=>uO DR vs H Q E
inductive ThX(ws:List Str)(d:Aj):Option bV→Prop
 | no {d':Aj} (o:eZ (dB 3 d) d') (h:rowD d'=false):ThX ws d none
 | far {r:bV} {fs:List Str} (o:eZ (dB 3 d) r.d) (ok:r.Ok fs) (h:¬ FIn r.word r.ds ws):ThX ws d none
 | row {r:bV} (o:eZ (dB 3 d) r.d) (ok:r.Ok ws):ThX ws d (some r)
inductive qE(DR:Ah)(vs:List V)(H:Hp)(Q:VK)(E:XK):Prop
 | mk (t:Ah) (ws:List Str) (m:Bool) (x:V) (d:Aj) (o:Option bV) (q0:vs=[.ref t,x]) (q1:oU H t ws) (q2:ws.length≤8) (q3:uK 3 m H x d) (q4:d≠qP) (q5:ThX ws d o) (q6:(o=none→∀ H',aY H H'→E (.ref DR) none H')) (q7:(∀ r,o=some r→∀ y H',aY H H'→RdV false H' y r.d→Q y H')):qE DR vs H Q E
def mX(DR:Ah):Sp:=fun vs H Q E=>qE DR vs H Q E
theorem aAM{m:Bool}{H:Hp}{x:V}{d:Aj}(h:RdV m H x d)(p:iH d):RdV false H x d:=by
 cases m with
 | true=>exact RdV.unl h p
 | false=>exact h
theorem aAN:bU ["thing","row"] ["thing"] (aO xX):=⟨rfl,rfl,rfl,by decide,rfl,by decide,by decide⟩
theorem aDY{f U:Ah}{fd:AH}(F:Fun K "row_of" "row_of" xX f fd)(O:∃ t,mg "ROW_DEPTH"=some (.int 3 t))(mD:mg "NoRow"=some (.ref U))(xD:aDX K U)
  (GA:Cl P w K mg base 4 "as_tuples" ["thing","deep"] (aFI 3))
  (GO:Cl P w K mg base 5 "in_order" ["thing"] aHL)
  (GI:Cl P w K mg base 7 "is_row" ["thing"] aCD):
  b8 P w K mg base (CXc P w) 8 f fd ["thing"] (aAL U):=by
 refine F.okRc aAN (fun vs H Q E h=>?_) (fun ai A outer s H vs Q E W h=>?_)
 ·obtain⟨m,x,d,d',rfl,_⟩:=h;rfl
 ·obtain⟨m,x,d,d',rfl,hx,hnd,ho,k,ke⟩:=h;have Y:cQ 4 _:=W.mono (by decide);have ac:cQ 5 _:=W.mono (by decide);obtain⟨td,hdp⟩:=O;refine⟨_,aJ (aZ (i:=1) aAN.nd rfl (AE rfl) (bC GO ac (aG (bC GA Y (aG (pv 0) (aG (cE (v:=.int 3) (by rfl) hdp ⟨_,rfl⟩) aF))) aF)))
   (aJ (cI (dR (dO (bC GI W (aG (pv 1) aF)))) (aN (wC BK rfl mD xD (aG aT aF))) bH)
   (aN (aV (pv 1)))),?_⟩
  refine⟨_,rfl,m,x,d,rfl,hx,fun y H1 s1 Z=>?_⟩;have r1:=Z.rd fun z=>hnd (uJ z);refine⟨m,y,_,d',rfl,r1,ho,fun z H2 s2 r2=>?_⟩;refine⟨_,rfl,m,z,d',rfl,r2,fun H3 s3=>⟨_,rfl,?_⟩⟩;cases J:rowD d' with
  | true=>
   refine c7 ?_;exact⟨_,rfl,k J _ _ ((s1.trans s2).trans s3) (r2.same s3)⟩
  | false=>exact c8 ⟨zZ1,ke J _ ((s1.trans s2).trans s3)⟩
theorem uP:bU ["laying","thing","row","field"] ["laying","thing"] (aO qX):=⟨rfl,rfl,rfl,by decide,rfl,by decide,by decide⟩
theorem aBU{f fR fF Y:Ah}{fd W Z:AH}(F:Fun K "row_for" "row_for" qX f fd)(mD:mg "NoRow"=some (.ref Y))(xD:aDX K Y)
  (GR:b8 P w K mg base (CXc P w) 8 fR W ["thing"] (aAL Y)) (mR:mg "row_of"=some (.ref fR)) (kR:Au K (.ref fR)=true) (bR:cZ K W ["thing"] [])
  (GF:b8 P w K mg base CX0 1 fF Z ["row"] wI) (mF:mg "field_of"=some (.ref fF)) (kF:Au K (.ref fF)=true) (bF:cZ K Z ["row"] []):
  b8 P w K mg base (CXc P w) 9 f fd ["laying","thing"] (mX Y):=by
 refine F.okRc uP (fun vs H Q E h=>?_) (fun aC A outer s H vs Q E hr h=>?_)
 ·obtain⟨t,ws,m,x,d,o,rfl,_⟩:=h;rfl
 ·obtain⟨t,ws,m,x,d,o,rfl,hL,hw8,hx,hnd,hth,kn,ks⟩:=h;have ag:cQ 1 _:=hr.mono (by decide);refine⟨_,aJ (aZ (i:=2) uP.nd rfl (AE rfl) (cV GR hr rfl mR kR bR .nil (aFc fun _ _ _ h=>h) (aG (pv 1) aF)))
   (aJ (aZ (i:=3) uP.nd rfl (AE rfl) (cV GF ag rfl mF kF bF .nil fQ (aG (pv 2) aF)))
   (aJ (cI (PW.pt (lH (bK aGp (pv 3) iB (bX _)) (jA (bK iL (pv 3) (fU (N:=["place"]) (src:=[none]) (osc:=aO qX) (oN:=["laying","thing","row","field"]) ⟨by rfl,by decide,by decide,by decide,rfl,by rfl⟩ (jO (pv 0))
     fun cl s H fp fc C=>⟨bJ (i:=0) (show(["place"]:List Str).Nodup by decide) rfl (AE rfl),dY,bZ (r:=aGu K) cX (pv 0) aI Ig⟩) (by with_unfolding_all rfl))))) (aN (wC BK rfl mD xD (aG aT aF))) bH)
   (aN (aV (pv 2))))),?_⟩
  have hc:(∃ U,eZ (dB 3 d) U∧rowD U=false∧o=none)∨∃(r:bV) (fs:List Str),eZ (dB 3 d) r.d∧r.Ok fs∧(FIn r.word r.ds ws→∀ y H',aY H H'→RdV false H' y r.d→Q y H')∧(¬ FIn r.word r.ds ws→∀ H',aY H H'→E (.ref Y) none H'):=by
   cases hth with
   | @no U o h=>exact .inl ⟨U,o,h,rfl⟩
   | @far r fs o ok h=>exact .inr ⟨r,fs,o,ok,(fun z=>absurd z h),fun _=>kn rfl⟩
   | @row r o ok=>exact .inr ⟨r,ws,o,ok,(fun _=>ks r rfl),fun z=>absurd ok.fi z⟩
  rcases hc with⟨U,o,h,rfl⟩ | ⟨r,fs,hord,hok,kq,ke⟩
  ·exact⟨_,rfl,m,x,d,U,rfl,hx,hnd,o,(fun z=>by rw[h]at z;cases z),fun _ H' S=>kn rfl H' S⟩
  ·refine⟨_,rfl,m,x,d,r.d,rfl,hx,hnd,hord,fun _ y H1 s1 ry=>?_,fun z=>by rw[hok.row]at z;cases z⟩;have O:RdV false H1 y r.d:=aAM ry (hok.rs.plain r.name r.day);obtain⟨d4,rd',erd,hf4⟩:=hok.rs.fourth;obtain⟨tr,x4,J,rfl,etr,r4⟩:∃ tr x4 J,y=.ref tr∧H1 tr=some (.tup (.str r.word :: .str r.name :: .int r.day :: x4 :: J))∧RdV false H1 x4 d4:=by
    unfold bV.d iG at O;rw[erd]at O;cases O with
    | @tup a xs _ e hl q=>
     cases q with
     | cons q1 q=>
     cases q with
     | cons q2 q=>
     cases q with
     | cons q3 q=>
     cases q with
     | cons q4 q=>
      cases q1;cases q2;cases q3;exact⟨a,_,_,rfl,e,q4⟩
   refine⟨_,rfl,tr,r.word,_,_,x4,J,rfl,etr,fun H2 s2=>?_⟩;have af:=(hL.same s1).same s2;by_cases g:inV (.str r.word) [V.str "measure",.str "breach",.str "view"]=true
   ·obtain⟨z,rfl⟩:=hf4 g;cases r4;rw[Ib g];refine⟨_,rfl,rfl,_,rfl,?_⟩;rw[decide_eq_false (show¬ V.str z=V.non from fun y=>nomatch y)];refine c8 ?_;obtain⟨ps,eps,hpl,hps⟩:=af;refine⟨_,rfl,_,rfl,t,rfl,⟨ps,bG eps⟩,?_⟩;refine i5 (xs:=ps) (fun i ys σ H'=>aY H2 H'∧ys=(ws.take i).map V.str∧∃ o,σ=[o]) ⟨aY.refl H2,by simp,none,rfl⟩ (aM (by omega)) (fun i ys σ H' p=>by rw[p.2.1,Ab,Am];omega) (fun i ys σ H' p=>bG (p.1 _ _ eps)) ?_ ?_
    ·rintro i px ys σ H' aj ⟨S,rfl,o,rfl⟩;dsimp only[cC];obtain⟨b,zz,rr,rfl,eb,hw⟩:=hps i px aj;refine c8 ?_;refine⟨_,rfl,b,_,0,_,rfl,rfl,bG (S _ _ eb),bS (j:=0) rfl,S,?_,_,rfl⟩;rw[Bn,hw,AS];rfl
    ·rintro ys σ H' ⟨S,rfl,o,rfl⟩ D hD;rw[hpl,B8];have sD:=aK (o:=.lst (ws.map V.str)) hD;refine⟨D,_,rfl,.inl (aU aH),rfl,gX ws,_,rfl,?_⟩;rw[Ib rfl,qZ];have sA:=(s2.trans S).trans sD;by_cases hz:z∈ws
     ·rw[Ic hz];refine c7 ?_;exact⟨_,rfl,kq (fun _ z' cM e=>by rw[erd]at e;cases e;exact hz) _ _ (s1.trans sA) (O.same sA)⟩
     ·rw[decide_eq_false hz];exact c8 ⟨zZ1,ke (fun h=>hz (h g z rd' erd)) _ (s1.trans sA)⟩
   ·rw[Ia g];refine⟨_,rfl,rfl,_,rfl,?_⟩;rw[Ic rfl];refine c7 ?_;exact⟨_,rfl,kq (fun z=>absurd z g) _ _ (s1.trans s2) (O.same s2)⟩
theorem yL:bU ["laying","thing"] ["laying","thing"] (aO lY):=⟨rfl,rfl,rfl,by decide,rfl,by decide,by decide⟩
theorem aBV{f U O W:Ah}{fd J:AH}(F:Fun K "row_for_roll" "row_for_roll" lY f fd)(mD:mg "NoRow"=some (.ref O))(eD:EW K (.ref O) (.ref O)=some true)(Z:mg "NoRoll"=some (.ref W))(xL:aDX K W)
  (GR:b8 P w K mg base (CXc P w) 9 U J ["laying","thing"] (mX O)) (mR:mg "row_for"=some (.ref U)) (kR:Au K (.ref U)=true) (bR:cZ K J ["laying","thing"] []):
  b8 P w K mg base (CXr P w) 10 f fd ["laying","thing"] (mX W):=by
 refine F.okR yL (fun vs H Q E h=>?_) (fun ae A outer s H vs Q E Y h=>?_)
 ·obtain⟨t,ws,m,x,d,o,rfl,_⟩:=h;rfl
 ·refine⟨_,aN (aAj BK (aFe (aFd GR Y rfl mR kR bR (aG (pv 0) (aG (pv 1) aF)))) rfl mD rfl Z xL (fun v=>aG aT aF)),?_⟩;obtain⟨t,ws,m,x,d,o,rfl,hL,hw8,hx,hnd,hth,kn,ks⟩:=h;exact⟨_,rfl,_,rfl,t,ws,m,x,d,o,rfl,hL,hw8,hx,hnd,hth,fun z H' S=>⟨eD,zZ1,kn z H' S⟩,ks⟩
inductive qF(DL:Ah)(vs:List V)(H:Hp)(Q:VK)(E:XK):Prop
 | mk (m:Bool) (x:V) (d:Aj) (q0:vs=[x]) (q1:RdX m H x d) (q2:(mZ (dB 2 d)=true→∀ y H',aY H H'→RdV m H' y (dB 2 d)→Q y H')) (q3:(mZ (dB 2 d)=false→∀ H',aY H H'→E (.ref DL) none H')):qF DL vs H Q E
def wV(DL:Ah):Sp:=fun vs H Q E=>qF DL vs H Q E
theorem uQ:bU ["thing","laying"] ["thing"] (aO pU):=⟨rfl,rfl,rfl,by decide,rfl,by decide,by decide⟩
theorem aBW{f Y Z DL:Ah}{fd J O:AH}(F:Fun K "laying_of" "laying_of" pU f fd)(U:∃ t,mg "LAYING_DEPTH"=some (.int 2 t))(mL:mg "NoRoll"=some (.ref DL))(xL:aDX K DL)
  (GA:b8 P w K mg base CX0 3 Y J ["thing","deep"] (aFI 2)) (mA:mg "as_tuples"=some (.ref Y)) (kA:Au K (.ref Y)=true) (bA:cZ K J ["thing","deep"] [])
  (GI:b8 P w K mg base CX0 4 Z O ["thing"] aHM) (mI:mg "is_laying"=some (.ref Z)) (kI:Au K (.ref Z)=true) (bI:cZ K O ["thing"] []):
  b8 P w K mg base (CXr P w) 5 f fd ["thing"] (wV DL):=by
 refine F.okR uQ (fun vs H Q E h=>?_) (fun ak A outer s H vs Q E hr h=>?_)
 ·obtain⟨m,x,d,rfl,_⟩:=h;rfl
 ·obtain⟨m,x,d,rfl,hx,k,ke⟩:=h;have aa:cQ 3 _:=hr.mono (by decide);obtain⟨td,hdp⟩:=U;refine⟨_,aJ (aZ (i:=1) uQ.nd rfl (AE rfl) (cV GA aa rfl mA kA bA .nil fQ (aG (pv 0) (aG (cE (v:=.int 2) (by rfl) hdp ⟨_,rfl⟩) aF))))
   (aJ (cI (dR (dO (cV GI hr rfl mI kI bI .nil fQ (aG (pv 1) aF)))) (aN (lT BK rfl mL xL (aG aT aF))) bH)
   (aN (aV (pv 1)))),?_⟩
  refine⟨_,rfl,m,x,d,rfl,.inl hx,fun y H1 s1 r1=>?_⟩;refine⟨_,rfl,m,y,_,rfl,r1,fun H3 s3=>⟨_,rfl,?_⟩⟩;cases W:mZ (dB 2 d)with
  | true=>
   refine c7 ?_;exact⟨_,rfl,k W _ _ (s1.trans s3) ((r1.same s3).rd fun z=>by rw[z]at W;cases W)⟩
  | false=>exact c8 ⟨zZ1,ke W _ (s1.trans s3)⟩
mutual
theorem RdV.keepN{m:Bool}{H H':Hp}(k:∀ a o,H a=some o→(∀ J,o≠.dK J)→H' a=some o):∀{x:V}{d:Aj},RdV m H x d→d.hasDict=false→RdV m H' x d
 | _,_,.non,_=>.non
 | _,_,.bl b,_=>.bl b
 | _,_,.int i,_=>.int i
 | _,_,.str z h,_=>.str z h
 | _,_,.lst hm e F r,hd=>.lst hm (k _ _ e (fun _ z=>nomatch z)) F (cF.keepN k r hd)
 | _,_,.tup e F r,hd=>.tup (k _ _ e (fun _ z=>nomatch z)) F (cF.keepN k r hd)
 | _,_,.dct hm e,hd=>by simp[EY]at hd
theorem cF.keepN{m:Bool}{H H':Hp}(k:∀ a o,H a=some o→(∀ F,o≠.dK F)→H' a=some o):∀{xs:List V}{ds:List Aj},cF m H xs ds→Be ds=false→cF m H' xs ds
 | _,_,.nil,_=>.nil
 | _,_,.cons a r,hd=>by
  have z:(EY _ || Be _)=false:=hd;rw[Bool.or_eq_false_iff]at z;exact .cons (RdV.keepN k a z.1) (cF.keepN k r z.2)
end
def oV(H:Hp)(fg:List (Key×V))(us:List bV):Prop:=fg.length=us.length∧∀(i:Nat) (p:Key×V),fg[i]?=some p→∃ u,us[i]?=some u∧p.1=Aw u.name∧RdV false H p.2 u.d
theorem oV.same{H H':Hp}{fg:List (Key×V)}{us:List bV}(h:oV H fg us)(s:∀{x:V}{d:Aj},RdV false H x d→RdV false H' x d):oV H' fg us:=
 ⟨h.1,fun i p z=>by obtain⟨u,a,b,c⟩:=h.2 i p z;exact⟨u,a,b,s c⟩⟩
structure dL(H:Hp)(ws:List Str)(xs:List V)(os:List (Option bV)):Prop where
 len:xs.length=os.length
 at':∀(i:Nat) (x:V),xs[i]?=some x→∃ o,os[i]?=some o∧∃ m d,uK 3 m H x d∧d≠qP∧ThX ws d o
theorem ThX.ok{z:List Str}{d:Aj}{r:bV}(h:ThX z d (some r)):r.Ok z:=by
 cases h with
 | row _ ok=>exact ok
theorem dL.rowOk{H:Hp}{F:List Str}{xs:List V}{os:List (Option bV)}(h:dL H F xs os){u:bV}(J:some u∈os):u.Ok F:=by
 obtain⟨j,hj⟩:=Cw J;have z:j < xs.length:=by rw[h.len];exact(AR.mp hj).1
 obtain⟨o,h1,m,d,_,_,th⟩:=h.at' j _ (Af z);rw[hj]at h1;cases h1;exact th.ok
theorem dL.same{H H':Hp}{z:List Str}{xs:List V}{os:List (Option bV)}(h:dL H z xs os)(s:aY H H'):dL H' z xs os:=⟨h.len,fun i x F=>by
 obtain⟨o,h1,m,d,a,b,c⟩:=h.at' i x F;exact⟨o,h1,m,d,a.same s,b,c⟩⟩
def oW(os:List (Option bV)):Prop:=none∈os∨∃ u r,some u∈os∧some r∈os∧u.name=r.name∧u≠r
inductive aHS(t q D:Ah)(H:Hp)(os:List (Option bV))(i:Nat)(σ:L2.St)(H':Hp):Prop
 | mk (o3 o4:Option V) (fg:List (Key×V)) (us:List bV) (q0:σ=[some (.ref t),some (.ref q),some (.ref D),o3,o4]) (q1:aY H H') (q2:H' D=some (.dK fg)) (q3:oV H' fg us) (q4:(us.map (·.name)).Nodup) (q5:(∀ r,r∈us↔some r∈os.take i)) (q6:∀ o∈os.take i,o≠none):aHS t q D H os i σ H'
def PvX(t q D:Ah)(H:Hp)(os:List (Option bV))(i:Nat)(σ:L2.St)(H':Hp):Prop:=aHS t q D H os i σ H'
inductive oX(DL:Ah)(vs:List V)(H:Hp)(Q:VK)(E:XK):Prop
 | mk (t:Ah) (ws:List Str) (q:Ah) (xs:List V) (os:List (Option bV)) (q0:vs=[.ref t,.ref q]) (q1:oU H t ws) (q2:ws.length≤8) (q3:(H q=some (.lst xs)∨H q=some (.tup xs))) (q4:os.length≤200) (q5:dL H ws xs os) (q6:(∀(D:Ah) (fg:List (Key×V)) (us:List bV) (H':Hp),aY H H'→H D=none→H' D=some (.dK fg)→oV H' fg us→(us.map (·.name)).Nodup→(∀ r,r∈us↔some r∈os)→(∀ o∈os,o≠none)→Q (.ref D) H')) (q7:(oW os→∀ H',aY H H'→E (.ref DL) none H')):oX DL vs H Q E
def uR(DL:Ah):Sp:=fun vs H Q E=>oX DL vs H Q E
theorem aHg{fg:List (Key×V)}{k:Key}{v:V}(h:fJ fg k=some v):∃ i:Nat,fg[i]?=some (k,v):=by
 unfold fJ at h;cases z:fg.find? (fun F=>decide (F.1=k))with
 | none=>rw[z]at h;cases h
 | some p=>
  rw[z]at h;have U:=List.find?_some z;have hm:=List.mem_of_find?_eq_some z;obtain⟨i,hi⟩:=Cw hm;have J:p.1=k:=Ie U;have O:p.2=v:=by simpa using h
  refine⟨i,?_⟩;rw[hi,← J,← O]
theorem yM{fg:List (Key×V)}{k:Key}(h:fJ fg k=none):∀ p∈fg,p.1≠k:=fun p J e=>by
 unfold fJ at h;cases z:fg.find? (fun F=>decide (F.1=k))with
 | none=>
  have:=List.find?_eq_none.mp z p J;exact this (Ic e)
 | some O=>rw[z]at h;cases h
theorem gY:bU ["laying","things","named","thing","row"] ["laying","things"] (aO uB):=⟨rfl,rfl,rfl,by decide,rfl,by decide,by decide⟩
theorem aAO{f fR DL:Ah}{fd au:AH}(F:Fun K "by_names" "by_names" uB f fd)(mL:mg "NoRoll"=some (.ref DL))(xL:aDX K DL)
  (GR:b8 P w K mg base (CXr P w) 10 fR au ["laying","thing"] (mX DL)) (mR:mg "row_for_roll"=some (.ref fR)) (kR:Au K (.ref fR)=true) (bR:cZ K au ["laying","thing"] []):
  b8 P w K mg base (CXr P w) 11 f fd ["laying","things"] (uR DL):=by
 refine F.okR gY (fun vs H Q E h=>?_) (fun bo A outer s H vs Q E hr h=>?_)
 ·obtain⟨t,ws,q,xs,os,rfl,_⟩:=h;rfl
 ·obtain⟨t,ws,q,xs,os,rfl,hL,hw8,hqq,h200,hT,k,ke⟩:=h;have aE:=hT.len;rcases hqq with hq | hq
  case' inl=>
   refine⟨_,aJ (aZ (i:=2) gY.nd rfl (AE rfl) iZ)
    (aJ (jP PassesOwn.leaving rfl (jC (pv 1)) (bJ (i:=3) gY.nd rfl (AE rfl))
     (aJ (aZ (i:=4) gY.nd rfl (AE rfl) (cV GR hr rfl mR kR bR .nil (lS fun _ _ _ h=>h) (aG (pv 0) (aG (pv 3) aF))))
     (aN (cI (bK (aBp hr) (aEY (pv 2) (bZ cX (pv 4) aI Ig) (pv 4) ⟨rfl,rfl,rfl,rfl⟩) (pv 4) (bX _)) (aN (lT BK rfl mL xL (aG aT aF))) bH))))
    (aN (aV (pv 2)))),?_⟩
   refine fun D hD=>?_;have sD:=aK (o:=.dK []) hD;refine⟨_,rfl,q,rfl,⟨xs,aU (sD _ _ hq)⟩,rL (K:=K) (xs:=xs) (PvX t q D H os) ⟨none,none,[],[],rfl,sD,aH,⟨rfl,fun i p O=>by simp at O⟩,Gf,fun r=>by simp,fun o ho=>by simp at ho⟩ (fun j σ H' _ z=>by obtain⟨_,_,_,_,_,S,_⟩:=z;exact aU (S _ _ hq)) ?_ ?_⟩
  case' inr=>
   refine⟨_,aJ (aZ (i:=2) gY.nd rfl (AE rfl) iZ)
    (aJ (jP PassesOwn.leaving rfl (jO (pv 1)) (bJ (i:=3) gY.nd rfl (AE rfl))
     (aJ (aZ (i:=4) gY.nd rfl (AE rfl) (cV GR hr rfl mR kR bR .nil (lS fun _ _ _ h=>h) (aG (pv 0) (aG (pv 3) aF))))
     (aN (cI (bK (aBp hr) (aEY (pv 2) (bZ cX (pv 4) aI Ig) (pv 4) ⟨rfl,rfl,rfl,rfl⟩) (pv 4) (bX _)) (aN (lT BK rfl mL xL (aG aT aF))) bH))))
    (aN (aV (pv 2)))),?_⟩
   refine fun D hD=>?_;have sD:=aK (o:=.dK []) hD;refine⟨_,rfl,q,rfl,⟨xs,bG (sD _ _ hq)⟩,aGn (K:=K) (xs:=xs) (PvX t q D H os) ⟨none,none,[],[],rfl,sD,aH,⟨rfl,fun i p O=>by simp at O⟩,Gf,fun r=>by simp,fun o ho=>by simp at ho⟩ (fun j σ H' _ z=>by obtain⟨_,_,_,_,_,S,_⟩:=z;exact bG (S _ _ hq)) ?_ ?_⟩
  all_goals first | (rintro σ H1 ⟨o3,o4,fg,us,rfl,S,ah,hN,Y,J,Z⟩;rw[aE,B8]at J Z;exact⟨_,rfl,k D fg us H1 S hD ah hN Y J Z⟩) | skip
  all_goals
   rintro i x σ H1 hx ⟨o3,o4,fg,us,rfl,S,ah,hN,Y,J,Z⟩;obtain⟨o,ho1,m,d,rx,nd,th⟩:=hT.at' i x hx;have hm:=Ax ho1;dsimp only[cC];refine⟨_,rfl,_,rfl,t,ws,m,x,d,o,rfl,hL.same S,hw8,rx.same S,nd,th,fun eo H2 s2=>?_,fun r eo y H2 s2 ry=>?_⟩
   ·exact ke (.inl (eo ▸ hm)) H2 (S.trans s2)
   subst eo;have hok:r.Ok ws:=th.ok;have nod:=lA (word:=r.word) (name:=r.name) (day:=r.day) hok.rs;have an:r.d.hasDict=false:=nod;have ag:=hN.same fun z=>z.same s2;have aa:=s2 _ _ ah;obtain⟨a,cM,rfl,ea,_⟩:=hok.at ry;have bn:i < os.length:=(AR.mp ho1).1;have bq:fg.length≤200:=by
    rw[hN.1];have h1:(us.map some).length≤(os.take i).length:=by
     have h2:(us.map some).Nodup:=BR.mpr (Dw (fun h e=>h (by injection e with e;rw[e])) (BR.mp Y));exact DJ h2 fun z hz=>by
      obtain⟨u,hu,rfl⟩:=Bb.mp hz;exact(J u).mp hu
    rw[Am,Ab]at h1;omega
   have ac:os.take (i + 1)=os.take i ++ [some r]:=by rw[Bn,ho1];rfl
   refine⟨_,rfl,D,rfl,.inl ⟨_,.inl aa⟩,_,rfl,a,_,1,_,rfl,rfl,bG ea,bS (j:=1) rfl,_,rfl,fg,Aw r.name,aa,by omega,rfl,fun v hv=>?_,fun hv=>?_⟩
   ·obtain⟨j,hj⟩:=aHg hv;obtain⟨u,hu1,hu2,ru⟩:=ag.2 j _ hj;have aC:u.name=r.name:=by injection hu2.symm
    have aj:=(J u).mp (Ax hu1);have W:=hT.rowOk (Bv aj);refine⟨_,rfl,false,false,u.d,r.d,ru,ry,W.rowD.ly,hok.rowD.ly,Bc W.rowD.dp (by decide),_,rfl,?_⟩;by_cases af:u=r
    ·subst af;rw[oK _ hok.rowD.pl];refine c7 ?_;refine⟨_,_,fg,us,rfl,S.trans s2,aa,ag,Y,fun z=>?_,fun e U=>?_⟩
     ·rw[ac,Az,J z,A6];exact⟨.inl,fun h=>h.elim id fun e=>by rw[e];exact aj⟩
     ·rw[ac]at U;rcases Az.mp U with U | U
      ·exact Z e U
      ·rw[A6.mp U];exact fun z=>nomatch z
    ·rw[show CA u.d r.d=false from by
      cases q:CA u.d r.d with
      | false=>rfl
      | true=>exact absurd (bV.d_inj (aE6 _ _ W.rowD.pl q hok.rowD.pl)) af]
     exact c8 ⟨zZ1,ke (.inr ⟨u,r,Bv aj,hm,aC,af⟩) H2 (S.trans s2)⟩
   ·have nm:∀ p∈fg,p.1≠Aw r.name:=yM hv;have ep:f8 fg (Aw r.name) (V.ref a)=fg ++ [(Aw r.name,V.ref a)]:=by
     unfold f8;rw[Ia];intro h;obtain⟨p,O,e⟩:=DZ.mp h;exact nm p O (Ie e)
    rw[ep];have kN:∀ b o,H2 b=some o→(∀ kv,o≠.dK kv)→upd H2 D (.dK (fg ++ [(Aw r.name,V.ref a)])) b=some o:=fun b o e ho=>by
     rw[aS fun z=>by rw[z,aa]at e;cases e;exact ho _ rfl];exact e
    have am:=RdV.keepN kN ry an;refine⟨_,rfl,false,false,r.d,r.d,am,am,hok.rowD.ly,hok.rowD.ly,Bc hok.rowD.dp (by decide),_,rfl,?_⟩;rw[oK _ hok.rowD.pl];refine c7 ?_;have nu:∀ u∈us,u.name≠r.name:=fun u hu e=>by
     obtain⟨j,hj⟩:=Cw hu;have aq:j < fg.length:=by rw[hN.1];exact(AR.mp hj).1
     obtain⟨u',hu1,hu2,_⟩:=hN.2 j fg[j] (Af aq);rw[hj]at hu1;cases hu1;exact nm fg[j] (BO aq) (by rw[hu2,e])
    refine⟨_,_,fg ++ [(Aw r.name,V.ref a)],us ++ [r],rfl,fun b o e=>?_,aH,⟨by rw[Ak,Ak,hN.1];rfl,fun j p O=>?_⟩,?_,fun z=>?_,fun e U=>?_⟩
    ·rw[aS fun z=>by rw[z,hD]at e;cases e];exact s2 _ _ (S _ _ e)
    ·by_cases hj:j < fg.length
     ·rw[BV hj]at O;obtain⟨u,h1,h2,h3⟩:=ag.2 j p O;have ap:=hT.rowOk (Bv ((J u).mp (Ax h1)));exact⟨u,by rw[BV (by rw[← hN.1];exact hj)];exact h1,h2,RdV.keepN kN h3 (lA (word:=u.word) (name:=u.name) (day:=u.day) ap.rs)⟩
     ·rw[BP (by omega)]at O;have e0:j - fg.length=0:=by
       cases h:j - fg.length with
       | zero=>rfl
       | succ n=>rw[h]at O;simp at O
      rw[e0]at O;have aA:(Aw r.name,V.ref a)=p:=by simpa using O
      subst aA;exact⟨r,by rw[BP (by rw[← hN.1];omega),← hN.1,e0];rfl,rfl,am⟩
    ·rw[AS,Dd];refine⟨Y,by simp,fun p O q hq=>?_⟩;obtain⟨u,hu,rfl⟩:=Bb.mp O;have:q=r.name:=by simpa using hq
     rw[this];exact nu u hu
    ·rw[ac,Az,Az,J z,A6,A6];exact⟨fun h=>h.imp id fun e=>by rw[e],fun h=>h.imp id fun e=>by injection e⟩
    ·rw[ac]at U;rcases Az.mp U with U | U
     ·exact Z e U
     ·rw[A6.mp U];exact fun z=>nomatch z
def aCQ(lds:List Aj)(os:List bV):Aj:=.tuple [.tuple lds,.tuple (os.map bV.d)]
inductive uS(K:Ag)(DL:Ah)(vs:List V)(H:Hp)(Q:VK)(E:XK):Prop
 | lay (x y:V) (m:Bool) (d:Aj) (h0:vs=[x,y]) (rx:RdX m H x d) (hl:mZ (dB 2 d)=false) (ke:∀ H',aY H H'→E (.ref DL) none H'):uS K DL vs H Q E
 | rows (x y:V) (m:Bool) (d:Aj) (ty:Ac) (h0:vs=[x,y]) (rx:RdX m H x d) (hl:mZ (dB 2 d)=true) (hty:∀ H',aY H H'→iD K H' y ty) (ht:CZ K ty [.type "list",.type "tuple"]=some false) (ke:∀ H',aY H H'→E (.ref DL) none H'):uS K DL vs H Q E
 | full (x:V) (q:Ah) (m:Bool) (d0:Aj) (lds:List Aj) (xs:List V) (os:List (Option bV)) (h0:vs=[x,.ref q]) (rx:RdV m H x d0) (ed:dB 2 d0=.tuple lds) (hl:mZ (.tuple lds)=true) (hf:lds.all cR=true) (h8:lds.length≤8)
   (hq:H q=some (.lst xs)∨H q=some (.tup xs)) (h200:os.length≤200) (hT:dL H (lds.map dD) xs os)
   (k:∀ us:List bV,(us.map (·.name)).Nodup→(∀ r,r∈us↔some r∈os)→(∀ o∈os,o≠none)→us.length≤40→∀(t:Ah) (os':List bV) (H':Hp),aY H H'→os'.Perm us→aAH os'→RdV false H' (.ref t) (aCQ lds os')→Q (.ref t) H')
   (ke:(oW os∨∃ us:List bV,(us.map (·.name)).Nodup∧(∀ r,r∈us↔some r∈os)∧40 < us.length)→∀ H',aY H H'→E (.ref DL) none H'):uS K DL vs H Q E
def yN(K:Ag)(DL:Ah):Sp:=fun vs H Q E=>uS K DL vs H Q E
theorem aBX{d:Aj}(h:bY d=true):iH d:=by
 cases d with
 | str z=>exact .str z
 | _=>simp[bY]at h
theorem qG{lo hi:Int}{d:Aj}(h:cK lo hi d=true):iH d:=by
 cases d with
 | int i=>exact .int i
 | _=>simp[cK]at h
theorem aAP{d:Aj}(h:cR d=true):iH d:=by
 obtain⟨f,g,a,j,rfl,_,h2,h3,h4⟩:=i9 h;exact .tup (.cons (.str f) (.cons (aBX h2) (.cons (qG h3) (.cons (qG h4) .nil))))
theorem oY:∀{z:List Aj},z.all cR=true→jM z
 | [],_=>.nil
 | d :: r,h=>by
  rw[CW,AX]at h;exact .cons (aAP h.1) (oY h.2)
theorem uT:bU ["laying","rows","made","named"] ["laying","rows"] (aO xY):=⟨rfl,rfl,rfl,by decide,rfl,by decide,by decide⟩
theorem aFX{f fL fB fO DL:Ah}{fd au av an:AH}(F:Fun K "roll_of" "roll_of" xY f fd)(T:Txt K mg)(ac:mg "list"=none)(ao:mg "sorted"=none)(ag:∃ t,mg "MOST_ROWS"=some (.int 40 t))(mD:mg "NoRoll"=some (.ref DL))(xD:aDX K DL)
  (GL:b8 P w K mg base (CXr P w) 5 fL au ["thing"] (wV DL)) (mL:mg "laying_of"=some (.ref fL)) (kL:Au K (.ref fL)=true) (bL:cZ K au ["thing"] [])
  (GB:b8 P w K mg base (CXr P w) 11 fB av ["laying","things"] (uR DL)) (mB:mg "by_names"=some (.ref fB)) (kB:Au K (.ref fB)=true) (bB:cZ K av ["laying","things"] [])
  (GO:b8 P w K mg base CX0 1 fO an ["row"] yJ) (mO:mg "order"=some (.ref fO)) (kO:Au K (.ref fO)=true) (bO:cZ K an ["row"] []):
  b8 P w K mg base (CXr P w) 12 f fd ["laying","rows"] (yN K DL):=by
 refine F.okR uT (fun vs H Q E h=>?_) (fun b6 A outer s H vs Q E hr h=>?_)
 ·cases h with
  | lay x y m d rfl=>subst rfl;rfl
  | rows x y m d ty rfl=>subst rfl;rfl
  | full x q m d0 O xs os rfl=>subst rfl;rfl
 ·have bd:cQ 5 _:=hr.mono (by decide);have aR:cQ (1 + 2) _:=hr.mono (by decide);obtain⟨tm,hmr⟩:=ag;refine⟨_,aJ (aZ (i:=2) uT.nd rfl (AE rfl) (cV GL bd rfl mL kL bL .nil (lS fun _ _ _ h=>h) (aG (pv 0) aF)))
   (aJ (cI (dR (dO (aP gN (by rfl) T.isi (by kernel_rfl) (aG (pv 1) (aG (cA (aG (dI (v:=.ty "list") (by rfl) ac (by kernel_rfl) rfl) (aG (dI (v:=.ty "tuple") (by rfl) T.tuple (by kernel_rfl) rfl) aF))) aF))))) (aN (lT BK rfl mD xD (aG aT aF))) bH)
   (aJ (aZ (i:=3) uT.nd rfl (AE rfl) (cV GB hr rfl mB kB bB .nil (lS fun _ _ _ h=>h) (aG (pv 2) (aG (pv 1) aF))))
   (aJ (cI (bK aEe (aP aDj (by rfl) T.len AI (aG (pv 3) aF)) (cE (v:=.int 40) (by rfl) hmr ⟨_,rfl⟩) (bX _)) (aN (lT BK rfl mD xD (aG aT aF))) bH)
   (aN (aV (cA (aG (pv 2) (aG (cY c0 (by rfl) T.tuple (by kernel_rfl) (aG (aBk GO aR bO (by rfl) ao (by rfl) mO (aG (aDy (pv 3)) aF)) aF)) aF)))))))),?_⟩
  cases h with
  | lay x y m d e rx W ke=>
   subst e;exact⟨_,rfl,m,x,d,rfl,rx,(fun z=>by rw[W]at z;cases z),fun _ H' S=>ke H' S⟩
  | rows x y m d ty e rx W aA ht ke=>
   subst e;refine⟨_,rfl,m,x,d,rfl,rx,fun _ y1 H1 s1 _=>?_,fun z=>by rw[W]at z;cases z⟩;refine⟨_,rfl,zZ2,fun q2 af=>?_⟩;have s2:=aK (o:=.tup [V.ty "list",.ty "tuple"]) af;exact⟨_,q2,"list","tuple",ty,false,rfl,aH,aA _ (s1.trans s2),ht,_,rfl,c8 ⟨zZ1,ke _ (s1.trans s2)⟩⟩
  | full x q m d0 O xs os e rx ed W hf h8 hq ap hT k ke=>
  subst e;refine⟨_,rfl,m,x,d0,rfl,.inl rx,fun _ y H1 s1 ry=>?_,fun z=>by rw[ed,W]at z;cases z⟩;rw[ed]at ry;have ad:RdV false H1 y (.tuple O):=aAM ry (.tup (oY hf));obtain⟨tl,rfl⟩:∃ tl,y=.ref tl:=by
   cases ad with
   | tup e W r=>exact⟨_,rfl⟩
  have bc:oU H1 tl (O.map dD):=oU.of ad hf;refine⟨_,rfl,zZ2,fun q2 af=>?_⟩;have s2:=aK (o:=.tup [V.ty "list",.ty "tuple"]) af;have ar:∀{H':Hp},aY H H'→H' q=some (.lst xs)∨H' q=some (.tup xs):=fun S=>hq.imp (S _ _) (S _ _);have J:=s1.trans s2;obtain⟨tq,htq,hkq⟩:∃ tq,iD K (upd H1 q2 (.tup [V.ty "list",.ty "tuple"])) (.ref q) tq∧CZ K tq [.type "list",.type "tuple"]=some true:=by
   rcases ar J with e | e
   ·exact⟨_,iD.lst e,mW (.list [])⟩
   ·exact⟨_,iD.tup e,mW (.tuple [])⟩
  refine⟨_,q2,"list","tuple",tq,true,rfl,aH,htq,hkq,_,rfl,c7 ?_⟩;generalize upd H1 q2 (.tup [V.ty "list",.ty "tuple"])=H2 at s2 J htq ⊢;refine⟨_,rfl,_,rfl,tl,_,q,xs,os,rfl,bc.same s2,by rw[Ab];exact h8,ar J,ap,hT.same J,fun D fg us H3 s3 b4 ae hN ah Z aE=>?_,fun hb H' S=>ke (.inl hb) H' (J.trans S)⟩;refine⟨_,rfl,D,fg,rfl,ae,_,_,rfl,rfl,_,rfl,?_⟩;by_cases Y:40 < us.length
  ·rw[Ic (show((40:Int) < (fg.length:Int)) by rw[hN.1];omega)];exact c8 ⟨zZ1,ke (.inr ⟨us,ah,Z,Y⟩) _ (J.trans s3)⟩
  have Y:us.length≤40:=by omega
  rw[decide_eq_false (show¬ ((40:Int) < (fg.length:Int)) by rw[hN.1];omega)];refine c7 ?_;have hok:∀ u∈us,u.Ok (O.map dD):=fun u hu=>hT.rowOk ((Z u).mp hu);have ba:c6 H3 (fg.map (·.2)) us (O.map dD):=⟨by rw[Ab,hN.1],fun i z hz=>by
   rw[AC]at hz;obtain⟨pz,hp,rfl⟩:=CG.mp hz;obtain⟨u,a,_,c⟩:=hN.2 i pz hp;exact⟨u,a,c,hok u (Ax a)⟩⟩
  refine⟨_,rfl,_,rfl,D,fg,rfl,ae,fun v hv=>?_⟩;have sv:=aK (o:=v9 v D) hv;have U:=ba.same sv;refine⟨v,fg.map (·.2),aCN (upd H3 v (v9 v D)),rfl,.inr ⟨D,fg,aH,sv _ _ ae,rfl⟩,by rw[Ab,hN.1];omega,aHf U,fun E1 kk p H5 s5 hE be hk ho eE=>?_⟩
  obtain⟨os',ho1,ho2,ho3⟩:=aBT U ah be hk ho s5;refine⟨E1,_,rfl,.inl ⟨aU eE,fun l W=>⟨zZ2,fun t ht=>?_⟩⟩⟩;have sl:=aK (o:=.tup (p.map fun i=>(fg.map (·.2)).getD i .non)) W
  have el:upd H5 l (.tup (p.map fun i=>(fg.map (·.2)).getD i .non)) l=some (.tup (p.map fun i=>(fg.map (·.2)).getD i .non)):=aH
  generalize upd H5 l (.tup (p.map fun i=>(fg.map (·.2)).getD i .non))=H6 at sl el ht ⊢
  have st:=aK (o:=.tup [V.ref tl,.ref l]) ht;have aD:aY H2 H6:=((s3.trans sv).trans s5).trans sl;have ak:=aD.trans st;have b2:=ho1.length_eq;have bT:=ho3.len;refine k us ah Z aE Y t os' _ (J.trans ak) ho1 ho2 (.tup aH (by show 2≤1000;decide) (.cons (ad.same (s2.trans ak)) (.cons (.tup (st _ _ el) (by omega) ((ho3.rdvs).same (sl.trans st))) .nil)))
abbrev dE(xs:List V)(js:List Nat):List V:=js.map fun j=>xs.getD j .non
theorem uU{xs:List V}:∀(z:List Nat) (t:Nat),(dE xs z).eraseIdx t=dE xs (z.eraseIdx t)
 | [],_=>rfl
 | _ :: _,0=>rfl
 | j :: z,t + 1=>by
  show _ :: (dE xs z).eraseIdx t=_ :: dE xs (z.eraseIdx t);rw[uU z t]
theorem aDZ{z:List Nat}{t j i:Nat}(F:z[t]?=some j)(hi:i∈z):i∈z.eraseIdx t∨i=j:=by
 have:=jG z t j F;rcases Al.mp (this.mem_iff.mpr hi)with h | h
 ·exact .inr h
 ·exact .inl h
structure aIZ(n:Nat)(js:List Nat):Prop where
 lt:∀ j∈js,j < n
 all:∀ j,j < n→j∈js
 len:js.length≤2 * n
inductive aFY(vs:List V)(H:Hp)(Q:VK)(E:XK):Prop
 | mk (p c:Ah) (ns:List Int) (a:Int) (lt:Ah) (xs:List V) (h0:vs=[.ref p,.ref lt]) (hp:cJ H p c ns a) (ha:a≤700000) (e:H lt=some (.lst xs)) (h80:xs.length≤80)
   (k:∀(T:Ah) (js:List Nat) (a':Int) (H':Hp),H T=none→((H' T=some (.lst (dE xs js))∧T≠Dq)∨H' T=some (.tup (dE xs js)))→aIZ xs.length js→a≤a'→a'≤a + 300→cJ H' p c ns a'→aQ p H H'→Q (.ref T) H'):aFY vs H Q E
def aCR:Sp:=fun vs H Q E=>aFY vs H Q E
theorem oZ{H H':Hp}{p c D:Ah}{ns:List Int}{a:Int}(k:aQ p H H')(J:cJ H' p c ns a)(F:H' D=none):H D=none:=by
 cases e:H D with
 | none=>rfl
 | some x=>
  by_cases z:D=p
  ·obtain⟨y,_,e2⟩:=J.ob;rw[z]at F;rw[F]at e2;cases e2
  ·exact absurd (k D x e z) (by rw[F];simp)
theorem o0:bU ["_law_pen_here","_law_things","_law_way","_law_left","_law_found","_law_k"] ["_law_pen_here","_law_things"] (aO aBz):=⟨rfl,rfl,rfl,by decide,rfl,by decide,by decide⟩
theorem aFZ{f:Ah}{fd:AH}(F:Fun K "_law_mixed" "_law_mixed" aBz f fd)(av:mg "list"=none)(bq:mg "tuple"=none)(bv:mg "range"=none)(ah:mg "len"=none)
  (GT:Cl P w K mg base 1 "_law_take" ["_law_pen_here","_law_many"] gQ):
  b8 P w K mg base CX0 2 f fd ["_law_pen_here","_law_things"] aCR:=by
 refine F.ok o0 (fun vs H Q E h=>?_) (fun dl A outer s H vs Q E hr h=>?_)
 ·obtain⟨p,c,ns,a,l,xs,rfl,_⟩:=h;rfl
 ·obtain⟨p,c,ns,a,l,xs,rfl,hp,ha,hl,h80,k⟩:=h;refine⟨_,aJ (aZ (i:=2) o0.nd rfl (AE rfl) (bC GT hr (aG (pv 0) (aG aI aF))))
   (aJ (aZ (i:=3) o0.nd rfl (AE rfl) (cY gH (by rfl) av (by kernel_rfl) (aG (pv 1) aF)))
   (aJ (aZ (i:=4) o0.nd rfl (AE rfl) (xR aF))
   (aJ (jP Cv rfl (fE rfl bv (aG (aP aW (by rfl) ah AI (aG (pv 1) aF)) aF)) (bJ (i:=5) o0.nd rfl (AE rfl))
    (aJ (jB (lM BA BY BX gB (pv 4) (aG (lM BA PySem.F.slot_list_pop PySem.F.type_list_pop yZ (pv 3) (aG (bC GT hr (aG (pv 0) (aG (aP aW (by rfl) ah AI (aG (pv 3) aF)) aF))) aF)) aF)))
    (aN (cI (bK dM (bC GT hr (aG (pv 0) (aG aI aF))) aI (bX _))
     (aN (jB (lM BA BY BX gB (pv 4) (aG (bZ cH (pv 4) (bC GT hr (aG (pv 0) (aG (aP aW (by rfl) ah AI (aG (pv 4) aF)) aF))) Ig) aF)))) bH))))
   (aJ (cI (bK dM (pv 2) aI (bX _)) (aN (aV (cY c0 (by rfl) bq (by kernel_rfl) (aG (pv 4) aF)))) bH)
   (aN (aV (pv 4))))))),?_⟩
  refine⟨_,rfl,p,c,ns,a,_,rfl,hp,by omega,by decide,by decide,fun r0 a0 H0 cS de cD dc az am=>?_⟩;have ad:=bQ hl hp am;refine⟨_,rfl,l,_,rfl,.inl (aU ad),fun L hL=>?_⟩;have sL:=aK (o:=.lst xs) hL;have eL:upd H0 L (.lst xs) L=some (.lst xs):=aH;generalize upd H0 L (.lst xs)=H1 at sL eL ⊢;have aj:=az.same sL;refine⟨Bo _,fun U hF mF=>?_⟩;have sF:=aK (o:=.lst []) hF;have eF:upd H1 U (.lst []) U=some (.lst []):=aH;generalize upd H1 U (.lst [])=H2 at sF eF ⊢;have bf:=aj.same sF;have b9:=sF _ _ eL;have k2:aQ p H H2:=(am.same sL).same sF;have nL:H L=none:=oZ am az hL;have nF:H U=none:=oZ (am.same sL) aj hF;have aC:L≠U:=fun z=>by rw[z,hF]at eL;cases eL
  have b3:L≠p:=fun z=>by obtain⟨y,_,e⟩:=aj.ob;rw[z,e]at eL;cases eL
  have bu:U≠p:=fun z=>by obtain⟨y,_,e⟩:=bf.ob;rw[z,e]at eF;cases eF
  have bI:L≠c:=fun z=>by rw[z,az.ce]at hL;cases hL
  have bg:U≠c:=fun z=>by rw[z,aj.ce]at hF;cases hF
  have dj:l≠L:=fun z=>by rw[← z,ad]at hL;cases hL
  have dm:l≠U:=fun z=>by rw[← z,sL _ _ ad]at hF;cases hF
  have cL:l≠p:=fun z=>by obtain⟨y,_,e⟩:=hp.ob;rw[z,e]at hl;cases hl
  refine⟨_,rfl,l,_,rfl,.inl (aU (sF _ _ (sL _ _ ad))),xs.length,rfl,by omega,by omega,?_⟩;have en:((xs.length:Nat):Int).toNat=xs.length:=BG _;have cz:∀{Ha Hb:Hp},aQ p Ha Hb→∀ b o,b≠p→Ha b=some o→Hb b=some o:=fun k b o hb e=>k b o e hb;refine iQ (n:=((xs.length:Nat):Int).toNat) (fun i σ H'=>Ex3 fun(o5:Option V) (O J:List Nat)=>∃(a':Int),Aw6 (σ=[some (.ref p),some (.ref l),some (.int r0),some (.ref L),some (.ref U),o5]) (H' L=some (.lst (dE xs O))) (H' U=some (.lst (dE xs J))) (O.length + i=xs.length) (i≤J.length) (Aw6 (J.length≤2 * i) ((∀ j∈O,j < xs.length)) ((∀ j∈J,j < xs.length)) ((∀ j,j < xs.length→j∈O∨j∈J)) (cJ H' p c ns a') (Aw3 (a0≤a') (a'≤a0 + 3 * i) (aQ p H H'))))
   ⟨none,AL xs.length,[],a0,rfl,?_,eF,by simp,by simp,by simp,fun j W=>Bt.mp W,fun j W=>by simp at W,fun j W=>.inl (Bt.mpr W),bf,by omega,by omega,k2⟩ ?_ ?_
  ·rw[b9];congr 2;apply CC;intro j;rw[AC];by_cases W:j < xs.length
   ·rw[C3 W,Af W];simp[W]
   ·rw[AY (by omega),AY (by simpa using W)];rfl
  ·rintro i σ H3 hi ⟨o5,O,J,a3,rfl,ao,af,br,bo,ar,aR,aD,ag,Z,b5,bj,k3⟩;rw[en]at hi;dsimp only[cC];refine⟨_,rfl,.inl ⟨rfl,_,aU af⟩,_,rfl,.inl ⟨rfl,_,aU ao⟩,_,rfl,_,rfl,L,_,rfl,.inl (aU ao),p,c,ns,a3,_,rfl,Z,by omega,by rw[Ab];omega,by rw[Ab];omega,fun r4 a4 H4 dh bM cx c3 bB aL=>?_⟩;obtain⟨t,rfl⟩:∃ t:Nat,r4=t:=⟨r4.toNat,by omega⟩
   rw[Ab]at bM;have bh:t < O.length:=by omega
   have ap:O[t]?=some O[t]:=Af bh;generalize di:O[t]=jt at ap;have b4:jt < xs.length:=aR jt (Ax ap);have bR:=bQ ao Z aL;have bL:=bQ af Z aL;have hy:(dE xs O)[t]?=some (xs.getD jt .non):=by rw[AC,ap];rfl
   have bF:seqIndex? (t:Int) (dE xs O).length=some t:=by
    unfold seqIndex?;rw[Ab];simp;omega
   refine⟨L,_,_,t,_,rfl,rfl,bR,by omega,by omega,bF,hy,?_⟩;rw[uU];have ca:upd H4 L (.lst (dE xs (O.eraseIdx t))) U=some (.lst (dE xs J)):=by rw[aS aC.symm];exact bL
   refine⟨U,_,_,rfl,rfl,ca,aM (by rw[Ab];omega),?_⟩;have b0:dE xs J ++ [xs.getD jt .non]=dE xs (J ++ [jt]):=by rw[dE,dE,AS];rfl
   rw[b0];have kU:∀ b o,H b=some o→b≠p→upd (upd H4 L (.lst (dE xs (O.eraseIdx t)))) U (.lst (dE xs (J ++ [jt]))) b=some o:=fun b o e hb=>by
    rw[aS (show b≠U from fun z=>by rw[z,nF]at e;cases e),aS (show b≠L from fun z=>by rw[z,nL]at e;cases e)];exact(k3.trans aL) b o e hb
   have aq:cJ (upd (upd H4 L (.lst (dE xs (O.eraseIdx t)))) U (.lst (dE xs (J ++ [jt])))) p c ns a4:=yI (yI bB b3 bI) bu bg;have aB:upd (upd H4 L (.lst (dE xs (O.eraseIdx t)))) U (.lst (dE xs (J ++ [jt]))) L=some (.lst (dE xs (O.eraseIdx t))):=by rw[aS aC,aH]
   have aA:upd (upd H4 L (.lst (dE xs (O.eraseIdx t)))) U (.lst (dE xs (J ++ [jt]))) U=some (.lst (dE xs (J ++ [jt]))):=aH;generalize upd (upd H4 L (.lst (dE xs (O.eraseIdx t)))) U (.lst (dE xs (J ++ [jt])))=H6 at kU aq aB aA ⊢;have ax:(O.eraseIdx t).length + (i + 1)=xs.length:=by rw[Do bh];omega
   have ae:∀ j∈O.eraseIdx t,j < xs.length:=fun j W=>aR j (List.mem_of_mem_eraseIdx W);have ac:∀ j∈J ++ [jt],j < xs.length:=fun j W=>by
    rcases Az.mp W with h | h
    ·exact aD j h
    ·rw[A6.mp h];exact b4
   have Y:∀ j,j < xs.length→j∈O.eraseIdx t∨j∈J ++ [jt]:=fun j W=>by
    rcases ag j W with h | h
    ·rcases aDZ ap h with h | h
     ·exact .inl h
     ·exact .inr (by simp[h])
    ·exact .inr (by simp[h])
   have bN:(J ++ [jt]).length=J.length + 1:=by simp
   generalize J ++ [jt]=fk at aA ac Y bN;generalize O.eraseIdx t=lk at aB ax ae Y;refine⟨_,rfl,p,c,ns,a4,_,rfl,aq,by omega,by decide,by decide,fun r7 a7 H7 db dk dn cy an aE=>⟨rfl,_,rfl,?_⟩⟩;have bp:=bQ aB aq aE;have ak:=bQ aA aq aE;have k7:aQ p H H7:=fun b o e hb=>aE b o (kU b o e hb) hb;refine dH (fun g=>?_) (fun g=>?_)
   ·refine⟨_,rfl,.inl ⟨rfl,_,aU ak⟩,_,rfl,_,rfl,_,rfl,U,_,rfl,.inl (aU ak),p,c,ns,a7,_,rfl,an,by omega,by rw[Ab];omega,by rw[Ab];omega,fun r8 a8 H8 c1 bD cv cw b7 ay=>?_⟩;obtain⟨u,rfl⟩:∃ u:Nat,r8=u:=⟨r8.toNat,by omega⟩
    rw[Ab]at bD;have bA:u < fk.length:=by omega
    have aw:fk[u]?=some fk[u]:=Af bA;generalize fk[u]=ju at aw;have bi:=bQ ak an ay;have b2:=bQ bp an ay;have bO:(dE xs fk)[u]?=some (xs.getD ju .non):=by rw[AC,aw];rfl
    refine⟨U,_,_,_,rfl,rfl,aU bi,bS bO,U,_,_,rfl,rfl,bi,aM (by rw[Ab];omega),?_⟩;have b1:dE xs fk ++ [xs.getD ju .non]=dE xs (fk ++ [ju]):=by rw[dE,dE,AS];rfl
    rw[b1];refine⟨_,lk,fk ++ [ju],a8,rfl,by rw[aS aC];exact b2,aH,ax,by rw[Ak];omega,by rw[Ak];show fk.length + 1≤_;omega,ae,fun j W=>?_,fun j W=>(Y j W).imp id fun h=>by simp[h],yI b7 bu bg,by omega,by omega,fun b o e hb=>?_⟩
    ·rcases Az.mp W with h | h
     ·exact ac j h
     ·rw[A6.mp h];exact ac ju (Ax aw)
    ·rw[aS fun z=>by rw[z,nF]at e;cases e];exact(k7.trans ay) b o e hb
   ·exact⟨_,lk,fk,a7,rfl,bp,ak,ax,by omega,by omega,ae,ac,Y,an,by omega,by omega,k7⟩
  ·rintro σ H3 ⟨o5,O,J,a3,rfl,ao,af,br,bo,ar,aR,aD,ag,Z,b5,bj,k3⟩;rw[en]at br bo ar bj;have ad:O=[]:=C7 (by omega);subst ad;have hJ:aIZ xs.length J:=⟨aD,fun j W=>(ag j W).resolve_left (by simp),by omega⟩
   refine⟨_,rfl,rfl,_,rfl,dH (fun g=>?_) (fun g=>?_)⟩
   ·refine⟨_,rfl,U,_,rfl,.inl ⟨aU af,fun T hT=>?_⟩⟩;have sT:=aK (o:=.tup (dE xs J)) hT;exact k T J a3 _ (oZ k3 Z hT) (.inr aH) hJ (by omega) (by omega) (Z.same sT) (k3.same sT)
   ·exact⟨_,rfl,k U J a3 _ nF (.inl ⟨af,mF⟩) hJ (by omega) (by omega) Z k3⟩
def aD0(K:Ag)(D:Ah)(cs:List Ah)(bs:List Bool)(ts:List Ah):Bool:=
 ((cs.zip bs).all fun p=>Bs K (.ref D) (.ref p.1) == some p.2) && (CZ K (.ref D) (ts.map AB) == some false) && (Bs K (.ref D) (.type "ValueError") == some true) &&
 (C2 K (.ref D) "__getattribute__" == some (some (.builtin "BaseException.__getattribute__"))) && (C2 K (.ref D) "__getattr__" == some none) && (F3 K D (.type "BaseException") == some true) && PySem.W.hasDictIn K D && (C2 K (.ref D) "__class__" == some (some (.builtin "object.__class__"))) && (F3 K D (.type "object") == some true) &&
 (Fl K (.builtin "object.__class__") "__get__" == some (some (.builtin "getset_descriptor.__get__"))) && (PySem.W.takesIn K (.builtin "object.__class__") == some true)
theorem aCS{K:Ag}{D:Ah}{z:List Ah}{bs:List Bool}{ts:List Ah}(h:aD0 K D z bs ts=true):xQ K D∧(∀(i:Nat) c b,z[i]?=some c→bs[i]?=some b→Bs K (.ref D) (.ref c)=some b)∧CZ K (.ref D) (ts.map AB)=some false∧Bs K (.ref D) (.type "ValueError")=some true:=by
 unfold aD0 at h;simp only[AX,beq_iff_eq,Bg]at h;obtain⟨⟨⟨⟨⟨⟨⟨⟨⟨⟨h1,h2⟩,h3⟩,h4⟩,h5⟩,h5'⟩,h6⟩,h7⟩,h8⟩,h9⟩,h10⟩:=h;refine⟨⟨h4,h5,h5',h6,h7,h8,h9,h10⟩,fun i c b F J=>h1 (c,b) ?_,h2,h3⟩;exact Ax (i:=i) (List.getElem?_zip_eq_some.mpr ⟨F,J⟩)
def aHh(K:Ag)(DL:Ah)(H:Hp)(x y:V):Prop:=∀(Q:VK) (E:XK),(∀ H',aY H H'→E (.ref DL) none H')→uS K DL [x,y] H Q E
inductive wW(K:Ag)(DL:Ah)(vs:List V)(H:Hp)(Q:VK)(u3_:XK):Prop
 | mk (x y:V) (q0:vs=[x,y]) (q1:aHh K DL H x y) (q2:∀ H',aY H H'→Q (.bl true) H'):wW K DL vs H Q u3_
def aCT(K:Ag)(DL:Ah):Sp:=fun vs H Q u3_=>wW K DL vs H Q u3_
theorem aCU:bU ["_law_laying_here","_law_rows","_law_caught","e"] ["_law_laying_here","_law_rows"] (aO aBA):=⟨rfl,rfl,rfl,by decide,rfl,by decide,by decide⟩
theorem aF8{f fR cD ae J W ad aa Z U af ac Y O ag z:Ah}{fd aA:AH}(F:Fun K "_law_is_refused" "_law_is_refused" aBA f fd)(ai:mg "isinstance"=none)(aE:mg "ValueError"=none)(mD:mg "DykeError"=some (.ref cD))(av:mg "Clash"=some (.ref ae))(ah:mg "NoBreach"=some (.ref J))(ak:mg "NoField"=some (.ref W))(an:mg "NoInch"=some (.ref ad))(ap:mg "NoMend"=some (.ref aa))(ar:mg "NoName"=some (.ref Z))(am:mg "NoOrder"=some (.ref U))(aw:mg "NoRow"=some (.ref af))(au:mg "NoText"=some (.ref ac))(aq:mg "NoThen"=some (.ref Y))(aj:mg "TooMany"=some (.ref O))(ax:mg "Twice"=some (.ref ag))(ao:mg "NoRoll"=some (.ref z))
  (eR:EW K (.ref z) (.ref cD)=some true) (kf:aD0 K z [z] [true] [ae,J,W,ad,aa,Z,U,af,ac,Y]=true) (kg:aD0 K z [z] [true] [O,ag]=true)
  (GR:b8 P w K mg base (CXr P w) 12 fR aA ["laying","rows"] (yN K z)) (mR:mg "roll_of"=some (.ref fR)) (kR:Au K (.ref fR)=true) (bR:cZ K aA ["laying","rows"] []):
  b8 P w K mg base CX0 13 f fd ["_law_laying_here","_law_rows"] (aCT K z):=by
 refine F.ok aCU (fun vs H Q E h=>?_) (fun bi A outer s H vs Q E hr h=>?_)
 ·obtain⟨x,y,rfl,_⟩:=h;rfl
 ·obtain⟨x,y,rfl,hR,k⟩:=h;have nd:=aCU.nd;refine⟨_,aJ (aZ (i:=2) nd rfl (AE rfl) iB)
   (aJ (aE4 (ie:=3) rfl rfl rfl (aE3 (aGE GR hr rfl mR kR bR (aG (pv 0) (aG (pv 1) aF)))) rfl mD nd rfl rfl (fun v=>aN (aZ (i:=2) nd rfl (AE rfl) (pv 3))))
   (aJ (cI (dO (aP nG (by rfl) ai (by kernel_rfl) (aG (pv 2) (aG (cA (aG (cE (v:=.ref ae) rfl av rfl) (aG (cE (v:=.ref J) rfl ah rfl) (aG (cE (v:=.ref W) rfl ak rfl) (aG (cE (v:=.ref ad) rfl an rfl) (aG (cE (v:=.ref aa) rfl ap rfl) (aG (cE (v:=.ref Z) rfl ar rfl) (aG (cE (v:=.ref U) rfl am rfl) (aG (cE (v:=.ref af) rfl aw rfl) (aG (cE (v:=.ref ac) rfl au rfl) (aG (cE (v:=.ref Y) rfl aq rfl) aF))))))))))) aF)))) (aN (aV gC)) bH)
   (aJ (cI (dO (aP nG (by rfl) ai (by kernel_rfl) (aG (pv 2) (aG (cA (aG (cE (v:=.ref O) rfl aj rfl) (aG (cE (v:=.ref ag) rfl ax rfl) aF))) aF)))) (aN (aV gC)) bH)
   (aN (aV (dX (aP oJ (by rfl) ai (by kernel_rfl) (aG (pv 2) (aG (cE (v:=.ref z) rfl ao rfl) aF))) (fY (aP oJ (by rfl) ai (by kernel_rfl) (aG (pv 2) (aG (dI (v:=.ty "ValueError") (by rfl) aE (by kernel_rfl) rfl) aF)))))))))),?_⟩
  refine⟨_,rfl,_,rfl,hR _ _ fun H1 s1=>⟨eR,fun y hy=>?_⟩⟩;have sy:=aK (o:=nE y (.ref z)) hy;have ey:upd H1 y (nE y (.ref z)) y=some (nE y (.ref z)):=aH;have S:=s1.trans sy;generalize upd H1 y (nE y (.ref z))=H2 at sy ey S ⊢;obtain⟨ek,h1,h2,h3⟩:=aCS kf;obtain⟨_,_,h4,_⟩:=aCS kg;refine⟨_,rfl,_,rfl,aJS,fun q hq=>?_⟩;have sq:=aK (o:=.tup ([ae,J,W,ad,aa,Z,U,af,ac,Y].map V.ref)) hq;refine⟨y,z,q,[ae,J,W,ad,aa,Z,U,af,ac,Y],_,rfl,aH,sq _ _ ey,ek,h2,_,rfl,c7 ?_⟩;have az:=sq _ _ ey;have S3:=S.trans sq;simp only[A3,Dt]at az S3;generalize upd H2 q _=H3 at az S3 ⊢;refine⟨_,rfl,zZ2,fun q2 aL=>?_⟩;have aB:=aK (o:=.tup ([O,ag].map V.ref)) aL;have ay:=aB _ _ az;refine⟨y,z,q2,[O,ag],_,rfl,aH,ay,ek,h4,_,rfl,c7 ?_⟩;refine⟨_,rfl,y,z,_,_,_,rfl,(fun u r=>r),ay,ek,h1 0 _ _ rfl rfl,_,rfl,c8 ⟨_,rfl,y,z,_,_,_,rfl,(fun u r=>r),ay,ek,h3,k _ (S3.trans aB)⟩⟩
theorem bV.Ok.tup{r:bV}{fs:List Str}(ok:r.Ok fs){m:Bool}{H:Hp}{x:V}(h:RdV m H x r.d):∃ z cM,x=.ref z∧H z=some (.tup (.str r.word :: .str r.name :: .int r.day :: cM))∧cF m H cM r.ds:=by
 unfold bV.d iG at h;cases h with
 | @tup a xs _ e U q=>
  cases q with
  | cons J q=>
  cases q with
  | cons F q=>
  cases q with
  | cons O q=>
   cases J;cases F;cases O;exact⟨a,_,rfl,e,q⟩
theorem wX:∀ R:List P3,(R.map pD).map (dB 1)=R.map pD
 | []=>rfl
 | p :: R=>by rw[A3,A3,wX R];rfl
theorem aAQ(n:Nat):∀ R:List Str,(R.map AW).map (dB n)=R.map AW
 | []=>rfl
 | p :: R=>by
  rw[A3,A3,aAQ n R];cases n <;> rfl
theorem f6.two{word:Str}{ds:List Aj}(h:f6 word ds):ds.map (dB 2)=ds:=by
 cases h with
 | @part z R _ _ _ _ _=>
  show[AW z,.tuple ((R.map pD).map (dB 1))]=_;rw[wX]
 | @join z R _ _ _ _ _=>
  show[DI ((R.map AW).map (dB 1)),.str z]=_;rw[aAQ]
 | _=>rfl
theorem f6.ord{word:Str}{ds:List Aj}(h:f6 word ds)(n d:Aj):eZ (.tuple (.str word :: n :: d :: ds)) (.tuple (.str word :: n :: d :: ds)):=by
 cases h with
 | part J z h2 F ha=>exact .part (DF _) z h2 F ha
 | join J z h2 F ha=>exact .join (DF _) z F ha
 | forfeit=>exact .other (by decide) (by decide)
 | measure=>exact .other (by decide) (by decide)
 | mend=>exact .other (by decide) (by decide)
 | alone=>exact .short (by simp)
 | breach=>exact .short (by simp)
 | view=>exact .short (by simp)
structure Bad(d:Aj):Prop where
 no:∃ d',eZ (dB 3 d) d'∧rowD d'=false
 ok:OkD 15259 3 d
theorem aD1{e:Aj}(h:rB e):OkD 315 1 e:=by
 rcases h with⟨_,h⟩ | ⟨is,rfl,h3,h⟩
 ·exact h.mono (by decide) (by decide)
 ·exact OkD.tuple (n:=3) h h3
def El(d:Aj):Prop:=(iK d=false∧OkD 102 0 d)∨∃ es,d=.tuple es∧es.length≤6∧∀ e∈es,rB e
theorem aI0{d:Aj}(h:El d):OkD 1905 2 d:=by
 rcases h with⟨_,h⟩ | ⟨es,rfl,h6,h⟩
 ·exact h.mono (by decide) (by decide)
 ·exact OkD.tuple (b:=315) (k:=1) (n:=6) (fun e z=>aD1 (h e z)) h6
theorem aCV{ds:List Aj}(h:∀ d∈ds,El d)(z:ds.length≤8):OkD 15259 3 (.tuple ds):=OkD.tuple (b:=1905) (k:=2) (n:=8) (fun e F=>aI0 (h e F)) z
def bV.top(u:bV):List Aj:=.str u.word :: .str u.name :: .int u.day :: u.ds
theorem bV.Ok.els{u:bV}{fs:List Str}(h:u.Ok fs):∀ d∈u.top,El d:=aIU h.rs h.nm h.d0 h.d1
theorem bV.Ok.len7{u:bV}{fs:List Str}(h:u.Ok fs):u.top.length≤7:=by
 have:=h.rs.len;simp only[bV.top,AM];omega
inductive Twn(us:List bV)(fs:List Str):Aj→Prop
 | mk {u:bV} {n:Nat} {i:Int} {b:Bool} (hu:u∈us) (ok:u.Ok fs) (h2:2≤n) (hi:u.top[n]?=some (.int i)):Twn us fs (.tuple (u.top.take n ++ .bool b :: u.top.drop (n + 1)))
theorem aHi(b:Bool):El (.bool b):=.inl ⟨rfl,by cases b <;> exact⟨by decide,by decide,by decide⟩⟩
theorem uV{word:Str}{n dy:Aj}{ds:List Aj}(h:eB word ds=false):rowD (.tuple (.str word :: n :: dy :: ds))=false:=by
 show(decide (word∈eG) && (bY n && (cK 0 9999 dy && eB word ds)))=false;rw[h];simp
theorem Twn.bad{us:List bV}{fs:List Str}{d:Aj}(h:Twn us fs d):Bad d:=by
 obtain⟨hu,ok,h2,hi⟩:=h;rename_i u n i b;have Y:=ok.len7;have hn:n < u.top.length:=(AR.mp hi).1;refine⟨?_,aCV (fun d hd=>?_) (by rw[Ak,Am,AM,AZ];omega)⟩
 ·have F:=ok.rs;obtain⟨word,name,day,ds⟩:=u
  match n,h2 with
  | 2,_=>
   dsimp only at F;refine⟨.tuple (.str word :: .str name :: .bool b :: ds),?_,?_⟩
   ·show eZ (.tuple (.str word :: .str name :: .bool b :: ds.map (dB 2))) _;rw[F.two];exact F.ord _ _
   ·show(decide (word∈eG) && (bW name && (false && eB word ds)))=false;simp
  | m + 3,_=>
   have z:ds[m]?=some (.int i):=hi;dsimp only at F;cases F with
   | part=>
    match m,z with
    | 0,h=>cases h
    | 1,h=>cases h
   | join=>
    match m,z with
    | 0,h=>cases h
    | 1,h=>cases h
   | forfeit=>
    match m,z with
    | 0,h=>cases h
    | 1,h=>cases h
   | mend=>
    match m,z with
    | 0,h=>cases h
    | 1,h=>cases h
   | alone=>
    match m,z with
    | 0,h=>cases h
   | @measure f k W _ _=>
    match m,z with
    | 0,h=>cases h
    | 1,h=>
     refine⟨_,show eZ (.tuple [.str "measure",.str name,.int day,.str f,.bool b]) (.tuple [.str "measure",.str name,.int day,.str f,.bool b]) from .other (by decide) (by decide),uV ?_⟩;rw[show eB "measure" [.str f,.bool b]=hZ [.str f,.bool b] from by unfold eB;rw[Ia (by decide),Ia (by decide),Ia (by decide),Ib rfl]];simp[hZ,cK]
   | @breach f J O U W _ _ _ _ _ _=>
    have e:∀ ds,eB "breach" ds=g8 ds:=fun ds=>by unfold eB;rw[Ia (by decide),Ia (by decide),Ia (by decide),Ia (by decide),Ia (by decide),Ia (by decide),Ib rfl]
    match m,z with
    | 0,h=>cases h
    | 1,h=>
     refine⟨_,show eZ (.tuple [.str "breach",.str name,.int day,.str f,.bool b,.int O,.int U]) (.tuple [.str "breach",.str name,.int day,.str f,.bool b,.int O,.int U]) from .short (by simp),uV ?_⟩;rw[e];simp[g8,cK]
    | 2,h=>
     refine⟨_,show eZ (.tuple [.str "breach",.str name,.int day,.str f,.int J,.bool b,.int U]) (.tuple [.str "breach",.str name,.int day,.str f,.int J,.bool b,.int U]) from .short (by simp),uV ?_⟩;rw[e];simp[g8,cK]
    | 3,h=>
     refine⟨_,show eZ (.tuple [.str "breach",.str name,.int day,.str f,.int J,.int O,.bool b]) (.tuple [.str "breach",.str name,.int day,.str f,.int J,.int O,.bool b]) from .short (by simp),uV ?_⟩;rw[e];simp[g8,cK]
   | @view f h J W _ _ Z=>
    match m,z with
    | 0,h=>cases h
    | 1,_=>
     refine⟨_,show eZ (.tuple [.str "view",.str name,.int day,.str f,.bool b,.str h]) (.tuple [.str "view",.str name,.int day,.str f,.bool b,.str h]) from .short (by simp),uV ?_⟩;rw[show eB "view" [.str f,.bool b,.str h]=p8 [.str f,.bool b,.str h] from by unfold eB;rw[Ia (by decide),Ia (by decide),Ia (by decide),Ia (by decide),Ia (by decide),Ia (by decide),Ia (by decide)]];simp[p8,cK]
    | 2,h=>cases h
 ·rcases Az.mp hd with hd | hd
  ·exact ok.els d (Bv hd)
  ·rcases Al.mp hd with rfl | hd
   ·exact aHi b
   ·exact ok.els d (Dn hd)
theorem aI1{u:bV}{fs:List Str}(ok:u.Ok fs)(b:Bool){j:Nat}:¬ u.top[j]?=some (.bool b):=fun h=>by
 have hm:=Ax h;obtain⟨word,name,day,ds⟩:=u;have z:=ok.rs;simp only[bV.top]at hm;dsimp only at z;cases z <;> simp at hm
theorem aF9:Bad .none:=⟨⟨.none,.odd rfl,rfl⟩,⟨by decide,by decide,by decide⟩⟩
theorem aCW{xs:List V}{n:Nat}(h:n + 2 < xs.length):dQ xs none (some (2 + (n:Int)))=xs.take (n + 2):=by
 rw[show(2:Int) + (n:Int)=((n + 2:Nat):Int) by omega];exact gM (α:=Nat) xs _
theorem wY{xs:List V}{n:Nat}:dQ xs (some (2 + (n:Int) + 1)) none=xs.drop (n + 3):=by
 rw[show(2:Int) + (n:Int) + 1=((n + 3:Nat):Int) by omega];exact eQ (α:=Nat) xs _
inductive aAR(vs:List V)(H:Hp)(Q:VK)(u3_:XK):Prop
 | mk (p c:Ah) (ns:List Int) (a:Int) (rw:Ah) (ys:List V) (us:List bV) (fs:List Str) (q0:vs=[.ref p,.ref rw]) (q1:cJ H p c ns a) (q2:a≤800000) (q3:H rw=some (.lst ys)) (q4:c6 H ys us fs) (q5:us.length≤40) (q6:∀(x:V) (d:Aj) (a':Int) (H':Hp),RdV false H' x d→Bad d→a≤a'→a'≤a + 1→cJ H' p c ns a'→aQ p H H'→Q x H'):aAR vs H Q u3_
def aGa:Sp:=fun vs H Q u3_=>aAR vs H Q u3_
theorem aGb:bU ["_law_pen_here","_law_rows","_law_some_here","_law_row_here","_law_at"] ["_law_pen_here","_law_rows"] (aO aFf):=⟨rfl,rfl,rfl,by decide,rfl,by decide,by decide⟩
theorem aHj{f:Ah}{fd:AH}(F:Fun K "_law_twin" "_law_twin" aFf f fd)(ac:mg "len"=none)(au:mg "range"=none)(an:mg "isinstance"=none)(am:mg "int"=none)
  (GT:Cl P w K mg base 1 "_law_take" ["_law_pen_here","_law_many"] gQ)
  :b8 P w K mg base CX0 2 f fd ["_law_pen_here","_law_rows"] aGa:=by
 refine F.ok aGb (fun vs H Q E h=>?_) (fun bR A outer s H vs Q E hr h=>?_)
 ·obtain⟨p,c,ns,a,rw,ys,us,fs,rfl,_⟩:=h;rfl
 ·obtain⟨p,c,ns,a,rw,ys,us,fs,rfl,hp,ha,hrw,hR,h40,k⟩:=h;have nd:=aGb.nd;have hu:_ < _:=hr.units0;refine⟨_,(aJ (aZ (i:=2) nd rfl (AE rfl) (cW aF))
   (aJ (jP Cv rfl (jC (pv 1)) (g:=cC 3) (bJ (i:=3) nd rfl (AE rfl))
   (aN (jP Cv rfl (aC9 rfl au (aG aI (aG (aP aW (by rfl) ac AI (aG (pv 3) aF)) aF))) (g:=cC 4) (bJ (i:=4) nd rfl (AE rfl))
    (aN (cI (PW.pt (lH (dO (aP dN (by rfl) an (by kernel_rfl) (aG (bZ cX (pv 3) (pv 4) Ig) (aG (dI (v:=.ty "int") (by rfl) am (by kernel_rfl) rfl) aF)))) (jA (bK pE (bZ cX (pv 3) (pv 4) Ig) (cA (aG aI (aG aI aF))) (by with_unfolding_all rfl))))) (aN (jB (lM BA BY BX gB (pv 2) (aG (aX fV (aX fV (cB eI (pv 3) cN (cO (pv 4))) (cA (aG (fS dM (bZ cX (pv 3) (pv 4) Ig) aI (bX _)) aF))) (cB eI (pv 3) (cO (aX dF (pv 4) aI)) cN)) aF)))) bH)))))
   (aJ (cI (bK (aE9 hu) (pv 2) (cW aF) (bX _)) (aN (aV iB)) bH)
   (aN (aV (bZ cH (pv 2) (bC GT hr (aG (pv 0) (aG (aP aW (by rfl) ac AI (aG (pv 2) aF)) aF))) Ig)))))),?_⟩
  have bP:=hR.len;refine⟨zZ0,fun L hL=>?_⟩;have sL:=aK (o:=.lst ([]:List V)) hL;refine⟨_,rfl,rw,rfl,⟨_,aU (sL _ _ hrw)⟩,?_⟩;refine rL (K:=K) (xs:=ys) (fun i σ H'=>Ex3 fun(o3 o4:Option V) (zs:List V)=>Aw3 (σ=[some (.ref p),some (.ref rw),some (.ref L),o3,o4]) (aY H H') (Aw3 (H' L=some (.lst zs)) (zs.length≤7 * i) (∀ z∈zs,∃ d,RdV false H' z d∧Twn us fs d))) ⟨none,none,[],rfl,sL,aH,by simp,(fun z h=>by simp at h)⟩ (fun i σ H' _ h=>by obtain⟨_,_,_,_,S,_⟩:=h;exact aU (S _ _ hrw)) ?_ ?_
  ·rintro i v σ H1 hv ⟨o3,o4,zs,rfl,S1,W,ba,J⟩;obtain⟨u,hu',rdv,ok⟩:=hR.at' i v hv;have hi:i < ys.length:=(AR.mp hv).1;obtain⟨tr,cM,rfl,htr,hrest⟩:=ok.tup rdv;have bB:=ok.len7;have bc:(V.str u.word :: .str u.name :: .int u.day :: cM).length=u.top.length:=by simp[bV.top,hrest.len]
   have O:cF false H (V.str u.word :: .str u.name :: .int u.day :: cM) u.top:=by
    unfold bV.d iG at rdv;cases rdv with
    | tup e hl r=>
     rw[htr]at e;cases e;exact r
   generalize V.str u.word :: .str u.name :: .int u.day :: cM=xs at htr bc O;dsimp only[cC];refine⟨_,rfl,tr,xs,rfl,.inr (bG (S1 _ _ htr)),2,((xs.length:Nat):Int),rfl,⟨by decide,by decide,by omega,by omega⟩,?_⟩;refine iQ (lo:=2) (fun j σ H'=>∃(o4:Option V) (zs:List V),Aw3 (σ=[some (.ref p),some (.ref rw),some (.ref L),some (.ref tr),o4]) (aY H H') (Aw3 (H' L=some (.lst zs)) (zs.length≤7 * i + j) (∀ z∈zs,∃ d,RdV false H' z d∧Twn us fs d))) ⟨o4,zs,rfl,S1,W,by omega,J⟩ ?_ ?_
   ·rintro j σ H2 hj ⟨o4,zs,rfl,Y,W,ak,J⟩;have aR:j + 2 < xs.length:=by omega
    obtain⟨w,hw⟩:∃ w,xs[j + 2]?=some w:=⟨_,Af aR⟩
    obtain⟨d,hd,rw'⟩:=O.at hw;have aa:=Y _ _ htr;have ah:atI xs (2 + (j:Int))=some w:=by
     rw[show(2:Int) + (j:Int)=((j + 2:Nat):Int) by omega];exact bS hw
    have aq:=rw'.same Y;dsimp only[cC];refine⟨_,rfl,_,rfl,tr,xs,_,w,rfl,rfl,bG aa,ah,_,"int",_,_,rfl,lC aq,aCB d,_,rfl,?_⟩;cases ag:isInt d with
    | false=>exact c7 (c7 ⟨_,zs,rfl,Y,W,by omega,J⟩)
    | true=>
     refine c8 ?_;have bu:=ok.els d (Ax hd);obtain⟨k,rfl⟩:∃ k,d=.int k:=by
      cases d with
      | int k=>exact⟨k,rfl⟩
      | bool b=>exact absurd hd (aI1 ok b)
      | _=>simp[isInt]at ag
     cases aq;refine⟨_,rfl,_,rfl,tr,xs,_,_,rfl,rfl,bG aa,ah,zZ2,fun q hq=>?_⟩;have sq:=aK (o:=.tup [V.int 0,.int 1]) hq;refine⟨q,_,rfl,.inr (bG aH),rfl,rfl,_,rfl,?_⟩;generalize upd H2 q (.tup [V.int 0,.int 1])=H3 at sq ⊢;have S3:=Y.trans sq;refine dH (fun g=>?_) fun g=>⟨_,zs,rfl,S3,sq _ _ W,by omega,fun z hz=>by obtain⟨d,a,b⟩:=J z hz;exact⟨d,a.same sq,b⟩⟩
     have U:=S3 _ _ htr;refine⟨_,rfl,.inl ⟨rfl,_,aU (sq _ _ W)⟩,_,rfl,_,rfl,_,rfl,tr,xs,rfl,U,fun r1 H4 s4 e4=>?_⟩;refine⟨_,rfl,_,rfl,tr,xs,_,_,rfl,rfl,bG (s4 _ _ U),ah,rfl,zZ1,fun q1 be=>?_⟩;obtain⟨b,hb⟩:∃ b,b=decide (V.int k=V.int 1):=⟨_,rfl⟩
     rw[← hb];have aj:=aK (o:=.tup [V.bl b]) be;have bL:(dQ xs none (some (2 + (j:Int)))).length≤7:=by rw[aCW (by omega)];rw[Am];omega
     refine⟨r1,q1,_,_,rfl,rfl,aj _ _ e4,aH,(by show _ + 1≤1000000;omega),fun r2 H5 s5 e5=>?_⟩;refine⟨_,rfl,_,rfl,_,_,rfl,rfl,_,rfl,tr,xs,rfl,s5 _ _ (aj _ _ (s4 _ _ U)),fun r3 H6 s6 e6=>?_⟩;have bx:(dQ xs (some (2 + (j:Int) + 1)) none).length≤7:=by rw[wY,AZ];omega
     have ay:=s5.trans s6;have aB:=s4.trans (aj.trans ay);refine⟨r2,r3,_,_,rfl,rfl,s6 _ _ e5,e6,(by rw[Ak];show _ + 1 + _≤1000000;omega),fun r4 H7 s7 e7=>?_⟩;have ae:=aB.trans s7;have S7:=S3.trans ae;have ar:=ae _ _ (sq _ _ W);rw[aCW (by omega),wY]at e7;have ao:RdV false H7 (.ref r4) (.tuple (u.top.take (j + 2) ++ [.bool b] ++ u.top.drop (j + 3))):=
      .tup e7 (by rw[Ak,Ak,Am,AZ];show _ + 1 + _≤1000;omega) ((((O.same S7).take _).app (.cons (.bl b) .nil)).app ((O.same S7).drop _))
     rw[De]at ao;have aE:Twn us fs (.tuple (u.top.take (j + 2) ++ .bool b :: u.top.drop (j + 2 + 1))):=.mk (Ax hu') ok (by omega) hd;refine⟨L,_,_,rfl,rfl,ar,by rw[Cz];show zs.length < 16777216;omega,?_⟩;have kF:∀{z:V} {d:Aj},RdV false H7 z d→RdV false (upd H7 L (.lst (zs ++ [V.ref r4]))) z d:=fun h=>h.keepF fun a o e _ hl=>by
      rw[aS fun z=>hl zs (by rw[z,ar]at e;injection e with e;exact e.symm)];exact e
     refine⟨_,_,rfl,fun b' o e=>by rw[aS (bE e hL)];exact S7 _ _ e,aH,by rw[Ak];show _ + 1≤_;omega,fun z hz=>?_⟩;rcases Az.mp hz with hz | hz
     ·obtain⟨d,a1,a2⟩:=J z hz;exact⟨d,kF (a1.same (sq.trans ae)),a2⟩
     ·rw[A6.mp hz];exact⟨_,kF ao,aE⟩
   ·rintro σ H2 ⟨o4,zs,rfl,Y,W,ak,J⟩;exact⟨_,_,zs,rfl,Y,W,by omega,J⟩
  ·rintro σ H1 ⟨o3,o4,zs,rfl,S1,W,ba,J⟩;refine⟨_,rfl,zZ0,fun ap aL=>?_⟩;have sE:=aK (o:=.lst ([]:List V)) aL;have Z:=sE _ _ W;refine⟨L,ap,zs,rfl,rfl,aU Z,aU aH,_,rfl,?_⟩;generalize upd H1 ap (.lst ([]:List V))=H2 at sE Z ⊢;have Y:=S1.trans sE;have af:=hp.same Y;by_cases g:zs=[]
   ·rw[Ic g];exact c8 (k .non .none a H2 .non aF9 (Eb _) (by omega) af ((aQ.refl p H).same Y))
   ·rw[decide_eq_false g];refine c7 ?_;have ak:0 < zs.length:=List.length_pos_iff.mpr g;refine⟨_,rfl,_,rfl,_,rfl,L,zs,rfl,.inl (aU Z),p,c,ns,a,_,rfl,af,by omega,by omega,?_,fun r a' H3 r0 r1 a1 a2 aA k3=>?_⟩
    ·exact Gy (show((zs.length:Nat):Int) < 2 ^ 64 by omega) (by decide)
    have aC:L≠p:=by
     obtain⟨⟨l,_,e⟩,_,_,_⟩:=hp;exact fun z=>by rw[z,e]at hL;cases hL
    obtain⟨m,rfl⟩:∃ m:Nat,r=(m:Int):=⟨r.toNat,by omega⟩
    obtain⟨z,hz⟩:∃ z,zs[m]?=some z:=⟨_,Af (by omega)⟩
    obtain⟨d,d1,d2⟩:=J z (Ax hz);refine⟨L,zs,_,z,rfl,rfl,aU (k3 _ _ Z aC),bS hz,k z d a' H3 ((d1.same sE).keepF fun b o e hd _=>k3 b o e fun y=>?_) d2.bad a1 a2 aA (((aQ.refl p H).same Y).trans k3)⟩;obtain⟨⟨l,_,e'⟩,_,_,_⟩:=af;rw[y,e']at e;cases e;exact hd _ _ rfl
structure aJ2(H:Hp)(t:Ah)(lds:List Aj):Prop where
 ex:∃ xs,H t=some (.tup xs)∧cF false H xs lds
 fl:yK lds
 l1:1≤lds.length
 l8:lds.length≤8
 nd:(lds.map dD).Nodup
inductive aCX(H:Hp)(x:V):Prop
 | mk (m:_) (d:_) (q0:RdX m H x d) (q1:mZ (dB 2 d)=false):aCX H x
def uW(H:Hp)(x:V):Prop:=aCX H x
inductive aHT(b k:Nat)(H:Hp)(x:V):Prop
 | mk (d:_) (q0:(RdL H x d∨RdV true H x d)) (q1:OkD b k d):aHT b k H x
def Shw(b k:Nat)(H:Hp)(x:V):Prop:=aHT b k H x
theorem aCY{pre z:List Aj}{e:Aj}(h:cR (dB 1 e)=false):mZ (dB 2 (.tuple (pre ++ e :: z)))=false:=by
 show(decide _ && ((pre ++ e :: z).map (dB 1)).all cR && decide _)=false;rw[AS,A3,List.all_append,CW,h];simp
theorem aHk{ds:List Aj}(h:¬ ((ds.map (dB 1)).map dD).Nodup):mZ (dB 2 (.tuple ds))=false:=by
 show(decide _ && _ && decide ((ds.map (dB 1)).map dD).Nodup)=false;rw[decide_eq_false h,E4]
theorem aGc{ds:List Aj}(h:8 < ds.length):mZ (dB 2 (.tuple ds))=false:=by
 show(decide (1≤(ds.map (dB 1)).length∧(ds.map (dB 1)).length≤8) && _ && _)=false;rw[decide_eq_false (by rw[Ab];omega)];rfl
theorem aAS{m:Bool}{H:Hp}{x:V}{d:Aj}(rd:RdV m H x d)(h:cR d=true):∃(b:Ah) (f g:Str) (a i:Int),x=.ref b∧H b=some (.tup [.str f,.str g,.int a,.int i])∧d=g9 f g a i∧bW f=true∧bW g=true∧(1≤a∧a≤1000000)∧0≤i∧i≤10000000:=by
 obtain⟨f,g,a,i,rfl,h1,h2,h3,h4⟩:=i9 h;obtain⟨g,rfl⟩:∃ z,g=.str z:=by
  cases g with
  | str z=>exact⟨z,rfl⟩
  | _=>simp[bY]at h2
 obtain⟨a,rfl⟩:∃ z,a=.int z:=by
  cases a with
  | int z=>exact⟨z,rfl⟩
  | _=>simp[cK]at h3
 obtain⟨i,rfl⟩:∃ z,i=.int z:=by
  cases i with
  | int z=>exact⟨z,rfl⟩
  | _=>simp[cK]at h4
 cases rd with
 | @tup b xs _ e _ q=>
 cases q with
 | cons J q=>
 cases q with
 | cons F q=>
 cases q with
 | cons O q=>
 cases q with
 | cons U q=>
 cases q;cases J;cases F;cases O;cases U;simp only[cK,AX,decide_eq_true_eq]at h3 h4;exact⟨b,f,g,a,i,rfl,e,rfl,h1,h2,h3,h4⟩
theorem fN{H H':Hp}{p c:Ah}{ns:List Int}{a:Int}(F:cJ H p c ns a)(k:aQ p H H'):∀ b o,H b=some o→(∀ z r,o≠.dK (z :: r))→H' b=some o:=fun b o e hd=>k b o e fun y=>by
 obtain⟨⟨l,_,e'⟩,_,_,_⟩:=F;rw[y,e']at e;cases e;exact hd _ _ rfl
abbrev Kp(H H':Hp):Prop:=∀ b o,H b=some o→(∀ kv r,o≠.dK (kv :: r))→H' b=some o
theorem Kp.tup{H H':Hp}(k:Kp H H'){b:Ah}{xs:List V}(e:H b=some (.tup xs)):H' b=some (.tup xs):=k _ _ e (fun _ _ z=>nomatch z)
theorem Kp.lst{H H':Hp}(k:Kp H H'){b:Ah}{xs:List V}(e:H b=some (.lst xs)):H' b=some (.lst xs):=k _ _ e (fun _ _ z=>nomatch z)
structure aKV(d:Aj):Prop where
 no:cR (dB 1 d)=false
 ok:OkD 5000 2 d
theorem kQ{z:List Aj}(h:yK z):∀ d∈z,OkD 5000 2 d:=fun d hd=>(h d hd).2.1.mono (by decide) (by decide)
theorem l7:∀{z:List Aj},yK z→Be z=false
 | [],_=>rfl
 | d :: r,h=>by
  show(d.hasDict || Be r)=false;rw[(h d AF).2.2,l7 fun e F=>h e (AK _ F)];rfl
inductive o6(vs:List V)(H:Hp)(Q:VK)(u3_:XK):Prop
 | mk (p c:Ah) (ns:List Int) (a:Int) (t:Ah) (lds:List Aj) (sp:Ah) (ss:List Str) (q0:vs=[.ref p,.ref t,.ref sp]) (q1:cJ H p c ns a) (q2:a≤700000) (q3:aJ2 H t lds) (q4:H sp=some (.lst (ss.map V.str))) (q5:(∀ z∈ss,bW z=true)) (q6:9≤ss.length) (q7:ss.length≤78) (q8:∀(x:V) (a':Int) (H':Hp),uW H' x→Shw 50000 4 H' x→a≤a'→a'≤a + 10→cJ H' p c ns a'→aQ p H H'→Q x H'):o6 vs H Q u3_
def uX:Sp:=fun vs H Q u3_=>o6 vs H Q u3_
theorem yO{H:Hp}{r:Ah}{xs:List V}{z:List Aj}{v:V}{e:Aj}(j F:Nat)(W:j≤F)(h:H r=some (.tup (xs.take j ++ [v] ++ xs.drop F)))(J:cF false H xs z)(fl:yK z)(l8:z.length≤8)(O:RdV true H v e)(ok:OkD 5000 2 e)
  (no:mZ (dB 2 (.tuple (z.take j ++ e :: z.drop F)))=false):uW H (.ref r)∧Shw 50000 4 H (.ref r):=by
 have rt:=J.flip (l7 fl) true;have U:=J.len;have rd:RdV true H (.ref r) (.tuple (z.take j ++ [e] ++ z.drop F)):=
  .tup h (by rw[Ak,Ak,Am,AZ];show _ + 1 + _≤1000;omega) (((rt.take j).app (.cons O .nil)).app (rt.drop F))
 rw[De]at rd;refine⟨⟨true,_,.inl rd,no⟩,_,.inr rd,(OkD.tuple (b:=5000) (k:=2) (n:=9) (fun d hd=>?_) ?_).mono (by decide) (by decide)⟩
 ·rcases Az.mp hd with hd | hd
  ·exact kQ fl d (Bv hd)
  ·rcases Al.mp hd with rfl | hd
   ·exact ok
   ·exact kQ fl d (Dn hd)
 ·rw[Ak,Ak,Am,AZ];show _ + (1 + _)≤9;omega
def aHU(z:Nat)(e:Aj):Prop:=(z=0∧bY e=false)∨(z=1∧bY e=false)∨(z=2∧cK 1 1000000 e=false)∨(z=3∧cK 0 10000000 e=false)
theorem aGd{f g:Str}{A i:Int}{z:Nat}{e:Aj}(h:aHU z e):cR (dB 1 (.tuple ([AW f,.str g,.int A,.int i].take z ++ e :: [AW f,.str g,.int A,.int i].drop (z + 1))))=false:=by
 rcases h with⟨rfl,h⟩ | ⟨rfl,h⟩ | ⟨rfl,h⟩ | ⟨rfl,h⟩
 ·show(bY e && _ && _ && _)=false;rw[h];rfl
 ·show(_ && bY e && _ && _)=false;rw[h];simp
 ·show(_ && _ && cK 1 1000000 e && _)=false;rw[h];simp
 ·show(_ && _ && _ && cK 0 10000000 e)=false;rw[h];simp
theorem yP{H H':Hp}(s:aY H H'){L:Ah}(n:H' L=none):H L=none:=by
 cases e:H L with
 | none=>rfl
 | some o=>rw[s _ _ e]at n;cases n
theorem iA{H H':Hp}(s:aY H H'){L:Ah}(n:H L=none)(o:HO):aY H (upd H' L o):=fun b o' e=>by
 rw[aS (bE e n)];exact s _ _ e
theorem aGe{z:List Aj}{j:Nat}{f g g':Str}{A A' i F:Int}(h:z[j]?=some (g9 f g A i)):mZ (dB 2 (.tuple (z.take j ++ .tuple [.str f,.str g',.int A',.int F] :: z.drop j)))=false:=by
 refine aHk fun hn=>?_;obtain⟨hj,e⟩:=AR.mp h;rw[List.drop_eq_getElem_cons hj,e,AS,A3,A3,AS,A3,A3]at hn;have h2:=(Dd.mp hn).2.1;exact(CP.mp h2).1 AF
theorem aGf{w:Str}(h:bW w=true):OkD 5000 2 (g9 w "a" 1 1):=by
 refine(OkD.tuple (b:=300) (k:=1) (n:=4) (fun y z=>?_) (by show 4≤4;decide)).mono (by decide) (by decide);simp only[Al,AA,or_false]at z;rcases z with rfl | rfl | rfl | rfl
 ·exact(OkD.name h).mono (by decide) (by decide)
 all_goals exact⟨by decide,by decide,by decide⟩
theorem OkD.dict1{b k:Nat}{z:Str}{d:Aj}(hz:OkD b k (.str z))(h:OkD b k d):OkD (2 * b + 6) (k + 1) (.dict [(.str z,d)]):=by
 refine⟨?_,?_,?_⟩
 ·show((AW z).showable && d.showable && true)=true;rw[hz.sh,h.sh];rfl
 ·show max (max ((AW z).depth) d.depth) 0 + 1≤k + 1;have:=h.dp;have:=hz.dp;omega
 ·show(dictText [(AW z).shown ++ ": " ++ d.shown]).length≤_;unfold dictText;have U:(Bd "{").length=1:=by decide
  have W:(Bd "}").length=1:=by decide
  have O:(Bd ": ").length=2:=by decide
  have F:=EG (Bd ", ") [(AW z).shown ++ ": " ++ d.shown];have J:(Bd ", ").length=2:=by decide
  rw[J]at F;simp only[A3,Dt,Gn,List.sum_nil,AM,By,Co,O]at F;rw[Co,Co,U,W];have:=h.len;have:=hz.len;omega
theorem uY:bU ["_law_pen_here","_law_laying_here","_law_spare","_law_way","_law_at","_law_part","_law_spot","_law_odd","_law_some_here","_law_new","_law_more"] ["_law_pen_here","_law_laying_here","_law_spare"] (aO mV):=⟨rfl,rfl,rfl,by decide,rfl,by decide,by decide⟩
theorem aAT{f:Ah}{fd:AH}(F:Fun K "_law_no_fields" "_law_no_fields" mV f fd)(bN:mg "len"=none)(dn:mg "tuple"=none)
  (GT:Cl P w K mg base 1 "_law_take" ["_law_pen_here","_law_many"] gQ)
  :b8 P w K mg base CX0 2 f fd ["_law_pen_here","_law_laying_here","_law_spare"] uX:=by
 refine F.ok uY (fun vs H Q E h=>?_) (fun fB A outer s H vs Q E hr h=>?_)
 ·obtain⟨p,c,ns,a,t,lds,sp,ss,rfl,_⟩:=h;rfl
 ·obtain⟨p,c,ns,a,t,lds,sp,ss,rfl,hp,ha,hL,hsp,hss,s9,s78,k⟩:=h;have nd:=uY.nd;refine⟨_,(aJ (aZ (i:=3) nd rfl (AE rfl) (bC GT hr (aG (pv 0) (aG aI aF))))
   (aJ (aZ (i:=4) nd rfl (AE rfl) (bC GT hr (aG (pv 0) (aG (aP aW (by rfl) bN AI (aG (pv 1) aF)) aF))))
   (aJ (aZ (i:=5) nd rfl (AE rfl) (bZ cX (pv 1) (pv 4) Ig))
   (aJ (aZ (i:=6) nd rfl (AE rfl) (bC GT hr (aG (pv 0) (aG aI aF))))
   (aJ (cI (bK aEd (pv 3) aI (bX _)) (aJ (aZ (i:=7) nd rfl (AE rfl) (cW (aG (cW (aG aT (aG aT (aG aT (aG iB (aG aI aF)))))) (aG (cW (aG iB (aG aT (aG aT (aG (cA (aG aT aF)) aF))))) aF))))
    (aJ (jB (lM BA BY BX gB (pv 7) (aG (cW (aG aI (aG (aX dF (aX iC aI aI) aI) (aG gC (aG aT (aG (aHt aEb aI) (aG iB aF))))))) aF)))
    (aJ (jB (lM BA BY BX gB (pv 7) (aG (cW (aG (aHt aEb aI) (aG (aX dF (aX iC aI aI) aI) (aG gC (aG aT (aG iB (aG (cW (aG aI aF)) aF))))))) aF)))
    (aJ (aZ (i:=8) nd rfl (AE rfl) (bZ cH (pv 7) (pv 6) Ig))
    (aJ (aZ (i:=9) nd rfl (AE rfl) (aX fV (aX fV (cB eI (pv 5) cN (cO (pv 6))) (cA (aG (bZ cH (pv 8) (bC GT hr (aG (pv 0) (aG (aP aW (by rfl) bN AI (aG (pv 8) aF)) aF))) Ig) aF))) (cB eI (pv 5) (cO (aX dF (pv 6) aI)) cN)))
    (aN (aV (aX fV (aX fV (cB eI (pv 1) cN (cO (pv 4))) (cA (aG (pv 9) aF))) (cB eI (pv 1) (cO (aX dF (pv 4) aI)) cN))))))))) bH)
   (aJ (cI (bK dM (pv 3) aI (bX _)) (aN (aV (aX fV (aX fV (cB eI (pv 1) cN (cO (pv 4))) (cA (aG (aX fV (cA (aG (bZ cX (pv 5) aI Ig) aF)) (cB eI (bZ cX (pv 1) aI Ig) (cO aI) cN)) aF))) (cB eI (pv 1) (cO (pv 4)) cN)))) bH)
   (aJ (cI (bK dM (pv 3) aI (bX _)) (aJ (aZ (i:=10) nd rfl (AE rfl) (cY c0 (by rfl) dn (by kernel_rfl) (aG (fU (N:=["_law_name"]) (src:=[none]) (osc:=aO mV) (oN:=["_law_pen_here","_law_laying_here","_law_spare","_law_way","_law_at","_law_part","_law_spot","_law_odd","_law_some_here","_law_new","_law_more"]) ⟨by rfl,by decide,by decide,by decide,rfl,by rfl⟩ (jC (pv 2)) (fun cl s H fp fc C=>⟨bJ (i:=0) (show(["_law_name"]:List Str).Nodup by decide) rfl (AE rfl),dY,cA (aG (pv 0) (aG aT (aG aI (aG aI aF))))⟩)) aF)))
    (aN (aV (cB eI (aX fV (pv 1) (pv 10)) cN (cO aI))))) bH)
   (aJ (cI (bK dM (pv 3) aI (bX _)) (aJ (aZ (i:=9) nd rfl (AE rfl) (bZ cH (cW (aG (cB eI (pv 5) cN (cO aI)) (aG (aX fV (pv 5) (cA (aG aI aF))) (aG (bZ cX (pv 5) aI Ig) (aG iB (aG (cA aF) aF)))))) (bC GT hr (aG (pv 0) (aG aI aF))) Ig))
    (aN (aV (aX fV (aX fV (cB eI (pv 1) cN (cO (pv 4))) (cA (aG (pv 9) aF))) (cB eI (pv 1) (cO (aX dF (pv 4) aI)) cN))))) bH)
   (aN (aV (bZ cH (cW (aG (cA aF) (aG (cW aF) (aG iB (aG gC (aG aT (aG iZ (aG (xG (lN (bZ cX (pv 5) aI Ig) (pv 5) xF) rfl rfl (by simp) (by decide)) (aG aI aF))))))))) (bC GT hr (aG (pv 0) (aG aI aF))) Ig))))))))))),?_⟩
  obtain⟨xs,hxs,rxs⟩:=hL.ex;have fy:=rxs.len;have l1:=hL.l1;have l8:=hL.l8;refine⟨_,rfl,p,c,ns,a,_,rfl,hp,by omega,by decide,by decide,fun wy a1 H1 w0 w1 fz fq cL k1=>?_⟩;have K1:Kp _ _:=fN hp k1;dsimp only[cC];refine⟨_,rfl,_,rfl,t,xs,rfl,.inr (bG (K1.tup hxs)),p,c,ns,a1,_,rfl,cL,by omega,by omega,by omega,fun at' a2 H2 t0 t1 fe e8 cx k2=>?_⟩;have k2:=k1.trans k2;have K2:Kp _ _:=fN hp k2;dsimp only[cC];obtain⟨j,rfl⟩:∃ j:Nat,at'=(j:Int):=⟨at'.toNat,by omega⟩
  obtain⟨x,hx⟩:∃ x,xs[j]?=some x:=⟨_,Af (by omega)⟩
  obtain⟨d,hd,rd⟩:=rxs.at hx;obtain⟨b,f,g,A,i,rfl,eb,rfl,nf,ng,hA,hi⟩:=aAS rd (hL.fl d (Ax hd)).1;refine⟨_,rfl,_,rfl,t,xs,_,_,rfl,rfl,bG (K2.tup hxs),bS hx,_,rfl,p,c,ns,a2,_,rfl,cx,by omega,by decide,by decide,fun so a3 H3 s0 s1 fj fb ag k3=>?_⟩;have k3:=k2.trans k3;have K3:Kp _ _:=fN hp k3;have aw:=K3.tup hxs;have aB:=K3.tup eb;have bj:=rxs.keep K3;clear k1 k2 K1 K2 cL cx;obtain⟨z,rfl⟩:∃ z:Nat,so=(z:Int):=⟨so.toNat,by omega⟩
  dsimp only[cC];refine⟨_,rfl,_,_,rfl,rfl,_,rfl,dH (fun g1=>?_) fun g1=>?_⟩
  ·skip
   refine⟨zZ5,fun Y ee=>?_⟩;have bv:=aK (o:=.lst [V.str "A",.str "",.str "abcdefghi",.non,.int 7]) ee;have bx:=aH (H:=H3) (a:=Y) (o:=.lst [V.str "A",.str "",.str "abcdefghi",.non,.int 7]);generalize upd H3 Y (.lst [V.str "A",.str "",.str "abcdefghi",.non,.int 7])=H4 at bv bx ⊢;refine⟨zZ1,fun q nq=>?_⟩;have Sq:=aK (o:=.tup [V.str "a"]) nq;have eq:=aH (H:=H4) (a:=q) (o:=.tup [V.str "a"]);generalize upd H4 q (.tup [V.str "a"])=H5 at Sq eq ⊢;refine⟨zZ4,fun U d6=>?_⟩;have aj:=aK (o:=.lst [V.non,.str "a b",.str "1",.ref q]) d6;have bz:=aH (H:=H5) (a:=U) (o:=.lst [V.non,.str "a b",.str "1",.ref q]);generalize upd H5 U (.lst [V.non,.str "a b",.str "1",.ref q])=H6 at aj bz ⊢;refine⟨zZ2,fun L nL=>?_⟩;have SL:=aK (o:=.lst [V.ref Y,.ref U]) nL;have eL:=aH (H:=H6) (a:=L) (o:=.lst [V.ref Y,.ref U]);generalize upd H6 L (.lst [V.ref Y,.ref U])=H7 at SL eL ⊢;dsimp only[cC];refine⟨_,rfl,.inl ⟨rfl,_,aU eL⟩,?_⟩;have cS:H3 L=none:=yP ((bv.trans Sq).trans aj) nL;have db:Y≠L:=bE (aj _ _ (Sq _ _ bx)) nL;have dw:q≠L:=bE (aj _ _ eq) nL;have dl:U≠L:=bE bz nL;have e1:=SL _ _ (aj _ _ (Sq _ _ bx));have eq:=SL _ _ (aj _ _ eq);have e2:=SL _ _ bz;have S7:=((bv.trans Sq).trans aj).trans SL;clear bx bz bv Sq aj SL;refine⟨_,_,rfl,rfl,⟨by decide,by decide,by decide⟩,_,_,rfl,rfl,_,rfl,zZ6,fun D3 n3=>?_⟩;dsimp only;have s3:=aK (o:=.lst [V.int 0,.int (10 ^ CD 6 + 1),.bl true,.str "1",.int (-1),.non]) n3;have e3:=aH (H:=H7) (a:=D3) (o:=.lst [V.int 0,.int (10 ^ CD 6 + 1),.bl true,.str "1",.int (-1),.non]);refine⟨L,_,_,rfl,rfl,s3 _ _ eL,by rw[Cz];show(2:Nat) < 16777216;decide,?_⟩
   have d3:D3≠L:=fun y=>by rw[y,eL]at n3;cases n3
   have e1:=s3 _ _ e1;have e2:=s3 _ _ e2;have eq:=s3 _ _ eq;have S8:=iA (S7.trans s3) cS (.lst ([V.ref Y,.ref U] ++ [V.ref D3]));generalize upd H7 D3 _=aE at e1 e2 e3 eq S8 ⊢;have ai:=aH (H:=aE) (a:=L) (o:=.lst ([V.ref Y,.ref U] ++ [V.ref D3]));rw[← aS (H:=aE) (o:=.lst ([V.ref Y,.ref U] ++ [V.ref D3])) db]at e1;rw[← aS (H:=aE) (o:=.lst ([V.ref Y,.ref U] ++ [V.ref D3])) dl]at e2;rw[← aS (H:=aE) (o:=.lst ([V.ref Y,.ref U] ++ [V.ref D3])) d3]at e3;rw[← aS (H:=aE) (o:=.lst ([V.ref Y,.ref U] ++ [V.ref D3])) dw]at eq;generalize upd aE L (.lst ([V.ref Y,.ref U] ++ [V.ref D3]))=H8 at e1 e2 e3 eq ai S8 ⊢;refine⟨_,rfl,.inl ⟨rfl,_,aU ai⟩,_,rfl,_,_,rfl,rfl,⟨by decide,by decide,by decide⟩,_,_,rfl,rfl,zZ1,fun W nW=>?_⟩;dsimp only;have sW:=aK (o:=.lst [V.int 1]) nW;have eW:=aH (H:=H8) (a:=W) (o:=.lst [V.int 1]);generalize upd H8 W (.lst [V.int 1])=H9 at sW eW ⊢;refine⟨zZ6,fun D4 n4=>?_⟩;have s4:=aK (o:=.lst [V.int (-1),.int (10 ^ CD 7 + 1),.bl true,.str "1",.non,.ref W]) n4;have e4:=aH (H:=H9) (a:=D4) (o:=.lst [V.int (-1),.int (10 ^ CD 7 + 1),.bl true,.str "1",.non,.ref W]);have aD:=sW.trans s4;have d7:W≠L:=fun y=>by rw[y,ai]at nW;cases nW
   have ev:D4≠L:=fun y=>by rw[y,sW _ _ ai]at n4;cases n4
   have eg:=aD _ _ ai;have e1:=aD _ _ e1;have e2:=aD _ _ e2;have e3:=aD _ _ e3;have eq:=aD _ _ eq;have eW:=s4 _ _ eW;refine⟨L,_,_,rfl,rfl,eg,by rw[Cz];show(3:Nat) < 16777216;decide,?_⟩;have S9:=iA (S8.trans aD) cS (.lst ([V.ref Y,.ref U] ++ [V.ref D3] ++ [V.ref D4]));generalize upd H9 D4 _=ao at e1 e2 e3 e4 eq eW S9 ⊢;have ai:=aH (H:=ao) (a:=L) (o:=.lst ([V.ref Y,.ref U] ++ [V.ref D3] ++ [V.ref D4]));rw[← aS (H:=ao) (o:=.lst ([V.ref Y,.ref U] ++ [V.ref D3] ++ [V.ref D4])) db]at e1;rw[← aS (H:=ao) (o:=.lst ([V.ref Y,.ref U] ++ [V.ref D3] ++ [V.ref D4])) dl]at e2;rw[← aS (H:=ao) (o:=.lst ([V.ref Y,.ref U] ++ [V.ref D3] ++ [V.ref D4])) d3]at e3;rw[← aS (H:=ao) (o:=.lst ([V.ref Y,.ref U] ++ [V.ref D3] ++ [V.ref D4])) ev]at e4;rw[← aS (H:=ao) (o:=.lst ([V.ref Y,.ref U] ++ [V.ref D3] ++ [V.ref D4])) dw]at eq;rw[← aS (H:=ao) (o:=.lst ([V.ref Y,.ref U] ++ [V.ref D3] ++ [V.ref D4])) d7]at eW;generalize upd ao L (.lst ([V.ref Y,.ref U] ++ [V.ref D3] ++ [V.ref D4]))=da at e1 e2 e3 e4 eq eW ai S9 ⊢;obtain⟨Dz,O,ez,eDz,hv⟩:∃ Dz O,([V.ref Y,.ref U] ++ [V.ref D3] ++ [V.ref D4])[z]?=some (.ref Dz)∧da Dz=some (.lst O)∧O.length≤6∧O≠[]∧∀ v∈O,∃ e,RdV true da v e∧OkD 300 1 e∧aHU z e:=by
    have hz:z < 4:=by omega
    match z,hz with
    | 0,_=>exact⟨Y,_,rfl,e1,by show 5≤6;decide,by simp,fun v hv=>by
      simp only[Al,AA,or_false]at hv;rcases hv with rfl | rfl | rfl | rfl | rfl
      ·exact⟨_,.str _ (by decide),⟨by decide,by decide,by decide⟩,.inl ⟨rfl,by decide⟩⟩
      ·exact⟨_,.str _ (by decide),⟨by decide,by decide,by decide⟩,.inl ⟨rfl,by decide⟩⟩
      ·exact⟨_,.str _ (by decide),⟨by decide,by decide,by decide⟩,.inl ⟨rfl,by decide⟩⟩
      ·exact⟨_,.non,⟨by decide,by decide,by decide⟩,.inl ⟨rfl,rfl⟩⟩
      ·exact⟨_,.int _,⟨by decide,by decide,by decide⟩,.inl ⟨rfl,rfl⟩⟩⟩
    | 1,_=>exact⟨U,_,rfl,e2,by show 4≤6;decide,by simp,fun v hv=>by
      simp only[Al,AA,or_false]at hv;rcases hv with rfl | rfl | rfl | rfl
      ·exact⟨_,.non,⟨by decide,by decide,by decide⟩,.inr (.inl ⟨rfl,rfl⟩)⟩
      ·exact⟨_,.str _ (by decide),⟨by decide,by decide,by decide⟩,.inr (.inl ⟨rfl,by decide⟩)⟩
      ·exact⟨_,.str _ (by decide),⟨by decide,by decide,by decide⟩,.inr (.inl ⟨rfl,by decide⟩)⟩
      ·exact⟨_,.tup eq (by decide) (.cons (.str _ (by decide)) .nil),⟨by decide,by decide,by decide⟩,.inr (.inl ⟨rfl,rfl⟩)⟩⟩
    | 2,_=>exact⟨D3,_,rfl,e3,by show 6≤6;decide,by simp,fun v hv=>by
      simp only[Al,AA,or_false]at hv;rcases hv with rfl | rfl | rfl | rfl | rfl | rfl
      ·exact⟨_,.int _,⟨by decide,by decide,by decide⟩,.inr (.inr (.inl ⟨rfl,by decide⟩))⟩
      ·exact⟨_,.int _,⟨by decide,by decide,by decide⟩,.inr (.inr (.inl ⟨rfl,by decide⟩))⟩
      ·exact⟨_,.bl _,⟨by decide,by decide,by decide⟩,.inr (.inr (.inl ⟨rfl,rfl⟩))⟩
      ·exact⟨_,.str _ (by decide),⟨by decide,by decide,by decide⟩,.inr (.inr (.inl ⟨rfl,rfl⟩))⟩
      ·exact⟨_,.int _,⟨by decide,by decide,by decide⟩,.inr (.inr (.inl ⟨rfl,by decide⟩))⟩
      ·exact⟨_,.non,⟨by decide,by decide,by decide⟩,.inr (.inr (.inl ⟨rfl,rfl⟩))⟩⟩
    | 3,_=>exact⟨D4,_,rfl,e4,by show 6≤6;decide,by simp,fun v hv=>by
      simp only[Al,AA,or_false]at hv;rcases hv with rfl | rfl | rfl | rfl | rfl | rfl
      ·exact⟨_,.int _,⟨by decide,by decide,by decide⟩,.inr (.inr (.inr ⟨rfl,by decide⟩))⟩
      ·exact⟨_,.int _,⟨by decide,by decide,by decide⟩,.inr (.inr (.inr ⟨rfl,by decide⟩))⟩
      ·exact⟨_,.bl _,⟨by decide,by decide,by decide⟩,.inr (.inr (.inr ⟨rfl,rfl⟩))⟩
      ·exact⟨_,.str _ (by decide),⟨by decide,by decide,by decide⟩,.inr (.inr (.inr ⟨rfl,rfl⟩))⟩
      ·exact⟨_,.non,⟨by decide,by decide,by decide⟩,.inr (.inr (.inr ⟨rfl,rfl⟩))⟩
      ·exact⟨_,.lst rfl eW (by decide) (.cons (.int 1) .nil),⟨by decide,by decide,by decide⟩,.inr (.inr (.inr ⟨rfl,rfl⟩))⟩⟩
   clear e1 e2 e3 e4 eq eW
   try dsimp only[cC]
   obtain⟨hv6,hvn,hv⟩:=hv;have e7:0 < O.length:=List.length_pos_iff.mpr hvn;refine⟨_,rfl,_,rfl,L,_,_,_,rfl,rfl,aU ai,bS ez,?_⟩;dsimp only[cC];have bI:=S9 _ _ aB;have bM:=ag.same S9;refine⟨_,rfl,_,rfl,_,rfl,b,_,rfl,bI,fun r1 fw ar f1=>?_⟩;refine⟨_,rfl,_,rfl,_,rfl,Dz,O,rfl,.inl (aU (ar _ _ eDz)),p,c,ns,a3,_,rfl,bM.same ar,by omega,by omega,by omega,fun r a4 fL r0 dt cy dg ea k4=>?_⟩;obtain⟨m,rfl⟩:∃ m:Nat,r=(m:Int):=⟨r.toNat,by omega⟩
   obtain⟨v,hm⟩:∃ v,O[m]?=some v:=⟨_,Af (by omega)⟩
   obtain⟨e,rv,oke,odd⟩:=hv v (Ax hm);have bD:Kp _ _:=fN (bM.same ar) k4;refine⟨Dz,O,_,v,rfl,rfl,aU (bD.lst (ar _ _ eDz)),bS hm,zZ1,fun q1 bo=>?_⟩;have ae:=aK (o:=.tup [v]) bo;rw[gM (α:=Nat)]at f1;refine⟨r1,q1,_,_,rfl,rfl,ae _ _ (bD.tup f1),aH,(by rw[Am];show _ + 1≤1000000;omega),fun r2 ff aA f2=>?_⟩;have dc:=aA _ _ (ae _ _ (bD.tup (ar _ _ bI)));refine⟨_,rfl,_,rfl,_,_,rfl,rfl,_,rfl,b,_,rfl,dc,fun r3 e9 bf f3=>?_⟩;rw[show(z:Int) + 1=((z + 1:Nat):Int) by omega,eQ (α:=Nat)]at f3;refine⟨r2,r3,_,_,rfl,rfl,bf _ _ f2,f3,(by rw[Ak,Am,AZ];show _ + 1 + _≤1000000;simp only[AM,By];omega),fun r4 J em f4=>?_⟩;dsimp only[cC];have sB:=((ae.trans aA).trans bf).trans em;have ak:aQ p H J:=(((k3.same S9).same ar).trans k4).same sB;have an:=ea.same sB;have af:Kp _ _:=fN hp ak;have eu:RdV true J v e:=((rv.same ar).keep bD).same sB;have ay:RdV true J (.ref r4) (.tuple ([AW f,.str g,.int A,.int i].take z ++ [e] ++ [AW f,.str g,.int A,.int i].drop (z + 1))):=by
    have rb:cF true J [V.str f,.str g,.int A,.int i] [AW f,.str g,.int A,.int i]:=.cons (.str _ (by have:=dA nf;omega)) (.cons (.str _ (by have:=dA ng;omega)) (.cons (.int _) (.cons (.int _) .nil)));exact .tup f4 (by rw[Ak,Ak,Am,AZ];show _ + 1 + _≤1000;simp only[AM,By];omega) (((rb.take z).app (.cons eu .nil)).app (rb.drop (z + 1)))
   rw[De]at ay;have cb:=aGd (f:=f) (g:=g) (A:=A) (i:=i) odd;have hok:OkD 5000 2 (.tuple ([AW f,.str g,.int A,.int i].take z ++ e :: [AW f,.str g,.int A,.int i].drop (z + 1))):=by
    refine(OkD.tuple (b:=300) (k:=1) (n:=5) (fun d' cg=>?_) (by simp only[Ak,Am,AM,AZ,By];omega)).mono (by decide) (by decide);have aa:∀ y∈[AW f,.str g,.int A,.int i],OkD 300 1 y:=fun y hy=>by
     simp only[Al,AA,or_false]at hy;rcases hy with rfl | rfl | rfl | rfl
     ·exact(OkD.name nf).mono (by decide) (by decide)
     ·exact(OkD.name ng).mono (by decide) (by decide)
     ·exact(OkD.int (by omega) (by omega)).mono (by decide) (by decide)
     ·exact(OkD.int (by omega) (by omega)).mono (by decide) (by decide)
    rcases Az.mp cg with h | h
    ·exact aa _ (Bv h)
    ·rcases Al.mp h with rfl | h
     ·exact oke
     ·exact aa _ (Dn h)
   refine⟨_,rfl,_,rfl,_,rfl,t,xs,rfl,af.tup hxs,fun u1 ed ah h1=>?_⟩;refine⟨_,rfl,zZ1,fun q2 be=>?_⟩;have Z:=aK (o:=.tup [V.ref r4]) be;rw[gM (α:=Nat)]at h1;refine⟨u1,q2,_,_,rfl,rfl,Z _ _ h1,aH,(by rw[Am];show _ + 1≤1000000;omega),fun u2 ei bg h2=>?_⟩;refine⟨_,rfl,_,rfl,_,_,rfl,rfl,_,rfl,t,xs,rfl,bg _ _ (Z _ _ (ah _ _ (af.tup hxs))),fun u3 ej bc h3=>?_⟩;rw[show(j:Int) + 1=((j + 1:Nat):Int) by omega,eQ (α:=Nat)]at h3;refine⟨u2,u3,_,_,rfl,rfl,bc _ _ h2,h3,(by rw[Ak,Am,AZ];show _ + 1 + _≤1000000;omega),fun u4 et bR h4=>?_⟩;have sC:=(((ah.trans Z).trans bg).trans bc).trans bR;obtain⟨z1,z2⟩:=yO j (j + 1) (by omega) h4 ((rxs.keep af).same sC) hL.fl l8 (ay.same sC) hok (aCY cb);exact k _ _ _ z1 z2 (by omega) (by omega) (an.same sC) (ak.same sC)
  refine⟨_,rfl,rfl,_,rfl,dH (fun g2=>?_) fun g2=>?_⟩
  ·obtain⟨x0,hx0⟩:∃ x,xs[0]?=some x:=⟨_,Af (by omega)⟩
   obtain⟨d0,hd0,rd0⟩:=bj.at hx0;obtain⟨b0,f0,g0,A0,i0,rfl,eb0,rfl,nf0,ng0,hA0,hi0⟩:=aAS rd0 (hL.fl d0 (Ax hd0)).1;refine⟨_,rfl,_,rfl,_,rfl,t,xs,rfl,aw,fun u1 H4 s4 h1=>?_⟩;rw[gM (α:=Nat)]at h1;refine⟨_,rfl,b,_,0,_,rfl,rfl,bG (s4 _ _ aB),bS (j:=0) rfl,zZ1,fun q1 bo=>?_⟩;have ae:=aK (o:=.tup [V.str f]) bo;have au:=s4.trans ae;refine⟨_,rfl,t,xs,0,_,rfl,rfl,bG (au _ _ aw),bS (j:=0) hx0,_,rfl,b0,_,rfl,au _ _ eb0,fun u2 H5 s5 h2=>?_⟩;rw[show dQ [V.str f0,.str g0,.int A0,.int i0] (some 1) none=[V.str g0,.int A0,.int i0] from eQ (α:=Nat) [V.str f0,.str g0,.int A0,.int i0] 1]at h2;refine⟨q1,u2,_,_,rfl,rfl,s5 _ _ aH,h2,(by show 1 + 3≤1000000;decide),fun u3 H6 s6 h3=>?_⟩;refine⟨zZ1,fun q2 be=>?_⟩;have Z:=aK (o:=.tup [V.ref u3]) be;have ah:=((au.trans s5).trans s6).trans Z;have ec:=((ae.trans s5).trans s6).trans Z;refine⟨u1,q2,_,_,rfl,rfl,ec _ _ h1,aH,(by rw[Am];show _ + 1≤1000000;omega),fun u4 H7 s7 h4=>?_⟩;refine⟨_,rfl,_,rfl,_,rfl,t,xs,rfl,s7 _ _ (ah _ _ aw),fun u5 H8 s8 h5=>?_⟩;rw[eQ (α:=Nat)]at h5;refine⟨u4,u5,_,_,rfl,rfl,s8 _ _ h4,h5,(by rw[Ak,Am,AZ];show _ + 1 + _≤1000000;omega),fun u6 H9 dv h6=>?_⟩;have sC:=((ah.trans s7).trans s8).trans dv;have eC:=dv _ _ (s8 _ _ (s7 _ _ (Z _ _ h3)));have ay:RdV true H9 (.ref u3) (.tuple [.str f,.str g0,.int A0,.int i0]):=.tup eC (by show 4≤1000;decide) (.cons (.str _ (by have:=dA nf;omega)) (.cons (.str _ (by have:=dA ng0;omega)) (.cons (.int _) (.cons (.int _) .nil))));have hok:OkD 5000 2 (.tuple [.str f,.str g0,.int A0,.int i0]):=by
    refine(OkD.tuple (b:=300) (k:=1) (n:=4) (fun y hy=>?_) (by show 4≤4;decide)).mono (by decide) (by decide);simp only[Al,AA,or_false]at hy;rcases hy with rfl | rfl | rfl | rfl
    ·exact(OkD.name nf).mono (by decide) (by decide)
    ·exact(OkD.name ng0).mono (by decide) (by decide)
    ·exact(OkD.int (by omega) (by omega)).mono (by decide) (by decide)
    ·exact(OkD.int (by omega) (by omega)).mono (by decide) (by decide)
   obtain⟨z1,z2⟩:=yO j j (Ap _) h6 (bj.same sC) hL.fl l8 ay hok (aGe hd);exact k _ _ _ z1 z2 (by omega) (by omega) (ag.same sC) (k3.same sC)
  refine⟨_,rfl,rfl,_,rfl,dH (fun g3=>?_) fun g3=>?_⟩
  ·have bF:=K3.lst hsp;refine⟨_,rfl,sp,rfl,⟨_,aU bF⟩,?_⟩;refine jY (K:=K) (xs:=ss.map V.str) (fun n ys σ H'=>aY H3 H'∧cF true H' ys ((ss.take n).map fun w=>g9 w "a" 1 1)∧∃ o,σ=[o]) ⟨aY.refl H3,by rw[Gd];exact .nil,none,rfl⟩ (aM (by rw[Ab];omega)) (fun n ys σ H' p=>by have:=p.2.1.len;rw[Ab,Am]at this;omega) (fun n ys σ H' p=>aU (p.1 _ _ bF)) ?_ ?_
   ·rintro n y ys σ H' hy ⟨S,bd,o,rfl⟩;obtain⟨w',hw,rfl⟩:∃ w',ss[n]?=some w'∧V.str w'=y:=by
     rw[AC]at hy;exact CG.mp hy
    dsimp only[cC];refine c8 ⟨_,rfl,zZ4,fun q hq=>?_⟩;have sq:=aK (o:=.tup [V.str w',.str "a",.int 1,.int 1]) hq;refine⟨S.trans sq,?_,_,rfl⟩;rw[Bn,hw,AS];exact(bd.same sq).app (.cons (.tup aH (by show 4≤1000;decide) (.cons (.str _ (by have:=dA (hss w' (Ax hw));omega)) (.cons (.str _ (by decide)) (.cons (.int 1) (.cons (.int 1) .nil))))) .nil)
   rintro ys σ H' ⟨S,bd,o,rfl⟩ D hD;rw[Ab,B8]at bd;have eo:=bd.len;rw[Ab]at eo;have sD:=aK (o:=.lst ys) hD;refine⟨D,ys,rfl,.inl ⟨aU aH,fun T hT=>?_⟩⟩;have sT:=aK (o:=.tup ys) hT;have eT:=aH (H:=upd H' D (.lst ys)) (a:=T) (o:=.tup ys);have s5:=(S.trans sD).trans sT;have dq:=(bd.same sD).same sT;generalize upd (upd H' D (.lst ys)) T (.tup ys)=H5 at s5 dq eT ⊢;dsimp only[cC];refine⟨_,rfl,_,rfl,t,T,_,_,rfl,rfl,s5 _ _ aw,eT,(by show _≤1000000;omega),fun u1 H6 s6 h1=>?_⟩;refine⟨_,rfl,u1,_,rfl,h1,fun u2 H7 s7 h2=>?_⟩;rw[show dQ (xs ++ ys) none (some 9)=(xs ++ ys).take 9 from gM (α:=Nat) _ 9]at h2;have sC:=(s5.trans s6).trans s7;have cD:RdV true H7 (.ref u2) (.tuple ((lds ++ ss.map fun w=>g9 w "a" 1 1).take 9)):=
    .tup h2 (by rw[Am];omega) ((((bj.same sC).flip (l7 hL.fl) true).app ((dq.same s6).same s7)).take 9)
   refine k _ _ _ ⟨true,_,.inl cD,aGc ?_⟩ ⟨_,.inr cD,(OkD.tuple (b:=5000) (k:=2) (n:=9) (fun d' cg=>?_) (by rw[Am];omega)).mono (by decide) (by decide)⟩ (by omega) (by omega) (ag.same sC) (k3.same sC)
   ·rw[Am,Ak,Ab];omega
   ·rcases Az.mp (Bv cg)with h | h
    ·exact kQ hL.fl _ h
    ·obtain⟨w',hw,rfl⟩:=Bb.mp h;exact aGf (hss w' hw)
  refine⟨_,rfl,rfl,_,rfl,dH (fun g4=>?_) fun g4=>?_⟩
  ·refine⟨_,rfl,_,rfl,b,_,rfl,aB,fun c1 H4 s4 h1=>?_⟩;rw[show dQ [V.str f,.str g,.int A,.int i] none (some 3)=[V.str f,.str g,.int A] from gM (α:=Nat) [V.str f,.str g,.int A,.int i] 3]at h1;refine⟨_,rfl,zZ1,fun q1 bo=>?_⟩;have ae:=aK (o:=.tup [V.int 1]) bo;have au:=s4.trans ae;refine⟨b,q1,_,_,rfl,rfl,au _ _ aB,aH,(by show 4 + 1≤1000000;decide),fun c2 H5 s5 h2=>?_⟩;refine⟨_,rfl,b,_,0,_,rfl,rfl,bG (s5 _ _ (au _ _ aB)),bS (j:=0) rfl,zZ0,fun c3 n3=>⟨zZ5,fun L nL=>?_⟩⟩;have aC:=aK (o:=.tup ([]:List V)) n3;have sL:=aK (o:=.lst [V.ref c1,.ref c2,.str f,.non,.ref c3]) nL;have dr:=aC.trans sL;have du:=s5.trans dr;have eL:=aH (H:=upd H5 c3 (.tup ([]:List V))) (a:=L) (o:=.lst [V.ref c1,.ref c2,.str f,.non,.ref c3]);have de:=du _ _ (ae _ _ h1);have cz:=dr _ _ h2;have df:=sL _ _ (aH (H:=H5) (a:=c3) (o:=.tup ([]:List V)));have sA:=au.trans du;generalize upd (upd H5 c3 (.tup ([]:List V))) L (.lst [V.ref c1,.ref c2,.str f,.non,.ref c3])=H6 at eL de cz df sA ⊢;refine⟨_,rfl,p,c,ns,a3,_,rfl,ag.same sA,by omega,by decide,by decide,fun r a4 J r0 dt cy dg an k4=>?_⟩;have K6:Kp _ _:=fN (ag.same sA) k4;have ak:aQ p H J:=(k3.same sA).trans k4;have af:Kp _ _:=fN hp ak;have cc:f.length≤1000:=by have:=dA nf;omega
   have cv:g.length≤1000:=by have:=dA ng;omega
   have aa:∀ y∈[AW f,.str g,.int A,.int i,.int 1],OkD 300 1 y:=fun y hy=>by
    simp only[Al,AA,or_false]at hy;rcases hy with rfl | rfl | rfl | rfl | rfl
    ·exact(OkD.name nf).mono (by decide) (by decide)
    ·exact(OkD.name ng).mono (by decide) (by decide)
    ·exact(OkD.int (by omega) (by omega)).mono (by decide) (by decide)
    ·exact(OkD.int (by omega) (by omega)).mono (by decide) (by decide)
    ·exact⟨by decide,by decide,by decide⟩
   obtain⟨v,e,hv,rv,cb,hok⟩:∃ v e,atI [V.ref c1,.ref c2,.str f,.non,.ref c3] r=some v∧RdV true J v e∧cR (dB 1 e)=false∧OkD 5000 2 e:=by
    have eD:r=0∨r=1∨r=2∨r=3∨r=4:=by omega
    rcases eD with rfl | rfl | rfl | rfl | rfl
    ·exact⟨_,_,bS (j:=0) rfl,.tup (K6.tup de) (by show 3≤1000;decide) (.cons (.str _ cc) (.cons (.str _ cv) (.cons (.int A) .nil))),rfl,(OkD.tuple (b:=300) (k:=1) (n:=4) (fun y hy=>aa y (by simp only[Al,AA,or_false]at hy ⊢;rcases hy with h | h | h <;> simp[h])) (by show 3≤4;decide)).mono (by decide) (by decide)⟩
    ·exact⟨_,_,bS (j:=1) rfl,.tup (K6.tup cz) (by show 5≤1000;decide) (.cons (.str _ cc) (.cons (.str _ cv) (.cons (.int A) (.cons (.int i) (.cons (.int 1) .nil))))),rfl,(OkD.tuple (b:=300) (k:=1) (n:=5) aa (by show 5≤5;decide)).mono (by decide) (by decide)⟩
    ·exact⟨_,_,bS (j:=2) rfl,.str _ cc,rfl,(OkD.name nf).mono (by decide) (by decide)⟩
    ·exact⟨_,_,bS (j:=3) rfl,.non,rfl,⟨by decide,by decide,by decide⟩⟩
    ·exact⟨_,_,bS (j:=4) rfl,.tup (K6.tup df) (by show 0≤1000;decide) .nil,rfl,⟨by decide,by decide,by decide⟩⟩
   refine⟨L,_,_,v,rfl,rfl,aU (K6.lst eL),hv,?_⟩;dsimp only[cC];refine⟨_,rfl,_,rfl,_,rfl,t,xs,rfl,af.tup hxs,fun u1 ed ah h1=>?_⟩;refine⟨_,rfl,zZ1,fun q2 be=>?_⟩;have Z:=aK (o:=.tup [v]) be;rw[gM (α:=Nat)]at h1;refine⟨u1,q2,_,_,rfl,rfl,Z _ _ h1,aH,(by rw[Am];show _ + 1≤1000000;omega),fun u2 ei bg h2=>?_⟩;refine⟨_,rfl,_,rfl,_,_,rfl,rfl,_,rfl,t,xs,rfl,bg _ _ (Z _ _ (ah _ _ (af.tup hxs))),fun u3 ej bc h3=>?_⟩;rw[show(j:Int) + 1=((j + 1:Nat):Int) by omega,eQ (α:=Nat)]at h3;refine⟨u2,u3,_,_,rfl,rfl,bc _ _ h2,h3,(by rw[Ak,Am,AZ];show _ + 1 + _≤1000000;omega),fun u4 et bR h4=>?_⟩;have sC:=(((ah.trans Z).trans bg).trans bc).trans bR;obtain⟨z1,z2⟩:=yO j (j + 1) (by omega) h4 ((rxs.keep af).same sC) hL.fl l8 (rv.same sC) hok (aCY cb);exact k _ _ _ z1 z2 (by omega) (by omega) (an.same sC) (ak.same sC)
  refine⟨zZ0,fun c1 n1=>?_⟩;have dV:=aK (o:=.tup ([]:List V)) n1;have f1:=aH (H:=H3) (a:=c1) (o:=.tup ([]:List V));generalize upd H3 c1 (.tup ([]:List V))=H4 at dV f1 ⊢;refine⟨zZ0,fun c2 n2=>?_⟩;have b6:=aK (o:=.lst ([]:List V)) n2;have f2:=aH (H:=H4) (a:=c2) (o:=.lst ([]:List V));generalize upd H4 c2 (.lst ([]:List V))=H5 at b6 f2 ⊢;refine fun c3 n3=>?_;have aC:=aK (o:=.dK []) n3;have f3:=aH (H:=H5) (a:=c3) (o:=.dK []);generalize upd H5 c3 (.dK [])=H6 at aC f3 ⊢;refine fun c4 n4=>?_;have cj:=aK (o:=.dK []) n4;have aA:=(dV.trans b6).trans aC;refine⟨_,rfl,b,_,0,_,rfl,rfl,bG (cj _ _ (aA _ _ aB)),bS (j:=0) rfl,_,rfl,aH,[(Aw f,.ref b)],rfl,by show 1≤15;decide,zZ8,fun L nL=>?_⟩;have b3:H3 c4=none:=yP aA n4;have bf:aY H3 (upd (upd H6 c4 (.dK [])) c4 (.dK (gJ [] [(Aw f,V.ref b)]))):=iA (aA.trans cj) b3 _;have cf:aY H6 (upd (upd H6 c4 (.dK [])) c4 (.dK (gJ [] [(Aw f,V.ref b)]))):=iA cj n4 _;have f4:=aH (H:=upd H6 c4 (.dK [])) (a:=c4) (o:=.dK (gJ [] [(Aw f,V.ref b)]));have f3:=cf _ _ f3;have f2:=cf _ _ (aC _ _ f2);have f1:=cf _ _ (aC _ _ (b6 _ _ f1));generalize upd (upd H6 c4 (.dK [])) c4 (.dK (gJ [] [(Aw f,V.ref b)]))=H7 at bf f1 f2 f3 f4 nL ⊢;have sL:=aK (o:=.lst [V.ref c1,.ref c2,.non,.bl true,.str "a",.ref c3,.ref c4,.int 7]) nL;have eL:=aH (H:=H7) (a:=L) (o:=.lst [V.ref c1,.ref c2,.non,.bl true,.str "a",.ref c3,.ref c4,.int 7]);have f1:=sL _ _ f1;have f2:=sL _ _ f2;have f3:=sL _ _ f3;have f4:=sL _ _ f4;have sA:=bf.trans sL;generalize upd H7 L (.lst [V.ref c1,.ref c2,.non,.bl true,.str "a",.ref c3,.ref c4,.int 7])=H8 at sA f1 f2 f3 f4 eL ⊢
  refine⟨_,rfl,p,c,ns,a3,_,rfl,ag.same sA,by omega,by decide,by decide,fun r a4 J r0 dt cy dg an k4=>?_⟩;have K6:Kp _ _:=fN (ag.same sA) k4;have ak:aQ p H J:=(k3.same sA).trans k4;have af:Kp _ _:=fN hp ak;have ek:c4≠p:=by
   obtain⟨⟨l,_,e'⟩,_,_,_⟩:=ag;exact fun y=>by rw[y,e']at b3;cases b3
  have dj:J c4=some (.dK [(Aw f,V.ref b)]):=k4 _ _ f4 ek;obtain⟨v,hv,z1,z2⟩:∃ v,atI [V.ref c1,.ref c2,.non,.bl true,.str "a",.ref c3,.ref c4,.int 7] r=some v∧uW J v∧Shw 50000 4 J v:=by
   have ef:r=0∨r=1∨r=2∨r=3∨r=4∨r=5∨r=6∨r=7:=by omega
   rcases ef with rfl | rfl | rfl | rfl | rfl | rfl | rfl | rfl
   ·have q:RdV true J (.ref c1) (.tuple []):=.tup (K6.tup f1) (by show 0≤1000;decide) .nil;exact⟨_,bS (j:=0) rfl,⟨_,_,.inl q,by decide⟩,_,.inr q,by decide,by decide,by decide⟩
   ·have q:RdV true J (.ref c2) (.list []):=.lst rfl (K6.lst f2) (by show 0≤1000;decide) .nil;exact⟨_,bS (j:=1) rfl,⟨_,_,.inl q,by decide⟩,_,.inr q,by decide,by decide,by decide⟩
   ·exact⟨_,bS (j:=2) rfl,⟨true,_,.inl .non,rfl⟩,_,.inr .non,by decide,by decide,by decide⟩
   ·exact⟨_,bS (j:=3) rfl,⟨true,_,.inl (.bl true),rfl⟩,_,.inr (.bl true),by decide,by decide,by decide⟩
   ·exact⟨_,bS (j:=4) rfl,⟨true,_,.inl (.str _ (by decide)),rfl⟩,_,.inr (.str _ (by decide)),by decide,by decide,by decide⟩
   ·have q:J c3=some (.dK []):=K6 _ _ f3 (fun _ _ z=>nomatch z);exact⟨_,bS (j:=5) rfl,⟨false,_,.inl (.dct rfl q),rfl⟩,_,.inl (.dc0 q),by decide,by decide,by decide⟩
   ·have q:RdV false J (.ref b) (g9 f g A i):=rd.keep af;have eh:=hL.fl _ (Ax hd);exact⟨_,bS (j:=6) rfl,⟨false,_,.inr ⟨rfl,c4,_,rfl,dj⟩,rfl⟩,_,.inl (.dc1 dj (.of q)),(OkD.dict1 (b:=5000) (k:=1) ((OkD.name nf).mono (by decide) (by decide)) eh.2.1).mono (by decide) (by decide)⟩
   ·exact⟨_,bS (j:=7) rfl,⟨true,_,.inl (.int 7),rfl⟩,_,.inr (.int 7),by decide,by decide,by decide⟩
  exact⟨L,_,_,v,rfl,rfl,aU (K6.lst eL),hv,k _ _ _ z1 z2 (by omega) (by omega) an ak⟩
theorem bV.Ok.okd{r:bV}{fs:List Str}(h:r.Ok fs):OkD 15259 3 r.d∧eZ (dB 3 r.d) r.d:=by
 refine⟨aCV h.els (Bc h.len7 (by decide)),?_⟩;show eZ (.tuple (.str r.word :: .str r.name :: .int r.day :: r.ds.map (dB 2))) _;rw[h.rs.two];exact h.rs.ord _ _
structure aHV(ss fs:List Str)(us:List bV):Prop where
 nm:∀ z∈ss,bW z=true
 nd:ss.Nodup
 nf:∀ z∈ss,z ∉ fs
 nu:∀ z∈ss,z ∉ us.map (·.name)
 l41:41≤ss.length
 l78:ss.length≤78
inductive nJ(H:Hp)(fs:List Str)(y:V):Prop
 | odd {m:Bool} {d:Aj} (h:RdX m H y d) (n:iK d=false):nJ H fs y
 | rows {q:Ah} {xs:List V} {os:List (Option bV)} (e:y=.ref q) (h:H q=some (.lst xs)) (T:dL H fs xs os) (l:os.length≤200) (b:oW os∨∃ us:List bV,(us.map (·.name)).Nodup∧(∀ r,r∈us↔some r∈os)∧40 < us.length):nJ H fs y
theorem wZ{H:Hp}{x:V}{u:bV}{fs:List Str}(rd:RdV false H x u.d)(ok:u.Ok fs):∃ m d,uK 3 m H x d∧d≠qP∧ThX fs d (some u):=
 ⟨false,u.d,.inl (.inl rd),(fun z=>nomatch z),.row ok.okd.2 ok⟩
theorem uZ:∀{us:List bV}{fs:List Str},(∀ u∈us,u.Ok fs)→Be (us.map bV.d)=false
 | [],_,_=>rfl
 | u :: r,fs,h=>by
  show(u.d.hasDict || Be (r.map bV.d))=false;rw[uZ fun v z=>h v (AK _ z),show u.d.hasDict=false from lA (h u AF).rs];rfl
theorem c6.okd{H:Hp}{xs:List V}{us:List bV}{fs:List Str}(h:c6 H xs us fs){u:bV}(F:u∈us):u.Ok fs:=by
 obtain⟨i,hi⟩:=Cw F;have z:i < xs.length:=by rw[h.len];exact(AR.mp hi).1
 obtain⟨u',e,_,ok⟩:=h.at' i _ (Af z);rw[hi]at e;cases e;exact ok
theorem dL.app{H:Hp}{O:List Str}{xs z:List V}{os F:List (Option bV)}(h:dL H O xs os)(h':dL H O z F):dL H O (xs ++ z) (os ++ F):=
 ⟨by rw[Ak,Ak,h.len,h'.len],fun i x J=>by
  rcases FF i xs.length with g | g
  ·rw[BV g]at J;obtain⟨o,h1,r⟩:=h.at' i x J;exact⟨o,by rw[BV (by rw[← h.len];exact g)];exact h1,r⟩
  ·rw[BP g]at J;obtain⟨o,h1,r⟩:=h'.at' _ x J;exact⟨o,by rw[BP (by rw[← h.len];exact g),← h.len];exact h1,r⟩⟩
theorem dL.one{H:Hp}{F:List Str}{x:V}{o:Option bV}(h:∃ m d,uK 3 m H x d∧d≠qP∧ThX F d o):dL H F [x] [o]:=
 ⟨rfl,fun i y z=>by
  match i,z with
  | 0,z=>cases z;exact⟨o,rfl,h⟩⟩
theorem dL.take{H:Hp}{F:List Str}{xs:List V}{os:List (Option bV)}(h:dL H F xs os)(n:Nat):dL H F (xs.take n) (os.take n):=
 ⟨by rw[Am,Am,h.len],fun i x z=>by
  rw[Et]at z;split at z
  ·rename_i g;obtain⟨o,h1,r⟩:=h.at' i x z;exact⟨o,by rw[Et,Ib g];exact h1,r⟩
  ·cases z⟩
theorem dL.drop{H:Hp}{F:List Str}{xs:List V}{os:List (Option bV)}(h:dL H F xs os)(n:Nat):dL H F (xs.drop n) (os.drop n):=
 ⟨by rw[AZ,AZ,h.len],fun i x z=>by
  rw[List.getElem?_drop]at z;obtain⟨o,h1,r⟩:=h.at' _ x z;exact⟨o,by rw[List.getElem?_drop];exact h1,r⟩⟩
theorem c6.things{H:Hp}{xs:List V}{us:List bV}{fs:List Str}(h:c6 H xs us fs):dL H fs xs (us.map some):=
 ⟨by rw[Ab,h.len],fun i x z=>by
  obtain⟨u,e,rd,ok⟩:=h.at' i x z;exact⟨some u,by rw[AC,e];rfl,wZ rd ok⟩⟩
theorem yQ{H:Hp}{q:Ah}{ys:List V}{us:List bV}{fs:List Str}{v:V}{n:Nat}{o:Option bV}(e:H q=some (.lst (ys.take n ++ [v] ++ ys.drop n)))(W:q≠Dq)(h:c6 H ys us fs)(Z:us.length≤40)
  (tv:∃ m d,uK 3 m H v d∧d≠qP∧ThX fs d o) (Y:Shw 15259 3 H v) (b:oW ((us.map some).take n ++ [o] ++ (us.map some).drop n)):nJ H fs (.ref q)∧Shw 700000 4 H (.ref q):=by
 have U:=h.rdvs;have rt:=U.flip (uZ fun u O=>h.okd O) true;have hl:=h.len;refine⟨.rows rfl e (((h.things.take n).app (.one tv)).app (h.things.drop n)) (by simp only[Ak,Am,AZ,Ab,AM,By];omega) (.inl b),?_⟩;obtain⟨d,rd,ok⟩:=Y;have J:OkD 700000 4 (.list ((us.map bV.d).take n ++ [d] ++ (us.map bV.d).drop n)):=by
  refine(OkD.list (b:=15259) (k:=3) (n:=41) (fun y z=>?_) (by simp only[Ak,Am,AZ,Ab,AM,By];omega)).mono (by decide) (by decide);have F:∀ y∈us.map bV.d,OkD 15259 3 y:=fun y z=>by
   obtain⟨u,O,rfl⟩:=Bb.mp z;exact(h.okd O).okd.1
  rcases Az.mp z with z | z
  ·rcases Az.mp z with z | z
   ·exact F y (Bv z)
   ·rw[A6.mp z];exact ok
  ·exact F y (Dn z)
 rcases rd with rd | rd
 ·exact⟨_,.inl (.lst e W (((gW.of (U.take n)).app (.cons rd .nil)).app (gW.of (U.drop n)))),J⟩
 ·exact⟨_,.inr (.lst rfl e (by simp only[Ak,Am,AZ,AM,By];omega) (((rt.take n).app (.cons rd .nil)).app (rt.drop n))),J⟩
theorem aHl{α:Type}{l:List α}{x o:α}(n:Nat)(h:x∈l):x∈l.take n ++ [o] ++ l.drop n:=by
 rw[← List.take_append_drop n l]at h;rcases Az.mp h with h | h
 ·exact Az.mpr (.inl (Az.mpr (.inl h)))
 ·exact Az.mpr (.inr h)
theorem aD2(ds:List Aj)(fs:List Str):FIn "alone" ds fs:=fun h=>absurd h (by decide)
theorem aAU{z h:Str}{d:Int}{fs:List Str}(J:bW z=true)(nh:bW h=true)(F:0≤d)(h1:d≤9999):bV.Ok ⟨"alone",z,d,[.str h]⟩ fs:=⟨.alone nh,J,F,h1,aD2 _ _⟩
theorem aGg{m:Bool}{H:Hp}{x:V}{d:Aj}(h:RdV m H x d):d≠qP:=fun e=>by
 subst e;cases h
theorem c6.takeN{H:Hp}{xs:List V}{us:List bV}{fs:List Str}(h:c6 H xs us fs)(n:Nat):c6 H (xs.take n) (us.take n) fs:=
 ⟨by rw[Am,Am,h.len],fun i x z=>by
  rw[Et]at z;split at z
  ·rename_i g;obtain⟨u,h1,r⟩:=h.at' i x z;exact⟨u,by rw[Et,Ib g];exact h1,r⟩
  ·cases z⟩
theorem c6.snocN{H:Hp}{xs:List V}{us:List bV}{fs:List Str}(h:c6 H xs us fs){y:V}{u:bV}(rd:RdV false H y u.d)(ok:u.Ok fs):c6 H (xs ++ [y]) (us ++ [u]) fs:=
 ⟨by rw[Ak,Ak,h.len];rfl,fun i x F=>by
  rcases FF i xs.length with g | g
  ·rw[BV g]at F;obtain⟨v,h1,r⟩:=h.at' i x F;exact⟨v,by rw[BV (by rw[← h.len];exact g)];exact h1,r⟩
  ·rw[BP g]at F;have J:i - xs.length=0:=by
    cases z:i - xs.length with
    | zero=>rfl
    | succ n=>rw[z]at F;simp at F
   rw[J]at F;cases F;exact⟨u,by rw[BP (by rw[← h.len];exact g),← h.len,J];rfl,rd,ok⟩⟩
theorem c6.onN{H H':Hp}{xs:List V}{us:List bV}{fs:List Str}(h:c6 H xs us fs)(k:Kp H H'):c6 H' xs us fs:=
 ⟨h.len,fun i x z=>by obtain⟨u,a,b,c⟩:=h.at' i x z;exact⟨u,a,b.keep k,c⟩⟩
theorem aHm{H:Hp}{q:Ah}{xs:List V}{us:List bV}{fs:List Str}(e:H q=some (.lst xs))(h:c6 H xs us fs)(J:us.length=41)(hn:(us.map (·.name)).Nodup):nJ H fs (.ref q)∧Shw 700000 4 H (.ref q):=by
 have U:=h.len;refine⟨.rows rfl e h.things (by rw[Ab];omega) (.inr ⟨us,hn,fun r=>?_,by omega⟩),_,.inr (.lst rfl e (by omega) (h.rdvs.flip (uZ fun u F=>h.okd F) true)),(OkD.list (b:=15259) (k:=3) (n:=41) (fun y O=>?_) (by rw[Ab];omega)).mono (by decide) (by decide)⟩
 ·rw[Bb];exact⟨fun z=>⟨r,z,rfl⟩,fun⟨v,z,e⟩=>by injection e with e;rw[← e];exact z⟩
 ·obtain⟨u,F,rfl⟩:=Bb.mp O;exact(h.okd F).okd.1
def aD3(H:Hp)(fs:List Str)(v:V):Prop:=(∃ m d,uK 3 m H v d∧d≠qP∧ThX fs d none)∧Shw 15259 3 H v
theorem aD3.same{H H':Hp}{fs:List Str}{v:V}(h:aD3 H fs v)(s:aY H H'):aD3 H' fs v:=by
 obtain⟨⟨m,d,a,b,c⟩,d',e,f⟩:=h;exact⟨⟨m,d,a.same s,b,c⟩,d',e.imp (fun z=>z.same s) (fun z=>z.same s),f⟩
theorem iI{H:Hp}{fs:List Str}{v:V}{m:Bool}{d d':Aj}(rd:RdV m H v d)(o:eZ (dB 3 d) d')(r:rowD d'=false)(ok:OkD 15259 3 d):aD3 H fs v:=
 ⟨⟨m,d,.inl (.inl rd),aGg rd,.no o r⟩,d,(by
  cases m with
  | true=>exact .inr rd
  | false=>exact .inl (.of rd)),ok⟩
theorem aJ3{H:Hp}{fs:List Str}{c1 c2 c3 t1 t2 t3 w1 t4 d1 tt t5 d2 w2 t6:Ah}(aa:H c1=some (.lst ([]:List V)))(ah:H c2=some (.tup ([]:List V)))(ak:H c3=some (.dK []))(Y:H t1=some (.tup [V.str "alone",.str "a",.int 0]))(ai:H t2=some (.tup [V.str "alone",.str "A",.int 0,.str "b"]))(ad:H t3=some (.tup [V.str "alone",.str "a",.int 10000,.str "b"]))
  (am:H w1=some (.lst [V.str "a"])) (ac:H t4=some (.tup [V.str "alone",.ref w1,.int 0,.str "b"])) (W:H d1=some (.dK [])) (ag:H tt=some (.tup [V.ref d1,.str "b"])) (ae:H t5=some (.tup [V.str "join",.str "a",.int 0,.ref tt,.str "c"])) (J:H d2=some (.dK [])) (O:H w2=some (.lst [V.str "b"])) (Z:w2≠Dq) (U:H t6=some (.tup [V.str "alone",.ref d2,.int 0,.ref w2])):
  ∀ v∈[V.non,.bl true,.int 7,.str "",.ref c1,.ref c2,.ref c3] ++ [V.ref t1,.ref t2,.ref t3] ++ [V.ref t4,.ref t5,.ref t6],aD3 H fs v:=fun v hv=>by
 simp only[List.cons_append,FZ,Al,AA,or_false]at hv;rcases hv with rfl | rfl | rfl | rfl | rfl | rfl | rfl | rfl | rfl | rfl | rfl | rfl | rfl
 ·exact iI (m:=true) .non (.odd rfl) rfl ⟨by decide,by decide,by decide⟩
 ·exact iI (m:=true) (.bl true) (.odd rfl) rfl ⟨by decide,by decide,by decide⟩
 ·exact iI (m:=true) (.int 7) (.odd rfl) rfl ⟨by decide,by decide,by decide⟩
 ·exact iI (m:=true) (.str _ (by decide)) (.odd rfl) rfl ⟨by decide,by decide,by decide⟩
 ·exact iI (m:=true) (.lst rfl aa (by decide) .nil) (.short (ds:=[]) (by decide)) rfl ⟨by decide,by decide,by decide⟩
 ·exact iI (m:=true) (.tup ah (by decide) .nil) (.short (ds:=[]) (by decide)) rfl ⟨by decide,by decide,by decide⟩
 ·exact iI (m:=false) (.dct rfl ak) (.odd rfl) rfl ⟨by decide,by decide,by decide⟩
 ·exact iI (m:=true) (.tup Y (by decide) (.cons (.str _ (by decide)) (.cons (.str _ (by decide)) (.cons (.int 0) .nil)))) (.short (ds:=[.str "alone",.str "a",.int 0]) (by simp)) (by decide) ⟨by decide,by decide,by decide⟩
 ·exact iI (m:=true) (.tup ai (by decide) (.cons (.str _ (by decide)) (.cons (.str _ (by decide)) (.cons (.int 0) (.cons (.str _ (by decide)) .nil))))) (.short (ds:=[.str "alone",.str "A",.int 0,.str "b"]) (by simp)) (by decide) ⟨by decide,by decide,by decide⟩
 ·exact iI (m:=true) (.tup ad (by decide) (.cons (.str _ (by decide)) (.cons (.str _ (by decide)) (.cons (.int 10000) (.cons (.str _ (by decide)) .nil))))) (.short (ds:=[.str "alone",.str "a",.int 10000,.str "b"]) (by simp)) (by decide) ⟨by decide,by decide,by decide⟩
 ·exact iI (m:=true) (.tup ac (by show 4≤1000;decide) (.cons (.str _ (by decide)) (.cons (.lst rfl am (by decide) (.cons (.str _ (by decide)) .nil)) (.cons (.int 0) (.cons (.str _ (by decide)) .nil))))) (.short (ds:=[.str "alone",.tuple [.str "a"],.int 0,.str "b"]) (by simp)) (by decide) ⟨by decide,by decide,by decide⟩
 ·exact iI (m:=false) (.tup ae (by show 5≤1000;decide) (.cons (.str _ (by decide)) (.cons (.str _ (by decide)) (.cons (.int 0) (.cons (.tup ag (by show 2≤1000;decide) (.cons (.dct rfl W) (.cons (.str _ (by decide)) .nil))) (.cons (.str _ (by decide)) .nil)))))) (.nojoin (n:=.str "a") (dy:=.int 0) (f:=.tuple [.dict [],.str "b"]) (l:=.str "c") (by decide)) (by decide) ⟨by decide,by decide,by decide⟩
 ·refine⟨⟨false,.tuple [.str "alone",.dict [],.int 0,.list [.str "b"]],.inr ⟨2,rfl,t6,_,_,rfl,rfl,U,by show 4≤1000;decide,rfl,fun i y F=>?_⟩,(fun z=>nomatch z),.no (.short (ds:=[.str "alone",.dict [],.int 0,.tuple [.str "b"]]) (by simp)) (by decide)⟩,.tuple [.str "alone",.dict [],.int 0,.list [.str "b"]],.inl (.tup U (.cons (.str _) (.cons (.dc0 J) (.cons (.int 0) (.cons (.lst O Z (.cons (.str _) .nil)) .nil))))),⟨by decide,by decide,by decide⟩⟩
  match i,F with
  | 0,F=>cases F;exact⟨false,.str "alone",rfl,(.str _ (by decide)),fun _ _ z=>z⟩
  | 1,F=>cases F;exact⟨false,.dict [],rfl,.dct rfl J,fun _ _ z=>z⟩
  | 2,F=>cases F;exact⟨false,.int 0,rfl,.int 0,fun _ _ z=>z⟩
  | 3,F=>cases F;exact⟨true,.list [.str "b"],rfl,.lst rfl O (by decide) (.cons (.str _ (by decide)) .nil),fun z H' h=>RdV.unl h (.tup (.cons (.str _) .nil))⟩
theorem aHn(s:Str):Thr [s]:=⟨s.cps.toList.getD 2 0,0,fun x y z h=>.inl (by rw[← A6.mp h];simp[mk])⟩
inductive u7(vs:List V)(H:Hp)(Q:VK)(u3_:XK):Prop
 | mk (p c:Ah) (ns:List Int) (a:Int) (rw:Ah) (ys:List V) (us:List bV) (fs ps hs:List Str) (tS lf lp lh sp:Ah) (ss:List Str) (q0:vs=[.ref p,.ref rw,.ref tS,.ref sp]) (q1:cJ H p c ns a) (q2:a≤600000) (q3:H rw=some (.lst ys)) (q4:c6 H ys us fs) (q5:us.length≤40) (q6:(us.map (·.name)).Nodup) (q7:H tS=some (.tup [.ref lf,.ref lp,.ref lh])) (q8:S3 H lf lp lh fs ps hs) (q9:H sp=some (.lst (ss.map V.str))) (q10:aHV ss fs us) (q11:∀(y:V) (a':Int) (H':Hp),nJ H' fs y→Shw 700000 4 H' y→a≤a'→a'≤a + 200→cJ H' p c ns a'→aQ p H H'→Q y H'):u7 vs H Q u3_
def aAV:Sp:=fun vs H Q u3_=>u7 vs H Q u3_
theorem aAW:bU ["_law_pen_here","_law_rows","_law_sorts_here","_law_spare","_law_way","_law_at","_law_strange","_law_fields","_law_plots","_law_houses","_law_new","_law_old","_law_more"] ["_law_pen_here","_law_rows","_law_sorts_here","_law_spare"] (aO qY):=⟨rfl,rfl,rfl,by decide,rfl,by decide,by decide⟩
theorem aD4{f:Ah}{fd:AH}(F:Fun K "_law_no_rows" "_law_no_rows" qY f fd)(cs:mg "len"=none)
  (GT:Cl P w K mg base 1 "_law_take" ["_law_pen_here","_law_many"] gQ)
  (GO:Cl P w K mg base 3 "_law_row_of" ["_law_pen_here","_law_word","_law_name","_law_day","_law_sorts_here"] yG)
  (GW:Cl P w K mg base 2 "_law_twin" ["_law_pen_here","_law_rows"] aGa)
  :b8 P w K mg base CX0 4 f fd ["_law_pen_here","_law_rows","_law_sorts_here","_law_spare"] aAV:=by
 refine F.ok aAW (fun vs H Q E h=>?_) (fun hM A outer s H vs Q E hr h=>?_)
 ·obtain⟨p,c,ns,a,rw,ys,us,fs,ps,hs,tS,lf,lp,lh,sp,ss,rfl,_⟩:=h;rfl
 ·obtain⟨p,c,ns,a,rw,ys,us,fs,ps,hs,tS,lf,lp,lh,sp,ss,rfl,hp,ha,hrw,hR,h40,hnd,htS,h3,hsp,spr,k⟩:=h;have nd:=aAW.nd;have hu:_ < _:=hr.units0;have bn:cQ 1 _:=hr.mono (by decide);have fD:cQ 2 _:=hr.mono (by decide);have fk:cQ 3 _:=hr.mono (by decide);refine⟨_,(aJ (aZ (i:=4) nd rfl (AE rfl) (bC GT bn (aG (pv 0) (aG aI aF))))
   (aJ (aZ (i:=5) nd rfl (AE rfl) (bC GT bn (aG (pv 0) (aG (aX dF (aP aW (by rfl) cs AI (aG (pv 1) aF)) aI) aF))))
   (aJ (aZ (i:=6) nd rfl (AE rfl) (bZ cH (cW (aG aT (aG aT (aG aT aF)))) (bC GT bn (aG (pv 0) (aG aI aF))) Ig))
   (aJ (jN (pv 2) (nM rfl (cT (bJ (i:=7) nd rfl (AE rfl)) (cT (bJ (i:=8) nd rfl (AE rfl)) (cT (bJ (i:=9) nd rfl (Ei rfl)) kW)))))
   (aJ (cI (bK dM (pv 4) aI (bX _)) (aJ (aZ (i:=10) nd rfl (AE rfl) (bC GO fk (aG (pv 0) (aG (pv 6) (aG (bZ cH (pv 3) aI Ig) (aG aI (aG (cA (aG (cW (aG (bZ cH (pv 3) aI Ig) aF)) (aG (pv 8) (aG (pv 9) aF)))) aF)))))))
    (aN (aV (aX qU (aX nO (cB fG (pv 1) cN (cO (pv 5))) (cW (aG (pv 10) aF))) (cB fG (pv 1) (cO (pv 5)) cN))))) bH)
   (aJ (pJ (cI (PW.pt (lH (bK dM (pv 4) aI (bX _)) (jA (bK (aE7 hu) (pv 1) (cW aF) (bX _))))) (aJ (aZ (i:=11) nd rfl (AE rfl) (bZ cH (pv 1) (bC GT bn (aG (pv 0) (aG (aP aW (by rfl) cs AI (aG (pv 1) aF)) aF))) Ig))
    (aJ (aZ (i:=10) nd rfl (AE rfl) (cA (aG aT (aG (bZ cX (pv 11) aI Ig) (aG (aX iX aI (bZ cX (pv 11) aI Ig)) (aG (bZ cH (pv 9) aI Ig) aF))))))
    (aN (cI (bK (aBp bn) (cB eI (pv 11) (cO aI) cN) (cB eI (pv 10) (cO aI) cN) (bX _)) (aN (aV (aX qU (aX nO (cB fG (pv 1) cN (cO (pv 5))) (cW (aG (pv 10) aF))) (cB fG (pv 1) (cO (pv 5)) cN)))) bH)))) bH))
   (aJ (cI (bK dM (pv 4) aI (bX _)) (aN (aV (aX qU (aX nO (cB fG (pv 1) cN (cO (pv 5))) (cW (aG (bC GW fD (aG (pv 0) (aG (pv 1) aF))) aF))) (cB fG (pv 1) (cO (pv 5)) cN)))) bH)
   (aJ (cI (bK dM (pv 4) aI (bX _)) (aJ (f9 (i:=12) (N:=["_law_name","_law_pen_here","_law_houses"]) (src:=[none,some 0,some 9]) (osc:=aO qY) (oN:=["_law_pen_here","_law_rows","_law_sorts_here","_law_spare","_law_way","_law_at","_law_strange","_law_fields","_law_plots","_law_houses","_law_new","_law_old","_law_more"]) ⟨by rfl,by decide,by decide,by decide,rfl,by rfl⟩ nd rfl (jC (pv 3)) (fun cl s H fp fc C=>⟨bJ (i:=0) (show(["_law_name","_law_pen_here","_law_houses"]:List Str).Nodup by decide) rfl (AE rfl),dY,cA (aG aT (aG (pv 0) (aG (bC GT bn (aG (pv 1) (aG aI aF))) (aG (bZ (r:=aDe K) cH (pv 2) aI Ig) aF))))⟩))
    (aN (aV (cB fG (aX nO (pv 12) (pv 1)) cN (cO aI))))) bH)
   (aJ (cI (bK dM (pv 4) aI (bX _)) (aN (aV (bZ cH (cW (aG iB (aG gC (aG aI (aG aT (aG iZ (aG (xG (lN aT aI xF) rfl rfl (by simp) (by decide)) (aG aT aF)))))))) (bC GT bn (aG (pv 0) (aG aI aF))) Ig))) bH)
   (aJ (aZ (i:=10) nd rfl (AE rfl) (cW (aG iB (aG gC (aG aI (aG aT (aG (cW aF) (aG (cA aF) (aG iZ aF)))))))))
   (aJ (aZ (i:=10) nd rfl (AE rfl) (aX nO (pv 10) (cW (aG (cA (aG aT (aG aT (aG aI aF)))) (aG (cA (aG aT (aG aT (aG aI (aG aT aF))))) (aG (cA (aG aT (aG aT (aG aI (aG aT aF))))) aF))))))
   (aJ (aZ (i:=10) nd rfl (AE rfl) (aX nO (pv 10) (cW (aG (cA (aG aT (aG (cW (aG aT aF)) (aG aI (aG aT aF))))) (aG (cA (aG aT (aG aT (aG aI (aG (cA (aG iZ (aG aT aF))) (aG aT aF)))))) (aG (cA (aG aT (aG iZ (aG aI (aG (xR (aG aT aF)) aF))))) aF))))))
   (aN (aV (aX qU (aX nO (cB fG (pv 1) cN (cO (pv 5))) (cW (aG (bZ cH (pv 10) (bC GT bn (aG (pv 0) (aG aI aF))) Ig) aF))) (cB fG (pv 1) (cO (pv 5)) cN)))))))))))))))),?_⟩
  have h6:=hR.len;refine⟨_,rfl,p,c,ns,a,_,rfl,hp,by omega,by decide,by decide,fun wy a1 H1 w0 w1 io il e8 k1=>?_⟩;have K1:Kp _ _:=fN hp k1;dsimp only[cC];refine⟨_,rfl,_,rfl,rw,ys,rfl,.inl (aU (K1.lst hrw)),_,_,rfl,rfl,p,c,ns,a1,_,rfl,e8,by omega,by omega,?_,fun at' a2 H2 t0 t1 hL hC b6 k2=>?_⟩
  ·exact Gy (show((ys.length:Nat):Int) + 1 < 2 ^ 64 by omega) (by decide)
  have k2:=k1.trans k2;obtain⟨n,rfl⟩:∃ n:Nat,at'=(n:Int):=⟨at'.toNat,by omega⟩
  dsimp only[cC];refine⟨zZ3,fun D nD=>?_⟩;have sD:=aK (o:=.lst [V.str "measure",.str "breach",.str "view"]) nD;have eD:=aH (H:=H2) (a:=D) (o:=.lst [V.str "measure",.str "breach",.str "view"]);have b6:=b6.same sD;have k2:=k2.same sD;generalize upd H2 D (.lst [V.str "measure",.str "breach",.str "view"])=ip at eD b6 k2 ⊢;refine⟨_,rfl,p,c,ns,a2,_,rfl,b6,by omega,by decide,by decide,fun r a3 H3 r0 r1 hE h9 db d5=>?_⟩;have K2:Kp _ _:=fN b6 d5;have k3:=k2.trans d5;have K3:Kp _ _:=fN hp k3;obtain⟨sw,hsw,hin⟩:∃ sw,atI [V.str "measure",.str "breach",.str "view"] r=some (.str sw)∧inV (.str sw) [V.str "measure",.str "breach",.str "view"]=true∧sw∈eG:=by
   have el:r=0∨r=1∨r=2:=by omega
   rcases el with rfl | rfl | rfl
   ·exact⟨"measure",bS (j:=0) rfl,by decide,by decide⟩
   ·exact⟨"breach",bS (j:=1) rfl,by decide,by decide⟩
   ·exact⟨"view",bS (j:=2) rfl,by decide,by decide⟩
  refine⟨D,_,_,_,rfl,rfl,aU (K2.lst eD),hsw,?_⟩;dsimp only[cC];have eW:=K3.tup htS;have ev:=K3.lst hrw;have cu:=K3.lst hsp;have hJ:c6 H3 ys us fs:=⟨hR.len,fun i x hx=>by obtain⟨u,a,b,c⟩:=hR.at' i x hx;exact⟨u,a,b.keep K3,c⟩⟩
  have fv:=h3.but hp k3;refine⟨_,rfl,tS,_,rfl,bG eW,rfl,_,_,rfl,_,_,rfl,_,_,rfl,rfl,?_⟩;dsimp only[cC];refine⟨_,rfl,rfl,_,rfl,dH (fun g0=>?_) fun g0=>?_⟩
  ·obtain⟨z0,hz0⟩:∃ z,ss[0]?=some z:=⟨_,Af (by have:=spr.l41;omega)⟩
   obtain⟨z1,hz1⟩:∃ z,ss[1]?=some z:=⟨_,Af (by have:=spr.l41;omega)⟩
   have m0:=Ax hz0;have m1:=Ax hz1;have gl:(ss.map V.str)[0]?=some (.str z0):=by rw[AC,hz0];rfl
   have fh:(ss.map V.str)[1]?=some (.str z1):=by rw[AC,hz1];rfl
   refine⟨_,rfl,_,rfl,_,rfl,sp,_,0,_,rfl,rfl,aU cu,bS (j:=0) gl,_,rfl,sp,_,1,_,rfl,rfl,aU cu,bS (j:=1) fh,zZ1,fun b1 gm=>?_⟩;have eF:=aK (o:=.lst [V.str z1]) gm;have b7:=aH (H:=H3) (a:=b1) (o:=.lst [V.str z1]);generalize upd H3 b1 (.lst [V.str z1])=H4 at eF b7 ⊢;refine⟨_,rfl,_,rfl,zZ3,fun q1 fO=>?_⟩;have eT:=aK (o:=.tup [V.ref b1,.ref lp,.ref lh]) fO;have ei:=aH (H:=H4) (a:=q1) (o:=.tup [V.ref b1,.ref lp,.ref lh]);have cn:=eF.trans eT;have b7:=eT _ _ b7;generalize upd H4 q1 (.tup [V.ref b1,.ref lp,.ref lh])=H5 at cn ei b7 ⊢;have be:=fv.same cn;have ax:=db.same cn;refine⟨p,c,ns,a3,sw,z0,0,q1,b1,lp,lh,[z1],ps,hs,rfl,ax,by omega,ei,⟨b7,be.p,be.h,by show 1≤1;decide,by show 1≤44;decide,be.p1,be.h1,⟨by simp,fun w hw=>by rw[A6.mp hw];exact spr.nm z1 m1,aHn z1⟩,be.np,be.nh⟩,hin.2,spr.nm z0 m0,fun t ds cM a4 H6 ht b4 rs ed fu fe dk k6=>?_⟩;dsimp only[cC];have eh:aQ p H H6:=(k3.same cn).trans k6;have K6:Kp _ _:=fN hp eh;obtain⟨r,hr⟩:∃ r:bV,r=⟨sw,z0,0,ds⟩:=⟨_,rfl⟩
   have okR:r.Ok [z1]:=by rw[hr];exact⟨rs,spr.nm z0 m0,Eb _,by show(0:Int)≤9999;decide,ed⟩
   have b3:RdV false H6 (.ref t) r.d:=by
    rw[hr];exact .tup ht (by have:=rs.len;have:=b4.len;simp only[AM];omega) (.cons (.str _ (aAG hin.2)) (.cons (.str _ (by have:=dA (spr.nm z0 m0);omega)) (.cons (.int 0) b4)))
   have far:¬ FIn r.word r.ds fs:=fun hF=>by
    rw[hr]at hF;obtain⟨d4,rd',erd,hf4⟩:=rs.fourth;obtain⟨z,rfl⟩:=hf4 hin.1;have h1:=hF hin.1 z rd' erd;have h2:=ed hin.1 z rd' erd;rw[A6.mp h2]at h1;exact spr.nf z1 m1 h1
   refine⟨_,rfl,_,rfl,_,rfl,rw,ys,rfl,aU (K6.lst hrw),fun l1 n1=>?_⟩;have ad:=aK (o:=.lst (dQ ys none (some (n:Int)))) n1;have aq:=aH (H:=H6) (a:=l1) (o:=.lst (dQ ys none (some (n:Int))));generalize upd H6 l1 (.lst (dQ ys none (some (n:Int))))=J1 at ad aq ⊢;rw[gM (α:=Nat)]at aq;refine⟨_,rfl,zZ1,fun l2 n2=>?_⟩;have ai:=aK (o:=.lst [V.ref t]) n2;have aB:=aH (H:=J1) (a:=l2) (o:=.lst [V.ref t]);generalize upd J1 l2 (.lst [V.ref t])=J2 at ai aB ⊢;refine⟨l1,l2,_,_,rfl,rfl,ai _ _ aq,aB,aM (by rw[Am];show _ + 1≤1000000;omega),fun l3 n3=>?_⟩;have am:=aK (o:=.lst (ys.take n ++ [V.ref t])) n3;have ba:=aH (H:=J2) (a:=l3) (o:=.lst (ys.take n ++ [V.ref t]));generalize upd J2 l3 (.lst (ys.take n ++ [V.ref t]))=J3 at am ba ⊢;refine⟨_,rfl,_,rfl,_,rfl,rw,ys,rfl,aU (am _ _ (ai _ _ (ad _ _ (K6.lst hrw)))),fun l4 n4=>?_⟩;have ap:=aK (o:=.lst (dQ ys (some (n:Int)) none)) n4;have ay:=aH (H:=J3) (a:=l4) (o:=.lst (dQ ys (some (n:Int)) none));generalize upd J3 l4 (.lst (dQ ys (some (n:Int)) none))=J4 at ap ay ⊢;rw[eQ (α:=Nat)]at ay;refine⟨l3,l4,_,_,rfl,rfl,ap _ _ ba,ay,aM (by simp only[Ak,Am,AZ,AM,By];omega),fun l5 n5 m5=>?_⟩;have br:=aK (o:=.lst (ys.take n ++ [V.ref t] ++ ys.drop n)) n5;have sE:=((ai.trans am).trans ap).trans br;have bc:=ad.trans sE;have e7:c6 H6 ys us fs:=⟨hR.len,fun i x hx=>by obtain⟨u,a,b,c⟩:=hR.at' i x hx;exact⟨u,a,b.keep K6,c⟩⟩
   obtain⟨y1,y2⟩:=yQ aH m5 (e7.same bc) h40 ⟨false,r.d,.inl (.inl (b3.same bc)),(fun z=>nomatch z),.far okR.okd.2 okR far⟩ ⟨_,.inl (.of (b3.same bc)),okR.okd.1⟩ (.inl (by simp));exact k _ _ _ y1 y2 (by omega) (by omega) (dk.same bc) (eh.same bc)
  refine⟨fun σ' H'=>∃(a4:Int) (du d6:Option V),σ'=[some (.ref p),some (.ref rw),some (.ref tS),some (.ref sp),some (.int wy),some (.int n),some (.str sw),some (.ref lf),some (.ref lp),some (.ref lh),du,d6,none]∧cJ H' p c ns a4∧a≤a4∧a4≤a + 4∧aQ p H H',?_,?_⟩
  ·refine⟨_,rfl,rfl,_,rfl,dH (fun g1=>?_) fun g1=>?_⟩
   rotate_left
   ·exact c7 ⟨a3,none,none,rfl,db,by omega,by omega,k3⟩
   refine⟨_,rfl,zZ0,fun e0 n0=>?_⟩;have s0:=aK (o:=.lst ([]:List V)) n0;have f0:=aH (H:=H3) (a:=e0) (o:=.lst ([]:List V));generalize upd H3 e0 (.lst ([]:List V))=H4 at s0 f0 ⊢;refine⟨rw,e0,ys,rfl,rfl,aU (s0 _ _ ev),aU f0,_,rfl,?_⟩;have aD:=db.same s0;have k4:=k3.same s0;refine dH (fun g2=>?_) fun g2=>?_
   rotate_left
   ·exact⟨a3,none,none,rfl,aD,by omega,by omega,k4⟩
   have hQ:0 < ys.length:=Ie g2;have K4:Kp _ _:=fN hp k4;refine⟨_,rfl,_,rfl,_,rfl,rw,ys,rfl,.inl (aU (K4.lst hrw)),p,c,ns,a3,_,rfl,aD,by omega,by omega,?_,fun r a5 H5 ij ez bR bD ax k5=>?_⟩
   ·exact Gy (show((ys.length:Nat):Int) < 2 ^ 64 by omega) (by decide)
   obtain⟨m,rfl⟩:∃ m:Nat,r=(m:Int):=⟨r.toNat,by omega⟩
   obtain⟨y,hy⟩:∃ y,ys[m]?=some y:=⟨_,Af (by omega)⟩
   have k5:=k4.trans k5;have K5:Kp _ _:=fN hp k5;obtain⟨u,hu',de,oku⟩:=hR.at' m y hy;have de:=de.keep K5;obtain⟨tr,cM,rfl,htr,hrest⟩:=oku.tup de;refine⟨rw,ys,_,_,rfl,rfl,aU (K5.lst hrw),bS hy,?_⟩;dsimp only[cC];have be:=h3.but hp k5;obtain⟨h0,hh0⟩:∃ z,hs[0]?=some z:=⟨_,Af (by have:=be.h1;omega)⟩
   have cz:(hs.map V.str)[0]?=some (.str h0):=by rw[AC,hh0];rfl
   have bv:=be.nh.ok h0 (Ax hh0);refine⟨_,rfl,tr,_,1,_,rfl,rfl,bG htr,bS (j:=1) rfl,_,rfl,tr,_,2,_,rfl,rfl,bG htr,bS (j:=2) rfl,_,_,rfl,rfl,_,rfl,lh,_,0,_,rfl,rfl,aU be.h,bS (j:=0) cz,zZ4,fun q nq=>?_⟩;dsimp only;have sq:=aK (o:=.tup [V.str "alone",.str u.name,.int (9999 - u.day),.str h0]) nq;have eq:=aH (H:=H5) (a:=q) (o:=.tup [V.str "alone",.str u.name,.int (9999 - u.day),.str h0]);generalize upd H5 q (.tup [V.str "alone",.str u.name,.int (9999 - u.day),.str h0])=H6 at sq eq ⊢;dsimp only[cC];refine⟨_,rfl,_,rfl,tr,_,rfl,sq _ _ htr,fun r1 H7 s7 f1=>?_⟩;rw[show dQ (V.str u.word :: .str u.name :: .int u.day :: cM) (some 2) none=.int u.day :: cM from eQ (α:=Nat) _ 2]at f1;refine⟨_,rfl,_,rfl,q,_,rfl,s7 _ _ eq,fun r2 H8 s8 f2=>?_⟩;rw[show dQ [V.str "alone",.str u.name,.int (9999 - u.day),.str h0] (some 2) none=[V.int (9999 - u.day),.str h0] from eQ (α:=Nat) [V.str "alone",.str u.name,.int (9999 - u.day),.str h0] 2]at f2;have da:=(sq.trans s7).trans s8;have fA:RdV false H8 (.ref r1) (.tuple (.int u.day :: u.ds)):=.tup (s8 _ _ f1) (by have:=oku.rs.len;have:=hrest.len;simp only[AM];omega) (.cons (.int _) (hrest.same da));have gu:RdV false H8 (.ref r2) (.tuple [.int (9999 - u.day),.str h0]):=.tup f2 (by show 2≤1000;decide) (.cons (.int _) (.cons (.str _ (by have:=dA bv;omega)) .nil));refine⟨false,false,_,_,fA,gu,?_,?_,?_,_,rfl,?_⟩
   ·show(true && Bi u.ds)=true;rw[oku.rs.pll.2.1];rfl
   ·show(true && (Ec h0 && true))=true;rw[dU bv];rfl
   ·show max 0 (Bk u.ds) + 1≤8;have:=oku.rs.pll.2.2;omega
   have k8:=k5.same da;have eC:=ax.same da;have K8:Kp _ _:=fN hp k8;cases hq:CA (DI (.int u.day :: u.ds)) (.tuple [.int (9999 - u.day),.str h0])with
   | true=>exact c7 ⟨a5,_,_,rfl,eC,by omega,by omega,k8⟩
   | false=>
   refine c8 ?_;obtain⟨r,hr⟩:∃ r:bV,r=⟨"alone",u.name,9999 - u.day,[.str h0]⟩:=⟨_,rfl⟩
   have d0:=oku.d0;have d1:=oku.d1;have okR:r.Ok fs:=by rw[hr];exact aAU oku.nm bv (by omega) (by omega)
   have b3:RdV false H8 (.ref q) r.d:=by
    rw[hr];exact .tup (s8 _ _ (s7 _ _ eq)) (by show 4≤1000;decide) (.cons (.str _ (by decide)) (.cons (.str _ (by have:=dA oku.nm;omega)) (.cons (.int _) (.cons (.str _ (by have:=dA bv;omega)) .nil))))
   have fR:u≠r:=fun e=>by
    have e1:u.day=9999 - u.day:=congrArg bV.day (e.trans hr);have e2:u.ds=[.str h0]:=congrArg bV.ds (e.trans hr);have hX:DI (.int u.day :: u.ds)=.tuple [.int (9999 - u.day),.str h0]:=by rw[e2,← e1]
    rw[hX,oK _ rfl]at hq;cases hq
   refine⟨_,rfl,_,rfl,_,rfl,rw,ys,rfl,aU (K8.lst hrw),fun l1 n1=>?_⟩;have ad:=aK (o:=.lst (dQ ys none (some (n:Int)))) n1;have aq:=aH (H:=H8) (a:=l1) (o:=.lst (dQ ys none (some (n:Int))));generalize upd H8 l1 (.lst (dQ ys none (some (n:Int))))=J1 at ad aq ⊢;rw[gM (α:=Nat)]at aq;refine⟨_,rfl,zZ1,fun l2 n2=>?_⟩;have ai:=aK (o:=.lst [V.ref q]) n2;have aB:=aH (H:=J1) (a:=l2) (o:=.lst [V.ref q]);generalize upd J1 l2 (.lst [V.ref q])=J2 at ai aB ⊢;refine⟨l1,l2,_,_,rfl,rfl,ai _ _ aq,aB,aM (by rw[Am];show _ + 1≤1000000;omega),fun l3 n3=>?_⟩;have am:=aK (o:=.lst (ys.take n ++ [V.ref q])) n3;have ba:=aH (H:=J2) (a:=l3) (o:=.lst (ys.take n ++ [V.ref q]));generalize upd J2 l3 (.lst (ys.take n ++ [V.ref q]))=J3 at am ba ⊢;refine⟨_,rfl,_,rfl,_,rfl,rw,ys,rfl,aU (am _ _ (ai _ _ (ad _ _ (K8.lst hrw)))),fun l4 n4=>?_⟩;have ap:=aK (o:=.lst (dQ ys (some (n:Int)) none)) n4;have ay:=aH (H:=J3) (a:=l4) (o:=.lst (dQ ys (some (n:Int)) none));generalize upd J3 l4 (.lst (dQ ys (some (n:Int)) none))=J4 at ap ay ⊢;rw[eQ (α:=Nat)]at ay;refine⟨l3,l4,_,_,rfl,rfl,ap _ _ ba,ay,aM (by simp only[Ak,Am,AZ,AM,By];omega),fun l5 n5 m5=>?_⟩;have br:=aK (o:=.lst (ys.take n ++ [V.ref q] ++ ys.drop n)) n5;have sE:=((ai.trans am).trans ap).trans br;have bc:=ad.trans sE;have gv:c6 H8 ys us fs:=⟨hR.len,fun i x hx=>by obtain⟨u,a,b,c⟩:=hR.at' i x hx;exact⟨u,a,b.keep K8,c⟩⟩
   obtain⟨y1,y2⟩:=yQ aH m5 (gv.same bc) h40 (wZ (b3.same bc) okR) ⟨_,.inl (.of (b3.same bc)),okR.okd.1⟩ (.inr ⟨u,r,aHl n (Bb.mpr ⟨u,Ax hu',rfl⟩),by simp,by rw[hr],fR⟩);exact k _ _ _ y1 y2 (by omega) (by omega) (eC.same bc) (k8.same bc)
  rintro σ' H4 ⟨a4,du,d6,rfl,aD,fu,fe,k4⟩;have K4:Kp _ _:=fN hp k4;refine⟨_,rfl,rfl,_,rfl,dH (fun g2=>?_) fun g2=>?_⟩
  ·skip
   refine⟨_,rfl,_,rfl,_,rfl,rw,ys,rfl,aU (K4.lst hrw),fun l1 n1=>?_⟩;have ad:=aK (o:=.lst (dQ ys none (some (n:Int)))) n1;have aq:=aH (H:=H4) (a:=l1) (o:=.lst (dQ ys none (some (n:Int))));generalize upd H4 l1 (.lst (dQ ys none (some (n:Int))))=J1 at ad aq ⊢;rw[gM (α:=Nat)]at aq;have cc:=k4.same ad;have dw:Kp _ _:=fN hp cc;refine⟨_,rfl,_,rfl,p,c,ns,a4,rw,ys,us,fs,rfl,aD.same ad,by omega,dw.lst hrw,⟨hR.len,fun i x hx=>by obtain⟨u,a,b,c⟩:=hR.at' i x hx;exact⟨u,a,b.keep dw,c⟩⟩,h40,fun x d a5 H5 cD bad bR bD ax b2=>?_⟩;have KT:Kp _ _:=fN (aD.same ad) b2;have k5:=cc.trans b2;have K5:Kp _ _:=fN hp k5;refine⟨zZ1,fun l2 n2=>?_⟩;have ai:=aK (o:=.lst [x]) n2;have aB:=aH (H:=H5) (a:=l2) (o:=.lst [x]);generalize upd H5 l2 (.lst [x])=J2 at ai aB ⊢;refine⟨l1,l2,_,_,rfl,rfl,ai _ _ (KT.lst aq),aB,aM (by rw[Am];show _ + 1≤1000000;omega),fun l3 n3=>?_⟩;have am:=aK (o:=.lst (ys.take n ++ [x])) n3;have ba:=aH (H:=J2) (a:=l3) (o:=.lst (ys.take n ++ [x]));generalize upd J2 l3 (.lst (ys.take n ++ [x]))=J3 at am ba ⊢;refine⟨_,rfl,_,rfl,_,rfl,rw,ys,rfl,aU (am _ _ (ai _ _ (K5.lst hrw))),fun l4 n4=>?_⟩;have ap:=aK (o:=.lst (dQ ys (some (n:Int)) none)) n4;have ay:=aH (H:=J3) (a:=l4) (o:=.lst (dQ ys (some (n:Int)) none));generalize upd J3 l4 (.lst (dQ ys (some (n:Int)) none))=J4 at ap ay ⊢;rw[eQ (α:=Nat)]at ay;refine⟨l3,l4,_,_,rfl,rfl,ap _ _ ba,ay,aM (by simp only[Ak,Am,AZ,AM,By];omega),fun l5 n5 m5=>?_⟩;have br:=aK (o:=.lst (ys.take n ++ [x] ++ ys.drop n)) n5;have sE:=((ai.trans am).trans ap).trans br;have fq:c6 H5 ys us fs:=⟨hR.len,fun i x hx=>by obtain⟨u,a,b,c⟩:=hR.at' i x hx;exact⟨u,a,b.keep K5,c⟩⟩
   obtain⟨d',od,rn⟩:=bad.no;obtain⟨y1,y2⟩:=yQ aH m5 (fq.same sE) h40 ⟨false,d,.inl (.inl (cD.same sE)),aGg cD,.no od rn⟩ ⟨_,.inl (.of (cD.same sE)),bad.ok⟩ (.inl (by simp));exact k _ _ _ y1 y2 (by omega) (by omega) (ax.same sE) (k5.same sE)
  refine⟨_,rfl,rfl,_,rfl,dH (fun g3=>?_) fun g3=>?_⟩
  ·have cy:=K4.lst hsp;have dm:=h3.but hp k4;obtain⟨h0,hh0⟩:∃ z,hs[0]?=some z:=⟨_,Af (by have:=dm.h1;omega)⟩
   have cz:(hs.map V.str)[0]?=some (.str h0):=by rw[AC,hh0];rfl
   have bv:=dm.nh.ok h0 (Ax hh0);have l41:=spr.l41;have l78:=spr.l78;refine⟨_,rfl,sp,rfl,⟨_,aU cy⟩,?_⟩;refine jY (K:=K) (xs:=ss.map V.str) (fun i zs σ H'=>∃(a5:Int) (vs:List bV),c6 H' zs vs fs∧vs.map (·.name)=ss.take i∧cJ H' p c ns a5∧a4≤a5∧a5≤a4 + i∧aQ p H4 H'∧∃ o,σ=[o,some (.ref p),some (.ref lh)]) ⟨a4,[],⟨rfl,fun i x hx=>by simp at hx⟩,by simp,aD,by omega,by omega,aQ.refl p H4,none,rfl⟩ (aM (by rw[Ab];omega)) (fun i zs σ H' h=>by
    obtain⟨_,vs,hr,hn,_⟩:=h;have h2:=congrArg EB hn;rw[Ab,Am]at h2;rw[hr.len];omega) (fun i zs σ H' h=>by
    obtain⟨_,_,_,_,_,_,_,kk,_⟩:=h;exact aU (bQ cy aD kk)) ?_ ?_
   ·rintro i y zs σ H5 hy ⟨a5,vs,hr,hn,ax,bR,bD,kk,o,rfl⟩;obtain⟨w',hw,rfl⟩:∃ w',ss[i]?=some w'∧V.str w'=y:=by
     rw[AC]at hy;exact CG.mp hy
    have hi:i < ss.length:=(AR.mp hw).1;have nw:=spr.nm w' (Ax hw);dsimp only[cC];refine c8 ⟨_,rfl,_,rfl,p,c,ns,a5,_,rfl,ax,by omega,by decide,by decide,fun r a6 H6 r0 r1 im ik dk k6=>?_⟩;have eK:=kk.trans k6;have K6:Kp _ _:=fN ax k6;refine⟨_,rfl,lh,_,0,_,rfl,rfl,aU (bQ dm.h aD eK),bS (j:=0) cz,zZ4,fun q nq=>?_⟩;have sq:=aK (o:=.tup [V.str "alone",.str w',.int r,.str h0]) nq;refine⟨a6,vs ++ [⟨"alone",w',r,[.str h0]⟩],((hr.onN K6).same sq).snocN (.tup aH (by show 4≤1000;decide) (.cons (.str _ (by decide)) (.cons (.str _ (by have:=dA nw;omega)) (.cons (.int _) (.cons (.str _ (by have:=dA bv;omega)) .nil))))) (aAU nw bv r0 (by omega)),?_,dk.same sq,by omega,by omega,eK.same sq,_,rfl⟩;rw[AS,hn,Bn,hw];rfl
   rintro zs σ H5 ⟨a5,vs,hr,hn,ax,bR,bD,kk,o,rfl⟩ D hD;rw[Ab,B8]at hn;rw[Ab]at bD;have hY:vs.length=ss.length:=by have:=congrArg EB hn;rw[Ab]at this;exact this
   have hS:=hr.len;have sD:=aK (o:=.lst zs) hD;have eR:=aH (H:=H5) (a:=D) (o:=.lst zs);have k5:=(k4.trans kk).same sD;have ax:=ax.same sD;have hr:=hr.same sD;generalize upd H5 D (.lst zs)=H6 at eR k5 ax hr ⊢;have K6:Kp _ _:=fN hp k5;dsimp only[cC];refine⟨_,rfl,_,rfl,D,rw,_,_,rfl,rfl,eR,K6.lst hrw,aM (by omega),fun l1 n1=>?_⟩;have ad:=aK (o:=.lst (zs ++ ys)) n1;have aq:=aH (H:=H6) (a:=l1) (o:=.lst (zs ++ ys));generalize upd H6 l1 (.lst (zs ++ ys))=J1 at ad aq ⊢;refine⟨_,rfl,l1,_,rfl,aU aq,fun l2 n2=>?_⟩;have ai:=aK (o:=.lst (dQ (zs ++ ys) none (some 41))) n2;have aB:=aH (H:=J1) (a:=l2) (o:=.lst (dQ (zs ++ ys) none (some 41)));rw[show dQ (zs ++ ys) none (some 41)=zs.take 41 from(gM (α:=Nat) _ 41).trans (List.take_append_of_le_length (by omega))]at aB ai ⊢;have sE:=ad.trans ai;obtain⟨y1,y2⟩:=aHm aB ((hr.same sE).takeN 41) (by rw[Am];omega) (by rw[List.map_take,hn];exact spr.nd.sublist (Fx _ _));exact k _ _ _ y1 y2 (by omega) (by omega) (ax.same sE) (k5.same sE)
  refine⟨_,rfl,rfl,_,rfl,dH (fun g4=>?_) fun g4=>?_⟩
  ·refine fun c3 n3=>?_;have am:=aK (o:=.dK []) n3;have f3:=aH (H:=H4) (a:=c3) (o:=.dK []);generalize upd H4 c3 (.dK [])=H6 at am f3 ⊢;refine fun c4 n4=>?_;have ap:=aK (o:=.dK []) n4;refine⟨aH,[(Aw "a",.int 1)],rfl,by show 1≤15;decide,zZ7,fun L nL=>?_⟩;have dl:H4 c4=none:=yP am n4;have eN:aY H4 (upd (upd H6 c4 (.dK [])) c4 (.dK (gJ [] [(Aw "a",V.int 1)]))):=iA (am.trans ap) dl _;have gy:aY H6 (upd (upd H6 c4 (.dK [])) c4 (.dK (gJ [] [(Aw "a",V.int 1)]))):=iA ap n4 _;have f4:=aH (H:=upd H6 c4 (.dK [])) (a:=c4) (o:=.dK (gJ [] [(Aw "a",V.int 1)]));have f3:=gy _ _ f3;generalize upd (upd H6 c4 (.dK [])) c4 (.dK (gJ [] [(Aw "a",V.int 1)]))=H7 at eN f3 f4 nL ⊢;have sL:=aK (o:=.lst [V.non,.bl true,.int 7,.str "",.ref c3,.ref c4,.str "alone a 0 b"]) nL;have eL:=aH (H:=H7) (a:=L) (o:=.lst [V.non,.bl true,.int 7,.str "",.ref c3,.ref c4,.str "alone a 0 b"]);have f3:=sL _ _ f3;have f4:=sL _ _ f4;have sA:=eN.trans sL;generalize upd H7 L (.lst [V.non,.bl true,.int 7,.str "",.ref c3,.ref c4,.str "alone a 0 b"])=H8 at sA f3 f4 eL ⊢;refine⟨_,rfl,p,c,ns,a4,_,rfl,aD.same sA,by omega,by decide,by decide,fun r a5 b0 r0 ez bR bD eS k5=>?_⟩;have K6:Kp _ _:=fN (aD.same sA) k5;have gh:aQ p H b0:=(k4.same sA).trans k5;have gt:c4≠p:=by
    obtain⟨⟨l,_,e'⟩,_,_,_⟩:=aD;exact fun y=>by rw[y,e']at dl;cases dl
   have ew:b0 c4=some (.dK [(Aw "a",V.int 1)]):=k5 _ _ f4 gt;obtain⟨v,hv,z1,z2⟩:∃ v,atI [V.non,.bl true,.int 7,.str "",.ref c3,.ref c4,.str "alone a 0 b"] r=some v∧nJ b0 fs v∧Shw 700000 4 b0 v:=by
    have e9:r=0∨r=1∨r=2∨r=3∨r=4∨r=5∨r=6:=by omega
    rcases e9 with rfl | rfl | rfl | rfl | rfl | rfl | rfl
    ·exact⟨_,bS (j:=0) rfl,.odd (m:=true) (.inl .non) rfl,_,.inr .non,by decide,by decide,by decide⟩
    ·exact⟨_,bS (j:=1) rfl,.odd (m:=true) (.inl (.bl true)) rfl,_,.inr (.bl true),by decide,by decide,by decide⟩
    ·exact⟨_,bS (j:=2) rfl,.odd (m:=true) (.inl (.int 7)) rfl,_,.inr (.int 7),by decide,by decide,by decide⟩
    ·exact⟨_,bS (j:=3) rfl,.odd (m:=true) (.inl (.str _ (by decide))) rfl,_,.inr (.str _ (by decide)),by decide,by decide,by decide⟩
    ·have q:b0 c3=some (.dK []):=K6 _ _ f3 (fun _ _ z=>nomatch z);exact⟨_,bS (j:=4) rfl,.odd (m:=false) (.inl (.dct rfl q)) rfl,_,.inl (.dc0 q),by decide,by decide,by decide⟩
    ·exact⟨_,bS (j:=5) rfl,.odd (m:=false) (.inr ⟨rfl,c4,_,rfl,ew⟩) rfl,_,.inl (.dc1 ew (.int 1)),by decide,by decide,by decide⟩
    ·exact⟨_,bS (j:=6) rfl,.odd (m:=true) (.inl (.str _ (by decide))) rfl,_,.inr (.str _ (by decide)),by decide,by decide,by decide⟩
   exact⟨L,_,_,v,rfl,rfl,aU (K6.lst eL),hv,k _ _ _ z1 z2 (by omega) (by omega) eS gh⟩
  refine⟨zZ0,fun c1 fb=>?_⟩;have eP:=aK (o:=.lst ([]:List V)) fb;have J:=aH (H:=H4) (a:=c1) (o:=.lst ([]:List V));generalize upd H4 c1 (.lst ([]:List V))=M1 at eP J  ⊢;refine⟨zZ0,fun c2 fy=>?_⟩;have dc:=aK (o:=.tup ([]:List V)) fy;have O:=aH (H:=M1) (a:=c2) (o:=.tup ([]:List V));have J:=dc _ _ J;generalize upd M1 c2 (.tup ([]:List V))=M2 at dc O J ⊢;refine fun c3 fP=>?_;have cg:=aK (o:=.dK []) fP;have U:=aH (H:=M2) (a:=c3) (o:=.dK []);have J:=cg _ _ J;have O:=cg _ _ O;generalize upd M2 c3 (.dK [])=M3 at cg U J O ⊢;refine⟨zZ7,fun L1 gw=>?_⟩;have b5:=aK (o:=.lst [V.non,.bl true,.int 7,.str "",.ref c1,.ref c2,.ref c3]) gw;have W:=aH (H:=M3) (a:=L1) (o:=.lst [V.non,.bl true,.int 7,.str "",.ref c1,.ref c2,.ref c3]);have J:=b5 _ _ J;have O:=b5 _ _ O;have U:=b5 _ _ U;generalize upd M3 L1 (.lst [V.non,.bl true,.int 7,.str "",.ref c1,.ref c2,.ref c3])=M4 at b5 W J O U ⊢;dsimp only[cC];refine⟨_,rfl,zZ3,fun t1 gr=>?_⟩;have bF:=aK (o:=.tup [V.str "alone",.str "a",.int 0]) gr;have Y:=aH (H:=M4) (a:=t1) (o:=.tup [V.str "alone",.str "a",.int 0]);have J:=bF _ _ J;have O:=bF _ _ O;have U:=bF _ _ U;have W:=bF _ _ W;generalize upd M4 t1 (.tup [V.str "alone",.str "a",.int 0])=M5 at bF Y J O U W ⊢;refine⟨zZ4,fun t2 gc=>?_⟩;have bu:=aK (o:=.tup [V.str "alone",.str "A",.int 0,.str "b"]) gc;have Z:=aH (H:=M5) (a:=t2) (o:=.tup [V.str "alone",.str "A",.int 0,.str "b"]);have J:=bu _ _ J;have O:=bu _ _ O;have U:=bu _ _ U;have W:=bu _ _ W;have Y:=bu _ _ Y;generalize upd M5 t2 (.tup [V.str "alone",.str "A",.int 0,.str "b"])=M6 at bu Z J O U W Y ⊢
  refine⟨zZ4,fun t3 fo=>?_⟩;have bo:=aK (o:=.tup [V.str "alone",.str "a",.int 10000,.str "b"]) fo;have aa:=aH (H:=M6) (a:=t3) (o:=.tup [V.str "alone",.str "a",.int 10000,.str "b"]);have J:=bo _ _ J;have O:=bo _ _ O;have U:=bo _ _ U;have W:=bo _ _ W;have Y:=bo _ _ Y;have Z:=bo _ _ Z;generalize upd M6 t3 (.tup [V.str "alone",.str "a",.int 10000,.str "b"])=M7 at bo aa J O U W Y Z ⊢;refine⟨zZ3,fun L2 gb=>?_⟩;have bg:=aK (o:=.lst [V.ref t1,.ref t2,.ref t3]) gb;have ac:=aH (H:=M7) (a:=L2) (o:=.lst [V.ref t1,.ref t2,.ref t3]);have J:=bg _ _ J;have O:=bg _ _ O;have U:=bg _ _ U;have W:=bg _ _ W;have Y:=bg _ _ Y;have Z:=bg _ _ Z;have aa:=bg _ _ aa;generalize upd M7 L2 (.lst [V.ref t1,.ref t2,.ref t3])=M8 at bg ac J O U W Y Z aa ⊢;refine⟨L1,L2,_,_,rfl,rfl,W,ac,(show 7 + 3≤F2 from aM (by decide)),fun L3 gq=>?_⟩;have bd:=aK (o:=.lst ([V.non,.bl true,.int 7,.str "",.ref c1,.ref c2,.ref c3] ++ [V.ref t1,.ref t2,.ref t3])) gq;have ae:=aH (H:=M8) (a:=L3) (o:=.lst ([V.non,.bl true,.int 7,.str "",.ref c1,.ref c2,.ref c3] ++ [V.ref t1,.ref t2,.ref t3]));have J:=bd _ _ J;have O:=bd _ _ O;have U:=bd _ _ U;have W:=bd _ _ W;have Y:=bd _ _ Y;have Z:=bd _ _ Z;have aa:=bd _ _ aa;have ac:=bd _ _ ac;generalize upd M8 L3 (.lst ([V.non,.bl true,.int 7,.str "",.ref c1,.ref c2,.ref c3] ++ [V.ref t1,.ref t2,.ref t3]))=M9 at bd ae J O U W Y Z aa ac ⊢;dsimp only[cC];refine⟨_,rfl,zZ1,fun w1 gz=>?_⟩;have aR:=aK (o:=.lst [V.str "a"]) gz;have af:=aH (H:=M9) (a:=w1) (o:=.lst [V.str "a"]);have J:=aR _ _ J;have O:=aR _ _ O
  have U:=aR _ _ U;have W:=aR _ _ W;have Y:=aR _ _ Y;have Z:=aR _ _ Z;have aa:=aR _ _ aa;have ac:=aR _ _ ac;have ae:=aR _ _ ae;generalize upd M9 w1 (.lst [V.str "a"])=eE at aR af J O U W Y Z aa ac ae ⊢;refine⟨zZ4,fun t4 fC=>?_⟩;have aE:=aK (o:=.tup [V.str "alone",.ref w1,.int 0,.str "b"]) fC;have ag:=aH (H:=eE) (a:=t4) (o:=.tup [V.str "alone",.ref w1,.int 0,.str "b"]);have J:=aE _ _ J;have O:=aE _ _ O;have U:=aE _ _ U;have W:=aE _ _ W;have Y:=aE _ _ Y;have Z:=aE _ _ Z;have aa:=aE _ _ aa;have ac:=aE _ _ ac;have ae:=aE _ _ ae;have af:=aE _ _ af;generalize upd eE t4 (.tup [V.str "alone",.ref w1,.int 0,.str "b"])=eg at aE ag J O U W Y Z aa ac ae af ⊢;refine fun d1 gD=>?_;have aC:=aK (o:=.dK []) gD;have ah:=aH (H:=eg) (a:=d1) (o:=.dK []);have J:=aC _ _ J;have O:=aC _ _ O;have U:=aC _ _ U;have W:=aC _ _ W;have Y:=aC _ _ Y;have Z:=aC _ _ Z;have aa:=aC _ _ aa;have ac:=aC _ _ ac;have ae:=aC _ _ ae;have af:=aC _ _ af;have ag:=aC _ _ ag;generalize upd eg d1 (.dK [])=ef at aC ah J O U W Y Z aa ac ae af ag ⊢;refine⟨zZ2,fun tt ft=>?_⟩;have aA:=aK (o:=.tup [V.ref d1,.str "b"]) ft;have aj:=aH (H:=ef) (a:=tt) (o:=.tup [V.ref d1,.str "b"]);have J:=aA _ _ J;have O:=aA _ _ O;have U:=aA _ _ U;have W:=aA _ _ W;have Y:=aA _ _ Y;have Z:=aA _ _ Z;have aa:=aA _ _ aa;have ac:=aA _ _ ac;have ae:=aA _ _ ae;have af:=aA _ _ af;have ag:=aA _ _ ag;have ah:=aA _ _ ah;generalize upd ef tt (.tup [V.ref d1,.str "b"])=em at aA aj J O U W Y Z aa ac ae af ag ah ⊢;refine⟨zZ5,fun t5 fz=>?_⟩;have aw:=aK (o:=.tup [V.str "join",.str "a",.int 0,.ref tt,.str "c"]) fz
  have ar:=aH (H:=em) (a:=t5) (o:=.tup [V.str "join",.str "a",.int 0,.ref tt,.str "c"]);have J:=aw _ _ J;have O:=aw _ _ O;have U:=aw _ _ U;have W:=aw _ _ W;have Y:=aw _ _ Y;have Z:=aw _ _ Z;have aa:=aw _ _ aa;have ac:=aw _ _ ac;have ae:=aw _ _ ae;have af:=aw _ _ af;have ag:=aw _ _ ag;have ah:=aw _ _ ah;have aj:=aw _ _ aj;generalize upd em t5 (.tup [V.str "join",.str "a",.int 0,.ref tt,.str "c"])=ey at aw ar J O U W Y Z aa ac ae af ag ah aj ⊢;refine fun d2 fw=>?_;have av:=aK (o:=.dK []) fw;have az:=aH (H:=ey) (a:=d2) (o:=.dK []);have J:=av _ _ J;have O:=av _ _ O;have U:=av _ _ U;have W:=av _ _ W;have Y:=av _ _ Y;have Z:=av _ _ Z;have aa:=av _ _ aa;have ac:=av _ _ ac;have ae:=av _ _ ae;have af:=av _ _ af;have ag:=av _ _ ag;have ah:=av _ _ ah;have aj:=av _ _ aj;have ar:=av _ _ ar;generalize upd ey d2 (.dK [])=dv at av az J O U W Y Z aa ac ae af ag ah aj ar ⊢;refine⟨zZ1,fun w2 gj dV=>?_⟩;have au:=aK (o:=.lst [V.str "b"]) gj;have bb:=aH (H:=dv) (a:=w2) (o:=.lst [V.str "b"]);have J:=au _ _ J;have O:=au _ _ O;have U:=au _ _ U;have W:=au _ _ W;have Y:=au _ _ Y;have Z:=au _ _ Z;have aa:=au _ _ aa;have ac:=au _ _ ac;have ae:=au _ _ ae;have af:=au _ _ af;have ag:=au _ _ ag;have ah:=au _ _ ah;have aj:=au _ _ aj;have ar:=au _ _ ar;have az:=au _ _ az;generalize upd dv w2 (.lst [V.str "b"])=ec at au bb J O U W Y Z aa ac ae af ag ah aj ar az ⊢;refine⟨zZ4,fun t6 fa=>?_⟩;have ao:=aK (o:=.tup [V.str "alone",.ref d2,.int 0,.ref w2]) fa;have bj:=aH (H:=ec) (a:=t6) (o:=.tup [V.str "alone",.ref d2,.int 0,.ref w2])
  have J:=ao _ _ J;have O:=ao _ _ O;have U:=ao _ _ U;have W:=ao _ _ W;have Y:=ao _ _ Y;have Z:=ao _ _ Z;have aa:=ao _ _ aa;have ac:=ao _ _ ac;have ae:=ao _ _ ae;have af:=ao _ _ af;have ag:=ao _ _ ag;have ah:=ao _ _ ah;have aj:=ao _ _ aj;have ar:=ao _ _ ar;have az:=ao _ _ az;have bb:=ao _ _ bb;generalize upd ec t6 (.tup [V.str "alone",.ref d2,.int 0,.ref w2])=d3 at ao bj J O U W Y Z aa ac ae af ag ah aj ar az bb ⊢;refine⟨zZ3,fun L4 fL=>?_⟩;have an:=aK (o:=.lst [V.ref t4,.ref t5,.ref t6]) fL;have b9:=aH (H:=d3) (a:=L4) (o:=.lst [V.ref t4,.ref t5,.ref t6]);have J:=an _ _ J;have O:=an _ _ O;have U:=an _ _ U;have W:=an _ _ W;have Y:=an _ _ Y;have Z:=an _ _ Z;have aa:=an _ _ aa;have ac:=an _ _ ac;have ae:=an _ _ ae;have af:=an _ _ af;have ag:=an _ _ ag;have ah:=an _ _ ah;have aj:=an _ _ aj;have ar:=an _ _ ar;have az:=an _ _ az;have bb:=an _ _ bb;have bj:=an _ _ bj;generalize upd d3 L4 (.lst [V.ref t4,.ref t5,.ref t6])=ej at an b9 J O U W Y Z aa ac ae af ag ah aj ar az bb bj ⊢;refine⟨L3,L4,_,_,rfl,rfl,ae,b9,(show 10 + 3≤F2 from aM (by decide)),fun L5 fx=>?_⟩;have ak:=aK (o:=.lst ([V.non,.bl true,.int 7,.str "",.ref c1,.ref c2,.ref c3] ++ [V.ref t1,.ref t2,.ref t3] ++ [V.ref t4,.ref t5,.ref t6])) fx;have en:=aH (H:=ej) (a:=L5) (o:=.lst ([V.non,.bl true,.int 7,.str "",.ref c1,.ref c2,.ref c3] ++ [V.ref t1,.ref t2,.ref t3] ++ [V.ref t4,.ref t5,.ref t6]));have J:=ak _ _ J;have O:=ak _ _ O;have U:=ak _ _ U;have W:=ak _ _ W;have Y:=ak _ _ Y;have Z:=ak _ _ Z;have aa:=ak _ _ aa;have ac:=ak _ _ ac
  have ae:=ak _ _ ae;have af:=ak _ _ af;have ag:=ak _ _ ag;have ah:=ak _ _ ah;have aj:=ak _ _ aj;have ar:=ak _ _ ar;have az:=ak _ _ az;have bb:=ak _ _ bb;have bj:=ak _ _ bj;have b9:=ak _ _ b9;generalize upd ej L5 (.lst ([V.non,.bl true,.int 7,.str "",.ref c1,.ref c2,.ref c3] ++ [V.ref t1,.ref t2,.ref t3] ++ [V.ref t4,.ref t5,.ref t6]))=dz at ak en J O U W Y Z aa ac ae af ag ah aj ar az bb bj b9 ⊢;dsimp only[cC];have sA:=((((((((((((((((((eP.trans dc).trans cg).trans b5).trans bF).trans bu).trans bo).trans bg).trans bd).trans aR).trans aE).trans aC).trans aA).trans aw).trans av).trans au).trans ao).trans an).trans ak)
  have eA:=k4.same sA;have ea:=aD.same sA;have fT:Kp _ _:=fN hp eA;refine⟨_,rfl,_,rfl,_,rfl,rw,ys,rfl,aU (fT.lst hrw),fun l1 n1=>?_⟩;have ad:=aK (o:=.lst (dQ ys none (some (n:Int)))) n1;have aq:=aH (H:=dz) (a:=l1) (o:=.lst (dQ ys none (some (n:Int))));generalize upd dz l1 (.lst (dQ ys none (some (n:Int))))=J1 at ad aq ⊢;rw[gM (α:=Nat)]at aq;have cc:=eA.same ad;have cx:=ea.same ad;refine⟨_,rfl,_,rfl,p,c,ns,a4,_,rfl,cx,by omega,by decide,by decide,fun r a5 H5 r0 ez bR bD ax b2=>?_⟩;have KT:Kp _ _:=fN cx b2;have k5:=cc.trans b2;have K5:Kp _ _:=fN hp k5;obtain⟨m,rfl⟩:∃ m:Nat,r=(m:Int):=⟨r.toNat,by omega⟩
  obtain⟨x,hx⟩:∃ x,([V.non,.bl true,.int 7,.str "",.ref c1,.ref c2,.ref c3] ++ [V.ref t1,.ref t2,.ref t3] ++ [V.ref t4,.ref t5,.ref t6])[m]?=some x:=⟨_,Af (by show m < 13;omega)⟩
  have ee:aD3 H5 fs x:=aJ3 (fs:=fs) (KT.lst (ad _ _ J)) (KT.tup (ad _ _ O)) (KT _ _ (ad _ _ U) (fun _ _ z=>nomatch z)) (KT.tup (ad _ _ Y)) (KT.tup (ad _ _ Z)) (KT.tup (ad _ _ aa)) (KT.lst (ad _ _ af)) (KT.tup (ad _ _ ag)) (KT _ _ (ad _ _ ah) (fun _ _ z=>nomatch z)) (KT.tup (ad _ _ aj)) (KT.tup (ad _ _ ar)) (KT _ _ (ad _ _ az) (fun _ _ z=>nomatch z)) (KT.lst (ad _ _ bb)) dV (KT.tup (ad _ _ bj)) x (Ax hx);refine⟨L5,_,_,x,rfl,rfl,aU (KT.lst (ad _ _ en)),bS hx,zZ1,fun l2 n2=>?_⟩;have ai:=aK (o:=.lst [x]) n2;have aB:=aH (H:=H5) (a:=l2) (o:=.lst [x]);generalize upd H5 l2 (.lst [x])=J2 at ai aB ⊢;refine⟨l1,l2,_,_,rfl,rfl,ai _ _ (KT.lst aq),aB,aM (by rw[Am];show _ + 1≤1000000;omega),fun l3 n3=>?_⟩;have am:=aK (o:=.lst (ys.take n ++ [x])) n3;have ba:=aH (H:=J2) (a:=l3) (o:=.lst (ys.take n ++ [x]));generalize upd J2 l3 (.lst (ys.take n ++ [x]))=J3 at am ba ⊢;refine⟨_,rfl,_,rfl,_,rfl,rw,ys,rfl,aU (am _ _ (ai _ _ (K5.lst hrw))),fun l4 n4=>?_⟩;have ap:=aK (o:=.lst (dQ ys (some (n:Int)) none)) n4;have ay:=aH (H:=J3) (a:=l4) (o:=.lst (dQ ys (some (n:Int)) none));generalize upd J3 l4 (.lst (dQ ys (some (n:Int)) none))=J4 at ap ay ⊢;rw[eQ (α:=Nat)]at ay;refine⟨l3,l4,_,_,rfl,rfl,ap _ _ ba,ay,aM (by simp only[Ak,Am,AZ,AM,By];omega),fun l5 n5 m5=>?_⟩;have br:=aK (o:=.lst (ys.take n ++ [x] ++ ys.drop n)) n5;have sE:=((ai.trans am).trans ap).trans br;obtain⟨tv,sv⟩:=ee.same sE;obtain⟨y1,y2⟩:=yQ aH m5 ((hR.onN K5).same sE) h40 tv sv (.inl (by simp));exact k _ _ _ y1 y2 (by omega) (by omega) (ax.same sE) (k5.same sE)
theorem aHW{P:Ay}{w:AV}{X:Cx}:pB (CXr P w) X E0:=fun _ _ _ _ _ _ _ ⟨_,_,_,_,_,q⟩=>q.elim
inductive aCZ(K:Ag)(vs:List V)(H:Hp)(Q:VK)(u3_:XK):Prop
 | mk (a:Ah) (ns:List Int) (q0:vs=[.ref a]) (q1:SqL K H a (ns.map V.int)) (q2:ns.length≤63) (q3:∀ H',Q (.bl true) H'):aCZ K vs H Q u3_
def aC0(K:Ag):Sp:=fun vs H Q u3_=>aCZ K vs H Q u3_
def spN(k:Nat):Str:=mk [122 - k / 26,113,97 + k % 26]
def dP:List Str:=(AL 78).map spN
theorem aAX:∀ z∈dP,bW z=true:=by decide
theorem aD5:dP.Nodup:=by decide
theorem o7(c:Nat):(AL 78).countP (fun k=>decide (97 + k % 26=c))≤3:=by
 by_cases h:97≤c∧c < 123
 ·have key:∀ d < 26,(AL 78).countP (fun k=>decide (97 + k % 26=97 + d))≤3:=by decide
  have:=key (c - 97) (by omega);rw[show 97 + (c - 97)=c by omega]at this;exact this
 ·have:(AL 78).countP (fun k=>decide (97 + k % 26=c))=0:=by
   rw[List.countP_eq_zero];intro k _ z;have:=Ie z;omega
  omega
theorem aBY{J rs:List Str}(hw:Thr J)(U:Thr rs):41≤(dP.filter fun z=>decide (z ∉ J) && decide (z ∉ rs)).length:=by
 obtain⟨c1,c2,h1⟩:=hw;obtain⟨c3,c4,h2⟩:=U;have e:=List.length_eq_countP_add_countP (fun z=>decide (z ∉ J) && decide (z ∉ rs)) (l:=dP);rw[List.countP_eq_length_filter]at e;have Z:dP.length=78:=by unfold dP;rw[Ab,BF]
 have hc:(dP.countP fun z=>decide ¬((decide (z ∉ J) && decide (z ∉ rs))=true))≤12:=by
  unfold dP;rw[List.countP_map];refine Bc (List.countP_mono_left (q:=fun k=>(decide (97 + k % 26=c1) || decide (97 + k % 26=c2)) || (decide (97 + k % 26=c3) || decide (97 + k % 26=c4))) fun k _ z=>?_) ?_
  ·have z:¬((decide (spN k ∉ J) && decide (spN k ∉ rs))=true):=Ie z;by_cases g:spN k∈J
   ·rcases h1 _ _ _ g with h | h <;> simp[h]
   ·by_cases O:spN k∈rs
    ·rcases h2 _ _ _ O with h | h <;> simp[h]
    ·simp[g,O]at z
  ·have F:∀(p q:Nat→Bool) (l:List Nat),l.countP (fun k=>p k || q k)≤l.countP p + l.countP q:=fun p q l=>by
    induction l with
    | nil=>simp
    | cons x l ih=>
     simp only[FK];cases p x <;> cases q x <;> simp <;> omega
   have a1:=F (fun k=>decide (97 + k % 26=c1) || decide (97 + k % 26=c2)) (fun k=>decide (97 + k % 26=c3) || decide (97 + k % 26=c4)) (AL 78);have a2:=F (fun k=>decide (97 + k % 26=c1)) (fun k=>decide (97 + k % 26=c2)) (AL 78);have a3:=F (fun k=>decide (97 + k % 26=c3)) (fun k=>decide (97 + k % 26=c4)) (AL 78);have Y:=o7 c1;have b2:=o7 c2;have b3:=o7 c3;have W:=o7 c4;omega
 omega
theorem aI2:∀ i:Nat,i < 78→atI ("zyx":Str).cps.toList ((0 + (i:Int)) / 26)=some (122 - i / 26):=by decide
theorem aI3:∀ i:Nat,i < 78→atI ("abcdefghijklmnopqrstuvwxyz":Str).cps.toList ((0 + (i:Int)) % 26)=some (97 + i % 26):=by decide
theorem aI4(c d:Nat):((⟨#[c]⟩:Str) ++ "q") ++ ⟨#[d]⟩=mk [c,113,d]:=by
 have h:("q":Str)=mk [113]:=by decide
 rw[h];show(mk [c] ++ mk [113]) ++ mk [d]=_;rw[uC,uC];rfl
theorem nV:∀{z:List Aj},yK z→z.map (dB 1)=z
 | [],_=>rfl
 | d :: r,h=>by
  rw[A3,nV fun e F=>h e (AK _ F)];obtain⟨f,g,a,i,rfl,_⟩:=i9 (h d AF).1;rfl
theorem aGh{z:List Aj}(h:yK z)(l1:1≤z.length)(l8:z.length≤8)(nd:(z.map dD).Nodup):mZ (.tuple z)=true:=by
 show(decide (1≤z.length∧z.length≤8) && z.all cR && decide (z.map dD).Nodup)=true;rw[Ic ⟨l1,l8⟩,Ic nd,Bg.mpr fun d hd=>(h d hd).1];rfl
theorem aGi{F rs:List Str}{us:List bV}(hw:Thr F)(J:Thr rs)(O:∀ z∈us.map (·.name),z∈rs):aHV (dP.filter fun z=>decide (z ∉ F) && decide (z ∉ rs)) F us:=by
 have key:∀ z∈dP.filter (fun z=>decide (z ∉ F) && decide (z ∉ rs)),z∈dP∧z ∉ F∧z ∉ rs:=fun z hz=>by
  obtain⟨h1,h2⟩:=F0.mp hz;rw[AX]at h2;exact⟨h1,Ie h2.1,Ie h2.2⟩
 refine⟨fun z hz=>aAX z (key z hz).1,aD5.sublist List.filter_sublist,fun z hz=>(key z hz).2.1,fun z hz h=>(key z hz).2.2 (O z h),aBY hw J,?_⟩;have:=List.length_filter_le (fun z=>decide (z ∉ F) && decide (z ∉ rs)) dP;have U:dP.length=78:=by unfold dP;rw[Ab,BF]
 omega
theorem aC1{us:List bV}(h:(us.map (·.name)).Nodup){u v:bV}(z:u∈us)(F:v∈us)(e:u.name=v.name):u=v:=by
 obtain⟨i,hi⟩:=Cw z;obtain⟨j,hj⟩:=Cw F;obtain⟨l1,e1⟩:=AR.mp hi;obtain⟨l2,e2⟩:=AR.mp hj;have:=(DY (xs:=us.map (·.name)) (h₀:=by simpa using l1) (h₁:=by simpa using l2) h).mp (by rw[C5,C5,e1,e2,e])
 subst this;rw[e1]at e2;exact e2
theorem aAY{us:List bV}(hn:(us.map (·.name)).Nodup)(J:us.length≤40):¬ (oW (us.map some)∨∃ vs:List bV,(vs.map (·.name)).Nodup∧(∀ r,r∈vs↔some r∈us.map some)∧40 < vs.length):=by
 have mem:∀{r:bV},some r∈us.map some→r∈us:=fun{r} h=>by
  obtain⟨v,F,e⟩:=Bb.mp h;injection e with e;rw[← e];exact F
 rintro((h | ⟨u,r,h1,h2,h3,h4⟩) | ⟨vs,h1,h2,h3⟩)
 ·obtain⟨v,_,e⟩:=Bb.mp h;cases e
 ·exact h4 (aC1 hn (mem h1) (mem h2) h3)
 ·have F:vs.Nodup:=Dw (fun h e=>h (by rw[e])) (BR.mp h1);have:=DJ F fun z hz=>mem ((h2 z).mp hz);omega
theorem w5{us vs:List bV}(hn:(us.map (·.name)).Nodup)(h1:(vs.map (·.name)).Nodup)(h2:∀ r,r∈vs↔some r∈us.map some):vs.Perm us:=by
 have a1:us.Nodup:=Dw (fun h e=>h (by rw[e])) (BR.mp hn);have a2:vs.Nodup:=Dw (fun h e=>h (by rw[e])) (BR.mp h1);refine(List.perm_ext_iff_of_nodup a2 a1).mpr fun z=>(h2 z).trans ?_;rw[Bb];exact⟨fun⟨v,hv,e⟩=>by injection e with e;rw[← e];exact hv,fun h=>⟨z,h,rfl⟩⟩
theorem aHo{z:List Aj}{os:List bV}{fs:List Str}(fl:yK z)(l8:z.length≤8)(ok:∀ u∈os,u.Ok fs)(F:os.length≤40):OkD 3000000 6 (aCQ z os):=by
 refine(OkD.tuple (b:=1000000) (k:=4) (n:=2) (fun d hd=>?_) (by show 2≤2;decide)).mono (by decide) (by decide);simp only[Al,AA,or_false]at hd;rcases hd with rfl | rfl
 ·exact(OkD.tuple (b:=5000) (k:=2) (n:=8) (kQ fl) l8).mono (by decide) (by decide)
 ·refine(OkD.tuple (b:=15259) (k:=3) (n:=40) (fun y J=>?_) (by rw[Ab];exact F)).mono (by decide) (by decide);obtain⟨u,hu,rfl⟩:=Bb.mp J;exact(ok u hu).okd.1
theorem aHp{H:Hp}{xs:List V}{us:List bV}{fs:List Str}{z:List Nat}{T:Ah}(h:c6 H xs us fs)(Z:us.length≤40)(O:aIZ xs.length z)(U:(H T=some (.lst (dE xs z))∧T≠Dq)∨H T=some (.tup (dE xs z))):∃ d,RdL H (.ref T) d∧RdV true H (.ref T) d∧OkD 1300000 4 d:=by
 have hl:=h.len;have Y:z.length≤80:=by have:=O.len;omega
 have all:∀ z:List Nat,(∀ j∈z,j < xs.length)→∃ ds,cF false H (dE xs z) ds∧cF true H (dE xs z) ds∧∀ d∈ds,OkD 15259 3 d:=fun z=>by
  induction z with
  | nil=>exact fun _=>⟨[],.nil,.nil,fun d hd=>by simp at hd⟩
  | cons j z ih=>
   intro J;obtain⟨ds,a,b,c⟩:=ih fun i hi=>J i (AK _ hi);have F:=J j AF;obtain⟨u,hu,rd,ok⟩:=h.at' j _ (Af F);have e:xs.getD j V.non=xs[j]:=by rw[Av,Af F];rfl
   refine⟨u.d :: ds,.cons (by show RdV false H (xs.getD j .non) _;rw[e];exact rd) a,.cons (by show RdV true H (xs.getD j .non) _;rw[e];exact rd.flip (lA ok.rs) true) b,fun d hd=>?_⟩;rcases Al.mp hd with rfl | hd
   ·exact ok.okd.1
   ·exact c d hd
 obtain⟨ds,rf,rt,ok⟩:=all z O.lt;have W:(dE xs z).length≤80:=by rw[Ab];exact Y
 have hd:ds.length≤80:=by rw[← rf.len];exact W
 rcases U with⟨e,n⟩ | e
 ·exact⟨.list ds,.lst e n (.of rf),.lst rfl e (by omega) rt,(OkD.list ok hd).mono (by decide) (by decide)⟩
 ·exact⟨.tuple ds,.tup e (.of rf),.tup e (by omega) rt,(OkD.tuple ok hd).mono (by decide) (by decide)⟩
theorem aC2{H:Hp}{h:Ah}{x y:V}(e:H h=some (.lst [x,y]))(n:h≠Dq)(k:(Shw 1300000 4 H x∧∃ d,RdL H y d∧RdV true H y d∧OkD 1300000 4 d)∨(∃ d,RdL H x d∧RdV true H x d∧OkD 1300000 4 d)∧Shw 1300000 4 H y):∃ d,(RdL H (.ref h) d∨RdV true H (.ref h) d)∧OkD 3000000 6 d:=by
 obtain⟨dx,F,r,ox,oy⟩:∃ dx F,(RdL H x dx∧RdL H y F∨RdV true H x dx∧RdV true H y F)∧OkD 1300000 4 dx∧OkD 1300000 4 F:=by
  rcases k with⟨⟨dx,r,ox⟩,F,a,b,oy⟩ | ⟨⟨dx,a,b,ox⟩,F,r,oy⟩
  ·exact⟨dx,F,r.imp (fun z=>⟨z,a⟩) fun z=>⟨z,b⟩,ox,oy⟩
  ·exact⟨dx,F,r.imp (fun z=>⟨a,z⟩) fun z=>⟨b,z⟩,ox,oy⟩
 refine⟨.list [dx,F],r.imp (fun z=>.lst e n (.cons z.1 (.cons z.2 .nil))) (fun z=>.lst rfl e (by show 2≤1000;decide) (.cons z.1 (.cons z.2 .nil))),(OkD.list (b:=1300000) (k:=4) (n:=2) (fun d hd=>?_) (by show 2≤2;decide)).mono (by decide) (by decide)⟩;simp only[Al,AA,or_false]at hd;rcases hd with rfl | rfl
 ·exact ox
 ·exact oy
theorem aHq{K:Ag}{F:Ah}{H:Hp}{x y:V}(h:uW H x):aHh K F H x y:=by
 obtain⟨m,d,r,n⟩:=h;exact fun Q E z=>.lay x y m d rfl r n z
theorem aGj{K:Ag}{DL:Ah}{H:Hp}{U:Ah}{F:List Aj}{fs:List Str}{y:V}(lay:RdV false H (.ref U) (.tuple F))(Z:dB 2 (.tuple F)=.tuple F)(J:mZ (.tuple F)=true)(O:F.all cR=true)(l8:F.length≤8)(hh:F.map dD=fs)(h:nJ H fs y):aHh K DL H (.ref U) y:=fun Q E Y=>by
 subst hh;cases h with
 | odd r n=>exact .rows (.ref U) y false _ _ rfl (.inl lay) (by rw[Z];exact J) (fun H' s=>(r.same s).ty) (by rw[mW,n]) Y
 | rows e h T l b=>
  subst e;refine .full (.ref U) _ false _ F _ _ rfl lay Z J O l8 (.inl h) l T (fun us n1 W no ac=>?_) fun _=>Y;exfalso;rcases b with(b | ⟨u,r,b1,b2,b3,b4⟩) | ⟨vs,b1,b2,b3⟩
  ·exact no _ b rfl
  ·exact b4 (aC1 n1 ((W u).mpr b1) ((W r).mpr b2) b3)
  ·have hv:vs.Nodup:=Dw (fun h e=>h (by rw[e])) (BR.mp b1);have:=DJ hv fun z hz=>(W z).mpr ((b2 z).mp hz);omega
theorem Shw.up{b k:Nat}{H H':Hp}{x:V}(h:Shw b k H x)(s:aY H H')(F:b≤1300000):Shw 1300000 k H' x:=by
 obtain⟨d,r,o⟩:=h;exact⟨d,r.imp (fun z=>z.same s) (fun z=>z.same s),o.mono F (Ap _)⟩
theorem uW.same{H H':Hp}{x:V}(h:uW H x)(s:aY H H'):uW H' x:=by
 obtain⟨m,d,r,n⟩:=h;exact⟨m,d,r.same s,n⟩
theorem nJ.same{H H':Hp}{fs:List Str}{y:V}(h:nJ H fs y)(s:aY H H'):nJ H' fs y:=by
 cases h with
 | odd r n=>exact .odd (r.same s) n
 | rows e h T l b=>exact .rows e (s _ _ h) (T.same s) l b
theorem aHX:bU ["_law_script","_law_pen_here","_law_fields","_law_plots","_law_houses","_law_names_here","_law_spare","_law_many","_law_days_here","_law_laying_here","_law_rows","_law_kept","_law_turn","_law_handed","_law_copied"] ["_law_script"] (aO qO):=⟨rfl,rfl,rfl,by decide,rfl,by decide,by decide⟩
theorem aI5{f fP bO fD cj fT fR cy fM b0 b4 ck DL:Ah}{fd dk bB d7 bF eh ea bL et bv bA bI:AH}(F:Fun K "law" "law" qO f fd)(az:mg "range"=none)(b7:mg "list"=none)(Y:mg "repr"=none)
  (GP:b8 P w K mg base CX0 1 fP dk ["_law_script"] (aHI K)) (mP:mg "_law_pen"=some (.ref fP)) (kP:Au K (.ref fP)=true) (bP:cZ K dk ["_law_script"] [])
  (gL:b8 P w K mg base CX0 3 bO bB ["_law_pen_here","_law_fields","_law_rows"] aCF) (hG:mg "_law_sorts"=some (.ref bO)) (hE:Au K (.ref bO)=true) (hh:cZ K bB ["_law_pen_here","_law_fields","_law_rows"] [])
  (GD:b8 P w K mg base CX0 2 fD d7 ["_law_pen_here","_law_many"] aFM) (mD:mg "_law_days"=some (.ref fD)) (kD:Au K (.ref fD)=true) (bD:cZ K d7 ["_law_pen_here","_law_many"] [])
  (gq:b8 P w K mg base CX0 3 cj bF ["_law_pen_here","_law_fields","_law_houses"] aCK) (gD:mg "_law_laying"=some (.ref cj)) (hI:Au K (.ref cj)=true) (hH:cZ K bF ["_law_pen_here","_law_fields","_law_houses"] [])
  (GT:b8 P w K mg base CX0 1 fT eh ["_law_pen_here","_law_many"] gQ) (mT:mg "_law_take"=some (.ref fT)) (kT:Au K (.ref fT)=true) (bT:cZ K eh ["_law_pen_here","_law_many"] [])
  (GR:b8 P w K mg base CX0 4 fR ea ["_law_pen_here","_law_name","_law_day","_law_sorts_here"] aHQ) (mR:mg "_law_row"=some (.ref fR)) (kR:Au K (.ref fR)=true) (bR:cZ K ea ["_law_pen_here","_law_name","_law_day","_law_sorts_here"] [])
  (dt:b8 P w K mg base (CXr P w) 12 cy bL ["laying","rows"] (yN K DL)) (ee:mg "roll_of"=some (.ref cy)) (dv:Au K (.ref cy)=true) (eb:cZ K bL ["laying","rows"] [])
  (GM:b8 P w K mg base CX0 2 fM et ["_law_pen_here","_law_things"] aCR) (mM:mg "_law_mixed"=some (.ref fM)) (kM:Au K (.ref fM)=true) (bM:cZ K et ["_law_pen_here","_law_things"] [])
  (hw:b8 P w K mg base CX0 2 b0 bv ["_law_pen_here","_law_laying_here","_law_spare"] uX) (fC:mg "_law_no_fields"=some (.ref b0)) (hf:Au K (.ref b0)=true) (gh:cZ K bv ["_law_pen_here","_law_laying_here","_law_spare"] [])
  (g3:b8 P w K mg base CX0 4 b4 bA ["_law_pen_here","_law_rows","_law_sorts_here","_law_spare"] aAV) (fO:mg "_law_no_rows"=some (.ref b4)) (ho:Au K (.ref b4)=true) (g4:cZ K bA ["_law_pen_here","_law_rows","_law_sorts_here","_law_spare"] [])
  (fz:b8 P w K mg base CX0 13 ck bI ["_law_laying_here","_law_rows"] (aCT K DL)) (hy:mg "_law_is_refused"=some (.ref ck)) (fF:Au K (.ref ck)=true) (fy:cZ K bI ["_law_laying_here","_law_rows"] [])
  :b8 P w K mg base CX0 14 f fd ["_law_script"] (aC0 K):=by
 refine F.ok aHX (fun vs H Q E h=>?_) (fun jb A outer s H vs Q E hr h=>?_)
 ·obtain⟨a,ns,rfl,_⟩:=h;rfl
 ·obtain⟨a,ns,rfl,hS,hns,k⟩:=h;have nd:=aHX.nd;have W:cQ 1 _:=hr.mono (by decide);have cf:cQ 2 _:=hr.mono (by decide);have d3:cQ 3 _:=hr.mono (by decide);have ez:cQ 4 _:=hr.mono (by decide);have bw:cQ 12 _:=hr.mono (by decide);refine⟨_,(aJ (aZ (i:=1) nd rfl (Ei rfl) (cV GP W rfl mP kP bP .nil fQ (aG (pv 0) aF)))
   (aJ (jN (cV gL d3 rfl hG hE hh .nil fQ (aG (pv 1) (aG (aX dF aI (cV GT W rfl mT kT bT .nil fQ (aG (pv 1) (aG aI aF)))) (aG aI aF)))) (nM rfl (cT (bJ (i:=2) nd rfl (Ei rfl)) (cT (bJ (i:=3) nd rfl (Ei rfl)) (cT (bJ (i:=4) nd rfl (Ei rfl)) (cT (bJ (i:=5) nd rfl (Ei rfl)) kW))))))
   (aJ (f9 (i:=6) (N:=["_law_k"]) (src:=[none]) (osc:=aO qO) (oN:=["_law_script","_law_pen_here","_law_fields","_law_plots","_law_houses","_law_names_here","_law_spare","_law_many","_law_days_here","_law_laying_here","_law_rows","_law_kept","_law_turn","_law_handed","_law_copied"]) ⟨by rfl,by decide,by decide,by decide,rfl,by rfl⟩ nd rfl (fE rfl az (aG aI aF)) (fun cl s H fp fc C=>⟨bJ (i:=0) (show(["_law_k"]:List Str).Nodup by decide) rfl (AE rfl),dY,aX gT (aX gT (bZ pC aT (aX w8 (pv 0) aI) Ig) aT) (bZ pC aT (aX f7 (pv 0) aI) Ig)⟩))
   (aJ (aZ (i:=7) nd rfl (AE rfl) (bZ cH (cW (aG (cV GT W rfl mT kT bT .nil fQ (aG (pv 1) (aG aI aF))) (aG (aX dF aI (cV GT W rfl mT kT bT .nil fQ (aG (pv 1) (aG aI aF)))) (aG aI aF)))) (cV GT W rfl mT kT bT .nil fQ (aG (pv 1) (aG aI aF))) Ig))
   (aJ (aZ (i:=8) nd rfl (Ei rfl) (cV GD cf rfl mD kD bD .nil fQ (aG (pv 1) (aG (pv 7) aF))))
   (aJ (aZ (i:=9) nd rfl (AE rfl) (cV gq d3 rfl gD hI hH .nil fQ (aG (pv 1) (aG (pv 2) (aG (pv 4) aF)))))
   (aJ (f9 (i:=10) (N:=["_law_k","_law_pen_here","_law_fields","_law_plots","_law_houses","_law_names_here","_law_days_here"]) (src:=[none,some 1,some 2,some 3,some 4,some 5,some 8]) (osc:=aO qO) (oN:=["_law_script","_law_pen_here","_law_fields","_law_plots","_law_houses","_law_names_here","_law_spare","_law_many","_law_days_here","_law_laying_here","_law_rows","_law_kept","_law_turn","_law_handed","_law_copied"]) ⟨by rfl,by decide,by decide,by decide,rfl,by rfl⟩ nd rfl (fE rfl az (aG (pv 7) aF)) (fun cl s H fp fc C=>⟨bJ (i:=0) (show(["_law_k","_law_pen_here","_law_fields","_law_plots","_law_houses","_law_names_here","_law_days_here"]:List Str).Nodup by decide) rfl (AE rfl),dY,cV GR ez rfl mR kR bR .nil fQ (aG (pv 1) (aG (bZ (r:=aDe K) cH (pv 5) (pv 0) Ig) (aG (bZ (r:=aDe K) cH (pv 6) (pv 0) Ig) (aG (cA (aG (pv 2) (aG (pv 3) (aG (pv 4) aF)))) aF))))⟩))
   (aJ (f9 (i:=6) (N:=["_law_name","_law_fields","_law_names_here"]) (src:=[none,some 2,some 5]) (osc:=aO qO) (oN:=["_law_script","_law_pen_here","_law_fields","_law_plots","_law_houses","_law_names_here","_law_spare","_law_many","_law_days_here","_law_laying_here","_law_rows","_law_kept","_law_turn","_law_handed","_law_copied"]) ⟨by rfl,by decide,by decide,by decide,rfl,by rfl⟩ nd rfl (jC (pv 6)) (fun cl s H fp fc C=>⟨bJ (i:=0) (show(["_law_name","_law_fields","_law_names_here"]:List Str).Nodup by decide) rfl (AE rfl),aGw (PW.pt (lH (bK (r:=rIn K true) iL (pv 0) (pv 1) (by with_unfolding_all rfl)) (jA (bK (r:=rIn K true) iL (pv 0) (pv 2) (by with_unfolding_all rfl))))),pv 0⟩))
   (aJ (aZ (i:=11) nd rfl (AE rfl) (aP (pK W) (by rfl) Y (by kernel_rfl) (aG (cV dt bw rfl ee dv eb .nil aHW (aG (pv 9) (aG (pv 10) aF))) aF)))
   (aJ (jP Cv rfl (fE rfl az (aG aI aF)) (g:=cC 12) (bJ (i:=12) nd rfl (AE rfl))
   (aJ (aZ (i:=13) nd rfl (AE rfl) (xR (aG (pv 9) (aG (cV GM cf rfl mM kM bM .nil fQ (aG (pv 1) (aG (pv 10) aF))) aF))))
    (aJ (pJ (cI (bK dM (cV GT W rfl mT kT bT .nil fQ (aG (pv 1) (aG aI aF))) aI (bX _)) (aN (jN (aCu (cV hw cf rfl fC hf gh .nil fQ (aG (pv 1) (aG (pv 9) (aG (pv 6) aF))))) (aAZ (pv 13) aI rQ))) (aN (jN (aCu (cV g3 ez rfl fO ho g4 .nil fQ (aG (pv 1) (aG (pv 10) (aG (cA (aG (pv 2) (aG (pv 3) (aG (pv 4) aF)))) (aG (pv 6) aF)))))) (aAZ (pv 13) aI rQ)))))
    (aJ (aZ (i:=14) nd rfl (AE rfl) (aP (tZ W) (by rfl) Y (by kernel_rfl) (aG (pv 13) aF)))
    (aN (cI (PW.pt (hU (dR (dO (cV fz hr rfl hy fF fy .nil fQ (aG (bZ cH (pv 13) aI Ig) (aG (bZ cH (pv 13) aI Ig) aF))))) (fX (bK vL (aP (tZ W) (by rfl) Y (by kernel_rfl) (aG (pv 13) aF)) (pv 14) (bX _))))) (aN (aV gC)) bH))))))
   (aN (aV (fS dM (aP (pK W) (by rfl) Y (by kernel_rfl) (aG (cV dt bw rfl ee dv eb .nil aHW (aG (cY gH (by rfl) b7 (by kernel_rfl) (aG (pv 9) aF)) (aG (pv 10) aF))) aF)) (pv 11) (bX _)))))))))))))),?_⟩
  refine⟨_,rfl,a,ns,rfl,hS,hns,fun p c H1 fo s1 jz=>?_⟩;refine⟨_,rfl,_,rfl,p,c,ns,0,_,rfl,fo,by decide,by decide,by decide,fun r4 a6 H6 kf ka kj kd ad iy=>?_⟩;obtain⟨nf,hnf⟩:∃ nf:Nat,(1 + r4:Int)=nf:=⟨(1 + r4).toNat,by omega⟩
  refine⟨_,_,rfl,rfl,p,c,ns,a6,nf,42,by(try dsimp only);rw[hnf];rfl,ad,by omega,by omega,by omega,fun t l1 l2 l3 l4 ws ps hs rs aA HA ht d5 gA bo cS hF ft eo f0 em fw jg cn j1 jw ae hj=>?_⟩;refine⟨t,_,rfl,bG ht,rfl,_,_,rfl,_,_,rfl,_,_,rfl,_,_,rfl,rfl,?_⟩;clear ht;dsimp only[cC];refine⟨78,rfl,by decide,by decide,?_⟩;refine i3 (n:=78) (fun i ys σ' H'=>H'=HA∧ys=(AL i).map (fun k=>V.str (spN k))∧∃ o,σ'=[o]) ⟨rfl,rfl,none,rfl⟩ (aM (by decide)) (fun i ys σ H p=>by rw[p.2.1,Ab,BF];exact Ap _) ?_ ?_
  ·rintro i ys σ' HD hi ⟨rfl,rfl,o,rfl⟩;dsimp only[cC];refine c8 ?_;refine⟨_,rfl,_,_,rfl,rfl,⟨by decide,by decide⟩,_,_,_,rfl,rfl,aM (by decide),aI2 i hi,_,_,rfl,rfl,(by rw[Cz];show 1 + _≤_;decide),_,rfl,_,_,rfl,rfl,(by show(0:Int) < 26;decide),_,_,_,rfl,rfl,aM (by decide),aI3 i hi,_,_,rfl,rfl,(by rw[Co,Cz];show 1 + _ + 1≤_;decide),rfl,?_,_,rfl⟩;rw[aI4,FX,AS];rfl
  rintro zs σ' HD ⟨rfl,rfl,o,rfl⟩ LS fI;have gv:(AL 78).map (fun k=>V.str (spN k))=dP.map V.str:=by unfold dP;rw[Cn];rfl
  rw[gv];have sS:=aK (o:=.lst (dP.map V.str)) fI;have eS:=aH (H:=HD) (a:=LS) (o:=.lst (dP.map V.str));have c4:=ae.same sS;have kS:=hj.same sS;generalize upd HD LS (.lst (dP.map V.str))=HS at sS eS c4 kS ⊢;dsimp only[cC];refine⟨_,rfl,p,c,ns,aA,_,rfl,c4,by omega,by decide,by decide,fun m1 a2 H2 g6 jr ec dl an k2=>?_⟩;refine⟨_,rfl,p,c,ns,a2,_,rfl,an,by omega,by decide,by decide,fun m2 a3 H3 jn kl fx hk ag k3=>?_⟩;refine⟨_,_,rfl,rfl,zZ3,fun q hq=>?_⟩;have sq:=aK (o:=.lst [V.int m1,.int (1 + m2),.int 0]) hq;have b1:=aH (H:=H3) (a:=q) (o:=.lst [V.int m1,.int (1 + m2),.int 0]);dsimp only;generalize upd H3 q (.lst [V.int m1,.int (1 + m2),.int 0])=H4 at sq b1 ⊢;have af:=ag.same sq;refine⟨_,rfl,p,c,ns,a3,_,rfl,af,by omega,by decide,by decide,fun r3 a5 H5 g5 jd cb cu ak k5=>?_⟩;obtain⟨v,hv,hat⟩:=iE (xs:=[V.int m1,.int (1 + m2),.int 0]) (i:=r3) g5 (by show r3 < 3;omega);obtain⟨m,rfl,hm⟩:∃ m:Nat,v=.int m∧m≤40:=by
   simp only[Al,AA,or_false]at hv;rcases hv with rfl | rfl | rfl
   ·exact⟨m1.toNat,by rw[Em g6],by omega⟩
   ·exact⟨(1 + m2).toNat,by rw[Em (by omega)],by omega⟩
   ·exact⟨0,rfl,by omega⟩
  refine⟨q,_,r3,_,rfl,rfl,aU (bQ b1 af k5),hat,?_⟩;have gI:aQ p HD H5:=(((aQ.refl p HD).same sS).trans ((k2.trans k3).same sq)).trans k5;have g2:H5 LS=some (.lst (dP.map V.str)):=bQ (sq _ _ (bQ (bQ eS c4 k2) an k3)) af k5;clear hat hv b1 sq hq k2 k3 k5 an ag af;dsimp only[cC];refine⟨_,rfl,_,rfl,p,c,ns,a5,m,rfl,ak,by omega,by omega,fun lD ds aB HB fu h9 gb jk jq cz eq=>?_⟩;have cv:=gI.trans eq;dsimp only[cC];refine⟨_,rfl,_,rfl,_,rfl,p,c,ns,aB,l1,l3,ws,hs,rfl,cz,by omega,bQ d5 ae cv,bo.ok,by omega,bQ eo ae cv,em.ok,by omega,by omega,fun U jm J aC HC gr eL Z ao km kg ac cL=>?_⟩;have bq:=cv.trans cL;have jD:=bQ fu cz cL;have d6:S3 HC l1 l2 l3 ws ps hs:=⟨bQ d5 ae bq,bQ cS ae bq,bQ eo ae bq,by omega,by omega,hF,f0,bo,ft,em⟩
  have j4:=bQ fw ae bq;have gp:=bQ (bQ g2 ak eq) cz cL;have en:((m:Nat):Int).toNat=m:=BG _;dsimp only[cC];refine⟨_,rfl,m,rfl,by omega,by omega,?_⟩;refine i3 (n:=((m:Nat):Int).toNat) (fun i ys σ' H'=>Ex3 fun(a':Int) (o:Option V) (us:List bV)=>Aw6 (σ'=[o,some (.ref p),some (.ref l1),some (.ref l2),some (.ref l3),some (.ref l4),some (.ref lD)]) (cJ H' p c ns a') (aQ p HC H') (aC≤a') (a'≤aC + 90 * i) (Aw3 (ys.length=i) (c6 H' ys us ws) (us.map (·.name)=rs.take i)))
   ⟨aC,none,[],rfl,ac,aQ.refl _ _,by omega,by omega,rfl,⟨rfl,fun i x hx=>by simp at hx⟩,rfl⟩ (aM (by omega)) (fun i ys σ H p=>by obtain⟨_,_,_,_,_,_,_,_,e,_⟩:=p;omega) ?_ ?_
  ·rintro i ys σ' HD hi ⟨aD,o,us,rfl,bp,kD,f4,ej,cr,bn,ay⟩;rw[en]at hi;dsimp only[cC];refine c8 ?_;have e7:i < rs.length:=by omega
   have eP:i < ds.length:=by omega
   have hn:rs[i]?=some rs[i]:=Af e7;have hd:ds[i]?=some ds[i]:=Af eP;have ek:atI (rs.map V.str) (0 + (i:Int))=some (.str rs[i]):=by
    rw[Int.zero_add];exact bS (by rw[AC,hn];rfl)
   have dj:atI (ds.map V.int) (0 + (i:Int))=some (.int ds[i]):=by
    rw[Int.zero_add];exact bS (by rw[AC,hd];rfl)
   refine⟨_,rfl,_,rfl,_,rfl,l4,_,_,_,rfl,rfl,aU (bQ j4 ac kD),ek,_,rfl,_,rfl,lD,_,_,_,rfl,rfl,aU (bQ jD ac kD),dj,_,rfl,_,rfl,_,rfl,zZ3,fun q3 gk=>?_⟩;have b3:=aK (o:=.tup [V.ref l1,.ref l2,.ref l3]) gk;have cm:=cn.ok _ (BO e7);obtain⟨dd0,dd1⟩:=gb _ (BO eP);refine⟨p,c,ns,aD,rs[i],ds[i],q3,l1,l2,l3,ws,ps,hs,rfl,bp.same b3,by omega,aH,(d6.but ac kD).same b3,cm,dd0,dd1,fun x r aE HE eN gg ev io jx c2 hB=>?_⟩;have ef:aQ p HD HE:=fun b o e hb=>hB b o (b3 _ _ e) hb;refine⟨aE,_,us ++ [r],rfl,c2,kD.trans ef,by omega,by omega,by rw[Ak,cr];rfl,(bn.onN (fN bp ef)).snocN eN ev,?_⟩;rw[AS,ay,Bn,hn];show _ ++ [r.name]=_ ++ [rs[i]]
   rw[gg]
  rintro vs σ' HD ⟨aD,o,aa,rfl,bp,kD,f4,ej,cr,bn,ay⟩ lR fk;rw[en]at cr ej ay;have bc:(aa.map (·.name)).Nodup:=by rw[ay];exact(cn.take m).nd
  have sR:=aK (o:=.lst vs) fk;have eR:upd HD lR (.lst vs) lR=some (.lst vs):=aH;generalize upd HD lR (.lst vs)=HE at sR eR ⊢;have c2:=bp.same sR;have bg:aQ p HC HE:=kD.same sR;have bh:aa.length≤40:=by rw[← bn.len];omega
  have gi:=bn.same sR;have e5:RdV false HE (.ref U) (.tuple J):=RdV.keep (fN ac bg) (RdV.tup gr (by have:=eL.len;have:=congrArg EB ao;rw[Ab]at this;omega) eL);dsimp only[cC];have e6:=d6.but ac bg;have i4:=bQ j4 ac bg;have iS:=bQ gp ac bg;refine⟨_,rfl,LS,rfl,⟨_,aU iS⟩,?_⟩;have dm:(dP.map V.str).length=78:=by unfold dP;rw[Ab,Ab,BF]
  refine jY (K:=K) (xs:=dP.map V.str) (fun i zs σ H'=>H'=HE∧zs=((dP.take i).filter fun z=>decide (z ∉ ws) && decide (z ∉ rs)).map V.str∧∃ o,σ=[o,some (.ref l1),some (.ref l4)]) ⟨rfl,rfl,none,rfl⟩ (aM (by omega)) (fun i zs σ H' p=>by
   rw[p.2.1,Ab];have:=List.length_filter_le (fun z=>decide (z ∉ ws) && decide (z ∉ rs)) (dP.take i);rw[Am]at this;omega) (fun i zs σ H' p=>by rw[p.1];exact aU iS) ?_ ?_
  ·rintro i v zs σ H' hv ⟨rfl,rfl,o,rfl⟩;rw[AC]at hv;obtain⟨z,hz,rfl⟩:=CG.mp hv;dsimp only[cC];refine⟨_,rfl,_,rfl,l1,_,rfl,.inl (aU e6.f),rfl,gX ws,_,rfl,?_⟩;rw[Ib rfl,qZ,Bn,hz,List.filter_append];by_cases g:z∈ws
   ·rw[Ic g];refine c7 ?_;refine c7 ⟨rfl,?_,_,rfl⟩;simp[g]
   ·rw[decide_eq_false g];refine c8 ?_;refine⟨_,rfl,_,rfl,l4,_,rfl,.inl (aU i4),rfl,gX rs,_,rfl,?_⟩;rw[Ib rfl,qZ];by_cases g':z∈rs
    ·rw[Ic g'];refine c7 ⟨rfl,?_,_,rfl⟩;simp[g,g']
    ·rw[decide_eq_false g'];refine c8 ⟨_,rfl,rfl,?_,_,rfl⟩;simp[g,g']
  rintro zs σ' H' ⟨rfl,rfl,o',rfl⟩ LF fh;rw[dm,show dP.take 78=dP from BE (by rw[← dm,Ab];exact Ap _)];have eg:∀ z∈aa.map (·.name),z∈rs:=fun z hz=>by rw[ay]at hz;exact Bv hz
  have ba:=aGi (us:=aa) bo.thr cn.thr eg;generalize (dP.filter fun z=>decide (z ∉ ws) && decide (z ∉ rs))=ss at ba ⊢;have sF:=aK (o:=.lst (ss.map V.str)) fh;have eF:=aH (H:=H') (a:=LF) (o:=.lst (ss.map V.str));have ed:=c2.same sF;have bj:=gi.same sF;have ca:=sF _ _ eR;have aR:=e5.same sF;have dr:=e6.same sF;generalize upd H' LF (.lst (ss.map V.str))=HF at sF eF ed bj ca aR dr ⊢;have iz:J.length=nf:=by rw[← gA,← ao,Ab]
  have dn:1≤J.length:=by omega
  have ah:J.length≤8:=by omega
  have d2:(J.map dD).Nodup:=by rw[ao];exact bo.nd
  have ar:=aGh Z dn ah d2;have au:J.all cR=true:=Bg.mpr fun d hd=>(Z d hd).1;have bu:dB 2 (.tuple J)=.tuple J:=by show DI (J.map (dB 1))=_;rw[nV Z]
  have fK:dL HF (J.map dD) vs (aa.map some):=by rw[ao];exact bj.things
  dsimp only[cC];refine⟨_,rfl,_,rfl,.full (.ref U) lR false (.tuple J) J vs (aa.map some) rfl aR bu ar au ah (.inl ca) (by rw[Ab];omega) fK (fun us b2 cw _ _ tR os HG sG pG rG hg=>?_) (fun hb=>absurd hb (aAY bc bh))⟩;have pos:=pG.trans (w5 bc b2 cw);have ei:∀ u∈os,u.Ok ws:=fun u hu=>bj.okd (pos.mem_iff.mp hu);have ki:=pos.length_eq;have am:=aHo (fs:=ws) Z ah ei (by omega);refine⟨tR,false,_,rfl,hg,am.sh,Bc am.dp (by decide),by rw[Cz];exact Bc am.len (by decide),?_⟩;have aj:=ed.same sG;have cq:=bj.same sG;have cx:=sG _ _ ca;have av:=aR.same sG;have hD:=dr.same sG;have eA:=sG _ _ eF;dsimp only[cC];refine⟨10,rfl,by decide,by decide,?_⟩;refine iQ (n:=10) (fun i σ H'=>Ex3 fun(cs b5 br:Option V)=>∃(a':Int),Aw3 (σ=[some (.ref a),some (.ref p),some (.ref l1),some (.ref l2),some (.ref l3),some (.ref l4),some (.ref LF),some (.int m),some (.ref lD),some (.ref U),some (.ref lR),some (.str (aCQ J os).shown),cs,b5,br]) (cJ H' p c ns a') (Aw3 (aD≤a') (a'≤aD + 600 * i) (aQ p HG H'))) ⟨none,none,none,aD,rfl,aj,by omega,by omega,aQ.refl p HG⟩ ?_ ?_
  ·rintro i σ H2 hi ⟨cs,b5,br,a2,rfl,an,ec,dl,k2⟩;have K2:Kp _ _:=fN aj k2;dsimp only[cC];refine⟨_,rfl,_,rfl,_,rfl,.mk p c ns a2 lR vs rfl an (by omega) (K2.lst cx) (by omega) fun T js a3 H3 nT hT hJ fx hk ag d4=>?_⟩;refine⟨zZ2,fun O nH mH=>?_⟩;have sH:=aK (o:=.lst [V.ref U,.ref T]) nH;have eH:=aH (H:=H3) (a:=O) (o:=.lst [V.ref U,.ref T]);generalize upd H3 O (.lst [V.ref U,.ref T])=H4 at sH eH ⊢;dsimp only[cC];refine⟨fun σ' H'=>∃(a4:Int) (x y:V) (d:Aj),σ'=[some (.ref a),some (.ref p),some (.ref l1),some (.ref l2),some (.ref l3),some (.ref l4),some (.ref LF),some (.int m),some (.ref lD),some (.ref U),some (.ref lR),some (.str (aCQ J os).shown),some (.int (0 + (i:Int))),some (.ref O),br]∧H' O=some (.lst [x,y])∧aHh K DL H' x y∧(RdL H' (.ref O) d∨RdV true H' (.ref O) d)∧OkD 3000000 6 d∧cJ H' p c ns a4∧aD≤a4∧a4≤aD + 600 * (i + 1:Nat)∧aQ p HG H',?_,?_⟩
   ·have af:=ag.same sH;have k4:aQ p HG H4:=(k2.trans d4).same sH;refine⟨_,rfl,p,c,ns,a3,_,rfl,af,by omega,by decide,by decide,fun r a5 H5 r0 r1 cb cu ak eD=>?_⟩;have K5:Kp _ _:=fN af eD;have k5:=k4.trans eD;have KG:Kp _ _:=fN aj k5;have aL:=K5.lst eH;refine⟨rfl,_,rfl,?_⟩;have gG:HG O=none:=oZ (k2.trans d4) ag nH;have ne:∀{b:Ah} {o:HO},H3 b=some o→b≠O:=fun{b o} e z=>by rw[z,nH]at e;cases e
    have hA:∀{b:Ah} {o:HO},HG b=some o→b≠O:=fun{b o} e z=>by rw[z,gG]at e;cases e
    have gz:p≠O:=by obtain⟨l,_,e⟩:=ag.ob;exact ne e
    have ad:cJ (L2.hid H5 O) p c ns a5:=by
     obtain⟨⟨l,hl,e⟩,ce,ge,sm⟩:=ak;exact⟨⟨l,hl,by rw[L2.hid_ne gz];exact e⟩,by rw[L2.hid_ne (ne ag.ce)];exact ce,ge,sm⟩
    have k6:aQ p HG (L2.hid H5 O):=fun b o e n=>by rw[L2.hid_ne (hA e)];exact k5 b o e n
    have cc:(L2.hid H5 O T=some (.lst (dE vs js))∧T≠Dq)∨L2.hid H5 O T=some (.tup (dE vs js)):=by
     rcases hT with⟨e,n⟩ | e
     ·exact .inl ⟨by rw[L2.hid_ne (ne e)];exact K5.lst (sH _ _ e),n⟩
     ·exact .inr (by rw[L2.hid_ne (ne e)];exact K5.tup (sH _ _ e))
    refine dH (fun g0=>?_) fun g0=>?_
    ·refine⟨O,_,aL,?_⟩;generalize L2.hid H5 O=H6 at ad k6 cc ⊢;have K6:Kp _ _:=fN aj k6;have fv:aJ2 H6 U J:=by
      cases av.keep K6 with
      | tup e hl r=>exact⟨⟨_,e,r⟩,Z,dn,ah,d2⟩
     refine⟨_,rfl,_,rfl,_,rfl,p,c,ns,a5,U,J,LF,ss,rfl,ad,by omega,fv,K6.lst eA,ba.nm,by have:=ba.l41;omega,ba.l78,fun x a7 H7 nl sw g7 fj c3 k7 n7=>?_⟩;have K7:Kp _ _:=fN ad k7;have s8:aY H7 (upd (upd H7 O (.lst [V.ref U,.ref T])) O (.lst ([V.ref U,.ref T].set 0 x))):=iA (aK n7) n7 _;refine⟨_,rfl,O,_,0,0,rfl,rfl,aH,rfl,?_⟩;have e8:upd (upd H7 O (.lst [V.ref U,.ref T])) O (.lst ([V.ref U,.ref T].set 0 x)) O=some (.lst [x,.ref T]):=aH;generalize upd (upd H7 O (.lst [V.ref U,.ref T])) O (.lst ([V.ref U,.ref T].set 0 x))=H8 at s8 e8 ⊢;obtain⟨d,rd,okd⟩:=aC2 e8 mH (.inl ⟨sw.up s8 (by decide),aHp (((cq.onN K6).onN K7).same s8) bh hJ (cc.imp (fun z=>⟨s8 _ _ (K7.lst z.1),z.2⟩) fun z=>s8 _ _ (K7.tup z))⟩);exact⟨a7,x,.ref T,d,rfl,e8,aHq (nl.same s8),rd,okd,c3.same s8,by omega,by omega,(k6.trans k7).same s8⟩
    ·refine⟨O,_,aL,?_⟩;generalize L2.hid H5 O=H6 at ad k6 cc ⊢;have K6:Kp _ _:=fN aj k6;refine⟨_,rfl,_,rfl,_,rfl,_,rfl,_,rfl,zZ3,fun q nq=>?_⟩;have sq:=aK (o:=.tup [V.ref l1,.ref l2,.ref l3]) nq;refine⟨_,rfl,p,c,ns,a5,lR,vs,aa,ws,ps,hs,q,l1,l2,l3,LF,ss,rfl,ad.same sq,by omega,sq _ _ (K6.lst cx),(cq.onN K6).same sq,bh,bc,aH,(hD.but aj k6).same sq,sq _ _ (K6.lst eA),ba,fun y a7 H7 nr sw g7 fj c3 fB n7=>?_⟩;have k7:aQ p H6 H7:=fun b o e n=>fB b o (sq _ _ e) n;have K7:Kp _ _:=fN ad k7;have s8:aY H7 (upd (upd H7 O (.lst [V.ref U,.ref T])) O (.lst ([V.ref U,.ref T].set 1 y))):=iA (aK n7) n7 _;refine⟨_,rfl,O,_,1,1,rfl,rfl,aH,rfl,?_⟩;have e8:upd (upd H7 O (.lst [V.ref U,.ref T])) O (.lst ([V.ref U,.ref T].set 1 y)) O=some (.lst [.ref U,y]):=aH;generalize upd (upd H7 O (.lst [V.ref U,.ref T])) O (.lst ([V.ref U,.ref T].set 1 y))=H8 at s8 e8 ⊢;have aw:=((av.keep K6).keep K7).same s8;have g1:OkD 1300000 4 (.tuple J):=(OkD.tuple (b:=5000) (k:=2) (n:=8) (kQ Z) ah).mono (by decide) (by decide);obtain⟨d,rd,okd⟩:=aC2 e8 mH (.inr ⟨⟨_,.of aw,aw.flip (l7 Z) true,g1⟩,sw.up s8 (by decide)⟩);exact⟨a7,.ref U,y,d,rfl,e8,aGj aw bu ar au ah ao (nr.same s8),rd,okd,c3.same s8,by omega,by omega,(k6.trans k7).same s8⟩
   rintro σ' H5 ⟨a5,x,y,d,rfl,aL,dV,dz,okd,ak,cb,cu,k5⟩;have dp:=Bc okd.dp (show 6≤20 by decide);have ln:d.shown.length≤F2:=by rw[Cz];exact Bc okd.len (by decide)
   refine⟨_,rfl,O,d,rfl,dz,okd.sh,dp,ln,?_⟩;dsimp only[cC];refine⟨_,rfl,O,_,0,_,rfl,rfl,aU aL,bS (j:=0) rfl,_,rfl,O,_,1,_,rfl,rfl,aU aL,bS (j:=1) rfl,x,y,rfl,dV,fun H6 s6=>?_⟩;refine⟨_,rfl,c7 ?_⟩;refine⟨_,rfl,O,d,rfl,dz.imp (fun z=>z.same s6) (fun z=>z.same s6),okd.sh,dp,ln,_,rfl,rfl,_,rfl,?_⟩;rw[Ic rfl];refine c7 ?_;exact⟨_,_,_,a5,rfl,ak.same s6,cb,cu,k5.same s6⟩
  rintro σ H2 ⟨cs,b5,br,a2,rfl,an,ec,dl,k2⟩;have K2:Kp _ _:=fN aj k2;have el:=av.keep K2;cases el with
  | @tup _ ax _ e2 cS r2=>
  dsimp only;refine⟨_,rfl,U,_,rfl,.inr (bG e2),fun L nL=>?_⟩;have sL:=aK (o:=.lst ax) nL;have gf:RdV true (upd H2 L (.lst ax)) (.ref L) (.list J):=.lst rfl aH cS ((r2.same sL).flip (l7 Z) true);have b9:dB 2 (.list J)=.tuple J:=by show DI (J.map (dB 1))=_;rw[nV Z]
  have gm:=(cq.onN K2).same sL;have f3:dL (upd H2 L (.lst ax)) (J.map dD) vs (aa.map some):=by rw[ao];exact gm.things
  refine⟨_,rfl,.full (.ref L) lR true (.list J) J vs (aa.map some) rfl gf b9 ar au ah (.inl (sL _ _ (K2.lst cx))) (by rw[Ab];omega) f3 (fun us b2 cw _ _ fq fL HH sH pH rH gt=>?_) (fun hb=>absurd hb (aAY bc bh))⟩;have e3:fL=os:=uN ((pH.trans (w5 bc b2 cw)).trans pos.symm) rH rG;subst e3;refine⟨fq,false,_,rfl,gt,am.sh,Bc am.dp (by decide),by rw[Cz];exact Bc am.len (by decide),_,rfl,rfl,?_⟩;rw[Ic rfl];exact k _
inductive aJ4(K:Ag)(n:Str)(st:B3):Prop
 | mk (f:_) (q0:AD K mainGlobals n=some (some (.ref f))) (q1:(∃ oc od kV dc pm an cd ct sl,K.lookup f=some ⟨oc,od,.func (BU n n (eU st) (d9 st) (aO st) .none kV dc pm an cd ct),sl⟩∧B4 K cd n=true)) (q2:Au K (.ref f)=true):aJ4 K n st
def Dx(K:Ag)(n:Str)(st:B3):Prop:=aJ4 K n st
theorem cU{K:Ag}{h:Ba}{mg:Str→Option Ac}{n:Str}{st:B3}(d:Dx K n st)(X:K.In h)(G:h.Ns mainGlobals mg):∃ f fd,Fun K n n st f fd∧mg n=some (.ref f)∧Au K (.ref f)=true:=by
 obtain⟨f,a,⟨_,_,_,_,_,_,_,_,_,l,c⟩,k⟩:=d;exact⟨f,_,jQ l c k,AQ X G a,k⟩
theorem all_mk{l:FC}{w:AV}{K:Ag}{h:Ba}{mg:Str→Option Ac}{fa:Ah}(X:K.In h)(G:h.Ns mainGlobals mg)(hfa:mg "law"=some (.ref fa))
  {fF0:Ah} {odF0 anF0:Option Ah} {slF0:Array (Option Ac)} {ocF0 kVF0 dcF0 pmF0 cdF0 ctF0:Ac} {fF1:Ah} {odF1 anF1:Option Ah} {slF1:Array (Option Ac)} {ocF1 kVF1 dcF1 pmF1 cdF1 ctF1:Ac} {fF2:Ah} {odF2 anF2:Option Ah} {slF2:Array (Option Ac)} {ocF2 kVF2 dcF2 pmF2 cdF2 ctF2:Ac} {fF3:Ah} {odF3 anF3:Option Ah} {slF3:Array (Option Ac)} {ocF3 kVF3 dcF3 pmF3 cdF3 ctF3:Ac} {fF4:Ah} {odF4 anF4:Option Ah} {slF4:Array (Option Ac)} {ocF4 kVF4 dcF4 pmF4 cdF4 ctF4:Ac} {fF5:Ah} {odF5 anF5:Option Ah} {slF5:Array (Option Ac)} {ocF5 kVF5 dcF5 pmF5 cdF5 ctF5:Ac} {fF6:Ah} {odF6 anF6:Option Ah} {slF6:Array (Option Ac)} {ocF6 kVF6 dcF6 pmF6 cdF6 ctF6:Ac} {fF7:Ah} {odF7 anF7:Option Ah} {slF7:Array (Option Ac)} {ocF7 kVF7 dcF7 pmF7 cdF7 ctF7:Ac} {fL:Ah} {odL anL:Option Ah} {slL:Array (Option Ac)} {ocL kVL dcL pmL cdL ctL:Ac}
  {t_MOST_FIELDS:Tok}
  {t_MOST_FIELD_ACRES:Tok}
  {t_LONGEST:Tok}
  {t_LAST_DAY:Tok}
  {t_FEWEST_LANDS:Tok}
  {t_MOST_LANDS:Tok}
  {t_MOST_PART_ACRES:Tok}
  {t_MOST_INCHES:Tok}
  {t_MOST_PENCE:Tok}
  {t_MOST_SPADES:Tok}
  {t_ROW_DEPTH:Tok}
  {t_LAYING_DEPTH:Tok}
  {t_MOST_ROWS:Tok}
  {t_FORMS:Ah} {eF:Nat} {xk0 xk1 xk2 xk3 xk4 xk5 xk6 xk7:Tok}
  {t_RANKS:Ah} {eR:Nat} {xr0 xr1 xr2 xr3 xr4 xr5 xr6 xr7 yr0 yr1 yr2 yr3 yr4 yr5 yr6 yr7:Tok}
  {cDykeError cClash cNoBreach cNoField cNoInch cNoMend cNoName cNoOrder cNoRow cNoText cNoThen cTooMany cTwice cNoRoll:Ah}
  (aDykeError:AD K mainGlobals "DykeError"=some (some (.ref cDykeError)))
  (aClash:AD K mainGlobals "Clash"=some (some (.ref cClash)))
  (aNoBreach:AD K mainGlobals "NoBreach"=some (some (.ref cNoBreach)))
  (aNoField:AD K mainGlobals "NoField"=some (some (.ref cNoField)))
  (aNoInch:AD K mainGlobals "NoInch"=some (some (.ref cNoInch)))
  (aNoMend:AD K mainGlobals "NoMend"=some (some (.ref cNoMend)))
  (aNoName:AD K mainGlobals "NoName"=some (some (.ref cNoName)))
  (aNoOrder:AD K mainGlobals "NoOrder"=some (some (.ref cNoOrder)))
  (aNoRow:AD K mainGlobals "NoRow"=some (some (.ref cNoRow)))
  (aNoText:AD K mainGlobals "NoText"=some (some (.ref cNoText)))
  (aNoThen:AD K mainGlobals "NoThen"=some (some (.ref cNoThen)))
  (aTooMany:AD K mainGlobals "TooMany"=some (some (.ref cTooMany)))
  (aTwice:AD K mainGlobals "Twice"=some (some (.ref cTwice)))
  (aNoRoll:AD K mainGlobals "NoRoll"=some (some (.ref cNoRoll)))
  (zxNoRow:F4 K cNoRow [.type "ValueError",.type "Exception",.type "BaseException",.type "object"] "ValueError.__new__"=true)
  (zxNoRoll:F4 K cNoRoll [.type "ValueError",.type "Exception",.type "BaseException",.type "object"] "ValueError.__new__"=true)
  (zeNoRow:EW K (.ref cNoRow) (.ref cNoRow)=some true) (zeNoRoll:EW K (.ref cNoRoll) (.ref cDykeError)=some true)
  (zfNoRoll:aD0 K cNoRoll [cNoRoll] [true] [cClash,cNoBreach,cNoField,cNoInch,cNoMend,cNoName,cNoOrder,cNoRow,cNoText,cNoThen]=true) (zgNoRoll:aD0 K cNoRoll [cNoRoll] [true] [cTooMany,cTwice]=true)
  (aF0:AD K mainGlobals "fits_part"=some (some (.ref fF0))) (lF0:K.lookup fF0=some ⟨ocF0,odF0,.func (BU "fits_part" "fits_part" (eU pQ) (d9 pQ) (aO pQ) .none kVF0 dcF0 pmF0 anF0 cdF0 ctF0),slF0⟩) (cF0:B4 K cdF0 "fits_part"=true) (kF0:Au K (.ref fF0)=true)
  (aF1:AD K mainGlobals "fits_join"=some (some (.ref fF1))) (lF1:K.lookup fF1=some ⟨ocF1,odF1,.func (BU "fits_join" "fits_join" (eU pR) (d9 pR) (aO pR) .none kVF1 dcF1 pmF1 anF1 cdF1 ctF1),slF1⟩) (cF1:B4 K cdF1 "fits_join"=true) (kF1:Au K (.ref fF1)=true)
  (aF2:AD K mainGlobals "fits_forfeit"=some (some (.ref fF2))) (lF2:K.lookup fF2=some ⟨ocF2,odF2,.func (BU "fits_forfeit" "fits_forfeit" (eU iV) (d9 iV) (aO iV) .none kVF2 dcF2 pmF2 anF2 cdF2 ctF2),slF2⟩) (cF2:B4 K cdF2 "fits_forfeit"=true) (kF2:Au K (.ref fF2)=true)
  (aF3:AD K mainGlobals "fits_measure"=some (some (.ref fF3))) (lF3:K.lookup fF3=some ⟨ocF3,odF3,.func (BU "fits_measure" "fits_measure" (eU iW) (d9 iW) (aO iW) .none kVF3 dcF3 pmF3 anF3 cdF3 ctF3),slF3⟩) (cF3:B4 K cdF3 "fits_measure"=true) (kF3:Au K (.ref fF3)=true)
  (aF4:AD K mainGlobals "fits_mend"=some (some (.ref fF4))) (lF4:K.lookup fF4=some ⟨ocF4,odF4,.func (BU "fits_mend" "fits_mend" (eU pS) (d9 pS) (aO pS) .none kVF4 dcF4 pmF4 anF4 cdF4 ctF4),slF4⟩) (cF4:B4 K cdF4 "fits_mend"=true) (kF4:Au K (.ref fF4)=true)
  (aF5:AD K mainGlobals "fits_alone"=some (some (.ref fF5))) (lF5:K.lookup fF5=some ⟨ocF5,odF5,.func (BU "fits_alone" "fits_alone" (eU mU) (d9 mU) (aO mU) .none kVF5 dcF5 pmF5 anF5 cdF5 ctF5),slF5⟩) (cF5:B4 K cdF5 "fits_alone"=true) (kF5:Au K (.ref fF5)=true)
  (aF6:AD K mainGlobals "fits_breach"=some (some (.ref fF6))) (lF6:K.lookup fF6=some ⟨ocF6,odF6,.func (BU "fits_breach" "fits_breach" (eU kJ) (d9 kJ) (aO kJ) .none kVF6 dcF6 pmF6 anF6 cdF6 ctF6),slF6⟩) (cF6:B4 K cdF6 "fits_breach"=true) (kF6:Au K (.ref fF6)=true)
  (aF7:AD K mainGlobals "fits_view"=some (some (.ref fF7))) (lF7:K.lookup fF7=some ⟨ocF7,odF7,.func (BU "fits_view" "fits_view" (eU pT) (d9 pT) (aO pT) .none kVF7 dcF7 pmF7 anF7 cdF7 ctF7),slF7⟩) (cF7:B4 K cdF7 "fits_view"=true) (kF7:Au K (.ref fF7)=true)
  (aL:AD K mainGlobals "law"=some (some (.ref fL))) (lL:K.lookup fL=some ⟨ocL,odL,.func (BU "law" "law" (eU qO) (d9 qO) (aO qO) .none kVL dcL pmL anL cdL ctL),slL⟩) (cL:B4 K cdL "law"=true) (kL:Au K (.ref fL)=true)
  (z_isinstance:AD K mainGlobals "isinstance"=some none)
  (z_str:AD K mainGlobals "str"=some none)
  (z_len:AD K mainGlobals "len"=some none)
  (z_all:AD K mainGlobals "all"=some none)
  (z_int:AD K mainGlobals "int"=some none)
  (z_bool:AD K mainGlobals "bool"=some none)
  (z_tuple:AD K mainGlobals "tuple"=some none)
  (z_set:AD K mainGlobals "set"=some none)
  (z_list:AD K mainGlobals "list"=some none)
  (z_sorted:AD K mainGlobals "sorted"=some none)
  (z_abs:AD K mainGlobals "abs"=some none)
  (z_range:AD K mainGlobals "range"=some none)
  (z_min:AD K mainGlobals "min"=some none)
  (z_repr:AD K mainGlobals "repr"=some none)
  (z_ValueError:AD K mainGlobals "ValueError"=some none)
  (q_MOST_FIELDS:AD K mainGlobals "MOST_FIELDS"=some (some (.int 8 t_MOST_FIELDS)))
  (q_MOST_FIELD_ACRES:AD K mainGlobals "MOST_FIELD_ACRES"=some (some (.int 1000000 t_MOST_FIELD_ACRES)))
  (q_LONGEST:AD K mainGlobals "LONGEST"=some (some (.int 8 t_LONGEST)))
  (q_LAST_DAY:AD K mainGlobals "LAST_DAY"=some (some (.int 9999 t_LAST_DAY)))
  (q_FEWEST_LANDS:AD K mainGlobals "FEWEST_LANDS"=some (some (.int 2 t_FEWEST_LANDS)))
  (q_MOST_LANDS:AD K mainGlobals "MOST_LANDS"=some (some (.int 6 t_MOST_LANDS)))
  (q_MOST_PART_ACRES:AD K mainGlobals "MOST_PART_ACRES"=some (some (.int 10000000 t_MOST_PART_ACRES)))
  (q_MOST_INCHES:AD K mainGlobals "MOST_INCHES"=some (some (.int 10000000 t_MOST_INCHES)))
  (q_MOST_PENCE:AD K mainGlobals "MOST_PENCE"=some (some (.int 1000000000 t_MOST_PENCE)))
  (q_MOST_SPADES:AD K mainGlobals "MOST_SPADES"=some (some (.int 1000000 t_MOST_SPADES)))
  (q_ROW_DEPTH:AD K mainGlobals "ROW_DEPTH"=some (some (.int 3 t_ROW_DEPTH)))
  (q_LAYING_DEPTH:AD K mainGlobals "LAYING_DEPTH"=some (some (.int 2 t_LAYING_DEPTH)))
  (q_MOST_ROWS:AD K mainGlobals "MOST_ROWS"=some (some (.int 40 t_MOST_ROWS)))
  (q_FORMS:AD K mainGlobals "FORMS"=some (some (.ref t_FORMS)))
  (lFm:K.lookup t_FORMS=some { cls:=.type "dict",data:=.dict #[⟨AU w.params "part",.str "part" xk0,.ref fF0⟩,⟨AU w.params "join",.str "join" xk1,.ref fF1⟩,⟨AU w.params "forfeit",.str "forfeit" xk2,.ref fF2⟩,⟨AU w.params "measure",.str "measure" xk3,.ref fF3⟩,⟨AU w.params "mend",.str "mend" xk4,.ref fF4⟩,⟨AU w.params "alone",.str "alone" xk5,.ref fF5⟩,⟨AU w.params "breach",.str "breach" xk6,.ref fF6⟩,⟨AU w.params "view",.str "view" xk7,.ref fF7⟩] eF }) (hzF:(t_FORMS == sysModules)=false)
  (q_RANKS:AD K mainGlobals "RANKS"=some (some (.ref t_RANKS)))
  (lRk:K.lookup t_RANKS=some { cls:=.type "dict",data:=.dict #[⟨AU w.params "measure",.str "measure" xr0,.int 0 yr0⟩,⟨AU w.params "part",.str "part" xr1,.int 1 yr1⟩,⟨AU w.params "join",.str "join" xr2,.int 1 yr2⟩,⟨AU w.params "forfeit",.str "forfeit" xr3,.int 1 yr3⟩,⟨AU w.params "mend",.str "mend" xr4,.int 2 yr4⟩,⟨AU w.params "alone",.str "alone" xr5,.int 2 yr5⟩,⟨AU w.params "breach",.str "breach" xr6,.int 3 yr6⟩,⟨AU w.params "view",.str "view" xr7,.int 3 yr7⟩] eR })
  (zIN:Dx K "is_name" qV)
  (zNB:Dx K "is_number" pO)
  (zIW:Dx K "is_whole" t7)
  (zRI:Dx K "is_rising" qW)
  (zFD:Dx K "is_field" t8)
  (zLY:Dx K "is_laying" kH)
  (zPT:Dx K "is_part" xV)
  (zAP:Dx K "all_parts" mK)
  (zAN:Dx K "all_names" mQ)
  (zRP:Dx K "are_parts" mS)
  (zRL:Dx K "are_lands" pP)
  (zIC:Dx K "is_inch" xW)
  (zIR:Dx K "is_row" aBv)
  (zAT:Dx K "as_tuples" lX)
  (zIO:Dx K "in_order" t9)
  (zRO:Dx K "row_of" xX)
  (zFO:Dx K "field_of" uA)
  (zOr:Dx K "order" aBw)
  (zLG:Dx K "laying_of" pU)
  (zRF:Dx K "row_for" qX)
  (zRR:Dx K "row_for_roll" lY)
  (zBN:Dx K "by_names" uB)
  (zRoO:Dx K "roll_of" xY)
  (zP:Dx K "_law_pen" aIx)
  (zT:Dx K "_law_take" aCv)
  (zN:Dx K "_law_names" xZ)
  (zSo:Dx K "_law_sorts" aBx)
  (zD:Dx K "_law_days" aCw)
  (zNu:Dx K "_law_number" x8)
  (zLO:Dx K "_law_laying" aBy)
  (zSm:Dx K "_law_some" aCx)
  (zRo:Dx K "_law_row_of" x9)
  (zR:Dx K "_law_row" aIy)
  (zM:Dx K "_law_mixed" aBz)
  (zID:Dx K "_law_is_refused" aBA)
  (zTw:Dx K "_law_twin" aFf)
  (zNF:Dx K "_law_no_fields" mV)
  (zNR:Dx K "_law_no_rows" qY)
  :∃ fd:AH,(∀(s:Ad) (v:Ac),Gb s fd ⟨[v],[]⟩ [("_law_script",v)])∧∀ base:Ba,K.In base→base.Ns mainGlobals mg→b8 l.prog w K mg base CX0 14 fa fd ["_law_script"] (aC0 K):=by
 have e:=hfa.symm.trans (AQ X G aL);cases e;have FF0:=jQ (st:=pQ) lF0 cF0 kF0;have mF0:=AQ X G aF0;have bF0:=FF0.binds (ps:=["rest"]) fun _ _ _ _ _ _ us hl=>by obtain⟨_,rfl⟩:=gS hl;rfl
 have FF1:=jQ (st:=pR) lF1 cF1 kF1;have mF1:=AQ X G aF1;have bF1:=FF1.binds (ps:=["rest"]) fun _ _ _ _ _ _ us hl=>by obtain⟨_,rfl⟩:=gS hl;rfl
 have FF2:=jQ (st:=iV) lF2 cF2 kF2;have mF2:=AQ X G aF2;have bF2:=FF2.binds (ps:=["rest"]) fun _ _ _ _ _ _ us hl=>by obtain⟨_,rfl⟩:=gS hl;rfl
 have FF3:=jQ (st:=iW) lF3 cF3 kF3;have mF3:=AQ X G aF3;have bF3:=FF3.binds (ps:=["rest"]) fun _ _ _ _ _ _ us hl=>by obtain⟨_,rfl⟩:=gS hl;rfl
 have FF4:=jQ (st:=pS) lF4 cF4 kF4;have mF4:=AQ X G aF4;have bF4:=FF4.binds (ps:=["rest"]) fun _ _ _ _ _ _ us hl=>by obtain⟨_,rfl⟩:=gS hl;rfl
 have FF5:=jQ (st:=mU) lF5 cF5 kF5;have mF5:=AQ X G aF5;have bF5:=FF5.binds (ps:=["rest"]) fun _ _ _ _ _ _ us hl=>by obtain⟨_,rfl⟩:=gS hl;rfl
 have FF6:=jQ (st:=kJ) lF6 cF6 kF6;have mF6:=AQ X G aF6;have bF6:=FF6.binds (ps:=["rest"]) fun _ _ _ _ _ _ us hl=>by obtain⟨_,rfl⟩:=gS hl;rfl
 have FF7:=jQ (st:=pT) lF7 cF7 kF7;have mF7:=AQ X G aF7;have bF7:=FF7.binds (ps:=["rest"]) fun _ _ _ _ _ _ us hl=>by obtain⟨_,rfl⟩:=gS hl;rfl
 have FL:=jQ (st:=qO) lL cL kL;have mL:=AQ X G aL;have bL:=FL.binds (ps:=["_law_script"]) fun _ _ _ _ _ _ us hl=>by obtain⟨_,rfl⟩:=gS hl;rfl
 have n_isinstance:=Bm X G z_isinstance;have n_str:=Bm X G z_str;have n_len:=Bm X G z_len;have n_all:=Bm X G z_all;have n_int:=Bm X G z_int;have n_bool:=Bm X G z_bool;have n_tuple:=Bm X G z_tuple;have n_set:=Bm X G z_set;have n_list:=Bm X G z_list;have n_sorted:=Bm X G z_sorted;have n_abs:=Bm X G z_abs;have n_range:=Bm X G z_range;have n_min:=Bm X G z_min;have n_repr:=Bm X G z_repr;have n_ValueError:=Bm X G z_ValueError;have g_MOST_FIELDS:=AQ X G q_MOST_FIELDS;have g_MOST_FIELD_ACRES:=AQ X G q_MOST_FIELD_ACRES;have g_LONGEST:=AQ X G q_LONGEST;have g_LAST_DAY:=AQ X G q_LAST_DAY;have g_FEWEST_LANDS:=AQ X G q_FEWEST_LANDS;have g_MOST_LANDS:=AQ X G q_MOST_LANDS;have g_MOST_PART_ACRES:=AQ X G q_MOST_PART_ACRES;have g_MOST_INCHES:=AQ X G q_MOST_INCHES;have g_MOST_PENCE:=AQ X G q_MOST_PENCE;have g_MOST_SPADES:=AQ X G q_MOST_SPADES;have g_ROW_DEPTH:=AQ X G q_ROW_DEPTH;have g_LAYING_DEPTH:=AQ X G q_LAYING_DEPTH;have g_MOST_ROWS:=AQ X G q_MOST_ROWS;have g_FORMS:=AQ X G q_FORMS;have g_RANKS:=AQ X G q_RANKS;refine⟨BU "law" "law" (eU qO) (d9 qO) (aO qO) .none kVL dcL pmL anL cdL ctL,fun s v=>.of_eq rfl,fun base _ _=>?_⟩;obtain⟨_,_,FIN,mIN,kIN⟩:=cU zIN X G;have bIN:=FIN.binds (ps:=["thing"]) fun _ _ _ _ _ _ us hl=>by obtain⟨_,rfl⟩:=gS hl;rfl
 obtain⟨_,_,FNB,mNB,kNB⟩:=cU zNB X G;have bNB:=FNB.binds (ps:=["thing"]) fun _ _ _ _ _ _ us hl=>by obtain⟨_,rfl⟩:=gS hl;rfl
 obtain⟨_,_,FIW,mIW,kIW⟩:=cU zIW X G;have bIW:=FIW.binds (ps:=["thing","least","most"]) fun _ _ _ _ _ _ us hl=>by obtain⟨_,_,_,rfl⟩:=aC3 hl;rfl
 obtain⟨_,_,FRI,mRI,kRI⟩:=cU zRI X G;have bRI:=FRI.binds (ps:=["things"]) fun _ _ _ _ _ _ us hl=>by obtain⟨_,rfl⟩:=gS hl;rfl
 obtain⟨_,_,FFD,mFD,kFD⟩:=cU zFD X G;have bFD:=FFD.binds (ps:=["thing"]) fun _ _ _ _ _ _ us hl=>by obtain⟨_,rfl⟩:=gS hl;rfl
 obtain⟨_,_,FLY,mLY,kLY⟩:=cU zLY X G;have bLY:=FLY.binds (ps:=["thing"]) fun _ _ _ _ _ _ us hl=>by obtain⟨_,rfl⟩:=gS hl;rfl
 obtain⟨_,_,FPT,mPT,kPT⟩:=cU zPT X G;have bPT:=FPT.binds (ps:=["thing"]) fun _ _ _ _ _ _ us hl=>by obtain⟨_,rfl⟩:=gS hl;rfl
 obtain⟨_,_,FAP,mAP,kAP⟩:=cU zAP X G;have bAP:=FAP.binds (ps:=["thing"]) fun _ _ _ _ _ _ us hl=>by obtain⟨_,rfl⟩:=gS hl;rfl
 obtain⟨_,_,FAN,mAN,kAN⟩:=cU zAN X G;have bAN:=FAN.binds (ps:=["thing"]) fun _ _ _ _ _ _ us hl=>by obtain⟨_,rfl⟩:=gS hl;rfl
 obtain⟨_,_,FRP,mRP,kRP⟩:=cU zRP X G;have bRP:=FRP.binds (ps:=["thing"]) fun _ _ _ _ _ _ us hl=>by obtain⟨_,rfl⟩:=gS hl;rfl
 obtain⟨_,_,FRL,mRL,kRL⟩:=cU zRL X G;have bRL:=FRL.binds (ps:=["thing"]) fun _ _ _ _ _ _ us hl=>by obtain⟨_,rfl⟩:=gS hl;rfl
 obtain⟨_,_,FIC,mIC,kIC⟩:=cU zIC X G;have bIC:=FIC.binds (ps:=["thing"]) fun _ _ _ _ _ _ us hl=>by obtain⟨_,rfl⟩:=gS hl;rfl
 obtain⟨_,_,FIR,mIR,kIR⟩:=cU zIR X G;have bIR:=FIR.binds (ps:=["thing"]) fun _ _ _ _ _ _ us hl=>by obtain⟨_,rfl⟩:=gS hl;rfl
 obtain⟨_,_,FAT,mAT,kAT⟩:=cU zAT X G;have bAT:=FAT.binds (ps:=["thing","deep"]) fun _ _ _ _ _ _ us hl=>by obtain⟨_,_,rfl⟩:=rE hl;rfl
 obtain⟨_,_,FIO,mIO,kIO⟩:=cU zIO X G;have bIO:=FIO.binds (ps:=["thing"]) fun _ _ _ _ _ _ us hl=>by obtain⟨_,rfl⟩:=gS hl;rfl
 obtain⟨_,_,FRO,mRO,kRO⟩:=cU zRO X G;have bRO:=FRO.binds (ps:=["thing"]) fun _ _ _ _ _ _ us hl=>by obtain⟨_,rfl⟩:=gS hl;rfl
 obtain⟨_,_,FFO,mFO,kFO⟩:=cU zFO X G;have bFO:=FFO.binds (ps:=["row"]) fun _ _ _ _ _ _ us hl=>by obtain⟨_,rfl⟩:=gS hl;rfl
 obtain⟨_,_,FOr,mOr,kOr⟩:=cU zOr X G;have bOr:=FOr.binds (ps:=["row"]) fun _ _ _ _ _ _ us hl=>by obtain⟨_,rfl⟩:=gS hl;rfl
 obtain⟨_,_,FLG,mLG,kLG⟩:=cU zLG X G;have bLG:=FLG.binds (ps:=["thing"]) fun _ _ _ _ _ _ us hl=>by obtain⟨_,rfl⟩:=gS hl;rfl
 obtain⟨_,_,FRF,mRF,kRF⟩:=cU zRF X G;have bRF:=FRF.binds (ps:=["laying","thing"]) fun _ _ _ _ _ _ us hl=>by obtain⟨_,_,rfl⟩:=rE hl;rfl
 obtain⟨_,_,FRR,mRR,kRR⟩:=cU zRR X G;have bRR:=FRR.binds (ps:=["laying","thing"]) fun _ _ _ _ _ _ us hl=>by obtain⟨_,_,rfl⟩:=rE hl;rfl
 obtain⟨_,_,FBN,mBN,kBN⟩:=cU zBN X G;have bBN:=FBN.binds (ps:=["laying","things"]) fun _ _ _ _ _ _ us hl=>by obtain⟨_,_,rfl⟩:=rE hl;rfl
 obtain⟨_,_,FRoO,mRoO,kRoO⟩:=cU zRoO X G;have bRoO:=FRoO.binds (ps:=["laying","rows"]) fun _ _ _ _ _ _ us hl=>by obtain⟨_,_,rfl⟩:=rE hl;rfl
 obtain⟨_,_,FP,mP,kP⟩:=cU zP X G;have bP:=FP.binds (ps:=["_law_script"]) fun _ _ _ _ _ _ us hl=>by obtain⟨_,rfl⟩:=gS hl;rfl
 obtain⟨_,_,FT,mT,kT⟩:=cU zT X G;have bT:=FT.binds (ps:=["_law_pen_here","_law_many"]) fun _ _ _ _ _ _ us hl=>by obtain⟨_,_,rfl⟩:=rE hl;rfl
 obtain⟨_,_,FN,mN,kN⟩:=cU zN X G;have bN:=FN.binds (ps:=["_law_pen_here","_law_many"]) fun _ _ _ _ _ _ us hl=>by obtain⟨_,_,rfl⟩:=rE hl;rfl
 obtain⟨_,_,FSo,mSo,kSo⟩:=cU zSo X G;have bSo:=FSo.binds (ps:=["_law_pen_here","_law_fields","_law_rows"]) fun _ _ _ _ _ _ us hl=>by obtain⟨_,_,_,rfl⟩:=aC3 hl;rfl
 obtain⟨_,_,FD,mD,kD⟩:=cU zD X G;have bD:=FD.binds (ps:=["_law_pen_here","_law_many"]) fun _ _ _ _ _ _ us hl=>by obtain⟨_,_,rfl⟩:=rE hl;rfl
 obtain⟨_,_,FNu,mNu,kNu⟩:=cU zNu X G;have bNu:=FNu.binds (ps:=["_law_pen_here","_law_bottom","_law_most"]) fun _ _ _ _ _ _ us hl=>by obtain⟨_,_,_,rfl⟩:=aC3 hl;rfl
 obtain⟨_,_,FLO,mLO,kLO⟩:=cU zLO X G;have bLO:=FLO.binds (ps:=["_law_pen_here","_law_fields","_law_houses"]) fun _ _ _ _ _ _ us hl=>by obtain⟨_,_,_,rfl⟩:=aC3 hl;rfl
 obtain⟨_,_,FSm,mSm,kSm⟩:=cU zSm X G;have bSm:=FSm.binds (ps:=["_law_pen_here","_law_names_here","_law_many"]) fun _ _ _ _ _ _ us hl=>by obtain⟨_,_,_,rfl⟩:=aC3 hl;rfl
 obtain⟨_,_,FRo,mRo,kRo⟩:=cU zRo X G;have bRo:=FRo.binds (ps:=["_law_pen_here","_law_word","_law_name","_law_day","_law_sorts_here"]) fun _ _ _ _ _ _ us hl=>by obtain⟨_,_,_,_,_,rfl⟩:=aJ5 hl;rfl
 obtain⟨_,_,FR,mR,kR⟩:=cU zR X G;have bR:=FR.binds (ps:=["_law_pen_here","_law_name","_law_day","_law_sorts_here"]) fun _ _ _ _ _ _ us hl=>by obtain⟨_,_,_,_,rfl⟩:=aI7 hl;rfl
 obtain⟨_,_,FM,mM,kM⟩:=cU zM X G;have bM:=FM.binds (ps:=["_law_pen_here","_law_things"]) fun _ _ _ _ _ _ us hl=>by obtain⟨_,_,rfl⟩:=rE hl;rfl
 obtain⟨_,_,FID,mID,kID⟩:=cU zID X G;have bID:=FID.binds (ps:=["_law_laying_here","_law_rows"]) fun _ _ _ _ _ _ us hl=>by obtain⟨_,_,rfl⟩:=rE hl;rfl
 obtain⟨_,_,FTw,mTw,kTw⟩:=cU zTw X G;have bTw:=FTw.binds (ps:=["_law_pen_here","_law_rows"]) fun _ _ _ _ _ _ us hl=>by obtain⟨_,_,rfl⟩:=rE hl;rfl
 obtain⟨_,_,FNF,mNF,kNF⟩:=cU zNF X G;have bNF:=FNF.binds (ps:=["_law_pen_here","_law_laying_here","_law_spare"]) fun _ _ _ _ _ _ us hl=>by obtain⟨_,_,_,rfl⟩:=aC3 hl;rfl
 obtain⟨_,_,FNR,mNR,kNR⟩:=cU zNR X G;have bNR:=FNR.binds (ps:=["_law_pen_here","_law_rows","_law_sorts_here","_law_spare"]) fun _ _ _ _ _ _ us hl=>by obtain⟨_,_,_,_,rfl⟩:=aI7 hl;rfl
 have mDykeError:=AQ X G aDykeError;have mClash:=AQ X G aClash;have mNoBreach:=AQ X G aNoBreach;have mNoField:=AQ X G aNoField;have mNoInch:=AQ X G aNoInch;have mNoMend:=AQ X G aNoMend;have mNoName:=AQ X G aNoName;have mNoOrder:=AQ X G aNoOrder;have mNoRow:=AQ X G aNoRow;have mNoText:=AQ X G aNoText;have mNoThen:=AQ X G aNoThen;have mTooMany:=AQ X G aTooMany;have mTwice:=AQ X G aTwice;have mNoRoll:=AQ X G aNoRoll;have T:Txt K mg:=⟨n_isinstance,n_str,n_len,n_all,n_int,n_bool,n_tuple,n_set,⟨_,g_MOST_FIELDS⟩,⟨_,g_MOST_FIELD_ACRES⟩,⟨_,g_LONGEST⟩,⟨_,g_LAST_DAY⟩,⟨_,g_FEWEST_LANDS⟩,⟨_,g_MOST_LANDS⟩,⟨_,g_MOST_PART_ACRES⟩,⟨_,g_MOST_INCHES⟩,⟨_,g_MOST_PENCE⟩,⟨_,g_MOST_SPADES⟩⟩
 have RK:rC w K t_RANKS:=⟨_,_,_,_,_,_,_,_,_,_,_,_,_,_,_,_,_,lRk⟩
 have GT:=aGO (P:=l.prog) (w:=w) (base:=base) FT n_len n_abs;have GIN:=aGV (aDL (P:=l.prog) (w:=w) (base:=base) FIN T) aDM;have GNB:=aGW (P:=l.prog) (w:=w) (base:=base) FNB T;have GIW:=aBC FIW ⟨_,_,GNB,mNB,kNB,bNB⟩;have GRI:=aDU (P:=l.prog) (w:=w) (base:=base) FRI T n_list n_sorted;have GFD:=aFT FFD T ⟨_,_,GIN,mIN,kIN,bIN⟩ ⟨_,_,GIW,mIW,kIW,bIW⟩;have GLY:=aIV FLY T ⟨_,_,GFD,mFD,kFD,bFD⟩;have GPT:=aGX FPT T ⟨_,_,GIN,mIN,kIN,bIN⟩ ⟨_,_,GIW,mIW,kIW,bIW⟩;have GIC:=aGY FIC T ⟨_,_,GIW,mIW,kIW,bIW⟩;have GAP:=aG0 FAP T ⟨_,_,GPT,mPT,kPT,bPT⟩;have GAN:=aGZ FAN T ⟨_,_,GIN,mIN,kIN,bIN⟩;have GRP:=aG4 FRP T ⟨_,_,GAP,mAP,kAP,bAP⟩ ⟨_,_,GRI,mRI,kRI,bRI⟩;have GRL:=aG3 FRL T ⟨_,_,GAN,mAN,kAN,bAN⟩ ⟨_,_,GRI,mRI,kRI,bRI⟩;have GF0:=aFC FF0 T ⟨_,_,GIN,mIN,kIN,bIN⟩ ⟨_,_,GRP,mRP,kRP,bRP⟩;have GF1:=aFD FF1 T ⟨_,_,GIN,mIN,kIN,bIN⟩ ⟨_,_,GRL,mRL,kRL,bRL⟩;have GF2:=aAy FF2 T ⟨_,_,GAN,mAN,kAN,bAN⟩;have GF3:=aAw FF3 T ⟨_,_,GIN,mIN,kIN,bIN⟩ ⟨_,_,GIW,mIW,kIW,bIW⟩;have GF4:=aFx FF4 T ⟨_,_,GAN,mAN,kAN,bAN⟩;have GF5:=aDP FF5 T ⟨_,_,GIN,mIN,kIN,bIN⟩;have GF6:=aBH FF6 T ⟨_,_,GIN,mIN,kIN,bIN⟩ ⟨_,_,GIW,mIW,kIW,bIW⟩ ⟨_,_,GIC,mIC,kIC,bIC⟩;have GF7:=aFv FF7 T ⟨_,_,GIN,mIN,kIN,bIN⟩ ⟨_,_,GIC,mIC,kIC,bIC⟩;have GIR:=aFE FIR T (aHc lFm) (aIW fF0 fF1 fF2 fF3 fF4 fF5 fF6 fF7) hzF g_FORMS (aJ0 fF0 fF1 fF2 fF3 fF4 fF5 fF6 fF7) (aJ1 GF0 kF0 bF0 GF1 kF1 bF1 GF2 kF2 bF2 GF3 kF3 bF3 GF4 kF4 bF4 GF5 kF5 bF5 GF6 kF6 bF6 GF7 kF7 bF7) ⟨_,_,GIN,mIN,kIN,bIN⟩ ⟨_,_,GIW,mIW,kIW,bIW⟩;have GAT2:=aBL FAT T n_list mAT kAT bAT (aBL FAT T n_list mAT kAT bAT (aIQ (P:=l.prog) (w:=w) (base:=base) FAT T n_list mAT kAT bAT))
 have mAT2:=mAT;have kAT2:=kAT;have bAT2:=bAT;have GAT:=aBL FAT T n_list mAT kAT bAT GAT2;have GIO:=aIS FIO T n_sorted ⟨_,_,GAP,mAP,kAP,bAP⟩ ⟨_,_,GAN,mAN,kAN,bAN⟩;have GRO:=aDY FRO ⟨_,g_ROW_DEPTH⟩ mNoRow zxNoRow ⟨_,_,GAT,mAT,kAT,bAT⟩ ⟨_,_,GIO,mIO,kIO,bIO⟩ ⟨_,_,GIR,mIR,kIR,bIR⟩;have GFO:=aBK (P:=l.prog) (w:=w) (mg:=mg) (base:=base) FFO;have GOr:=aFU (P:=l.prog) (base:=base) FOr RK g_RANKS;have GRF:=aBU FRF mNoRow zxNoRow GRO mRO kRO bRO GFO mFO kFO bFO;have GRR:=aBV FRR mNoRow zeNoRow mNoRoll zxNoRoll GRF mRF kRF bRF;have GLG:=aBW FLG ⟨_,g_LAYING_DEPTH⟩ mNoRoll zxNoRoll GAT2 mAT2 kAT2 bAT2 GLY mLY kLY bLY;have GBN:=aAO FBN mNoRoll zxNoRoll GRR mRR kRR bRR;have GRoO:=aFX FRoO T n_list n_sorted ⟨_,g_MOST_ROWS⟩ mNoRoll zxNoRoll GLG mLG kLG bLG GBN mBN kBN bBN GOr mOr kOr bOr;have GN:=aFp FN n_len n_range n_min ⟨_,_,GT,mT,kT,bT⟩;have GSo:=aFO FSo ⟨_,_,GT,mT,kT,bT⟩ ⟨_,_,GN,mN,kN,bN⟩;have GNu:=aIR FNu n_min ⟨_,_,GT,mT,kT,bT⟩;have GD:=aHa FD n_range n_len n_int ⟨_,_,GT,mT,kT,bT⟩;have GLO:=aFV FLO n_len n_tuple ⟨_,_,GT,mT,kT,bT⟩ ⟨_,_,GNu,mNu,kNu,bNu⟩;have GSm:=aG9 FSm n_list n_range n_sorted n_len ⟨_,_,GT,mT,kT,bT⟩;have GRo:=aFR FRo n_len n_tuple ⟨_,_,GT,mT,kT,bT⟩ ⟨_,_,GNu,mNu,kNu,bNu⟩ ⟨_,_,GSm,mSm,kSm,bSm⟩;have GR:=aIY FR ⟨_,_,GT,mT,kT,bT⟩ ⟨_,_,GRo,mRo,kRo,bRo⟩;have GM:=aFZ FM n_list n_tuple n_range n_len ⟨_,_,GT,mT,kT,bT⟩;have GID:=aF8 FID n_isinstance n_ValueError mDykeError mClash mNoBreach mNoField mNoInch mNoMend mNoName mNoOrder mNoRow mNoText mNoThen mTooMany mTwice mNoRoll zeNoRoll zfNoRoll zgNoRoll GRoO mRoO kRoO bRoO
 have GTw:=aHj FTw n_len n_range n_isinstance n_int ⟨_,_,GT,mT,kT,bT⟩;have GNF:=aAT FNF n_len n_tuple ⟨_,_,GT,mT,kT,bT⟩;have GNR:=aD4 FNR n_len ⟨_,_,GT,mT,kT,bT⟩ ⟨_,_,GRo,mRo,kRo,bRo⟩ ⟨_,_,GTw,mTw,kTw,bTw⟩;exact aI5 FL n_range n_list n_repr (aIG FP n_list) mP kP bP GSo mSo kSo bSo GD mD kD bD GLO mLO kLO bLO GT mT kT bT GR mR kR bR GRoO mRoO kRoO bRoO GM mM kM bM GNF mNF kNF bNF GNR mNR kNR bNR GID mID kID bID
theorem walk{l:FC}{q:Ay}{loose:List Str}{XP:(Str→Option Ac)→Ba→Prop}{YP:AV→Ba→Prop}{d:DefRec}{K:Params→Ag}(hn:l.most=some 63)(hdf:d.params.defaults=[])
  (hY:∀(w:AV) (h:Ba),YP w h→(K w.params).In h)
  (F:∀(w:AV) (mg:Str→Option Ac) (fa:Ah) (h:Ba),(K w.params).In h→h.Ns mainGlobals mg→mg d.name=some (.ref fa)→
   ∃ fd:AH,(∀(s:Ad) (u:Ac),Gb s fd ⟨[u],[]⟩ [("_law_script",u)])∧∀ base:Ba,(K w.params).In base→base.Ns mainGlobals mg→b8 l.prog w (K w.params) mg base CX0 14 fa fd ["_law_script"] (aC0 (K w.params))):
  PySem.W.WalkO q loose XP YP l.row.toRowW d [] (fun f vs=>GU f vs):=
 L2.walk_of (n:=63) (k:=14) (x:="_law_script") (CX:=fun _=>CX0) (sp:=fun w=>aC0 (K w.params)) hn (by decide) hdf ⟨rfl,by decide,by decide,rfl⟩ hY F (fun _ _ a ns hl _ hS=>⟨a,ns,rfl,hS,hl,fun _=>rfl⟩) fun _ _ _ _ _ z=>z
end K06
end
namespace PySem.W.Fast
def tw12147624381888467766:=0
def tw3312706413000086609:=0
def tw5065485394031460459:=0
def tw12953667025954357333:=0
def tw5182394332663774399:=0
def tw11291077216880197857:=0
def tw4873040457299059387:=0
def tw1822930209088844918:=0
def tw9451334621820756641:=0
def tw1467363101102469624:=0
def tw16886489507418170083:=0
def tw10876956337918140062:=0
def tw12041152560790187480:=0
def tw2558254861619481844:=0
def tw5580587884398708461:=0
def tw13936496018012171390:=0
def tw16242300309700555383:=0
def tw12697024931806012461:=0
def tw10490341196542058770:=0
def tw4163241149582212756:=0
def tw4528606914834513378:=0
def tw18312281184810647010:=0
def tw2233090562448555228:=0
def tw15394064266337281860:=0
def tw15733759814524302015:=0
def tw6034245691567598917:=0
def tw7805589063851190201:=0
def tw16139364818800877152:=0
def tw4324323230188997875:=0
def tw11051622457736505695:=0
def tw17324457167547113692:=0
def tw14858238158861042935:=0
def tw2688406490401364413:=0
def tw4011399689247663301:=0
def tw2672762313720637035:=0
def tw6363574544056876749:=0
def tw13396285756147916356:=0
def tw16326917170330958380:=0
def tw15465437074740802895:=0
def tw10487100779007156780:=0
def tw5094735485364520398:=0
def tw11549120415247176565:=0
def tw6776229714832696795:=0
def tw9547267772296873565:=0
def tw9547465007431279248:=0
def tw14143289010635497868:=0
def tw16219588676507735828:=0
def tw18231853716009319353:=0
def tw3364680384073390025:=0
def tw15551671849138369784:=0
def tw3776500305957310951:=0
def tw8310262619756848506:=0
def tw17822108550361006359:=0
def tw10996875449888956946:=0
def tw17788944637647090664:=0
def tw819770699815763731:=0
def tw13120556553562173348:=0
def tw3783653856598145477:=0
def tw15511664271295363217:=0
def tw14491668300951966486:=0
def tw12170932179326714124:=0
def tw15768468115937118787:=0
def tw3079860469139965778:=0
def tw10171298741138894461:=0
def tw12522873527324700904:=0
def tw4771906860974943589:=0
def tw12301039107398958850:=0
def tw2263727746345566951:=0
def tw7768366186716990497:=0
def tw110604434864404356:=0
def tw17461963509135780777:=0
def tw3267015674696132898:=0
def tw16962249026959963626:=0
def tw14420214358591238866:=0
def tw8425423689724998443:=0
def tw12302991224279257228:=0
def tw2611181442315776099:=0
def tw8713821620814519739:=0
def tw17147339178564346622:=0
def tw2694085213384552527:=0
def tw9162720666780992153:=0
def tw8639778855935854312:=0
def tw9849689150347483503:=0
def tw17388338444801739155:=0
def tw12425770666368012668:=0
def tw3914606230621990133:=0
def tw11833110026399706697:=0
def tw2940435831747497364:=0
def tw8616151508605804488:=0
def tw331066180887744678:=0
def tw14785491772696701977:=0
def tw1789785159389314465:=0
def tw17231275557033973228:=0
def tw797457799523595649:=0
def tw1748436969362897212:=0
def tw9785202796485118754:=0
def tw9561132454097600670:=0
def tw9975290993107523665:=0
def tw11853189304835892809:=0
def tw12252575665946973485:=0
def tw17829139891510524449:=0
def tw770477559824629762:=0
def tw8042215137833622351:=0
def tw16974366807484671250:=0
def tw11563492666692575503:=0
def tw4597988644676046361:=0
def tw98139313044263285:=0
def tw13801419926620524063:=0
def tw10907065489864360957:=0
def tw9058507741415288627:=0
def tw5035704824201198497:=0
def tw16823112123888281583:=0
def tw15532761535762880845:=0
def tw8192676835972892845:=0
def tw13693125928470578772:=0
def tw15829353066891588916:=0
def tw5702964748983634163:=0
def tw16420750100305214199:=0
def tw12063665652899501271:=0
def tw3645722232029105191:=0
def tw2409467565284733806:=0
def tw7833607809422441554:=0
def tw16166964235482411845:=0
def tw1782697371921990242:=0
def tw371809457795018851:=0
def tw5185454979624837016:=0
def tw10817442983185016425:=0
def tw2773022362465804822:=0
def tw5765500513520695160:=0
def tw3161257818641711581:=0
def tw7903795307091623668:=0
def tw11268689487785571231:=0
def tw3980421692978555448:=0
def tw7431152138246206309:=0
def tw17667114461481284467:=0
def tw8211137208370435704:=0
def tw6351358382380385445:=0
def tw9323808804498996652:=0
def tw1762942977459128343:=0
def tw1641786475323497844:=0
def tw1146879823128715365:=0
def tw1789545480416672900:=0
def tw417969867819200162:=0
def tw12387155460922805744:=0
def tw17632263965479868073:=0
def tw11354451451211388510:=0
def tw1867642768333691379:=0
def tw7159476657986651328:=0
def tw15948715995185855543:=0
def tw8173386608413693066:=0
def tw4420972423582020591:=0
def tw3302187989026385792:=0
def tw16828960821442465243:=0
def tw7400633674884581239:=0
def tw11506045319104124785:=0
def tw5055997498320418591:=0
def tw15458101588025632217:=0
def tw1006279592202322905:=0
def tw3361297084831868696:=0
def tw17310778300962780899:=0
def tw3904363000255824932:=0
def tw7349120211913285293:=0
def tw3484812678963372728:=0
def tw10442324849440448642:=0
def tw17145657571483145252:=0
def tw18034110712046297308:=0
def tw9029258919493499313:=0
def tw8167048009808839735:=0
def tw14454394306461884065:=0
def tw4634979633243987382:=0
def tw16351279498165870122:=0
def tw5139738659985319424:=0
def tw14220513797650080452:=0
def tw3291331639944767279:=0
def tw7333476039597426165:=0
def tw17038417113691670077:=0
def tw17420466593672249114:=0
def tw92343233601011308:=0
def tw10178147935338498579:=0
def tw11511299442965618897:=0
def tw2826861607810239724:=0
def tw5649893566182270423:=0
def tw5020907273311559846:=0
def tw545998566444429790:=0
def tw6603229302664667518:=0
def tw17766900600813027179:=0
def tw13918033665626105807:=0
def tw5516819923161509413:=0
def tw6683757934816027989:=0
def tw11385081132848773647:=0
def tw8965421332574258691:=0
def tw9421092881656294056:=0
def tw2543571661922981889:=0
def tw10546764950956551010:=0
def tw8792712130821984123:=0
def tw7687869801761333361:=0
def tw4997627602108497388:=0
def tw2232893146966349838:=0
def tw11193877583916165460:=0
def tw11619217027068680880:=0
def tw18209544992195720963:=0
def tw1340681319294744370:=0
def tw13982177748068303017:=0
def tw16014648430244625154:=0
def tw6506470234042022309:=0
def tw16156160559342780618:=0
def tw13621822424249889909:=0
def tw6563370661480716740:=0
def tw863861671742237942:=0
def tw2655806173885424608:=0
def tw12006688802792773239:=0
def tw1365894142777711602:=0
def tw13143370894363760743:=0
def tw10071484590342517489:=0
def tw1398592162536624878:=0
def tw16646150863189283952:=0
def tw17127714191750928072:=0
def tw6705964796279680420:=0
def tw11777739567066234918:=0
def tw15115271869393997319:=0
def tw14076305621667167092:=0
def tw9329625392391200660:=0
def tw8475937863533427601:=0
def tw17656764826533445247:=0
def tw12587368907259428536:=0
def tw17017398127958932028:=0
def tw14304559294771810999:=0
def tw1057607442643626813:=0
def tw1856468825329498866:=0
def tw13559807808741883408:=0
def tw16973196347192612850:=0
def tw3481622086758196791:=0
def tw15153106798697066379:=0
def tw13120847624895066365:=0
def tw16647788834571141818:=0
def tw2094232475903542215:=0
def tw16611181888995527773:=0
def tw4249084040680676459:=0
def tw13796426473852642324:=0
def tw3632938801447033618:=0
def tw11870891655960339154:=0
def tw14231305183740069579:=0
def tw6807370727696799698:=0
def tw9090590013464920926:=0
def tw12903812032536030574:=0
def tw16011318474521952730:=0
def tw14377691550048605325:=0
def tw17411511394785378704:=0
def tw14548730919335845193:=0
def tw5187010743480291832:=0
def tw307220708486713729:=0
def tw3510207602741461730:=0
def tw5069254920441619674:=0
def tw1486764818510477408:=0
def tw17824257464182264300:=0
def tw4369423402693988394:=0
def tw9405407219142904857:=0
def tw17168864274754692782:=0
def tw12030033849302467860:=0
def tw10573875513212412058:=0
def tw3988868399309605749:=0
def tw11780248739781667285:=0
def tw12937338824056470052:=0
def tw341978593174223355:=0
def tw2904739832673894289:=0
def tw842228880808041842:=0
def tw14189312901853653519:=0
def tw9948842256461255977:=0
def tw7912270924342453940:=0
def tw8393650028701394177:=0
def tw12422290532400563080:=0
def tw14196317156676311309:=0
def tw4277171134041995800:=0
def tw13553648021359521129:=0
def tw15951332359028953239:=0
def tw16156514006152219871:=0
def tw9810143427099821124:=0
def tw819236696667631707:=0
def tw11938026810814099604:=0
def tw649432540265841306:=0
def tw11649126917065136113:=0
def tw10602256331702321355:=0
def tw6690738689580922311:=0
def tw11662889887940625618:=0
def tw9274415868695700507:=0
def tw704943460033524602:=0
def tw11309624058643859373:=0
def tw14945684464312470425:=0
def tw3859116656570593124:=0
def tw1391459795521188085:=0
def tw9091611266567060186:=0
def tw7317941036740810485:=0
def tw16823247002357505310:=0
def tw18106936353460733733:=0
def tw5520363474292529380:=0
def tw2650439532378952664:=0
def tw15037592471623762922:=0
def tw17839021840122437894:=0
def tw6289394908145343235:=0
def tw10935899901090303953:=0
def tw9626342173418230151:=0
def tw15177346357882951674:=0
def tw17709785407520875501:=0
def tw7284771273635245772:=0
def tw17652403118208254844:=0
def tw3920313207871794090:=0
def tw8646052663517123543:=0
def tw13253702588227805311:=0
def tw15786626850532824067:=0
def tw5759745043786047483:=0
def tw13729385820827791381:=0
def tw3978288047961368451:=0
def tw16130647132370203597:=0
def tw7762110931540428514:=0
def tw10337164162573376277:=0
def tw15790057991155005356:=0
def tw8803188575480698047:=0
def tw11671699225252009162:=0
def tw16388439543608004023:=0
def tw9624941227047098508:=0
def tw1156177060256427230:=0
def tw9565216916328225403:=0
def tw10700144811419465954:=0
def tw9506293663457414978:=0
def tw12700633192184492354:=0
def tw13789335724099489732:=0
def tw9877170074921504958:=0
def tw16498273025791780590:=0
def tw10539092995106901350:=0
def tw3147675962207525569:=0
def tw9683931111057911725:=0
def tw6989212848534187085:=0
def tw13969647353125616893:=0
def tw4422902018713824241:=0
def tw17654730157777353473:=0
def tw9619894860897155759:=0
def tw8776913036992777483:=0
def tw4871324886273865912:=0
def tw11369355766640458329:=0
def tw2832832194252511864:=0
def tw18352531490732980700:=0
def tw17114758575405997233:=0
def tw5273181420099421235:=0
def tw9248906880090043506:=0
def tw15983693152240564982:=0
def tw16124812807239627142:=0
def tw13460121492389668477:=0
def tw12414024861979538887:=0
def tw15319606331014984018:=0
def tw6870158457431462158:=0
def tw4517075751151872613:=0
def tw4447974167043861116:=0
def tw11801498310053797671:=0
def tw7674041075565442017:=0
def tw4653080916763739523:=0
def tw3972790747387230168:=0
def tw10713278867283008012:=0
def tw2294595823278739809:=0
def tw8920584190820052112:=0
def tw2474154738529870929:=0
def tw5926270853566595665:=0
def tw4937181957546633553:=0
def tw13460548750761106140:=0
def tw13273315696514704914:=0
def tw11397446305440977780:=0
def tw12619923214795490000:=0
def tw2379437334128668894:=0
def tw10819465153626809026:=0
def tw3159798755491448212:=0
def tw7455958744446860602:=0
def tw10529281186382401541:=0
def tw947475256590062202:=0
def tw8618421489905853632:=0
def tw311300981723504371:=0
def tw18000015391619240760:=0
def tw9728437210734229017:=0
def tw10679929038009276690:=0
def tw15202767999855711136:=0
def tw11338425751958805489:=0
def tw10151317092968091381:=0
def tw16580520929982104369:=0
def tw18020982177896988675:=0
def tw3457079634233659779:=0
def tw9138800348248856179:=0
def tw16931314905493133214:=0
def tw8991786264827290142:=0
def tw5888094219807191355:=0
def tw2794435323077303424:=0
def tw9250272326314766080:=0
def tw2615963154856178314:=0
def tw12978903304985510796:=0
def tw17815013997154825557:=0
def tw13060863514003965317:=0
def tw6615200965760768413:=0
def tw2787089269576679225:=0
def tw16005482653234550656:=0
def tw10293481628982482680:=0
def tw10606598344724178698:=0
def tw13013969095231556970:=0
def tw5996415090185485037:=0
def tw1024852076011418045:=0
def tw13859515250220291322:=0
def tw12533853891339381627:=0
def tw690243695737623333:=0
def tw17273669469270397139:=0
def tw3483080582126670708:=0
def tw10359081606531994097:=0
def tw6568235522404389608:=0
def tw4103096228913204769:=0
def tw3796725525373023787:=0
def tw3053009455565866616:=0
def tw5587690178137080396:=0
def tw16639738000697938314:=0
def tw4617940279988233208:=0
def tw939677504031365790:=0
def tw3828732133017375748:=0
def tw5706374776608131827:=0
def tw7494268670403531006:=0
def tw8059978416719085761:=0
def tw5051280224333589718:=0
def tw15562798422709019822:=0
def tw14477163993648635165:=0
def tw2953645942875669695:=0
def tw14769298420305085622:=0
def tw8959370115029887453:=0
def tw16096497593817634459:=0
def tw3348305129047214556:=0
def tw2328136255245810165:=0
def tw11814472928508409933:=0
def tw13170002028756147629:=0
def tw12453915601321003410:=0
def tw13477235221556679948:=0
def tw6265786093593825796:=0
def tw11156519428181981951:=0
def tw2226692201297956762:=0
def tw13556015884263512460:=0
def tw8509419085079952090:=0
def tw18135415115629420174:=0
def tw14243225615845890355:=0
def tw1001387279380727689:=0
def tw14394025884856792163:=0
def tw14652019727822131018:=0
def tw1440951690106636388:=0
def tw10227526009734040590:=0
def tw1576371621580443476:=0
def tw752454668051131759:=0
def tw3706327719276939060:=0
def tw10632019659972189497:=0
def tw18007088996493286546:=0
def tw13862354468473740798:=0
def tw6642437373732556381:=0
def tw3207443002414197646:=0
def tw2289943569841032129:=0
def tw7609310239030851141:=0
def tw373373183427642739:=0
def tw16034295657446212045:=0
def tw8114129168050672859:=0
def tw7811835318747813737:=0
def tw8125576931270013089:=0
def tw16222018019434194919:=0
def tw5408131042574261521:=0
def tw1631270321279011640:=0
def tw17170020601780245531:=0
def tw5732641101998139968:=0
def tw16074224125150892687:=0
def tw12160541023313821053:=0
def tw15323369018463911499:=0
def tw14553730565397432604:=0
def tw1765674234336519931:=0
def tw4482159488577694164:=0
def tw16371905056825466623:=0
def tw3622113910001358010:=0
def tw9125983959192538079:=0
def tw2876873886019800607:=0
def tw8836961227052018383:=0
def tw13560391859951414267:=0
def tw4733078092189354108:=0
def tw15452443543957043297:=0
def tw17271769523065896071:=0
def tw8202166888364283289:=0
def tw4732402453044346920:=0
def tw2140540601916867446:=0
def tw11819518692870058046:=0
def tw16792548720847725260:=0
def tw14834853748751268978:=0
def tw18205287316139832037:=0
def tw17118977878473639802:=0
def tw13637005274127984066:=0
def tw9290705885191324952:=0
def tw9752410918653068138:=0
def tw2010725337728576554:=0
def tw15174031537549144644:=0
def tw13860126788994586467:=0
def tw2247872520838084501:=0
def tw15702209670589730386:=0
def tw1207308879391343308:=0
def tw17348761319241599475:=0
def tw16570944528824545415:=0
def tw13983776111731276644:=0
def tw927906829418459397:=0
def tw3225961428007182209:=0
def tw18143653811790892909:=0
def tw15311014755189833066:=0
def tw15162016238197579261:=0
def tw6291315251544706975:=0
def tw10803643530825578507:=0
def tw3039779564080931549:=0
def tw7581467164335349548:=0
def tw13813357757663668238:=0
def tw1087501180955156508:=0
def tw6446673902047028531:=0
def tw5534700491477662332:=0
def tw6103546176979772822:=0
def tw17535957566993829662:=0
def tw6902321723663594617:=0
def tw8524229212263698322:=0
def tw3367010711527175069:=0
def tw16937059821437945703:=0
def tw14854239725164586935:=0
def tw15591995260239822502:=0
def tw13765312549919906992:=0
def tw13610732964138270723:=0
def tw13661693455260609429:=0
def tw4637810280490997424:=0
def tw7906688948232046751:=0
def tw13389127732003776333:=0
def tw8468513172034455980:=0
def tw4385521848989783911:=0
def tw16006169459707233688:=0
def tw18044904013827857767:=0
def tw3657436094018911606:=0
def tw14703038264480356116:=0
def tw15623670257106687157:=0
def tw3625551544730378561:=0
def tw1162665221272633132:=0
def tw6477864499563721047:=0
def tw7265221721921443084:=0
def tw2098137915396821643:=0
def tw17779122408480042017:=0
def tw3524121342720230540:=0
def tw8039189360473477460:=0
def tw13458595425821084742:=0
def tw17070258836999376569:=0
def tw18176633518077956438:=0
def tw16989023264251540130:=0
def tw15510078188155748176:=0
def tw1997052039940943864:=0
def tw16889843993802393410:=0
def tw4507065687497132358:=0
def tw6779594783595933206:=0
def tw3932768819531779719:=0
def tw16832813902302187902:=0
def tw17198474656898007400:=0
def tw14050127041869190076:=0
def tw18023410317207233773:=0
def tw1806282245294492329:=0
def tw6750452702050178293:=0
def tw4366175927535075838:=0
def tw3147552650720221015:=0
def tw6125473325985889709:=0
def tw558398284911630316:=0
def tw18013007498116960129:=0
def tw7575032580998664625:=0
def tw14930352141074099305:=0
def tw12690921966251142598:=0
def tw9012483366162927337:=0
def tw6197670955228650048:=0
def tw14487689787549135959:=0
def tw16298879289113554495:=0
def tw12754861440106233443:=0
def tw17188881852632234157:=0
def tw17476702384739563195:=0
def tw13338023885107065481:=0
def tw12298640685974161400:=0
def tw9184273252133258374:=0
def tw1955481109704332083:=0
def tw3098305737634848524:=0
def tw7934844875113903555:=0
def tw757016053902056421:=0
def tw11299167551846877416:=0
end PySem.W.Fast
open PySem PySem.W PyProof.Rows
set_option maxRecDepth 100000 in
set_option maxHeartbeats 0 in
theorem PySem.Challenge.cw_dykelengths_k06_what_makes_no_roll_holds : PySem.Challenge.rw_dykelengths_k06_what_makes_no_roll.Holds := by
 w_on;o_law;k_head;(case hw=>w_witness2)
 k_fill
 refine K06.walk (l:=PySem.Challenge.rw_dykelengths_k06_what_makes_no_roll) rfl rfl (fun w h Y=>PySem.W.kIn_of Y) ?F
 case F=>
  intro w mg fa h KX G hmg
  refine' K06.all_mk KX G hmg ?aDykeError ?aClash ?aNoBreach ?aNoField ?aNoInch ?aNoMend ?aNoName ?aNoOrder ?aNoRow ?aNoText ?aNoThen ?aTooMany ?aTwice ?aNoRoll ?zxNoRow ?zxNoRoll ?zeNoRow ?zeNoRoll ?zfNoRoll ?zgNoRoll ?aF0 ?lF0 ?cF0 ?kF0 ?aF1 ?lF1 ?cF1 ?kF1 ?aF2 ?lF2 ?cF2 ?kF2 ?aF3 ?lF3 ?cF3 ?kF3 ?aF4 ?lF4 ?cF4 ?kF4 ?aF5 ?lF5 ?cF5 ?kF5 ?aF6 ?lF6 ?cF6 ?kF6 ?aF7 ?lF7 ?cF7 ?kF7 ?aL ?lL ?cL ?kL ?z_isinstance ?z_str ?z_len ?z_all ?z_int ?z_bool ?z_tuple ?z_set ?z_list ?z_sorted ?z_abs ?z_range ?z_min ?z_repr ?z_ValueError ?q_MOST_FIELDS ?q_MOST_FIELD_ACRES ?q_LONGEST ?q_LAST_DAY ?q_FEWEST_LANDS ?q_MOST_LANDS ?q_MOST_PART_ACRES ?q_MOST_INCHES ?q_MOST_PENCE ?q_MOST_SPADES ?q_ROW_DEPTH ?q_LAYING_DEPTH ?q_MOST_ROWS ?q_FORMS ?lFm ?hzF ?q_RANKS ?lRk ?zIN ?zNB ?zIW ?zRI ?zFD ?zLY ?zPT ?zAP ?zAN ?zRP ?zRL ?zIC ?zIR ?zAT ?zIO ?zRO ?zFO ?zOr ?zLG ?zRF ?zRR ?zBN ?zRoO ?zP ?zT ?zN ?zSo ?zD ?zNu ?zLO ?zSm ?zRo ?zR ?zM ?zID ?zTw ?zNF ?zNR
  case aDykeError|aClash|aNoBreach|aNoField|aNoInch|aNoMend|aNoName|aNoOrder|aNoRow|aNoText|aNoThen|aTooMany|aTwice|aNoRoll=>k_is
  case zxNoRow|zxNoRoll|zeNoRow|zeNoRoll|zfNoRoll|zgNoRoll=>kernel_rfl
  case aF0|lF0|cF0|kF0|aF1|lF1|cF1|kF1|aF2|lF2|cF2|kF2|aF3|lF3|cF3|kF3|aF4|lF4|cF4|kF4|aF5|lF5|cF5|kF5|aF6|lF6|cF6|kF6|aF7|lF7|cF7|kF7|aL|lL|cL|kL|z_isinstance|z_str|z_len|z_all|z_int|z_bool|z_tuple|z_set|z_list|z_sorted|z_abs|z_range|z_min|z_repr|z_ValueError|q_MOST_FIELDS|q_MOST_FIELD_ACRES|q_LONGEST|q_LAST_DAY|q_FEWEST_LANDS|q_MOST_LANDS|q_MOST_PART_ACRES|q_MOST_INCHES|q_MOST_PENCE|q_MOST_SPADES|q_ROW_DEPTH|q_LAYING_DEPTH|q_MOST_ROWS|q_FORMS|lFm=>k_is
  case hzF=>first | rfl | decide
  case q_RANKS|lRk=>k_is
  case zIN|zNB|zIW|zRI|zFD|zLY|zPT|zAP|zAN|zRP|zRL|zIC|zIR|zAT|zIO|zRO|zFO|zOr|zLG|zRF|zRR|zBN|zRoO|zP|zT|zN|zSo|zD|zNu|zLO|zSm|zRo|zR|zM|zID|zTw|zNF|zNR=>exact ⟨_,by k_is,⟨_,_,_,_,_,_,_,_,_,by k_is,by k_is⟩,by k_is⟩
