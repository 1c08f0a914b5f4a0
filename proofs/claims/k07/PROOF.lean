import PyProof.Rows.All
import Wide.All
import OpenK.AllK
import Wide.FinOn
import Lean
import PyProof.EqAt
import PyProof.EqKinds
import PyProof.TupleCall
import KE.KIntText
import KE.KDictList
import PyProof.StationsW
import PyProof.ExcClass2
import OpenK.KRaise
import OpenK.KOwn
import KE.KTryMore
import PyProof.NsDelKeeps
import PyProof.Rows.Catch
import PyProof.ExcArgs
import PyProof.AttrMissHeap
import KE.KDictOf
import KE.KPairComp
import PyProof.P3In
import KE.KSortTup
import PyProof.EnumFor
import PyProof.EnumMake
import PyProof.EnumStmt
import PyProof.Rows.EnumRows
import PyProof.StrCalls
import PyProof.NeData
import PySem.Challenge.RW_dykelengths_k07_rows_put_in_and_left_out
set_option linter.all false
set_option maxRecDepth 100000
set_option Elab.async false
set_option maxHeartbeats 16000000
noncomputable section
local macro_rules
|`(tactic|omega)=>`(tactic|lia)
local macro_rules
|`(tactic|decide)=>`(tactic|decide +kernel)
open PySem renaming wpAny_bind→Aa,Value→Ab,Addr→Ac,Shared→Ad,wpAny_pure→Af,PyData→Ak,Program→Ay,wpAny_ite_false→AC,FuncData→AE,Around→AN,boot_len→AO,World→AS,Heap→A4,Expr→Bc,wpAny_holding→Be,mem_of_lookup→By,strKind→BF,wpAny_mono→BG,wpAny_ite_true→BH,wpAny_newObj_type→BI,Stmt→BP,codeAny_builtin→BR,wpAny_typeOf→BU,wpAny_isInstance→B2,wpAny_call_entry→B3,wpAny_truthy_bool→B9,wpAny_Call_Name_kw→Cf,wpAny_callSpecial?_slot→Cj,codeAny_mono→Cq,sizeLine_eq→Ct,wpAny_of_eq→CG,Scope→CH,wpAny_call→CM,SetTable→CO,wpAny_passesOwn→C4,wpAny_setState_of→Df,wpAny_askSetting→Dq,wpAny_setEntries_of→Dt,wpAny_attempt→Dv,plainId_quiet→Dw,wpAny_execs_nil→Dy,wpAny_getItem_str_slice→DJ,Arguments→DO,wpAny_setField→DS,NameKind→DW,codeAny_call_builtin→D8,wpAny_specialOf→Ec,Keyword→Ej,wpAny_runValue→En,wpAny_rule→Eo,Paired→Er,fits_of_scanBound→ED,wpAny_newList→EE,typeIs_str→EL,IsPart→ER,wpAny_updateSeq→EV,wpAny_loadPart'→EW,post_val_or_str→EX,Model→E3,wpAny_fieldsOf→Ff,wpAny_standAt→Fo,wpAny_load→Fq,tupleKind_room_in1→Fs,call_meets→Ft,wpAny_pyIter_list→FE,GenState→FJ,BindsTo→FM,wpAny_execs_cons→FU,noFill_tuple_add→FV,sizeLine_eq→FX,codeAny_of_tree→F2,wpAny_newTuple→F7,isSubtype_type→F8,CmpOp→Ga,seq_tuple_add→Ge,call→Gg,TriplesOk→Gk,concat_meets→Gs,Fin→Gv,wpAny_field→Gy,seqIndex_of→Gz,Drawn→GX
open List renaming length_map→Ae,getElem?_eq_getElem→Ag,mem_cons→Al,not_mem_nil→Ao,size_toArray→Ar,length_append→Av,getD_eq_getElem?_getD→Aw,mem_of_getElem?→AF,getElem?_eq_some_iff→AH,getElem?_map→AK,mem_cons_self→AL,mem_cons_of_mem→AM,map_append→AU,range→AV,length_take→AX,mem_append_right→AZ,getElem?_eq_none→A0,length_cons→A1,all_eq_true→A3,lookup_cons→A5,map_cons→A8,mem_filterMap→A9,mem_map→Bd,mem_append→Bf,take_add_one→Bk,eq_nil_of_length_eq_zero→Bq,take_of_length_le→Bw,mem_singleton→Bx,getElem_mem→BB,mem_range→BC,take_length→BJ,length_range→B7,mem_or_eq_of_mem_set→Ca,length_drop→Cc,getElem?_of_mem→Ce,forIn_cons→Cu,append_nil→Cv,pairwise_map→Cy,mem_of_mem_take→Cz,map_map→CA,ext_getElem?→CB,lt_irrefl→CI,getElem_map→CJ,getElem_inj→CK,pairwise_cons→CN,nodup_cons→CS,mem_filter→CT,all_cons→CV,length_filter_le→CZ,nodup_append→C2,not_lt→C7,mem_append_left→C8,length_eraseIdx_of_lt→C9,getElem?_append_right→Da,getElem?_append_left→Di,getElem?_range→Dk,filter_sublist→Dm,any_cons→Dp,find?_cons→Dr,getElem?_set_self→Dz,drop_zero→DA,drop_eq_nil_of_le→DB,append_assoc→DC,all_map→DE,mem_iff_getElem→DZ,getElem?_set_ne→D0,map_congr_left→D2,filterMap_cons→D3,map_nil→D4,idxOf_lt_length_of_mem→D5,pairwise_iff_getElem→Eh,take→Ey,le_antisymm→Ez,any_eq_true→EA,length_nil→EG,length_singleton→EI,replicate→EK,length_pos_iff→E4,lt_trans→E7,getElem_idxOf→Fc,filter_append→Fd,ext_getElem→Fp,range'→Fv,of_mem_zip→Fz,nil_append→FA,length_set→FC,perm_cons→FQ,forIn_nil→FS,map_take→F0,map→Gb,length→Gc
open PySem.W renaming Frag→Ah,keepIn→Aj,nsIn→Am,mg_of→An,codeIn→Au,fnOf→Az,mg_none_of→Bi,kitOne→Bt,kia_tup→BW,kia_one→BX,exmOne→Cm,kas_sort→Co,findIn→CF,codeHdIn→C5,kitAny→Du,kitx_list→Ea,kitx_dict→Eb,excIn→Ed,callWith_K→EO,specialIn→E5,methodObj→E6,instObj→Fh,OpenLaw→Fi,lookIn→Fu,kas_item→FF,mroIn→FI,kas_tail3→Gi,kas_count→Gj,looks_findIn→Gn,kas_rev→Gp,kas_descPart→Gq,looks_mroIn→GB,kas_item_eq→GG,hideAll_get→GJ,codeHd_of_K→GM,KasT→GV
open PySem.Heap renaming get?_push_of_some→Ai,lt_size→Aq,get?_push_size→Ax,get?_update_ne→BE,get?_update_self→BN,size_push→BZ,get?_update_other→Ck,SameBut→DF,FlyingW→F4
open Nat renaming le_refl→Ap,ne_of_lt→AB,lt_of_lt_of_le→AI,le_trans→Ba,lt_irrefl→Bg,lt_succ_of_lt→Br,zero_le→Bu,lt_succ_self→BL,ne_of_gt→CP,le_succ→De,le_of_lt→Dh,lt_trans→DH,sub_zero→Fj,le_of_eq→Fk
open Sum renaming inr→AA,inl→E2
open Bool renaming false_ne_true→AD,and_eq_true→AY,true_and→Bb,eq_iff_iff→BQ,false_eq_true→Cd,false_and→Dd,or_eq_true→EH,or_false→F1
open Or renaming inl→AG,inr→Do
open PySem.Value renaming ref→AJ,type→AW,str→BA,none→B4,int→B5,isStrOf_shape→EN,isStrOf→EY,builtin→EZ,bool→FH,float→F9
open PySem.PyData renaming keyHash→AQ,str→AR,hasDictAll→A2,canLayAll0→Bj,depthAll→Bo,depth→BM,canLay0→BV,eqv→Cb,shown→C6,eqvAll→Dj,int→Dn,list→Ef,strOk→Ew,showable→EC,tuple→Fb,hasDict→Fy
open PySem.NameKind renaming free→A6,cell→DI
open PySem.F renaming plainAttrs_list→A7,type_list_append→Bm,slot_list_append→Bn,called_set→Cg,excBase_ValueError→Cn,plain_list_iadd→Dc,args_tuple_add_2→Ee,entry_tuple_add→Ei,slot_tuple_add→Ep,slot_dict_get→EB,plain_proto_collect→ES,entry_proto_collect→ET,entry_list_iadd→Fw
open PySem.Str renaming ofString→Bh,length_append→DG,length→Gu
open Int renaming toNat_natCast→Bl,emod_lt_of_pos→Cs,emod_nonneg→CC,toNat→C1,toNat_of_nonneg→D6,le_refl→Em,zero_add→Fl,mul_nonneg→FW
open PySem.Obj renaming mapSeq→Bp,data_mapFields→Cr,isFreed_of_fields→DQ,putSet→Gw
open PySem.SetTable renaming fresh→Bs,grown→CY,below→Ds
open Array renaming getD_eq_getD_getElem?→Bv,length_toList→BD,getElem?_eq_getElem→B8,mapM_eq_mapM_toList→Dg,toList_inj→DP,perm_iff_toList_perm→D9,append_assoc→E9,toList_map→Fn
open False renaming elim→Bz
open PyProof.Rows renaming slot_tuple_getitem→BK,listUpdate_at→Dx,callWith_type1→DK,SortKind→DV,AllBare→Ek,Keyed→Et,IsTup→Eu,listItems_at→EM,SortSt→Fg,seqEpoch_at→FY,StrsAre→F3,plain_sorted→Gm,entry_sorted→Gr,IntsAre→Gx,kind_sorted→GE
open PySem.Around renaming under_plainId→BO
open Option renaming some→BS,map_eq_some_iff→Ex
open PySem.Builtin.List renaming listExtendWith→BY,listItems→CD,listUpdate→D7
open PySem.Heap.SameBut renaming update→B0
open PySem.PassesOwn renaming never→B1
open True renaming intro→B6
open PySem.Data renaming set→Ci,seq→CL,fields→Gd
open ForInStep renaming yield→Cp
open PySem.Builtin.Frozenset renaming updateFrom→Cw
open PyProof.Rows.F renaming plain_set_update_loop→CQ
open PySem.Builtin.Slice renaming slicePlaces→CU,sliceAdjust→DX
open List.Perm renaming refl→CW,append_left→Es
open PySem.Builtin.Tuple renaming tupleExact→C3
open Ne renaming symm→DL
open PySem.Txt renaming slice→DU,slice_le→EF
open PySem.SeqAt.EqAt renaming str_str→DY
open List.Pairwise renaming nil→D1
open PySem.Shared renaming TypeIs→Eg
open PySem.Calls renaming evalArgs_plain→EJ,spliced_cons→E8
open Decidable renaming em→EU
open PySem.Code renaming quiet_builtin→Fe
open PyProof.Rows.SortSt renaming mk'→Fx
open PySem.Paired renaming length→FO
open PySem.Walks renaming toS→FZ
open PySem.SeqAt renaming EqAt→Gf
open PUnit renaming unit→Gh
open PySem.W.Looks renaming ld→GQ
open Prod renaming ext→GY
open PySem.Flow renaming ret→GZ
theorem Ia{c:Prop}{h:Decidable c}(n:¬c){α:Sort u}{t e:α}:ite c t e=e:=if_neg n
theorem Ib{c:Prop}{h:Decidable c}(n:c){α:Sort u}{t e:α}:ite c t e=t:=if_pos n
theorem Ic{p:Prop}[s:Decidable p](h:p):decide p=true:=decide_eq_true h
theorem Ie{p:Prop}[s:Decidable p](h:decide p=true):p:=of_decide_eq_true h
theorem Ig{α:Sort u}{β:Sort v}{γ:Sort w}{f:α→β→γ}:∀a b,f a b=f a b:=fun _ _=>rfl
abbrev Ih:=List (PySem.Addr×PySem.Obj)
namespace L2
open PySem PySem.Spec PyProof.Rows
inductive Ex3{α β γ:Type}(p:α→β→γ→Prop):Prop
 | mk (a:α) (b:β) (c:γ) (h:p a b c):Ex3 p
inductive Aw3(a b c:Prop):Prop
 | mk (h:a) (i:b) (j:c):Aw3 a b c
inductive Aw6(a b c d e f:Prop):Prop
 | mk (h:a) (i:b) (j:c) (k:d) (l:e) (m:f):Aw6 a b c d e f
theorem iF{α:Type}{B:List α}(h:B.length=1):∃ z,B=[z]:=by
 cases B with
 | nil=>simp at h
 | cons z F=>
  cases F with
  | nil=>exact⟨z,rfl⟩
  | cons _ _=>simp at h
theorem qH{α:Type}{B:List α}(h:B.length=2):∃ z a1,B=[z,a1]:=by
 cases B with
 | nil=>simp at h
 | cons z J=>
  cases J with
  | nil=>simp at h
  | cons a1 F=>
   cases F with
   | nil=>exact⟨z,a1,rfl⟩
   | cons _ _=>simp at h
theorem aEL{α:Type}{B:List α}(h:B.length=3):∃ z a1 a2,B=[z,a1,a2]:=by
 cases B with
 | nil=>simp at h
 | cons z O=>
  cases O with
  | nil=>simp at h
  | cons a1 J=>
   cases J with
   | nil=>simp at h
   | cons a2 F=>
    cases F with
    | nil=>exact⟨z,a1,a2,rfl⟩
    | cons _ _=>simp at h
theorem aII{α:Type}{B:List α}(h:B.length=4):∃ z a1 a2 a3,B=[z,a1,a2,a3]:=by
 cases B with
 | nil=>simp at h
 | cons z U=>
  cases U with
  | nil=>simp at h
  | cons a1 J=>
   cases J with
   | nil=>simp at h
   | cons a2 F=>
    cases F with
    | nil=>simp at h
    | cons a3 O=>
     cases O with
     | nil=>exact⟨z,a1,a2,a3,rfl⟩
     | cons _ _=>simp at h
theorem aKP{α:Type}{B:List α}(h:B.length=5):∃ z a1 a2 a3 a4,B=[z,a1,a2,a3,a4]:=by
 cases B with
 | nil=>simp at h
 | cons z W=>
  cases W with
  | nil=>simp at h
  | cons a1 J=>
   cases J with
   | nil=>simp at h
   | cons a2 F=>
    cases F with
    | nil=>simp at h
    | cons a3 U=>
     cases U with
     | nil=>simp at h
     | cons a4 O=>
      cases O with
      | nil=>exact⟨z,a1,a2,a3,a4,rfl⟩
      | cons _ _=>simp at h
abbrev Key:=Sum Int Str
def tQ:Key→Ab→Bool
 | .inl k,v=>Value.isInt k v
 | .inr x,v=>EY x v
def aIJ(w:AS):Key→Int
 | .inl k=>hashInt k
 | .inr x=>hashStr w x
theorem fB:∀{k:Key}{v:Ab},tQ k v=true→(∃ i t,k=E2 i∧v=B5 i t)∨(∃ x t,k=AA x∧v=BA x t)
 | .inl i,v,h=>by
  obtain⟨t,e⟩:=Value.isInt_shape (k:=i) (v:=v) h;exact .inl ⟨i,t,rfl,e⟩
 | .inr x,v,h=>by
  obtain⟨t,e⟩:=EN (x:=x) (v:=v) h;exact .inr ⟨x,t,rfl,e⟩
theorem aDN(i:Int)(t:Tok):tQ (.inl i) (.int i t)=true:=by simp[tQ,Value.isInt]
theorem aDO(x:Str)(t:Tok):tQ (.inr x) (.str x t)=true:=by simp[tQ,EY]
theorem aIK(a b:Int):decide ((E2 a:Key)=E2 b)=(a == b):=by
 by_cases e:a=b
 ·subst e;simp
 ·have h:¬ (E2 a:Key)=E2 b:=fun q=>e (E2.inj q);rw[decide_eq_false h];exact(beq_eq_false_iff_ne.mpr e).symm
theorem aIL(a b:Str):decide ((AA a:Key)=AA b)=decide (a=b):=by
 by_cases e:a=b
 ·subst e;simp
 ·have h:¬ (AA a:Key)=AA b:=fun q=>e (AA.inj q);rw[decide_eq_false h,decide_eq_false e]
theorem aIM(a:Int)(b:Str):decide ((E2 a:Key)=AA b)=false:=decide_eq_false (fun q=>nomatch q)
theorem aIP(a:Str)(b:Int):decide ((AA a:Key)=E2 b)=false:=decide_eq_false (fun q=>nomatch q)
def dE(prog:Ay)(w:AS):PySem.KeyKind prog w Key where
 is:=tQ
 hash:=aIJ w
 inj:=fun v a b ha hb=>by
  rcases fB ha with⟨i,t,rfl,rfl⟩ | ⟨x,t,rfl,rfl⟩
  ·rcases fB hb with⟨j,u,rfl,e⟩ | ⟨y,u,rfl,e⟩
   ·injection e with e1 _;rw[e1]
   ·exact nomatch e
  ·rcases fB hb with⟨j,u,rfl,e⟩ | ⟨y,u,rfl,e⟩
   ·exact nomatch e
   ·injection e with e1 _;rw[e1]
 byValue:=fun k v h=>by
  rcases fB h with⟨i,t,rfl,rfl⟩ | ⟨x,t,rfl,rfl⟩ <;> rfl
 pyHash:=fun hv h=>by
  rcases fB hv with⟨i,t,rfl,rfl⟩ | ⟨x,t,rfl,rfl⟩
  ·exact wpAny_pyHash_int h
  ·exact wpAny_pyHash_str h
 eqBool:=fun hu hv h=>by
  rcases fB hu with⟨i,t,rfl,rfl⟩ | ⟨x,t,rfl,rfl⟩
  ·rcases fB hv with⟨j,u,rfl,rfl⟩ | ⟨y,u,rfl,rfl⟩
   ·rw[aIK]at h;exact wpAny_eqBool_int h
   ·rw[aIM]at h;exact SeqAt.EqAt.int_str i t y u _ _ _ _ h
  ·rcases fB hv with⟨j,u,rfl,rfl⟩ | ⟨y,u,rfl,rfl⟩
   ·rw[aIP]at h;exact SeqAt.EqAt.str_int x t j u _ _ _ _ h
   ·rw[aIL]at h;exact wpAny_eqBool_str h
 «strs»:=fun k x t v h=>by
  rcases fB h with⟨i,u,rfl,e⟩ | ⟨y,u,rfl,e⟩
  ·exact nomatch e
  ·injection e with e1 _;subst e1;cases v <;> rfl
theorem aAv(prog:Ay)(w:AS)(i:Int)(t:Tok):(dE prog w).is (.inl i) (.int i t)=true:=aDN i t
theorem aAw(prog:Ay)(w:AS)(x:Str)(t:Tok):(dE prog w).is (.inr x) (.str x t)=true:=aDO x t
inductive V where
 | non | bl (b:Bool) | int (i:Int) | str (x:Str) | byt (b:Array UInt8) | flt (b:UInt64) | ref (a:Ac) | ty (n:String)
 deriving DecidableEq
def dA:V→Ab→Prop
 | .non,u=>u=B4
 | .bl b,u=>u=FH b
 | .int i,u=>∃ t,u=B5 i t
 | .str x,u=>∃ t,u=BA x t
 | .byt b,u=>∃ t,u=Value.bytes b t
 | .flt b,u=>∃ t,u=F9 b t
 | .ref a,u=>u=AJ a
 | .ty n,u=>u=AW n
abbrev cZ:List V→List Ab→Prop:=Er dA
theorem cZ.length{xs:List V}{z:List Ab}(r:cZ xs z):xs.length=z.length:=FO r
theorem cZ.get:∀{xs:List V}{z:List Ab}{i:Nat}{x:V},cZ xs z→xs[i]?=some x→∃ u,z[i]?=some u∧dA x u
 | _,_,_,_,.nil,e=>by simp at e
 | _,_,0,_,.cons r _,e=>by simp at e;subst e;exact⟨_,rfl,r⟩
 | _,_,i + 1,x,.cons _ t,e=>by
  obtain⟨u,h1,h2⟩:=cZ.get (i:=i) (x:=x) t (by simpa using e);exact⟨u,by simpa using h1,h2⟩
theorem cZ.set{x:V}{u:Ab}(r:dA x u):∀{xs:List V}{z:List Ab} (i:Nat),cZ xs z→cZ (xs.set i x) (z.set i u)
 | _,_,_,.nil=>.nil
 | _,_,0,.cons _ t=>.cons r t
 | _,_,i + 1,.cons q t=>.cons q (cZ.set r i t)
theorem cZ.append:∀{xs ys:List V}{z B:List Ab},cZ xs z→cZ ys B→cZ (xs ++ ys) (z ++ B)
 | _,_,_,_,.nil,s=>s
 | _,_,_,_,.cons r t,s=>.cons r (cZ.append t s)
theorem cZ.take:∀{xs:List V}{z:List Ab} (n:Nat),cZ xs z→cZ (xs.take n) (z.take n)
 | _,_,0,_=>.nil
 | _,_,_ + 1,.nil=>.nil
 | _,_,n + 1,.cons r t=>.cons r (cZ.take n t)
theorem cZ.drop:∀{xs:List V}{z:List Ab} (n:Nat),cZ xs z→cZ (xs.drop n) (z.drop n)
 | _,_,0,r=>r
 | _,_,_ + 1,.nil=>.nil
 | _,_,n + 1,.cons _ t=>cZ.drop n t
def pM:Option V→Option Ab→Prop
 | some v,some u=>dA v u
 | none,none=>True
 | _,_=>False
def KV{κ:Type}:List (κ×V)→List (κ×Ab)→Prop:=Er fun(p:κ×V) (q:κ×Ab)=>p.1=q.1∧dA p.2 q.2
def kV:Key→V
 | .inl i=>.int i
 | .inr x=>.str x
inductive HO where
  | lst (xs:List V)
  | tup (xs:List V)
  | dK (di:List (Key×V)) | dT (di:List (List Key×V))
  | set (S:Int→Bool) (n:Nat)
  | ins (C dx:Ac) (fs:List (Str×V))
  | own (x:Ac)
  | xd (fs:List (Str×V))
  | met (f x:Ac)
  | rng (lo hi:Int)
  | frz (o:Obj) (u:HO)
  | tbl (ps:Array Ab)
  | ext (φ:A4→Prop)
abbrev Hp:=Ac→Option HO
def upd(H:Hp)(a:Ac)(o:HO):Hp:=fun b=>if b=a then some o else H b
theorem aH{H:Hp}{a:Ac}{o:HO}:upd H a o a=some o:=by unfold upd;rw[Ib rfl]
theorem aW{H:Hp}{a b:Ac}{o:HO}(h:b≠a):upd H a o b=H b:=by unfold upd;rw[Ia h]
theorem aCM{H:Hp}{a:Ac}{o u:HO}:upd (upd H a o) a u=upd H a u:=by
 funext b;unfold upd;split <;> rfl
theorem aEM{H:Hp}{a b:Ac}{o u:HO}(h:H a=some o)(h':H b=some u)(d:o≠u):a≠b:=by
 intro e;subst e;rw[h]at h';exact d (BS.inj h')
theorem bB{H:Hp}{a b:Ac}{o:HO}(h:H a=some o)(h':H b=none):a≠b:=by
 intro e;subst e;rw[h]at h';cases h'
section
variable(P:Ay)(w:AS)
def m7(h:A4)(a:Ac)(items:Array Ab):Prop:=∃ o,h.get? a=some o∧(o.cls=.type "tuple"∧∃ n,o.data=.seq items n)∧o.dict=none
theorem m7.tup{h:A4}{a:Ac}{z:Array Ab}(x:m7 h a z):Eu h a z:=by
 obtain⟨o,e,c,_⟩:=x;exact⟨o,e,c⟩
instance m7.coe{h:A4}{a:Ac}{items:Array Ab}:Coe (m7 h a items) (Eu h a items):=⟨m7.tup⟩
theorem m7.lt{h:A4}{a:Ac}{z:Array Ab}(x:m7 h a z):a < h.objs.size:=x.tup.lt
def c5(H:Hp)(h:A4)(a:Ac):HO→Prop
 | .lst xs=>xs.length≤sizeLine∧∃(its:List Ab) (n:Nat),cZ xs its∧h.get? a=some { cls:=.type "list",data:=.seq its.toArray n }
 | .tup xs=>xs.length≤sizeLine∧∃ its:List Ab,cZ xs its∧m7 h a its.toArray
 | .dK di=>di.length≤sizeLine∧(a == sysModules)=false∧∃ vs,KV di vs∧h.DictOf (dE P w) a vs
 | .dT di=>di.length≤sizeLine∧(a == sysModules)=false∧∃ xs:List (List Key×Ac×Ab),
   Er (fun(p:List Key×V) (q:List Key×Ac×Ab)=>p.1=q.1∧H q.2.1=some (.tup (p.1.map kV))∧dA p.2 q.2.2) di xs∧
   ∃ o es ep,h.get? a=some o∧o.ExactDict∧o.data=.dict es ep∧es.toList=xs.map (entryOfKey (tupleKind (dE P w)))∧(xs.map (·.1)).Nodup
 | .set S n=>h.SetOf (intKind P w) a S n
 | .ins C dx fs=>H dx=some (.own a)∧fs.length≤1000∧dx≠a∧h.get? a=some (Fh C dx)∧
   ∃ mA,h.Ns1 dx mA∧(∀ f,pM (fs.lookup f) (mA f))∧PySem.Within mA (fs.map (·.1))
 | .own _=>∃ o,h.get? a=some o
 | .xd fs=>∃ mA,h.Ns1 a mA∧∀ f,pM (fs.lookup f) (mA f)
 | .rng lo hi=>∃ t u v,h.get? a=some { cls:=.type "range",data:=.fields #[.int lo t,.int hi u,.int 1 v] }
 | .frz o u=>h.get? a=some o∧c5 H h a u
 | .tbl ps=>h.get? a=some { cls:=.none,data:=.fields ps }
 | .met f x=>h.get? a=some (E6 (.ref f) (.ref x))
 | .ext φ=>φ h∧(∃ o,h.get? a=some o)∧∀ h1 h2:A4,φ h1→(∀ o,h1.get? a=some o→h2.get? a=some o)→φ h2
def HOk(H:Hp)(h:A4):Prop:=∀ a o,H a=some o→c5 P w H h a o
end
section
variable{P:Ay}{w:AS}{H H':Hp}{h h':A4}{a:Ac}{o:HO}
theorem c5.lt(x:c5 P w H h a o):a < h.objs.size:=by
 cases o with
 | lst xs=>obtain⟨_,_,_,_,e⟩:=x;exact Aq e
 | tup xs=>obtain⟨_,_,_,p⟩:=x;exact p.lt
 | dK di=>obtain⟨_,_,_,_,o,_,_,e,_⟩:=x;exact Aq e
 | dT di=>obtain⟨_,_,_,_,o,_,_,e,_⟩:=x;exact Aq e
 | set S n=>obtain⟨o,_,_,_,e,_⟩:=x;exact Aq e
 | ins C dx fs=>obtain⟨_,_,_,e,_⟩:=x;exact Aq e
 | own y=>obtain⟨_,e⟩:=x;exact Aq e
 | xd fs=>obtain⟨_,⟨_,_,_,e,_⟩,_⟩:=x;exact Aq e
 | rng lo hi=>obtain⟨_,_,_,e⟩:=x;exact Aq e
 | frz ob u=>obtain⟨e,_⟩:=x;exact Aq e
 | tbl ps=>exact Aq (show h.get? a=some _ from x)
 | met f y=>exact Aq (show h.get? a=some _ from x)
 | ext φ=>obtain⟨_,⟨_,e⟩,_⟩:=x;exact Aq e
theorem Paired.mapP{α β:Type}{F G:α→β→Prop}:∀{z:List α}{B:List β},Er F z B→(∀ a b,F a b→G a b)→Er G z B
 | _,_,.nil,_=>.nil
 | _,_,.cons r t,f=>.cons (f _ _ r) (Paired.mapP t f)
theorem c5.stay(x:c5 P w H h a o)(k:∀ b u,(b=a∨H b=some (.own a))→h.get? b=some u→h'.get? b=some u)
  (F:∀ b,H b=some (.own a)→H' b=some (.own a)) (ht:∀ b xs,H b=some (.tup xs)→H' b=some (.tup xs)):c5 P w H' h' a o:=by
 induction o with
 | lst xs=>obtain⟨z,its,n,r,e⟩:=x;exact⟨z,its,n,r,k _ _ (.inl rfl) e⟩
 | tup xs=>obtain⟨z,its,r,ob,e,c⟩:=x;exact⟨z,its,r,ob,k _ _ (.inl rfl) e,c⟩
 | dK di=>obtain⟨z,y,vs,r,ob,es,ep,e,c⟩:=x;exact⟨z,y,vs,r,ob,es,ep,k _ _ (.inl rfl) e,c⟩
 | dT di=>
  obtain⟨z,y,xs,r,ob,es,ep,e,c⟩:=x;exact⟨z,y,xs,Paired.mapP r fun p q z=>⟨z.1,ht _ _ z.2.1,z.2.2⟩,ob,es,ep,k _ _ (.inl rfl) e,c⟩
 | set S n=>obtain⟨ob,es,ep,t,e,c⟩:=x;exact⟨ob,es,ep,t,k _ _ (.inl rfl) e,c⟩
 | ins C dx fs=>
  obtain⟨d,z,ne,e,mA,⟨od,es,ep,e2,c⟩,r⟩:=x;exact⟨F _ d,z,ne,k _ _ (.inl rfl) e,mA,⟨od,es,ep,k _ _ (.inr d) e2,c⟩,r⟩
 | own y=>obtain⟨ob,e⟩:=x;exact⟨ob,k _ _ (.inl rfl) e⟩
 | xd fs=>obtain⟨mA,⟨od,es,ep,e,c⟩,r⟩:=x;exact⟨mA,⟨od,es,ep,k _ _ (.inl rfl) e,c⟩,r⟩
 | rng lo hi=>obtain⟨t,u,v,e⟩:=x;exact⟨t,u,v,k _ _ (.inl rfl) e⟩
 | frz ob u B=>obtain⟨e,q⟩:=x;exact⟨k _ _ (.inl rfl) e,B q⟩
 | tbl ps=>
  have e:h.get? a=some { cls:=.none,data:=.fields ps }:=x;show h'.get? a=some { cls:=.none,data:=.fields ps };exact k a _ (.inl rfl) e
 | met f y=>
  have e:h.get? a=some (E6 (.ref f) (.ref y)):=x;show h'.get? a=some (E6 (.ref f) (.ref y));exact k a _ (.inl rfl) e
 | ext φ=>obtain⟨p,⟨o,e⟩,st⟩:=x;exact⟨st _ _ p fun o q=>k _ _ (.inl rfl) q,⟨o,k _ _ (.inl rfl) e⟩,st⟩
theorem HOk.lt(x:HOk P w H h)(e:H a=some o):a < h.objs.size:=(x a o e).lt
theorem HOk.fresh(x:HOk P w H h)(e:h.objs.size≤a):H a=none:=by
 cases q:H a with
 | none=>rfl
 | some u=>exact absurd (AI (x.lt q) e) (Bg _)
theorem HOk.kept(x:HOk P w H h)(k:∀ b u,h.get? b=some u→h'.get? b=some u):HOk P w H h':=fun a o e=>
 (x a o e).stay (fun b u _ q=>k b u q) (fun _ q=>q) fun _ _ q=>q
theorem HOk.laid(x:HOk P w H h)(k:∀ b u,h.get? b=some u→h'.get? b=some u)(B:h.objs.size≤a)(new:c5 P w (upd H a o) h' a o):HOk P w (upd H a o) h':=fun b u e=>by
 have hn:=x.fresh B;by_cases z:b=a
 ·subst z;rw[aH]at e;cases e;exact new
 ·rw[aW z]at e;exact(x b u e).stay (fun c v _ q=>k c v q) (fun c q=>by rw[aW (bB q hn)];exact q) fun c xs q=>by rw[aW (bB q hn)];exact q
end
def Rd(H:Hp)(a:Ac)(u:HO):Prop:=H a=some u∨∃ o,H a=some (.frz o u)
theorem Rd.ok{P:Ay}{w:AS}{H:Hp}{h:A4}{a:Ac}{u:HO}(r:Rd H a u)(x:HOk P w H h):c5 P w H h a u:=by
 rcases r with r | ⟨o,r⟩
 ·exact x a u r
 ·obtain⟨_,q⟩:=x a _ r;exact q
def Mut:Option HO→Prop
 | some (.lst _)=>True
 | some (.dK _)=>True
 | some (.dT _)=>True
 | some (.set _ _)=>True
 | some (.ins _ _ _)=>True
 | some (.ext _)=>True
 | _=>False
section
variable{P:Ay}{w:AS}{H:Hp}{h h':A4}{x e:Ac}{o':HO}
theorem HOk.write(ok:HOk P w H h)(U:Mut (H x))(Z:e=x∨H e=some (.own x))(k:∀ b u,b≠e→h.get? b=some u→h'.get? b=some u)(W:∃ u,h'.get? e=some u)
  (new:c5 P w (upd H x o') h' x o'):HOk P w (upd H x o') h':=fun b u q=>by
 have F:∀ c y,H c=some (.own y)→c≠x:=fun c y r z=>by subst z;rw[r]at U;exact U
 have J:∀ c xs,H c=some (.tup xs)→c≠x:=fun c xs r z=>by subst z;rw[r]at U;exact U
 by_cases O:b=x
 ·subst O;rw[aH]at q;cases q;exact new
 ·rw[aW O]at q;by_cases B:b=e
  ·have Y:H b=some (.own x):=by
    rcases Z with z | z
    ·exact absurd (B.trans z) O
    ·rw[B];exact z
   rw[q]at Y;cases Y;obtain⟨v,hv⟩:=W;exact⟨v,by rw[B];exact hv⟩
  ·refine(ok b u q).stay (fun c v hc r=>k c v ?_ r) (fun c r=>by rw[aW (F c b r)];exact r) fun c xs r=>by rw[aW (J c xs r)];exact r
   rcases hc with rfl | hc
   ·exact B
   ·rintro rfl;rcases Z with z | z
    ·exact F c b hc z
    ·rw[hc]at z;cases z;exact O rfl
end
structure Un(fs ex:List Ac)(H H':Hp)(h h':A4):Prop where
 keep:∀ b o,h.get? b=some o→H b=none→b ∉ fs→b ∉ ex→h'.get? b=some o
 slot:∀ b o,h.get? b=some o→H b=none→b∈fs→b ∉ ex→∃ sl,h'.get? b=some { o with slots:=sl }
 free:∀ b o,h.get? b=some o→H b=none→b ∉ ex→H' b=none
 there:∀ b o,h.get? b=some o→b ∉ ex→∃ o',h'.get? b=some o'
 tups:∀ b xs,H b=some (.tup xs)→H' b=some (.tup xs)
 frzs:∀ b o u,H b=some (.frz o u)→H' b=some (.frz o u)
 tbls:∀ b ps,H b=some (.tbl ps)→∃ more,H' b=some (.tbl (ps ++ more))
section
variable{fs gj ex ex':List Ac}{H H1 H2:Hp}{h h1 h2 h':A4}{a x e:Ac}{o:HO}
theorem Un.any(u:Un fs ex H H1 h h1){b:Ac}{ob:Obj}(q:h.get? b=some ob)(n:H b=none)(z:b ∉ ex):∃ F,h1.get? b=some { ob with slots:=F }:=by
 by_cases B:b∈fs
 ·exact u.slot b ob q n B z
 ·exact⟨ob.slots,u.keep b ob q n B z⟩
theorem Un.kept(k:∀ b u,h.get? b=some u→h'.get? b=some u):Un fs ex H H h h':=
 ⟨fun b ob q _ _ _=>k b ob q,fun b ob q _ _ _=>⟨ob.slots,k b ob q⟩,fun _ _ _ n _=>n,fun b ob q _=>⟨ob,k b ob q⟩,fun _ _ q=>q,fun _ _ _ q=>q,fun _ ps q=>⟨#[],by rw[q];simp⟩⟩
theorem Un.refl:Un fs ex H H h h:=Un.kept fun _ _ q=>q
theorem Un.laid(k:∀ b u,h.get? b=some u→h'.get? b=some u)(z:h.objs.size≤a)(hn:H a=none):Un fs ex H (upd H a o) h h' where
 keep:=fun b u q _ _ _=>k b u q
 slot:=fun b u q _ _ _=>⟨u.slots,k b u q⟩
 free:=fun b u q n _=>by rw[aW (AB (AI (Aq q) z))];exact n
 there:=fun b u q _=>⟨u,k b u q⟩
 tups:=fun b xs q=>by rw[aW (bB q hn)];exact q
 frzs:=fun b u xs q=>by rw[aW (bB q hn)];exact q
 tbls:=fun b ps q=>⟨#[],by rw[aW (bB q hn),q];simp⟩
theorem Un.write(F:Mut (H x))(W:e=x∨H e=some (.own x))(k:∀ b u,b≠e→h.get? b=some u→h'.get? b=some u)(J:∃ u,h'.get? e=some u):Un fs ex H (upd H x o) h h':=by
 have O:∀ b,H b=none→b≠x:=fun b n z=>by subst z;rw[n]at F;exact F
 have U:∀ b,H b=none→b≠e:=fun b n z=>by
  subst z;rcases W with r | r
  ·exact O b n r
  ·rw[n]at r;cases r
 have hm:∀ b u,H b=some u→¬ Mut (some u)→b≠x:=fun b u q nm z=>by subst z;rw[q]at F;exact nm F
 refine⟨fun b u q n _ _=>k b u (U b n) q,fun b u q n _ _=>⟨u.slots,k b u (U b n) q⟩,fun b u q n _=>by rw[aW (O b n)];exact n,fun b u q _=>?_,
  fun b xs q=>by rw[aW (hm b _ q fun z=>z)];exact q,fun b u xs q=>by rw[aW (hm b _ q fun z=>z)];exact q,fun b ps q=>⟨#[],by rw[aW (hm b _ q fun z=>z),q];simp⟩⟩
 by_cases B:b=e
 ·subst B;exact J
 ·exact⟨u,k b u B q⟩
end
def trk(h:A4)(H:Hp):List Ac:=(AV h.objs.size).filter fun a=>(H a).isSome
def zG(h:A4)(H:Hp):A4:=PySem.W.hideAll h (trk h H)
theorem aDP(h:A4)(H:Hp):(zG h H).objs.size=h.objs.size:=PySem.W.hideAll_size _ _
theorem tU{h:A4}{H:Hp}{b:Ac}{o:Obj}(e:h.get? b=some o)(n:H b=none):(zG h H).get? b=some o:=
 PySem.W.hideAll_get _ e fun hm=>by
  have q:(H b).isSome=true:=(CT.mp hm).2;rw[n]at q;simp at q
theorem aHb{h:A4}{H:Hp}{b:Ac}{o:Obj}(e:(zG h H).get? b=some o):h.get? b=some o∧H b=none:=by
 have B:h.get? b=some o:=PySem.W.of_hideAll (trk h H) e;refine⟨B,?_⟩;cases q:H b with
 | none=>rfl
 | some x=>
  have hm:b∈trk h H:=CT.mpr ⟨BC.mpr (Aq B),by simp[q]⟩;have z:(zG h H).get? b=none:=PySem.W.hideAll_none (trk h H) hm;rw[z]at e;cases e
def aHc(g h:A4)(L:Ac):List (Ac×Obj):=(AV h.objs.size).filterMap fun a=>if a=L∨(g.get? a).isSome=true then none else(h.get? a).map fun o=>(a,o)
def cI(g h:A4)(L d:Ac):List (Ac×Obj):=(aHc g h L).filter fun p=>decide (p.1≠d)
structure Mod(K:Ah)(mg:Str→Option Ab)(base:A4):Prop where
 kin:K.In base
 glob:base.Ns mainGlobals mg
 blt:∃ mb,base.Ns builtinsNs mb∧∀ x:Str,x≠"__name__"→mb x=bootBuiltins x
 nolimit:base.NoLimit
structure Cx where
 prog:Ay
 w:AS
 K:Ah
 mg:Str→Option Ab
 base:A4
 A:AN
 N:List Str
 s₀:Ad
 H₀:Hp
 env:Env
 outer:List Env
 stack:List Env
 ex:List Ac
 fn:Str→Bool
 calm:Bool
 pn:List (Ac×Obj)
 xe:Ab→Ad→Prop
def frs(l:List Env):List Ac:=l.filterMap (·.frame)
abbrev Cx.fs(X:Cx):List Ac:=frs X.outer
def Vis(sc:CH)(x:Str):Prop:=sc.names.lookup x=some .local∨sc.names.lookup x=some .cell∨sc.names.lookup x=some .free
def Loc(sc:CH)(x:Str):Prop:=sc.names.lookup x=some .local∨sc.names.lookup x=some .cell
def aKQ(env:Env)(h:A4)(m:Str→Option Ab)(x:Str)(u:Ab):Prop:=
 (env.kindOf x=some .local∧m x=some u)∨((env.kindOf x=some .cell∨env.kindOf x=some .free)∧∃ c,env.cells.lookup x=some c∧h.IsCell c (some u))
structure Cx.Ok(X:Cx):Prop where
 mod:Mod X.K X.mg X.base
 kind:X.env.scope.kind=.function
 glob:X.env.globals=mainGlobals
 blt:X.env.builtins=builtinsNs
 above:X.s₀.heap.objs.size≤X.env.locals
 inj:∀ x y c,X.env.cells.lookup x=some c→X.env.cells.lookup y=some c→x=y
 has:∀ x,(X.env.kindOf x=some .cell∨X.env.kindOf x=some .free)→∃ c,X.env.cells.lookup x=some c
 cab:∀ x c,X.fn x=true→X.env.cells.lookup x=some c→X.s₀.heap.objs.size≤c
 hd:X.calm=true→X.A.handled=none
 frames:X.A.frames=some X.stack
 stk:X.stack=X.outer∨(X.stack=X.env :: X.outer∧X.env.frame=some X.env.locals)
 exf:∀ b∈X.ex,b≠X.env.locals∧∀ x c,X.env.cells.lookup x=some c→c≠b
 bs:∀ b o,X.base.get? b=some o→X.s₀.heap.get? b=some o∧X.H₀ b=none
 bsz:X.base.objs.size≤X.s₀.heap.objs.size
 noex:∀ b o,X.base.get? b=some o→b ∉ X.ex
 exfs:∀ b∈X.ex,b ∉ X.fs
 funs:X.s₀.heap.FunFrames X.base X.outer
 frf:∀ b∈X.fs,X.H₀ b=none
structure Inv(X:Cx)(dh:List (Ac×Obj))(σ:List (Option V))(H:Hp)(s:Ad):Prop where
 ok:X.Ok
 os:s.os=X.s₀.os
 bare:Ek s.gens
 base:Un X.fs X.ex X.H₀ H X.s₀.heap s.heap
 loc:∃ m,s.heap.Ns X.env.locals m∧∀(i:Nat) (x:Str) (v:V),X.N[i]?=some x→σ[i]?=some (some v)→Vis X.env.scope x→∃ u,dA v u∧aKQ X.env s.heap m x u
 cell:∀ x c,X.env.cells.lookup x=some c→∃ v,s.heap.IsCell c v
 free:H X.env.locals=none
 freeC:∀ x c,X.env.cells.lookup x=some c→H c=none
 pin:∀ p∈X.pn ++ dh,s.heap.get? p.1=some p.2∧H p.1=none∧p.1≠X.env.locals∧p.1 ∉ X.fs∧∀ v,p.2.data≠.cell v
 hok:HOk X.prog X.w H s.heap
 len:σ.length=X.N.length
section
variable{X:Cx}{dh:List (Ac×Obj)}{σ:List (Option V)}{H H':Hp}{s:Ad}{h':A4}
theorem Cx.Ok.nofr(ok:X.Ok){b:Ac}{o:Obj}(e:X.base.get? b=some o):b ∉ X.fs:=fun z=>by
 have:=(ok.funs.mem z).1;rw[e]at this;cases this
theorem Inv.bs(I:Inv X dh σ H s):∀ b o,X.base.get? b=some o→s.heap.get? b=some o∧H b=none:=fun b o e=>
 ⟨I.base.keep b o (I.ok.bs b o e).1 (I.ok.bs b o e).2 (I.ok.nofr e) (I.ok.noex b o e),I.base.free b o (I.ok.bs b o e).1 (I.ok.bs b o e).2 (I.ok.noex b o e)⟩
theorem Inv.bk(I:Inv X dh σ H s):∀ b o,X.base.get? b=some o→s.heap.get? b=some o:=fun b o e=>(I.bs b o e).1
theorem Inv.mod(I:Inv X dh σ H s):Mod X.K X.mg X.base:=I.ok.mod
theorem Inv.kIn(I:Inv X dh σ H s):X.K.In s.heap:=I.ok.mod.kin.keeps I.bk
theorem Inv.lt(I:Inv X dh σ H s):X.env.locals < s.heap.objs.size:=let ⟨_,hn,_⟩:=I.loc;hn.lt
theorem Inv.sz(I:Inv X dh σ H s):X.s₀.heap.objs.size≤s.heap.objs.size:=Ba I.ok.above (Dh I.lt)
theorem Inv.nofs(I:Inv X dh σ H s){a:Ac}(h:s.heap.objs.size≤a):a ∉ X.fs:=fun z=>by
 obtain⟨_,o,ho,_⟩:=I.ok.funs.mem z;exact absurd (AI (Aq ho) (Ba I.sz h)) (Bg _)
theorem Inv.cne(I:Inv X dh σ H s):∀ x c,X.env.cells.lookup x=some c→c≠X.env.locals:=fun x c e z=>by
 obtain⟨v,o,ho,hd⟩:=I.cell x c e;obtain⟨m,⟨o',es,ep,ho',hd',_⟩,_⟩:=I.loc;rw[z,ho']at ho;cases ho;rw[hd']at hd;cases hd
theorem Inv.funs(I:Inv X dh σ H s):s.heap.FunFrames X.base X.outer:=by
 have all:∀(l:List Env),(∀ b∈frs l,b∈X.fs)→X.s₀.heap.FunFrames X.base l→s.heap.FunFrames X.base l:=by
  intro l
  induction l with
  | nil=>intro _ _;trivial
  | cons env r U=>
   intro J O;obtain⟨hk,⟨L,o,hf,hn,ho,hd⟩,hr⟩:=O;have F:L∈X.fs:=J L (by unfold frs;rw[D3,hf];exact AL);obtain⟨sl,e⟩:=I.base.slot L o ho (I.ok.frf L F) F fun z=>I.ok.exfs L z F;exact⟨hk,⟨L,_,hf,hn,e,hd⟩,U (fun b B=>J b (by unfold frs;rw[D3,hf];exact AM _ B)) hr⟩
 exact all X.outer (fun _ B=>B) I.ok.funs
theorem Inv.stack(I:Inv X dh σ H s):s.heap.FunFrames X.base X.stack:=by
 rcases I.ok.stk with e | ⟨e,z⟩
 ·rw[e];exact I.funs
 ·rw[e];obtain⟨m,hn,_⟩:=I.loc;refine .cons (by rw[I.ok.kind];decide) z hn ?_ I.funs;exact Heap.get?_none_of_le (Ba I.ok.bsz I.ok.above)
theorem Inv.stkSub(I:Inv X dh σ H s):∀ b∈frs X.stack,b∈X.env.locals :: X.fs:=fun b z=>by
 rcases I.ok.stk with e | ⟨e,B⟩
 ·rw[e]at z;exact AM _ z
 ·rw[e]at z;unfold frs at z;rw[D3,B]at z;exact z
theorem Inv.stkFree(I:Inv X dh σ H s):∀ b∈frs X.stack,H b=none:=fun b B=>by
 rcases Al.mp (I.stkSub b B)with e | B
 ·rw[e];exact I.free
 ·obtain⟨_,o,ho,_⟩:=I.ok.funs.mem B;exact I.base.free b o ho (I.ok.frf b B) fun z=>I.ok.exfs b z B
theorem Inv.step{g':Array FJ}{t':Nat}{d':GX}{ch:List Ac}(I:Inv X dh σ H s)
  (J:∀ b∈ch,(b∈X.ex∨X.s₀.heap.objs.size≤b)∧b≠X.env.locals∧(∀ x c,X.env.cells.lookup x=some c→c≠b)∧∀ p∈X.pn ++ dh,p.1≠b)
  (keep:∀ b o,b≠X.env.locals→b ∉ X.fs→b ∉ ch→s.heap.get? b=some o→H b=none→h'.get? b=some o)
  (slot:∀ b o,b≠X.env.locals→b∈X.fs→b ∉ ch→s.heap.get? b=some o→H b=none→∃ sl,h'.get? b=some { o with slots:=sl }) (free:∀ b o,b ∉ ch→s.heap.get? b=some o→H b=none→H' b=none)
  (there:∀ b o,b ∉ ch→s.heap.get? b=some o→∃ o',h'.get? b=some o')
  (tups:∀ b xs,H b=some (.tup xs)→H' b=some (.tup xs)) (frzs:∀ b o u,H b=some (.frz o u)→H' b=some (.frz o u)) (tbls:∀ b ps,H b=some (.tbl ps)→∃ more,H' b=some (.tbl (ps ++ more)))
  (ns:∀ m,s.heap.Ns X.env.locals m→h'.Ns X.env.locals m) (hok:HOk X.prog X.w H' h') (hg:Ek g'):
  Inv X dh σ H' { s with heap:=h',gens:=g',drawn:=d',toks:=t' }:=by
 have aa:∀ b o,X.s₀.heap.get? b=some o→b≠X.env.locals:=fun b o e=>AB (AI (Aq e) I.ok.above);have W:∀ b o,X.s₀.heap.get? b=some o→b ∉ X.ex→b ∉ ch:=fun b o e B Y=>by
  rcases(J b Y).1 with z | z
  ·exact B z
  ·exact absurd (AI (Aq e) z) (Bg _)
 have F:∀ x c,X.env.cells.lookup x=some c→∀ v,s.heap.IsCell c v→h'.IsCell c v:=fun x c e v ⟨o,Z,hd⟩=>by
  have O:c ∉ ch:=fun z=>(J c z).2.2.1 x c e rfl;by_cases hc:c∈X.fs
  ·obtain⟨sl,q⟩:=slot c o (I.cne x c e) hc O Z (I.freeC x c e);exact⟨_,q,hd⟩
  ·exact⟨o,keep c o (I.cne x c e) hc O Z (I.freeC x c e),hd⟩
 refine⟨I.ok,I.os,hg,⟨fun b o e n Y B=>?_,fun b o e n Y B=>?_,fun b o e n B=>?_,fun b o e B=>?_,fun b xs e=>tups b xs (I.base.tups b xs e),fun b o xs e=>frzs b o xs (I.base.frzs b o xs e),fun b ps e=>?_⟩,?_,fun x c e=>?_,?_,fun x c e=>?_,fun p hp=>?_,hok,I.len⟩
 ·exact keep b o (aa b o e) Y (W b o e B) (I.base.keep b o e n Y B) (I.base.free b o e n B)
 ·obtain⟨sl,U⟩:=I.base.slot b o e n Y B;obtain⟨sl',e2⟩:=slot b _ (aa b o e) Y (W b o e B) U (I.base.free b o e n B);exact⟨sl',e2⟩
 ·obtain⟨o',U⟩:=I.base.there b o e B;exact free b o' (W b o e B) U (I.base.free b o e n B)
 ·obtain⟨o',U⟩:=I.base.there b o e B;exact there b o' (W b o e B) U
 ·obtain⟨m1,U⟩:=I.base.tbls b ps e;obtain⟨m2,e2⟩:=tbls b _ U;exact⟨m1 ++ m2,by rw[e2,E9]⟩
 ·obtain⟨m,hn,hl⟩:=I.loc;refine⟨m,ns m hn,fun i x v U e2 e3=>?_⟩;obtain⟨u,r,l⟩:=hl i x v U e2 e3;refine⟨u,r,?_⟩;rcases l with l | ⟨k,c,e,z⟩
  ·exact .inl l
  ·exact .inr ⟨k,c,e,F x c e _ z⟩
 ·obtain⟨v,z⟩:=I.cell x c e;exact⟨v,F x c e v z⟩
 ·obtain⟨m,⟨o,_,_,Z,_⟩,_⟩:=I.loc;exact free _ o (fun z=>(J _ z).2.1 rfl) Z I.free
 ·obtain⟨v,o,Z,hd⟩:=I.cell x c e;exact free c o (fun z=>(J c z).2.2.1 x c e rfl) Z (I.freeC x c e)
 ·obtain⟨e,n,ne,nf,d⟩:=I.pin p hp;have O:p.1 ∉ ch:=fun z=>(J p.1 z).2.2.2 p hp rfl;exact⟨keep p.1 p.2 ne nf O e n,free p.1 p.2 O e n,ne,nf,d⟩
theorem Inv.un{t':Nat}(I:Inv X dh σ H s)(u:Un X.fs [] H H' s.heap h')(hok:HOk X.prog X.w H' h'):Inv X dh σ H' { s with heap:=h',toks:=t' }:=by
 obtain⟨m,⟨o,es,ep,ho,r⟩,_⟩:=id I.loc;obtain⟨sl,hL⟩:=u.any ho I.free (by simp);exact I.step (g':=s.gens) (d':=s.drawn) (ch:=[]) (fun _ z=>nomatch z) (fun b o _ B _ e n=>u.keep b o e n B (by simp)) (fun b o _ B _ e n=>u.slot b o e n B (by simp)) (fun b o _ e n=>u.free b o e n (by simp)) (fun b o _ e=>u.there b o e (by simp)) u.tups u.frzs u.tbls (fun F hm=>by
  obtain⟨o',es',ep',ho',r'⟩:=hm;rw[ho]at ho';cases ho';exact⟨_,es',ep',hL,r'⟩) hok I.bare
theorem Inv.call{g':Array FJ}{t':Nat}{d':GX}{ch:List Ac}(I:Inv X dh σ H s)(u:Un (frs X.stack) ch H H' s.heap h')(hok:HOk X.prog X.w H' h')(J:Ek g')
  (B:∀ b∈ch,(b∈X.ex∨X.s₀.heap.objs.size≤b)∧b≠X.env.locals∧(∀ x c,X.env.cells.lookup x=some c→c≠b)∧∀ p∈X.pn ++ dh,p.1≠b):
  Inv X dh σ H' { s with heap:=h',gens:=g',drawn:=d',toks:=t' }:=by
 obtain⟨m,⟨o,es,ep,ho,r⟩,_⟩:=id I.loc;obtain⟨sl,F⟩:=u.any ho I.free fun z=>(B _ z).2.1 rfl;exact I.step (ch:=ch) B (fun b o F O hc e n=>u.keep b o e n (fun z=>(Al.mp (I.stkSub b z)).elim F O) hc) (fun b o _ _ hc e n=>u.any e n hc) (fun b o hc e n=>u.free b o e n hc) (fun b o hc e=>u.there b o e hc) u.tups u.frzs u.tbls (fun U hm=>by
  obtain⟨o',es',ep',ho',r'⟩:=hm;rw[ho]at ho';cases ho';exact⟨_,es',ep',F,r'⟩) hok J
theorem Inv.turned{t':Nat}{it:Ac}(I:Inv X dh σ H s)(k:∀ b o,b≠it→s.heap.get? b=some o→h'.get? b=some o)(hn:H it=none)(F:it≠X.env.locals)
  (h1:it∈X.ex∨X.s₀.heap.objs.size≤it) (h2:∀ x c,X.env.cells.lookup x=some c→c≠it) (J:∀ p∈X.pn ++ dh,p.1≠it):Inv X dh σ H { s with heap:=h',toks:=t' }:=by
 have B:∀ b u,H b=some u→b≠it:=fun b u e z=>by rw[z,hn]at e;cases e
 refine I.step (g':=s.gens) (d':=s.drawn) (ch:=[it]) (fun b O=>?_) (fun b o _ _ hc e _=>k b o (fun z=>hc (by simp[z])) e) (fun b o _ _ hc e _=>⟨o.slots,k b o (fun z=>hc (by simp[z])) e⟩) (fun _ _ _ _ n=>n)
  (fun b o hc e=>⟨o,k b o (fun z=>hc (by simp[z])) e⟩) (fun _ _ e=>e) (fun _ _ _ e=>e) (fun b ps e=>⟨#[],by rw[e];simp⟩) (fun m hm=>?_) (fun b u e=>?_) I.bare
 ·have e:b=it:=by simpa using O
  subst e;exact⟨h1,F,h2,J⟩
 ·obtain⟨o,es,ep,ho,r⟩:=hm;exact⟨o,es,ep,k _ o (DL F) ho,r⟩
 ·refine(I.hok b u e).stay (fun c v hc q=>k c v ?_ q) (fun _ q=>q) fun _ _ q=>q;rcases hc with z | z
  ·rw[z];exact B b u e
  ·exact B c _ z
theorem Inv.tok(I:Inv X dh σ H s)(t:Nat):Inv X dh σ H { s with toks:=t }:=I.un (h':=s.heap) (t':=t) Un.refl I.hok
theorem Inv.kept{t':Nat}(I:Inv X dh σ H s)(k:∀ b u,s.heap.get? b=some u→h'.get? b=some u):Inv X dh σ H { s with heap:=h',toks:=t' }:=I.un (Un.kept k) (I.hok.kept k)
theorem Inv.laid{a:Ac}{o:HO}{t':Nat}(I:Inv X dh σ H s)(k:∀ b u,s.heap.get? b=some u→h'.get? b=some u)(z:s.heap.objs.size≤a)(new:c5 X.prog X.w (upd H a o) h' a o):
  Inv X dh σ (upd H a o) { s with heap:=h',toks:=t' }:=I.un (Un.laid k z (I.hok.fresh z)) (I.hok.laid k z new)
theorem Inv.write{x e:Ac}{o:HO}{t':Nat}(I:Inv X dh σ H s)(B:Mut (H x))(F:e=x∨H e=some (.own x))(k:∀ b u,b≠e→s.heap.get? b=some u→h'.get? b=some u)(z:∃ u,h'.get? e=some u)
  (new:c5 X.prog X.w (upd H x o) h' x o):Inv X dh σ (upd H x o) { s with heap:=h',toks:=t' }:=I.un (Un.write B F k z) (I.hok.write B F k z new)
theorem Inv.pins_of{B:List (Ac×Obj)}(I:Inv X dh σ H s)(h:∀ p∈B,s.heap.get? p.1=some p.2∧H p.1=none∧p.1≠X.env.locals∧p.1 ∉ X.fs∧∀ v,p.2.data≠.cell v):Inv X B σ H s:=
 ⟨I.ok,I.os,I.bare,I.base,I.loc,I.cell,I.free,I.freeC,fun p F=>(Bf.mp F).elim (fun z=>I.pin p (C8 _ z)) (h p),I.hok,I.len⟩
theorem tV{N:List Str}(hN:N.Nodup){i j:Nat}{x:Str}(a:N[i]?=some x)(b:N[j]?=some x):i=j:=by
 obtain⟨h1,e1⟩:=AH.mp a;obtain⟨h2,e2⟩:=AH.mp b;exact(CK hN).mp (e1.trans e2.symm)
theorem w8{M:E3}{A:AN}{E:Ab→Ad→Prop}{i:Nat}{x:Str}{v:V}{u:Ab}{Q:Unit→Ad→Prop}(I:Inv X dh σ H s)(hN:X.N.Nodup)(hi:X.N[i]?=some x)(O:Loc X.env.scope x)(r:dA v u)
  (h:∀ s',Inv X dh (σ.set i (some v)) H s'→(∃ a,DF a s.heap s'.heap∧(a=X.env.locals∨X.env.cells.lookup x=some a))→Q () s') (hf:X.fn x=true∨X.env.scope.names.lookup x=some .local:=by first | exact .inl rfl | exact .inr rfl | assumption):wpAny M A (storeName X.env x u) Q E s:=by
 obtain⟨m,hn,hl⟩:=id I.loc;have af:(X.env.scope.kind == .class || (X.env.scope.kind == .module && X.env.locals != X.env.globals))=false:=by rw[I.ok.kind];rfl
 have ae:i < σ.length:=by rw[I.len];exact(AH.mp hi).1
 have cne:=I.cne;have F:∀{a:Ac} {h':A4},(∃ o,s.heap.get? a=some o∧H a=none)→DF a s.heap h'→HOk X.prog X.w H h':=fun{a h'} ha B b ob e=>by
  obtain⟨_,_,hfree⟩:=ha;refine(I.hok b ob e).stay (fun c w' hc q=>(B.2 c ?_).trans q) (fun _ q=>q) fun _ _ q=>q;rintro rfl;rcases hc with rfl | hc
  ·rw[hfree]at e;cases e
  ·rw[hfree]at hc;cases hc
 rcases O with W | W
 ·refine wpAny_storeName_local W hn (fun h' ak B=>?_) af;obtain⟨oL,_,_,hoL,_⟩:=id hn;refine h _ ⟨I.ok,I.os,I.bare,⟨fun b o e n Y O=>?_,fun b o e n Y O=>?_,I.base.free,fun b o e O=>?_,I.base.tups,I.base.frzs,I.base.tbls⟩,⟨_,ak,fun j y v' J U e3=>?_⟩,fun y c e=>?_,I.free,I.freeC,fun p hp=>?_,F ⟨oL,hoL,I.free⟩ B,by simpa using I.len⟩ ⟨_,B,.inl rfl⟩
  ·exact(B.2 b (AB (AI (Aq e) I.ok.above))).trans (I.base.keep b o e n Y O)
  ·obtain⟨sl,J⟩:=I.base.slot b o e n Y O;exact⟨sl,(B.2 b (AB (AI (Aq e) I.ok.above))).trans J⟩
  ·obtain⟨o',J⟩:=I.base.there b o e O;exact⟨o',(B.2 b (AB (AI (Aq e) I.ok.above))).trans J⟩
  ·by_cases hj:j=i
   ·subst hj;rw[hi]at J;cases J;rw[Dz ae]at U;cases U;exact⟨u,r,.inl ⟨W,by simp⟩⟩
   ·rw[D0 (DL hj)]at U;obtain⟨u',r',q⟩:=hl j y v' J U e3;refine⟨u',r',?_⟩;rcases q with⟨k,e⟩ | ⟨k,c,e,z⟩
    ·refine .inl ⟨k,?_⟩;have:y≠x:=fun e=>hj (tV hN J (e ▸ hi));simp[this,e]
    ·exact .inr ⟨k,c,e,z.sameBut B (cne y c e)⟩
  ·obtain⟨w',z⟩:=I.cell y c e;exact⟨w',z.sameBut B (cne y c e)⟩
  ·obtain⟨e,n,ne,nf,d⟩:=I.pin p hp;exact⟨(B.2 p.1 ne).trans e,n,ne,nf,d⟩
 ·have Z:X.fn x=true:=by
   rcases hf with z | z
   ·exact z
   ·rw[z]at W;cases W
  obtain⟨c,hc⟩:=I.ok.has x (.inl W);obtain⟨w',z⟩:=I.cell x c hc;refine wpAny_storeName_cell I.ok.kind W hc z (fun h' ad B=>?_);obtain⟨oc,hoc,hocd⟩:=id z;refine h { s with heap:=h' } ⟨I.ok,I.os,I.bare,⟨fun b o e n Y O=>?_,fun b o e n Y O=>?_,I.base.free,fun b o e O=>?_,I.base.tups,I.base.frzs,I.base.tbls⟩,⟨m,hn.sameBut B (DL (cne x c hc)),fun j y v' J U e3=>?_⟩,fun y c' e=>?_,I.free,I.freeC,fun p hp=>?_,F ⟨oc,hoc,I.freeC x c hc⟩ B,by simpa using I.len⟩ ⟨c,B,.inr hc⟩
  ·exact(B.2 b (AB (AI (Aq e) (I.ok.cab x c Z hc)))).trans (I.base.keep b o e n Y O)
  ·obtain⟨sl,J⟩:=I.base.slot b o e n Y O;exact⟨sl,(B.2 b (AB (AI (Aq e) (I.ok.cab x c Z hc)))).trans J⟩
  ·obtain⟨o',J⟩:=I.base.there b o e O;exact⟨o',(B.2 b (AB (AI (Aq e) (I.ok.cab x c Z hc)))).trans J⟩
  ·by_cases hj:j=i
   ·subst hj;rw[hi]at J;cases J;rw[Dz ae]at U;cases U;exact⟨u,r,.inr ⟨.inl W,c,hc,ad⟩⟩
   ·rw[D0 (DL hj)]at U;obtain⟨u',r',q⟩:=hl j y v' J U e3;refine⟨u',r',?_⟩;rcases q with q | ⟨k,c',e,z'⟩
    ·exact .inl q
    ·refine .inr ⟨k,c',e,z'.sameBut B ?_⟩;rintro rfl;exact hj (tV hN J (I.ok.inj _ _ _ e hc ▸ hi))
  ·by_cases ac:c'=c
   ·subst ac;exact⟨_,ad⟩
   ·obtain⟨w2,z2⟩:=I.cell y c' e;exact⟨w2,z2.sameBut B ac⟩
  ·obtain⟨e,n,ne,nf,d⟩:=I.pin p hp;refine⟨(B.2 p.1 ?_).trans e,n,ne,nf,d⟩;intro q;rw[q,hoc]at e;have q':oc=p.2:=BS.inj e;exact d w' (by rw[← q'];exact hocd)
theorem pN{M:E3}{A:AN}{E:Ab→Ad→Prop}{i:Nat}{x:Str}{v:V}{u:Ab}{Q:Unit→Ad→Prop}(I:Inv X dh σ H s)(hN:X.N.Nodup)(hi:X.N[i]?=some x)(B:Loc X.env.scope x)(r:dA v u)
  (h:∀ s',Inv X dh (σ.set i (some v)) H s'→Q () s') (z:X.fn x=true∨X.env.scope.names.lookup x=some .local:=by first | exact .inl rfl | exact .inr rfl | assumption):wpAny M A (storeName X.env x u) Q E s:=
 w8 I hN hi B r (fun s' F _=>h s' F) z
theorem Inv.call'{s':Ad}{ch:List Ac}(I:Inv X dh σ H s)(F:s'.os=s.os)(u:Un (frs X.stack) ch H H' s.heap s'.heap)(hok:HOk X.prog X.w H' s'.heap)(B:Ek s'.gens)
  (z:∀ b∈ch,(b∈X.ex∨X.s₀.heap.objs.size≤b)∧b≠X.env.locals∧(∀ x c,X.env.cells.lookup x=some c→c≠b)∧∀ p∈X.pn ++ dh,p.1≠b):Inv X dh σ H' s':=by
 obtain⟨h',g',d',t',o'⟩:=s';have e:o'=s.os:=F;subst e;exact I.call (g':=g') (t':=t') (d':=d') u hok B z
end
abbrev XK:=Ab→Option Ac→Hp→Prop
abbrev St:=List (Option V)
abbrev VK:=V→Hp→Prop
abbrev TE:=St→Hp→VK→Prop
abbrev TT:=St→Hp→(Bool→Hp→Prop)→Prop
abbrev TA:=St→Hp→(List V→Hp→Prop)→Prop
structure oU where
 nx:St→Hp→Prop
 rt:VK
 bk:St→Hp→Prop:=fun _ _=>False
 ct:St→Hp→Prop:=fun _ _=>False
abbrev TS:=oU→St→Hp→Prop
inductive aJ0(X:Cx)(dh:List (Ac×Obj))(σ:St)(Q:VK)(u:Ab)(s':Ad):Prop
 | mk (v:_) (H':_) (q0:Inv X dh σ H' s') (q1:dA v u) (q2:Q v H'):aJ0 X dh σ Q u s'
def EP(X:Cx)(dh:List (Ac×Obj))(σ:St)(Q:VK)(u:Ab)(s':Ad):Prop:=aJ0 X dh σ Q u s'
def TP(X:Cx)(dh:List (Ac×Obj))(σ:St)(Q:Bool→Hp→Prop)(b:Bool)(s':Ad):Prop:=∃ H',Inv X dh σ H' s'∧Q b H'
inductive aJ1(X:Cx)(dh:List (Ac×Obj))(σ:St)(Q:List V→Hp→Prop)(us:List Ab)(s':Ad):Prop
 | mk (vs:_) (H':_) (q0:Inv X dh σ H' s') (q1:cZ vs us) (q2:Q vs H'):aJ1 X dh σ Q us s'
def AP(X:Cx)(dh:List (Ac×Obj))(σ:St)(Q:List V→Hp→Prop)(us:List Ab)(s':Ad):Prop:=aJ1 X dh σ Q us s'
def SP(X:Cx)(dh:List (Ac×Obj))(D:oU)(f:Flow)(s':Ad):Prop:=
 match f with
 | .next=>∃ σ' H',Inv X dh σ' H' s'∧D.nx σ' H'
 | .brk=>∃ σ' H',Inv X dh σ' H' s'∧D.bk σ' H'
 | .cont=>∃ σ' H',Inv X dh σ' H' s'∧D.ct σ' H'
 | .ret u=>∃ v σ' H',Inv X dh σ' H' s'∧dA v u∧D.rt v H'
structure PE(X:Cx)(e:Bc)(t:TE):Prop where
 run:
  ∀(dh:List (Ac×Obj)) (s:Ad) (σ:St) (H:Hp) (Q:VK),Inv X dh σ H s→t σ H Q→wpAny (model X.prog X.w) X.A (eval e X.env) (EP X dh σ Q) X.xe s
instance{X:Cx}{e:Bc}{t:TE}:CoeFun (PE X e t) (fun _=>
 ∀(dh:List (Ac×Obj)) (s:Ad) (σ:St) (H:Hp) (Q:VK),Inv X dh σ H s→t σ H Q→wpAny (model X.prog X.w) X.A (eval e X.env) (EP X dh σ Q) X.xe s):=⟨fun h=>h.run⟩
structure PT(X:Cx)(e:Bc)(t:TT):Prop where
 run:
  ∀(dh:List (Ac×Obj)) (s:Ad) (σ:St) (H:Hp) (Q:Bool→Hp→Prop),Inv X dh σ H s→t σ H Q→wpAny (model X.prog X.w) X.A (isTrue e X.env (eval e X.env)) (TP X dh σ Q) X.xe s
instance{X:Cx}{e:Bc}{t:TT}:CoeFun (PT X e t) (fun _=>
 ∀(dh:List (Ac×Obj)) (s:Ad) (σ:St) (H:Hp) (Q:Bool→Hp→Prop),Inv X dh σ H s→t σ H Q→wpAny (model X.prog X.w) X.A (isTrue e X.env (eval e X.env)) (TP X dh σ Q) X.xe s):=⟨fun h=>h.run⟩
structure PW(X:Cx)(e:Bc)(t:TT):Prop where
 run:
  ∀(whole:Sem Ab) (dh:List (Ac×Obj)) (s:Ad) (σ:St) (H:Hp) (Q:Bool→Hp→Prop),Inv X dh σ H s→t σ H Q→wpAny (model X.prog X.w) X.A (isTrue e X.env whole) (TP X dh σ Q) X.xe s
instance{X:Cx}{e:Bc}{t:TT}:CoeFun (PW X e t) (fun _=>
 ∀(whole:Sem Ab) (dh:List (Ac×Obj)) (s:Ad) (σ:St) (H:Hp) (Q:Bool→Hp→Prop),Inv X dh σ H s→t σ H Q→wpAny (model X.prog X.w) X.A (isTrue e X.env whole) (TP X dh σ Q) X.xe s):=⟨fun h=>h.run⟩
theorem PW.pt{X:Cx}{e:Bc}{t:TT}(h:PW X e t):PT X e t:=⟨h.run _⟩
structure PA(X:Cx)(es:List Bc)(t:TA):Prop where
 run:
  ∀(pos:Pos) (dh:List (Ac×Obj)) (s:Ad) (σ:St) (H:Hp) (Q:List V→Hp→Prop),Inv X dh σ H s→t σ H Q→wpAny (model X.prog X.w) X.A (spliced (backTo pos (starEach es X.env))) (AP X dh σ Q) X.xe s
instance{X:Cx}{es:List Bc}{t:TA}:CoeFun (PA X es t) (fun _=>
 ∀(pos:Pos) (dh:List (Ac×Obj)) (s:Ad) (σ:St) (H:Hp) (Q:List V→Hp→Prop),Inv X dh σ H s→t σ H Q→wpAny (model X.prog X.w) X.A (spliced (backTo pos (starEach es X.env))) (AP X dh σ Q) X.xe s):=⟨fun h=>h.run⟩
structure PS(X:Cx)(st:BP)(t:TS):Prop where
 run:
  ∀(dh:List (Ac×Obj)) (s:Ad) (σ:St) (H:Hp) (D:oU),Inv X dh σ H s→t D σ H→wpAny (model X.prog X.w) X.A (exec st X.env) (SP X dh D) X.xe s
instance{X:Cx}{st:BP}{t:TS}:CoeFun (PS X st t) (fun _=>
 ∀(dh:List (Ac×Obj)) (s:Ad) (σ:St) (H:Hp) (D:oU),Inv X dh σ H s→t D σ H→wpAny (model X.prog X.w) X.A (exec st X.env) (SP X dh D) X.xe s):=⟨fun h=>h.run⟩
structure PSs(X:Cx)(st:List BP)(t:TS):Prop where
 run:
  ∀(dh:List (Ac×Obj)) (s:Ad) (σ:St) (H:Hp) (D:oU),Inv X dh σ H s→t D σ H→wpAny (model X.prog X.w) X.A (execs st X.env) (SP X dh D) X.xe s
instance{X:Cx}{st:List BP}{t:TS}:CoeFun (PSs X st t) (fun _=>
 ∀(dh:List (Ac×Obj)) (s:Ad) (σ:St) (H:Hp) (D:oU),Inv X dh σ H s→t D σ H→wpAny (model X.prog X.w) X.A (execs st X.env) (SP X dh D) X.xe s):=⟨fun h=>h.run⟩
theorem thn{α:Type}{t:Sem α}{Q z:α→Ad→Prop}{M:E3}{A:AN}{E:Ab→Ad→Prop}{s:Ad}(h:wpAny M A t Q E s)(B:∀ a s,Q a s→z a s):wpAny M A t z E s:=BG h B fun _ _ x=>x
section
variable{X:Cx}
inductive aEN(i:Nat)(σ:St)(H:Hp)(Q:VK):Prop
 | mk (v:_) (q0:σ[i]?=some (some v)) (q1:Q v H):aEN i σ H Q
def aJ2(i:Nat):TE:=fun σ H Q=>aEN i σ H Q
def tC(v:V):TE:=fun _ H Q=>Q v H
theorem aIQ{i:Nat}{x:Str}{pos:Pos}(hN:X.N[i]?=some x)(J:Vis X.env.scope x)(hd:(x == ("__debug__":Str))=false:=by decide)(F:(x == ("__classdict__":Str))=false:=by decide):PE X (.Name x pos) (aJ2 i):=by
 constructor;intro dh s σ H Q I h;obtain⟨v,e,h⟩:=h;obtain⟨m,hn,hl⟩:=I.loc;obtain⟨u,r,l⟩:=hl i x v hN e J;have z:EP X dh σ Q u s:=⟨v,H,I,r,h⟩
 rcases l with⟨B,hm⟩ | ⟨B,c,hc,hcell⟩
 ·exact wpAny_Name (wpAny_loadName_local I.ok.kind B hn hm z) hd
 ·rcases B with B | B
  ·exact wpAny_Name (wpAny_loadName_cell I.ok.kind B hc hcell z) hd
  ·exact wpAny_Name (wpAny_loadName_free I.ok.kind B hc hcell z F) hd
theorem aI{i j pos}:PE X (.Constant (.int i) j pos) (tC (.int i)):=⟨fun _ _ _ H _ I h=>wpAny_Constant_int ⟨.int i,H,I.tok _,⟨_,rfl⟩,h⟩⟩
theorem iR{b j pos}:PE X (.Constant (.bool b) j pos) (tC (.bl b)):=⟨fun _ _ _ H _ I h=>Constant_bool ⟨.bl b,H,I,rfl,h⟩⟩
theorem oV{j pos}:PE X (.Constant .none j pos) (tC .non):=⟨fun _ _ _ H _ I h=>Constant_none ⟨.non,H,I,rfl,h⟩⟩
theorem aX{x j pos}:PE X (.Constant (.str x) j pos) (tC (.str x)):=⟨fun _ _ _ H _ I h=>Calls.Constant_str ⟨.str x,H,I.tok _,⟨_,rfl⟩,h⟩⟩
def Gl(X:Cx)(x:Str):Prop:=X.env.kindOf x=some .globalImplicit
theorem sV{E:Ab→Ad→Prop}{dh:List (Ac×Obj)}{s:Ad}{σ:St}{H:Hp}{x:Str}{u:Ab}{pos:Pos}{Q:Ab→Ad→Prop}(I:Inv X dh σ H s)(z:Gl X x)(hm:X.mg x=some u)(h:Q u s)
  (hd:(x == ("__debug__":Str))=false:=by decide):wpAny (model X.prog X.w) X.A (eval (.Name x pos) X.env) Q E s:=
 Calls.Name_function_global I.ok.kind z (Calls.loadGlobal_global (by rw[I.ok.glob];exact I.mod.glob.keeps I.bk) hm h) hd
theorem oW{E:Ab→Ad→Prop}{dh:List (Ac×Obj)}{s:Ad}{σ:St}{H:Hp}{x:Str}{u:Ab}{pos:Pos}{Q:Ab→Ad→Prop}(I:Inv X dh σ H s)(z:Gl X x)(hm:X.mg x=none)(B:bootBuiltins x=some u)(h:Q u s)
  (hn:x≠"__name__":=by decide) (hd:(x == ("__debug__":Str))=false:=by decide):wpAny (model X.prog X.w) X.A (eval (.Name x pos) X.env) Q E s:=by
 obtain⟨mb,h1,h2⟩:=I.mod.blt;exact Calls.Name_function_global I.ok.kind z (Calls.loadGlobal_builtin (by rw[I.ok.glob];exact I.mod.glob.keeps I.bk) hm (by rw[I.ok.blt];exact h1.keeps I.bk) ((h2 x hn).trans B) h) hd
theorem c7{x:Str}{v:V}{u:Ab}{pos:Pos}(z:Gl X x)(hm:X.mg x=some u)(r:dA v u)(hd:(x == ("__debug__":Str))=false:=by decide):PE X (.Name x pos) (tC v):=
 ⟨fun _ _ _ H _ I h=>sV I z hm ⟨v,H,I,r,h⟩ hd⟩
theorem dW{x:Str}{v:V}{u:Ab}{pos:Pos}(z:Gl X x)(hm:X.mg x=none)(B:bootBuiltins x=some u)(r:dA v u)(hn:x≠"__name__":=by decide)(hd:(x == ("__debug__":Str))=false:=by decide):PE X (.Name x pos) (tC v):=
 ⟨fun _ _ _ H _ I h=>oW I z hm B ⟨v,H,I,r,h⟩ hn hd⟩
variable{a b:Bc}{ta tb:TE}{pos:Pos}
structure PC(X:Cx)(op:Ga)(a b:Bc)(t:TE):Prop where
 run:
  ∀(dh:List (Ac×Obj)) (s:Ad) (σ:St) (H:Hp) (Q:VK),Inv X dh σ H s→t σ H Q→
   wpAny (model X.prog X.w) X.A (eval a X.env) (fun v s₁=>wpAny (model X.prog X.w) X.A (eval b X.env) (fun u s₂=>wpAny (model X.prog X.w) X.A (compareOp op v u) (EP X dh σ Q) X.xe s₂) X.xe s₁) X.xe s
instance{X:Cx}{op:Ga}{a b:Bc}{t:TE}:CoeFun (PC X op a b t) (fun _=>
 ∀(dh:List (Ac×Obj)) (s:Ad) (σ:St) (H:Hp) (Q:VK),Inv X dh σ H s→t σ H Q→
  wpAny (model X.prog X.w) X.A (eval a X.env) (fun v s₁=>wpAny (model X.prog X.w) X.A (eval b X.env) (fun u s₂=>wpAny (model X.prog X.w) X.A (compareOp op v u) (EP X dh σ Q) X.xe s₂) X.xe s₁) X.xe s):=⟨fun h=>h.run⟩
theorem aEO(b:Bc){z:Ga}(h:z≠.In)(h2:z≠.NotIn):behindInMarks z b=false:=by
 have B:(z == CmpOp.In)=false:=by cases z <;> first | rfl | exact absurd rfl h
 have F:(z == CmpOp.NotIn)=false:=by cases z <;> first | rfl | exact absurd rfl h2
 cases b <;> simp[behindInMarks,B,F]
def aKR(ta:TE):TE:=fun σ H Q=>ta σ H fun x H1=>Q (.bl (decide (x=.non))) H1
theorem dA.none_iff{x:V}{v:Ab}(r:dA x v):(v == B4)=decide (x=.non):=by
 cases x with
 | non=>cases r;rfl
 | bl _=>cases r;rfl
 | int _=>obtain⟨t,rfl⟩:=r;rfl
 | str _=>obtain⟨t,rfl⟩:=r;rfl
 | byt _=>obtain⟨t,rfl⟩:=r;rfl
 | flt _=>obtain⟨t,rfl⟩:=r;rfl
 | ref _=>cases r;rfl
 | ty _=>cases r;rfl
theorem aIS{j fo}(ha:PE X a ta):PC X .Is a (.Constant .none j fo) (aKR ta):=by
 constructor;intro dh s σ H Q I h;refine thn (ha dh s σ H _ I h) fun v J ⟨x,H1,F,B,z⟩=>?_;exact Constant_none (is_none_gen ⟨.bl _,H1,F,by rw[B.none_iff];rfl,z⟩)
inductive As{α:Type}(f:α→V)(x:V)(Q:α→Prop):Prop
 | mk (c:α) (h:x=f c) (q:Q c):As f x Q
def tB(t:TE):TT:=fun σ H Q=>t σ H fun x H1=>As V.bl x fun c=>Q c H1
theorem aIT{z:Ga}{t:TE}(h:PC X z a b t)(h1:behindInMarks z b=false:=by first | exact aEO _ (by decide) (by decide) | rfl):PT X (.Compare a [z] [b] pos) (tB t):=by
 constructor;intro dh s σ H Q I hw;refine wpAny_isTrue_Compare1 (thn (h dh s σ H _ I hw) fun v U h1=>thn h1 fun u W h2=>thn h2 fun c O ⟨x,H1,J,B,F⟩=>?_) h1;obtain⟨d,rfl,q⟩:=F;cases B;exact B9 ⟨H1,J,q⟩
theorem dJ{e:Bc}{t:TE}(h:PE X e t)(O:∀ z,isTrue e X.env z=(do let v ← z;standAt e.pos;holding [v] (truthy v)):=by intro _;rfl):PT X e (tB t):=by
 constructor;intro dh s σ H Q I hw;refine isTrue_plain (thn (h dh s σ H _ I hw) fun v U ⟨x,H1,J,B,F⟩=>?_) (O _);obtain⟨d,rfl,q⟩:=F;cases B;exact B9 ⟨H1,J,q⟩
variable{tA gk:TT}{cI:List Bc}
def aKS(t u:TT):TT:=fun σ H Q=>t σ H fun c H1=>if c=true then u σ H1 Q else Q false H1
def tOr(t u:TT):TT:=fun σ H Q=>t σ H fun c H1=>if c=true then Q true H1 else u σ H1 Q
def aKT(t:TT):TT:=fun σ H Q=>t σ H fun c H1=>Q (!c) H1
theorem i7(ha:PT X a tA):PW X (.BoolOp .And [a] pos) tA:=by
 constructor;intro B dh s σ H Q I h;refine isTrue_and (thn (ha dh s σ H Q I h) fun c z e=>?_);cases c with
 | true=>exact isTrue_and_nil e
 | false=>exact e
theorem iG(ha:PT X a tA):PW X (.BoolOp .Or [a] pos) tA:=by
 constructor;intro B dh s σ H Q I h;refine isTrue_or (thn (ha dh s σ H Q I h) fun c z e=>?_);cases c with
 | false=>exact isTrue_or_nil e
 | true=>exact e
theorem l0(ha:PT X a tA)(J:PW X (.BoolOp .And (b :: cI) pos) gk):PW X (.BoolOp .And (a :: b :: cI) pos) (aKS tA gk):=by
 constructor;intro O dh s σ H Q I h;refine isTrue_and (thn (ha dh s σ H _ I h) fun c F ⟨H1,B,z⟩=>?_);cases c with
 | true=>exact J O dh F σ H1 Q B z
 | false=>exact⟨H1,B,z⟩
theorem jU(ha:PT X a tA)(J:PW X (.BoolOp .Or (b :: cI) pos) gk):PW X (.BoolOp .Or (a :: b :: cI) pos) (tOr tA gk):=by
 constructor;intro O dh s σ H Q I h;refine isTrue_or (thn (ha dh s σ H _ I h) fun c F ⟨H1,B,z⟩=>?_);cases c with
 | true=>exact⟨H1,B,z⟩
 | false=>exact J O dh F σ H1 Q B z
theorem fQ(ha:PT X a tA):PT X (.UnaryOp .Not a pos) (aKT tA):=by
 constructor;intro dh s σ H Q I h;exact isTrue_not (ha dh s σ H (fun c H1=>Q (!c) H1) I h)
def aJ3(ta tb:TE):TE:=fun σ H Q=>ta σ H fun x H1=>As V.bl x fun c=>if c=true then tb σ H1 Q else Q (.bl false) H1
def aJ4(ta:TE):TE:=fun σ H Q=>ta σ H fun x H1=>As V.bl x fun c=>Q (.bl (!c)) H1
theorem gM{op}{t:TE}(h:PE X a t):PE X (.BoolOp op [a] pos) t:=⟨fun dh s σ H Q I hw=>BoolOp_one (h dh s σ H Q I hw)⟩
theorem dY(ha:PE X a ta)(O:PE X (.BoolOp .And (b :: cI) pos) tb):PE X (.BoolOp .And (a :: b :: cI) pos) (aJ3 ta tb):=by
 constructor;intro dh s σ H Q I h;refine BoolOp_and (thn (ha dh s σ H _ I h) fun v J ⟨x,H1,B,F,z⟩=>?_);obtain⟨c,rfl,z⟩:=z;cases F;refine B9 ?_;cases c with
 | true=>exact O dh J σ H1 Q B z
 | false=>exact⟨.bl false,H1,B,rfl,z⟩
theorem aIU(ha:PE X a ta):PE X (.UnaryOp .Not a pos) (aJ4 ta):=by
 constructor;intro dh s σ H Q I h;refine UnaryOp_ (thn (ha dh s σ H _ I h) fun v J ⟨x,H1,F,B,z⟩=>?_);obtain⟨c,rfl,z⟩:=z;cases B;exact not_of (B9 ⟨.bl (!c),H1,F,rfl,z⟩)
def tIf(t:TT)(ta tb:TE):TE:=fun σ H Q=>t σ H fun c H1=>if c=true then ta σ H1 Q else tb σ H1 Q
theorem aEP{c:Bc}(hc:PT X c tA)(ha:PE X a ta)(J:PE X b tb):PE X (.IfExp c a b pos) (tIf tA ta tb):=by
 constructor;intro dh s σ H Q I h;refine wpAny_IfExp (thn (hc dh s σ H _ I h) fun d F ⟨H1,B,z⟩=>?_);cases d with
 | true=>exact ha dh F σ H1 Q B z
 | false=>exact J dh F σ H1 Q B z
end
def SqL(K:Ah)(H:Hp)(a:Ac)(xs:List V):Prop:=
 Rd H a (.lst xs)∨
  ∃(o:Obj) (its:Array Ab) (n:Nat),K.lookup a=some o∧o.cls=.type "list"∧o.dict=none∧o.data=.seq its n∧its.size≤sizeLine∧cZ xs its.toList
def SqT(K:Ah)(H:Hp)(a:Ac)(xs:List V):Prop:=
 Rd H a (.tup xs)∨
  ∃(o:Obj) (its:Array Ab) (n:Nat),K.lookup a=some o∧o.cls=.type "tuple"∧o.data=.seq its n∧its.size≤sizeLine∧cZ xs its.toList
def aKU:Ab→Option V
 | .none=>some .non
 | .bool b=>some (.bl b)
 | .int i _=>some (.int i)
 | .str x _=>some (.str x)
 | .bytes b _=>some (.byt b)
 | .float b _=>some (.flt b)
 | .ref a=>some (.ref a)
 | .type n=>some (.ty n)
 | _=>none
theorem dA.abs{x:V}{u:Ab}(r:dA x u):aKU u=some x:=by
 cases x with
 | non=>cases r;rfl
 | bl _=>cases r;rfl
 | int _=>obtain⟨t,rfl⟩:=r;rfl
 | str _=>obtain⟨t,rfl⟩:=r;rfl
 | byt _=>obtain⟨t,rfl⟩:=r;rfl
 | flt _=>obtain⟨t,rfl⟩:=r;rfl
 | ref _=>cases r;rfl
 | ty _=>cases r;rfl
theorem dA.inj{x y:V}{u:Ab}(r:dA x u)(q:dA y u):x=y:=BS.inj (r.abs.symm.trans q.abs)
theorem cZ.inj:∀{xs ys:List V}{z:List Ab},cZ xs z→cZ ys z→xs=ys
 | _,_,_,.nil,.nil=>rfl
 | _,_,_,.cons r t,.cons B t'=>by rw[r.inj B,cZ.inj t t']
section
variable{X:Cx}{dh:List (Ac×Obj)}{σ:St}{H:Hp}{s:Ad}{a:Ac}{xs ys:List V}
theorem bE{K:Ah}(h:H a=some (.lst xs)):SqL K H a xs:=.inl (.inl h)
theorem aZ{K:Ah}(h:H a=some (.tup xs)):SqT K H a xs:=.inl (.inl h)
theorem Inv.list(I:Inv X dh σ H s)(h:SqL X.K H a xs):∃ its:List Ab,cZ xs its∧PlainL s.heap a its.toArray∧xs.length≤sizeLine:=by
 rcases h with h | ⟨o,its,n,B,hc,hd,F,hz,r⟩
 ·obtain⟨z,its,n,r,e⟩:=h.ok I.hok;exact⟨its,r,⟨_,n,e,rfl,rfl,rfl⟩,z⟩
 ·refine⟨its.toList,r,⟨o,n,I.kIn a o B,hc,hd,by simpa using F⟩,?_⟩;have e:=r.length;simp only[BD]at e;omega
theorem Inv.tuple(I:Inv X dh σ H s)(h:SqT X.K H a xs):∃ its:List Ab,cZ xs its∧Eu s.heap a its.toArray∧xs.length≤sizeLine:=by
 rcases h with h | ⟨o,its,n,F,hc,B,hz,r⟩
 ·obtain⟨z,its,r,p⟩:=h.ok I.hok;exact⟨its,r,p.tup,z⟩
 ·refine⟨its.toList,r,⟨o,I.kIn a o F,hc,n,by simpa using B⟩,?_⟩;have e:=r.length;simp only[BD]at e;omega
theorem Inv.list_inj(I:Inv X dh σ H s)(h:SqL X.K H a xs)(h':SqL X.K H a ys):xs=ys:=by
 obtain⟨its,r,⟨o,n,e,_,_,d⟩,_⟩:=I.list h;obtain⟨its',r',⟨o',n',e',_,_,d'⟩,_⟩:=I.list h';rw[e]at e';cases e';rw[d]at d';injection d' with d1 _;have:its=its':=by simpa using congrArg Array.toList d1
 subst this;exact r.inj r'
theorem Inv.tuple_inj(I:Inv X dh σ H s)(h:SqT X.K H a xs)(h':SqT X.K H a ys):xs=ys:=by
 obtain⟨its,r,⟨o,e,_,n,d⟩,_⟩:=I.tuple h;obtain⟨its',r',⟨o',e',_,n',d'⟩,_⟩:=I.tuple h';rw[e]at e';cases e';rw[d]at d';injection d' with d1 _;have:its=its':=by simpa using congrArg Array.toList d1
 subst this;exact r.inj r'
end
abbrev Cx.wish(X:Cx)(E:Ab→Ad→Prop):Cx:={ X with xe:=E }
abbrev Cx.nox(X:Cx):Cx:=X.wish fun _ _=>False
theorem Cx.Ok.wish{X:Cx}(ok:X.Ok)(E:Ab→Ad→Prop):(X.wish E).Ok:=
 ⟨ok.mod,ok.kind,ok.glob,ok.blt,ok.above,ok.inj,ok.has,ok.cab,ok.hd,ok.frames,ok.stk,ok.exf,ok.bs,ok.bsz,ok.noex,ok.exfs,ok.funs,ok.frf⟩
theorem Cx.Ok.unwish{X:Cx}{E:Ab→Ad→Prop}(ok:(X.wish E).Ok):X.Ok:=
 ⟨ok.mod,ok.kind,ok.glob,ok.blt,ok.above,ok.inj,ok.has,ok.cab,ok.hd,ok.frames,ok.stk,ok.exf,ok.bs,ok.bsz,ok.noex,ok.exfs,ok.funs,ok.frf⟩
section
variable{X:Cx}{dh:List (Ac×Obj)}{σ:St}{H:Hp}{s:Ad}{E:Ab→Ad→Prop}
theorem Inv.wish(I:Inv X dh σ H s)(E:Ab→Ad→Prop):Inv (X.wish E) dh σ H s:=⟨I.ok.wish E,I.os,I.bare,I.base,I.loc,I.cell,I.free,I.freeC,I.pin,I.hok,I.len⟩
theorem Inv.unwish(I:Inv (X.wish E) dh σ H s):Inv X dh σ H s:=⟨I.ok.unwish,I.os,I.bare,I.base,I.loc,I.cell,I.free,I.freeC,I.pin,I.hok,I.len⟩
theorem SP.unwish{D:oU}{f:Flow}{s':Ad}(h:SP (X.wish E) dh D f s'):SP X dh D f s':=by
 cases f with
 | next=>obtain⟨σ',H',I,q⟩:=h;exact⟨σ',H',I.unwish,q⟩
 | brk=>obtain⟨σ',H',I,q⟩:=h;exact⟨σ',H',I.unwish,q⟩
 | cont=>obtain⟨σ',H',I,q⟩:=h;exact⟨σ',H',I.unwish,q⟩
 | ret u=>obtain⟨v,σ',H',I,r,q⟩:=h;exact⟨v,σ',H',I.unwish,r,q⟩
theorem PSs.nox{st:List BP}{t:TS}(h:PSs X.nox st t):PSs X st t:=⟨fun dh s σ H D I hw=>
 BG (h dh s σ H D (I.wish _) hw) (fun _ _ q=>q.unwish) fun _ _ z=>Bz z⟩
end
section
variable{X:Cx}{st:BP}{cI:List BP}{t u:TS}{e:Bc}{te:TE}{pos:Pos}
def aJ5:TS:=fun D σ H=>D.nx σ H
def aKV(t u:TS):TS:=fun D σ H=>t { D with nx:=u D } σ H
theorem bM:PSs X [] aJ5:=⟨fun _ _ σ H _ I h=>Dy ⟨σ,H,I,h⟩⟩
theorem aJ(h1:PS X st t)(h2:PSs X cI u):PSs X (st :: cI) (aKV t u):=by
 constructor;intro dh s σ H D I h;refine FU (thn (h1 dh s σ H { D with nx:=u D } I h) fun f z q=>?_);cases f with
 | next=>
  obtain⟨σ',H',I',q⟩:=q;exact h2 dh z σ' H' D I' q
 | ret v=>exact q
 | brk=>exact q
 | cont=>exact q
theorem aU(h1:PS X st t):PSs X [st] t:=by
 constructor;intro dh s σ H D I h;refine FU (thn (h1 dh s σ H D I h) fun f z q=>?_);cases f with
 | next=>exact Dy q
 | ret v=>exact q
 | brk=>exact q
 | cont=>exact q
theorem Inv.quiet{dh:List (Ac×Obj)}{σ:St}{H:Hp}{s:Ad}(I:Inv X dh σ H s):interactive X.env=false:=by simp[interactive,I.ok.kind]
def aJ6(te:TE):TS:=fun D σ H=>te σ H fun _ H1=>D.nx σ H1
theorem gW(J:PE X e te)(F:swapsWith e none pos.line X.env=pure false:=by rfl):PS X (.Expr e pos) (aJ6 te):=by
 constructor;intro dh s σ H D I h;exact wpAny_Expr_any (thn (J dh s σ H _ I h) fun v U ⟨x,H1,B,O,z⟩=>⟨σ,H1,B,z⟩) I.quiet F
def aKW(te:TE):TS:=fun D σ H=>te σ H D.rt
theorem bG(J:PE X e te):PS X (.Return (some e) pos) (aKW te):=by
 constructor;intro dh s σ H D I h;exact wpAny_Return_some (thn (J dh s σ H _ I h) fun v O ⟨x,H1,F,B,z⟩=>⟨x,σ,H1,F,B,z⟩)
def aKX(c:TT)(t u:TS):TS:=fun D σ H=>c σ H fun b H1=>if b=true then t D σ H1 else u D σ H1
theorem cX{c:Bc}{a b:List BP}{tc:TT}(hc:PT X c tc)(ha:PSs X a t)(J:PSs X b u):PS X (.If c a b pos) (aKX tc t u):=by
 constructor;intro dh s σ H D I h;refine wpAny_If (thn (hc dh s σ H _ I h) fun d B ⟨H1,F,z⟩=>?_);cases d with
 | true=>exact ha dh B σ H1 D F z
 | false=>exact J dh B σ H1 D F z
end
abbrev TG:=V→St→Hp→(St→Hp→Prop)→Prop
abbrev TGs:=List V→St→Hp→(St→Hp→Prop)→Prop
structure PG(X:Cx)(target:Bc)(t:TG):Prop where
 run:
  ∀(dh:List (Ac×Obj)) (s:Ad) (σ:St) (H:Hp) (v:V) (u:Ab) (Q:St→Hp→Prop),Inv X dh σ H s→dA v u→t v σ H Q→
   wpAny (model X.prog X.w) X.A (assign target X.env u) (fun _ s'=>∃ σ' H',Inv X dh σ' H' s'∧Q σ' H') X.xe s
instance{X:Cx}{target:Bc}{t:TG}:CoeFun (PG X target t) (fun _=>
 ∀(dh:List (Ac×Obj)) (s:Ad) (σ:St) (H:Hp) (v:V) (u:Ab) (Q:St→Hp→Prop),Inv X dh σ H s→dA v u→t v σ H Q→
  wpAny (model X.prog X.w) X.A (assign target X.env u) (fun _ s'=>∃ σ' H',Inv X dh σ' H' s'∧Q σ' H') X.xe s):=⟨fun h=>h.run⟩
structure PGs(X:Cx)(ts:List Bc)(t:TGs):Prop where
 run:
  ∀(dh:List (Ac×Obj)) (s:Ad) (σ:St) (H:Hp) (vs:List V) (us:List Ab) (Q:St→Hp→Prop),Inv X dh σ H s→cZ vs us→t vs σ H Q→
   wpAny (model X.prog X.w) X.A (assignInOrder ((assignEach ts X.env).map (·.2)) us) (fun _ s'=>∃ σ' H',Inv X dh σ' H' s'∧Q σ' H') X.xe s
instance{X:Cx}{ts:List Bc}{t:TGs}:CoeFun (PGs X ts t) (fun _=>
 ∀(dh:List (Ac×Obj)) (s:Ad) (σ:St) (H:Hp) (vs:List V) (us:List Ab) (Q:St→Hp→Prop),Inv X dh σ H s→cZ vs us→t vs σ H Q→
  wpAny (model X.prog X.w) X.A (assignInOrder ((assignEach ts X.env).map (·.2)) us) (fun _ s'=>∃ σ' H',Inv X dh σ' H' s'∧Q σ' H') X.xe s):=⟨fun h=>h.run⟩
abbrev aIV:=V→V→V→Hp→(Hp→Prop)→Prop
def aJ7(X:Cx)(t:aIV):Prop:=
 ∀(dh:List (Ac×Obj)) (s:Ad) (σ:St) (H:Hp) (o i v:V) (ov iv u:Ab) (Q:Hp→Prop),Inv X dh σ H s→dA o ov→dA i iv→dA v u→t o i v H Q→
  wpAny (model X.prog X.w) X.A (setItem ov iv u) (fun _ s'=>∃ H',Inv X dh σ H' s'∧Q H') X.xe s
section
variable{X:Cx}{pos:Pos}
def dG(i:Nat):TG:=fun v σ H Q=>Q (σ.set i (some v)) H
theorem bU{i:Nat}{x:Str}(hN:X.N.Nodup)(hi:X.N[i]?=some x)(B:Loc X.env.scope x)(z:X.fn x=true∨X.env.scope.names.lookup x=some .local:=by first | exact .inl rfl | exact .inr rfl | assumption):PG X (.Name x pos) (dG i):=by
 constructor;intro dh s σ H v u Q I r h;exact wpAny_assign_Name (pN I hN hi B r (fun s' F=>⟨_,H,F,h⟩) z)
def aKY:TGs:=fun vs σ H Q=>vs=[]∧Q σ H
inductive aCN(t:TG)(u:TGs)(vs:List V)(σ:St)(H:Hp)(Q:(St→Hp→Prop)):Prop
 | mk (v:_) (r:_) (q0:vs=v :: r) (q1:t v σ H fun σ' H'=>u r σ' H' Q):aCN t u vs σ H Q
def aJ8(t:TG)(u:TGs):TGs:=fun vs σ H Q=>aCN t u vs σ H Q
theorem jV:PGs X [] aKY:=by
 constructor;intro dh s σ H vs z Q I r h;obtain⟨e,h⟩:=h;subst e;cases r;exact assignInOrder_nil ⟨σ,H,I,h⟩
theorem dB{e:Bc}{es:List Bc}{t:TG}{u:TGs}(h1:PG X e t)(h2:PGs X es u)
  (F:(assignEach (e :: es) X.env).map (·.2)=assign e X.env :: (assignEach es X.env).map (·.2):=by rfl):PGs X (e :: es) (aJ8 t u):=by
 constructor;intro dh s σ H vs W Q I r h;obtain⟨v,vr,e1,h⟩:=h;subst e1;cases r with
 | cons r B=>
  rw[F];refine assignInOrder_cons (thn (h1 dh s σ H _ _ _ I r h) fun _ J ⟨U,H1,O,z⟩=>?_);exact h2 dh J U H1 _ _ Q O B z
inductive aEQ(K:Ah)(n:Nat)(t:TGs)(v:V)(σ:St)(H:Hp)(Q:(St→Hp→Prop)):Prop
 | mk (a:_) (xs:_) (q0:v=.ref a) (q1:SqT K H a xs) (q2:xs.length=n) (q3:t xs σ H Q):aEQ K n t v σ H Q
def aKZ(K:Ah)(n:Nat)(t:TGs):TG:=fun v σ H Q=>aEQ K n t v σ H Q
theorem m8{es:List Bc}{k:Nat}{t:TGs}{n:Nat}(hc:X.calm=true)(h:PGs X es t)
  (hn:(assignEach es X.env).length=n:=by rfl) (z:(assignEach es X.env).findIdx? (·.1)=none:=by rfl):PG X (.Tuple es k pos) (aKZ X.K n t):=by
 constructor;intro dh s σ H v u Q I r hw;obtain⟨a,xs,e1,hq,hl,hw⟩:=hw;subst e1;cases r;obtain⟨its,rv,ht,hz⟩:=I.tuple hq;refine assign_Tuple_tuple (I.ok.hd hc) ht (by simp[hn,← hl,rv.length]) z fun h' B=>?_;have F:Inv X dh σ H { s with heap:=h' }:=I.kept (t':=s.toks) fun b o e=>B b o (AB (Aq e)) e;exact h dh _ σ H xs _ Q F (by simpa using rv) hw
def aK0(to ti:TE)(t:aIV):TG:=fun v σ H Q=>to σ H fun o H1=>ti σ H1 fun i H2=>t o i v H2 fun H3=>Q σ H3
theorem aER{o i:Bc}{to F:TE}{t:aIV}(ho:PE X o to)(hi:PE X i F)(hs:aJ7 X t)
  (ha:∀ v,assign (.Subscript o i pos) X.env v=(do
   let z ← holding [v] (eval o X.env)
   let B ← holding [v,z] (eval i X.env)
   standAt pos
   holding [v,z,B] (setItem z B v)
   release [v,z,B] []):=by intro _;rfl):PG X (.Subscript o i pos) (aK0 to F t):=by
 constructor;intro dh s σ H v u Q I r h;rw[ha];refine Aa (Be (thn (ho dh s σ H _ I h) fun z s1 ⟨x,H1,I1,U,Y⟩=>?_));refine Aa (Be (thn (hi dh s1 σ H1 _ I1 Y) fun B s2 ⟨y,H2,I2,J,W⟩=>?_));refine Aa (Fo (Aa (Be (thn (hs dh s2 σ H2 x y v z B u _ I2 U J r W) fun _ s3 ⟨Z,I3,O⟩=>?_))));exact wpAny_release ⟨σ,Z,I3,O⟩
def aIX(te:TE)(g:TG):TS:=fun D σ H=>te σ H fun x H1=>g x σ H1 D.nx
theorem kB{tg e:Bc}{te:TE}{g:TG}(W:PE X e te)(F:PG X tg g)(J:swapsWithSole [tg] e pos.line X.env=pure false:=by rfl)(hw:swappedStores [tg] e X.env=pure none:=by rfl)
  (h1:(assignEach [tg] X.env).map (·.2)=[assign tg X.env]:=by rfl):PS X (.Assign [tg] e pos) (aIX te g):=by
 constructor;intro dh s σ H D I h;refine wpAny_Assign_stores (thn (W dh s σ H _ I h) fun v O ⟨x,H1,U,z,B⟩=>?_) J hw;rw[h1];exact thn (F dh O σ H1 x v _ U z B) fun _ Y q=>q
theorem bQ{i:Nat}{x:Str}{e:Bc}{te:TE}{fo:Pos}(hN:X.N.Nodup)(hi:X.N[i]?=some x)(J:Loc X.env.scope x)(Y:PE X e te)(U:swapsWith e (some (.Name x fo)) pos.line X.env=pure false:=by rfl)(z:X.fn x=true∨X.env.scope.names.lookup x=some .local:=by first | exact .inl rfl | exact .inr rfl | assumption):
  PS X (.Assign [.Name x fo] e pos) (aIX te (dG i)):=by
 constructor;intro dh s σ H D I h;refine wpAny_Assign_Name (thn (Y dh s σ H _ I h) fun v Z ⟨y,H1,W,B,F⟩=>?_) U;exact pN W hN hi J B (fun s2 O=>⟨_,H1,O,F⟩) z
end
section
variable{X:Cx}{pos:Pos}
inductive aAx(c:TT)(tb:TS)(D:oU)(σ:St)(H:Hp):Prop
 | mk (W:Nat→St→Hp→Prop) (q0:(∃ m,W m σ H)) (q1:∀ m σ H,W m σ H→
 c σ H fun b H1=>if b=true then∃ N:St→Hp→Prop,(∀ σ' H',N σ' H'→∃ m',m' < m∧W m' σ' H')∧tb { D with nx:=N,ct:=N,bk:=D.nx } σ H1 else D.nx σ H1):aAx c tb D σ H
def aIY(c:TT)(tb:TS):TS:=fun D σ H=>aAx c tb D σ H
theorem aES{c:Bc}{z:List BP}{tc:TT}{tb:TS}(O:PassesOwn (model X.prog X.w) X.A X.env X.xe)(hc:PT X c tc)(Z:PSs X z tb):PS X (.While c z [] pos) (aIY tc tb):=by
 constructor;intro dh s σ H D I h;obtain⟨W,⟨m0,w0⟩,turn⟩:=h;refine wpAny_While (codeAny_whileLoop (fun n s'=>∃ U H',Inv X dh U H' s'∧W n U H') ?_ m0 ⟨σ,H,I,w0⟩);rintro n s1 ⟨J,H1,I1,w1⟩;refine C4 O (thn (hc dh s1 J H1 _ I1 (turn n J H1 w1)) fun b s2 ⟨H2,Y,F⟩=>?_);cases b with
 | true=>
  obtain⟨N,hN,F⟩:=F;rw[Ib rfl];refine C4 O (thn (Z dh s2 J H2 _ Y F) fun f s3 B=>?_);cases f with
  | next=>
   obtain⟨σ3,H3,I3,n3⟩:=B;obtain⟨m',hm,w3⟩:=hN σ3 H3 n3;exact⟨m',hm,σ3,H3,I3,w3⟩
  | cont=>
   obtain⟨σ3,H3,I3,n3⟩:=B;obtain⟨m',hm,w3⟩:=hN σ3 H3 n3;exact⟨m',hm,σ3,H3,I3,w3⟩
  | brk=>exact B
  | ret v=>exact B
 | false=>
  rw[Ia AD];exact Dy ⟨J,H2,Y,F⟩
end
structure It where
 go:Nat→Hp→Prop
 yld:Nat→Hp→V→Hp→Prop
 stop:Nat→Hp→Prop
def m5(X:Cx)(dh:List (Ac×Obj))(H:Hp)(b:Ac):Prop:=
 H b=none∧b≠X.env.locals∧b ∉ X.fs∧(b∈X.ex∨X.s₀.heap.objs.size≤b)∧(∀ x c,X.env.cells.lookup x=some c→c≠b)∧∀ p∈X.pn ++ dh,p.1≠b
theorem Inv.fpOk{X:Cx}{dh:List (Ac×Obj)}{σ:St}{H H':Hp}{s:Ad}{b:Ac}(I:Inv X dh σ H s)(B:s.heap.objs.size≤b)(hn:H' b=none):m5 X dh H' b:=by
 refine⟨hn,CP (AI I.lt B),I.nofs B,.inr (Ba I.sz B),fun x c e z=>?_,fun p F z=>?_⟩
 ·obtain⟨v,q⟩:=I.cell x c e;exact absurd (AI q.lt (by rw[z];exact B)) (Bg _)
 ·exact absurd (AI (Aq (I.pin p F).1) (by rw[z];exact B)) (Bg _)
structure aDQ(P:Ay)(w:AS)(K:Ah)(tg:Bc)(J:It)(fp:List Ac)(it:Ac)(tn:Nat→A4→Prop):Prop where
 mem:it∈fp
 obj:∀ i h,tn i h→∀ b∈fp,∃ o,h.get? b=some o∧∀ v,o.data≠.cell v
 keep:∀ i h h',tn i h→(∀ b∈fp,∀ o,h.get? b=some o→h'.get? b=some o)→tn i h'
 item:∀(X:Cx),X.prog=P→X.w=w→X.K=K→X.calm=true→∀(i:Nat) (dh:List (Ac×Obj)) (s:Ad) (σ:St) (H:Hp) (E:Ab→Ad→Prop),Inv X dh σ H s→(∀ b∈fp,m5 X dh H b)→tn i s.heap→J.go i H→
  wpAny (model P w) X.A (pyNext (.ref it)) (fun r s1=>∃ u,r=some u∧
   wpAny (model P w) X.A (letOwnedTupleGo tg (.ref it) u) (fun _ s2=>∃ x H',Inv X dh σ H' s2∧dA x u∧J.yld i H x H'∧tn (i + 1) s2.heap∧∀ b∈fp,H' b=none) E s1) E s
 done:∀(X:Cx),X.prog=P→X.w=w→X.K=K→X.calm=true→∀(i:Nat) (dh:List (Ac×Obj)) (s:Ad) (σ:St) (H:Hp) (E:Ab→Ad→Prop),Inv X dh σ H s→(∀ b∈fp,m5 X dh H b)→tn i s.heap→J.stop i H→
  wpAny (model P w) X.A (pyNext (.ref it)) (fun r s1=>r=none∧Inv X dh σ H s1) E s
 self:∀(A:AN) (i:Nat) (s:Ad) (Q:Ab→Ad→Prop) (E:Ab→Ad→Prop),tn i s.heap→Q (.ref it) s→wpAny (model P w) A (pyIter (.ref it)) Q E s
abbrev TI:=St→Hp→(It→Hp→Prop)→Prop
inductive aIf(X:Cx)(dh:List (Ac×Obj))(σ:St)(tg:Bc)(R:It→Hp→Prop)(itv:Ab)(s2:Ad):Prop
 | mk (it:Ac) (fp:List Ac) (tn:Nat→A4→Prop) (J:It) (H':Hp) (q0:itv=.ref it) (q1:Inv X dh σ H' s2) (q2:aDQ X.prog X.w X.K tg J fp it tn) (q3:tn 0 s2.heap) (q4:(∀ b∈fp,m5 X dh H' b)) (q5:R J H'):aIf X dh σ tg R itv s2
def PIE(X:Cx)(dh:List (Ac×Obj))(σ:St)(tg:Bc)(R:It→Hp→Prop)(itv:Ab)(s2:Ad):Prop:=aIf X dh σ tg R itv s2
structure PI(X:Cx)(tg iter:Bc)(wi:TI):Prop where
 run:
  ∀(dh:List (Ac×Obj)) (s:Ad) (σ:St) (H:Hp) (R:It→Hp→Prop),Inv X dh σ H s→wi σ H R→
   wpAny (model X.prog X.w) X.A (eval iter X.env) (fun v s1=>wpAny (model X.prog X.w) X.A (pyIter v) (PIE X dh σ tg R) X.xe s1) X.xe s
instance{X:Cx}{tg iter:Bc}{wi:TI}:CoeFun (PI X tg iter wi) (fun _=>
 ∀(dh:List (Ac×Obj)) (s:Ad) (σ:St) (H:Hp) (R:It→Hp→Prop),Inv X dh σ H s→wi σ H R→
  wpAny (model X.prog X.w) X.A (eval iter X.env) (fun v s1=>wpAny (model X.prog X.w) X.A (pyIter v) (PIE X dh σ tg R) X.xe s1) X.xe s):=⟨fun h=>h.run⟩
theorem aCO{M : E3}{A : AN}{E : Ab → Ad → Prop}{s : Ad}{tg : Bc}{it : Ac}{u : Ab}{o : Obj}{n : String}{vs : Array Ab}{Q : Unit → Ad → Prop}(B : s.heap.get? it = some o)(hc : o.cls = .type n)(hd : o.data = .fields vs)
    (hn : ["enumerate", "zip", "dict_itemiterator", "dict_reverseitemiterator", "odict_iterator", "itertools.zip_longest", "itertools.pairwise"].contains n = false) (z : Q () s) : wpAny M A (letOwnedTupleGo tg (.ref it) u) Q E s := by
  unfold letOwnedTupleGo;cases tg <;> first
    | exact Af z
    | (cases u <;> first
        | exact Af z
        | (refine Aa (Fq B ?_)
           rw[hc, hd];show wpAny M A (if (["enumerate", "zip", "dict_itemiterator", "dict_reverseitemiterator", "odict_iterator", "itertools.zip_longest", "itertools.pairwise"].contains n && vs[0]? == some (rawInt _)) = true then _ else _) Q E s;rw[Ia (by intro h;rw[hn, Dd]at h;cases h)];exact Af z))
def Itl(K:Ah)(a:Ac):It:=
 ⟨fun i H=>∃ xs x,SqL K H a xs∧xs[i]?=some x,fun i H x H'=>H'=H∧∀ xs,SqL K H a xs→xs[i]?=some x,fun i H=>∃ xs,SqL K H a xs∧xs.length≤i⟩
def Itt(K:Ah)(a:Ac):It:=
 ⟨fun i H=>∃ xs x,SqT K H a xs∧xs[i]?=some x,fun i H x H'=>H'=H∧∀ xs,SqT K H a xs→xs[i]?=some x,fun i H=>∃ xs,SqT K H a xs∧xs.length≤i⟩
def Itr(lo:Int)(n:Nat):It:=⟨fun i _=>i < n,fun i H x H'=>H'=H∧x=.int (lo + i),fun i _=>n≤i⟩
theorem aDR{P:Ay}{w:AS}{K:Ah}{tg:Bc}(a it:Ac):aDQ P w K tg (Itl K a) [it] it (fun i h=>h.IsListIter it a i) where
 mem:=by simp
 obj:=fun i h st b B=>by
  have e:b=it:=by simpa using B
  subst e;obtain⟨o,e,c,d⟩:=st;exact⟨o,e,fun v z=>by rw[d]at z;cases z⟩
 keep:=fun i h h' st k=>st.at fun o e=>k it (by simp) o e
 item:=by
  intro X W hw U hc i dh s σ H E I J st O;subst W hw U;obtain⟨xs,x,hq,hx⟩:=O;obtain⟨its,rv,p,hz⟩:=I.list hq;obtain⟨u,hu,ru⟩:=rv.get hx;obtain⟨f0,f1,f2,f3,f4,f5⟩:=J it (by simp);refine wpAny_pyNext_list_item st p.isList (x:=u) (by simpa using hu) fun h' F Y=>?_;have I1:Inv X dh σ H { s with heap:=h' }:=I.turned (t':=s.toks) (fun b o B e=>(Y.2 b B).trans e) f0 f1 f3 f4 f5;obtain⟨o,e,c,d⟩:=id F;exact⟨u,rfl,aCO (s:={ s with heap:=h' }) e c d (by decide) ⟨x,H,I1,ru,⟨rfl,fun ys Z=>by rw[I.list_inj Z hq];exact hx⟩,F,fun b B=>(J b B).1⟩⟩
 done:=by
  intro X W hw U hc i dh s σ H E I J st O;subst W hw U;obtain⟨xs,hq,hx⟩:=O;obtain⟨its,rv,p,hz⟩:=I.list hq;obtain⟨f0,f1,f2,f3,f4,f5⟩:=J it (by simp);have hl:=rv.length;exact wpAny_pyNext_list_end (I.ok.hd hc) st p.isList (by simp;omega) fun h' eb=>⟨rfl,I.turned (t':=s.toks) (fun b o B e=>eb b o B e) f0 f1 f3 f4 f5⟩
 self:=fun _ _ _ _ _ st h=>wpAny_pyIter_listiter st h
theorem aBV{P:Ay}{w:AS}{K:Ah}{tg:Bc}(a it:Ac):aDQ P w K tg (Itt K a) [it] it (fun i h=>h.IsTupleIter it a i) where
 mem:=by simp
 obj:=fun i h st b B=>by
  have e:b=it:=by simpa using B
  subst e;obtain⟨o,e,c,d⟩:=st;exact⟨o,e,fun v z=>by rw[d]at z;cases z⟩
 keep:=fun i h h' st k=>st.at fun o e=>k it (by simp) o e
 item:=by
  intro X W hw U hc i dh s σ H E I J st O;subst W hw U;obtain⟨xs,x,hq,hx⟩:=O;obtain⟨its,rv,p,hz⟩:=I.tuple hq;obtain⟨u,hu,ru⟩:=rv.get hx;obtain⟨f0,f1,f2,f3,f4,f5⟩:=J it (by simp);refine wpAny_pyNext_tuple_item st (show s.heap.IsTuple a its.toArray from p) (x:=u) (by simpa using hu) fun h' F Y=>?_;have I1:Inv X dh σ H { s with heap:=h' }:=I.turned (t':=s.toks) (fun b o B e=>(Y.2 b B).trans e) f0 f1 f3 f4 f5;obtain⟨o,e,c,d⟩:=id F;exact⟨u,rfl,aCO (s:={ s with heap:=h' }) e c d (by decide) ⟨x,H,I1,ru,⟨rfl,fun ys Z=>by rw[I.tuple_inj Z hq];exact hx⟩,F,fun b B=>(J b B).1⟩⟩
 done:=by
  intro X W hw U hc i dh s σ H E I J st O;subst W hw U;obtain⟨xs,hq,hx⟩:=O;obtain⟨its,rv,p,hz⟩:=I.tuple hq;obtain⟨f0,f1,f2,f3,f4,f5⟩:=J it (by simp);have hl:=rv.length;exact wpAny_pyNext_tuple_end (I.ok.hd hc) st (show s.heap.IsTuple a its.toArray from p) (by simp;omega) fun h' eb=>⟨rfl,I.turned (t':=s.toks) (fun b o B e=>eb b o B e) f0 f1 f3 f4 f5⟩
 self:=fun _ _ _ _ _ st h=>wpAny_pyIter_tupleiter st h
theorem aBW{P:Ay}{w:AS}{K:Ah}{tg:Bc}(it:Ac)(lo:Int)(n:Nat):aDQ P w K tg (Itr lo n) [it] it (fun i h=>IsRangeIter h it (lo + (i:Nat) * 1) ((n:Int) - (i:Nat)) 1) where
 mem:=by simp
 obj:=fun i h st b B=>by
  have e:b=it:=by simpa using B
  subst e;exact⟨_,st,fun v z=>by
   have z':Gd _=Data.cell v:=z;cases z'⟩
 keep:=fun i h h' st k=>k it (by simp) _ st
 item:=by
  intro X Y hw U hc i dh s σ H E I J st O;subst Y hw U;obtain⟨f0,f1,f2,f3,f4,f5⟩:=J it (by simp);have W:=Walks.range (prog:=X.prog) (w:=X.w) (I.ok.hd hc) it lo 1 n;refine W.item i s _ _ O st fun v h' tk Z F kk=>?_;obtain⟨t,rfl⟩:=Z;have I1:Inv X dh σ H { s with heap:=h',toks:=tk }:=I.turned (fun b o B e=>kk b o (by simpa using B) e) f0 f1 f3 f4 f5;refine⟨_,rfl,aCO (s:={ s with heap:=h',toks:=tk }) (n:="range_iterator") F rfl rfl (by decide) ⟨.int (lo + i),H,I1,⟨t,?_⟩,⟨rfl,rfl⟩,F,fun b B=>(J b B).1⟩⟩;rw[Int.mul_one]
 done:=by
  intro X Y hw U hc i dh s σ H E I J st O;subst Y hw U;obtain⟨f0,f1,f2,f3,f4,f5⟩:=J it (by simp);exact wpAny_pyNext_range_end (I.ok.hd hc) st (by have:n≤i:=O;omega) fun h' eb=>⟨rfl,I.turned (t':=s.toks) (fun b o B e=>eb b o B e) f0 f1 f3 f4 f5⟩
 self:=fun _ _ _ _ _ st h=>wpAny_pyIter_rangeiter st h
section
variable{X:Cx}{tg:Bc}
def aJ9(K:Ah)(tl:TE):TI:=fun σ H R=>tl σ H fun x H1=>As V.ref x fun a=>(∃ xs,SqL K H1 a xs)∧R (Itl K a) H1
def aK1(K:Ah)(tl:TE):TI:=fun σ H R=>tl σ H fun x H1=>As V.ref x fun a=>(∃ xs,SqT K H1 a xs)∧R (Itt K a) H1
theorem nV{l:Bc}{tl:TE}(U:PE X l tl):PI X tg l (aJ9 X.K tl):=by
 constructor;intro dh s σ H R I h;refine thn (U dh s σ H _ I h) fun v z ⟨x,H1,B,F,J⟩=>?_;obtain⟨a,e,⟨xs,hq⟩,q⟩:=J;subst e;cases F;obtain⟨its,rv,p,hz⟩:=B.list hq;refine FE p.isList ?_;refine⟨z.heap.objs.size,[z.heap.objs.size],_,_,H1,rfl,B.kept (t':=z.toks) fun b o e=>Ai _ e,aDR a _,⟨_,Ax _ rfl,rfl,rfl⟩,fun b O=>?_,q⟩;have e:b=z.heap.objs.size:=by simpa using O
 subst e;exact B.fpOk (Ap _) (B.hok.fresh (Ap _))
theorem gX{l:Bc}{tl:TE}(U:PE X l tl):PI X tg l (aK1 X.K tl):=by
 constructor;intro dh s σ H R I h;refine thn (U dh s σ H _ I h) fun v z ⟨x,H1,B,F,J⟩=>?_;obtain⟨a,e,⟨xs,hq⟩,q⟩:=J;subst e;cases F;obtain⟨its,rv,p,hz⟩:=B.tuple hq;refine wpAny_pyIter_tuple (show z.heap.IsTuple a its.toArray from p) ?_;refine⟨z.heap.objs.size,[z.heap.objs.size],_,_,H1,rfl,B.kept (t':=z.toks) fun b o e=>Ai _ e,aBV a _,⟨_,Ax _ rfl,rfl,rfl⟩,fun b O=>?_,q⟩;have e:b=z.heap.objs.size:=by simpa using O
 subst e;exact B.fpOk (Ap _) (B.hok.fresh (Ap _))
theorem aAy{dh:List (Ac×Obj)}{σ:St}{H:Hp}{s:Ad}{R:It→Hp→Prop}{E:Ab→Ad→Prop}{lo hi:Int}{t u v:Tok}{tk:Nat}(I:Inv X dh σ H s)(h1:-(2 ^ 62)≤lo)(h2:lo < 2 ^ 62)(B:-(2 ^ 62)≤hi)(F:hi < 2 ^ 62)
  (q:R (Itr lo (hi - lo).toNat) H):wpAny (model X.prog X.w) X.A (pyIter (.ref s.heap.objs.size)) (PIE X dh σ tg R) E { s with heap:=s.heap.push { cls:=.type "range",data:=.fields #[.int lo t,.int hi u,.int 1 v] },toks:=tk }:=by
 refine wpAny_pyIter_range (IsRange.new ..) (small_one h1 h2 B F) ?_;have z:Inv X dh σ H { s with heap:=s.heap.push { cls:=.type "range",data:=.fields #[.int lo t,.int hi u,.int 1 v] },toks:=tk }:=I.kept fun b o e=>Ai _ e;refine⟨(s.heap.push { cls:=.type "range",data:=.fields #[.int lo t,.int hi u,.int 1 v] }).objs.size,[(s.heap.push { cls:=.type "range",data:=.fields #[.int lo t,.int hi u,.int 1 v] }).objs.size],_,_,H,rfl,
  z.kept (t':=tk) fun b o e=>Ai _ e,aBW _ lo (hi - lo).toNat,?_,fun b O=>?_,q⟩
 ·have J:lo + ((0:Nat):Int) * 1=lo:=by simp
  have U:(((hi - lo).toNat:Nat):Int) - ((0:Nat):Int)=Builtin.Range.rangeSize lo hi 1:=by rw[rangeSize_one];split <;> omega
  show IsRangeIter _ _ (lo + ((0:Nat):Int) * 1) ((((hi - lo).toNat:Nat):Int) - ((0:Nat):Int)) 1;rw[J,U];exact Ax _ rfl
 ·have e:b=(s.heap.push { cls:=.type "range",data:=.fields #[.int lo t,.int hi u,.int 1 v] }).objs.size:=by simpa using O
  subst e;exact z.fpOk (Ap _) (z.hok.fresh (Ap _))
def aKa(ta:TA):TI:=fun σ H R=>ta σ H fun vs H1=>∃ j:Int,vs=[.int j]∧-(2 ^ 62)≤j∧j < 2 ^ 62∧R (Itr 0 j.toNat) H1
def aKb(ta:TA):TI:=fun σ H R=>ta σ H fun vs H1=>∃ i j:Int,vs=[.int i,.int j]∧(-(2 ^ 62)≤i∧i < 2 ^ 62∧-(2 ^ 62)≤j∧j < 2 ^ 62)∧R (Itr i (j - i).toNat) H1
theorem f8{a:Bc}{ta:TA}{p pos:Pos}(F:Gl X "range")(hm:X.mg "range"=none)(ha:PA X [a] ta)(O:starEach [a] X.env=[(false,eval a X.env)]:=by rfl):PI X tg (.Call (.Name "range" p) [a] [] pos) (aKa ta):=by
 constructor;intro dh s σ H R I h;refine Call_ (oW I F hm boot_range (DK (thn (ha pos dh s σ H _ I h) fun W Y ⟨vs,H1,U,B,z⟩=>?_) O rfl));obtain⟨j,e,z,q2,q⟩:=z;subst e;cases B with
 | cons r J=>
  cases J;obtain⟨t,rfl⟩:=r;exact call_range_1 (aAy U (by omega) (by omega) z q2 (by simpa using q))
theorem aDS{a b:Bc}{ta:TA}{p pos:Pos}(O:Gl X "range")(hm:X.mg "range"=none)(ha:PA X [a,b] ta)(U:starEach [a,b] X.env=[(false,eval a X.env),(false,eval b X.env)]:=by rfl)(z:starEach [b] X.env=[(false,eval b X.env)]:=by rfl):
  PI X tg (.Call (.Name "range" p) [a,b] [] pos) (aKb ta):=by
 constructor;intro dh s σ H R I h;refine Call_ (oW I O hm boot_range (DK (thn (ha pos dh s σ H _ I h) fun Z s1 ⟨vs,H1,W,J,B⟩=>?_) (by rw[U,z]) (by rw[z];rfl)));obtain⟨i,j,e,⟨B,q2,q3,q4⟩,q⟩:=B;subst e;cases J with
 | cons r F=>
  cases F with
  | cons Y F=>
   cases F;obtain⟨t,rfl⟩:=r;obtain⟨t',rfl⟩:=Y;exact call_range_2 (aAy W B q2 q3 q4 q)
def aK2(wi:TI)(g:TG)(tb:TS):TS:=fun D σ H=>wi σ H fun J H1=>∃ W:Nat→Nat→St→Hp→Prop,(∃ m,W 0 m σ H1)∧∀ i m σ H,W i m σ H→
 (J.stop i H∧D.nx σ H)∨(J.go i H∧∃ N:St→Hp→Prop,(∀ σ' H',N σ' H'→∃ m',m' < m∧W (i + 1) m' σ' H')∧∀ x H',J.yld i H x H'→g x σ H' fun σ2 H2=>tb { D with nx:=N,ct:=N,bk:=D.nx } σ2 H2)
def oX(fp:List Ac)(h:A4):List (Ac×Obj):=fp.filterMap fun b=>(h.get? b).map fun o=>(b,o)
theorem l7{fp:List Ac}{h:A4}{b:Ac}{o:Obj}(z:b∈fp)(e:h.get? b=some o):(b,o)∈oX fp h:=A9.mpr ⟨b,z,by rw[e];rfl⟩
theorem w9{fp:List Ac}{h:A4}{p:Ac×Obj}(z:p∈oX fp h):p.1∈fp∧h.get? p.1=some p.2:=by
 obtain⟨b,hb,e⟩:=A9.mp z;cases q:h.get? b with
 | none=>rw[q]at e;cases e
 | some o=>
  rw[q]at e;have B:(b,o)=p:=BS.inj e;subst B;exact⟨hb,q⟩
theorem Inv.pinned{dh:List (Ac×Obj)}{σ:St}{H:Hp}{s:Ad}{fp:List Ac}(I:Inv X dh σ H s)(F:∀ b∈fp,m5 X dh H b)(J:∀ b∈fp,∃ o,s.heap.get? b=some o∧∀ v,o.data≠.cell v):Inv X (dh ++ oX fp s.heap) σ H s:=
 I.pins_of fun p B=>(Bf.mp B).elim (fun z=>I.pin p (AZ _ z)) fun z=>by
  obtain⟨hb,e⟩:=w9 z;obtain⟨f0,f1,f2,_⟩:=F p.1 hb;obtain⟨o,e',d⟩:=J p.1 hb;rw[e]at e';cases e';exact⟨e,f0,f1,f2,d⟩
theorem Inv.unpinned{dh pl:List (Ac×Obj)}{σ:St}{H:Hp}{s:Ad}(I:Inv X (dh ++ pl) σ H s):Inv X dh σ H s:=I.pins_of fun p z=>I.pin p (AZ _ (C8 _ z))
theorem kE{z:Bc}{Z:List BP}{wi:TI}{g:TG}{tb:TS}{pos:Pos}(hp:PassesOwn (model X.prog X.w) X.A X.env X.xe)(hc:X.calm=true)(hi:PI X tg z wi)(hg:PG X tg g)(B:PSs X Z tb)
  (hs:∀ x,foldedSetIterable z X.env x=pure x:=by intro _;rfl):PS X (.For tg z Z [] pos) (aK2 wi g tb):=by
 constructor;intro dh s σ H D I h;refine wpAny_For (thn (hi dh s σ H _ I h) fun v s1 h1=>thn h1 fun aN s2 h2=>?_) hs;obtain⟨it,fp,tn,J,H2,e,I2,T,st2,f2,W,⟨m0,w0⟩,turn⟩:=h2;subst e;have O:∀{H':Hp},(∀ b∈fp,H' b=none)→∀ b∈fp,m5 X dh H' b:=fun hn b B=>⟨hn b B,(f2 b B).2⟩
 refine codeAny_forLoop_any (fun n s'=>∃ i σ' H',Inv X dh σ' H' s'∧tn i s'.heap∧(∀ b∈fp,H' b=none)∧W i n σ' H') ?_ m0 ⟨0,σ,H2,I2,st2,fun b B=>(f2 b B).1,w0⟩;rintro n s3 ⟨i,σ3,H3,I3,ad,ae,w3⟩;rcases turn i n σ3 H3 w3 with⟨stop,qn⟩ | ⟨go,N,hN,step⟩
 ·refine C4 hp (thn (T.done X rfl rfl rfl hc i dh s3 σ3 H3 X.xe I3 (O ae) ad stop) fun r s4 ⟨hr,I4⟩=>?_);subst hr;exact Dy ⟨σ3,H3,I4,qn⟩
 ·refine C4 hp (thn (T.item X rfl rfl rfl hc i dh s3 σ3 H3 X.xe I3 (O ae) ad go) fun r s4 ⟨u,hr,h4⟩=>?_);subst hr;refine C4 hp (thn h4 fun _ s5 ⟨x,H5,I5,r5,y5,aa,ak⟩=>?_);have am:=I5.pinned (O ak) (T.obj _ _ aa);refine C4 hp (thn (hg _ s5 σ3 H5 x u _ am r5 (step x H5 y5)) fun _ s6 ⟨σ6,H6,I6,q6⟩=>?_);refine C4 hp (thn (B _ s6 σ6 H6 _ I6 q6) fun f s7 Y=>?_);have again:∀{F:St} {U:Hp},Inv X (dh ++ oX fp s5.heap) F U s7→N F U→∃ m,m < n∧∃ i σ' H',Inv X dh σ' H' s7∧tn i s7.heap∧(∀ b∈fp,H' b=none)∧W i m σ' H':=fun{F U} I7 n7=>by
   obtain⟨m',hm,w7⟩:=hN F U n7;refine⟨m',hm,i + 1,F,U,I7.unpinned,T.keep _ _ _ aa fun b B o e=>(I7.pin (b,o) (AZ _ (AZ _ (l7 B e)))).1,fun b B=>?_,w7⟩;obtain⟨o,e,d⟩:=T.obj _ _ aa b B;exact(I7.pin (b,o) (AZ _ (AZ _ (l7 B e)))).2.1
  cases f with
  | next=>obtain⟨F,U,I7,n7⟩:=Y;exact again I7 n7
  | cont=>obtain⟨F,U,I7,n7⟩:=Y;exact again I7 n7
  | brk=>obtain⟨F,U,I7,Y⟩:=Y;exact⟨F,U,I7.unpinned,Y⟩
  | ret v=>obtain⟨x7,F,U,I7,r7,Y⟩:=Y;exact⟨x7,F,U,I7.unpinned,r7,Y⟩
end
theorem aAz{K:Ah}{a:Ac}{xs:List V}{g:TG}{tb:TS}{D:oU}{σ:St}{H:Hp}(z:Nat→St→Hp→Prop)(h0:z 0 σ H)(Y:∀ i σ H,i≤xs.length→z i σ H→SqL K H a xs)
  (Z:∀ i x σ H,xs[i]?=some x→z i σ H→g x σ H fun F H2=>tb { D with nx:=z (i + 1),ct:=z (i + 1),bk:=D.nx } F H2) (hd:∀ σ H,z xs.length σ H→D.nx σ H):
  ∃ W:Nat→Nat→St→Hp→Prop,(∃ m,W 0 m σ H)∧∀ i m σ H,W i m σ H→
   ((Itl K a).stop i H∧D.nx σ H)∨((Itl K a).go i H∧∃ N:St→Hp→Prop,(∀ J H',N J H'→∃ O,O < m∧W (i + 1) O J H')∧∀ x H',(Itl K a).yld i H x H'→g x σ H' fun F H2=>tb { D with nx:=N,ct:=N,bk:=D.nx } F H2):=by
 refine⟨fun i m σ H=>m=xs.length - i∧i≤xs.length∧z i σ H,⟨xs.length,by simp,Bu _,h0⟩,?_⟩;rintro i m σ H ⟨rfl,hi,p⟩;have q:=Y i σ H hi p;by_cases B:i < xs.length
 ·refine .inr ⟨⟨xs,xs[i],q,by simp[B]⟩,z (i + 1),fun J H' U=>⟨xs.length - (i + 1),by omega,rfl,B,U⟩,fun x H' y=>?_⟩;obtain⟨e,y⟩:=y;subst e;exact Z i x σ _ (y xs q) p
 ·have e:i=xs.length:=by omega
  subst e;exact .inl ⟨⟨xs,q,Ap _⟩,hd σ H p⟩
theorem aCP{K:Ah}{a:Ac}{xs:List V}{g:TG}{tb:TS}{D:oU}{σ:St}{H:Hp}(z:Nat→St→Hp→Prop)(h0:z 0 σ H)(Y:∀ i σ H,i≤xs.length→z i σ H→SqT K H a xs)
  (Z:∀ i x σ H,xs[i]?=some x→z i σ H→g x σ H fun F H2=>tb { D with nx:=z (i + 1),ct:=z (i + 1),bk:=D.nx } F H2) (hd:∀ σ H,z xs.length σ H→D.nx σ H):
  ∃ W:Nat→Nat→St→Hp→Prop,(∃ m,W 0 m σ H)∧∀ i m σ H,W i m σ H→
   ((Itt K a).stop i H∧D.nx σ H)∨((Itt K a).go i H∧∃ N:St→Hp→Prop,(∀ J H',N J H'→∃ O,O < m∧W (i + 1) O J H')∧∀ x H',(Itt K a).yld i H x H'→g x σ H' fun F H2=>tb { D with nx:=N,ct:=N,bk:=D.nx } F H2):=by
 refine⟨fun i m σ H=>m=xs.length - i∧i≤xs.length∧z i σ H,⟨xs.length,by simp,Bu _,h0⟩,?_⟩;rintro i m σ H ⟨rfl,hi,p⟩;have q:=Y i σ H hi p;by_cases B:i < xs.length
 ·refine .inr ⟨⟨xs,xs[i],q,by simp[B]⟩,z (i + 1),fun J H' U=>⟨xs.length - (i + 1),by omega,rfl,B,U⟩,fun x H' y=>?_⟩;obtain⟨e,y⟩:=y;subst e;exact Z i x σ _ (y xs q) p
 ·have e:i=xs.length:=by omega
  subst e;exact .inl ⟨⟨xs,q,Ap _⟩,hd σ H p⟩
theorem jF{lo:Int}{n:Nat}{g:TG}{tb:TS}{D:oU}{σ:St}{H:Hp}(B:Nat→St→Hp→Prop)(Z:B 0 σ H)
  (Y:∀ i σ H,i < n→B i σ H→g (.int (lo + i)) σ H fun F H2=>tb { D with nx:=B (i + 1),ct:=B (i + 1),bk:=D.nx } F H2) (hd:∀ σ H,B n σ H→D.nx σ H):
  ∃ W:Nat→Nat→St→Hp→Prop,(∃ m,W 0 m σ H)∧∀ i m σ H,W i m σ H→
   ((Itr lo n).stop i H∧D.nx σ H)∨((Itr lo n).go i H∧∃ N:St→Hp→Prop,(∀ J H',N J H'→∃ O,O < m∧W (i + 1) O J H')∧∀ x H',(Itr lo n).yld i H x H'→g x σ H' fun F H2=>tb { D with nx:=N,ct:=N,bk:=D.nx } F H2):=by
 refine⟨fun i m σ H=>m=n - i∧i≤n∧B i σ H,⟨n,by simp,Bu _,Z⟩,?_⟩;rintro i m σ H ⟨rfl,hi,p⟩;by_cases z:i < n
 ·refine .inr ⟨z,B (i + 1),fun J H' U=>⟨n - (i + 1),by omega,rfl,z,U⟩,fun x H' y=>?_⟩;obtain⟨e,y⟩:=y;subst e y;exact Y i σ _ z p
 ·have e:i=n:=by omega
  subst e;exact .inl ⟨Ap _,hd σ H p⟩
abbrev R2:=V→V→Hp→VK→Prop
def OpR(X:Cx)(f:Ab→Ab→Sem Ab)(r:R2):Prop:=
 ∀(dh:List (Ac×Obj)) (s:Ad) (σ:St) (H:Hp) (x y:V) (v u:Ab) (Q:VK),Inv X dh σ H s→dA x v→dA y u→r x y H Q→
  wpAny (model X.prog X.w) X.A (f v u) (EP X dh σ Q) X.xe s
def UnR(X:Cx)(f:Ab→Sem Ab)(r:V→Hp→VK→Prop):Prop:=
 ∀(dh:List (Ac×Obj)) (s:Ad) (σ:St) (H:Hp) (x:V) (v:Ab) (Q:VK),Inv X dh σ H s→dA x v→r x H Q→
  wpAny (model X.prog X.w) X.A (f v) (EP X dh σ Q) X.xe s
def gH(X:Cx)(f:Ab)(r:List V→Hp→VK→Prop):Prop:=
 ∀(dh:List (Ac×Obj)) (s:Ad) (σ:St) (H:Hp) (xs:List V) (us:List Ab) (Q:VK),Inv X dh σ H s→cZ xs us→r xs H Q→
  wpAny (model X.prog X.w) X.A (call f us) (EP X dh σ Q) X.xe s
def tOp(r:R2)(ta tb:TE):TE:=fun σ H Q=>ta σ H fun x H1=>tb σ H1 fun y H2=>r x y H2 Q
def tUn(r:V→Hp→VK→Prop)(ta:TE):TE:=fun σ H Q=>ta σ H fun x H1=>r x H1 Q
inductive aKc(C:Int→Int→Prop)(g:Int→Int→V)(x:V)(y:V)(H:Hp)(Q:VK):Prop
 | mk (i:_) (j:_) (q0:x=.int i) (q1:y=.int j) (q2:C i j) (q3:Q (g i j) H):aKc C g x y H Q
def rI(C:Int→Int→Prop)(g:Int→Int→V):R2:=fun x y H Q=>aKc C g x y H Q
inductive aIg(g:Int→Int→V)(x:V)(y:V)(H:Hp)(Q:VK):Prop
 | mk (i:_) (j:_) (q0:x=.int i) (q1:y=.int j) (q2:Q (g i j) H):aIg g x y H Q
def rI0(g:Int→Int→V):R2:=fun x y H Q=>aIg g x y H Q
inductive aKd(g:Int→V)(x:V)(H:Hp)(Q:VK):Prop
 | mk (i:_) (q0:x=.int i) (q1:Q (g i) H):aKd g x H Q
def rU(g:Int→V):V→Hp→VK→Prop:=fun x H Q=>aKd g x H Q
section
variable{X:Cx}{a b c:Bc}{ta tb tc:TE}{pos:Pos}
theorem aIZ(ha:PE X a ta)(Y:PE X b tb){dh:List (Ac×Obj)}{s:Ad}{σ:St}{H:Hp}{R:V→V→Hp→Prop}(I:Inv X dh σ H s)
  (h:ta σ H fun x H1=>tb σ H1 fun y H2=>R x y H2) {Q:Ab→Ad→Prop} {f:Ab→Ab→Sem Ab}
  (F:∀ v u z x y H2,Inv X dh σ H2 z→dA x v→dA y u→R x y H2→wpAny (model X.prog X.w) X.A (f v u) Q X.xe z):
  wpAny (model X.prog X.w) X.A (eval a X.env) (fun v O=>wpAny (model X.prog X.w) X.A (eval b X.env) (fun u s₂=>wpAny (model X.prog X.w) X.A (f v u) Q X.xe s₂) X.xe O) X.xe s:=by
 refine thn (ha dh s σ H _ I h) fun v s1 ⟨x,H1,I1,J,W⟩=>?_;refine thn (Y dh s1 σ H1 _ I1 W) fun u z ⟨y,H2,Z,B,U⟩=>?_;exact F v u z x y H2 Z J B U
theorem cA{z:Operator}{r:R2}(F:OpR X (binaryOp z) r)(ha:PE X a ta)(B:PE X b tb):PE X (.BinOp a z b pos) (tOp r ta tb):=by
 constructor;intro dh s σ H Q I h;exact wpAny_BinOp (aIZ ha B I h fun v u U x y H2 J O W q=>F dh U σ H2 x y v u Q J O W q)
theorem aKe{z:UnaryOp}{r:V→Hp→VK→Prop}(U:UnR X (unaryOp z) r)(ha:PE X a ta):PE X (.UnaryOp z a pos) (tUn r ta):=by
 constructor;intro dh s σ H Q I h;exact UnaryOp_ (thn (ha dh s σ H _ I h) fun v O ⟨x,H1,J,F,B⟩=>U dh O σ H1 x v Q J F B)
theorem opI{f:Ab→Ab→Sem Ab}{C:Int→Int→Prop}{g:Int→Int→Int}
  (z:∀(i j:Int) (t u:Tok) (s:Ad) (Q:Ab→Ad→Prop) (E:Ab→Ad→Prop),C i j→Q (.int (g i j) s.toks) { s with toks:=s.toks + 1 }→wpAny (model X.prog X.w) X.A (f (.int i t) (.int j u)) Q E s):
  OpR X f (rI C fun i j=>.int (g i j)):=by
 intro dh s σ H x y v u Q I B F h;obtain⟨i,j,rfl,rfl,hc,q⟩:=h;obtain⟨t,rfl⟩:=B;obtain⟨t',rfl⟩:=F;exact z i j t t' s _ _ hc ⟨.int (g i j),H,I.tok _,⟨_,rfl⟩,q⟩
theorem aKf{f:Ab→Ab→Sem Ab}{g:Int→Int→Int}
  (z:∀(i j:Int) (t u:Tok) (s:Ad) (Q:Ab→Ad→Prop) (E:Ab→Ad→Prop),Q (.int (g i j) s.toks) { s with toks:=s.toks + 1 }→wpAny (model X.prog X.w) X.A (f (.int i t) (.int j u)) Q E s):
  OpR X f (rI0 fun i j=>.int (g i j)):=by
 intro dh s σ H x y v u Q I B F h;obtain⟨i,j,rfl,rfl,q⟩:=h;obtain⟨t,rfl⟩:=B;obtain⟨t',rfl⟩:=F;exact z i j t t' s _ _ ⟨.int (g i j),H,I.tok _,⟨_,rfl⟩,q⟩
theorem aHd{f:Ab→Ab→Sem Ab}{g:Int→Int→Bool}
  (z:∀(i j:Int) (t u:Tok) (s:Ad) (Q:Ab→Ad→Prop) (E:Ab→Ad→Prop),Q (.bool (g i j)) s→wpAny (model X.prog X.w) X.A (f (.int i t) (.int j u)) Q E s):
  OpR X f (rI0 fun i j=>.bl (g i j)):=by
 intro dh s σ H x y v u Q I B F h;obtain⟨i,j,rfl,rfl,q⟩:=h;obtain⟨t,rfl⟩:=B;obtain⟨t',rfl⟩:=F;exact z i j t t' s _ _ ⟨.bl (g i j),H,I,rfl,q⟩
def aK3(i j:Int):Prop:=0 < j∧j < 1073741824
def aI0(i j:Int):Prop:=0≤j∧j≤1000000∧i.natAbs < 2 ^ 64
def aI1(i j:Int):Prop:=(-(2 ^ 64) < i∧i < 2 ^ 64)∨(-(2 ^ 64) < j∧j < 2 ^ 64)
theorem aI1.ok{i j:Int}(h:aI1 i j):IntMulOk i j:=by
 rcases h with⟨h1,h2⟩ | ⟨h1,h2⟩
 ·exact .of_left (intBits_le_64 h1 h2)
 ·exact .of_right (intBits_le_64 h1 h2)
theorem eM:OpR X (binaryOp .Add) (rI0 fun i j=>.int (i + j)):=aKf fun _ _ _ _ _ _ _ q=>add_int q
theorem kG:OpR X (binaryOp .Sub) (rI0 fun i j=>.int (i - j)):=aKf fun _ _ _ _ _ _ _ q=>sub_int q
theorem l9:OpR X (binaryOp .Mult) (rI aI1 fun i j=>.int (i * j)):=opI fun _ _ _ _ _ _ _ hc q=>mul_int q hc.ok
theorem aCQ:OpR X (binaryOp .FloorDiv) (rI aK3 fun i j=>.int (i / j)):=opI fun i j _ _ _ _ _ hc q=>by
 have h1:(0:Int) < j:=hc.1;have h2:j < 1073741824:=hc.2;exact floordiv_int (by omega) (by rw[Int.fdiv_eq_ediv_of_nonneg i (by omega)];exact q) (.inl (PyProof.noPylong_small (by omega)))
theorem gY:OpR X (binaryOp .Mod) (rI (fun _ j=>0 < j) fun i j=>.int (i % j)):=opI fun i j _ _ _ _ _ hc q=>by
 have h1:(0:Int) < j:=hc;exact mod_int' (by omega) (by rw[Int.fmod_eq_emod_of_nonneg i (by omega)];exact q)
theorem kH:OpR X (binaryOp .Pow) (rI aI0 fun i j=>.int (i ^ j.toNat)):=opI fun _ _ _ _ _ _ _ hc q=>pow_int_small hc.1 hc.2.1 hc.2.2 q
theorem unI{f:Ab→Sem Ab}{g:Int→Int}
  (z:∀(i:Int) (t:Tok) (s:Ad) (Q:Ab→Ad→Prop) (E:Ab→Ad→Prop),Q (.int (g i) s.toks) { s with toks:=s.toks + 1 }→wpAny (model X.prog X.w) X.A (f (.int i t)) Q E s):
  UnR X f (rU fun i=>.int (g i)):=by
 intro dh s σ H x v Q I B h;obtain⟨i,rfl,q⟩:=h;obtain⟨t,rfl⟩:=B;exact z i t s _ _ ⟨.int (g i),H,I.tok _,⟨_,rfl⟩,q⟩
theorem aI2:UnR X (unaryOp .USub) (rU fun i=>.int (-i)):=unI fun _ _ _ _ _ q=>neg_int q
end
def aI3:V→V→Bool
 | .non,.non=>true | .non,.int _=>true | .int _,.non=>true | .non,.bl _=>true | .bl _,.non=>true | .non,.str _=>true | .str _,.non=>true
 | .int _,.int _=>true | .bl _,.bl _=>true | .str _,.str _=>true | .byt _,.byt _=>true
 | .int _,.str _=>true | .str _,.int _=>true | .bl _,.str _=>true | .str _,.bl _=>true
 | _,_=>false
def rEq:R2:=fun x y H Q=>aI3 x y=true∧Q (.bl (decide (x=y))) H
def rNe:R2:=fun x y H Q=>aI3 x y=true∧Q (.bl (!decide (x=y))) H
theorem aCR{i j:Int}:decide (V.int i=V.int j)=(i == j):=by
 rw[BQ];simp
theorem aET{i j:Bool}:decide (V.bl i=V.bl j)=(i == j):=by
 rw[BQ];simp
theorem aCS{i j:Str}:decide (V.str i=V.str j)=(i == j):=by
 rw[BQ];simp
theorem aCT{i j:Array UInt8}:decide (V.byt i=V.byt j)=(i.toList == j.toList):=by
 rw[BQ];cases i;cases j;simp
section
variable{X:Cx}{a b c:Bc}{ta tb tc:TE}{pos:Pos}
theorem dL{dh:List (Ac×Obj)}{σ:St}{H:Hp}{s:Ad}{Q:VK}{k z:Bool}(I:Inv X dh σ H s)(q:Q (.bl k) H)(e:k=z):EP X dh σ Q (.bool z) s:=by
 subst e;exact⟨.bl k,H,I,rfl,q⟩
theorem dU:OpR X (compareOp .Eq) rEq:=by
 intro dh s σ H x y v u Q I B z h;obtain⟨hs,q⟩:=h;cases x with
 | non=>
  cases B;cases y with
  | non=>cases z;exact PySem.EqNone.eq_none_none (dL I q (by simp))
  | bl j=>cases z;exact PySem.EqNone.eq_none_bool (dL I q (by simp))
  | int j=>obtain⟨t',rfl⟩:=z;exact PySem.EqNone.eq_none_int (dL I q (by simp))
  | str j=>obtain⟨t',rfl⟩:=z;exact PySem.EqNone.eq_none_str (dL I q (by simp))
  | _=>exact absurd (show false=true from hs) AD
 | bl i=>
  cases B;cases y with
  | non=>cases z;exact PySem.EqNone.eq_bool_none (dL I q (by simp))
  | bl j=>cases z;exact eq_bool (dL I q aET)
  | str j=>obtain⟨t',rfl⟩:=z;exact PySem.EqMixed.eq_bool_str (dL I q (by simp))
  | _=>exact absurd (show false=true from hs) AD
 | int i=>
  obtain⟨t,rfl⟩:=B;cases y with
  | non=>cases z;exact PySem.EqNone.eq_int_none (dL I q (by simp))
  | int j=>obtain⟨t',rfl⟩:=z;exact eq_int (dL I q aCR)
  | str j=>obtain⟨t',rfl⟩:=z;exact PySem.EqMixed.eq_int_str (dL I q (by simp))
  | _=>exact absurd (show false=true from hs) AD
 | str i=>
  obtain⟨t,rfl⟩:=B;cases y with
  | non=>cases z;exact PySem.EqNone.eq_str_none (dL I q (by simp))
  | bl j=>cases z;exact PySem.EqMixed.eq_str_bool (dL I q (by simp))
  | int j=>obtain⟨t',rfl⟩:=z;exact PySem.EqMixed.eq_str_int (dL I q (by simp))
  | str j=>obtain⟨t',rfl⟩:=z;exact eq_str (dL I q aCS)
  | _=>exact absurd (show false=true from hs) AD
 | byt i=>
  obtain⟨t,rfl⟩:=B;cases y with
  | byt j=>obtain⟨t',rfl⟩:=z;exact PySem.W.eq_bytes (dL I q aCT)
  | _=>exact absurd (show false=true from hs) AD
 | _=>cases y <;> exact absurd (show false=true from hs) AD
theorem rK:OpR X (compareOp .NotEq) rNe:=by
 intro dh s σ H x y v u Q I B z h;obtain⟨hs,q⟩:=h;cases x with
 | non=>
  cases B;cases y with
  | non=>cases z;exact PySem.EqNone.ne_none_none (dL I q (by simp))
  | bl j=>cases z;exact PySem.EqNone.ne_none_bool (dL I q (by simp))
  | int j=>obtain⟨t',rfl⟩:=z;exact PySem.EqNone.ne_none_int (dL I q (by simp))
  | str j=>obtain⟨t',rfl⟩:=z;exact PySem.EqNone.ne_none_str (dL I q (by simp))
  | _=>exact absurd (show false=true from hs) AD
 | bl i=>
  cases B;cases y with
  | non=>cases z;exact PySem.EqNone.ne_bool_none (dL I q (by simp))
  | bl j=>cases z;exact ne_bool (dL I q (congrArg not aET))
  | str j=>obtain⟨t',rfl⟩:=z;exact PySem.EqMixed.ne_bool_str (dL I q (by simp))
  | _=>exact absurd (show false=true from hs) AD
 | int i=>
  obtain⟨t,rfl⟩:=B;cases y with
  | non=>cases z;exact PySem.EqNone.ne_int_none (dL I q (by simp))
  | int j=>obtain⟨t',rfl⟩:=z;exact ne_int (dL I q (congrArg not aCR))
  | str j=>obtain⟨t',rfl⟩:=z;exact PySem.EqMixed.ne_int_str (dL I q (by simp))
  | _=>exact absurd (show false=true from hs) AD
 | str i=>
  obtain⟨t,rfl⟩:=B;cases y with
  | non=>cases z;exact PySem.EqNone.ne_str_none (dL I q (by simp))
  | bl j=>cases z;exact PySem.EqMixed.ne_str_bool (dL I q (by simp))
  | int j=>obtain⟨t',rfl⟩:=z;exact PySem.EqMixed.ne_str_int (dL I q (by simp))
  | str j=>obtain⟨t',rfl⟩:=z;exact ne_str (dL I q (congrArg not aCS))
  | _=>exact absurd (show false=true from hs) AD
 | byt i=>
  obtain⟨t,rfl⟩:=B;cases y with
  | byt j=>obtain⟨t',rfl⟩:=z;exact PySem.W.ne_bytes (dL I q (congrArg not aCT))
  | _=>exact absurd (show false=true from hs) AD
 | _=>cases y <;> exact absurd (show false=true from hs) AD
theorem aEU:OpR X (compareOp .Lt) (rI0 fun i j=>.bl (decide (i < j))):=aHd fun _ _ _ _ _ _ _ q=>lt_int q
theorem rL:OpR X (compareOp .LtE) (rI0 fun i j=>.bl (decide (i≤j))):=aHd fun _ _ _ _ _ _ _ q=>le_int q
theorem aIh:OpR X (compareOp .Gt) (rI0 fun i j=>.bl (decide (j < i))):=aHd fun _ _ _ _ _ _ _ q=>gt_int q
theorem aIi:OpR X (compareOp .GtE) (rI0 fun i j=>.bl (decide (j≤i))):=aHd fun _ _ _ _ _ _ _ q=>ge_int q
theorem aHe:OpR X (compareOp .IsNot) (fun x y H Q=>y=.non∧Q (.bl (!decide (x=.non))) H):=by
 intro dh s σ H x y v u Q I z B h;obtain⟨rfl,q⟩:=h;cases B;refine isnot_none_gen (dL I q ?_);cases x <;> first
  | (cases z;rfl)
  | (obtain⟨t,rfl⟩:=z;rfl)
theorem cF(b:Bc){z:Ga}(h:z≠.In:=by decide)(h2:z≠.NotIn:=by decide):behindInMarks z b=false:=by
 have B:(z == CmpOp.In)=false:=by cases z <;> first | rfl | exact absurd rfl h
 have F:(z == CmpOp.NotIn)=false:=by cases z <;> first | rfl | exact absurd rfl h2
 cases b <;> simp[behindInMarks,B,F]
theorem eV{z:Ga}{r:R2}(F:OpR X (compareOp z) r)(ha:PE X a ta)(B:PE X b tb)(hm:behindInMarks z b=false):PE X (.Compare a [z] [b] pos) (tOp r ta tb):=by
 constructor;intro dh s σ H Q I h;exact wpAny_Compare1 (aIZ ha B I h fun v u U x y H2 J O W q=>F dh U σ H2 x y v u Q J O W q) hm
def aIj(t:TE):TT:=fun σ H Q=>t σ H fun x H'=>As V.bl x fun k=>Q k H'
theorem bX{B:Ga}{r:R2}(ho:OpR X (compareOp B) r)(ha:PE X a ta)(Z:PE X b tb)(hm:behindInMarks B b=false):PT X (.Compare a [B] [b] pos) (aIj (tOp r ta tb)):=by
 constructor;intro dh s σ H Q I h;refine wpAny_isTrue_Compare1 (thn (ha dh s σ H _ I h) fun v s1 ⟨x,H1,I1,O,W⟩=>thn (Z dh s1 σ H1 _ I1 W) fun u s2 ⟨y,H2,I2,F,U⟩=>
  thn (ho dh s2 σ H2 x y v u _ I2 O F U) fun c s3 ⟨z,Y,I3,r3,k,e,J⟩=>?_) hm
 subst e;cases r3;exact B9 ⟨Y,I3,J⟩
def aEV(r r':R2)(ta tb tc:TE):TE:=fun σ H Q=>ta σ H fun x H1=>tb σ H1 fun y H2=>r x y H2 fun z H3=>As V.bl z fun k=>
 (if k=true then tc σ H3 fun w' H4=>r' y w' H4 Q else Q (.bl false) H3)
theorem tW{F B:Ga}{r Z:R2}(ho:OpR X (compareOp F) r)(J:OpR X (compareOp B) Z)(ha:PE X a ta)(hb:PE X b tb)(hc:PE X c tc)
  (hm:lastMarks [F,B] [b,c]=false:=by with_unfolding_all rfl):PE X (.Compare a [F,B] [b,c] pos) (aEV r Z ta tb tc):=by
 constructor;intro dh s σ H Q I h;refine Compare_chain (thn (ha dh s σ H _ I h) fun v s1 ⟨x,H1,I1,r1,q1⟩=>chain_link (thn (hb dh s1 σ H1 _ I1 q1) fun u s2 ⟨y,H2,I2,O,q2⟩=>
  thn (ho dh s2 σ H2 x y v u _ I2 r1 O q2) fun d s3 ⟨z,W,Y,r3,k,e,U⟩=>?_)) hm
 subst e;cases r3;refine B9 ?_;cases k with
 | false=>exact ite_ff ⟨.bl false,W,Y,rfl,U⟩
 | true=>exact ite_tt (chain_last (thn (hc dh s3 σ W _ Y U) fun w' s4 ⟨z',H4,I4,r4,q4⟩=>J dh s4 σ H4 y z' u w' Q I4 O r4 q4))
theorem aAA{F B:Ga}{r Z:R2}(ho:OpR X (compareOp F) r)(J:OpR X (compareOp B) Z)(ha:PE X a ta)(hb:PE X b tb)(hc:PE X c tc)
  (hm:lastMarks [F,B] [b,c]=false:=by with_unfolding_all rfl):PT X (.Compare a [F,B] [b,c] pos) (aIj (aEV r Z ta tb tc)):=by
 constructor;intro dh s σ H Q I h;refine isTrue_chain (thn (ha dh s σ H _ I h) fun v s1 ⟨x,H1,I1,r1,q1⟩=>test_link (thn (hb dh s1 σ H1 _ I1 q1) fun u s2 ⟨y,H2,I2,O,q2⟩=>
  thn (ho dh s2 σ H2 x y v u _ I2 r1 O q2) fun d s3 ⟨z,W,Y,r3,k,e,U⟩=>?_)) hm
 subst e;cases r3;refine B9 ?_;cases k with
 | false=>
  obtain⟨k',e',q'⟩:=U;cases e';exact ite_ff ⟨W,Y,q'⟩
 | true=>
  refine ite_tt (test_last (thn (hc dh s3 σ W _ Y U) fun w' s4 ⟨z',H4,I4,r4,q4⟩=>thn (J dh s4 σ H4 y z' u w' _ I4 O r4 q4) fun d' s5 ⟨z2,H5,I5,r5,k2,e2,q5⟩=>?_));subst e2;cases r5;exact B9 ⟨H5,I5,q5⟩
theorem qI:(sizeLine:Nat) < 2 ^ 63:=by rw[FX];decide
inductive m9(x:V)(y:V)(H:Hp)(Q:VK):Prop
 | mk (i:_) (j:_) (q0:x=.str i) (q1:y=.str j) (q2:i.length + j.length≤sizeLine) (q3:Q (.str (i ++ j)) H):m9 x y H Q
def zH:V→V→Hp→VK→Prop:=fun x y H Q=>m9 x y H Q
theorem mB:OpR X (binaryOp .Add) zH:=by
 intro dh s σ H x y v u Q I z F h;obtain⟨i,j,rfl,rfl,hz,q⟩:=h;obtain⟨t,rfl⟩:=z;obtain⟨B,rfl⟩:=F;exact add_str (fun B tk=>⟨.str (i ++ j),H,I.tok _,⟨_,rfl⟩,q⟩) hz
theorem gS{x:V}{z:List Ab}(r:cZ [x] z):∃ u,z=[u]∧dA x u:=by
 cases r with
 | cons F B=>cases B;exact⟨_,rfl,F⟩
theorem aEW{x y:V}{z:List Ab}(r:cZ [x,y] z):∃ u B,z=[u,B]∧dA x u∧dA y B:=by
 cases r with
 | cons J F=>
  cases F with
  | cons U O=>cases O;exact⟨_,_,rfl,J,U⟩
inductive pO(xs:List V)(H:Hp)(Q:VK):Prop
 | mk (i:_) (q0:xs=[.int i]) (q1:Q (.int (if i < 0 then -i else i)) H):pO xs H Q
def aBX:List V→Hp→VK→Prop:=fun xs H Q=>pO xs H Q
theorem tX:gH X (.builtin "abs") aBX:=by
 intro dh s σ H xs z Q I r h;obtain⟨i,rfl,q⟩:=h;obtain⟨u,rfl,t,rfl⟩:=gS r;exact call_abs_int fun u tk=>⟨.int (if i < 0 then -i else i),H,I.tok _,⟨_,rfl⟩,q⟩
inductive oI(xs:List V)(H:Hp)(Q:VK):Prop
 | mk (i:_) (j:_) (q0:xs=[.int i,.int j]) (q1:Q (.int (if j < i then j else i)) H):oI xs H Q
def aAB:List V→Hp→VK→Prop:=fun xs H Q=>oI xs H Q
theorem xA(hc:X.calm=true):gH X (.builtin "min") aAB:=by
 intro dh s σ H xs B Q I r h;obtain⟨i,j,rfl,q⟩:=h;obtain⟨u,w',rfl,⟨t,rfl⟩,⟨t',rfl⟩⟩:=aEW r;refine min_two_ints (I.ok.hd hc) fun h' tk k=>⟨_,H,I.kept k,?_,q⟩
 by_cases z:j < i
 ·rw[Ib z,Ib z];exact⟨_,rfl⟩
 ·rw[Ia z,Ia z];exact⟨_,rfl⟩
theorem xB:gH X (.type "int") (fun xs H Q=>(∃ i,xs=[.int i]∧Q (.int i) H)∨∃ k,xs=[.bl k]∧Q (.int (if k then 1 else 0)) H):=by
 intro dh s σ H xs z Q I r h;rcases h with⟨i,rfl,q⟩ | ⟨k,rfl,q⟩
 ·obtain⟨u,rfl,t,rfl⟩:=gS r;exact call_int_int ⟨.int i,H,I,⟨_,rfl⟩,q⟩
 ·obtain⟨u,rfl,r1⟩:=gS r;cases r1;exact call_int_bool ⟨.int (if k then 1 else 0),H,I.tok _,⟨_,rfl⟩,q⟩
end
structure aI4(h:A4)(x dx C:Ac)(mA:Str→Option Ab):Prop where
 obj:h.get? x=some (Fh C dx)
 ns:h.Ns1 dx mA
 ne:dx≠x
theorem aDT{h:A4}{dx:Ac}{mA:Str→Option Ab}(n:h.Ns1 dx mA):∃ od,h.get? dx=some od∧∀ name,Fu name od=some (mA name):=by
 obtain⟨o,es,ep,ho,hd,hk,_,hm⟩:=n;refine⟨o,ho,fun name=>?_⟩;have e:=hm name;unfold nsFind findBy at e;rw[← Array.find?_toList]at e;unfold Fu;rw[hd];dsimp only;split
 ·rename_i y q;rw[q]at e;exact congrArg some e
 ·rename_i q;rw[q]at e;have a:es.toList.any (·.refKey)=false:=by
   rw[List.any_eq_false];intro y F;obtain⟨z,t,hkey⟩:=hk y (Array.mem_toList_iff.mp F);simp[DictEntry.refKey,hkey]
  have B:¬ es.toList.any (·.refKey)=true:=by rw[a];exact AD
  rw[Ia B];exact congrArg some e
theorem aI4.look{h:A4}{x dx C:Ac}{mA:Str→Option Ab}(I:aI4 h x dx C mA):∃ od,PySem.W.InstAt h x (Fh C dx) C (some od)∧∀ name,Fu name od=some (mA name):=
 let ⟨od,ho,hl⟩:=aDT I.ns
 ⟨od,⟨I.obj,rfl,rfl,ho⟩,hl⟩
section
variable{prog:Ay}{w:AS}{A:AN}{E:Ab→Ad→Prop}{s:Ad}{K:Ah}{x dx C f:Ac}{mA:Str→Option Ab}{name:Str}{v:Ab}
end
theorem pM.some_of{v:V}{o:Option Ab}(r:pM (some v) o):∃ u,o=some u∧dA v u:=by
 cases o with
 | none=>exact(show False from r).elim
 | some u=>exact⟨u,rfl,r⟩
section
variable{P:Ay}{w:AS}{H H':Hp}{h h':A4}{a C dx:Ac}{fs gj:List (Str×V)}
theorem aCU(hok:HOk P w H h)(e:H a=some (.ins C dx fs)):∃ mA,aI4 h a dx C mA∧(∀ f,pM (fs.lookup f) (mA f))∧PySem.Within mA (fs.map (·.1))∧fs.length≤1000∧H dx=some (.own a):=by
 obtain⟨d,z,ne,ob,mA,n,r,q⟩:=(show c5 P w H h a (.ins C dx fs) from hok a _ e)
 exact⟨mA,⟨ob,n,ne⟩,r,q,z,d⟩
end
structure Cls(K:Ah)(C:Ac):Prop where
 pg:PySem.W.plainGet K C Str.empty=true
 hd:PySem.W.hasDictIn K C=true
 po:PySem.W.plainOver K C=true
 sa:CF K (.ref C) "__setattr__"=some (some (.builtin "object.__setattr__"))
theorem Cls.get{K:Ah}{C:Ac}(c:Cls K C)(f:Str):PySem.W.plainGet K C f=true:=c.pg
structure Con(K:Ah)(C:Ac)(f:Str)(v:V)(u:Ab):Prop where
 at_:CF K (.ref C) f=some (some u)
 rel:dA v u
 get:E5 K u "__get__"=some none
 cp:PySem.W.copiedNames.contains f=false
structure aLB(K:Ah)(C:Ac)(m:Str)(f:Ac):Prop where
 at_:CF K (.ref C) m=some (some (.ref f))
 fn:PySem.W.isFn K (.ref f)=true
 kp:Aj K (.ref f)=true
section
variable{X:Cx}{dh:List (Ac×Obj)}{σ:St}{H:Hp}{s:Ad}{a C dx:Ac}{fs:List (Str×V)}{f:Str}{v:V}{A:AN}{E:Ab→Ad→Prop}
end
section
variable{X:Cx}{o e value:Bc}{f:Str}{pos fo tpos:Pos}{ta tv:TE}
end
section
variable{X:Cx}{dh:List (Ac×Obj)}{σ:St}{H:Hp}{s:Ad}{A:AN}{E:Ab→Ad→Prop}{Q:Ab→Ad→Prop}{c:Ab}{b:Bool}
inductive kX(K:Ah)(H:Hp):V→Ab→Prop where
 | non:kX K H .non (.type "NoneType")
 | bl (x:Bool):kX K H (.bl x) (.type "bool")
 | int (i:Int):kX K H (.int i) (.type "int")
 | str (x:Str):kX K H (.str x) (.type "str")
 | flt (x:UInt64):kX K H (.flt x) (.type "float")
 | lst {a:Ac} {xs:List V} (e:H a=some (.lst xs)):kX K H (.ref a) (.type "list")
 | frz {a:Ac} {o:Obj} {xs:List V} (e:H a=some (.frz o (.lst xs))):kX K H (.ref a) (.type "list")
 | tup {a:Ac} {xs:List V} (e:H a=some (.tup xs)):kX K H (.ref a) (.type "tuple")
 | dK {a:Ac} {di:List (Key×V)} (e:H a=some (.dK di)):kX K H (.ref a) (.type "dict")
 | dT {a:Ac} {di:List (List Key×V)} (e:H a=some (.dT di)):kX K H (.ref a) (.type "dict")
 | ins {a C dx:Ac} {fs:List (Str×V)} (e:H a=some (.ins C dx fs)) (cl:Cls K C) (ha:CF K (.ref C) "__class__"=some (some (.builtin "object.__class__")))
   (hn:E5 K (.builtin "object.__class__") "__get__"=some (some (.builtin "getset_descriptor.__get__"))) (htk:PySem.W.takesIn K (.builtin "object.__class__")=some true)
   (hm:FI K C (.type "object")=some true):kX K H (.ref a) (.ref C)
theorem aDU{x:V}{u t:Ab}(I:Inv X dh σ H s)(F:dA x u)(ty:kX X.K H x t)(e:Bt X.K t c=some b)(h:∀ tk,Q (.bool b) { s with toks:=tk }):
  wpAny (model X.prog X.w) A (call (.builtin "isinstance") [u,c]) Q E s:=by
 cases ty with
 | non=>cases(show u=B4 from F);exact BX PySem.W.kitx_none I.kIn B6 e (fun z=>nomatch z) h
 | bl y=>cases(show u=FH y from F);exact BX PySem.W.kitx_bool I.kIn B6 e (fun z=>nomatch z) h
 | int i=>obtain⟨t,q⟩:=(show∃ t,u=B5 i t from F);cases q;exact BX PySem.W.kitx_int I.kIn B6 e (fun z=>nomatch z) h
 | str y=>obtain⟨t,q⟩:=(show∃ t,u=BA y t from F);cases q;exact BX PySem.W.kitx_str I.kIn B6 e (fun z=>nomatch z) h
 | flt y=>obtain⟨t,q⟩:=(show∃ t,u=F9 y t from F);cases q;exact BX PySem.W.kitx_float I.kIn B6 e (fun z=>nomatch z) h
 | @lst a xs B=>
  cases(show u=AJ a from F);obtain⟨_,_,n,_,h1⟩:=(show c5 X.prog X.w H s.heap a (.lst xs) from I.hok a _ B)
  exact BX Ea I.kIn ⟨_,h1,rfl⟩ e (fun z=>nomatch z) h
 | @frz a ob xs B=>
  cases(show u=AJ a from F);obtain⟨_,_,_,n,_,h1⟩:=(show c5 X.prog X.w H s.heap a (.frz ob (.lst xs)) from I.hok a _ B)
  exact BX Ea I.kIn ⟨_,h1,rfl⟩ e (fun z=>nomatch z) h
 | @tup a xs B=>
  cases(show u=AJ a from F);obtain⟨_,_,_,p⟩:=(show c5 X.prog X.w H s.heap a (.tup xs) from I.hok a _ B)
  obtain⟨o,h1,h2,_⟩:=p;exact BX PySem.W.kitx_tuple I.kIn ⟨o,h1,h2.1⟩ e (fun z=>nomatch z) h
 | @dK a di B=>
  cases(show u=AJ a from F);obtain⟨_,_,vs,_,p⟩:=(show c5 X.prog X.w H s.heap a (.dK di) from I.hok a _ B)
  obtain⟨o,es,ep,h1,h2,_⟩:=p;exact BX Eb I.kIn ⟨o,h1,h2.1⟩ e (fun z=>nomatch z) h
 | @dT a di B=>
  cases(show u=AJ a from F);obtain⟨_,_,xs,_,o,es,ep,h1,h2,_⟩:=(show c5 X.prog X.w H s.heap a (.dT di) from I.hok a _ B)
  exact BX Eb I.kIn ⟨o,h1,h2.1⟩ e (fun z=>nomatch z) h
 | @ins a C dx fs B Y ha hn U hm=>
  cases(show u=AJ a from F);obtain⟨mA,O,_⟩:=aCU I.hok B;obtain⟨od,J,_⟩:=O.look;exact BX (PySem.W.kitx_own (Y.get _) Y.hd ha hn U hm) I.kIn J e (fun z=>nomatch z) h
end
structure cY(k:Nat)(A:AN):Prop where
 hd:A.handled=none
 dp:A.depth + 3 * k + 5 < recursionLimit
 un:A.units + 16 * k + 200 < cLine
 gd:A.guards=some []
theorem cY.mono{j k:Nat}{A:AN}(r:cY k A)(h:j≤k):cY j A:=⟨r.hd,by have:=r.dp;omega,by have:=r.un;omega,r.gd⟩
theorem cY.deeper{k:Nat}{A:AN}(r:cY (k + 1) A)(env:Env):cY k (A.deeper env):=
 ⟨r.hd,by have:=r.dp;show A.depth + 1 + 3 * k + 5 < _;omega,by have:=r.un;show A.units + 3 + 16 * k + 200 < _;omega,r.gd⟩
theorem cY.in1{k:Nat}{A:AN}(r:cY (k + 1) A):cY k A.in1:=
 ⟨r.hd,by have:=r.dp;show A.depth + 3 * k + 5 < _;omega,by have:=r.un;show A.units + 1 + 16 * k + 200 < _;omega,r.gd⟩
theorem cY.depth{k:Nat}{A:AN}(r:cY k A):A.depth < recursionLimit:=by have:=r.dp;omega
theorem cY.units{k:Nat}{A:AN}(r:cY k A):A.units + 64 < cLine:=by have:=r.un;omega
theorem cY.units0{k:Nat}{A:AN}(r:cY k A):A.units < cLine:=by have:=r.un;omega
def aEX:TA:=fun _ H Q=>Q [] H
def xC(ta:TE)(tr:TA):TA:=fun σ H Q=>ta σ H fun x H1=>tr σ H1 fun xs H2=>Q (x :: xs) H2
section
variable{X:Cx}{e:Bc}{es:List Bc}{te:TE}{t:TA}{pos:Pos}
theorem aF:PA X [] aEX:=⟨fun _ _ _ _ H Q I h=>Calls.spliced_nil ⟨[],H,I,.nil,h⟩⟩
theorem gR(ha:PE X e te)(Y:PA X es t)(U:starEach (e :: es) X.env=(false,eval e X.env) :: starEach es X.env:=by rfl):PA X (e :: es) (xC te t):=by
 constructor;intro pos dh s σ H Q I h;rw[U];show wpAny _ _ (spliced ((false,eval e X.env) :: backTo pos (starEach es X.env))) _ _ s;refine E8 (thn (ha dh s σ H _ I h) fun u W ⟨x,H1,Z,B,J⟩=>?_);exact thn (Y pos dh W σ H1 _ Z J) fun us s2 ⟨xs,H2,O,z,F⟩=>⟨x :: xs,H2,O,.cons B z,F⟩
def aK4(t:TA):TE:=fun σ H Q=>t σ H fun xs H1=>xs.length≤sizeLine∧∀ p,H1 p=none→Q (.ref p) (upd H1 p (.tup xs))
def aK5(t:TA):TE:=fun σ H Q=>t σ H fun xs H1=>xs.length≤sizeLine∧∀ p,H1 p=none→Q (.ref p) (upd H1 p (.lst xs))
theorem cQ{x1}(h:PA X es t):PE X (.Tuple es x1 pos) (aK4 t):=by
 constructor;intro dh s σ H Q I U;refine wpAny_Tuple_spliced (thn (h pos dh s σ H _ I U) fun O B ⟨xs,H1,F,r,z,q⟩=>⟨by rw[← r.length];exact z,?_⟩);have J:H1 B.heap.objs.size=none:=F.hok.fresh (Ap _);refine⟨.ref B.heap.objs.size,upd H1 B.heap.objs.size (.tup xs),F.laid (t':=B.toks) (fun b u e=>Ai _ e) (Ap _) ?_,rfl,q _ J⟩;exact⟨z,O,r,⟨_,Ax _ rfl,⟨rfl,_,rfl⟩,rfl⟩⟩
theorem dM(h:PA X es t):PE X (.List es pos) (aK5 t):=by
 constructor;intro dh s σ H Q I U;refine wpAny_List_spliced (thn (h pos dh s σ H _ I U) fun O B ⟨xs,H1,F,r,z,q⟩=>⟨by rw[← r.length];exact z,?_⟩);have J:H1 B.heap.objs.size=none:=F.hok.fresh (Ap _);refine⟨.ref B.heap.objs.size,upd H1 B.heap.objs.size (.lst xs),F.laid (t':=B.toks) (fun b u e=>Ai _ e) (Ap _) ?_,rfl,q _ J⟩;exact⟨z,O,0,r,Ax _ rfl⟩
end
abbrev Sp:=List V→Hp→VK→XK→Prop
abbrev CXT:=List Env→Hp→Ad→XK→Ab→Ad→Prop
structure zI(P:Ay)(w:AS)(K:Ah)(mg:Str→Option Ab)(base:A4)(A:AN)(outer:List Env)(s:Ad)(H:Hp):Prop where
 frames:A.frames=some outer
 mod:Mod K mg base
 bs:∀ b o,base.get? b=some o→s.heap.get? b=some o∧H b=none
 bsz:base.objs.size≤s.heap.objs.size
 funs:s.heap.FunFrames base outer
 frf:∀ b∈frs outer,H b=none
 hok:HOk P w H s.heap
 bare:Ek s.gens
inductive aKg(outer:List Env)(P:Ay)(w:AS)(H:Hp)(s:Ad)(Q:VK)(u:Ab)(s':Ad):Prop
 | mk (v:_) (H':_) (q0:s'.os=s.os) (q1:Ek s'.gens) (q2:Un (frs outer) [] H H' s.heap s'.heap) (q3:HOk P w H' s'.heap) (q4:dA v u) (q5:Q v H'):aKg outer P w H s Q u s'
def CE(outer:List Env)(P:Ay)(w:AS)(H:Hp)(s:Ad)(Q:VK)(u:Ab)(s':Ad):Prop:=aKg outer P w H s Q u s'
def CR(CX:CXT)(outer:List Env)(P:Ay)(w:AS)(H:Hp)(s:Ad)(Q:VK)(E:XK)(r:Result)(s':Ad):Prop:=
 match r with
 | .ok (.ret u)=>CE outer P w H s Q u s'
 | .ok _=>False
 | .error e=>CX outer H s E e s'
structure cH(P:Ay)(w:AS)(K:Ah)(mg:Str→Option Ab)(base:A4)(CX:CXT)(k:Nat)(f:Ac)(fd:AE)(ps:List Str)(sp:Sp):Prop where
 len:∀ vs H Q E,sp vs H Q E→vs.length=ps.length
 run:∀(A:AN) (outer:List Env) (s:Ad) (H:Hp) (args:Args) (us:List Ab) (vs:List V) (Q:VK) (E:XK),cY k A→zI P w K mg base A outer s H→FM s fd args (ps.zip us)→cZ vs us→sp vs H Q E→
  codeAny (model P w) A (.call (.ref f) args) (CR CX outer P w H s Q E) s
section
variable{X:Cx}{dh:List (Ac×Obj)}{σ:St}{H:Hp}{s s':Ad}
theorem Inv.env0(I:Inv X dh σ H s):zI X.prog X.w X.K X.mg X.base X.A X.stack s H:=
 ⟨I.ok.frames,I.ok.mod,I.bs,Ba I.ok.bsz I.sz,I.stack,I.stkFree,I.hok,I.bare⟩
theorem Inv.after{Q:VK}{u:Ab}(I:Inv X dh σ H s)(h:CE X.stack X.prog X.w H s Q u s'):EP X dh σ Q u s':=by
 obtain⟨v,H',os,bare,un,hok,r,q⟩:=h;obtain⟨hh,g,d,t,os'⟩:=s';obtain rfl:os'=s.os:=os;exact⟨v,H',I.call (h':=hh) (g':=g) (d':=d) (t':=t) (ch:=[]) un hok bare (fun b z=>absurd z (by simp)),r,q⟩
end
def aIk(sp:Sp)(fy:List V)(E:XK)(t:TA):TE:=fun σ H Q=>t σ H fun vs H1=>sp (vs ++ fy) H1 Q E
def c8(K:Ah)(fd:AE)(ps:List Str)(ds:List Ab):Prop:=
 ∀(s:Ad) (us:List Ab),K.In s.heap→(us ++ ds).length=ps.length→FM s fd ⟨us,[]⟩ (ps.zip (us ++ ds))
theorem c8.all{K:Ah}{fd:AE}{ps:List Str}(h:∀ z:List Ab,z.length=ps.length→bindArgs fd ⟨z,[]⟩=pure (ps.zip z)):c8 K fd ps []:=fun s z _ B=>by
 rw[Cv]at B ⊢;exact .of_eq (h z B)
def qJ(CX:CXT)(X:Cx)(E:XK):Prop:=∀(dh:List (Ac×Obj)) (σ:St) (H:Hp) (s:Ad) (e:Ab) (s':Ad),Inv X dh σ H s→CX X.stack H s E e s'→X.xe e s'
section
variable{X:Cx}{CX:CXT}{k:Nat}{f C:Ac}{fd:AE}{ps:List Str}{sp:Sp}{fy:List V}{ds:List Ab}{E:XK}{x m:Str}{p pos ff:Pos}{e o:Bc}{es:List Bc}{ta:TE}{t:TA}
theorem aEY{dh:List (Ac×Obj)}{σ:St}{H:Hp}{s:Ad}{Q:VK}{z:List Ab}{vs:List V}(F:cH X.prog X.w X.K X.mg X.base CX k f fd ps sp)(Y:cY k X.A)(U:c8 X.K fd ps ds)(hd:cZ fy ds)(O:qJ CX X E)
  (I:Inv X dh σ H s) (r:cZ vs z) (h:sp (vs ++ fy) H Q E):wpAny (model X.prog X.w) X.A (call (.ref f) z) (EP X dh σ Q) X.xe s:=by
 have J:cZ (vs ++ fy) (z ++ ds):=r.append hd;have W:(z ++ ds).length=ps.length:=by rw[← J.length];exact F.len _ _ _ _ h
 refine CM (Cq (F.run X.A X.stack s H ⟨z,[]⟩ (z ++ ds) (vs ++ fy) Q E Y I.env0 (U s z I.kIn W) J h) fun r s' B=>?_);cases r with
 | error e=>exact O dh σ H s e s' I B
 | ok fl=>
  cases fl with
  | ret u=>exact I.after B
  | next=>exact Bz B
  | brk=>exact Bz B
  | cont=>exact Bz B
theorem c6(F:cH X.prog X.w X.K X.mg X.base CX k f fd ps sp)(Z:cY k X.A)(U:Gl X x)(hm:X.mg x=some (.ref f))(O:Aj X.K (.ref f)=true)(Y:c8 X.K fd ps ds)(hd:cZ fy ds)(W:qJ CX X E)
  (ha:PA X (e :: es) t) (z:(x == ("__debug__":Str))=false:=by decide) (he:starEach (e :: es) X.env=(false,eval e X.env) :: starEach es X.env:=by rfl) (B:(backTo pos (starEach es X.env)).any (·.1)=false:=by rfl):
  PE X (.Call (.Name x p) (e :: es) [] pos) (aIk sp fy E t):=by
 constructor;intro dh s σ H Q I h;refine Cf (sV I U hm ?_ z);refine EO (h₀:=X.base) I.ok.mod.kin O (thn (ha pos dh s σ H _ I h) fun us s1 ⟨vs,H1,J,r,q⟩=>⟨J.kIn,?_⟩) he B;exact aEY F Z Y hd W J r q
structure Mk(K:Ah)(C f:Ac):Prop where
 makes:PySem.W.makesIn K C=true
 init:CF K (.ref C) "__init__"=some (some (.ref f))
 fn:PySem.W.isFn K (.ref f)=true
 kp:Aj K (.ref C)=true
end
structure PK(X:Cx)(gf:List Ej)(t:TA):Prop where
 run:
  ∀(pos:Pos) (dh:List (Ac×Obj)) (s:Ad) (σ:St) (H:Hp) (Q:List V→Hp→Prop),Inv X dh σ H s→t σ H Q→wpAny (model X.prog X.w) X.A (evalAll ((backToKw pos (keywordEach gf X.env)).map (·.2))) (AP X dh σ Q) X.xe s
instance{X:Cx}{gf:List Ej}{t:TA}:CoeFun (PK X gf t) (fun _=>
 ∀(pos:Pos) (dh:List (Ac×Obj)) (s:Ad) (σ:St) (H:Hp) (Q:List V→Hp→Prop),Inv X dh σ H s→t σ H Q→wpAny (model X.prog X.w) X.A (evalAll ((backToKw pos (keywordEach gf X.env)).map (·.2))) (AP X dh σ Q) X.xe s):=⟨fun h=>h.run⟩
section
variable{X:Cx}{CX:CXT}{k:Nat}{f C:Ac}{fd:AE}{ps ks:List Str}{sp:Sp}{E:XK}{x m:Str}{p pos ff kpos:Pos}{e o:Bc}{es:List Bc}{gf:List Ej}{te ta:TE}{t tk:TA}{nm:Option Str}
theorem aEZ:PK X [] aEX:=⟨fun _ _ _ _ H Q I h=>wpAny_evalAll_nil ⟨[],H,I,.nil,h⟩⟩
theorem aCV(ha:PE X e te)(W:PK X gf t):PK X (⟨nm,e,kpos⟩ :: gf) (xC te t):=by
 constructor;intro pos dh s σ H Q I h;show wpAny _ _ (evalAll ((do let v ← eval e X.env;standAt pos;pure v) :: (backToKw pos (keywordEach gf X.env)).map (·.2))) _ _ s
 refine wpAny_evalAll_cons (Aa (thn (ha dh s σ H _ I h) fun u U ⟨x,H1,Y,B,J⟩=>Aa (Fo (Af ?_))));exact thn (W pos dh U σ H1 _ Y J) fun Z s2 ⟨xs,H2,O,z,F⟩=>⟨x :: xs,H2,O,.cons B z,F⟩
structure aK6(K:Ah)(fd:AE)(ps ks:List Str)(g:List Ab→List Ab→List Ab)(gV:List V→List V→List V):Prop where
 to:∀(s:Ad) (us ws:List Ab),K.In s.heap→(g us ws).length=ps.length→FM s fd ⟨us,ks.zip ws⟩ (ps.zip (g us ws))
 rel:∀{vs:List V} {us:List Ab} {zs:List V} {ws:List Ab},cZ vs us→cZ zs ws→cZ (gV vs zs) (g us ws)
variable{g:List Ab→List Ab→List Ab}{gV:List V→List V→List V}
end
structure bY(N P:List Str)(sc:CH):Prop where
 kind:sc.kind=.function
 co:sc.isCoroutine=false
 gen:sc.isGenerator=false
 nd:N.Nodup
 pre:N.take P.length=P
 par:∀ x∈P,sc.names.lookup x=some .local∨sc.names.lookup x=some .cell
 nofree:∀ y∈sc.names,y.2≠.free
theorem xE{z:Str→Option DW}{x:Str}:∀{binds:List (Str×Ab)}{m:Str→Option Ab},(∀ v,(x,v) ∉ binds)→bindL z binds m x=m x
 | [],_,_=>rfl
 | (n,v) :: r,m,h=>by
  unfold bindL;rw[xE fun w hw=>h w (AM _ hw)];split
  ·have:x≠n:=by rintro rfl;exact h v AL
   simp[this]
  ·rfl
theorem xF{z:Str→Option DW}{x:Str}:∀{binds:List (Str×Ab)}{m:Str→Option Ab},(∀ v,(x,v) ∉ binds)→bindC z binds m x=m x
 | [],_,_=>rfl
 | (n,v) :: r,m,h=>by
  unfold bindC;rw[xF fun w hw=>h w (AM _ hw)];split
  ·rfl
  ·have:x≠n:=by rintro rfl;exact h v AL
   simp[this]
theorem xG{z:Str→Option DW}{x:Str}{v:Ab}:∀{P:List Str}{vs:List Ab}{i:Nat}{m:Str→Option Ab},P.Nodup→P[i]?=some x→vs[i]?=some v→z x=some .local→
  bindL z (P.zip vs) m x=some v
 | [],_,_,_,_,h,_,_=>by simp at h
 | _ :: _,[],_,_,_,_,h,_=>by simp at h
 | p :: P,w :: vs,0,m,nd,h1,h2,B=>by
  simp at h1 h2;subst h1;subst h2;show bindL z ((p,w) :: P.zip vs) m p=_;unfold bindL;rw[xE fun v F=>(CS.mp nd).1 (Fz F).1,Ib B];simp
 | p :: P,w :: vs,i + 1,m,nd,h1,h2,B=>by
  show bindL z ((p,w) :: P.zip vs) m x=_;unfold bindL;exact xG (i:=i) (CS.mp nd).2 (by simpa using h1) (by simpa using h2) B
theorem xH{z:Str→Option DW}{x:Str}{v:Ab}:∀{P:List Str}{vs:List Ab}{i:Nat}{m:Str→Option Ab},P.Nodup→P[i]?=some x→vs[i]?=some v→z x≠some .local→
  bindC z (P.zip vs) m x=some v
 | [],_,_,_,_,h,_,_=>by simp at h
 | _ :: _,[],_,_,_,_,h,_=>by simp at h
 | p :: P,w :: vs,0,m,nd,h1,h2,B=>by
  simp at h1 h2;subst h1;subst h2;show bindC z ((p,w) :: P.zip vs) m p=_;unfold bindC;rw[xF fun v F=>(CS.mp nd).1 (Fz F).1,Ia B];simp
 | p :: P,w :: vs,i + 1,m,nd,h1,h2,B=>by
  show bindC z ((p,w) :: P.zip vs) m x=_;unfold bindC;exact xH (i:=i) (CS.mp nd).2 (by simpa using h1) (by simpa using h2) B
def start(N:List Str)(vs:List V):St:=vs.map some ++ EK (N.length - vs.length) none
def iZ(CX:CXT)(P:Ay)(w:AS)(K:Ah)(mg:Str→Option Ab)(base:A4)(N:List Str)(qual:Str)(scope:CH)(f:Ac)(cd:Ab)(A:AN)(outer:List Env)(s:Ad)(H:Hp)(E:XK):Cx where
 prog:=P
 w:=w
 K:=K
 mg:=mg
 base:=base
 A:=A.deeper (envOfC qual scope s.heap.objs.size f cd)
 N:=N
 s₀:=s
 H₀:=H
 env:=envOfC qual scope s.heap.objs.size f cd
 outer:=outer
 stack:=envOfC qual scope s.heap.objs.size f cd :: outer
 ex:=[]
 calm:=true
 fn:=fun _=>true
 pn:=[]
 xe:=fun e s'=>wpAny (model P w) (A.deeper (envOfC qual scope s.heap.objs.size f cd)) (leaving (envOfC qual scope s.heap.objs.size f cd) e) (fun _ s''=>CX outer H s E e s'') (fun e' s''=>CX outer H s E e' s'') s'
theorem aAC{z:CH}{n:Nat}{x:Str}(h:z.names.lookup x=some .cell):∃ c,(cellsFrom n z.names []).lookup x=some c:=by
 have q:=PySem.W.cellsFrom_some z.names n [] (.inl h);exact Option.isSome_iff_exists.mp q
theorem aDV{CX:CXT}{P:Ay}{w:AS}{K:Ah}{mg:Str→Option Ab}{base:A4}{N ps:List Str}{qual:Str}{scope:CH}{f:Ac}{cd:Ab}{A:AN}{outer:List Env}{s Y:Ad}{H:Hp}{E:XK}{W:List Ab}{vs:List V}
  (S:bY N ps scope) (hd:A.handled=none) (B:zI P w K mg base A outer s H) (hl:vs.length=ps.length) (r:cZ vs W)
  (x:InCallC s s.heap.objs.size (bindL (envOfC qual scope s.heap.objs.size f cd).kindOf (ps.zip W) fun _=>none) (cellsFrom (s.heap.objs.size + 1) scope.names []) (bindC (envOfC qual scope s.heap.objs.size f cd).kindOf (ps.zip W) fun _=>none) Y):
  Inv (iZ CX P w K mg base N qual scope f cd A outer s H E) [] (start N vs) H Y:=by
 have Z:ps.length≤N.length:=by have:=congrArg Gc S.pre;rw[AX]at this;omega
 obtain⟨h1,tk,rfl,hk⟩:=x.done;have F:∀ b:Ac,b ∉ (iZ CX P w K mg base N qual scope f cd A outer s H E).ex:=fun b z=>absurd (show b∈([]:List Ac) from z) (by simp);refine⟨⟨B.mod,S.kind,rfl,rfl,Ap _,fun y z c h1 h2=>?_,fun y J=>?_,fun y c _ h=>?_,fun _=>hd,Around.frames_deeper B.frames,.inr ⟨rfl,rfl⟩,fun b z=>absurd z (F b),B.bs,B.bsz,fun b _ _=>F b,fun b z=>absurd z (F b),B.funs,B.frf⟩,
  rfl,B.bare,Un.kept hk,⟨_,x.toInCall.ns,fun i y v h1 h2 h3=>?_⟩,fun y c h=>⟨_,x.cell y c h⟩,B.hok.fresh (Ap _),fun y c h=>?_,fun p O=>absurd (show p∈([]:List (Ac×Obj)) from O) (by simp),B.hok.kept hk,?_⟩
 ·exact name_of_addr x.apart (By h1) (By h2)
 ·have J:scope.names.lookup y=some .cell∨scope.names.lookup y=some .free:=J;rcases J with J | J
  ·exact aAC J
  ·exact absurd rfl (S.nofree _ (By J))
 ·exact Dh (x.above y c (By h))
 ·have hi:i < vs.length:=by
   unfold start at h2;by_cases hi:i < vs.length
   ·exact hi
   ·rw[Da (by simpa using hi)]at h2;rw[List.getElem?_replicate]at h2;split at h2 <;> cases h2
  have ha:vs[i]?=some v:=by
   unfold start at h2;rw[Di (by simpa using hi),AK]at h2;cases e:vs[i]? with
   | none=>rw[e]at h2;cases h2
   | some a=>rw[e]at h2;cases h2;rfl
  obtain⟨u,hu,rv⟩:=r.get ha;have O:ps[i]?=some y:=by
   rw[← S.pre,List.getElem?_take_of_lt (by omega)];exact h1
  have U:ps.Nodup:=by rw[← S.pre];exact S.nd.sublist (List.take_sublist _ _)
  refine⟨u,rv,?_⟩;rcases S.par y (AF O)with k | k
  ·exact .inl ⟨k,xG U O hu k⟩
  ·obtain⟨c,e⟩:=aAC (n:=s.heap.objs.size + 1) k;refine .inr ⟨.inl k,c,e,?_⟩;have q:=x.cell y c e;rw[xH U O hu (by show scope.names.lookup y≠_;rw[k];decide)]at q;exact q
 ·exact B.hok.fresh (Dh (x.above y c (By h)))
 ·unfold start;show _=N.length;rw[Av,Ae,List.length_replicate];omega
theorem aE0{CX:CXT}{P:Ay}{w:AS}{K:Ah}{mg:Str→Option Ab}{base:A4}{k:Nat}{f:Ac}{name qual:Str}{B:DO}{F:List BP}{scope:CH}{dV kV aa pm z ct oc:Ab}{an od:Option Ac}
  {ai:Array (Option Ab)} {N ps:List Str} {sp:Sp} (lk:K.lookup f=some ⟨oc,od,.func (Az name qual B F scope dV kV aa pm an z ct),ai⟩) (af:Au K z qual=true) (S:bY N ps scope)
  (len:∀ vs H Q E,sp vs H Q E→vs.length=ps.length)
  (O:∀(A:AN) (outer:List Env) (s:Ad) (H:Hp) (vs:List V) (Q:VK) (E:XK),cY k (A.deeper (envOfC qual scope s.heap.objs.size f z))→sp vs H Q E→
   ∃ t,PSs (iZ CX P w K mg base N qual scope f z A outer s H E) F t∧t { nx:=fun _ H'=>Q .non H',rt:=Q } (start N vs) H):
  cH P w K mg base CX (k + 1) f (Az name qual B F scope dV kV aa pm an z ct) ps sp:=by
 refine⟨len,fun A outer s H aq us vs Q E hr e0 hb r Z=>?_⟩;have hl:=len _ _ _ _ Z;have KX:K.In s.heap:=e0.mod.kin.keeps fun b o e=>(e0.bs b o e).1;have ag:s.heap.NoLimit:=e0.mod.nolimit.keeps fun b o e=>(e0.bs b o e).1;have U:∀ y∈ps.zip us,scope.names.lookup y.1=some .local∨(scope.names.lookup y.1=some .cell∧((cellsFrom (s.heap.objs.size + 1) scope.names []).lookup y.1).isSome=true):=fun⟨n,v⟩ hy=>by
  rcases S.par n (Fz hy).1 with q | q
  ·exact .inl q
  ·exact .inr ⟨q,PySem.W.cellsFrom_some _ _ _ (.inl q)⟩
 refine codeAny_call_function hr.depth (KX _ _ lk) rfl S.co S.gen rfl (PySem.W.codeRec_of KX af) (hb _ _ _ _ ?_);refine wpAny_newFunctionEnv_cells S.kind U fun env he s1 x=>?_;subst he;refine⟨ag.keeps x.toInCall.keep,codeAny_func ?_⟩;obtain⟨t,ht,hq⟩:=O A outer s H vs Q E (hr.deeper _) Z;have I:Inv (iZ CX P w K mg base N qual scope f z A outer s H E) [] (start N vs) H s1:=aDV S hr.hd e0 hl r x;refine BG (ht [] s1 (start N vs) H _ I hq) (fun fl s' Y=>?_) fun e s' Y=>Y;have ad:∀{σ':St} {H':Hp} {v:V} {u:Ab},Inv (iZ CX P w K mg base N qual scope f z A outer s H E) [] σ' H' s'→dA v u→Q v H'→CE outer P w H s Q u s':=
  fun{σ' H' v u} J rv q=>⟨v,H',J.os,J.bare,J.base,J.hok,rv,q⟩
 cases fl with
 | ret u=>
  obtain⟨v,σ',H',J,rv,q⟩:=Y;exact ad J rv q
 | next=>
  obtain⟨σ',H',J,q⟩:=Y;exact ad (v:=V.non) (u:=B4) J rfl q
 | brk=>
  obtain⟨_,_,_,q⟩:=Y;exact Bz q
 | cont=>
  obtain⟨_,_,_,q⟩:=Y;exact Bz q
section
variable{X:Cx}{x:Str}{p pos:Pos}{e:Bc}{es:List Bc}{t:TA}{id T:String}{r:List V→Hp→VK→Prop}
def tCB(r:List V→Hp→VK→Prop)(t:TA):TE:=fun σ H Q=>t σ H fun vs H1=>r vs H1 Q
theorem aV(hc:gH X (.builtin id) r)(O:Gl X x)(hm:X.mg x=none)(J:bootBuiltins x=some (.builtin id))(ha:PA X (e :: es) t)(hn:x≠"__name__":=by decide)(z:(x == ("__debug__":Str))=false:=by decide)
  (he:starEach (e :: es) X.env=(false,eval e X.env) :: starEach es X.env:=by rfl) (B:(backTo pos (starEach es X.env)).any (·.1)=false:=by rfl):PE X (.Call (.Name x p) (e :: es) [] pos) (tCB r t):=by
 constructor;intro dh s σ H Q I h;refine Cf (oW I O hm J ?_ hn z);exact PyProof.Rows.callWith_builtin1 (thn (ha pos dh s σ H _ I h) fun W Y ⟨vs,H1,Z,F,U⟩=>hc dh Y σ H1 vs W Q Z F U) he B
theorem cV(hc:gH X (.type T) r)(O:Gl X x)(hm:X.mg x=none)(J:bootBuiltins x=some (.type T))(ha:PA X (e :: es) t)(hn:x≠"__name__":=by decide)(z:(x == ("__debug__":Str))=false:=by decide)
  (he:starEach (e :: es) X.env=(false,eval e X.env) :: starEach es X.env:=by rfl) (B:(backTo pos (starEach es X.env)).any (·.1)=false:=by rfl):PE X (.Call (.Name x p) (e :: es) [] pos) (tCB r t):=by
 constructor;intro dh s σ H Q I h;refine Cf (oW I O hm J ?_ hn z);exact DK (thn (ha pos dh s σ H _ I h) fun W Y ⟨vs,H1,Z,F,U⟩=>hc dh Y σ H1 vs W Q Z F U) he B
end
end L2
namespace HT
open PySem PyProof.Rows
section
open PySem.SeqAt
open PySem.AutoSeq1 (wpAny_loadPart')
open PySem.MeetsSeq PySem.MeetsSeq2 PySem.MeetsSeq3
end
section
variable{prog:Ay}{w:AS}{A:AN}{E:Ab→Ad→Prop}{s:Ad}
theorem cat_tup{t b:Ac}{vs z:List Ab}{Q:Ab→Ad→Prop}(ht:Eu s.heap t vs.toArray)(F:Eu s.heap b z.toArray)(B:vs≠[])
  (h1:z=[]→Q (.ref t) s) (h2:z≠[]→Q (.ref s.heap.objs.size) { s with heap:=s.heap.push { cls:=.type "tuple",data:=.seq (vs ++ z).toArray } })
  (hsz:vs.length + z.length≤sizeLine):wpAny (model prog w) A (binaryOp .Add (.ref t) (.ref b)) Q E s:=by
 obtain⟨⟨cls,dd,data,sl⟩,ho,hc,n,hd⟩:=id ht;obtain⟨⟨cls2,dd2,data2,sl2⟩,ho2,hc2,n2,hd2⟩:=id F;simp only at hc hd hc2 hd2;subst hc hd hc2 hd2;have e:vs.toArray ++ z.toArray=(vs ++ z).toArray:=by simp
 by_cases hw:z=[]
 ·exact Gs ⟨_,ho,rfl⟩ ⟨_,ho2,rfl⟩ FV Ge Ep Ei (Ee _ _)
   (tuple_addW1 t b vs.toArray z.toArray n n2 dd dd2 sl sl2 (by simpa using B) (by simp[hw])) ⟨ho,ho2,h1 hw⟩
 ·refine Gs ⟨_,ho,rfl⟩ ⟨_,ho2,rfl⟩ FV Ge Ep Ei (Ee _ _)
   (tuple_addW2 t b vs.toArray z.toArray n n2 dd dd2 sl sl2 (by simpa using B) (by simpa using hw) (by rw[Ar,Ar];exact hsz)) ⟨ho,ho2,?_⟩
  rw[e];exact h2 hw
def sIx(n d:Nat):Option Int→Nat
 | none=>d
 | some v=>if v < 0 then(v + (n:Int)).toNat else min v.toNat n
theorem sIx_none(n d:Nat):sIx n d none=d:=rfl
theorem sIx_nat(n d k:Nat):sIx n d (some (k:Int))=min k n:=by
 show(if (k:Int) < 0 then((k:Int) + (n:Int)).toNat else min (k:Int).toNat n)=min k n;rw[Ia (by omega),Bl]
theorem aI5(n d:Nat)(hd:d≤n)(o:Option Int):sIx n d o≤n:=by
 cases o with
 | none=>exact hd
 | some v=>
  show(if v < 0 then(v + (n:Int)).toNat else min v.toNat n)≤n;by_cases z:v < 0
  ·rw[Ib z];omega
  ·rw[Ia z];exact Nat.min_le_right _ _
theorem aCW(v:Int)(n d:Nat):(if v < 0 then max (v + (n:Int)) 0 else min v (n:Int))=((sIx n d (some v):Nat):Int):=by
 show(if v < 0 then max (v + (n:Int)) 0 else min v (n:Int))=(((if v < 0 then(v + (n:Int)).toNat else min v.toNat n):Nat):Int)
 by_cases z:v < 0
 ·simp only[Ib z];omega
 ·simp only[Ia z];omega
theorem aBY(lo hi:Option Int)(n:Nat):DX lo hi 1 (n:Int)=(((sIx n 0 lo:Nat):Int),((sIx n n hi:Nat):Int)):=by
 have h1:¬ ((1:Int) < 0):=by omega
 unfold DX;simp only[h1,if_false];refine GY ?_ ?_
 ·cases lo with
  | none=>rfl
  | some v=>exact aCW v n 0
 ·cases hi with
  | none=>rfl
  | some v=>exact aCW v n n
theorem aBZ(i j:Nat):CU (i:Int) (j:Int) 1=j - i:=by
 unfold CU;have h1:(1:Int) > 0:=by omega
 simp only[h1,if_true,Int.ediv_one];split <;> omega
theorem tY{v:Ab}{o:Option Int}{Q:Option Int→Ad→Prop}(p:ER v o)(h:Q o s):wpAny (model prog w) A (Builtin.Slice.slicePartIndex v) Q E s:=by
 cases p with
 | none=>exact slicePart_none h
 | int i t=>exact slicePart_int h
theorem sliceApplied_gen{F:Ac}{z B:Ab}{lo hi:Option Int}{n:Nat}{Q:Int×Int×Nat→Ad→Prop}(J:s.heap.IsSliceOf F z B .none)(pl:ER z lo)(O:ER B hi)
  (h:Q (((sIx n 0 lo:Nat):Int),1,sIx n n hi - sIx n 0 lo) s):wpAny (model prog w) A (Builtin.Slice.sliceApplied (.ref F) (pure (n:Int))) Q E s:=by
 obtain⟨os,hos,hcs,hds⟩:=id J;unfold Builtin.Slice.sliceApplied Builtin.Slice.sliceFields;refine Aa (Aa (Gy hos hds (x:=z) rfl (Aa (Gy hos hds (x:=B) rfl (Aa (Gy hos hds (x:=.none) rfl (Af ?_)))))));refine Aa (slicePart_none ?_);show wpAny _ _ (if ((1:Int) == 0)=true then _ else _) _ _ s;rw[Ia (by decide)];refine Aa (tY pl (Aa (tY O (Aa (Af ?_)))));show wpAny _ _ (match DX lo hi 1 (n:Int)with | (lo,hi)=>pure (lo,(1:Int),CU lo hi 1)) _ _ s;rw[aBY lo hi n];show wpAny _ _ (pure (((sIx n 0 lo:Nat):Int),(1:Int),CU ((sIx n 0 lo:Nat):Int) ((sIx n n hi:Nat):Int) 1)) _ _ s;rw[aBZ];exact Af h
theorem aE1(xs:Array Ab)(i k:Nat):((AV k).filterMap fun(m:Nat)=>xs[((i:Int) + (m:Int) * 1).toNat]?).toArray=((xs.toList.drop i).take k).toArray:=by
 have e:(fun(m:Nat)=>xs[((i:Int) + (m:Int) * 1).toNat]?)=fun m=>xs[i + m]?:=by
  funext m;have:((i:Int) + (m:Int) * 1).toNat=i + m:=by omega
  rw[this]
 rw[e];have:=pick_run xs i k;rw[List.filterMap_map]at this;have z:((fun x=>xs[x]?) ∘ fun x=>i + x)=fun m=>xs[i + m]?:=rfl;rw[z]at this;rw[this]
theorem getItem_tuple_cut{t J:Ac}{z:Array Ab}{U Y:Ab}{lo hi:Option Int}{Q:Ab→Ad→Prop}(ht:Eu s.heap t z)(W:s.heap.IsSliceOf J U Y .none)(pl:ER U lo)(Z:ER Y hi)
  (hw:¬ (sIx z.size 0 lo=0∧sIx z.size z.size hi=z.size))
  (h:Q (.ref s.heap.objs.size) { s with heap:=s.heap.push { cls:=.type "tuple",data:=.seq ((z.toList.drop (sIx z.size 0 lo)).take (sIx z.size z.size hi - sIx z.size 0 lo)).toArray } })
  (hsz:z.size≤sizeLine):wpAny (model prog w) A (getItem (.ref t) (.ref J)) Q E s:=by
 have B:sizeOk (.seq ((z.toList.drop (sIx z.size 0 lo)).take (sIx z.size z.size hi - sIx z.size 0 lo)).toArray):=by
  show((z.toList.drop (sIx z.size 0 lo)).take (sIx z.size z.size hi - sIx z.size 0 lo)).toArray.size≤sizeLine;rw[Ar,AX,Cc,BD];omega
 have hj:sIx z.size z.size hi≤z.size:=aI5 _ _ (Ap _) hi;obtain⟨os,hos,hcs,hds⟩:=id W;have F:s.TypeIs (.ref J) "slice":=⟨os,hos,hcs⟩
 unfold getItem
 try with_reducible refine Be ?_
 first | refine Aa (Af ?_) | skip
 refine Aa (wpAny_sequenceKey ht.typeIs (by decide) ?_);refine Aa (Cj (name:=Bh "__getitem__") ht.typeIs BK
  (B3 BK ht.typeIs entry_tuple_getitem ?_ (args_tuple_getitem _ _)))
 show wpAny _ _ (Builtin.Tuple.tupleItemsOf (.ref t) >>= _) _ _ s;refine Aa (tupleItemsOf_ ht ?_);refine Aa (BU F ?_);rw[Ib (by decide)];refine Aa (sliceApplied_gen W pl Z ?_);have O:¬ ((((sIx z.size 0 lo:Nat):Int) == 0 && (1:Int) == 1 && (sIx z.size z.size hi - sIx z.size 0 lo) == z.size)=true):=by
  intro q;rw[AY,AY]at q;have q1:((sIx z.size 0 lo:Nat):Int)=0:=eq_of_beq q.1.1;have q2:sIx z.size z.size hi - sIx z.size 0 lo=z.size:=eq_of_beq q.2;exact hw ⟨by omega,by omega⟩
 show wpAny _ _ (if (((sIx z.size 0 lo:Nat):Int) == 0 && (1:Int) == 1 && (sIx z.size z.size hi - sIx z.size 0 lo) == z.size)=true then _ else _) _ _ s;rw[Ia O,aE1]
 first
  | exact Aa (m:=C3 _) (BI (Af ⟨_,rfl,Af h⟩) B)
  | exact Aa (m:=C3 _) (BI (Aa (Af (Af ⟨_,rfl,Af h⟩))) B)
  | exact Aa (Aa (m:=C3 _) (BI (Af (Af ⟨_,rfl,Af h⟩)) B))
  | exact Aa (Aa (m:=C3 _) (BI (Af ⟨_,rfl,Af h⟩) B))
end
end HT
namespace L2
open PySem PySem.Spec PyProof.Rows
abbrev TO:=St→Hp→(Option Int→Hp→Prop)→Prop
structure PO(X:Cx)(e:Option Bc)(t:TO):Prop where
 run:
  ∀(dh:List (Ac×Obj)) (s:Ad) (σ:St) (H:Hp) (Q:Option Int→Hp→Prop),Inv X dh σ H s→t σ H Q→
   wpAny (model X.prog X.w) X.A (evalPart e X.env) (fun u s'=>∃ o H',Inv X dh σ H' s'∧ER u o∧Q o H') X.xe s
instance{X:Cx}{e:Option Bc}{t:TO}:CoeFun (PO X e t) (fun _=>
 ∀(dh:List (Ac×Obj)) (s:Ad) (σ:St) (H:Hp) (Q:Option Int→Hp→Prop),Inv X dh σ H s→t σ H Q→
  wpAny (model X.prog X.w) X.A (evalPart e X.env) (fun u s'=>∃ o H',Inv X dh σ H' s'∧ER u o∧Q o H') X.xe s):=⟨fun h=>h.run⟩
def aHf:TO:=fun _ H Q=>Q none H
def aKh(t:TE):TO:=fun σ H Q=>t σ H fun x H1=>As V.int x fun i=>Q (some i) H1
section
variable{X:Cx}{e:Bc}{te:TE}{lo hi:Option Bc}{tl th:TO}{pos p2:Pos}
theorem fV:PO X none aHf:=by
 constructor;intro dh s σ H Q I h;rw[evalPart_none];exact Af ⟨none,H,I,.none,h⟩
theorem fX(h:PE X e te):PO X (some e) (aKh te):=by
 constructor;intro dh s σ H Q I hw;rw[evalPart_some];refine thn (h dh s σ H _ I hw) fun u J ⟨x,H1,F,B,z⟩=>?_;obtain⟨i,rfl,q⟩:=z;obtain⟨t,rfl⟩:=B;exact⟨some i,H1,F,.int i t,q⟩
def SlR(X:Cx)(r:V→Option Int→Option Int→Hp→VK→Prop):Prop:=
 ∀(dh:List (Ac×Obj)) (s:Ad) (σ:St) (H:Hp) (x:V) (v vl vu:Ab) (lo hi:Option Int) (sl:Ac) (Q:VK),Inv X dh σ H s→dA x v→s.heap.IsSliceOf sl vl vu .none→ER vl lo→ER vu hi→r x lo hi H Q→
  ∃ T id,typeLookup (.type T) "__getitem__"=pure (some (.builtin id))∧s.TypeIs v T∧wpAny (model X.prog X.w) X.A (getItem v (.ref sl)) (EP X dh σ Q) X.xe s
def tSl(r:V→Option Int→Option Int→Hp→VK→Prop)(te:TE)(tl th:TO):TE:=fun σ H Q=>te σ H fun x H1=>tl σ H1 fun l H2=>th σ H2 fun u H3=>r x l u H3 Q
theorem eQ{r:V→Option Int→Option Int→Hp→VK→Prop}(hr:SlR X r)(he:PE X e te)(hl:PO X lo tl)(Z:PO X hi th):PE X (.Subscript e (.Slice lo hi none p2) pos) (tSl r te tl th):=by
 constructor;intro dh s σ H Q I h;refine Subscript_ (thn (he dh s σ H _ I h) fun v s1 ⟨x,H1,I1,U,q1⟩=>?_);refine wpAny_Slice (thn (hl dh s1 σ H1 _ I1 q1) fun B s2 ⟨l,H2,I2,pl,W⟩=>thn (Z dh s2 σ H2 _ I2 W) fun F z ⟨u,J,I3,Y,O⟩=>?_);rw[evalPart_none];refine Af ?_;have I4:Inv X dh σ J { z with heap:=z.heap.push { cls:=.type "slice",data:=.fields #[B,F,.none] } }:=I3.kept (t':=z.toks) fun b ob q=>Ai _ q;obtain⟨T,id,hT,ht,hg⟩:=hr dh { z with heap:=z.heap.push { cls:=.type "slice",data:=.fields #[B,F,.none] } } σ J x v B F l u z.heap.objs.size Q I4 U (Heap.IsSliceOf.new ..) pl Y O;show wpAny (model X.prog X.w) X.A (subscriptTail e (.Slice lo hi none p2) v (.ref z.heap.objs.size)) (EP X dh σ Q) X.xe { z with heap:=z.heap.push { cls:=.type "slice",data:=.fields #[B,F,.none] } };exact tail_any (ops:=[.ref z.heap.objs.size,v]) ht hT hg (by with_unfolding_all rfl)
def gU(xs:List V)(lo hi:Option Int):List V:=(xs.drop (HT.sIx xs.length 0 lo)).take (HT.sIx xs.length xs.length hi - HT.sIx xs.length 0 lo)
theorem rM(xs:List V)(lo hi:Option Int):(gU xs lo hi).length≤xs.length:=by
 unfold gU;rw[AX,Cc];omega
inductive aE2(K:Ah)(x:V)(lo:Option Int)(hi:Option Int)(H:Hp)(Q:VK):Prop
 | mk (a:_) (xs:_) (q0:x=.ref a) (q1:SqT K H a xs) (q2:¬ (HT.sIx xs.length 0 lo=0∧HT.sIx xs.length xs.length hi=xs.length)) (q3:∀ p,H p=none→Q (.ref p) (upd H p (.tup (gU xs lo hi)))):aE2 K x lo hi H Q
def aK7(K:Ah):V→Option Int→Option Int→Hp→VK→Prop:=fun x lo hi H Q=>aE2 K x lo hi H Q
theorem aI6:SlR X (aK7 X.K):=by
 intro dh s σ H x v O U lo hi W Q I F J pl B h;obtain⟨a,xs,rfl,hx,hw,q⟩:=h;cases F;obtain⟨its,r,ht,hz⟩:=I.tuple hx;have z:its.toArray.size=xs.length:=by rw[Ar];exact r.length.symm
 refine⟨"tuple",_,BK.lookup,ht.typeIs,HT.getItem_tuple_cut ht J pl B (by rw[z];exact hw) ?_ (by rw[z];exact hz)⟩;rw[z];refine⟨.ref s.heap.objs.size,_,I.laid (t':=s.toks) (o:=.tup (gU xs lo hi)) (fun b ob q=>Ai _ q) (Ap _) ?_,rfl,q _ (I.hok.fresh (Ap _))⟩;exact⟨Ba (rM xs lo hi) hz,_,(r.drop (HT.sIx xs.length 0 lo)).take (HT.sIx xs.length xs.length hi - HT.sIx xs.length 0 lo),⟨_,Ax _ rfl,⟨rfl,_,rfl⟩,rfl⟩⟩
inductive aCX(K:Ah)(x:V)(y:V)(H:Hp)(Q:VK):Prop
 | mk (a:_) (b:_) (xs:_) (ys:_) (q0:x=.ref a) (q1:y=.ref b) (q2:SqT K H a xs) (q3:SqT K H b ys) (q4:xs≠[]) (q5:xs.length + ys.length≤sizeLine) (q6:(ys=[]→Q (.ref a) H)) (q7:(ys≠[]→∀ p,H p=none→Q (.ref p) (upd H p (.tup (xs ++ ys))))):aCX K x y H Q
def aKi(K:Ah):R2:=fun x y H Q=>aCX K x y H Q
theorem cZ.nil_iff{xs:List V}{z:List Ab}(r:cZ xs z):z=[]↔xs=[]:=by
 cases r with
 | nil=>simp
 | cons _ _=>simp
theorem aHg:OpR X (binaryOp .Add) (aKi X.K):=by
 intro dh s σ H x y v u Q I B F h;obtain⟨a,b,xs,ys,rfl,rfl,ha,hb,hx,hz,q1,q2⟩:=h;cases B;cases F;obtain⟨its,r1,p1,_⟩:=I.tuple ha;obtain⟨its2,r2,p2,_⟩:=I.tuple hb;refine HT.cat_tup p1 p2 (fun z=>hx (r1.nil_iff.mp z)) (fun z=>⟨.ref a,H,I,rfl,q1 (r2.nil_iff.mp z)⟩) (fun z=>?_) (by rw[← r1.length,← r2.length];exact hz);refine⟨.ref s.heap.objs.size,_,I.laid (t':=s.toks) (o:=.tup (xs ++ ys)) (fun b ob q=>Ai _ q) (Ap _) ?_,rfl,q2 (fun w=>z (r2.nil_iff.mpr w)) _ (I.hok.fresh (Ap _))⟩;exact⟨by rw[Av];exact hz,_,r1.append r2,⟨_,Ax _ rfl,⟨rfl,_,rfl⟩,rfl⟩⟩
end
def ixN(n:Nat)(i:Int):Option Nat:=if 0≤i then(if i < n then some i.toNat else none) else if -(n:Int)≤i then some (i + n).toNat else none
def atI{α:Type}(xs:List α)(i:Int):Option α:=(ixN xs.length i).bind fun j=>xs[j]?
theorem aCY{n:Nat}{i:Int}{j:Nat}(h:ixN n i=some j):seqIndex? i n=some j∧j < n∧-(n:Int)≤i∧i < n:=by
 unfold ixN at h;by_cases z:0≤i
 ·rw[Ib z]at h;by_cases h1:i < n
  ·rw[Ib h1]at h;have e:i.toNat=j:=BS.inj h;exact⟨by rw[Gz z h1,e],by omega,by omega,h1⟩
  ·rw[Ia h1]at h;cases h
 ·rw[Ia z]at h;by_cases h1:-(n:Int)≤i
  ·rw[Ib h1]at h;have e:(i + n).toNat=j:=BS.inj h;exact⟨by rw[seqIndex_neg (by omega) h1,e],by omega,h1,by omega⟩
  ·rw[Ia h1]at h;cases h
theorem zJ{α:Type}{xs:List α}{i:Int}{v:α}(h:atI xs i=some v):∃ j,seqIndex? i xs.length=some j∧xs[j]?=some v∧j < xs.length∧-(xs.length:Int)≤i∧i < xs.length:=by
 unfold atI at h;cases e:ixN xs.length i with
 | none=>rw[e]at h;cases h
 | some j=>
  rw[e]at h;obtain⟨h1,h2,h3,h4⟩:=aCY e;exact⟨j,h1,h,h2,h3,h4⟩
theorem dD{α:Type}{xs:List α}{j:Nat}{v:α}(h:xs[j]?=some v):atI xs (j:Int)=some v:=by
 have z:j < xs.length:=(AH.mp h).1;have e:ixN xs.length (j:Int)=some j:=by
  unfold ixN;rw[Ib (by omega),Ib (by omega)];simp
 unfold atI;rw[e];exact h
def aHh(b:Bc):Prop:=∀ o i,subscripted b false o i=operate [o,i] (getItem o i)
def IxR(X:Cx)(r:R2):Prop:=
 ∀(value slice:Bc) (dh:List (Ac×Obj)) (s:Ad) (σ:St) (H:Hp) (x y:V) (v u:Ab) (Q:VK),Inv X dh σ H s→dA x v→dA y u→r x y H Q→
  subscripted slice false v u=operate [v,u] (getItem v u)→wpAny (model X.prog X.w) X.A (subscriptTail value slice v u) (EP X dh σ Q) X.xe s
def MtR(X:Cx)(id:String)(r:V→List V→Hp→VK→Prop):Prop:=
 ∀(dh:List (Ac×Obj)) (s:Ad) (σ:St) (H:Hp) (x:V) (xs:List V) (v:Ab) (us:List Ab) (Q:VK),Inv X dh σ H s→dA x v→cZ xs us→r x xs H Q→
  wpAny (model X.prog X.w) X.A (call (.builtin id) (v :: us)) (EP X dh σ Q) X.xe s
section
variable{X:Cx}{a b:Bc}{ta tb:TE}{pos:Pos}
theorem cE{r:R2}(O:IxR X r)(ha:PE X a ta)(z:PE X b tb)(J:aHh b):PE X (.Subscript a b pos) (tOp r ta tb):=by
 constructor;intro dh s σ H Q I h;exact Subscript_ (aIZ ha z I h fun v u U x y H2 B F W q=>O a b dh U σ H2 x y v u Q B F W q (J _ _))
inductive aE3(K:Ah)(x:V)(y:V)(H:Hp)(Q:VK):Prop
 | mk (p:_) (xs:_) (i:_) (v:_) (q0:x=.ref p) (q1:y=.int i) (q2:SqL K H p xs) (q3:atI xs i=some v) (q4:Q v H):aE3 K x y H Q
def aE4(K:Ah):R2:=fun x y H Q=>aE3 K x y H Q
inductive aE5(K:Ah)(x:V)(y:V)(H:Hp)(Q:VK):Prop
 | mk (p:_) (xs:_) (i:_) (v:_) (q0:x=.ref p) (q1:y=.int i) (q2:SqT K H p xs) (q3:atI xs i=some v) (q4:Q v H):aE5 K x y H Q
def aE6(K:Ah):R2:=fun x y H Q=>aE5 K x y H Q
inductive aE7(x:V)(y:V)(H:Hp)(Q:VK):Prop
 | mk (z:_) (i:_) (c:_) (q0:x=.str z) (q1:y=.int i) (q2:z.length≤sizeLine) (q3:atI z.cps.toList i=some c) (q4:Q (.str ⟨#[c]⟩) H):aE7 x y H Q
def aK8:R2:=fun x y H Q=>aE7 x y H Q
theorem c9:IxR X (aE4 X.K):=by
 intro value J dh s σ H x y v u Q I W Z h O;obtain⟨p,xs,i,z,rfl,rfl,hq,he,q⟩:=h;cases W;obtain⟨t,rfl⟩:=Z;obtain⟨its,r,pl,hz⟩:=I.list hq;obtain⟨j,h1,h2,h3,h4,h5⟩:=zJ he;obtain⟨w,ew,rw'⟩:=r.get h2;have Y:=r.length;have hn:=qI;have B:EP X dh σ Q w s:=⟨z,H,I,rw',q⟩
 by_cases U:0≤i
 ·have F:i.toNat=j:=by
   rw[Gz U h5]at h1;exact BS.inj h1
  exact item_listR pl.isList U (by omega) (by rw[F];simpa using ew) B O
 ·have F:(i + (its.toArray.size:Int)).toNat=j:=by
   rw[seqIndex_neg (by omega) h4]at h1;rw[Ar,← Y];exact BS.inj h1
  exact subscriptTail_builtinR (x:=w) pl.isList.typeIs slot_list_getitem.lookup
   (wpAny_getItem_list_neg (Q:=fun r s'=>r=w∧EP X dh σ Q r s') pl.isList (by omega) (by rw[Ar] <;> omega) (by omega) (by rw[F];simpa using ew) ⟨rfl,B⟩) O
theorem cM:IxR X (aE6 X.K):=by
 intro value F dh s σ H x y v u Q I J W h U;obtain⟨p,xs,i,z,rfl,rfl,hq,he,q⟩:=h;cases J;obtain⟨t,rfl⟩:=W;obtain⟨its,r,pl,hz⟩:=I.tuple hq;obtain⟨j,h1,h2,h3,h4,h5⟩:=zJ he;obtain⟨w,ew,rw'⟩:=r.get h2;have O:=r.length;have hn:=qI;have B:EP X dh σ Q w s:=⟨z,H,I,rw',q⟩
 exact subscriptTail_builtinR (x:=w) pl.typeIs slot_tuple_getitem.lookup
  (getItem_tuple (j:=j) (Q:=fun r s'=>r=w∧EP X dh σ Q r s') pl (by omega) (by omega) (by rw[Ar,← O];exact h1) (by simpa using ew) ⟨rfl,B⟩) U
theorem zK:IxR X aK8:=by
 intro value B dh s σ H x y v u Q I J Y h U;obtain⟨z,i,c,rfl,rfl,hz,he,q⟩:=h;obtain⟨t,rfl⟩:=J;obtain⟨t',rfl⟩:=Y;obtain⟨j,h1,h2,h3,h4,h5⟩:=zJ he;have O:z.cps.toList.length=z.length:=by simp[Gu]
 rw[O]at h1 h4 h5;have hn:=qI;exact tail_any (EL s z t) slot_str_getitem.lookup (getItem_str (c:=c) (by
  have F:decide (i < -(2 ^ 63:Int))=false:=decide_eq_false (by omega);have W:decide (i ≥ 2 ^ 63)=false:=decide_eq_false (by omega);rw[F,W,F1]) (by rw[h1];simpa using h2) ⟨.str ⟨#[c]⟩,H,I.tok _,⟨_,rfl⟩,q⟩) U
theorem aB0(its:List Ab)(n j:Nat)(u:Ab):Bp (·.setIfInBounds j u) { cls:=.type "list",data:=.seq its.toArray n }={ cls:=.type "list",data:=.seq (its.set j u).toArray n }:=by
 simp[Bp]
theorem Inv.lst{dh:List (Ac×Obj)}{σ:St}{H:Hp}{s:Ad}{p:Ac}{xs:List V}(I:Inv X dh σ H s)(h:H p=some (.lst xs)):
  ∃(its:List Ab) (n:Nat),cZ xs its∧s.heap.get? p=some { cls:=.type "list",data:=.seq its.toArray n }∧xs.length≤sizeLine:=by
 obtain⟨z,its,n,r,e⟩:=I.hok p _ h;exact⟨its,n,r,e,z⟩
theorem Inv.lstUpd{dh:List (Ac×Obj)}{σ:St}{H:Hp}{s:Ad}{p:Ac}{xs ys:List V}{its its':List Ab}{n z:Nat}{f:Obj→Obj}(I:Inv X dh σ H s)(h:H p=some (.lst xs))
  (J:s.heap.get? p=some { cls:=.type "list",data:=.seq its.toArray n }) (B:f { cls:=.type "list",data:=.seq its.toArray n }={ cls:=.type "list",data:=.seq its'.toArray z }) (r:cZ ys its') (hz:ys.length≤sizeLine) (t:Nat):
  Inv X dh σ (upd H p (.lst ys)) { s with heap:=s.heap.update p f,toks:=t }:=by
 have e:(s.heap.update p f).get? p=some { cls:=.type "list",data:=.seq its'.toArray z }:=by
  rw[BN f J (by rw[B] <;> rfl),B]
 refine I.write (x:=p) (e:=p) (by rw[h];trivial) (.inl rfl) (fun b u F q=>(Ck _ _ (DL F)).trans q) ⟨_,e⟩ ?_;exact⟨hz,its',z,r,e⟩
inductive aCZ(o:V)(i:V)(v:V)(H:Hp)(Q:(Hp→Prop)):Prop
 | mk (p:_) (xs:_) (k:_) (j:_) (q0:o=.ref p) (q1:i=.int k) (q2:H p=some (.lst xs)) (q3:ixN xs.length k=some j) (q4:Q (upd H p (.lst (xs.set j v)))):aCZ o i v H Q
def aKj:V→V→V→Hp→(Hp→Prop)→Prop:=fun o i v H Q=>aCZ o i v H Q
theorem aAD:aJ7 X aKj:=by
 intro dh s σ H o i v Y Z u Q I U ri O h;obtain⟨p,xs,k,j,rfl,rfl,hp,hj,q⟩:=h;cases U;obtain⟨t,rfl⟩:=ri;obtain⟨its,n,r,ho,hz⟩:=I.lst hp;obtain⟨h1,h2,h3,h4⟩:=aCY hj;have B:=r.length;have hn:=qI;have F:Inv X dh σ (upd H p (.lst (xs.set j v))) { s with heap:=s.heap.update p (Bp (·.setIfInBounds j u)) }:=
  I.lstUpd hp ho (aB0 its n j u) (r.set O j) (by rw[FC];exact hz) s.toks
 by_cases J:0≤k
 ·have z:k.toNat=j:=by
   rw[Gz J h4]at h1;exact BS.inj h1
  exact PySem.W.ki_setAt ho J (by omega) (by rw[Ar,← B];exact h4) (by rw[z];exact⟨_,F,q⟩)
 ·have z:(k + (its.toArray.size:Int)).toNat=j:=by
   rw[seqIndex_neg (by omega) h3]at h1;rw[Ar,← B];exact BS.inj h1
  exact PySem.W.ki_setBack ho (by omega) (by rw[Ar,← B];exact h3) (by omega) (by rw[z];exact⟨_,F,q⟩)
theorem zL(lo hi:Option Int)(n:Nat):(sliceBounds lo hi none n).1=((HT.sIx n 0 lo:Nat):Int)∧(sliceBounds lo hi none n).2.1=((HT.sIx n n hi:Nat):Int)∧(sliceBounds lo hi none n).2.2=1:=by
 refine⟨?_,?_,rfl⟩
 ·cases lo with
  | none=>simp[sliceBounds,HT.sIx]
  | some i=>
   simp only[sliceBounds,HT.sIx,Option.getD_none,show(1:Int) > 0 by decide,if_true];by_cases h:i < 0
   ·simp only[h,if_true] <;> omega
   ·simp only[h,if_false] <;> omega
 ·cases hi with
  | none=>simp[sliceBounds,HT.sIx]
  | some i=>
   simp only[sliceBounds,HT.sIx,Option.getD_none,show(1:Int) > 0 by decide,if_true];by_cases h:i < 0
   ·simp only[h,if_true] <;> omega
   ·simp only[h,if_false] <;> omega
theorem wS(its:List Ab)(lo hi:Option Int):slicePick its.toArray lo hi none=((its.drop (HT.sIx its.length 0 lo)).take (HT.sIx its.length its.length hi - HT.sIx its.length 0 lo)).toArray:=by
 obtain⟨h1,h2,h3⟩:=zL lo hi its.toArray.size;unfold slicePick;rw[h1,h2,h3];simp only[sliceRange_one,pick_run,Ar] <;> rfl
inductive aE8(K:Ah)(x:V)(lo:Option Int)(hi:Option Int)(H:Hp)(Q:VK):Prop
 | mk (a:_) (xs:_) (q0:x=.ref a) (q1:SqL K H a xs) (q2:∀ p,H p=none→Q (.ref p) (upd H p (.lst (gU xs lo hi)))):aE8 K x lo hi H Q
def aK9(K:Ah):V→Option Int→Option Int→Hp→VK→Prop:=fun x lo hi H Q=>aE8 K x lo hi H Q
theorem nX:SlR X (aK9 X.K):=by
 intro dh s σ H x v O U lo hi W Q I F J pl B h;obtain⟨a,xs,rfl,hx,q⟩:=h;cases F;obtain⟨its,r,ht,hz⟩:=I.list hx;have z:=r.length;refine⟨"list",_,slot_list_getitem.lookup,ht.isList.typeIs,wpAny_getItem_list_slice ht.isList J pl B .none (by simp) ?_ (by rw[Ar] <;> omega)⟩;rw[wS,← z];refine⟨.ref s.heap.objs.size,_,I.laid (t':=s.toks) (o:=.lst (gU xs lo hi)) (fun b ob q=>Ai _ q) (Ap _) ?_,rfl,q _ (I.hok.fresh (Ap _))⟩;exact⟨Ba (rM xs lo hi) hz,_,0,(r.drop (HT.sIx xs.length 0 lo)).take (HT.sIx xs.length xs.length hi - HT.sIx xs.length 0 lo),Ax _ rfl⟩
def iS:V→Bool
 | .non=>true
 | .bl _=>true
 | .int _=>true
 | .str _=>true
 | _=>false
def eqV:V→V→Bool
 | .non,.non=>true
 | .bl a,.bl b=>a == b
 | .bl a,.int b=>(if a then 1 else 0) == b
 | .int a,.bl b=>a == (if b then 1 else 0)
 | .int a,.int b=>a == b
 | .str a,.str b=>a == b
 | _,_=>false
theorem zM{A:AN}{s:Ad}{y x:V}{u v:Ab}(F:dA y u)(z:dA x v)(J:iS y=true)(B:iS x=true):Gf A s u v (eqV y x):=by
 cases y with
 | non=>
  cases F;cases x with
  | non=>cases z;exact SeqAt.EqAt.same _
  | bl b=>cases z;exact SeqAt.EqAt.none_bool b
  | int b=>obtain⟨t,rfl⟩:=z;exact SeqAt.EqAt.none_int b t
  | str b=>obtain⟨t,rfl⟩:=z;exact SeqAt.EqAt.none_str b t
  | _=>exact absurd (show false=true from B) AD
 | bl a=>
  cases F;cases x with
  | non=>cases z;exact SeqAt.EqAt.bool_none a
  | bl b=>cases z;exact SeqAt.EqAt.bool_bool a b
  | int b=>obtain⟨t,rfl⟩:=z;exact SeqAt.EqAt.bool_int a b t
  | str b=>obtain⟨t,rfl⟩:=z;exact SeqAt.EqAt.bool_str a b t
  | _=>exact absurd (show false=true from B) AD
 | int a=>
  obtain⟨t',rfl⟩:=F;cases x with
  | non=>cases z;exact SeqAt.EqAt.int_none a t'
  | bl b=>cases z;exact SeqAt.EqAt.int_bool a t' b
  | int b=>obtain⟨t,rfl⟩:=z;exact SeqAt.EqAt.int_int a t' b t
  | str b=>obtain⟨t,rfl⟩:=z;exact SeqAt.EqAt.int_str a t' b t
  | _=>exact absurd (show false=true from B) AD
 | str a=>
  obtain⟨t',rfl⟩:=F;cases x with
  | non=>cases z;exact SeqAt.EqAt.str_none a t'
  | bl b=>cases z;exact SeqAt.EqAt.str_bool a t' b
  | int b=>obtain⟨t,rfl⟩:=z;exact SeqAt.EqAt.str_int a t' b t
  | str b=>obtain⟨t,rfl⟩:=z;exact DY a t' b t
  | _=>exact absurd (show false=true from B) AD
 | _=>exact absurd (show false=true from J) AD
def eqU(x:V)(u:Ab):Bool:=match u with
 | .none=>eqV .non x
 | .bool b=>eqV (.bl b) x
 | .int i _=>eqV (.int i) x
 | .str z _=>eqV (.str z) x
 | _=>false
theorem aE9{x y:V}{u:Ab}(r:dA y u)(f:iS y=true):eqU x u=eqV y x:=by
 cases y with
 | non=>cases r;rfl
 | bl b=>cases r;rfl
 | int i=>obtain⟨t,rfl⟩:=r;rfl
 | str z=>obtain⟨t,rfl⟩:=r;rfl
 | _=>exact absurd (show false=true from f) AD
theorem pP{x:V}:∀{xs:List V}{z:List Ab},cZ xs z→xs.all iS=true→z.any (eqU x)=xs.any fun y=>eqV y x
 | _,_,.nil,_=>rfl
 | y :: xs,u :: z,.cons r t,f=>by
  rw[CV,AY]at f;rw[Dp,Dp,aE9 r f.1,pP t f.2]
theorem nA{A:AN}{s:Ad}{x:V}{v:Ab}(F:dA x v)(J:iS x=true):∀{xs:List V}{B:List Ab},cZ xs B→xs.all iS=true→∀ u∈B,Gf A s u v (eqU x u)
 | _,_,.nil,_=>fun u z=>by cases z
 | y :: xs,u :: B,.cons r t,f=>fun O z=>by
  rw[CV,AY]at f;rcases Al.mp z with rfl | z
  ·rw[aE9 r f.1];exact zM r F f.1 J
  ·exact nA F J t f.2 O z
def inV(x:V)(xs:List V):Bool:=xs.any fun y=>eqV y x
inductive aIl(K:Ah)(neg:Bool)(x:V)(y:V)(H:Hp)(Q:VK):Prop
 | mk (p:_) (xs:_) (q0:y=.ref p) (q1:(SqL K H p xs∨SqT K H p xs)) (q2:iS x=true) (q3:xs.all iS=true) (q4:Q (.bl (if neg then !inV x xs else inV x xs)) H):aIl K neg x y H Q
def rIn(K:Ah)(neg:Bool):R2:=fun x y H Q=>aIl K neg x y H Q
theorem jG:OpR X (compareOp .In) (rIn X.K false):=by
 intro dh s σ H x y v u Q I B F h;obtain⟨p,xs,rfl,z,fx,fs,q⟩:=h;cases F;rcases z with z | z
 ·obtain⟨its,r,pl,hz⟩:=I.list z;refine SeqAt.in_listAt (eqU x) pl.isList (fun w hw=>nA B fx r fs w (by simpa using hw)) ⟨.bl _,H,I,rfl,?_⟩;rw[show its.toArray.any (eqU x)=its.any (eqU x) by simp,pP r fs];exact q
 ·obtain⟨its,r,pl,hz⟩:=I.tuple z;refine SeqAt.in_tupleAt (eqU x) pl (fun w hw=>nA B fx r fs w (by simpa using hw)) ⟨.bl _,H,I,rfl,?_⟩;rw[show its.toArray.any (eqU x)=its.any (eqU x) by simp,pP r fs];exact q
theorem mE:OpR X (compareOp .NotIn) (rIn X.K true):=by
 intro dh s σ H x y v u Q I B F h;obtain⟨p,xs,rfl,z,fx,fs,q⟩:=h;cases F;rcases z with z | z
 ·obtain⟨its,r,pl,hz⟩:=I.list z;refine SeqAt.notIn_listAt (eqU x) pl.isList (fun w hw=>nA B fx r fs w (by simpa using hw)) ⟨.bl _,H,I,rfl,?_⟩;rw[show its.toArray.any (eqU x)=its.any (eqU x) by simp,pP r fs];exact q
 ·obtain⟨its,r,pl,hz⟩:=I.tuple z;refine SeqAt.notIn_tupleAt (eqU x) pl (fun w hw=>nA B fx r fs w (by simpa using hw)) ⟨.bl _,H,I,rfl,?_⟩;rw[show its.toArray.any (eqU x)=its.any (eqU x) by simp,pP r fs];exact q
inductive kY(K:Ah)(xs:List V)(H:Hp)(Q:VK):Prop
 | mk (p:_) (ys:_) (q0:xs=[.ref p]) (q1:(SqL K H p ys∨SqT K H p ys)) (q2:Q (.int ys.length) H):kY K xs H Q
def gZ(K:Ah):List V→Hp→VK→Prop:=fun xs H Q=>kY K xs H Q
theorem bH:gH X (.builtin "len") (gZ X.K):=by
 intro dh s σ H xs F Q I r h;obtain⟨p,ys,rfl,B,q⟩:=h;obtain⟨u,rfl,rx⟩:=gS r;cases rx;have hn:=qI;rcases B with B | B
 ·obtain⟨its,r',pl,hz⟩:=I.list B;have z:=r'.length;exact Calls.call_len_list pl.isList (by simp only[Ar] <;> omega) ⟨.int ys.length,H,I.tok _,⟨s.toks + 1,by rw[Ar,z]⟩,q⟩
 ·obtain⟨its,r',pl,hz⟩:=I.tuple B;have z:=r'.length;exact len_tuple pl (by simp only[Ar] <;> omega) ⟨.int ys.length,H,I.tok _,⟨s.toks + 1,by rw[Ar,z]⟩,q⟩
inductive kZ(xs:List V)(H:Hp)(Q:VK):Prop
 | mk (z:_) (q0:xs=[.str z]) (q1:z.length≤sizeLine) (q2:Q (.int z.length) H):kZ xs H Q
def tZ:List V→Hp→VK→Prop:=fun xs H Q=>kZ xs H Q
theorem pQ:gH X (.builtin "len") tZ:=by
 intro dh s σ H xs B Q I r h;obtain⟨z,rfl,hz,q⟩:=h;obtain⟨u,rfl,t,rfl⟩:=gS r;have hn:=qI;exact len_str (by omega) ⟨.int z.length,H,I.tok _,⟨_,rfl⟩,q⟩
inductive lA(K:Ah)(xs:List V)(H:Hp)(Q:VK):Prop
 | mk (p:_) (ys:_) (q0:xs=[.ref p]) (q1:(SqL K H p ys∨SqT K H p ys)) (q2:∀ l,H l=none→Q (.ref l) (upd H l (.lst ys))):lA K xs H Q
def nB(K:Ah):List V→Hp→VK→Prop:=fun xs H Q=>lA K xs H Q
theorem fY:gH X (.type "list") (nB X.K):=by
 intro dh s σ H xs W Q I r h;obtain⟨p,ys,rfl,U,q⟩:=h;obtain⟨u,rfl,rx⟩:=gS r;cases rx;have O:∀(z:List Ab),cZ ys z→ys.length≤sizeLine→∀(h':A4) (B:Nat),(∀ b o',s.heap.get? b=some o'→h'.get? b=some o')→
   h'.get? s.heap.objs.size=some { cls:=.type "list",dict:=none,data:=.seq z.toArray B,slots:=#[] }→EP X dh σ Q (.ref s.heap.objs.size) { s with heap:=h' }:=fun z F hz h' B kp e=>
  ⟨.ref s.heap.objs.size,_,I.laid (t':=s.toks) kp (Ap _) (show c5 X.prog X.w _ h' _ (.lst ys) from⟨hz,z,B,F,e⟩),rfl,q _ (I.hok.fresh (Ap _))⟩
 rcases U with U | U
 ·obtain⟨z,F,pl,hz⟩:=I.list U;have J:=F.length;obtain⟨o,ho,hc,n,hd⟩:=pl.isList;exact call_list_seq p (.inl rfl) ho hc hd (fun h' B kp e=>O z F hz h' B kp e) (by simp only[Ar] <;> omega)
 ·obtain⟨z,F,pl,hz⟩:=I.tuple U;have J:=F.length;obtain⟨o,ho,hc,n,hd⟩:=pl;exact call_list_seq p (.inr rfl) ho hc hd (fun h' B kp e=>O z F hz h' B kp e) (by simp only[Ar] <;> omega)
inductive jW(K:Ah)(xs:List V)(H:Hp)(Q:VK):Prop
 | mk (p:_) (ys:_) (q0:xs=[.ref p]) (q1:((SqL K H p ys∧∀ l,H l=none→Q (.ref l) (upd H l (.tup ys)))∨(SqT K H p ys∧Q (.ref p) H))):jW K xs H Q
def sJ(K:Ah):List V→Hp→VK→Prop:=fun xs H Q=>jW K xs H Q
theorem cW:gH X (.type "tuple") (sJ X.K):=by
 intro dh s σ H xs J Q I r h;obtain⟨p,ys,rfl,h⟩:=h;obtain⟨u,rfl,rx⟩:=gS r;cases rx;rcases h with⟨hq,q⟩ | ⟨hq,q⟩
 ·obtain⟨its,r',pl,hz⟩:=I.list hq;have B:=r'.length;refine call_tuple_list pl.isList (fun h' kp=>?_) (by simp only[Ar] <;> omega);have z:Inv X dh σ H { s with heap:=h' }:=I.kept (t':=s.toks) kp;have F:Inv X dh σ (upd H h'.objs.size (.tup ys)) { s with heap:=h'.push { cls:=.type "tuple",data:=.seq its.toArray } }:=
   z.laid (t':=s.toks) (fun b o e=>Ai _ e) (Ap _) (show c5 X.prog X.w _ _ _ (.tup ys) from⟨hz,its,r',⟨_,Ax _ rfl,⟨rfl,_,rfl⟩,rfl⟩⟩)
  exact⟨.ref h'.objs.size,_,F,rfl,q _ (z.hok.fresh (Ap _))⟩
 ·obtain⟨its,r',pl,hz⟩:=I.tuple hq;exact call_tuple_same pl ⟨.ref p,H,I,rfl,q⟩
def tyV(K:Ah)(T:String)(x:V)(H:Hp):Prop:=match x with
 | .str _=>T="str"
 | .int _=>T="int"
 | .ref p=>(T="list"∧∃ xs,SqL K H p xs)∨(T="tuple"∧∃ o,K.lookup p=some o∧o.cls=.type "tuple"∧o.dict=none)∨
   (T="dict"∧((∃ di,H p=some (.dK di))∨∃ di,H p=some (.dT di)))∨(T="set"∧∃ S n,H p=some (.set S n))∨(T="tuple"∧∃ xs,H p=some (.tup xs))
 | _=>False
theorem aI7{dh:List (Ac×Obj)}{σ:St}{H:Hp}{s:Ad}{T:String}{x:V}{v:Ab}(I:Inv X dh σ H s)(r:dA x v)(ty:tyV X.K T x H):
  s.TypeIs v T∧∀ a,v=.ref a→∃ ob,s.heap.get? a=some ob∧ob.dict=none:=by
 cases x with
 | str z=>
  obtain⟨t,rfl⟩:=r;cases(show T="str" from ty);exact⟨EL s z t,fun _ e=>nomatch e⟩
 | int i=>
  obtain⟨t,rfl⟩:=r;cases(show T="int" from ty);exact⟨typeIs_int s i t,fun _ e=>nomatch e⟩
 | ref p=>
  cases r;rcases ty with⟨rfl,xs,hq⟩ | ⟨rfl,o,hk,hc,hd⟩ | ⟨rfl,hk⟩ | ⟨rfl,S,n,hk⟩ | ⟨rfl,xs,hq⟩
  ·obtain⟨its,_,pl,_⟩:=I.list hq;refine⟨pl.isList.typeIs,fun a e=>?_⟩;cases e;obtain⟨o,n,e,c,hd,_⟩:=pl;exact⟨o,e,hd⟩
  ·refine⟨⟨o,I.kIn p o hk,hc⟩,fun a e=>?_⟩;cases e;exact⟨o,I.kIn _ o hk,hd⟩
  ·have z:∃ o,s.heap.get? p=some o∧o.ExactDict:=by
    rcases hk with⟨di,hk⟩ | ⟨di,hk⟩
    ·obtain⟨_,_,_,_,o,_,_,e,ex,_⟩:=I.hok p _ hk;exact⟨o,e,ex⟩
    ·obtain⟨_,_,_,_,o,_,_,e,ex,_⟩:=I.hok p _ hk;exact⟨o,e,ex⟩
   obtain⟨o,e,ex⟩:=z;refine⟨⟨o,e,ex.1⟩,fun a B=>?_⟩;cases B;exact⟨o,e,ex.2.1⟩
  ·obtain⟨o,_,_,_,e,ex,_⟩:=I.hok p _ hk;refine⟨⟨o,e,ex.1⟩,fun a B=>?_⟩;cases B;exact⟨o,e,ex.2.1⟩
  ·obtain⟨_,_,_,o,e,⟨c,_⟩,hd⟩:=(show c5 X.prog X.w H s.heap p (.tup xs) from I.hok p _ hq)
   refine⟨⟨o,e,c⟩,fun a B=>?_⟩;cases B;exact⟨o,e,hd⟩
 | _=>exact Bz ty
def tBM(K:Ah)(T:String)(r:V→List V→Hp→VK→Prop)(to:TE)(t:TA):TE:=fun σ H Q=>to σ H fun x H1=>tyV K T x H1∧t σ H1 fun xs H2=>r x xs H2 Q
variable{o e:Bc}{es:List Bc}{to:TE}{t:TA}{name:Str}{ff ee:Pos}{T id:String}{r:V→List V→Hp→VK→Prop}
theorem jX(pa:PlainAttrs T)(slot:Slot T name id)(O:typeOf (.builtin id)=pure (.type "method_descriptor"))(hm:MtR X id r)(ho:PE X o to)(ha:PA X (e :: es) t)
  (B:attributeBase o name X.env (eval o X.env)=eval o X.env:=by rfl)
  (J:((backTo ee (starEach (e :: es) X.env)).all (fun x=>!x.1) && (backToKw ee (keywordEach [] X.env)).all (fun x=>x.1.isSome)
   && decide ((e :: es).length + ([]:List Ej).length + (if ([]:List Ej).isEmpty then 0 else 1) < 30))=true:=by rfl)
  (F:(ff.endLine == ee.line)=true:=by rfl) (hs:starEach (e :: es) X.env=(false,eval e X.env) :: starEach es X.env:=by rfl) (z:(backTo ee (starEach es X.env)).any (·.1)=false:=by rfl):
  PE X (.Call (.Attribute o name ff) (e :: es) [] ee) (tBM X.K T r to t):=by
 constructor;intro dh s σ H Q I h;refine wpAny_Call_method_late B J F rfl (thn (ho dh s σ H _ I h) fun v s1 ⟨x,H1,Y,U,ty,q1⟩=>?_);obtain⟨h1,h2⟩:=aI7 Y U ty;refine⟨T,id,pa,slot,O,h1,h2,?_⟩;have W:=ha ee dh s1 σ H1 _ Y q1;rw[hs]at W ⊢;refine Calls.callWith_builtin (by show(false || (backTo ee (starEach es X.env)).any (·.1))=false;rw[z] <;> rfl) (EJ ?_)
 exact thn W fun us s2 ⟨vs,H2,I2,Z,q2⟩=>hm dh s2 σ H2 x vs v us Q I2 U Z q2
end
def MtM(X:Cx)(id:String)(r:V→List V→Hp→VK→Prop):Prop:=
 ∀(dh:List (Ac×Obj)) (s:Ad) (σ:St) (H:Hp) (x:V) (xs:List V) (v:Ab) (us:List Ab) (Q:VK),Inv X dh σ H s→dA x v→cZ xs us→r x xs H Q→
  wpAny (model X.prog X.w) X.A (call (.builtin id) (v :: us)) (EP X dh σ Q) X.xe s
theorem cZ.one:∀{x:V}{z:List Ab},cZ [x] z→∃ u,z=[u]∧dA x u
 | _,_,.cons r .nil=>⟨_,rfl,r⟩
theorem cZ.eraseIdx:∀{xs:List V}{z:List Ab} (i:Nat),cZ xs z→cZ (xs.eraseIdx i) (z.eraseIdx i)
 | _,_,_,.nil=>.nil
 | _,_,0,.cons _ t=>t
 | _,_,i + 1,.cons r t=>.cons r (cZ.eraseIdx i t)
theorem xI{α:Type}:∀(l:List α) (i:Nat),(l.eraseIdx i).length≤l.length
 | [],_=>Ap _
 | _ :: _,0=>De _
 | _ :: r,i + 1=>Nat.succ_le_succ (xI r i)
section
variable{X:Cx}{dh:List (Ac×Obj)}{σ:St}{H:Hp}{s:Ad}{l b:Ac}{xs ys zs:List V}
theorem Inv.lset{its its':List Ab}{n:Nat}{f:Array Ab→Array Ab}{t':Nat}(I:Inv X dh σ H s)(F:H l=some (.lst xs))
  (e:s.heap.get? l=some { cls:=.type "list",data:=.seq its.toArray n }) (B:f its.toArray=its'.toArray) (O:cZ ys its') (hz:ys.length≤sizeLine):
  Inv X dh σ (upd H l (.lst ys)) { s with heap:=s.heap.update l (Bp f),toks:=t' }:=by
 have q:=PySem.IsL.update e f;rw[B]at q;refine I.write (x:=l) (e:=l) (by rw[F];exact trivial) (.inl rfl) (fun U u J z=>(Ck s.heap (Bp f) (DL J)).trans z) ⟨_,q⟩ ?_;exact⟨hz,its',_,O,q⟩
theorem Inv.lnew{its:List Ab}{t':Nat}(I:Inv X dh σ H s)(z:cZ ys its)(hz:ys.length≤sizeLine):
  Inv X dh σ (upd H s.heap.objs.size (.lst ys)) { s with heap:=s.heap.push { cls:=.type "list",data:=.seq its.toArray },toks:=t' }:=
 I.laid (fun _ _ q=>Ai _ q) (Ap _) ⟨hz,its,0,z,Ax _ rfl⟩
theorem Inv.fresh(I:Inv X dh σ H s):H s.heap.objs.size=none:=I.hok.fresh (Ap _)
theorem Inv.lstM(I:Inv X dh σ H s)(B:H l=some (.lst xs)):xs.length≤sizeLine∧∃(its:List Ab) (n:Nat),cZ xs its∧xs.length=its.length∧s.heap.get? l=some { cls:=.type "list",data:=.seq its.toArray n }:=by
 obtain⟨z,its,n,r,e⟩:=I.hok l _ B;exact⟨z,its,n,r,r.length,e⟩
end
section
variable{X:Cx}
inductive xJ(x:V)(vs:List V)(H:Hp)(Q:VK):Prop
 | mk (l:_) (xs:_) (y:_) (q0:x=.ref l) (q1:vs=[y]) (q2:H l=some (.lst xs)) (q3:xs.length < sizeLine) (q4:Q .non (upd H l (.lst (xs ++ [y])))):xJ x vs H Q
def aHi:V→List V→Hp→VK→Prop:=fun x vs H Q=>xJ x vs H Q
theorem fS:MtM X "list.append" aHi:=by
 intro dh s σ H x vs v O Q I B J h;obtain⟨l,xs,y,rfl,rfl,hH,hz,q⟩:=h;cases B;obtain⟨u,rfl,ru⟩:=J.one;obtain⟨z,its,n,r,hl,e⟩:=I.lstM hH;refine Ft F.slot_list_append ⟨_,e,rfl⟩ F.entry_list_append (F.args_list_append_2 _ _) (PySem.list_append l its.toArray n u (by rw[Ar];omega)) ⟨e,?_⟩;refine⟨.non,_,I.lset (its':=its ++ [u]) hH e (by simp) (r.append (.cons ru .nil)) ?_,rfl,q⟩;rw[Av,EI];omega
inductive aAE(x:V)(vs:List V)(H:Hp)(Q:VK):Prop
 | mk (l:_) (xs:_) (i:_) (k:_) (y:_) (q0:x=.ref l) (q1:vs=[.int i]) (q2:H l=some (.lst xs)) (q3:-(2 ^ 63)≤i) (q4:i < 2 ^ 63) (q5:seqIndex? i xs.length=some k) (q6:xs[k]?=some y) (q7:Q y (upd H l (.lst (xs.eraseIdx k)))):aAE x vs H Q
def aI8:V→List V→Hp→VK→Prop:=fun x vs H Q=>aAE x vs H Q
theorem aAF:MtM X "list.pop" aI8:=by
 intro dh s σ H x vs v O Q I B J h;obtain⟨l,xs,i,k,y,rfl,rfl,hH,h1,h2,hk,hy,q⟩:=h;cases B;obtain⟨u,rfl,ru⟩:=J.one;obtain⟨t,rfl⟩:=ru;obtain⟨z,its,n,r,hl,e⟩:=I.lstM hH;obtain⟨w,hw,rw'⟩:=r.get hy;refine Ft F.slot_list_pop ⟨_,e,rfl⟩ F.entry_list_pop (F.args_list_pop_2 _ _)
  (MeetsSeq.list_pop_at l its.toArray n i t k w (fitsIndex_both h1 h2) (by rw[Ar,← hl];exact hk) (by rw[← Array.getElem?_toList];exact hw) (by rw[Ar];omega)) ⟨e,?_⟩
 refine⟨y,_,I.lset (its':=its.eraseIdx k) hH e ?_ (r.eraseIdx k) ?_,rw',q⟩
 ·show its.toArray.eraseIdxIfInBounds k=(its.eraseIdx k).toArray;rw[List.eraseIdxIfInBounds_toArray]
 ·have:=xI xs k;omega
inductive aFa(x:V)(y:V)(H:Hp)(Q:VK):Prop
 | mk (l:_) (b:_) (xs:_) (zs:_) (q0:x=.ref l) (q1:y=.ref b) (q2:H l=some (.lst xs)) (q3:H b=some (.lst zs)) (q4:xs.length + zs.length≤sizeLine) (q5:∀ p,H p=none→Q (.ref p) (upd H p (.lst (xs ++ zs)))):aFa x y H Q
def aLa:R2:=fun x y H Q=>aFa x y H Q
theorem zN:OpR X (binaryOp .Add) aLa:=by
 intro dh s σ H x y v u Q I B J h;obtain⟨l,b,xs,zs,rfl,rfl,hH,hB,hz,q⟩:=h;cases B;cases J;obtain⟨z,its,n,r,hl,e⟩:=I.lstM hH;obtain⟨z2,its2,n2,r2,hl2,e2⟩:=I.lstM hB;refine PySem.P.add_list e e2 ?_ (by rw[Ar,Ar];omega);have F:its.toArray ++ its2.toArray=(its ++ its2).toArray:=by simp
 rw[F];exact⟨.ref _,_,I.lnew (t':=s.toks) (r.append r2) (by rw[Av];omega),rfl,q _ I.fresh⟩
end
section
variable{prog:Ay}{w:AS}{A:AN}{E:Ab→Ad→Prop}{s:Ad}
end
section
variable{X:Cx}
end
section
variable{κ:Type}[DecidableEq κ]
def iT(di:List (κ×V))(k:κ):Option V:=(di.find? fun kv=>decide (kv.1=k)).map (·.2)
def iH(di:List (κ×V))(k:κ)(v:V):List (κ×V):=
 if (di.any fun kv=>decide (kv.1=k))=true then di.map (fun kv=>if kv.1=k then(kv.1,v) else kv) else di ++ [(k,v)]
def aLu(di:List (κ×V))(k:κ):List (κ×V):=di.filter fun kv=>decide (kv.1≠k)
theorem uA{k:κ}:iT ([]:List (κ×V)) k=none:=rfl
theorem lB{p:κ×V}{r:List (κ×V)}{k:κ}(e:p.1=k):iT (p :: r) k=some p.2:=by simp[iT,Dr,e]
theorem dX{p:κ×V}{r:List (κ×V)}{k:κ}(e:¬ p.1=k):iT (p :: r) k=iT r k:=by simp[iT,Dr,e]
theorem uB(k:κ):∀ di:List (κ×V),(di.any fun z=>decide (z.1=k))=(iT di k).isSome
 | []=>rfl
 | p :: r=>by
  rw[Dp];by_cases e:p.1=k
  ·simp only[lB e,Ic e,Bool.true_or,Option.isSome_some]
  ·rw[dX e,decide_eq_false e,Bool.false_or];exact uB k r
theorem nC(di:List (κ×V))(k:κ)(v:V):(iH di k v).length≤di.length + 1:=by
 unfold iH;split
 ·rw[Ae];omega
 ·rw[Av,A1,EG];omega
theorem uC{di:List (κ×V)}{k:κ}(v:V)(h:iT di k=none):iH di k v=di ++ [(k,v)]:=by
 unfold iH;rw[uB,h];exact Ia (by decide)
theorem pM.isSome_eq{o:Option V}{u:Option Ab}(r:pM o u):o.isSome=u.isSome:=by
 cases o with
 | none=>cases u with
  | none=>rfl
  | some _=>exact(show False from r).elim
 | some _=>cases u with
  | none=>exact(show False from r).elim
  | some _=>rfl
theorem pM.getD{o:Option V}{u:Option Ab}{d:V}{d':Ab}(r:pM o u)(rd:dA d d'):dA (o.getD d) (u.getD d'):=by
 cases o with
 | none=>cases u with
  | none=>exact rd
  | some _=>exact(show False from r).elim
 | some _=>cases u with
  | none=>exact(show False from r).elim
  | some _=>exact r
theorem KV.val{di:List (κ×V)}{vs:List (κ×Ab)}(r:KV di vs)(k:κ):pM (iT di k) (valueAt vs k):=by
 unfold KV at r
 induction r with
 | nil=>exact B6
 | @cons p q ps F h t J=>
  obtain⟨h1,h2⟩:=h;by_cases e:p.1=k
  ·have B:q.1=k:=h1.symm.trans e;have b:valueAt (q :: F) k=some q.2:=by simp[valueAt,Dr,B]
   rw[lB e,b];exact h2
  ·have B:¬ q.1=k:=fun z=>e (h1.trans z);have b:valueAt (q :: F) k=valueAt F k:=by simp[valueAt,Dr,B]
   rw[dX e,b];exact J
theorem KV.any{di:List (κ×V)}{vs:List (κ×Ab)}(r:KV di vs)(k:κ):(di.any fun z=>decide (z.1=k))=vs.any fun z=>decide (z.1=k):=by
 unfold KV at r
 induction r with
 | nil=>rfl
 | cons h t B=>rw[Dp,Dp,B,h.1]
theorem KV.repl{di:List (κ×V)}{vs:List (κ×Ab)}(r:KV di vs)(k:κ){y:V}{u:Ab}(J:dA y u):
  KV (di.map fun B=>if B.1=k then(B.1,y) else B) (vs.map fun B=>if B.1=k then(B.1,u) else B):=by
 unfold KV at r ⊢
 induction r with
 | nil=>exact .nil
 | @cons p q ps O h t F=>
  rw[A8,A8];refine .cons ?_ F;obtain⟨h1,h2⟩:=h;by_cases e:p.1=k
  ·rw[Ib e,Ib (h1.symm.trans e)];exact⟨h1,J⟩
  ·rw[Ia e,Ia (fun z=>e (h1.trans z))];exact⟨h1,h2⟩
theorem KV.put{di:List (κ×V)}{vs:List (κ×Ab)}(r:KV di vs)(k:κ){y:V}{u:Ab}(z:dA y u):KV (iH di k y) (stored vs k u):=by
 unfold iH stored;rw[r.any k];by_cases e:(vs.any fun B=>decide (B.1=k))=true
 ·rw[Ib e,Ib e];exact r.repl k z
 ·rw[Ia e,Ia e];exact Paired.snoc r ⟨rfl,z⟩
theorem KV.length{di:List (κ×V)}{vs:List (κ×Ab)}(r:KV di vs):di.length=vs.length:=FO r
end
theorem uD{P:Ay}{w:AS}{k:Key}{u:Ab}(r:dA (kV k) u):(dE P w).is k u=true:=by
 cases k with
 | inl i=>obtain⟨t,e⟩:=(show∃ t,u=B5 i t from r);subst e;exact aAv P w i t
 | inr x=>obtain⟨t,e⟩:=(show∃ t,u=BA x t from r);subst e;exact aAw P w x t
theorem xK{P:Ay}{w:AS}:∀{ks:List Key}{z:List Ab},cZ (ks.map kV) z→ItemsAre (dE P w) ks z
 | [],_,r=>by rw[D4]at r;cases r;exact .nil
 | k :: ks,_,r=>by
  rw[A8]at r;cases r with
  | cons h t=>exact .cons (uD h) (xK t)
abbrev KT(H:Hp):List (List Key×V)→List (List Key×Ac×Ab)→Prop:=Er fun p q=>p.1=q.1∧H q.2.1=some (.tup (p.1.map kV))∧dA p.2 q.2.2
theorem KT.val{H:Hp}{di:List (List Key×V)}{xs:List (List Key×Ac×Ab)}(r:KT H di xs)(k:List Key):pM (iT di k) ((atKey xs k).map (·.2)):=by
 induction r with
 | nil=>exact B6
 | @cons p q ps F h t J=>
  obtain⟨h1,_,h2⟩:=h;by_cases e:p.1=k
  ·have B:q.1=k:=h1.symm.trans e;have b:atKey (q :: F) k=some q.2:=by simp[atKey,Dr,B]
   rw[lB e,b];exact h2
  ·have B:¬ q.1=k:=fun z=>e (h1.trans z);have b:atKey (q :: F) k=atKey F k:=by simp[atKey,Dr,B]
   rw[dX e,b];exact J
theorem KT.repl{H:Hp}{di:List (List Key×V)}{xs:List (List Key×Ac×Ab)}(r:KT H di xs)(k:List Key){y:V}{u:Ab}(J:dA y u):
  KT H (di.map fun B=>if B.1=k then(B.1,y) else B) (xs.map (putAt k u)):=by
 induction r with
 | nil=>exact .nil
 | @cons p q ps O h t F=>
  rw[A8,A8];refine .cons ?_ F;obtain⟨h1,h2,h3⟩:=h;unfold putAt;by_cases e:p.1=k
  ·rw[Ib e,Ib (h1.symm.trans e)];exact⟨h1,h2,J⟩
  ·rw[Ia e,Ia (fun z=>e (h1.trans z))];exact⟨h1,h2,h3⟩
theorem KT.put{H:Hp}{di:List (List Key×V)}{xs:List (List Key×Ac×Ab)}(r:KT H di xs)(k:List Key){b:Ac}{y:V}{u:Ab}(F:H b=some (.tup (k.map kV)))(z:dA y u):
  KT H (iH di k y) (storedH xs k b u):=by
 have e:(di.any fun B=>decide (B.1=k))=(atKey xs k).isSome:=by
  rw[uB,(r.val k).isSome_eq,Option.isSome_map]
 unfold iH storedH;rw[e];by_cases q:(atKey xs k).isSome=true
 ·rw[Ib q,Ib q];exact r.repl k z
 ·rw[Ia q,Ia q];exact Paired.snoc r ⟨rfl,F,z⟩
theorem KT.keeps{H H':Hp}{di:List (List Key×V)}{xs:List (List Key×Ac×Ab)}(r:KT H di xs)(ht:∀ b ys,H b=some (.tup ys)→H' b=some (.tup ys)):KT H' di xs:=
 Paired.mapP r fun _ _ z=>⟨z.1,ht _ _ z.2.1,z.2.2⟩
section
variable{P:Ay}{w:AS}{H:Hp}{h:A4}{a:Ac}
theorem aIm{u:HO}(ok:HOk P w H h)(e:Rd H a u):c5 P w H h a u:=e.ok ok
theorem aAG{di:List (Key×V)}(ok:HOk P w H h)(e:Rd H a (.dK di)):di.length≤sizeLine∧(a == sysModules)=false∧∃ vs,KV di vs∧h.DictOf (dE P w) a vs:=
 show c5 P w H h a (.dK di) from aIm ok e
theorem aFb{di:List (Key×V)}(ok:HOk P w H h)(e:H a=some (.dK di)):di.length≤sizeLine∧(a == sysModules)=false∧∃ vs,KV di vs∧h.DictOf (dE P w) a vs:=aAG ok (.inl e)
theorem zO{ks:List Key}(ok:HOk P w H h)(e:H a=some (.tup (ks.map kV))):(tupleKind (dE P w)).is h ks a:=by
 obtain⟨_,its,r,o,h1,⟨h2,n,h3⟩,_⟩:=(show c5 P w H h a (.tup (ks.map kV)) from ok a _ e)
 exact⟨o,its.toArray,n,h1,h2,h3,by simpa using xK r⟩
theorem aAH{di:List (List Key×V)}(ok:HOk P w H h)(e:Rd H a (.dT di)):di.length≤sizeLine∧(a == sysModules)=false∧
  ∃ xs,KT H di xs∧h.DictOfH (tupleKind (dE P w)) a xs:=by
 obtain⟨z,y,xs,r,o,es,ep,h1,h2,h3,h4,h5⟩:=(show c5 P w H h a (.dT di) from aIm ok e)
 refine⟨z,y,xs,r,o,es,ep,h1,h2,h3,h4,fun x B=>?_,h5⟩;have all:∀{l:List (List Key×V)} {m:List (List Key×Ac×Ab)},KT H l m→∀ x∈m,(tupleKind (dE P w)).is h x.1 x.2.1:=by
  intro l m q
  induction q with
  | nil=>intro x B;exact nomatch B
  | @cons p q ps O F t J=>
   intro x B;rcases Al.mp B with e | B
   ·subst e;exact zO ok (by rw[← F.1];exact F.2.1)
   ·exact J x B
 exact all r x B
theorem aKk{di:List (List Key×V)}(ok:HOk P w H h)(e:H a=some (.dT di)):di.length≤sizeLine∧(a == sysModules)=false∧
  ∃ xs,KT H di xs∧h.DictOfH (tupleKind (dE P w)) a xs:=aAH ok (.inl e)
end
def qK(H:Hp)(a:Ac)(y:V)(r:Option V):Prop:=
 (∃ di k,Rd H a (.dK di)∧y=kV k∧r=iT di k)∨∃ di k b,Rd H a (.dT di)∧y=.ref b∧H b=some (.tup (k.map kV))∧r=iT di k
def aAI(H:Hp)(a:Ac)(y v:V)(H':Hp):Prop:=
 (∃ di k,H a=some (.dK di)∧y=kV k∧di.length < sizeLine∧H'=upd H a (.dK (iH di k v)))∨
 ∃ di k b,H a=some (.dT di)∧y=.ref b∧H b=some (.tup (k.map kV))∧di.length < sizeLine∧H'=upd H a (.dT (iH di k v))
theorem qK.k{H:Hp}{a:Ac}{di:List (Key×V)}{k:Key}(e:H a=some (.dK di)):qK H a (kV k) (iT di k):=.inl ⟨di,k,.inl e,rfl,rfl⟩
theorem aAI.k{H:Hp}{a:Ac}{di:List (Key×V)}{k:Key}{v:V}(e:H a=some (.dK di))(z:di.length < sizeLine):aAI H a (kV k) v (upd H a (.dK (iH di k v))):=.inl ⟨di,k,e,rfl,z,rfl⟩
section
variable{X:Cx}{dh:List (Ac×Obj)}{σ:St}{H:Hp}{s:Ad}{a:Ac}{y v:V}{u r:Ab}{o:Option V}{A:AN}{E:Ab→Ad→Prop}
theorem Inv.big(I:Inv X dh σ H s):sysModules < s.heap.objs.size:=by
 have h:mainGlobals < s.heap.objs.size:=(I.mod.glob.keeps I.bk).lt;exact DH (by decide) h
theorem aDW{Q:Ab→Ad→Prop}(J:A.units + 1 < cLine)(I:Inv X dh σ H s)(g:qK H a y (some v))(F:dA y u)(h:∀ B s',Inv X dh σ H s'→dA v B→Q B s'):
  wpAny (model X.prog X.w) A (getItem (.ref a) u) Q E s:=by
 rcases g with⟨di,k,e,ey,l⟩ | ⟨di,k,b,e,ey,eb,l⟩
 ·subst ey;obtain⟨z,hd,vs,rel,dd⟩:=aAG I.hok e;obtain⟨B,hw,rw'⟩:=pM.some_of (v:=v) (o:=valueAt vs k) (by rw[l];exact rel.val k);exact wpAny_getItem_of (uD F) dd.mapOf hw (h B _ (I.tok _) rw')
 ·subst ey;cases(show u=AJ b from F);obtain⟨z,hd,xs,rel,dd⟩:=aAH I.hok e;obtain⟨B,hw,rw'⟩:=pM.some_of (v:=v) (o:=(atKey xs k).map (·.2)) (by rw[l];exact rel.val k)
  obtain⟨p,hp,hp2⟩:=Ex.mp hw;refine wpAny_getItem_heap (Fs J) (zO I.hok eb) dd hp ?_;rw[hp2];exact h B _ (I.tok _) rw'
theorem zP{h':A4}{t':Nat}{ob:HO}(I:Inv X dh σ H s)(J:Mut (H a))(B:DF a s.heap h')(O:∃ q,h'.get? a=some q)(new:c5 X.prog X.w (upd H a ob) h' a ob):
  Inv X dh σ (upd H a ob) { s with heap:=h',toks:=t' }:=
 I.write (x:=a) (e:=a) J (.inl rfl) (fun b q F z=>(B.2 b F).trans z) O new
theorem aFc{P:Ay}{w:AS}{H':Hp}{h':A4}{di:List (Key×V)}{vs:List (Key×Ab)}(z:di.length≤sizeLine)(hd:(a == sysModules)=false)(rel:KV di vs)(dd:h'.DictOf (dE P w) a vs):
  c5 P w H' h' a (.dK di):=⟨z,hd,vs,rel,dd⟩
theorem aDX{H':Hp}{Q:Unit→Ad→Prop}(Y:A.units + 1 < cLine)(I:Inv X dh σ H s)(g:aAI H a y v H')(W:dA y u)(U:dA v r)(h:∀ s',Inv X dh σ H' s'→Q () s'):
  wpAny (model X.prog X.w) A (setItem (.ref a) u r) Q E s:=by
 rcases g with⟨di,k,e,ey,l,eH⟩ | ⟨di,k,b,e,ey,eb,l,eH⟩
 ·subst ey eH;obtain⟨z,hd,vs,rel,dd⟩:=aFb I.hok e;have hz:vs.length≤sizeLine:=by rw[← rel.length];exact z
  have F:(iH di k v).length≤sizeLine:=by have:=nC di k v;omega
  refine wpAny_setItem_pairs (hsz:=hz) (uD W) dd fun h' B J=>h _ ?_;have Z:∃ q,h'.get? a=some q:=let ⟨q,_,_,hq,_⟩:=B;⟨q,hq⟩
  exact zP I (by rw[e];exact B6) J Z (aFc F hd (rel.put k U) B)
 ·subst ey eH;cases(show u=AJ b from W);obtain⟨z,hd,xs,rel,dd⟩:=aKk I.hok e;have hz:xs.length≤sizeLine:=by rw[← FO rel];exact z
  have F:(iH di k v).length≤sizeLine:=by have:=nC di k v;omega
  refine wpAny_setItem_heap (hsz:=hz) (Fs Y) (zO I.hok eb) dd fun h' B J=>h _ ?_;obtain⟨q,es,ep,hq,h2,h3,h4,_,h5⟩:=B;refine zP I (by rw[e];exact B6) J ⟨q,hq⟩ ⟨F,hd,_,(rel.put k eb U).keeps fun c ys O=>?_,q,es,ep,hq,h2,h3,h4,h5⟩;rw[aW (aEM O e (fun z=>nomatch z))];exact O
end
section
variable{X:Cx}{dh:List (Ac×Obj)}{σ:St}{H:Hp}{s:Ad}{a:Ac}{di:List (Key×V)}{k:Key}{u:Ab}{A:AN}{E:Ab→Ad→Prop}
end
def aI9(i:Bc):Prop:=∀ ov iv,subscripted i false ov iv=operate [ov,iv] (getItem ov iv)
theorem aC0{prog:Ay}{w:AS}{A:AN}{E:Ab→Ad→Prop}{s:Ad}{env:Env}{value z:Bc}{pos:Pos}{T id:String}{Q:Ab→Ad→Prop}
  (Z:typeLookup (.type T) "__getitem__"=pure (some (.builtin id))) (hs:aI9 z)
  (h:wpAny (model prog w) A (eval value env) (fun o O=>wpAny (model prog w) A (eval z env) (fun i F=>F.TypeIs o T∧wpAny (model prog w) A (getItem o i) Q E F) E O) E s):
  wpAny (model prog w) A (eval (.Subscript value z pos) env) Q E s:=by
 refine Subscript_ (BG h (fun o O Y=>BG Y (fun i F J=>?_) fun _ _ x=>x) fun _ _ x=>x);obtain⟨hT,J⟩:=J;unfold subscriptTail;refine Aa ?_;rw[getitemInPython_of_ne hT.not_modules];refine Aa (Ec hT Z ?_);have B:wpAny (model prog w) A (subscripted z false o i) (fun r U=>wpAny (model prog w) A (letTemporaryGo value o r >>= fun _=>pure r) Q E U) E F:=by
  rw[hs o i];exact wpAny_operating (BG J (fun r U W=>Aa (wpAny_letTemporaryGo (Af W))) fun _ _ x=>x)
 first
  | exact Af (Aa B)
  | exact Aa (Af (Aa B))
  | exact Aa B
theorem aAJ{X:Cx}{dh:List (Ac×Obj)}{σ:St}{H:Hp}{s:Ad}{a:Ac}{y:V}{o:Option V}(I:Inv X dh σ H s)(g:qK H a y o):s.TypeIs (.ref a) "dict":=by
 rcases g with⟨di,k,e,_,_⟩ | ⟨di,k,b,e,_,_,_⟩
 ·obtain⟨_,_,vs,_,dd⟩:=aAG I.hok e;exact dd.typeIs
 ·obtain⟨_,_,xs,_,dd⟩:=aAH I.hok e;exact dd.typeIs
def aKl(td ty:TE):TE:=fun σ H Q=>td σ H fun x H1=>ty σ H1 fun y H2=>∃ a v,x=.ref a∧qK H2 a y (some v)∧Q v H2
def aKm(td ty tv:TE):TS:=fun D σ H=>tv σ H fun v H1=>td σ H1 fun x H2=>ty σ H2 fun y H3=>∃ a H4,x=.ref a∧aAI H3 a y v H4∧D.nx σ H4
section
variable{X:Cx}{o i e value:Bc}{pos fo tpos:Pos}{td ty tv:TE}
theorem pR(O:X.A.units + 1 < cLine)(W:PE X o td)(hi:PE X i ty)(Z:aI9 i):PE X (.Subscript o i pos) (aKl td ty):=by
 constructor;intro dh s σ H Q I h;refine aC0 PySem.F.slot_dict_getitem.lookup Z (thn (W dh s σ H _ I h) fun u s1 ⟨x,H1,I1,Y,U⟩=>thn (hi dh s1 σ H1 _ I1 U) fun iv s2 ⟨y,H2,B,ry,a,v,ex,g,J⟩=>?_);subst ex;obtain rfl:u=AJ a:=Y;exact⟨aAJ B g,aDW O B g ry fun w' s3 I3 z=>⟨v,H2,I3,z,J⟩⟩
theorem zQ(O:X.A.units + 1 < cLine)(Z:PE X o td)(hi:PE X i ty)(J:PE X value tv)(hs:swapsWith value (some (.Subscript o i fo)) pos.line X.env=pure false):
  PS X (.Assign [.Subscript o i fo] value pos) (aKm td ty tv):=by
 constructor;intro dh s σ H D I h;refine wpAny_Assign_Subscript (thn (J dh s σ H _ I h) fun r s1 ⟨v,H1,I1,W,U⟩=>thn (Z dh s1 σ H1 _ I1 U) fun u s2 ⟨x,H2,I2,rx,F⟩=>thn (hi dh s2 σ H2 _ I2 F) fun iv s3 ⟨y,H3,I3,ry,a,B,ex,g,z⟩=>?_) hs;subst ex;obtain rfl:u=AJ a:=rx;exact aDX O I3 g ry W fun s4 Y=>⟨σ,B,Y,z⟩
end
theorem aAK{P:Ay}{w:AS}{H:Hp}(h:A4)(z:sysModules < h.objs.size):c5 P w H (h.push { cls:=.type "dict",data:=.dict #[] }) h.objs.size (.dK []):=
 ⟨Bu _,beq_eq_false_iff_ne.mpr (DL (AB z)),[],.nil,Heap.DictOf.new h⟩
def aJa:TE:=fun _ H Q=>∀ p,H p=none→Q (.ref p) (upd H p (.dK []))
section
variable{X:Cx}{pos:Pos}
theorem aAL:PE X (.Dict [] [] pos) aJa:=⟨fun dh s σ H Q I h=>
 wpAny_Dict_empty ⟨.ref s.heap.objs.size,_,I.laid (a:=s.heap.objs.size) (o:=.dK []) (t':=s.toks) (fun _ _ q=>Ai _ q) (Ap _) (aAK s.heap I.big),rfl,h _ (I.hok.fresh (Ap _))⟩⟩
end
def aB1:List (TE×TE)→St→Hp→(List (V×V)→Hp→Prop)→Prop
 | [],_,H,Q=>Q [] H
 | (tk,tv) :: r,σ,H,Q=>tk σ H fun x H1=>tv σ H1 fun y H2=>aB1 r σ H2 fun ps H3=>Q ((x,y) :: ps) H3
abbrev VV:List (V×V)→List (Ab×Ab)→Prop:=Er fun p q=>dA p.1 q.1∧dA p.2 q.2
def PPs(X:Cx)(pos:Pos)(keys:List (Option Bc))(values:List Bc)(trs:List (TE×TE)):Prop:=
 ∀(dh:List (Ac×Obj)) (s:Ad) (σ:St) (H:Hp) (Q:List (V×V)→Hp→Prop),Inv X dh σ H s→aB1 trs σ H Q→
  wpAny (model X.prog X.w) X.A (evalPairs (pairTrees keys values X.env pos)) (fun vs s'=>∃ ps H',Inv X dh σ H' s'∧VV ps vs∧Q ps H') X.xe s
theorem aC1{X:Cx}{pos:Pos}:PPs X pos [] [] []:=fun dh s σ H Q I h=>pairTrees_nil_walk ⟨[],H,I,.nil,h⟩
theorem iU{X:Cx}{pos:Pos}{k v:Bc}{ks:List (Option Bc)}{vs:List Bc}{tk tv:TE}{z:List (TE×TE)}(F:PE X k tk)(O:PE X v tv)(hr:PPs X pos ks vs z):
  PPs X pos (some k :: ks) (v :: vs) ((tk,tv) :: z):=fun dh s σ H Q I h=>
 pairTrees_cons_walk (thn (F dh s σ H _ I h) fun u s1 ⟨x,H1,I1,Z,U⟩=>thn (O dh s1 σ H1 _ I1 U) fun w2 s2 ⟨y,H2,Y,ry,J⟩=>
  thn (hr dh s2 σ H2 _ Y J) fun ws s3 ⟨ps,W,I3,rel,B⟩=>⟨(x,y) :: ps,W,I3,.cons ⟨Z,ry⟩ rel,B⟩)
def oY(di more:List (Key×V)):List (Key×V):=more.foldl (fun acc kv=>iH acc kv.1 kv.2) di
theorem KV.merge:∀{more:List (Key×V)}{rs:List (Key×Ab)}{di:List (Key×V)}{vs:List (Key×Ab)},KV more rs→KV di vs→KV (oY di more) (merged vs rs):=by
 intro more rs di vs r;unfold KV at r
 induction r generalizing di vs with
 | nil=>intro q;exact q
 | @cons p q ps F h t z=>
  intro B;have e:KV (iH di p.1 p.2) (stored vs q.1 q.2):=by
   have:=B.put p.1 h.2;rw[← h.1];exact this
  exact z e
theorem oJ:∀(more di:List (Key×V)),(oY di more).length≤di.length + more.length
 | [],di=>by show di.length≤di.length + 0;omega
 | p :: r,di=>by
  have h1:=oJ r (iH di p.1 p.2);have h2:=nC di p.1 p.2;show(oY (iH di p.1 p.2) r).length≤_;rw[A1];omega
theorem uE{P:Ay}{w:AS}:∀{di:List (Key×V)}{B:List (Ab×Ab)},VV (di.map fun z=>(kV z.1,z.2)) B→∃ rs,Carries (dE P w) B rs∧KV di rs
 | [],_,r=>by rw[D4]at r;cases r;exact⟨[],B6,.nil⟩
 | p :: di,_,r=>by
  rw[A8]at r;cases r with
  | @cons a b as bs h t=>
   obtain⟨rs,c,q⟩:=uE (P:=P) (w:=w) t;obtain⟨b1,b2⟩:=b;exact⟨(p.1,b2) :: rs,⟨uD h.1,rfl,c⟩,.cons ⟨rfl,h.2⟩ q⟩
def aKn(trs:List (TE×TE)):TE:=fun σ H Q=>∀ p,H p=none→aB1 trs σ (upd H p (.dK [])) fun ps H2=>H2 p=some (.dK [])∧∃ di:List (Key×V),ps=di.map (fun kv=>(kV kv.1,kv.2))∧di.length≤15∧Q (.ref p) (upd H2 p (.dK (oY [] di)))
theorem aC2{X:Cx}{pos:Pos}{B:List (Option Bc)}{F:List Bc}{J:List (TE×TE)}(h:PPs X pos B F J)(U:B.all (·.isSome)=true)(hl:B.length=F.length)(h0:B≠[])
  (W:B.length≤15):PE X (.Dict B F pos) (aKn J):=by
 constructor;intro dh s σ H Q I q;have hn:=I.hok.fresh (Ap s.heap.objs.size);have I1:=I.laid (a:=s.heap.objs.size) (o:=.dK []) (h':=s.heap.push { cls:=.type "dict",data:=.dict #[] }) (t':=s.toks) (fun _ _ q=>Ai _ q) (Ap _) (aAK s.heap I.big);refine wpAny_Dict_walk (knd:=dE X.prog X.w) U hl h0 W (thn (h dh _ σ _ _ I1 (q _ hn)) fun ws s2 ⟨ps,H2,Y,rel,e,di,ep,lk,Z⟩=>?_);subst ep;obtain⟨rs,c,rk⟩:=uE (P:=X.prog) (w:=X.w) rel;obtain⟨z,hd,vs0,r0,dd⟩:=aFb Y.hok e;cases r0;refine⟨rs,c,dd,fun h' O hs=>⟨.ref s.heap.objs.size,_,?_,rfl,Z⟩⟩;have hz:(oY [] di).length≤sizeLine:=by
  have h1:=oJ di [];rw[EG]at h1;rw[FX];omega
 have he:∃ q,h'.get? s.heap.objs.size=some q:=let ⟨q,_,_,hq,_⟩:=O;⟨q,hq⟩
 exact zP Y (by rw[e];exact B6) hs he (aFc hz hd (rk.merge .nil) O)
structure M1(X:Cx)(o:Bc)(m:Str)(ff:Pos)(e:Bc)(ee:Pos):Prop where
 base:attributeBase o m X.env (eval o X.env)=eval o X.env
 few:((backTo ee (starEach [e] X.env)).all (fun x=>!x.1) && (backToKw ee (keywordEach [] X.env)).all (fun x=>x.1.isSome)
  && decide (([e]:List Bc).length + ([]:List Ej).length + (if ([]:List Ej).isEmpty then 0 else 1) < 30))=true
 line:(ff.endLine == ee.line)=true
 trees:backTo ee (starEach [e] X.env)=[(false,eval e X.env)]
structure M2(X:Cx)(o:Bc)(m:Str)(ff:Pos)(e f:Bc)(ee:Pos):Prop where
 base:attributeBase o m X.env (eval o X.env)=eval o X.env
 few:((backTo ee (starEach [e,f] X.env)).all (fun x=>!x.1) && (backToKw ee (keywordEach [] X.env)).all (fun x=>x.1.isSome)
  && decide (([e,f]:List Bc).length + ([]:List Ej).length + (if ([]:List Ej).isEmpty then 0 else 1) < 30))=true
 line:(ff.endLine == ee.line)=true
 trees:backTo ee (starEach [e,f] X.env)=[(false,eval e X.env),(false,eval f X.env)]
def IsD(H:Hp)(a:Ac):Prop:=(∃ di,Rd H a (.dK di))∨∃ di,Rd H a (.dT di)
theorem aJb{X:Cx}{dh:List (Ac×Obj)}{σ:St}{H:Hp}{s:Ad}{a:Ac}(I:Inv X dh σ H s)(d:IsD H a):
  s.TypeIs (.ref a) "dict"∧(∀ b,AJ a=.ref b→∃ ob,s.heap.get? b=some ob∧ob.dict=none)∧(a == sysModules)=false:=by
 rcases d with⟨di,e⟩ | ⟨di,e⟩
 ·obtain⟨_,hd,vs,_,dd⟩:=aAG I.hok e;refine⟨dd.typeIs,fun b q=>?_,hd⟩;cases q;obtain⟨ob,_,_,h1,h2,_⟩:=dd;exact⟨ob,h1,h2.2.1⟩
 ·obtain⟨_,hd,xs,_,dd⟩:=aAH I.hok e;refine⟨dd.typeIs,fun b q=>?_,hd⟩;cases q;obtain⟨ob,_,_,h1,h2,_⟩:=dd;exact⟨ob,h1,h2.2.1⟩
section
variable{X:Cx}{dh:List (Ac×Obj)}{σ:St}{H:Hp}{s:Ad}{a:Ac}{y d:V}{u r:Ab}{o:Option V}{A:AN}{E:Ab→Ad→Prop}
theorem aJc{Q:Ab→Ad→Prop}(O:A.units + 1 < cLine)(I:Inv X dh σ H s)(g:qK H a y o)(B:dA y u)(rd:dA d r)(h:∀ J s',Inv X dh σ H s'→dA (o.getD d) J→Q J s'):
  wpAny (model X.prog X.w) A (call (.builtin "dict.get") [.ref a,u,r]) Q E s:=by
 rcases g with⟨di,k,e,ey,l⟩ | ⟨di,k,b,e,ey,eb,l⟩
 ·subst ey;obtain⟨z,hd,vs,rel,dd⟩:=aAG I.hok e;refine call_meetsIn EB dd.typeIs PySem.F.entry_dict_get (PySem.F.args_dict_get_3 _ _ _) (meets_dict_get_default (dE X.prog X.w) a (uD B) hd r) ⟨_,dd.mapOf,h _ _ (I.tok _) ?_⟩;rw[l];exact(rel.val k).getD rd
 ·subst ey;cases(show u=AJ b from B);obtain⟨z,hd,xs,rel,dd⟩:=aAH I.hok e;refine call_meetsIn EB dd.typeIs PySem.F.entry_dict_get (PySem.F.args_dict_get_3 _ _ _) (meetsH_dict_get_default (tupleKind (dE X.prog X.w)) a b hd r) ⟨Fs O,k,xs,zO I.hok eb,dd,h _ _ (I.tok _) ?_⟩;rw[l];exact(rel.val k).getD rd
end
def aJd(td ty tx:TE):TE:=fun σ H Q=>td σ H fun x H1=>∃ a,x=.ref a∧IsD H1 a∧ty σ H1 fun y H2=>tx σ H2 fun z H3=>∃ o,qK H3 a y o∧Q (o.getD z) H3
section
variable{X:Cx}{o e f:Bc}{ff ee:Pos}{td ty tx:TE}
theorem aFd(Y:X.A.units + 1 < cLine)(ho:PE X o td)(he:PE X e ty)(U:PE X f tx)(m:M2 X o "get" ff e f ee):PE X (.Call (.Attribute o "get" ff) [e,f] [] ee) (aJd td ty tx):=by
 constructor;intro dh s σ H Q I h;refine wpAny_Call_method m.base m.few m.line PySem.F.plainAttrs_dict EB PySem.F.type_dict_get (thn (ho dh s σ H _ I h) fun u s1 ⟨x,H1,J,rx,a,ex,d,Z⟩=>?_);subst ex;obtain rfl:u=AJ a:=rx;obtain⟨t1,t2,_⟩:=aJb J d;refine⟨t1,t2,?_⟩;rw[m.trees];refine Calls.callWith_builtin rfl (EJ (E8 (thn (he dh s1 σ H1 _ J Z) fun iv s2 ⟨y,H2,I2,ry,W⟩=>
  E8 (thn (U dh s2 σ H2 _ I2 W) fun fv s3 ⟨z,H3,I3,rz,ov,g,O⟩=>Calls.spliced_nil ?_))))
 exact aJc Y I3 g ry rz fun w' s4 I4 B=>⟨_,H3,I4,B,O⟩
end
section
variable{X:Cx}{dh:List (Ac×Obj)}{σ:St}{H:Hp}{s:Ad}{a:Ac}{di:List (Key×V)}{A:AN}{E:Ab→Ad→Prop}
end
section
variable{X:Cx}{dh:List (Ac×Obj)}{σ:St}{H:Hp}{s:Ad}{a:Ac}{y:V}{u:Ab}{A:AN}{E:Ab→Ad→Prop}
end
end L2
namespace Att
open PySem PySem.W PySem.Calls PyProof.Rows
theorem sK{P:Params}{h:A4}:∀(ns:List Int) (vs:List Ab),WellAll P h vs (ns.map WData.int)→Gx vs ns:=by
 intro ns
 induction ns with
 | nil=>
  intro vs w;rw[D4]at w;cases w;exact .nil
 | cons n ns z=>
  intro vs w;rw[A8]at w;cases w with
  | cons a b=>
   cases a;exact .cons _ _ (z _ b)
theorem aDY{l:OpenLaw}{n:Nat}(hn:l.most=some n){P:Params}{h:A4}{args:List WData}{B:List Ab}
  (z:l.row.toRowW.claim.pre args=true) (W:WellAll P h B args):
  ∃ a vs ns,B=[AJ a]∧args=[WData.list (ns.map WData.int)]∧h.get? a=some { cls:=.type "list",data:=.seq vs.toArray }∧Gx vs ns∧ns.length≤n:=by
 have Y:WShape.hasAll [] args [.list .int]=true:=(pre_splitW z).1;have hc:l.pre.holds [] { args:=args }=true:=(pre_splitW z).2;obtain⟨d,r,rfl,h1,h2⟩:=hasAllW_cons Y;obtain rfl:=hasAllW_nil h2;obtain⟨xs,rfl,h3⟩:=hasW_list h1;obtain⟨ns,rfl⟩:=items_int h3;have F:ns.length≤n:=by
  unfold OpenLaw.pre at hc;have O:(WTm.not (.lt (.lit (.int (n:Int))) (.len (.arg 0)))).holds [] { args:=[.list (ns.map .int)] }=true:=by
   have O:=(holds_andW hc).1;rw[hn]at O;exact O
  have U:=condW_of O (w_not (w_lt w_lit (w_len_list (w_arg rfl))));rw[Ae]at U;refine Nat.le_of_not_lt fun q=>?_;have q':(n:Int) < ((ns.length:Nat):Int):=by omega
  first
   | (rw[Ic q']at U;exact absurd U (by decide))
   | (simp at U;omega)
 cases W with
 | cons w1 w2=>
  cases w2;cases w1 with
  | list Z J=>exact⟨_,_,ns,rfl,rfl,Z,sK ns _ J,F⟩
theorem aDZ(l:OpenLaw)(args:List WData):l.row.toRowW.claim.post args (.bool true) args=true:=
 postW_of (r:=l.row.toRowW) (X:=(true == true))
  (show WShape.has [] (.bool true) .bool=true by first | rfl | decide | simp[WShape.has,WShape.arms,WShape.armsAll])
  (show(WTm.eq .res (.lit (.bool true))).value [] { args:=args,res:=some (.bool true),after:=args }=some (.bool (true == true)) from w_eq_bool (w_res rfl) w_lit) rfl
theorem attach_call{l:OpenLaw}{n:Nat}{q:Ay}{B:List Str}{XP:(Str→Option Ab)→A4→Prop}{YP:AS→A4→Prop}{d:DefRec}
  (hn:l.most=some n) (U:d.params.defaults=[])
  (call:∀(w:AS) (s₀ z:Ad) (mg mb:Str→Option Ab) (fa:Ac) (o:Obj) (pm cd F:Ab) (a:Ac) (vs:List Ab) (ns:List Int),
   Ground q B [] XP w s₀ mg mb z.heap→YP w z.heap→
   z.heap.get? fa=some o→o.data=.func (docDef d.name d.params d.body d.scope pm cd F)→z.heap.CodeRec cd d.name→mg d.name=some (.ref fa)→
   z.heap.get? a=some { cls:=.type "list",data:=.seq vs.toArray }→Gx vs ns→ns.length≤n→z.gens=#[]→
   codeAny (model l.prog w) callerA (.call (.ref fa) ⟨[.ref a],[]⟩) (fun r s'=>r=.ok (.ret (.bool true))∧OldK z.heap s'.heap∧s'.os=z.os∧Ek s'.gens) z):
  WalkO q B XP YP l.row.toRowW d [] (fun f vs=>Gg f vs):=by
 intro w s₀ z mg mb G Y fa o pm cd F dV kV ho hd O hD W hg ag af as J ad am Z ak;obtain rfl:dV=.none:=Dflts.none hD U;obtain rfl:kV=.none:=Dflts.noKw hD;obtain⟨a,vs,ns,rfl,rfl,hobj,hints,hlen⟩:=aDY hn J Z;refine enter_call (Cq (call w s₀ z mg mb fa o pm cd F a vs ns G Y ho (fd_plain hd) O W hobj hints hlen hg) fun r s' hq=>?_);obtain⟨rfl,h2,h3,h4⟩:=hq;exact⟨.inl ⟨.bool true,.bool true,[],rfl,fun _=>rfl,.bool true,aDZ l _,fun _=>⟨D1,fun _ hm=>(nomatch hm)⟩⟩,h2,h3,h4⟩
section
variable{prog:Ay}{w:AS}{A:AN}{E:Ab→Ad→Prop}{s:Ad}{K:Frag}
end
end Att
namespace L2
open PySem PySem.Spec PyProof.Rows
theorem xL:∀{vs:List Ab}{ns:List Int},Gx vs ns→cZ (ns.map V.int) vs
 | _,_,.nil=>.nil
 | _,_,.cons n t h=>.cons ⟨t,rfl⟩ (xL h)
def aLC(H:Hp):Prop:=∀ b,H b=none∨∃ o xs,H b=some (.frz o (.lst xs))
abbrev KOf{K:Ah}{h:A4}(_:K.In h):Ah:=K
def bZ(s:BP):DO:=match s with
 | .FunctionDef _ a _ _ _ _ _ _ _ _=>a
 | _=>{ posonlyargs:=[],args:=[],vararg:=none,kwonlyargs:=[],kw_defaults:=[],kwarg:=none,defaults:=[] }
def bS(s:BP):List BP:=match s with
 | .FunctionDef _ _ b _ _ _ _ _ _ _=>b
 | _=>[]
def aO(s:BP):CH:=match s with
 | .FunctionDef _ _ _ _ _ _ sc _ _ _=>sc
 | _=>{ kind:=.function,names:=[],isGenerator:=false,isCoroutine:=false }
abbrev CX0:CXT:=fun _ _ _ _ _ _=>False
abbrev E0:XK:=fun _ _ _=>False
theorem gF{X:Cx}:qJ CX0 X E0:=fun _ _ _ _ _ _ _ h=>h.elim
structure Fun(K:Ah)(x qual:Str)(st:BP)(f:Ac)(fd:AE):Prop where
 ex:∃(oc:Ab) (od:Option Ac) (kV doc pm:Ab) (an:Option Ac) (cdv ct:Ab) (osl:Array (Option Ab)),
  fd=Az x qual (bZ st) (bS st) (aO st) .none kV doc pm an cdv ct∧K.lookup f=some ⟨oc,od,.func fd,osl⟩∧Au K cdv qual=true
 kp:Aj K (.ref f)=true
section
variable{P:Ay}{w:AS}{K:Ah}{mg:Str→Option Ab}{base:A4}
theorem Fun.ok{x qual:Str}{st:BP}{f:Ac}{fd:AE}{N ps:List Str}{k:Nat}{sp:Sp}(F:Fun K x qual st f fd)(S:bY N ps (aO st))(len:∀ vs H Q E,sp vs H Q E→vs.length=ps.length)
  (B:∀(z:Ab) (A:AN) (outer:List Env) (s:Ad) (H:Hp) (vs:List V) (Q:VK) (E:XK),cY k (A.deeper (envOfC qual (aO st) s.heap.objs.size f z))→sp vs H Q E→
   ∃ t,PSs (iZ CX0 P w K mg base N qual (aO st) f z A outer s H E).nox (bS st) t∧t { nx:=fun _ H'=>Q .non H',rt:=Q } (start N vs) H):cH P w K mg base CX0 (k + 1) f fd ps sp:=by
 obtain⟨oc,od,kV,doc,pm,an,z,ct,osl,rfl,lk,hcd⟩:=F.ex;refine aE0 lk hcd S len fun A outer s H vs Q E O J=>?_;obtain⟨t,h,q⟩:=B z A outer s H vs Q E O J;exact⟨t,h.nox,q⟩
theorem Fun.binds{x qual:Str}{st:BP}{f:Ac}{fd:AE}{ps:List Str}(F:Fun K x qual st f fd)
  (h:∀(kV B O:Ab) (J:Option Ac) (z ct:Ab) (U:List Ab),U.length=ps.length→bindArgs (Az x qual (bZ st) (bS st) (aO st) .none kV B O J z ct) ⟨U,[]⟩=pure (ps.zip U)):c8 K fd ps []:=by
 obtain⟨oc,od,kV,B,O,J,z,ct,osl,rfl,lk,hcd⟩:=F.ex;exact .all (h kV B O J z ct)
theorem cS{x qual:Str}{st:BP}{f:Ac}{U:Ab}{od J:Option Ac}{F:Array (Option Ab)}{kV B O z ct:Ab}(l:K.lookup f=some ⟨U,od,.func (Az x qual (bZ st) (bS st) (aO st) .none kV B O J z ct),F⟩)
  (c:Au K z qual=true) (k:Aj K (.ref f)=true):Fun K x qual st f (Az x qual (bZ st) (bS st) (aO st) .none kV B O J z ct):=⟨⟨U,od,kV,B,O,J,z,ct,F,rfl,l,c⟩,k⟩
end
theorem aFe{A:AN}{k:Nat}(z:cY k A):A.units + 1 < cLine:=Nat.lt_of_le_of_lt (Nat.add_le_add_left (by decide:1≤64) _) z.units
theorem lC{n:Nat}(h:n≤1000):n < sizeLine:=Nat.lt_of_le_of_lt h (by decide)
section
variable{X:Cx}
theorem pv(i:Nat){x:Str}{pos:Pos}(hN:X.N[i]?=some x:=by rfl)(B:Vis X.env.scope x:=by first | exact AG rfl | exact Do (AG rfl) | exact Do (Do rfl))(hd:(x == ("__debug__":Str))=false:=by decide)
  (z:(x == ("__classdict__":Str))=false:=by decide):PE X (.Name x pos) (aJ2 i):=aIQ hN B hd z
end
theorem cO{A B:Prop}(h:B):if false=true then A else B:=by
 rw[Ia AD];exact h
theorem dC{A B:Prop}(h:A):if true=true then A else B:=by
 rw[Ib rfl];exact h
theorem d9{c A B:Prop}[Decidable c](h1:c→A)(h2:¬ c→B):if c then A else B:=by
 by_cases h:c
 ·rw[Ib h];exact h1 h
 ·rw[Ia h];exact h2 h
def bJ(H H':Hp):Prop:=∀ b o,H b=some o→H' b=some o
theorem bJ.refl(H:Hp):bJ H H:=fun _ _ h=>h
theorem bJ.trans{H H1 H2:Hp}(a:bJ H H1)(b:bJ H1 H2):bJ H H2:=fun c o h=>b c o (a c o h)
theorem bJ.seq{K:Ah}{H H':Hp}{a:Ac}{xs:List V}(e:bJ H H')(h:SqL K H a xs):SqL K H' a xs:=by
 rcases h with(h | ⟨o,h⟩) | h
 ·exact .inl (.inl (e _ _ h))
 ·exact .inl (.inr ⟨o,e _ _ h⟩)
 ·exact .inr h
section
variable{X:Cx}
end
section
variable{κ:Type}[DecidableEq κ]
end
section
variable{X:Cx}{dh:List (Ac×Obj)}{σ:St}{H:Hp}{s:Ad}
theorem Inv.track{D:Ac}{ob:HO}(I:Inv X dh σ H s)(J:m5 X dh H D)(new:c5 X.prog X.w (upd H D ob) s.heap D ob):Inv X dh σ (upd H D ob) s:=by
 obtain⟨hn,hL,hfs,hex,hce,hpi⟩:=J;have B:∀ b u,H b=some u→b≠D:=fun b u e=>bB e hn;refine I.step (g':=s.gens) (t':=s.toks) (d':=s.drawn) (h':=s.heap) (H':=upd H D ob) (ch:=[D]) (fun b F=>?_) (fun b o _ _ _ e _=>e) (fun b o _ _ _ e _=>⟨o.slots,e⟩) (fun b o hc e n=>?_)
  (fun b o _ e=>⟨o,e⟩) (fun b xs e=>by rw[aW (B b _ e)];exact e) (fun b o u e=>by rw[aW (B b _ e)];exact e) (fun b ps e=>⟨#[],by rw[aW (B b _ e),e];simp⟩) (fun m hm=>hm) (fun b u e=>?_) I.bare
 ·have e:b=D:=by simpa using F
  subst e;exact⟨hex,hL,hce,hpi⟩
 ·rw[aW (fun z=>hc (by simp[z]))];exact n
 ·by_cases F:b=D
  ·subst F;rw[aH]at e;cases e;exact new
  ·rw[aW F]at e;exact(I.hok b u e).stay (fun c v _ q=>q) (fun c q=>by rw[aW (B c _ q)];exact q) fun c xs q=>by rw[aW (B c _ q)];exact q
end
def i6(env:Env):List (Str×DW)→List (Str×Ac)→List (Str×Ac)
 | [],cs=>cs
 | (n,k) :: r,cs=>i6 env r (if k=.free then(match env.cells.lookup n with | some c=>(n,c) :: cs | none=>cs) else cs)
theorem uF{α β:Type}(f:α→β→Sem (ForInStep β))(g:α→β→β):∀(l:List α) (b:β),(∀ y∈l,∀ b,f y b=pure (.yield (g y b)))→(forIn l b f:Sem β)=pure (l.foldl (fun b y=>g y b) b)
 | [],b,_=>rfl
 | a :: r,b,h=>by
  rw[Cu,h a AL b];exact uF f g r (g a b) fun y z=>h y (AM _ z)
def xO(env:Env)(y:Str×DW)(cs:List (Str×Ac)):List (Str×Ac):=if y.2=.free then(match env.cells.lookup y.1 with | some c=>(y.1,c) :: cs | none=>cs) else cs
theorem uG(env:Env):∀(l:List (Str×DW)) (z:List (Str×Ac)),l.foldl (fun b y=>xO env y b) z=i6 env l z
 | [],z=>rfl
 | (n,k) :: r,z=>by
  rw[List.foldl_cons,uG env r];rfl
theorem pS{scope:CH}{env:Env}(h:∀ y∈scope.names,y.2=.free→∃ c,env.cells.lookup y.1=some c):closureFor scope env=pure (i6 env scope.names []):=by
 simp only[closureFor];rw[uF _ (xO env) scope.names [] (fun y F b=>?_)]
 ·rw[uG];rfl
 ·obtain⟨n,k⟩:=y;by_cases z:k=.free
  ·obtain⟨c,hc⟩:=h (n,k) F z;subst z;have e:cellOf env n=pure c:=by unfold cellOf;rw[hc]
   have B:xO env (n,A6) b=(n,c) :: b:=by unfold xO;rw[Ib rfl,hc]
   simp only[e,B];rfl
  ·have e:(k == A6)=false:=by simpa using z
   have B:xO env (n,k) b=b:=by unfold xO;rw[Ia z]
   simp only[e,B,Cd,if_false]
theorem qL{env:Env}:∀(l:List (Str×DW)) (z:List (Str×Ac)),(∀ x c,z.lookup x=some c→env.cells.lookup x=some c)→∀ x c,(i6 env l z).lookup x=some c→env.cells.lookup x=some c
 | [],z,h,x,c,e=>h x c e
 | (n,k) :: r,z,h,x,c,e=>by
  unfold i6 at e;refine qL r _ (fun x c e=>?_) x c e;by_cases F:k=.free
  ·rw[Ib F]at e;cases hc:env.cells.lookup n with
   | none=>rw[hc]at e;exact h x c e
   | some d=>
    rw[hc]at e;by_cases B:x=n
    ·subst B;simp at e;rw[← e];exact hc
    ·have:(x == n)=false:=by simpa using B
     rw[A5,this]at e;exact h x c e
  ·rw[Ia F]at e;exact h x c e
theorem qM{env:Env}:∀(l:List (Str×DW)) (z:List (Str×Ac)) (x:Str),(∀ y∈l,y.2=.free→∃ c,env.cells.lookup y.1=some c)→((∃ c,z.lookup x=some c)∨(x,A6)∈l)→∃ c,(i6 env l z).lookup x=some c
 | [],z,x,_,h=>by
  rcases h with h | h
  ·exact h
  ·simp at h
 | (n,k) :: r,z,x,hc,h=>by
  unfold i6;refine qM r _ x (fun y J=>hc y (AM _ J)) ?_;rcases h with⟨c,h⟩ | h
  ·refine .inl ?_;split
   ·split
    ·rename_i d _;by_cases F:x=n
     ·subst F;exact⟨d,by simp⟩
     ·have:(x == n)=false:=by simpa using F
      exact⟨c,by rw[A5,this];exact h⟩
    ·exact⟨c,h⟩
   ·exact⟨c,h⟩
  ·rcases Al.mp h with h | h
   ·cases h;obtain⟨d,hd⟩:=hc (n,A6) AL rfl;refine .inl ⟨d,?_⟩;rw[Ib rfl];have B:env.cells.lookup n=some d:=hd;rw[B];simp
   ·exact .inr h
theorem uH{env : Env} : ∀{names : List (Str × DW)}{x : Str}, (∀ y ∈ names, y.2 ≠ .cell) →
    ((names.map fun(n, k) => if (k == A6 && env.scope.kind == .function && env.kindOf n == some .cell) then(n, DI) else(n, k)).lookup x = some .cell ∨
     (names.map fun(n, k) => if (k == A6 && env.scope.kind == .function && env.kindOf n == some .cell) then(n, DI) else(n, k)).lookup x = some .free) → names.lookup x = some .free
  | [], x, _, h => by simp at h
  | (n, k) :: r, x, hc, h => by
    have J := @uH env r x fun y O => hc y (AM _ O);have F := hc (n, k) AL;rw[A8]at h;by_cases B : x = n
    · subst B
      rw[A5, beq_self_eq_true];simp only;by_cases z : (k == A6 && env.scope.kind == .function && env.kindOf x == some .cell) = true
      · have : (k == A6) = true := by
          rw[AY, AY]at z;exact z.1.1
        simpa using this
      · simp only[Ia z, A5, beq_self_eq_true]at h
        rcases h with h | h
        · exact absurd (BS.inj h) F
        · exact h
    · have e : (x == n) = false := by simpa using B
      rw[A5, e];refine J ?_;by_cases z : (k == A6 && env.scope.kind == .function && env.kindOf n == some .cell) = true
      · simp only[Ib z, A5, e]at h
        exact h
      · simp only[Ia z, A5, e]at h
        exact h
theorem pT{env : Env} : ∀{names : List (Str × DW)}{x : Str}, names.lookup x = some .free →
    ((names.map fun(n, k) => if (k == A6 && env.scope.kind == .function && env.kindOf n == some .cell) then(n, DI) else(n, k)).lookup x = some .cell ∨
     (names.map fun(n, k) => if (k == A6 && env.scope.kind == .function && env.kindOf n == some .cell) then(n, DI) else(n, k)).lookup x = some .free)
  | [], x, h => by simp at h
  | (n, k) :: r, x, h => by
    have F := @pT env r x;rw[A8];by_cases B : x = n
    · subst B
      rw[A5, beq_self_eq_true]at h;simp only at h;cases h;by_cases z : (A6 == A6 && env.scope.kind == .function && env.kindOf x == some .cell) = true
      · refine .inl ?_
        show List.lookup x ((if (A6 == A6 && env.scope.kind == .function && env.kindOf x == some .cell) = true then(x, DI) else(x, A6)) :: _) = _;rw[Ib z, A5, beq_self_eq_true]
      · refine .inr ?_
        show List.lookup x ((if (A6 == A6 && env.scope.kind == .function && env.kindOf x == some .cell) = true then(x, DI) else(x, A6)) :: _) = _;rw[Ia z, A5, beq_self_eq_true]
    · have e : (x == n) = false := by simpa using B
      rw[A5, e]at h;have := F h;by_cases z : (k == A6 && env.scope.kind == .function && env.kindOf n == some .cell) = true
      · simp only[Ib z, A5, e]
        exact this
      · simp only[Ia z, A5, e]
        exact this
def blk(X:Cx)(N:List Str)(scope:CH)(cl:List (Str×Ac))(s:Ad)(H:Hp)(fp:List Ac)(dh:List (Ac×Obj))(C:Ac):Cx where
 prog:=X.prog
 w:=X.w
 K:=X.K
 mg:=X.mg
 base:=X.base
 A:=X.A
 N:=N
 s₀:=s
 H₀:=H
 env:=compEnvC scope cl C X.env
 outer:=X.stack
 stack:=X.stack
 ex:=fp
 fn:=fun _=>false
 calm:=X.calm
 pn:=X.pn ++ dh
 xe:=fun _ _=>False
def aIn(N:List Str)(src:List (Option Nat))(scope:CH)(oN:List Str):Bool:=
 (N.zip src).all fun p=>match p.2 with | none=>true | some j=>(oN[j]? == some p.1) && (scope.names.lookup p.1 == some .free)
structure aAM(N:List Str)(src:List (Option Nat))(scope osc:CH)(oN:List Str):Prop where
 kind:scope.kind=.function
 nocell:∀ y∈scope.names,y.2≠.cell
 names:∀ y∈scope.names,y.2=.local→scope.names.lookup y.1=some .local
 fr:∀ y∈scope.names,y.2=.free→osc.names.lookup y.1=some .cell∨osc.names.lookup y.1=some .free
 len:src.length=N.length
 srcs:aIn N src scope oN=true
def sub(src:List (Option Nat))(σ:St):St:=src.map fun o=>match o with | none=>none | some j=>(σ[j]?).getD none
theorem aFf{N:List Str}{src:List (Option Nat)}{scope:CH}{oN:List Str}(h:aIn N src scope oN=true){i j:Nat}{x:Str}(h1:N[i]?=some x)(h2:src[i]?=some (some j)):oN[j]?=some x∧scope.names.lookup x=some .free:=by
 have hm:(x,some j)∈N.zip src:=by
  refine AF (i:=i) ?_;rw[List.getElem?_zip_eq_some];exact⟨h1,h2⟩
 have:=A3.mp h _ hm;simp only[AY,beq_iff_eq]at this;exact this
theorem aJe{src:List (Option Nat)}{σ:St}{i:Nat}{v:V}(h:(sub src σ)[i]?=some (some v)):∃ j,src[i]?=some (some j)∧σ[j]?=some (some v):=by
 unfold sub at h;rw[AK]at h;cases e:src[i]? with
 | none=>rw[e]at h;simp at h
 | some o=>
  rw[e]at h;cases o with
  | none=>simp at h
  | some j=>
   refine⟨j,rfl,?_⟩;cases z:σ[j]? with
   | none=>simp[z]at h
   | some B=>
    simp[z]at h;rw[h]
structure PTs(X:Cx)(ifs:List Bc)(t:TT):Prop where
 run:
  ∀(dh:List (Ac×Obj)) (s:Ad) (σ:St) (H:Hp) (Q:Bool→Hp→Prop),Inv X dh σ H s→t σ H Q→
   wpAny (model X.prog X.w) X.A (forIn ifs true fun c r=>if r=true then do let ok ← isTrue c X.env (eval c X.env);pure (Cp ok) else pure (Cp r)) (TP X dh σ Q) X.xe s
instance{X:Cx}{ifs:List Bc}{t:TT}:CoeFun (PTs X ifs t) (fun _=>
 ∀(dh:List (Ac×Obj)) (s:Ad) (σ:St) (H:Hp) (Q:Bool→Hp→Prop),Inv X dh σ H s→t σ H Q→
  wpAny (model X.prog X.w) X.A (forIn ifs true fun c r=>if r=true then do let ok ← isTrue c X.env (eval c X.env);pure (Cp ok) else pure (Cp r)) (TP X dh σ Q) X.xe s):=⟨fun h=>h.run⟩
theorem eB{X:Cx}:PTs X [] (fun _ H Q=>Q true H):=⟨fun _ _ _ H _ I h=>wpAny_tests_nil ⟨H,I,h⟩⟩
theorem zR{X:Cx}{c:Bc}{t:TT}(h:PT X c t):PTs X [c] t:=⟨fun dh s σ H Q I q=>wpAny_tests_one (h dh s σ H Q I q)⟩
section
variable{X:Cx}{dh:List (Ac×Obj)}{σ:St}{H:Hp}{s:Ad}
theorem Inv.clos{N:List Str}{src:List (Option Nat)}{scope:CH}(B:aAM N src scope X.env.scope X.N)(I:Inv X dh σ H s):∀ y∈scope.names,y.2=.free→∃ c,X.env.cells.lookup y.1=some c:=
 fun y F z=>I.ok.has y.1 (B.fr y F z)
theorem Inv.block{N:List Str}{src:List (Option Nat)}{scope:CH}{fp:List Ac}{Z:Ad}{C:Ac}{m:Str→Option Ab}(B:aAM N src scope X.env.scope X.N)(I:Inv X dh σ H s)
  (hf:∀ b∈fp,m5 X dh H b) (af:∀ b∈fp,b < s.heap.objs.size) (hC:s.heap.objs.size≤C) (W:Z.os=s.os) (J:Ek Z.gens) (Y:∀ b o,s.heap.get? b=some o→Z.heap.get? b=some o) (hn:Z.heap.Ns C m):
  Inv (blk X N scope (i6 X.env scope.names []) s H fp dh C) [] (sub src σ) H Z:=by
 have O:=I.clos B;have F:∀ x c,(i6 X.env scope.names []).lookup x=some c→X.env.cells.lookup x=some c:=qL _ _ (fun x c e=>by simp at e);have ai:∀ b∈frs X.stack,b < s.heap.objs.size:=fun b J=>by
  obtain⟨_,o,W,_⟩:=I.stack.mem J;exact Aq W
 refine⟨⟨I.ok.mod,B.kind,I.ok.glob,I.ok.blt,hC,fun x y c e1 e2=>I.ok.inj x y c (F x c e1) (F y c e2),fun x hx=>?_,fun x c hx=>absurd hx AD,I.ok.hd,I.ok.frames,.inl rfl,fun b J=>⟨?_,fun x c e=>?_⟩,fun b o e=>?_,Ba I.ok.bsz I.sz,fun b o e J=>?_,fun b J hz=>?_,I.stack,I.stkFree⟩,
  W,J,Un.kept Y,⟨m,hn,fun i x v e1 e2 e3=>?_⟩,fun x c e=>?_,?_,fun x c e=>I.freeC x c (F x c e),fun p hp=>?_,I.hok.kept Y,?_⟩
 ·have ad:=uH (env:=X.env) B.nocell hx;exact qM _ _ x O (.inr (By ad))
 ·exact AB (AI (af b J) hC)
 ·exact(hf b J).2.2.2.2.1 x c (F x c e)
 ·exact I.bs b o e
 ·rcases(hf b J).2.2.2.1 with z | z
  ·exact I.ok.noex b o e z
  ·exact absurd (AI (Aq e) (Ba I.ok.bsz z)) (Bg _)
 ·rcases Al.mp (I.stkSub b hz)with e | z
  ·exact(hf b J).2.1 e
  ·exact(hf b J).2.2.1 z
 ·obtain⟨j,ej,ev⟩:=aJe e2;obtain⟨oj,fj⟩:=aFf B.srcs e1 ej;have U:=B.fr _ (By fj) rfl;obtain⟨m0,hn0,hl0⟩:=id I.loc;obtain⟨u,ru,lk⟩:=hl0 j x v oj ev (.inr U);refine⟨u,ru,.inr ⟨pT fj,?_⟩⟩;rcases lk with⟨k,_⟩ | ⟨k,c,hc,hcell⟩
  ·have k':X.env.scope.names.lookup x=some .local:=k;rcases U with z | z <;> (rw[k']at z;cases z)
  ·obtain⟨c',hc'⟩:=qM (env:=X.env) scope.names [] x O (.inr (By fj));have e:=F x c' hc';rw[hc]at e;cases e;obtain⟨o,W,hd⟩:=hcell;exact⟨c,hc',o,Y _ _ W,hd⟩
 ·obtain⟨v,o,W,hd⟩:=I.cell x c (F x c e);exact⟨v,o,Y _ _ W,hd⟩
 ·exact I.hok.fresh hC
 ·have ac:p∈X.pn ++ dh:=by
   rcases Bf.mp hp with z | z
   ·exact z
   ·simp at z
  obtain⟨q1,q2,q3,q4,q5⟩:=I.pin p ac;refine⟨Y _ _ q1,q2,AB (AI (Aq q1) hC),fun z=>?_,q5⟩;rcases Al.mp (I.stkSub _ z)with e | z
  ·exact q3 e
  ·exact q4 z
 ·show(sub src σ).length=N.length;unfold sub;rw[Ae];exact B.len
end
section
variable{prog:Ay}{w:AS}{A:AN}{R:Result→Ad→Prop}{s:Ad}
theorem aAO{F z B:Bc}{O:List Bc}{scope:CH}{pos:Pos}{it J:Ab}{env:Env}(I:Nat→Ad→Prop)
  (W:∀ n s,I n s→wpAny (model prog w) A (pyNext it) (fun r Y=>match r with
   | none=>R (.ok .next) Y
   | some v=>wpAny (model prog w) A (letOwnedTupleGo z it v) (fun _ U=>wpAny (model prog w) A (assign z env v) (fun _ s₂=>
     wpAny (model prog w) A (forIn O true fun c r=>if r=true then do let ok ← isTrue c env (eval c env);pure (Cp ok) else pure (Cp r)) (fun ok s₃=>
      if ok=true then wpAny (model prog w) A (eval F env) (fun x s₄=>
       wpAny (model prog w) A (call (.builtin "list.append") [J,x]) (fun _ s₅=>∃ m,m < n∧I m s₅) (fun _ _=>False) s₄) (fun _ _=>False) s₃
      else∃ m,m < n∧I m s₃) (fun _ _=>False) s₂) (fun _ _=>False) U) (fun _ _=>False) Y) (fun _ _=>False) s)
  (n:Nat) (h:I n s):
  codeAny (model prog w) A (.compLoop (.ListComp F [⟨z,B,O,0⟩] scope pos) 0 it J env) R s:=by
 have nv:∀{α:Type} {t:Sem α} {Q:α→Ad→Prop} {E:Ab→Ad→Prop} {s:Ad},wpAny (model prog w) A t Q (fun _ _=>False) s→wpAny (model prog w) A t Q E s:=fun h=>BG h (fun _ _ x=>x) fun _ _ x=>x.elim;refine codeAny_loop rfl I (fun n s hI=>?_) n h;show wpAny _ A ((compTurn (.ListComp F [⟨z,B,O,0⟩] scope pos) 0 it J env).onRaise (fun x=>do noteFrame x env;theTreesLotGoes x)) _ _ s;refine wpAny_noted ?_;rw[compTurn_list];refine Aa (Fo (Aa (nv (thn (W n s hI) (fun r Y h₁=>?_)))));cases r with
 | none=>exact Af h₁
 | some v=>
  refine Aa (BG h₁ (fun _ U Z=>?_) fun _ _ x=>x.elim);refine Aa (BG Z (fun _ s₂ h₂=>Aa (BG h₂ (fun ok s₃ h₃=>?_) fun _ _ h'=>h'.elim)) fun _ _ h'=>h'.elim);cases ok with
  | false=>exact Af ⟨rfl,h₃⟩
  | true=>
   exact Aa (Aa (BG h₃ (fun x s₄ h₄=>Aa (BG h₄ (fun _ s₅ h₅=>Af (Af ⟨rfl,h₅⟩)) fun _ _ h'=>h'.elim)) fun _ _ h'=>h'.elim))
end
inductive aC3(J : It)(g : TG)(tt : TT)(te : TE)(σ₀ : St)(H₀ : Hp)(Q : VK) : Prop
  | mk (W : Nat → Nat → List V → St → Hp → Prop) (q0 : (∃ m, W 0 m [] σ₀ H₀)) (q1 : ∀ i m ys σ H, W i m ys σ H → ys.length ≤ sizeLine ∧
    ((J.stop i H ∧ ∀ D, H D = none → Q (.ref D) (upd H D (.lst ys))) ∨
     (J.go i H ∧ ∃ N : List V → St → Hp → Prop, (∀ zs σ' H', N zs σ' H' → ∃ m', m' < m ∧ W (i + 1) m' zs σ' H') ∧
       ∀ x H', J.yld i H x H' → g x σ H' fun σ2 H2 => tt σ2 H2 fun b H3 => if b = true then te σ2 H3 fun v H4 => N (ys ++ [v]) σ2 H4 else N ys σ2 H3))) : aC3 J g tt te σ₀ H₀ Q
def uI(J:It)(g:TG)(tt:TT)(te:TE)(σ₀:St)(H₀:Hp)(Q:VK):Prop:=aC3 J g tt te σ₀ H₀ Q
section
variable{X:Cx}{dh:List (Ac×Obj)}{σ:St}
theorem xP{tg ax aC:Bc}{aK:List Bc}{scope:CH}{pos:Pos}{N:List Str}{src:List (Option Nat)}{g:TG}{tt:TT}{te:TE}{J:It}{fp:List Ac}{it:Ac}{tn:Nat→A4→Prop}{H2:Hp}{Y:Ad}{Q:VK}{E:Ab→Ad→Prop}
  {RR:Ab→Ac→Result→Ad→Prop} (B:aAM N src scope X.env.scope X.N) (hc:X.calm=true)
  (O:∀ cl s H fp dh C,PG (blk X N scope cl s H fp dh C) tg g∧PTs (blk X N scope cl s H fp dh C) aK tt∧PE (blk X N scope cl s H fp dh C) aC te)
  (I2:Inv X dh σ H2 Y) (T:aDQ X.prog X.w X.K tg J fp it tn) (br:tn 0 Y.heap) (f2:∀ b∈fp,m5 X dh H2 b) (cw:uI J g tt te (sub src σ) H2 Q)
  (b3:∀ D C H' m s',Inv X dh σ H' s'→s'.heap.Ns C m→m5 X dh H' C→D≠C→Q (.ref D) H'→RR (.ref D) C (.ok .next) s'):
  wpAny (model X.prog X.w) X.A (newList []) (fun bx s₃=>wpAny (model X.prog X.w) X.A (newFunctionEnv scope X.env.globals (i6 X.env scope.names []) [] X.env.qual none .none (some X.env)) (fun au s₄=>
   codeAny (model X.prog X.w) X.A (.compStart (.ListComp aC [⟨tg,ax,aK,0⟩] scope pos) 0 (.ref it) bx { au with scope:=relabel scope X.env }) (RR bx au.locals) s₄) E s₃) E Y:=by
 refine BI (wpAny_newFunctionEnv B.nocell (by intro y hy;simp at hy) (fun h₁ an ad=>?_) B.kind);dsimp only at an ad ⊢;generalize az:Y.heap.push { cls:=.type "list",dict:=none,data:=.seq ([]:List Ab).toArray }=HH at an ad ⊢;have aM:HH.objs.size=Y.heap.objs.size + 1:=by rw[← az,BZ]
 have ai:Y.heap.objs.size≠HH.objs.size:=by rw[aM];exact AB (BL _)
 have ag:Y.heap.objs.size≤HH.objs.size:=by rw[aM];exact De _
 have aq:∀ b∈fp,b < Y.heap.objs.size:=fun b O=>by
  obtain⟨o,e,_⟩:=T.obj _ _ br b O;exact Aq e
 have bn:∀ b o,Y.heap.get? b=some o→h₁.get? b=some o:=fun b o e=>
  ad.extBut b o (by rw[aM];exact AB (Br (Aq e))) (Ai _ (az ▸ Ai _ e))
 have bf:h₁.PlainList Y.heap.objs.size #[]:=⟨_,ad.extBut _ _ ai (Ai _ (az ▸ Ax _ rfl))⟩
 have bt:tn 0 h₁:=T.keep _ _ _ br fun b _ o e=>bn b o e;obtain⟨W,⟨m0,w0⟩,turn⟩:=cw;have bq:∀ b∈frs X.stack,b < Y.heap.objs.size:=fun b O=>by
  obtain⟨_,o,ho,_⟩:=I2.stack.mem O;exact Aq ho
 generalize F:blk X N scope (i6 X.env scope.names []) Y H2 fp dh HH.objs.size=U;have bh:=O (i6 X.env scope.names []) Y H2 fp dh HH.objs.size;rw[F]at bh;have eP:U.prog=X.prog:=by rw[← F];rfl
 have eW:U.w=X.w:=by rw[← F];rfl
 have eK:U.K=X.K:=by rw[← F];rfl
 have eA:U.A=X.A:=by rw[← F];rfl
 have eE:U.env=compEnvC scope (i6 X.env scope.names []) HH.objs.size X.env:=by rw[← F];rfl
 have eL:U.env.locals=HH.objs.size:=by rw[eE];rfl
 have eF:U.fs=frs X.stack:=by rw[← F];rfl
 have eX:U.ex=fp:=by rw[← F];rfl
 have eS:U.s₀=Y:=by rw[← F];rfl
 have eH:U.H₀=H2:=by rw[← F];rfl
 have eC:U.calm=true:=by rw[← F];exact hc
 have bv:U.pn=X.pn ++ dh:=by rw[← F];rfl
 have aB:U.xe=fun _ _=>False:=by rw[← F];rfl
 have ae:∀ x c,U.env.cells.lookup x=some c→X.env.cells.lookup x=some c:=fun x c e=>by
  rw[eE]at e;exact qL scope.names [] (fun x c e=>by simp at e) x c e
 have af:∀ x c,U.env.cells.lookup x=some c→c < Y.heap.objs.size:=fun x c e=>by
  obtain⟨v,o,ho,_⟩:=I2.cell x c (ae x c e);exact Aq ho
 have ak:∀ p∈X.pn ++ dh,p.1 < Y.heap.objs.size:=fun p Z=>Aq (I2.pin p Z).1;generalize hD:Y.heap.objs.size=D at *;generalize cs:HH.objs.size=C at *;have av:∀ s₃:Ad,s₃={ Y with heap:=h₁,toks:=Y.toks + ([]:List (Str×Ab)).length }→
   codeAny (model X.prog X.w) X.A (.compLoop (.ListComp aC [⟨tg,ax,aK,0⟩] scope pos) 0 (.ref it) (.ref D) (compEnvC scope (i6 X.env scope.names []) C X.env)) (RR (.ref D) C) s₃:=by
  rintro s₃ rfl;have I3:Inv U [] (sub src σ) H2 { Y with heap:=h₁,toks:=Y.toks + ([]:List (Str×Ab)).length }:=by
   rw[← F];exact I2.block B f2 (by rw[hD];exact aq) (by rw[hD];exact ag) rfl I2.bare bn an
  have bL:H2 D=none:=I2.hok.fresh (Fk hD);have bF:D ∉ U.fs:=fun z=>by rw[eF]at z;exact absurd (bq D z) (Bg _)
  have aw:∀{σ':St} {H':Hp} {s':Ad} {pl:List (Ac×Obj)} {its:List Ab} {n:Nat},Inv U pl σ' H' s'→H' D=none→s'.heap.get? D=some { cls:=.type "list",data:=.seq its.toArray n }→
    Inv U ((D,{ cls:=.type "list",data:=.seq its.toArray n }) :: pl) σ' H' s':=fun{σ' H' s' pl its n} I' hn hg=>
   I'.pins_of fun p Z=>by
    rcases Al.mp Z with e | Z
    ·subst e;exact⟨hg,hn,by rw[eL];exact ai,bF,fun v z=>by cases z⟩
    ·exact I'.pin p (AZ _ Z)
  obtain⟨n0,hg0⟩:=bf;have b5:=aw (its:=[]) I3 bL hg0;have aA:∀{H':Hp} {pl:List (Ac×Obj)},(∀ p∈pl,p.1=D)→(∀ b∈fp,H' b=none)→∀ b∈fp,m5 U pl H' b:=fun{H' pl} hpl hn b O=>by
   refine⟨hn b O,by rw[eL];exact AB (AI (aq b O) ag),fun z=>?_,.inl (by rw[eX];exact O),fun x c e=>(f2 b O).2.2.2.2.1 x c (ae x c e),fun p Z=>?_⟩
   ·rw[eF]at z;rcases Al.mp (I2.stkSub b z)with e | z
    ·exact(f2 b O).2.1 e
    ·exact(f2 b O).2.2.1 z
   ·rw[bv]at Z;rcases Bf.mp Z with z | z
    ·exact(f2 b O).2.2.2.2.2 p z
    ·rw[hpl p z];exact CP (aq b O)
  refine aAO (fun n s'=>∃ i ys its nn σ' H',Inv U [(D,{ cls:=.type "list",data:=.seq its.toArray nn })] σ' H' s'∧tn i s'.heap∧(∀ b∈fp,H' b=none)∧cZ ys its∧W i n ys σ' H') ?_ m0
   ⟨0,[],[],n0,sub src σ,H2,b5,bt,fun b O=>(f2 b O).1,.nil,w0⟩
  rintro n s4 ⟨i,ys,its,nn,σ4,H4,I4,bg,bi,ar,w4⟩;obtain⟨hsz,hcase⟩:=turn i n ys σ4 H4 w4;have one:∀{o:Obj},∀ p∈[(D,o)],p.1=D:=fun{o} p Z=>by
   have:=Bx.mp Z;rw[this]
  rcases hcase with⟨stop,qn⟩ | ⟨go,Nx,hN,step⟩
  ·have am:=T.done U eP eW eK eC i _ s4 σ4 H4 (fun _ _=>False) I4 (aA one bi) bg stop;rw[eA]at am;refine thn am fun r s5 ⟨hr,I5⟩=>?_;subst hr;have pd:=I5.pin _ (AZ _ AL);have bK:Un (frs X.stack) fp H2 H4 Y.heap s5.heap:=by
    have:=I5.base;rw[eF,eX,eS,eH]at this;exact this
   have be:HOk X.prog X.w H4 s5.heap:=by
    have:=I5.hok;rw[eP,eW]at this;exact this
   have bR:s5.os=Y.os:=by
    have:=I5.os;rw[eS]at this;exact this
   have J5:Inv X dh σ H4 s5:=I2.call' bR bK be I5.bare fun b O=>⟨(f2 b O).2.2.2.1,(f2 b O).2.1,(f2 b O).2.2.2.2.1,(f2 b O).2.2.2.2.2⟩
   have fD:m5 X dh H4 D:=I2.fpOk (Fk hD) pd.2.1;have J6:Inv X dh σ (upd H4 D (.lst ys)) s5:=J5.track fD ⟨hsz,its,nn,ar,pd.1⟩;obtain⟨mm,nsC,_⟩:=I5.loc;rw[eL]at nsC;have bT:H4 C=none:=by
    have:=I5.free;rw[eL]at this;exact this
   have fC:m5 X dh (upd H4 D (.lst ys)) C:=I2.fpOk (by rw[hD];exact ag) (by rw[aW (DL ai)];exact bT);exact b3 D C _ mm s5 J6 nsC fC ai (qn D pd.2.1)
  ·have ah:=T.item U eP eW eK eC i _ s4 σ4 H4 (fun _ _=>False) I4 (aA one bi) bg go;rw[eA]at ah;refine thn ah fun r s5 ⟨u,hr,h5⟩=>?_;subst hr;refine thn h5 fun _ s6 ⟨x,H6,I6,r6,y6,aN,b4⟩=>?_;have b1:=I6.pinned (aA one b4) (T.obj _ _ aN);obtain⟨hg,ht,he⟩:=bh;have e1:=hg _ s6 σ4 H6 x u _ b1 r6 (step x H6 y6);rw[eP,eW,eA,eE,aB]at e1;refine thn e1 fun _ s7 ⟨σ7,H7,I7,q7⟩=>?_;have e2:=ht _ s7 σ7 H7 _ I7 q7;rw[eP,eW,eA,eE,aB]at e2;refine thn e2 fun ok s8 ⟨H8,I8,q8⟩=>?_;have bw:∀{σ':St} {H':Hp} {s':Ad} {ac:List Ab} {aj:Nat} {zs:List V},Inv U ([(D,{ cls:=.type "list",data:=.seq ac.toArray aj })] ++ oX fp s6.heap) σ' H' s'→cZ zs ac→Nx zs σ' H'→
     ∃ m,m < n∧∃ i ys its nn σ' H',Inv U [(D,{ cls:=.type "list",data:=.seq its.toArray nn })] σ' H' s'∧tn i s'.heap∧(∀ b∈fp,H' b=none)∧cZ ys its∧W i m ys σ' H':=fun{σ' H' s' ac aj zs} I' vs' n'=>by
    obtain⟨m',hm,w'⟩:=hN zs σ' H' n';refine⟨m',hm,i + 1,zs,ac,aj,σ',H',I'.unpinned,T.keep _ _ _ aN fun b O o e=>(I'.pin (b,o) (AZ _ (AZ _ (l7 O e)))).1,fun b O=>?_,vs',w'⟩;obtain⟨o,e,d⟩:=T.obj _ _ aN b O;exact(I'.pin (b,o) (AZ _ (AZ _ (l7 O e)))).2.1
   cases ok with
   | false=>
    simp only[Cd,if_false]at q8 ⊢;exact bw I8 ar q8
   | true=>
    simp only[if_true]at q8 ⊢;have e3:=he _ s8 σ7 H8 _ I8 q8;rw[eP,eW,eA,eE,aB]at e3;refine thn e3 fun v s9 ⟨y,H9,I9,r9,q9⟩=>?_;have pd:=I9.pin _ (AZ _ (C8 _ AL));have cg:=ar.length;refine wpAny_list_append_plain (hsz:=by simp only[Ar];omega) (⟨nn,pd.1⟩:s9.heap.PlainList D its.toArray) fun h' ⟨aj,bP⟩ b0=>?_;have bI:Inv U (oX fp s6.heap) σ7 H9 s9:=I9.pins_of fun p Z=>I9.pin p (AZ _ (AZ _ Z));have b6:Inv U (oX fp s6.heap) σ7 H9 { s9 with heap:=h' }:=bI.turned (t':=s9.toks) (it:=D) (fun b o O e=>(b0.2 b O).trans e) pd.2.1 (by rw[eL];exact ai) (.inr (by rw[eS];exact Fk hD))
     (fun x c e=>AB (af x c e)) fun p Z=>by
      rw[bv]at Z;rcases Bf.mp Z with z | z
      ·exact AB (ak p z)
      ·exact AB (aq _ (w9 z).1)
    have bp:h'.get? D=some { cls:=.type "list",data:=.seq (its ++ [v]).toArray aj }:=by
     rw[bP];simp
    exact bw (aw (s':={ s9 with heap:=h' }) b6 pd.2.1 bp) (ar.append (.cons r9 .nil)) q9
 exact codeAny_compStart_list (av _ rfl) (T.self X.A 0 _ _ _ bt (av _ rfl))
end
def aIo(src:List (Option Nat))(wi:TI)(g:TG)(tt:TT)(te:TE):TE:=fun σ H Q=>wi σ H fun J H1=>uI J g tt te (sub src σ) H1 Q
section
variable{X:Cx}
theorem fE{tg z F:Bc}{O:List Bc}{scope osc:CH}{pos:Pos}{N oN:List Str}{src:List (Option Nat)}{Z:TI}{g:TG}{Y:TT}{te:TE}(B:aAM N src scope osc oN)(hi:PI X tg z Z)
  (U:∀ cl s H fp dh C,PG (blk X N scope cl s H fp dh C) tg g∧PTs (blk X N scope cl s H fp dh C) O Y∧PE (blk X N scope cl s H fp dh C) F te)
  (hc:X.calm=true:=by rfl) (eo:X.env.scope=osc:=by rfl) (eN:X.N=oN:=by rfl)
  (hs:∀ x,foldedSetIterable z X.env x=pure x:=by intro _;rfl):PE X (.ListComp F [⟨tg,z,O,0⟩] scope pos) (aIo src Z g Y te):=by
 subst eo eN;constructor;intro dh s σ H Q I h;rw[eval_ListComp];refine wpAny_comprehension_free (use:=none) (cl:=i6 X.env scope.names []) rfl hs (pS (I.clos B)) B.kind B.names (thn (hi dh s σ H _ I h) fun xv s1 h1=>thn h1 fun ai s2 h2=>?_);obtain⟨it,fp,tn,J,H2,e,I2,T,st2,f2,cw⟩:=h2;subst e;refine xP B hc U I2 T st2 f2 cw fun D C H' m s' J' W fC af q=>?_;refine⟨m,W,fun h' sb=>⟨.ref D,H',?_,rfl,q⟩⟩;obtain⟨f0,f1,_,f3,f4,f5⟩:=fC;exact J'.turned (t':=s'.toks) (fun b o U e=>(sb.2 b U).trans e) f0 f1 f3 f4 f5
theorem jO{tg F U:Bc}{O:List Bc}{scope osc:CH}{pos ps Y:Pos}{y:Str}{i:Nat}{N oN:List Str}{src:List (Option Nat)}{wi:TI}{g:TG}{tt:TT}{te:TE}(B:aAM N src scope osc oN)(hN:X.N.Nodup)(hy:X.N[i]?=some y)(hi:PI X tg F wi)
  (hb:∀ cl s H fp dh C,PG (blk X N scope cl s H fp dh C) tg g∧PTs (blk X N scope cl s H fp dh C) O tt∧PE (blk X N scope cl s H fp dh C) U te)
  (W:X.env.scope.names.lookup y=some .local:=by rfl)
  (ad:swapsWith (.ListComp U [⟨tg,F,O,0⟩] scope pos) (some (.Name y Y)) ps.line X.env=pure true:=by rfl)
  (hc:X.calm=true:=by rfl) (eo:X.env.scope=osc:=by rfl) (eN:X.N=oN:=by rfl)
  (hs:∀ x,foldedSetIterable F X.env x=pure x:=by intro _;rfl):PS X (.Assign [.Name y Y] (.ListComp U [⟨tg,F,O,0⟩] scope pos) ps) (aIX (aIo src wi g tt te) (dG i)):=by
 subst eo eN;constructor;intro dh s σ H D I h;rw[exec_Assign_Name_used _ _ _ _ ad];refine Aa (Fo (Aa ?_));show wpAny _ _ (evalThenUse (.ListComp U [⟨tg,F,O,0⟩] scope pos) X.env (assign (.Name y Y) X.env)) _ _ s;have e:evalThenUse (.ListComp U [⟨tg,F,O,0⟩] scope pos) X.env (assign (.Name y Y) X.env)=(do
   let _ ← comprehension (.ListComp U [⟨tg,F,O,0⟩] scope pos) scope X.env (firstIterPos [⟨tg,F,O,0⟩] pos) (newList []) (firstAsync [⟨tg,F,O,0⟩]) (firstIter [⟨tg,F,O,0⟩] X.env) (some (assign (.Name y Y) X.env))):=rfl
 rw[e];refine Aa ?_;refine wpAny_comprehension_free (use:=some (assign (.Name y Y) X.env)) (cl:=i6 X.env scope.names []) rfl hs (pS (I.clos B)) B.kind B.names (thn (hi dh s σ H _ I h) fun xv s1 h1=>thn h1 fun av s2 h2=>?_);obtain⟨it,fp,tn,J,H2,e,I2,T,st2,f2,cw⟩:=h2;subst e;refine xP B hc hb I2 T st2 f2 cw fun D' C H' m s' J' ae fC aq q=>?_;obtain⟨f0,f1,_,f3,f4,f5⟩:=fC;refine wpAny_assign_Name (w8 J' hN hy (.inl W) (v:=.ref D') rfl (fun Z af ⟨a,sb,ha⟩=>?_) (.inr W));have aa:C≠a:=by
  rcases ha with rfl | ha
  ·exact f1
  ·exact fun z=>f4 y a ha z.symm
 refine⟨m,ae.sameBut sb aa,fun h' ag=>Af (Af ⟨_,H',af.turned (t':=Z.toks) (fun b o hb e=>(ag.2 b hb).trans e) f0 f1 f3 f4 f5,q⟩)⟩
end
section
variable{X:Cx}
inductive m3(K:Ah)(xs:List V)(H:Hp)(Q:VK):Prop
 | mk (x:_) (n:_) (t:_) (b:_) (q0:xs=[x,.ty n]) (q1:kX K H x t) (q2:Bt K t (.type n)=some b) (q3:Q (.bl b) H):m3 K xs H Q
def oK(K:Ah):List V→Hp→VK→Prop:=fun xs H Q=>m3 K xs H Q
theorem dQ:gH X (.builtin "isinstance") (oK X.K):=by
 intro dh s σ H xs z Q I r h;obtain⟨x,n,t,b,rfl,ty,e,q⟩:=h;obtain⟨u,w',rfl,r1,r2⟩:=aEW r;cases r2;exact aDU I r1 ty e fun tk=>⟨.bl b,H,I.tok _,rfl,q⟩
inductive oM(x:V)(y:V)(H:Hp)(Q:VK):Prop
 | mk (i:_) (j:_) (q0:x=.str i) (q1:y=.str j) (q2:Q (.bl (!decide (j.cps.toList < i.cps.toList))) H):oM x y H Q
def aAQ:V→V→Hp→VK→Prop:=fun x y H Q=>oM x y H Q
theorem xQ:OpR X (compareOp .LtE) aAQ:=by
 intro dh s σ H x y v u Q I z B h;obtain⟨i,j,rfl,rfl,q⟩:=h;obtain⟨t,rfl⟩:=z;obtain⟨t',rfl⟩:=B;exact PySem.P.le_str ⟨.bl _,H,I,rfl,q⟩
def xS(i j:Int):Prop:=0 < j∧j.natAbs.log2 < 9000
theorem xS.of{i j:Int}(h:0 < j)(h2:j < 2 ^ 512):xS i j:=by
 refine⟨h,?_⟩;have z:j.natAbs≠0:=by omega
 have:j.natAbs.log2 < 512:=(Nat.log2_lt z).mpr (by
  have e:((2:Int) ^ 512)=((2 ^ 512:Nat):Int):=by decide
  rw[e]at h2;omega)
 omega
theorem uJ:OpR X (binaryOp .FloorDiv) (rI xS fun i j=>.int (i / j)):=opI fun i j _ _ _ _ _ hc q=>by
 have h1:(0:Int) < j:=hc.1;refine floordiv_int (by omega) ?_ (AG (PyProof.noPylong_of_log2 hc.2));rw[Int.fdiv_eq_ediv_of_nonneg i (by omega)];exact q
def Its(x:Str):It:=⟨fun i _=>i < x.cps.size,fun i H v H'=>H'=H∧∃ c,x.cps[i]?=some c∧v=.str ⟨#[c]⟩,fun i _=>x.cps.size≤i⟩
theorem aFg{P:Ay}{w:AS}{K:Ah}{tg:Bc}(it:Ac)(x:Str)(t:Tok)(nm:String)(ac:nm="str_ascii_iterator"∨nm="str_iterator")
  (W:∀ A':AN,A'.handled=none→Walks P w A' it [it] [it] x.cps.size (SignAt x) (fun i h=>h.IsStrIter it nm x t i))
  (F:∀(A:AN) (i:Nat) (s:Ad) (Q:Ab→Ad→Prop) (E:Ab→Ad→Prop),s.heap.IsStrIter it nm x t i→Q (.ref it) s→wpAny (model P w) A (pyIter (.ref it)) Q E s):
  aDQ P w K tg (Its x) [it] it (fun i h=>i≤x.cps.size∧h.IsStrIter it nm x t i) where
 mem:=by simp
 obj:=fun i h st b B=>by
  have e:b=it:=by simpa using B
  subst e;obtain⟨_,o,e,c,d⟩:=st;exact⟨o,e,fun v z=>by rw[d]at z;cases z⟩
 keep:=fun i h h' st k=>⟨st.1,by obtain⟨_,o,e,c,d⟩:=st;exact⟨o,k it (by simp) o e,c,d⟩⟩
 item:=by
  intro X Z hw Y hc i dh s σ H E I O st U;subst Z hw Y;obtain⟨f0,f1,f2,f3,f4,f5⟩:=O it (by simp);refine(W X.A (I.ok.hd hc)).item i s _ _ U st.2 fun v h' tk hv J kk=>?_;obtain⟨c,u,ec,rfl⟩:=hv;have I1:Inv X dh σ H { s with heap:=h',toks:=tk }:=I.turned (fun b o B e=>kk b o (by simpa using B) e) f0 f1 f3 f4 f5;obtain⟨o,e,c',d⟩:=id J;refine⟨_,rfl,aCO (s:={ s with heap:=h',toks:=tk }) e c' d (by rcases ac with rfl | rfl <;> decide) ⟨.str ⟨#[c]⟩,H,I1,⟨u,rfl⟩,⟨rfl,c,ec,rfl⟩,⟨U,J⟩,fun b B=>(O b B).1⟩⟩
 done:=by
  intro X Z hw Y hc i dh s σ H E I O st U;subst Z hw Y;obtain⟨f0,f1,f2,f3,f4,f5⟩:=O it (by simp);have e:i=x.cps.size:=Nat.le_antisymm st.1 U;subst e;exact(W X.A (I.ok.hd hc)).done s _ _ st.2 fun h' tk kk=>⟨rfl,I.turned (fun b o B e=>kk b o (by simpa using B) e) f0 f1 f3 f4 f5⟩
 self:=fun A i s Q E st h=>F A i s Q E st.2 h
def aLb(tl:TE):TI:=fun σ H R=>tl σ H fun x H1=>As V.str x fun z=>R (Its z) H1
theorem aJf{tg l:Bc}{tl:TE}(hl:PE X l tl):PI X tg l (aLb tl):=by
 constructor;intro dh s σ H R I h;refine thn (hl dh s σ H _ I h) fun v B ⟨x,H1,Z,r1,q1⟩=>?_;obtain⟨z,rfl,q⟩:=q1;obtain⟨t,rfl⟩:=r1;have J:∀(nm:String) (O:nm="str_ascii_iterator"∨nm="str_iterator")
   (W:∀ U:AN,U.handled=none→Walks X.prog X.w U B.heap.objs.size [B.heap.objs.size] [B.heap.objs.size] z.cps.size (SignAt z) (fun i h=>h.IsStrIter B.heap.objs.size nm z t i))
   (F:∀(A:AN) (i:Nat) (s:Ad) (Q:Ab→Ad→Prop) (E:Ab→Ad→Prop),s.heap.IsStrIter B.heap.objs.size nm z t i→Q (.ref B.heap.objs.size) s→wpAny (model X.prog X.w) A (pyIter (.ref B.heap.objs.size)) Q E s),
   PIE X dh σ tg R (.ref B.heap.objs.size) { B with heap:=B.heap.push { cls:=.type nm,data:=.fields #[.str z t,.int 0 0] } }:=fun nm O W F=>by
  refine⟨B.heap.objs.size,[B.heap.objs.size],_,_,H1,rfl,Z.kept (t':=B.toks) fun b o e=>Ai _ e,aFg B.heap.objs.size z t nm O W F,⟨Bu _,_,Ax _ rfl,rfl,rfl⟩,fun b hb=>?_,q⟩;have e:b=B.heap.objs.size:=by simpa using hb
  subst e;exact Z.fpOk (Ap _) (Z.hok.fresh (Ap _))
 cases ha:z.cps.all (· < 128)
 ·exact wpAny_pyIter_wide ha (J "str_iterator" (.inr rfl) (fun U Y=>Walks.strWide Y _ z t) fun A i s Q E st h=>wpAny_pyIter_striter_wide st h)
 ·exact wpAny_pyIter_ascii ha (J "str_ascii_iterator" (.inl rfl) (fun U Y=>Walks.strAscii Y _ z t) fun A i s Q E st h=>wpAny_pyIter_striter_ascii st h)
inductive uK(x:V)(lo:Option Int)(hi:Option Int)(H:Hp)(Q:VK):Prop
 | mk (z:_) (q0:x=.str z) (q1:z.length≤sizeLine) (q2:Q (.str (DU z lo hi)) H):uK x lo hi H Q
def aFh:V→Option Int→Option Int→Hp→VK→Prop:=fun x lo hi H Q=>uK x lo hi H Q
theorem aFi:SlR X aFh:=by
 intro dh s σ H x v vl vu lo hi sl Q I Y Z pl O h;obtain⟨z,rfl,hz,q⟩:=h;obtain⟨t,rfl⟩:=Y;refine⟨"str",_,F.slot_str_getitem.lookup,EL _ _ _,?_⟩;have B:∀ W k,EP X dh σ Q (.str (DU z lo hi) W) { s with toks:=k }:=fun W k=>⟨.str _,H,I.tok _,⟨_,rfl⟩,q⟩
 obtain⟨o,ho,hc,hd⟩:=Z;cases pl with
 | none=>
  cases O with
  | none=>exact DJ (l:=none) (u:=none) (st:=none) ⟨o,ho,hc,hd⟩ rfl (EX ⟨Ba (EF z _ _) hz,B⟩)
  | int j J=>exact DJ (l:=none) (u:=some (j,J)) (st:=none) ⟨o,ho,hc,hd⟩ rfl (EX ⟨Ba (EF z _ _) hz,B⟩)
 | int i U=>
  cases O with
  | none=>exact DJ (l:=some (i,U)) (u:=none) (st:=none) ⟨o,ho,hc,hd⟩ rfl (EX ⟨Ba (EF z _ _) hz,B⟩)
  | int j J=>exact DJ (l:=some (i,U)) (u:=some (j,J)) (st:=none) ⟨o,ho,hc,hd⟩ rfl (EX ⟨Ba (EF z _ _) hz,B⟩)
theorem aC4:∀{ys:List Str}{z:List Ab},cZ (ys.map V.str) z→F3 z ys
 | [],_,.nil=>.nil
 | y :: ys,_,.cons ⟨t,rfl⟩ r=>.cons y t (aC4 r)
inductive rN(K:Ah)(x:V)(xs:List V)(H:Hp)(Q:VK):Prop
 | mk (z:_) (p:_) (ys:_) (q0:x=.str z) (q1:xs=[.ref p]) (q2:SqL K H p (ys.map V.str)) (q3:(ys.map (·.length)).sum + ys.length * z.length≤16777216) (q4:Q (.str (Txt.join z ys)) H):rN K x xs H Q
def aD0(K:Ah):V→List V→Hp→VK→Prop:=fun x xs H Q=>rN K x xs H Q
theorem aHj:MtR X "str.join" (aD0 X.K):=by
 intro dh s σ H x xs v F Q I B r h;obtain⟨z,p,ys,rfl,rfl,hx,hz,q⟩:=h;obtain⟨t,rfl⟩:=B;obtain⟨u,rfl,ru⟩:=gS r;cases ru;obtain⟨its,rv,pl,_⟩:=I.list hx;exact join_list pl.isList (by simpa using aC4 rv) hz fun J k=>⟨.str _,H,I.tok _,⟨_,rfl⟩,q⟩
theorem aAR:∀{bs:List Bool}{z:List Ab},cZ (bs.map V.bl) z→∀(i:Nat) v,z[i]?=some v→∃ b,bs[i]?=some b∧v=.bool b
 | [],_,.nil,i,v,e=>by simp at e
 | b :: bs,_,.cons rfl r,0,v,e=>by simp at e;exact⟨b,rfl,e.symm⟩
 | b :: bs,_,.cons rfl r,i + 1,v,e=>by
  obtain⟨c,h1,h2⟩:=aAR r i v (by simpa using e);exact⟨c,by simpa using h1,h2⟩
theorem aB2(bs:List Bool):((AV bs.length).all fun i=>(bs[i]?).getD true)=bs.all id:=by
 rw[BQ,A3,A3];constructor
 ·intro h b B;obtain⟨i,hi,e⟩:=DZ.mp B;have:=h i (BC.mpr hi);rw[Ag hi]at this;simpa[e]using this
 ·intro h i hi;have z:=BC.mp hi;rw[Ag z];exact h _ (BB z)
inductive pU(K:Ah)(xs:List V)(H:Hp)(Q:VK):Prop
 | mk (p:Ac) (bs:List Bool) (q0:xs=[.ref p]) (q1:SqL K H p (bs.map V.bl)) (q2:Q (.bl (bs.all id)) H):pU K xs H Q
def aB3(K:Ah):List V→Hp→VK→Prop:=fun xs H Q=>pU K xs H Q
theorem pV(hc:X.calm=true):gH X (.builtin "all") (aB3 X.K):=by
 intro dh s σ H xs Y Q I r h;obtain⟨p,bs,rfl,hx,q⟩:=h;obtain⟨u,rfl,ru⟩:=gS r;cases ru;obtain⟨its,rv,pl,_⟩:=I.list hx;have F:=pl.isList;have z:its.length=bs.length:=by have:=rv.length;simpa using this.symm
 have B:p < s.heap.objs.size:=by obtain⟨_,e,_⟩:=F;exact Aq e
 refine call_all_walk (FE F ?_);refine⟨s.heap.objs.size,[s.heap.objs.size,p],[s.heap.objs.size],its.toArray.size,_,_,fun i=>(bs[i]?).getD true,rfl,Walks.list (A:=X.A.in1) (I.ok.hd hc) _ p (AB B) its.toArray,
  ⟨⟨_,Ax _ rfl,rfl,rfl⟩,F.push _⟩,fun i v s' Z W U J=>?_,fun h' tk O=>?_⟩
 ·obtain⟨b,e,rfl⟩:=aAR rv i v (by simpa using U);simp only[e,Option.getD_some]at J;exact B9 J
 ·rw[Ar,z,aB2];exact⟨.bl _,H,I.kept fun b x e=>O b x (fun hm=>by rw[Bx.mp hm]at e;exact Bg _ (Aq e)) (Ai _ e),rfl,q⟩
def qN:List V→List V→Bool
 | [],[]=>true
 | x :: xs,y :: ys=>eqV x y && qN xs ys
 | _,_=>false
theorem uL:∀{xs ys:List V},xs.length≠ys.length→qN xs ys=false
 | [],[],h=>absurd rfl h
 | [],_ :: _,_=>rfl
 | _ :: _,[],_=>rfl
 | x :: xs,y :: ys,h=>by
  show(eqV x y && qN xs ys)=false;rw[uL (fun e=>h (by simp[e])),Bool.and_false]
theorem uM:∀{xs ys:List V},xs.length=ys.length→((AV xs.length).all fun i=>eqV (xs[i]?.getD .non) (ys[i]?.getD .non))=qN xs ys
 | [],[],_=>rfl
 | x :: xs,y :: ys,h=>by
  have z:=uM (xs:=xs) (ys:=ys) (by simpa using h);rw[A1,List.range_succ_eq_map,CV,DE];show(eqV x y && _)=(eqV x y && qN xs ys)
  rw[← z];rfl
theorem aAS{A:AN}{s:Ad}{xs ys:List V}{J F:List Ab}(U:cZ xs J)(O:cZ ys F)(f1:xs.all iS=true)(f2:ys.all iS=true)(j:Nat)(h1:j < J.toArray.size)(h2:j < F.toArray.size):
  Gf A s J.toArray[j] F.toArray[j] (eqV (xs[j]?.getD .non) (ys[j]?.getD .non)):=by
 have Z:=U.length;have W:=O.length;have z:j < xs.length:=by simpa[Z]using h1
 have B:j < ys.length:=by simpa[W]using h2
 obtain⟨u,eu,ru⟩:=U.get (Ag z);obtain⟨w',ew,rw'⟩:=O.get (Ag B);have Y:J.toArray[j]=u:=by
  rw[Ag (by simpa using h1)]at eu;simpa using eu
 have e2:F.toArray[j]=w':=by
  rw[Ag (by simpa using h2)]at ew;simpa using ew
 rw[Y,e2,Ag z,Ag B];exact zM ru rw' (A3.mp f1 _ (BB z)) (A3.mp f2 _ (BB B))
inductive uN(K:Ah)(x:V)(y:V)(H:Hp)(Q:VK):Prop
 | mk (p:_) (q:_) (xs:_) (ys:_) (q0:x=.ref p) (q1:y=.ref q) (q2:SqL K H p xs) (q3:SqL K H q ys) (q4:xs.all iS=true) (q5:ys.all iS=true) (q6:Q (.bl (qN xs ys)) H):uN K x y H Q
def aFj(K:Ah):V→V→Hp→VK→Prop:=fun x y H Q=>uN K x y H Q
theorem aB4(z:X.A.units < cLine):OpR X (compareOp .Eq) (aFj X.K):=by
 intro dh s σ H x y v u Q I F J h;obtain⟨p,q,xs,ys,rfl,rfl,h1,h2,f1,f2,hq⟩:=h;cases F;cases J;obtain⟨us,r1,p1,_⟩:=I.list h1;obtain⟨ws,r2,p2,_⟩:=I.list h2;have B:=r1.length;have O:=r2.length;by_cases e:xs.length=ys.length
 ·refine SeqAt.eq_listAt p1.isList p2.isList (by simp;omega) z (aAS r1 r2 f1 f2) ?_;rw[Ar,← B,uM e];exact⟨.bl _,H,I,rfl,hq⟩
 ·refine SeqAt.eq_list_lengthsAt p1.isList p2.isList (by simp;omega) z ?_;rw[uL e]at hq;exact⟨.bl _,H,I,rfl,hq⟩
inductive uO(K:Ah)(x:V)(y:V)(H:Hp)(Q:VK):Prop
 | mk (p:_) (q:_) (xs:_) (ys:_) (q0:x=.ref p) (q1:y=.ref q) (q2:SqL K H p xs) (q3:SqL K H q ys) (q4:xs.all iS=true) (q5:ys.all iS=true) (q6:Q (.bl (!qN xs ys)) H):uO K x y H Q
def aFk(K:Ah):V→V→Hp→VK→Prop:=fun x y H Q=>uO K x y H Q
theorem aB5(z:X.A.units < cLine):OpR X (compareOp .NotEq) (aFk X.K):=by
 intro dh s σ H x y v u Q I F J h;obtain⟨p,q,xs,ys,rfl,rfl,h1,h2,f1,f2,hq⟩:=h;cases F;cases J;obtain⟨us,r1,p1,_⟩:=I.list h1;obtain⟨ws,r2,p2,_⟩:=I.list h2;have B:=r1.length;have O:=r2.length;by_cases e:xs.length=ys.length
 ·refine SeqAt.RcNeAt.lists p1.isList p2.isList (by simp;omega) z (aAS r1 r2 f1 f2) X.prog X.w _ _ ?_;rw[Ar,← B,uM e];exact⟨.bl _,H,I,rfl,hq⟩
 ·refine SeqAt.RcNeAt.lists_lengths p1.isList p2.isList (by simp;omega) z X.prog X.w _ _ ?_;rw[uL e]at hq;exact⟨.bl _,H,I,rfl,hq⟩
end
theorem aS{n:Nat}(h:n≤1000000):n≤sizeLine:=by
 have:sizeLine=16777216:=FX;omega
theorem sX{J:It}{g:TG}{Y:TT}{te:TE}{σ₀:St}{H₀:Hp}{Q:VK}(n:Nat)(z:Nat→List V→St→Hp→Prop)(h0:z 0 [] σ₀ H₀)(hn:n≤sizeLine)(O:∀ i ys σ H,z i ys σ H→ys.length≤i)
  (W:∀ i ys σ H,i < n→z i ys σ H→J.go i H) (B:∀ ys σ H,z n ys σ H→J.stop n H)
  (hs:∀ i ys σ H x H',i < n→z i ys σ H→J.yld i H x H'→g x σ H' fun U H2=>Y U H2 fun b Z=>if b=true then te U Z fun v H4=>z (i + 1) (ys ++ [v]) U H4 else z (i + 1) ys U Z)
  (hd:∀ ys σ H,z n ys σ H→∀ D,H D=none→Q (.ref D) (upd H D (.lst ys))):uI J g Y te σ₀ H₀ Q:=by
 refine⟨fun i m ys σ H=>m=n - i∧i≤n∧z i ys σ H,⟨n,by simp,Bu _,h0⟩,?_⟩;rintro i m ys σ H ⟨rfl,hi,p⟩;refine⟨Ba (O i ys σ H p) (Ba hi hn),?_⟩;by_cases F:i < n
 ·exact .inr ⟨W i ys σ H F p,z (i + 1),fun zs σ' H' p'=>⟨n - (i + 1),by omega,rfl,F,p'⟩,fun x H' y=>hs i ys σ H x H' F p y⟩
 ·have e:i=n:=by omega
  subst e;exact .inl ⟨B ys σ H p,hd ys σ H p⟩
theorem aFl{x:Str}{g:TG}{J:TT}{te:TE}{U:St}{H₀:Hp}{Q:VK}(z:Nat→List V→St→Hp→Prop)(Z:z 0 [] U H₀)(hn:x.cps.size≤sizeLine)(B:∀ i ys σ H,z i ys σ H→ys.length≤i)
  (Y:∀ i c ys σ H,x.cps[i]?=some c→z i ys σ H→g (.str ⟨#[c]⟩) σ H fun F H2=>J F H2 fun b O=>if b=true then te F O fun v W=>z (i + 1) (ys ++ [v]) F W else z (i + 1) ys F O)
  (hd:∀ ys σ H,z x.cps.size ys σ H→∀ D,H D=none→Q (.ref D) (upd H D (.lst ys))):uI (Its x) g J te U H₀ Q:=
 sX x.cps.size z Z hn B (fun i _ _ _ h _=>h) (fun _ _ _ _=>Ap _) (fun i ys σ H v H' hi p y=>by
  obtain⟨e,c,ec,rfl⟩:=y;subst e;exact Y i c ys σ _ ec p) hd
theorem jP{lo:Int}{n:Nat}{g:TG}{J:TT}{te:TE}{U:St}{H₀:Hp}{Q:VK}(z:Nat→List V→St→Hp→Prop)(Z:z 0 [] U H₀)(hn:n≤sizeLine)(B:∀ i ys σ H,z i ys σ H→ys.length≤i)
  (Y:∀ i ys σ H,i < n→z i ys σ H→g (.int (lo + i)) σ H fun F H2=>J F H2 fun b O=>if b=true then te F O fun v W=>z (i + 1) (ys ++ [v]) F W else z (i + 1) ys F O)
  (hd:∀ ys σ H,z n ys σ H→∀ D,H D=none→Q (.ref D) (upd H D (.lst ys))):uI (Itr lo n) g J te U H₀ Q:=
 sX n z Z hn B (fun i _ _ _ h _=>h) (fun _ _ _ _=>Ap _) (fun i ys σ H v H' hi p y=>by
  obtain⟨e,rfl⟩:=y;subst e;exact Y i ys σ _ hi p) hd
theorem nY{K:Ah}{a:Ac}{xs:List V}{g:TG}{O:TT}{te:TE}{W:St}{H₀:Hp}{Q:VK}(z:Nat→List V→St→Hp→Prop)(h0:z 0 [] W H₀)(hn:xs.length≤sizeLine)(B:∀ i ys σ H,z i ys σ H→ys.length≤i)
  (J:∀ i ys σ H,z i ys σ H→SqL K H a xs)
  (Z:∀ i x ys σ H,xs[i]?=some x→z i ys σ H→g x σ H fun F H2=>O F H2 fun b U=>if b=true then te F U fun v Y=>z (i + 1) (ys ++ [v]) F Y else z (i + 1) ys F U)
  (hd:∀ ys σ H,z xs.length ys σ H→∀ D,H D=none→Q (.ref D) (upd H D (.lst ys))):uI (Itl K a) g O te W H₀ Q:=
 sX xs.length z h0 hn B (fun i ys σ H h p=>⟨xs,xs[i],J i ys σ H p,by simp[h]⟩) (fun ys σ H p=>⟨xs,J _ ys σ H p,Ap _⟩) (fun i ys σ H v H' hi p y=>by
  obtain⟨e,y⟩:=y;subst e;exact Z i v ys σ _ (y xs (J i ys σ _ p)) p) hd
theorem gQ{K:Ah}{a:Ac}{xs:List V}{g:TG}{O:TT}{te:TE}{W:St}{H₀:Hp}{Q:VK}(z:Nat→List V→St→Hp→Prop)(h0:z 0 [] W H₀)(hn:xs.length≤sizeLine)(B:∀ i ys σ H,z i ys σ H→ys.length≤i)
  (J:∀ i ys σ H,z i ys σ H→SqT K H a xs)
  (Z:∀ i x ys σ H,xs[i]?=some x→z i ys σ H→g x σ H fun F H2=>O F H2 fun b U=>if b=true then te F U fun v Y=>z (i + 1) (ys ++ [v]) F Y else z (i + 1) ys F U)
  (hd:∀ ys σ H,z xs.length ys σ H→∀ D,H D=none→Q (.ref D) (upd H D (.lst ys))):uI (Itt K a) g O te W H₀ Q:=
 sX xs.length z h0 hn B (fun i ys σ H h p=>⟨xs,xs[i],J i ys σ H p,by simp[h]⟩) (fun ys σ H p=>⟨xs,J _ ys σ H p,Ap _⟩) (fun i ys σ H v H' hi p y=>by
  obtain⟨e,y⟩:=y;subst e;exact Z i v ys σ _ (y xs (J i ys σ _ p)) p) hd
def aY(p:Ac)(H H':Hp):Prop:=∀ b o,H b=some o→b≠p→H' b=some o
theorem aY.refl(p:Ac)(H:Hp):aY p H H:=fun _ _ e _=>e
theorem aY.trans{p:Ac}{H H1 H2:Hp}(a:aY p H H1)(b:aY p H1 H2):aY p H H2:=fun c o e h=>b c o (a c o e h) h
theorem aY.same{p:Ac}{H H1 H2:Hp}(a:aY p H H1)(b:bJ H1 H2):aY p H H2:=fun c o e h=>b c o (a c o e h)
theorem bJ.but{p:Ac}{H H1:Hp}(a:bJ H H1):aY p H H1:=fun c o e _=>a c o e
theorem aY.upd{p:Ac}{o:HO}{H H1:Hp}(a:aY p H H1):aY p H (upd H1 p o):=fun c u e h=>by rw[aW h];exact a c u e h
theorem aQ{p:Ac}{o:HO}{H:Hp}(h:H p=none):bJ H (upd H p o):=fun c u e=>by rw[aW (bB e h)];exact e
section
variable{X:Cx}
end
section
variable{X:Cx}
inductive aFm(t:TS)(D:oU)(σ:St)(H:Hp):Prop
 | mk (R:St→Hp→Prop) (q0:t { D with nx:=R } σ H) (q1:∀ σ' H',R σ' H'→D.nx σ' H'):aFm t D σ H
def aLc(t:TS):TS:=fun D σ H=>aFm t D σ H
theorem nE{st:BP}{t:TS}(h:PS X st t):PS X st (aLc t):=by
 constructor;intro dh s σ H D I q;obtain⟨R,q1,q2⟩:=q;refine thn (h dh s σ H _ I q1) fun f s' z=>?_;cases f with
 | next=>obtain⟨σ',H',I',r⟩:=z;exact⟨σ',H',I',q2 _ _ r⟩
 | brk=>exact z
 | cont=>exact z
 | ret u=>exact z
end
theorem xU:∀ ns:List Int,(ns.map V.int).all iS=true
 | []=>rfl
 | _ :: r=>xU r
theorem uP{K:Ah}{T U:String}{b:Bool}(hn:(AW T == AW U)=false)(hm:PySem.W.kitMeta U=true)(z:(PySem.fastBuiltinMro T).map (·.contains (AW U))=some b):Bt K (.type T) (.type U)=some b:=by
 unfold Bt;rw[Ia (by rw[hn];exact AD)];show(if PySem.W.kitMeta U=true then PySem.W.subIn K (AW T) (AW U) else none)=_;rw[Ib hm];exact z
theorem nF{K:Ah}{T:String}:Bt K (.type T) (.type T)=some true:=by
 unfold Bt;rw[Ib (by rw[beq_self_eq_true])]
theorem g9{xs:List V}{i:Int}(B:0≤i)(h1:i < xs.length):∃ v,v∈xs∧atI xs i=some v:=by
 have z:i.toNat < xs.length:=by omega
 refine⟨xs[i.toNat],BB z,?_⟩;have e:=dD (xs:=xs) (j:=i.toNat) (v:=xs[i.toNat]) (Ag z);rw[D6 B]at e;exact e
def aFn:Bc→Bool
 | .Starred ..=>false
 | _=>true
theorem aD1{e:Bc}{es:List Bc}{env:Env}(h:aFn e=true):starEach (e :: es) env=(false,eval e env) :: starEach es env:=by
 cases e <;> first | rfl | cases h
theorem aG{X:Cx}{e:Bc}{es:List Bc}{te:TE}{t:TA}(ha:PE X e te)(z:PA X es t)(B:aFn e=true:=by rfl):PA X (e :: es) (xC te t):=gR ha z (aD1 B)
section
variable{X:Cx}
theorem Inv.turnedL{dh:List (Ac×Obj)}{σ:St}{H:Hp}{s:Ad}{h':A4}{t':Nat}{fp:List Ac}(I:Inv X dh σ H s)(k:∀ b o,b ∉ fp→s.heap.get? b=some o→h'.get? b=some o)(F:∀ b∈fp,m5 X dh H b):
  Inv X dh σ H { s with heap:=h',toks:=t' }:=by
 have B:∀ b u,H b=some u→b ∉ fp:=fun b u e z=>by rw[(F b z).1]at e;cases e
 refine I.step (g':=s.gens) (d':=s.drawn) (ch:=fp) (fun b J=>?_) (fun b o _ _ hc e _=>k b o hc e) (fun b o _ _ hc e _=>⟨o.slots,k b o hc e⟩) (fun _ _ _ _ n=>n)
  (fun b o hc e=>⟨o,k b o hc e⟩) (fun _ _ e=>e) (fun _ _ _ e=>e) (fun b ps e=>⟨#[],by rw[e];simp⟩) (fun m hm=>?_) (fun b u e=>?_) I.bare
 ·obtain⟨_,h1,_,h3,h4,h5⟩:=F b J;exact⟨h3,h1,h4,h5⟩
 ·obtain⟨o,es,ep,ho,r⟩:=hm;exact⟨o,es,ep,k _ o (fun z=>(F _ z).2.1 rfl) ho,r⟩
 ·refine(I.hok b u e).stay (fun c v hc q=>k c v ?_ q) (fun _ q=>q) fun _ _ q=>q;rcases hc with z | z
  ·rw[z];exact B b u e
  ·exact B c _ z
structure ZA(z TI TO i1 i2:Ac):Prop where
 a1:TI≠z
 a2:TO≠z
 a3:i1≠z
 a4:i2≠z
 a5:TI≠TO
 a6:TI≠i1
 a7:TI≠i2
 a8:TO≠i1
 a9:TO≠i2
 a10:i1≠i2
end
def lE(σ:List Str)(v:Str):List Str:=if v∈σ then σ else σ ++ [v]
def iI(val:Nat→Str):Nat→List Str
 | 0=>[]
 | i + 1=>lE (iI val i) (val i)
theorem pW(σ:List Str)(k:Str):(σ.any fun x=>x == k)=decide (k∈σ):=by
 rw[BQ,EA,decide_eq_true_iff];constructor
 ·rintro⟨x,hx,e⟩;rw[beq_iff_eq]at e;exact e ▸ hx
 ·intro h;exact⟨k,h,beq_self_eq_true k⟩
theorem aD2(σ:List Str)(v k:Str):((lE σ v).any fun x=>x == k)=((σ.any fun x=>x == k) || decide (k=v)):=by
 rw[pW,pW];unfold lE;split
 ·next h=>
  rw[BQ];simp only[decide_eq_true_eq,EH];constructor
  ·intro z;exact .inl z
  ·rintro(z | z)
   ·exact z
   ·exact z ▸ h
 ·rw[BQ];simp
theorem mG(σ:List Str)(v:Str):(lE σ v).length=if (σ.any fun x=>x == v)=true then σ.length else σ.length + 1:=by
 rw[pW];unfold lE;by_cases h:v∈σ
 ·rw[Ib h,Ib (Ic h)]
 ·rw[Ia h,Ia (by simpa using h),Av];rfl
theorem sY(val:Nat→Str):∀ i,(iI val i).length≤i
 | 0=>Ap _
 | i + 1=>by
  have z:=sY val i;show(lE _ _).length≤_;rw[mG];split <;> omega
section
variable{X:Cx}
theorem uQ(val:Nat→Str):∀ i k,k∈iI val i↔∃ j,j < i∧val j=k
 | 0,k=>by
  show k∈[]↔_;simp
 | i + 1,k=>by
  show k∈lE (iI val i) (val i)↔_;have B:=uQ val i;unfold lE;by_cases h:val i∈iI val i
  ·rw[Ib h,B k];constructor
   ·rintro⟨j,hj,e⟩;exact⟨j,by omega,e⟩
   ·rintro⟨j,hj,e⟩;by_cases z:j=i
    ·subst z;obtain⟨j',hj',e'⟩:=(B _).mp h;exact⟨j',hj',e'.trans e⟩
    ·exact⟨j,by omega,e⟩
  ·rw[Ia h,Bf,B k,Bx];constructor
   ·rintro(⟨j,hj,e⟩ | e)
    ·exact⟨j,by omega,e⟩
    ·exact⟨i,by omega,e.symm⟩
   ·rintro⟨j,hj,e⟩;by_cases z:j=i
    ·subst z;exact .inr e.symm
    ·exact .inl ⟨j,by omega,e⟩
theorem xV(val:Nat→Str):∀ i,(iI val i).length=i↔((AV i).map val).Nodup
 | 0=>by simp[iI]
 | i + 1=>by
  have F:=xV val i;have O:=sY val i;show(lE (iI val i) (val i)).length=_↔_;rw[mG,pW,List.range_succ,AU,C2];have hm:val i∈iI val i↔val i∈(AV i).map val:=by
   rw[uQ,Bd];constructor
   ·rintro⟨j,hj,e⟩;exact⟨j,BC.mpr hj,e⟩
   ·rintro⟨j,hj,e⟩;exact⟨j,BC.mp hj,e⟩
  by_cases h:val i∈iI val i
  ·rw[Ib (Ic h)];constructor
   ·intro z;omega
   ·rintro⟨_,_,z⟩;exact absurd rfl (z _ (hm.mp h) _ (by simp))
  ·rw[Ia (by simpa using h)];constructor
   ·intro z;refine⟨F.mp (by omega),by simp,fun a ha b J e=>?_⟩;have B:b=val i:=by simpa using J
    subst B;exact h (hm.mpr (e ▸ ha))
   ·rintro⟨z,_,_⟩;rw[F.mpr z]
theorem aD3(z:List Str):decide (((iI (fun i=>z.getD i "") z.length).length:Int)=(z.length:Int))=decide z.Nodup:=by
 have e:(AV z.length).map (fun i=>z.getD i "")=z:=by
  apply CB;intro j;rw[AK];by_cases h:j < z.length
  ·rw[Dk h,Ag h];simp[h]
  ·rw[A0 (by rw[B7];omega),A0 (by omega)];rfl
 have:=xV (fun i=>z.getD i "") z.length;rw[e]at this;rw[decide_eq_decide,← this];omega
inductive aAU(K:Ah)(x:V)(y:V)(H:Hp)(Q:VK):Prop
 | mk (a:_) (b:_) (ys:_) (q0:x=.ref a) (q1:y=.ref b) (q2:SqT K H a []) (q3:SqT K H b ys) (q4:Q (.ref b) H):aAU K x y H Q
def aJg(K:Ah):R2:=fun x y H Q=>aAU K x y H Q
theorem aFo:OpR X (binaryOp .Add) (aJg X.K):=by
 intro dh s σ H x y v u Q I z B h;obtain⟨a,b,ys,rfl,rfl,ha,hb,q⟩:=h;cases z;cases B;obtain⟨its,r1,p1,_⟩:=I.tuple ha;obtain⟨its2,r2,p2,_⟩:=I.tuple hb;cases r1;obtain⟨⟨cls,dd,data,sl⟩,ho,hc,n,hd⟩:=id p1;obtain⟨⟨cls2,dd2,data2,sl2⟩,ho2,hc2,n2,hd2⟩:=id p2;simp only at hc hd hc2 hd2;subst hc hd hc2 hd2;exact Gs ⟨_,ho,rfl⟩ ⟨_,ho2,rfl⟩ FV Ge Ep Ei (Ee _ _)
   (tuple_addW0 a b _ _ n n2 dd dd2 sl sl2 (by simp)) ⟨ho,ho2,⟨.ref b,H,I,rfl,q⟩⟩
end
section
variable{prog:Ay}{w:AS}{A:AN}{E:Ab→Ad→Prop}{s:Ad}
end
section
variable{X:Cx}{e st:Bc}{te ts:TE}{pos p2:Pos}
end
section
variable{X:Cx}
end
mutual
inductive RdV(m:Bool)(H:Hp):V→Ak→Prop
 | non:RdV m H .non .none
 | bl (b:Bool):RdV m H (.bl b) (.bool b)
 | int (i:Int):RdV m H (.int i) (.int i)
 | str (z:Str) (h:z.length≤1000):RdV m H (.str z) (.str z)
 | lst {a:Ac} {xs:List V} {ds:List Ak} (hm:m=true) (e:H a=some (.lst xs)) (hl:xs.length≤1000) (r:cG m H xs ds):RdV m H (.ref a) (.list ds)
 | tup {a:Ac} {xs:List V} {ds:List Ak} (e:H a=some (.tup xs)) (hl:xs.length≤1000) (r:cG m H xs ds):RdV m H (.ref a) (.tuple ds)
 | dct {a:Ac} (hm:m=false) (e:H a=some (.dK [])):RdV m H (.ref a) (.dict [])
inductive cG(m:Bool)(H:Hp):List V→List Ak→Prop
 | nil:cG m H [] []
 | cons {x:V} {d:Ak} {xs:List V} {ds:List Ak} (a:RdV m H x d) (r:cG m H xs ds):cG m H (x :: xs) (d :: ds)
end
mutual
theorem RdV.keep{m:Bool}{H H':Hp}(k:∀ a o,H a=some o→(∀ F r,o≠.dK (F :: r))→H' a=some o):∀{x:V}{d:Ak},RdV m H x d→RdV m H' x d
 | _,_,.non=>.non
 | _,_,.bl b=>.bl b
 | _,_,.int i=>.int i
 | _,_,.str z h=>.str z h
 | _,_,.lst hm e B r=>.lst hm (k _ _ e (fun _ _ z=>nomatch z)) B (cG.keep k r)
 | _,_,.tup e B r=>.tup (k _ _ e (fun _ _ z=>nomatch z)) B (cG.keep k r)
 | _,_,.dct hm e=>.dct hm (k _ _ e (fun _ _ z=>nomatch z))
theorem cG.keep{m:Bool}{H H':Hp}(k:∀ a o,H a=some o→(∀ z r,o≠.dK (z :: r))→H' a=some o):∀{xs:List V}{ds:List Ak},cG m H xs ds→cG m H' xs ds
 | _,_,.nil=>.nil
 | _,_,.cons a r=>.cons (RdV.keep k a) (cG.keep k r)
end
theorem RdV.same{m:Bool}{H H':Hp}{x:V}{d:Ak}(h:RdV m H x d)(s:bJ H H'):RdV m H' x d:=h.keep fun a o e _=>s a o e
theorem cG.same{m:Bool}{H H':Hp}{x:List V}{d:List Ak}(h:cG m H x d)(s:bJ H H'):cG m H' x d:=h.keep fun a o e _=>s a o e
theorem cG.len{m:Bool}{H:Hp}:∀{xs:List V}{ds:List Ak},cG m H xs ds→xs.length=ds.length
 | _,_,.nil=>rfl
 | _,_,.cons _ r=>by rw[A1,A1,cG.len r]
theorem cG.app{m:Bool}{H:Hp}:∀{xs:List V}{ds:List Ak}{ys:List V}{es:List Ak},cG m H xs ds→cG m H ys es→cG m H (xs ++ ys) (ds ++ es)
 | _,_,_,_,.nil,h=>h
 | _,_,_,_,.cons a r,h=>.cons a (cG.app r h)
theorem cG.at{m:Bool}{H:Hp}:∀{xs:List V}{ds:List Ak}{i:Nat}{x:V},cG m H xs ds→xs[i]?=some x→∃ d,ds[i]?=some d∧RdV m H x d
 | _,_,0,_,.cons a r,e=>by simp at e;subst e;exact⟨_,rfl,a⟩
 | _,_,i + 1,_,.cons a r,e=>by simp at e;simpa using cG.at r e
theorem cG.drop{m:Bool}{H:Hp}:∀{xs:List V}{ds:List Ak} (i:Nat),cG m H xs ds→cG m H (xs.drop i) (ds.drop i)
 | _,_,0,h=>h
 | _,_,i + 1,.nil=>.nil
 | _,_,i + 1,.cons _ r=>cG.drop i r
theorem cG.take{m:Bool}{H:Hp}:∀{xs:List V}{ds:List Ak} (i:Nat),cG m H xs ds→cG m H (xs.take i) (ds.take i)
 | _,_,0,_=>by simpa using cG.nil
 | _,_,i + 1,.nil=>.nil
 | _,_,i + 1,.cons a r=>.cons a (cG.take i r)
section
variable{X:Cx}
mutual
theorem RdV.reads{dh:List (Ac×Obj)}{σ:St}{m:Bool}{H:Hp}{s:Ad}(I:Inv X dh σ H s):∀{x:V}{d:Ak}{v:Ab},RdV m H x d→dA x v→∃ as,Reads s.heap v d as∧(m=true→d.hasDict=false)∧(m=false→¬ sysModules∈as)
 | _,_,_,.non,r=>by cases r;exact⟨[],.none,fun _=>rfl,fun _=>by simp⟩
 | _,_,_,.bl b,r=>by cases r;exact⟨[],.bool b,fun _=>rfl,fun _=>by simp⟩
 | _,_,_,.int i,r=>by obtain⟨t,rfl⟩:=r;exact⟨[],.int i t,fun _=>rfl,fun _=>by simp⟩
 | _,_,_,.str z _,r=>by obtain⟨t,rfl⟩:=r;exact⟨[],.str z t,fun _=>rfl,fun _=>by simp⟩
 | _,_,_,.lst hm e _ rs,r=>by
  cases r;obtain⟨_,its,n,rv,eo⟩:c5 X.prog X.w H s.heap _ (.lst _):=I.hok _ _ e;obtain⟨as,ra,h1,h2⟩:=cG.reads I rs rv;exact⟨_,.list eo rfl rfl (by simpa using ra),fun _=>h1 hm,fun z=>by rw[hm]at z;cases z⟩
 | _,_,_,.tup e _ rs,r=>by
  cases r;obtain⟨_,its,rv,pt⟩:c5 X.prog X.w H s.heap _ (.tup _):=I.hok _ _ e;obtain⟨as,ra,h1,h2⟩:=cG.reads I rs rv;obtain⟨o,eo,⟨hc,n,hd⟩,_⟩:=pt;exact⟨as,.tuple eo hc hd (by simpa using ra),h1,h2⟩
 | _,_,_,.dct hm e,r=>by
  cases r;obtain⟨_,hs,vs,kv,o,es,ep,eo,hx,hd,hk,hp,_⟩:c5 X.prog X.w H s.heap _ (.dK []):=I.hok _ _ e;cases kv;have B:es.toList=[]:=by
   cases h:es.toList with
   | nil=>rfl
   | cons y r=>rw[h]at hp;cases hp
  refine⟨_,Reads.dict (kvs:=[]) (as:=[]) (bs:=[]) eo hx.1 hd (by rw[B];exact .nil) (by rw[B];exact .nil),(fun z=>by rw[hm]at z;cases z),fun _=>?_⟩;intro z;simp at z;rw[z]at hs;simp at hs
theorem cG.reads{dh:List (Ac×Obj)}{σ:St}{m:Bool}{H:Hp}{s:Ad}(I:Inv X dh σ H s):∀{xs:List V}{ds:List Ak}{vs:List Ab},cG m H xs ds→cZ xs vs→∃ as,ReadsAll s.heap vs ds as∧(m=true→A2 ds=false)∧(m=false→¬ sysModules∈as)
 | _,_,_,.nil,.nil=>⟨[],.nil,fun _=>rfl,fun _=>by simp⟩
 | _,_,_,.cons a r,.cons B F=>by
  obtain⟨as,h1,h2,h3⟩:=RdV.reads I a B;obtain⟨bs,g1,g2,g3⟩:=cG.reads I r F;refine⟨as ++ bs,.cons h1 g1,fun z=>?_,fun z w=>?_⟩
  ·unfold A2;rw[h2 z,g2 z];rfl
  ·rcases Bf.mp w with w | w
   ·exact h3 z w
   ·exact g3 z w
end
inductive oO(xs:List V)(H:Hp)(Q:VK):Prop
 | mk (a:Ac) (m:Bool) (d:Ak) (q0:xs=[.ref a]) (q1:RdV m H (.ref a) d) (q2:d.showable=true) (q3:d.depth≤20) (q4:d.shown.length≤sizeLine) (q5:Q (.str d.shown) H):oO xs H Q
def aAV:List V→Hp→VK→Prop:=fun xs H Q=>oO xs H Q
theorem aD4{k:Nat}(B:cY k X.A):gH X (.builtin "repr") aAV:=by
 intro dh s σ H xs J Q I r h;obtain⟨a,m,d,rfl,hx,hs,hd,hz,q⟩:=h;obtain⟨u,rfl,ru⟩:=gS r;cases ru;obtain⟨as,hrd,h1,h2⟩:=RdV.reads I hx rfl;refine repr_of_reads' hrd hs (fun z=>?_) B.gd (by have:=B.un;omega) (fun b o e=>e) (fun h' u tk F=>⟨.str d.shown,H,I.kept (t':=tk) F,⟨u,rfl⟩,q⟩) hz;cases m with
 | true=>rw[h1 rfl]at z;cases z
 | false=>exact h2 rfl
end
section
variable{prog:Ay}{w:AS}{A:AN}{E:Ab→Ad→Prop}{s:Ad}
theorem pX{t F:Ac}{z:Array Ab}{O W:Ab}{lo hi:Option Int}{Q:Ab→Ad→Prop}(ht:Eu s.heap t z)(U:s.heap.IsSliceOf F O W .none)(pl:ER O lo)(Y:ER W hi)
  (hw:HT.sIx z.size 0 lo=0∧HT.sIx z.size z.size hi=z.size) (h:Q (.ref t) s):wpAny (model prog w) A (getItem (.ref t) (.ref F)) Q E s:=by
 obtain⟨os,hos,hcs,hds⟩:=id U;have J:s.TypeIs (.ref F) "slice":=⟨os,hos,hcs⟩
 unfold getItem
 try with_reducible refine Be ?_
 first | refine Aa (Af ?_) | skip
 refine Aa (wpAny_sequenceKey ht.typeIs (by decide) ?_);refine Aa (Cj (name:=Bh "__getitem__") ht.typeIs BK
  (B3 BK ht.typeIs entry_tuple_getitem ?_ (args_tuple_getitem _ _)))
 show wpAny _ _ (Builtin.Tuple.tupleItemsOf (.ref t) >>= _) _ _ s;refine Aa (tupleItemsOf_ ht ?_);refine Aa (BU J ?_);rw[Ib (by decide)];refine Aa (HT.sliceApplied_gen U pl Y ?_);have B:(((HT.sIx z.size 0 lo:Nat):Int) == 0 && (1:Int) == 1 && (HT.sIx z.size z.size hi - HT.sIx z.size 0 lo) == z.size)=true:=by
  rw[hw.1,hw.2];simp
 show wpAny _ _ (if (((HT.sIx z.size 0 lo:Nat):Int) == 0 && (1:Int) == 1 && (HT.sIx z.size z.size hi - HT.sIx z.size 0 lo) == z.size)=true then _ else _) _ _ s;rw[Ib B];obtain⟨⟨cls,dd,data,sl'⟩,ho,hc,n,hd⟩:=id ht;simp only at hc hd;subst hc hd
 wp_walk
 exact⟨_,rfl,Af h⟩
end
section
variable{X:Cx}
inductive aFp(K:Ah)(x:V)(lo:Option Int)(hi:Option Int)(H:Hp)(Q:VK):Prop
 | mk (a:_) (xs:_) (q0:x=.ref a) (q1:H a=some (.tup xs)) (q2:∀ r H',bJ H H'→H' r=some (.tup (gU xs lo hi))→Q (.ref r) H'):aFp K x lo hi H Q
def aLd(K:Ah):V→Option Int→Option Int→Hp→VK→Prop:=fun x lo hi H Q=>aFp K x lo hi H Q
theorem mH:SlR X (aLd X.K):=by
 intro dh s σ H x v U W lo hi Y Q I F J pl B h;obtain⟨a,xs,rfl,hx,q⟩:=h;by_cases hw:HT.sIx xs.length 0 lo=0∧HT.sIx xs.length xs.length hi=xs.length
 ·cases F;obtain⟨its,r,ht,hz⟩:=I.tuple (aZ hx);have z:its.toArray.size=xs.length:=by rw[Ar];exact r.length.symm
  refine⟨"tuple",_,BK.lookup,ht.typeIs,pX ht J pl B (by rw[z];exact hw) ⟨.ref a,H,I,rfl,q a H (bJ.refl H) ?_⟩⟩;have e:gU xs lo hi=xs:=by
   unfold gU;rw[hw.1,hw.2,DA,Fj,BJ]
  rw[e];exact hx
 ·exact aI6 dh s σ H _ v U W lo hi Y Q I F J pl B ⟨a,xs,rfl,aZ hx,hw,fun p O=>q p _ (aQ O) aH⟩
inductive aC5(x:V)(y:V)(H:Hp)(Q:VK):Prop
 | mk (a:_) (b:_) (xs:_) (ys:_) (q0:x=.ref a) (q1:y=.ref b) (q2:H a=some (.tup xs)) (q3:H b=some (.tup ys)) (q4:xs.length + ys.length≤1000000) (q5:∀ r H',bJ H H'→H' r=some (.tup (xs ++ ys))→Q (.ref r) H'):aC5 x y H Q
def aKo:R2:=fun x y H Q=>aC5 x y H Q
theorem nZ:OpR X (binaryOp .Add) aKo:=by
 intro dh s σ H x y v u Q I z B h;obtain⟨a,b,xs,ys,rfl,rfl,ha,hb,hz,q⟩:=h;by_cases F:xs=[]
 ·subst F;exact aFo dh s σ H _ _ v u Q I z B ⟨a,b,ys,rfl,rfl,aZ ha,aZ hb,q b H (bJ.refl H) hb⟩
 ·refine aHg dh s σ H _ _ v u Q I z B ⟨a,b,xs,ys,rfl,rfl,aZ ha,aZ hb,F,aS hz,fun h1=>?_,fun h1 p J=>q p _ (aQ J) aH⟩;subst h1;exact q a H (bJ.refl H) (by rw[Cv];exact ha)
theorem zS{α:Type}(xs:List V)(n:Nat):gU xs none (some (n:Int))=xs.take n:=by
 unfold gU;rw[HT.sIx_none,HT.sIx_nat,DA,Fj];by_cases h:n≤xs.length
 ·rw[Nat.min_eq_left h]
 ·rw[Nat.min_eq_right (by omega),BJ,Bw (by omega)]
theorem pY{α:Type}(xs:List V)(n:Nat):gU xs (some (n:Int)) none=xs.drop n:=by
 unfold gU;rw[HT.sIx_none,HT.sIx_nat];by_cases h:n≤xs.length
 ·rw[Nat.min_eq_left h];exact Bw (by rw[Cc];exact Ap _)
 ·rw[Nat.min_eq_right (by omega),DB (Ap _),DB (by omega),List.take_nil]
mutual
theorem RdV.flip{H:Hp}:∀{x:V}{d:Ak},RdV false H x d→d.hasDict=false→∀ m,RdV m H x d
 | _,_,.non,_,_=>.non
 | _,_,.bl b,_,_=>.bl b
 | _,_,.int i,_,_=>.int i
 | _,_,.str z h,_,_=>.str z h
 | _,_,.lst hm _ _ _,_,_=>nomatch hm
 | _,_,.tup e B r,h,m=>.tup e B (cG.flip r (by unfold Fy at h;exact h) m)
 | _,_,.dct _ _,h,_=>by unfold Fy at h;cases h
theorem cG.flip{H:Hp}:∀{xs:List V}{ds:List Ak},cG false H xs ds→A2 ds=false→∀ m,cG m H xs ds
 | _,_,.nil,_,_=>.nil
 | _,_,.cons a r,h,m=>by
  unfold A2 at h;rw[Bool.or_eq_false_iff]at h;exact .cons (RdV.flip a h.1 m) (cG.flip r h.2 m)
end
mutual
theorem RdV.keepF{H H':Hp}(k:∀ a o,H a=some o→(∀ B r,o≠.dK (B :: r))→(∀ xs,o≠.lst xs)→H' a=some o):∀{x:V}{d:Ak},RdV false H x d→RdV false H' x d
 | _,_,.non=>.non
 | _,_,.bl b=>.bl b
 | _,_,.int i=>.int i
 | _,_,.str z h=>.str z h
 | _,_,.lst hm _ _ _=>nomatch hm
 | _,_,.tup e F r=>.tup (k _ _ e (fun _ _ z=>nomatch z) (fun _ z=>nomatch z)) F (cG.keepF k r)
 | _,_,.dct hm e=>.dct hm (k _ _ e (fun _ _ z=>nomatch z) (fun _ z=>nomatch z))
theorem cG.keepF{H H':Hp}(k:∀ a o,H a=some o→(∀ z r,o≠.dK (z :: r))→(∀ xs,o≠.lst xs)→H' a=some o):∀{xs:List V}{ds:List Ak},cG false H xs ds→cG false H' xs ds
 | _,_,.nil=>.nil
 | _,_,.cons a r=>.cons (RdV.keepF k a) (cG.keepF k r)
end
end
open PySem PySem.Spec PyProof.Rows PySem.W
def iV{α:Type}(n:Nat)(P:α→Prop):GV α→Prop
 | .ret a=>P a
 | .ask i j k=>i < n∧j < n∧∀ b,iV n P (k b)
theorem iV.bind{α β:Type}{n:Nat}{P:α→Prop}{Q:β→Prop}{f:α→GV β}:∀{t:GV α},iV n P t→(∀ a,P a→iV n Q (f a))→iV n Q (t.bind f)
 | .ret a,h,g=>by rw[KasT.bind.eq_1];exact g a h
 | .ask i j k,h,g=>by
  rw[KasT.bind.eq_2];exact⟨h.1,h.2.1,fun b=>iV.bind (h.2.2 b) g⟩
def Pm(n:Nat)(p:Array Nat):Prop:=p.Perm (AV n).toArray
theorem Pm.lt{n:Nat}{p:Array Nat}(h:Pm n p)(hn:0 < n)(i:Nat):p.getD i 0 < n:=by
 by_cases hi:i < p.size
 ·have hm:p[i]∈(AV n).toArray:=h.mem_iff.mp (Array.getElem_mem hi);have:p[i] < n:=by simpa using hm
  rw[Bv,B8 hi];exact this
 ·rw[Bv,Array.getElem?_eq_none (by omega)];exact hn
theorem Pm.rev{n:Nat}{p:Array Nat}(h:Pm n p)(i j:Nat):Pm n (Gp p i j):=(mirror_perm p i j _).trans h
theorem Pm.bub{n:Nat}{p:Array Nat}(h:Pm n p)(i j:Nat):Pm n (bubble p i j):=(bubble_perm p i j).trans h
section
variable{n:Nat}(hn:0 < n)
include hn
theorem uR{p:Array Nat}(h:Pm n p):∀(f x:Nat),iV n (fun _=>True) (kas_asc p f x)
 | 0,x=>by rw[kas_asc.eq_1];trivial
 | f + 1,x=>by
  rw[kas_asc.eq_2];refine⟨h.lt hn _,h.lt hn _,fun b=>?_⟩;cases b
  ·exact uR h f (x + 1)
  ·exact trivial
theorem n5:∀(f:Nat) {p:Array Nat} (x y:Nat),Pm n p→iV n (fun r=>Pm n r.1) (kas_desc f p x y)
 | 0,p,x,y,h=>by rw[kas_desc.eq_1];exact h
 | f + 1,p,x,y,h=>by
  rw[kas_desc.eq_2];refine⟨h.lt hn _,h.lt hn _,fun b=>?_⟩;cases b
  ·refine⟨h.lt hn _,h.lt hn _,fun b=>?_⟩;cases b
   ·exact n5 f _ _ h
   ·exact h
  ·show iV n _ (if y > 0 then _ else _);split
   ·exact n5 f _ _ (h.rev _ _)
   ·exact n5 f _ _ h
theorem oZ{p:Array Nat}(h:Pm n p)(k:Nat):∀(f x y:Nat),iV n (fun _=>True) (kas_place p k f x y)
 | 0,x,y=>by rw[kas_place.eq_1];trivial
 | f + 1,x,y=>by
  rw[kas_place.eq_2];split
  ·trivial
  ·refine⟨h.lt hn _,h.lt hn _,fun b=>?_⟩;cases b
   ·exact oZ h k f _ _
   ·exact oZ h k f _ _
theorem aAW:∀(f:Nat) {p:Array Nat} (x:Nat),Pm n p→iV n (Pm n) (kas_bin f p x)
 | 0,p,x,h=>by rw[kas_bin.eq_1];exact h
 | f + 1,p,x,h=>by
  rw[kas_bin.eq_2];exact(oZ hn h x _ _ _).bind fun l _=>aAW f _ (h.bub _ _)
theorem uS{p:Array Nat}(h:Pm n p)(a b:Nat):iV n (fun r=>Pm n r.2) (Gi a b p):=by
 unfold Gi;exact(uR hn (h.rev _ _) _ _).bind fun m _=>h.rev _ _
theorem oP{p:Array Nat}(h:Pm n p)(a b:Nat):iV n (fun r=>Pm n r.2) (Gq a b p):=by
 unfold Gq;refine(n5 hn _ _ _ h).bind fun r z=>?_;split
 ·exact uS hn (z.rev _ _) _ _
 ·exact uS hn z _ _
theorem aB6{p:Array Nat}(h:Pm n p)(a:Nat):iV n (fun r=>Pm n r.2) (Gj a p):=by
 unfold Gj;refine(uR hn h _ _).bind fun m _=>?_;split
 ·exact h
 ·split
  ·refine⟨h.lt hn _,h.lt hn _,fun b=>?_⟩;cases b
   ·exact oP hn (h.rev _ _) _ _
   ·exact h
  ·exact oP hn h _ _
theorem jH:iV n (Pm n) (Co n):=by
 unfold Co;refine(aB6 hn (Array.Perm.refl _) n).bind fun r z=>?_;split
 ·exact aAW hn _ _ z
 ·exact z
end
section
variable{prog:Ay}{w:AS}{A:AN}{E:Ab→Ad→Prop}{s:Ad}
theorem jI{x:Ac}{its:Array Ab}{Q:Array Ab→Ad→Prop}(z:Eu s.heap x its)(h:Q its s):wpAny (model prog w) A (CD (AJ x)) Q E s:=by
 obtain⟨⟨cls,dd,data,sl⟩,ho,hc,n,hd⟩:=id z;simp only at hc hd;subst hc hd;unfold CD
 wp_walk
 exact h
end
section
variable{prog:Ay}{w:AS}{A:AN}{E:Ab→Ad→Prop}{s:Ad}
inductive aFq(h:A4)(v:Ab):Prop
 | mk (t:_) (a:_) (b:_) (c:_) (u1:_) (u2:_) (u3:_) (q0:v=.ref t) (q1:Eu h t #[.int a u1,.int b u2,.str c u3]):aFq h v
def aKp(h:A4)(v:Ab):Prop:=aFq h v
theorem nG{α β:Type}{f:α→Sem β}{R:α→β→Prop}:∀(l:List α) {Q:List β→Ad→Prop},(∀ v∈l,∃ r,R v r∧∀ O:β→Ad→Prop,O r s→wpAny (model prog w) A (f v) O E s)→(∀ rs:List β,rs.length=l.length→(∀ r∈rs,∃ v∈l,R v r)→Q rs s)→wpAny (model prog w) A (List.mapM f l) Q E s
 | [],Q,_,q=>by
  rw[List.mapM_nil];exact Af (q [] rfl fun r J=>by simp at J)
 | a :: l,Q,h,q=>by
  rw[List.mapM_cons];obtain⟨r,J,hw⟩:=h a AL;refine Aa (hw _ (Aa (nG l (fun v B=>h v (AM _ B)) fun rs U F=>Af (q (r :: rs) (by rw[A1,A1,U]) fun z hz=>?_))));rcases Al.mp hz with rfl | hz
  ·exact⟨a,AL,J⟩
  ·obtain⟨v,B,hR⟩:=F z hz;exact⟨v,AM _ B,hR⟩
theorem aKq{ks:List Ab}{Q:DV→Ad→Prop}(U:∀ v∈ks,aKp s.heap v)(h:∀ b,Q (tuples' b) s):wpAny (model prog w) A (keyKind' ks.toArray) Q E s:=by
 rw[keyKind'_eq,Dg];refine Aa ?_;rw[← bind_pure_comp];refine Aa (nG (R:=fun _ r=>∃ a u,r=some (B5 a u)) ks (fun v F=>?_) fun rs hl z=>Af ?_)
 ·obtain⟨t,a,b,c,u1,u2,u3,rfl,ht⟩:=U v F;refine⟨some (.int a u1),⟨a,u1,rfl⟩,fun Q' q=>?_⟩;rw[kas_first_eq];refine Aa (BU ht.typeIs ?_);refine AC (by decide) ?_;refine Aa (jI ht ?_);exact Af q
 ·have B:(rs.toArray.all fun x=>x.isSome)=true:=by
   rw[List.all_toArray,A3];intro r Z;obtain⟨v,_,a,u,rfl⟩:=z r Z;rfl
  refine BH (by rw[B];rfl) ?_;refine Aa (Eo ?_);rw[oneTypeOnly'_eq,Dg]
  iterate 2 refine Aa ?_
  rw[← bind_pure_comp];refine Aa (nG (R:=fun _ r=>r=AW "int") _ (fun v F=>?_) fun ts W Y=>Af ?_)
  ·have J:some v∈rs:=by simpa using F
   obtain⟨_,_,a,u,e⟩:=z _ J;cases e;exact⟨_,rfl,fun Q' q=>BU (typeIs_int s a u) q⟩
  ·cases O:ts.toArray[0]? with
   | none=>exact Af (Af (h _))
   | some t=>exact Af (Af (h _))
end
section
variable{prog:Ay}{w:AS}{A:AN}{E:Ab→Ad→Prop}{s:Ad}
theorem aKr{a kS:Ac}{st:Fg}{z:Array Ab}{e e1:Nat}{P:Gv→Ad→Prop}(ha:s.heap.get? a=some (seqObj "list" #[] e1))(U:s.heap.get? kS=some (seqObj "list" z e))(J:a≠kS)(F:z.size≤sizeLine)(hz:(arrOf st).size≤sizeLine)(O:failedOf st=none)
  (h:P (Fin.done (GZ B4)) { s with heap:=(s.heap.update kS (Bp fun _=>#[])).update a (Bp fun _=>(arrOf st).map (·.2)) }):wpAny (model prog w) A (ksk_tail a false e1 (.ref kS) st) P E s:=by
 unfold ksk_tail;refine Aa (Dx U rfl ?_ F (Bu _));refine Aa (wpAny_letGo ?_);have B:(s.heap.update kS (Bp fun _=>#[])).get? a=some (seqObj "list" #[] e1):=by
  rw[BE _ _ _ _ J];exact ha
 refine Aa (FY B rfl ?_);refine Aa (Dx B rfl ?_ (Bu _) (by show((arrOf st).map (·.2)).size≤_;rw[Array.size_map];omega))
 rw[O];refine AC (by simp) ?_;exact Af h
end
section
variable{X:Cx}{dh:List (Ac×Obj)}{σ:St}
inductive aFr(H:Hp)(v:Ab):Prop
 | mk (t:_) (a:_) (b:_) (c:_) (q0:v=.ref t) (q1:H t=some (.tup [.int a,.int b,.str c])):aFr H v
def aLD(H:Hp)(v:Ab):Prop:=aFr H v
end
section
variable{X:Cx}{dh:List (Ac×Obj)}{σ:St}{H:Hp}{s:Ad}
end
section
variable{X:Cx}{e:Bc}{ta:TA}
end
open PySem.SeqAt
open PySem.AutoSeq1 (wpAny_loadPart')
open PySem.MeetsSeq PySem.MeetsSeq2 PySem.MeetsSeq3
inductive aIp(X:Cx)(k:Nat)(ps:List Str)(f:Ac)(sp:Sp):Prop
 | mk (fd:AE) (q0:cH X.prog X.w X.K X.mg X.base CX0 k f fd ps sp) (q1:Aj X.K (.ref f)=true) (q2:c8 X.K fd ps []):aIp X k ps f sp
def FnV(X:Cx)(k:Nat)(ps:List Str)(f:Ac)(sp:Sp):Prop:=aIp X k ps f sp
def aJh(X:Cx)(k:Nat)(ps:List Str)(tv:TE)(t:TA):TE:=fun σ H Q=>tv σ H fun v H1=>∃(f:Ac) (sp:Sp),v=.ref f∧FnV X k ps f sp∧t σ H1 fun vs H2=>sp vs H2 Q E0
theorem aFs{X:Cx}{k:Nat}{ps:List Str}{x:Str}{p pos:Pos}{e:Bc}{es:List Bc}{tv:TE}{t:TA}(U:PE X (.Name x p) tv)(hr:cY k X.A)(ha:PA X (e :: es) t)
  (he:starEach (e :: es) X.env=(false,eval e X.env) :: starEach es X.env:=by rfl) (z:(backTo pos (starEach es X.env)).any (·.1)=false:=by rfl):
  PE X (.Call (.Name x p) (e :: es) [] pos) (aJh X k ps tv t):=by
 constructor;intro dh s σ H Q I h;refine Cf (thn (U dh s σ H _ I h) fun u Z ⟨y,H1,J,ry,f,sp,Y,⟨fd,F,O,W⟩,h2⟩=>?_);subst Y;cases ry;refine EO (h₀:=X.base) J.ok.mod.kin O (thn (ha pos dh Z σ H1 _ J h2) fun us s2 ⟨vs,H2,B,r,q⟩=>⟨B.kIn,?_⟩) he z;exact aEY F hr W .nil gF B r (by rw[Cv];exact q)
def aKs(di:List (Key×V))(ty:TE):TE:=fun σ H Q=>ty σ H fun y H2=>∃ k v,y=kV k∧iT di k=some v∧Q v H2
theorem aC6{X:Cx}{i:Bc}{x:Str}{ty:TE}{a:Ac}{vs:List (Key×Ab)}{di:List (Key×V)}{p pos:Pos}(hd:∀ h:A4,X.K.In h→h.DictOf (dE X.prog X.w) a vs)(rel:KV di vs)(W:Gl X x)(hm:X.mg x=some (.ref a))(hi:PE X i ty)(hs:aI9 i)(z:(x == ("__debug__":Str))=false:=by decide):
  PE X (.Subscript (.Name x p) i pos) (aKs di ty):=by
 constructor;intro dh s σ H Q I h;have Y:PE X (.Name x p) (tC (.ref a)):=c7 W hm rfl z;refine aC0 PySem.F.slot_dict_getitem.lookup hs (thn (Y dh s σ H (fun v H1=>v=.ref a∧ty σ H1 fun y H2=>∃ k v,y=kV k∧iT di k=some v∧Q v H2) I ⟨rfl,h⟩) fun u s1 ⟨x,H1,I1,Z,ex,U⟩=>thn (hi dh s1 σ H1 _ I1 U) fun iv s2 ⟨y,H2,J,ry,k,v,ey,l,O⟩=>?_);subst ex ey;obtain rfl:u=AJ a:=Z;have B:=hd s2.heap J.kIn;refine⟨?_,?_⟩
 ·obtain⟨o,es,ep,e,hx,_⟩:=B;exact⟨o,e,hx.1⟩
 ·obtain⟨w',hw,rw'⟩:=pM.some_of (v:=v) (o:=valueAt vs k) (by rw[← l];exact rel.val k);exact wpAny_getItem_of (uD ry) B.mapOf hw ⟨v,H2,J.tok _,rw',O⟩
theorem aD5{X:Cx}{a:Ac}{vs:List (Key×Ab)}{di:List (Key×V)}(hd:∀ h:A4,X.K.In h→h.DictOf (dE X.prog X.w) a vs)(rel:KV di vs)(hz:(a == sysModules)=false):OpR X (compareOp .NotIn) (fun x y H Q=>∃ k,x=kV k∧y=.ref a∧Q (.bl (!(iT di k).isSome)) H):=by
 intro dh s σ H x y v u Q I z B h;obtain⟨k,rfl,rfl,q⟩:=h;cases B;refine wpAny_notIn_of (uD z) hz (hd _ I.kIn).mapOf ?_;rw[← (rel.val k).isSome_eq];exact⟨.bl _,H,I.tok _,rfl,q⟩
section
variable{X:Cx}{dh:List (Ac×Obj)}{σ:St}{H:Hp}{s:Ad}{A:AN}{E:Ab→Ad→Prop}{Q:Ab→Ad→Prop}{b:Bool}
theorem aB7{x:V}{u t:Ab}{q:Ac}{Y Z:String}(I:Inv X dh σ H s)(F:dA x u)(ty:kX X.K H x t)(hq:H q=some (.tup [.ty Y,.ty Z]))(e:Du X.K t [.type Y,.type Z]=some b)(h:∀ tk,Q (.bool b) { s with toks:=tk }):
  wpAny (model X.prog X.w) A (call (.builtin "isinstance") [u,.ref q]) Q E s:=by
 obtain⟨_,its,U,hT⟩:c5 X.prog X.w H s.heap q (.tup [.ty Y,.ty Z]):=I.hok _ _ hq;obtain⟨⟨cls,dd,data,sl⟩,ho,hc,n,hd⟩:=hT.tup;simp only at hc hd;subst hc hd;have hi:its=[.type Y,.type Z]:=by
  cases U with
  | cons r1 U=>
   cases U with
   | cons r2 U=>
    cases U;cases r1;cases r2;rfl
 subst hi;cases ty with
 | non=>cases(show u=B4 from F);exact BW PySem.W.kitx_none I.kIn B6 ho e (fun z=>nomatch z) h
 | bl y=>cases(show u=FH y from F);exact BW PySem.W.kitx_bool I.kIn B6 ho e (fun z=>nomatch z) h
 | int i=>obtain⟨t,q⟩:=(show∃ t,u=B5 i t from F);cases q;exact BW PySem.W.kitx_int I.kIn B6 ho e (fun z=>nomatch z) h
 | str y=>obtain⟨t,q⟩:=(show∃ t,u=BA y t from F);cases q;exact BW PySem.W.kitx_str I.kIn B6 ho e (fun z=>nomatch z) h
 | flt y=>obtain⟨t,q⟩:=(show∃ t,u=F9 y t from F);cases q;exact BW PySem.W.kitx_float I.kIn B6 ho e (fun z=>nomatch z) h
 | @lst a xs B=>
  cases(show u=AJ a from F);obtain⟨_,_,n,_,h1⟩:=(show c5 X.prog X.w H s.heap a (.lst xs) from I.hok a _ B)
  exact BW Ea I.kIn ⟨_,h1,rfl⟩ ho e (fun z=>nomatch z) h
 | @frz a ob xs B=>
  cases(show u=AJ a from F);obtain⟨_,_,_,n,_,h1⟩:=(show c5 X.prog X.w H s.heap a (.frz ob (.lst xs)) from I.hok a _ B)
  exact BW Ea I.kIn ⟨_,h1,rfl⟩ ho e (fun z=>nomatch z) h
 | @tup a xs B=>
  cases(show u=AJ a from F);obtain⟨_,_,_,p⟩:=(show c5 X.prog X.w H s.heap a (.tup xs) from I.hok a _ B)
  obtain⟨o,h1,h2,_⟩:=p;exact BW PySem.W.kitx_tuple I.kIn ⟨o,h1,h2.1⟩ ho e (fun z=>nomatch z) h
 | @dK a di B=>
  cases(show u=AJ a from F);obtain⟨_,_,vs,_,p⟩:=(show c5 X.prog X.w H s.heap a (.dK di) from I.hok a _ B)
  obtain⟨o,es,ep,h1,h2,_⟩:=p;exact BW Eb I.kIn ⟨o,h1,h2.1⟩ ho e (fun z=>nomatch z) h
 | @dT a di B=>
  cases(show u=AJ a from F);obtain⟨_,_,xs,_,o,es,ep,h1,h2,_⟩:=(show c5 X.prog X.w H s.heap a (.dT di) from I.hok a _ B)
  exact BW Eb I.kIn ⟨o,h1,h2.1⟩ ho e (fun z=>nomatch z) h
 | @ins a C dx fs B cl ha hn aa hm=>
  cases(show u=AJ a from F);obtain⟨mA,O,_⟩:=aCU I.hok B;obtain⟨od,J,_⟩:=O.look;exact BW (PySem.W.kitx_own (cl.get _) cl.hd ha hn aa hm) I.kIn J ho e (fun z=>nomatch z) h
inductive lF(K:Ah)(xs:List V)(H:Hp)(Q:VK):Prop
 | mk (x:_) (q:_) (n1:_) (n2:_) (t:_) (b:_) (q0:xs=[x,.ref q]) (q1:H q=some (.tup [.ty n1,.ty n2])) (q2:kX K H x t) (q3:Du K t [.type n1,.type n2]=some b) (q4:Q (.bl b) H):lF K xs H Q
def uT(K:Ah):List V→Hp→VK→Prop:=fun xs H Q=>lF K xs H Q
theorem i8:gH X (.builtin "isinstance") (uT X.K):=by
 intro dh s σ H xs z Q I r h;obtain⟨x,q0,n1,n2,t,b,rfl,hq,ty,e,q⟩:=h;obtain⟨u,w',rfl,r1,r2⟩:=aEW r;cases r2;exact aB7 I r1 ty hq e fun tk=>⟨.bl b,H,I.tok _,rfl,q⟩
end
theorem aFt{X:Cx}{K:Ah}{o e:Bc}{es:List Bc}{to:TE}{t:TA}{name:Str}{ff ee:Pos}{T id:String}{r:V→List V→Hp→VK→Prop}(U:PlainAttrs T)(slot:Slot T name id)(O:typeOf (.builtin id)=pure (.type "method_descriptor"))(hm:MtR X id r)(W:PE X o to)(ha:PA X (e :: es) t)(Z:X.K=K:=by rfl)
  (B:attributeBase o name X.env (eval o X.env)=eval o X.env:=by rfl)
  (J:((backTo ee (starEach (e :: es) X.env)).all (fun x=>!x.1) && (backToKw ee (keywordEach [] X.env)).all (fun x=>x.1.isSome)
   && decide ((e :: es).length + ([]:List Ej).length + (if ([]:List Ej).isEmpty then 0 else 1) < 30))=true:=by rfl)
  (F:(ff.endLine == ee.line)=true:=by rfl) (Y:starEach (e :: es) X.env=(false,eval e X.env) :: starEach es X.env:=by rfl) (z:(backTo ee (starEach es X.env)).any (·.1)=false:=by rfl):
  PE X (.Call (.Attribute o name ff) (e :: es) [] ee) (tBM K T r to t):=by
 subst Z;exact jX U slot O hm W ha B J F Y z
theorem o0:∀{z:List Str}{B:List Ab},cZ (z.map V.str) B→F3 B z
 | [],_,r=>by rw[D4]at r;cases r;exact .nil
 | s :: z,_,r=>by
  rw[A8]at r;cases r with
  | cons J F=>
   obtain⟨t,e⟩:=J;subst e;exact .cons s t (o0 F)
theorem i9:∀{z:List Ab}{ns:List Str},F3 z ns→cZ (ns.map V.str) z
 | _,_,.nil=>.nil
 | _,_,.cons i t r=>.cons ⟨t,rfl⟩ (i9 r)
inductive lG(K:Ah)(xs:List V)(H:Hp)(Q:VK):Prop
 | mk (p:Ac) (ns:List Str) (q0:xs=[.ref p]) (q1:SqL K H p (ns.map V.str)) (q2:ns.length < 64) (q3:∀(l:Ac) (ms:List Str),H l=none→ms.Perm ns→sortedS ms=true→Q (.ref l) (upd H l (.lst (ms.map V.str)))):lG K xs H Q
def uU(K:Ah):List V→Hp→VK→Prop:=fun xs H Q=>lG K xs H Q
theorem zT{X:Cx}:gH X (.builtin "sorted") (uU X.K):=by
 intro dh s σ H xs Z Q I r h;obtain⟨p,ns,rfl,hx,h64,q⟩:=h;obtain⟨u,rfl,ru⟩:=gS r;cases ru;obtain⟨its,rv,pl,_⟩:=I.list hx;have hi:F3 its ns:=o0 rv;have z:=rv.length;rw[Ae]at z;refine sorted_strs pl.isList hi (by omega) fun out B W F Y=>?_;have O:∀ b o,s.heap.get? b=some o→(sortedAll s.heap its out).get? b=some o:=fun b o e=>sortedAll_old e;obtain⟨e,he⟩:=sortedAll_at s.heap its out;have hn:H (s.heap.objs.size + 1)=none:=I.hok.fresh (De _);have J:=F.length_eq;have U:cZ (B.map V.str) out.toList:=i9 W;refine⟨.ref (s.heap.objs.size + 1),_,I.laid (t':=s.toks) (o:=.lst (B.map V.str)) O (De _) ⟨aS (by rw[Ae];omega),out.toList,e,U,by rw[he] <;> rfl⟩,rfl,q _ B hn F Y⟩
def uV(w:AS)(es:Array (Int×Ab))(t:CO):Prop:=t.led=!w.params.followText "set-order"∧(es.size=0∨t.plain=false)
def kJ(prog:Ay)(w:AS)(h:A4)(a:Ac)(S:Str→Bool)(n:Nat):Prop:=
 ∃ o es ep t,h.get? a=some o∧o.ExactSet∧o.data=.set es ep t∧ElemsOf (BF prog w) es.toList∧(∀ k,S k=true↔∃ e∈es.toList,(BF prog w).is k e.2=true)
  ∧es.size < scanBound∧t.fits es.size=true∧es.size=n∧uV w es t
theorem kJ.at{prog:Ay}{w:AS}{h h':A4}{a:Ac}{S:Str→Bool}{n:Nat}(x:kJ prog w h a S n)(e:∀ o,h.get? a=some o→h'.get? a=some o):kJ prog w h' a S n:=by
 obtain⟨o,es,ep,t,h1,r⟩:=x;exact⟨o,es,ep,t,e o h1,r⟩
theorem kJ.congr{prog:Ay}{w:AS}{h:A4}{a:Ac}{S S':Str→Bool}{n z:Nat}(x:kJ prog w h a S n)(e:∀ k,S k=S' k)(F:n=z):kJ prog w h a S' z:=by
 have B:S=S':=funext e;subst B F;exact x
theorem wT(t:CO)(n:Nat):(t.orStandIn n).led=t.led:=by
 unfold SetTable.orStandIn;split <;> rfl
theorem aB8(t:CO)(es:Array (Int×Ab))(h:Int)(x:Ab):(layNew t es h x).2.1.led=t.led:=by
 unfold layNew;split
 ·exact wT _ _
 ·rfl
theorem wU(t:CO)(es:Array (Int×Ab))(n:Nat)(B:t.plain=false):(relayAll t es n).2.1.led=t.led∧(relayAll t es n).2.1.plain=false:=by
 unfold relayAll;split
 ·next t' ord e=>
  dsimp only;split
  ·dsimp only;unfold SetTable.relaid SetTable.laid at e;cases z:SetTable.layClean (SetTable.sizeAbove n - 1) (es.map (·.1))with
   | none=>rw[z]at e;cases e
   | some F=>
    rw[z]at e;cases e;exact⟨rfl,B⟩
  ·exact⟨rfl,rfl⟩
 ·exact⟨rfl,rfl⟩
theorem kJ.stored{prog:Ay}{w:AS}{h:A4}{a:Ac}{o:Obj}{es:Array (Int×Ab)}{ep:Nat}{t:CO}(Y:h.get? a=some o)(J:o.ExactSet)(hd:o.data=.set es ep t)
  {z:Array (Int×Ab)} {t':CO} {S':Str→Bool} (F:ElemsOf (BF prog w) z.toList) (B:∀ k,S' k=true↔∃ e∈z.toList,(BF prog w).is k e.2=true) (U:z.size < scanBound) (O:t'.fits z.size=true) (W:uV w z t'):
  (h.update a (Gw z t')).get? a=some { o with data:=.set z (ep + 1) t' }∧kJ prog w (h.update a (Gw z t')) a S' z.size:=by
 obtain⟨hg,_⟩:=SetOf_store (knd:=BF prog w) (S':=S') Y J hd F B U O;exact⟨hg,_,z,ep + 1,t',hg,J,rfl,F,B,U,O,rfl,W⟩
theorem aKt{prog:Ay}{w:AS}{A:AN}{E:Ab→Ad→Prop}{s:Ad}{a:Ac}{S:Str→Bool}{n:Nat}{k:Str}{tk:Tok}{Q:Bool→Ad→Prop}(hS:kJ prog w s.heap a S n)(U:n + 1 < scanBound)
  (h:∀ h',DF a s.heap h'→kJ prog w h' a (fun k'=>S k' || decide (k'=k)) (if S k then n else n + 1)→Q (!S k) { s with heap:=h' }):
  wpAny (model prog w) A (setAddHashed a (.str k tk) ((BF prog w).hash k)) Q E s:=by
 have W:=strKind_is prog w k tk;obtain⟨o,es,ep,t,ho,hex,hd,hel,hmem,hb,hf,hn,hTab⟩:=hS;have az:es.size + 1 < scanBound:=by rw[hn];exact U
 unfold setAddHashed setAddHashedIn;refine Be (Aa (Df ho hd hf ?_));dsimp only;rw[byScan_of (x:=BA k tk) rfl hb hel,Ib rfl];unfold setAddByScan;refine Aa (Aa (Eo (Aa (wpAny_setScan_of W ho hd hf hel ?_))));cases hr:List.findIdx? (fun e=>(BF prog w).is k e.2) es.toList with
 | some j=>
  dsimp only;obtain⟨hj,hpj,_⟩:=List.findIdx?_eq_some_iff_getElem.mp hr;have Y:S k=true:=(hmem k).mpr ⟨es.toList[j],BB hj,hpj⟩;refine Af (Af ?_);have q:=h s.heap (Heap.SameBut.refl a s.heap) ⟨o,es,ep,t,ho,hex,hd,hel,fun z=>by
   rw[EH,decide_eq_true_eq,← hmem z];exact⟨fun hz=>hz.elim id (fun e=>e ▸ Y),.inl⟩,hb,hf,by rw[Y];exact hn,hTab⟩
  rw[Y]at q;exact q
 | none=>
  dsimp only;have Y:S k=false:=by
   cases hz:S k with
   | false=>rfl
   | true=>
    obtain⟨e,he,hp⟩:=(hmem k).mp hz;have z:=List.findIdx?_eq_none_iff.mp hr e he;rw[hp]at z;exact Bool.noConfusion z
  have B:=layNew_perm t es ((BF prog w).hash k) (BA k tk);have F:=layNew_fits t es ((BF prog w).hash k) (BA k tk);have J:=aB8 t es ((BF prog w).hash k) (BA k tk);generalize hL:layNew t es ((BF prog w).hash k) (BA k tk)=L at B F J ⊢;obtain⟨es1,t1,wasD,gave⟩:=L;dsimp only at B F J ⊢;rw[Array.toList_push]at B;have ac:ElemsOf (BF prog w) es1.toList:=(hel.push W rfl).perm B;have Z:=mem_push_iff W hmem B;have ad:es1.size=n + 1:=by rw[← BD,B.length_eq,Av,BD,hn];rfl
  have ah:es1.size < scanBound:=by rw[ad];exact U
  have gw:∀(b:Bool) {s₁:Ad} {Q':Unit→Ad→Prop},Q' () s₁→wpAny (model prog w) A (match b with | true=>rule "set.scan.the-table-gave-way" | false=>pure ()) Q' E s₁:=fun b s₁ Q' hq=>by cases b <;> first | exact Af hq | exact Eo hq
  have aa:∀ h',DF a s.heap h'→kJ prog w h' a (fun k'=>S k' || decide (k'=k)) es1.size→Q true { s with heap:=h' }:=fun h' x1 x2=>by
   have q:=h h' x1;rw[Y]at q;rw[ad]at x2;exact q x2
  have ag:∀ O:CO,O.led=t.led→O.plain=false→O.fits es1.size=true→
    wpAny (model prog w) A (do
     storeSet a es1 O
     if (!wasD && O.tooFull)=true then do
       (match (relayAll O es1 (CY es1.size)).2.2 with | true=>rule "set.scan.the-table-gave-way" | false=>pure ())
       storeSet a (relayAll O es1 (CY es1.size)).1 (relayAll O es1 (CY es1.size)).2.1
       pure (some true)
      else pure (some true)) (fun r s'=>wpAny (model prog w) A (match r with | some added=>pure added | none=>setAddHashedIn a (.str k tk) ((BF prog w).hash k) 99999) Q E s') E s:=by
   intro O l2 p2 f2;refine Aa (wpAny_storeSet_of ho hd ?_ (ED ah));obtain⟨ho1,hS1⟩:=kJ.stored (prog:=prog) (w:=w) ho hex hd ac Z ah f2 ⟨by rw[l2];exact hTab.1,.inr p2⟩;have ak:=B0 s.heap a (Gw es1 O);split
   ·have hp:=relayAll_perm O es1 (CY es1.size);have aj:=relayAll_fits O es1 (CY es1.size);obtain⟨rl,rp⟩:=wU O es1 (CY es1.size) p2;generalize relayAll O es1 (CY es1.size)=R at hp aj rl rp ⊢;obtain⟨es2,t3,g2⟩:=R;dsimp only at hp aj rl rp ⊢;have an:ElemsOf (BF prog w) es2.toList:=ac.perm hp;have ai:∀ z,(S z || decide (z=k))=true↔∃ e∈es2.toList,(BF prog w).is z e.2=true:=fun z=>(Z z).trans ⟨fun⟨e,he,q⟩=>⟨e,hp.mem_iff.mpr he,q⟩,fun⟨e,he,q⟩=>⟨e,hp.mem_iff.mp he,q⟩⟩;have ae:es2.size=es1.size:=by rw[← BD,hp.length_eq,BD]
    have ao:es2.size < scanBound:=by rw[ae];exact ah
    refine Aa (gw _ (Aa (wpAny_storeSet_of ho1 rfl ?_ (ED ao))));obtain⟨_,hS2⟩:=kJ.stored (prog:=prog) (w:=w) ho1 hex rfl an ai ao aj ⟨by rw[rl,l2];exact hTab.1,.inr rp⟩;rw[ae]at hS2;exact Af (Af (aa _ (ak.trans (B0 _ a _)) hS2))
   ·exact Af (Af (aa _ ak hS1))
  refine Aa (gw _ ?_);split
  ·next hpl=>
   rw[hashByValue_scannable 8 (x:=BA k tk) rfl];refine Aa (Af ?_);exact ag { t1 with plain:=false } J rfl (SetTable.fits_plain_off F)
  ·next hpl=>
   refine Aa (Af ?_);exact ag t1 J (by simpa using hpl) F
theorem aB9{h:A4}{a:Ac}{z:Array Ab}(x:h.IsTuple a z)(o:Obj):(h.push o).IsTuple a z:=by
 obtain⟨u,hu,r⟩:=x;exact⟨u,Ai o hu,r⟩
theorem aFu{prog:Ay}{w:AS}{A:AN}{R:Result→Ad→Prop}{I:Ac}{fp wr:List Ac}{G:Array FJ→Array FJ→Prop}{n:Nat}{P:Nat→Ab→Prop}{St:Nat→Ad→Prop}
  (W:WalksS prog w A.in1 I fp wr G n P St) (S:Ac) (ad:¬ S∈fp) (val:Nat→Str) (ah:∀(i:Nat) (v:Ab),P i v→∃ t,v=BA (val i) t) (O:n + 1 < scanBound):
  ∀(k i:Nat) (s:Ad),n - i=k→i≤n→St i s→kJ prog w s.heap S (fun U=>(iI val i).any fun x=>x == U) (iI val i).length→
   (∀ s':Ad,Moved (S :: wr) G s s'→kJ prog w s'.heap S (fun U=>(iI val n).any fun x=>x == U) (iI val n).length→R (Except.ok (GZ B4)) s')→
   codeAny (model prog w) A (Code.builtin "set.update.loop" { pos:=[AJ S,AJ I] }) R s:=by
 have Y:¬ S∈wr:=fun h=>ad (W.sub S h);have z:∀ b,b∈wr→b∈S :: wr:=fun b O=>AM S O;intro k
 induction k with
 | zero=>
  intro i s hk hi J hS hR;have aj:i=n:=by omega
  subst aj;refine BR PyProof.Rows.F.entry_set_update_loop ?_;rw[BO CQ];refine Aa (W.done s _ _ J fun s' hm=>?_);refine Af (hR s' (Moved.mono hm z) ?_);exact hS.at fun o ho=>hm.heap S o Y ho
 | succ k ih=>
  intro i s hk hi J hS hR;have ac:i < n:=by omega
  refine BR PyProof.Rows.F.entry_set_update_loop ?_;rw[BO CQ];refine Aa (W.item i s _ _ ac J fun v s' hP ae hm=>?_);obtain⟨t,rfl⟩:=ah i v hP;have ak:kJ prog w s'.heap S (fun U=>(iI val i).any fun x=>x == U) (iI val i).length:=by
   exact hS.at fun o ho=>hm.heap S o Y ho
  have B:(iI val i).length + 1 < scanBound:=by
   have:=sY val i;omega
  refine Aa (Be (Be (Aa ((BF prog w).pyHash (strKind_is prog w (val i) t) ?_))));refine aKt ak B fun h' aa ao=>?_;refine Af ⟨Dw CQ _,?_⟩;refine ih (i + 1) _ (by omega) ac (W.frame (i + 1) s' h' _ ae (De s'.toks) fun b O o e=>?_) ?_ fun ai Z af=>?_
  ·rw[aa.right b fun h=>ad (h ▸ O)];exact e
  ·refine ao.congr (fun U=>?_) ?_
   ·show _=((lE _ _).any _)
    rw[aD2]
   ·show _=(lE _ _).length;rw[mG]
  ·refine hR ai (Moved.trans W.gtrans (Moved.then_heap (Moved.mono hm z) (De s'.toks) fun b o O e=>?_) Z) af;rw[aa.right b fun h=>O (h ▸ AL)];exact e
theorem aIq{prog:Ay}{w:AS}{A:AN}{E:Ab→Ad→Prop}{s:Ad}(a:Ab){Q₁:Ab→Ad→Prop}
  (h:Q₁ (.ref s.heap.objs.size) { s with heap:=s.heap.push { cls:=.type "set",dict:=none,data:=.set #[] 0 (.fresh 0 0 (!w.params.followText "set-order")) } }):
  codeAny (model prog w) A (.call (.builtin "set.__new__") ⟨[.type "set",a],[]⟩) (wants Q₁ E) s:=by
 apply F2;show wpAny (model prog w) A.in1 (checkBuiltinCall "set.__new__" ⟨[.type "set",a],[]⟩ >>= fun _=>again (.builtin "set.__new__" ⟨[.type "set",a],[]⟩)) _ _ s;apply Aa;refine CG (F.newCall_set_1 a) (Af ⟨Dw F.plain_set_new _,?_⟩);apply BR F.entry_set_new;rw[BO F.plain_set_new];unfold Builtin.«set.__new__» Builtin.Frozenset.newClass;have z:=sub_set_self;obtain⟨hp,gs,dr,tk,os⟩:=s;dsimp only
 wp_walk
 apply Dq;apply Af;dsimp only;simp only[newObj];apply Aa;apply wpAny_alloc;exact Af (Af h)
theorem aAX{prog:Ay}{w:AS}{A:AN}{E:Ab→Ad→Prop}{s:Ad}{l:Ac}{z:Array Ab}{val:Nat→Str}{Q:Ab→Ad→Prop}(hh:A.handled=none)(hl:s.heap.IsList l z)
  (hi:∀(i:Nat) (v:Ab),z[i]?=some v→∃ t,v=BA (val i) t) (hb:z.size + 1 < scanBound)
  (h:∀(h':A4) (tk:Nat),kJ prog w h' s.heap.objs.size (fun k'=>(iI val z.size).any fun x=>x == k') (iI val z.size).length→
   (∀(b:Nat) (o:Obj),b < s.heap.objs.size→s.heap.get? b=some o→h'.get? b=some o)→Q (AJ s.heap.objs.size) { s with heap:=h',toks:=tk }):
  wpAny (model prog w) A (call (AW "set") [AJ l]) Q E s:=by
 obtain⟨c,tl,hmro⟩:=Cg.mro;have U:=Cg.made;have Y:=Cg.sub;have ai:=F.typeCall_set_1 (AJ l);refine CM (F2 (Af ⟨Fe _ (by decide),BR F.entry_type_call ?_⟩));rw[Around.under_plain (weight_type_call_type "set" [AJ l] []) rfl];unfold Builtin.«type.__call__»;dsimp only
 iterate 2 refine AC (by first | rfl | decide) ?_
 refine Aa (CG ai ?_);refine Aa (CG hmro ?_);refine AC (by first | rfl | decide) ?_;refine Aa (CG U ?_);refine Aa (Af ?_);refine Aa (Be (CM (Cq (aIq (Q₁:=fun obj s₁=>∃ led,led=(!w.params.followText "set-order")∧obj=AJ s.heap.objs.size∧s₁={ s with heap:=s.heap.push { cls:=AW "set",data:=Ci #[] 0 (Bs 0 0 led) } }) (E:=E) (AJ l) ⟨_,rfl,rfl,rfl⟩) fun r s₁ B=>?_)));cases r with
 | error e=>exact B
 | ok fl=>
  cases fl with
  | next=>exact B.elim
  | brk=>exact B.elim
  | cont=>exact B.elim
  | ret v=>
   obtain⟨led,hled,rfl,rfl⟩:=B;have hS:=Ax s.heap (o:={ cls:=AW "set",data:=Ci #[] 0 (Bs 0 0 led) }) rfl;have hT:Eg { s with heap:=s.heap.push { cls:=AW "set",data:=Ci #[] 0 (Bs 0 0 led) } } (AJ s.heap.objs.size) "set":=⟨_,hS,rfl⟩
   have ak:=Cg.init.lookup;have am:=Cg.init.bind (AJ s.heap.objs.size);obtain⟨ol,hol,hcl,nl,hdl⟩:=hl;have J:=Ai { cls:=AW "set",data:=Ci #[] 0 (Bs 0 0 led) } hol;have aa:Heap.IsList (s.heap.push { cls:=AW "set",data:=Ci #[] 0 (Bs 0 0 led) }) l z:=⟨ol,J,hcl,nl,hdl⟩
   refine Aa (B2 hT Y ?_);refine AC (by first | rfl | decide) ?_;refine Aa (Be ?_);unfold callSpecial?;refine Aa (Ec hT ak ?_);dsimp only;refine Be ?_;refine Aa (CG am ?_);refine Aa (CM (Cq (D8 Cg.init.plain F.entry_set_init (R:=fun r s'=>match r with | .ok (.ret v)=>v=.none∧Q (.ref s.heap.objs.size) s' | _=>False) (check_set_init_1 hT ?_)) fun r s₁ B=>?_))
   ·unfold Builtin.«set.__init__»;refine Aa (BH (by first | rfl | decide) (Af ?_));refine Aa (Aa (Aa (BU hT (AC (by first | rfl | decide) (Af ?_)))));refine Af ?_;refine Aa ?_;unfold checkCount
    iterate 2 refine AC (by first | rfl | decide) ?_
    refine AC (by first | rfl | decide) (Af ?_);refine Aa (Af ?_);refine Aa ?_;unfold setUsed setState;refine Aa (Aa (wpAny_load' hS ?_));dsimp only;refine AC (by first | rfl | decide) (Af ?_);refine Af ?_;refine AC (by first | rfl | decide) ?_;show wpAny _ _ (do let ar ← Cw "set.__init__" s.heap.objs.size (AJ l);ret B4) _ _ _;refine Aa ?_;unfold Cw;refine Aa ?_;have O:Eg { s with heap:=s.heap.push { cls:=AW "set",data:=Ci #[] 0 (Bs 0 0 led) } } (AJ l) "list":=⟨ol,J,hcl⟩
    unfold Builtin.Frozenset.isAnySet;refine Aa (B2 O F.sub_list_set ?_);refine B2 O F.sub_list_frozenset ?_;refine AC (by first | rfl | decide) ?_;refine Aa (BU O ?_);refine AC (by first | rfl | decide) ?_;refine Aa (FE aa ?_);refine Aa (En ?_);have ac:l < s.heap.objs.size:=Aq hol;have W:(s.heap.push { cls:=AW "set",data:=Ci #[] 0 (Bs 0 0 led) }).objs.size=s.heap.objs.size + 1:=BZ _ _;have Z:l≠(s.heap.push { cls:=AW "set",data:=Ci #[] 0 (Bs 0 0 led) }).objs.size:=by rw[W];exact AB (Br ac)
    have an:¬ s.heap.objs.size∈[(s.heap.push { cls:=AW "set",data:=Ci #[] 0 (Bs 0 0 led) }).objs.size,l]:=by
     rw[W];simp only[Al,Ao,or_false,not_or];exact⟨AB (BL _),CP ac⟩
    have aj:A.in1.in1.in1.handled=none:=hh;refine aFu (FZ (Walks.list aj _ l Z z)) s.heap.objs.size an val hi hb (z.size - 0) 0 _ rfl (Bu _) ⟨⟨_,Ax _ rfl,rfl,rfl⟩,Heap.IsList.push aa _⟩ ?_ ?_
    ·have ad:=Ai { cls:=AW "list_iterator",data:=Gd #[AJ l,B5 0 0] } hS;exact⟨_,#[],0,_,ad,⟨rfl,rfl,rfl⟩,rfl,(fun e he=>by simp at he),(fun k=>by show(false=true)↔_;simp),(by decide),rfl,rfl,hled,.inl rfl⟩
    ·rintro⟨h',g',d',tk',os'⟩ hm hS';refine Af (Af ⟨rfl,?_⟩);have e1:=hm.gens;have e2:=hm.drawn;have e3:=hm.os;dsimp only at e1 e2 e3;subst e1 e2 e3;refine h h' tk' hS' fun b o hb e=>hm.heap b o ?_ ?_
     ·simp only[Al,Ao,or_false,not_or];rw[W];exact⟨AB hb,AB (Br hb)⟩
     ·exact Ai _ (Ai _ e)
   ·cases r with
    | error e=>exact B.elim
    | ok fl=>
     cases fl with
     | next=>exact B.elim
     | brk=>exact B.elim
     | cont=>exact B.elim
     | ret v=>
      obtain⟨rfl,q⟩:=B;refine Af ?_;refine AC (by first | rfl | decide) ?_;exact Af q
theorem aAY{prog:Ay}{w:AS}{A:AN}{E:Ab→Ad→Prop}{s:Ad}{l:Ac}{z:Array Ab}{val:Nat→Str}{Q:Ab→Ad→Prop}(hh:A.handled=none)(hl:s.heap.IsTuple l z)
  (hi:∀(i:Nat) (v:Ab),z[i]?=some v→∃ t,v=BA (val i) t) (hb:z.size + 1 < scanBound)
  (h:∀(h':A4) (tk:Nat),kJ prog w h' s.heap.objs.size (fun k'=>(iI val z.size).any fun x=>x == k') (iI val z.size).length→
   (∀(b:Nat) (o:Obj),b < s.heap.objs.size→s.heap.get? b=some o→h'.get? b=some o)→Q (AJ s.heap.objs.size) { s with heap:=h',toks:=tk }):
  wpAny (model prog w) A (call (AW "set") [AJ l]) Q E s:=by
 obtain⟨c,tl,hmro⟩:=Cg.mro;have U:=Cg.made;have Y:=Cg.sub;have ai:=F.typeCall_set_1 (AJ l);refine CM (F2 (Af ⟨Fe _ (by decide),BR F.entry_type_call ?_⟩));rw[Around.under_plain (weight_type_call_type "set" [AJ l] []) rfl];unfold Builtin.«type.__call__»;dsimp only
 iterate 2 refine AC (by first | rfl | decide) ?_
 refine Aa (CG ai ?_);refine Aa (CG hmro ?_);refine AC (by first | rfl | decide) ?_;refine Aa (CG U ?_);refine Aa (Af ?_);refine Aa (Be (CM (Cq (aIq (Q₁:=fun obj s₁=>∃ led,led=(!w.params.followText "set-order")∧obj=AJ s.heap.objs.size∧s₁={ s with heap:=s.heap.push { cls:=AW "set",data:=Ci #[] 0 (Bs 0 0 led) } }) (E:=E) (AJ l) ⟨_,rfl,rfl,rfl⟩) fun r s₁ B=>?_)));cases r with
 | error e=>exact B
 | ok fl=>
  cases fl with
  | next=>exact B.elim
  | brk=>exact B.elim
  | cont=>exact B.elim
  | ret v=>
   obtain⟨led,hled,rfl,rfl⟩:=B;have hS:=Ax s.heap (o:={ cls:=AW "set",data:=Ci #[] 0 (Bs 0 0 led) }) rfl;have hT:Eg { s with heap:=s.heap.push { cls:=AW "set",data:=Ci #[] 0 (Bs 0 0 led) } } (AJ s.heap.objs.size) "set":=⟨_,hS,rfl⟩
   have ak:=Cg.init.lookup;have am:=Cg.init.bind (AJ s.heap.objs.size);obtain⟨ol,hol,hcl,nl,hdl⟩:=hl;have J:=Ai { cls:=AW "set",data:=Ci #[] 0 (Bs 0 0 led) } hol;have aa:Heap.IsTuple (s.heap.push { cls:=AW "set",data:=Ci #[] 0 (Bs 0 0 led) }) l z:=⟨ol,J,hcl,nl,hdl⟩
   refine Aa (B2 hT Y ?_);refine AC (by first | rfl | decide) ?_;refine Aa (Be ?_);unfold callSpecial?;refine Aa (Ec hT ak ?_);dsimp only;refine Be ?_;refine Aa (CG am ?_);refine Aa (CM (Cq (D8 Cg.init.plain F.entry_set_init (R:=fun r s'=>match r with | .ok (.ret v)=>v=.none∧Q (.ref s.heap.objs.size) s' | _=>False) (check_set_init_1 hT ?_)) fun r s₁ B=>?_))
   ·unfold Builtin.«set.__init__»;refine Aa (BH (by first | rfl | decide) (Af ?_));refine Aa (Aa (Aa (BU hT (AC (by first | rfl | decide) (Af ?_)))));refine Af ?_;refine Aa ?_;unfold checkCount
    iterate 2 refine AC (by first | rfl | decide) ?_
    refine AC (by first | rfl | decide) (Af ?_);refine Aa (Af ?_);refine Aa ?_;unfold setUsed setState;refine Aa (Aa (wpAny_load' hS ?_));dsimp only;refine AC (by first | rfl | decide) (Af ?_);refine Af ?_;refine AC (by first | rfl | decide) ?_;show wpAny _ _ (do let ar ← Cw "set.__init__" s.heap.objs.size (AJ l);ret B4) _ _ _;refine Aa ?_;unfold Cw;refine Aa ?_;have O:Eg { s with heap:=s.heap.push { cls:=AW "set",data:=Ci #[] 0 (Bs 0 0 led) } } (AJ l) "tuple":=⟨ol,J,hcl⟩
    unfold Builtin.Frozenset.isAnySet;refine Aa (B2 O F.sub_tuple_set ?_);refine B2 O F.sub_tuple_frozenset ?_;refine AC (by first | rfl | decide) ?_;refine Aa (BU O ?_);refine AC (by first | rfl | decide) ?_;refine Aa (wpAny_pyIter_tuple aa ?_);refine Aa (En ?_);have ac:l < s.heap.objs.size:=Aq hol;have W:(s.heap.push { cls:=AW "set",data:=Ci #[] 0 (Bs 0 0 led) }).objs.size=s.heap.objs.size + 1:=BZ _ _;have Z:l≠(s.heap.push { cls:=AW "set",data:=Ci #[] 0 (Bs 0 0 led) }).objs.size:=by rw[W];exact AB (Br ac)
    have an:¬ s.heap.objs.size∈[(s.heap.push { cls:=AW "set",data:=Ci #[] 0 (Bs 0 0 led) }).objs.size,l]:=by
     rw[W];simp only[Al,Ao,or_false,not_or];exact⟨AB (BL _),CP ac⟩
    have aj:A.in1.in1.in1.handled=none:=hh;refine aFu (FZ (Walks.tuple aj _ l Z z)) s.heap.objs.size an val hi hb (z.size - 0) 0 _ rfl (Bu _) ⟨⟨_,Ax _ rfl,rfl,rfl⟩,aB9 aa _⟩ ?_ ?_
    ·have ad:=Ai { cls:=AW "tuple_iterator",data:=Gd #[AJ l,B5 0 0] } hS;exact⟨_,#[],0,_,ad,⟨rfl,rfl,rfl⟩,rfl,(fun e he=>by simp at he),(fun k=>by show(false=true)↔_;simp),(by decide),rfl,rfl,hled,.inl rfl⟩
    ·rintro⟨h',g',d',tk',os'⟩ hm hS';refine Af (Af ⟨rfl,?_⟩);have e1:=hm.gens;have e2:=hm.drawn;have e3:=hm.os;dsimp only at e1 e2 e3;subst e1 e2 e3;refine h h' tk' hS' fun b o hb e=>hm.heap b o ?_ ?_
     ·simp only[Al,Ao,or_false,not_or];rw[W];exact⟨AB hb,AB (Br hb)⟩
     ·exact Ai _ (Ai _ e)
   ·cases r with
    | error e=>exact B.elim
    | ok fl=>
     cases fl with
     | next=>exact B.elim
     | brk=>exact B.elim
     | cont=>exact B.elim
     | ret v=>
      obtain⟨rfl,q⟩:=B;refine Af ?_;refine AC (by first | rfl | decide) ?_;exact Af q
theorem nH{α:Type}:∀(l:List α) (j:Nat) (y:α),l[j]?=some y→(y :: l.eraseIdx j).Perm l
 | [],j,y,h=>by simp at h
 | x :: r,0,y,h=>by
  simp at h;subst h;simp
 | x :: r,j + 1,y,h=>by
  simp at h;rw[List.eraseIdx_cons_succ];exact(List.Perm.swap x y _).trans ((nH r j y h).cons x)
theorem aHk{M:E3}{A:AN}{Q:Nat→Ad→Prop}{E:Ab→Ad→Prop}{s:Ad}{src:Source}{n:Nat}(hn:n≠0)(h:∀ i d,i < n→Q i { s with drawn:=d }):wpAny M A (choose src n) Q E s:=
 fun _ _ _=>⟨hn,h _ _ (Nat.mod_lt _ (Nat.pos_of_ne_zero hn))⟩
theorem aCa{α:Type}{M:E3}{A:AN}{E:Ab→Ad→Prop}:∀(n:Nat) (xs:List α) (s:Ad) (Q:List α→Ad→Prop),xs.length=n→(∀ ys d,ys.Perm xs→Q ys { s with drawn:=d })→wpAny M A (drawOrder n xs) Q E s:=by
 intro n
 induction n with
 | zero=>
  intro xs s Q z h;obtain rfl:xs=[]:=Bq z;exact Af (h [] s.drawn (CW _))
 | succ n B=>
  intro xs s Q z h;cases xs with
  | nil=>simp at z
  | cons x r=>
   unfold drawOrder;refine Aa (aHk (by simp) fun i d hi=>?_);obtain⟨y,hy⟩:∃ y,(x :: r)[i]?=some y:=⟨_,Ag hi⟩
   rw[hy];dsimp only;refine Aa (B _ _ _ (by rw[C9 hi];simp at z ⊢;exact z) fun ys J F=>Af (h _ _ ((F.cons y).trans (nH _ i y hy))))
theorem dO:Slot "set_iterator" "__next__" "set_iterator.__next__":=
 .of (owner:="set_iterator") (n:="__next__") (by rw[typeLookup_type,builtinLookup_eq_fast];kernel_rfl) (by decide) (by decide) (by decide) (by first | exact .inl (by decide) | exact .inr (by decide)) (by rw[F8];kernel_rfl)
theorem pZ:Slot "set_iterator" "__iter__" "set_iterator.__iter__":=
 .of (owner:="set_iterator") (n:="__iter__") (by rw[typeLookup_type,builtinLookup_eq_fast];kernel_rfl) (by decide) (by decide) (by decide) (by first | exact .inl (by decide) | exact .inr (by decide)) (by rw[F8];kernel_rfl)
theorem iQ:entryFor table "set_iterator.__next__"=some Builtin.«set_iterator.__next__»:=entryFor_of_tree (by kernel_rfl)
theorem wV:entryFor table "set_iterator.__iter__"=some Builtin.«dict_keyiterator.__iter__»:=entryFor_alias (id':="dict_keyiterator.__iter__") (by kernel_rfl) rfl (by decide) (by kernel_rfl)
theorem sM:entryFor table "set.__iter__"=some Builtin.«frozenset.__iter__»:=entryFor_alias (id':="frozenset.__iter__") (by kernel_rfl) rfl (by decide) (by kernel_rfl)
theorem aAZ:Manifest.owners.lookup (String.ofList ("set_iterator".toList.reverse).reverse)=some Manifest.sig_set_iterator:=by kernel_rfl
theorem jA(a:Ab):argsOk "set_iterator.__next__" ⟨[a],[]⟩:=by
 unfold argsOk;rw[signature?_of (id:="set_iterator.__next__") (n:="__next__".toList.reverse) (o:="set_iterator".toList.reverse) (by kernel_rfl) aAZ]
 kernel_rfl
theorem zU(a:Ab):argsOk "set_iterator.__iter__" ⟨[a],[]⟩:=by
 unfold argsOk;rw[signature?_of (id:="set_iterator.__iter__") (n:="__iter__".toList.reverse) (o:="set_iterator".toList.reverse) (by kernel_rfl) aAZ]
 kernel_rfl
def jQ(first:Ab)(i:Nat)(S:Ac)(n ep:Nat):Obj:={ cls:=.type "set_iterator",dict:=none,data:=.fields #[first,.int i 0,.ref S,.int n 0,.int ep 0],slots:=#[] }
section
variable{prog:Ay}{w:AS}{A:AN}{E:Ab→Ad→Prop}{s:Ad}{I S T:Ac}{i m ep:Nat}{o ot:Obj}{es:Array (Int×Ab)}{t:CO}{ei:Array Ab}{x:Ab}
theorem uW{M:E3}{B:AN}{z:Ab→Ad→Prop}{Q:Fin→Ad→Prop}{s:Ad}(F:B.handled=none)(h:∀(e:Ab) (h':A4),(∀ b u,s.heap.get? b=some u→h'.get? b=some u)→Eg { s with heap:=h' } e "StopIteration"→z e { s with heap:=h' }):
  wpAny M B (newExc (.type "StopIteration") [] >>= fun e=>raiseNew e) Q z s:=by
 refine Aa ?_;simp only[newExc,newTuple];apply Aa;refine BI ?_ (by size_fits);apply Aa (m:=firstArgMember _ _);refine CG (a:=B4) (by first | rfl | (simp only[firstArgMember];rfl)) ?_;refine BI (h:=?_) (by size_fits);simp only[raiseNew];refine Aa (wpAny_handled ?_);rw[F];refine Aa (Af (wpAny_throw (h (.ref _) _ (fun b u e=>Ai _ (Ai _ e)) ⟨_,Ax _ rfl,rfl⟩)))
theorem aD6(B:s.heap.get? I=some (jQ (.ref T) i S es.size ep))(O:s.heap.get? S=some o)(hd:o.data=.set es ep t)(J:t.fits es.size=true)(Y:s.heap.get? T=some ot)(F:ot.data=.seq ei m){p:Nat}{tk:Tok}{hs:Int}(U:ei[i]?=some (.int p tk))(Z:es[p]?=some (hs,x)){Q:Option Ab→Ad→Prop}
  (W:∀ h',h'.get? I=some (jQ (.ref T) (i + 1) S es.size ep)→DF I s.heap h'→Q (some x) { s with heap:=h' }):wpAny (model prog w) A (pyNext (.ref I)) Q E s:=by
 have z:s.TypeIs (.ref I) "set_iterator":=⟨_,B,rfl⟩
 unfold pyNext;apply Aa;apply Dv;refine Cj (name:=Bh "__next__") z dO (B3 dO z iQ ?_ (jA _));unfold Builtin.«set_iterator.__next__»;refine Aa (Af ?_);refine Aa (Ff B rfl ?_);dsimp only;refine Aa (Dt O hd J ?_);rw[Ia (show¬ ((((es.size:Nat):Int) != ((es.size:Nat):Int))=true) by simp)];refine Aa (wpAny_seqItems Y F ?_);dsimp only;rw[show((i:Nat):Int).toNat=i from Bl i,U];dsimp only;unfold setNextDrawn;refine Aa (Aa (Df O hd J ?_));dsimp only;rw[Ia (show¬ ((ep != ((ep:Nat):Int).toNat)=true) by simp)];rw[show((p:Nat):Int).toNat=p from Bl p,Z];refine Af ?_;refine Aa (DS B rfl (by simp[jQ]) (Af ⟨x,rfl,Af (W _ ?_ (B0 ..))⟩));rw[BN _ B (DQ (Cr rfl _))];rfl
theorem aFv(hh:A.handled=none)(B:s.heap.get? I=some (jQ (.ref T) i S es.size ep))(hS:s.heap.get? S=some o)(hd:o.data=.set es ep t)(O:t.fits es.size=true)(Z:s.heap.get? T=some ot)(F:ot.data=.seq ei m)(W:ei[i]?=none){Q:Option Ab→Ad→Prop}
  (Y:∀ h',(∀ b u,b≠I→s.heap.get? b=some u→h'.get? b=some u)→Q none { s with heap:=h' }):wpAny (model prog w) A (pyNext (.ref I)) Q E s:=by
 have z:s.TypeIs (.ref I) "set_iterator":=⟨_,B,rfl⟩
 unfold pyNext;apply Aa;apply Dv;refine Cj (name:=Bh "__next__") z dO (B3 dO z iQ ?_ (jA _));unfold Builtin.«set_iterator.__next__»;refine Aa (Af ?_);refine Aa (Ff B rfl ?_);dsimp only;refine Aa (Dt hS hd O ?_);rw[Ia (show¬ ((((es.size:Nat):Int) != ((es.size:Nat):Int))=true) by simp)];refine Aa (wpAny_seqItems Z F ?_);dsimp only;rw[show((i:Nat):Int).toNat=i from Bl i,W];dsimp only;refine Aa (DS B rfl (by simp[jQ]) ?_);have J:=BN (Obj.mapFields (·.setIfInBounds 0 (rawInt 0))) B (DQ (Cr rfl _))
 refine Aa (DS J (Cr rfl _) (by simp[jQ]) ?_);refine uW (show A.in1.handled=none from hh) fun e h' k U=>?_;refine Aa (B2 (T:="StopIteration") (b:=true) U isSubtype_stop ?_);refine Af (Y h' fun b u nb hb=>k b u ?_);exact(B0 _ I _).extBut b u nb ((B0 _ I _).extBut b u nb hb)
theorem aD7{F nx:Nat}(O:s.heap.get? I=some (jQ (rawInt F) i S es.size ep))(hS:s.heap.get? S=some o)(hd:o.data=.set es ep t)(Y:t.fits es.size=true)
  (hN:∀(B:AN) (Z:Ab→Ad→Prop) (U:Option (Ab×Nat)→Ad→Prop),U (some (x,nx)) s→wpAny (model prog w) B (setNext S F i ep) U Z s) {Q:Option Ab→Ad→Prop}
  (W:∀ h',h'.get? I=some (jQ (rawInt nx) (i + 1) S es.size ep)→DF I s.heap h'→Q (some x) { s with heap:=h' }):wpAny (model prog w) A (pyNext (.ref I)) Q E s:=by
 have J:s.TypeIs (.ref I) "set_iterator":=⟨_,O,rfl⟩
 unfold pyNext;apply Aa;apply Dv;refine Cj (name:=Bh "__next__") J dO (B3 dO J iQ ?_ (jA _));unfold Builtin.«set_iterator.__next__»;refine Aa (Af ?_);refine Aa (Ff O rfl ?_);dsimp only;refine Aa (Dt hS hd Y ?_);rw[Ia (show¬ ((((es.size:Nat):Int) != ((es.size:Nat):Int))=true) by simp)];dsimp only[rawInt];refine Aa ?_;rw[show((i:Nat):Int).toNat=i from Bl i,show((F:Nat):Int).toNat=F from Bl F,show((ep:Nat):Int).toNat=ep from Bl ep];refine hN _ _ _ ?_;dsimp only;refine Aa (DS O rfl (by simp[jQ]) ?_);have z:=BN (Obj.mapFields (·.setIfInBounds 0 (rawInt nx))) O (DQ (Cr rfl _))
 refine Aa (DS z (Cr rfl _) (by simp[jQ]) (Af ⟨x,rfl,Af (W _ ?_ ((B0 ..).trans (B0 ..)))⟩));exact(BN _ z (DQ (Cr (Cr rfl _) _))).trans rfl
theorem aFw{F:Nat}(hh:A.handled=none)(J:s.heap.get? I=some (jQ (rawInt F) i S es.size ep))(hS:s.heap.get? S=some o)(hd:o.data=.set es ep t)(U:t.fits es.size=true)
  (hN:∀(B:AN) (W:Ab→Ad→Prop) (O:Option (Ab×Nat)→Ad→Prop),O none s→wpAny (model prog w) B (setNext S F i ep) O W s) {Q:Option Ab→Ad→Prop}
  (Z:∀ h',(∀ b u,b≠I→s.heap.get? b=some u→h'.get? b=some u)→Q none { s with heap:=h' }):wpAny (model prog w) A (pyNext (.ref I)) Q E s:=by
 have z:s.TypeIs (.ref I) "set_iterator":=⟨_,J,rfl⟩
 unfold pyNext;apply Aa;apply Dv;refine Cj (name:=Bh "__next__") z dO (B3 dO z iQ ?_ (jA _));unfold Builtin.«set_iterator.__next__»;refine Aa (Af ?_);refine Aa (Ff J rfl ?_);dsimp only;refine Aa (Dt hS hd U ?_);rw[Ia (show¬ ((((es.size:Nat):Int) != ((es.size:Nat):Int))=true) by simp)];dsimp only[rawInt];refine Aa ?_;rw[show((i:Nat):Int).toNat=i from Bl i,show((F:Nat):Int).toNat=F from Bl F,show((ep:Nat):Int).toNat=ep from Bl ep];refine hN _ _ _ ?_;dsimp only;refine Aa (DS J rfl (by simp[jQ]) ?_);refine uW (show A.in1.handled=none from hh) fun e h' k Y=>?_;refine Aa (B2 (T:="StopIteration") (b:=true) Y isSubtype_stop ?_);refine Af (Z h' fun b u nb hb=>k b u ?_);exact(B0 _ I _).extBut b u nb hb
theorem aC7{first:Ab}(B:s.heap.get? I=some (jQ first i S es.size ep)){Q:Ab→Ad→Prop}(h:Q (.ref I) s):wpAny (model prog w) A (pyIter (.ref I)) Q E s:=by
 have z:s.TypeIs (.ref I) "set_iterator":=⟨_,B,rfl⟩
 refine wpAny_pyIter_slot z pZ (B3 pZ z wV ?_ (zU _));exact Af ⟨_,rfl,"set_iterator",_,z,dO.lookup,h⟩
end
theorem xW{α:Type}(next:Nat→Nat):∀(z k:Nat) (left:List α) (out:Array α),left.length=z→(pickOrder.go next z k left out).toList.Perm (out.toList ++ left)
 | 0,k,[],out,_=>by
  unfold pickOrder.go;rw[Cv]
 | z + 1,k,x :: r,out,B=>by
  unfold pickOrder.go;have hi:next k % (x :: r).length < (x :: r).length:=Nat.mod_lt _ (by simp)
  obtain⟨y,hy⟩:∃ y,(x :: r)[next k % (x :: r).length]?=some y:=⟨_,Ag hi⟩
  rw[hy];dsimp only;refine(xW next z (k + 1) _ _ (by rw[C9 hi];simp at B ⊢;exact B)).trans ?_;rw[Array.toList_push,DC];exact Es _ (nH _ _ y hy)
theorem uX{α:Type}(next:Nat→Nat)(xs:Array α):(pickOrder next xs).toList.Perm xs.toList:=by
 unfold pickOrder;have h:=xW next xs.size 0 xs.toList #[] (by simp)
 simpa using h
section
variable{prog:Ay}{w:AS}{A:AN}{I S T:Ac}{m ep:Nat}{o ot:Obj}{es:Array (Int×Ab)}{t:CO}{ei:Array Ab}
theorem aJi(hh:A.handled=none)(hS:S≠I)(hT:T≠I)(hd:o.data=.set es ep t)(U:t.fits es.size=true)(F:ot.data=.seq ei m)(Y:∀ i,i < ei.size→∃(p:Nat) (tk:Tok) (z:Int×Ab),ei[i]?=some (.int p tk)∧es[p]?=some z):
  Walks prog w A I [I,S,T] [I] ei.size (fun i v=>∃(p:Nat) (tk:Tok) (z:Int),ei[i]?=some (.int p tk)∧es[p]?=some (z,v)) (fun i h=>h.get? I=some (jQ (.ref T) i S es.size ep)∧h.get? S=some o∧h.get? T=some ot) where
 sub:=fun b W=>by simp at W;simp[W]
 frame:=fun _ _ _ st J=>⟨J I (by simp) _ st.1,J S (by simp) _ st.2.1,J T (by simp) _ st.2.2⟩
 item:=fun i s Q E hi st B=>by
  obtain⟨p,tk,⟨z,v⟩,h1,h2⟩:=Y i hi;refine aD6 st.1 st.2.1 hd U st.2.2 F h1 h2 fun h' Z O=>?_;exact B v h' s.toks ⟨p,tk,z,h1,h2⟩ ⟨Z,O.extBut S _ hS st.2.1,O.extBut T _ hT st.2.2⟩ fun b u nb e=>O.extBut b u (by simpa using nb) e
 done:=fun s Q E st B=>aFv hh st.1 st.2.1 hd U st.2.2 F (by simp) fun h' k=>B h' s.toks fun b u nb e=>k b u (by simpa using nb) e
 self:=fun i s Q E st B=>aC7 st.1 B
theorem aJj(hh:A.handled=none)(hS:S≠I)(hd:o.data=.set es ep t)(U:t.fits es.size=true)(O:Nat→Nat)(ord:List Ab)
  (hN:∀(i:Nat) (s:Ad),s.heap.get? S=some o→i≤ord.length→∀(B:AN) (F:Ab→Ad→Prop) (z:Option (Ab×Nat)→Ad→Prop),z ((ord[i]?).map fun v=>(v,O (i + 1))) s→wpAny (model prog w) B (setNext S (O i) i ep) z F s):
  Walks prog w A I [I,S] [I] ord.length (fun i v=>ord[i]?=some v) (fun i h=>h.get? I=some (jQ (rawInt (O i)) i S es.size ep)∧h.get? S=some o) where
 sub:=fun b Z=>by simp at Z;simp[Z]
 frame:=fun _ _ _ st W=>⟨W I (by simp) _ st.1,W S (by simp) _ st.2⟩
 item:=fun i s Q E hi st J=>by
  obtain⟨v,hv⟩:∃ v,ord[i]?=some v:=⟨_,Ag hi⟩
  refine aD7 (x:=v) (nx:=O (i + 1)) st.1 st.2 hd U (fun B F z q=>hN i s st.2 (Dh hi) B F z (by rw[hv];exact q)) fun h' hI Y=>?_;exact J v h' s.toks hv ⟨hI,Y.extBut S _ hS st.2⟩ fun b u nb e=>Y.extBut b u (by simpa using nb) e
 done:=fun s Q E st J=>aFw hh st.1 st.2 hd U (fun B F z q=>hN _ s st.2 (Ap _) B F z (by rw[A0 (Ap _)];exact q)) fun h' k=>J h' s.toks fun b u nb e=>k b u (by simpa using nb) e
 self:=fun i s Q E st J=>aC7 st.1 J
structure aLe(prog:Ay)(w:AS)(A:AN)(S:Ac)(el:List Ab)(s s2:Ad)(I:Ac):Prop where
 w:∃(fp:List Ac) (P:Nat→Ab→Prop) (St:Nat→A4→Prop),Walks prog w A I fp [I] el.length P St∧St 0 s2.heap∧I∈fp∧(∀ b∈fp,b < s2.heap.objs.size∧(b=S∨s.heap.objs.size≤b))∧∀ acc,ItemsOf P acc el.length→acc.toList.Perm el
 keep:∀ b u,s.heap.get? b=some u→s2.heap.get? b=some u
 new:s.heap.objs.size≤I
 gens:s2.gens=s.gens
 os:s2.os=s.os
 toks:s2.toks=s.toks
theorem aFx{ord:List Ab}{z:Array Ab}(h:ItemsOf (fun i v=>ord[i]?=some v) z ord.length):z.toList=ord:=by
 obtain⟨hl,h⟩:=h;apply CB;intro j;by_cases B:j < z.size
 ·have:=h j z[j] (by simp[B]);rw[this];simp[B]
 ·rw[A0 (by simpa using B),A0 (by omega)]
end
section
variable{prog:Ay}{w:AS}{A:AN}{S:Ac}{ep:Nat}{o:Obj}{es:Array (Int×Ab)}{t:CO}
theorem aA0{ys:List Nat}{n:Nat}(J:ys.Perm (AV n))(hn:n=es.size):∀ i,i < (ys.map fun(i:Nat)=>rawInt i).toArray.size→∃(p:Nat) (tk:Tok) (z:Int×Ab),(ys.map fun(i:Nat)=>rawInt i).toArray[i]?=some (.int p tk)∧es[p]?=some z:=by
 intro i hi;have B:i < ys.length:=by simpa using hi
 have hm:ys[i]∈AV n:=J.mem_iff.mp (BB B);have F:ys[i] < es.size:=by rw[← hn];exact BC.mp hm
 exact⟨ys[i],0,es[ys[i]],by simp[B,rawInt],by simp[F]⟩
theorem zV{ys:List Nat}{n:Nat}(W:ys.Perm (AV n))(hn:n=es.size){B:Array Ab}(h:ItemsOf (fun i v=>∃(p:Nat) (tk:Tok) (z:Int),(ys.map fun(i:Nat)=>rawInt i).toArray[i]?=some (.int p tk)∧es[p]?=some (z,v)) B ys.length):B.toList.Perm (es.toList.map (·.2)):=by
 have e:B.toList=ys.map fun p=>(es.toList.getD p (0,.none)).2:=by
  apply CB;intro j;by_cases J:j < ys.length
  ·have F:j < B.size:=by rw[h.1];exact J
   obtain⟨p,tk,z,h1,h2⟩:=h.2 j B[j] (by simp[F]);simp[J,rawInt]at h1;obtain⟨h1,_⟩:=h1;have U:ys[j]=p:=by exact_mod_cast h1
   rw[AK,Ag J,U];have O:es.toList[p]?=some (z,B[j]):=by simpa using h2
   simp[List.getD,h2,O,F]
  ·rw[A0 (by have:=h.1;simp;omega),A0 (by simpa using J)]
 rw[e];refine(W.map _).trans (List.Perm.of_eq ?_);apply CB;intro j;rw[AK,AK];by_cases J:j < n
 ·rw[Dk J];have F:j < es.size:=by omega
  simp[List.getD,F]
 ·rw[A0 (by simpa using J),A0 (by simp;omega)];rfl
theorem aFy(hh:A.handled=none)(an:o.cls=.type "set")(hd:o.data=.set es ep t)(U:t.fits es.size=true)(hb:es.size < scanBound)(ad:uV w es t){E:Ab→Ad→Prop}{s:Ad}{R:Ab→Ad→Prop}(hS:s.heap.get? S=some o)
  (h:∀(I:Ac) (s2:Ad),aLe prog w A S (es.toList.map (·.2)) s s2 I→R (.ref I) s2):wpAny (model prog w) A (pyIter (.ref S)) R E s:=by
 have ak:s.TypeIs (.ref S) "set":=⟨_,hS,an⟩
 have Z:=Aq hS;refine wpAny_pyIter_slot ak F.slot_set_iter (B3 F.slot_set_iter ak sM ?_ (F.args_set_iter_1 _));unfold Builtin.«frozenset.__iter__» Builtin.Frozenset.slot0 Builtin.Frozenset.sizeOf;refine Aa (Aa (Af (Af ?_)));refine Aa (Aa (Dt hS hd U (Af ?_)));refine Aa ?_;unfold setDrawn setsByText;refine Aa (Df hS hd U (Aa (Aa (Dq (Af (Af ?_))))));have az:(es.toList.map (·.2)).length=es.size:=by simp
 have ac:(∀(i:Nat) (s:Ad),s.heap.get? S=some o→i≤es.size→True)→∀(sl:Nat→Nat) (ord:List Ab),sl 0=0→ord.Perm (es.toList.map (·.2))→
   (∀(i:Nat) (s:Ad),s.heap.get? S=some o→i≤ord.length→∀(B:AN) (E':Ab→Ad→Prop) (Q':Option (Ab×Nat)→Ad→Prop),Q' ((ord[i]?).map fun v=>(v,sl (i + 1))) s→wpAny (model prog w) B (setNext S (sl i) i ep) Q' E' s)→
   wpAny (model prog w) A.in1 (do ret (← newFields "set_iterator" [rawInt 0,rawInt 0,.ref S,rawInt es.size,rawInt (← setEpoch S)])) (fun ac s'=>∃ v,ac=.done (.ret v)∧∃ T' r,s'.TypeIs v T'∧typeLookup (.type T') "__next__"=pure (some r)∧R v s') E s:=by
  intro _ sl ord h0 J hN;refine Aa (wpAny_setEpoch_of hS hd U ?_);refine Aa (BI (Af ⟨_,rfl,"set_iterator",_,⟨_,Ax _ rfl,rfl⟩,dO.lookup,h _ _ ?_⟩));have ap:ord.length=(es.toList.map (·.2)).length:=J.length_eq
  refine⟨⟨[s.heap.objs.size,S],_,_,ap ▸ aJj hh (AB Z) hd U sl ord hN,⟨by rw[h0];exact Ax _ rfl,Ai _ hS⟩,by simp,?_,fun ay ha=>?_⟩,fun b u e=>Ai _ e,Ap _,rfl,rfl,rfl⟩
  ·intro b hb;rw[BZ];simp at hb;rcases hb with rfl | rfl
   ·exact⟨BL _,.inr (Ap _)⟩
   ·exact⟨Br Z,.inl rfl⟩
  ·rw[← ap]at ha;rw[aFx ha];exact J
 dsimp only;cases aa:(model prog w).w.params.followText "set-order" with
 | true=>
  rw[Ia (by simp)];refine Aa (Af ?_);refine ac (fun _ _ _ _=>trivial) (fun _=>0) ((pickOrder ((model prog w).w.params.setOrder S ep) es).toList.map (·.2)) rfl ((uX _ es).map _) fun i s1 O hi B E' Q' q=>?_
  unfold setNext setsByText setWalk setsByText;refine Aa (Df O hd U ?_);refine Aa (Aa (Dq (Af ?_)));dsimp only;rw[aa,Ib rfl];rw[Ia (show¬ ((ep != ep)=true) by simp)];refine Aa (Aa (Df O hd U ?_));refine Aa (Aa (Dq (Af ?_)));dsimp only;rw[aa,Ib rfl];refine Aa (Dq (Af (Af ?_)));simpa[Function.comp_def]using q
 | false=>
  by_cases h1:es.size > 1
  ·have W:t.plain=false:=ad.2.resolve_left (by omega);refine BH (Ic (show((!false) && (!t.plain && decide (es.size > 1)))=true by rw[W];simp[h1])) ?_;refine Aa (aCa es.size (AV es.size) s _ (by simp) fun ys d J=>?_);have ao:ys.length=es.size:=by rw[J.length_eq];simp
   refine Aa (F7 ?_ (by rw[Ae,ao];exact ED hb));have O:(s.heap.push { cls:=.type "tuple",data:=.seq (ys.map fun(i:Nat)=>rawInt i).toArray }).get? S=some o:=Ai _ hS;refine Aa (wpAny_setEpoch_of O hd U ?_);refine Aa (BI (Af ⟨_,rfl,"set_iterator",_,⟨_,Ax _ rfl,rfl⟩,dO.lookup,h _ _ ?_⟩));have Y:(s.heap.push { cls:=.type "tuple",data:=.seq (ys.map fun(i:Nat)=>rawInt i).toArray }).objs.size=s.heap.objs.size + 1:=BZ _ _;have ai:(ys.map fun(i:Nat)=>rawInt i).toArray.size=(es.toList.map (·.2)).length:=by simp[ao]
   have hw:=aJi (prog:=prog) (w:=w) (A:=A) (I:=(s.heap.push { cls:=.type "tuple",data:=.seq (ys.map fun(i:Nat)=>rawInt i).toArray }).objs.size) (S:=S) (T:=s.heap.objs.size) (o:=o) (ot:={ cls:=.type "tuple",data:=.seq (ys.map fun(i:Nat)=>rawInt i).toArray }) hh (by rw[Y];exact AB (Br Z)) (by rw[Y];exact AB (BL _)) hd U rfl (aA0 J rfl);rw[ai]at hw;refine⟨⟨_,_,_,hw,⟨Ax _ rfl,Ai _ O,Ai _ (Ax _ rfl)⟩,by simp,?_,fun ay ha=>?_⟩,fun b u e=>Ai _ (Ai _ e),by dsimp only;rw[Y];exact De _,rfl,rfl,rfl⟩
   ·intro b hb;have h3:b=s.heap.objs.size + 1∨b=S∨b=s.heap.objs.size:=by
     rw[Y]at hb;simpa using hb
    dsimp only;rw[BZ,Y];rcases h3 with rfl | rfl | rfl
    ·exact⟨BL _,.inr (De _)⟩
    ·exact⟨Br (Br Z),.inl rfl⟩
    ·exact⟨Br (BL _),.inr (Ap _)⟩
   ·rw[← ai,Ar,Ae]at ha;exact zV J rfl ha
  ·refine AC (decide_eq_false (show¬ (((!false) && (!t.plain && decide (es.size > 1)))=true) by simp[h1])) ?_;refine Aa (Af ?_);have au:(!t.plain && decide (es.size > 1))=false:=by simp[h1]
   have aj:t.led=true:=by
    have z:=ad.1;rw[show w.params.followText "set-order"=false from aa]at z;exact z
   have ax:t.place.size=es.size:=by
    unfold SetTable.fits at U;simp at U;exact U.1
   refine ac (fun _ _ _ _=>trivial) (fun i=>if i=0 then 0 else t.place.getD 0 0 + 1) (es.toList.map (·.2)) rfl (CW _) fun i s1 O hi B E' Q' q=>?_
   unfold setNext setsByText;refine Aa (Df O hd U ?_);refine Aa (Aa (Dq (Af ?_)));dsimp only;rw[aa,Ia (by simp)];refine AC (decide_eq_false (show¬ ((!t.plain && decide (es.size > 1))=true) by rw[au];simp)) ?_;refine Aa (AC (decide_eq_false (show¬ ((!t.led && !es.isEmpty)=true) by rw[aj];simp)) (Af (Af ?_)));have ae:es.size=0∨es.size=1:=by omega
   rcases ae with hz | hz
   ·have ah:es=#[]:=Array.eq_empty_of_size_eq_zero hz;have W:t.place=#[]:=Array.eq_empty_of_size_eq_zero (by omega);subst ah;have av:i=0:=by simpa using hi
    subst av;rw[W];simpa[Ds,Ds.go]using q
   ·obtain⟨e,ah⟩:=Array.size_eq_one_iff.mp hz;obtain⟨j,W⟩:=Array.size_eq_one_iff.mp (ax.trans hz);subst ah;have aw:i=0∨i=1:=by
     have:i≤1:=by simpa using hi
     omega
    rw[W]at q ⊢;rcases aw with rfl | rfl
    ·simpa[Ds,Ds.go]using q
    ·simpa[Ds,Ds.go]using q
end
section
variable{prog:Ay}{w:AS}{A:AN}{S:Ac}{ep:Nat}{o:Obj}{es:Array (Int×Ab)}{t:CO}
theorem aA1(hh:A.handled=none)(B:o.cls=.type "set")(hd:o.data=.set es ep t)(hf:t.fits es.size=true)(hb:es.size < scanBound)(ah:uV w es t){E:Ab→Ad→Prop}{s:Ad}{Q:List Ab→Ad→Prop}(hS:s.heap.get? S=some o)
  (h:∀(aj:List Ab) (h':A4) (d:GX) (tk:Nat),aj.Perm (es.toList.map (·.2))→(∀ b u,s.heap.get? b=some u→h'.get? b=some u)→s.heap.objs.size < h'.objs.size→Q aj { s with heap:=h',drawn:=d,toks:=tk }):wpAny (model prog w) A (collect (.ref S)) Q E s:=by
 have ad:=Aq hS;unfold collect;apply Aa;apply En;apply BR ET;rw[BO ES];show wpAny _ A.in1 (newList [] >>= fun l=>again (.builtin "list.__iadd__" ⟨[l,.ref S],[]⟩)) _ _ s;apply Aa;refine BI (Af ⟨Dw Dc _,BR Fw ?_⟩);rw[BO Dc];have O:(s.heap.push { cls:=.type "list",data:=.seq ([]:List Ab).toArray }).get? S=some o:=Ai _ hS;have ar:(s.heap.push { cls:=.type "list",data:=.seq ([]:List Ab).toArray }).get? s.heap.objs.size=some { cls:=.type "list",data:=.seq ([]:List Ab).toArray }:=Ax _ rfl;have e1:Builtin.List.listSameRef (.ref s.heap.objs.size) (.ref S)=false:=by
  show(s.heap.objs.size == S)=false;simpa using CP ad
 show wpAny _ A.in1 (BY (.ref s.heap.objs.size) (.ref S) (.ref s.heap.objs.size)) _ _ _;unfold BY;refine Aa (BU (T:="set") ⟨o,O,B⟩ ?_);rw[Ia (by rw[e1];decide)];refine Aa (aFy (A:=A.in1) hh B hd hf hb ah O fun I s2 it=>?_);have U:=it.keep S o O;have aa:=it.keep _ _ ar;refine Aa (Be ?_);unfold Builtin.List.listLengthHint;refine Aa (Ec (T:="set") ⟨o,U,B⟩ F.slot_set_len.lookup ?_);generalize hid:("set.__len__":String)=ao
 wp_delta
 rw[show splitId ao=some ("set","__len__") from by subst hid;decide];subst hid;refine Aa (B2 (b:=true) (T:="set") ⟨o,U,B⟩ sub_set_self ?_);refine AC (by rfl) ?_;refine BH (by decide) ?_;refine Aa (BU (T:="set") ⟨o,U,B⟩ ?_);refine Af ?_;refine BH (by decide) ?_;refine Aa (Eo ?_);obtain⟨fp,P,St,W,st0,hI,hfp,hit⟩:=it.w;have ag:(s.heap.push { cls:=.type "list",data:=.seq ([]:List Ab).toArray }).objs.size=s.heap.objs.size + 1:=BZ _ _;have Z:s.heap.objs.size ∉ fp:=fun hm=>by
  rcases(hfp _ hm).2 with z | z
  ·exact absurd z (CP ad)
  ·dsimp only at z;rw[ag]at z;exact absurd z (Nat.not_succ_le_self _)
 apply Aa;show wpAny _ A.in1 (updateSeq s.heap.objs.size (·.push .none) >>= fun _=>updateSeq s.heap.objs.size (·.pop)) _ _ _
 apply Aa;refine EV aa rfl ?_;have ac:=BN (Bp (·.push B4)) aa rfl
 refine EV ac rfl ?_;have au:=BN (Bp (·.pop)) ac rfl
 have ai:∀ b u,b≠s.heap.objs.size→s2.heap.get? b=some u→((s2.heap.update s.heap.objs.size (Bp (·.push B4))).update s.heap.objs.size (Bp (·.pop))).get? b=some u:=
  fun b u nb e=>(Ck _ _ (DL nb)).trans ((Ck _ _ (DL nb)).trans e)
 have ap:(es.toList.map (·.2)).length≤sizeLine:=by
  rw[Ae,BD];exact ED hb
 refine Af ⟨Dw F.plain_extend_loop _,codeAny_extend_loopS (FZ W) ap s.heap.objs.size Z _ _ 0 _ _ _ rfl (Bu _) (W.frame 0 _ _ st0 fun b hb u e=>ai b u (fun z=>Z (z ▸ hb)) e) au (ItemsOf.nil P) fun s' J c' hm ae Y=>?_⟩;show wpAny _ A (load s.heap.objs.size >>= _) _ _ s';apply Aa;refine Fq ae (Af ?_);obtain⟨h',g',d',tk',os'⟩:=s';have g1:=hm.gens;have g2:=hm.os;dsimp only at g1 g2;have g3:=it.gens;have g4:=it.os;rw[g3]at g1;rw[g4]at g2;dsimp only at g1 g2;subst g1 g2;refine h J.toList h' d' tk' (hit J Y) (fun b u e=>?_) (Aq ae);have af:=Aq e;have nb:b≠s.heap.objs.size:=AB af;have nI:b≠I:=fun z=>by
  have z2:=it.new;dsimp only at z2;rw[ag,← z]at z2;exact absurd (DH af z2) (Bg _)
 refine hm.heap b u (by simp[nb,nI]) (ai b u nb (it.keep b u (Ai _ e)))
end
theorem jB{α:Type}[DecidableEq α]:∀(L M:List α),L.Nodup→(∀ x∈L,x∈M)→M.length=L.length→M.Perm L
 | [],M,_,_,F=>by
  have:M=[]:=Bq F;rw[this]
 | x :: r,M,hn,hm,F=>by
  obtain⟨hx,hr⟩:=CS.mp hn;have B:=hm x (by simp);have O:=jB r (M.erase x) hr (fun y J=>(List.mem_erase_of_ne (show y≠x from fun z=>hx (by rw[← z];exact J))).mpr (hm y (by simp[J]))) (by rw[List.length_erase_of_mem B,F];simp);exact(List.perm_cons_erase B).trans (O.cons x)
section
variable{prog:Ay}{w:AS}{A:AN}{S:Ac}{E:Ab→Ad→Prop}{s:Ad}
theorem aA2(hh:A.handled=none){f:Str→Bool}{n:Nat}(hS:kJ prog w s.heap S f n){J:List Str}(ag:J.Nodup)(O:∀ k,f k=true↔k∈J)(hn:n=J.length)(aj:n < 64){Q:Ab→Ad→Prop}
  (h:∀(l:Ac) (h':A4) (d:GX) (tk e:Nat) (out:Array Ab) (Z:List Str),s.heap.objs.size≤l→(∀ b u,s.heap.get? b=some u→h'.get? b=some u)→h'.get? l=some (seqObj "list" out e)→F3 out.toList Z→Z.Perm J→sortedS Z=true→Q (.ref l) { s with heap:=h',drawn:=d,toks:=tk }):
  wpAny (model prog w) A (call (.builtin "sorted") [.ref S]) Q E s:=by
 obtain⟨o,es,ep,t,ho,hex,hd,hel,hm,hb,hf,hsz,hTab⟩:=hS;refine Calls.call_function_entry GE Gm Gr (args_sorted1 _) ?_;unfold Builtin.«sorted»;apply Aa (m:=checkCount "sorted" 1 1 _);apply Af;refine Aa (aA1 (A:=A.in1) hh hex.1 hd hf hb hTab ho fun z h1 d tk hp F aa=>?_);have W:∀ v,v∈z→∃ x t,v=.str x t:=fun v hv=>by
  obtain⟨e,he,rfl⟩:=Bd.mp (hp.mem_iff.mp hv);obtain⟨⟨k,F,_⟩,_⟩:=hel e he;obtain⟨t,ht⟩:=EN F;exact⟨k,t,ht⟩
 have hA:=strsAre_map z W;have ah:z.length=n:=by rw[hp.length_eq,Ae,BD];exact hsz
 have hM:(z.map strOf).Perm J:=by
  refine((hp.map strOf)).trans (jB J _ ag (fun x hx=>?_) (by rw[Ae,Ae,BD,hsz,hn]));obtain⟨e,he,F⟩:=(hm x).mp ((O x).mpr hx);obtain⟨t,ht⟩:=EN F;exact Bd.mpr ⟨e.2,Bd.mpr ⟨e,he,rfl⟩,by rw[ht];rfl⟩
 have ad:z.length≤sizeLine:=by rw[FX];omega
 apply Aa;refine EE ?_ ad;have B:(h1.push (seqObj "list" z.toArray 0)).get? h1.objs.size=some (seqObj "list" z.toArray 0):=Ax _ rfl;refine Aa (Be (B3 slot_list_sort ⟨_,B,rfl⟩ entry_list_sort (list_sort_treeK strKind_oneLt B hA.keysOf (fun v₁ v₂ cI e=>keyKind_strs (by rw[← e];exact hA)) (by omega) fun ae a1 a2=>⟨_,rfl,?_⟩) (args_list_sort _)));obtain⟨Z,b1,b2,b3⟩:=sorted_out_str hA a1 a2;refine Af ⟨_,rfl,?_⟩;obtain⟨e,he⟩:=sortedHeap_at (vs:=z) (out:=(arrOf ae).map (·.2)) B
 have Y:s.heap.objs.size≤h1.objs.size:=Dh aa;refine h _ _ d tk e _ Z Y (fun b u eb=>?_) he b1 (b2.trans hM) b3;have U:=Aq (F b u eb);rw[sortedHeap_old (AB U) (by rw[BZ];exact Br U)];exact Ai _ (F b u eb)
end
section
variable{X:Cx}{dh:List (Ac×Obj)}{σ:St}{H H':Hp}{s:Ad}{h':A4}
theorem Inv.laidD{a:Ac}{o:HO}{t':Nat}{d':GX}(I:Inv X dh σ H s)(k:∀ b u,s.heap.get? b=some u→h'.get? b=some u)(B:s.heap.objs.size≤a)(new:c5 X.prog X.w (upd H a o) h' a o):
  Inv X dh σ (upd H a o) { s with heap:=h',drawn:=d',toks:=t' }:=by
 have u:Un (frs X.stack) [] H (upd H a o) s.heap h':=Un.laid k B (I.hok.fresh B);exact I.call (g':=s.gens) (d':=d') u (I.hok.laid k B new) I.bare (fun _ z=>nomatch z)
theorem uY(val:Nat→Str):∀ i,(iI val i).Nodup
 | 0=>List.nodup_nil
 | i + 1=>by
  show(lE (iI val i) (val i)).Nodup;have z:=uY val i;unfold lE;split
  ·exact z
  ·next hne=>
   rw[C2];exact⟨z,by simp,fun x B y F e=>hne (by rw[← (show y=val i from by simpa using F),← e];exact B)⟩
def sN(ss:List Str):List Str:=iI (fun i=>ss.getD i "") ss.length
theorem aA3(z:List Str)(k:Str):k∈sN z↔k∈z:=by
 unfold sN;rw[uQ];constructor
 ·rintro⟨j,hj,e⟩;rw[← e,Aw,Ag hj];exact BB hj
 ·intro B;obtain⟨j,hj,e⟩:=DZ.mp B;exact⟨j,hj,by rw[Aw,Ag hj];exact e⟩
theorem o6(z:List Str):(sN z).Nodup:=uY _ _
def aFz(P:Ay)(w:AS)(a:Ac)(ss:List Str):HO:=.ext fun h=>kJ P w h a (fun k=>(sN ss).any fun x=>x == k) (sN ss).length
theorem aA4{F:List Str}{its:List Ab}(J:cZ (F.map V.str) its){i:Nat}{v:Ab}(O:its.toArray[i]?=some v):∃ t,v=BA (F.getD i "") t:=by
 have z:=J.length;rw[Ae]at z;have B:its[i]?=some v:=by simpa using O
 have hi:i < F.length:=by
  rw[z];exact(AH.mp B).1
 have e:(F.map V.str)[i]?=some (V.str (F.getD i "")):=by
  rw[AK,Ag hi];simp[hi]
 obtain⟨u,hu,ru⟩:=J.get e;rw[B]at hu;cases hu;exact ru
theorem aD8(hc:X.calm=true):gH X (.type "set") (fun xs H Q=>∃(p:Ac) (F:List Str),xs=[.ref p]∧(H p=some (.lst (F.map V.str))∨H p=some (.tup (F.map V.str)))∧F.length≤1000∧∀ a,H a=none→Q (.ref a) (upd H a (aFz X.prog X.w a F))):=by
 intro dh s σ H xs us Q I r h;obtain⟨p,F,rfl,J,h1000,q⟩:=h;obtain⟨u,rfl,ru⟩:=gS r;cases ru;have O:∀(B:List Ab),B.length=F.length→∀(h':A4) (tk:Nat),kJ X.prog X.w h' s.heap.objs.size (fun k'=>(iI (fun i=>F.getD i "") B.toArray.size).any fun x=>x == k') (iI (fun i=>F.getD i "") B.toArray.size).length→
   (∀(b:Nat) (o:Obj),b < s.heap.objs.size→s.heap.get? b=some o→h'.get? b=some o)→EP X dh σ Q (AJ s.heap.objs.size) { s with heap:=h',toks:=tk }:=by
  intro B hl h' tk W hk;have Z:B.toArray.size=F.length:=by rw[Ar,hl]
  rw[Z]at W;have Y:∀ b u,s.heap.get? b=some u→h'.get? b=some u:=fun b u e=>hk b u (Aq e) e;have hn:H s.heap.objs.size=none:=I.hok.fresh (Ap _);refine⟨.ref s.heap.objs.size,_,I.laid (t':=tk) (o:=aFz X.prog X.w s.heap.objs.size F) Y (Ap _) ⟨W,?_,fun h1 h2 f g=>?_⟩,rfl,q _ hn⟩
  ·obtain⟨o,_,_,_,e,_⟩:=W;exact⟨o,e⟩
  ·exact f.at g
 rcases J with J | J
 ·obtain⟨B,rv,pl,_⟩:=I.list (bE J);have z:=rv.length;rw[Ae]at z;exact aAX (val:=fun i=>F.getD i "") (I.ok.hd hc) pl.isList (fun i v U=>aA4 rv U) (by rw[Ar,← z];show _ < 4096;omega) (O B z.symm)
 ·obtain⟨B,rv,pl,_⟩:=I.tuple (aZ J);have z:=rv.length;rw[Ae]at z;exact aAY (val:=fun i=>F.getD i "") (I.ok.hd hc) pl (fun i v U=>aA4 rv U) (by rw[Ar,← z];show _ < 4096;omega) (O B z.symm)
theorem zW(hc:X.calm=true):gH X (.builtin "sorted") (fun xs H Q=>∃(p:Ac) (z:List Str),xs=[.ref p]∧H p=some (aFz X.prog X.w p z)∧z.length < 64∧∀(l:Ac) (B:List Str),H l=none→B.Perm (sN z)→sortedS B=true→Q (.ref l) (upd H l (.lst (B.map V.str)))):=by
 intro dh s σ H xs us Q I r h;obtain⟨p,z,rfl,hx,h64,q⟩:=h;obtain⟨u,rfl,ru⟩:=gS r;cases ru;obtain⟨hS,_,_⟩:c5 X.prog X.w H s.heap p (aFz X.prog X.w p z):=I.hok p _ hx;have aa:(sN z).length≤z.length:=sY (fun i=>z.getD i "") z.length;refine aA2 (I.ok.hd hc) hS (o6 z) (fun k=>by rw[pW];simp) rfl (by omega) fun l h' d tk e out B J O Y ha F Z=>?_;have U:cZ (B.map V.str) out.toList:=i9 ha;have W:=F.length_eq;exact⟨.ref l,_,I.laidD (t':=tk) (d':=d) (o:=.lst (B.map V.str)) O J ⟨aS (by rw[Ae];omega),out.toList,e,U,by rw[Y] <;> rfl⟩,rfl,q l B (I.hok.fresh J) F Z⟩
theorem p0:∀(p:Str) (l:List Str),risingS p l=true→(∀ x∈l,¬ x.cps.toList < p.cps.toList)∧l.Pairwise fun a b=>¬ b.cps.toList < a.cps.toList
 | p,[],_=>⟨fun x B=>by simp at B,D1⟩
 | p,x :: r,h=>by
  have h':(!ltCps x.cps.toList p.cps.toList && risingS x r)=true:=h;rw[AY,ltCps_eq]at h';have B:¬ x.cps.toList < p.cps.toList:=by simpa using h'.1
  obtain⟨i1,i2⟩:=p0 x r h'.2;refine⟨fun y F=>?_,CN.mpr ⟨i1,i2⟩⟩;rcases Al.mp F with rfl | F
  ·exact B
  ·intro z;have h1:=i1 y F;exact B (List.lt_of_le_of_lt (C7.mp h1) z)
theorem mJ:∀(l:List Str),sortedS l=true→l.Pairwise fun a b=>¬ b.cps.toList < a.cps.toList
 | [],_=>D1
 | x :: r,h=>CN.mpr (p0 x r h)
theorem sZ{a b:Str}(h:a.cps.toList=b.cps.toList):a=b:=by
 cases a;cases b;congr;exact DP.mp h
theorem nJ:∀{l m:List Str},l.Perm m→(l.Pairwise fun a b=>¬ b.cps.toList < a.cps.toList)→(m.Pairwise fun a b=>¬ b.cps.toList < a.cps.toList)→l=m
 | [],m,h,_,_=>(List.Perm.eq_nil h.symm).symm
 | x :: r,[],h,_,_=>by simpa using h.length_eq
 | x :: r,y :: q,h,h1,h2=>by
  obtain⟨a1,a2⟩:=CN.mp h1;obtain⟨b1,b2⟩:=CN.mp h2;have e:x=y:=by
   rcases Al.mp (h.mem_iff.mp (AL (a:=x) (l:=r)))with e | hx
   ·exact e
   ·rcases Al.mp (h.mem_iff.mpr (AL (a:=y) (l:=q)))with e | hy
    ·exact e.symm
    ·exact sZ (Ez (C7.mp (a1 y hy)) (C7.mp (b1 x hx)))
  subst e;rw[nJ ((FQ x).mp h) a2 b2]
end
def eD{α:Type}(o:Nat→Nat→Bool):GV α→α
 | .ret a=>a
 | .ask i j k=>eD o (k (o i j))
def uZ:Nat→List Nat→List (List Nat)
 | 0,_=>[[]]
 | f + 1,l=>l.flatMap fun x=>(uZ f (l.erase x)).map (x :: ·)
theorem vA:∀(q l:List Nat),q.Perm l→q∈uZ q.length l
 | [],l,_=>by simp[uZ]
 | x :: r,l,h=>by
  have z:x∈l:=h.mem_iff.mp (by simp);have B:r.Perm (l.erase x):=by
   have:=h.trans (List.perm_cons_erase z);exact(FQ x).mp this
  show x :: r∈l.flatMap _;exact List.mem_flatMap.mpr ⟨x,z,Bd.mpr ⟨r,vA r _ B,rfl⟩⟩
def lH(n:Nat):Bool:=(uZ n (AV n)).all fun π=>(eD (fun i j=>decide (π.getD i 0 < π.getD j 0)) (Co n)).toList.map (fun i=>π.getD i 0) == AV n
theorem aJk:lH 2=true:=by decide
theorem aJl:lH 3=true:=by decide
theorem aJm:lH 4=true:=by decide
theorem aJn:lH 5=true:=by decide
theorem aJo:lH 6=true:=by decide
theorem o7{α:Type}{n:Nat}{P:α→Prop}{o o':Nat→Nat→Bool}(h:∀ i j,i < n→j < n→o i j=o' i j):∀{t:GV α},iV n P t→eD o t=eD o' t
 | .ret a,_=>rfl
 | .ask i j k,z=>by
  show eD o (k (o i j))=eD o' (k (o' i j));rw[h i j z.1 z.2.1];exact o7 h (z.2.2 _)
theorem iV.run{α:Type}{n:Nat}{P:α→Prop}(o:Nat→Nat→Bool):∀{t:GV α},iV n P t→P (eD o t)
 | .ret a,h=>h
 | .ask i j k,h=>by
  show P (eD o (k (o i j)));exact iV.run o (h.2.2 (o i j))
theorem iV.wpO{α:Type}{n:Nat}{P:α→Prop}{z:Nat→Nat→(Bool→Ad→Prop)→Ad→Prop}{Q:α→Ad→Prop}{s:Ad}{o:Nat→Nat→Bool}(hc:∀ i j C,i < n→j < n→C (o i j) s→z i j C s):∀{t:GV α},iV n P t→Q (eD o t) s→t.kasWp z Q s
 | .ret a,_,q=>by rw[KasT.kasWp.eq_1];exact q
 | .ask i j k,h,q=>by
  rw[KasT.kasWp.eq_2];exact hc i j _ h.1 h.2.1 (iV.wpO hc (h.2.2 _) q)
abbrev P3:=Str×Str×Int
def zX(x y:P3):Bool:=if x.1 == y.1 then(if x.2.1 == y.2.1 then(if x.2.2 == y.2.2 then false else decide (x.2.2 < y.2.2)) else decide (x.2.1.cps.toList < y.2.1.cps.toList)) else decide (x.1.cps.toList < y.1.cps.toList)
inductive aC8(h:A4)(v:Ab)(x:P3):Prop
 | mk (t:_) (u1:_) (u2:_) (u3:_) (q0:v=.ref t) (q1:Eu h t #[.str x.1 u1,.str x.2.1 u2,.int x.2.2 u3]):aC8 h v x
def oQ(h:A4)(v:Ab)(x:P3):Prop:=aC8 h v x
section
variable{prog:Ay}{w:AS}{A:AN}{E:Ab→Ad→Prop}{s:Ad}
theorem zY{a b:Int}{t u:Tok}{Q:Bool→Ad→Prop}(h:Q (decide (a < b)) s):wpAny (model prog w) A (oneLt' false (B5 a t) (B5 b u)) Q E s:=by
 rw[oneLt'_eq];show wpAny _ _ (compareOp .Lt (B5 a t) (B5 b u) >>= _) _ _ _;apply Aa;refine lt_int ?_
 wp_walk
 exact h
theorem zZ{a b:Str}{t u:Tok}{Q:Bool→Ad→Prop}(h:Q (decide (a.cps.toList < b.cps.toList)) s):wpAny (model prog w) A (oneLt' false (BA a t) (BA b u)) Q E s:=by
 rw[oneLt'_eq];show wpAny _ _ (compareOp .Lt (BA a t) (BA b u) >>= _) _ _ _;apply Aa;refine lt_str ?_
 wp_walk
 exact h
theorem ltP{z:Bool}{Z W:Ab}{x y:P3}{C:Bool→Ad→Prop}(J:oQ s.heap Z x)(O:oQ s.heap W y)(h:C (zX x y) s):wpAny (model prog w) A (keyLt' (tuples' z) Z W) C E s:=by
 obtain⟨a1,b1,c1⟩:=x;obtain⟨a2,b2,c2⟩:=y;obtain⟨p1,t1,t2,t3,rfl,J⟩:=J;obtain⟨p2,u1,u2,u3,rfl,O⟩:=O;dsimp only at J O;unfold zX at h;dsimp only at h;show wpAny _ _ (CD (.ref p1) >>= _) _ _ _;refine Aa (jI J ?_);refine Aa (jI O ?_);dsimp only[List.zip_cons_cons,List.zipIdx_cons,List.zip_nil_left];rw[List.zipIdx_nil];have e1:∀{Q:Bool→Ad→Prop} {a b:Int} {t u:Tok},Q (a == b) s→wpAny (model prog w) A (eqBool (.int a t) (.int b u)) Q E s:=fun{Q a b t u} q=>zM (y:=.int a) (x:=.int b) ⟨t,rfl⟩ ⟨u,rfl⟩ rfl rfl prog w _ _ q;have Y:∀{Q:Bool→Ad→Prop} {a b:Str} {t u:Tok},Q (a == b) s→wpAny (model prog w) A (eqBool (.str a t) (.str b u)) Q E s:=fun{Q a b t u} q=>DY a t b u prog w _ _ q;refine Aa ?_;rw[Cu];refine Aa (Aa (Y ?_));cases hz:(a1 == a2)with
 | false=>
  rw[hz]at h;refine BH (by decide) ?_;refine Aa ?_;show wpAny _ _ (oneLt' (z && 0 == 0) (BA a1 t1) (BA a2 u1)) _ _ _;cases z
  ·exact zZ (Af (Af (Af h)))
  ·exact oneLt_str (Af (Af (Af h)))
 | true=>
  rw[hz,Ib rfl]at h;refine AC (by decide) (Af ?_);dsimp only;rw[Cu];refine Aa (Aa (Y ?_));cases F:(b1 == b2)with
  | false=>
   rw[F]at h;refine BH (by decide) ?_;refine Aa ?_;have U:(z && ((0 + 1:Nat) == 0))=false:=by cases z <;> rfl
   show wpAny _ _ (oneLt' (z && (0 + 1 == 0)) (BA b1 t2) (BA b2 u2)) _ _ _;rw[U];exact zZ (Af (Af (Af h)))
  | true=>
   rw[F,Ib rfl]at h;refine AC (by decide) (Af ?_);dsimp only;rw[Cu];refine Aa (Aa (e1 ?_));cases B:(c1 == c2)with
   | false=>
    rw[B]at h;refine BH (by decide) ?_;refine Aa ?_;have U:(z && ((0 + 1 + 1:Nat) == 0))=false:=by cases z <;> rfl
    show wpAny _ _ (oneLt' (z && (0 + 1 + 1 == 0)) (B5 c1 t3) (B5 c2 u3)) _ _ _;rw[U];exact zY (Af (Af (Af h)))
   | true=>
    rw[B,Ib rfl]at h;refine AC (by decide) (Af ?_);dsimp only;rw[FS];exact Af (Af h)
end
def iJ(ps:List P3):List Nat:=(eD (fun i j=>zX (ps.getD i ("","",0)) (ps.getD j ("","",0))) (Co ps.length)).toList
theorem lI(ps:List P3)(h:0 < ps.length):(iJ ps).Perm (AV ps.length):=by
 have:=iV.run (fun i j=>zX (ps.getD i ("","",0)) (ps.getD j ("","",0))) (jH h);exact D9.mp this
section
variable{prog:Ay}{w:AS}{A:AN}{E:Ab→Ad→Prop}{s:Ad}
theorem aKu{ks:List Ab}{Q:DV→Ad→Prop}(U:∀ v∈ks,∃ x,oQ s.heap v x)(h:∀ b,Q (tuples' b) s):wpAny (model prog w) A (keyKind' ks.toArray) Q E s:=by
 rw[keyKind'_eq,Dg];refine Aa ?_;rw[← bind_pure_comp];refine Aa (nG (R:=fun _ r=>∃ a u,r=some (BA a u)) ks (fun v F=>?_) fun rs hl z=>Af ?_)
 ·obtain⟨x,t,u1,u2,u3,rfl,ht⟩:=U v F;refine⟨some (.str x.1 u1),⟨x.1,u1,rfl⟩,fun Q' q=>?_⟩;rw[kas_first_eq];refine Aa (BU ht.typeIs ?_);refine AC (by decide) ?_;refine Aa (jI ht ?_);exact Af q
 ·have B:(rs.toArray.all fun x=>x.isSome)=true:=by
   rw[List.all_toArray,A3];intro r Z;obtain⟨v,_,a,u,rfl⟩:=z r Z;rfl
  refine BH (by rw[B];rfl) ?_;refine Aa (Eo ?_);rw[oneTypeOnly'_eq,Dg]
  iterate 2 refine Aa ?_
  rw[← bind_pure_comp];refine Aa (nG (R:=fun _ r=>r=AW "str") _ (fun v F=>?_) fun ts W Y=>Af ?_)
  ·have J:some v∈rs:=by simpa using F
   obtain⟨_,_,a,u,e⟩:=z _ J;cases e;exact⟨_,rfl,fun Q' q=>BU (EL s a u) q⟩
  ·cases O:ts.toArray[0]? with
   | none=>exact Af (Af (h _))
   | some t=>exact Af (Af (h _))
theorem aKv{b:Bool}{vs:List Ab}{ps:List P3}{Q:Unit×Fg→Ad→Prop}(Z:vs.length=ps.length)(h2:2≤vs.length)(F:vs.length < 64)(O:∀ i,i < vs.length→oQ s.heap (vs.getD i .none) (ps.getD i ("","",0)))
  (h:∀ st:Fg,(arrOf st).map (·.2)=((iJ ps).map fun i=>vs.getD i .none).toArray→failedOf st=none→Q ((),st) s):wpAny (model prog w) A (sortRuns'.run (Fx (tuples' b) (vs.toArray.zip vs.toArray) #[] 7 none)) Q E s:=by
 have hz:(vs.toArray.zip vs.toArray).size=vs.length:=by simp
 have B:=kas_runs (prog:=prog) (w:=w) (A:=A) (E:=E) (κ:=tuples' b) (it:=vs.toArray.zip vs.toArray) (n:=vs.length) (s:=s) (Q:=fun u st s'=>s'=s∧Q (u,st) s) (G:=fun p s'=>p.toList=iJ ps∧s'=s) h2 F (fun p' J s' ac ha U Y=>?_)
  (iV.wpO (n:=vs.length) (P:=Pm vs.length) (o:=fun i j=>zX (ps.getD i ("","",0)) (ps.getD j ("","",0))) (fun i j C hi hj hC=>?_) (jH (by omega)) ⟨by unfold iJ;rw[Z],rfl⟩)
 ·have W:kas_st (tuples' b) (vs.toArray.zip vs.toArray) (AV vs.length).toArray=Fx (tuples' b) (vs.toArray.zip vs.toArray) #[] 7 none:=by
   unfold kas_st;have:=kas_range (vs.toArray.zip vs.toArray);rw[hz]at this;rw[this]
  rw[W]at B;exact BG B (fun r s' z=>by
   obtain⟨rfl,q⟩:=z;exact q) fun e s' z=>z
 ·obtain⟨hp,rfl⟩:=Y;refine⟨rfl,h J ?_ U⟩;rw[ha];apply DP.mp;rw[Array.map_map,Fn,hp];show _=(iJ ps).map _;refine D2 fun i _=>?_;show(FF (pairsOf vs) i).2=_;rw[GG]
 ·unfold kas_cmp;show wpAny _ _ (keyLt' _ (FF (pairsOf vs) i).1 (FF (pairsOf vs) j).1) _ _ _;rw[GG,GG];exact ltP (O i hi) (O j hj) hC
theorem oQ.keep{h h':A4}{v:Ab}{x:P3}(p:oQ h v x)(k:∀ b o,h.get? b=some o→o.cls=.type "tuple"→h'.get? b=some o):oQ h' v x:=by
 obtain⟨t,u1,u2,u3,e,o,ho,hc,r⟩:=p;exact⟨t,u1,u2,u3,e,o,k t o ho hc,hc,r⟩
theorem aCb{a:Ac}{vs:List Ab}{ps:List P3}{n:Nat}{P:Gv→Ad→Prop}(Z:s.heap.get? a=some (seqObj "list" vs.toArray n))(hl:vs.length=ps.length)(h2:2≤vs.length)(aa:vs.length < 64)(hk:∀ i,i < vs.length→oQ s.heap (vs.getD i .none) (ps.getD i ("","",0)))
  (h:∀(h':A4) (e:Nat),(∀ b u,b≠a→s.heap.get? b=some u→h'.get? b=some u)→h'.get? a=some (seqObj "list" ((iJ ps).map fun i=>vs.getD i .none).toArray e)→P (.done (.ret .none)) { s with heap:=h' }):
  wpAny (model prog w) A (Builtin.«list.sort» ⟨[.ref a],[]⟩) P E s:=by
 have zz:∀ m,m≤vs.length→m≤sizeLine:=fun m hm=>aS (by omega);rw[list_sort_plain];refine Aa (EM Z rfl ?_);refine Aa (Dx Z rfl ?_ (by rw[Ar];exact zz _ (Ap _)) (Bu _));have J:=get?_update_seq Z (fun _=>#[]);generalize (if ((#[]:Array Ab).size == vs.toArray.size)=true then n else n + 1)=e1 at J;have O:∀ b u,b≠a→s.heap.get? b=some u→(s.heap.update a (Bp fun _=>#[])).get? b=some u:=fun b u nb e=>by
  rw[BE _ _ _ _ nb];exact e
 dsimp only;generalize s.heap.update a (Bp fun _=>#[])=h1 at J O ⊢;refine Aa (FY J rfl ?_);refine Aa (F7 ?_ (by simpa using zz _ (Ap _)));refine Aa (EE ?_ (Bu _));refine Be ?_;have F:((h1.push { cls:=AW "tuple",data:=CL vs.toArray.toList.toArray }).push { cls:=AW "list",data:=CL ([]:List Ab).toArray }).get? a=some (seqObj "list" #[] e1):=Ai _ (Ai _ J);have B:∀ b u,b≠a→s.heap.get? b=some u→((h1.push { cls:=AW "tuple",data:=CL vs.toArray.toList.toArray }).push { cls:=AW "list",data:=CL ([]:List Ab).toArray }).get? b=some u:=fun b u nb e=>Ai _ (Ai _ (O b u nb e));dsimp only;generalize (h1.push { cls:=AW "tuple",data:=CL vs.toArray.toList.toArray }).push { cls:=AW "list",data:=CL ([]:List Ab).toArray }=h3 at F B ⊢;have U:∀ i,i < vs.length→oQ h3 (vs.getD i .none) (ps.getD i ("","",0)):=fun i hi=>(hk i hi).keep fun b o e hc=>B b o (fun z=>by
  rw[z,Z]at e;cases e;have ad:(AW "list")=AW "tuple":=hc;injection ad with z2;exact absurd z2 (by decide)) e
 have Y:¬ vs.toArray.size < 2:=by simpa using Nat.not_lt.mpr h2
 rw[Ia Y,Ia Y];refine Aa (aKu (fun v hv=>?_) fun b=>?_)
 ·obtain⟨i,hi,rfl⟩:=DZ.mp hv;have:=U i hi;rw[Aw,Ag hi]at this;exact⟨_,this⟩
 ·refine Aa (aKv hl h2 aa U fun st W hf=>?_);dsimp only;refine Aa (FY F rfl ?_);have af:((iJ ps).map fun i=>vs.getD i .none).length=vs.length:=by rw[Ae,(lI ps (by omega)).length_eq,B7,hl]
  refine Aa (Dx F rfl ?_ (Bu _) (by show((arrOf st).map (·.2)).size≤_;rw[W,Ar,af];exact Nat.le_succ_of_le (zz _ (Ap _))))
  rw[hf];refine AC (by simp) ?_;obtain⟨e3,gA3⟩:∃ e3,(h3.update a (Bp fun _=>(arrOf st).map (·.2))).get? a=some (seqObj "list" ((arrOf st).map (·.2)) e3):=⟨_,get?_update_seq F (fun _=>(arrOf st).map (·.2))⟩
  refine Af (h _ e3 (fun b u nb e=>?_) (by rw[← W];exact gA3));rw[BE _ _ _ _ nb];exact B b u nb e
end
section
variable{prog:Ay}{w:AS}{A:AN}{E:Ab→Ad→Prop}{s:Ad}
theorem rP{p:Ac}{its:List Ab}{Q:List Ab→Ad→Prop}(J:Eu s.heap p its.toArray)(O:its.length≤sizeLine)
  (h:∀ h1:A4,(∀ b u,s.heap.get? b=some u→h1.get? b=some u)→s.heap.objs.size≤h1.objs.size→Q its { s with heap:=h1 }):wpAny (model prog w) A (collect (.ref p)) Q E s:=by
 obtain⟨o,ho,hc,n,hd⟩:=J;unfold collect;apply Aa;apply En;apply BR ET;rw[BO ES];show wpAny _ A.in1 (newList [] >>= fun l=>again (.builtin "list.__iadd__" ⟨[l,.ref p],[]⟩)) _ _ s;apply Aa;refine BI (Af ⟨Dw Dc _,BR Fw ?_⟩);rw[BO Dc];have B:(s.heap.push (seqObj "list" #[] 0)).get? p=some o:=Ai _ ho;have z:(s.heap.push (seqObj "list" #[] 0)).get? s.heap.objs.size=some (seqObj "list" #[] 0):=Ax _ rfl;show wpAny _ A.in1 (BY (.ref s.heap.objs.size) (.ref p) (.ref s.heap.objs.size)) _ _ { s with heap:=s.heap.push (seqObj "list" #[] 0) };unfold BY;refine Aa (BU (T:="tuple") ⟨o,B,hc⟩ ?_);rw[Ib (by simp)];apply Aa;refine EM B hd ?_;apply Aa;refine EM z rfl ?_;rw[Ia (by simp)];refine Aa (Dx z rfl ?_ (Bu _) (by show(#[] ++ its.toArray).size≤sizeLine + 1;simp only[Array.size_append,Ar,EG];omega));apply Af;have F:=get?_update_seq z (· ++ its.toArray)
 show wpAny (model prog w) A (load s.heap.objs.size >>= _) Q E _;refine Aa (Fq F ?_);show wpAny _ _ (pure ((#[]:Array Ab) ++ its.toArray).toList) Q E _;rw[show((#[]:Array Ab) ++ its.toArray).toList=its by simp];refine Af (h _ (fun b u e=>?_) (Dh (Aq F)));rw[BE _ _ _ _ (AB (Aq e))];exact Ai _ e
theorem vB{p:Ac}{its:List Ab}{Q:Ab→Ad→Prop}(O:Eu s.heap p its.toArray)(W:its.length < 64)
  (h:∀(h1:A4),(∀ b u,s.heap.get? b=some u→h1.get? b=some u)→s.heap.objs.size≤h1.objs.size→wpAny (model prog w) A.in1.in1 (Builtin.«list.sort» ⟨[.ref h1.objs.size],[]⟩) (fun B s'=>B=.done (.ret .none)∧Q (.ref h1.objs.size) s') E { s with heap:=h1.push (seqObj "list" its.toArray 0) }):
  wpAny (model prog w) A (call (.builtin "sorted") [.ref p]) Q E s:=by
 have J:its.length≤sizeLine:=aS (by omega);refine Calls.call_function_entry GE Gm Gr (args_sorted1 _) ?_;unfold Builtin.«sorted»;apply Aa (m:=checkCount "sorted" 1 1 _);apply Af;refine Aa (rP O J fun h1 Y U=>?_);apply Aa;refine EE ?_ J;have F:(h1.push (seqObj "list" its.toArray 0)).get? h1.objs.size=some (seqObj "list" its.toArray 0):=Ax _ rfl;refine Aa (Be (B3 slot_list_sort ⟨_,F,rfl⟩ entry_list_sort (BG (h h1 Y U) (fun B s' z=>⟨.none,z.1,?_⟩) fun _ _ e=>e) (args_list_sort _)));exact Af ⟨_,rfl,z.2⟩
end
section
variable{X:Cx}
inductive jY(xs:List V)(H:Hp)(Q:VK):Prop
 | mk (p:Ac) (ns:List Str) (q0:xs=[.ref p]) (q1:H p=some (.tup (ns.map V.str))) (q2:ns.length < 64) (q3:∀(l:Ac) (ms:List Str),H l=none→ms.Perm ns→sortedS ms=true→Q (.ref l) (upd H l (.lst (ms.map V.str)))):jY xs H Q
def sP:List V→Hp→VK→Prop:=fun xs H Q=>jY xs H Q
theorem wW:gH X (.builtin "sorted") sP:=by
 intro dh s σ H xs Z Q I r h;obtain⟨p,ns,rfl,hx,h64,q⟩:=h;obtain⟨u,rfl,ru⟩:=gS r;cases ru;obtain⟨its,rv,ht,_⟩:=I.tuple (aZ hx);have hi:F3 its ns:=o0 rv;have z:=rv.length;rw[Ae]at z;refine vB ht (by omega) fun h1 O U=>?_;have J:(h1.push (seqObj "list" its.toArray 0)).get? h1.objs.size=some (seqObj "list" its.toArray 0):=Ax _ rfl;refine list_sort_treeK strKind_oneLt J hi.keysOf (fun v₁ v₂ cI e=>keyKind_strs (by rw[← e];exact hi)) (by omega) fun F a1 a2=>⟨rfl,?_⟩
 obtain⟨ms,b1,b2,b3⟩:=sorted_out_str hi a1 a2;obtain⟨e,he⟩:=sortedHeap_at (vs:=its) (out:=(arrOf F).map (·.2)) J
 have Y:=b2.length_eq;refine⟨.ref h1.objs.size,_,I.laid (t':=s.toks) (o:=.lst (ms.map V.str)) (fun b u W=>?_) U ⟨aS (by rw[Ae];omega),((arrOf F).map (·.2)).toList,e,i9 b1,by rw[he] <;> rfl⟩,rfl,q _ ms (I.hok.fresh U) b2 b3⟩
 have B:=Aq (O b u W);rw[sortedHeap_old (AB B) (by rw[BZ];exact Br B)];exact Ai _ (O b u W)
inductive aC9(H:Hp)(v:V)(x:P3):Prop
 | mk (t:_) (q0:v=.ref t) (q1:H t=some (.tup [.str x.1,.str x.2.1,.int x.2.2])):aC9 H v x
def xX(H:Hp)(v:V)(x:P3):Prop:=aC9 H v x
theorem xX.real{dh:List (Ac×Obj)}{σ:St}{H:Hp}{s:Ad}{v:V}{u:Ab}{x:P3}(I:Inv X dh σ H s)(h:xX H v x)(r:dA v u):oQ s.heap u x:=by
 obtain⟨t,rfl,ht⟩:=h;cases r;obtain⟨_,its,z,hT⟩:c5 X.prog X.w H s.heap t (.tup [.str x.1,.str x.2.1,.int x.2.2]):=I.hok _ _ ht;cases z with
 | cons F z=>
  cases z with
  | cons B z=>
   cases z with
   | cons J z=>
    cases z;obtain⟨u1,e1⟩:=F;obtain⟨u2,e2⟩:=B;obtain⟨u3,e3⟩:=J;subst e1 e2 e3;exact⟨t,u1,u2,u3,rfl,hT⟩
theorem qO{vs:List V}{its:List Ab}(r:cZ vs its):∀(q:List Nat),(∀ i∈q,i < vs.length)→cZ (q.map fun i=>vs.getD i .non) (q.map fun i=>its.getD i .none)
 | [],_=>.nil
 | i :: q,h=>by
  have hi:=h i (by simp);obtain⟨u,hu,ru⟩:=r.get (Ag hi);refine .cons ?_ (qO r q fun j z=>h j (by simp[z]));show dA (vs.getD i .non) (its.getD i .none);rw[Aw,Aw,Ag hi,hu];exact ru
inductive lJ(xs:List V)(H:Hp)(Q:VK):Prop
 | mk (p:Ac) (vs:List V) (ps:List P3) (q0:xs=[.ref p]) (q1:H p=some (.tup vs)) (q2:vs.length=ps.length) (q3:2≤vs.length) (q4:vs.length < 64) (q5:(∀ i,i < vs.length→xX H (vs.getD i .non) (ps.getD i ("","",0)))) (q6:∀(l:Ac),H l=none→Q (.ref l) (upd H l (.lst ((iJ ps).map fun i=>vs.getD i .non)))):lJ xs H Q
def vC:List V→Hp→VK→Prop:=fun xs H Q=>lJ xs H Q
theorem z8:gH X (.builtin "sorted") vC:=by
 intro dh s σ H xs us Q I r h;obtain⟨p,vs,ps,rfl,hx,hl,h2,h64,hk,q⟩:=h;obtain⟨u,rfl,ru⟩:=gS r;cases ru;obtain⟨its,rv,ht,_⟩:=I.tuple (aZ hx);have Y:=rv.length;refine vB ht (by omega) fun h1 J Z=>?_;have W:(h1.push (seqObj "list" its.toArray 0)).get? h1.objs.size=some (seqObj "list" its.toArray 0):=Ax _ rfl;have F:∀ b u,s.heap.get? b=some u→(h1.push (seqObj "list" its.toArray 0)).get? b=some u:=fun b u e=>Ai _ (J b u e);have B:=lI ps (by omega);have aa:(iJ ps).length=ps.length:=by rw[B.length_eq,B7]
 refine aCb (ps:=ps) W (by omega) (by omega) (by omega) (fun i hi=>?_) fun h' e U he=>⟨rfl,?_⟩
 ·have z:i < vs.length:=by omega
  obtain⟨u,hu,ru⟩:=rv.get (Ag z);have:=hk i z;rw[Aw,Ag z]at this;rw[Aw,hu];exact(xX.real I this ru).keep fun b o O _=>F b o O
 ·refine⟨.ref h1.objs.size,_,I.laid (t':=s.toks) (o:=.lst ((iJ ps).map fun i=>vs.getD i .non)) (fun b u O=>U b u (AB (Aq (J b u O))) (F b u O)) Z ⟨aS (by rw[Ae];omega),(iJ ps).map fun i=>its.getD i .none,e,qO rv _ (fun i hi=>?_),he⟩,rfl,q _ (I.hok.fresh Z)⟩;have:=B.mem_iff.mp hi;rw[BC]at this;omega
end
def xY(R:List P3):Prop:=R.Pairwise fun a b=>a.1.cps.toList < b.1.cps.toList
theorem aCc{R:List P3}(h:xY R):R.Nodup:=h.imp fun{a b} z e=>by
 subst e;exact CI _ z
theorem aHl{R:List P3}(h:xY R){a b:P3}(ha:a∈R)(W:b∈R):zX a b=decide (R.idxOf a < R.idxOf b):=by
 have ia:=D5 ha;have ib:=D5 W;have O:R[R.idxOf a]=a:=Fc ia;have J:R[R.idxOf b]=b:=Fc ib;have U:=Eh.mp h;rcases Nat.lt_trichotomy (R.idxOf a) (R.idxOf b)with z | z | z
 ·have B:=U _ _ ia ib z;rw[O,J]at B;have F:(a.1 == b.1)=false:=by
   rw[beq_eq_false_iff_ne];intro e;rw[e]at B;exact CI _ B
  unfold zX;rw[F,Ic z];exact Ic B
 ·have e:a=b:=by rw[← O,← J];simp[z]
  subst e;unfold zX;simp
 ·have B:=U _ _ ib ia z;rw[O,J]at B;have F:(a.1 == b.1)=false:=by
   rw[beq_eq_false_iff_ne];intro e;rw[e]at B;exact CI _ B
  unfold zX;rw[F,decide_eq_false (show¬ (R.idxOf a < R.idxOf b) by omega)];exact decide_eq_false fun y=>CI _ (E7 B y)
theorem aD9{n:Nat}(h2:2≤n)(z:n≤6):lH n=true:=by
 have:n=2∨n=3∨n=4∨n=5∨n=6:=by omega
 rcases this with rfl | rfl | rfl | rfl | rfl
 ·exact aJk
 ·exact aJl
 ·exact aJm
 ·exact aJn
 ·exact aJo
theorem aEa{R:List P3}(h:R.Nodup):R.map (fun x=>R.idxOf x)=AV R.length:=by
 apply Fp
 ·simp
 ·intro i h1 h2;have z:i < R.length:=by simpa using h1
  simp only[CJ,List.getElem_range];exact h.idxOf_getElem i z
theorem aA5{T R:List P3}(W:T.Perm R)(hR:xY R)(h2:2≤T.length)(h6:T.length≤6)(d:P3):(iJ T).map (fun i=>T.getD i d)=R:=by
 have hl:=W.length_eq;have hn:=aCc hR;obtain⟨π,hπ⟩:∃ π,π=T.map (fun x=>R.idxOf x):=⟨_,rfl⟩
 have aa:π.Perm (AV T.length):=by
  rw[hπ,hl,← aEa hn];exact W.map _
 have Y:π.length=T.length:=by rw[hπ,Ae]
 have J:π∈uZ T.length (AV T.length):=by
  have:=vA π _ aa;rw[Y]at this;exact this
 have B:∀ i,i < T.length→π.getD i 0=R.idxOf (T.getD i ("","",0)):=fun i hi=>by
  rw[hπ,Aw,Aw,AK,Ag hi];rfl
 have F:∀ i,i < T.length→T.getD i ("","",0)∈R:=fun i hi=>by
  rw[Aw,Ag hi];exact W.mem_iff.mp (BB hi)
 have hk:iJ T=(eD (fun i j=>decide (π.getD i 0 < π.getD j 0)) (Co T.length)).toList:=by
  unfold iJ;congr 1;refine o7 (n:=T.length) (P:=Pm T.length) (fun i j hi O=>?_) (jH (by omega));rw[B i hi,B j O];exact aHl hR (F i hi) (F j O)
 have hs:=A3.mp (aD9 h2 h6) π J;have U:=eq_of_beq hs;rw[← hk]at U;have Z:(iJ T).length=T.length:=by rw[(lI T (by omega)).length_eq,B7]
 apply Fp
 ·rw[Ae,Z,hl]
 ·intro j h1 ah;have O:j < (iJ T).length:=by simpa using h1
  have e:((iJ T).map (fun i=>π.getD i 0))[j]?=(AV T.length)[j]?:=by rw[U]
  rw[AK,Ag O,Dk (by omega)]at e;have e':π.getD (iJ T)[j] 0=j:=by simpa using e
  have z:(iJ T)[j] < T.length:=by
   have:=(lI T (by omega)).mem_iff.mp (BB O)
   rwa [BC]at this
  rw[B _ z]at e';rw[CJ];have hm:=F _ z;have hd:T.getD (iJ T)[j] d=T.getD (iJ T)[j] ("","",0):=by
   rw[Aw,Aw,Ag z];rfl
  rw[hd];have:=Fc (D5 hm);rw[← this];congr 1
section
variable{n:Nat}{π:Nat→Nat}
abbrev Kp(π:Nat→Nat)(p:Array Nat)(j:Nat):Nat:=π (p.getD j 0)
abbrev ord(π:Nat→Nat):Nat→Nat→Bool:=fun i j=>decide (π i < π j)
def KS(π:Nat→Nat)(p:Array Nat)(k:Nat):Prop:=∀ i j,i < j→j < k→Kp π p i < Kp π p j
theorem jJ{α β:Type}(o:Nat→Nat→Bool)(f:α→GV β):∀ t:GV α,eD o (t.bind f)=eD o (f (eD o t))
 | .ret a=>by rw[KasT.bind.eq_1];rfl
 | .ask i j k=>by
  rw[KasT.bind.eq_2];show eD o ((k (o i j)).bind f)=_;rw[jJ o f (k (o i j))];rfl
theorem lM{α:Type}(o:Nat→Nat→Bool)(i j:Nat)(k:Bool→GV α):eD o (.ask i j k)=eD o (k (o i j)):=rfl
theorem p3{p:Array Nat}{j v:Nat}(h:p[j]?=some v):p.getD j 0=v:=by rw[Bv,h];rfl
theorem Pm.size{p:Array Nat}(h:Pm n p):p.size=n:=by rw[h.size_eq];simp
theorem Pm.ne{p:Array Nat}(h:Pm n p){i j:Nat}(hi:i < n)(J:j < n)(z:i≠j):p.getD i 0≠p.getD j 0:=by
 have hz:=h.size;have B:p.toList.Nodup:=(D9.mp h).nodup_iff.mpr (by simpa using List.nodup_range);rw[p3 (B8 (by omega)),p3 (B8 (by omega))];intro e;have F:p.toList[i]'(by simpa using(by omega:i < p.size))=p.toList[j]'(by simpa using(by omega:j < p.size)):=by simpa using e
 exact z ((CK B).mp F)
variable(hn:0 < n)(hπ:∀ i j,i < n→j < n→π i=π j→i=j)
include hn hπ
theorem aFA{p:Array Nat}(h:Pm n p){i j:Nat}(hi:i < n)(B:j < n)(z:i≠j):Kp π p i≠Kp π p j:=fun e=>h.ne hi B z (hπ _ _ (h.lt hn i) (h.lt hn j) e)
theorem aDa{p:Array Nat}(h:Pm n p){k:Nat}(U:1≤k)(B:k < n)(F:KS π p k)(O:¬ Kp π p k < Kp π p (k - 1)):KS π p (k + 1):=by
 intro i j z W;by_cases e:j=k
 ·subst e;have h1:Kp π p (j - 1) < Kp π p j:=by
   have:=aFA hn hπ h (i:=j - 1) (j:=j) (by omega) B (by omega);omega
  by_cases J:i=j - 1
  ·rw[J];exact h1
  ·exact DH (F i (j - 1) (by omega) (by omega)) h1
 ·exact F i j z (by omega)
theorem tD{p:Array Nat}(h:Pm n p):∀(f x:Nat),1≤x→x + f≤n→KS π p x→x≤eD (ord π) (kas_asc p f x)∧eD (ord π) (kas_asc p f x)≤x + f∧KS π p (eD (ord π) (kas_asc p f x))
 | 0,x,h1,h2,z=>by
  rw[kas_asc.eq_1];exact⟨Ap _,by show x≤x + 0;omega,z⟩
 | f + 1,x,h1,h2,z=>by
  rw[kas_asc.eq_2,lM];by_cases B:Kp π p x < Kp π p (x - 1)
  ·rw[show ord π (p.getD x 0) (p.getD (x - 1) 0)=true from Ic B];show x≤eD (ord π) (.ret x)∧_;exact⟨Ap _,by show x≤x + (f + 1);omega,z⟩
  ·rw[show ord π (p.getD x 0) (p.getD (x - 1) 0)=false from decide_eq_false B];have F:=tD h f (x + 1) (by omega) (by omega) (aDa hn hπ h h1 (by omega) z B);show x≤eD (ord π) (kas_asc p f (x + 1))∧eD (ord π) (kas_asc p f (x + 1))≤x + (f + 1)∧KS π p (eD (ord π) (kas_asc p f (x + 1)));exact⟨by omega,by omega,F.2.2⟩
def KF(π:Nat→Nat)(p:Array Nat)(k:Nat):Prop:=∀ j,1≤j→j < k→Kp π p j < Kp π p (j - 1)
omit hn hπ in
theorem aFB{p:Array Nat}{k:Nat}(h:KF π p k):∀(d i:Nat),i + d + 1 < k→Kp π p (i + d + 1) < Kp π p i
 | 0,i,z=>h (i + 0 + 1) (by omega) z
 | d + 1,i,z=>by
  have h1:=aFB h d i (by omega);have h2:=h (i + (d + 1) + 1) (by omega) z;have e:i + (d + 1) + 1 - 1=i + d + 1:=by omega
  rw[e]at h2;exact DH h2 h1
theorem aA6{p:Array Nat}(h:Pm n p):∀(f x:Nat),1≤x→x + f≤n→KF π p x→∃ m,eD (ord π) (kas_desc f p x 0)=(p,m,0)∧x≤m∧m≤x + f∧KF π p m
 | 0,x,h1,h2,z=>by
  rw[kas_desc.eq_1];exact⟨x,rfl,Ap _,by omega,z⟩
 | f + 1,x,h1,h2,z=>by
  rw[kas_desc.eq_2,lM];by_cases F:Kp π p x < Kp π p (x - 1)
  ·rw[show ord π (p.getD x 0) (p.getD (x - 1) 0)=true from Ic F];have B:KF π p (x + 1):=fun j a b=>by
    by_cases e:j=x
    ·rw[e];exact F
    ·exact z j a (by omega)
   obtain⟨m,e,a,b,c⟩:=aA6 h f (x + 1) (by omega) (by omega) B;refine⟨m,?_,by omega,by omega,c⟩;exact e
  ·rw[show ord π (p.getD x 0) (p.getD (x - 1) 0)=false from decide_eq_false F];refine⟨x,?_,Ap _,by omega,z⟩;show eD (ord π) (.ask (p.getD (x - 1) 0) (p.getD x 0) _)=_;rw[lM];have J:Kp π p (x - 1) < Kp π p x:=by
    have:=aFA hn hπ h (i:=x - 1) (j:=x) (by omega) (by omega) (by omega);omega
   rw[show ord π (p.getD (x - 1) 0) (p.getD x 0)=true from Ic J];rfl
omit hn hπ in
theorem aFC{p:Array Nat}{m k:Nat}(hm:m≤p.size)(z:k < m):(Gp p 0 m).getD k 0=p.getD (m - 1 - k) 0:=by
 unfold Gp;rw[Bv,getElem?_mirror_all hm,Ib ⟨Bu _,z⟩,Bv];congr 2;omega
theorem aEb{p:Array Nat}(h:Pm n p){m:Nat}(h1:1≤m)(hm:m≤n)(F:KF π p m):∃ r,eD (ord π) (Gi m n p)=r∧1≤r.1∧r.1≤n∧Pm n r.2∧KS π r.2 r.1:=by
 have hz:=h.size;have z:Pm n (Gp p 0 m):=h.rev 0 m;have J:KS π (Gp p 0 m) m:=fun i j B O=>by
  show π _ < π _;rw[aFC (by omega) (by omega),aFC (by omega) O];have:=aFB F (j - i - 1) (m - 1 - j) (by omega);have e:m - 1 - j + (j - i - 1) + 1=m - 1 - i:=by omega
  rw[e]at this;exact this
 have ha:=tD hn hπ z (n - m) m h1 (by omega) J;refine⟨_,rfl,?_⟩;unfold Gi;rw[jJ];exact⟨by show 1≤eD (ord π) _;omega,by show eD (ord π) _≤n;omega,z,ha.2.2⟩
theorem aEc{p:Array Nat}(h:Pm n p):∃ r,eD (ord π) (Gj n p)=r∧1≤r.1∧r.1≤n∧Pm n r.2∧KS π r.2 r.1:=by
 unfold Gj;rw[jJ];have J:KS π p 1:=fun i j W Z=>by omega
 have ha:=tD hn hπ h (n - 1) 1 (Ap _) (by omega) J;generalize hm:eD (ord π) (kas_asc p (n - 1) 1)=m at ha ⊢;by_cases e:m=n
 ·rw[Ib (by rw[e];simp)];exact⟨(m,p),rfl,by show 1≤m;omega,by show m≤n;omega,h,ha.2.2⟩
 ·rw[Ia (by simpa using e)];by_cases z:m > 1
  ·rw[Ib z,lM];have U:Kp π p 0 < Kp π p (m - 1):=ha.2.2 0 (m - 1) (by omega) (by omega);rw[show ord π (p.getD 0 0) (p.getD (m - 1) 0)=true from Ic U];exact⟨(m,p),rfl,by show 1≤m;omega,by show m≤n;omega,h,ha.2.2⟩
  ·rw[Ia z];have Y:m=1:=by omega
   subst Y;unfold Gq;rw[jJ];have F:Kp π p 1 < Kp π p 0:=by
    by_cases hc:Kp π p 1 < Kp π p 0
    ·exact hc
    ·exfalso;obtain⟨g,hg⟩:∃ g,n - 1=g + 1:=⟨n - 2,by omega⟩
     rw[hg,kas_asc.eq_2,lM,show ord π (p.getD 1 0) (p.getD (1 - 1) 0)=false from decide_eq_false hc]at hm;have:=(tD hn hπ h g 2 (by omega) (by omega) (aDa hn hπ h (Ap _) (by omega) J hc)).1;have O:eD (ord π) (kas_asc p g 2)=1:=hm;omega
   have B:KF π p 2:=fun j a b=>by
    have:j=1:=by omega
    subst this;exact F
   obtain⟨m2,e2,a2,b2,c2⟩:=aA6 hn hπ h (n - 2) 2 (by omega) (by omega) B;rw[show n - (1 + 1)=n - 2 from rfl,e2];dsimp only;rw[Ia (by omega)];exact aEb hn hπ h (by omega) (by omega) c2
theorem qP{p:Array Nat}(h:Pm n p){k:Nat}(O:k < n)(J:KS π p k):∀(f l r:Nat),l≤r→r≤k→r - l≤f→(∀ j,j < l→Kp π p j < Kp π p k)→(∀ j,r≤j→j < k→Kp π p k < Kp π p j)→
  ∃ m,eD (ord π) (kas_place p k f l r)=m∧m≤k∧(∀ j,j < m→Kp π p j < Kp π p k)∧∀ j,m≤j→j < k→Kp π p k < Kp π p j
 | 0,l,r,h1,h2,Y,B,F=>by
  rw[kas_place.eq_1];have:l=r:=by omega
  subst this;exact⟨l,rfl,h2,B,F⟩
 | f + 1,l,r,h1,h2,Y,B,F=>by
  rw[kas_place.eq_2];by_cases z:l ≥ r
  ·rw[Ib z];have:l=r:=by omega
   subst this;exact⟨l,rfl,h2,B,F⟩
  ·rw[Ia z,lM];have W:(l + r) / 2 < r∧l≤(l + r) / 2:=by omega
   by_cases hc:Kp π p k < Kp π p ((l + r) / 2)
   ·rw[show ord π (p.getD k 0) (p.getD ((l + r) / 2) 0)=true from Ic hc];show∃ m,eD (ord π) (kas_place p k f l ((l + r) / 2))=m∧_;refine qP h O J f l ((l + r) / 2) (by omega) (by omega) (by omega) B fun j a b=>?_;by_cases e:j=(l + r) / 2
    ·rw[e];exact hc
    ·exact DH hc (J _ _ (by omega) b)
   ·rw[show ord π (p.getD k 0) (p.getD ((l + r) / 2) 0)=false from decide_eq_false hc];show∃ m,eD (ord π) (kas_place p k f ((l + r) / 2 + 1) r)=m∧_;have U:Kp π p ((l + r) / 2) < Kp π p k:=by
     have:=aFA hn hπ h (i:=(l + r) / 2) (j:=k) (by omega) O (by omega);omega
    refine qP h O J f ((l + r) / 2 + 1) r (by omega) h2 (by omega) (fun j a=>?_) F;by_cases e:j=(l + r) / 2
    ·rw[e];exact U
    ·exact DH (J _ _ (by omega) (by omega)) U
theorem aDb:∀(f:Nat) {p:Array Nat} (k:Nat),Pm n p→k + f=n→KS π p k→Pm n (eD (ord π) (kas_bin f p k))∧KS π (eD (ord π) (kas_bin f p k)) n
 | 0,p,k,h,Z,B=>by
  rw[kas_bin.eq_1];have:k=n:=by omega
  subst this;exact⟨h,B⟩
 | f + 1,p,k,h,Z,B=>by
  rw[kas_bin.eq_2,jJ];obtain⟨m,e,a,b,c⟩:=qP hn hπ h (by omega) B k 0 k (by omega) (Ap _) (by omega) (fun j z=>by omega) (fun j z y=>by omega);rw[e];refine aDb f (k + 1) (h.bub _ _) (by omega) fun i j F hj=>?_;have hz:=h.size;have at':∀ x,Kp π (bubble p k (k - m)) x=if x=m then Kp π p k else if m < x∧x≤k then Kp π p (x - 1) else Kp π p x:=fun x=>by
   show π _=_;rw[Bv,getElem?_bubble (by omega) (k - m) (by omega)];have em:k - (k - m)=m:=by omega
   rw[em]
   repeat' split
   all_goals (rw[← Bv])
  rw[at' i,at' j];have Y:∀ x y,x≤y→y < k→Kp π p x≤Kp π p y:=fun x y h1 h2=>by
   rcases Nat.lt_or_ge x y with z | z
   ·exact Dh (B x y z h2)
   ·have:x=y:=by omega
    rw[this];exact Ap _
  by_cases W:i=m
  ·rw[Ib W,Ia (by omega),Ib (by omega)];exact c _ (by omega) (by omega)
  ·rw[Ia W];by_cases J:m < i∧i≤k
   ·rw[Ib J,Ia (by omega),Ib (by omega)];exact B _ _ (by omega) (by omega)
   ·rw[Ia J];by_cases U:j=m
    ·rw[Ib U];exact b _ (by omega)
    ·rw[Ia U];by_cases O:m < j∧j≤k
     ·rw[Ib O];have hi:i < m:=by omega
      rcases Nat.lt_or_ge i (j - 1)with z | z
      ·exact B _ _ z (by omega)
      ·omega
     ·rw[Ia O];exact B _ _ F (by omega)
theorem aFD:Pm n (eD (ord π) (Co n))∧KS π (eD (ord π) (Co n)) n:=by
 unfold Co;rw[jJ];obtain⟨r,e,a,b,c,d⟩:=aEc hn hπ (p:=(AV n).toArray) (Array.Perm.refl _);rw[e];by_cases z:r.1 < n
 ·rw[Ib z];have B:max r.1 1=r.1:=by omega
  rw[B];exact aDb hn hπ _ _ c (by omega) d
 ·rw[Ia z];have:r.1=n:=by omega
  rw[this]at d;exact⟨c,d⟩
end
theorem xZ{α:Type}{p q:α→Bool}:∀{l:List α},(∀ x∈l,p x=true→q x=true)→(∃ x∈l,q x=true∧p x=false)→l.countP p < l.countP q
 | [],_,h=>by obtain⟨x,z,_⟩:=h;simp at z
 | a :: l,h1,h2=>by
  have le:l.countP p≤l.countP q:=List.countP_mono_left fun x z=>h1 x (AM _ z);rw[List.countP_cons,List.countP_cons];obtain⟨x,z,hq,hp⟩:=h2;rcases Al.mp z with rfl | z
  ·rw[Ib hq,Ia (by rw[hp];simp)];omega
  ·have B:=xZ (fun x z=>h1 x (AM _ z)) ⟨x,z,hq,hp⟩;by_cases ha:p a=true
   ·rw[Ib ha,Ib (h1 a AL ha)];omega
   ·rw[Ia ha];omega
theorem aHm{n:Nat}{o:Nat→Nat→Bool}(Y:∀ i,o i i=false)(W:∀ i j k,o i j=true→o j k=true→o i k=true)(to:∀ i j,i < n→j < n→i≠j→o i j=true∨o j i=true):
  ∃ π:Nat→Nat,(∀ i j,i < n→j < n→o i j=ord π i j)∧∀ i j,i < n→j < n→π i=π j→i=j:=by
 let π:Nat→Nat:=fun i=>(AV n).countP fun k=>o k i
 have J:∀ i j,i < n→j < n→o i j=true→π i < π j:=fun i j hi B h=>xZ (fun x _ U=>W x i j U h) ⟨i,BC.mpr hi,h,Y i⟩;refine⟨π,fun i j hi B=>?_,fun i j hi B e=>?_⟩
 ·cases O:o i j with
  | true=>exact(Ic (J i j hi B O)).symm
  | false=>
   refine(decide_eq_false fun z=>?_).symm;by_cases e:i=j
   ·rw[e]at z;exact Bg _ z
   ·rcases to i j hi B e with y | y
    ·rw[O]at y;cases y
    ·exact Bg _ (DH z (J j i B hi y))
 ·by_cases F:i=j
  ·exact F
  ·rcases to i j hi B F with y | y
   ·have:=J i j hi B y;omega
   ·have:=J j i B hi y;omega
abbrev K3:=Int×Int×Str
def m6(x y:K3):Bool:=if x.1 == y.1 then(if x.2.1 == y.2.1 then(if x.2.2 == y.2.2 then false else decide (x.2.2.cps.toList < y.2.2.cps.toList)) else decide (x.2.1 < y.2.1)) else decide (x.1 < y.1)
theorem aA7(x:K3):m6 x x=false:=by unfold m6;simp
theorem vD(x y:K3):m6 x y=true↔x.1 < y.1∨x.1=y.1∧(x.2.1 < y.2.1∨x.2.1=y.2.1∧x.2.2.cps.toList < y.2.2.cps.toList):=by
 unfold m6;by_cases h1:x.1=y.1
 ·rw[Ib (by simpa using h1)];by_cases h2:x.2.1=y.2.1
  ·rw[Ib (by simpa using h2)];by_cases B:x.2.2=y.2.2
   ·rw[Ib (by simpa using B),B];constructor
    ·intro z;cases z
    ·rintro(z | ⟨_,z | ⟨_,z⟩⟩)
     ·omega
     ·omega
     ·exact absurd z (CI _)
   ·rw[Ia (by simpa using B),decide_eq_true_iff];constructor
    ·intro z;exact .inr ⟨h1,.inr ⟨h2,z⟩⟩
    ·rintro(z | ⟨_,z | ⟨_,z⟩⟩)
     ·omega
     ·omega
     ·exact z
  ·rw[Ia (by simpa using h2),decide_eq_true_iff];constructor
   ·intro z;exact .inr ⟨h1,.inl z⟩
   ·rintro(z | ⟨_,z | ⟨z,_⟩⟩)
    ·omega
    ·exact z
    ·exact absurd z h2
 ·rw[Ia (by simpa using h1),decide_eq_true_iff];constructor
  ·intro z;exact .inl z
  ·rintro(z | ⟨z,_⟩)
   ·exact z
   ·exact absurd z h1
theorem vE{x y z:K3}(h1:m6 x y=true)(h2:m6 y z=true):m6 x z=true:=by
 rw[vD]at h1 h2 ⊢;rcases h1 with a | ⟨a,b | ⟨b,c⟩⟩ <;> rcases h2 with B | ⟨B,J | ⟨J,F⟩⟩
 ·exact .inl (by omega)
 ·exact .inl (by omega)
 ·exact .inl (by omega)
 ·exact .inl (by omega)
 ·exact .inr ⟨by omega,.inl (by omega)⟩
 ·exact .inr ⟨by omega,.inl (by omega)⟩
 ·exact .inl (by omega)
 ·exact .inr ⟨by omega,.inl (by omega)⟩
 ·exact .inr ⟨by omega,.inr ⟨by omega,E7 c F⟩⟩
theorem aCd{x y:K3}(h:x≠y):m6 x y=true∨m6 y x=true:=by
 rw[vD,vD];by_cases h1:x.1=y.1
 ·by_cases h2:x.2.1=y.2.1
  ·have B:x.2.2≠y.2.2:=fun z=>h (GY h1 (GY h2 z));rcases EU (x.2.2.cps.toList < y.2.2.cps.toList)with z | z
   ·exact .inl (.inr ⟨h1,.inr ⟨h2,z⟩⟩)
   ·rcases EU (y.2.2.cps.toList < x.2.2.cps.toList)with z' | z'
    ·exact .inr (.inr ⟨h1.symm,.inr ⟨h2.symm,z'⟩⟩)
    ·exact absurd (sZ (Ez (C7.mp z') (C7.mp z))) B
  ·rcases Int.lt_or_gt_of_ne h2 with z | z
   ·exact .inl (.inr ⟨h1,.inl z⟩)
   ·exact .inr (.inr ⟨h1.symm,.inl z⟩)
 ·rcases Int.lt_or_gt_of_ne h1 with z | z
  ·exact .inl (.inl z)
  ·exact .inr (.inl z)
abbrev k0:K3:=(0,0,"")
def z9(kk:List K3)(p:List Nat):Prop:=p.Perm (AV kk.length)∧(kk.Nodup→(p.map fun i=>kk.getD i k0).Pairwise fun a b=>m6 a b=true)
theorem aFE{kk:List K3}(h:0 < kk.length):z9 kk (eD (fun i j=>m6 (kk.getD i k0) (kk.getD j k0)) (Co kk.length)).toList:=by
 refine⟨D9.mp (iV.run _ (jH h)),fun hn=>?_⟩;have ne:∀ i j,i < kk.length→j < kk.length→i≠j→kk.getD i k0≠kk.getD j k0:=fun i j hi B z e=>by
  rw[Aw,Aw,Ag hi,Ag B]at e;exact z ((CK hn).mp e)
 obtain⟨π,h1,h2⟩:=aHm (n:=kk.length) (o:=fun i j=>m6 (kk.getD i k0) (kk.getD j k0)) (fun i=>aA7 _) (fun i j k=>vE) (fun i j hi B z=>aCd (ne i j hi B z));have e:eD (fun i j=>m6 (kk.getD i k0) (kk.getD j k0)) (Co kk.length)=eD (ord π) (Co kk.length):=o7 (n:=kk.length) (P:=Pm kk.length) h1 (jH h);rw[e];obtain⟨hP,hS⟩:=aFD h h2;have hz:=hP.size;rw[Eh];intro i j hi B z;have U:i < kk.length:=by simpa[hz]using hi
 have F:j < kk.length:=by simpa[hz]using B
 have:=hS i j z F;have O:(eD (ord π) (Co kk.length)).getD i 0=(eD (ord π) (Co kk.length)).toList[i]'(by simpa using(by omega:i < (eD (ord π) (Co kk.length)).size)):=by rw[p3 (B8 (by omega))];simp
 have J:(eD (ord π) (Co kk.length)).getD j 0=(eD (ord π) (Co kk.length)).toList[j]'(by simpa using(by omega:j < (eD (ord π) (Co kk.length)).size)):=by rw[p3 (B8 (by omega))];simp
 rw[CJ,CJ,← O,← J];rw[h1 _ _ (hP.lt h i) (hP.lt h j)];exact Ic this
inductive aFF(h:A4)(v:Ab)(k:K3):Prop
 | mk (t:_) (u1:_) (u2:_) (u3:_) (q0:v=.ref t) (q1:Eu h t #[.int k.1 u1,.int k.2.1 u2,.str k.2.2 u3]):aFF h v k
def aCe(h:A4)(v:Ab)(k:K3):Prop:=aFF h v k
theorem aCe.weak{h:A4}{v:Ab}{k:K3}(x:aCe h v k):aKp h v:=by
 obtain⟨t,u1,u2,u3,e,ht⟩:=x;exact⟨t,k.1,k.2.1,k.2.2,u1,u2,u3,e,ht⟩
section
variable{prog:Ay}{w:AS}{A:AN}{E:Ab→Ad→Prop}{s:Ad}
theorem aLf{z:Bool}{Z W:Ab}{x y:K3}{C:Bool→Ad→Prop}(J:aCe s.heap Z x)(O:aCe s.heap W y)(h:C (m6 x y) s):wpAny (model prog w) A (keyLt' (tuples' z) Z W) C E s:=by
 obtain⟨a1,b1,c1⟩:=x;obtain⟨a2,b2,c2⟩:=y;obtain⟨p1,t1,t2,t3,rfl,J⟩:=J;obtain⟨p2,u1,u2,u3,rfl,O⟩:=O;dsimp only at J O;unfold m6 at h;dsimp only at h;show wpAny _ _ (CD (.ref p1) >>= _) _ _ _;refine Aa (jI J ?_);refine Aa (jI O ?_);dsimp only[List.zip_cons_cons,List.zipIdx_cons,List.zip_nil_left];rw[List.zipIdx_nil];have Y:∀{Q:Bool→Ad→Prop} {a b:Int} {t u:Tok},Q (a == b) s→wpAny (model prog w) A (eqBool (.int a t) (.int b u)) Q E s:=fun{Q a b t u} q=>zM (y:=.int a) (x:=.int b) ⟨t,rfl⟩ ⟨u,rfl⟩ rfl rfl prog w _ _ q;have e2:∀{Q:Bool→Ad→Prop} {a b:Str} {t u:Tok},Q (a == b) s→wpAny (model prog w) A (eqBool (.str a t) (.str b u)) Q E s:=fun{Q a b t u} q=>DY a t b u prog w _ _ q;refine Aa ?_;rw[Cu];refine Aa (Aa (Y ?_));cases hz:(a1 == a2)with
 | false=>
  rw[hz]at h;refine BH (by decide) ?_;refine Aa ?_;show wpAny _ _ (oneLt' (z && 0 == 0) (B5 a1 t1) (B5 a2 u1)) _ _ _;cases z
  ·exact zY (Af (Af (Af h)))
  ·exact oneLt_int (Af (Af (Af h)))
 | true=>
  rw[hz,Ib rfl]at h;refine AC (by decide) (Af ?_);dsimp only;rw[Cu];refine Aa (Aa (Y ?_));cases F:(b1 == b2)with
  | false=>
   rw[F]at h;refine BH (by decide) ?_;refine Aa ?_;have U:(z && ((0 + 1:Nat) == 0))=false:=by cases z <;> rfl
   show wpAny _ _ (oneLt' (z && (0 + 1 == 0)) (B5 b1 t2) (B5 b2 u2)) _ _ _;rw[U];exact zY (Af (Af (Af h)))
  | true=>
   rw[F,Ib rfl]at h;refine AC (by decide) (Af ?_);dsimp only;rw[Cu];refine Aa (Aa (e2 ?_));cases B:(c1 == c2)with
   | false=>
    rw[B]at h;refine BH (by decide) ?_;refine Aa ?_;have U:(z && ((0 + 1 + 1:Nat) == 0))=false:=by cases z <;> rfl
    show wpAny _ _ (oneLt' (z && (0 + 1 + 1 == 0)) (BA c1 t3) (BA c2 u3)) _ _ _;rw[U];exact zZ (Af (Af (Af h)))
   | true=>
    rw[B,Ib rfl]at h;refine AC (by decide) (Af ?_);dsimp only;rw[FS];exact Af (Af h)
theorem vF{ks its:List Ab}(z:ks.length=its.length)(i:Nat):FF (ks.toArray.zip its.toArray) i=(ks.getD i .none,its.getD i .none):=by
 unfold FF;by_cases h:i < ks.length
 ·have hz:i < (ks.toArray.zip its.toArray).size:=by simp[z];omega
  rw[Bv,B8 hz,Aw,Aw,Ag h,Ag (by omega)];simp
 ·have hz:¬ i < (ks.toArray.zip its.toArray).size:=by simp[z];omega
  rw[Bv,Array.getElem?_eq_none (by omega),Aw,Aw,A0 (by omega),A0 (by omega)];rfl
theorem aKw{b:Bool}{ks its:List Ab}{kk:List K3}{Q:Unit×Fg→Ad→Prop}(F:ks.length=its.length)(O:kk.length=its.length)(h2:2≤its.length)(J:its.length < 64)(W:∀ i,i < its.length→aCe s.heap (ks.getD i .none) (kk.getD i k0))
  (h:∀(st:Fg) (p:List Nat),z9 kk p→(arrOf st).map (·.2)=(p.map fun i=>its.getD i .none).toArray→failedOf st=none→Q ((),st) s):wpAny (model prog w) A (sortRuns'.run (Fx (tuples' b) (ks.toArray.zip its.toArray) #[] 7 none)) Q E s:=by
 have hz:(ks.toArray.zip its.toArray).size=its.length:=by simp[F]
 have B:=kas_runs (prog:=prog) (w:=w) (A:=A) (E:=E) (κ:=tuples' b) (it:=ks.toArray.zip its.toArray) (n:=its.length) (s:=s) (Q:=fun u st s'=>s'=s∧Q (u,st) s) (G:=fun p s'=>p=eD (fun i j=>m6 (kk.getD i k0) (kk.getD j k0)) (Co its.length)∧s'=s) h2 J (fun p' U s' ae ha Z hG=>?_)
  (iV.wpO (n:=its.length) (P:=Pm its.length) (o:=fun i j=>m6 (kk.getD i k0) (kk.getD j k0)) (fun i j C hi hj hC=>?_) (jH (by omega)) ⟨rfl,rfl⟩)
 ·have e1:kas_st (tuples' b) (ks.toArray.zip its.toArray) (AV its.length).toArray=Fx (tuples' b) (ks.toArray.zip its.toArray) #[] 7 none:=by
   unfold kas_st;have:=kas_range (ks.toArray.zip its.toArray);rw[hz]at this;rw[this]
  rw[e1]at B;exact BG B (fun r s' z=>by
   obtain⟨rfl,q⟩:=z;exact q) fun e s' z=>z
 ·obtain⟨rfl,rfl⟩:=hG;have Y:=aFE (kk:=kk) (by omega);rw[O]at Y;refine⟨rfl,h U _ Y ?_ Z⟩;rw[ha];apply DP.mp;rw[Array.map_map,Fn];show _=Gb _ _;refine D2 fun i _=>?_;show(FF (ks.toArray.zip its.toArray) i).2=_;rw[vF F]
 ·unfold kas_cmp;rw[vF F,vF F];exact aLf (W i hi) (W j hj) hC
end
section
variable{prog:Ay}{w:AS}{A:AN}{E:Ab→Ad→Prop}{s:Ad}
theorem aLg{a kS:Ac}{ks its:List Ab}{kk:List K3}{e e1:Nat}{P:Gv→Ad→Prop}(ha:s.heap.get? a=some (seqObj "list" #[] e1))(hk:s.heap.get? kS=some (seqObj "list" ks.toArray e))(ad:a≠kS)(hl:ks.length=its.length)(U:its.length < 64)(W:kk.length=its.length)(hK:∀ i,i < its.length→aCe s.heap (ks.getD i .none) (kk.getD i k0))
  (h:∀ p:List Nat,z9 kk p→P (Fin.done (GZ B4)) { s with heap:=(s.heap.update kS (Bp fun _=>#[])).update a (Bp fun _=>(p.map fun i=>its.getD i .none).toArray) }):wpAny (model prog w) A (ksk_end a false its.toArray e1 (.ref kS) ks.toArray) P E s:=by
 have z:∀ n:Nat,n < 64→n≤sizeLine:=fun n hn=>aS (by omega);have J:(ks.toArray.zip its.toArray).size=its.length:=by simp[hl]
 have Y:∀(st:Fg) (p:List Nat),z9 kk p→(arrOf st).map (·.2)=(p.map fun i=>its.getD i .none).toArray→failedOf st=none→wpAny (model prog w) A (ksk_tail a false e1 (.ref kS) st) P E s:=fun st p Z F hf=>by
  have ac:=Z.1.length_eq;rw[B7]at ac;have ae:(arrOf st).size=its.length:=by
   have h1:((arrOf st).map (·.2)).size=(arrOf st).size:=Array.size_map ..
   have h2:(p.map fun i=>its.getD i B4).toArray.size=p.length:=by simp
   rw[F]at h1;omega
  refine aKr ha hk ad (by rw[Ar];exact z _ (by omega)) (by rw[ae];exact z _ U) hf ?_;rw[F];exact h p Z
 unfold ksk_end;dsimp only;by_cases h2:its.length < 2
 ·have B:its.toArray.size < 2:=by simpa using h2
  rw[Ia AD,Ib B];refine Aa (Af ?_);rw[Ib B,Ia AD];refine Aa (Af ?_);refine Y _ (AV its.length) ⟨by rw[W],fun _=>?_⟩ ?_ rfl
  ·rw[Eh];intro i j hi O aj;simp at hi O;omega
  ·show(ks.toArray.zip its.toArray).map (·.2)=_
   apply DP.mp;rw[Fn,Array.toList_zip];show Gb Prod.snd (ks.zip its)=_;rw[List.map_snd_zip (by omega)];apply CB;intro j;rw[AK];by_cases O:j < its.length
   ·rw[Dk O,Ag O];simp[O]
   ·rw[A0 (by omega),A0 (by simpa using O)];rfl
 ·have B:¬ its.toArray.size < 2:=by simpa using h2
  rw[Ia AD,Ia B];refine Aa (aKq (fun v hv=>?_) fun b=>?_)
  ·obtain⟨i,hi,rfl⟩:=DZ.mp hv;have:=(hK i (by omega)).weak;rw[Aw,Ag hi]at this;exact this
  rw[Ia B,Ia AD];exact Aa (aKw hl W (by omega) U hK fun st p Z F hf=>Y st p Z F hf)
end
section
variable{X:Cx}{dh:List (Ac×Obj)}{σ:St}
inductive aDc(H:Hp)(v:Ab)(k:K3):Prop
 | mk (t:_) (q0:v=.ref t) (q1:H t=some (.tup [.int k.1,.int k.2.1,.str k.2.2])):aDc H v k
def aFG(H:Hp)(v:Ab)(k:K3):Prop:=aDc H v k
theorem aFG.real{H:Hp}{s:Ad}{v:Ab}{k:K3}(I:Inv X dh σ H s)(h:aFG H v k):aCe s.heap v k:=by
 obtain⟨t,rfl,ht⟩:=h;obtain⟨_,its,z,hT⟩:c5 X.prog X.w H s.heap t (.tup [.int k.1,.int k.2.1,.str k.2.2]):=I.hok _ _ ht;cases z with
 | cons F z=>
  cases z with
  | cons B z=>
   cases z with
   | cons J z=>
    cases z;obtain⟨u1,e1⟩:=F;obtain⟨u2,e2⟩:=B;obtain⟨u3,e3⟩:=J;subst e1 e2 e3;exact⟨t,u1,u2,u3,rfl,hT⟩
structure KsX(KR:V→K3→Prop)(H:Hp)(xd:List V)(ks:List Ab)(kk:List K3):Prop where
 len:ks.length=xd.length∧kk.length=xd.length
 key:∀ i,i < xd.length→aFG H (ks.getD i .none) (kk.getD i k0)
 kr:∀ i,i < xd.length→KR (xd.getD i .non) (kk.getD i k0)
theorem KsX.nil{KR:V→K3→Prop}{H:Hp}:KsX KR H [] [] []:=⟨⟨rfl,rfl⟩,fun i hi=>by simp at hi,fun i hi=>by simp at hi⟩
theorem KsX.same{KR:V→K3→Prop}{H H':Hp}{xd:List V}{ks:List Ab}{kk:List K3}(h:KsX KR H xd ks kk)(s:bJ H H'):KsX KR H' xd ks kk:=
 ⟨h.len,fun i hi=>by obtain⟨t,e,ht⟩:=h.key i hi;exact⟨t,e,s _ _ ht⟩,h.kr⟩
theorem n6{α:Type}(l:List α)(x d:α)(i:Nat):(l ++ [x]).getD i d=if i < l.length then l.getD i d else if i=l.length then x else d:=by
 rw[Aw,Aw];by_cases h:i < l.length
 ·rw[Ib h,Di h]
 ·rw[Ia h,Da (by omega)];by_cases h2:i=l.length
  ·rw[Ib h2,h2];simp
  ·rw[Ia h2,A0 (by simp;omega)];rfl
theorem KsX.snoc{KR:V→K3→Prop}{H:Hp}{xd:List V}{ks:List Ab}{kk:List K3}{y:V}{a b:Int}{c:Str}{t:Ac}(h:KsX KR H xd ks kk)(z:KR y (a,b,c))(ht:H t=some (.tup [.int a,.int b,.str c])):KsX KR H (xd ++ [y]) (ks ++ [AJ t]) (kk ++ [(a,b,c)]):=by
 obtain⟨l1,l2⟩:=h.len;refine⟨⟨by simp[l1],by simp[l2]⟩,fun i hi=>?_,fun i hi=>?_⟩
 ·rw[n6,n6,l1,l2];by_cases h1:i < xd.length
  ·rw[Ib h1,Ib h1];exact h.key i h1
  ·have:i=xd.length:=by simp at hi;omega
   rw[Ia h1,Ia h1,Ib this,Ib this];exact⟨t,rfl,ht⟩
 ·rw[n6,n6,l2];by_cases h1:i < xd.length
  ·rw[Ib h1,Ib h1];exact h.kr i h1
  ·have:i=xd.length:=by simp at hi;omega
   rw[Ia h1,Ia h1,Ib this,Ib this];exact z
theorem aEd{k:Nat}{f:Ac}{fd:AE}{x:Str}{sp:Sp}{A':AN}{E:Ab→Ad→Prop}(F:cH X.prog X.w X.K X.mg X.base CX0 k f fd [x] sp)(hr:cY k A')(hA:A'.frames=some X.stack)(hb:c8 X.K fd [x] [])
  {D kS:Ac} {H0:Hp} {e1:Nat} {xs:List V} {KR:V→K3→Prop} (fD:∀ H',H' D=none→m5 X dh H' D) (fK:∀ H',H' kS=none→m5 X dh H' kS) (ar:D≠kS)
  (ag:∀ y∈xs,∀(H':Hp) (Q:VK),bJ H0 H'→(∀ t a b c B,bJ H' B→B t=some (.tup [.int a,.int b,.str c])→KR y (a,b,c)→Q (.ref t) B)→sp [y] H' Q E0) {er:Ab→Ab→Sem (ForInStep PUnit)} {Q:Ad→Prop}
  {O:Ab→PUnit→Sem (ForInStep PUnit)} (Z:∀ v u,O v u=(do
   let r ← (call (.ref f) [v]).attempt
   match r with
   | Except.ok k=>do
    D7 (.ref kS) fun x=>x.push k
    pure (Cp Gh)
   | Except.error e=>er v e)):
  ∀(cI:List Ab) (xr:List V) (s:Ad) (H:Hp) (ks:List Ab) (kk:List K3) (xd:List V) (e:Nat),cZ xr cI→(∀ y∈xr,y∈xs)→Inv X dh σ H s→bJ H0 H→H D=none→H kS=none→s.heap.get? D=some (seqObj "list" #[] e1)→s.heap.get? kS=some (seqObj "list" ks.toArray e)→KsX KR H xd ks kk→ks.length + cI.length < 64→
   (∀(s':Ad) (H':Hp) (Y:List Ab) (am:List K3) (e':Nat),Inv X dh σ H' s'→bJ H0 H'→H' D=none→H' kS=none→s'.heap.get? D=some (seqObj "list" #[] e1)→s'.heap.get? kS=some (seqObj "list" Y.toArray e')→KsX KR H' (xd ++ xr) Y am→Y.length=ks.length + cI.length→Q s')→
   wpAny (model X.prog X.w) A' (forIn cI Gh O) (fun _ s'=>Q s') E s:=by
 intro cI
 induction cI with
 | nil=>
  intro xr s H ks kk xd e r J I S hD hK gD gK hk aa q;rw[FS];cases r;exact Af (q s H ks kk e I S hD hK gD gK (by rw[Cv];exact hk) rfl)
 | cons v cI ih=>
  intro xr s H ks kk xd e r J I S hD hK gD gK hk aa q;rw[A1]at aa;cases r with
  | @cons y _ ao _ r1 r2=>
  rw[Cu,Z];refine Aa (Aa (Dv ?_));have I3:Inv X ((D,seqObj "list" #[] e1) :: (kS,seqObj "list" ks.toArray e) :: dh) σ H s:=I.pins_of fun p U=>by
   rcases Al.mp U with z | U
   ·subst z;exact⟨gD,hD,(fD H hD).2.1,(fD H hD).2.2.1,fun v z=>by cases z⟩
   ·rcases Al.mp U with z | U
    ·subst z;exact⟨gK,hK,(fK H hK).2.1,(fK H hK).2.2.1,fun v z=>by cases z⟩
    ·exact I.pin p (AZ _ U)
  have e0:zI X.prog X.w X.K X.mg X.base A' X.stack s H:=⟨hA,I.env0.mod,I.env0.bs,I.env0.bsz,I.env0.funs,I.env0.frf,I.env0.hok,I.env0.bare⟩
  refine CM (Cq (F.run A' X.stack s H ⟨[v],[]⟩ [v] [y] (fun u B=>∃ t a b c,u=.ref t∧B t=some (.tup [.int a,.int b,.str c])∧bJ H B∧KR y (a,b,c)) E0 hr e0 (hb s [v] I.kIn rfl) (.cons r1 .nil)
   (ag y (J y AL) H _ S fun t a b c B s2 h2 W=>⟨t,a,b,c,rfl,h2,s2,W⟩)) fun r s' hq=>?_)
  cases r with
  | error e=>exact Bz hq
  | ok fl=>
   cases fl with
   | next=>exact Bz hq
   | brk=>exact Bz hq
   | cont=>exact Bz hq
   | ret u=>
    obtain⟨vv,H',I',r',t,a,b,c,rfl,ht,S',W⟩:=I3.after hq;cases r';obtain⟨gD',hD',_⟩:=I'.pin (D,seqObj "list" #[] e1) (AZ _ AL);obtain⟨gK',hK',_⟩:=I'.pin (kS,seqObj "list" ks.toArray e) (AZ _ (AM _ AL));have I4:Inv X dh σ H' s':=I'.pins_of fun p U=>I'.pin p (AZ _ (AM _ (AM _ U)));refine Aa (Dx gK' rfl ?_ (aS (by rw[Ar];omega)) (by rw[Array.size_push,Ar];exact Nat.le_succ_of_le (aS (by omega))));refine Af ?_;have ah:=get?_update_seq gK' (fun x=>x.push (.ref t));have ep:(ks.toArray.push (.ref t))=(ks ++ [AJ t]).toArray:=by simp
    rw[ep]at ah;have I5:Inv X dh σ H' { s' with heap:=s'.heap.update kS (Bp fun x=>x.push (.ref t)) }:=I4.turnedL (t':=s'.toks) (fp:=[kS]) (fun b o hb e=>by
     rw[BE _ _ _ _ (fun z=>hb (by simp[z]))];exact e) fun b hb=>by
      rw[Bx.mp hb];exact fK H' hK'
    refine ih ao _ H' (ks ++ [AJ t]) (kk ++ [(a,b,c)]) (xd ++ [y]) _ r2 (fun y hy=>J y (AM _ hy)) I5 (S.trans S') hD' hK' ?_ ah ((hk.same S').snoc W ht) (by rw[Av,EI];omega) fun an B ae ai ap a1 a2 a3 a4 a5 a6 a7 a8=>?_
    ·show(s'.heap.update kS _).get? D=_;rw[BE _ _ _ _ ar];exact gD'
    ·refine q an B ae ai ap a1 a2 a3 a4 a5 a6 ?_ (by rw[a8,Av,EI,A1];omega);rw[DC]at a7;exact a7
end
section
variable{X:Cx}{dh:List (Ac×Obj)}{σ:St}{H:Hp}{s:Ad}
theorem vG{k:Nat}{f l:Ac}{fd:AE}{x:Str}{sp:Sp}{xs:List V}{its:List Ab}{KR:V→K3→Prop}{Q:VK}{E:Ab→Ad→Prop}(F:cH X.prog X.w X.K X.mg X.base CX0 k f fd [x] sp)(hr:cY (k + 2) X.A)(hb:c8 X.K fd [x] [])
  (I:Inv X dh σ H s) (rv:cZ xs its) (ao:∀(B:AN) (Q':List Ab→Ad→Prop) (E':Ab→Ad→Prop),B.handled=none→(∀(h1:A4) (tk:Nat),(∀ b u,s.heap.get? b=some u→h1.get? b=some u)→s.heap.objs.size≤h1.objs.size→Q' its { s with heap:=h1,toks:=tk })→wpAny (model X.prog X.w) B (collect (.ref l)) Q' E' s) (ba:xs.length < 64)
  (ar:∀ y∈xs,∀(H':Hp) (Q:VK),bJ H H'→(∀ t a b c af,bJ H' af→af t=some (.tup [.int a,.int b,.str c])→KR y (a,b,c)→Q (.ref t) af)→sp [y] H' Q E0)
  (q:∀ D (kk:List K3) (p:List Nat) H',bJ H H'→H D=none→kk.length=xs.length→(∀ i,i < xs.length→KR (xs.getD i .non) (kk.getD i k0))→z9 kk p→H' D=some (.lst (p.map fun i=>xs.getD i .non))→Q (.ref D) H'):
  wpAny (model X.prog X.w) X.A (call (.builtin "sorted") [.ref l] [(Bh "key",.ref f)]) (EP X dh σ Q) E s:=by
 have aM:=rv.length;have zz:its.length≤sizeLine:=aS (by omega);refine call_function_entry_kw GE Gm Gr (ksk_s1 _ _) ?_;refine Aa (Af ?_);refine Aa (ao _ _ _ hr.hd fun h1 tk ap an=>?_);refine Aa (EE ?_ zz);dsimp only;obtain⟨D,hD⟩:∃ D,D=h1.objs.size:=⟨_,rfl⟩
 have J:(h1.push (seqObj "list" its.toArray 0)).get? D=some (seqObj "list" its.toArray 0):=by
  rw[hD];exact Ax _ rfl
 have aa:∀ b o,s.heap.get? b=some o→(h1.push (seqObj "list" its.toArray 0)).get? b=some o:=fun b o e=>Ai _ (ap b o e);have Z:(h1.push (seqObj "list" its.toArray 0)).objs.size=D + 1:=by rw[size_push',hD]
 change wpAny _ _ (do let _ ← holding [AJ h1.objs.size] (call (.builtin "list.sort") [AJ h1.objs.size] [(Bh "key",.ref f)]);ret (AJ h1.objs.size)) _ _ { s with heap:=h1.push (seqObj "list" its.toArray 0),toks:=tk };rw[← hD];generalize h1.push (seqObj "list" its.toArray 0)=h2 at J aa Z ⊢;have ae:s.heap.objs.size≤D:=by rw[hD];exact an
 refine Aa (Be (wpAny_call_entry_kw slot_list_sort ⟨_,J,rfl⟩ entry_list_sort ?_ (ksk_l1 _ _)));rw[ksk_t1];unfold ksk_tree;refine Aa (EM J rfl ?_);refine Aa (Dx J rfl ?_ (by rw[Ar];exact zz) (Bu _));have O:=get?_update_seq J (fun _=>#[]);generalize (if ((#[]:Array Ab).size == its.toArray.size)=true then 0 else 0 + 1)=e1 at O;have Y:∀ b o,s.heap.get? b=some o→(h2.update D (Bp fun _=>#[])).get? b=some o:=fun b o e=>by
  rw[BE _ _ _ _ (AB (AI (Aq e) ae))];exact aa b o e
 have ad:(h2.update D (Bp fun _=>#[])).objs.size=D + 1:=by rw[Heap.size_update,Z]
 dsimp only;generalize h2.update D (Bp fun _=>#[])=h3 at O Y ad ⊢;refine Aa (FY O rfl ?_);refine Aa (F7 ?_ (by simpa using zz));refine Aa (EE ?_ (Bu _));dsimp only;refine Be ?_;obtain⟨kS,hkS⟩:∃ kS,kS=(h3.push { cls:=AW "tuple",data:=CL its.toArray.toList.toArray }).objs.size:=⟨_,rfl⟩
 have av:((h3.push { cls:=AW "tuple",data:=CL its.toArray.toList.toArray }).push { cls:=AW "list",data:=CL ([]:List Ab).toArray }).get? kS=some (seqObj "list" ([]:List Ab).toArray 0):=by
  rw[hkS];exact Ax _ rfl
 have au:((h3.push { cls:=AW "tuple",data:=CL its.toArray.toList.toArray }).push { cls:=AW "list",data:=CL ([]:List Ab).toArray }).get? D=some (seqObj "list" #[] e1):=Ai _ (Ai _ O);have W:∀ b o,s.heap.get? b=some o→((h3.push { cls:=AW "tuple",data:=CL its.toArray.toList.toArray }).push { cls:=AW "list",data:=CL ([]:List Ab).toArray }).get? b=some o:=fun b o e=>Ai _ (Ai _ (Y b o e));have ac:kS=D + 2:=by rw[hkS,BZ,ad]
 rw[← hkS];generalize (h3.push { cls:=AW "tuple",data:=CL its.toArray.toList.toArray }).push { cls:=AW "list",data:=CL ([]:List Ab).toArray }=h4 at av au W ⊢;have ag:D≠kS:=AB (by rw[ac];exact Br (BL _));have I4:Inv X dh σ H { s with heap:=h4,toks:=tk }:=I.kept (t':=tk) W;have lD:s.heap.objs.size≤D:=ae;have lK:s.heap.objs.size≤kS:=by rw[ac];exact Ba ae (Nat.le_add_right _ _)
 have nD:H D=none:=I.hok.fresh lD;have nK:H kS=none:=I.hok.fresh lK;have fD:∀ H',H' D=none→m5 X dh H' D:=fun H' hn=>I.fpOk lD hn;have fK:∀ H',H' kS=none→m5 X dh H' kS:=fun H' hn=>I.fpOk lK hn;unfold ksk_rest;refine Aa (Eo ?_);refine Aa ?_;rw[← Array.forIn_toList];have ax:cY k X.A.in1.in1:=(hr.in1).in1;refine aEd (KR:=KR) (X:=X) (dh:=dh) (σ:=σ) (A':=X.A.in1.in1) F ax I.ok.frames hb (D:=D) (kS:=kS) (H0:=H) (e1:=e1) (xs:=xs) fD fK ag ar (er:=fun v e=>do
     rule "list.sort.key-raised"
     let ak ← CD (.ref kS)
     D7 (.ref kS) fun x=>#[]
     letGo ak.toList.reverse [e]
     D7 (AJ D) fun x=>its.toArray
     throw e
     pure (Cp Gh)) (fun v u=>by congr 1) its xs _ H [] [] [] 0 rv (fun y hy=>hy) I4 (bJ.refl H) nD nK au av KsX.nil (by simp;omega) ?_
 intro s' H' ks kk e' I' S ah ay aq am U bh;rw[FA]at U;obtain⟨z1,z2⟩:=U.len;refine Aa (EM am rfl ?_);refine aLg (kk:=kk) aq am ag (by omega) (by omega) (by omega) (fun i hi=>(U.key i (by omega)).real I') fun p ho=>?_;refine⟨_,rfl,Af ⟨_,rfl,?_⟩⟩;have az:∀ i∈p,i < xs.length:=fun i hi=>by
  have:=ho.1.mem_iff.mp hi;rw[BC]at this;omega
 have aB:=qO rv p az;have I6:Inv X dh σ H' { s' with heap:=(s'.heap.update kS (Bp fun _=>#[])).update D (Bp fun _=>(p.map fun i=>its.getD i .none).toArray) }:=I'.turnedL (t':=s'.toks) (fp:=[kS,D]) (fun b o hb e=>by
  rw[BE _ _ _ _ (fun z=>hb (by simp[z])),BE _ _ _ _ (fun z=>hb (by simp[z]))];exact e) fun b hb=>by
   simp only[Al,Ao,or_false]at hb;rcases hb with rfl | rfl
   ·exact fK H' ay
   ·exact fD H' ah
 have aA:((s'.heap.update kS (Bp fun _=>#[])).update D (Bp fun _=>(p.map fun i=>its.getD i .none).toArray)).get? D=_:=get?_update_seq (c:="list") (xs:=#[]) (n:=e1) (by
  rw[BE _ _ _ _ ag];exact aq) fun _=>(p.map fun i=>its.getD i .none).toArray
 have aD:=ho.1.length_eq;rw[B7]at aD;have aE:(p.map fun i=>xs.getD i V.non).length≤sizeLine:=aS (by rw[Ae];omega);exact⟨.ref D,_,I6.track (ob:=.lst (p.map fun i=>xs.getD i .non)) (fD H' ah) ⟨aE,_,_,aB,aA⟩,rfl,q D kk p _ (S.trans (aQ ah)) nD (by omega) (fun i hi=>U.kr i hi) ho aH⟩
end
section
variable{X:Cx}{dh:List (Ac×Obj)}{σ:St}{H:Hp}{s:Ad}{a:Ac}{di:List (Key×V)}{k:Key}{u r:Ab}{A:AN}{E:Ab→Ad→Prop}
end
section
variable{X:Cx}{o e f:Bc}{ff ee:Pos}{td ty tx:TE}
end
def aIr(v d:Ac):HO:=.ext fun h=>h.IsValuesView v d
section
variable{X:Cx}{o:Bc}{ff ee:Pos}{td:TE}
end
section
variable{prog:Ay}{w:AS}{A:AN}{v d:Ac}{vs:List (Key×Ab)}
theorem vH(hh:A.handled=none){E:Ab→Ad→Prop}{s:Ad}{Q:List Ab→Ad→Prop}(hv:s.heap.IsValuesView v d)(hm:s.heap.DictOf (dE prog w) d vs)(hz:vs.length≤1000)
  (h:∀(h':A4) (tk:Nat),(∀ b u,s.heap.get? b=some u→h'.get? b=some u)→s.heap.objs.size≤h'.objs.size→Q (vs.map (·.2)) { s with heap:=h',toks:=tk }):wpAny (model prog w) A (collect (.ref v)) Q E s:=by
 obtain⟨ov,hov,hcv,hdv⟩:=id hv;obtain⟨od,es,ep,hod,hrest⟩:=id hm;have an:=Aq hov;have aa:=Aq hod;unfold collect;apply Aa;apply En;apply BR ET;rw[BO ES];show wpAny _ A.in1 (newList [] >>= fun l=>again (.builtin "list.__iadd__" ⟨[l,.ref v],[]⟩)) _ _ s;apply Aa;refine BI (Af ⟨Dw Dc _,BR Fw ?_⟩);rw[BO Dc];have ac:(s.heap.push { cls:=.type "list",data:=.seq ([]:List Ab).toArray }).get? v=some ov:=Ai _ hov;have ai:(s.heap.push { cls:=.type "list",data:=.seq ([]:List Ab).toArray }).get? d=some od:=Ai _ hod;have au:(s.heap.push { cls:=.type "list",data:=.seq ([]:List Ab).toArray }).get? s.heap.objs.size=some { cls:=.type "list",data:=.seq ([]:List Ab).toArray }:=Ax _ rfl;have e1:Builtin.List.listSameRef (.ref s.heap.objs.size) (.ref v)=false:=by
  show(s.heap.objs.size == v)=false;simpa using CP an
 show wpAny _ A.in1 (BY (.ref s.heap.objs.size) (.ref v) (.ref s.heap.objs.size)) _ _ _;unfold BY;refine Aa (BU (T:="dict_values") ⟨ov,ac,hcv⟩ ?_);rw[Ia (by rw[e1];decide)];refine Aa (wpAny_pyIter_values (kvs:=vs) (ep:=ep) (knd:=dE prog w) ⟨ov,ac,hcv,hdv⟩ ⟨od,es,ai,hrest⟩ ?_);have ao:(s.heap.push { cls:=.type "list",data:=.seq ([]:List Ab).toArray }).objs.size=s.heap.objs.size + 1:=BZ _ _;obtain⟨I,hI⟩:∃ I,I=(s.heap.push { cls:=.type "list",data:=.seq ([]:List Ab).toArray }).objs.size:=⟨_,rfl⟩
 dsimp only;have gI:((s.heap.push { cls:=.type "list",data:=.seq ([]:List Ab).toArray }).push { cls:=.type "dict_valueiterator",data:=.fields #[.ref d,.int 0 0,.int vs.length 0,.int ep 0] }).get? I=some { cls:=.type "dict_valueiterator",data:=.fields #[.ref d,.int 0 0,.int vs.length 0,.int ep 0] }:=by
  rw[hI];exact Ax _ rfl
 have z:∀ b u,(s.heap.push { cls:=.type "list",data:=.seq ([]:List Ab).toArray }).get? b=some u→((s.heap.push { cls:=.type "list",data:=.seq ([]:List Ab).toArray }).push { cls:=.type "dict_valueiterator",data:=.fields #[.ref d,.int 0 0,.int vs.length 0,.int ep 0] }).get? b=some u:=fun b u e=>Ai _ e;rw[← hI];generalize (s.heap.push { cls:=.type "list",data:=.seq ([]:List Ab).toArray }).push { cls:=.type "dict_valueiterator",data:=.fields #[.ref d,.int 0 0,.int vs.length 0,.int ep 0] }=h2 at gI z ⊢;have Y:=z _ _ ac;have ar:=z _ _ ai;have ad:=z _ _ au;have O:I=s.heap.objs.size + 1:=by rw[hI,ao]
 refine Aa (Be ?_);unfold Builtin.List.listLengthHint;refine Aa (Ec (T:="dict_values") ⟨ov,Y,hcv⟩ F.slot_dict_values_len.lookup ?_);generalize hid:("dict_values.__len__":String)=ak
 wp_delta
 rw[show splitId ak=some ("dict_values","__len__") from by subst hid;decide];subst hid;refine Aa (B2 (b:=true) (T:="dict_values") ⟨ov,Y,hcv⟩ (by rw[F8];kernel_rfl) ?_);refine AC (by rfl) ?_;refine BH (by decide) ?_;refine Aa (BU (T:="dict_values") ⟨ov,Y,hcv⟩ ?_);refine Af ?_;refine BH (by decide) ?_;refine Aa (Eo ?_);have aq:d≠I:=by rw[O];exact AB (Br aa)
 have aj:s.heap.objs.size ∉ [I,d]:=by
  rw[O];simp only[Al,Ao,or_false,not_or];exact⟨AB (BL _),CP aa⟩
 apply Aa;show wpAny _ A.in1 (updateSeq s.heap.objs.size (·.push .none) >>= fun _=>updateSeq s.heap.objs.size (·.pop)) _ _ _
 apply Aa;refine EV ad rfl ?_;have ae:=BN (Bp (·.push B4)) ad rfl
 refine EV ae rfl ?_;have av:=BN (Bp (·.pop)) ae rfl
 have Z:∀ b u,b≠s.heap.objs.size→h2.get? b=some u→((h2.update s.heap.objs.size (Bp (·.push B4))).update s.heap.objs.size (Bp (·.pop))).get? b=some u:=
  fun b u nb e=>(Ck _ _ (DL nb)).trans ((Ck _ _ (DL nb)).trans e)
 have W:=Walks.dictValues (prog:=prog) (w:=w) (knd:=dE prog w) (A:=A.in1) hh I d aq vs ep;have am:I≠s.heap.objs.size:=by rw[O];exact CP (BL _)
 refine Af ⟨Dw F.plain_extend_loop _,codeAny_extend_loopS (FZ W) (aS (by omega)) s.heap.objs.size aj _ _ 0 _ _ _ rfl (Bu _) ⟨⟨_,Z _ _ am gI,rfl,rfl⟩,⟨od,es,Z _ _ (AB aa) ar,hrest⟩⟩ av (ItemsOf.nil _) fun s' B c' J ag U=>?_⟩;show wpAny _ A (load s.heap.objs.size >>= _) _ _ s';apply Aa;refine Fq ag (Af ?_);obtain⟨h',g',d',tk',os'⟩:=s';have g1:=J.gens;have g2:=J.os;have g3:=J.drawn;dsimp only at g1 g2 g3;subst g1 g2 g3;have af:B.toList=vs.map (·.2):=by
  apply CB;intro j;by_cases hj:j < B.size
  ·obtain⟨k,hk⟩:=U.2 j B[j] (by simp[hj]);rw[AK,hk];simp[hj]
  ·have:=U.1;rw[A0 (by simpa using hj),A0 (by rw[Ae];omega)]
 rw[af];refine h h' tk' (fun b u e=>?_) (Dh (Aq ag));have ah:=Aq e;have nb:b≠s.heap.objs.size:=AB ah;have nI:b≠I:=by rw[O];exact AB (Br ah)
 exact J.heap b u (by simp[nb,nI]) (Z b u nb (z b u (Ai _ e)))
end
def aLh(K:Ah)(sp:Sp)(ta:TA):TE:=fun σ H Q=>ta σ H fun vs H1=>∃(l:Ac) (xs:List V) (KR:V→K3→Prop),vs=[V.ref l]∧(SqL K H1 l xs∨∃ d di,H1 l=some (aIr l d)∧H1 d=some (.dK di)∧xs=di.map (·.2))∧xs.length < 64∧
 (∀ y∈xs,∀(H':Hp) (Q:VK),bJ H1 H'→(∀ t a b c H'',bJ H' H''→H'' t=some (.tup [.int a,.int b,.str c])→KR y (a,b,c)→Q (.ref t) H'')→sp [y] H' Q E0)∧
 ∀ D (kk:List K3) (p:List Nat) H',bJ H1 H'→H1 D=none→kk.length=xs.length→(∀ i,i < xs.length→KR (xs.getD i .non) (kk.getD i k0))→z9 kk p→H' D=some (.lst (p.map fun i=>xs.getD i .non))→Q (.ref D) H'
theorem aHn{di:List (Key×V)}{vs:List (Key×Ab)}(r:KV di vs):cZ (di.map (·.2)) (vs.map (·.2)):=by
 induction r with
 | nil=>exact .nil
 | cons h _ z=>exact .cons h.2 z
section
variable{X:Cx}{e:Bc}{ta:TA}
theorem vI{k:Nat}{f:Ac}{fd:AE}{x g:Str}{sp:Sp}{p pk kp pos:Pos}(F:cH X.prog X.w X.K X.mg X.base CX0 k f fd [x] sp)(hr:cY (k + 2) X.A)(hb:c8 X.K fd [x] [])(hg:Gl X "sorted")(hm:X.mg "sorted"=none)(Y:Gl X g)(aa:X.mg g=some (.ref f))(ha:PA X [e] ta)
  (hd:(g == ("__debug__":Str))=false:=by decide) (he:starEach [e] X.env=[(false,eval e X.env)]:=by rfl):
  PE X (.Call (.Name "sorted" p) [e] [⟨some "key",.Name g pk,kp⟩] pos) (aLh X.K sp ta):=by
 constructor;intro dh s σ H Q I h;refine Cf (oW I hg hm boot_sorted ?_ (by decide) (by decide));refine callWith_builtin_kwB (by rw[he];rfl) (by rfl) ?_;have z:=ha pos dh s σ H _ I h
 ·rw[he]at z ⊢;refine evalArgs_kwB (by rfl) (thn z fun us s1 ⟨vs,H1,I1,r,q1⟩=>?_);obtain⟨l,xs,KR,rfl,U,h64,hkey,q⟩:=q1;have W:PK X [⟨some "key",.Name g pk,kp⟩] (xC (tC (.ref f)) aEX):=aCV (c7 Y aa rfl hd) aEZ;refine thn (W pos dh s1 σ H1 (fun zs H2=>zs=[V.ref f]∧H2=H1) I1 ⟨rfl,rfl⟩) fun ws s2 ⟨zs,H2,O,rz,ez,eH⟩=>?_;subst ez eH;cases rz with
  | cons r1 r2=>
   cases r1;cases r2;cases r with
   | cons r3 r4=>
    cases r3;cases r4;rcases U with U | ⟨d,di,U,Z,rfl⟩
    ·obtain⟨its,rv,pl,_⟩:=O.list U;have J:=rv.length;refine vG (KR:=KR) F hr hb O rv (fun B Q' E' hB hq=>?_) h64 hkey q;refine collect_list pl.isList (hq _ s2.toks (fun b u e=>?_) ?_) (aS (by omega))
     ·rw[BE _ _ _ _ (AB (Aq e))];exact Ai _ e
     ·rw[Heap.size_update,BZ];exact De _
    ·obtain⟨hv,_,_⟩:c5 X.prog X.w H2 s2.heap l (aIr l d):=O.hok l _ U;obtain⟨_,_,vs,rel,dd⟩:=aFb O.hok Z;have J:=rel.length;rw[Ae]at h64;refine vG (KR:=KR) F hr hb O (aHn rel) (fun B Q' E' hB hq=>?_) (by rw[Ae];exact h64) hkey q;exact vH hB hv dd (by omega) fun h' tk k1 k2=>hq h' tk k1 k2
end
inductive Fm:V→Str→Prop
 | str (z:Str) (h:z.length≤sizeLine):Fm (.str z) z
 | int (i:Int) (h:i.natAbs.log2 < 1920):Fm (.int i) (toString i)
abbrev TJ:=Str→St→Hp→VK→Prop
structure PJ(X:Cx)(es:List Bc)(t:TJ):Prop where
 run:∀(dh:List (Ac×Obj)) (s:Ad) (σ:St) (H:Hp) (Q:VK) (acc:Str),Inv X dh σ H s→t acc σ H Q→wpAny (model X.prog X.w) X.A (joinParts acc (evalEach es X.env)) (EP X dh σ Q) X.xe s
inductive J0(acc:Str)(σ:St)(H:Hp)(Q:VK):Prop
 | mk (h:acc.length≤sizeLine) (q:Q (.str acc) H):J0 acc σ H Q
inductive JC(z:Str)(t:TJ)(acc:Str)(σ:St)(H:Hp)(Q:VK):Prop
 | mk (h:(acc ++ z).length≤sizeLine) (q:t (acc ++ z) σ H Q):JC z t acc σ H Q
inductive JF(t:TJ)(acc:Str)(σ:St)(x:V)(H:Hp)(Q:VK):Prop
 | mk (z:Str) (f:Fm x z) (h:(acc ++ z).length≤sizeLine) (q:t (acc ++ z) σ H Q):JF t acc σ x H Q
section
variable{X:Cx}{es:List Bc}{t:TJ}{te:TE}
end
open PySem PySem.Spec PyProof.Rows PySem.Builtin PySem.Builtin.Str
inductive aHo(x:V)(xs:List V)(H:Hp)(Q:VK):Prop
 | mk (z y:PySem.Str) (h0:x=.str z) (h1:xs=[.str y]) (hy:(y.length == 0)=false) (hz:z.length + 2≤sizeLine) (q:∀ L,H L=none→Q (.ref L) (upd H L (.lst ((Txt.split z y).map V.str)))):aHo x xs H Q
open PySem PySem.Spec PyProof.Rows PySem.NumText
inductive aKx(xs:List V)(H:Hp)(Q:VK):Prop
 | mk (x:V) (z:Str) (h0:xs=[x]) (f:Fm x z) (q:Q (.str z) H):aKx xs H Q
inductive aKy(xs:List V)(H:Hp)(Q:VK):Prop
 | mk (z:Str) (n:Int) (h0:xs=[.str z]) (hn:PySem.intText? z=some n) (hl:z.length≤640) (q:Q (.int n) H):aKy xs H Q
section
variable{prog:Ay}{w:AS}{K:Type}[DecidableEq K]{knd:HeapKind prog w K}{A:AN}{E:Ab→Ad→Prop}{s:Ad}
end
open PySem PySem.SetTable
inductive aFH(t:CO):Probe→Nat→Prop
 | here {p:Probe} {n:Nat}:t.slot p.j=.empty→aFH t p n
 | step {p:Probe} {n:Nat}:aFH t (t.advance p) n→aFH t p (n + 1)
def aLv(t:CO)(i perturb:Nat):Probe:={ j:=i,more:=runEnd t.mask i - i,i:=i,perturb:=perturb,dummy:=none }
def orb(m:Nat):Nat→Nat→Nat
 | 0,i=>i
 | k + 1,i=>orb m k ((i * 5 + 1) % m)
structure aKz(t:CO)(n:Nat):Prop where
 size:t.place.size=n
 nod:t.dummies=#[]
 mask:(t.mask=7∧n≤4)∨(t.mask=31∧n≤18)
inductive aFI(owner:Array (Option Nat)):Nat→Nat→Nat→Prop
 | here {i p n:Nat}:(owner.getD i (some 0)).isNone=true→aFI owner i p (n + 1)
 | step {i p n:Nat}:aFI owner (SetTable.leap 31 i p).1 (SetTable.leap 31 i p).2 n→aFI owner i p (n + 1)
structure aLE(owner:Array (Option Nat))(k:Nat):Prop where
 size:owner.size=32
 perm:((AV 32).filterMap fun j=>owner.getD j none).Perm (AV k)
section
variable{prog:Ay}{w:AS}{A:AN}{E:Ab→Ad→Prop}{s:Ad}
inductive aIs(prog:Ay)(w:AS)(h:A4)(ks:List (List Str))(v:Ab):Prop
 | mk (b:_) (k:_) (q0:v=.ref b) (q1:IsTupleKey (strKind prog w) h k b) (q2:k∈ks):aIs prog w h ks v
def ElT(prog:Ay)(w:AS)(h:A4)(ks:List (List Str))(v:Ab):Prop:=aIs prog w h ks v
end
section
variable{prog:Ay}{w:AS}{A:AN}{E:Ab→Ad→Prop}{s:Ad}
structure aLF(prog:Ay)(w:AS)(h:A4)(a:Ac)(rs:List Ac)(ks:List (List Str))(o:Obj)(es:Array (Int×Ab))(ep:Nat)(t:CO):Prop where
 at_:h.get? a=some o
 ex:o.ExactSet
 data:o.data=.set es ep t
 perm:(es.toList.map (·.2)).Perm (rs.map AJ)
 els:∀ e∈es.toList,ElT prog w h ks e.2
 tab:aKz t es.size
 led:uV w es t
end
abbrev P2:=Str×Str
inductive aDd(h:A4)(v:Ab)(x:P2):Prop
 | mk (t:_) (u1:_) (u2:_) (q0:v=.ref t) (q1:Eu h t #[.str x.1 u1,.str x.2 u2]):aDd h v x
def aLw(h:A4)(v:Ab)(x:P2):Prop:=aDd h v x
section
variable{prog:Ay}{w:AS}{A:AN}{E:Ab→Ad→Prop}{s:Ad}
end
section
variable{prog:Ay}{w:AS}{A:AN}{E:Ab→Ad→Prop}{s:Ad}
end
def aFJ(H:Hp)(r:Ac):P2:=match H r with
 | some (.tup [.str x,.str y])=>(x,y)
 | _=>("","")
def aLx(H:Hp)(rs:List Ac):Prop:=∀ r∈rs,H r=some (.tup [.str (aFJ H r).1,.str (aFJ H r).2])
section
variable{P:Ay}{w:AS}{H:Hp}{h:A4}{a:Ac}
end
theorem aDe:∀{rs:List Ac}{its:List Ab},cZ (rs.map V.ref) its→its=rs.map AJ
 | [],_,.nil=>rfl
 | r :: rs,_,.cons e q=>by
  rw[aDe q];cases e;rfl
section
variable{X:Cx}{dh:List (Ac×Obj)}{σ:St}{H:Hp}{s:Ad}
end
section
variable{prog:Ay}{w:AS}{A:AN}{E:Ab→Ad→Prop}{s:Ad}{d I:Ac}{od:Obj}{es:Array DictEntry}{ep i:Nat}
end
section
variable{X:Cx}
end
section
variable{X:Cx}{e st:Bc}{te ts:TE}{pos p2:Pos}
end
structure Fly(P:Ay)(w:AS)(outer:List Env)(H H':Hp)(s:Ad)(x:Ac)(C:Ab)(s':Ad):Prop where
 os:s'.os=s.os
 bare:Ek s'.gens
 ex:∃(B:A4) (a0:Ab),F4 B outer x C a0 s'.heap∧HOk P w H' B∧(∀ b o,s.heap.get? b=some o→H b=none→b ∉ frs outer→B.get? b=some o)∧∀ b o,s.heap.get? b=some o→b ∉ frs outer→∃ o',B.get? b=some o'
 frf:∀ b∈frs outer,H b=none
 slot:∀ b o,s.heap.get? b=some o→H b=none→b∈frs outer→∃ sl,s'.heap.get? b=some { o with slots:=sl }
 free:∀ b o,s.heap.get? b=some o→H b=none→H' b=none
 tups:∀ b xs,H b=some (.tup xs)→H' b=some (.tup xs)
 frzs:∀ b o u,H b=some (.frz o u)→H' b=some (.frz o u)
 tbls:∀ b ps,H b=some (.tbl ps)→∃ more,H' b=some (.tbl (ps ++ more))
def CXr(P:Ay)(w:AS):CXT:=fun outer H s E e s'=>∃(x:Ac) (C:Ab) (H':Hp),e=.ref x∧Fly P w outer H H' s x C s'∧E C none H'
theorem Fly.un{P:Ay}{w:AS}{outer:List Env}{H H':Hp}{s s':Ad}{x:Ac}{C:Ab}(h:Fly P w outer H H' s x C s'):Un (frs outer) [] H H' s.heap s'.heap:=by
 obtain⟨B,a0,fl,hok,hk,ht⟩:=h.ex;refine⟨fun b o e n z _=>fl.1 b o (hk b o e n z),fun b o e n z _=>h.slot b o e n z,fun b o e n _=>h.free b o e n,fun b o e _=>?_,h.tups,h.frzs,h.tbls⟩;by_cases hm:b∈frs outer
 ·obtain⟨sl,e1⟩:=h.slot b o e (h.frf b hm) hm;exact⟨_,e1⟩
 ·obtain⟨o1,e1⟩:=ht b o e hm;exact⟨o1,fl.1 b o1 e1⟩
theorem Fly.hok{P:Ay}{w:AS}{outer:List Env}{H H':Hp}{s s':Ad}{x:Ac}{C:Ab}(h:Fly P w outer H H' s x C s'):HOk P w H' s'.heap:=by
 obtain⟨B,a0,fl,hok,hk,ht⟩:=h.ex;exact hok.kept fl.1
section
variable{P:Ay}{w:AS}{K:Ah}{mg:Str→Option Ab}{base:A4}{N:List Str}{qual:Str}{scope:CH}{f:Ac}{cd:Ab}{A:AN}{outer:List Env}{s:Ad}{H:Hp}{E:XK}
theorem aFK{dh:List (Ac×Obj)}{σ:St}{H1:Hp}{O:Ad}{h':A4}{e C:Ac}{args:List Ab}(I:Inv (iZ (CXr P w) P w K mg base N qual scope f cd A outer s H E) dh σ H1 O)
  (hx:Heap.MadeExcOf O.heap h' e (.ref C) args) (hE:E (.ref C) none H1):(iZ (CXr P w) P w K mg base N qual scope f cd A outer s H E).xe (.ref e) { O with heap:=h' }:=by
 have Y:∀ env∈(envOfC qual scope s.heap.objs.size f cd :: outer),∀ b,env.frame=some b→b∈frs (envOfC qual scope s.heap.objs.size f cd :: outer):=fun env U b J=>A9.mpr ⟨env,U,J⟩;have W:O.heap.FunFrames base (envOfC qual scope s.heap.objs.size f cd :: outer):=I.stack;have aa:∀ b∈frs (envOfC qual scope s.heap.objs.size f cd :: outer),H1 b=none:=I.stkFree;show wpAny _ _ (leaving _ _) _ _ _;refine wpAny_leaves_madeW (base:=hideAll O.heap (frs (envOfC qual scope s.heap.objs.size f cd :: outer))) (h:=O.heap) (L:=s.heap.objs.size) I.ok.frames rfl (fun b o q=>of_hideAll _ q) (funFrames_hide W Y) hx fun Z t x1 x2 x3 x4=>?_;have hL:∀ b,b∈frs (envOfC qual scope s.heap.objs.size f cd :: outer)→b=s.heap.objs.size∨b∈frs outer:=fun b J=>by
  obtain⟨env,U,B⟩:=A9.mp J;rcases Al.mp U with rfl | U
  ·exact .inl (BS.inj B).symm
  ·exact .inr (A9.mpr ⟨env,U,B⟩)
 have F:∀ b o,s.heap.get? b=some o→H b=none→b ∉ frs outer→(hideAll O.heap (frs (envOfC qual scope s.heap.objs.size f cd :: outer))).get? b=some o:=fun b o q n nf=>
  GJ _ (I.base.keep b o q n nf (by simp[iZ])) fun hm=>by
   rcases hL b hm with z | z
   ·rw[z]at q;exact absurd (Aq q) (Bg _)
   ·exact nf z
 have slot:∀ b o,s.heap.get? b=some o→H b=none→b∈frs outer→∃ sl,Z.get? b=some { o with slots:=sl }:=fun b o q n B=>by
  obtain⟨sl,e1⟩:=I.base.slot b o q n B (by simp[iZ]);have hm:b∈frs (envOfC qual scope s.heap.objs.size f cd :: outer):=by
   obtain⟨env,U,B⟩:=A9.mp B;exact A9.mpr ⟨env,.tail _ U,B⟩
  obtain⟨_,o2,e2,hd⟩:=W.mem hm;rw[e1]at e2;cases e2;obtain⟨sl2,e3⟩:=x4 b _ (hx.keeps b _ e1) hd;exact⟨sl2,e3⟩
 refine⟨e,.ref C,H1,rfl,⟨I.os,I.bare,⟨_,_,x1,fun a o q=>(I.hok a o q).stay (fun b u J e=>GJ _ e fun hm=>?_) (fun _ q=>q) fun _ _ q=>q,F,fun b o q nf=>?_⟩,I.ok.frf,slot,fun b o q n=>I.base.free b o q n (by simp[iZ]),I.base.tups,I.base.frzs,I.base.tbls⟩,hE⟩
 ·have hn:=aa b hm;rcases J with rfl | J
  ·rw[q]at hn;cases hn
  ·rw[J]at hn;cases hn
 ·obtain⟨o1,e1⟩:=I.base.there b o q (by simp[iZ]);refine⟨o1,GJ _ e1 fun hm=>?_⟩;rcases hL b hm with z | z
  ·rw[z]at q;exact absurd (Aq q) (Bg _)
  ·exact nf z
theorem vJ{E':XK}(hE:∀ C dx H',E' C dx H'→E C dx H'):qJ (CXr P w) (iZ (CXr P w) P w K mg base N qual scope f cd A outer s H E) E':=by
 rintro dh σ H1 s1 e s2 I ⟨x,C,H2,rfl,F,W⟩;have Y:s1.heap.FunFrames base (envOfC qual scope s.heap.objs.size f cd :: outer):=I.stack;have ak:∀ b∈frs (envOfC qual scope s.heap.objs.size f cd :: outer),H1 b=none:=I.stkFree;obtain⟨B,a0,fl,hokB,hkB,htB⟩:=F.ex;have fl:F4 B (envOfC qual scope s.heap.objs.size f cd :: outer) x C a0 s2.heap:=fl;show wpAny _ _ (leaving _ _) _ _ _;refine wpAny_leaves_onW (base:=B) (L:=s.heap.objs.size) I.ok.frames rfl fl fun Z y1 y2=>?_;have hL:∀ b,b∈frs (envOfC qual scope s.heap.objs.size f cd :: outer)→b=s.heap.objs.size∨b∈frs outer:=fun b hb=>by
  obtain⟨env,U,J⟩:=A9.mp hb;rcases Al.mp U with rfl | U
  ·exact .inl (BS.inj J).symm
  ·exact .inr (A9.mpr ⟨env,U,J⟩)
 have up:∀ b,b∈frs outer→b∈frs (envOfC qual scope s.heap.objs.size f cd :: outer):=fun b J=>by
  obtain⟨env,U,J⟩:=A9.mp J;exact A9.mpr ⟨env,.tail _ U,J⟩
 have nox:∀ b:Ac,b ∉ (iZ (CXr P w) P w K mg base N qual scope f cd A outer s H E).ex:=fun b=>by simp[iZ]
 have O:∀ b o,s1.heap.get? b=some o→H1 b=none→b∈frs (envOfC qual scope s.heap.objs.size f cd :: outer)→∃ sl,Z.get? b=some { o with slots:=sl }:=fun b o q n hm=>by
  obtain⟨sl,e1⟩:=F.slot b o q n hm;obtain⟨_,o2,e2,hd⟩:=Y.mem hm;rw[q]at e2;cases e2;obtain⟨sl2,e3⟩:=y2 b _ e1 hd;exact⟨sl2,e3⟩
 refine⟨x,C,H2,rfl,⟨F.os.trans I.os,F.bare,⟨B,a0,y1,hokB,fun b o q n nf=>hkB b o (I.base.keep b o q n nf (nox b)) (I.base.free b o q n (nox b)) fun hm=>?_,fun b o q nf=>?_⟩,I.ok.frf,fun b o q n J=>?_,fun b o q n=>?_,fun b xs q=>F.tups b xs (I.base.tups b xs q),fun b o u q=>F.frzs b o u (I.base.frzs b o u q),fun b ps q=>?_⟩,hE _ _ _ W⟩
 ·rcases hL b hm with z | z
  ·rw[z]at q;exact absurd (Aq q) (Bg _)
  ·exact nf z
 ·obtain⟨o1,e1⟩:=I.base.there b o q (nox b);refine htB b o1 e1 fun hm=>?_;rcases hL b hm with z | z
  ·rw[z]at q;exact absurd (Aq q) (Bg _)
  ·exact nf z
 ·obtain⟨sl,e1⟩:=I.base.slot b o q n J (nox b);obtain⟨sl2,e2⟩:=O b _ e1 (I.base.free b o q n (nox b)) (up b J);exact⟨sl2,e2⟩
 ·obtain⟨o1,e1⟩:=I.base.there b o q (nox b);exact F.free b o1 e1 (I.base.free b o q n (nox b))
 ·obtain⟨m1,e1⟩:=I.base.tbls b ps q;obtain⟨m2,e2⟩:=F.tbls b _ e1;exact⟨m1 ++ m2,by rw[← E9];exact e2⟩
end
structure aDf(h:A4)(C:Ac)(bmB:List Ab)(newId:String)(tl:List Ab)(N':Ac)(nm q:Str)(bs:List Ab)(hdct:Bool)(sn:List Str)(sub:List Ab)(ab:Bool)(col:Option Bool)(dd:Option Ac)(k0 k1 k2 k3 k5:Option Ab)(mN:Str→Option Ab):Prop where
 ob:h.get? C=some (excClassObj nm q C N' bs tl hdct sn sub ab col dd k0 k1 k2 k3 k5 newId)
 ns:h.Ns N' mN
 ni:mN "__init__"=none
 tl:OwnTail h bmB tl
theorem aDf.keeps{h h':A4}{C:Ac}{B:List Ab}{z:String}{tl:List Ab}{F:Ac}{nm q:Str}{bs:List Ab}{hdct:Bool}{sn:List Str}{sub:List Ab}{ab:Bool}{col:Option Bool}{dd:Option Ac}{k0 k1 k2 k3 k5:Option Ab}{mN:Str→Option Ab}
  (x:aDf h C B z tl F nm q bs hdct sn sub ab col dd k0 k1 k2 k3 k5 mN) (k:∀ b o,h.get? b=some o→h'.get? b=some o):aDf h' C B z tl F nm q bs hdct sn sub ab col dd k0 k1 k2 k3 k5 mN:=⟨k _ _ x.ob,x.ns.keeps k,x.ni,x.tl.keeps k⟩
theorem aJp{K:Ah}{h:A4}{C:Ac}{J:List Ab}{z:String}(X:K.In h)(F:excIn K C J z=true):
  ∃ tl N' nm q bs hdct sn sub ab col dd k0 k1 k2 k3 k5 mN,aDf h C J z tl N' nm q bs hdct sn sub ab col dd k0 k1 k2 k3 k5 mN:=by
 unfold excIn at F;split at F
 ·rename_i d1 Y B lk;split at F
  ·rename_i c1 af Z j1 j2 j3 O j5 W es;simp only[AY,beq_iff_eq,Bool.not_eq_true']at F;obtain⟨⟨⟨⟨⟨z1,z2⟩,z3⟩,z4⟩,z5⟩,z6⟩:=F;subst z1 z2;have U:B=#[Z,j1,j2,j3,some (.builtin O),j5]:=DP.mp es;cases Y;simp only at W z3 z5 z6;subst W z3 U;exact⟨_,_,_,_,_,_,_,_,_,_,_,_,_,_,_,_,_,X _ _ lk,.of_isNs (isNs_of_in X z5),nsMap_none_of_in X z5 z6,tail_of_in X z4⟩
  ·cases F
 ·cases F
section
variable{P:Ay}{w:AS}{K:Ah}{mg:Str→Option Ab}{base:A4}{N:List Str}{qual:Str}{scope:CH}{f:Ac}{cd:Ab}{A:AN}{outer:List Env}{s:Ad}{H:Hp}{E:XK}
theorem nM{x:Str}{C:Ac}{B z F:String}{O:List Ab}{np ee pos:Pos}{U:Bc}{es:List Bc}{t:TA}(FB:ExcBaseFacts B z F O)(hg:Gl (iZ (CXr P w) P w K mg base N qual scope f cd A outer s H E) x)(hm:mg x=some (.ref C))(hq:excIn K C O z=true)(ha:PA (iZ (CXr P w) P w K mg base N qual scope f cd A outer s H E) (U :: es) t)
  (he:starEach (U :: es) (iZ (CXr P w) P w K mg base N qual scope f cd A outer s H E).env=(false,eval U (iZ (CXr P w) P w K mg base N qual scope f cd A outer s H E).env) :: starEach es (iZ (CXr P w) P w K mg base N qual scope f cd A outer s H E).env:=by rfl)
  (Y:(backTo ee (starEach es (iZ (CXr P w) P w K mg base N qual scope f cd A outer s H E).env)).any (·.1)=false:=by rfl) (hd:(x == ("__debug__":Str))=false:=by decide):
  PS (iZ (CXr P w) P w K mg base N qual scope f cd A outer s H E) (.Raise (some (.Call (.Name x np) (U :: es) [] ee)) none pos) (fun D σ H1=>t σ H1 fun vs H2=>vs.length≤sizeLine∧E (.ref C) none H2):=by
 constructor;intro dh s1 σ H1 D I h;obtain⟨tl,N',nm,q,bs,hdct,sn,sub,ab,col,dd,k0,k1,k2,k3,k5,mN,hO⟩:=aJp (C:=C) I.ok.mod.kin hq;have o1:=hO.keeps I.bk;refine wpAny_Raise_call_subT (C:=C) (nm:=nm) (q:=q) (N:=N') (bs:=bs) (bm:=tl) (hdct:=hdct) (sn:=sn) (sub:=sub) (ab:=ab) (col:=col) (dd:=dd) (k0:=k0) (k1:=k1) (k2:=k2) (k3:=k3) (k5:=k5)
  FB (mN:=mN) (o1.tl.hasType FB.hasBase) (I.ok.hd rfl) ?_ o1.ni ?_
 ·rw[he];show(false || (backTo ee (starEach es (iZ (CXr P w) P w K mg base N qual scope f cd A outer s H E).env)).any (·.1))=false
  rw[Y];rfl
 ·refine BG ((c7 (v:=.ref C) hg hm rfl hd).run dh s1 σ H1 (fun v H'=>v=.ref C∧H'=H1) I ⟨rfl,rfl⟩) (fun u s2 W=>?_) fun _ _ y=>y;obtain⟨v,H2,I2,rv,rfl,rfl⟩:=W;cases rv;refine⟨rfl,?_⟩;have J:=ha ee dh s2 σ H2 _ I2 h;rw[he]at J ⊢;refine EJ (BG J (fun us s3 W=>?_) fun _ _ y=>y);obtain⟨vs,H3,I3,r3,hl,hE⟩:=W;have Z:=hO.keeps I3.bk;exact⟨rfl,by rw[← r3.length];exact hl,Z.ob,Z.ns,Z.tl,fun h' e hx=>aFK I3 hx hE⟩
theorem Fun.okR{x qual:Str}{st:BP}{f:Ac}{fd:AE}{N ps:List Str}{k:Nat}{sp:Sp}(F:Fun K x qual st f fd)(S:bY N ps (aO st))(len:∀ vs H Q E,sp vs H Q E→vs.length=ps.length)
  (B:∀(z:Ab) (A:AN) (outer:List Env) (s:Ad) (H:Hp) (vs:List V) (Q:VK) (E:XK),cY k (A.deeper (envOfC qual (aO st) s.heap.objs.size f z))→sp vs H Q E→
   ∃ t,PSs (iZ (CXr P w) P w K mg base N qual (aO st) f z A outer s H E) (bS st) t∧t { nx:=fun _ H'=>Q .non H',rt:=Q } (start N vs) H):cH P w K mg base (CXr P w) (k + 1) f fd ps sp:=by
 obtain⟨oc,od,kV,doc,pm,an,z,ct,osl,rfl,lk,hcd⟩:=F.ex;exact aE0 lk hcd S len fun A outer s H vs Q E O J=>B z A outer s H vs Q E O J
end
theorem Fly.lands{P:Ay}{w:AS}{M:E3}{A:AN}{env:Env}{outer:List Env}{L:Ac}{base:A4}{H H':Hp}{s J:Ad}{x:Ac}{C:Ab}{Q E:Ab→Ad→Prop}{R:Ad→Prop}(F:Fly P w (env :: outer) H H' s x C J)
  (W:s.heap.FunFrames base (env :: outer)) (Y:A.frames=some (env :: outer)) (Z:env.frame=some L) (k:∀ O,Fly P w (env :: outer) H H' s x C { J with heap:=O }→R { J with heap:=O }):
  wpAny M A (noteFrame (.ref x) env) (fun _ s3=>wpAny M A (setFlight (.ref x) none) (fun _ s4=>R s4) E s3) E J:=by
 obtain⟨B,a0,fl,hokB,hkB,htB⟩:=F.ex;refine wpAny_looks_onW Y Z fl fun h4 z u4=>?_;refine wpAny_landsW (s:={ J with heap:=h4 }) z fun O U u5=>k O ?_;refine⟨F.os,F.bare,⟨B,a0,U,hokB,hkB,htB⟩,F.frf,fun b o q n hm=>?_,F.free,F.tups,F.frzs,F.tbls⟩;obtain⟨sl,e1⟩:=F.slot b o q n hm;obtain⟨_,o2,e2,hd⟩:=W.mem hm;rw[q]at e2;cases e2;obtain⟨sl2,e3⟩:=(u4.trans u5) b _ e1 hd;exact⟨sl2,e3⟩
theorem Inv.caught{X:Cx}{dh:List (Ac×Obj)}{σ:St}{H H':Hp}{s s':Ad}{x:Ac}{C:Ab}(I:Inv X dh σ H s)(F:Fly X.prog X.w X.stack H H' s x C s'):Inv X dh σ H' s':=
 I.call' (ch:=[]) F.os F.un F.hok F.bare (fun b z=>absurd z (by simp))
theorem Fly.obj{P:Ay}{w:AS}{outer:List Env}{H H':Hp}{s s':Ad}{x:Ac}{C:Ab}(F:Fly P w outer H H' s x C s'):∃ ob vs,s'.heap.get? x=some ob∧ob.cls=C∧ob.data=.fields vs:=by
 obtain⟨B,a0,fl,_⟩:=F.ex;obtain⟨_,_,_,oe,vs,_,_,_,he,hc,hd,_⟩:=fl;exact⟨oe,vs,he,hc.1,hd⟩
section
variable{prog:Ay}{w:AS}{A:AN}{E:Ab→Ad→Prop}{s:Ad}{κ:DV}{it:Array Et}
def qQ(prog:Ay)(w:AS)(A:AN)(s:Ad)(κ:DV)(it:Array Et):Prop:=
 ∀ x y,x∈it.toList→y∈it.toList→∀ C:Bool→Ad→Prop,(∀ b,C b s)→wpAny (model prog w) A (keyLt' κ x.1 y.1) C (fun _ _=>False) s
variable(hc:qQ prog w A s κ it)
include hc
end
def Pl(a b out:Array Et)(ia ib:Nat):Prop:=(out.toList ++ (a.toList.drop ia ++ b.toList.drop ib)).Perm (a.toList ++ b.toList)
section
variable{a b out:Array Et}{ia ib k:Nat}
end
structure Sg(st st':Fg):Prop where
 kind:kindOf st'=kindOf st
 arr:arrOf st'=arrOf st
 pend:pendingOf st'=pendingOf st
 fail:failedOf st'=failedOf st
structure GL(a b:Array Et)(x:Nat)(out:Array Et)(ia ib:Nat):Prop where
 pl:Pl a b out ia ib
 la:ia + 1 < a.size
 lb:ib < b.size
 on:x≤ia + ib
section
variable{prog:Ay}{w:AS}{A:AN}{E:Ab→Ad→Prop}{s:Ad}{κ:DV}{it:Array Et}(hc:qQ prog w A s κ it)
include hc
end
def Ph(a b out:Array Et)(na nb:Nat):Prop:=(out.toList ++ (a.toList.take na ++ b.toList.take nb)).Perm (a.toList ++ b.toList)
section
variable{a b out:Array Et}{na nb k:Nat}
end
structure GH(a b:Array Et)(x:Nat)(out:Array Et)(na nb:Nat):Prop where
 pl:Ph a b out na nb
 la:1≤na
 lb:2≤nb
 ua:na≤a.size
 ub:nb≤b.size
 on:x + na + nb≤a.size + b.size
section
variable{prog:Ay}{w:AS}{A:AN}{E:Ab→Ad→Prop}{s:Ad}{κ:DV}{it:Array Et}(hc:qQ prog w A s κ it)
include hc
end
structure Sm(st st':Fg):Prop where
 kind:kindOf st'=kindOf st
 arr:(arrOf st').Perm (arrOf st)
 pend:pendingOf st'=pendingOf st
 fail:failedOf st'=failedOf st
structure GS(κ:DV)(it:Array Et)(st:Fg):Prop where
 kind:kindOf st=κ
 perm:(arrOf st).Perm it
 fail:failedOf st=none
section
variable{prog:Ay}{w:AS}{A:AN}{E:Ab→Ad→Prop}{s:Ad}{κ:DV}{it:Array Et}
variable(hc:qQ prog w A s κ it)
include hc
end
def aKA:List (Nat×Nat×Nat)→Nat→Nat→Prop
 | [],a,b=>a=b
 | r :: l,a,b=>r.1=a∧1≤r.2.1∧aKA l (a + r.2.1) b
section
variable{prog:Ay}{w:AS}{A:AN}{E:Ab→Ad→Prop}{s:Ad}{κ:DV}{it:Array Et}
variable(hc:qQ prog w A s κ it)
include hc
end
section
variable{prog:Ay}{w:AS}{A:AN}{E:Ab→Ad→Prop}{s:Ad}{κ:DV}{it:Array Et}
structure SR(κ:DV)(it:Array Et)(lo:Nat)(st:Fg):Prop where
 gs:GS κ it st
 le:lo≤it.size
 sg:aKA (pendingOf st).toList 0 lo
variable(hc:qQ prog w A s κ it)
include hc
end
def mM(c:Ac)(qual:Str):HO:=.ext fun h=>h.CodeRec (.ref c) qual
def nN(f:Ac)(qual:Str)(params:DO)(body:Bc)(scope:CH)(cl:List (Str×Ac))(c:Ac):HO:=.ext fun h=>∃ pm ctv,h.get? f=some (kla_obj "<lambda>" qual params body scope cl pm c ctv)
theorem aHp{P:Ay}{w:AS}{H:Hp}{h:A4}{c:Ac}{qual:Str}(e:h.CodeRec (.ref c) qual):c5 P w H h c (mM c qual):=by
 obtain⟨c',o,vs,t,e1,e2,e3,e4⟩:=id e;cases e1;exact⟨e,⟨o,e2⟩,fun h1 h2 x k=>by
  obtain⟨c',o,vs,t,e1,e2,e3,e4⟩:=x;cases e1;exact⟨c,o,vs,t,rfl,k o e2,e3,e4⟩⟩
theorem aFL{P:Ay}{w:AS}{H:Hp}{h:A4}{f c:Ac}{qual:Str}{z:DO}{F:Bc}{scope:CH}{cl:List (Str×Ac)}{J B:Ab}(e:h.get? f=some (kla_obj "<lambda>" qual z F scope cl J c B)):c5 P w H h f (nN f qual z F scope cl c):=
 ⟨⟨J,B,e⟩,⟨_,e⟩,fun h1 h2 x k=>by
  obtain⟨J,B,e⟩:=x;exact⟨J,B,k _ e⟩⟩
structure aLy(T:Ac)(pos:Pos)(qual:Str)(H:Hp):Prop where
 ex:∃ ps,H T=some (.tbl ps)∧Gk ps.toList∧(codeAmong pos ps.toList=none∨∃ c,codeAmong pos ps.toList=some (.ref c)∧H c=some (mM c qual))
def lO(T:Ac)(H H':Hp):Prop:=∀ b o,b≠T→H b=some o→H' b=some o
theorem bJ.butT{T:Ac}{H H':Hp}(s:bJ H H'):lO T H H':=fun b o _ e=>s b o e
theorem lO.trans{T:Ac}{H H1 H2:Hp}(a:lO T H H1)(b:lO T H1 H2):lO T H H2:=fun c o n h=>b c o n (a c o n h)
section
variable{X:Cx}{dh:List (Ac×Obj)}{σ:St}{H:Hp}{s:Ad}
theorem Inv.table{T:Ac}{ps more:Array Ab}{h':A4}{t':Nat}(I:Inv X dh σ H s)(J:H T=some (.tbl ps))(k:∀ b o,b≠T→s.heap.get? b=some o→h'.get? b=some o)(e:h'.get? T=some (tabObj (ps ++ more))):
  Inv X dh σ (upd H T (.tbl (ps ++ more))) { s with heap:=h',toks:=t' }:=by
 have B:∀ b u,H b=some u→(∀ ps,u≠.tbl ps)→b≠T:=fun b u q n z=>by
  subst z;rw[J]at q;cases q;exact n _ rfl
 refine I.un ⟨fun b o q n _ _=>?_,fun b o q n _ _=>?_,fun b o q n _=>?_,fun b o q _=>?_,fun b xs q=>?_,fun b o u q=>?_,fun b O q=>?_⟩ fun b u q=>?_
 ·exact k b o (fun z=>by subst z;rw[J]at n;cases n) q
 ·exact⟨o.slots,k b o (fun z=>by subst z;rw[J]at n;cases n) q⟩
 ·rw[aW (fun z=>by subst z;rw[J]at n;cases n)];exact n
 ·by_cases F:b=T
  ·subst F;exact⟨_,e⟩
  ·exact⟨o,k b o F q⟩
 ·rw[aW (B b _ q fun _ z=>nomatch z)];exact q
 ·rw[aW (B b _ q fun _ z=>nomatch z)];exact q
 ·by_cases F:b=T
  ·subst F;rw[J]at q;cases q;exact⟨more,aH⟩
  ·exact⟨#[],by rw[aW F,q];simp⟩
 ·by_cases F:b=T
  ·subst F;rw[aH]at q;cases q;exact e
  ·rw[aW F]at q;refine(I.hok b u q).stay (fun c v hc r=>k c v ?_ r) (fun c r=>?_) fun c xs r=>?_
   ·rcases hc with rfl | hc
    ·exact F
    ·exact B c _ hc fun _ z=>nomatch z
   ·rw[aW (B c _ r fun _ z=>nomatch z)];exact r
   ·rw[aW (B c _ r fun _ z=>nomatch z)];exact r
inductive aFM(mg:Str→Option Ab)(base:A4):Prop
 | mk (bm:_) (o:_) (q0:mg "__builtins__"=some (.ref bm)) (q1:bm≠builtinsNs) (q2:bm≠mainGlobals) (q3:base.get? bm=some o) (q4:o.cls=.type "module") (q5:o.dict=some builtinsNs) (q6:o.data=.plain):aFM mg base
def vK(mg:Str→Option Ab)(base:A4):Prop:=aFM mg base
end
structure aFN(ps fs:List Str)(sc:CH):Prop where
 kind:sc.kind=.function
 co:sc.isCoroutine=false
 gen:sc.isGenerator=false
 nd:ps.Nodup
 par:∀ x∈ps,sc.names.lookup x=some .local
 fr:∀ x∈fs,sc.names.lookup x=some .free
 nocell:∀ y∈sc.names,y.2≠.cell
section
variable{X:Cx}{dh:List (Ac×Obj)}{σ:St}{H:Hp}{s:Ad}
theorem Paired.at{α β:Type}{R:α→β→Prop}:∀{as:List α}{bs:List β}{i:Nat}{a:α}{b:β},Er R as bs→as[i]?=some a→bs[i]?=some b→R a b
 | _,_,_,_,_,.nil,e,_=>by simp at e
 | _,_,0,_,_,.cons r _,e1,z=>by simp at e1 z;subst e1 z;exact r
 | _,_,i + 1,_,_,.cons _ t,e1,z=>Paired.at (i:=i) t (by simpa using e1) (by simpa using z)
def aIt(X:Cx)(σ:St)(fs:List Str)(zs:List V):Prop:=Er (fun(x:Str) (v:V)=>∃ i:Nat,X.N[i]?=some x∧σ[i]?=some (some v)∧X.env.kindOf x=some .cell) fs zs
end
section
variable{prog:Ay}{w:AS}{A:AN}{E:Ab→Ad→Prop}{s:Ad}
inductive aDg(h:A4)(v:Ab):Prop
 | mk (t:_) (a:_) (b:_) (u1:_) (u2:_) (q0:v=.ref t) (q1:Eu h t #[.int a u1,.int b u2]):aDg h v
def aLz(h:A4)(v:Ab):Prop:=aDg h v
end
section
variable{X:Cx}{dh:List (Ac×Obj)}{σ:St}
inductive aDh(H:Hp)(v:Ab):Prop
 | mk (t:_) (a:_) (b:_) (q0:v=.ref t) (q1:H t=some (.tup [.int a,.int b])):aDh H v
def aLA(H:Hp)(v:Ab):Prop:=aDh H v
end
section
variable{X:Cx}{dh:List (Ac×Obj)}{σ:St}{H:Hp}{s:Ad}
end
section
variable{X:Cx}{e:Bc}{ta:TA}
end
theorem Fun.okC{P:Ay}{w:AS}{K:Ah}{mg:Str→Option Ab}{base:A4}{x qual:Str}{st:BP}{f:Ac}{fd:AE}{N ps:List Str}{k:Nat}{sp:Sp}(F:Fun K x qual st f fd)(S:bY N ps (aO st))(len:∀ vs H Q E,sp vs H Q E→vs.length=ps.length)
  (B:∀(z:Ab) (A:AN) (outer:List Env) (s:Ad) (H:Hp) (vs:List V) (Q:VK) (E:XK),fd.code=z→cY k (A.deeper (envOfC qual (aO st) s.heap.objs.size f z))→sp vs H Q E→
   ∃ t,PSs (iZ CX0 P w K mg base N qual (aO st) f z A outer s H E).nox (bS st) t∧t { nx:=fun _ H'=>Q .non H',rt:=Q } (start N vs) H):cH P w K mg base CX0 (k + 1) f fd ps sp:=by
 obtain⟨oc,od,kV,doc,pm,an,z,ct,osl,rfl,lk,hcd⟩:=F.ex;refine aE0 lk hcd S len fun A outer s H vs Q E O J=>?_;obtain⟨t,h,q⟩:=B z A outer s H vs Q E rfl O J;exact⟨t,h.nox,q⟩
theorem aEe{P:Ay}{w:AS}{K:Ah}{mg mb:Str→Option Ab}{k:Nat}{fa a:Ac}{fd:AE}{x:Str}{sp:Sp}{B:Ad}{vs:List Ab}{ns:List Int}{Ts:List Ac}
  (KX:K.In B.heap) (ag:B.heap.Ns mainGlobals mg) (J:B.heap.Ns builtinsNs mb) (am:∀ x:Str,x≠"__name__"→mb x=bootBuiltins x) (af:B.heap.NoLimit) (hg:B.gens=#[]) (hB:vK mg B.heap)
  (hT:∀ T∈Ts,B.heap.get? T=some (tabObj #[])∧K.lookup T=none∧isCodeTable B.heap T)
  (ha:B.heap.get? a=some { cls:=.type "list",data:=.seq vs.toArray }) (hi:Gx vs ns) (hl:ns.length≤sizeLine) (hr:cY k callerA)
  (F:∀ base:A4,K.In base→base.Ns mainGlobals mg→vK mg base→cH P w K mg base CX0 k fa fd [x] sp) (aa:∀(s:Ad) (u:Ab),FM s fd ⟨[u],[]⟩ [(x,u)])
  (ai:∀ H:Hp,(∀ T∈Ts,H T=some (.tbl #[]))→SqL K H a (ns.map V.int)→sp [.ref a] H (fun v _=>v=.bl true) fun _ _ _=>False):
  codeAny (model P w) callerA (.call (.ref fa) ⟨[.ref a],[]⟩) (fun r s'=>r=.ok (.ret (.bool true))∧OldK B.heap s'.heap∧s'.os=B.os∧Ek s'.gens) B:=by
 have rv:=xL hi;have ad:=hi.length;have aT:∀ T∈Ts,T≠a:=fun T h z=>by
  have:=(hT T h).1;rw[z,ha]at this;cases this
 have Z:∀ H:Hp,(∀ T∈Ts,H T=some (.tbl #[]))→SqL K H a (ns.map V.int)→HOk P w H B.heap→(∀ b,H b≠none→b∈Ts∨(b=a∧K.lookup a=none∧H a=some (.frz { cls:=.type "list",data:=.seq vs.toArray } (.lst (ns.map V.int)))))→
   codeAny (model P w) callerA (.call (.ref fa) ⟨[.ref a],[]⟩) (fun r s'=>r=.ok (.ret (.bool true))∧OldK B.heap s'.heap∧s'.os=B.os∧Ek s'.gens) B:=by
  intro H hO hS hok hA;have free:∀{b:Ac} {o:Obj},B.heap.get? b=some o→(∀ xs n,o.data≠.seq xs n)→(∀ vs,o.data≠.fields vs)→H b=none:=fun{b o} e d1 d2=>by
   cases q:H b with
   | none=>rfl
   | some u=>
    rcases hA b (by rw[q];simp)with z | ⟨z,_,_⟩
    ·rw[(hT b z).1]at e;cases e;exact absurd rfl (d2 _)
    ·rw[z,ha]at e;cases e;exact absurd rfl (d1 _ _)
  have Y:∀{b:Ac} {m:Str→Option Ab},B.heap.Ns b m→(zG B.heap H).Ns b m:=fun{b m} ⟨o,es,ep,e,d,r⟩=>⟨o,es,ep,tU e (free e (fun _ _ z=>by rw[d]at z;cases z) fun _ z=>by rw[d]at z;cases z),d,r⟩
  have ac:K.In (zG B.heap H):=fun b o e=>tU (KX b o e) (by
   cases q:H b with
   | none=>rfl
   | some u=>
    rcases hA b (by rw[q];simp)with z | ⟨z,z2,_⟩
    ·rw[(hT b z).2.1]at e;cases e
    ·rw[z,z2]at e;cases e)
  have ah:vK mg (zG B.heap H):=by
   obtain⟨bm,o,b1,b2,b3,b4,b5,b6,b7⟩:=hB;exact⟨bm,o,b1,b2,b3,tU b4 (free b4 (fun _ _ z=>by rw[b7]at z;cases z) fun _ z=>by rw[b7]at z;cases z),b5,b6,b7⟩
  have hM:Mod K mg (zG B.heap H):=⟨ac,Y ag,⟨mb,Y J,am⟩,let ⟨mc,h1,h2⟩:=af;⟨mc,Y h1,h2⟩⟩
  have e0:zI P w K mg (zG B.heap H) callerA [] B H:=⟨rfl,hM,fun b o e=>aHb e,Fk (aDP _ _),trivial,fun b J=>absurd (show b∈([]:List Ac) from J) (by simp),hok,.of_eq hg⟩
  refine Cq ((F _ ac (Y ag) ah).run callerA [] B H ⟨[.ref a],[]⟩ [.ref a] [.ref a] _ _ hr e0 (aa B (.ref a)) (.cons rfl .nil) (ai H hO hS)) fun r s' h=>?_;cases r with
  | error e=>exact Bz h
  | ok fl=>
   cases fl with
   | next=>exact Bz h
   | brk=>exact Bz h
   | cont=>exact Bz h
   | ret u=>
    obtain⟨v,H',os,bare,un,hok',r',q⟩:=h;have q':v=.bl true:=q;subst q';obtain rfl:u=FH true:=r';refine⟨rfl,⟨fun b o e=>?_,fun b o e=>un.there b o e (by simp)⟩,os,bare⟩;cases q:H b with
    | none=>exact .inl (un.keep b o e q (by intro z;exact absurd (show b∈([]:List Ac) from z) (by simp)) (by simp))
    | some u=>
     rcases hA b (by rw[q];simp)with z | ⟨z,_,z2⟩
     ·obtain⟨e1,_,e3⟩:=hT b z;rw[e1]at e;cases e;obtain⟨more,e4⟩:=un.tbls b _ (hO b z);exact .inr (.inl ⟨e3,rfl,#[],more,rfl,hok' b _ e4⟩)
     ·subst z;have z3:=un.frzs _ _ _ z2;obtain⟨e1,_⟩:=hok _ _ z2;obtain⟨e2,_⟩:=hok' _ _ z3;rw[e]at e1;cases e1;exact .inl e2
 have U:∀(H:Hp) T,T∈Ts→c5 P w H B.heap T (.tbl #[]):=fun H T h=>(hT T h).1;cases hk:K.lookup a with
 | some o=>
  have e:=KX a o hk;rw[ha]at e;cases e;refine Z (fun b=>if b∈Ts then some (.tbl #[]) else none) (fun T h=>Ib h) (.inr ⟨_,vs.toArray,_,hk,rfl,rfl,rfl,by rw[Ar,ad];exact hl,by simpa using rv⟩) (fun b u z=>?_) fun b z=>?_
  ·by_cases J:b∈Ts
   ·have W:=(Ib J).symm.trans z;cases W;exact U _ b J
   ·have W:=(Ia J).symm.trans z;cases W
  ·by_cases J:b∈Ts
   ·exact .inl J
   ·exact absurd (Ia J) z
 | none=>
  have ak:∀ T∈Ts,(if T=a then some (HO.frz { cls:=.type "list",data:=.seq vs.toArray } (.lst (ns.map V.int))) else if T∈Ts then some (.tbl #[]) else none)=some (.tbl #[]):=fun T h=>by
   rw[Ia (aT T h),Ib h]
  refine Z (fun b=>if b=a then some (.frz { cls:=.type "list",data:=.seq vs.toArray } (.lst (ns.map V.int))) else if b∈Ts then some (.tbl #[]) else none) ak (.inl (.inr ⟨{ cls:=.type "list",data:=.seq vs.toArray },Ib rfl⟩)) (fun b u z=>?_) fun b z=>?_
  ·by_cases J:b=a
   ·have W:=(Ib J).symm.trans z;cases W;subst J;exact⟨ha,by rw[Ae];exact hl,vs,_,rv,ha⟩
   ·have z1:=(Ia J).symm.trans z;by_cases O:b∈Ts
    ·have W:=(Ib O).symm.trans z1;cases W;exact U _ b O
    ·have W:=(Ia O).symm.trans z1;cases W
  ·by_cases J:b=a
   ·exact .inr ⟨J,hk,Ib rfl⟩
   ·by_cases O:b∈Ts
    ·exact .inl O
    ·exact absurd ((Ia J).trans (Ia O)) z
theorem walk_ofT{l:Fi}{n k:Nat}{q:Ay}{O:List Str}{XP:(Str→Option Ab)→A4→Prop}{YP:AS→A4→Prop}{d:DefRec}{K:Params→Ah}{sp:AS→Sp}{x:Str}{cts:List (Ac×Ac)}
  (hn:l.most=some n) (aa:n≤sizeLine) (ac:d.params.defaults=[]) (hr:cY k callerA)
  (hY:∀(w:AS) (h:A4),YP w h→(K w.params).In h∧∀ T∈cts.map (·.2),h.get? T=some (tabObj #[]))
  (hC:∀(w:AS),∀ p∈cts,codeHdIn (K w.params) p.1 p.2=true∧(K w.params).lookup p.2=none)
  (F:∀(w:AS) (mg:Str→Option Ab) (fa:Ac) (h:A4),(K w.params).In h→h.Ns mainGlobals mg→mg d.name=some (.ref fa)→
   ∃ fd:AE,(∀(s:Ad) (u:Ab),FM s fd ⟨[u],[]⟩ [(x,u)])∧
    ∀ base:A4,(K w.params).In base→base.Ns mainGlobals mg→vK mg base→cH l.prog w (K w.params) mg base CX0 k fa fd [x] (sp w))
  (Z:∀(w:AS) (H:Hp) (a:Ac) (ns:List Int),ns.length≤n→(∀ T∈cts.map (·.2),H T=some (.tbl #[]))→SqL (K w.params) H a (ns.map V.int)→sp w [.ref a] H (fun v _=>v=.bl true) fun _ _ _=>False):
  PySem.W.WalkO q O XP YP l.row.toRowW d [] (fun f vs=>Gg f vs):=by
 refine Att.attach_call hn ac fun w s₀ s₁ mg mb fa o pm cd am a vs ns G Y ho hd af ad U J B hg=>?_;obtain⟨KX,TX⟩:=hY w _ Y;obtain⟨fd,hb,hF⟩:=F w mg fa _ KX G.T.g ad;have hB:vK mg s₁.heap:=by
  obtain⟨bm,ob,b1,b2,b3,b4,b5,b6⟩:=G.T.bmain;refine⟨bm,ob,b1,b2,fun z=>?_,b3,b4,b5,b6⟩;obtain⟨o',es,ep,e,r⟩:=G.T.g;rw[z,e]at b3;cases b3;rw[r.1]at b6;cases b6
 refine aEe KX G.T.g G.T.b G.T.builtins G.T.nolimit hg hB (Ts:=cts.map (·.2)) (fun T h=>?_) U J (Ba B aa) hr hF hb fun H hO hS=>Z w H a ns B hO hS
 obtain⟨p,hp,rfl⟩:=Bd.mp h;obtain⟨h1,h2⟩:=hC w p hp;exact⟨TX _ h,h2,((GM KX h1).tab (TX _ h)).isCodeTable⟩
section
variable{X:Cx}
end
section
variable{X:Cx}{tg:Bc}
end
section
variable{X:Cx}
inductive aCf(H:Hp):V→Prop
 | str (z:Str):aCf H (.str z)
 | non:aCf H .non
 | int (i:Int):aCf H (.int i)
 | bl (b:Bool):aCf H (.bl b)
 | lst {a:Ac} {xs:List V} (e:H a=some (.lst xs)):aCf H (.ref a)
 | tup {a:Ac} {xs:List V} (e:H a=some (.tup xs)):aCf H (.ref a)
inductive Thg(H:Hp):V→Option (List V)→Prop
 | lst {a:Ac} {xs:List V} (e:H a=some (.lst xs)) (h:∀ v∈xs,aCf H v):Thg H (.ref a) (some xs)
 | tup {a:Ac} {xs:List V} (e:H a=some (.tup xs)):Thg H (.ref a) none
 | dct {a:Ac} {di:List (Key×V)} (e:H a=some (.dK di)):Thg H (.ref a) none
 | non:Thg H .non none
 | str (z:Str):Thg H (.str z) none
 | bl (b:Bool):Thg H (.bl b) none
end
section
variable{X:Cx}
inductive RpV(H:Hp):V→Str→Prop
 | non:RpV H .non "None"
 | bl (b:Bool):RpV H (.bl b) (if b then "True" else "False")
 | str (z:Str) (h:(reprText z).length≤sizeLine):RpV H (.str z) (reprText z)
 | ref {a:Ac} {m:Bool} {d:Ak} (r:RdV m H (.ref a) d) (h1:d.showable=true) (h2:d.depth≤20) (h3:d.shown.length≤sizeLine):RpV H (.ref a) d.shown
inductive nO(xs:List V)(H:Hp)(Q:VK):Prop
 | mk (x:V) (z:Str) (q0:xs=[x]) (q1:RpV H x z) (q2:Q (.str z) H):nO xs H Q
def aAa:List V→Hp→VK→Prop:=fun xs H Q=>nO xs H Q
theorem gG{k:Nat}(J:cY k X.A):gH X (.builtin "repr") aAa:=by
 intro dh s σ H xs F Q I r h;obtain⟨x,z,rfl,hx,q⟩:=h;cases hx with
 | non=>
  obtain⟨u,rfl,ru⟩:=gS r;cases ru;exact P.repr_of_none ⟨.str _,H,I.tok _,⟨_,rfl⟩,q⟩
 | bl b=>
  obtain⟨u,rfl,ru⟩:=gS r;cases ru;exact P.repr_of_bool ⟨.str _,H,I.tok _,⟨_,by cases b <;> rfl⟩,q⟩
 | str z h=>
  obtain⟨u,rfl,ru⟩:=gS r;obtain⟨t,rfl⟩:=ru;exact P.repr_of_str ⟨.str _,H,I.tok _,⟨_,rfl⟩,q⟩ h
 | @ref a m d rd h1 h2 B=>exact aD4 J dh s σ H _ F Q I r ⟨a,m,d,rfl,rd,h1,h2,B,q⟩
end
def OkS:Nat→Ak→Prop
 | 0,d=>(∃ z,d=.str z)∨∃ i,d=.int i
 | n + 1,d=>(∃ z,d=.str z)∨(∃ i,d=.int i)∨∃ ds,d=.tuple ds∧∀ e∈ds,OkS n e
open Classical in
section
variable{X:Cx}{dh:List (Ac×Obj)}{σ:St}{H:Hp}{s:Ad}
open Classical in
end
section
variable{X:Cx}
open Classical in
def aJq(z:Str):Ab→Bool
 | .str z' _=>z' == z
 | _=>false
inductive lQ(x:V)(xs:List V)(H:Hp)(Q:VK):Prop
 | mk (a:Ac) (zs:List Str) (z:Str) (j:Nat) (q0:x=.ref a) (q1:xs=[.str z]) (q2:H a=some (.lst (zs.map V.str))) (q3:zs.length≤1000) (q4:zs[j]?=some z) (q5:(∀ i,i < j→zs[i]?≠some z)) (q6:Q (.int j) H):lQ x xs H Q
def vL:V→List V→Hp→VK→Prop:=fun x xs H Q=>lQ x xs H Q
theorem aAb:MtR X "list.index" vL:=by
 intro dh s σ H x xs v us Q I rx r h;obtain⟨a,zs,z,j,rfl,rfl,ha,hz,hj,hno,q⟩:=h;cases rx;obtain⟨u,rfl,ru⟩:=gS r;obtain⟨t,rfl⟩:=ru;obtain⟨its,rv,p,_⟩:=I.list (bE ha);have Z:=rv.length;rw[Ae]at Z;have W:=(AH.mp hj).1;obtain⟨⟨cls,dd,data,sl⟩,ho,hc,n',hd⟩:=id p.isList;simp only at hc hd;subst hc hd;have at':∀(i:Nat) (hi:i < its.toArray.size),∃(y:Str) (B:Tok),zs[i]?=some y∧its.toArray[i]=.str y B:=fun i hi=>by
  have J:i < zs.length:=by rw[Ar]at hi;omega
  obtain⟨ui,eui,rui⟩:=rv.get (i:=i) (x:=V.str zs[i]) (by rw[AK,Ag J];rfl);obtain⟨B,rfl⟩:=rui;rw[Ag (by simpa using hi)]at eui;exact⟨zs[i],B,Ag J,by simpa using eui⟩
 refine Ft F.slot_list_index ⟨_,ho,rfl⟩ F.entry_list_index (F.args_list_index_2 _ _) (SeqAt.list_indexAt a its.toArray n' dd sl (.str z t) (aJq z) j (by rw[Ar];omega) (by omega) ?_ (fun m hm O=>?_)) ⟨ho,fun y Y=>?_,⟨.int j,H,I.tok _,⟨_,rfl⟩,q⟩⟩
 ·obtain⟨y,B,h1,h2⟩:=at' j (by rw[Ar];omega);rw[h2];rw[hj]at h1;cases h1;exact beq_self_eq_true z
 ·obtain⟨y,B,h1,h2⟩:=at' m hm;rw[h2];have U:y≠z:=fun q=>hno m O (by rw[h1,q]);show(y == z)=false;simpa using U
 ·obtain⟨i,hi,rfl⟩:=Array.getElem_of_mem Y;obtain⟨y,B,h1,h2⟩:=at' i hi;rw[h2];exact DY _ _ _ _
end
section
variable{X:Cx}
end
inductive aKB(X:Cx)(dh:List (Ac×Obj))(σ:St)(E':XK)(x:Ab)(s':Ad):Prop
 | mk (H1:_) (s1:_) (q0:Inv X dh σ H1 s1) (q1:CXr X.prog X.w X.stack H1 s1 E' x s'):aKB X dh σ E' x s'
def XP(X:Cx)(dh:List (Ac×Obj))(σ:St)(E':XK)(x:Ab)(s':Ad):Prop:=aKB X dh σ E' x s'
structure PX(X:Cx)(e:Bc)(te:XK→TE):Prop where
 run:∀(E':XK) (dh:List (Ac×Obj)) (s:Ad) (σ:St) (H:Hp) (Q:VK),Inv X dh σ H s→te E' σ H Q→wpAny (model X.prog X.w) X.A (eval e X.env) (EP X dh σ Q) (XP X dh σ E') s
structure PXs(X:Cx)(b:List BP)(tb:XK→TS):Prop where
 run:∀(E':XK) (dh:List (Ac×Obj)) (s:Ad) (σ:St) (H:Hp) (D:oU),Inv X dh σ H s→tb E' D σ H→wpAny (model X.prog X.w) X.A (execs b X.env) (SP X dh D) (XP X dh σ E') s
section
variable{X:Cx}{k:Nat}{f:Ac}{fd:AE}{ps:List Str}{sp:Sp}{x:Str}{p pos:Pos}{e:Bc}{es:List Bc}{t:TA}{te:XK→TE}
theorem aHq{i:Nat}{fo:Pos}(hN:X.N.Nodup)(hi:X.N[i]?=some x)(O:Loc X.env.scope x)(Z:PX X e te)(W:swapsWith e (some (.Name x fo)) pos.line X.env=pure false:=by rfl)(B:X.fn x=true∨X.env.scope.names.lookup x=some .local:=by first | exact .inl rfl | exact .inr rfl | assumption):
  PXs X [.Assign [.Name x fo] e pos] (fun z D σ H=>te z σ H fun v H1=>D.nx (σ.set i (some v)) H1):=by
 constructor;intro z dh s σ H D I h;refine FU (wpAny_Assign_Name (thn (Z.run z dh s σ H _ I h) fun v s1 ⟨y,H1,Y,F,J⟩=>?_) W);exact pN Y hN hi O F (fun s2 U=>Dy ⟨_,H1,U,J⟩) B
end
abbrev Cx.hand(X:Cx)(v:Ab):Cx:={ X with A:=X.A.mark (some v),calm:=false,xe:=fun _ _=>False }
section
variable{X:Cx}{dh:List (Ac×Obj)}{σ:St}{H:Hp}{s:Ad}{v:Ab}
theorem Inv.hand(I:Inv X dh σ H s)(v:Ab):Inv (X.hand v) dh σ H s:=
 have ok:=I.ok
 ⟨⟨ok.mod,ok.kind,ok.glob,ok.blt,ok.above,ok.inj,ok.has,ok.cab,(fun z=>by cases z),ok.frames,ok.stk,ok.exf,ok.bs,ok.bsz,ok.noex,ok.exfs,ok.funs,ok.frf⟩,I.os,I.bare,I.base,I.loc,I.cell,I.free,I.freeC,I.pin,I.hok,I.len⟩
theorem Inv.unhand(I:Inv (X.hand v) dh σ H s)(ok:X.Ok):Inv X dh σ H s:=⟨ok,I.os,I.bare,I.base,I.loc,I.cell,I.free,I.freeC,I.pin,I.hok,I.len⟩
theorem n8{M:E3}{A:AN}{E:Ab→Ad→Prop}{i:Nat}{x:Str}{pos:Pos}{Q:Unit→Ad→Prop}(I:Inv X dh σ H s)(hN:X.N.Nodup)(hi:X.N[i]?=some x)(hk:X.env.scope.names.lookup x=some .local)
  (h:∀ s',Inv X dh (σ.set i none) H s'→Q () s'):wpAny M A (do bindName X.env x .none;unbindBehindTheSuite X.env x pos) Q E s:=by
 obtain⟨m,hn,hl⟩:=id I.loc;have O:(X.env.scope.kind == .class || (X.env.scope.kind == .module && X.env.locals != X.env.globals))=false:=by rw[I.ok.kind];rfl
 have W:i < σ.length:=by rw[I.len];exact(AH.mp hi).1
 have cne:=I.cne;refine wpAny_nameGoes_keeps hk hn O fun h' v Y B=>?_;obtain⟨oL,_,_,hoL,_⟩:=id hn;refine h _ ⟨I.ok,I.os,I.bare,⟨fun b o e n Z J=>?_,fun b o e n Z J=>?_,I.base.free,fun b o e J=>?_,I.base.tups,I.base.frzs,I.base.tbls⟩,⟨_,Y,fun j y v' F U e3=>?_⟩,fun y c e=>?_,I.free,I.freeC,fun p hp=>?_,fun b ob e=>?_,by simpa using I.len⟩
 ·exact(B.2 b (AB (AI (Aq e) I.ok.above))).trans (I.base.keep b o e n Z J)
 ·obtain⟨sl,F⟩:=I.base.slot b o e n Z J;exact⟨sl,(B.2 b (AB (AI (Aq e) I.ok.above))).trans F⟩
 ·obtain⟨o',F⟩:=I.base.there b o e J;exact⟨o',(B.2 b (AB (AI (Aq e) I.ok.above))).trans F⟩
 ·by_cases hj:j=i
  ·subst hj;rw[Dz W]at U;cases U
  ·rw[D0 (DL hj)]at U;obtain⟨u',r',q⟩:=hl j y v' F U e3;refine⟨u',r',?_⟩;rcases q with⟨k,e⟩ | ⟨k,c,e,z⟩
   ·refine .inl ⟨k,?_⟩;have:y≠x:=fun e=>hj (tV hN F (e ▸ hi));simp[this,e]
   ·exact .inr ⟨k,c,e,z.sameBut B (cne y c e)⟩
 ·obtain⟨w',z⟩:=I.cell y c e;exact⟨w',z.sameBut B (cne y c e)⟩
 ·obtain⟨e,n,ne,nf,d⟩:=I.pin p hp;exact⟨(B.2 p.1 ne).trans e,n,ne,nf,d⟩
 ·refine(I.hok b ob e).stay (fun c w' hc q=>(B.2 c ?_).trans q) (fun _ q=>q) fun _ _ q=>q;rintro rfl;rcases hc with rfl | hc
  ·rw[I.free]at e;cases e
  ·rw[I.free]at hc;cases hc
end
def m4(y:Ac)(C:Ab):HO:=.ext fun h=>∃ ob vs,h.get? y=some ob∧ob.cls=C∧ob.data=.fields vs
theorem Fly.again{P:Ay}{w:AS}{M:E3}{A:AN}{env:Env}{outer:List Env}{base:A4}{H H':Hp}{s J:Ad}{x:Ac}{C:Ab}{E:Ab→Ad→Prop}{R:Ad→Prop}(F:Fly P w (env :: outer) H H' s x C J)
  (U:s.heap.FunFrames base (env :: outer)) (k:∀ z,Fly P w (env :: outer) H H' s x C { J with heap:=z }→R { J with heap:=z }):
  wpAny M A (setFlight (.ref x) none) (fun _ W=>R W) E J:=by
 obtain⟨B,a0,fl,hokB,hkB,htB⟩:=F.ex;refine lands_againW fl fun z O Y=>k z ?_;refine⟨F.os,F.bare,⟨B,a0,O,hokB,hkB,htB⟩,F.frf,fun b o q n hm=>?_,F.free,F.tups,F.frzs,F.tbls⟩;obtain⟨sl,e1⟩:=F.slot b o q n hm;obtain⟨_,o2,e2,hd⟩:=U.mem hm;rw[q]at e2;cases e2;obtain⟨sl2,e3⟩:=Y b _ e1 hd;exact⟨sl2,e3⟩
theorem aCg{P:Ay}{w:AS}{H:Hp}{h:A4}{a:Ac}{o:HO}(x:c5 P w H h a o):∃ ob,h.get? a=some ob:=by
 cases o with
 | lst xs=>obtain⟨_,_,_,_,e⟩:=x;exact⟨_,e⟩
 | tup xs=>obtain⟨_,_,_,_,e,_⟩:=x;exact⟨_,e⟩
 | dK di=>obtain⟨_,_,_,_,o,_,_,e,_⟩:=x;exact⟨_,e⟩
 | dT di=>obtain⟨_,_,_,_,o,_,_,e,_⟩:=x;exact⟨_,e⟩
 | set S n=>obtain⟨o,_,_,_,e,_⟩:=x;exact⟨_,e⟩
 | ins C dx fs=>obtain⟨_,_,_,e,_⟩:=x;exact⟨_,e⟩
 | own y=>exact x
 | xd fs=>obtain⟨_,⟨_,_,_,e,_⟩,_⟩:=x;exact⟨_,e⟩
 | rng lo hi=>obtain⟨_,_,_,e⟩:=x;exact⟨_,e⟩
 | frz ob u=>exact⟨_,x.1⟩
 | tbl ps=>exact⟨_,x⟩
 | met f y=>exact⟨_,x⟩
 | ext φ=>exact x.2.1
theorem Fly.track{X:Cx}{dh:List (Ac×Obj)}{σ:St}{H H':Hp}{s s':Ad}{x:Ac}{C:Ab}(I:Inv X dh σ H s)(ad:X.stack=X.env :: X.outer)(ae:X.env.frame=some X.env.locals)(ac:X.ex=[])(F:Fly X.prog X.w X.stack H H' s x C s'):
  H' x=none∧Inv X dh σ (upd H' x (m4 x C)) s':=by
 have J:=I.caught F;obtain⟨ob,vs,ho,hc,hd⟩:=F.obj;obtain⟨B,a0,fl,hokB,hkB,htB⟩:=F.ex;have hB:B.get? x=none:=fl.2.1;have hn:H' x=none:=by
  cases q:H' x with
  | none=>rfl
  | some o=>
   obtain⟨o',e⟩:=aCg (hokB x o q);rw[hB]at e;cases e
 have aa:∀ b∈frs X.stack,b≠x:=fun b O z=>by
  obtain⟨_,o,e,h⟩:=fl.2.2.1.mem O;rw[z,ho]at e;cases e;exact h vs hd
 have Y:X.env.locals∈frs X.stack:=by rw[ad];exact A9.mpr ⟨_,AL,ae⟩
 have U:∀ b o,s.heap.get? b=some o→b≠x:=fun b o e z=>by
  by_cases O:b∈frs X.stack
  ·exact aa b O z
  ·obtain⟨o',e'⟩:=htB b o e O;rw[z,hB]at e';cases e'
 have W:∀ b o,X.s₀.heap.get? b=some o→b≠x:=fun b o e=>by
  obtain⟨o',e'⟩:=I.base.there b o e (by rw[ac];simp);exact U b o' e'
 have Z:∀ b u,H' b=some u→b≠x:=fun b u e=>bB e hn;refine⟨hn,⟨J.ok,J.os,J.bare,⟨J.base.keep,J.base.slot,fun b o e n hx=>?_,J.base.there,fun b xs e=>?_,fun b o u e=>?_,fun b ps e=>?_⟩,J.loc,J.cell,?_,fun y c e=>?_,fun p hp=>?_,fun b o e=>?_,J.len⟩⟩
 ·rw[aW (W b o e)];exact J.base.free b o e n hx
 ·have q:=J.base.tups b xs e;rw[aW (Z b _ q)];exact q
 ·have q:=J.base.frzs b o u e;rw[aW (Z b _ q)];exact q
 ·obtain⟨more,q⟩:=J.base.tbls b ps e;exact⟨more,by rw[aW (Z b _ q)];exact q⟩
 ·rw[aW (aa _ Y)];exact J.free
 ·obtain⟨v,o,e2,h2⟩:=J.cell y c e;rw[aW fun z=>by rw[z,ho]at e2;cases e2;rw[hd]at h2;cases h2];exact J.freeC y c e
 ·obtain⟨e,n,ne,nf,d⟩:=J.pin p hp;refine⟨e,?_,ne,nf,d⟩;rw[aW (U _ _ (I.pin p hp).1)];exact n
 ·by_cases O:b=x
  ·subst O;rw[aH]at e;cases e;exact⟨⟨ob,vs,ho,hc,hd⟩,⟨ob,ho⟩,fun h1 h2 ⟨o1,v1,e1,c1,d1⟩ k=>⟨o1,v1,k _ e1,c1,d1⟩⟩
  ·rw[aW O]at e;exact(J.hok b o e).stay (fun c v _ q=>q) (fun c q=>by rw[aW (Z c _ q)];exact q) fun c xs q=>by rw[aW (Z c _ q)];exact q
def unE(ie:Nat)(D:oU):oU:={ nx:=fun σ H=>D.nx (σ.set ie none) H,rt:=D.rt,bk:=fun σ H=>D.bk (σ.set ie none) H,ct:=fun σ H=>D.ct (σ.set ie none) H }
theorem aFP{X:Cx}{U:List BP}{tb:XK→TS}{ie:Nat}{dn n:Str}{C0:Ac}{b₀:BP}{B:List BP}{th:TS}{np W pos:Pos}
  (J:X.stack=X.env :: X.outer) (ac:X.env.frame=some X.env.locals) (ag:X.ex=[]) (hb:PXs X U tb) (hg:Gl X dn) (hm:X.mg dn=some (.ref C0)) (hN:X.N.Nodup) (O:X.N[ie]?=some n) (hn:X.env.scope.names.lookup n=some .local)
  (hh:∀ v,PSs (X.hand v) (b₀ :: B) th) (hd:(dn == ("__debug__":Str))=false:=by decide):
  PS X (.Try U [.ExceptHandler (some (.Name dn np)) (some n) (b₀ :: B) W] [] [] pos) (fun D σ H=>tb (fun C _ H'=>exmOne X.K C (.ref C0)=some true∧∀ y,H' y=none→th (unE ie D) (σ.set ie (some (.ref y))) (upd H' y (m4 y C))) D σ H):=by
 constructor;intro dh s σ H D I h;refine wpAny_Try_except (BG (hb.run _ dh s σ H D I h) (fun f s1 r=>?_) fun e s1 z=>?_)
 ·cases f with
  | next=>exact Dy r
  | _=>exact r
 ·obtain⟨H1,s0,I1,x,C,H',rfl,F,hx,hy⟩:=z;have Z:s0.heap.FunFrames X.base (X.env :: X.outer):=J ▸ I1.stack;have F':Fly X.prog X.w (X.env :: X.outer) H1 H' s0 x C s1:=J ▸ F;refine F'.lands (Q:=X.xe) (R:=fun s4=>wpAny (model X.prog X.w) X.A (handleBy (.ref x) X.env [.ExceptHandler (some (.Name dn np)) (some n) (b₀ :: B) W]) _ _ s4) Z (J ▸ I1.ok.frames) ac fun h5 F5=>?_;have I5:=I1.caught (s':={ s1 with heap:=h5 }) (by rw[J];exact F5);refine wpAny_handleBy_cons (codeAny_handlers_test ?_) (by intro q;cases q);refine sV (X:=X.hand (.ref x)) (I5.hand _) hg hm ?_ hd;obtain⟨ob,vs,ho,hc,hd5⟩:=F5.obj;have LT:Looks (model X.prog X.w) h5 (typeOf (.ref x)) C:=by
   rw[← hc];unfold typeOf;exact(GQ ho).andThen .now
  refine(exm_one (M:=model X.prog X.w) I5.kIn LT hx).at ?_;refine codeAny_handlers_suite_as ?_;refine F5.again (R:=fun s4=>_) Z fun h6 F6=>?_;obtain⟨hnx,I6⟩:=Fly.track (s':={ s1 with heap:=h6 }) I1 J ac ag (by rw[J];exact F6);refine pN (X:=X.hand (.ref x)) (I6.hand _) hN O (.inl hn) (v:=.ref x) rfl (fun s7 I7=>?_) (.inr hn);refine BG ((hh (.ref x)).run dh s7 _ _ (unE ie D) I7 (hy x hnx)) (fun f s8 r=>?_) fun _ _ z=>Bz z;cases f with
  | next=>
   obtain⟨σ',H'',I8,q⟩:=r;exact n8 (I8.unhand I.ok) hN O hn fun s9 Y=>⟨_,_,Y,q⟩
  | brk=>
   obtain⟨σ',H'',I8,q⟩:=r;exact n8 (I8.unhand I.ok) hN O hn fun s9 Y=>⟨_,_,Y,q⟩
  | cont=>
   obtain⟨σ',H'',I8,q⟩:=r;exact n8 (I8.unhand I.ok) hN O hn fun s9 Y=>⟨_,_,Y,q⟩
  | ret u=>
   obtain⟨v,σ',H'',I8,rr,q⟩:=r;exact n8 (I8.unhand I.ok) hN O hn fun s9 Y=>⟨v,_,_,Y,rr,q⟩
open PySem PySem.Spec PyProof.Rows PySem.W Builtin Builtin.ObjectAttr PySem.Calls Builtin.Getset_descriptor
structure aAc(K:Ah)(D:Ac):Prop where
 ga:findIn K (.ref D) "__getattribute__"=some (some (.builtin "BaseException.__getattribute__"))
 gn:findIn K (.ref D) "__getattr__"=some none
 mb:mroIn K D (.type "BaseException")=some true
 hd:hasDictIn K D=true
 ha:findIn K (.ref D) "__class__"=some (some (.builtin "object.__class__"))
 hm:mroIn K D (.type "object")=some true
 hn:specialIn K (.builtin "object.__class__") "__get__"=some (some (.builtin "getset_descriptor.__get__"))
 ht:takesIn K (.builtin "object.__class__")=some true
def vM(y:Ac)(C:Ab)(h:A4):Prop:=∃ ob vs,h.get? y=some ob∧ob.cls=C∧ob.data=.fields vs
theorem vM.ty{y:Ac}{C:Ab}{h:A4}{M:E3}(x:vM y C h):Looks M h (typeOf (.ref y)) C:=by
 obtain⟨ob,vs,ho,hc,_⟩:=x;rw[← hc];unfold typeOf;exact(GQ ho).andThen .now
theorem aFQ{K:Ah}{M:E3}{h:A4}{D y:Ac}(k:aAc K D)(X:K.In h):Looks M h (Builtin.ObjectAttr.find (.ref y) (.ref D) "__class__") (.bind (.builtin "getset_descriptor.__get__") (.builtin "object.__class__")):=by
 have a1:=Gn (M:=M) X k.ha;have a2:Looks M h (Builtin.ObjectAttr.getOf (some (.builtin "object.__class__"))) (some (.builtin "getset_descriptor.__get__")):=looks_specialIn X k.hn;have a3:=looks_takesIn (M:=M) X k.ht;exact a1.andThen (a2.andThen (Looks.andThen (a:=some (.builtin "getset_descriptor.__get__",.builtin "object.__class__")) (a3.andThen .now) (Looks.tag .now)))
theorem aHr{prog:Ay}{w:AS}{A:AN}{s:Ad}{K:Ah}{D y:Ac}{z:Ab}{R:Result→Ad→Prop}(k:aAc K D)(X:K.In s.heap)(p:vM y (.ref D) s.heap)(q:R (.ok (.ret (.ref D))) s):
  codeAny (model prog w) A (.call (.builtin "getset_descriptor.__get__") ⟨[.builtin "object.__class__",.ref y,z],[]⟩) R s:=by
 obtain⟨hp,g,d,t,os⟩:=s;have B:=p.ty (M:=model prog w);have F:=GB (M:=model prog w) X k.hm;refine D8 KF.slot_gs.plain KF.entry_gs (KF.slot_gs.check _ _ _ _ _ _ _ _ KF.type_class (KF.args_gs _ _ _) (?_));unfold Builtin.«getset_descriptor.__get__» descrGet;rw[dga_obj];refine Aa (Af ?_);unfold descrGetter descrCheckInstance descrNameAndClass isInstance;simp only[KF.owner_class]
 repeat lk
 refine⟨Fe _ (by decide),BR KF.entry_class (?_)⟩;unfold Builtin.«object.__class__» shownTypeOf
 repeat lk
 exact q
theorem aEf{prog:Ay}{w:AS}{A:AN}{E:Ab→Ad→Prop}{z:A4}{g:Array FJ}{d:GX}{t:Nat}{os:OsState}{K:Ah}{D y:Ac}{tk:Tok}{Q:Fin→Ad→Prop}(k:aAc K D)(X:K.In z)(p:vM y (.ref D) z)(q:Q (.done (.ret (.ref D))) ⟨z,g,d,t,os⟩):
  wpAny (model prog w) A (Builtin.«object.__getattribute__» ⟨[.ref y,.str "__class__" tk],[]⟩) Q E ⟨z,g,d,t,os⟩:=by
 have F:=p.ty (M:=model prog w);have B:=aFQ (M:=model prog w) (y:=y) k X;unfold Builtin.«object.__getattribute__»;refine Aa (Af (Aa (Af (Aa (F.at (Aa (B.at ?_)))))));show wpAny _ _ (holding [.builtin "object.__class__"] (call (.builtin "getset_descriptor.__get__") [.builtin "object.__class__",.ref y,.ref D]) >>= ret) _ _ _;exact Aa (Be (CM (aHr (s:=⟨z,g,d,t,os⟩) k X p (Af q))))
theorem aEg{M:E3}{A:AN}{E:Ab→Ad→Prop}{B:A4}{g:Array FJ}{d:GX}{t:Nat}{os:OsState}{K:Ah}{D y:Ac}{z:Ab}{Q:Unit→Ad→Prop}(k:aAc K D)(X:K.In B)(p:vM y (.ref D) B)(q:Q () ⟨B,g,d,t,os⟩):
  wpAny M A (checkBuiltinCall "BaseException.__getattribute__" ⟨[.ref y,z],[]⟩) Q E ⟨B,g,d,t,os⟩:=by
 have J:=p.ty (M:=M);have O:=GB (M:=M) X k.mb;have U:builtinKind "BaseException.__getattribute__"=some .slot:=by decide
 have W:splitId "BaseException.__getattribute__"=some ("BaseException","__getattribute__"):=by decide
 have Y:=F.args_bexc_ga (.ref y) z;simp only[checkBuiltinCall,U,W];refine Aa (Aa (J.at (O.at ?_)))
 repeat wp_step
 exact q
theorem aEh{prog:Ay}{w:AS}{A:AN}{E:Ab→Ad→Prop}{s:Ad}{K:Ah}{D y:Ac}{Q:Option Ab→Ad→Prop}(k:aAc K D)(X:K.In s.heap)(p:vM y (.ref D) s.heap)(q:Q (some (.ref D)) { s with toks:=s.toks + 1 }):
  wpAny (model prog w) A (getAttr? (.ref y) "__class__") Q E s:=by
 obtain⟨hp,g,d,t,os⟩:=s;have B:=p.ty (M:=model prog w);have U:=Gn (M:=model prog w) X k.ga;have O:=Gn (M:=model prog w) X k.gn;have W:=GB (M:=model prog w) X k.mb;have J:=F.excAttr_ValueError.ga.bind (.ref y);unfold getAttr? getAttrBy? getAttrBy;refine Aa (wpAny_mkText (Aa (Dv (Be (Aa (B.at (Aa (U.at ?_))))))));show wpAny _ _ (if (onTheHeap (.ref D) && EZ "BaseException.__getattribute__" == EZ "object.__getattribute__")=true then _ else getAttrByItsOwn _ _ _ _ _ _) _ _ _;have z:(EZ "BaseException.__getattribute__" == EZ "object.__getattribute__")=false:=by decide
 rw[Ia (by rw[z,Bool.and_false];exact AD)];unfold getAttrByItsOwn hookBefore;refine Aa ?_;show wpAny _ _ (typeLookup (.ref D) "__getattr__") _ _ _;refine O.at ?_;refine Aa (Dv (Be ?_));show wpAny _ _ (boundAndCalled _ _ _) _ _ _;unfold boundAndCalled;rw[J];refine Aa (Af ?_);refine CM (D8 F.excAttr_ValueError.ga.plain F.entry_bexc_ga (aEg k X p (aEf k X p ?_)));exact Af (Af q)
theorem aA8{K:Ah}{y D:Ac}(k:aAc K D):KitX K (.ref y) (.ref D) (vM y (.ref D)):=by
 have hc:∃ o cd,K.lookup D=some o∧o.data=.cls cd:=by
  obtain⟨cdD,hcD,_⟩:=any_some k.hd;unfold clsIn at hcD;split at hcD
  ·rename_i c' Z J O B;exact⟨_,J,B,rfl⟩
  ·cases hcD
 obtain⟨o,cd,B,hd⟩:=hc;refine⟨fun M h _ p=>p.ty,fun M h X _ A Q E s kp q=>?_,fun h U Y W n sl X F=>Bool.eq_false_iff.mpr fun q=>?_,fun X p q=>aEh k X p q⟩
 ·have e:=kp _ _ (X _ _ B);obtain⟨oc,od,oda,osl⟩:=o;dsimp only at hd;subst hd;unfold isType loadHead;exact Aa (wpAny_loadPart e (Af q))
 ·have e:D=U:=AJ.inj (beq_iff_eq.mp q);subst e;have z:=(X _ _ B).symm.trans F;cases z;cases hd
section
variable{X:Cx}
inductive lS(K:Ah)(xs:List V)(H:Hp)(Q:VK):Prop
 | mk (y D:Ac) (v:V) (c:Ab) (b:Bool) (q0:xs=[.ref y,v]) (q1:(∀ u,dA v u→u=c)) (q2:H y=some (m4 y (.ref D))) (q3:aAc K D) (q4:kitOne K (.ref D) c=some b) (q5:Q (.bl b) H):lS K xs H Q
def vN(K:Ah):List V→Hp→VK→Prop:=fun xs H Q=>lS K xs H Q
theorem fG:gH X (.builtin "isinstance") (vN X.K):=by
 intro dh s σ H xs J Q I r h;obtain⟨y,D,v,c,b,rfl,hv,hy,k,e,q⟩:=h;cases r with
 | cons F r=>
 cases r with
 | cons B r=>
 cases r;cases(show _=AJ y from F);cases hv _ B;obtain⟨p,_⟩:c5 X.prog X.w H s.heap y (m4 y (.ref D)):=I.hok _ _ hy;exact kia_one (aA8 k) I.kIn p e (fun z=>nomatch z) fun tk=>⟨.bl b,H,I.tok tk,rfl,q⟩
inductive jZ(K:Ah)(xs:List V)(H:Hp)(Q:VK):Prop
 | mk (y D tp:Ac) (cs:List Ac) (b:Bool) (q0:xs=[.ref y,.ref tp]) (q1:H tp=some (.tup (cs.map V.ref))) (q2:H y=some (m4 y (.ref D))) (q3:aAc K D) (q4:kitAny K (.ref D) (cs.map AJ)=some b) (q5:Q (.bl b) H):jZ K xs H Q
def sQ(K:Ah):List V→Hp→VK→Prop:=fun xs H Q=>jZ K xs H Q
theorem wX:gH X (.builtin "isinstance") (sQ X.K):=by
 intro dh s σ H xs J Q I r h;obtain⟨y,D,tp,cs,b,rfl,ht,hy,k,e,q⟩:=h;cases r with
 | cons F r=>
 cases r with
 | cons B r=>
 cases r;cases(show _=AJ y from F);cases(show _=AJ tp from B);obtain⟨p,_⟩:c5 X.prog X.w H s.heap y (m4 y (.ref D)):=I.hok _ _ hy;obtain⟨_,its,rv,hT⟩:c5 X.prog X.w H s.heap tp (.tup (cs.map V.ref)):=I.hok _ _ ht;obtain⟨⟨cls,dd,data,sl⟩,ho,hc,n,hd⟩:=hT.tup;simp only at hc hd;subst hc hd;obtain rfl:=aDe rv;exact kia_tup (aA8 k) I.kIn p ho e (fun z=>nomatch z) fun tk=>⟨.bl b,H,I.tok tk,rfl,q⟩
end
def jC(H:Hp)(L:List (Ac×Obj)):Hp:=fun b=>match L.lookup b with
 | some o=>some (.frz o (.own 0))
 | none=>H b
def eY(H:Hp)(L:List (Ac×Obj)):Hp:=fun b=>match L.lookup b with
 | some _=>none
 | none=>H b
section
variable{H H':Hp}{L:List (Ac×Obj)}{b:Ac}{o:Obj}
theorem hJ(e:L.lookup b=some o):jC H L b=some (.frz o (.own 0)):=by unfold jC;rw[e]
theorem dH(e:L.lookup b=none):jC H L b=H b:=by unfold jC;rw[e]
theorem f6(e:L.lookup b=some o):eY H L b=none:=by unfold eY;rw[e]
theorem c0(e:L.lookup b=none):eY H L b=H b:=by unfold eY;rw[e]
variable{P:Ay}{w:AS}{h h':A4}{fs:List Ac}
theorem aAd(ok:HOk P w H h)(B:∀ b o,L.lookup b=some o→h.get? b=some o∧H b=none):HOk P w (jC H L) h:=fun b u e=>by
 have st:∀ c v,H c=some v→jC H L c=some v:=fun c v q=>by
  cases z:L.lookup c with
  | none=>rw[dH z];exact q
  | some o=>rw[(B c o z).2]at q;cases q
 cases z:L.lookup b with
 | none=>
  rw[dH z]at e;exact(ok b u e).stay (fun _ _ _ q=>q) (fun c q=>st c _ q) fun c xs q=>st c _ q
 | some o=>
  rw[hJ z]at e;cases e;exact⟨(B b o z).1,_,(B b o z).1⟩
theorem x8(ok:HOk P w H h)(F:∀ b o,L.lookup b=some o→H b=some (.frz o (.own 0))):HOk P w (eY H L) h:=fun b u e=>by
 have st:∀ c v,(∀ o u,v≠.frz o u)→H c=some v→eY H L c=some v:=fun c v n q=>by
  cases B:L.lookup c with
  | none=>rw[c0 B];exact q
  | some o=>rw[F c o B]at q;cases q;exact absurd rfl (n _ _)
 cases B:L.lookup b with
 | none=>
  rw[c0 B]at e;exact(ok b u e).stay (fun _ _ _ q=>q) (fun c q=>st c _ (fun _ _ z=>nomatch z) q) fun c xs q=>st c _ (fun _ _ z=>nomatch z) q
 | some o=>rw[f6 B]at e;cases e
theorem aFR(u:Un fs [] (jC H L) H' h h')(ok:HOk P w H' h')(hn:∀ b o,L.lookup b=some o→h.get? b=some o∧H b=none∧b ∉ fs):Un fs [] H (eY H' L) h h'∧HOk P w (eY H' L) h':=by
 have F:∀ b o,L.lookup b=some o→H' b=some (.frz o (.own 0)):=fun b o e=>u.frzs b o _ (hJ e);have out:∀ b v,H b=some v→L.lookup b=none:=fun b v q=>by
  cases B:L.lookup b with
  | none=>rfl
  | some o=>rw[(hn b o B).2.1]at q;cases q
 have J:∀ b v,(∀ o u,v≠.frz o u)→H' b=some v→L.lookup b=none:=fun b v n q=>by
  cases B:L.lookup b with
  | none=>rfl
  | some o=>rw[F b o B]at q;cases q;exact absurd rfl (n _ _)
 refine⟨⟨fun b o q n nb x=>?_,fun b o q n nb x=>?_,fun b o q n x=>?_,fun b o q x=>?_,fun b xs q=>?_,fun b o v q=>?_,fun b ps q=>?_⟩,x8 ok F⟩
 ·cases B:L.lookup b with
  | none=>exact u.keep b o q (by rw[dH B];exact n) nb x
  | some o'=>
   have:=(hn b o' B).1;rw[q]at this;cases this;exact(ok b _ (F b o B)).1
 ·cases B:L.lookup b with
  | none=>exact u.slot b o q (by rw[dH B];exact n) nb x
  | some o'=>exact absurd nb (hn b o' B).2.2
 ·cases B:L.lookup b with
  | none=>rw[c0 B];exact u.free b o q (by rw[dH B];exact n) x
  | some o'=>exact f6 B
 ·exact u.there b o q x
 ·have B:=out b _ q;rw[c0 B];exact u.tups b xs (by rw[dH B];exact q)
 ·have B:=out b _ q;rw[c0 B];exact u.frzs b o v (by rw[dH B];exact q)
 ·have B:=out b _ q;obtain⟨more,z⟩:=u.tbls b ps (by rw[dH B];exact q);exact⟨more,by rw[c0 B];exact z⟩
theorem aFS(u:Un fs [] (eY H L) H' h h')(ok:HOk P w H' h')(F:∀ b o,L.lookup b=some o→h.get? b=some o∧H b=some (.frz o (.own 0))∧b ∉ fs):Un fs [] H (jC H' L) h h'∧HOk P w (jC H' L) h':=by
 have keep:∀ b o,L.lookup b=some o→h'.get? b=some o∧H' b=none:=fun b o e=>⟨u.keep b o (F b o e).1 (f6 e) (F b o e).2.2 (by simp),u.free b o (F b o e).1 (f6 e) (by simp)⟩
 have out:∀ b v,H b=v→(∀ o u,v≠some (.frz o u))→L.lookup b=none:=fun b v q n=>by
  cases B:L.lookup b with
  | none=>rfl
  | some o=>rw[(F b o B).2.1]at q;exact absurd q.symm (n _ _)
 refine⟨⟨fun b o q n nb x=>?_,fun b o q n nb x=>?_,fun b o q n x=>?_,fun b o q x=>u.there b o q x,fun b xs q=>?_,fun b o v q=>?_,fun b ps q=>?_⟩,aAd ok keep⟩
 ·have B:=out b _ n (fun _ _ z=>nomatch z);exact u.keep b o q (by rw[c0 B];exact n) nb x
 ·have B:=out b _ n (fun _ _ z=>nomatch z);exact u.slot b o q (by rw[c0 B];exact n) nb x
 ·have B:=out b _ n (fun _ _ z=>nomatch z);rw[dH B];exact u.free b o q (by rw[c0 B];exact n) x
 ·have B:=out b _ q (fun _ _ z=>nomatch z);rw[dH B];exact u.tups b xs (by rw[c0 B];exact q)
 ·cases B:L.lookup b with
  | none=>rw[dH B];exact u.frzs b o v (by rw[c0 B];exact q)
  | some o'=>
   have:=(F b o' B).2.1;rw[q]at this;cases this;exact hJ B
 ·have B:=out b _ q (fun _ _ z=>nomatch z);obtain⟨more,z⟩:=u.tbls b ps (by rw[c0 B];exact q);exact⟨more,by rw[dH B];exact z⟩
theorem Fly.refrz{outer:List Env}{s s':Ad}{x:Ac}{C:Ab}(F:Fly P w outer (eY H L) H' s x C s')(O:∀ b o,L.lookup b=some o→s.heap.get? b=some o∧H b=some (.frz o (.own 0))∧b ∉ frs outer)(frf:∀ b∈frs outer,H b=none):Fly P w outer H (jC H' L) s x C s':=by
 obtain⟨B,a0,fl,hokB,hkB,htB⟩:=F.ex;have keep:∀ b o,L.lookup b=some o→B.get? b=some o∧H' b=none:=fun b o e=>⟨hkB b o (O b o e).1 (f6 e) (O b o e).2.2,F.free b o (O b o e).1 (f6 e)⟩
 have out:∀ b v,H b=v→(∀ o u,v≠some (.frz o u))→L.lookup b=none:=fun b v q n=>by
  cases J:L.lookup b with
  | none=>rfl
  | some o=>rw[(O b o J).2.1]at q;exact absurd q.symm (n _ _)
 refine⟨F.os,F.bare,⟨B,a0,fl,aAd hokB keep,fun b o q n nb=>?_,htB⟩,frf,fun b o q n nb=>?_,fun b o q n=>?_,fun b xs q=>?_,fun b o v q=>?_,fun b ps q=>?_⟩
 ·have J:=out b _ n (fun _ _ z=>nomatch z);exact hkB b o q (by rw[c0 J];exact n) nb
 ·have J:=out b _ n (fun _ _ z=>nomatch z);exact F.slot b o q (by rw[c0 J];exact n) nb
 ·have J:=out b _ n (fun _ _ z=>nomatch z);rw[dH J];exact F.free b o q (by rw[c0 J];exact n)
 ·have J:=out b _ q (fun _ _ z=>nomatch z);rw[dH J];exact F.tups b xs (by rw[c0 J];exact q)
 ·cases J:L.lookup b with
  | none=>rw[dH J];exact F.frzs b o v (by rw[c0 J];exact q)
  | some o'=>
   have:=(O b o' J).2.1;rw[q]at this;cases this;exact hJ J
 ·have J:=out b _ q (fun _ _ z=>nomatch z);obtain⟨more,z⟩:=F.tbls b ps (by rw[c0 J];exact q);exact⟨more,by rw[dH J];exact z⟩
end
def cxL(P:Ay)(w:AS)(K:Ah)(mg:Str→Option Ab)(base:A4)(N:List Str)(qual:Str)(scope:CH)(f:Ac)(cd:Ab)(cl:List (Str×Ac))(A:AN)(outer:List Env)(s:Ad)(H:Hp)(E:XK):Cx where
 prog:=P
 w:=w
 K:=K
 mg:=mg
 base:=base
 A:=A.deeper (envX qual scope s.heap.objs.size f cd cl)
 N:=N
 s₀:=s
 H₀:=H
 env:=envX qual scope s.heap.objs.size f cd cl
 outer:=outer
 stack:=envX qual scope s.heap.objs.size f cd cl :: outer
 ex:=[]
 calm:=true
 fn:=fun _=>false
 pn:=[]
 xe:=fun e s'=>wpAny (model P w) (A.deeper (envX qual scope s.heap.objs.size f cd cl)) (leaving (envX qual scope s.heap.objs.size f cd cl) e) (fun _ s''=>CXr P w outer H s E e s'') (fun e' s''=>CXr P w outer H s E e' s'') s'
section
variable{P:Ay}{w:AS}{K:Ah}{mg:Str→Option Ab}{base:A4}{N:List Str}{qual:Str}{scope:CH}{f:Ac}{cd:Ab}{A:AN}{outer:List Env}{s:Ad}{H:Hp}{E:XK}
theorem vO{cl:List (Str×Ac)}{E':XK}(hE:∀ C dx H',E' C dx H'→E C dx H'):qJ (CXr P w) (cxL P w K mg base N qual scope f cd cl A outer s H E) E':=by
 rintro dh σ H1 s1 e s2 I ⟨x,C,H2,rfl,F,W⟩;have Y:s1.heap.FunFrames base (envX qual scope s.heap.objs.size f cd cl :: outer):=I.stack;have ak:∀ b∈frs (envX qual scope s.heap.objs.size f cd cl :: outer),H1 b=none:=I.stkFree;obtain⟨B,a0,fl,hokB,hkB,htB⟩:=F.ex;have fl:F4 B (envX qual scope s.heap.objs.size f cd cl :: outer) x C a0 s2.heap:=fl;show wpAny _ _ (leaving _ _) _ _ _;refine wpAny_leaves_onW (base:=B) (L:=s.heap.objs.size) I.ok.frames rfl fl fun Z y1 y2=>?_;have hL:∀ b,b∈frs (envX qual scope s.heap.objs.size f cd cl :: outer)→b=s.heap.objs.size∨b∈frs outer:=fun b hb=>by
  obtain⟨env,U,J⟩:=A9.mp hb;rcases Al.mp U with rfl | U
  ·exact .inl (BS.inj J).symm
  ·exact .inr (A9.mpr ⟨env,U,J⟩)
 have up:∀ b,b∈frs outer→b∈frs (envX qual scope s.heap.objs.size f cd cl :: outer):=fun b J=>by
  obtain⟨env,U,J⟩:=A9.mp J;exact A9.mpr ⟨env,.tail _ U,J⟩
 have nox:∀ b:Ac,b ∉ (cxL P w K mg base N qual scope f cd cl A outer s H E).ex:=fun b=>by simp[cxL]
 have O:∀ b o,s1.heap.get? b=some o→H1 b=none→b∈frs (envX qual scope s.heap.objs.size f cd cl :: outer)→∃ sl,Z.get? b=some { o with slots:=sl }:=fun b o q n hm=>by
  obtain⟨sl,e1⟩:=F.slot b o q n hm;obtain⟨_,o2,e2,hd⟩:=Y.mem hm;rw[q]at e2;cases e2;obtain⟨sl2,e3⟩:=y2 b _ e1 hd;exact⟨sl2,e3⟩
 refine⟨x,C,H2,rfl,⟨F.os.trans I.os,F.bare,⟨B,a0,y1,hokB,fun b o q n nf=>hkB b o (I.base.keep b o q n nf (nox b)) (I.base.free b o q n (nox b)) fun hm=>?_,fun b o q nf=>?_⟩,I.ok.frf,fun b o q n J=>?_,fun b o q n=>?_,fun b xs q=>F.tups b xs (I.base.tups b xs q),fun b o u q=>F.frzs b o u (I.base.frzs b o u q),fun b ps q=>?_⟩,hE _ _ _ W⟩
 ·rcases hL b hm with z | z
  ·rw[z]at q;exact absurd (Aq q) (Bg _)
  ·exact nf z
 ·obtain⟨o1,e1⟩:=I.base.there b o q (nox b);refine htB b o1 e1 fun hm=>?_;rcases hL b hm with z | z
  ·rw[z]at q;exact absurd (Aq q) (Bg _)
  ·exact nf z
 ·obtain⟨sl,e1⟩:=I.base.slot b o q n J (nox b);obtain⟨sl2,e2⟩:=O b _ e1 (I.base.free b o q n (nox b)) (up b J);exact⟨sl2,e2⟩
 ·obtain⟨o1,e1⟩:=I.base.there b o q (nox b);exact F.free b o1 e1 (I.base.free b o q n (nox b))
 ·obtain⟨m1,e1⟩:=I.base.tbls b ps q;obtain⟨m2,e2⟩:=F.tbls b _ e1;exact⟨m1 ++ m2,by rw[← E9];exact e2⟩
structure aFT(cl:List (Str×Ac))(L:List (Ac×Obj))(fs:List Str)(zs:List V):Prop where
 pr:Er (fun(x:Str) (v:V)=>∃ b o u,cl.lookup x=some b∧L.lookup b=some o∧o.data=.cell (some u)∧dA v u) fs zs
 all:∀ x b,cl.lookup x=some b→∃ o u,L.lookup b=some o∧o.data=.cell u
 inj:∀ x y b,cl.lookup x=some b→cl.lookup y=some b→x=y
theorem aAe{fs:List Str}{c:Ac}{B:DO}{O:Bc}{cl:List (Str×Ac)}{L:List (Ac×Obj)}{zs:List V}{Q:VK}{k:Nat}{te:TE}
  (W:zI P w K mg base A outer s H) (hr:cY (k + 1) A) (S:aFN [] fs scope) (hhas:∀ x,scope.names.lookup x=some .free→∃ b,cl.lookup x=some b)
  (hf:H f=some (nN f qual B O scope cl c)) (hc:H c=some (mM c qual)) (hb:∀(pm ap aj:Ab),bindArgs (kla_fn "<lambda>" qual B O scope cl pm ap aj) ⟨[],[]⟩=pure [])
  (tk:aFT cl L fs zs) (hL:∀ b o,L.lookup b=some o→H b=some (.frz o (.own 0))) (ak:∀ b o,L.lookup b=some o→b ∉ frs outer)
  (aa:∀ s,PE (cxL P w K mg base fs qual scope f (.ref c) cl A outer s (eY H L) (fun C dx H'=>(∀ b o,L.lookup b=some o→H' b=none)→E C dx (jC H' L))) O te) (hq:te (zs.map some) (eY H L) (fun v H'=>(∀ b o,L.lookup b=some o→H' b=none)→Q v (jC H' L))):
  codeAny (model P w) A (.call (.ref f) ⟨[],[]⟩) (CR (CXr P w) outer P w H s Q E) s:=by
 obtain⟨⟨pm,aj,ho⟩,_,_⟩:c5 P w H s.heap f (nN f qual B O scope cl c):=W.hok _ _ hf;obtain⟨hrec,_,_⟩:c5 P w H s.heap c (mM c qual):=W.hok _ _ hc;have hg:∀ b o,L.lookup b=some o→s.heap.get? b=some o∧H b=some (.frz o (.own 0))∧b ∉ frs outer:=fun b o e=>⟨(W.hok _ _ (hL b o e)).1,hL b o e,ak b o e⟩
 have ai:=x8 W.hok hL;have Y:zI P w K mg base A outer s (eY H L):=⟨W.frames,W.mod,fun b o q=>⟨(W.bs b o q).1,by
  cases el:L.lookup b with
  | none=>rw[c0 el];exact(W.bs b o q).2
  | some o'=>exact f6 el⟩,W.bsz,W.funs,fun b hb=>by
  cases el:L.lookup b with
  | none=>rw[c0 el];exact W.frf b hb
  | some o'=>exact f6 el,ai,W.bare⟩
 refine kla_callFunE hr.depth ho rfl S.co S.gen rfl hrec ?_;rw[hb];refine Af (wpAny_newFunctionEnv S.nocell (fun y hy=>nomatch hy) (fun h₁ aq am=>?_) S.kind);have Z:∀ b o,s.heap.get? b=some o→h₁.get? b=some o:=fun b o e=>am.extBut b o (AB (Aq e)) (Ai _ e);refine⟨(W.mod.nolimit.keeps fun b o e=>(W.bs b o e).1).keeps Z,?_⟩;show codeAny _ _ (.expr O (envX qual scope s.heap.objs.size f (.ref c) cl)) _ _;have ac:∀ b:Ac,b ∉ (cxL P w K mg base fs qual scope f (.ref c) cl A outer s (eY H L) (fun C dx H'=>(∀ b o,L.lookup b=some o→H' b=none)→E C dx (jC H' L))).ex:=fun b z=>absurd (show b∈([]:List Ac) from z) (by simp);have J:Inv (cxL P w K mg base fs qual scope f (.ref c) cl A outer s (eY H L) (fun C dx H'=>(∀ b o,L.lookup b=some o→H' b=none)→E C dx (jC H' L))) [] (zs.map some) (eY H L) { s with heap:=h₁,toks:=s.toks + 0 }:=by
  refine⟨⟨Y.mod,S.kind,rfl,rfl,Ap _,fun y z b h1 h2=>tk.inj y z b h1 h2,fun y hy=>?_,fun y b z _=>absurd z (by simp[cxL]),fun _=>hr.hd,Around.frames_deeper Y.frames,.inr ⟨rfl,rfl⟩,fun b z=>absurd z (ac b),Y.bs,Y.bsz,fun b _ _=>ac b,fun b z=>absurd z (ac b),Y.funs,Y.frf⟩,
   rfl,Y.bare,Un.kept Z,⟨_,aq,fun i y v h1 h2 h3=>?_⟩,fun y b h=>?_,Y.hok.fresh (Ap _),fun y b h=>?_,fun p hp=>absurd (show p∈([]:List (Ac×Obj)) from hp) (by simp),Y.hok.kept Z,?_⟩
  ·rcases hy with hy | hy
   ·exact absurd rfl (S.nocell _ (By (show scope.names.lookup y=some .cell from hy)))
   ·exact hhas y hy
  ·have ah:fs[i]?=some y:=h1;have hz:zs[i]?=some v:=by
    rw[AK]at h2;cases e:zs[i]? with
    | none=>rw[e]at h2;cases h2
    | some a=>rw[e]at h2;cases h2;rfl
   obtain⟨b,o,u,a1,a2,a3,a4⟩:=Paired.at tk.pr ah hz;exact⟨u,a4,.inr ⟨.inr (S.fr y (AF ah)),b,a1,o,Z _ _ (hg b o a2).1,a3⟩⟩
  ·obtain⟨o,u,a2,a3⟩:=tk.all y b h;exact⟨u,o,Z _ _ (hg b o a2).1,a3⟩
  ·obtain⟨o,u,a2,a3⟩:=tk.all y b h;exact f6 a2
  ·show _=fs.length;rw[Ae,tk.pr.length]
 refine kla_codeExpr (BG ((aa s) [] _ _ (eY H L) _ J hq) (fun u s' hu=>?_) fun e s' z=>?_)
 ·obtain⟨v,H',J',rv,q⟩:=hu;obtain⟨u2,ok2⟩:=aFS J'.base J'.hok hg;exact⟨v,_,J'.os,J'.bare,u2,ok2,rv,q fun b o e=>J'.base.free b o (hg b o e).1 (f6 e) (by simp[cxL])⟩
 ·have af:∀ e U,CXr P w outer (eY H L) s (fun C dx H'=>(∀ b o,L.lookup b=some o→H' b=none)→E C dx (jC H' L)) e U→CXr P w outer H s E e U:=fun e U ⟨x,C,H',Y,F,q⟩=>⟨x,C,_,Y,F.refrz hg W.frf,q fun b o e=>F.free b o (hg b o e).1 (f6 e)⟩
  exact BG z (fun _ U q=>af e U q) fun e' U q=>af e' U q
end
def aFU(P:Ay)(w:AS)(K:Ah)(mg:Str→Option Ab)(base:A4)(k:Nat)(f:Ac)(H:Hp)(Q:VK)(E:XK):Prop:=
 (∃ qual params body scope cl c,H f=some (nN f qual params body scope cl c))∧∀(A:AN) (outer:List Env) (s:Ad),cY k A→zI P w K mg base A outer s H→codeAny (model P w) A (.call (.ref f) ⟨[],[]⟩) (CR (CXr P w) outer P w H s Q E) s
theorem aEi{M:E3}{f:Ac}(h:A4)(x:∃ o fd,h.get? f=some o∧o.data=.func fd):∃ k,(k=Keeper.frame∨k=Keeper.machine∨k=Keeper.boundFrame)∧Looks M h (keeperOf (.ref f)) k:=by
 obtain⟨⟨oc,od,oda,osl⟩,fd,ho,hd⟩:=x;dsimp only at hd;subst hd;exact⟨.frame,.inl rfl,(GQ (part:=none) ho).andThen .now⟩
section
variable{X:Cx}{k:Nat}{x:Str}{p pos:Pos}
theorem aJr{tv:TE}(hv:PE X.nox (.Name x p) tv)(hr:cY k X.A):
  PX X (.Call (.Name x p) [] [] pos) (fun W=>fun σ H Q=>tv σ H fun v H1=>∃ f,v=.ref f∧aFU X.prog X.w X.K X.mg X.base k f H1 Q W):=by
 constructor;intro W dh s σ H Q I h;refine Cf (BG (hv dh s σ H _ (I.wish _) h) (fun u U ⟨y,H1,F,ry,f,ey,⟨qual,B,J,scope,Z,c,Y⟩,hc⟩=>?_) fun _ _ z=>Bz z);subst ey;cases ry;have F:=F.unwish;obtain⟨⟨pm,ctv,ho⟩,_,_⟩:c5 X.prog X.w H1 U.heap f (nN f qual B J scope Z c):=F.hok _ _ Y;refine callWith_of rfl aEi (evalArgs_nil3 ⟨⟨_,_,ho,rfl⟩,?_⟩);refine CM (Cq (hc X.A X.stack U hr F.env0) fun r s' O=>?_);cases r with
 | error e=>exact⟨H1,U,F,O⟩
 | ok fl=>
  cases fl with
  | ret u=>exact F.after O
  | next=>exact Bz O
  | brk=>exact Bz O
  | cont=>exact Bz O
theorem rQ{dh:List (Ac×Obj)}{σ:St}{H:Hp}{s:Ad}{cl:List (Str×Ac)}(I:Inv X dh σ H s)(hhas:∀ x b,X.env.cells.lookup x=some b→∃ U,cl.lookup x=some U∨True):∀{fs:List Str}{zs:List V},aIt X σ fs zs→
  ∃ L:List (Ac×Obj),(∀ q∈L,s.heap.get? q.1=some q.2∧∃ y∈fs,X.env.cells.lookup y=some q.1)∧Er (fun(y:Str) (v:V)=>∃ b o u,X.env.cells.lookup y=some b∧(b,o)∈L∧o.data=.cell (some u)∧dA v u) fs zs
 | _,_,.nil=>⟨[],(fun q B=>nomatch B),.nil⟩
 | y :: fs,v :: zs,.cons r t=>by
  obtain⟨L,h1,h2⟩:=rQ I hhas t;obtain⟨i,a1,a2,a3⟩:=r;obtain⟨m,_,lk⟩:=I.loc;obtain⟨u,ru,lo⟩:=lk i y v a1 a2 (.inr (.inl a3));rcases lo with⟨a4,_⟩ | ⟨_,b,a4,o,a5,a6⟩
  ·rw[a3]at a4;cases a4
  ·refine⟨(b,o) :: L,fun q B=>?_,.cons ⟨b,o,u,a4,AL,a6,ru⟩ (L2.Paired.mapP h2 fun y v ⟨b,o,u,J,F,O⟩=>⟨b,o,u,J,AM _ F,O⟩)⟩;rcases Al.mp B with rfl | B
   ·exact⟨a5,y,AL,a4⟩
   ·obtain⟨J,z,F,O⟩:=h1 q B;exact⟨J,z,AM _ F,O⟩
theorem x9:∀{L:List (Ac×Obj)}{b:Ac}{o:Obj},L.lookup b=some o→(b,o)∈L
 | [],_,_,h=>nomatch h
 | (c,q) :: L,b,o,h=>by
  rw[A5]at h;cases e:b == c with
  | true=>
   rw[e]at h;cases h;rw[beq_iff_eq.mp e];exact AL
  | false=>
   rw[e]at h;exact AM _ (x9 h)
theorem qR:∀{L:List (Ac×Obj)}{b:Ac}{o:Obj},(b,o)∈L→∃ o',L.lookup b=some o'
 | [],_,_,h=>nomatch h
 | (c,q) :: L,b,o,h=>by
  rw[A5];cases e:b == c with
  | true=>exact⟨q,rfl⟩
  | false=>
   rcases Al.mp h with z | z
   ·cases z;rw[beq_self_eq_true]at e;cases e
   ·exact qR z
end
inductive Thn(H:Hp):V→Prop
 | non:Thn H .non
 | bl (b:Bool):Thn H (.bl b)
 | int (i:Int):Thn H (.int i)
 | str (z:Str):Thn H (.str z)
 | lst {a:Ac} {xs:List V} (e:H a=some (.lst xs)):Thn H (.ref a)
 | tup {a:Ac} {xs:List V} (e:H a=some (.tup xs)):Thn H (.ref a)
 | dct {a:Ac} {di:List (Key×V)} (e:H a=some (.dK di)):Thn H (.ref a)
theorem vP(b:Str)(u:Tok)(l:Ac)(cd:Option Ac)(es:Array DictEntry)(ep:Nat)(z:Array (Option Ab)):
  Meets (Builtin.«str.__eq__» ⟨[.str b u,.ref l],[]⟩) (fun _ R s=>s.heap.get? l=some { cls:=.type "dict",dict:=cd,data:=.dict es ep,slots:=z }∧R (.ok (.ret .notImplemented)) s):=
 .of_wp fun prog w A R s h=>by
  obtain⟨hp,g,d,tk,os⟩:=s;obtain⟨hl,h⟩:=h
  wp_walk using EW hl,Fq hl
  exact⟨_,rfl,h⟩
theorem vQ(b:Str)(u:Tok)(l:Ac)(cd:Option Ac)(es:Array DictEntry)(ep:Nat)(z:Array (Option Ab)):
  Meets (Builtin.«dict.__eq__» ⟨[.ref l,.str b u],[]⟩) (fun _ R s=>s.heap.get? l=some { cls:=.type "dict",dict:=cd,data:=.dict es ep,slots:=z }∧R (.ok (.ret .notImplemented)) s):=
 .of_wp fun prog w A R s h=>by
  obtain⟨hp,g,d,tk,os⟩:=s;obtain⟨hl,h⟩:=h;have f1:=F.sub_str_dict
  wp_walk using EW hl
  exact⟨_,rfl,h⟩
section
variable{X:Cx}
inductive p4(x:V)(y:V)(H:Hp)(Q:VK):Prop
 | mk (z:_) (q0:x=.str z) (q1:Thn H y) (q2:Q (.bl (decide (x=y))) H):p4 x y H Q
def aCh:V→V→Hp→VK→Prop:=fun x y H Q=>p4 x y H Q
theorem aFV(U:X.A.units < cLine):OpR X (compareOp .Eq) aCh:=by
 intro dh s σ H x y v u Q I W O h;obtain⟨z,rfl,ht,J⟩:=h;have B:aI3 (.str z) y=true→wpAny (model X.prog X.w) X.A (compareOp .Eq v u) (EP X dh σ Q) X.xe s:=fun e=>dU dh s σ H _ _ v u Q I W O ⟨e,J⟩;obtain⟨t,rfl⟩:=id W;cases ht with
 | non=>exact B rfl
 | bl b=>exact B rfl
 | int i=>exact B rfl
 | str Y=>exact B rfl
 | lst e=>
  cases O;obtain⟨us,r1,p1,_⟩:=I.list (bE e);exact SeqAt.RcAt.str_list _ _ p1.isList U X.prog X.w _ _ ⟨.bl false,H,I,rfl,J⟩
 | tup e=>
  cases O;obtain⟨its,r,p,_⟩:=I.tuple (aZ e);exact SeqAt.RcAt.str_tuple _ _ p U X.prog X.w _ _ ⟨.bl false,H,I,rfl,J⟩
 | @dct a di e=>
  cases O;obtain⟨_,_,vs,r,⟨cls,dd,data,sl⟩,es,ep,ho,hx,hdt,_⟩:=I.hok a _ e;obtain⟨hc,_⟩:=hx;simp only at hc hdt;subst hc hdt;exact(SeqAt.rc_eq_decline_or (k:=false) (EL s z t) ⟨_,ho,rfl⟩ (by decide) F.sub_dict_str F.slot_str_eq F.slot_dict_eq
   (fun _ J=>Ft F.slot_str_eq (EL s z t) F.entry_str_eq (F.args_str_eq_2 _ _) (vP z t a dd es ep sl) ⟨ho,J⟩)
   (fun _ J=>Ft F.slot_dict_eq ⟨_,ho,rfl⟩ F.entry_dict_eq (F.args_dict_eq_2 _ _) (vQ z t a dd es ep sl) ⟨ho,J⟩)
   (fun _ J=>CG (rfl:isSame (.str z t) (.ref a)=pure false) J) (.inr U) ⟨.bl false,H,I,rfl,J⟩)
end
section
variable{prog:Ay}{w:AS}{A:AN}{E:Ab→Ad→Prop}{s:Ad}
end
section
variable{X:Cx}
end
section
variable{prog:Ay}{w:AS}{A:AN}{E:Ab→Ad→Prop}{s:Ad}{T:String}{r d:Ac}{n:Nat}{P:Nat→Ab→Prop}{OK:A4→Prop}
end
section
variable{X:Cx}
end
section
variable{prog:Ay}{w:AS}{A:AN}{E:Ab→Ad→Prop}{s:Ad}
def aLj(P:Ay)(w:AS)(h:A4)(q:Ac)(kv:Key×Ab):Prop:=∃ o key n,h.get? q=some o∧o.cls=.type "tuple"∧o.data=.seq #[key,kv.2] n∧(dE P w).is kv.1 key=true
end
section
variable{X:Cx}
end
open PySem.W in
section
variable{X:Cx}
end
section
variable{X:Cx}{dh:List (Ac×Obj)}{σ:St}{H:Hp}{s:Ad}{d:Ac}{di:List (Key×V)}
end
section
variable{X:Cx}{tg:Bc}
end
inductive aIu(h:A4)(v:Ab)(z:Str):Prop
 | mk (t:_) (u:_) (a:_) (b:_) (q0:v=.ref t) (q1:Eu h t #[.str z u,a,b]):aIu h v z
def NmT(h:A4)(v:Ab)(z:Str):Prop:=aIu h v z
section
variable{prog:Ay}{w:AS}{A:AN}{E:Ab→Ad→Prop}{s:Ad}
end
section
variable{X:Cx}
end
section
variable{X:Cx}
end
mutual
def ltD:Ak→Ak→Bool
 | .str x,.str y=>decide (x.cps.toList < y.cps.toList)
 | .int i,.int j=>decide (i < j)
 | .tuple xs,.tuple ys=>ltL xs ys
 | _,_=>false
def ltL:List Ak→List Ak→Bool
 | [],[]=>false
 | [],_ :: _=>true
 | _ :: _,[]=>false
 | x :: xs,y :: ys=>if Cb x y=true then ltL xs ys else ltD x y
end
mutual
def okD:Ak→Ak→Bool
 | .str _,.str _=>true
 | .int _,.int _=>true
 | .tuple xs,.tuple ys=>okL xs ys
 | _,_=>false
def okL:List Ak→List Ak→Bool
 | x :: xs,y :: ys=>if Cb x y=true then okL xs ys else okD x y
 | _,_=>true
end
section
end
mutual
def plD:Ak→Bool
 | .str _=>true
 | .int _=>true
 | .tuple xs=>plL xs
 | _=>false
def plL:List Ak→Bool
 | []=>true
 | x :: xs=>plD x && plL xs
end
mutual
theorem aCi:∀(x y:Ak),plD x=true→Cb x y=true→plD y=true→x=y
 | .str a,y,_,h,z=>by
  cases y <;> simp only[plD,Cd]at z <;> simp only[Cb,Cd]at h;rw[eq_of_beq h]
 | .int a,y,_,h,z=>by
  cases y <;> simp only[plD,Cd]at z <;> simp only[Cb,Cd]at h;rw[eq_of_beq h]
 | .tuple xs,y,B,h,z=>by
  cases y <;> simp only[plD,Cd]at B z <;> simp only[Cb,Cd]at h;rw[aDi xs _ B h z]
 | .none,_,h,_,_=>by simp[plD]at h
 | .bool _,_,h,_,_=>by simp[plD]at h
 | .list _,_,h,_,_=>by simp[plD]at h
 | .dict _,_,h,_,_=>by simp[plD]at h
theorem aDi:∀(xs ys:List Ak),plL xs=true→Dj xs ys=true→plL ys=true→xs=ys
 | [],ys,_,h,_=>by
  cases ys with
  | nil=>rfl
  | cons _ _=>simp[Dj]at h
 | x :: xs,ys,B,h,z=>by
  cases ys with
  | nil=>simp[Dj]at h
  | cons y ys=>
   simp only[plL,AY]at B z;simp only[Dj,AY]at h;rw[aCi x y B.1 h.1 z.1,aDi xs ys B.2 h.2 z.2]
end
mutual
theorem vR:∀(x:Ak),plD x=true→Cb x x=true
 | .str a,_=>by simp[Cb]
 | .int a,_=>by simp[Cb]
 | .tuple xs,h=>by
  simp only[plD]at h;simp only[Cb];exact yA xs h
 | .none,h=>by simp[plD]at h
 | .bool _,h=>by simp[plD]at h
 | .list _,h=>by simp[plD]at h
 | .dict _,h=>by simp[plD]at h
theorem yA:∀(xs:List Ak),plL xs=true→Dj xs xs=true
 | [],_=>by simp[Dj]
 | x :: xs,h=>by
  simp only[plL,AY]at h;simp only[Dj,vR x h.1,yA xs h.2,Bool.and_self]
end
structure RowD(d:Ak):Prop where
 fm:∃ k xs,d=.tuple (.str k :: xs)
 pl:plD d=true
 ly:d.canLay0=true
 dp:d.depth≤6
inductive aIv(h:A4)(v:Ab)(d:Ak):Prop
 | mk (as:_) (q0:Reads h v d as):aIv h v d
def RdT(h:A4)(v:Ab)(d:Ak):Prop:=aIv h v d
inductive aIw(h:A4)(v:Ab):Prop
 | mk (t:_) (z:_) (u:_) (cI:_) (q0:v=.ref t) (q1:Eu h t (BA z u :: cI).toArray):aIw h v
def FsT(h:A4)(v:Ab):Prop:=aIw h v
section
variable{prog:Ay}{w:AS}{A:AN}{E:Ab→Ad→Prop}{s:Ad}
end
section
variable{X:Cx}
end
section
variable{X:Cx}
end
section
variable{X:Cx}
end
section
variable{X:Cx}
end
section
variable{X:Cx}
end
section
variable{X:Cx}{es:List Bc}{t:TA}{pos:Pos}
def aKC(t:TA):TE:=fun σ H Q=>t σ H fun xs H1=>xs.length≤sizeLine∧∀ D,H1 D=none→D≠sysModules→Q (.ref D) (upd H1 D (.lst xs))
theorem aAf(h:PA X es t):PE X (.List es pos) (aKC t):=by
 constructor;intro dh s σ H Q I W;refine wpAny_List_spliced (thn (h pos dh s σ H _ I W) fun U B ⟨xs,H1,F,r,z,q⟩=>⟨by rw[← r.length];exact z,?_⟩);have O:H1 B.heap.objs.size=none:=F.hok.fresh (Ap _);have J:=F.big;refine⟨.ref B.heap.objs.size,upd H1 B.heap.objs.size (.lst xs),F.laid (t':=B.toks) (fun b u e=>Ai _ e) (Ap _) ?_,rfl,q _ O fun e=>?_⟩
 ·exact⟨z,U,0,r,Ax _ rfl⟩
 ·rw[e]at J;exact absurd J (Bg _)
inductive nP(xs:List V)(H:Hp)(Q:VK):Prop
 | mk (a:Ac) (m:Bool) (ys:List V) (ds:List Ak) (q0:xs=[.ref a]) (q1:H a=some (.lst ys)) (q2:a≠sysModules) (q3:cG m H ys ds) (q4:(Ef ds).showable=true) (q5:(Ef ds).depth≤20) (q6:(Ef ds).shown.length≤sizeLine) (q7:Q (.str (Ef ds).shown) H):nP xs H Q
def aAg:List V→Hp→VK→Prop:=fun xs H Q=>nP xs H Q
theorem o8{k:Nat}(F:cY k X.A):gH X (.builtin "repr") aAg:=by
 intro dh s σ H xs O Q I r h;obtain⟨a,m,ys,ds,rfl,ha,hn,hy,hs,hd,hz,q⟩:=h;obtain⟨u,rfl,ru⟩:=gS r;cases ru;obtain⟨_,its,n,rv,eo⟩:c5 X.prog X.w H s.heap _ (.lst _):=I.hok _ _ ha;obtain⟨as,ra,h1,h2⟩:=cG.reads I hy rv;have B:Reads s.heap (.ref a) (.list ds) _:=.list eo rfl rfl (by simpa using ra);refine repr_of_reads' B hs (fun z=>?_) F.gd (by have:=F.un;omega) (fun b o e=>e) (fun h' u tk J=>⟨.str (Ef ds).shown,H,I.kept (t':=tk) J,⟨u,rfl⟩,q⟩) hz;cases m with
 | true=>
  have:=h1 rfl;unfold Fy at z;rw[this]at z;cases z
 | false=>
  intro w;rcases Al.mp w with w | w
  ·exact hn w.symm
  ·exact h2 rfl w
inductive aFW(x:V)(y:V)(H:Hp)(Q:VK):Prop
 | mk (m m':Bool) (d d':Ak) (q0:RdV m H x d) (q1:RdV m' H y d') (q2:d.canLay0=true) (q3:d'.canLay0=true) (q4:d.depth≤8) (q5:Q (.bl (!Cb d d')) H):aFW x y H Q
def aLk:V→V→Hp→VK→Prop:=fun x y H Q=>aFW x y H Q
theorem aFX{k:Nat}(z:cY k X.A):OpR X (compareOp .NotEq) aLk:=by
 intro dh s σ H x y v u Q I B F h;obtain⟨m,m',d,d',h1,h2,h3,h4,h5,q⟩:=h;obtain⟨as,r1,_⟩:=RdV.reads I h1 B;obtain⟨bs,r2,_⟩:=RdV.reads I h2 F;have hm:=Nat.min_le_left d.depth d'.depth;have J:=z.un;exact PySem.SeqAt.compareNe_reads r1 r2 h3 h4 (by omega) ⟨.bl _,H,I,rfl,q⟩
end
section
variable{X:Cx}
inductive p5(K:Ah)(x:V)(y:V)(H:Hp)(Q:VK):Prop
 | mk (p:_) (q:_) (xs:_) (q0:x=.ref p) (q1:y=.ref q) (q2:SqL K H p xs) (q3:SqL K H q []) (q4:Q (.bl (decide (xs=[]))) H):p5 K x y H Q
def aCj(K:Ah):V→V→Hp→VK→Prop:=fun x y H Q=>p5 K x y H Q
theorem aFY(B:X.A.units < cLine):OpR X (compareOp .Eq) (aCj X.K):=by
 intro dh s σ H x y v u Q I F J h;obtain⟨p,q,xs,rfl,rfl,h1,h2,hq⟩:=h;cases xs with
 | nil=>exact aB4 B dh s σ H _ _ v u Q I F J ⟨p,q,[],[],rfl,rfl,h1,h2,rfl,rfl,hq⟩
 | cons z r=>
  cases F;cases J;obtain⟨us,r1,p1,_⟩:=I.list h1;obtain⟨ws,r2,p2,_⟩:=I.list h2;have U:=r1.length;have O:=r2.length;refine SeqAt.eq_list_lengthsAt p1.isList p2.isList (by simp at U O ⊢;omega) B ?_;rw[decide_eq_false (show¬ (z :: r)=[] by simp)]at hq;exact⟨.bl _,H,I,rfl,hq⟩
inductive oR(K:Ah)(x:V)(y:V)(H:Hp)(Q:VK):Prop
 | mk (p:_) (q:_) (xs:_) (q0:x=.ref p) (q1:y=.ref q) (q2:SqT K H p xs) (q3:SqT K H q []) (q4:Q (.bl (decide (xs≠[]))) H):oR K x y H Q
def aA9(K:Ah):V→V→Hp→VK→Prop:=fun x y H Q=>oR K x y H Q
theorem yB(J:X.A.units < cLine):OpR X (compareOp .NotEq) (aA9 X.K):=by
 intro dh s σ H x y v u Q I O U h;obtain⟨p,q,xs,rfl,rfl,h1,h2,hq⟩:=h;cases O;cases U;obtain⟨us,r1,p1,_⟩:=I.tuple h1;obtain⟨ws,r2,p2,_⟩:=I.tuple h2;have B:=r1.length;have F:=r2.length;have hw:ws=[]:=Bq (by simpa using F.symm);subst hw;refine SeqAt.RcNeAt.tuples (e:=fun _=>true) p1 p2 J (fun j h1 h2=>absurd h2 (by simp)) X.prog X.w _ _ ?_;have e:(!((AV (min us.toArray.size (#[]:Array Ab).size)).all (fun _=>true) && us.toArray.size == (#[]:Array Ab).size))=decide (xs≠[]):=by
  cases xs with
  | nil=>
   have:us=[]:=Bq (by simpa using B.symm);subst this;rfl
  | cons z r=>
   cases us with
   | nil=>simp at B
   | cons a b=>simp
 rw[← e]at hq;exact⟨.bl _,H,I,rfl,hq⟩
end
structure eU(T:Ac)(Ps:List Pos)(qual:Str)(H:Hp):Prop where
 ex:∃ ps,H T=some (.tbl ps)∧Gk ps.toList∧∀ pos∈Ps,codeAmong pos ps.toList=none∨∃ c,codeAmong pos ps.toList=some (.ref c)∧H c=some (mM c qual)
theorem eU.same{T:Ac}{Ps:List Pos}{qual:Str}{H H':Hp}(g:eU T Ps qual H)(s:bJ H H'):eU T Ps qual H':=by
 obtain⟨ps,h1,h2,z⟩:=g.ex;refine⟨ps,s _ _ h1,h2,fun pos B=>?_⟩;rcases z pos B with z | ⟨c,z,F⟩
 ·exact .inl z
 ·exact .inr ⟨c,z,s _ _ F⟩
theorem eU.start{T:Ac}{Ps:List Pos}{qual:Str}{H:Hp}(h:H T=some (.tbl #[])):eU T Ps qual H:=⟨#[],h,trivial,fun _ _=>.inl rfl⟩
theorem aCk{pos q:Pos}{c:Ab}(l:List Ab)(h:Gk l):codeAmong q (l ++ [rawInt pos.line,rawInt pos.col,c])=codeAmong q l∨(codeAmong q l=none∧codeAmong q (l ++ [rawInt pos.line,rawInt pos.col,c])=some c):=by
 fun_induction Gk l with
 | case1=>
  simp only[FA,codeAmong,rawInt];split
  ·exact .inr ⟨trivial,rfl⟩
  ·exact .inl rfl
 | case2 a t b u x cI z=>
  simp only[List.cons_append,codeAmong];split
  ·exact .inl rfl
  ·exact z h
 | case3 l h1 h2=>exact h.elim
section
variable{X:Cx}{dh:List (Ac×Obj)}{σ:St}{H:Hp}{s:Ad}
def aIx(T:Ac)(Ps:List Pos)(qual:Str)(params:DO)(body:Bc)(scope:CH)(cl:List (Str×Ac)):TE:=fun _ H Q=>eU T Ps qual H∧
 ∀ f c H',lO T H H'→eU T Ps qual H'→H' c=some (mM c qual)→H' f=some (nN f qual params body scope cl c)→Q (.ref f) H'
theorem aHs{Ps:List Pos}{c T:Ac}{B:DO}{F:Bc}{scope:CH}{pos:Pos}{cl:List (Str×Ac)}(ar:pos∈Ps)(O:X.env.code=.ref c)(hC:codeHdIn X.K c T=true)(hB:vK X.mg X.base)(ad:closureFor scope X.env=pure cl:=by rfl)(ae:defaultsOf B X.env=([],[]):=by rfl):
  PE X (.Lambda B F scope pos) (aIx T Ps (X.env.qual ++ "<lambda>") B F scope cl):=by
 constructor;intro dh s σ H Q I h;obtain⟨g,q⟩:=h;obtain⟨ps,hT,ht,hor⟩:=g.ex;have gT:s.heap.get? T=some (tabObj ps):=I.hok T _ hT;have ah:∀ b o,X.base.get? b=some o→b≠T:=fun b o e z=>by
  have:=(I.bs b o e).2;rw[z,hT]at this;cases this
 obtain⟨bm,ob,b1,b2,b3,b4,b5,b6,b7⟩:=hB;have af:s.heap.Ns mainGlobals X.mg:=by
  obtain⟨o,es,ep,e,r⟩:=I.mod.glob;exact⟨o,es,ep,I.bk _ _ e,r⟩
 have ay:mainGlobals≠T:=by
  obtain⟨o,es,ep,e,r⟩:=I.mod.glob;exact ah _ _ e
 have ai:s.heap.BuiltinsAt X.mg T:=⟨bm,ob,b1,b2,b3,ah _ _ b4,I.bk _ _ b4,b5,b6,b7⟩
 refine kla_eval ae ?_;rcases hor pos ar with au | ⟨J,hf,ak⟩
 ·refine kla_makeFunction (mg:=X.mg) ad I.ok.glob af O (GM I.kIn hC) gT ht au ay ai fun J Z h' tk hx W aa ac ap=>?_;have I1:=I.table (t':=tk) (more:=#[rawInt pos.line,rawInt pos.col,.ref J]) hT (fun b o n e=>hx b o n e) ap;have nT:∀ b,s.heap.objs.size≤b→b≠T:=fun b hb z=>absurd (Aq gT) (Nat.not_lt.mpr (z ▸ hb));have ag:=nT J W;have an:upd H T (.tbl (ps ++ #[rawInt pos.line,rawInt pos.col,.ref J])) J=none:=by
   rw[aW ag];exact I.hok.fresh W
  have I2:=I1.track (ob:=mM J (X.env.qual ++ "<lambda>")) (I.fpOk W an) (aHp ac);have Y:s.heap.objs.size≤h'.objs.size:=by omega
  have aj:=nT _ Y;have I3:=I2.laid (a:=h'.objs.size) (o:=nN h'.objs.size (X.env.qual ++ "<lambda>") B F scope cl J) (t':=tk) (h':=h'.push (kla_obj "<lambda>" (X.env.qual ++ "<lambda>") B F scope cl ((X.mg "__name__").getD .none) J Z)) (fun b u e=>Ai _ e) (Ap _) (aFL (Ax _ rfl));refine⟨.ref _,_,I3,rfl,q _ J _ (fun b o n e=>?_) ⟨ps ++ #[rawInt pos.line,rawInt pos.col,.ref J],?_,?_,fun p2 aq=>?_⟩ ?_ aH⟩
  ·rw[aW (AB (AI (I.hok.lt e) Y)),aW (AB (AI (I.hok.lt e) W)),aW n];exact e
  ·rw[aW aj.symm,aW ag.symm];exact aH
  ·rw[Array.toList_append];exact TriplesOk_snoc _ _ _ _ ht
  ·rw[Array.toList_append];rcases aCk (pos:=pos) (q:=p2) (c:=.ref J) ps.toList ht with e | ⟨_,e⟩
   ·rcases hor p2 aq with y | ⟨c2,y,U⟩
    ·exact .inl (e.trans y)
    ·refine .inr ⟨c2,e.trans y,?_⟩;have ao:c2≠T:=fun z=>by rw[z,hT]at U;cases U
     rw[aW (AB (AI (I.hok.lt U) Y)),aW (AB (AI (I.hok.lt U) W)),aW ao];exact U
   ·refine .inr ⟨J,e,?_⟩;rw[aW (AB aa)];exact aH
  ·rw[aW (AB aa)];exact aH
 ·refine kla_makeFunctionHit (mg:=X.mg) ad I.ok.glob af O (GM I.kIn hC) gT ht hf ai fun Z h' tk hk Y=>?_;have I1:=I.kept (h':=h') (t':=tk) hk;have I3:=I1.laid (a:=h'.objs.size) (o:=nN h'.objs.size (X.env.qual ++ "<lambda>") B F scope cl J) (t':=tk) (h':=h'.push (kla_obj "<lambda>" (X.env.qual ++ "<lambda>") B F scope cl ((X.mg "__name__").getD .none) J Z)) (fun b u e=>Ai _ e) (Ap _) (aFL (Ax _ rfl));have hs:bJ H (upd H h'.objs.size (nN h'.objs.size (X.env.qual ++ "<lambda>") B F scope cl J)):=fun b o e=>by
   rw[aW (AB (AI (I.hok.lt e) Y))];exact e
  exact⟨.ref _,_,I3,rfl,q _ J _ hs.butT (g.same hs) (hs _ _ ak) aH⟩
end
section
variable{X:Cx}{k:Nat}{x:Str}{p pos:Pos}
inductive aBa(X:Cx)(T:Ac)(Ps:List Pos)(params:DO)(body:Bc)(scope:CH)(cl:List (Str×Ac))(fs:List Str)(sp:Sp)(σ:St)(H:Hp)(Q:VK):Prop
 | mk (zs:_) (q0:aIt X σ fs zs) (q1:eU T Ps (X.env.qual ++ "<lambda>") H) (q2:∀ f c H1 L,lO T H H1→eU T Ps (X.env.qual ++ "<lambda>") H1→H1 c=some (mM c (X.env.qual ++ "<lambda>"))→H1 f=some (nN f (X.env.qual ++ "<lambda>") params body scope cl c)→aFT cl L fs zs→(∀ b o,L.lookup b=some o→H1 b=none)→
  sp [.ref f] (jC H1 L) (fun v H2=>Q v (eY H2 L)) E0):aBa X T Ps params body scope cl fs sp σ H Q
def aJs(X:Cx)(T:Ac)(Ps:List Pos)(params:DO)(body:Bc)(scope:CH)(cl:List (Str×Ac))(fs:List Str)(sp:Sp):TE:=fun σ H Q=>aBa X T Ps params body scope cl fs sp σ H Q
theorem vS{Ps:List Pos}{g c T:Ac}{fd:AE}{pn:Str}{sp:Sp}{B:DO}{J:Bc}{scope:CH}{cl:List (Str×Ac)}{fs:List Str}{O:Pos}(F:cH X.prog X.w X.K X.mg X.base CX0 k g fd [pn] sp)(hr:cY k X.A)(hg:Gl X x)(hm:X.mg x=some (.ref g))(hk:Aj X.K (.ref g)=true)(hb:c8 X.K fd [pn] [])
  (aw:O∈Ps) (ac:X.env.code=.ref c) (hC:codeHdIn X.K c T=true) (hB:vK X.mg X.base) (hc:∀ y b,cl.lookup y=some b→X.env.cells.lookup y=some b∧y∈fs) (hhas:∀ y∈fs,∃ b,cl.lookup y=some b) (aq:∀ y,X.fn y=true) (aN:X.ex=[]) (ay:X.stack=X.env :: X.outer) (az:X.env.frame=some X.env.locals)
  (ax:closureFor scope X.env=pure cl:=by rfl) (ai:defaultsOf B X.env=([],[]):=by rfl) (au:(x == ("__debug__":Str))=false:=by decide) (he:starEach [.Lambda B J scope O] X.env=[(false,eval (.Lambda B J scope O) X.env)]:=by rfl):
  PE X (.Call (.Name x p) [.Lambda B J scope O] [] pos) (aJs X T Ps B J scope cl fs sp):=by
 constructor;intro dh s σ H Q I h;obtain⟨zs,tk,gt,q⟩:=h;refine Cf (sV I hg hm ?_ au);have ha:PA X [.Lambda B J scope O] (xC (aIx T Ps (X.env.qual ++ "<lambda>") B J scope cl) aEX):=gR (aHs aw ac hC hB ax ai) aF he;refine EO (h₀:=X.base) I.ok.mod.kin hk (thn (ha pos dh s σ H (fun vs H1=>∃ f c,vs=[V.ref f]∧lO T H H1∧eU T Ps (X.env.qual ++ "<lambda>") H1∧H1 c=some (mM c (X.env.qual ++ "<lambda>"))∧H1 f=some (nN f (X.env.qual ++ "<lambda>") B J scope cl c)) I ⟨gt,fun f c H2 a1 a2 a3 a4=>⟨f,c,rfl,a1,a2,a3,a4⟩⟩) fun us s1 ⟨vs,H1,U,r,f,c',ev,a1,a2,a3,a4⟩=>⟨U.kIn,?_⟩) he rfl;subst ev;obtain⟨L,hL,hP⟩:=rQ (cl:=cl) U (fun _ b _=>⟨b,.inr trivial⟩) tk;have hl:∀ b o,L.lookup b=some o→s1.heap.get? b=some o∧∃ y∈fs,X.env.cells.lookup y=some b:=fun b o e=>hL _ (x9 e);have hn:∀ b o,L.lookup b=some o→H1 b=none:=fun b o e=>by
  obtain⟨_,y,_,hy⟩:=hl b o e;exact U.freeC y b hy
 have Z:∀ b o,L.lookup b=some o→X.s₀.heap.objs.size≤b:=fun b o e=>by
  obtain⟨_,y,_,hy⟩:=hl b o e;exact U.ok.cab y b (aq y) hy
 have aj:∀ b o,L.lookup b=some o→b ∉ frs X.stack:=fun b o e z=>by
  rw[ay]at z;obtain⟨env,hz,hf⟩:=A9.mp z;rcases Al.mp hz with rfl | hz
  ·rw[az]at hf;cases hf;obtain⟨_,y,_,hy⟩:=hl _ o e;exact U.cne y _ hy rfl
  ·have ap:b∈frs X.outer:=A9.mpr ⟨env,hz,hf⟩;obtain⟨_,o2,e2,_⟩:=U.ok.funs.mem ap;exact absurd (AI (Aq e2) (Z b o e)) (Bg _)
 have ao:aFT cl L fs zs:=by
  refine⟨?_,fun y b e=>?_,fun y z b h1 h2=>U.ok.inj y z b (hc y b h1).1 (hc z b h2).1⟩
  ·have key:∀{gj:List Str} {ad:List V},(∀ y∈gj,y∈fs)→Er (fun(y:Str) (v:V)=>∃ b o u,X.env.cells.lookup y=some b∧(b,o)∈L∧o.data=.cell (some u)∧dA v u) gj ad→Er (fun(x:Str) (v:V)=>∃ b o u,cl.lookup x=some b∧L.lookup b=some o∧o.data=.cell (some u)∧dA v u) gj ad:=by
    intro gj ad hs pr
    induction pr with
    | nil=>exact .nil
    | @cons y v _ _ r _ ih=>
     refine .cons ?_ (ih fun z hz=>hs z (AM _ hz));obtain⟨b,o,u,c1,c2,c3,c4⟩:=r;obtain⟨b',W⟩:=hhas y (hs y AL);have:=(hc y b' W).1;rw[c1]at this;cases this;obtain⟨o',e'⟩:=qR c2;have e1:=(hl b o' e').1;rw[(hL _ c2).1]at e1;cases e1;exact⟨b,o,u,W,e',c3,c4⟩
   exact key (fun y hy=>hy) hP
  ·obtain⟨c1,c2⟩:=hc y b e;have:=U.cell y b c1;obtain⟨u,o,d1,d2⟩:=this;obtain⟨i,hi⟩:=Ce c2;obtain⟨v,hv⟩:∃ v,zs[i]?=some v:=⟨_,Ag (by rw[← hP.length];exact(AH.mp hi).1)⟩
   obtain⟨b',o',u',f1,f2,f3,_⟩:=Paired.at hP hi hv;rw[c1]at f1;cases f1;obtain⟨o'',e'⟩:=qR f2;have e1:=(hl b o'' e').1;rw[d1]at e1;cases e1;exact⟨o,u,e',d2⟩
 have ar:=q f c' H1 L a1 a2 a3 a4 ao hn;have env:zI X.prog X.w X.K X.mg X.base X.A X.stack s1 (jC H1 L):=by
  have Y:=U.env0;refine⟨Y.frames,Y.mod,fun b o z=>⟨(Y.bs b o z).1,?_⟩,Y.bsz,Y.funs,fun b hb=>?_,aAd Y.hok fun b o e=>⟨(hl b o e).1,hn b o e⟩,Y.bare⟩
  ·cases el:L.lookup b with
   | none=>rw[dH el];exact(Y.bs b o z).2
   | some o'=>exact absurd (AI (Aq z) (Ba U.ok.bsz (Z b o' el))) (Bg _)
  ·cases el:L.lookup b with
   | none=>rw[dH el];exact Y.frf b hb
   | some o'=>exact absurd hb (aj b o' el)
 have av:us.length=1:=r.length.symm;have W:=hb s1 us U.kIn (by rw[Cv];exact av);rw[Cv]at W;refine CM (Cq (F.run X.A X.stack s1 (jC H1 L) ⟨us,[]⟩ us [.ref f] _ E0 hr env W r ar) fun rr s' hq=>?_);cases rr with
 | error e=>exact Bz hq
 | ok fl=>
  cases fl with
  | ret u=>
   obtain⟨v,H2,os,bare,un,hok,rv,hQ⟩:=hq;obtain⟨un2,hok2⟩:=aFR un hok fun b o e=>⟨(hl b o e).1,hn b o e,aj b o e⟩
   exact U.after ⟨v,_,os,bare,un2,hok2,rv,hQ⟩
  | next=>exact Bz hq
  | brk=>exact Bz hq
  | cont=>exact Bz hq
end
def aLl(K:Ah)(sp:Sp)(ta:TA):TE:=fun σ H Q=>ta σ H fun vs H1=>∃(l:Ac) (xs:List V) (KR:V→K3→Prop),vs=[V.ref l]∧SqT K H1 l xs∧xs.length < 64∧
 (∀ y∈xs,∀(H':Hp) (Q:VK),bJ H1 H'→(∀ t a b c H'',bJ H' H''→H'' t=some (.tup [.int a,.int b,.str c])→KR y (a,b,c)→Q (.ref t) H'')→sp [y] H' Q E0)∧
 ∀ D (kk:List K3) (p:List Nat) H',bJ H1 H'→H1 D=none→kk.length=xs.length→(∀ i,i < xs.length→KR (xs.getD i .non) (kk.getD i k0))→z9 kk p→H' D=some (.lst (p.map fun i=>xs.getD i .non))→Q (.ref D) H'
section
variable{X:Cx}{e:Bc}{ta:TA}
theorem aBb{k:Nat}{f:Ac}{fd:AE}{x g:Str}{sp:Sp}{p pk kp pos:Pos}(F:cH X.prog X.w X.K X.mg X.base CX0 k f fd [x] sp)(hr:cY (k + 2) X.A)(hb:c8 X.K fd [x] [])(U:Gl X "sorted")(hm:X.mg "sorted"=none)(O:Gl X g)(W:X.mg g=some (.ref f))(ha:PA X [e] ta)
  (hd:(g == ("__debug__":Str))=false:=by decide) (he:starEach [e] X.env=[(false,eval e X.env)]:=by rfl):
  PE X (.Call (.Name "sorted" p) [e] [⟨some "key",.Name g pk,kp⟩] pos) (aLl X.K sp ta):=by
 constructor;intro dh s σ H Q I h;refine Cf (oW I U hm boot_sorted ?_ (by decide) (by decide));refine callWith_builtin_kwB (by rw[he];rfl) (by rfl) ?_;have z:=ha pos dh s σ H _ I h
 ·rw[he]at z ⊢;refine evalArgs_kwB (by rfl) (thn z fun us s1 ⟨vs,H1,I1,r,q1⟩=>?_);obtain⟨l,xs,KR,rfl,hl,h64,hkey,q⟩:=q1;have J:PK X [⟨some "key",.Name g pk,kp⟩] (xC (tC (.ref f)) aEX):=aCV (c7 O W rfl hd) aEZ;refine thn (J pos dh s1 σ H1 (fun zs H2=>zs=[V.ref f]∧H2=H1) I1 ⟨rfl,rfl⟩) fun ws s2 ⟨zs,H2,Z,rz,ez,eH⟩=>?_;subst ez eH;cases rz with
  | cons r1 r2=>
   cases r1;cases r2;cases r with
   | cons r3 r4=>
    cases r3;cases r4;obtain⟨its,rv,pl,_⟩:=Z.tuple hl;have Y:=rv.length;refine vG (KR:=KR) F hr hb Z rv (fun B Q' E' hB hq=>?_) h64 hkey q;exact rP pl (aS (by omega)) fun h1 hk U=>hq h1 _ hk U
end
abbrev Kq(H H':Hp):Prop:=∀ b o,H b=some o→(∀ kv r,o≠.dK (kv :: r))→(∀ ps,o≠.tbl ps)→H' b=some o
mutual
theorem RdV.keepQ{m:Bool}{H H':Hp}(k:Kq H H'):∀{x:V}{d:Ak},RdV m H x d→RdV m H' x d
 | _,_,.non=>.non
 | _,_,.bl b=>.bl b
 | _,_,.int i=>.int i
 | _,_,.str z h=>.str z h
 | _,_,.lst hm e B r=>.lst hm (k _ _ e (fun _ _ z=>nomatch z) fun _ z=>nomatch z) B (cG.keepQ k r)
 | _,_,.tup e B r=>.tup (k _ _ e (fun _ _ z=>nomatch z) fun _ z=>nomatch z) B (cG.keepQ k r)
 | _,_,.dct hm e=>.dct hm (k _ _ e (fun _ _ z=>nomatch z) fun _ z=>nomatch z)
theorem cG.keepQ{m:Bool}{H H':Hp}(k:Kq H H'):∀{xs:List V}{ds:List Ak},cG m H xs ds→cG m H' xs ds
 | _,_,.nil=>.nil
 | _,_,.cons a r=>.cons (RdV.keepQ k a) (cG.keepQ k r)
end
end L2
namespace K07
open PySem L2
theorem nW{a b:Str}{X Y:Prop}(n:a≠b)(h:Y):if decide (V.str a=V.str b)=true then X else Y:=d9 (fun g=>absurd (V.str.inj (Ie g)) n) fun _=>h
theorem yW{a:Str}{X Y:Prop}(h:X):if decide (V.str a=V.str a)=true then X else Y:=d9 (fun _=>h) fun g=>absurd (Ic rfl) g
theorem zZ0:([]:List V).length≤sizeLine:=aS (show 0≤1000000 by decide)
theorem zZ1{z:V}:[z].length≤sizeLine:=aS (show 1≤1000000 by decide)
theorem zZ2{z a1:V}:[z,a1].length≤sizeLine:=aS (show 2≤1000000 by decide)
theorem zZ3{z a1 a2:V}:[z,a1,a2].length≤sizeLine:=aS (show 3≤1000000 by decide)
theorem zZ4{z a1 a2 a3:V}:[z,a1,a2,a3].length≤sizeLine:=aS (show 4≤1000000 by decide)
theorem zZ5{z a1 a2 a3 a4:V}:[z,a1,a2,a3,a4].length≤sizeLine:=aS (show 5≤1000000 by decide)
theorem zZ6{z a1 a2 a3 a4 a5:V}:[z,a1,a2,a3,a4,a5].length≤sizeLine:=aS (show 6≤1000000 by decide)
theorem zZ8{z a1 a2 a3 a4 a5 a6 a7:V}:[z,a1,a2,a3,a4,a5,a6,a7].length≤sizeLine:=aS (show 8≤1000000 by decide)
theorem zZ9{z a1 a2 a3 a4 a5 a6 a7 a8:V}:[z,a1,a2,a3,a4,a5,a6,a7,a8].length≤sizeLine:=aS (show 9≤1000000 by decide)
theorem aKD{z a1 a2 a3 a4 a5 a6 a7 a8 a9:V}:[z,a1,a2,a3,a4,a5,a6,a7,a8,a9].length≤sizeLine:=aS (show 10≤1000000 by decide)
theorem aLm{B a1 a2 a3 a4 a5 a6 a7 a8 a9 a10 z:V}:[B,a1,a2,a3,a4,a5,a6,a7,a8,a9,a10,z].length≤sizeLine:=aS (show 12≤1000000 by decide)
def Cl(P:Ay)(w:AS)(K:Ah)(mg:Str→Option Ab)(base:A4)(k:Nat)(n:Str)(ps:List Str)(sp:Sp):Prop:=∃ f fd,cH P w K mg base CX0 k f fd ps sp∧mg n=some (.ref f)∧Aj K (.ref f)=true∧c8 K fd ps []
theorem cB{X:Cx}{k:Nat}{ps:List Str}{sp:Sp}{x:Str}{p pos:Pos}{e:Bc}{es:List Bc}{t:TA}(c:Cl X.prog X.w X.K X.mg X.base k x ps sp)(J:cY k X.A)(ha:PA X (e::es) t)(O:Gl X x:=by rfl)(B:(x==("__debug__":Str))=false:=by decide)(U:starEach (e::es) X.env=(false,eval e X.env)::starEach es X.env:=by rfl)(z:(backTo pos (starEach es X.env)).any (·.1)=false:=by rfl):PE X (.Call (.Name x p) (e::es) [] pos) (aIk sp [] E0 t):=by
 obtain⟨f,fd,F,hm,hk,hb⟩:=c;exact c6 F J O hm hk hb .nil gF ha B U z
def top(i:Nat):BP:=PySem.Challenge.pw_dykelengths_k07_rows_put_in_and_left_out.main.body.getD i (.Pass ⟨0,0,0,0⟩)
abbrev mQ:BP:=top 17
abbrev jK:BP:=top 28
abbrev lU:BP:=top 29
abbrev mS:BP:=top 30
abbrev oA:BP:=top 31
abbrev iK:BP:=top 32
abbrev iL:BP:=top 33
abbrev iM:BP:=top 34
abbrev jL:BP:=top 35
abbrev oB:BP:=top 36
abbrev qS:BP:=top 37
abbrev qT:BP:=top 38
abbrev jM:BP:=top 39
abbrev jN:BP:=top 40
abbrev qU:BP:=top 41
abbrev oC:BP:=top 42
abbrev lV:BP:=top 43
abbrev qV:BP:=top 44
abbrev qW:BP:=top 46
abbrev jR:BP:=top 47
abbrev lW:BP:=top 48
abbrev oD:BP:=top 49
abbrev lX:BP:=top 50
abbrev qX:BP:=top 51
abbrev mU:BP:=top 54
abbrev aEj:BP:=top 59
abbrev vT:BP:=top 60
abbrev pA:BP:=top 61
abbrev qY:BP:=top 62
abbrev vU:BP:=top 63
abbrev oE:BP:=top 64
abbrev qZ:BP:=top 65
abbrev vV:BP:=top 66
abbrev pB:BP:=top 67
abbrev aEk:BP:=top 68
abbrev mV:BP:=top 69
abbrev mX:BP:=top 70
abbrev rA:BP:=top 71
abbrev iN:BP:=top 55
abbrev vW:BP:=top 56
abbrev jS:BP:=top 57
abbrev rB:BP:=top 72
abbrev yC:BP:=top 73
abbrev yD:BP:=top 74
abbrev pC:BP:=top 75
abbrev rC:BP:=top 76
abbrev iO:BP:=top 77
abbrev iP:BP:=top 78
abbrev sU:BP:=top 79
def bV(z:Str):Bool:=decide (1≤z.length∧z.length≤8) && z.cps.toList.all fun c=>decide (97≤c∧c≤122)
def isL(c:Nat):Bool:=decide (97≤c∧c≤122)
def i0(i:Nat):Nat:=97 + i % 26
theorem aAh(i:Nat):isL (i0 i)=true:=by
 unfold isL i0;exact Ic (by omega)
abbrev abc:Str:=Bh "abcdefghijklmnopqrstuvwxyz"
theorem aFZ:abc.cps.toList=Fv 97 26:=by decide
theorem aF8{i:Int}(z:0≤i)(h1:i < 26):atI abc.cps.toList i=some (i0 i.toNat):=by
 obtain⟨j,rfl⟩:∃ j:Nat,i=j:=⟨i.toNat,by omega⟩
 unfold atI ixN;rw[aFZ,Ib z,Ib (by simpa using h1)];simp only[Bl,Option.bind_some];rw[List.getElem?_range' (by omega)];unfold i0;congr 1;omega
theorem aHt:abc.length=26:=by decide
def mk(l:List Nat):Str:=⟨l.toArray⟩
theorem aJt{a b:List Nat}(h:mk a=mk b):a=b:=by
 have:=congrArg (fun z:Str=>z.cps.toList) h;simpa[mk]using this
theorem kM(l:List Nat):(mk l).length=l.length:=by
 show l.toArray.size=_;simp
theorem aCl(a b:List Nat):mk a ++ mk b=mk (a ++ b):=by
 show(⟨a.toArray ++ b.toArray⟩:Str)=_;simp[mk]
def aAi(t k:Nat):List Nat:=[i0 (t + 7 * k),i0 (t + k / 26)]
def bij:Nat→Nat→List Nat
 | 0,_=>[]
 | f + 1,n=>if n=0 then[] else bij f ((n - 1) / 2) ++ [n % 2]
def bin(t n:Nat):List Nat:=(bij 6 n).map fun d=>i0 (t + 9 * d)
theorem aHu:∀ t < 26,((AV 44).map (aAi t)).Nodup:=by decide
theorem aJu:∀ t < 26,((AV 44).map fun k=>bin t (k + 1)).Nodup:=by decide
theorem aHv:∀ k < 44,1≤(bij 6 (k + 1)).length∧(bij 6 (k + 1)).length≤8:=by decide
def word(one:Bool)(b:List Nat)(sp t k:Nat):List Nat:=if one then bin t (k + 1) else b.take sp ++ aAi t k ++ b.drop sp
theorem aJv{α:Type}{f:Nat→α}{n m:Nat}(h:((AV n).map f).Nodup)(hm:m≤n):((AV m).map f).Nodup:=by
 obtain⟨d,rfl⟩:∃ d,n=m + d:=⟨n - m,by omega⟩
 rw[List.range_add,AU]at h;exact(C2.mp h).1
theorem aF9{α β:Type}{f:α→β}(B:∀ a b,f a=f b→a=b){l:List α}(h:l.Nodup):(l.map f).Nodup:=by
 rw[List.nodup_iff_pairwise_ne]at h ⊢;exact Cy.mpr (h.imp fun z e=>z (B _ _ e))
theorem aHw{one:Bool}{b:List Nat}{sp t m:Nat}(ht:t < 26)(hm:m≤44):((AV m).map fun k=>mk (word one b sp t k)).Nodup:=by
 refine aJv (n:=44) ?_ hm;have e:((AV 44).map fun k=>mk (word one b sp t k))=((AV 44).map (word one b sp t)).map mk:=by rw[CA];rfl
 rw[e];refine aF9 (fun _ _ h=>aJt h) ?_;cases one with
 | true=>exact aJu t ht
 | false=>
  have z:(AV 44).map (word false b sp t)=((AV 44).map (aAi t)).map fun q=>b.take sp ++ q ++ b.drop sp:=by rw[CA];rfl
  rw[z];refine aF9 (fun x y h=>?_) (aHu t ht);exact List.append_cancel_left (List.append_cancel_right h)
theorem aBc{l:List Nat}(h1:1≤l.length)(z:l.length≤8)(ha:∀ c∈l,isL c=true):bV (mk l)=true:=by
 unfold bV;rw[kM,Ic ⟨h1,z⟩,Bb];have e:(mk l).cps.toList=l:=by simp[mk]
 rw[e,A3];exact ha
theorem f9{z:Str}(h:bV z=true):1≤z.length∧z.length≤8:=by
 unfold bV at h;rw[AY]at h;exact Ie h.1
theorem aEl{one:Bool}{b:List Nat}{sp t k:Nat}(B:k < 44)(J:b.length≤6)(ha:∀ c∈b,isL c=true):bV (mk (word one b sp t k))=true:=by
 cases one with
 | true=>
  have h:=aHv k B;refine aBc (by show 1≤(bin t (k + 1)).length;unfold bin;rw[Ae];omega) (by show(bin t (k + 1)).length≤8;unfold bin;rw[Ae];omega) (fun c hc=>?_);have z:c∈bin t (k + 1):=hc;unfold bin at z;obtain⟨d,_,rfl⟩:=Bd.mp z;exact aAh _
 | false=>
  have F:(word false b sp t k).length=b.length + 2:=by
   show(b.take sp ++ aAi t k ++ b.drop sp).length=_;rw[Av,Av,AX,Cc];show min sp b.length + 2 + (b.length - sp)=_;omega
  refine aBc (by omega) (by omega) (fun c hc=>?_);have z:c∈b.take sp ++ aAi t k ++ b.drop sp:=hc;rcases Bf.mp z with h | h
  ·rcases Bf.mp h with h | h
   ·exact ha c (Cz h)
   ·unfold aAi at h;simp only[Al,Ao,or_false]at h;rcases h with rfl | rfl
    ·exact aAh _
    ·exact aAh _
  ·exact ha c (List.mem_of_mem_drop h)
theorem aGa{α:Type}{x:α}:∀{l:List α}{j:Nat},l.Nodup→x ∉ l→(l.set j x).Nodup
 | [],_,_,_=>by simp
 | y :: r,0,h,B=>by
  rw[List.set_cons_zero,CS]at *;exact⟨fun z=>B (AM _ z),h.2⟩
 | y :: r,j + 1,h,B=>by
  rw[List.set_cons_succ];rw[CS]at *;refine⟨fun z=>?_,aGa h.2 fun z=>B (AM _ z)⟩;rcases Ca z with z | z
  ·exact h.1 z
  ·exact B (z ▸ AL)
def nQ:List Str:=["as","with","part","field","none","done","write","back","join"]
theorem aCm:∀ z∈nQ,bV z=true:=by decide
theorem eJ:∀ ns:List Str,(ns.map V.str).all iS=true
 | []=>rfl
 | _ :: r=>by simpa[iS]using eJ r
theorem tE(z:Str):∀ ns:List Str,inV (.str z) (ns.map V.str)=decide (z∈ns):=by
 intro ns;unfold inV;rw[List.any_map];rw[BQ,EA,decide_eq_true_iff];constructor
 ·rintro⟨y,hy,e⟩;have:y=z:=by simpa[eqV]using e
  exact this ▸ hy
 ·intro h;exact⟨z,h,by simp[eqV]⟩
abbrev hU:Key:=AA ("cells":Str)
abbrev kAt:Key:=AA ("at":Str)
abbrev j6:Key:=AA ("left":Str)
def i3(c:Ac)(a l:Int):List (Key×V):=[(hU,.ref c),(kAt,.int a),(j6,.int l)]
theorem aJw:¬ (hU=kAt):=by decide
theorem aJx:¬ (hU=j6):=by decide
theorem aHx:¬ (kAt=j6):=by decide
theorem aLn:¬ (j6=kAt):=fun e=>aHx e.symm
theorem aEm(c:Ac)(a l:Int):iT (i3 c a l) hU=some (.ref c):=by
 unfold i3;rw[lB rfl]
theorem aJy(c:Ac)(a l:Int):iT (i3 c a l) kAt=some (.int a):=by
 unfold i3;rw[dX aJw,lB rfl]
theorem aGb(c:Ac)(a l:Int):iT (i3 c a l) j6=some (.int l):=by
 unfold i3;rw[dX aJx,dX aHx,lB rfl]
theorem aJz(c:Ac)(a l z:Int):iH (i3 c a l) kAt (.int z)=i3 c z l:=by
 unfold iH i3;rw[Ib (by rw[EA];exact⟨(kAt,.int a),by simp,Ic rfl⟩)];simp only[A8,D4,Ia aJw,Ia aLn,Ib]
theorem aGc(c:Ac)(a l z:Int):iH (i3 c a l) j6 (.int z)=i3 c a z:=by
 unfold iH i3;rw[Ib (by rw[EA];exact⟨(j6,.int l),by simp,Ic rfl⟩)];simp only[A8,D4,Ia aJx,Ia aHx,Ib]
theorem aJA{H:Hp}{p c:Ac}{a l:Int}(h:H p=some (.dK (i3 c a l))):qK H p (.str "left") (some (.int l)):=by
 have:=qK.k (k:=j6) h;rw[aGb]at this;exact this
theorem aLo{H:Hp}{p c:Ac}{a l:Int}(h:H p=some (.dK (i3 c a l))):qK H p (.str "at") (some (.int a)):=by
 have:=qK.k (k:=kAt) h;rw[aJy]at this;exact this
theorem aLp{H:Hp}{p c:Ac}{a l:Int}(h:H p=some (.dK (i3 c a l))):qK H p (.str "cells") (some (.ref c)):=by
 have:=qK.k (k:=hU) h;rw[aEm]at this;exact this
theorem aKE{H:Hp}{p c:Ac}{a l:Int}(z:Int)(h:H p=some (.dK (i3 c a l))):aAI H p (.str "left") (.int z) (upd H p (.dK (i3 c a z))):=by
 have:=aAI.k (k:=j6) (v:=.int z) h (lC (by show 3≤1000;decide));rw[aGc]at this;exact this
theorem aLq{H:Hp}{p c:Ac}{a l:Int}(z:Int)(h:H p=some (.dK (i3 c a l))):aAI H p (.str "at") (.int z) (upd H p (.dK (i3 c z l))):=by
 have:=aAI.k (k:=kAt) (v:=.int z) h (lC (by show 3≤1000;decide));rw[aJz]at this;exact this
structure cJ(H:Hp)(p c:Ac)(ns:List Int)(a:Int):Prop where
 ob:∃ l,0≤l∧H p=some (.dK (i3 c a l))
 ce:H c=some (.lst (ns.map V.int))
 ge:0≤a
 sm:ns.length≤63
theorem cJ.same{H H':Hp}{p c:Ac}{ns:List Int}{a:Int}(x:cJ H p c ns a)(h:bJ H H'):cJ H' p c ns a:=by
 obtain⟨⟨l,hl,e⟩,ce,ge,sm⟩:=x;exact⟨⟨l,hl,h _ _ e⟩,h _ _ ce,ge,sm⟩
theorem cJ.ne{H:Hp}{p c:Ac}{ns:List Int}{a:Int}(x:cJ H p c ns a):c≠p:=by
 obtain⟨⟨l,hl,e⟩,ce,_,_⟩:=x;exact aEM ce e (by intro z;cases z)
inductive aDj(K:Ah)(vs:List V)(H:Hp)(Q:VK)(u3_:XK):Prop
 | mk (a:Ac) (ns:List Int) (q0:vs=[.ref a]) (q1:SqL K H a (ns.map V.int)) (q2:ns.length≤63) (q3:∀ p c H',cJ H' p c ns 0→bJ H H'→H p=none→Q (.ref p) H'):aDj K vs H Q u3_
def aIy(K:Ah):Sp:=fun vs H Q u3_=>aDj K vs H Q u3_
inductive aBd(vs:List V)(H:Hp)(Q:VK)(u3_:XK):Prop
 | mk (p c:Ac) (ns:List Int) (a m:Int) (q0:vs=[.ref p,.int m]) (q1:cJ H p c ns a) (q2:a≤1000000) (q3:0 < m) (q4:m < 2 ^ 512) (q5:∀ r a' H',0≤r→r < m→a≤a'→a'≤a + 1→cJ H' p c ns a'→aY p H H'→Q (.int r) H'):aBd vs H Q u3_
def hV:Sp:=fun vs H Q u3_=>aBd vs H Q u3_
variable{P:Ay}{w:AS}{K:Ah}{mg:Str→Option Ab}{base:A4}
theorem aKF:bY ["_law_script"] ["_law_script"] (aO aEj):=⟨rfl,rfl,rfl,by decide,rfl,by decide,by decide⟩
theorem aKG(ns:List Int)(h:ns.length≤63):gU (ns.map V.int) none (some 63)=ns.map V.int:=by
 have e:HT.sIx (ns.map V.int).length (ns.map V.int).length (some 63)=(ns.map V.int).length:=by
  have:=HT.sIx_nat (ns.map V.int).length (ns.map V.int).length 63;rw[Ae]at this ⊢;refine Eq.trans this ?_;omega
 unfold gU;rw[e,HT.sIx_none,DA,Fj,BJ]
theorem aJB{f:Ac}{fd:AE}(F:Fun K "_law_pen" "_law_pen" aEj f fd)(B:mg "list"=none):cH P w K mg base CX0 1 f fd ["_law_script"] (aIy K):=by
 refine F.ok aKF (fun vs H Q E h=>?_) (fun ae A outer s H vs Q E hr h=>?_)
 ·obtain⟨a,ns,rfl,_⟩:=h;rfl
 ·obtain⟨a,ns,rfl,hS,hn,k⟩:=h;refine⟨_,aU (bG (aC2 (iU aX (cV fY (by rfl) B (by kernel_rfl) (gR (eQ nX (pv 0) fV (fX aI)) aF)) (iU aX aI (iU aX aI aC1))) rfl rfl (by simp) (by decide))),?_⟩;intro p W;refine⟨_,rfl,_,rfl,_,_,rfl,(aQ W).seq hS,fun q Z=>?_⟩;rw[aKG ns hn];refine⟨q,_,rfl,.inl (bE aH),fun c hc=>?_⟩;have O:q≠p:=(bB aH Z).symm;have U:c≠p:=(bB (show upd (upd H p (HO.dK [])) q (.lst (ns.map V.int)) p=some (HO.dK []) by rw[aW O.symm,aH]) hc).symm;refine⟨by rw[aW U.symm,aW O.symm,aH],[(hU,.ref c),(kAt,.int 0),(j6,.int 0)],rfl,by show 3≤15;decide,?_⟩;have em:oY [] [(hU,V.ref c),(kAt,.int 0),(j6,.int 0)]=i3 c 0 0:=by
   have e1:iH ([]:List (Key×V)) hU (.ref c)=[(hU,.ref c)]:=by rw[uC _ uA];rfl
   have e2:iH [(hU,V.ref c)] kAt (.int 0)=[(hU,.ref c),(kAt,.int 0)]:=by rw[uC _ (by rw[dX aJw,uA])];rfl
   have e3:iH [(hU,V.ref c),(kAt,.int 0)] j6 (.int 0)=[(hU,.ref c),(kAt,.int 0),(j6,.int 0)]:=by rw[uC _ (by rw[dX aJx,dX aHx,uA])];rfl
   show iH (iH (iH [] hU (.ref c)) kAt (.int 0)) j6 (.int 0)=_;rw[e1,e2,e3];rfl
  rw[em];refine k p c _ ⟨⟨0,Em _,aH⟩,by rw[aW U,aH],Em _,hn⟩ (fun b o e=>?_) W;have z:b≠p:=bB e W;have J:b≠q:=bB (show upd H p (HO.dK []) b=some o by rw[aW z];exact e) Z;have Y:b≠c:=bB (show upd (upd H p (HO.dK [])) q (.lst (ns.map V.int)) b=some o by rw[aW J,aW z];exact e) hc;rw[aW z,aW Y,aW J,aW z];exact e
theorem nR:bY ["_law_pen_here","_law_many","_law_found","_law_at","_law_cells","_law_cell","_law_one","_law_two"] ["_law_pen_here","_law_many"] (aO vT):=⟨rfl,rfl,rfl,by decide,rfl,by decide,by decide⟩
theorem aKH{c a b:Int}(hc:0≤c)(h:0≤a)(h2:a≤b):0≤c * a * a∧c * a * a≤c * b * b:=by
 have h1:0≤c * a:=FW hc h;have z:c * a≤c * b:=Int.mul_le_mul_of_nonneg_left h2 hc;exact⟨FW h1 h,Int.mul_le_mul z h2 h (FW hc (Int.le_trans h h2))⟩
theorem aLr(x:Int){a:Int}(h:0≤a)(h2:a≤1000000):Int.natAbs (x % (2147483629:Int) + (1213:Int) * a * a + (3:Int)) < 2 ^ 64:=by
 obtain⟨b1,b2⟩:=aKH (c:=(1213:Int)) (a:=a) (b:=1000000) (by decide) h h2;have z:=CC x (show(2147483629:Int)≠0 by decide);have B:=Cs x (show 0 < (2147483629:Int) by decide);omega
theorem aLs{x:Int}:-(2 ^ 64) < x % (2147483543:Int)∧x % (2147483543:Int) < 2 ^ 64:=by
 have B:=CC x (show(2147483543:Int)≠0 by decide);have z:=Cs x (show 0 < (2147483543:Int) by decide);omega
theorem aHy{f:Ac}{fd:AE}(F:Fun K "_law_take" "_law_take" vT f fd)(Z:mg "len"=none)(J:mg "abs"=none):cH P w K mg base CX0 1 f fd ["_law_pen_here","_law_many"] hV:=by
 refine F.ok nR (fun vs H Q E h=>?_) (fun ak A outer s H vs Q E hr h=>?_)
 ·obtain⟨p,c,ns,a,m,rfl,_⟩:=h;rfl
 ·obtain⟨p,c,ns,a,m,rfl,hp,ha,hm,hm2,k⟩:=h;have hu:=aFe hr;have aj:(A.deeper (PyProof.Rows.envOfC "_law_take" (aO vT) s.heap.objs.size f ak)).units < cLine:=by omega
  refine⟨_,aJ (cX (bX aIh (pR hu (pv 0) aX Ig) aI (cF _))
    (aJ (bQ (i:=2) nR.nd rfl (AG rfl) (cA gY (pR hu (pv 0) aX Ig) (pv 1)))
    (aJ (zQ hu (pv 0) aX (cA uJ (pR hu (pv 0) aX Ig) (pv 1)) rfl)
    (aU (bG (pv 2))))) bM)
   (aJ (bQ (i:=3) nR.nd rfl (AG rfl) (pR hu (pv 0) aX Ig))
   (aJ (zQ hu (pv 0) aX (cA eM (pv 3) aI) rfl)
   (aJ (bQ (i:=4) nR.nd rfl (AG rfl) (pR hu (pv 0) aX Ig))
   (aJ (bQ (i:=5) nR.nd rfl (AG rfl) (cA eM (cA eM (cA l9 (cA l9 aI (pv 3)) (pv 3)) (cA l9 aI (pv 3))) aI))
   (aJ (nE <| cX (bX (aB5 aj) (pv 4) (dM aF) (cF _))
    (aU (bQ (i:=5) nR.nd rfl (AG rfl) (cE c9 (pv 4) (cA gY (pv 3) (aV bH (by rfl) Z AO (gR (pv 4) aF))) Ig))) bM)
   (aJ (nE <| cX (l0 (bX aEU (pv 3) (aV bH (by rfl) Z AO (gR (pv 4) aF)) (cF _))
     (i7 (bX aIi (aV tX (by rfl) J (by kernel_rfl) (gR (pv 5) aF)) (cA kH aI aI) (cF _)))).pt
    (aJ (zQ hu (pv 0) aX (cA uJ (aV tX (by rfl) J (by kernel_rfl) (gR (pv 5) aF)) (pv 1)) rfl)
    (aU (bG (cA gY (aV tX (by rfl) J (by kernel_rfl) (gR (pv 5) aF)) (pv 1))))) bM)
   (aJ (bQ (i:=6) nR.nd rfl (AG rfl) (cA gY (cA kH (cA eM (cA eM (cA gY (pv 5) aI) (cA l9 aI (pv 3))) aI) aI) aI))
   (aJ (bQ (i:=7) nR.nd rfl (AG rfl) (cA gY (cA kH (cA eM (cA eM (pv 6) (cA l9 (cA l9 aI (pv 3)) (pv 3))) aI) aI) aI))
   (aU (bG (cA gY (cA uJ (cA gY (cA l9 (pv 7) (cA eM (cA gY (pv 6) aI) aI)) aI) aI) (pv 1)))))))))))),?_⟩
  obtain⟨⟨l,hl0,hob⟩,hce,hge,hsm⟩:=id hp;have ad:=hp.ne;refine⟨_,rfl,p,_,rfl,aJA hob,_,_,rfl,rfl,_,rfl,d9 (fun h0=>?_) (fun h0=>?_)⟩
  ·exact⟨_,rfl,p,_,rfl,aJA hob,_,rfl,_,_,rfl,rfl,hm,_,rfl,p,_,rfl,aJA hob,_,rfl,_,_,rfl,rfl,xS.of hm hm2,_,rfl,p,_,rfl,aKE _ hob,_,rfl,k (l % m) a _ (CC _ (by omega)) (Cs _ hm) (Em _) (by omega) ⟨⟨l / m,Int.ediv_nonneg hl0 (by omega),aH⟩,by rw[aW ad];exact hce,hge,hsm⟩ (aY.refl p H).upd⟩
  ·refine⟨_,rfl,p,_,rfl,aLo hob,_,rfl,_,_,rfl,rfl,_,rfl,p,_,rfl,aLq _ hob,_,rfl,p,_,rfl,aLp aH,_,rfl,_,_,rfl,rfl,.inl (by decide),_,rfl,_,_,rfl,rfl,.inr (by omega),_,rfl,_,_,rfl,rfl,.inl (by decide),_,_,rfl,rfl,_,_,rfl,rfl,?_⟩;have O:aY p H (upd H p (.dK (i3 c (a + 1) l))):=(aY.refl p H).upd;have U:(upd H p (.dK (i3 c (a + 1) l))) c=some (.lst (ns.map V.int)):=by rw[aW ad];exact hce
   refine⟨fun σ' H'=>∃ B:Int,σ'=[some (.ref p),some (.int m),none,some (.int a),some (.ref c),some (.int B),none,none]∧aY p H H'∧H' p=some (.dK (i3 c (a + 1) l))∧H' c=some (.lst (ns.map V.int)),?_,?_⟩
   ·refine⟨_,rfl,Bu _,fun q hq=>?_⟩;have Y:=aQ (o:=.lst []) hq;refine⟨c,q,ns.map V.int,[],rfl,rfl,bE (Y _ _ U),bE aH,xU ns,rfl,_,rfl,d9 (fun ag=>?_) (fun ag=>?_)⟩
    ·have am:0 < ns.length:=by
      cases ns with
      | nil=>exact absurd ag (by simp[qN])
      | cons x r=>simp
     have ah:(a % (ns.length:Int)).toNat < ns.length:=by
      have h1:=Cs a (show(0:Int) < ns.length by omega);have h2:=CC a (show(ns.length:Int)≠0 by omega);omega
     have ai:atI (ns.map V.int) (a % (ns.length:Int))=some (.int (ns[(a % (ns.length:Int)).toNat])):=by
      have h2:=CC a (show(ns.length:Int)≠0 by omega);have e:=dD (xs:=ns.map V.int) (j:=(a % (ns.length:Int)).toNat) (v:=.int (ns[(a % (ns.length:Int)).toNat])) (by rw[AK,Ag ah];rfl);rw[D6 h2]at e;exact e
     have ae:atI (ns.map V.int) (a % ((ns.map V.int).length:Int))=some (.int (ns[(a % (ns.length:Int)).toNat])):=by
      rw[Ae];exact ai
     exact⟨_,rfl,_,rfl,_,rfl,c,_,rfl,.inl (bE (Y _ _ U)),_,_,rfl,rfl,(by rw[Ae];omega),c,_,_,_,rfl,rfl,bE (Y _ _ U),ae,_,rfl,O.same Y,Y _ _ aH,Y _ _ U⟩
    ·exact⟨_,rfl,O.same Y,Y _ _ aH,Y _ _ U⟩
   ·rintro σ' H' ⟨B,rfl,kp,W,z⟩;refine⟨fun σ' H'=>∃ B:Int,σ'=[some (.ref p),some (.int m),none,some (.int a),some (.ref c),some (.int B),none,none]∧aY p H H'∧H' p=some (.dK (i3 c (a + 1) l))∧H' c=some (.lst (ns.map V.int)),?_,?_⟩
    ·refine⟨_,rfl,_,rfl,c,_,rfl,.inl (bE z),_,_,rfl,rfl,_,rfl,d9 (fun h1=>?_) (fun h1=>?_)⟩
     ·refine⟨_,rfl,_,rfl,_,_,rfl,rfl,⟨by decide,by decide,by decide⟩,_,_,rfl,rfl,_,rfl,d9 (fun h2=>?_) (fun h2=>?_)⟩
      ·refine⟨_,rfl,_,rfl,_,rfl,_,_,rfl,rfl,xS.of hm hm2,_,rfl,p,_,rfl,aKE _ W,_,rfl,_,rfl,_,rfl,_,_,rfl,rfl,hm,?_⟩;have ac:0≤(if B < 0 then -B else B):=by split <;> omega
       exact k _ (a + 1) _ (CC _ (by omega)) (Cs _ hm) (by omega) (Em _) ⟨⟨_,Int.ediv_nonneg ac (by omega),aH⟩,by rw[aW ad];exact z,by omega,hsm⟩ kp.upd
      ·exact⟨B,rfl,kp,W,z⟩
     ·exact cO ⟨B,rfl,kp,W,z⟩
    ·rintro σ' H' ⟨B,rfl,kp,W,z⟩;refine⟨_,rfl,_,_,rfl,rfl,(by show(0:Int) < _;decide),_,rfl,_,_,rfl,rfl,.inl (by decide),_,_,rfl,rfl,_,_,rfl,rfl,_,_,rfl,rfl,⟨by decide,by decide,?_⟩,_,_,rfl,rfl,(by show(0:Int) < _;decide),?_⟩
     ·have e1:=CC B (show(2147483587:Int)≠0 by decide);have e2:=Cs B (show 0 < (2147483587:Int) by decide);show Int.natAbs (B % (2147483587:Int) + (45007:Int) * a + (11:Int)) < 2 ^ 64;omega
     ·exact⟨_,rfl,_,rfl,_,_,rfl,rfl,.inl (by decide),_,rfl,_,_,rfl,rfl,.inr (by omega),_,_,rfl,rfl,_,_,rfl,rfl,_,_,rfl,rfl,⟨by decide,by decide,aLr _ hge ha⟩,_,_,rfl,rfl,(by show(0:Int) < _;decide),_,rfl,_,rfl,_,_,rfl,rfl,(by show(0:Int) < _;decide),_,_,rfl,rfl,_,_,rfl,rfl,.inl aLs,_,_,rfl,rfl,(by show(0:Int) < _;decide),_,_,rfl,rfl,xS.of (by decide) (by decide),_,rfl,_,_,rfl,rfl,hm,k _ (a + 1) _ (CC _ (by omega)) (Cs _ hm) (by omega) (Em _) ⟨⟨l,hl0,W⟩,z,by omega,hsm⟩ kp⟩
def Zq(ws:List Str):Prop:=¬ (("zq":Str)∈ws.take 8∧("zqzq":Str)∈ws.take 8)
theorem aGd{one:Bool}{b:List Nat}{sp t m:Nat}:Zq ((AV m).map fun k=>mk (word one b sp t k)):=fun⟨h1,h2⟩=>by
 rw[← F0]at h1 h2;obtain⟨k1,hk1,e1⟩:=Bd.mp h1;obtain⟨k2,hk2,e2⟩:=Bd.mp h2;have B:=congrArg Gu e1;have z:=congrArg Gu e2;rw[kM]at B z;have J:(("zq":Str)).length=2:=by decide
 have O:(("zqzq":Str)).length=4:=by decide
 rw[J]at B;rw[O]at z;cases one with
 | false=>
  have e:∀ k,(word false b sp t k).length=(b.take sp).length + 2 + (b.drop sp).length:=fun k=>by
   show(b.take sp ++ aAi t k ++ b.drop sp).length=_;rw[Av,Av];rfl
  rw[e]at B z;omega
 | true=>
  rw[List.take_range]at hk2;have U:=BC.mp hk2;have F:∀ k < 8,(bij 6 (k + 1)).length≤3:=by decide
  have W:=F k2 (by omega);have e:(word true b sp t k2).length=(bij 6 (k2 + 1)).length:=by
   show((bij 6 (k2 + 1)).map _).length=_;rw[Ae]
  omega
theorem aHz{z:List Str}(h:Zq z)(n:Nat):Zq (z.take n):=fun⟨h1,h2⟩=>by
 have e:(z.take n).take 8=(z.take 8).take n:=by rw[List.take_take,List.take_take,Nat.min_comm]
 rw[e]at h1 h2;exact h ⟨Cz h1,Cz h2⟩
theorem aJC{B:List Str}(h:Zq B){i:Nat}{z:Str}(h1:z≠"zq")(h2:z≠"zqzq"):Zq (B.set i z):=fun⟨g1,g2⟩=>by
 rw[List.take_set]at g1 g2;refine h ⟨?_,?_⟩
 ·rcases Ca g1 with y | y
  ·exact y
  ·exact absurd y.symm h1
 ·rcases Ca g2 with y | y
  ·exact y
  ·exact absurd y.symm h2
theorem aBe:∀ z∈nQ,z≠"zq"∧z≠"zqzq":=by decide
structure Nms(ws:List Str):Prop where
 nd:ws.Nodup
 ok:∀ w∈ws,bV w=true
 zq:Zq ws
theorem Nms.take{z:List Str}(h:Nms z)(n:Nat):Nms (z.take n):=⟨h.nd.sublist (List.take_sublist n z),fun w hw=>h.ok w (Cz hw),aHz h.zq n⟩
inductive yE(vs:List V)(H:Hp)(Q:VK)(u3_:XK):Prop
 | mk (p c:Ac) (ns:List Int) (a:Int) (m:Nat) (q0:vs=[.ref p,.int m]) (q1:cJ H p c ns a) (q2:a≤900000) (q3:m≤44) (q4:∀ l ws a' H',H l=none→H' l=some (.lst (ws.map V.str))→ws.length=m→Nms ws→a≤a'→a'≤a + 30→cJ H' p c ns a'→aY p H H'→Q (.ref l) H'):yE vs H Q u3_
def aDk:Sp:=fun vs H Q u3_=>yE vs H Q u3_
theorem pE(l:List Nat):∀(m s:Nat),(Fv s m).filterMap (fun j=>l.toArray[j]?)=(l.drop s).take m
 | 0,s=>by simp
 | m + 1,s=>by
  rw[List.range'_succ,D3];have z:=pE l m (s + 1);by_cases h:s < l.length
  ·have e:l.toArray[s]?=some l[s]:=by simp[h]
   rw[e];dsimp only;rw[z,List.drop_eq_getElem_cons h,List.take_succ_cons]
  ·have e:l.toArray[s]?=none:=by simp;omega
   rw[e];dsimp only;rw[z,DB (by omega),DB (by omega)];simp
theorem aHA:∀ n:Nat,n < 7→∀ s:Nat,s < 7→s≤n→Builtin.Str.strSliceIndices none (some (s:Int)) 1 n=Fv 0 s:=by decide
theorem aEn:∀ n:Nat,n < 7→∀ s:Nat,s < 7→s≤n→Builtin.Str.strSliceIndices (some (s:Int)) none 1 n=Fv s (n - s):=by decide
theorem aKI{b:List Nat}{s:Nat}(B:b.length≤6)(z:s≤b.length):DU (mk b) none (some (s:Int))=mk (b.take s):=by
 unfold DU;rw[kM,aHA _ (by omega) _ (by omega) z];split
 ·next h=>
  simp at h;rw[h,BJ]
 ·have e:=pE b s 0;rw[DA]at e;exact congrArg mk e
theorem aHB{b:List Nat}{s:Nat}(F:b.length≤6)(z:s≤b.length):DU (mk b) (some (s:Int)) none=mk (b.drop s):=by
 unfold DU;rw[kM,aEn _ (by omega) _ (by omega) z];split
 ·next h=>
  simp at h;have:s=0∨b.length=0:=by omega
  rcases this with rfl | B
  ·rfl
  ·rw[List.length_eq_zero_iff.mp B];simp
 ·have e:=pE b (b.length - s) s;rw[show(b.drop s).take (b.length - s)=b.drop s from Bw (by rw[Cc];exact Ap _)]at e;exact congrArg mk e
theorem aEo(bs:List Nat):∀ z:Array Nat,(bs.map fun c=>mk [c]).foldl (fun(z:Array Nat) (p:Str)=>z ++ (Bh "").cps ++ p.cps) z=z ++ bs.toArray:=by
 have B:(Bh "").cps=#[]:=by decide
 induction bs with
 | nil=>intro z;simp
 | cons x r F=>
  intro z;rw[A8,List.foldl_cons,F,B];simp[mk]
theorem aHC(bs:List Nat):Txt.join "" (bs.map fun c=>mk [c])=mk bs:=by
 show Builtin.Str.glued _ _=_;unfold Builtin.Str.glued;cases bs with
 | nil=>rfl
 | cons x r=>
  have:=aEo r #[x];simp only[A8,List.headD_cons,List.drop_succ_cons,DA];show(⟨List.foldl _ _ _⟩:Str)=_;rw[show(mk [x]).cps=#[x] from rfl];rw[this];simp[mk]
theorem aAj(x:Nat){j:Int}(B:j=(x:Int) % 26):atI abc.cps.toList j=some (i0 x):=by
 have z:0≤j:=by omega
 have h1:j < 26:=by omega
 rw[aF8 z h1];unfold i0;congr 1;omega
theorem aGe(f n:Nat)(h:n≠0):bij (f + 1) n=bij f ((n - 1) / 2) ++ [n % 2]:=by
 show(if n=0 then[] else _)=_;rw[Ia h]
theorem fM:bY ["_law_pen_here","_law_many","_law_letters","_law_way","_law_turn","_law_k","_law_base","_law_spot","_law_found","_law_word","_law_rest","_law_terms"] ["_law_pen_here","_law_many"] (aO pA):=⟨rfl,rfl,rfl,by decide,rfl,by decide,by decide⟩
theorem aHD{z:List Str}(h:∀ w∈z,w.length=1):(z.map (·.length)).sum=z.length:=by
 induction z with
 | nil=>rfl
 | cons x r B=>
  rw[A8,List.sum_cons,B fun w hw=>h w (AM _ hw),h x AL,A1];omega
theorem aGf{f:Ac}{fd:AE}(F:Fun K "_law_names" "_law_names" pA f fd)(bc:mg "len"=none)(ah:mg "range"=none)(bd:mg "min"=none)
  (GT:Cl P w K mg base 1 "_law_take" ["_law_pen_here","_law_many"] hV):
  cH P w K mg base CX0 2 f fd ["_law_pen_here","_law_many"] aDk:=by
 refine F.ok fM (fun vs H Q E h=>?_) (fun cL A outer s H vs Q E hr h=>?_)
 ·obtain⟨p,c,ns,a,m,rfl,_⟩:=h;rfl
 ·obtain⟨p,c,ns,a,m,rfl,hp,ha,hm,k⟩:=h;refine⟨_,aJ (bQ (i:=2) fM.nd rfl (Do rfl) aX)
   (aJ (bQ (i:=3) fM.nd rfl (AG rfl) (cB GT hr (aG (pv 0) (aG aI aF))))
   (aJ (bQ (i:=4) fM.nd rfl (AG rfl) (cB GT hr (aG (pv 0) (aG aI aF))))
   (aJ (bQ (i:=6) fM.nd rfl (AG rfl) (jX PySem.F.plainAttrs_str PySem.F.slot_str_join PySem.F.type_str_join aHj aX (aG (fE (N:=["_law_k","_law_letters","_law_pen_here"]) (src:=[none,some 2,some 0]) (osc:=aO pA) (oN:=["_law_pen_here","_law_many","_law_letters","_law_way","_law_turn","_law_k","_law_base","_law_spot","_law_found","_law_word","_law_rest","_law_terms"]) ⟨by rfl,by decide,by decide,by decide,rfl,by rfl⟩
      (f8 rfl ah (aG (cE c9 (dM (aG (cB GT hr (aG (pv 0) (aG aI aF))) (aG aI (aG aI aF)))) (pv 3) Ig) aF))
      fun cl s H fp dh C=>⟨bU (i:=0) (show(["_law_k","_law_letters","_law_pen_here"]:List Str).Nodup by decide) rfl (AG rfl),eB,cE zK (pv 1) (cB GT hr (aG (pv 2) (aG aI aF))) Ig⟩) aF)))
   (aJ (bQ (i:=7) fM.nd rfl (AG rfl) (cB GT hr (aG (pv 0) (aG (cA eM (aV pQ (by rfl) bc AO (aG (pv 6) aF)) aI) aF))))
   (aJ (bQ (i:=8) fM.nd rfl (AG rfl) (dM aF))
   (aJ (kE B1 rfl (f8 rfl ah (aG (pv 1) aF)) (bU (i:=5) fM.nd rfl (AG rfl))
    (aJ (bQ (i:=9) fM.nd rfl (AG rfl) (cA mB (cE zK (pv 2) (cA gY (cA eM (pv 4) (cA l9 aI (pv 5))) aI) Ig) (cE zK (pv 2) (cA gY (cA eM (pv 4) (cA aCQ (pv 5) aI)) aI) Ig)))
    (aJ (bQ (i:=9) fM.nd rfl (AG rfl) (cA mB (cA mB (eQ aFi (pv 6) fV (fX (pv 7))) (pv 9)) (eQ aFi (pv 6) (fX (pv 7)) fV)))
    (aJ (nE <| cX (bX dU (pv 3) aI (cF _))
     (aJ (bQ (i:=9) fM.nd rfl (AG rfl) aX)
     (aJ (bQ (i:=10) fM.nd rfl (AG rfl) (cA eM (pv 5) aI))
     (aU (aES B1 (bX aIh (pv 10) aI (cF _))
      (aJ (bQ (i:=9) fM.nd rfl (AG rfl) (cA mB (cE zK (pv 2) (cA gY (cA eM (pv 4) (cA l9 aI (cA gY (pv 10) aI))) aI) Ig) (pv 9)))
      (aU (bQ (i:=10) fM.nd rfl (AG rfl) (cA aCQ (cA kG (pv 10) aI) aI)))))))) bM)
    (aU (gW (jX A7 Bn Bm fS (pv 8) (aG (pv 9) aF))))))))
   (aJ (bQ (i:=11) fM.nd rfl (AG rfl) (dM (aG aX (aG aX (aG aX (aG aX (aG aX (aG aX (aG aX (aG aX (aG aX aF)))))))))))
   (aJ (nE <| cX (bX dU (cB GT hr (aG (pv 0) (aG aI aF))) aI (cF _))
    (aU (kE B1 rfl (f8 rfl ah (aG (aV (xA rfl) (by rfl) bd (by kernel_rfl) (aG (pv 1) (aG aI aF))) aF)) (bU (i:=5) fM.nd rfl (AG rfl))
     (aU (cX (PW.pt (l0 (bX dU (cB GT hr (aG (pv 0) (aG aI aF))) aI (cF _)) (i7 (bX mE (cE c9 (pv 11) (pv 5) Ig) (pv 8) (by with_unfolding_all rfl)))))
      (aU (kB (cE c9 (pv 11) (pv 5) Ig) (aER (pv 8) (pv 5) aAD))) bM)))) bM)
   (aU (bG (pv 8))))))))))),?_⟩
  have e0:(Bh "").length=0:=by decide
  have zA:abc.length≤sizeLine:=aS (by rw[aHt];decide);refine⟨_,rfl,p,c,ns,a,_,rfl,hp,by omega,by decide,by decide,fun W a1 H1 w0 w1 l1 u1 bL bR=>?_⟩;refine⟨_,rfl,p,c,ns,a1,_,rfl,bL,by omega,by decide,by decide,fun tt a2 H2 t0 t1 l2 u2 bT b2=>?_⟩;obtain⟨t,rfl⟩:∃ t:Nat,tt=t:=⟨tt.toNat,by omega⟩
  refine⟨rfl,_,rfl,p,c,ns,a2,_,rfl,bT,by omega,by decide,by decide,fun r3 a3 H3 dl da l3 u3 b4 cb=>?_⟩;refine⟨zZ3,fun q hq=>?_⟩;have sq:=aQ (o:=.lst [V.int r3,.int 0,.int 6]) hq;obtain⟨v,hv,an⟩:=g9 (xs:=[V.int r3,.int 0,.int 6]) (i:=W) w0 (by show W < 3;omega);obtain⟨n,rfl,hn0,hn6⟩:∃ n:Int,v=.int n∧0≤n∧n≤6:=by
   simp only[Al,Ao,or_false]at hv;rcases hv with rfl | rfl | rfl
   ·exact⟨_,rfl,by omega,by omega⟩
   ·exact⟨_,rfl,by omega,by omega⟩
   ·exact⟨_,rfl,by omega,by omega⟩
  refine⟨_,rfl,q,_,W,_,rfl,rfl,bE aH,an,n,rfl,by omega,by omega,?_⟩;have kq:aY p H (upd H3 q (.lst [V.int r3,.int 0,.int 6])):=((bR.trans b2).trans cb).same sq;have a0:=b4.same sq;generalize upd H3 q (.lst [V.int r3,.int 0,.int 6])=H4 at kq a0 ⊢;refine jP (fun i ys σ' H'=>∃(a':Int) (bs:List Nat) (o:Option V),σ'=[o,some (.str abc),some (.ref p)]∧cJ H' p c ns a'∧aY p H H'∧a3≤a'∧a'≤a3 + i∧ys=(bs.map fun c=>mk [c]).map V.str∧bs.length=i∧(∀ c∈bs,isL c=true))
   ⟨a3,[],none,rfl,a0,kq,by omega,by omega,rfl,rfl,fun w hw=>by simp at hw⟩ (aS (by omega)) (fun i ys σ H p=>by obtain⟨_,bs,_,_,_,_,_,_,rfl,e,_⟩:=p;rw[Ae,Ae,e];exact Ap _) ?_ ?_
  ·rintro i' ys σ' H5 dc ⟨a',bs,o,rfl,aA,ay,cx,cz,rfl,hl,hb⟩;dsimp only[dG];refine dC ?_;refine⟨_,rfl,_,rfl,p,c,ns,a',_,rfl,aA,by omega,by decide,by decide,fun r6 a6 H6 ba aR l6 u6 am aq=>?_⟩;refine⟨_,r6,i0 r6.toNat,rfl,rfl,zA,aF8 ba aR,a6,bs ++ [i0 r6.toNat],_,rfl,am,ay.trans aq,by omega,by omega,by rw[AU,AU];rfl,by rw[Av,hl];rfl,fun c hc=>?_⟩;rcases Bf.mp hc with z | z
   ·exact hb c z
   ·rw[Bx.mp z];exact aAh _
  ·rintro ys σ' H5 ⟨a4,b,o,rfl,aA,ay,l4,u4,rfl,c1,hb⟩ D hD;have aC:b.length≤6:=by omega
   refine⟨_,D,b.map (fun c=>mk [c]),rfl,rfl,bE aH,by
    rw[aHD (fun w hw=>by obtain⟨x,_,rfl⟩:=Bd.mp hw;rfl),Ae,e0];omega,?_⟩
   rw[aHC];have am:=aA.same (aQ (o:=.lst ((b.map fun c=>mk [c]).map V.str)) hD);have aq:aY p H _:=ay.same (aQ (o:=.lst ((b.map fun c=>mk [c]).map V.str)) hD);generalize upd H5 D (.lst ((b.map fun c=>mk [c]).map V.str))=H6 at am aq ⊢;refine⟨_,rfl,_,rfl,mk b,rfl,aS (by rw[kM];omega),_,_,rfl,rfl,p,c,ns,a4,_,rfl,am,by omega,by omega,by rw[kM];omega,fun ss a5 H7 s0 s1 l5 u5 az bO=>?_⟩;rw[kM]at s1;obtain⟨sp,rfl⟩:∃ sp:Nat,ss=sp:=⟨ss.toNat,by omega⟩
   refine⟨Bu _,fun L hL=>?_⟩;have bg:=aq.trans bO;have ap:L≠p:=by
    obtain⟨l,_,z⟩:=az.ob;exact(bB z hL).symm
   have bN:L≠c:=(bB az.ce hL).symm;have bt:H L=none:=by
    cases e:H L with
    | none=>rfl
    | some x=>exact absurd (bg L x e ap) (by rw[hL];simp)
   refine⟨_,rfl,m,rfl,by omega,by omega,jF (n:=(m:Int).toNat) (fun i σ H'=>Ex3 fun o5 o9 U=>σ=[some (.ref p),some (.int m),some (.str abc),some (.int W),some (.int t),o5,some (.str (mk b)),some (.int sp),some (.ref L),o9,U,none]∧H'=upd H7 L (.lst (((AV i).map fun k=>mk (word (decide (W=1)) b sp t k)).map V.str))) ⟨_,_,_,rfl,rfl⟩ ?_ ?_⟩
   ·rintro i σ H' hi ⟨o5,o9,U,rfl,rfl⟩;dsimp only[dG];have cn:i < 44:=by omega
    refine⟨_,rfl,_,rfl,_,rfl,_,_,rfl,rfl,.inl ⟨by decide,by decide⟩,_,_,rfl,rfl,_,_,rfl,rfl,(by show(0:Int) < 26;decide),_,_,i0 (t + 7 * i),rfl,rfl,zA,aAj _ (by omega),_,rfl,_,rfl,_,rfl,_,_,rfl,rfl,⟨by decide,by decide⟩,_,_,rfl,rfl,_,_,rfl,rfl,(by show(0:Int) < 26;decide),_,_,i0 (t + i / 26),rfl,rfl,zA,aAj _ (by omega),_,_,rfl,rfl,aS (by show 1 + 1≤1000000;decide),?_⟩;have zB:(mk b).length≤sizeLine:=aS (by rw[kM];omega);have aK:∀{x y},(DU (mk b) x y).length≤6:=fun{x y}=>Ba (EF _ x y) (by rw[kM];omega);have h2:((⟨#[i0 (t + 7 * i)]⟩:Str) ++ ⟨#[i0 (t + i / 26)]⟩).length=2:=rfl;refine⟨_,rfl,_,rfl,_,rfl,mk b,rfl,zB,_,rfl,_,_,rfl,rfl,aS (by have:=aK (x:=none) (y:=some (sp:Int));omega),_,rfl,_,rfl,_,rfl,mk b,rfl,zB,_,_,rfl,rfl,aS (by have:=aK (x:=none) (y:=some (sp:Int));have:=aK (x:=some (sp:Int)) (y:=none);rw[DG];omega),?_⟩;have ew:(DU (mk b) none (some (sp:Int)) ++ ((⟨#[i0 (t + 7 * i)]⟩:Str) ++ ⟨#[i0 (t + i / 26)]⟩)) ++ DU (mk b) (some (sp:Int)) none=mk (b.take sp ++ aAi t i ++ b.drop sp):=by
     rw[aKI aC (by omega),aHB aC (by omega)];rw[show((⟨#[i0 (t + 7 * i)]⟩:Str) ++ ⟨#[i0 (t + i / 26)]⟩)=mk (aAi t i) from rfl,aCl,aCl]
    rw[ew];refine⟨fun σ' H'=>∃ U,σ'=[some (.ref p),some (.int m),some (.str abc),some (.int W),some (.int t),some (.int (0 + i)),some (.str (mk b)),some (.int sp),some (.ref L),some (.str (mk (word (decide (W=1)) b sp t i))),U,none]∧H'=upd H7 L (.lst (((AV i).map fun k=>mk (word (decide (W=1)) b sp t k)).map V.str)),?_,?_⟩
    ·refine⟨_,rfl,rfl,_,rfl,d9 (fun g=>?_) (fun g=>?_)⟩
     ·have g':W=1:=V.int.inj (Ie g);subst g';refine⟨_,rfl,_,_,rfl,rfl,fun mm σ' H'=>∃(r f:Nat) (J:List Nat) (rv:Int) (wv:Str),mm=r∧rv=(r:Int)∧wv=mk (J.map fun d=>i0 (t + 9 * d))∧σ'=[some (.ref p),some (.int m),some (.str abc),some (.int 1),some (.int t),some (.int (0 + i)),some (.str (mk b)),some (.int sp),some (.ref L),some (.str wv),some (.int rv),none]∧H'=upd H7 L (.lst (((AV i).map fun k=>mk (word (decide ((1:Int)=1)) b sp t k)).map V.str))∧bij f r ++ J=bij 6 (i + 1)∧r < 2 ^ f∧J.length + f≤6,⟨i + 1,i + 1,6,[],_,_,rfl,(by show 0 + (i:Int) + 1=((i + 1:Nat):Int);omega),(by show Bh ""=mk [];decide),rfl,rfl,by simp,by omega,by simp⟩,?_⟩;rintro mm σ' H' ⟨r,f,J,rv,wv,rfl,rfl,rfl,rfl,rfl,ai,bj,cD⟩;refine⟨_,rfl,_,_,rfl,rfl,_,rfl,d9 (fun g2=>?_) (fun g2=>?_)⟩
      ·have b7:(0:Int) < mm:=Ie g2;refine⟨_,fun dk cN h=>h,?_⟩;obtain⟨f',rfl⟩:∃ f',f=f' + 1:=by
        cases f with
        | zero=>exact absurd bj (by omega)
        | succ x=>exact⟨x,rfl⟩
       have e2:mk [i0 (t + 9 * (mm % 2))] ++ mk (J.map fun d=>i0 (t + 9 * d))=mk (((mm % 2) :: J).map fun d=>i0 (t + 9 * d)):=by rw[aCl];rfl
       refine⟨_,rfl,_,rfl,_,rfl,_,_,rfl,rfl,(by show(0:Int) < 2;decide),_,_,rfl,rfl,.inl ⟨by decide,by decide⟩,_,_,rfl,rfl,_,_,rfl,rfl,(by show(0:Int) < 26;decide),_,_,i0 (t + 9 * (mm % 2)),rfl,rfl,zA,aAj _ (by omega),_,rfl,_,_,rfl,rfl,aS (by rw[kM,Ae];show 1 + _≤_;omega),_,rfl,_,_,rfl,rfl,_,_,rfl,rfl,⟨by decide,by decide⟩,(mm - 1) / 2,by omega,(mm - 1) / 2,f',(mm % 2) :: J,_,_,rfl,?_,e2,rfl,rfl,?_,?_,?_⟩
       ·show((mm:Int) - 1) / 2=_;omega
       ·rw[← ai,aGe f' mm (by omega)];simp
       ·rw[Nat.pow_succ]at bj;omega
       ·rw[A1];omega
      ·have b7:¬ (0:Int) < mm:=fun z=>g2 (Ic z);have hz:mm=0:=by omega
       subst hz;have e3:bij f 0=[]:=by cases f <;> rfl
       rw[e3,FA]at ai;have e4:word (decide ((1:Int)=1)) b sp t i=J.map fun d=>i0 (t + 9 * d):=by
        rw[ai];rfl
       exact⟨some (V.int ((0:Nat):Int)),by rw[e4],rfl⟩
     ·have g':¬ W=1:=fun z=>g (Ic (by rw[z]));rw[decide_eq_false g'];exact⟨_,rfl,rfl⟩
    ·rintro σ' H' ⟨U,rfl,rfl⟩;refine⟨_,rfl,.inl ⟨rfl,_,bE aH⟩,_,rfl,L,_,_,rfl,rfl,aH,by rw[Ae,Ae,B7];exact lC (by omega),_,_,_,rfl,?_⟩;rw[aCM,List.range_succ,AU,AU];rfl
   ·rintro σ H' ⟨o5,o9,U,rfl,rfl⟩;have S8:=aQ (o:=.lst (((AV (m:Int).toNat).map fun k=>mk (word (decide (W=1)) b sp t k)).map V.str)) hL;have ak:=az.same S8;have aM:=bg.same S8;have ao:upd H7 L (.lst (((AV (m:Int).toNat).map fun k=>mk (word (decide (W=1)) b sp t k)).map V.str)) L=_:=aH;have hN:Nms ((AV (m:Int).toNat).map fun k=>mk (word (decide (W=1)) b sp t k)):=by
     refine⟨aHw (by omega) (by omega),fun w hw=>?_,aGd⟩;obtain⟨k',hk',rfl⟩:=Bd.mp hw;have:=BC.mp hk';exact aEl (by omega) aC hb
    have aB:((AV (m:Int).toNat).map fun k=>mk (word (decide (W=1)) b sp t k)).length=m:=by rw[Ae,B7];omega
    generalize ((AV (m:Int).toNat).map fun k=>mk (word (decide (W=1)) b sp t k))=ws at ak aM ao hN aB ⊢;generalize upd H7 L (.lst (ws.map V.str))=H8 at ak aM ao ⊢;refine⟨zZ9,fun T hT=>?_⟩;have S9:=aQ (o:=.lst (nQ.map V.str)) hT;have br:upd H8 T (.lst (nQ.map V.str)) T=some (.lst (nQ.map V.str)):=aH;have bb:=ak.same S9;have au:=aM.same S9;have bf:=S9 _ _ ao;have b1:T≠L:=(bB ao hT).symm;have bi:T≠p:=by
     obtain⟨l,_,z⟩:=ak.ob;exact(bB z hT).symm
    have eT:upd H8 T (.lst [V.str "as",.str "with",.str "part",.str "field",.str "none",.str "done",.str "write",.str "back",.str "join"])=upd H8 T (.lst (nQ.map V.str)):=rfl;rw[eT];generalize upd H8 T (.lst (nQ.map V.str))=H9 at bb au bf br ⊢;refine⟨fun σ' H'=>∃(o5:Option V) (vs:List Str) (a6:Int),σ'=[some (.ref p),some (.int m),some (.str abc),some (.int W),some (.int t),o5,some (.str (mk b)),some (.int sp),some (.ref L),o9,U,some (.ref T)]∧H' L=some (.lst (vs.map V.str))∧vs.length=m∧Nms vs∧cJ H' p c ns a6∧a≤a6∧a6≤a + 30∧aY p H H',?_,?_⟩
    ·refine⟨_,rfl,p,c,ns,a5,_,rfl,bb,by omega,by decide,by decide,fun r6 a6 cT ba aR l6 u6 av aj=>?_⟩;have aw:=aj _ _ bf ap;have bp:=aj _ _ br bi;have ar:=au.trans aj;refine⟨rfl,_,rfl,d9 (fun g=>?_) (fun g=>?_)⟩
     ·refine⟨_,rfl,_,_,rfl,?_⟩;obtain⟨n9,hn9,n90,n91,n92⟩:∃ n9:Int,(if (9:Int) < m then(9:Int) else m)=n9∧0≤n9∧n9≤9∧n9≤m:=by
       refine⟨_,rfl,?_⟩;split <;> omega
      rw[hn9];refine⟨n9,rfl,by omega,by omega,jF (n:=n9.toNat) (fun i σ H'=>Ex3 fun(o5:Option V) (vs:List Str) (a7:Int)=>Aw6 (σ=[some (.ref p),some (.int m),some (.str abc),some (.int W),some (.int t),o5,some (.str (mk b)),some (.int sp),some (.ref L),o9,U,some (.ref T)]) (H' L=some (.lst (vs.map V.str))) (H' T=some (.lst (nQ.map V.str))) (vs.length=m) (Nms vs) (Aw3 (cJ H' p c ns a7) (a6≤a7) (a7≤a6 + i∧aY p H H'))) ⟨_,ws,a6,rfl,aw,bp,aB,hN,av,by omega,by simp,ar⟩ ?_ ?_⟩
      ·rintro i σ H' hi ⟨bo,vs,a7,rfl,af,be,Y,B,ad,bF,bP,kv⟩;dsimp only[dG];refine⟨_,rfl,p,c,ns,a7,_,rfl,ad,by omega,by decide,by decide,fun r8 a8 de dm cP l8 u8 ae ag=>?_⟩;have Z:=ag _ _ af ap;have O:=ag _ _ be bi;have ax:=kv.trans ag;refine⟨rfl,_,rfl,d9 (fun g2=>?_) (fun g2=>?_)⟩
       ·obtain⟨term,hterm⟩:∃ x,nQ[i]?=some x:=⟨_,Ag (show i < 9 by omega)⟩
        have cf:ixN (nQ.map V.str).length (0 + (i:Int))=some i:=by
         unfold ixN;rw[Ae,Ib (by omega),Ib (by show 0 + (i:Int) < 9;omega)];congr 1;omega
        have an:atI (nQ.map V.str) (0 + (i:Int))=some (V.str term):=by
         unfold atI;rw[cf];simp[hterm]
        have bq:ixN (vs.map V.str).length (0 + (i:Int))=some i:=by
         unfold ixN;rw[Ae,Ib (by omega),Ib (by omega)];congr 1;omega
        refine⟨_,rfl,_,rfl,T,_,_,_,rfl,rfl,bE O,an,_,rfl,L,_,rfl,.inl (bE Z),rfl,eJ vs,_,rfl,?_⟩;rw[Ib rfl,tE];refine d9 (fun g3=>?_) (fun g3=>?_)
        ·have b5:term ∉ vs:=by simpa using g3
         refine⟨_,rfl,_,rfl,T,_,_,_,rfl,rfl,bE O,an,_,rfl,_,rfl,L,_,_,i,rfl,rfl,Z,bq,_,vs.set i term,a8,rfl,by rw[aH,← List.map_set],by rw[aW b1];exact O,by rw[FC,Y],⟨aGa B.nd b5,fun w hw=>?_,aJC B.zq (aBe term (AF hterm)).1 (aBe term (AF hterm)).2⟩,?_,by omega,by omega,?_⟩
         ·rcases Ca hw with z | z
          ·exact B.ok w z
          ·rw[z];exact aCm term (AF hterm)
         ·obtain⟨⟨l,hl,e⟩,ce,ge,sm⟩:=ae;exact⟨⟨l,hl,by rw[aW ap.symm];exact e⟩,by rw[aW bN.symm];exact ce,ge,sm⟩
         ·intro x o e ne;have nx:x≠L:=bB e bt;rw[aW nx];exact ax x o e ne
        ·exact⟨_,vs,a8,rfl,Z,O,Y,B,ae,by omega,by omega,ax⟩
       ·exact⟨_,vs,a8,rfl,Z,O,Y,B,ae,by omega,by omega,ax⟩
      ·rintro σ H' ⟨bo,vs,a7,rfl,af,be,Y,B,ad,bF,bP,kv⟩;exact⟨_,vs,a7,rfl,af,Y,B,ad,by omega,by omega,kv⟩
     ·exact⟨_,ws,a6,rfl,aw,aB,hN,av,by omega,by omega,ar⟩
    ·rintro σ' H' ⟨bo,vs,a6,rfl,af,Y,B,ad,b3,bD,kv⟩;exact⟨_,rfl,k L vs a6 H' bt af Y B b3 bD ad kv⟩
structure OkD(b k:Nat)(d:Ak):Prop where
 sh:d.showable=true
 dp:d.depth≤k
 len:d.shown.length≤b
theorem OkD.mono{b z k B:Nat}{d:Ak}(h:OkD b k d)(F:b≤z)(J:k≤B):OkD z B d:=⟨h.sh,Ba h.dp J,Ba h.len F⟩
theorem aGg{b k:Nat}:∀{ds:List Ak},(∀ d∈ds,OkD b k d)→PyData.showableAll ds=true∧Bo ds≤k∧((ds.map C6).map (·.length)).sum≤ds.length * b
 | [],_=>⟨rfl,Bu _,by simp⟩
 | d :: r,h=>by
  obtain⟨h1,h2,h3⟩:=aGg (ds:=r) fun x z=>h x (AM _ z);obtain⟨g1,g2,g3⟩:=h d AL;refine⟨?_,?_,?_⟩
  ·unfold PyData.showableAll;rw[g1,h1];rfl
  ·unfold Bo;exact Nat.max_le.mpr ⟨g2,h2⟩
  ·rw[A8,A8,List.sum_cons,A1,Nat.succ_mul];omega
theorem OkD.tuple{b k n:Nat}{ds:List Ak}(h:∀ d∈ds,OkD b k d)(hn:ds.length≤n):OkD (n * (b + 2) + 3) (k + 1) (.tuple ds):=by
 obtain⟨h1,h2,h3⟩:=aGg h;refine⟨?_,?_,?_⟩
 ·unfold EC;exact h1
 ·unfold BM;omega
 ·unfold C6;rw[PyProof.Rows.shownAll_eq_map];unfold tupleText;have B:=StrLaws.join_length_le (Bh ", ") (ds.map C6);have z:(Bh ", ").length=2:=by decide
  have F:(Bh "(").length=1:=by decide
  have J:∀ c:Bool,(Bh (if c=true then ",)" else ")")).length≤2:=by decide
  have O:=J ((ds.map C6).length == 1);rw[z,Ae]at B;rw[DG,DG,F];have:ds.length * b + ds.length * 2≤n * (b + 2):=by
   rw[← Nat.mul_add];exact Nat.mul_le_mul_right _ hn
  omega
theorem OkD.list{b k n:Nat}{ds:List Ak}(h:∀ d∈ds,OkD b k d)(hn:ds.length≤n):OkD (n * (b + 2) + 3) (k + 1) (.list ds):=by
 obtain⟨h1,h2,h3⟩:=aGg h;refine⟨?_,?_,?_⟩
 ·unfold EC;exact h1
 ·unfold BM;omega
 ·unfold C6;rw[PyProof.Rows.shownAll_eq_map,listText_eq_join];have B:=StrLaws.join_length_le (Bh ", ") (ds.map C6);have z:(Bh ", ").length=2:=by decide
  have F:(Bh "[").length=1:=by decide
  have J:(Bh "]").length=1:=by decide
  rw[z,Ae]at B;rw[DG,DG,F,J];have:ds.length * b + ds.length * 2≤n * (b + 2):=by
   rw[← Nat.mul_add];exact Nat.mul_le_mul_right _ hn
  omega
theorem OkD.str{z:Str}(h:Ew z=true)(F:z.length≤10):OkD 102 0 (.str z):=by
 refine⟨by unfold EC;rfl,by unfold BM;exact Ap _,?_⟩;have hz:z.cps.size≤10:=F;have B:(AR z).layable0=true:=by
  unfold PyData.layable0 BV BM PyData.weight;rw[h,Ic (show(0:Nat)≤64 by decide),Ic (show z.cps.size≤2 ^ 20 by omega)];rfl
 have:=PyProof.Rows.len_repr_of_layable B;unfold C6;omega
theorem aHE{i:Int}(z:0≤i)(h1:i < 10 ^ 60):(Bh (toString i)).length≤60:=by
 obtain⟨n,rfl⟩:∃ n:Nat,i=n:=⟨i.toNat,by omega⟩
 rw[PySem.ofString_length];show(Int.repr (n:Int)).length≤60;have e:Int.repr (n:Int)=Nat.repr n:=rfl;rw[e];exact(Nat.length_repr_le_iff (by decide)).mpr (by omega)
theorem OkD.int{i:Int}(z:0≤i)(h1:i < 10 ^ 60):OkD 102 0 (.int i):=by
 refine⟨?_,by unfold BM;exact Ap _,?_⟩
 ·unfold EC;refine Ic ?_;have h2:i.natAbs < 2 ^ 200:=by
   have:(10:Int) ^ 60 < ((2 ^ 200:Nat):Int):=by decide
   omega
  by_cases hz:i.natAbs=0
  ·rw[hz];decide
  ·have:=(Nat.log2_lt hz).mpr h2;omega
 ·unfold C6;have:=aHE z h1;omega
theorem dZ{z:Str}(h:bV z=true):Ew z=true:=by
 unfold bV at h;rw[AY,A3]at h;unfold Ew;rw[Array.all_eq_true_iff_forall_mem];intro c hc;have:=Ie (h.2 c (by simpa using hc));exact Ic (by omega)
theorem OkD.name{z:Str}(h:bV z=true):OkD 102 0 (.str z):=OkD.str (dZ h) (by have:=f9 h;omega)
def tyN:Ak→String
 | .none=>"NoneType"
 | .bool _=>"bool"
 | .int _=>"int"
 | .str _=>"str"
 | .list _=>"list"
 | .tuple _=>"tuple"
 | .dict _=>"dict"
def yF:Ak→Bool | .str _=>true | _=>false
def iW:Ak→Bool | .tuple _=>true | _=>false
def isInt:Ak→Bool | .int _=>true | .bool _=>true | _=>false
def aEp:Ak→Bool | .bool _=>true | _=>false
def cU:Ak→Bool | .str z=>bV z | _=>false
def dN(lo hi:Int):Ak→Bool | .int i=>decide (lo≤i∧i≤hi) | _=>false
def gJ:Ak→Bool
 | .tuple [l,h,a]=>cU l && cU h && dN 1 10000000 a
 | _=>false
theorem aDl{K:Ah}(d:Ak):Bt K (.type (tyN d)) (.type "str")=some (yF d):=by
 cases d <;> dsimp only[tyN,yF] <;> first | exact nF | exact uP (by decide) (by decide) (by decide)
theorem j7{K:Ah}(d:Ak):Bt K (.type (tyN d)) (.type "tuple")=some (iW d):=by
 cases d <;> dsimp only[tyN,iW] <;> first | exact nF | exact uP (by decide) (by decide) (by decide)
theorem aDm{K:Ah}(d:Ak):Bt K (.type (tyN d)) (.type "int")=some (isInt d):=by
 cases d <;> dsimp only[tyN,isInt] <;> first | exact nF | exact uP (by decide) (by decide) (by decide)
theorem aJD{K:Ah}(d:Ak):Bt K (.type (tyN d)) (.type "bool")=some (aEp d):=by
 cases d <;> dsimp only[tyN,aEp] <;> first | exact nF | exact uP (by decide) (by decide) (by decide)
theorem lY{K:Ah}{m:Bool}{H:Hp}{x:V}{d:Ak}(h:RdV m H x d):kX K H x (.type (tyN d)):=by
 cases h with
 | non=>exact .non
 | bl b=>exact .bl b
 | int i=>exact .int i
 | str z _=>exact .str z
 | lst _ e _ _=>exact .lst e
 | tup e _ _=>exact .tup e
 | dct _ e=>exact .dK e
inductive vX(K:Ah)(vs:List V)(H:Hp)(Q:VK)(u3_:XK):Prop
 | mk (x:_) (q0:vs=[x]) (q1:((∃ z,x=V.str z∧z.length≤1000000∧∀ H',bJ H H'→Q (.bl (bV z)) H')∨(∃ t,kX K H x t∧Bt K t (.type "str")=some false∧Q (.bl false) H))):vX K vs H Q u3_
def aBf(K:Ah):Sp:=fun vs H Q u3_=>vX K vs H Q u3_
inductive aBg(vs:List V)(H:Hp)(Q:VK)(u3_:XK):Prop
 | mk (m:Bool) (x:V) (d:Ak) (q0:vs=[x]) (q1:RdV m H x d) (q2:∀ H',bJ H H'→Q (.bl (cU d)) H'):aBg vs H Q u3_
def kQ:Sp:=fun vs H Q u3_=>aBg vs H Q u3_
inductive aBh(vs:List V)(H:Hp)(Q:VK)(u3_:XK):Prop
 | mk (m:Bool) (x:V) (d:Ak) (q0:vs=[x]) (q1:RdV m H x d) (q2:Q (.bl (isInt d && !aEp d)) H):aBh vs H Q u3_
def aGh:Sp:=fun vs H Q u3_=>aBh vs H Q u3_
inductive yG(vs:List V)(H:Hp)(Q:VK)(u3_:XK):Prop
 | mk (m:Bool) (x:V) (d:Ak) (lo hi:Int) (q0:vs=[x,.int lo,.int hi]) (q1:RdV m H x d) (q2:Q (.bl (dN lo hi d)) H):yG vs H Q u3_
def oF:Sp:=fun vs H Q u3_=>yG vs H Q u3_
inductive aBi(vs:List V)(H:Hp)(Q:VK)(u3_:XK):Prop
 | mk (m:Bool) (x:V) (d:Ak) (q0:vs=[x]) (q1:RdV m H x d) (q2:∀ H',bJ H H'→Q (.bl (gJ d)) H'):aBi vs H Q u3_
def aGi:Sp:=fun vs H Q u3_=>aBi vs H Q u3_
structure Txt(K:Ah)(mg:Str→Option Ab):Prop where
 isi:mg "isinstance"=none
 str:mg "str"=none
 len:mg "len"=none
 al:mg "all"=none
 int:mg "int"=none
 bool:mg "bool"=none
 tuple:mg "tuple"=none
 set:mg "set"=none
 longest:∃ t,mg "LONGEST"=some (.int 8 t)
 lastDay:∃ t,mg "LAST_DAY"=some (.int 9999 t)
 fewest:∃ t,mg "FEWEST_LANDS"=some (.int 2 t)
 most:∃ t,mg "MOST_LANDS"=some (.int 6 t)
 acres:∃ t,mg "MOST_PART_ACRES"=some (.int 10000000 t)
 inches:∃ t,mg "MOST_INCHES"=some (.int 10000000 t)
 pence:∃ t,mg "MOST_PENCE"=some (.int 1000000000 t)
 spades:∃ t,mg "MOST_SPADES"=some (.int 1000000 t)
theorem aJE(K:Ah):Bt K (.type "str") (.type "str")=some true:=by
 unfold Bt;rw[Ib (by rfl)]
theorem scN:bY ["thing"] ["thing"] (aO mQ):=⟨rfl,rfl,rfl,by decide,rfl,by decide,by decide⟩
theorem aGj(a b:Nat):(!decide (([b]:List Nat) < [a]))=decide (a≤b):=by
 have:([b]:List Nat) < [a]↔b < a:=by
  constructor
  ·intro h;cases h with
   | rel h=>exact h
   | cons h=>cases h
  ·intro h;exact List.Lex.rel h
 by_cases h:b < a
 ·rw[Ic (this.mpr h),decide_eq_false (by omega)];rfl
 ·rw[decide_eq_false (fun z=>h (this.mp z)),Ic (by omega)];rfl
theorem aEq{f:Ac}{fd:AE}(F:Fun K "is_name" "is_name" mQ f fd)(T:Txt K mg):cH P w K mg base CX0 1 f fd ["thing"] (aBf K):=by
 refine F.ok scN (fun vs H Q E h=>?_) (fun af A outer s H vs Q E hr h=>?_)
 ·obtain⟨x,rfl,_⟩:=h;rfl
 ·obtain⟨x,rfl,hx⟩:=h;obtain⟨tl,hlong⟩:=T.longest;refine⟨_,aJ (cX (jU (fQ (dJ (aV dQ (by rfl) T.isi (by kernel_rfl) (gR (pv 0) (gR (dW (v:=.ty "str") (by rfl) T.str (by kernel_rfl) rfl) aF)))))
    (iG (fQ (aAA rL rL aI (aV pQ (by rfl) T.len AO (gR (pv 0) aF)) (c7 (v:=.int 8) (by rfl) hlong ⟨_,rfl⟩))))).pt (aU (bG iR)) bM)
   (aU (bG (aV (pV rfl) (by rfl) T.al (by kernel_rfl) (gR (fE (N:=["sign"]) (src:=[none]) (osc:=aO mQ) (oN:=["thing"]) ⟨by rfl,by decide,by decide,by decide,rfl,by rfl⟩ (aJf (pv 0))
    fun cl s H fp dh C=>⟨bU (i:=0) (show(["sign"]:List Str).Nodup by decide) rfl (AG rfl),eB,tW xQ xQ aX (pv 0) aX⟩) aF)))),?_⟩
  rcases hx with⟨z,rfl,hz,k⟩ | ⟨t,ty,e,k⟩
  ·refine⟨_,rfl,_,"str",_,true,rfl,kX.str z,aJE K,true,rfl,cO ?_⟩;refine⟨_,rfl,z,rfl,aS hz,_,_,rfl,rfl,_,rfl,?_⟩;have bad:¬ (1≤z.length∧z.length≤8)→Q (.bl false) H:=fun h=>by
    have:=k H (bJ.refl H);unfold bV at this;rw[decide_eq_false h]at this;exact this
   refine d9 (fun h1=>?_) (fun h1=>?_)
   ·have U:=Ie h1;refine⟨_,_,rfl,rfl,_,rfl,?_⟩;by_cases Y:(z.length:Int)≤8
    ·rw[Ic Y];refine cO ?_;refine⟨_,rfl,z,rfl,?_⟩;refine aFl (fun i ys σ H'=>H'=H∧ys=((z.cps.toList.take i).map fun c=>V.bl (decide (97≤c∧c≤122)))∧σ.length=1) ⟨rfl,rfl,rfl⟩ (aS hz) (fun i ys σ H' p=>by rw[p.2.1,Ae,AX];omega) ?_ ?_
     ·rintro i c ys σ H' hc ⟨rfl,rfl,Z⟩;obtain⟨o,rfl⟩:∃ o,σ=[o]:=by
       match σ,Z with
       | [o],_=>exact⟨o,rfl⟩
      dsimp only[dG];refine dC ?_;refine⟨_,rfl,_,_,rfl,rfl,_,rfl,?_⟩;have B:∀ b:Bool,b=decide (97≤c∧c≤122)→(H'=H'∧(Gb (fun c=>V.bl (decide (97≤c∧c≤122))) (Ey i z.cps.toList)) ++ [V.bl b]=(z.cps.toList.take (i + 1)).map (fun c=>V.bl (decide (97≤c∧c≤122)))∧([o].set 0 (some (V.str ⟨#[c]⟩))).length=1):=fun b hb=>by
       refine⟨rfl,?_,rfl⟩;rw[Bk,AU,hb];have:z.cps.toList[i]?=some c:=by simpa using hc
       rw[this];rfl
      have e1:(!decide ((⟨#[c]⟩:Str).cps.toList < ("a":Str).cps.toList))=decide (97≤c):=aGj 97 c;have e2:(!decide (("z":Str).cps.toList < (⟨#[c]⟩:Str).cps.toList))=decide (c≤122):=aGj c 122;rw[e1];refine d9 (fun O=>?_) (fun O=>?_)
      ·have W:=Ie O;refine⟨_,_,rfl,rfl,?_⟩;rw[e2];refine B _ ?_;rw[decide_eq_decide];omega
      ·have W:¬ 97≤c:=fun z=>O (Ic z);refine B false ?_;rw[decide_eq_false (by omega)]
     ·rintro ys σ H' ⟨rfl,rfl,Z⟩ D hD;have J:Ey z.cps.size z.cps.toList=z.cps.toList:=by rw[← BD];exact BJ
      rw[J];refine⟨D,z.cps.toList.map fun c=>decide (97≤c∧c≤122),rfl,bE (by rw[aH,CA];rfl),?_⟩;have:=k _ (aQ (o:=.lst (Gb (fun c=>V.bl (decide (97≤c∧c≤122))) z.cps.toList)) hD);unfold bV at this;rw[Ic (by omega),Bb]at this;rw[DE];exact this
    ·rw[decide_eq_false Y];exact dC (bad (by omega))
   ·have U:¬ (1:Int)≤z.length:=fun z=>h1 (Ic z);exact⟨false,rfl,dC (bad (by omega))⟩
  ·refine⟨_,rfl,_,"str",t,false,rfl,ty,e,false,rfl,dC ?_⟩;refine dC ?_;exact k
theorem aHF{f:Ac}{fd:AE}{k:Nat}{ps:List Str}{sp B:Sp}(G:cH P w K mg base CX0 k f fd ps sp)(h:∀ vs H Q E,B vs H Q E→sp vs H Q E):cH P w K mg base CX0 k f fd ps B:=
 ⟨fun vs H Q E z=>G.len vs H Q E (h vs H Q E z),fun A outer s H F O vs Q E W U J r z=>G.run A outer s H F O vs Q E W U J r (h vs H Q E z)⟩
theorem aEr(vs:List V)(H:Hp)(Q:VK)(E:XK)(h:kQ vs H Q E):aBf K vs H Q E:=by
 obtain⟨m,x,d,rfl,hx,k⟩:=h;refine⟨x,rfl,?_⟩;have ty:=lY (K:=K) hx;have B:=aDl (K:=K) d;cases hx with
 | str z hz=>exact .inl ⟨z,rfl,by omega,k⟩
 | non=>exact .inr ⟨_,ty,B,k H (bJ.refl H)⟩
 | bl b=>exact .inr ⟨_,ty,B,k H (bJ.refl H)⟩
 | int i=>exact .inr ⟨_,ty,B,k H (bJ.refl H)⟩
 | lst _ _ _ _=>exact .inr ⟨_,ty,B,k H (bJ.refl H)⟩
 | tup _ _ _=>exact .inr ⟨_,ty,B,k H (bJ.refl H)⟩
 | dct _ _=>exact .inr ⟨_,ty,B,k H (bJ.refl H)⟩
theorem aJF:bY ["thing"] ["thing"] (aO jK):=⟨rfl,rfl,rfl,by decide,rfl,by decide,by decide⟩
theorem aHG{f:Ac}{fd:AE}(F:Fun K "is_number" "is_number" jK f fd)(T:Txt K mg):cH P w K mg base CX0 1 f fd ["thing"] aGh:=by
 refine F.ok aJF (fun vs H Q E h=>?_) (fun z A outer s H vs Q E J h=>?_)
 ·obtain⟨m,x,d,rfl,_⟩:=h;rfl
 ·obtain⟨m,x,d,rfl,hx,k⟩:=h;refine⟨_,aU (bG (dY (aV dQ (by rfl) T.isi (by kernel_rfl) (aG (pv 0) (aG (dW (v:=.ty "int") (by rfl) T.int (by kernel_rfl) rfl) aF)))
   (gM (aIU (aV dQ (by rfl) T.isi (by kernel_rfl) (aG (pv 0) (aG (dW (v:=.ty "bool") (by rfl) T.bool (by kernel_rfl) rfl) aF))))))),?_⟩
  refine⟨_,rfl,_,"int",_,_,rfl,lY hx,aDm d,_,rfl,d9 (fun g=>?_) (fun g=>?_)⟩
  ·rw[g,Bb]at k;exact⟨_,rfl,_,"bool",_,_,rfl,lY hx,aJD d,_,rfl,k⟩
  ·have B:isInt d=false:=by simpa using g
   rw[B]at k;exact k
theorem aEs:bY ["thing","least","most"] ["thing","least","most"] (aO lU):=⟨rfl,rfl,rfl,by decide,rfl,by decide,by decide⟩
theorem aCn{f:Ac}{fd:AE}(F:Fun K "is_whole" "is_whole" lU f fd)(U:Cl P w K mg base 1 "is_number" ["thing"] aGh):cH P w K mg base CX0 2 f fd ["thing","least","most"] oF:=by
 refine F.ok aEs (fun vs H Q E h=>?_) (fun W A outer s H vs Q E Y h=>?_)
 ·obtain⟨m,x,d,lo,hi,rfl,_⟩:=h;rfl
 ·obtain⟨m,x,d,lo,hi,rfl,hx,k⟩:=h;refine⟨_,aU (bG (dY (cB U Y (aG (pv 0) aF)) (gM (tW rL rL (pv 1) (pv 0) (pv 2))))),_,rfl,m,x,d,rfl,hx,_,rfl,d9 (fun g=>?_) (fun g=>?_)⟩
  ·obtain⟨i,rfl⟩:∃ i,d=.int i:=by
    cases d with
    | int i=>exact⟨i,rfl⟩
    | _=>simp[isInt,aEp]at g
   cases hx;refine⟨_,rfl,_,rfl,_,_,rfl,rfl,?_⟩;have O:Q (.bl (decide (lo≤i∧i≤hi))) H:=k;refine⟨_,rfl,d9 (fun J=>?_) (fun J=>?_)⟩
   ·have B:lo≤i:=Ie J;refine⟨_,rfl,_,_,rfl,rfl,?_⟩;show Q (.bl (decide (i≤hi))) H;rw[decide_eq_decide.mpr (show i≤hi↔lo≤i∧i≤hi from⟨fun z=>⟨B,z⟩,fun z=>z.2⟩)];exact O
   ·have B:¬ lo≤i:=fun z=>J (Ic z);rw[decide_eq_false (fun z=>B z.1)]at O;exact O
  ·have Z:(isInt d && !aEp d)=false:=by simpa using g
   have e:dN lo hi d=false:=by
    cases d with
    | int i=>simp[isInt,aEp]at Z
    | _=>rfl
   rw[e]at k;exact k
inductive aBj(vs:List V)(H:Hp)(Q:VK)(u3_:XK):Prop
 | mk (m:Bool) (x:V) (d:Ak) (q0:vs=[x]) (q1:RdV m H x d) (q2:Q (.bl (dN 0 9999999 d)) H):aBj vs H Q u3_
def aCo:Sp:=fun vs H Q u3_=>aBj vs H Q u3_
theorem aAk:bY ["thing","land","house","acres"] ["thing"] (aO oA):=⟨rfl,rfl,rfl,by decide,rfl,by decide,by decide⟩
theorem aHH{f:Ac}{fd:AE}(F:Fun K "is_part" "is_part" oA f fd)(T:Txt K mg)
  (GN:Cl P w K mg base 1 "is_name" ["thing"] kQ)
  (GW:Cl P w K mg base 2 "is_whole" ["thing","least","most"] oF):
  cH P w K mg base CX0 3 f fd ["thing"] aGi:=by
 refine F.ok aAk (fun vs H Q E h=>?_) (fun ah A outer s H vs Q E hr h=>?_)
 ·obtain⟨m,x,d,rfl,_⟩:=h;rfl
 ·obtain⟨m,x,d,rfl,hx,k⟩:=h;have J:cY 1 _:=hr.mono (by decide);obtain⟨ta,hacres⟩:=T.acres;refine⟨_,aJ (cX (PW.pt (jU (fQ (dJ (aV dQ (by rfl) T.isi (by kernel_rfl) (aG (pv 0) (aG (dW (v:=.ty "tuple") (by rfl) T.tuple (by kernel_rfl) rfl) aF)))))
    (iG (bX rK (aV bH (by rfl) T.len AO (aG (pv 0) aF)) aI (cF _))))) (aU (bG iR)) bM)
   (aJ (kB (pv 0) (m8 rfl (dB (bU (i:=1) aAk.nd rfl (AG rfl)) (dB (bU (i:=2) aAk.nd rfl (AG rfl)) (dB (bU (i:=3) aAk.nd rfl (AG rfl)) jV)))))
   (aU (bG (dY (cB GN J (aG (pv 1) aF)) (dY (cB GN J (aG (pv 2) aF)) (gM (cB GW hr (aG (pv 3) (aG aI (aG (c7 (v:=.int 10000000) (by rfl) hacres ⟨_,rfl⟩) aF)))))))))),?_⟩
  refine⟨_,rfl,_,"tuple",_,_,rfl,lY hx,j7 d,_,rfl,?_⟩;cases hd:iW d with
  | false=>
   have e:gJ d=false:=by
    cases d with
    | tuple ds=>simp[iW]at hd
    | _=>rfl
   rw[e]at k;exact k H (bJ.refl H)
  | true=>
   obtain⟨ds,rfl⟩:∃ ds,d=.tuple ds:=by
    cases d with
    | tuple z=>exact⟨z,rfl⟩
    | _=>simp[iW]at hd
   cases hx with
   | @tup a xs _ e hl r=>
    have Y:=r.len;refine cO ?_;refine⟨_,rfl,a,xs,rfl,.inr (aZ e),rfl,_,rfl,?_⟩;by_cases U:xs.length=3
    ·rw[Ic (show V.int (xs.length:Int)=V.int 3 by rw[U];rfl)];refine cO ?_
     match xs,ds,U,r with
     | [x1,x2,x3],[d1,d2,d3],_,.cons r1 (.cons r2 (.cons r3 .nil))=>
      refine⟨_,rfl,a,_,rfl,aZ e,rfl,_,_,rfl,_,_,rfl,_,_,rfl,rfl,?_⟩;have k':∀ H',bJ H H'→Q (.bl (cU d1 && cU d2 && dN 1 10000000 d3)) H':=k;refine⟨_,rfl,m,x1,d1,rfl,r1,fun H1 O=>⟨_,rfl,?_⟩⟩;have Z:=k' H1 O;refine d9 (fun g=>?_) (fun g=>?_)
      ·refine⟨_,rfl,m,x2,d2,rfl,r2.same O,fun H2 s2=>⟨_,rfl,?_⟩⟩;have B:=k' H2 (O.trans s2);rw[g,Bb]at B;refine d9 (fun W=>?_) (fun W=>?_)
       ·rw[W,Bb]at B;exact⟨_,rfl,m,x3,d3,1,10000000,rfl,(r3.same O).same s2,B⟩
       ·rw[(by simpa using W:cU d2=false)]at B;exact B
      ·rw[(by simpa using g:cU d1=false)]at Z;exact Z
    ·rw[decide_eq_false (show¬ V.int (xs.length:Int)=V.int 3 from fun z=>U (by injection z with z;omega))];refine dC ?_;have e2:gJ (.tuple ds)=false:=by
      match ds,(show ds.length≠3 by omega)with
      | [],_=>rfl
      | [_],_=>rfl
      | [_,_],_=>rfl
      | [_,_,_],z=>exact absurd rfl z
      | _ :: _ :: _ :: _ :: _,_=>rfl
     rw[e2]at k;exact k H (bJ.refl H)
theorem aJG:bY ["thing"] ["thing"] (aO oB):=⟨rfl,rfl,rfl,by decide,rfl,by decide,by decide⟩
theorem aHI{f:Ac}{fd:AE}(F:Fun K "is_inch" "is_inch" oB f fd)(T:Txt K mg)
  (J:Cl P w K mg base 2 "is_whole" ["thing","least","most"] oF):
  cH P w K mg base CX0 3 f fd ["thing"] aCo:=by
 refine F.ok aJG (fun vs H Q E h=>?_) (fun z A outer s H vs Q E B h=>?_)
 ·obtain⟨m,x,d,rfl,_⟩:=h;rfl
 ·obtain⟨m,x,d,rfl,hx,k⟩:=h;obtain⟨ti,hin⟩:=T.inches;exact⟨_,aU (bG (cB J B (aG (pv 0) (aG aI (aG (cA kG (c7 (v:=.int 10000000) (by rfl) hin ⟨_,rfl⟩) aI) aF))))),_,rfl,_,_,rfl,rfl,m,x,d,0,9999999,rfl,hx,k⟩
def aAl:Ak→Bool
 | .tuple ds=>ds.all cU
 | _=>false
def aAm:Ak→Bool
 | .tuple ds=>ds.all gJ
 | _=>false
inductive aBk(vs:List V)(H:Hp)(Q:VK)(u3_:XK):Prop
 | mk (m:Bool) (x:V) (d:Ak) (q0:vs=[x]) (q1:RdV m H x d) (q2:∀ H',bJ H H'→Q (.bl (aAl d)) H'):aBk vs H Q u3_
def vY:Sp:=fun vs H Q u3_=>aBk vs H Q u3_
inductive aBl(vs:List V)(H:Hp)(Q:VK)(u3_:XK):Prop
 | mk (m:Bool) (x:V) (d:Ak) (q0:vs=[x]) (q1:RdV m H x d) (q2:∀ H',bJ H H'→Q (.bl (aAm d)) H'):aBl vs H Q u3_
def aCp:Sp:=fun vs H Q u3_=>aBl vs H Q u3_
theorem aJH:bY ["thing"] ["thing"] (aO iL):=⟨rfl,rfl,rfl,by decide,rfl,by decide,by decide⟩
theorem aHJ{f:Ac}{fd:AE}(F:Fun K "all_names" "all_names" iL f fd)(T:Txt K mg)
  (Y:Cl P w K mg base 1 "is_name" ["thing"] kQ):
  cH P w K mg base CX0 2 f fd ["thing"] vY:=by
 refine F.ok aJH (fun vs H Q E h=>?_) (fun aa A outer s H vs Q E hr h=>?_)
 ·obtain⟨m,x,d,rfl,_⟩:=h;rfl
 ·obtain⟨m,x,d,rfl,hx,k⟩:=h;refine⟨_,aU (bG (dY (aV dQ (by rfl) T.isi (by kernel_rfl) (aG (pv 0) (aG (dW (v:=.ty "tuple") (by rfl) T.tuple (by kernel_rfl) rfl) aF)))
   (gM (aV (pV rfl) (by rfl) T.al (by kernel_rfl) (aG (fE (N:=["name"]) (src:=[none]) (osc:=aO iL) (oN:=["thing"]) ⟨by rfl,by decide,by decide,by decide,rfl,by rfl⟩ (gX (pv 0))
     fun cl s H fp dh C=>⟨bU (i:=0) (show(["name"]:List Str).Nodup by decide) rfl (AG rfl),eB,cB Y hr (aG (pv 0) aF)⟩) aF))))),?_⟩
  refine⟨_,rfl,_,"tuple",_,_,rfl,lY hx,j7 d,_,rfl,?_⟩;cases hd:iW d with
  | false=>
   have e:aAl d=false:=by
    cases d with
    | tuple ds=>simp[iW]at hd
    | _=>rfl
   rw[e]at k;exact k H (bJ.refl H)
  | true=>
   obtain⟨ds,rfl⟩:∃ ds,d=.tuple ds:=by
    cases d with
    | tuple z=>exact⟨z,rfl⟩
    | _=>simp[iW]at hd
   cases hx with
   | @tup a xs _ e hl r=>
    have J:=r.len;have Z:∀ H',bJ H H'→Q (.bl (ds.all cU)) H':=k;refine dC ?_;refine⟨_,rfl,a,rfl,⟨xs,aZ e⟩,?_⟩;refine gQ (xs:=xs) (fun i ys σ H'=>bJ H H'∧ys=((ds.take i).map fun d=>V.bl (cU d))∧∃ o,σ=[o]) ⟨bJ.refl H,rfl,none,rfl⟩ (aS (by omega)) (fun i ys σ H' p=>by rw[p.2.1,Ae,AX];omega) (fun i ys σ H' p=>aZ (p.1 _ _ e)) ?_ ?_
    ·rintro i y ys σ H' U ⟨S,rfl,o,rfl⟩;dsimp only[dG];obtain⟨d',hd',r'⟩:=r.at U;refine dC ?_;refine⟨_,rfl,m,y,d',rfl,r'.same S,fun H2 s2=>⟨S.trans s2,?_,_,rfl⟩⟩;rw[Bk,hd',AU];rfl
    ·rintro ys σ H1 ⟨S,rfl,o,rfl⟩ D O;have B:Ey xs.length ds=ds:=Bw (by omega);rw[B];have W:=S.trans (aQ (o:=.lst (ds.map fun d=>V.bl (cU d))) O);refine⟨D,ds.map cU,rfl,bE (by rw[aH,CA];rfl),?_⟩;rw[DE];exact Z _ W
theorem aJI:bY ["thing"] ["thing"] (aO iK):=⟨rfl,rfl,rfl,by decide,rfl,by decide,by decide⟩
theorem aHK{f:Ac}{fd:AE}(F:Fun K "all_parts" "all_parts" iK f fd)(T:Txt K mg)
  (Y:Cl P w K mg base 3 "is_part" ["thing"] aGi):
  cH P w K mg base CX0 4 f fd ["thing"] aCp:=by
 refine F.ok aJI (fun vs H Q E h=>?_) (fun aa A outer s H vs Q E hr h=>?_)
 ·obtain⟨m,x,d,rfl,_⟩:=h;rfl
 ·obtain⟨m,x,d,rfl,hx,k⟩:=h;refine⟨_,aU (bG (dY (aV dQ (by rfl) T.isi (by kernel_rfl) (aG (pv 0) (aG (dW (v:=.ty "tuple") (by rfl) T.tuple (by kernel_rfl) rfl) aF)))
   (gM (aV (pV rfl) (by rfl) T.al (by kernel_rfl) (aG (fE (N:=["part"]) (src:=[none]) (osc:=aO iK) (oN:=["thing"]) ⟨by rfl,by decide,by decide,by decide,rfl,by rfl⟩ (gX (pv 0))
     fun cl s H fp dh C=>⟨bU (i:=0) (show(["part"]:List Str).Nodup by decide) rfl (AG rfl),eB,cB Y hr (aG (pv 0) aF)⟩) aF))))),?_⟩
  refine⟨_,rfl,_,"tuple",_,_,rfl,lY hx,j7 d,_,rfl,?_⟩;cases hd:iW d with
  | false=>
   have e:aAm d=false:=by
    cases d with
    | tuple ds=>simp[iW]at hd
    | _=>rfl
   rw[e]at k;exact k H (bJ.refl H)
  | true=>
   obtain⟨ds,rfl⟩:∃ ds,d=.tuple ds:=by
    cases d with
    | tuple z=>exact⟨z,rfl⟩
    | _=>simp[iW]at hd
   cases hx with
   | @tup a xs _ e hl r=>
    have J:=r.len;have Z:∀ H',bJ H H'→Q (.bl (ds.all gJ)) H':=k;refine dC ?_;refine⟨_,rfl,a,rfl,⟨xs,aZ e⟩,?_⟩;refine gQ (xs:=xs) (fun i ys σ H'=>bJ H H'∧ys=((ds.take i).map fun d=>V.bl (gJ d))∧∃ o,σ=[o]) ⟨bJ.refl H,rfl,none,rfl⟩ (aS (by omega)) (fun i ys σ H' p=>by rw[p.2.1,Ae,AX];omega) (fun i ys σ H' p=>aZ (p.1 _ _ e)) ?_ ?_
    ·rintro i y ys σ H' U ⟨S,rfl,o,rfl⟩;dsimp only[dG];obtain⟨d',hd',r'⟩:=r.at U;refine dC ?_;refine⟨_,rfl,m,y,d',rfl,r'.same S,fun H2 s2=>⟨S.trans s2,?_,_,rfl⟩⟩;rw[Bk,hd',AU];rfl
    ·rintro ys σ H1 ⟨S,rfl,o,rfl⟩ D O;have B:Ey xs.length ds=ds:=Bw (by omega);rw[B];have W:=S.trans (aQ (o:=.lst (ds.map fun d=>V.bl (gJ d))) O);refine⟨D,ds.map gJ,rfl,bE (by rw[aH,CA];rfl),?_⟩;rw[DE];exact Z _ W
inductive aBm(D:List Ak→Bool)(vs:List V)(H:Hp)(Q:VK)(u3_:XK):Prop
 | mk (m:Bool) (x:V) (ds:List Ak) (q0:vs=[x]) (q1:RdV m H x (.tuple ds)) (q2:∀ H',bJ H H'→Q (.bl (D ds)) H'):aBm D vs H Q u3_
def fZ(D:List Ak→Bool):Sp:=fun vs H Q u3_=>aBm D vs H Q u3_
def hX:List Ak→Bool
 | [d1,d2]=>cU d1 && dN 0 10000000 d2
 | _=>false
theorem rS{ds:List Ak}(h:ds.length≠2):hX ds=false:=by
 match ds,h with
 | [],_=>rfl
 | [_],_=>rfl
 | [_,_],z=>exact absurd rfl z
 | _ :: _ :: _ :: _,_=>rfl
def p8:List Ak→Bool
 | [d1,d2,d3]=>cU d1 && dN 0 9999999 d2 && cU d3
 | _=>false
theorem aBn{ds:List Ak}(h:ds.length≠3):p8 ds=false:=by
 match ds,h with
 | [],_=>rfl
 | [_],_=>rfl
 | [_,_],_=>rfl
 | [_,_,_],z=>exact absurd rfl z
 | _ :: _ :: _ :: _ :: _,_=>rfl
def pF:List Ak→Bool
 | [d1]=>cU d1
 | _=>false
theorem yH{ds:List Ak}(h:ds.length≠1):pF ds=false:=by
 match ds,h with
 | [],_=>rfl
 | [_],z=>exact absurd rfl z
 | _ :: _ :: _,_=>rfl
def hZ:List Ak→Bool
 | [d1,d2,d3,d4]=>cU d1 && dN 0 9999999 d2 && dN 0 1000000000 d3 && dN 0 1000000 d4
 | _=>false
theorem vZ{ds:List Ak}(h:ds.length≠4):hZ ds=false:=by
 match ds,h with
 | [],_=>rfl
 | [_],_=>rfl
 | [_,_],_=>rfl
 | [_,_,_],_=>rfl
 | [_,_,_,_],z=>exact absurd rfl z
 | _ :: _ :: _ :: _ :: _ :: _,_=>rfl
theorem aCq:bY ["rest"] ["rest"] (aO jN):=⟨rfl,rfl,rfl,by decide,rfl,by decide,by decide⟩
theorem aBo{f:Ac}{fd:AE}(F:Fun K "fits_measure" "fits_measure" jN f fd)(T:Txt K mg)
  (GN:Cl P w K mg base 1 "is_name" ["thing"] kQ)
  (GW:Cl P w K mg base 2 "is_whole" ["thing","least","most"] oF):
  cH P w K mg base CX0 6 f fd ["rest"] (fZ hX):=by
 refine F.ok aCq (fun vs H Q E h=>?_) (fun ag A outer s H vs Q E W h=>?_)
 ·obtain⟨m,x,d,rfl,_⟩:=h;rfl
 ·obtain⟨m,x,ds,rfl,hx,k⟩:=h;have U:cY 1 _:=W.mono (by decide);have O:cY 2 _:=W.mono (by decide);have ae:cY 3 _:=W.mono (by decide);obtain⟨tinches,hinches⟩:=T.inches;refine⟨_,aU (bG (dY (eV dU (aV bH (by rfl) T.len AO (aG (pv 0) aF)) aI (cF _)) (dY (cB GN U (aG (cE cM (pv 0) aI Ig) aF)) (gM (cB GW O (aG (cE cM (pv 0) aI Ig) (aG aI (aG (c7 (v:=.int 10000000) (by rfl) hinches ⟨_,rfl⟩) aF)))))))),?_⟩;cases hx with
  | @tup a xs _ e hl r=>
   have Y:=r.len;refine⟨_,rfl,a,xs,rfl,.inr (aZ e),rfl,_,rfl,?_⟩;by_cases hn:xs.length=2
   ·rw[Ic (show V.int (xs.length:Int)=V.int 2 by rw[hn];rfl)];refine dC ?_
    match xs,ds,hn,r with
    | [x1,x2],[d1,d2],_,.cons r1 (.cons r2 (.nil))=>
     have k':∀ H',bJ H H'→Q (.bl (cU d1 && dN 0 10000000 d2)) H':=k;have J:=bJ.refl H;refine⟨_,rfl,a,_,0,_,rfl,rfl,aZ (J _ _ e),rfl,m,x1,d1,rfl,(r1.same J),fun H1 z1=>⟨_,rfl,?_⟩⟩;have B:=J.trans z1;cases Z:(cU d1)with
     | false=>
      have q:=k' H1 B;rw[Z]at q;simp only[Dd]at q;refine cO ?_;exact q
     | true=>
      refine dC ?_;have q:=k' H1 B;rw[Z,Bb]at q;exact⟨_,rfl,a,_,1,_,rfl,rfl,aZ (B _ _ e),rfl,m,x2,d2,0,10000000,rfl,(r2.same B),q⟩
   ·rw[decide_eq_false (show¬ V.int (xs.length:Int)=V.int 2 from fun z=>hn (by injection z with z;omega))];refine cO ?_;rw[rS (by omega)]at k;exact k H (bJ.refl H)
theorem aHL:bY ["rest"] ["rest"] (aO qV):=⟨rfl,rfl,rfl,by decide,rfl,by decide,by decide⟩
theorem aGk{f:Ac}{fd:AE}(F:Fun K "fits_view" "fits_view" qV f fd)(T:Txt K mg)
  (GN:Cl P w K mg base 1 "is_name" ["thing"] kQ)
  (GI:Cl P w K mg base 3 "is_inch" ["thing"] aCo):
  cH P w K mg base CX0 6 f fd ["rest"] (fZ p8):=by
 refine F.ok aHL (fun vs H Q E h=>?_) (fun aj A outer s H vs Q E Z h=>?_)
 ·obtain⟨m,x,d,rfl,_⟩:=h;rfl
 ·obtain⟨m,x,ds,rfl,hx,k⟩:=h;have J:cY 1 _:=Z.mono (by decide);have ai:cY 2 _:=Z.mono (by decide);have U:cY 3 _:=Z.mono (by decide);refine⟨_,aU (bG (dY (eV dU (aV bH (by rfl) T.len AO (aG (pv 0) aF)) aI (cF _)) (dY (cB GN J (aG (cE cM (pv 0) aI Ig) aF)) (dY (cB GI U (aG (cE cM (pv 0) aI Ig) aF)) (gM (cB GN J (aG (cE cM (pv 0) aI Ig) aF))))))),?_⟩;cases hx with
  | @tup a xs _ e hl r=>
   have aa:=r.len;refine⟨_,rfl,a,xs,rfl,.inr (aZ e),rfl,_,rfl,?_⟩;by_cases hn:xs.length=3
   ·rw[Ic (show V.int (xs.length:Int)=V.int 3 by rw[hn];rfl)];refine dC ?_
    match xs,ds,hn,r with
    | [x1,x2,x3],[d1,d2,d3],_,.cons r1 (.cons r2 (.cons r3 (.nil)))=>
     have Y:∀ H',bJ H H'→Q (.bl (cU d1 && dN 0 9999999 d2 && cU d3)) H':=k;have O:=bJ.refl H;refine⟨_,rfl,a,_,0,_,rfl,rfl,aZ (O _ _ e),rfl,m,x1,d1,rfl,(r1.same O),fun H1 z1=>⟨_,rfl,?_⟩⟩;have B:=O.trans z1;cases W:(cU d1)with
     | false=>
      have q:=Y H1 B;rw[W]at q;simp only[Dd]at q;refine cO ?_;exact q
     | true=>
      refine dC ?_;refine⟨_,rfl,a,_,1,_,rfl,rfl,aZ (B _ _ e),rfl,m,x2,d2,rfl,(r2.same B),_,rfl,?_⟩;cases g1:(dN 0 9999999 d2)with
      | false=>
       have q:=Y H1 B;rw[W,Bb,g1]at q;simp only[Dd]at q;refine cO ?_;exact q
      | true=>
       refine dC ?_;refine⟨_,rfl,a,_,2,_,rfl,rfl,aZ (B _ _ e),rfl,m,x3,d3,rfl,(r3.same B),fun H3 z3=>?_⟩;have q:=Y H3 (B.trans z3);rw[W,Bb,g1,Bb]at q;exact q
   ·rw[decide_eq_false (show¬ V.int (xs.length:Int)=V.int 3 from fun z=>hn (by injection z with z;omega))];refine cO ?_;rw[aBn (by omega)]at k;exact k H (bJ.refl H)
theorem aGl:bY ["rest"] ["rest"] (aO oC):=⟨rfl,rfl,rfl,by decide,rfl,by decide,by decide⟩
theorem aEt{f:Ac}{fd:AE}(F:Fun K "fits_alone" "fits_alone" oC f fd)(T:Txt K mg)
  (Z:Cl P w K mg base 1 "is_name" ["thing"] kQ):
  cH P w K mg base CX0 6 f fd ["rest"] (fZ pF):=by
 refine F.ok aGl (fun vs H Q E h=>?_) (fun ad A outer s H vs Q E O h=>?_)
 ·obtain⟨m,x,d,rfl,_⟩:=h;rfl
 ·obtain⟨m,x,ds,rfl,hx,k⟩:=h;have J:cY 1 _:=O.mono (by decide);have ac:cY 2 _:=O.mono (by decide);have Y:cY 3 _:=O.mono (by decide);refine⟨_,aU (bG (dY (eV dU (aV bH (by rfl) T.len AO (aG (pv 0) aF)) aI (cF _)) (gM (cB Z J (aG (cE cM (pv 0) aI Ig) aF))))),?_⟩;cases hx with
  | @tup a xs _ e hl r=>
   have U:=r.len;refine⟨_,rfl,a,xs,rfl,.inr (aZ e),rfl,_,rfl,?_⟩;by_cases hn:xs.length=1
   ·rw[Ic (show V.int (xs.length:Int)=V.int 1 by rw[hn];rfl)];refine dC ?_
    match xs,ds,hn,r with
    | [x1],[d1],_,.cons r1 (.nil)=>
     have k':∀ H',bJ H H'→Q (.bl (cU d1)) H':=k;have B:=bJ.refl H;refine⟨_,rfl,a,_,0,_,rfl,rfl,aZ (B _ _ e),rfl,m,x1,d1,rfl,(r1.same B),fun H1 W=>?_⟩;have q:=k' H1 (B.trans W);exact q
   ·rw[decide_eq_false (show¬ V.int (xs.length:Int)=V.int 1 from fun z=>hn (by injection z with z;omega))];refine cO ?_;rw[yH (by omega)]at k;exact k H (bJ.refl H)
theorem aEu:bY ["rest"] ["rest"] (aO lV):=⟨rfl,rfl,rfl,by decide,rfl,by decide,by decide⟩
theorem aCr{f:Ac}{fd:AE}(F:Fun K "fits_breach" "fits_breach" lV f fd)(T:Txt K mg)
  (GN:Cl P w K mg base 1 "is_name" ["thing"] kQ)
  (GW:Cl P w K mg base 2 "is_whole" ["thing","least","most"] oF)
  (GI:Cl P w K mg base 3 "is_inch" ["thing"] aCo):
  cH P w K mg base CX0 6 f fd ["rest"] (fZ hZ):=by
 refine F.ok aEu (fun vs H Q E h=>?_) (fun aj A outer s H vs Q E hr h=>?_)
 ·obtain⟨m,x,d,rfl,_⟩:=h;rfl
 ·obtain⟨m,x,ds,rfl,hx,k⟩:=h;have aa:cY 1 _:=hr.mono (by decide);have J:cY 2 _:=hr.mono (by decide);have Z:cY 3 _:=hr.mono (by decide);obtain⟨tpence,hpence⟩:=T.pence;obtain⟨tspades,hspades⟩:=T.spades;refine⟨_,aJ (cX (PW.pt (jU (bX rK (aV bH (by rfl) T.len AO (aG (pv 0) aF)) aI (cF _)) (jU (fQ (dJ (cB GN aa (aG (cE cM (pv 0) aI Ig) aF)))) (iG (fQ (dJ (cB GI Z (aG (cE cM (pv 0) aI Ig) aF)))))))) (aU (bG iR)) bM) (aU (bG (dY (cB GW J (aG (cE cM (pv 0) aI Ig) (aG aI (aG (c7 (v:=.int 1000000000) (by rfl) hpence ⟨_,rfl⟩) aF)))) (gM (cB GW J (aG (cE cM (pv 0) aI Ig) (aG aI (aG (c7 (v:=.int 1000000) (by rfl) hspades ⟨_,rfl⟩) aF)))))))),?_⟩;cases hx with
  | @tup a xs _ e hl r=>
   have ad:=r.len;refine⟨_,rfl,a,xs,rfl,.inr (aZ e),rfl,_,rfl,?_⟩;by_cases hn:xs.length=4
   ·rw[Ic (show V.int (xs.length:Int)=V.int 4 by rw[hn];rfl)];refine cO ?_
    match xs,ds,hn,r with
    | [x1,x2,x3,x4],[d1,d2,d3,d4],_,.cons r1 (.cons r2 (.cons r3 (.cons r4 (.nil))))=>
     have U:∀ H',bJ H H'→Q (.bl (cU d1 && dN 0 9999999 d2 && dN 0 1000000000 d3 && dN 0 1000000 d4)) H':=k;have W:=bJ.refl H;refine⟨_,rfl,a,_,0,_,rfl,rfl,aZ (W _ _ e),rfl,m,x1,d1,rfl,(r1.same W),fun H1 z1=>⟨_,rfl,?_⟩⟩;have B:=W.trans z1;cases O:(cU d1)with
     | false=>
      have q:=U H1 B;rw[O]at q;simp only[Dd]at q;refine dC ?_;exact q
     | true=>
      refine cO ?_;refine⟨_,rfl,a,_,1,_,rfl,rfl,aZ (B _ _ e),rfl,m,x2,d2,rfl,(r2.same B),_,rfl,?_⟩;cases Y:(dN 0 9999999 d2)with
      | false=>
       have q:=U H1 B;rw[O,Bb,Y]at q;simp only[Dd]at q;refine dC ?_;exact q
      | true=>
       refine cO ?_;refine⟨_,rfl,a,_,2,_,rfl,rfl,aZ (B _ _ e),rfl,m,x3,d3,0,1000000000,rfl,(r3.same B),_,rfl,?_⟩;cases g2:(dN 0 1000000000 d3)with
       | false=>
        have q:=U H1 B;rw[O,Bb,Y,Bb,g2]at q;simp only[Dd]at q;refine cO ?_;exact q
       | true=>
        refine dC ?_;have q:=U H1 B;rw[O,Bb,Y,Bb,g2,Bb]at q;exact⟨_,rfl,a,_,3,_,rfl,rfl,aZ (B _ _ e),rfl,m,x4,d4,0,1000000,rfl,(r4.same B),q⟩
   ·rw[decide_eq_false (show¬ V.int (xs.length:Int)=V.int 4 from fun z=>hn (by injection z with z;omega))];refine dC ?_;rw[vZ (by omega)]at k;exact k H (bJ.refl H)
def iX(ds:List Ak):Bool:=decide (ds.length=2) && ds.all cU
def qA:List Ak→Bool
 | [.str a,.str b]=>bV a && bV b && !decide (a=b)
 | _=>false
theorem v0{ds:List Ak}(h:¬ (ds.length=2∧ds.all cU=true)):qA ds=false:=by
 unfold qA;split
 ·rename_i a b;have:¬ (bV a=true∧bV b=true):=fun z=>h ⟨rfl,by simp[cU,z.1,z.2]⟩;cases ha:bV a <;> cases B:bV b <;> simp_all
 ·rfl
theorem aJJ{ds:List Ak}(h:ds.length=2)(g:ds.all cU=true):∃ a b,ds=[.str a,.str b]∧bV a=true∧bV b=true:=by
 match ds,h with
 | [d1,d2],_=>
  simp only[CV,List.all_nil,Bool.and_true,AY]at g;obtain⟨g1,g2⟩:=g;obtain⟨a,rfl,ha⟩:∃ a,d1=.str a∧bV a=true:=by
   cases d1 with
   | str a=>exact⟨a,rfl,g1⟩
   | _=>simp[cU]at g1
  obtain⟨b,rfl,hb⟩:∃ b,d2=.str b∧bV b=true:=by
   cases d2 with
   | str a=>exact⟨a,rfl,g2⟩
   | _=>simp[cU]at g2
  exact⟨a,b,rfl,ha,hb⟩
theorem aCt:bY ["rest"] ["rest"] (aO jM):=⟨rfl,rfl,rfl,by decide,rfl,by decide,by decide⟩
theorem aBp{f:Ac}{fd:AE}(F:Fun K "fits_forfeit" "fits_forfeit" jM f fd)(T:Txt K mg)
  (U:Cl P w K mg base 2 "all_names" ["thing"] vY):
  cH P w K mg base CX0 6 f fd ["rest"] (fZ iX):=by
 refine F.ok aCt (fun vs H Q E h=>?_) (fun W A outer s H vs Q E Y h=>?_)
 ·obtain⟨m,x,d,rfl,_⟩:=h;rfl
 ·obtain⟨m,x,ds,rfl,hx,k⟩:=h;have J:cY 2 _:=Y.mono (by decide);refine⟨_,aU (bG (dY (eV dU (aV bH (by rfl) T.len AO (aG (pv 0) aF)) aI (cF _)) (gM (cB U J (aG (pv 0) aF))))),?_⟩;have B:=hx;cases hx with
  | @tup a xs _ e Z r=>
   have O:=r.len;refine⟨_,rfl,a,xs,rfl,.inr (aZ e),rfl,_,rfl,?_⟩;unfold iX at k;by_cases hn:xs.length=2
   ·rw[Ic (show V.int (xs.length:Int)=V.int 2 by rw[hn];rfl)];refine dC ?_;rw[Ic (show ds.length=2 by omega),Bb]at k;exact⟨_,rfl,m,_,_,rfl,B,k⟩
   ·rw[decide_eq_false (show¬ V.int (xs.length:Int)=V.int 2 from fun z=>hn (by injection z with z;omega))];refine cO ?_;rw[decide_eq_false (show¬ ds.length=2 by omega)]at k;exact k H (bJ.refl H)
theorem aHM:bY ["rest"] ["rest"] (aO qU):=⟨rfl,rfl,rfl,by decide,rfl,by decide,by decide⟩
theorem aGm{f:Ac}{fd:AE}(F:Fun K "fits_mend" "fits_mend" qU f fd)(T:Txt K mg)
  (GA:Cl P w K mg base 2 "all_names" ["thing"] vY):
  cH P w K mg base CX0 6 f fd ["rest"] (fZ qA):=by
 refine F.ok aHM (fun vs H Q E h=>?_) (fun ac A outer s H vs Q E hr h=>?_)
 ·obtain⟨m,x,d,rfl,_⟩:=h;rfl
 ·obtain⟨m,x,ds,rfl,hx,k⟩:=h;have O:cY 2 _:=hr.mono (by decide);refine⟨_,aU (bG (dY (eV dU (aV bH (by rfl) T.len AO (aG (pv 0) aF)) aI (cF _)) (dY (cB GA O (aG (pv 0) aF)) (gM (eV rK (cE cM (pv 0) aI Ig) (cE cM (pv 0) aI Ig) (cF _)))))),?_⟩;have J:=hx;cases hx with
  | @tup a xs _ e hl r=>
   have U:=r.len;refine⟨_,rfl,a,xs,rfl,.inr (aZ e),rfl,_,rfl,?_⟩;by_cases hn:xs.length=2
   ·rw[Ic (show V.int (xs.length:Int)=V.int 2 by rw[hn];rfl)];refine dC ?_;refine⟨_,rfl,m,_,_,rfl,J,fun H1 B=>⟨_,rfl,?_⟩⟩;show if ds.all cU=true then _ else _
    refine d9 (fun g=>?_) (fun g=>?_)
    ·obtain⟨z1,z2,rfl,h1,h2⟩:=aJJ (by omega) g;cases r with
     | cons Z r=>
      cases r with
      | cons Y r=>
       cases r;cases Z;cases Y;refine⟨_,rfl,a,_,0,_,rfl,rfl,aZ (B _ _ e),rfl,_,rfl,a,_,1,_,rfl,rfl,aZ (B _ _ e),rfl,rfl,?_⟩;have q:=k H1 B;have W:qA [.str z1,.str z2]=!decide (V.str z1=V.str z2):=by
        show(bV z1 && bV z2 && !decide (z1=z2))=_;rw[h1,h2];by_cases hz:z1=z2
        ·subst hz;simp
        ·rw[decide_eq_false hz,decide_eq_false (fun e=>hz (by injection e))];rfl
       rw[W]at q;exact q
    ·rw[v0 fun z=>g z.2]at k;exact k H1 B
   ·rw[decide_eq_false (show¬ V.int (xs.length:Int)=V.int 2 from fun z=>hn (by injection z with z;omega))];refine cO ?_;rw[v0 fun z=>hn (by omega)]at k;exact k H (bJ.refl H)
def fH(ss:List Str):Bool:=decide (ss.Pairwise fun a b=>a.cps.toList < b.cps.toList)
def aBq:Ak→Str | .str z=>z | _=>Bh ""
def fU:Ak→Str
 | .tuple (.str z :: _)=>z
 | _=>Bh ""
def aDn:Ak→Bool
 | .tuple ds=>ds.all gJ && decide (2≤ds.length∧ds.length≤6) && fH (ds.map fU)
 | _=>false
def aBr:Ak→Bool
 | .tuple ds=>ds.all cU && decide (2≤ds.length∧ds.length≤6) && fH (ds.map aBq)
 | _=>false
inductive v3(vs:List V)(H:Hp)(Q:VK)(u3_:XK):Prop
 | mk (a:Ac) (ss:List Str) (q0:vs=[.ref a]) (q1:(H a=some (.lst (ss.map V.str))∨H a=some (.tup (ss.map V.str)))) (q2:ss.length≤6) (q3:∀ H',bJ H H'→Q (.bl (fH ss)) H'):v3 vs H Q u3_
def v4:Sp:=fun vs H Q u3_=>v3 vs H Q u3_
inductive aBs(vs:List V)(H:Hp)(Q:VK)(u3_:XK):Prop
 | mk (m:Bool) (x:V) (d:Ak) (q0:vs=[x]) (q1:RdV m H x d) (q2:∀ H',bJ H H'→Q (.bl (aDn d)) H'):aBs vs H Q u3_
def aGn:Sp:=fun vs H Q u3_=>aBs vs H Q u3_
inductive aBt(vs:List V)(H:Hp)(Q:VK)(u3_:XK):Prop
 | mk (m:Bool) (x:V) (d:Ak) (q0:vs=[x]) (q1:RdV m H x d) (q2:∀ H',bJ H H'→Q (.bl (aBr d)) H'):aBt vs H Q u3_
def aGo:Sp:=fun vs H Q u3_=>aBt vs H Q u3_
theorem v5{m:Bool}{H:Hp}:∀{xs:List V}{ds:List Ak},cG m H xs ds→ds.all cU=true→xs=(ds.map aBq).map V.str
 | _,_,.nil,_=>rfl
 | _,_,.cons (d:=d) r rs,h=>by
  rw[CV,AY]at h;have B:=v5 rs h.2;cases d with
  | str z=>
   cases r;rw[B];rfl
  | _=>simp[cU]at h
theorem aJK:bY ["thing"] ["thing"] (aO jL):=⟨rfl,rfl,rfl,by decide,rfl,by decide,by decide⟩
theorem aHN{f:Ac}{fd:AE}(F:Fun K "are_lands" "are_lands" jL f fd)(T:Txt K mg)
  (GA:Cl P w K mg base 2 "all_names" ["thing"] vY)
  (GR:Cl P w K mg base 1 "is_rising" ["things"] v4):
  cH P w K mg base CX0 5 f fd ["thing"] aGo:=by
 refine F.ok aJK (fun vs H Q E h=>?_) (fun ah A outer s H vs Q E hr h=>?_)
 ·obtain⟨m,x,d,rfl,_⟩:=h;rfl
 ·obtain⟨m,x,d,rfl,hx,k⟩:=h;have Z:cY 1 _:=hr.mono (by decide);have Y:cY 2 _:=hr.mono (by decide);obtain⟨tf,hfew⟩:=T.fewest;obtain⟨tm,hmost⟩:=T.most;refine⟨_,aU (bG (dY (cB GA Y (aG (pv 0) aF)) (dY (tW rL rL (c7 (v:=.int 2) (by rfl) hfew ⟨_,rfl⟩) (aV bH (by rfl) T.len AO (aG (pv 0) aF)) (c7 (v:=.int 6) (by rfl) hmost ⟨_,rfl⟩)) (gM (cB GR Z (aG (pv 0) aF)))))),_,rfl,m,x,d,rfl,hx,fun H1 B=>⟨_,rfl,?_⟩⟩;refine d9 (fun g=>?_) (fun g=>?_)
  ·obtain⟨ds,rfl⟩:∃ ds,d=.tuple ds:=by
    cases d with
    | tuple z=>exact⟨z,rfl⟩
    | _=>simp[aAl]at g
   have J:ds.all cU=true:=g;cases hx with
   | @tup a xs _ e hl r=>
    have ac:=r.len;have k':∀ H',bJ H H'→Q (.bl (decide (2≤ds.length∧ds.length≤6) && fH (ds.map aBq))) H':=fun H' s'=>by
     have q:Q (.bl (ds.all cU && decide (2≤ds.length∧ds.length≤6) && fH (ds.map aBq))) H':=k H' s';rw[J,Bb]at q;exact q
    have bad:¬ (2≤ds.length∧ds.length≤6)→Q (.bl false) H1:=fun h=>by
     have q:=k' H1 B;rw[decide_eq_false h]at q;exact q
    refine⟨_,rfl,a,xs,rfl,.inr (aZ (B _ _ e)),_,_,rfl,rfl,_,rfl,d9 (fun U=>?_) (fun U=>?_)⟩
    ·have W:(2:Int)≤xs.length:=Ie U;refine⟨_,_,rfl,rfl,_,rfl,d9 (fun g2=>?_) (fun g2=>?_)⟩
     ·have O:(xs.length:Int)≤6:=Ie g2;refine⟨_,rfl,a,ds.map aBq,rfl,.inr ?_,by rw[Ae];omega,fun H2 s2=>?_⟩
      ·rw[← v5 r J];exact B _ _ e
      ·have q:=k' H2 (B.trans s2);rw[Ic (by omega),Bb]at q;exact q
     ·have O:¬ (xs.length:Int)≤6:=fun z=>g2 (Ic z);exact bad (by omega)
    ·have W:¬ (2:Int)≤xs.length:=fun z=>U (Ic z);refine⟨_,rfl,cO ?_⟩;exact bad (by omega)
  ·have J:aAl d=false:=by simpa using g
   have e:aBr d=false:=by
    cases d with
    | tuple ds=>
     have z:ds.all cU=false:=J;show(ds.all cU && decide (2≤ds.length∧ds.length≤6) && fH (ds.map aBq))=false;rw[z];rfl
    | _=>rfl
   rw[e]at k;exact k H1 B
theorem aJL:bY ["thing"] ["thing"] (aO iM):=⟨rfl,rfl,rfl,by decide,rfl,by decide,by decide⟩
theorem aEv{m:Bool}{H:Hp}{x:V}{d:Ak}(r:RdV m H x d)(h:gJ d=true):∃ a xs,x=.ref a∧H a=some (.tup xs)∧atI xs 0=some (V.str (fU d)):=by
 cases d with
 | tuple ds=>
  cases r with
  | @tup a xs _ e _ r=>
   cases r with
   | nil=>simp[gJ]at h
   | @cons J d1 _ _ F rs=>
    have hn:cU d1=true:=by
     unfold gJ at h;split at h
     ·rename_i B;cases B;simp only[AY]at h;exact h.1.1
     ·cases h
    cases d1 with
    | str z=>
     cases F;refine⟨a,_,rfl,e,?_⟩;unfold atI ixN;rw[Ib (by decide),Ib (by rw[A1];omega)];rfl
    | _=>simp[cU]at hn
 | _=>simp[gJ]at h
theorem aHO{f:Ac}{fd:AE}(F:Fun K "are_parts" "are_parts" iM f fd)(T:Txt K mg)
  (GA:Cl P w K mg base 4 "all_parts" ["thing"] aCp)
  (GR:Cl P w K mg base 1 "is_rising" ["things"] v4):
  cH P w K mg base CX0 5 f fd ["thing"] aGn:=by
 refine F.ok aJL (fun vs H Q E h=>?_) (fun am A outer s H vs Q E hr h=>?_)
 ·obtain⟨m,x,d,rfl,_⟩:=h;rfl
 ·obtain⟨m,x,d,rfl,hx,k⟩:=h;have W:cY 1 _:=hr.mono (by decide);obtain⟨tf,hfew⟩:=T.fewest;obtain⟨tm,hmost⟩:=T.most;refine⟨_,aJ (cX (PW.pt (jU (fQ (dJ (cB GA hr (aG (pv 0) aF)))) (iG (fQ (aAA rL rL (c7 (v:=.int 2) (by rfl) hfew ⟨_,rfl⟩) (aV bH (by rfl) T.len AO (aG (pv 0) aF)) (c7 (v:=.int 6) (by rfl) hmost ⟨_,rfl⟩)))))) (aU (bG iR)) bM)
   (aU (bG (cB GR W (aG (fE (N:=["part"]) (src:=[none]) (osc:=aO iM) (oN:=["thing"]) ⟨by rfl,by decide,by decide,by decide,rfl,by rfl⟩ (gX (pv 0))
     fun cl s H fp dh C=>⟨bU (i:=0) (show(["part"]:List Str).Nodup by decide) rfl (AG rfl),eB,cE (r:=aE6 K) cM (pv 0) aI Ig⟩) aF)))),?_⟩
  refine⟨_,rfl,m,x,d,rfl,hx,fun H1 B=>⟨_,rfl,?_⟩⟩;cases g:aAm d with
  | false=>
   refine dC ?_;have e:aDn d=false:=by
    cases d with
    | tuple ds=>
     have z:ds.all gJ=false:=g;show(ds.all gJ && decide (2≤ds.length∧ds.length≤6) && fH (ds.map fU))=false;rw[z];rfl
    | _=>rfl
   rw[e]at k;exact k H1 B
  | true=>
   refine cO ?_;obtain⟨ds,rfl⟩:∃ ds,d=.tuple ds:=by
    cases d with
    | tuple z=>exact⟨z,rfl⟩
    | _=>simp[aAm]at g
   have g':ds.all gJ=true:=g;cases hx with
   | @tup a xs _ e hl r=>
    have Y:=r.len;have Z:∀ H',bJ H H'→Q (.bl (decide (2≤ds.length∧ds.length≤6) && fH (ds.map fU))) H':=fun H' s'=>by
     have q:Q (.bl (ds.all gJ && decide (2≤ds.length∧ds.length≤6) && fH (ds.map fU))) H':=k H' s';rw[g',Bb]at q;exact q
    have bad:¬ (2≤ds.length∧ds.length≤6)→Q (.bl false) H1:=fun h=>by
     have q:=Z H1 B;rw[decide_eq_false h]at q;exact q
    refine⟨_,rfl,a,xs,rfl,.inr (aZ (B _ _ e)),_,_,rfl,rfl,_,rfl,d9 (fun O=>?_) (fun O=>?_)⟩
    ·have U:(2:Int)≤xs.length:=Ie O;refine⟨_,_,rfl,rfl,_,rfl,?_⟩;by_cases g2:(xs.length:Int)≤6
     ·rw[Ic g2];refine cO ?_;refine⟨_,rfl,a,rfl,⟨xs,aZ (B _ _ e)⟩,?_⟩;refine gQ (xs:=xs) (fun i ys σ H'=>bJ H1 H'∧ys=((ds.take i).map fun d=>V.str (fU d))∧∃ o,σ=[o]) ⟨bJ.refl H1,rfl,none,rfl⟩ (aS (by omega)) (fun i ys σ H' p=>by rw[p.2.1,Ae,AX];omega) (fun i ys σ H' p=>aZ (p.1 _ _ (B _ _ e))) ?_ ?_
      ·rintro i y ys σ H' hy ⟨S,rfl,o,rfl⟩;dsimp only[dG];obtain⟨d',hd',r'⟩:=r.at hy;obtain⟨b,zs,rfl,hb,hat⟩:=aEv ((r'.same B).same S) (A3.mp g' d' (AF hd'));refine dC ?_;refine⟨_,rfl,b,zs,0,_,rfl,rfl,aZ hb,hat,S,?_,_,rfl⟩;rw[Bk,hd',AU];rfl
      ·rintro ys σ H2 ⟨S,rfl,o,rfl⟩ D hD;have J:Ey xs.length ds=ds:=Bw (by omega);rw[J];have S1:=S.trans (aQ (o:=.lst (ds.map fun d=>V.str (fU d))) hD);refine⟨D,ds.map fU,rfl,.inl (by rw[aH,CA];rfl),by rw[Ae];omega,fun H3 s3=>?_⟩;have q:=Z H3 ((B.trans S1).trans s3);rw[Ic (by omega),Bb]at q;exact q
     ·rw[decide_eq_false g2];refine dC ?_;exact bad (by omega)
    ·have U:¬ (2:Int)≤xs.length:=fun z=>O (Ic z);refine⟨_,rfl,dC ?_⟩;exact bad (by omega)
def yI:List Ak→Bool
 | [d1,d2]=>cU d1 && aDn d2
 | _=>false
def v9:List Ak→Bool
 | [d1,d2]=>aBr d1 && cU d2
 | _=>false
theorem aBu{ds:List Ak}(h:ds.length≠2):yI ds=false:=by
 match ds,h with
 | [],_=>rfl
 | [_],_=>rfl
 | [_,_],z=>exact absurd rfl z
 | _ :: _ :: _ :: _,_=>rfl
theorem aBv{ds:List Ak}(h:ds.length≠2):v9 ds=false:=by
 match ds,h with
 | [],_=>rfl
 | [_],_=>rfl
 | [_,_],z=>exact absurd rfl z
 | _ :: _ :: _ :: _,_=>rfl
theorem aHP:bY ["rest"] ["rest"] (aO qS):=⟨rfl,rfl,rfl,by decide,rfl,by decide,by decide⟩
theorem aGp{f:Ac}{fd:AE}(F:Fun K "fits_part" "fits_part" qS f fd)(T:Txt K mg)
  (Z:Cl P w K mg base 1 "is_name" ["thing"] kQ)
  (Y:Cl P w K mg base 5 "are_parts" ["thing"] aGn):
  cH P w K mg base CX0 6 f fd ["rest"] (fZ yI):=by
 refine F.ok aHP (fun vs H Q E h=>?_) (fun aa A outer s H vs Q E W h=>?_)
 ·obtain⟨m,x,d,rfl,_⟩:=h;rfl
 ·obtain⟨m,x,ds,rfl,hx,k⟩:=h;have J:cY 1 _:=W.mono (by decide);refine⟨_,aU (bG (dY (eV dU (aV bH (by rfl) T.len AO (aG (pv 0) aF)) aI (cF _)) (dY (cB Z J (aG (cE cM (pv 0) aI Ig) aF)) (gM (cB Y W (aG (cE cM (pv 0) aI Ig) aF)))))),?_⟩;cases hx with
  | @tup a xs _ e hl r=>
   have O:=r.len;refine⟨_,rfl,a,xs,rfl,.inr (aZ e),rfl,_,rfl,?_⟩;by_cases hn:xs.length=2
   ·rw[Ic (show V.int (xs.length:Int)=V.int 2 by rw[hn];rfl)];refine dC ?_
    match xs,ds,hn,r with
    | [x1,x2],[d1,d2],_,.cons r1 (.cons r2 .nil)=>
     have U:∀ H',bJ H H'→Q (.bl (cU d1 && aDn d2)) H':=k;refine⟨_,rfl,a,_,0,_,rfl,rfl,aZ e,rfl,m,x1,d1,rfl,r1,fun H1 B=>⟨_,rfl,?_⟩⟩;refine d9 (fun g=>?_) (fun g=>?_)
     ·refine⟨_,rfl,a,_,1,_,rfl,rfl,aZ (B _ _ e),rfl,m,x2,d2,rfl,r2.same B,fun H2 s2=>?_⟩;have q:=U H2 (B.trans s2);rw[g,Bb]at q;exact q
     ·have q:=U H1 B;rw[(by simpa using g:cU d1=false)]at q;exact q
   ·rw[decide_eq_false (show¬ V.int (xs.length:Int)=V.int 2 from fun z=>hn (by injection z with z;omega))];refine cO ?_;rw[aBu (by omega)]at k;exact k H (bJ.refl H)
theorem aHQ:bY ["rest"] ["rest"] (aO qT):=⟨rfl,rfl,rfl,by decide,rfl,by decide,by decide⟩
theorem aGq{f:Ac}{fd:AE}(F:Fun K "fits_join" "fits_join" qT f fd)(T:Txt K mg)
  (Z:Cl P w K mg base 1 "is_name" ["thing"] kQ)
  (Y:Cl P w K mg base 5 "are_lands" ["thing"] aGo):
  cH P w K mg base CX0 6 f fd ["rest"] (fZ v9):=by
 refine F.ok aHQ (fun vs H Q E h=>?_) (fun aa A outer s H vs Q E W h=>?_)
 ·obtain⟨m,x,d,rfl,_⟩:=h;rfl
 ·obtain⟨m,x,ds,rfl,hx,k⟩:=h;have J:cY 1 _:=W.mono (by decide);refine⟨_,aU (bG (dY (eV dU (aV bH (by rfl) T.len AO (aG (pv 0) aF)) aI (cF _)) (dY (cB Y W (aG (cE cM (pv 0) aI Ig) aF)) (gM (cB Z J (aG (cE cM (pv 0) aI Ig) aF)))))),?_⟩;cases hx with
  | @tup a xs _ e hl r=>
   have O:=r.len;refine⟨_,rfl,a,xs,rfl,.inr (aZ e),rfl,_,rfl,?_⟩;by_cases hn:xs.length=2
   ·rw[Ic (show V.int (xs.length:Int)=V.int 2 by rw[hn];rfl)];refine dC ?_
    match xs,ds,hn,r with
    | [x1,x2],[d1,d2],_,.cons r1 (.cons r2 .nil)=>
     have U:∀ H',bJ H H'→Q (.bl (aBr d1 && cU d2)) H':=k;refine⟨_,rfl,a,_,0,_,rfl,rfl,aZ e,rfl,m,x1,d1,rfl,r1,fun H1 B=>⟨_,rfl,?_⟩⟩;refine d9 (fun g=>?_) (fun g=>?_)
     ·refine⟨_,rfl,a,_,1,_,rfl,rfl,aZ (B _ _ e),rfl,m,x2,d2,rfl,r2.same B,fun H2 s2=>?_⟩;have q:=U H2 (B.trans s2);rw[g,Bb]at q;exact q
     ·have q:=U H1 B;rw[(by simpa using g:aBr d1=false)]at q;exact q
   ·rw[decide_eq_false (show¬ V.int (xs.length:Int)=V.int 2 from fun z=>hn (by injection z with z;omega))];refine cO ?_;rw[aBv (by omega)]at k;exact k H (bJ.refl H)
def eG:List Str:=["part","join","forfeit","measure","mend","alone","breach","view"]
def dI(kind:Str)(ds:List Ak):Bool:=
 if kind="part" then yI ds else if kind="join" then v9 ds else if kind="forfeit" then iX ds else if kind="measure" then hX ds else if kind="mend" then qA ds else if kind="alone" then pF ds else if kind="breach" then hZ ds else p8 ds
def rowD:Ak→Bool
 | .tuple (.str kind :: name :: day :: cI)=>decide (kind∈eG) && (cU name && (dN 0 9999 day && dI kind cI))
 | _=>false
inductive yJ(vs:List V)(H:Hp)(Q:VK)(u3_:XK):Prop
 | mk (m:Bool) (x:V) (d:Ak) (q0:vs=[x]) (q1:RdV m H x d) (q2:∀ H',bJ H H'→Q (.bl (rowD d)) H'):yJ vs H Q u3_
def aDo:Sp:=fun vs H Q u3_=>yJ vs H Q u3_
theorem aCu{ds:List Ak}(h:ds.length < 3):rowD (.tuple ds)=false:=by
 match ds,h with
 | [],_=>rfl
 | [d],_=>cases d <;> rfl
 | [d,_],_=>cases d <;> rfl
theorem aEw{d1 F B:Ak}{ds:List Ak}(h:yF d1=false):rowD (.tuple (d1 :: F :: B :: ds))=false:=by
 cases d1 with
 | str z=>simp[yF]at h
 | _=>rfl
theorem qB:bY ["thing","kind","name","day","fits"] ["thing"] (aO qW):=⟨rfl,rfl,rfl,by decide,rfl,by decide,by decide⟩
theorem aGr{f ra:Ac}{fd:AE}{ae:List (Key×Ab)}{di:List (Key×V)}(F:Fun K "is_row" "is_row" qW f fd)(T:Txt K mg)
  (W:∀ h:A4,K.In h→h.DictOf (dE P w) ra ae) (rel:KV di ae) (hz:(ra == sysModules)=false) (mF:mg "FORMS"=some (.ref ra))
  (Y:∀ kind:Str,(iT di (AA kind)).isSome=decide (kind∈eG))
  (aj:∀(kind:Str) (v:V),iT di (AA kind)=some v→∃(a:Ac) (fd:AE),v=.ref a∧cH P w K mg base CX0 6 a fd ["rest"] (fZ (dI kind))∧Aj K (.ref a)=true∧c8 K fd ["rest"] [])
  (GN:Cl P w K mg base 1 "is_name" ["thing"] kQ)
  (GW:Cl P w K mg base 2 "is_whole" ["thing","least","most"] oF):
  cH P w K mg base CX0 7 f fd ["thing"] aDo:=by
 refine F.ok qB (fun vs H Q E h=>?_) (fun aK A outer s H vs Q E hr h=>?_)
 ·obtain⟨m,x,d,rfl,_⟩:=h;rfl
 ·obtain⟨m,x,d,rfl,hx,k⟩:=h;have am:cY 1 _:=hr.mono (by decide);have ak:cY 2 _:=hr.mono (by decide);obtain⟨tl,hlast⟩:=T.lastDay;refine⟨_,aJ (cX (PW.pt (jU (fQ (dJ (aV dQ (by rfl) T.isi (by kernel_rfl) (aG (pv 0) (aG (dW (v:=.ty "tuple") (by rfl) T.tuple (by kernel_rfl) rfl) aF)))))
    (iG (bX aEU (aV bH (by rfl) T.len AO (aG (pv 0) aF)) aI (cF _))))) (aU (bG iR)) bM)
   (aJ (kB (eQ mH (pv 0) fV (fX aI)) (m8 rfl (dB (bU (i:=1) qB.nd rfl (AG rfl)) (dB (bU (i:=2) qB.nd rfl (AG rfl)) (dB (bU (i:=3) qB.nd rfl (AG rfl)) jV)))))
   (aJ (cX (PW.pt (jU (fQ (dJ (aV dQ (by rfl) T.isi (by kernel_rfl) (aG (pv 1) (aG (dW (v:=.ty "str") (by rfl) T.str (by kernel_rfl) rfl) aF)))))
    (iG (bX (aD5 W rel hz) (pv 1) (c7 (v:=.ref ra) (by rfl) mF rfl) (by with_unfolding_all rfl))))) (aU (bG iR)) bM)
   (aJ (cX (PW.pt (jU (fQ (dJ (cB GN am (aG (pv 2) aF)))) (iG (fQ (dJ (cB GW ak (aG (pv 3) (aG aI (aG (c7 (v:=.int 9999) (by rfl) hlast ⟨_,rfl⟩) aF))))))))) (aU (bG iR)) bM)
   (aJ (bQ (i:=4) qB.nd rfl (AG rfl) (aC6 W rel (by rfl) mF (pv 1) Ig))
   (aU (bG (aFs (k:=6) (ps:=["rest"]) (pv 4) hr (aG (eQ mH (pv 0) (fX aI) fV) aF)))))))),?_⟩
  refine⟨_,rfl,_,"tuple",_,_,rfl,lY hx,j7 d,_,rfl,?_⟩;cases hd:iW d with
  | false=>
   have e:rowD d=false:=by
    cases d with
    | tuple ds=>simp[iW]at hd
    | _=>rfl
   rw[e]at k;exact k H (bJ.refl H)
  | true=>
   obtain⟨ds,rfl⟩:∃ ds,d=.tuple ds:=by
    cases d with
    | tuple z=>exact⟨z,rfl⟩
    | _=>simp[iW]at hd
   cases hx with
   | @tup a xs _ e hl r=>
    have aq:=r.len;refine cO ?_;refine⟨_,rfl,a,xs,rfl,.inr (aZ e),_,_,rfl,rfl,_,rfl,?_⟩;by_cases hn:(xs.length:Int) < 3
    ·rw[Ic hn];refine dC ?_;rw[aCu (by omega)]at k;exact k H (bJ.refl H)
    ·rw[decide_eq_false hn];refine cO ?_;obtain⟨x1,U,O,B,rfl⟩:∃ x1 U O B,xs=x1 :: U :: O :: B:=by
      match xs,hn with
      | [],z=>exact absurd (by decide) z
      | [_],z=>exact absurd (show(1:Int) < 3 by decide) z
      | [_,_],z=>exact absurd (show(2:Int) < 3 by decide) z
      | a :: b :: c :: r,_=>exact⟨a,b,c,r,rfl⟩
     cases r with
     | @cons _ d1 _ _ r1 r=>
     cases r with
     | @cons _ d2 _ _ r2 r=>
     cases r with
     | @cons _ d3 _ ds ag rr=>
     refine⟨_,rfl,_,rfl,a,_,rfl,e,fun t H1 Z ht=>?_⟩;have ec:gU (x1 :: U :: O :: B) none (some 3)=[x1,U,O]:=zS (α:=Nat) (x1 :: U :: O :: B) 3;rw[ec]at ht;refine⟨t,_,rfl,aZ ht,rfl,_,_,rfl,_,_,rfl,_,_,rfl,rfl,_,rfl,_,"str",_,_,rfl,lY (r1.same Z),aDl d1,_,rfl,?_⟩;cases hk:yF d1 with
     | false=>
      rw[aEw hk]at k;exact k H1 Z
     | true=>
      obtain⟨kind,rfl⟩:∃ z,d1=.str z:=by
       cases d1 with
       | str z=>exact⟨z,rfl⟩
       | _=>simp[yF]at hk
      cases r1;refine cO ?_;refine⟨_,rfl,AA kind,rfl,rfl,_,rfl,?_⟩;rw[Y kind];have k':∀ H',bJ H H'→Q (.bl (decide (kind∈eG) && (cU d2 && (dN 0 9999 d3 && dI kind ds)))) H':=k;by_cases hw:kind∈eG
      ·rw[Ic hw];refine cO ?_;rw[Ic hw,Bb]at k';refine⟨_,rfl,m,U,d2,rfl,r2.same Z,fun H2 s2=>⟨_,rfl,?_⟩⟩;have J:=Z.trans s2;cases g:cU d2 with
       | false=>
        refine dC ?_;have q:=k' H2 J;rw[g]at q;exact q
       | true=>
        refine cO ?_;refine⟨_,rfl,m,O,d3,0,9999,rfl,ag.same J,_,rfl,?_⟩;cases g2:dN 0 9999 d3 with
        | false=>
         refine dC ?_;have q:=k' H2 J;rw[g,g2]at q;exact q
        | true=>
         refine cO ?_;have hs:=Y kind;rw[Ic hw]at hs;obtain⟨v,hv⟩:=Option.isSome_iff_exists.mp hs;obtain⟨fa,fda,rfl,FG,fk,fb⟩:=aj kind v hv;refine⟨_,rfl,AA kind,_,rfl,hv,_,rfl,fa,fZ (dI kind),rfl,⟨fda,FG,fk,fb⟩,_,rfl,_,rfl,a,_,rfl,J _ _ e,fun t2 H3 s3 aa=>?_⟩;have ed:gU (V.str kind :: U :: O :: B) (some 3) none=B:=pY (α:=Nat) (V.str kind :: U :: O :: B) 3;rw[ed]at aa;refine⟨m,_,ds,rfl,.tup aa (by simp only[A1]at hl;omega) ((rr.same J).same s3),fun H4 s4=>?_⟩;have q:=k' H4 ((J.trans s3).trans s4);rw[g,g2,Bb,Bb]at q;exact q
      ·rw[decide_eq_false hw];refine dC ?_;have q:=k' H1 Z;rw[decide_eq_false hw]at q;exact q
inductive rT(vs:List V)(H:Hp)(Q:VK)(u3_:XK):Prop
 | mk (t:Ac) (word:Str) (x1 x2 x3:V) (cI:List V) (q0:vs=[.ref t]) (q1:H t=some (.tup (.str word :: x1 :: x2 :: x3 :: cI))) (q2:∀ H',bJ H H'→Q (if inV (.str word) [V.str "measure",.str "breach",.str "view"]=true then x3 else .non) H'):rT vs H Q u3_
def yK:Sp:=fun vs H Q u3_=>rT vs H Q u3_
theorem aEx:bY ["row"] ["row"] (aO lX):=⟨rfl,rfl,rfl,by decide,rfl,by decide,by decide⟩
theorem aCv{f:Ac}{fd:AE}(F:Fun K "field_of" "field_of" lX f fd):cH P w K mg base CX0 1 f fd ["row"] yK:=by
 refine F.ok aEx (fun vs H Q E h=>?_) (fun U A outer s H vs Q E Y h=>?_)
 ·obtain⟨t,word,x1,x2,x3,cI,rfl,_⟩:=h;rfl
 ·obtain⟨t,word,x1,x2,x3,cI,rfl,ht,k⟩:=h;refine⟨_,aJ (cX (bX jG (cE cM (pv 0) aI Ig) (cQ (aG aX (aG aX (aG aX aF)))) (by with_unfolding_all rfl)) (aU (bG (cE cM (pv 0) aI Ig))) bM)
   (aU (bG oV)),?_⟩
  have W:(V.str word :: x1 :: x2 :: x3 :: cI).length=cI.length + 4:=rfl;have O:atI (V.str word :: x1 :: x2 :: x3 :: cI) 0=some (.str word):=dD (j:=0) rfl;have a3:atI (V.str word :: x1 :: x2 :: x3 :: cI) 3=some x3:=dD (j:=3) rfl;refine⟨_,rfl,t,_,0,_,rfl,rfl,aZ ht,O,zZ3,fun q J=>?_⟩;have B:=aQ (o:=.tup [V.str "measure",.str "breach",.str "view"]) J;refine⟨q,_,rfl,.inr (aZ aH),rfl,rfl,_,rfl,?_⟩;have z:=k _ B;rw[Ia AD];refine d9 (fun g=>?_) (fun g=>?_)
  ·rw[Ib g]at z;exact⟨_,rfl,t,_,3,_,rfl,rfl,aZ (B _ _ ht),a3,z⟩
  ·rw[Ia g]at z;exact z
def aIz:Ak→Bool | .list _=>true | _=>false
def fJ:Ak→Bool | .list _=>true | .tuple _=>true | _=>false
theorem aHR{K:Ah}(d:Ak):Bt K (.type (tyN d)) (.type "list")=some (aIz d):=by
 cases d <;> dsimp only[tyN,aIz] <;> first | exact nF | exact uP (by decide) (by decide) (by decide)
theorem aAn{K:Ah}(d:Ak):Du K (.type (tyN d)) [.type "list",.type "tuple"]=some (fJ d):=by
 simp only[Du,aHR,j7];cases d <;> rfl
def dP:Nat→Ak→Ak
 | 0,d=>d
 | n + 1,.list ds=>.tuple (ds.map (dP n))
 | n + 1,.tuple ds=>.tuple (ds.map (dP n))
 | _ + 1,d=>d
inductive aGs(n:Nat)(vs:List V)(H:Hp)(Q:VK)(u3_:XK):Prop
 | mk (m:Bool) (x:V) (d:Ak) (q0:vs=[x,.int n]) (q1:RdV m H x d) (q2:∀ y H',bJ H H'→RdV m H' y (dP n d)→Q y H'):aGs n vs H Q u3_
def aHS(n:Nat):Sp:=fun vs H Q u3_=>aGs n vs H Q u3_
theorem aGt{f:Ac}{fd:AE}{k:Nat}{ps:List Str}:cH P w K mg base CX0 k f fd ps (fun _ _ _ _=>False):=by
 constructor
 ·intro _ _ _ _ h;exact h.elim
 ·intros;contradiction
theorem aKJ:bY ["thing","deep"] ["thing","deep"] (aO jR):=⟨rfl,rfl,rfl,by decide,rfl,by decide,by decide⟩
theorem aJM{f:Ac}{fd:AE}(F:Fun K "as_tuples" "as_tuples" jR f fd)(T:Txt K mg)(z:mg "list"=none)(mA:mg "as_tuples"=some (.ref f))(B:Aj K (.ref f)=true)(J:c8 K fd ["thing","deep"] []):
  cH P w K mg base CX0 1 f fd ["thing","deep"] (aHS 0):=by
 refine F.ok aKJ (fun vs H Q E h=>?_) (fun O A outer s H vs Q E U h=>?_)
 ·obtain⟨m,x,d,rfl,_⟩:=h;rfl
 ·obtain⟨m,x,d,rfl,hx,k⟩:=h;have G:cH P w K mg base CX0 0 f fd ["thing","deep"] (fun _ _ _ _=>False):=aGt;refine⟨_,aJ (cX (PW.pt (jU (bX dU (pv 1) aI (cF _)) (iG (fQ (dJ (aV i8 (by rfl) T.isi (by kernel_rfl) (aG (pv 0) (aG (cQ (aG (dW (v:=.ty "list") (by rfl) z (by kernel_rfl) rfl) (aG (dW (v:=.ty "tuple") (by rfl) T.tuple (by kernel_rfl) rfl) aF))) aF)))))))) (aU (bG (pv 0))) bM)
   (aU (bG (cV cW (by rfl) T.tuple (by kernel_rfl) (aG (fE (N:=["inner","deep"]) (src:=[none,some 1]) (osc:=aO jR) (oN:=["thing","deep"]) ⟨by rfl,by decide,by decide,by decide,rfl,by rfl⟩ (gX (pv 0))
     fun W s H Y dh C=>⟨bU (i:=0) (show(["inner","deep"]:List Str).Nodup by decide) rfl (AG rfl),eB,c6 G U rfl mA B J .nil gF (aG (pv 0) (aG (cA kG (pv 1) aI) aF))⟩) aF)))),?_⟩
  refine⟨_,rfl,rfl,_,rfl,?_⟩;rw[Ic (show V.int ((0:Nat):Int)=V.int 0 from rfl)];refine dC ?_;exact⟨_,rfl,k _ _ (bJ.refl H) hx⟩
theorem aCw{f:Ac}{fd:AE}(F:Fun K "as_tuples" "as_tuples" jR f fd)(T:Txt K mg)(B:mg "list"=none)(mA:mg "as_tuples"=some (.ref f))(kA:Aj K (.ref f)=true)(bA:c8 K fd ["thing","deep"] []){n:Nat}
  (G:cH P w K mg base CX0 (n + 1) f fd ["thing","deep"] (aHS n)):cH P w K mg base CX0 (n + 2) f fd ["thing","deep"] (aHS (n + 1)):=by
 refine F.ok aKJ (fun vs H Q E h=>?_) (fun aq A outer s H vs Q E hr h=>?_)
 ·obtain⟨m,x,d,rfl,_⟩:=h;rfl
 ·obtain⟨m,x,d,rfl,hx,k⟩:=h;by_cases hs:fJ d=true
  ·cases d with
   | list ds=>
    cases hx with
    | @lst a xs _ hm e hl r=>
     have Y:=r.len;refine⟨_,aJ (cX (PW.pt (jU (bX dU (pv 1) aI (cF _)) (iG (fQ (dJ (aV i8 (by rfl) T.isi (by kernel_rfl) (aG (pv 0) (aG (cQ (aG (dW (v:=.ty "list") (by rfl) B (by kernel_rfl) rfl) (aG (dW (v:=.ty "tuple") (by rfl) T.tuple (by kernel_rfl) rfl) aF))) aF)))))))) (aU (bG (pv 0))) bM)
    (aU (bG (cV cW (by rfl) T.tuple (by kernel_rfl) (aG (fE (N:=["inner","deep"]) (src:=[none,some 1]) (osc:=aO jR) (oN:=["thing","deep"]) ⟨by rfl,by decide,by decide,by decide,rfl,by rfl⟩ (nV (pv 0))
      fun cl s H fp dh C=>⟨bU (i:=0) (show(["inner","deep"]:List Str).Nodup by decide) rfl (AG rfl),eB,c6 G hr rfl mA kA bA .nil gF (aG (pv 0) (aG (cA kG (pv 1) aI) aF))⟩) aF)))),?_⟩
     refine⟨_,rfl,rfl,_,rfl,?_⟩;rw[decide_eq_false (show¬ V.int ((n + 1:Nat):Int)=V.int 0 from fun z=>by injection z with z;omega)];refine cO ?_;refine⟨_,rfl,zZ2,fun q hq=>?_⟩;have J:=aQ (o:=.tup [V.ty "list",.ty "tuple"]) hq;refine⟨_,q,"list","tuple",_,_,rfl,aH,kX.lst (J _ _ e),aAn (.list ds),_,rfl,cO ?_⟩;generalize upd H q (.tup [V.ty "list",.ty "tuple"])=H1 at J ⊢;refine⟨_,rfl,a,rfl,⟨xs,bE (J _ _ e)⟩,?_⟩;refine nY (xs:=xs) (fun i ys σ H'=>bJ H H'∧cG m H' ys ((ds.take i).map (dP n))∧∃ o,σ=[o,some (.int ((n + 1:Nat):Int))]) ⟨J,by rw[List.take_zero];exact .nil,none,rfl⟩ (aS (by omega)) (fun i ys σ H' p=>by have:=p.2.1.len;rw[Ae,AX]at this;omega) (fun i ys σ H' p=>bE (p.1 _ _ e)) ?_ ?_
     ·rintro i y ys σ H' hy ⟨S,rd,o,rfl⟩;dsimp only[dG];obtain⟨d',hd',r'⟩:=r.at hy;refine dC ?_;refine⟨_,rfl,_,rfl,_,_,rfl,rfl,m,y,d',(by show[y,V.int (((n + 1:Nat):Int) - 1)] ++ []=_;rw[show(((n + 1:Nat):Int) - 1)=(n:Int) by omega];rfl),r'.same S,fun y2 H2 s2 r2=>⟨S.trans s2,?_,_,rfl⟩⟩;rw[Bk,hd',AU];exact cG.app (rd.same s2) (.cons r2 .nil)
     ·rintro ys σ H2 ⟨S,rd,o,rfl⟩ D hD;have O:Ey xs.length ds=ds:=Bw (by omega);rw[O]at rd;have sD:=aQ (o:=.lst ys) hD;refine⟨D,ys,rfl,.inl ⟨bE aH,fun t ht=>?_⟩⟩;have Z:=aQ (o:=.tup ys) ht;have U:=rd.len;rw[Ae]at U;exact k _ _ ((S.trans sD).trans Z) (.tup aH (by omega) ((rd.same sD).same Z))
   | tuple ds=>
    cases hx with
    | @tup a xs _ e hl r=>
     have Y:=r.len;refine⟨_,aJ (cX (PW.pt (jU (bX dU (pv 1) aI (cF _)) (iG (fQ (dJ (aV i8 (by rfl) T.isi (by kernel_rfl) (aG (pv 0) (aG (cQ (aG (dW (v:=.ty "list") (by rfl) B (by kernel_rfl) rfl) (aG (dW (v:=.ty "tuple") (by rfl) T.tuple (by kernel_rfl) rfl) aF))) aF)))))))) (aU (bG (pv 0))) bM)
    (aU (bG (cV cW (by rfl) T.tuple (by kernel_rfl) (aG (fE (N:=["inner","deep"]) (src:=[none,some 1]) (osc:=aO jR) (oN:=["thing","deep"]) ⟨by rfl,by decide,by decide,by decide,rfl,by rfl⟩ (gX (pv 0))
      fun cl s H fp dh C=>⟨bU (i:=0) (show(["inner","deep"]:List Str).Nodup by decide) rfl (AG rfl),eB,c6 G hr rfl mA kA bA .nil gF (aG (pv 0) (aG (cA kG (pv 1) aI) aF))⟩) aF)))),?_⟩
     refine⟨_,rfl,rfl,_,rfl,?_⟩;rw[decide_eq_false (show¬ V.int ((n + 1:Nat):Int)=V.int 0 from fun z=>by injection z with z;omega)];refine cO ?_;refine⟨_,rfl,zZ2,fun q hq=>?_⟩;have J:=aQ (o:=.tup [V.ty "list",.ty "tuple"]) hq;refine⟨_,q,"list","tuple",_,_,rfl,aH,kX.tup (J _ _ e),aAn (.tuple ds),_,rfl,cO ?_⟩;generalize upd H q (.tup [V.ty "list",.ty "tuple"])=H1 at J ⊢;refine⟨_,rfl,a,rfl,⟨xs,aZ (J _ _ e)⟩,?_⟩;refine gQ (xs:=xs) (fun i ys σ H'=>bJ H H'∧cG m H' ys ((ds.take i).map (dP n))∧∃ o,σ=[o,some (.int ((n + 1:Nat):Int))]) ⟨J,by rw[List.take_zero];exact .nil,none,rfl⟩ (aS (by omega)) (fun i ys σ H' p=>by have:=p.2.1.len;rw[Ae,AX]at this;omega) (fun i ys σ H' p=>aZ (p.1 _ _ e)) ?_ ?_
     ·rintro i y ys σ H' hy ⟨S,rd,o,rfl⟩;dsimp only[dG];obtain⟨d',hd',r'⟩:=r.at hy;refine dC ?_;refine⟨_,rfl,_,rfl,_,_,rfl,rfl,m,y,d',(by show[y,V.int (((n + 1:Nat):Int) - 1)] ++ []=_;rw[show(((n + 1:Nat):Int) - 1)=(n:Int) by omega];rfl),r'.same S,fun y2 H2 s2 r2=>⟨S.trans s2,?_,_,rfl⟩⟩;rw[Bk,hd',AU];exact cG.app (rd.same s2) (.cons r2 .nil)
     ·rintro ys σ H2 ⟨S,rd,o,rfl⟩ D hD;have O:Ey xs.length ds=ds:=Bw (by omega);rw[O]at rd;have sD:=aQ (o:=.lst ys) hD;refine⟨D,ys,rfl,.inl ⟨bE aH,fun t ht=>?_⟩⟩;have Z:=aQ (o:=.tup ys) ht;have U:=rd.len;rw[Ae]at U;exact k _ _ ((S.trans sD).trans Z) (.tup aH (by omega) ((rd.same sD).same Z))
   | _=>simp[fJ]at hs
  ·have W:fJ d=false:=by simpa using hs
   have et:dP (n + 1) d=d:=by
    cases d with
    | list ds=>simp[fJ]at W
    | tuple ds=>simp[fJ]at W
    | _=>rfl
   rw[et]at k;refine⟨_,aJ (cX (PW.pt (jU (bX dU (pv 1) aI (cF _)) (iG (fQ (dJ (aV i8 (by rfl) T.isi (by kernel_rfl) (aG (pv 0) (aG (cQ (aG (dW (v:=.ty "list") (by rfl) B (by kernel_rfl) rfl) (aG (dW (v:=.ty "tuple") (by rfl) T.tuple (by kernel_rfl) rfl) aF))) aF)))))))) (aU (bG (pv 0))) bM)
   (aU (bG (cV cW (by rfl) T.tuple (by kernel_rfl) (aG (fE (N:=["inner","deep"]) (src:=[none,some 1]) (osc:=aO jR) (oN:=["thing","deep"]) ⟨by rfl,by decide,by decide,by decide,rfl,by rfl⟩ (gX (pv 0))
     fun cl s H fp dh C=>⟨bU (i:=0) (show(["inner","deep"]:List Str).Nodup by decide) rfl (AG rfl),eB,c6 G hr rfl mA kA bA .nil gF (aG (pv 0) (aG (cA kG (pv 1) aI) aF))⟩) aF)))),?_⟩
   refine⟨_,rfl,rfl,_,rfl,?_⟩;rw[decide_eq_false (show¬ V.int ((n + 1:Nat):Int)=V.int 0 from fun z=>by injection z with z;omega)];refine cO ?_;refine⟨_,rfl,zZ2,fun q hq=>?_⟩;have J:=aQ (o:=.tup [V.ty "list",.ty "tuple"]) hq;refine⟨_,q,"list","tuple",_,_,rfl,aH,lY (hx.same J),aAn d,_,rfl,?_⟩;rw[W];refine dC ?_;exact⟨_,rfl,k _ _ J (hx.same J)⟩
theorem gO{H:Hp}{p c a:Ac}{ns:List Int}{t:Int}{o:HO}(z:cJ H p c ns t)(e:H a=some o)(h:∀ B r,o≠.dK (B :: r)):a≠p:=by
 obtain⟨l,_,e2⟩:=z.ob;exact aEM e e2 (h _ _)
theorem aCx{m:Bool}{H H':Hp}{p c:Ac}{ns:List Int}{t:Int}{x:V}{d:Ak}(r:RdV m H x d)(z:cJ H p c ns t)(k:aY p H H'):RdV m H' x d:=r.keep fun a o e h=>k a o e (gO z e h)
theorem aAo{m:Bool}{H H':Hp}{p c:Ac}{ns:List Int}{t:Int}{x:List V}{d:List Ak}(r:cG m H x d)(z:cJ H p c ns t)(k:aY p H H'):cG m H' x d:=r.keep fun a o e h=>k a o e (gO z e h)
theorem b8{H H':Hp}{p c a:Ac}{ns:List Int}{t:Int}{xs:List V}(e:H a=some (.lst xs))(B:cJ H p c ns t)(k:aY p H H'):H' a=some (.lst xs):=k a _ e (gO B e (fun _ _ z=>nomatch z))
theorem aAp{H H':Hp}{p c a:Ac}{ns:List Int}{t:Int}{xs:List V}(e:H a=some (.tup xs))(B:cJ H p c ns t)(k:aY p H H'):H' a=some (.tup xs):=k a _ e (gO B e (fun _ _ z=>nomatch z))
inductive aDp(vs:List V)(H:Hp)(Q:VK)(u3_:XK):Prop
 | mk (p c:Ac) (ns:List Int) (a lo hi:Int) (q0:vs=[.ref p,.int lo,.int hi]) (q1:cJ H p c ns a) (q2:a≤900000) (q3:0≤lo) (q4:lo≤hi) (q5:hi≤10 ^ 9) (q6:∀ n a' H',lo≤n→n≤hi→a≤a'→a'≤a + 3→cJ H' p c ns a'→aY p H H'→Q (.int n) H'):aDp vs H Q u3_
def aGu:Sp:=fun vs H Q u3_=>aDp vs H Q u3_
theorem aGv:bY ["_law_pen_here","_law_bottom","_law_most","_law_way","_law_near"] ["_law_pen_here","_law_bottom","_law_most"] (aO oE):=⟨rfl,rfl,rfl,by decide,rfl,by decide,by decide⟩
theorem aJN{f:Ac}{fd:AE}(F:Fun K "_law_number" "_law_number" oE f fd)(z:mg "min"=none)(GT:Cl P w K mg base 1 "_law_take" ["_law_pen_here","_law_many"] hV):
  cH P w K mg base CX0 2 f fd ["_law_pen_here","_law_bottom","_law_most"] aGu:=by
 refine F.ok aGv (fun vs H Q E h=>?_) (fun an A outer s H vs Q E hr h=>?_)
 ·obtain⟨p,c,ns,a,lo,hi,rfl,_⟩:=h;rfl
 ·obtain⟨p,c,ns,a,lo,hi,rfl,hp,ha,h0,h1,h2,k⟩:=h;refine⟨_,aJ (bQ (i:=3) aGv.nd rfl (AG rfl) (cB GT hr (aG (pv 0) (aG aI aF))))
   (aJ (bQ (i:=4) aGv.nd rfl (AG rfl) (cA eM (pv 1) (cB GT hr (aG (pv 0) (aG (aV (xA rfl) (by rfl) z (by kernel_rfl) (aG aI (aG (cA eM (cA kG (pv 2) (pv 1)) aI) aF))) aF)))))
   (aU (bG (cE c9 (dM (aG (pv 1) (aG (pv 2) (aG (pv 4) (aG (cA eM (pv 1) (cB GT hr (aG (pv 0) (aG (cA eM (cA kG (pv 2) (pv 1)) aI) aF)))) aF))))) (pv 3) Ig)))),?_⟩
  have b9:(10:Int) ^ 9 + 1 < 2 ^ 512:=by decide
  have e9:(10:Int) ^ 9=1000000000:=by decide
  refine⟨_,rfl,p,c,ns,a,_,rfl,hp,by omega,by decide,by decide,fun J a1 H1 U ao l1 u1 ac W=>?_⟩;refine⟨_,rfl,_,rfl,_,rfl,_,rfl,_,_,rfl,rfl,_,_,rfl,rfl,_,_,rfl,?_⟩;obtain⟨B,hmm,m0,m1⟩:∃ B:Int,(if hi - lo + 1 < 12 then hi - lo + 1 else 12)=B∧0 < B∧B≤hi - lo + 1:=by
   refine⟨_,rfl,?_⟩;split <;> omega
  rw[hmm];refine⟨p,c,ns,a1,_,rfl,ac,by omega,m0,by omega,fun r2 a2 H2 ak am l2 u2 Z O=>?_⟩;refine⟨_,_,rfl,rfl,_,rfl,_,rfl,_,rfl,_,rfl,_,rfl,_,rfl,_,rfl,_,_,rfl,rfl,_,_,rfl,rfl,p,c,ns,a2,_,rfl,Z,by omega,by omega,by omega,fun r3 a3 H3 ai ap l3 u3 Y aa=>?_⟩;refine⟨_,_,rfl,rfl,zZ4,fun q hq=>?_⟩;have sq:=aQ (o:=.lst [V.int lo,.int hi,.int (lo + r2),.int (lo + r3)]) hq;obtain⟨v,hv,hat⟩:=g9 (xs:=[V.int lo,.int hi,.int (lo + r2),.int (lo + r3)]) (i:=J) U (by show J < 4;omega);obtain⟨n,rfl,hn0,hn1⟩:∃ n:Int,v=.int n∧lo≤n∧n≤hi:=by
   simp only[Al,Ao,or_false]at hv;rcases hv with rfl | rfl | rfl | rfl
   ·exact⟨_,rfl,by omega,by omega⟩
   ·exact⟨_,rfl,by omega,by omega⟩
   ·exact⟨_,rfl,by omega,by omega⟩
   ·exact⟨_,rfl,by omega,by omega⟩
  exact⟨_,rfl,q,_,J,_,rfl,rfl,bE aH,hat,k n a3 _ hn0 hn1 (by omega) (by omega) (Y.same sq) (((W.trans O).trans aa).same sq)⟩
open PySem L2 PyProof.Rows
theorem pG{α:Type}:∀(l:List α) (j:Nat) (y:α),l[j]?=some y→(y :: l.eraseIdx j).Perm l
 | [],j,y,h=>by simp at h
 | x :: r,0,y,h=>by
  simp at h;subst h;simp
 | x :: r,j + 1,y,h=>by
  simp at h;have z:=pG r j y h;rw[List.eraseIdx_cons_succ];exact(List.Perm.swap x y _).trans (z.cons x)
theorem yL{α β:Type}(f:α→β):∀(l:List α) (j:Nat),(l.map f).eraseIdx j=(l.eraseIdx j).map f
 | [],j=>by simp
 | x :: r,0=>by simp
 | x :: r,j + 1=>by simp[yL f r j]
inductive yM(vs:List V)(H:Hp)(Q:VK)(u3_:XK):Prop
 | mk (p c:Ac) (ns:List Int) (a:Int) (nf nr:Nat) (q0:vs=[.ref p,.int nf,.int nr]) (q1:cJ H p c ns a) (q2:a≤800000) (q3:nf≤44) (q4:nr≤44) (q5:∀(t l1 l2 l3 l4:Ac) (ws ps hs rs:List Str) (a':Int) (H':Hp),H' t=some (.tup [.ref l1,.ref l2,.ref l3,.ref l4])→H' l1=some (.lst (ws.map V.str))→ws.length=nf→Nms ws→H' l2=some (.lst (ps.map V.str))→ps.length=10→Nms ps→H' l3=some (.lst (hs.map V.str))→hs.length=5→Nms hs→H' l4=some (.lst (rs.map V.str))→rs.length=nr→Nms rs→a≤a'→a'≤a + 200→cJ H' p c ns a'→aY p H H'→Q (.ref t) H'):yM vs H Q u3_
def aDq:Sp:=fun vs H Q u3_=>yM vs H Q u3_
inductive aBw(vs:List V)(H:Hp)(Q:VK)(u3_:XK):Prop
 | mk (p c:Ac) (ns:List Int) (a:Int) (m:Nat) (q0:vs=[.ref p,.int m]) (q1:cJ H p c ns a) (q2:a≤800000) (q3:m≤44) (q4:∀(l:Ac) (ds:List Int) (a':Int) (H':Hp),H' l=some (.lst (ds.map V.int))→ds.length=m→(∀ d∈ds,0≤d∧d≤9999)→a≤a'→a'≤a + 200→cJ H' p c ns a'→aY p H H'→Q (.ref l) H'):aBw vs H Q u3_
def aGw:Sp:=fun vs H Q u3_=>aBw vs H Q u3_
inductive aBx(vs:List V)(H:Hp)(Q:VK)(u3_:XK):Prop
 | mk (p c:Ac) (ns:List Int) (a:Int) (l:Ac) (ws:List Str) (m:Nat) (q0:vs=[.ref p,.ref l,.int m]) (q1:cJ H p c ns a) (q2:a≤800000) (q3:H l=some (.lst (ws.map V.str))) (q4:ws.length=10) (q5:m≤6) (q6:∀(q:Ac) (ms:List Str) (a':Int) (H':Hp),H' q=some (.lst (ms.map V.str))→ms.length=m→sortedS ms=true→(∃ us vs:List Str,ms.Perm us∧(us ++ vs).Perm ws)→a≤a'→a'≤a + 10→cJ H' p c ns a'→aY p H H'→Q (.ref q) H'):aBx vs H Q u3_
def aGx:Sp:=fun vs H Q u3_=>aBx vs H Q u3_
theorem tF:bY ["_law_pen_here","_law_fields","_law_rows","_law_some_here","_law_plots","_law_houses"] ["_law_pen_here","_law_fields","_law_rows"] (aO qY):=⟨rfl,rfl,rfl,by decide,rfl,by decide,by decide⟩
theorem aGy{f:Ac}{fd:AE}(F:Fun K "_law_sorts" "_law_sorts" qY f fd)
  (GT:Cl P w K mg base 1 "_law_take" ["_law_pen_here","_law_many"] hV)
  (GN:Cl P w K mg base 2 "_law_names" ["_law_pen_here","_law_many"] aDk):
  cH P w K mg base CX0 3 f fd ["_law_pen_here","_law_fields","_law_rows"] aDq:=by
 refine F.ok tF (fun vs H Q E h=>?_) (fun bq A outer s H vs Q E hr h=>?_)
 ·obtain⟨p,c,ns,a,nf,nr,rfl,_⟩:=h;rfl
 ·obtain⟨p,c,ns,a,nf,nr,rfl,hp,ha,hf,hrr,k⟩:=h;have ax:cY 1 _:=hr.mono (by decide);refine⟨_,aJ (cX (bX dU (cB GT ax (aG (pv 0) (aG aI aF))) aI (cF _))
    (aJ (bQ (i:=3) tF.nd rfl (AG rfl) (cB GN hr (aG (pv 0) (aG aI aF))))
    (aU (bG (cQ (aG (eQ nX (pv 3) fV (fX (pv 1))) (aG (eQ nX (pv 3) fV (fX aI)) (aG (eQ nX (pv 3) fV (fX aI)) (aG (eQ nX (pv 3) fV (fX (pv 2))) aF)))))))) bM)
   (aJ (bQ (i:=4) tF.nd rfl (AG rfl) (cB GN hr (aG (pv 0) (aG aI aF))))
   (aJ (bQ (i:=5) tF.nd rfl (AG rfl) (cB GN hr (aG (pv 0) (aG aI aF))))
   (aU (bG (cQ (aG (cB GN hr (aG (pv 0) (aG (pv 1) aF))) (aG (pv 4) (aG (pv 5) (aG (cB GN hr (aG (pv 0) (aG (pv 2) aF))) aF))))))))),?_⟩
  refine⟨_,rfl,p,c,ns,a,_,rfl,hp,by omega,by decide,by decide,fun r1 a1 H1 bx br l1 u1 ae ag=>?_⟩;refine⟨rfl,_,rfl,?_⟩;have z4:(4:Nat)≤sizeLine:=aS (by decide);refine d9 (fun g=>?_) (fun g=>?_)
  ·refine⟨_,rfl,p,c,ns,a1,44,rfl,ae,by omega,by omega,fun L B a2 H2 nL hL bv hN l2 u2 O Y=>?_⟩;have ec:∀ n:Nat,gU (B.map V.str) none (some (n:Int))=(B.take n).map V.str:=fun n=>by rw[zS (α:=Nat),F0]
   have ah:gU (B.map V.str) none (some 10)=(B.take 10).map V.str:=ec 10;have az:gU (B.map V.str) none (some 5)=(B.take 5).map V.str:=ec 5;refine⟨_,rfl,_,rfl,_,rfl,L,_,rfl,bE hL,fun q1 aC=>?_⟩;rw[ec nf];have s1:=aQ (o:=.lst ((B.take nf).map V.str)) aC;refine⟨_,rfl,_,rfl,L,_,rfl,bE (s1 _ _ hL),fun q2 aA=>?_⟩;rw[ah];have aj:=aQ (o:=.lst ((B.take 10).map V.str)) aA;have s2:=s1.trans aj;refine⟨_,rfl,_,rfl,L,_,rfl,bE (s2 _ _ hL),fun q3 aK=>?_⟩;rw[az];have ac:=aQ (o:=.lst ((B.take 5).map V.str)) aK;have s3:=s2.trans ac;refine⟨_,rfl,_,rfl,_,rfl,L,_,rfl,bE (s3 _ _ hL),fun q4 aN=>?_⟩;rw[ec nr];have W:=aQ (o:=.lst ((B.take nr).map V.str)) aN;have s4:=s3.trans W;refine⟨z4,fun t ht=>?_⟩;have z:=aQ (o:=.tup [V.ref q1,.ref q2,.ref q3,.ref q4]) ht;have s5:=s4.trans z;refine k t q1 q2 q3 q4 (B.take nf) (B.take 10) (B.take 5) (B.take nr) a2 _ aH (z _ _ (W _ _ (ac _ _ (aj _ _ aH)))) (by rw[AX];omega) (hN.take nf) (z _ _ (W _ _ (ac _ _ aH))) (by rw[AX];omega) (hN.take 10) (z _ _ (W _ _ aH)) (by rw[AX];omega) (hN.take 5) (z _ _ aH) (by rw[AX];omega) (hN.take nr) (by omega) (by omega) (O.same s5) ((ag.trans Y).same s5)
  ·refine⟨_,rfl,p,c,ns,a1,10,rfl,ae,by omega,by omega,fun L1 aE a2 H2 bC aT ao aR l2 u2 O Y=>?_⟩;refine⟨_,rfl,p,c,ns,a2,5,rfl,O,by omega,by omega,fun L2 au a3 H3 bu aP am aD l3 u3 aa an=>?_⟩;refine⟨_,rfl,_,rfl,p,c,ns,a3,nf,rfl,aa,by omega,by omega,fun L3 av a4 H4 bA ar af ay l4 u4 U Z=>?_⟩;refine⟨_,rfl,_,rfl,_,rfl,_,rfl,p,c,ns,a4,nr,rfl,U,by omega,by omega,fun L4 aw a5 H5 bt aM ai aL l5 u5 aB J=>?_⟩;refine⟨z4,fun t ht=>?_⟩;have z:=aQ (o:=.tup [V.ref L3,.ref L1,.ref L2,.ref L4]) ht;exact k t L3 L1 L2 L4 av aE au aw a5 _ aH (z _ _ (b8 ar U J)) af ay (z _ _ (b8 (b8 (b8 aT O an) aa Z) U J)) ao aR (z _ _ (b8 (b8 aP aa Z) U J)) am aD (z _ _ aM) ai aL (by omega) (by omega) (aB.same z) (((((ag.trans Y).trans an).trans Z).trans J).same z)
theorem aCy:bY ["_law_pen_here","_law_names_here","_law_many","_law_left","_law_found"] ["_law_pen_here","_law_names_here","_law_many"] (aO vV):=⟨rfl,rfl,rfl,by decide,rfl,by decide,by decide⟩
theorem aHT{f:Ac}{fd:AE}(F:Fun K "_law_some" "_law_some" vV f fd)(U:mg "list"=none)(ad:mg "range"=none)(ae:mg "sorted"=none)(ac:mg "len"=none)
  (GT:Cl P w K mg base 1 "_law_take" ["_law_pen_here","_law_many"] hV):
  cH P w K mg base CX0 2 f fd ["_law_pen_here","_law_names_here","_law_many"] aGx:=by
 refine F.ok aCy (fun vs H Q E h=>?_) (fun aE A outer s H vs Q E hr h=>?_)
 ·obtain⟨p,c,ns,a,l,ws,m,rfl,_⟩:=h;rfl
 ·obtain⟨p,c,ns,a,l,ws,m,rfl,hp,ha,hl,hwl,hm,k⟩:=h;refine⟨_,aJ (bQ (i:=3) aCy.nd rfl (Do rfl) (cV fY (by rfl) U (by kernel_rfl) (aG (pv 1) aF)))
   (aJ (jO (i:=4) (N:=["_law_k","_law_left","_law_pen_here"]) (src:=[none,some 3,some 0]) (osc:=aO vV) (oN:=["_law_pen_here","_law_names_here","_law_many","_law_left","_law_found"]) ⟨by rfl,by decide,by decide,by decide,rfl,by rfl⟩ aCy.nd rfl
     (f8 rfl ad (aG (pv 2) aF))
     fun cl s H fp dh C=>⟨bU (i:=0) (show(["_law_k","_law_left","_law_pen_here"]:List Str).Nodup by decide) rfl (AG rfl),eB,aFt (K:=K) A7 PySem.F.slot_list_pop PySem.F.type_list_pop aAF (pv 1) (aG (cB GT hr (aG (pv 2) (aG (aV (r:=gZ K) bH (by rfl) ac AO (aG (pv 1) aF)) aF))) aF)⟩)
   (aU (bG (aV zT (by rfl) ae (by kernel_rfl) (aG (pv 4) aF))))),?_⟩
  refine⟨_,rfl,l,_,rfl,.inl (bE hl),fun L hL=>?_⟩;have s0:=aQ (o:=.lst (ws.map V.str)) hL;have ai:L≠p:=by
   obtain⟨z,_,e⟩:=hp.ob;exact(bB e hL).symm
  have au:L≠c:=(bB hp.ce hL).symm;refine⟨_,rfl,m,rfl,by omega,by omega,?_⟩;refine jP (fun i ys σ' H'=>Ex3 fun(a':Int) (B vs:List Str)=>∃(o:Option V),Aw6 (σ'=[o,some (.ref L),some (.ref p)]) (cJ H' p c ns a') (aY p H H') (a≤a') (a'≤a + i) (Aw3 (ys=B.map V.str) (B.length=i) (Aw3 (H' L=some (.lst (vs.map V.str))) (vs.length + i=10) ((B ++ vs).Perm ws))))
   ⟨a,[],ws,none,rfl,hp.same s0,bJ.but s0,by omega,by omega,rfl,rfl,aH,by omega,CW _⟩ (aS (by omega)) (fun i ys σ H p=>by obtain⟨_,B,_,_,_,_,_,_,_,rfl,e,_⟩:=p;rw[Ae,e];exact Ap _) ?_ ?_
  ·rintro i ys σ' H1 hi ⟨a1,B,vs,o,rfl,J,W,ao,am,rfl,Z,O,aq,Y⟩;dsimp only[dG];refine dC ?_;refine⟨_,rfl,.inl ⟨rfl,_,bE O⟩,_,rfl,_,rfl,L,_,rfl,.inl (bE O),p,c,ns,a1,_,rfl,J,by omega,by rw[Ae];omega,by rw[Ae];omega,fun r1 a2 H2 aD av aC aK ap aa=>?_⟩;rw[Ae]at av;obtain⟨j,rfl⟩:∃ j:Nat,r1=j:=⟨r1.toNat,by omega⟩
   have ak:=b8 O J aa;obtain⟨y,hy⟩:∃ y,vs[j]?=some y:=⟨_,Ag (by omega)⟩
   have ar:seqIndex? (j:Int) (vs.map V.str).length=some j:=by
    rw[Ae];unfold seqIndex?;simp;omega
   refine⟨L,_,_,j,V.str y,rfl,rfl,ak,by omega,by omega,ar,by rw[AK,hy];rfl,?_⟩;refine⟨a2,B ++ [y],vs.eraseIdx j,_,rfl,?_,?_,by omega,by omega,by rw[AU];rfl,by rw[Av,Z];rfl,?_,?_,?_⟩
   ·obtain⟨⟨z,hz,e⟩,ce,ge,sm⟩:=ap;exact⟨⟨z,hz,by rw[aW ai.symm];exact e⟩,by rw[aW au.symm];exact ce,ge,sm⟩
   ·intro b o e ne;rw[aW (bB e hL)];exact(W.trans aa) b o e ne
   ·rw[aH];congr 2;exact yL V.str vs j
   ·rw[C9 (by omega)];omega
   ·rw[DC];exact(Es B (pG vs j y hy)).trans Y
  ·rintro ys σ' H1 ⟨a1,B,vs,o,rfl,J,W,ao,am,rfl,Z,O,aq,Y⟩ D hD;have sD:=aQ (o:=.lst (B.map V.str)) hD;refine⟨_,rfl,D,B,rfl,bE aH,by omega,fun q ms hq af an=>?_⟩;have s2:=aQ (o:=.lst (ms.map V.str)) hq;exact k q ms a1 _ aH (by rw[af.length_eq,Z];omega) an ⟨B,vs,af,Y⟩ (by omega) (by omega) ((J.same sD).same s2) ((W.same sD).same s2)
theorem rD:bY ["_law_pen_here","_law_many","_law_way","_law_some_here","_law_k","_law_few","_law_found"] ["_law_pen_here","_law_many"] (aO vU):=⟨rfl,rfl,rfl,by decide,rfl,by decide,by decide⟩
theorem aHU{f:Ac}{fd:AE}(F:Fun K "_law_days" "_law_days" vU f fd)(Y:mg "range"=none)(au:mg "len"=none)(ap:mg "int"=none)
  (GT:Cl P w K mg base 1 "_law_take" ["_law_pen_here","_law_many"] hV):
  cH P w K mg base CX0 2 f fd ["_law_pen_here","_law_many"] aGw:=by
 refine F.ok rD (fun vs H Q E h=>?_) (fun b0 A outer s H vs Q E hr h=>?_)
 ·obtain⟨p,c,ns,a,m,rfl,_⟩:=h;rfl
 ·obtain⟨p,c,ns,a,m,rfl,hp,ha,hm,k⟩:=h;refine⟨_,aJ (bQ (i:=2) rD.nd rfl (AG rfl) (cB GT hr (aG (pv 0) (aG aI aF))))
   (aJ (bQ (i:=3) rD.nd rfl (Do rfl) (dM (aG aI (aG aI (aG aI (aG aI (aG (cB GT hr (aG (pv 0) (aG aI aF))) (aG (cB GT hr (aG (pv 0) (aG aI aF))) aF))))))))
   (aJ (jO (i:=5) (N:=["_law_k","_law_some_here","_law_pen_here"]) (src:=[none,some 3,some 0]) (osc:=aO vU) (oN:=["_law_pen_here","_law_many","_law_way","_law_some_here","_law_k","_law_few","_law_found"]) ⟨by rfl,by decide,by decide,by decide,rfl,by rfl⟩ rD.nd rfl
     (f8 rfl Y (aG (cA eM aI (cB GT hr (aG (pv 0) (aG aI aF)))) aF))
     fun cl s H fp dh C=>⟨bU (i:=0) (show(["_law_k","_law_some_here","_law_pen_here"]:List Str).Nodup by decide) rfl (AG rfl),eB,cE (r:=aE4 K) c9 (pv 1) (cB GT hr (aG (pv 2) (aG aI aF))) Ig⟩)
   (aJ (bQ (i:=6) rD.nd rfl (AG rfl) (dM aF))
   (aJ (kE B1 rfl (f8 rfl Y (aG (pv 1) aF)) (bU (i:=4) rD.nd rfl (AG rfl))
    (aU (gW (jX A7 Bn Bm fS (pv 6) (aG (cE c9 (dM (aG (cE c9 (pv 5) (cB GT hr (aG (pv 0) (aG (aV bH (by rfl) au AO (aG (pv 5) aF)) aF))) Ig) (aG (cB GT hr (aG (pv 0) (aG aI aF))) aF)))
      (cV xB (by rfl) ap (by kernel_rfl) (aG (eV dU (pv 2) aI (cF _)) aF)) Ig) aF)))))
   (aU (bG (pv 6))))))),?_⟩
  refine⟨_,rfl,p,c,ns,a,_,rfl,hp,by omega,by decide,by decide,fun wy a1 H1 w0 w1 cm cw aP bd=>?_⟩;refine⟨_,rfl,p,c,ns,a1,_,rfl,aP,by omega,by decide,by decide,fun x1 a2 H2 cq bW b7 cz bf bo=>?_⟩;refine⟨_,rfl,p,c,ns,a2,_,rfl,bf,by omega,by decide,by decide,fun x2 a3 H3 cf cr b5 b9 br bC=>?_⟩;refine⟨zZ6,fun L hL=>?_⟩;have sL:=aQ (o:=.lst [V.int 0,.int 1,.int 9,.int 9999,.int x1,.int x2]) hL;have aL:∀ v∈[V.int 0,.int 1,.int 9,.int 9999,.int x1,.int x2],∃ d:Int,v=.int d∧0≤d∧d≤9999:=by
   intro v O;simp only[Al,Ao,or_false]at O;rcases O with rfl | rfl | rfl | rfl | rfl | rfl
   ·exact⟨_,rfl,by omega,by omega⟩
   ·exact⟨_,rfl,by omega,by omega⟩
   ·exact⟨_,rfl,by omega,by omega⟩
   ·exact⟨_,rfl,by omega,by omega⟩
   ·exact⟨_,rfl,by omega,by omega⟩
   ·exact⟨_,rfl,by omega,by omega⟩
  have ae:=br.same sL;have k4:aY p H _:=((bd.trans bo).trans bC).same sL;have aA:upd H3 L (.lst [V.int 0,.int 1,.int 9,.int 9999,.int x1,.int x2]) L=_:=aH;generalize upd H3 L (.lst [V.int 0,.int 1,.int 9,.int 9999,.int x1,.int x2])=H4 at ae k4 aA ⊢;refine⟨_,rfl,p,c,ns,a3,_,rfl,ae,by omega,by decide,by decide,fun r1 a5 H5 cj b2 cs ca bg av=>?_⟩;refine⟨_,_,rfl,rfl,_,rfl,by omega,by omega,?_⟩;have bA:=b8 aA ae av;refine jP (fun i ys σ' H'=>Ex3 fun(Z:Int) (ds:List Int) (o:Option V)=>Aw6 (σ'=[o,some (.ref L),some (.ref p)]) (cJ H' p c ns Z) (aY p H H') (a5≤Z) (Z≤a5 + i) (Aw3 (ys=ds.map V.int) (ds.length=i) ((∀ d∈ds,0≤d∧d≤9999)∧H' L=some (.lst [V.int 0,.int 1,.int 9,.int 9999,.int x1,.int x2]))))
   ⟨a5,[],none,rfl,bg,k4.trans av,by omega,by omega,rfl,rfl,(fun d hd=>by simp at hd),bA⟩ (aS (by omega)) (fun i ys σ H p=>by obtain⟨_,ds,_,_,_,_,_,_,rfl,e,_⟩:=p;rw[Ae,e];exact Ap _) ?_ ?_
  ·rintro i ys σ' H6 hi ⟨a6,ds,o,rfl,W,k6,bp,aE,rfl,az,aa,ax⟩;dsimp only[dG];refine dC ?_;refine⟨_,rfl,_,rfl,p,c,ns,a6,_,rfl,W,by omega,by decide,by decide,fun r2 a7 H7 bh cy bR b3 B aq=>?_⟩;have ar:=b8 ax W aq;obtain⟨v,O,hat⟩:=g9 (xs:=[V.int 0,.int 1,.int 9,.int 9999,.int x1,.int x2]) (i:=r2) bh (by show r2 < 6;omega);obtain⟨d,rfl,hd0,hd1⟩:=aL v O;refine⟨L,_,r2,_,rfl,rfl,bE ar,hat,a7,ds ++ [d],_,rfl,B,k6.trans aq,by omega,by omega,by rw[AU];rfl,by rw[Av,az];rfl,fun z hz=>?_,ar⟩;rcases Bf.mp hz with y | y
   ·exact aa z y
   ·rw[Bx.mp y];exact⟨hd0,hd1⟩
  ·rintro ys σ' H6 ⟨a6,ds,o,rfl,W,k6,bp,aE,rfl,az,aa,ax⟩ D hD;have sD:=aQ (o:=.lst (ds.map V.int)) hD;have B:=W.same sD;have k7:=k6.same sD;have af:upd H6 D (.lst (ds.map V.int)) D=_:=aH;generalize upd H6 D (.lst (ds.map V.int))=H7 at B k7 af ⊢;refine⟨Bu _,fun R hR=>?_⟩;have sR:=aQ (o:=.lst []) hR;have ay:R≠p:=by
    obtain⟨z,_,e⟩:=B.ob;exact(bB e hR).symm
   have bw:R≠c:=(bB B.ce hR).symm;have bn:D≠R:=bB af hR;have aT:H R=none:=by
    cases e:H R with
    | none=>rfl
    | some x=>exact absurd (k7 R x e ay) (by rw[hR];simp)
   refine⟨_,rfl,m,rfl,by omega,by omega,jF (n:=(m:Int).toNat) (fun i σ H'=>Ex3 fun(o4:Option V) (Z:Int) (es:List Int)=>Aw6 (σ=[some (.ref p),some (.int m),some (.int wy),some (.ref L),o4,some (.ref D),some (.ref R)]) (cJ H' p c ns Z) (a6≤Z) (Z≤a6 + 2 * i) (aY p H H') (Aw3 (H' D=some (.lst (ds.map V.int))) (H' R=some (.lst (es.map V.int))) (es.length=i∧∀ d∈es,0≤d∧d≤9999)))
    ⟨_,a6,[],rfl,B.same sR,by omega,by simp,k7.same sR,sR _ _ af,aH,rfl,fun d hd=>by simp at hd⟩ ?_ ?_⟩
   ·rintro i σ H8 hi ⟨o4,a8,es,rfl,J,be,aM,k8,ah,U,aB,ad⟩;dsimp only[dG];refine⟨_,rfl,.inl ⟨rfl,_,bE U⟩,_,rfl,_,rfl,_,rfl,D,_,rfl,.inl (bE ah),p,c,ns,a8,_,rfl,J,by omega,by rw[Ae];omega,by rw[Ae];omega,fun r3 a9 H9 bz bj cu b4 ac aj=>?_⟩;have aw:=b8 ah J aj;have aK:=b8 U J aj;obtain⟨v,O,hat⟩:=g9 (xs:=ds.map V.int) (i:=r3) bz bj;obtain⟨d,hd,rfl⟩:=Bd.mp O;refine⟨D,_,r3,_,rfl,rfl,bE aw,hat,_,rfl,p,c,ns,a9,_,rfl,ac,by omega,by decide,by decide,fun r4 b1 G1 cv cn ck cb bt ag=>?_⟩;refine⟨zZ2,fun q hq=>?_⟩;have sq:=aQ (o:=.lst [V.int d,.int r4]) hq;refine⟨_,rfl,rfl,.inr ⟨_,rfl,?_⟩⟩;obtain⟨z,hz,z0,z1⟩:∃ z:Int,(if decide (V.int wy=V.int 0)=true then(1:Int) else 0)=z∧0≤z∧z≤1:=by
     refine⟨_,rfl,?_⟩;split <;> omega
    rw[hz];obtain⟨v,O,hat⟩:=g9 (xs:=[V.int d,.int r4]) (i:=z) z0 (by show z < 2;omega);obtain⟨dd,rfl,hdd⟩:∃ dd:Int,v=.int dd∧0≤dd∧dd≤9999:=by
     simp only[Al,Ao,or_false]at O;rcases O with rfl | rfl
     ·exact⟨_,rfl,aa d hd⟩
     ·exact⟨_,rfl,by omega,by omega⟩
    refine⟨q,_,z,_,rfl,rfl,bE aH,hat,?_⟩;have bq:=sq _ _ (b8 aK ac ag);have bc:=sq _ _ (b8 aw ac ag);have aN:=bt.same sq;have kq:=((k8.trans aj).trans ag).same sq;refine⟨R,_,_,rfl,rfl,bq,by rw[Ae];exact lC (by omega),_,b1,es ++ [dd],rfl,?_,by omega,by omega,?_,by rw[aW bn];exact bc,by rw[aH,AU];rfl,by rw[Av,aB];rfl,fun z hz=>?_⟩
    ·obtain⟨⟨z,hz,e⟩,ce,ge,sm⟩:=aN;exact⟨⟨z,hz,by rw[aW ay.symm];exact e⟩,by rw[aW bw.symm];exact ce,ge,sm⟩
    ·intro b o e ne;rw[aW (bB e aT)];exact kq b o e ne
    ·rcases Bf.mp hz with y | y
     ·exact ad z y
     ·rw[Bx.mp y];exact hdd
   ·rintro σ H8 ⟨o4,a8,es,rfl,J,be,aM,k8,ah,U,aB,ad⟩;exact⟨_,rfl,k R es a8 H8 U (by omega) ad (by omega) (by omega) J k8⟩
theorem aCz{B J:List Str}(W:J.Perm (sN B))(Y:sortedS J=true):decide (B=J)=fH B:=by
 unfold fH;rw[decide_eq_decide];have F:=mJ J Y;constructor
 ·rintro rfl;have hn:B.Nodup:=W.nodup_iff.mpr (o6 B);have h2:=F.and hn;refine h2.imp fun{a b} h=>?_;rcases EU (a.cps.toList < b.cps.toList)with z | z
  ·exact z
  ·exact absurd (sZ (Ez (C7.mp h.1) (C7.mp z))) h.2
 ·intro h;have hn:B.Nodup:=h.imp fun{a b} z e=>by
   subst e;exact CI _ z
  have h2:B.Pairwise fun a b=>¬ b.cps.toList < a.cps.toList:=h.imp fun{a b} z y=>CI _ (E7 z y);have U:(sN B).Perm B:=by
   refine jB B (sN B) hn (fun x O=>(aA3 B x).mpr O) ?_;have:=jB (sN B) B (o6 B) (fun x O=>(aA3 B x).mp O);have h1:=(aD3 B)
   rw[Ic hn]at h1;have Z:=Ie h1;unfold sN;omega
  exact nJ (U.symm.trans W.symm) h2 F
theorem lZ:∀(B z:List Str),qN (B.map V.str) (z.map V.str)=decide (B=z)
 | [],[]=>rfl
 | [],_ :: _=>rfl
 | _ :: _,[]=>rfl
 | a :: r,b :: q=>by
  show(eqV (.str a) (.str b) && qN (r.map V.str) (q.map V.str))=_;rw[lZ r q];show((a == b) && decide (r=q))=_;rw[BQ];simp
theorem aGz:bY ["things"] ["things"] (aO mS):=⟨rfl,rfl,rfl,by decide,rfl,by decide,by decide⟩
theorem aEy{f:Ac}{fd:AE}(F:Fun K "is_rising" "is_rising" mS f fd)(T:Txt K mg)(z:mg "list"=none)(B:mg "sorted"=none):cH P w K mg base CX0 1 f fd ["things"] v4:=by
 refine F.ok aGz (fun vs H Q E h=>?_) (fun W A outer s H vs Q E hr h=>?_)
 ·obtain⟨a,ss,rfl,_⟩:=h;rfl
 ·obtain⟨a,ss,rfl,ha,hl,k⟩:=h;have hu:=aFe hr;have U:(A.deeper (PyProof.Rows.envOfC "is_rising" (aO mS) s.heap.objs.size f W)).units < cLine:=by omega
  refine⟨_,aU (bG (eV (aB4 U) (cV fY (by rfl) z (by kernel_rfl) (aG (pv 0) aF)) (aV (zW rfl) (by rfl) B (by kernel_rfl) (aG (cV (aD8 rfl) (by rfl) T.set (by kernel_rfl) (aG (pv 0) aF)) aF)) (cF _))),_,rfl,a,ss.map V.str,rfl,ha.imp bE aZ,fun L hL=>?_⟩;have O:=aQ (o:=.lst (ss.map V.str)) hL;refine⟨_,rfl,a,ss,rfl,ha.imp (O _ _) (O _ _),by omega,fun S hS=>?_⟩;have Y:=aQ (o:=aFz P w S ss) hS;refine⟨S,ss,rfl,aH,by omega,fun l Z J hp hs=>?_⟩;have sl:=aQ (o:=.lst (Z.map V.str)) J;refine⟨L,l,_,_,rfl,rfl,bE (sl _ _ (Y _ _ aH)),bE aH,eJ ss,eJ Z,?_⟩;rw[lZ,aCz hp hs];exact k _ ((O.trans Y).trans sl)
def pD(x:P3):Ak:=.tuple [.str x.1,.str x.2.1,.int x.2.2]
inductive eZ:Ak→Ak→Prop
 | odd {d:Ak} (h:iW d=false):eZ d d
 | short {ds:List Ak} (h:ds.length≠5):eZ (.tuple ds) (.tuple ds)
 | other {kind:Str} {n dy f l:Ak} (h1:kind≠"part") (h2:kind≠"join"):eZ (.tuple [.str kind,n,dy,f,l]) (.tuple [.str kind,n,dy,f,l])
 | part {n dy f:Ak} {T R:List P3} (hp:T.Perm R) (hr:xY R) (h2:2≤T.length) (h6:T.length≤6) (ha:(T.map pD).all gJ=true):eZ (.tuple [.str "part",n,dy,f,.tuple (T.map pD)]) (.tuple [.str "part",n,dy,f,.tuple (R.map pD)])
 | join {n dy l:Ak} {T R:List Str} (hp:T.Perm R) (hr:fH R=true) (h6:T.length≤6) (ha:(T.map AR).all cU=true):eZ (.tuple [.str "join",n,dy,.tuple (T.map AR),l]) (.tuple [.str "join",n,dy,.tuple (R.map AR),l])
inductive aDr(vs:List V)(H:Hp)(Q:VK)(u3_:XK):Prop
 | mk (m:Bool) (x:V) (d d':Ak) (q0:vs=[x]) (q1:RdV m H x d) (q2:eZ d d') (q3:∀ y H',bJ H H'→RdV m H' y d'→Q y H'):aDr vs H Q u3_
def aIA:Sp:=fun vs H Q u3_=>aDr vs H Q u3_
theorem aEz{m:Bool}{H:Hp}{v:V}{x:P3}(h:RdV m H v (pD x)):xX H v x:=by
 unfold pD at h;cases h with
 | @tup a xs _ e J r=>
  cases r with
  | cons B r=>
   cases r with
   | cons z r=>
    cases r with
    | cons F r=>
     cases r;cases B;cases z;cases F;exact⟨a,rfl,e⟩
theorem aCA{m:Bool}{H:Hp}{vs:List V}{T:List P3}(r:cG m H vs (T.map pD)):∀ i,i < vs.length→xX H (vs.getD i .non) (T.getD i ("","",0)):=fun i hi=>by
 have z:=r.len;rw[Ae]at z;obtain⟨d,hd,rd⟩:=r.at (Ag hi);rw[AK,Ag (by omega)]at hd;cases hd;have:=aEz rd;rw[Aw,Aw,Ag hi,Ag (by omega)];exact this
theorem yN{m:Bool}{H:Hp}{vs:List V}{ds:List Ak}(r:cG m H vs ds):∀(q:List Nat),(∀ i∈q,i < vs.length)→cG m H (q.map fun i=>vs.getD i .non) (q.map fun i=>ds.getD i .none)
 | [],_=>.nil
 | i :: q,h=>by
  have hi:=h i (by simp);obtain⟨d,hd,rd⟩:=r.at (Ag hi);refine .cons ?_ (yN r q fun j z=>h j (by simp[z]));show RdV m H (vs.getD i .non) (ds.getD i .none);rw[Aw,Aw,Ag hi,hd];exact rd
theorem yO{m:Bool}{H:Hp}:∀{vs:List V}{T:List Str},cG m H vs (T.map AR)→vs=T.map V.str∧∀ z∈T,z.length≤1000
 | _,[],.nil=>⟨rfl,fun z hz=>by simp at hz⟩
 | _,t :: T,.cons a r=>by
  obtain⟨e,h⟩:=yO (T:=T) r;cases a with
  | str _ hz=>
   refine⟨by rw[e];rfl,fun z B=>?_⟩;rcases Al.mp B with rfl | y
   ·exact hz
   ·exact h z y
theorem rE{m:Bool}{H:Hp}:∀{T:List Str},(∀ z∈T,z.length≤1000)→cG m H (T.map V.str) (T.map AR)
 | [],_=>.nil
 | t :: T,h=>.cons (.str t (h t (by simp))) (rE fun z hz=>h z (by simp[hz]))
theorem wY{R:List Str}(h:fH R=true):R.Pairwise fun a b=>¬ b.cps.toList < a.cps.toList:=(Ie h).imp fun{a b} z y=>CI _ (E7 z y)
theorem yP:bY ["thing","kind","name","day","first","last"] ["thing"] (aO lW):=⟨rfl,rfl,rfl,by decide,rfl,by decide,by decide⟩
theorem aJO{f:Ac}{fd:AE}(F:Fun K "in_order" "in_order" lW f fd)(T:Txt K mg)(U:mg "sorted"=none)
  (GP:Cl P w K mg base 4 "all_parts" ["thing"] aCp)
  (GN:Cl P w K mg base 2 "all_names" ["thing"] vY):
  cH P w K mg base CX0 5 f fd ["thing"] aIA:=by
 refine F.ok yP (fun vs H Q E h=>?_) (fun aT A outer s H vs Q E hr h=>?_)
 ·obtain⟨m,x,d,d',rfl,_⟩:=h;rfl
 ·obtain⟨m,x,d,d',rfl,hx,ho,k⟩:=h;have aC:cY 2 _:=hr.mono (by decide);refine⟨_,aJ (cX (PW.pt (jU (fQ (dJ (aV dQ (by rfl) T.isi (by kernel_rfl) (aG (pv 0) (aG (dW (v:=.ty "tuple") (by rfl) T.tuple (by kernel_rfl) rfl) aF)))))
    (iG (bX rK (aV bH (by rfl) T.len AO (aG (pv 0) aF)) aI (cF _))))) (aU (bG (pv 0))) bM)
   (aJ (kB (pv 0) (m8 rfl (dB (bU (i:=1) yP.nd rfl (AG rfl)) (dB (bU (i:=2) yP.nd rfl (AG rfl)) (dB (bU (i:=3) yP.nd rfl (AG rfl)) (dB (bU (i:=4) yP.nd rfl (AG rfl)) (dB (bU (i:=5) yP.nd rfl (AG rfl)) jV)))))))
   (aJ (cX (PW.pt (l0 (bX dU (pv 1) aX (cF _)) (i7 (dJ (cB GP hr (aG (pv 5) aF)))))) (aU (bG (cQ (aG (pv 1) (aG (pv 2) (aG (pv 3) (aG (pv 4) (aG (cV cW (by rfl) T.tuple (by kernel_rfl) (aG (aV z8 (by rfl) U (by kernel_rfl) (aG (pv 5) aF)) aF)) aF)))))))) bM)
   (aJ (cX (PW.pt (l0 (bX dU (pv 1) aX (cF _)) (i7 (dJ (cB GN aC (aG (pv 4) aF)))))) (aU (bG (cQ (aG (pv 1) (aG (pv 2) (aG (pv 3) (aG (cV cW (by rfl) T.tuple (by kernel_rfl) (aG (aV wW (by rfl) U (by kernel_rfl) (aG (pv 4) aF)) aF)) (aG (pv 5) aF)))))))) bM)
   (aU (bG (pv 0)))))),?_⟩
  refine⟨_,rfl,_,"tuple",_,_,rfl,lY hx,j7 d,_,rfl,?_⟩;cases ho with
  | @odd _ hn=>
   rw[hn];exact dC ⟨_,rfl,k _ H (bJ.refl H) hx⟩
  | @short ds hn=>
   cases hx with
   | @tup a xs _ e hl r=>
    have aK:=r.len;refine cO ?_;refine⟨_,rfl,a,xs,rfl,.inr (aZ e),rfl,_,rfl,d9 (fun g=>?_) (fun g=>?_)⟩
    ·exact⟨_,rfl,k _ H (bJ.refl H) (.tup e hl r)⟩
    ·exfalso;apply g;rw[decide_eq_false (show¬ V.int (xs.length:Int)=V.int 5 from fun z=>by injection z with z;omega)];rfl
  | @other kind n dy f l h1 h2=>
   cases hx with
   | @tup a xs _ e hl r=>
   cases r with
   | @cons x1 _ _ _ r1 r=>
   cases r with
   | @cons x2 _ _ _ r2 r=>
   cases r with
   | @cons x3 _ _ _ r3 r=>
   cases r with
   | @cons x4 _ _ _ r4 r=>
   cases r with
   | @cons x5 _ _ _ r5 r=>
   cases r;cases r1 with
   | str _ B=>
   refine cO ?_;refine⟨_,rfl,a,_,rfl,.inr (aZ e),rfl,_,rfl,d9 (fun g=>absurd g (by simp)) (fun g=>?_)⟩;refine⟨_,rfl,a,_,rfl,aZ e,rfl,_,_,rfl,_,_,rfl,_,_,rfl,_,_,rfl,_,_,rfl,rfl,_,rfl,rfl,_,rfl,?_⟩;rw[decide_eq_false (show¬ V.str kind=V.str "part" from fun z=>by injection z with z;exact h1 z)];refine cO ?_;refine⟨_,rfl,rfl,_,rfl,?_⟩;rw[decide_eq_false (show¬ V.str kind=V.str "join" from fun z=>by injection z with z;exact h2 z)];refine cO ?_;exact⟨_,rfl,k _ H (bJ.refl H) (.tup e hl (.cons (.str kind B) (.cons r2 (.cons r3 (.cons r4 (.cons r5 .nil))))))⟩
  | @part n dy f T R hp aa h2 h6 ha=>
   cases hx with
   | @tup a xs _ e hl r=>
   cases r with
   | @cons x1 _ _ _ r1 r=>
   cases r with
   | @cons x2 _ _ _ r2 r=>
   cases r with
   | @cons x3 _ _ _ r3 r=>
   cases r with
   | @cons x4 _ _ _ r4 r=>
   cases r with
   | @cons x5 _ _ _ r5 r=>
   cases r;cases r1 with
   | str _ B=>
   refine cO ?_;refine⟨_,rfl,a,_,rfl,.inr (aZ e),rfl,_,rfl,d9 (fun g=>absurd g (by simp)) (fun g=>?_)⟩;refine⟨_,rfl,a,_,rfl,aZ e,rfl,_,_,rfl,_,_,rfl,_,_,rfl,_,_,rfl,_,_,rfl,rfl,_,rfl,rfl,_,rfl,?_⟩;rw[Ic (show V.str "part"=V.str "part" from rfl)];refine dC ?_;refine⟨_,rfl,m,x5,_,rfl,r5,fun H1 s1=>⟨_,rfl,?_⟩⟩;refine d9 (fun g=>?_) (fun g=>absurd ha g);cases r5 with
   | @tup a5 O _ e5 a0 Z=>
   have W:=Z.len;rw[Ae]at W;refine⟨_,rfl,_,rfl,_,rfl,_,rfl,_,rfl,a5,O,T,rfl,s1 _ _ e5,W,by omega,by omega,aCA (Z.same s1),fun L hL=>?_⟩;have sL:=aQ (o:=.lst ((iJ T).map fun i=>O.getD i .non)) hL;have ac:=lI T (by omega);have be:(iJ T).length=T.length:=by rw[ac.length_eq,B7]
   refine⟨L,_,rfl,.inl ⟨bE aH,fun t ht=>?_⟩⟩;have sT:=aQ (o:=.tup ((iJ T).map fun i=>O.getD i .non)) ht;have rR:cG m H ((iJ T).map fun i=>O.getD i .non) (R.map pD):=by
    have rp:=yN Z (iJ T) (fun i hi=>by
     have:=ac.mem_iff.mp hi;rw[BC]at this;omega)
    have e2:(iJ T).map (fun i=>(T.map pD).getD i .none)=R.map pD:=by
     rw[← aA5 hp aa h2 h6 ("","",0),CA];refine D2 fun i hi=>?_;have ai:=ac.mem_iff.mp hi;rw[BC]at ai;simp[ai]
    rw[e2]at rp;exact rp
   refine⟨zZ5,fun t2 Y=>?_⟩;have s2:=aQ (o:=.tup [V.str "part",x2,x3,x4,.ref t]) Y;have J:=((s1.trans sL).trans sT).trans s2;exact k _ _ J (.tup aH (by show 5≤1000;decide) (.cons (.str _ B) (.cons (r2.same J) (.cons (r3.same J) (.cons (r4.same J) (.cons (.tup (s2 _ _ aH) (by rw[Ae];omega) (rR.same J)) .nil))))))
  | @join n dy l T R hp aa h6 ha=>
   cases hx with
   | @tup a xs _ e hl r=>
   cases r with
   | @cons x1 _ _ _ r1 r=>
   cases r with
   | @cons x2 _ _ _ r2 r=>
   cases r with
   | @cons x3 _ _ _ r3 r=>
   cases r with
   | @cons x4 _ _ _ r4 r=>
   cases r with
   | @cons x5 _ _ _ r5 r=>
   cases r;cases r1 with
   | str _ B=>
   refine cO ?_;refine⟨_,rfl,a,_,rfl,.inr (aZ e),rfl,_,rfl,d9 (fun g=>absurd g (by simp)) (fun g=>?_)⟩;refine⟨_,rfl,a,_,rfl,aZ e,rfl,_,_,rfl,_,_,rfl,_,_,rfl,_,_,rfl,_,_,rfl,rfl,_,rfl,rfl,_,rfl,?_⟩;rw[decide_eq_false (show¬ V.str "join"=V.str "part" from by decide)];refine cO ?_;refine⟨_,rfl,rfl,_,rfl,?_⟩;rw[Ic (show V.str "join"=V.str "join" from rfl)];refine dC ?_;refine⟨_,rfl,m,x4,_,rfl,r4,fun H1 s1=>⟨_,rfl,?_⟩⟩;refine d9 (fun g=>?_) (fun g=>absurd ha g);cases r4 with
   | @tup a4 bc _ e4 bi aw=>
   obtain⟨ex4,hz4⟩:=yO aw;subst ex4;refine⟨_,rfl,_,rfl,_,rfl,_,rfl,a4,T,rfl,s1 _ _ e4,by omega,fun L ms hL ax az=>?_⟩;have sL:=aQ (o:=.lst (ms.map V.str)) hL;have aB:ms=R:=nJ (ax.trans hp) (mJ ms az) (wY aa);subst aB;refine⟨L,_,rfl,.inl ⟨bE aH,fun t ht=>?_⟩⟩;have sT:=aQ (o:=.tup (ms.map V.str)) ht;have rR:cG m H (ms.map V.str) (ms.map AR):=rE fun z hz=>hz4 z (hp.mem_iff.mpr hz);refine⟨_,rfl,zZ5,fun t2 Y=>?_⟩;have s2:=aQ (o:=.tup [V.str "join",x2,x3,.ref t,x5]) Y;have J:=((s1.trans sL).trans sT).trans s2;have bg:=hp.length_eq;exact k _ _ J (.tup aH (by show 5≤1000;decide) (.cons (.str _ B) (.cons (r2.same J) (.cons (r3.same J) (.cons (.tup (s2 _ _ aH) (by rw[Ae];omega) (rR.same J)) (.cons (r5.same J) .nil))))))
structure S3(H:Hp)(lf lp lh:Ac)(fs ps hs:List Str):Prop where
 f:H lf=some (.lst (fs.map V.str))
 p:H lp=some (.lst (ps.map V.str))
 h:H lh=some (.lst (hs.map V.str))
 f1:1≤fs.length
 f2:fs.length≤44
 p1:ps.length=10
 h1:hs.length=5
 nf:Nms fs
 np:Nms ps
 nh:Nms hs
theorem S3.but{H H':Hp}{B F O:Ac}{fs ps J:List Str}{p c:Ac}{ns:List Int}{t:Int}(x:S3 H B F O fs ps J)(z:cJ H p c ns t)(k:aY p H H'):S3 H' B F O fs ps J:=⟨b8 x.f z k,b8 x.p z k,b8 x.h z k,x.f1,x.f2,x.p1,x.h1,x.nf,x.np,x.nh⟩
theorem S3.same{H H':Hp}{z B J:Ac}{fs ps F:List Str}(x:S3 H z B J fs ps F)(k:bJ H H'):S3 H' z B J fs ps F:=⟨k _ _ x.f,k _ _ x.p,k _ _ x.h,x.f1,x.f2,x.p1,x.h1,x.nf,x.np,x.nh⟩
inductive f7:Str→List Ak→Prop
 | part {land:Str} {R:List P3} (hl:bV land=true) (hr:xY R) (h2:2≤R.length) (h6:R.length≤6) (ha:(R.map pD).all gJ=true):f7 "part" [.str land,.tuple (R.map pD)]
 | join {land:Str} {R:List Str} (hl:bV land=true) (hr:fH R=true) (h2:2≤R.length) (h6:R.length≤6) (ha:(R.map AR).all cU=true):f7 "join" [.tuple (R.map AR),.str land]
 | forfeit {land house:Str} (hl:bV land=true) (hh:bV house=true):f7 "forfeit" [.str land,.str house]
 | measure {field:Str} {n:Int} (hf:bV field=true) (h0:0≤n) (h1:n≤10000000):f7 "measure" [.str field,.int n]
 | mend {house other:Str} (hh:bV house=true) (ho:bV other=true) (hne:house≠other):f7 "mend" [.str house,.str other]
 | alone {house:Str} (hh:bV house=true):f7 "alone" [.str house]
 | breach {field:Str} {n1 n2 n3:Int} (hf:bV field=true) (h10:0≤n1) (h11:n1≤9999999) (h20:0≤n2) (h21:n2≤1000000000) (h30:0≤n3) (h31:n3≤1000000):f7 "breach" [.str field,.int n1,.int n2,.int n3]
 | view {field house:Str} {n1:Int} (hf:bV field=true) (h10:0≤n1) (h11:n1≤9999999) (hh:bV house=true):f7 "view" [.str field,.int n1,.str house]
def gE(word name:Str)(day:Int)(ds:List Ak):Ak:=.tuple (.str word :: .str name :: .int day :: ds)
theorem aGA{word name:Str}{day:Int}{ds:List Ak}(h:f7 word ds)(hn:bV name=true)(h0:0≤day)(h1:day≤9999):rowD (gE word name day ds)=true:=by
 have go:decide (word∈eG)=true→dI word ds=true→rowD (gE word name day ds)=true:=fun a b=>by
  show(decide (word∈eG) && (bV name && (decide (0≤day∧day≤9999) && dI word ds)))=true;rw[a,hn,b,Ic (show 0≤day∧day≤9999 from⟨h0,h1⟩)];rfl
 cases h with
 | @part F R hl hr h2 h6 ha=>
  refine go (by decide) ?_;show(bV F && ((R.map pD).all gJ && decide (2≤(R.map pD).length∧(R.map pD).length≤6) && fH ((R.map pD).map fU)))=true;have e:(R.map pD).map fU=R.map (·.1):=by rw[CA];rfl
  rw[hl,ha,e,Ae,Ic (show 2≤R.length∧R.length≤6 from⟨h2,h6⟩)];exact Ic (Cy.mpr hr)
 | @join F R hl hr h2 h6 ha=>
  refine go (by decide) ?_;rw[show dI "join" [.tuple (R.map AR),.str F]=v9 [.tuple (R.map AR),.str F] from by unfold dI;rw[Ia (by decide),Ib rfl]];show(((R.map AR).all cU && decide (2≤(R.map AR).length∧(R.map AR).length≤6) && fH ((R.map AR).map aBq)) && bV F)=true;have e:(R.map AR).map aBq=R:=by rw[CA];exact List.map_id R
  rw[hl,ha,e,Ae,Ic (show 2≤R.length∧R.length≤6 from⟨h2,h6⟩),hr];rfl
 | @forfeit F z hl U=>
  refine go (by decide) ?_;rw[show dI "forfeit" [.str F,.str z]=iX [.str F,.str z] from by unfold dI;rw[Ia (by decide),Ia (by decide),Ib rfl]];show(true && (bV F && (bV z && true)))=true;rw[hl,U];rfl
 | @measure B n hf h0 h1=>
  refine go (by decide) ?_;rw[show dI "measure" [.str B,.int n]=hX [.str B,.int n] from by unfold dI;rw[Ia (by decide),Ia (by decide),Ia (by decide),Ib rfl]];show(bV B && decide (0≤n∧n≤10000000))=true;rw[hf,Ic (show 0≤n∧n≤10000000 from⟨h0,h1⟩)];rfl
 | @mend z other U ho ah=>
  refine go (by decide) ?_;rw[show dI "mend" [.str z,.str other]=qA [.str z,.str other] from by unfold dI;rw[Ia (by decide),Ia (by decide),Ia (by decide),Ia (by decide),Ib rfl]];show(bV z && bV other && !decide (z=other))=true;rw[U,ho,decide_eq_false ah];rfl
 | @alone z U=>
  refine go (by decide) ?_;rw[show dI "alone" [.str z]=pF [.str z] from by unfold dI;rw[Ia (by decide),Ia (by decide),Ia (by decide),Ia (by decide),Ia (by decide),Ib rfl]];exact U
 | @breach B J Z Y hf W O ae af ai aj=>
  refine go (by decide) ?_;rw[show dI "breach" [.str B,.int J,.int Z,.int Y]=hZ [.str B,.int J,.int Z,.int Y] from by unfold dI;rw[Ia (by decide),Ia (by decide),Ia (by decide),Ia (by decide),Ia (by decide),Ia (by decide),Ib rfl]];show(bV B && decide (0≤J∧J≤9999999) && decide (0≤Z∧Z≤1000000000) && decide (0≤Y∧Y≤1000000))=true;rw[hf,Ic (show 0≤J∧J≤9999999 from⟨W,O⟩),Ic (show 0≤Z∧Z≤1000000000 from⟨ae,af⟩),Ic (show 0≤Y∧Y≤1000000 from⟨ai,aj⟩)];rfl
 | @view B z J hf W O U=>
  refine go (by decide) ?_;rw[show dI "view" [.str B,.int J,.str z]=p8 [.str B,.int J,.str z] from by unfold dI;rw[Ia (by decide),Ia (by decide),Ia (by decide),Ia (by decide),Ia (by decide),Ia (by decide),Ia (by decide)]];show(bV B && decide (0≤J∧J≤9999999) && bV z)=true;rw[hf,Ic (show 0≤J∧J≤9999999 from⟨W,O⟩),U];rfl
theorem j8{m:Bool}{H:Hp}{z:Str}(h:bV z=true):RdV m H (.str z) (.str z):=.str z (by have:=(f9 h).2;omega)
theorem aGB{w:Str}(h:w∈eG):w.length≤1000:=by
 have:∀ w∈eG,w.length≤1000:=by decide
 exact this w h
theorem aCB{B F vs W:List Str}(Z:PyProof.Rows.sortedS B=true)(U:B.Perm F)(Y:(F ++ vs).Perm W)(hn:Nms W):fH B=true∧∀ z∈B,bV z=true:=by
 have O:F.Nodup:=(C2.mp (Y.nodup_iff.mpr hn.nd)).1;have J:B.Nodup:=U.nodup_iff.mpr O;refine⟨Ic (((mJ B Z).and J).imp fun{a b} h=>?_),fun z hz=>hn.ok z (Y.mem_iff.mp (C8 _ (U.mem_iff.mp hz)))⟩;rcases EU (a.cps.toList < b.cps.toList)with z | z
 ·exact z
 ·exact absurd (sZ (Ez (C7.mp h.1) (C7.mp z))) h.2
def FIn(word:Str)(ds:List Ak)(fs:List Str):Prop:=inV (.str word) [V.str "measure",.str "breach",.str "view"]=true→∀ z cI,ds=.str z :: cI→z∈fs
inductive yQ(vs:List V)(H:Hp)(Q:VK)(u3_:XK):Prop
 | mk (p c:Ac) (ns:List Int) (a:Int) (word name:Str) (day:Int) (tS lf lp lh:Ac) (fs ps hs:List Str) (q0:vs=[.ref p,.str word,.str name,.int day,.ref tS]) (q1:cJ H p c ns a) (q2:a≤700000) (q3:H tS=some (.tup [.ref lf,.ref lp,.ref lh])) (q4:S3 H lf lp lh fs ps hs) (q5:word∈eG) (q6:bV name=true) (q7:∀(t:Ac) (ds:List Ak) (cI:List V) (a':Int) (H':Hp),H' t=some (.tup (.str word :: .str name :: .int day :: cI))→cG false H' cI ds→f7 word ds→FIn word ds fs→a≤a'→a'≤a + 80→cJ H' p c ns a'→aY p H H'→Q (.ref t) H'):yQ vs H Q u3_
def aDs:Sp:=fun vs H Q u3_=>yQ vs H Q u3_
theorem iA:bY ["_law_pen_here","_law_word","_law_name","_law_day","_law_sorts_here","_law_fields","_law_plots","_law_houses","_law_land","_law_at","_law_house","_law_field","_law_some_here","_law_parts","_law_inch"] ["_law_pen_here","_law_word","_law_name","_law_day","_law_sorts_here"] (aO pB):=⟨rfl,rfl,rfl,by decide,rfl,by decide,by decide⟩
theorem aGC{f:Ac}{fd:AE}(F:Fun K "_law_row_of" "_law_row_of" pB f fd)(W:mg "len"=none)(au:mg "tuple"=none)
  (GT:Cl P w K mg base 1 "_law_take" ["_law_pen_here","_law_many"] hV)
  (GN:Cl P w K mg base 2 "_law_number" ["_law_pen_here","_law_bottom","_law_most"] aGu)
  (GS:Cl P w K mg base 2 "_law_some" ["_law_pen_here","_law_names_here","_law_many"] aGx):
  cH P w K mg base CX0 3 f fd ["_law_pen_here","_law_word","_law_name","_law_day","_law_sorts_here"] aDs:=by
 refine F.ok iA (fun vs H Q E h=>?_) (fun dy A outer s H vs Q E hr h=>?_)
 ·obtain⟨p,c,ns,a,word,name,day,tS,lf,lp,lh,fs,ps,hs,rfl,_⟩:=h;rfl
 ·obtain⟨p,c,ns,a,word,name,day,tS,lf,lp,lh,fs,ps,hs,rfl,hp,ha,htS,h3,hwd,hnm,k⟩:=h;have af:cY 1 _:=hr.mono (by decide);refine⟨_,aJ (kB (pv 4) (m8 rfl (dB (bU (i:=5) iA.nd rfl (AG rfl)) (dB (bU (i:=6) iA.nd rfl (AG rfl)) (dB (bU (i:=7) iA.nd rfl (Do rfl)) jV)))))
   (aJ (bQ (i:=8) iA.nd rfl (AG rfl) (cE c9 (pv 6) (cB GT af (aG (pv 0) (aG (aV bH (by rfl) W AO (aG (pv 6) aF)) aF))) Ig))
   (aJ (bQ (i:=9) iA.nd rfl (AG rfl) (cB GT af (aG (pv 0) (aG (aV bH (by rfl) W AO (aG (pv 7) aF)) aF))))
   (aJ (bQ (i:=10) iA.nd rfl (AG rfl) (cE c9 (pv 7) (pv 9) Ig))
   (aJ (bQ (i:=11) iA.nd rfl (AG rfl) (cE c9 (pv 5) (cB GT af (aG (pv 0) (aG (aV bH (by rfl) W AO (aG (pv 5) aF)) aF))) Ig))
   (aJ (cX (bX jG (pv 1) (cQ (aG aX (aG aX aF))) (by with_unfolding_all rfl))
    (aJ (bQ (i:=12) iA.nd rfl (AG rfl) (cB GS hr (aG (pv 0) (aG (pv 6) (aG (cE c9 (dM (aG aI (aG aI (aG (cA eM aI (cB GT af (aG (pv 0) (aG aI aF)))) aF)))) (cB GT af (aG (pv 0) (aG aI aF))) Ig) aF)))))
    (aJ (cX (bX dU (pv 1) aX (cF _)) (aU (bG (cQ (aG (pv 1) (aG (pv 2) (aG (pv 3) (aG (cV cW (by rfl) au (by kernel_rfl) (aG (pv 12) aF)) (aG (pv 8) aF)))))))) bM)
    (aJ (jO (i:=13) (N:=["_law_one","_law_houses","_law_pen_here"]) (src:=[none,some 7,some 0]) (osc:=aO pB) (oN:=["_law_pen_here","_law_word","_law_name","_law_day","_law_sorts_here","_law_fields","_law_plots","_law_houses","_law_land","_law_at","_law_house","_law_field","_law_some_here","_law_parts","_law_inch"]) ⟨by rfl,by decide,by decide,by decide,rfl,by rfl⟩ iA.nd rfl
      (nV (pv 12))
      fun cl s H fp dh C=>⟨bU (i:=0) (show(["_law_one","_law_houses","_law_pen_here"]:List Str).Nodup by decide) rfl (AG rfl),eB,cQ (aG (pv 0) (aG (cE (r:=aE4 K) c9 (pv 1) (cB GT af (aG (pv 2) (aG (aV (r:=gZ K) bH (by rfl) W AO (aG (pv 1) aF)) aF))) Ig) (aG (cB GN hr (aG (pv 2) (aG aI (aG (cA kH aI aI) aF)))) aF)))⟩)
    (aU (bG (cQ (aG (pv 1) (aG (pv 2) (aG (pv 3) (aG (pv 8) (aG (cV cW (by rfl) au (by kernel_rfl) (aG (pv 13) aF)) aF)))))))))))
    bM)
   (aJ (cX (bX dU (pv 1) aX (cF _)) (aU (bG (cQ (aG (pv 1) (aG (pv 2) (aG (pv 3) (aG (pv 8) (aG (pv 10) aF)))))))) bM)
   (aJ (cX (bX dU (pv 1) aX (cF _)) (aU (bG (cQ (aG (pv 1) (aG (pv 2) (aG (pv 3) (aG (pv 11) (aG (cB GN hr (aG (pv 0) (aG aI (aG (cA kH aI aI) aF)))) aF)))))))) bM)
   (aJ (cX (bX dU (pv 1) aX (cF _)) (aU (bG (cQ (aG (pv 1) (aG (pv 2) (aG (pv 3) (aG (pv 10) (aG (cE c9 (pv 7) (cA gY (cA eM (cA eM (pv 9) aI) (cB GT af (aG (pv 0) (aG (cA kG (aV bH (by rfl) W AO (aG (pv 7) aF)) aI) aF)))) (aV bH (by rfl) W AO (aG (pv 7) aF))) Ig) aF)))))))) bM)
   (aJ (cX (bX dU (pv 1) aX (cF _)) (aU (bG (cQ (aG (pv 1) (aG (pv 2) (aG (pv 3) (aG (pv 10) aF))))))) bM)
   (aJ (bQ (i:=14) iA.nd rfl (AG rfl) (cB GN hr (aG (pv 0) (aG aI (aG (cA kG (cA kH aI aI) aI) aF)))))
   (aJ (cX (bX dU (pv 1) aX (cF _)) (aU (bG (cQ (aG (pv 1) (aG (pv 2) (aG (pv 3) (aG (pv 11) (aG (pv 14) (aG (pv 10) aF))))))))) bM)
   (aU (bG (cQ (aG (pv 1) (aG (pv 2) (aG (pv 3) (aG (pv 11) (aG (pv 14) (aG (cB GN hr (aG (pv 0) (aG aI (aG (cA kH aI aI) aF)))) (aG (cB GN hr (aG (pv 0) (aG aI (aG (cA kH aI aI) aF)))) aF))))))))))))))))))))),?_⟩
  have ad:∀(cI:List V) (ds:List Ak) (H':Hp) (a':Int),cG false H' cI ds→f7 word ds→FIn word ds fs→cJ H' p c ns a'→aY p H H'→a≤a'→a'≤a + 80→∀ t,H' t=none→Q (.ref t) (upd H' t (.tup (.str word :: .str name :: .int day :: cI))):=fun cI ds H' a' hR hS cg h1 h2 h4 h5 t ht=>k t ds cI a' _ aH (hR.same (aQ ht)) hS cg h4 h5 (h1.same (aQ ht)) (h2.same (aQ ht));have cp:∀ j:Int,0≤j→j≤1000000→aI0 10 j:=fun j h1 h2=>⟨h1,h2,by decide⟩
  have p6:((10:Int) ^ C1 6)=1000000:=by decide
  have p7:((10:Int) ^ C1 7)=10000000:=by decide
  have p9:((10:Int) ^ C1 9)=1000000000:=by decide
  have e9:(10:Int) ^ 9=1000000000:=by decide
  have z2:(2:Nat)≤sizeLine:=aS (by decide);have z3:(3:Nat)≤sizeLine:=aS (by decide);have z4:(4:Nat)≤sizeLine:=aS (by decide);have z5:(5:Nat)≤sizeLine:=aS (by decide);have z6:(6:Nat)≤sizeLine:=aS (by decide);have z7:(7:Nat)≤sizeLine:=aS (by decide);have bR:=h3.p1;have b5:=h3.h1;have ed:=h3.f1;have eA:=h3.f2;refine⟨_,rfl,tS,_,rfl,aZ htS,rfl,_,_,rfl,_,_,rfl,_,_,rfl,rfl,_,rfl,_,rfl,_,rfl,lp,_,rfl,.inl (bE h3.p),p,c,ns,a,_,rfl,hp,by omega,by rw[Ae];omega,by rw[Ae];omega,fun r1 a1 H1 cv b7 eo eF bb bi=>?_⟩;have aB:=h3.but hp bi;obtain⟨v,hv,aa⟩:=g9 (xs:=ps.map V.str) (i:=r1) cv b7;obtain⟨land,hland,rfl⟩:=Bd.mp hv;have O:=h3.np.ok land hland;refine⟨lp,_,r1,_,rfl,rfl,bE aB.p,aa,_,rfl,_,rfl,lh,_,rfl,.inl (bE aB.h),p,c,ns,a1,_,rfl,bb,by omega,by rw[Ae];omega,by rw[Ae];omega,fun r2 a2 H2 eb c3 d4 eL bj bp=>?_⟩;have ax:=aB.but bb bp;rw[Ae]at c3;obtain⟨j2,rfl⟩:∃ j2:Nat,r2=j2:=⟨r2.toNat,by omega⟩
  obtain⟨house,hj2⟩:∃ y,hs[j2]?=some y:=⟨_,Ag (by omega)⟩
  have B:=h3.nh.ok house (AF hj2);have aa:atI (hs.map V.str) ((j2:Nat):Int)=some (V.str house):=dD (by rw[AK,hj2];rfl);refine⟨_,rfl,_,rfl,lh,_,(j2:Int),_,rfl,rfl,bE ax.h,aa,_,rfl,_,rfl,_,rfl,lf,_,rfl,.inl (bE ax.f),p,c,ns,a2,_,rfl,bj,by omega,by rw[Ae];omega,by rw[Ae];omega,fun r3 a3 H3 cP cn dV d5 cy bI=>?_⟩;have bd:=ax.but bj bI;obtain⟨v,hv,aa⟩:=g9 (xs:=fs.map V.str) (i:=r3) cP cn;obtain⟨field,hfield,rfl⟩:=Bd.mp hv;have J:=h3.nf.ok field hfield;refine⟨lf,_,r3,_,rfl,rfl,bE bd.f,aa,?_⟩;have k3:=(bi.trans bp).trans bI;refine⟨_,rfl,z2,fun q hq=>?_⟩;have sq:=aQ (o:=.tup [V.str "part",.str "join"]) hq;have Z:=cy.same sq;have an:=bd.same sq;have k4:=k3.same sq;have bx:upd H3 q (.tup [V.str "part",.str "join"]) q=_:=aH;refine⟨q,_,rfl,.inr (aZ bx),rfl,rfl,_,rfl,?_⟩;generalize upd H3 q (.tup [V.str "part",.str "join"])=H4 at Z an k4 bx ⊢;refine d9 (fun g1=>?_) (fun g1=>?_)
  ·refine⟨_,rfl,_,rfl,_,rfl,p,c,ns,a3,_,rfl,Z,by omega,by decide,by decide,fun x1 a5 H5 eq dw ev d7 bn ca=>?_⟩;refine⟨_,_,rfl,rfl,z3,fun u hu=>?_⟩;have su:=aQ (o:=.lst [V.int 2,.int 6,.int (2 + x1)]) hu;refine⟨_,rfl,p,c,ns,a5,_,rfl,bn.same su,by omega,by decide,by decide,fun x2 a6 H6 cr et ek dm bg bC=>?_⟩;obtain⟨v,hv,aa⟩:=g9 (xs:=[V.int 2,.int 6,.int (2 + x1)]) (i:=x2) cr (by show x2 < 3;omega);obtain⟨n,rfl,hn,hn2⟩:∃ n:Nat,v=.int n∧n≤6∧2≤n:=by
    simp only[Al,Ao,or_false]at hv;rcases hv with rfl | rfl | rfl
    ·exact⟨2,rfl,by omega,by omega⟩
    ·exact⟨6,rfl,by omega,by omega⟩
    ·exact⟨(2 + x1).toNat,by congr 1;omega,by omega,by omega⟩
   have bt:aY p H4 H6:=(ca.same su).trans bC;refine⟨u,_,x2,_,rfl,rfl,bE (b8 aH (bn.same su) bC),aa,?_⟩;have bf:=an.but Z bt;refine⟨p,c,ns,a6,lp,ps,n,rfl,bg,by omega,bf.p,bR,hn,fun L ms a7 H7 hL eE cx bo dt dz ao be=>?_⟩;obtain⟨us,vv,hpu,hpw⟩:=bo;obtain⟨hris,hnms⟩:=aCB cx hpu hpw h3.np;have cT:=bf.but bg be;have k7:=(k4.trans bt).trans be;refine⟨_,rfl,rfl,_,rfl,d9 (fun g2=>?_) (fun g2=>?_)⟩
   ·refine⟨_,rfl,_,rfl,_,rfl,_,rfl,L,_,rfl,.inl ⟨bE hL,fun tt aM=>?_⟩⟩;have st:=aQ (o:=.tup (ms.map V.str)) aM;have Y:word="join":=by
     have:=Ie g2;injection this
    have aA:(ms.map AR).all cU=true:=by
     rw[DE,A3];exact fun z hz=>hnms z hz
    exact⟨_,rfl,z5,fun t ht=>ad _ [.tuple (ms.map AR),.str land] _ a7 (.cons (.tup aH (by rw[Ae];omega) (rE fun z hz=>by have:=(f9 (hnms z hz)).2;omega)) (.cons (j8 O) .nil)) (by rw[Y];exact .join O hris (by omega) (by omega) aA) (by rw[Y];exact fun z=>absurd z (by decide)) (ao.same st) (k7.same st) (by omega) (by omega) t ht⟩
   ·refine⟨_,rfl,L,rfl,⟨_,bE hL⟩,?_⟩;refine nY (K:=K) (xs:=ms.map V.str) (fun i ys σ' H'=>∃(a':Int) (o:Option V),σ'=[o,some (.ref lh),some (.ref p)]∧cJ H' p c ns a'∧aY p H7 H'∧a7≤a'∧a'≤a7 + 4 * i∧ys.length=i∧∃ R:List P3,cG false H' ys (R.map pD)∧R.map (·.1)=ms.take i∧(R.map pD).all gJ=true)
     ⟨a7,none,rfl,ao,aY.refl p H7,by omega,by omega,rfl,[],.nil,by simp,rfl⟩ (aS (by rw[Ae];omega)) (fun i ys σ H p=>by obtain⟨_,_,_,_,_,_,_,e,_⟩:=p;omega) (fun i ys σ H p=>by obtain⟨_,_,_,_,kk,_⟩:=p;exact bE (b8 hL ao kk)) ?_ ?_
    ·rintro i x ys σ' H8 hx ⟨a8,o,rfl,aj,k8,cc,ba,aE,R,rR,eR,aR⟩;have hi:i < ms.length:=by
      have:=(AH.mp hx).1;simpa using this
     have ex:x=V.str ms[i]:=by
      rw[AK,Ag hi]at hx;cases hx;rfl
     subst ex;have br:=hnms _ (BB hi);dsimp only[dG];have bF:=b8 cT.h ao k8;refine dC ?_;refine⟨_,rfl,_,rfl,_,rfl,_,rfl,lh,_,rfl,.inl (bE bF),p,c,ns,a8,_,rfl,aj,by omega,by rw[Ae];omega,by rw[Ae];omega,fun r4 a9 H9 bA aD ez dF bh aN=>?_⟩;obtain⟨v,hv,aa⟩:=g9 (xs:=hs.map V.str) (i:=r4) bA aD;obtain⟨hse,hhse,rfl⟩:=Bd.mp hv;have av:=h3.nh.ok hse hhse;refine⟨lh,_,r4,_,rfl,rfl,bE (b8 bF aj aN),aa,_,rfl,_,_,rfl,rfl,cp _ (by decide) (by decide),p,c,ns,a9,1,10000000,(by show[V.ref p,V.int 1,V.int ((10:Int) ^ C1 7)] ++ []=_;rw[p7];rfl),bh,by omega,by decide,by decide,by omega,fun n1 b1 G1 ai ah aC az ac U=>?_⟩;refine⟨z3,fun q1 ci=>?_⟩;have aK:=aQ (o:=.tup [V.str ms[i],.str hse,.int n1]) ci;refine⟨b1,_,rfl,ac.same aK,((k8.trans aN).trans U).same aK,by omega,by omega,by rw[Av,aE];rfl,R ++ [(ms[i],hse,n1)],?_,?_,?_⟩
     ·rw[AU];exact cG.app ((aAo (aAo rR aj aN) bh U).same aK) (.cons (.tup aH (by show 3≤1000;decide) (.cons (j8 br) (.cons (j8 av) (.cons (.int n1) .nil)))) .nil)
     ·rw[AU,eR,Bk,Ag hi];rfl
     ·rw[AU,List.all_append,aR];show(true && ((bV ms[i] && bV hse && decide (1≤n1∧n1≤10000000)) && true))=true;rw[br,av,Ic (show 1≤n1∧n1≤10000000 from⟨ai,ah⟩)];rfl
    ·rintro ys σ' H8 ⟨a8,o,rfl,aj,k8,cc,ba,aE,R,rR,eR,aR⟩ D hD;rw[Ae]at ba;have sD:=aQ (o:=.lst ys) hD;refine⟨_,rfl,_,rfl,_,rfl,_,rfl,_,rfl,D,_,rfl,.inl ⟨bE aH,fun tt aM=>?_⟩⟩;have st:=aQ (o:=.tup ys) aM;have Y:word="part":=by
      have h0:"part"=word∨"join"=word:=by simpa[inV,eqV]using g1
      have h1:word="part"∨word="join":=h0.imp Eq.symm Eq.symm;rcases h1 with h1 | h1
      ·exact h1
      ·exact absurd (Ic (by rw[h1])) g2
     rw[Ae,BJ]at eR;have dv:R.length=ms.length:=by rw[← eR,Ae]
     have cb:xY R:=by
      have:=Ie hris;rw[← eR]at this;exact(Cy (f:=fun x:P3=>x.1) (R:=fun a b:Str=>a.cps.toList < b.cps.toList)).mp this
     exact⟨z5,fun t ht=>ad _ [.str land,.tuple (R.map pD)] _ a8 (.cons (j8 O) (.cons (.tup aH (by rw[aE,Ae];omega) ((rR.same sD).same st)) .nil)) (by rw[Y];exact .part O cb (by omega) (by omega) aR) (by rw[Y];exact fun z=>absurd z (by decide)) ((aj.same sD).same st) (((k7.trans k8).same sD).same st) (by omega) (by omega) t ht⟩
  ·refine⟨_,rfl,rfl,_,rfl,d9 (fun g2=>?_) (fun g2=>?_)⟩
   ·have Y:word="forfeit":=by
     have:=Ie g2;injection this
    exact⟨_,rfl,_,rfl,_,rfl,_,rfl,_,rfl,z5,fun t ht=>ad _ [.str land,.str house] _ a3 (.cons (j8 O) (.cons (j8 B) .nil)) (by rw[Y];exact .forfeit O B) (by rw[Y];exact fun z=>absurd z (by decide)) Z k4 (by omega) (by omega) t ht⟩
   ·refine⟨_,rfl,rfl,_,rfl,d9 (fun g3=>?_) (fun g3=>?_)⟩
    ·refine⟨_,rfl,_,rfl,_,rfl,_,rfl,_,rfl,_,_,rfl,rfl,cp _ (by decide) (by decide),p,c,ns,a3,0,10000000,(by show[V.ref p,V.int 0,V.int ((10:Int) ^ C1 7)] ++ []=_;rw[p7];rfl),Z,by omega,by decide,by decide,by omega,fun n1 b1 G1 ai ah aC az ac U=>?_⟩;have Y:word="measure":=by
      have:=Ie g3;injection this
     exact⟨z5,fun t ht=>ad _ [.str field,.int n1] _ b1 (.cons (j8 J) (.cons (.int n1) .nil)) (by rw[Y];exact .measure J ai ah) (fun _ z cI e=>by cases e;exact hfield) ac (k4.trans U) (by omega) (by omega) t ht⟩
    ·refine⟨_,rfl,rfl,_,rfl,d9 (fun g4=>?_) (fun g4=>?_)⟩
     ·refine⟨_,rfl,_,rfl,_,rfl,_,rfl,_,rfl,_,rfl,_,_,rfl,rfl,_,rfl,_,rfl,lh,_,rfl,.inl (bE an.h),_,_,rfl,rfl,p,c,ns,a3,_,rfl,Z,by omega,by rw[Ae];omega,by rw[Ae];omega,fun r4 b1 G1 bA aD aC az ac U=>?_⟩;have hh:=b8 an.h Z U;refine⟨_,_,rfl,rfl,_,rfl,lh,_,rfl,.inl (bE hh),_,_,rfl,rfl,by rw[Ae];omega,?_⟩;have e5:((hs.map V.str).length:Int)=5:=by rw[Ae,b5];rfl
      rw[e5]at aD;obtain⟨j4,ej4⟩:∃ j4:Nat,((j2:Int) + 1 + r4) % ((hs.map V.str).length:Int)=j4:=⟨(((j2:Int) + 1 + r4) % ((hs.map V.str).length:Int)).toNat,by rw[e5];omega⟩
      have b9:j4 < 5∧j4≠j2:=by
       rw[e5]at ej4;omega
      obtain⟨other,hot⟩:∃ y,hs[j4]?=some y:=⟨_,Ag (by omega)⟩
      have ag:=h3.nh.ok other (AF hot);have cz:house≠other:=fun z=>by
       have bP:j2 < hs.length:=by omega
       have c4:j4 < hs.length:=by omega
       rw[Ag bP]at hj2;rw[Ag c4]at hot;injection hj2 with hj2;injection hot with hot;rw[← hj2,← hot]at z;exact b9.2 ((CK h3.nh.nd).mp z).symm
      have aq:atI (hs.map V.str) ((j4:Nat):Int)=some (V.str other):=dD (by rw[AK,hot];rfl);rw[← ej4]at aq;have Y:word="mend":=by
       have:=Ie g4;injection this
      exact⟨lh,_,_,_,rfl,rfl,bE hh,aq,z5,fun t ht=>ad _ [.str house,.str other] _ b1 (.cons (j8 B) (.cons (j8 ag) .nil)) (by rw[Y];exact .mend B ag cz) (by rw[Y];exact fun z=>absurd z (by decide)) ac (k4.trans U) (by omega) (by omega) t ht⟩
     ·refine⟨_,rfl,rfl,_,rfl,d9 (fun g5=>?_) (fun g5=>?_)⟩
      ·have Y:word="alone":=by
        have:=Ie g5;injection this
       exact⟨_,rfl,_,rfl,_,rfl,_,rfl,z4,fun t ht=>ad _ [.str house] _ a3 (.cons (j8 B) .nil) (by rw[Y];exact .alone B) (by rw[Y];exact fun z=>absurd z (by decide)) Z k4 (by omega) (by omega) t ht⟩
      ·refine⟨_,rfl,_,_,rfl,rfl,cp _ (by decide) (by decide),_,_,rfl,rfl,p,c,ns,a3,0,9999999,(by show[V.ref p,V.int 0,V.int ((10:Int) ^ C1 7 - 1)] ++ []=_;rw[p7];rfl),Z,by omega,by decide,by decide,by omega,fun n1 b1 G1 ai ah aC az ac U=>?_⟩;refine⟨_,rfl,rfl,_,rfl,d9 (fun g6=>?_) (fun g6=>?_)⟩
       ·have Y:word="view":=by
         have:=Ie g6;injection this
        exact⟨_,rfl,_,rfl,_,rfl,_,rfl,_,rfl,_,rfl,z6,fun t ht=>ad _ [.str field,.int n1,.str house] _ b1 (.cons (j8 J) (.cons (.int n1) (.cons (j8 B) .nil))) (by rw[Y];exact .view J ai ah B) (fun _ z cI e=>by cases e;exact hfield) ac (k4.trans U) (by omega) (by omega) t ht⟩
       ·refine⟨_,rfl,_,rfl,_,rfl,_,rfl,_,rfl,_,rfl,_,_,rfl,rfl,cp _ (by decide) (by decide),p,c,ns,b1,0,1000000000,(by show[V.ref p,V.int 0,V.int ((10:Int) ^ C1 9)] ++ []=_;rw[p9];rfl),ac,by omega,by decide,by decide,by omega,fun n2 b2 G2 b0 bT el en bq bz=>?_⟩;refine⟨_,rfl,_,_,rfl,rfl,cp _ (by decide) (by decide),p,c,ns,b2,0,1000000,(by show[V.ref p,V.int 0,V.int ((10:Int) ^ C1 6)] ++ []=_;rw[p6];rfl),bq,by omega,by decide,by decide,by omega,fun n3 b3 G3 bW b6 dq eO bv bc=>?_⟩;have Y:word="breach":=by
         have ng:∀ z:Str,¬ decide (V.str word=V.str z)=true→word≠z:=fun z hz e=>hz (Ic (by rw[e]));have bL:word≠"part"∧word≠"join":=by
          constructor
          ·intro z;exact g1 (by rw[z];rfl)
          ·intro z;exact g1 (by rw[z];rfl)
         have hm:=hwd;simp only[eG,Al,Ao,or_false]at hm;rcases hm with z | z | z | z | z | z | z | z
         ·exact absurd z bL.1
         ·exact absurd z bL.2
         ·exact absurd z (ng _ g2)
         ·exact absurd z (ng _ g3)
         ·exact absurd z (ng _ g4)
         ·exact absurd z (ng _ g5)
         ·exact z
         ·exact absurd z (ng _ g6)
        exact⟨z7,fun t ht=>ad _ [.str field,.int n1,.int n2,.int n3] _ b3 (.cons (j8 J) (.cons (.int n1) (.cons (.int n2) (.cons (.int n3) .nil)))) (by rw[Y];exact .breach J ai ah b0 bT bW b6) (fun _ z cI e=>by cases e;exact hfield) bv (((k4.trans U).trans bz).trans bc) (by omega) (by omega) t ht⟩
inductive wA(vs:List V)(H:Hp)(Q:VK)(u3_:XK):Prop
 | mk (p c:Ac) (ns:List Int) (a:Int) (l:Ac) (xs:List V) (q0:vs=[.ref p,.ref l]) (q1:cJ H p c ns a) (q2:a≤800000) (q3:H l=some (.tup xs)) (q4:xs.length≤6) (q5:∀(q:Ac) (ys:List V) (a':Int) (H':Hp),H q=none→H' q=some (.lst ys)→ys.Perm xs→a≤a'→a'≤a + 6→cJ H' p c ns a'→aY p H H'→Q (.ref q) H'):wA vs H Q u3_
def aBy:Sp:=fun vs H Q u3_=>wA vs H Q u3_
theorem aBz:bY ["_law_pen_here","_law_some_here","_law_left"] ["_law_pen_here","_law_some_here"] (aO mV):=⟨rfl,rfl,rfl,by decide,rfl,by decide,by decide⟩
theorem aEA{f:Ac}{fd:AE}(F:Fun K "_law_turned" "_law_turned" mV f fd)(Y:mg "list"=none)(aa:mg "range"=none)(W:mg "len"=none)
  (GT:Cl P w K mg base 1 "_law_take" ["_law_pen_here","_law_many"] hV):
  cH P w K mg base CX0 2 f fd ["_law_pen_here","_law_some_here"] aBy:=by
 refine F.ok aBz (fun vs H Q E h=>?_) (fun az A outer s H vs Q E hr h=>?_)
 ·obtain⟨p,c,ns,a,l,xs,rfl,_⟩:=h;rfl
 ·obtain⟨p,c,ns,a,l,xs,rfl,hp,ha,hl,hxl,k⟩:=h;refine⟨_,aJ (bQ (i:=2) aBz.nd rfl (Do rfl) (cV fY (by rfl) Y (by kernel_rfl) (aG (pv 1) aF)))
   (aU (bG (fE (N:=["_law_k","_law_left","_law_pen_here"]) (src:=[none,some 2,some 0]) (osc:=aO mV) (oN:=["_law_pen_here","_law_some_here","_law_left"]) ⟨by rfl,by decide,by decide,by decide,rfl,by rfl⟩
     (f8 rfl aa (aG (aV bH (by rfl) W AO (aG (pv 1) aF)) aF))
     fun cl s H fp dh C=>⟨bU (i:=0) (show(["_law_k","_law_left","_law_pen_here"]:List Str).Nodup by decide) rfl (AG rfl),eB,aFt (K:=K) A7 PySem.F.slot_list_pop PySem.F.type_list_pop aAF (pv 1) (aG (cB GT hr (aG (pv 2) (aG (aV (r:=gZ K) bH (by rfl) W AO (aG (pv 1) aF)) aF))) aF)⟩))),?_⟩
  refine⟨_,rfl,l,_,rfl,.inr (aZ hl),fun L hL=>?_⟩;have s0:=aQ (o:=.lst xs) hL;have ag:L≠p:=by
   obtain⟨z,_,e⟩:=hp.ob;exact(bB e hL).symm
  have au:L≠c:=(bB hp.ce hL).symm;refine⟨_,rfl,l,_,rfl,.inr (aZ (s0 _ _ hl)),xs.length,rfl,by omega,by omega,?_⟩;refine jP (fun i ys σ' H'=>Ex3 fun(a':Int) (vs:List V) (o:Option V)=>Aw6 (σ'=[o,some (.ref L),some (.ref p)]) (cJ H' p c ns a') (aY p H H') (a≤a') (a'≤a + i) (Aw3 (ys.length=i) (H' L=some (.lst vs)) (vs.length + i=xs.length∧(ys ++ vs).Perm xs)))
   ⟨a,xs,none,rfl,hp.same s0,bJ.but s0,by omega,by omega,rfl,aH,by omega,CW _⟩ (aS (by omega)) (fun i ys σ H p=>by obtain⟨_,_,_,_,_,_,_,_,e,_⟩:=p;omega) ?_ ?_
  ·rintro i ys σ' H1 hi ⟨a1,vs,o,rfl,B,J,an,am,ac,U,ap,O⟩;dsimp only[dG];refine dC ?_;refine⟨_,rfl,.inl ⟨rfl,_,bE U⟩,_,rfl,_,rfl,L,_,rfl,.inl (bE U),p,c,ns,a1,_,rfl,B,by omega,by omega,by omega,fun r1 a2 H2 ay aC ax aA ao Z=>?_⟩;obtain⟨j,rfl⟩:∃ j:Nat,r1=j:=⟨r1.toNat,by omega⟩
   have ai:=b8 U B Z;obtain⟨y,hy⟩:∃ y,vs[j]?=some y:=⟨_,Ag (by omega)⟩
   have ar:seqIndex? (j:Int) vs.length=some j:=by
    unfold seqIndex?;simp;omega
   refine⟨L,_,_,j,y,rfl,rfl,ai,by omega,by omega,ar,hy,a2,vs.eraseIdx j,_,rfl,?_,?_,by omega,by omega,by rw[Av,ac];rfl,aH,?_,?_⟩
   ·obtain⟨⟨z,hz,e⟩,ce,ge,sm⟩:=ao;exact⟨⟨z,hz,by rw[aW ag.symm];exact e⟩,by rw[aW au.symm];exact ce,ge,sm⟩
   ·intro b o e ne;rw[aW (bB e hL)];exact(J.trans Z) b o e ne
   ·rw[C9 (by omega)];omega
   ·rw[DC];exact(Es ys (pG vs j y hy)).trans O
  ·rintro ys σ' H1 ⟨a1,vs,o,rfl,B,J,an,am,ac,U,ap,O⟩ D hD;have sD:=aQ (o:=.lst ys) hD;have aj:vs=[]:=Bq (by have:=Bl xs.length;omega);rw[aj,Cv]at O;have aq:H D=none:=by
    cases e:H D with
    | none=>rfl
    | some x=>
     by_cases z:D=p
     ·obtain⟨y,_,e2⟩:=B.ob;rw[z]at hD;rw[hD]at e2;cases e2
     ·exact absurd (J D x e z) (by rw[hD];simp)
   exact k D ys a1 _ aq aH O (by omega) (by have:=Bl xs.length;omega) (B.same sD) (J.same sD)
def hid(F:Ac)(H:Hp):Hp:=fun a=>if a=F then none else H a
theorem aHV{F:Ac}{H:Hp}{o:HO}:hid F (upd H F o)=hid F H:=by
 funext a;unfold hid;by_cases h:a=F
 ·rw[Ib h,Ib h]
 ·rw[Ia h,Ia h,aW h]
theorem jT{F a:Ac}{H:Hp}{o:HO}(h:hid F H a=some o):a≠F∧H a=some o:=by
 unfold hid at h;by_cases z:a=F
 ·rw[Ib z]at h;cases h
 ·rw[Ia z]at h;exact⟨z,h⟩
theorem pH{F a:Ac}{H:Hp}{o:HO}(n:a≠F)(h:H a=some o):hid F H a=some o:=by
 unfold hid;rw[Ia n];exact h
theorem nS{F:Ac}{H H':Hp}{m:Bool}{xs:List V}{ds:List Ak}(r:cG m (hid F H) xs ds)(k:∀ a o,a≠F→H a=some o→(∀ B r,o≠.dK (B :: r))→H' a=some o):cG m (hid F H') xs ds:=
 r.keep fun a o e n=>by
  obtain⟨z,e'⟩:=jT e;exact pH z (k a o z e' n)
theorem aHW{F:Ac}{H:Hp}{m:Bool}{xs:List V}{ds:List Ak}(r:cG m (hid F H) xs ds):cG m H xs ds:=r.keep fun a o e _=>(jT e).2
theorem aJP{F:Ac}{H H':Hp}{m:Bool}{xs:List V}{ds:List Ak}(r:cG m H xs ds)(B:H F=none)(s:bJ H H'):cG m (hid F H') xs ds:=
 r.keep fun a o e _=>pH (fun z=>by rw[z,B]at e;cases e) (s a o e)
theorem cG.set{m:Bool}{H:Hp}:∀{xs:List V}{ds:List Ak}{j:Nat}{x:V}{d:Ak},cG m H xs ds→RdV m H x d→cG m H (xs.set j x) (ds.set j d)
 | _,_,_,_,_,.nil,_=>.nil
 | _,_,0,_,_,.cons a r,h=>.cons h r
 | _,_,j + 1,_,_,.cons a r,h=>.cons a (cG.set r h)
theorem aGD{m:Bool}{H:Hp}:∀{ys xs:List V},ys.Perm xs→∀{ds:List Ak},cG m H xs ds→∃ es:List Ak,es.Perm ds∧cG m H ys es:=by
 intro ys xs U
 induction U with
 | nil=>intro ds r;exact⟨ds,.refl _,r⟩
 | cons a _ O=>
  intro ds r;cases r with
  | cons B z=>
   obtain⟨es,h1,h2⟩:=O z;exact⟨_ :: es,h1.cons _,.cons B h2⟩
 | swap a b l=>
  intro ds r;cases r with
  | cons B z=>
   cases z with
   | cons Y W=>exact⟨_ :: _ :: _,.swap _ _ _,.cons Y (.cons B W)⟩
 | trans _ _ J F=>
  intro ds r;obtain⟨es,h1,h2⟩:=F r;obtain⟨fs,h3,h4⟩:=J h2;exact⟨fs,h3.trans h1,h4⟩
theorem rV{α:Type}(f:α→Ak):∀{l B:List Ak},l.Perm B→∀{R:List α},B=R.map f→∃ T:List α,T.Perm R∧l=T.map f:=by
 intro l B J
 induction J with
 | nil=>intro R e;exact⟨R,.refl _,e⟩
 | cons a _ O=>
  intro R e;cases R with
  | nil=>cases e
  | cons x R=>
   injection e with e1 e2;obtain⟨T,h1,h2⟩:=O e2;exact⟨x :: T,h1.cons _,by rw[e1,h2];rfl⟩
 | swap a b l=>
  intro R e;cases R with
  | nil=>cases e
  | cons x R=>
   cases R with
   | nil=>injection e with e1 e2;cases e2
   | cons y R=>
    injection e with e1 e2;injection e2 with e2 e3;exact⟨y :: x :: R,.swap _ _ _,by rw[e1,e2,e3];rfl⟩
 | trans _ _ z F=>
  intro R e;obtain⟨T,h1,h2⟩:=F e;obtain⟨U,h3,h4⟩:=z h2;exact⟨U,h3.trans h1,h4⟩
inductive kU:Ak→Ak→Prop
 | same {d:Ak} (h:fJ d=false):kU d d
 | lst {es gs:List Ak} (hp:(gs.map (dP 1)).Perm es):kU (.tuple es) (.list gs)
 | tup {es gs:List Ak} (hp:(gs.map (dP 1)).Perm es):kU (.tuple es) (.tuple gs)
theorem aHX{d:Ak}(h:fJ d=false)(n:Nat):dP n d=d:=by
 cases n with
 | zero=>rfl
 | succ n=>
  cases d with
  | list ds=>simp[fJ]at h
  | tuple ds=>simp[fJ]at h
  | _=>rfl
theorem kU.two{d g:Ak}(h:kU d g):dP 2 g=d∨∃ es B,d=.tuple es∧dP 2 g=.tuple B∧B.Perm es:=by
 cases h with
 | same h=>exact .inl (aHX h 2)
 | @lst es gs z=>exact .inr ⟨es,gs.map (dP 1),rfl,rfl,z⟩
 | @tup es gs z=>exact .inr ⟨es,gs.map (dP 1),rfl,rfl,z⟩
inductive iY:List Ak→List Ak→Prop
 | nil:iY [] []
 | cons {d g:Ak} {ds gs:List Ak} (h:kU d g) (r:iY ds gs):iY (d :: ds) (g :: gs)
theorem iY.of:∀{ds gs:List Ak},ds.length=gs.length→(∀(j:Nat) (d g:Ak),ds[j]?=some d→gs[j]?=some g→kU d g)→iY ds gs
 | [],[],_,_=>.nil
 | d :: ds,g :: gs,z,h=>.cons (h 0 d g rfl rfl) (iY.of (by simpa using z) fun j a b ha B=>h (j + 1) a b (by simpa using ha) (by simpa using B))
theorem iY.one{d:Ak}{ds gs:List Ak}(h:iY (d :: ds) gs)(hd:fJ d=false):∃ z,gs.map (dP 2)=d :: z.map (dP 2)∧iY ds z:=by
 cases h with
 | @cons _ g _ z h r=>
  refine⟨z,?_,r⟩;rw[A8];rcases h.two with e | ⟨es,B,e,_⟩
  ·rw[e]
  ·rw[e]at hd;simp[fJ]at hd
theorem iY.tup{es ds gs:List Ak}(h:iY (.tuple es :: ds) gs):∃ J z,gs.map (dP 2)=.tuple J :: z.map (dP 2)∧J.Perm es∧iY ds z:=by
 cases h with
 | @cons _ g _ z h r=>
  cases h with
  | same h=>simp[fJ]at h
  | @lst _ F B=>exact⟨F.map (dP 1),z,rfl,B,r⟩
  | @tup _ F B=>exact⟨F.map (dP 1),z,rfl,B,r⟩
theorem iY.end{gs:List Ak}(h:iY [] gs):gs.map (dP 2)=[]:=by cases h;rfl
theorem aCC{word name:Str}{day:Int}{ds gs:List Ak}(h:f7 word ds)(ha:iY (.str word :: .str name :: .int day :: ds) gs):eZ (.tuple (gs.map (dP 2))) (gE word name day ds):=by
 obtain⟨g1,e1,h1⟩:=ha.one rfl;obtain⟨g2,e2,h2⟩:=h1.one rfl;obtain⟨g3,e3,h3⟩:=h2.one rfl;rw[e1,e2,e3];cases h with
 | @part J R hl Z aa O z=>
  obtain⟨g4,e4,h4⟩:=h3.one rfl;obtain⟨ls,g5,e5,hp,h5⟩:=h4.tup;rw[e4,e5,h5.end];obtain⟨T,hT,rfl⟩:=rV pD hp rfl;have U:=hT.length_eq;refine .part hT Z (by omega) (by omega) ?_;rw[A3]at z ⊢;exact fun x W=>z x ((hT.map pD).mem_iff.mp W)
 | @join J R hl Z aa O z=>
  obtain⟨ls,g4,e4,hp,h4⟩:=h3.tup;obtain⟨g5,e5,h5⟩:=h4.one rfl;rw[e4,e5,h5.end];obtain⟨T,hT,rfl⟩:=rV AR hp rfl;have U:=hT.length_eq;refine .join hT Z (by omega) ?_;rw[A3]at z ⊢;exact fun x W=>z x ((hT.map AR).mem_iff.mp W)
 | @forfeit J B hl Y=>
  obtain⟨g4,e4,h4⟩:=h3.one rfl;obtain⟨g5,e5,h5⟩:=h4.one rfl;rw[e4,e5,h5.end];exact .other (by decide) (by decide)
 | @measure F n hf h0 af=>
  obtain⟨g4,e4,h4⟩:=h3.one rfl;obtain⟨g5,e5,h5⟩:=h4.one rfl;rw[e4,e5,h5.end];exact .other (by decide) (by decide)
 | @mend B other Y ho ag=>
  obtain⟨g4,e4,h4⟩:=h3.one rfl;obtain⟨g5,e5,h5⟩:=h4.one rfl;rw[e4,e5,h5.end];exact .other (by decide) (by decide)
 | @alone B Y=>
  obtain⟨g4,e4,h4⟩:=h3.one rfl;rw[e4,h4.end];exact .short (by simp)
 | @breach F n1 n2 n3 hf _ _ _ _ _ _=>
  obtain⟨g4,e4,h4⟩:=h3.one rfl;obtain⟨g5,e5,h5⟩:=h4.one rfl;obtain⟨g6,e6,O⟩:=h5.one rfl;obtain⟨g7,e7,h7⟩:=O.one rfl;rw[e4,e5,e6,e7,h7.end];exact .short (by simp)
 | @view F B n1 hf _ _ Y=>
  obtain⟨g4,e4,h4⟩:=h3.one rfl;obtain⟨g5,e5,h5⟩:=h4.one rfl;obtain⟨g6,e6,O⟩:=h5.one rfl;rw[e4,e5,e6,O.end];exact .short (by simp)
def rF:Ak→Bool
 | .str _=>true
 | .tuple es=>es.all fun e=>!fJ e
 | _=>false
theorem f7.inner{word:Str}{ds:List Ak}(h:f7 word ds):∀ d∈ds,fJ d=false∨∃ es,d=.tuple es∧es.length≤6∧es.all rF=true:=by
 intro d hd;cases h with
 | @part z R W Z O F B=>
  simp only[Al,Ao,or_false]at hd;rcases hd with rfl | rfl
  ·exact .inl rfl
  ·refine .inr ⟨_,rfl,by rw[Ae];exact F,?_⟩;rw[DE,A3];exact fun x _=>rfl
 | @join z R W Z O F B=>
  simp only[Al,Ao,or_false]at hd;rcases hd with rfl | rfl
  ·refine .inr ⟨_,rfl,by rw[Ae];exact F,?_⟩;rw[DE,A3];exact fun x _=>rfl
  ·exact .inl rfl
 | forfeit W J=>
  simp only[Al,Ao,or_false]at hd;rcases hd with rfl | rfl <;> exact .inl rfl
 | measure U h0 Y=>
  simp only[Al,Ao,or_false]at hd;rcases hd with rfl | rfl <;> exact .inl rfl
 | mend J ho aa=>
  simp only[Al,Ao,or_false]at hd;rcases hd with rfl | rfl <;> exact .inl rfl
 | alone J=>
  simp only[Al,Ao,or_false]at hd;rcases hd with rfl;exact .inl rfl
 | breach U _ _ _ _ _ _=>
  simp only[Al,Ao,or_false]at hd;rcases hd with rfl | rfl | rfl | rfl <;> exact .inl rfl
 | view U _ _ J=>
  simp only[Al,Ao,or_false]at hd;rcases hd with rfl | rfl | rfl <;> exact .inl rfl
theorem aEB{e:Ak}(h:rF e=true):dP 1 e=e∧∀ ds,e=.tuple ds→dP 1 (.list ds)=e:=by
 cases e with
 | str z=>exact⟨rfl,fun ds z=>nomatch z⟩
 | tuple ds=>
  have B:ds.map (dP 0)=ds:=by
   have:∀ l:List Ak,l.map (dP 0)=l:=fun l=>by
    induction l with
    | nil=>rfl
    | cons a l J=>rw[A8,J];rfl
   exact this ds
  refine⟨?_,fun F z=>?_⟩
  ·show Fb (ds.map (dP 0))=_;rw[B]
  ·cases z;show Fb (ds.map (dP 0))=_;rw[B]
 | _=>simp[rF]at h
def jE(e:Ak):Prop:=(fJ e=false∧OkD 102 0 e)∨∃ is:List Ak,e=.tuple is∧is.length≤3∧∀ i∈is,OkD 102 0 i
theorem wB:∀ l:List Ak,l.map (dP 0)=l
 | []=>rfl
 | a :: l=>by rw[A8,wB l];rfl
theorem aHY{g:Ak}(h:jE (dP 1 g)):OkD 315 1 g:=by
 have go:∀ B:List Ak,jE (.tuple B)→B.length≤3∧∀ i∈B,OkD 102 0 i:=fun B z=>by
  rcases z with⟨z,_⟩ | ⟨is',z,h1,h2⟩
  ·simp[fJ]at z
  ·cases z;exact⟨h1,h2⟩
 cases g with
 | list B=>
  have h':jE (.tuple (B.map (dP 0))):=h;rw[wB]at h';obtain⟨h1,h2⟩:=go B h';exact OkD.list h2 h1
 | tuple B=>
  have h':jE (.tuple (B.map (dP 0))):=h;rw[wB]at h';obtain⟨h1,h2⟩:=go B h';exact OkD.tuple h2 h1
 | _=>
  rcases h with⟨_,z⟩ | ⟨_,z,_⟩
  ·exact OkD.mono z (by decide) (by decide)
  ·cases z
theorem f7.ok{word:Str}{ds:List Ak}(h:f7 word ds):∀ d∈ds,(fJ d=false∧OkD 102 0 d)∨∃ es,d=.tuple es∧es.length≤6∧∀ e∈es,jE e:=by
 have nm:∀{z:Str},bV z=true→fJ (AR z)=false∧OkD 102 0 (.str z):=fun h=>⟨rfl,OkD.name h⟩
 have it:∀{i:Int},0≤i→i≤1000000000→fJ (Dn i)=false∧OkD 102 0 (.int i):=fun h0 h1=>⟨rfl,OkD.int h0 (Int.lt_of_le_of_lt h1 (by decide))⟩
 intro d hd;cases h with
 | @part U R Y hr af h6 B=>
  simp only[Al,Ao,or_false]at hd;rcases hd with rfl | rfl
  ·exact .inl (nm Y)
  ·refine .inr ⟨_,rfl,by rw[Ae];exact h6,fun e Z=>?_⟩;obtain⟨x,hx,rfl⟩:=Bd.mp Z;have hp:=A3.mp B _ Z;have F:(bV x.1 && bV x.2.1 && decide (1≤x.2.2∧x.2.2≤10000000))=true:=hp;rw[AY,AY]at F;have hb:=Ie F.2;refine .inr ⟨_,rfl,by simp,fun i hi=>?_⟩;simp only[Al,Ao,or_false]at hi;rcases hi with rfl | rfl | rfl
   ·exact(nm F.1.1).2
   ·exact(nm F.1.2).2
   ·exact(it (by omega) (by omega)).2
 | @join U R Y hr af h6 B=>
  simp only[Al,Ao,or_false]at hd;rcases hd with rfl | rfl
  ·refine .inr ⟨_,rfl,by rw[Ae];exact h6,fun e Z=>?_⟩;obtain⟨x,hx,rfl⟩:=Bd.mp Z;exact .inl (nm (A3.mp B _ Z))
  ·exact .inl (nm Y)
 | forfeit Y J=>
  simp only[Al,Ao,or_false]at hd;rcases hd with rfl | rfl
  ·exact .inl (nm Y)
  ·exact .inl (nm J)
 | measure W h0 ai=>
  simp only[Al,Ao,or_false]at hd;rcases hd with rfl | rfl
  ·exact .inl (nm W)
  ·exact .inl (it h0 (by omega))
 | mend J ho an=>
  simp only[Al,Ao,or_false]at hd;rcases hd with rfl | rfl
  ·exact .inl (nm J)
  ·exact .inl (nm ho)
 | alone J=>
  simp only[Al,Ao,or_false]at hd;rcases hd with rfl;exact .inl (nm J)
 | breach W O aa ae ak ag ao=>
  simp only[Al,Ao,or_false]at hd;rcases hd with rfl | rfl | rfl | rfl
  ·exact .inl (nm W)
  ·exact .inl (it O (by omega))
  ·exact .inl (it ae (by omega))
  ·exact .inl (it ag (by omega))
 | view W O aa J=>
  simp only[Al,Ao,or_false]at hd;rcases hd with rfl | rfl | rfl
  ·exact .inl (nm W)
  ·exact .inl (it O (by omega))
  ·exact .inl (nm J)
theorem iY.mem:∀{ds gs:List Ak}{g:Ak},iY ds gs→g∈gs→∃ d∈ds,kU d g
 | _,_,_,.nil,h=>by simp at h
 | _,_,_,.cons h r,B=>by
  rcases Al.mp B with rfl | z
  ·exact⟨_,by simp,h⟩
  ·obtain⟨d,hd,hi⟩:=iY.mem r z;exact⟨d,by simp[hd],hi⟩
theorem iY.len:∀{ds gs:List Ak},iY ds gs→gs.length=ds.length
 | _,_,.nil=>rfl
 | _,_,.cons _ r=>by rw[A1,A1,iY.len r]
theorem pI{w:Str}(h:w∈eG):bV w=true:=by
 have:∀ w∈eG,bV w=true:=by decide
 exact this w h
theorem f7.word{word:Str}{ds:List Ak}(h:f7 word ds):word∈eG:=by
 cases h <;> decide
theorem f7.len{word:Str}{ds:List Ak}(h:f7 word ds):ds.length≤4:=by
 cases h <;> simp
theorem aGE{word name:Str}{day:Int}{ds:List Ak}(h:f7 word ds)(hn:bV name=true)(z:0≤day)(h1:day≤9999):∀ d∈(AR word :: AR name :: Dn day :: ds),(fJ d=false∧OkD 102 0 d)∨∃ es,d=.tuple es∧es.length≤6∧∀ e∈es,jE e:=fun d hd=>by
 simp only[Al]at hd;rcases hd with rfl | rfl | rfl | hd
 ·exact .inl ⟨rfl,OkD.name (pI h.word)⟩
 ·exact .inl ⟨rfl,OkD.name hn⟩
 ·exact .inl ⟨rfl,OkD.int z (Int.lt_of_le_of_lt h1 (by decide))⟩
 ·exact h.ok d hd
theorem aEC{J gs:List Ak}(h:∀ d∈J,(fJ d=false∧OkD 102 0 d)∨∃ es,d=.tuple es∧es.length≤6∧∀ e∈es,jE e)(ha:iY J gs)(h7:J.length≤7):OkD 13352 3 (.list gs)∧OkD 13352 3 (.tuple gs):=by
 have hl:=ha.len;have B:∀ g∈gs,OkD 1905 2 g:=fun g W=>by
  obtain⟨d,hd,hi⟩:=ha.mem W;have many:∀{es O:List Ak},Fb es∈J→(O.map (dP 1)).Perm es→O.length≤6∧∀ x∈O,OkD 315 1 x:=fun{es O} hm F=>by
   rcases h _ hm with⟨z,_⟩ | ⟨es',z,h6,hs⟩
   ·simp[fJ]at z
   ·cases z;have U:=F.length_eq;rw[Ae]at U;exact⟨by omega,fun x Y=>aHY (hs _ (F.mem_iff.mp (Bd.mpr ⟨x,Y,rfl⟩)))⟩
  cases hi with
  | same Z=>
   rcases h _ hd with⟨_,z⟩ | ⟨es,rfl,_⟩
   ·exact OkD.mono z (by decide) (by decide)
   ·simp[fJ]at Z
  | lst F=>
   obtain⟨m1,m2⟩:=many hd F;exact OkD.list m2 m1
  | tup F=>
   obtain⟨m1,m2⟩:=many hd F;exact OkD.tuple m2 m1
 exact⟨OkD.list (n:=7) B (by omega),OkD.tuple (n:=7) B (by omega)⟩
inductive aDt(H H':Hp)(x:V):Prop
 | mk (q:_) (xs:_) (q0:x=.ref q) (q1:H q=none) (q2:(H' q=some (.lst xs)∨H' q=some (.tup xs))) (q3:∀ b,V.ref b∈xs→∀ ys,H' b=some (.lst ys)→H b=none∧b≠q):aDt H H' x
def aKK(H H':Hp)(x:V):Prop:=aDt H H' x
inductive wC(vs:List V)(H:Hp)(Q:VK)(u3_:XK):Prop
 | mk (p c:Ac) (ns:List Int) (a:Int) (tr:Ac) (word name:Str) (day:Int) (ds:List Ak) (q0:vs=[.ref p,.ref tr]) (q1:cJ H p c ns a) (q2:a≤700000) (q3:RdV false H (.ref tr) (gE word name day ds)) (q4:f7 word ds) (q5:bV name=true) (q6:0≤day) (q7:day≤9999) (q8:∀(x:V) (d2:Ak) (a':Int) (H':Hp),RdV true H' x d2→OkD 13352 3 d2→eZ (dP 3 d2) (gE word name day ds)→aKK H H' x→a≤a'→a'≤a + 200→cJ H' p c ns a'→aY p H H'→Q x H'):wC vs H Q u3_
def aBA:Sp:=fun vs H Q u3_=>wC vs H Q u3_
theorem aHZ{H:Hp}{p c b:Ac}{ns:List Int}{a:Int}{o:HO}(B:cJ H p c ns a)(h1:b≠p)(h2:b≠c):cJ (upd H b o) p c ns a:=by
 obtain⟨⟨z,hz,e⟩,ce,ge,sm⟩:=B;exact⟨⟨z,hz,by rw[aW h1.symm];exact e⟩,by rw[aW h2.symm];exact ce,ge,sm⟩
theorem aBB{H:Hp}{p c b:Ac}{ns:List Int}{a:Int}(B:cJ H p c ns a)(h:H b=none):b≠p∧b≠c:=by
 refine⟨?_,(bB B.ce h).symm⟩;obtain⟨z,_,e⟩:=B.ob;exact(bB e h).symm
theorem aBC{H H':Hp}{p c b:Ac}{ns:List Int}{a:Int}(k:aY p H H')(z:cJ H' p c ns a)(h:H' b=none):H b=none:=by
 cases e:H b with
 | none=>rfl
 | some x=>exact absurd (k b x e (aBB z h).1) (by rw[h];simp)
theorem aGF{H:Hp}{b:Ac}:∀{xs:List V}{ds:List Ak},cG false H xs ds→V.ref b∈xs→∃ o,H b=some o∧∀ ys,o≠.lst ys
 | _,_,.nil,h=>by simp at h
 | _,_,.cons a r,h=>by
  rcases Al.mp h with z | z
  ·cases a with
   | lst hm e B r=>cases hm
   | tup e B r=>cases z;exact⟨_,e,fun ys z=>nomatch z⟩
   | dct hm e=>cases z;exact⟨_,e,fun ys z=>nomatch z⟩
   | _=>cases z
  ·exact aGF r z
theorem qC:∀ R:List P3,A2 (R.map pD)=false
 | []=>rfl
 | x :: R=>by
  show((pD x).hasDict || A2 (R.map pD))=false;rw[qC R];rfl
theorem rX:∀ R:List Str,A2 (R.map AR)=false
 | []=>rfl
 | x :: R=>by
  show((AR x).hasDict || A2 (R.map AR))=false;rw[rX R];rfl
theorem f7.nodict{word:Str}{ds:List Ak}(h:f7 word ds):A2 ds=false:=by
 cases h with
 | @part z R _ _ _ _ _=>
  show(false || (A2 (R.map pD) || false))=false;rw[qC];rfl
 | @join z R _ _ _ _ _=>
  show(A2 (R.map AR) || (false || false))=false;rw[rX];rfl
 | _=>rfl
theorem aH0{F:Ac}{H H':Hp}{m:Bool}{x:V}{d:Ak}(r:RdV m H x d)(B:H F=none)(k:∀ a o,H a=some o→(∀ J r,o≠.dK (J :: r))→H' a=some o):RdV m (hid F H') x d:=
 r.keep fun a o e n=>pH (fun z=>by rw[z,B]at e;cases e) (k a o e n)
theorem aAq{H:Hp}{b:Ac}:∀{xs:List V}{ds:List Ak},cG true H xs ds→V.ref b∈xs→∃ o,H b=some o∧∀ B r,o≠.dK (B :: r)
 | _,_,.nil,h=>by simp at h
 | _,_,.cons a r,h=>by
  rcases Al.mp h with z | z
  ·cases a with
   | lst hm e F r=>cases z;exact⟨_,e,fun _ _ z=>nomatch z⟩
   | tup e F r=>cases z;exact⟨_,e,fun _ _ z=>nomatch z⟩
   | dct hm e=>cases hm
   | _=>cases z
  ·exact aAq r z
theorem aH1{H0 H:Hp}{p b:Ac}{o:HO}(k:aY p H0 H)(h:H0 b=none):aY p H0 (upd H b o):=fun a u e ne=>by
 rw[aW (bB e h)];exact k a u e ne
theorem nU:bY ["_law_pen_here","_law_row_here","_law_found","_law_at","_law_some_here"] ["_law_pen_here","_law_row_here"] (aO mX):=⟨rfl,rfl,rfl,by decide,rfl,by decide,by decide⟩
theorem aED{f:Ac}{fd:AE}(F:Fun K "_law_listed" "_law_listed" mX f fd)(T:Txt K mg)(ap:mg "list"=none)(bD:mg "range"=none)
  (GT:Cl P w K mg base 1 "_law_take" ["_law_pen_here","_law_many"] hV)
  (GU:Cl P w K mg base 2 "_law_turned" ["_law_pen_here","_law_some_here"] aBy):
  cH P w K mg base CX0 3 f fd ["_law_pen_here","_law_row_here"] aBA:=by
 refine F.ok nU (fun vs H Q E h=>?_) (fun dr A outer s H vs Q E hr h=>?_)
 ·obtain⟨p,c,ns,a,tr,word,name,day,ds,rfl,_⟩:=h;rfl
 ·obtain⟨p,c,ns,a,tr,word,name,day,ds,rfl,hp,ha,hrd,hS,hnm,hday0,hday1,k⟩:=h;have bg:cY 1 _:=hr.mono (by decide);refine⟨_,aJ (bQ (i:=2) nU.nd rfl (AG rfl) (cV fY (by rfl) ap (by kernel_rfl) (aG (pv 1) aF)))
   (aJ (kE B1 rfl (f8 rfl bD (aG (aV bH (by rfl) T.len AO (aG (pv 1) aF)) aF)) (bU (i:=3) nU.nd rfl (AG rfl))
    (aU (cX (dJ (aV dQ (by rfl) T.isi (by kernel_rfl) (aG (cE cM (pv 1) (pv 3) Ig) (aG (dW (v:=.ty "tuple") (by rfl) T.tuple (by kernel_rfl) rfl) aF))))
     (aJ (bQ (i:=4) nU.nd rfl (AG rfl) (cB GU hr (aG (pv 0) (aG (cE cM (pv 1) (pv 3) Ig) aF))))
     (aJ (jO (i:=4) (N:=["_law_one","_law_pen_here"]) (src:=[none,some 0]) (osc:=aO mX) (oN:=["_law_pen_here","_law_row_here","_law_found","_law_at","_law_some_here"]) ⟨by rfl,by decide,by decide,by decide,rfl,by rfl⟩ nU.nd rfl
       (nV (pv 4))
       fun cl s H fp dh C=>⟨bU (i:=0) (show(["_law_one","_law_pen_here"]:List Str).Nodup by decide) rfl (AG rfl),eB,aEP (PW.pt (l0 (dJ (aV (r:=oK K) dQ (by rfl) T.isi (by kernel_rfl) (aG (pv 0) (aG (dW (v:=.ty "tuple") (by rfl) T.tuple (by kernel_rfl) rfl) aF)))) (i7 (bX dU (cB GT bg (aG (pv 1) (aG aI aF))) aI (cF _))))) (cV (r:=nB K) fY (by rfl) ap (by kernel_rfl) (aG (pv 0) aF)) (pv 0)⟩)
     (aU (kB (cE c9 (dM (aG (pv 4) (aG (cV cW (by rfl) T.tuple (by kernel_rfl) (aG (pv 4) aF)) aF))) (cB GT bg (aG (pv 0) (aG aI aF))) Ig) (aER (pv 2) (pv 3) aAD))))) bM)))
   (aU (bG (cE c9 (dM (aG (pv 2) (aG (cV cW (by rfl) T.tuple (by kernel_rfl) (aG (pv 2) aF)) aF))) (cB GT bg (aG (pv 0) (aG aI aF))) Ig)))),?_⟩
  have aT:RdV false H (.ref tr) (.tuple (.str word :: .str name :: .int day :: ds)):=hrd;have bf:∀ d∈(AR word :: AR name :: Dn day :: ds),fJ d=false∨∃ es,d=.tuple es∧es.length≤6∧es.all rF=true:=fun d hd=>by
   simp only[Al]at hd;rcases hd with rfl | rfl | rfl | hd
   ·exact .inl rfl
   ·exact .inl rfl
   ·exact .inl rfl
   ·exact hS.inner d hd
  have bT:A2 (AR word :: AR name :: Dn day :: ds)=false:=by
   show(false || (false || (false || A2 ds)))=false;rw[hS.nodict];rfl
  have bR:(AR word :: AR name :: Dn day :: ds).length≤7:=by
   have:=hS.len;simp only[A1];omega
  have ae:∀ gs,iY (AR word :: AR name :: Dn day :: ds) gs→eZ (.tuple (gs.map (dP 2))) (gE word name day ds):=fun gs h=>aCC hS h;have hok:∀ gs,iY (AR word :: AR name :: Dn day :: ds) gs→OkD 13352 3 (.list gs)∧OkD 13352 3 (.tuple gs):=fun gs h=>aEC (aGE hS hnm hday0 hday1) h bR;generalize (AR word :: AR name :: Dn day :: ds)=dF at aT bf bT bR ae hok;generalize gE word name day ds=dR at ae k;clear hrd hS;cases aT with
  | @tup _ xs _ e hl r=>
  have dc:=r.len;have r3:=r.flip bT true;refine⟨_,rfl,tr,_,rfl,.inr (aZ e),fun F hF=>?_⟩;have s0:=aQ (o:=.lst xs) hF;obtain⟨nFp,nFc⟩:=aBB hp hF;refine⟨_,rfl,tr,_,rfl,.inr (aZ (s0 _ _ e)),xs.length,rfl,by omega,by omega,jF (n:=(xs.length:Int).toNat) (fun i σ H'=>Ex3 fun(o3 o4:Option V) (a':Int)=>∃(fs:List V) (gs:List Ak),Aw6 (σ=[some (.ref p),some (.ref tr),some (.ref F),o3,o4]) (cJ H' p c ns a') (a≤a') (a'≤a + 20 * i) (aY p H H') (Aw3 (H' F=some (.lst fs)) (cG true (hid F H') fs gs) (Aw3 (gs.length=dF.length) ((∀(j:Nat) (d g:Ak),dF[j]?=some d→gs[j]?=some g→if j < i then kU d g else g=d)) (∀ b,V.ref b∈fs→∀ ys,H' b=some (.lst ys)→H b=none∧b≠F))))
   ⟨_,_,a,xs,dF,rfl,hp.same s0,by omega,by omega,bJ.but s0,aH,aJP r3 hF s0,rfl,(fun j d g h1 h2=>by
    rw[Ia (Nat.not_lt_zero j)];rw[h1]at h2;cases h2;rfl),fun b hb ys h=>by
     obtain⟨o,ho,hno⟩:=aGF r hb;rw[aW (bB ho hF),ho]at h;cases h;exact absurd rfl (hno ys)⟩ ?_ ?_⟩
  ·rintro i σ H1 hi ⟨o3,o4,a1,fs,gs,rfl,J,bK,cz,k1,aw,rg,ax,aB,af⟩;dsimp only[dG];have cn:i < xs.length:=by have:=Bl xs.length;omega
   have e1:=k1 _ _ e (gO hp e (fun _ _ z=>nomatch z));obtain⟨y,hy⟩:∃ y,xs[i]?=some y:=⟨_,Ag cn⟩
   have bI:atI xs ((0:Int) + (i:Nat))=some y:=by
    rw[Fl];exact dD hy
   obtain⟨d,hd,rd⟩:=r3.at hy;have cu:=aCx rd hp k1;have bx:d∈dF:=AF hd;refine⟨_,rfl,_,rfl,tr,_,_,_,rfl,rfl,aZ e1,bI,_,"tuple",_,_,rfl,lY cu,j7 d,_,rfl,d9 (fun g=>?_) (fun g=>?_)⟩
   ·obtain⟨es,rfl,hes6,hsm⟩:∃ es,d=.tuple es∧es.length≤6∧es.all rF=true:=by
     rcases bf d bx with z | z
     ·cases d with
      | tuple es=>simp[fJ]at z
      | _=>simp[iW]at g
     ·exact z
    cases rd with
    | @tup b zs _ eb dw rz=>
    have ci:=rz.len;have c4:=k1 _ _ eb (gO hp eb (fun _ _ z=>nomatch z));refine⟨_,rfl,_,rfl,_,rfl,tr,_,_,_,rfl,rfl,aZ e1,bI,p,c,ns,a1,b,zs,rfl,J,by omega,c4,by omega,fun q ys a2 H2 hq bA bu du d5 aE aM=>?_⟩;obtain⟨es',hes',rys⟩:=aGD bu rz;have dV:=rys.len;have df:ys.length≤6:=by rw[bu.length_eq];omega
    have bO:∀ e∈es',rF e=true:=fun e he=>A3.mp hsm e (hes'.mem_iff.mp he);have k2:=k1.trans aM;have bC:=b8 aw J aM;refine⟨_,rfl,q,rfl,⟨_,bE bA⟩,?_⟩;refine nY (K:=K) (xs:=ys) (fun i2 us σ' H'=>Ex3 fun(a':Int) (o:Option V) (B:List Ak)=>Aw6 (σ'=[o,some (.ref p)]) (cJ H' p c ns a') (aY p H2 H') (a2≤a') (a'≤a2 + i2) (Aw3 (cG true (hid F H') us B) (B.map (dP 1)=es'.take i2) (us.length=i2)))
     ⟨a2,none,[],rfl,aE,aY.refl p H2,by omega,by omega,.nil,by simp,rfl⟩ (aS (by omega)) (fun i ys σ H p=>by obtain⟨_,_,_,_,_,_,_,_,_,_,e⟩:=p;omega) (fun i us σ H p=>by obtain⟨_,_,_,_,_,kk,_⟩:=p;exact bE (b8 bA aE kk)) ?_ ?_
    ·rintro i2 x us σ' H3 hx ⟨a3,o,B,rfl,O,k3,b9,cc,ru,eg,bp⟩;dsimp only[dG];have dz:i2 < ys.length:=(AH.mp hx).1;obtain⟨e2,he2,rx⟩:=rys.at hx;have b5:=bO e2 (AF he2);obtain⟨t1,t2⟩:=aEB b5;have kA:aY p H H3:=k2.trans k3;have cg:=aCx rx hp kA;have ar:=b8 bC aE k3;have bw:∀ g,dP 1 g=e2→(B ++ [g]).map (dP 1)=es'.take (i2 + 1):=fun g hg=>by
      rw[AU,eg,Bk,he2];show _ ++ [dP 1 g]=_;rw[hg];rfl
     have a0:∀(H4:Hp) (a4:Int),cJ H4 p c ns a4→aY p H3 H4→a3≤a4→a4≤a3 + 1→Ex3 fun(a':Int) (o:Option V) (B:List Ak)=>Aw6 (([some x,some (.ref p)]:L2.St)=[o,some (.ref p)]) (cJ H4 p c ns a') (aY p H2 H4) (a2≤a') (a'≤a2 + ((i2 + 1:Nat):Int)) (Aw3 (cG true (hid F H4) (us ++ [x]) B) (B.map (dP 1)=es'.take (i2 + 1)) ((us ++ [x]).length=i2 + 1)):=fun H4 a4 aL k4 l4 u4=>
      ⟨a4,_,B ++ [e2],rfl,aL,k3.trans k4,by omega,by omega,cG.app (nS ru fun a o _ e n=>k4 a o e (gO O e n)) (.cons (aH0 rx hF fun a o e n=>(kA.trans k4) a o e (gO hp e n)) .nil),bw e2 t1,by rw[Av,bp];rfl⟩
     refine dC ?_;refine⟨_,rfl,_,"tuple",_,_,rfl,lY cg,j7 e2,_,rfl,d9 (fun g2=>?_) (fun g2=>?_)⟩
     ·refine⟨_,rfl,p,c,ns,a3,_,rfl,O,by omega,by decide,by decide,fun r4 a4 H4 d2 dy db cD aL ag=>?_⟩;refine⟨rfl,_,rfl,d9 (fun g3=>?_) (fun g3=>?_)⟩
      ·obtain⟨aD,rfl⟩:∃ aD,e2=.tuple aD:=by
        cases e2 with
        | tuple z=>exact⟨z,rfl⟩
        | _=>simp[iW]at g2
       cases rx with
       | @tup b2 bP _ bz cR cs=>
       have cq:=(kA.trans ag) _ _ bz (gO hp bz (fun _ _ z=>nomatch z));refine⟨_,rfl,b2,bP,rfl,.inr (aZ cq),fun L1 bW=>?_⟩;have aN:=aQ (o:=.lst bP) bW;have cT:L1≠F:=(bB (b8 ar O ag) bW).symm;refine⟨a4,_,B ++ [.list aD],rfl,aL.same aN,(k3.trans ag).same aN,by omega,by omega,cG.app (nS ru fun a o _ e n=>aN _ _ (ag a o e (gO O e n))) (.cons (.lst rfl (pH cT aH) cR (cs.keep fun a o e n=>pH (fun z=>by rw[z,hF]at e;cases e) (aN _ _ ((kA.trans ag) a o e (gO hp e n))))) .nil),bw _ (t2 aD rfl),by rw[Av,bp];rfl⟩
      ·exact⟨_,rfl,a0 H4 a4 aL ag db cD⟩
     ·exact⟨_,rfl,a0 H3 a3 O (aY.refl p H3) (by omega) (by omega)⟩
    ·rintro us σ' H3 ⟨a3,o,B,rfl,O,k3,b9,cc,ru,eg,bp⟩ D hD;have ar:=b8 bC aE k3;have kA:aY p H H3:=k2.trans k3;have bv:D≠F:=(bB ar hD).symm;have cK:H D=none:=aBC kA O hD;have sD:=aQ (o:=.lst us) hD;refine⟨_,rfl,_,rfl,D,_,rfl,.inl ⟨bE aH,fun T2 aq=>?_⟩⟩;have sT:=aQ (o:=.tup us) aq;refine⟨zZ2,fun W hW=>?_⟩;have sW:=aQ (o:=.lst [V.ref D,.ref T2]) hW;have sA:=(sD.trans sT).trans sW;refine⟨_,rfl,p,c,ns,a3,_,rfl,O.same sA,by omega,by decide,by decide,fun r5 a5 Z bj cm cw cf aK Y=>?_⟩;obtain⟨v,hv,hat5⟩:=g9 (xs:=[V.ref D,.ref T2]) (i:=r5) bj (by show r5 < 2;omega);have ao:aY p H3 Z:=(bJ.but sA).trans Y;have ac:=O.same sA;have cv:Z D=some (.lst us):=b8 (sW _ _ (sT _ _ aH)) ac Y;have ah:Z T2=some (.tup us):=aAp (sW _ _ aH) ac Y;have bn:Z W=some (.lst [V.ref D,.ref T2]):=b8 aH ac Y;have aC:=b8 ar O ao;have cr:T2≠F:=(bB (sD _ _ ar) aq).symm;have bN:cG true (hid F Z) us B:=nS ru fun a o _ e n=>ao a o e (gO O e n);have av:cG true (hid F Z) fs gs:=nS rg fun a o _ e n=>(aM.trans (k3.trans ao)) a o e (gO J e n);have bL:(B.map (dP 1)).Perm es:=by
      rw[eg,Bw (by omega)];exact hes'
     have bd:us.length≤1000:=by omega
     obtain⟨g2,rv,hg2,hvn⟩:∃ g2,RdV true (hid F Z) v g2∧kU (.tuple es) g2∧∀ b ys,v=.ref b→Z b=some (.lst ys)→H b=none∧b≠F:=by
      simp only[Al,Ao,or_false]at hv;rcases hv with rfl | rfl
      ·exact⟨.list B,.lst rfl (pH bv cv) bd bN,.lst bL,fun b ys z _=>by cases z;exact⟨cK,bv⟩⟩
      ·exact⟨.tuple B,.tup (pH cr ah) bd bN,.tup bL,fun b ys z y=>by cases z;rw[ah]at y;cases y⟩
     have c1:fs.length=dF.length:=by rw[rg.len,ax]
     have cP:ixN fs.length ((0:Int) + (i:Nat))=some i:=by
      unfold ixN;rw[Fl,Ib (by omega),Ib (by omega)];simp
     refine⟨W,_,r5,_,rfl,rfl,bE bn,hat5,_,rfl,_,rfl,F,fs,_,i,rfl,rfl,aC,cP,_,_,a5,fs.set i v,gs.set i g2,rfl,aHZ aK nFp nFc,by omega,by omega,aH1 (kA.trans ao) hF,aH,(by rw[aHV];exact cG.set av rv),by rw[FC];exact ax,fun j d' g' h1 h2=>?_,fun b hb ys U=>?_⟩
     ·by_cases aP:j=i
      ·subst aP;rw[Ib (BL _)];rw[hd]at h1;cases h1;rw[Dz (by omega)]at h2;cases h2;exact hg2
      ·rw[D0 (fun z=>aP z.symm)]at h2;have:=aB j d' g' h1 h2;by_cases am:j < i
       ·rw[Ib am]at this;rw[Ib (by omega)];exact this
       ·rw[Ia am]at this;rw[Ia (by omega)];exact this
     ·have cb:b≠F:=by
       rcases Ca hb with z | z
       ·obtain⟨o,ho,_⟩:=aAq av z;exact(jT ho).1
       ·subst z;cases rv with
        | lst hm e hl r=>exact(jT e).1
        | tup e hl r=>exact(jT e).1
        | dct hm e=>cases hm
      rw[aW cb]at U;rcases Ca hb with z | z
      ·obtain⟨o,ho,hno⟩:=aAq rg z;have aa:=(jT ho).2;have au:=(aM.trans (k3.trans ao)) b o aa (gO J aa hno);rw[U]at au;cases au;exact af b z ys aa
      ·exact hvn b ys z.symm U
   ·have cy:fJ d=false:=by
     rcases bf d bx with z | ⟨es,rfl,_⟩
     ·exact z
     ·exact absurd rfl g
    refine⟨_,_,a1,fs,gs,rfl,J,bK,by omega,k1,aw,rg,ax,fun j d' g' h1 h2=>?_,af⟩;have:=aB j d' g' h1 h2;by_cases aP:j=i
    ·subst aP;rw[Ib (BL _)];rw[Ia (Bg _)]at this;rw[hd]at h1;cases h1;rw[this];exact .same cy
    ·by_cases am:j < i
     ·rw[Ib am]at this;rw[Ib (by omega)];exact this
     ·rw[Ia am]at this;rw[Ia (by omega)];exact this
  ·rintro σ H1 ⟨o3,o4,a1,fs,gs,rfl,J,bK,cz,k1,aw,rg,ax,aB,af⟩;have dq:=Bl xs.length;have c1:fs.length=dF.length:=by rw[rg.len,ax]
   have ad:iY dF gs:=iY.of (by omega) fun j d g h1 h2=>by
    have hj:=(AH.mp h1).1;have:=aB j d g h1 h2;rw[Ib (by omega)]at this;exact this
   refine⟨_,rfl,_,rfl,F,_,rfl,.inl ⟨bE aw,fun T2 aq=>?_⟩⟩;have sT:=aQ (o:=.tup fs) aq;refine⟨zZ2,fun W hW=>?_⟩;have sW:=aQ (o:=.lst [V.ref F,.ref T2]) hW;have sA:=sT.trans sW;have ac:=J.same sA;refine⟨_,rfl,p,c,ns,a1,_,rfl,ac,by omega,by decide,by decide,fun r5 a5 Z bj cm cw cf aK Y=>?_⟩;obtain⟨v,hv,hat5⟩:=g9 (xs:=[V.ref F,.ref T2]) (i:=r5) bj (by show r5 < 2;omega);have an:aY p H1 Z:=(bJ.but sA).trans Y;have bn:Z W=some (.lst [V.ref F,.ref T2]):=b8 aH ac Y;have aC:=b8 aw J an;have ah:Z T2=some (.tup fs):=aAp (sW _ _ aH) ac Y;have av:cG true Z fs gs:=aHW (nS rg fun a o _ e n=>an a o e (gO J e n));have c3:H T2=none:=aBC k1 J aq;have bF:∀ b,V.ref b∈fs→∀ ys,Z b=some (.lst ys)→H b=none∧b≠F:=fun b hb ys U=>by
    obtain⟨o,ho,hno⟩:=aAq rg hb;have aa:=(jT ho).2;have au:=an b o aa (gO J aa hno);rw[U]at au;cases au;exact af b hb ys aa
   refine⟨W,_,r5,_,rfl,rfl,bE bn,hat5,?_⟩;simp only[Al,Ao,or_false]at hv;rcases hv with rfl | rfl
   ·exact k _ (.list gs) a5 Z (.lst rfl aC (by omega) av) (hok gs ad).1 (ae gs ad) ⟨F,fs,rfl,hF,.inl aC,bF⟩ (by omega) (by omega) aK (k1.trans an)
   ·refine k _ (.tuple gs) a5 Z (.tup ah (by omega) av) (hok gs ad).2 (ae gs ad) ⟨T2,fs,rfl,c3,.inr ah,fun b hb ys U=>⟨(bF b hb ys U).1,fun z=>?_⟩⟩ (by omega) (by omega) aK (k1.trans an);rw[z,ah]at U;cases U
def iB:Ak→Bool
 | .tuple [f,h,a,i]=>cU f && cU h && dN 1 1000000 a && dN 0 10000000 i
 | _=>false
theorem wD{d:Ak}(h:iB d=true):∃(f:Str) (g a i:Ak),d=.tuple [.str f,g,a,i]∧bV f=true∧cU g=true∧dN 1 1000000 a=true∧dN 0 10000000 i=true:=by
 match d,h with
 | .tuple [.str f,g,a,i],h=>
  simp only[iB,cU,AY]at h;exact⟨f,g,a,i,rfl,h.1.1.1,h.1.1.2,h.1.2,h.2⟩
 | .tuple [.none,g,a,i],h=>simp[iB,cU]at h
 | .tuple [.bool _,g,a,i],h=>simp[iB,cU]at h
 | .tuple [.int _,g,a,i],h=>simp[iB,cU]at h
 | .tuple [.list _,g,a,i],h=>simp[iB,cU]at h
 | .tuple [.tuple _,g,a,i],h=>simp[iB,cU]at h
 | .tuple [.dict _,g,a,i],h=>simp[iB,cU]at h
mutual
inductive mY:Ak→Prop
 | non:mY .none
 | bl (b:Bool):mY (.bool b)
 | int (i:Int):mY (.int i)
 | str (z:Str):mY (.str z)
 | tup {ds:List Ak} (h:mZ ds):mY (.tuple ds)
inductive mZ:List Ak→Prop
 | nil:mZ []
 | cons {d:Ak} {ds:List Ak} (a:mY d) (r:mZ ds):mZ (d :: ds)
end
mutual
theorem RdV.unl{H:Hp}:∀{x:V}{d:Ak},RdV true H x d→mY d→RdV false H x d
 | _,_,.non,_=>.non
 | _,_,.bl b,_=>.bl b
 | _,_,.int i,_=>.int i
 | _,_,.str z h,_=>.str z h
 | _,_,.tup e B r,.tup h=>.tup e B (cG.unl r h)
theorem cG.unl{H:Hp}:∀{xs:List V}{ds:List Ak},cG true H xs ds→mZ ds→cG false H xs ds
 | _,_,.nil,_=>.nil
 | _,_,.cons a r,.cons b s=>.cons (RdV.unl a b) (cG.unl r s)
end
theorem rY:∀ R:List P3,mZ (R.map pD)
 | []=>.nil
 | x :: R=>.cons (.tup (.cons (.str _) (.cons (.str _) (.cons (.int _) .nil)))) (rY R)
theorem wE:∀ R:List Str,mZ (R.map AR)
 | []=>.nil
 | x :: R=>.cons (.str _) (wE R)
theorem f7.plain{word:Str}{ds:List Ak}(h:f7 word ds)(name:Str)(day:Int):mY (gE word name day ds):=by
 refine .tup (.cons (.str _) (.cons (.str _) (.cons (.int _) ?_)));cases h with
 | @part z R _ _ _ _ _=>exact .cons (.str _) (.cons (.tup (rY R)) .nil)
 | @join z R _ _ _ _ _=>exact .cons (.tup (wE R)) (.cons (.str _) .nil)
 | forfeit _ _=>exact .cons (.str _) (.cons (.str _) .nil)
 | measure _ _ _=>exact .cons (.str _) (.cons (.int _) .nil)
 | mend _ _ _=>exact .cons (.str _) (.cons (.str _) .nil)
 | alone _=>exact .cons (.str _) .nil
 | breach _ _ _ _ _ _ _=>exact .cons (.str _) (.cons (.int _) (.cons (.int _) (.cons (.int _) .nil)))
 | view _ _ _ _=>exact .cons (.str _) (.cons (.int _) (.cons (.str _) .nil))
def fmV(g0 g1 g2 g3 g4 g5 g6 g7:Ac):List (Key×V):=[(AA "part",.ref g0),(AA "join",.ref g1),(AA "forfeit",.ref g2),(AA "measure",.ref g3),(AA "mend",.ref g4),(AA "alone",.ref g5),(AA "breach",.ref g6),(AA "view",.ref g7)]
def fmR(g0 g1 g2 g3 g4 g5 g6 g7:Ac):List (Key×Ab):=[(AA "part",.ref g0),(AA "join",.ref g1),(AA "forfeit",.ref g2),(AA "measure",.ref g3),(AA "mend",.ref g4),(AA "alone",.ref g5),(AA "breach",.ref g6),(AA "view",.ref g7)]
theorem aJQ(W B O z J Y F U:Ac):KV (fmV W B O z J Y F U) (fmR W B O z J Y F U):=.cons ⟨rfl,rfl⟩ (.cons ⟨rfl,rfl⟩ (.cons ⟨rfl,rfl⟩ (.cons ⟨rfl,rfl⟩ (.cons ⟨rfl,rfl⟩ (.cons ⟨rfl,rfl⟩ (.cons ⟨rfl,rfl⟩ (.cons ⟨rfl,rfl⟩ (.nil))))))))
theorem d8(w:AS)(s:Str):AQ w.params s=aIJ w (AA s):=by
 first | rfl | (unfold aIJ hashStr AQ;rfl)
theorem isS(s:Str)(t:Tok):tQ (AA s) (.str s t)=true:=by
 show EY s (.str s t)=true;simp[EY]
theorem aH2{P:Ay}{w:AS}{K:Ah}{a:Ac}{e:Nat}{U Y W z O F J B:Tok}{g0 g1 g2 Z g4 g5 g6 g7:Ac}(l:K.lookup a=some { cls:=.type "dict",data:=.dict #[⟨AQ w.params "part",.str "part" U,.ref g0⟩,⟨AQ w.params "join",.str "join" Y,.ref g1⟩,⟨AQ w.params "forfeit",.str "forfeit" W,.ref g2⟩,⟨AQ w.params "measure",.str "measure" z,.ref Z⟩,⟨AQ w.params "mend",.str "mend" O,.ref g4⟩,⟨AQ w.params "alone",.str "alone" F,.ref g5⟩,⟨AQ w.params "breach",.str "breach" J,.ref g6⟩,⟨AQ w.params "view",.str "view" B,.ref g7⟩] e }):∀ h:A4,K.In h→h.DictOf (dE P w) a (fmR g0 g1 g2 Z g4 g5 g6 g7):=by
 intro h hK;refine⟨_,_,_,hK _ _ l,⟨rfl,rfl,rfl⟩,rfl,?_,?_,?_⟩
 ·intro en he;simp only[List.mem_toArray,Al,Ao,or_false]at he;rcases he with rfl | rfl | rfl | rfl | rfl | rfl | rfl | rfl
  ·exact⟨AA "part",isS "part" U,d8 w "part"⟩
  ·exact⟨AA "join",isS "join" Y,d8 w "join"⟩
  ·exact⟨AA "forfeit",isS "forfeit" W,d8 w "forfeit"⟩
  ·exact⟨AA "measure",isS "measure" z,d8 w "measure"⟩
  ·exact⟨AA "mend",isS "mend" O,d8 w "mend"⟩
  ·exact⟨AA "alone",isS "alone" F,d8 w "alone"⟩
  ·exact⟨AA "breach",isS "breach" J,d8 w "breach"⟩
  ·exact⟨AA "view",isS "view" B,d8 w "view"⟩
 ·exact .cons (isS "part" U) rfl (.cons (isS "join" Y) rfl (.cons (isS "forfeit" W) rfl (.cons (isS "measure" z) rfl (.cons (isS "mend" O) rfl (.cons (isS "alone" F) rfl (.cons (isS "breach" J) rfl (.cons (isS "view" B) rfl (.nil))))))))
 ·show([AA "part",AA "join",AA "forfeit",AA "measure",AA "mend",AA "alone",AA "breach",AA "view"]:List Key).Nodup;decide
theorem aIB(g0 Z g2 Y g4 g5 g6 g7:Ac)(kind:Str):iT (fmV g0 Z g2 Y g4 g5 g6 g7) (AA kind)=if kind="part" then some (.ref g0) else if kind="join" then some (.ref Z) else if kind="forfeit" then some (.ref g2) else if kind="measure" then some (.ref Y) else if kind="mend" then some (.ref g4) else if kind="alone" then some (.ref g5) else if kind="breach" then some (.ref g6) else if kind="view" then some (.ref g7) else none:=by
 unfold fmV;by_cases W:kind="part"
 ·rw[Ib W];subst W;rfl
 rw[dX (show¬ (AA "part":Key)=AA kind from fun z=>W (by injection z with z;exact z.symm)),Ia W];by_cases h1:kind="join"
 ·rw[Ib h1];subst h1;rfl
 rw[dX (show¬ (AA "join":Key)=AA kind from fun z=>h1 (by injection z with z;exact z.symm)),Ia h1];by_cases h2:kind="forfeit"
 ·rw[Ib h2];subst h2;rfl
 rw[dX (show¬ (AA "forfeit":Key)=AA kind from fun z=>h2 (by injection z with z;exact z.symm)),Ia h2];by_cases O:kind="measure"
 ·rw[Ib O];subst O;rfl
 rw[dX (show¬ (AA "measure":Key)=AA kind from fun z=>O (by injection z with z;exact z.symm)),Ia O];by_cases U:kind="mend"
 ·rw[Ib U];subst U;rfl
 rw[dX (show¬ (AA "mend":Key)=AA kind from fun z=>U (by injection z with z;exact z.symm)),Ia U];by_cases J:kind="alone"
 ·rw[Ib J];subst J;rfl
 rw[dX (show¬ (AA "alone":Key)=AA kind from fun z=>J (by injection z with z;exact z.symm)),Ia J];by_cases F:kind="breach"
 ·rw[Ib F];subst F;rfl
 rw[dX (show¬ (AA "breach":Key)=AA kind from fun z=>F (by injection z with z;exact z.symm)),Ia F];by_cases B:kind="view"
 ·rw[Ib B];subst B;rfl
 rw[dX (show¬ (AA "view":Key)=AA kind from fun z=>B (by injection z with z;exact z.symm)),Ia B];rfl
theorem aKL(g0 Y g2 W g4 g5 Z g7:Ac)(kind:Str):(iT (fmV g0 Y g2 W g4 g5 Z g7) (AA kind)).isSome=decide (kind∈eG):=by
 rw[aIB];simp only[eG,Al,Ao,or_false];by_cases U:kind="part"
 ·rw[Ib U,Ic (by simp[U])];rfl
 rw[Ia U];by_cases h1:kind="join"
 ·rw[Ib h1,Ic (by simp[h1])];rfl
 rw[Ia h1];by_cases h2:kind="forfeit"
 ·rw[Ib h2,Ic (by simp[h2])];rfl
 rw[Ia h2];by_cases J:kind="measure"
 ·rw[Ib J,Ic (by simp[J])];rfl
 rw[Ia J];by_cases O:kind="mend"
 ·rw[Ib O,Ic (by simp[O])];rfl
 rw[Ia O];by_cases F:kind="alone"
 ·rw[Ib F,Ic (by simp[F])];rfl
 rw[Ia F];by_cases B:kind="breach"
 ·rw[Ib B,Ic (by simp[B])];rfl
 rw[Ia B];by_cases z:kind="view"
 ·rw[Ib z,Ic (by simp[z])];rfl
 rw[Ia z];rw[decide_eq_false (by simp[U,h1,h2,J,O,F,B,z])];rfl
theorem aKM{P:Ay}{w:AS}{K:Ah}{mg:Str→Option Ab}{base:A4}{J B W z U Y O F:Ac}{d0:AE}(G0:cH P w K mg base CX0 6 J d0 ["rest"] (fZ yI))(k0:Aj K (.ref J)=true)(b0:c8 K d0 ["rest"] []){d1:AE}(G1:cH P w K mg base CX0 6 B d1 ["rest"] (fZ v9))(k1:Aj K (.ref B)=true)(b1:c8 K d1 ["rest"] []){d2:AE}(G2:cH P w K mg base CX0 6 W d2 ["rest"] (fZ iX))(k2:Aj K (.ref W)=true)(b2:c8 K d2 ["rest"] []){d3:AE}(G3:cH P w K mg base CX0 6 z d3 ["rest"] (fZ hX))(k3:Aj K (.ref z)=true)(b3:c8 K d3 ["rest"] []){d4:AE}(G4:cH P w K mg base CX0 6 U d4 ["rest"] (fZ qA))(k4:Aj K (.ref U)=true)(b4:c8 K d4 ["rest"] []){Z:AE}(G5:cH P w K mg base CX0 6 Y Z ["rest"] (fZ pF))(k5:Aj K (.ref Y)=true)(b5:c8 K Z ["rest"] []){d6:AE}(G6:cH P w K mg base CX0 6 O d6 ["rest"] (fZ hZ))(k6:Aj K (.ref O)=true)(b6:c8 K d6 ["rest"] []){d7:AE}(G7:cH P w K mg base CX0 6 F d7 ["rest"] (fZ p8))(k7:Aj K (.ref F)=true)(b7:c8 K d7 ["rest"] []):
  ∀(kind:Str) (v:V),iT (fmV J B W z U Y O F) (AA kind)=some v→∃(a:Ac) (fd:AE),v=.ref a∧cH P w K mg base CX0 6 a fd ["rest"] (fZ (dI kind))∧Aj K (.ref a)=true∧c8 K fd ["rest"] []:=by
 intro kind v h;rw[aIB]at h;by_cases h0:kind="part"
 ·rw[Ib h0]at h;cases h;subst h0;have e:dI "part"=yI:=by funext ds;unfold dI;rw[Ib rfl]
  exact⟨J,d0,rfl,by rw[e];exact G0,k0,b0⟩
 rw[Ia h0]at h;by_cases h1:kind="join"
 ·rw[Ib h1]at h;cases h;subst h1;have e:dI "join"=v9:=by funext ds;unfold dI;rw[Ia (by decide),Ib rfl]
  exact⟨B,d1,rfl,by rw[e];exact G1,k1,b1⟩
 rw[Ia h1]at h;by_cases h2:kind="forfeit"
 ·rw[Ib h2]at h;cases h;subst h2;have e:dI "forfeit"=iX:=by funext ds;unfold dI;rw[Ia (by decide),Ia (by decide),Ib rfl]
  exact⟨W,d2,rfl,by rw[e];exact G2,k2,b2⟩
 rw[Ia h2]at h;by_cases h3:kind="measure"
 ·rw[Ib h3]at h;cases h;subst h3;have e:dI "measure"=hX:=by funext ds;unfold dI;rw[Ia (by decide),Ia (by decide),Ia (by decide),Ib rfl]
  exact⟨z,d3,rfl,by rw[e];exact G3,k3,b3⟩
 rw[Ia h3]at h;by_cases h4:kind="mend"
 ·rw[Ib h4]at h;cases h;subst h4;have e:dI "mend"=qA:=by funext ds;unfold dI;rw[Ia (by decide),Ia (by decide),Ia (by decide),Ia (by decide),Ib rfl]
  exact⟨U,d4,rfl,by rw[e];exact G4,k4,b4⟩
 rw[Ia h4]at h;by_cases h5:kind="alone"
 ·rw[Ib h5]at h;cases h;subst h5;have e:dI "alone"=pF:=by funext ds;unfold dI;rw[Ia (by decide),Ia (by decide),Ia (by decide),Ia (by decide),Ia (by decide),Ib rfl]
  exact⟨Y,Z,rfl,by rw[e];exact G5,k5,b5⟩
 rw[Ia h5]at h;by_cases h6:kind="breach"
 ·rw[Ib h6]at h;cases h;subst h6;have e:dI "breach"=hZ:=by funext ds;unfold dI;rw[Ia (by decide),Ia (by decide),Ia (by decide),Ia (by decide),Ia (by decide),Ia (by decide),Ib rfl]
  exact⟨O,d6,rfl,by rw[e];exact G6,k6,b6⟩
 rw[Ia h6]at h;by_cases h7:kind="view"
 ·rw[Ib h7]at h;cases h;subst h7;have e:dI "view"=p8:=by funext ds;unfold dI;rw[Ia (by decide),Ia (by decide),Ia (by decide),Ia (by decide),Ia (by decide),Ia (by decide),Ia (by decide)]
  exact⟨F,d7,rfl,by rw[e];exact G7,k7,b7⟩
 rw[Ia h7]at h;cases h
def rkD:List (Key×V):=[(AA "measure",.int 0),(AA "mend",.int 2),(AA "alone",.int 2),(AA "breach",.int 3),(AA "view",.int 3)]
def rk(w:Str):Int:=if w="measure" then 0 else if w="mend"∨w="alone" then 2 else if w="breach"∨w="view" then 3 else 1
theorem aJR:∀ w∈eG,(iT rkD (AA w)).getD (.int 1)=.int (rk w):=by decide
inductive aDu(H:Hp)(x:V)(word name:Str)(day:Int):Prop
 | mk (t:_) (cI:_) (q0:x=.ref t) (q1:H t=some (.tup (.str word :: .str name :: .int day :: cI))) (q2:word∈eG):aDu H x word name day
def aID(H:Hp)(x:V)(word name:Str)(day:Int):Prop:=aDu H x word name day
theorem aGG{word name:Str}{day:Int}{cI:List V}:atI (V.str word :: .str name :: .int day :: cI) 0=some (.str word)∧atI (V.str word :: .str name :: .int day :: cI) 1=some (.str name)∧atI (V.str word :: .str name :: .int day :: cI) 2=some (.int day):=by
 have z:(V.str word :: V.str name :: V.int day :: cI).length=cI.length + 3:=rfl;unfold atI ixN;rw[z,Ib (by decide),Ib (by omega),Ib (by decide),Ib (by omega),Ib (by decide),Ib (by omega)];exact⟨rfl,rfl,rfl⟩
inductive yR(vs:List V)(H:Hp)(Q:VK)(u3_:XK):Prop
 | mk (x:V) (word name:Str) (day:Int) (q0:vs=[x]) (q1:aID H x word name day) (q2:∀(q:Ac) (H':Hp),bJ H H'→H' q=some (.tup [.int day,.int (rk word),.str name])→Q (.ref q) H'):yR vs H Q u3_
def oG:Sp:=fun vs H Q u3_=>yR vs H Q u3_
theorem aDv:bY ["_law_row_here","_law_ranks"] ["_law_row_here"] (aO rA):=⟨rfl,rfl,rfl,by decide,rfl,by decide,by decide⟩
theorem aGH{f:Ac}{fd:AE}(F:Fun K "_law_place" "_law_place" rA f fd):cH P w K mg base CX0 1 f fd ["_law_row_here"] oG:=by
 refine F.ok aDv (fun vs H Q E h=>?_) (fun U A outer s H vs Q E W h=>?_)
 ·obtain⟨x,word,name,day,rfl,_⟩:=h;rfl
 ·obtain⟨x,word,name,day,rfl,⟨t,cI,rfl,ht,hw⟩,k⟩:=h;have O:=aFe W;refine⟨_,aJ (bQ (i:=1) aDv.nd rfl (AG rfl) (aC2 (iU aX aI (iU aX aI (iU aX aI (iU aX aI (iU aX aI aC1))))) rfl rfl (by simp) (by decide)))
   (aU (bG (cQ (aG (cE cM (pv 0) aI Ig) (aG (aFd O (pv 1) (cE cM (pv 0) aI Ig) aI ⟨rfl,rfl,rfl,rfl⟩) (aG (cE cM (pv 0) aI Ig) aF)))))),?_⟩
  obtain⟨r0,r1,r2⟩:=aGG (word:=word) (name:=name) (day:=day) (cI:=cI);refine fun d hd=>?_;refine⟨aH,rkD,rfl,(by show 5≤15;decide),?_⟩;rw[show oY [] rkD=rkD by first | rfl | decide];have J:bJ H (upd (upd H d (.dK [])) d (.dK rkD)):=fun b o e=>by rw[aCM,aW (bB e hd)];exact e
  have B:upd (upd H d (.dK [])) d (.dK rkD) d=some (.dK rkD):=aH;generalize upd (upd H d (.dK [])) d (.dK rkD)=H2 at J B ⊢;have z:=J _ _ ht;refine⟨_,rfl,t,_,2,_,rfl,rfl,aZ z,r2,⟨_,rfl,d,rfl,.inl ⟨rkD,.inl B⟩,_,rfl,t,_,0,_,rfl,rfl,aZ z,r0,_,.inl ⟨rkD,AA word,.inl B,rfl,rfl⟩,?_⟩⟩;rw[aJR word hw];refine⟨_,rfl,t,_,1,_,rfl,rfl,aZ z,r1,zZ3,fun q Y=>?_⟩;exact k q _ (J.trans (aQ Y)) aH
def rkP:List (Key×V):=[(AA "measure",.int 0),(AA "part",.int 1),(AA "join",.int 1),(AA "forfeit",.int 1),(AA "mend",.int 2),(AA "alone",.int 2),(AA "breach",.int 3),(AA "view",.int 3)]
theorem aH3:∀ w∈eG,iT rkP (AA w)=some (.int (rk w)):=by decide
structure tG(w:AS)(K:Ah)(a:Ac):Prop where
 ex:∃(e:Nat) (x0 x1 x2 x3 x4 x5 x6 x7 y0 y1 y2 y3 y4 y5 y6 y7:Tok),K.lookup a=some { cls:=.type "dict",data:=.dict #[⟨AQ w.params "measure",.str "measure" x0,.int 0 y0⟩,⟨AQ w.params "part",.str "part" x1,.int 1 y1⟩,⟨AQ w.params "join",.str "join" x2,.int 1 y2⟩,⟨AQ w.params "forfeit",.str "forfeit" x3,.int 1 y3⟩,⟨AQ w.params "mend",.str "mend" x4,.int 2 y4⟩,⟨AQ w.params "alone",.str "alone" x5,.int 2 y5⟩,⟨AQ w.params "breach",.str "breach" x6,.int 3 y6⟩,⟨AQ w.params "view",.str "view" x7,.int 3 y7⟩] e }
theorem tG.dict{P:Ay}{w:AS}{K:Ah}{a:Ac}(r:tG w K a):∃ vs,KV rkP vs∧∀ h:A4,K.In h→h.DictOf (dE P w) a vs:=by
 obtain⟨e,x0,x1,x2,x3,x4,x5,x6,x7,y0,y1,y2,y3,y4,y5,y6,y7,l⟩:=r.ex;refine⟨[(AA "measure",.int 0 y0),(AA "part",.int 1 y1),(AA "join",.int 1 y2),(AA "forfeit",.int 1 y3),(AA "mend",.int 2 y4),(AA "alone",.int 2 y5),(AA "breach",.int 3 y6),(AA "view",.int 3 y7)],?_,fun h B=>⟨_,_,_,B _ _ l,⟨rfl,rfl,rfl⟩,rfl,?_,?_,?_⟩⟩
 ·exact .cons ⟨rfl,_,rfl⟩ (.cons ⟨rfl,_,rfl⟩ (.cons ⟨rfl,_,rfl⟩ (.cons ⟨rfl,_,rfl⟩ (.cons ⟨rfl,_,rfl⟩ (.cons ⟨rfl,_,rfl⟩ (.cons ⟨rfl,_,rfl⟩ (.cons ⟨rfl,_,rfl⟩ (.nil))))))))
 ·intro F z;simp only[List.mem_toArray,Al,Ao,or_false]at z;rcases z with rfl | rfl | rfl | rfl | rfl | rfl | rfl | rfl
  ·exact⟨AA "measure",isS "measure" x0,d8 w "measure"⟩
  ·exact⟨AA "part",isS "part" x1,d8 w "part"⟩
  ·exact⟨AA "join",isS "join" x2,d8 w "join"⟩
  ·exact⟨AA "forfeit",isS "forfeit" x3,d8 w "forfeit"⟩
  ·exact⟨AA "mend",isS "mend" x4,d8 w "mend"⟩
  ·exact⟨AA "alone",isS "alone" x5,d8 w "alone"⟩
  ·exact⟨AA "breach",isS "breach" x6,d8 w "breach"⟩
  ·exact⟨AA "view",isS "view" x7,d8 w "view"⟩
 ·exact .cons (isS "measure" x0) rfl (.cons (isS "part" x1) rfl (.cons (isS "join" x2) rfl (.cons (isS "forfeit" x3) rfl (.cons (isS "mend" x4) rfl (.cons (isS "alone" x5) rfl (.cons (isS "breach" x6) rfl (.cons (isS "view" x7) rfl (.nil))))))))
 ·show([AA "measure",AA "part",AA "join",AA "forfeit",AA "mend",AA "alone",AA "breach",AA "view"]:List Key).Nodup;decide
theorem aH4:bY ["row"] ["row"] (aO qX):=⟨rfl,rfl,rfl,by decide,rfl,by decide,by decide⟩
theorem aGI{f:Ac}{fd:AE}(F:Fun K "order" "order" qX f fd){z:Ac}(R:tG w K z)(B:mg "RANKS"=some (.ref z)):cH P w K mg base CX0 1 f fd ["row"] oG:=by
 refine F.ok aH4 (fun vs H Q E h=>?_) (fun J A outer s H vs Q E U h=>?_)
 ·obtain⟨x,word,name,day,rfl,_⟩:=h;rfl
 ·obtain⟨x,word,name,day,rfl,⟨t,cI,rfl,ht,hw⟩,k⟩:=h;obtain⟨rvs,rel,hd⟩:=R.dict (P:=P);refine⟨_,aU (bG (cQ (aG (cE cM (pv 0) aI Ig) (aG (aC6 hd rel (by rfl) B (cE cM (pv 0) aI Ig) Ig) (aG (cE cM (pv 0) aI Ig) aF))))),?_⟩;obtain⟨r0,r1,r2⟩:=aGG (word:=word) (name:=name) (day:=day) (cI:=cI);refine⟨_,rfl,t,_,2,_,rfl,rfl,aZ ht,r2,_,rfl,t,_,0,_,rfl,rfl,aZ ht,r0,AA word,_,rfl,aH3 word hw,_,rfl,t,_,1,_,rfl,rfl,aZ ht,r1,zZ3,fun q O=>?_⟩;exact k q _ (aQ O) aH
def aJS(ds:List Ak):Prop:=∀ d∈ds,iB d=true∧OkD 5000 1 d∧d.hasDict=false
def tH(f h:Str)(a i:Int):Ak:=.tuple [.str f,.str h,.int a,.int i]
theorem aCD{f h:Str}{a i:Int}(z:bV f=true)(B:bV h=true)(a1:1≤a)(a2:a≤1000000)(F:0≤i)(J:i≤10000000):iB (tH f h a i)=true∧OkD 5000 1 (tH f h a i)∧(tH f h a i).hasDict=false:=by
 refine⟨?_,?_,rfl⟩
 ·show(bV f && bV h && decide (1≤a∧a≤1000000) && decide (0≤i∧i≤10000000))=true;rw[z,B,Ic ⟨a1,a2⟩,Ic ⟨F,J⟩];rfl
 ·have b:(10000000:Int) < 10 ^ 60:=by decide
  refine(OkD.tuple (n:=4) (b:=102) (k:=0) (fun d hd=>?_) (by show 4≤4;decide)).mono (by decide) (by decide);simp only[Al,Ao,or_false]at hd;rcases hd with rfl | rfl | rfl | rfl
  ·exact OkD.name z
  ·exact OkD.name B
  ·exact OkD.int (by omega) (by omega)
  ·exact OkD.int (by omega) (by omega)
inductive yS(vs:List V)(H:Hp)(Q:VK)(u3_:XK):Prop
 | mk (p c:Ac) (ns:List Int) (a:Int) (lf lh:Ac) (ws hs:List Str) (q0:vs=[.ref p,.ref lf,.ref lh]) (q1:cJ H p c ns a) (q2:a≤800000) (q3:H lf=some (.lst (ws.map V.str))) (q4:(∀ w∈ws,bV w=true)) (q5:ws.length≤44) (q6:H lh=some (.lst (hs.map V.str))) (q7:(∀ w∈hs,bV w=true)) (q8:1≤hs.length) (q9:hs.length≤44) (q10:∀ t xs ds a' H',H' t=some (.tup xs)→cG false H' xs ds→aJS ds→ds.map fU=ws→a≤a'→a'≤a + 400→cJ H' p c ns a'→aY p H H'→Q (.ref t) H'):yS vs H Q u3_
def aDw:Sp:=fun vs H Q u3_=>yS vs H Q u3_
theorem tI:bY ["_law_pen_here","_law_fields","_law_houses","_law_found","_law_field","_law_house"] ["_law_pen_here","_law_fields","_law_houses"] (aO qZ):=⟨rfl,rfl,rfl,by decide,rfl,by decide,by decide⟩
theorem aGJ{f:Ac}{fd:AE}(F:Fun K "_law_laying" "_law_laying" qZ f fd)(ah:mg "len"=none)(ak:mg "tuple"=none)
  (GT:Cl P w K mg base 1 "_law_take" ["_law_pen_here","_law_many"] hV)
  (GN:Cl P w K mg base 2 "_law_number" ["_law_pen_here","_law_bottom","_law_most"] aGu):
  cH P w K mg base CX0 3 f fd ["_law_pen_here","_law_fields","_law_houses"] aDw:=by
 refine F.ok tI (fun vs H Q E h=>?_) (fun bp A outer s H vs Q E hr h=>?_)
 ·obtain⟨p,c,ns,a,lf,lh,ws,hs,rfl,_⟩:=h;rfl
 ·obtain⟨p,c,ns,a,lf,lh,ws,hs,rfl,hp,ha,hlf,hw,hwl,hlh,hh,hl1,hl2,k⟩:=h;have az:cY 1 _:=hr.mono (by decide);refine⟨_,aJ (bQ (i:=3) tI.nd rfl (AG rfl) (dM aF))
   (aJ (kE B1 rfl (nV (pv 1)) (bU (i:=4) tI.nd rfl (AG rfl))
    (aJ (bQ (i:=5) tI.nd rfl (AG rfl) (cE c9 (pv 2) (cB GT az (aG (pv 0) (aG (aV bH (by rfl) ah AO (aG (pv 2) aF)) aF))) Ig))
    (aU (gW (jX A7 Bn Bm fS (pv 3) (aG (cQ (aG (pv 4) (aG (pv 5) (aG (cB GN hr (aG (pv 0) (aG aI (aG (cA kH aI aI) aF)))) (aG (cB GN hr (aG (pv 0) (aG aI (aG (cA kH aI aI) aF)))) aF))))) aF))))))
   (aU (bG (cV cW (by rfl) ak (by kernel_rfl) (aG (pv 3) aF))))),?_⟩
  have cp:∀ j:Int,0≤j→j≤1000000→aI0 10 j:=fun j h1 h2=>⟨h1,h2,by decide⟩
  have p6:((10:Int) ^ C1 6)=1000000:=by decide
  have p7:((10:Int) ^ C1 7)=10000000:=by decide
  have e9:(10:Int) ^ 9=1000000000:=by decide
  refine⟨Bu _,fun L hL=>?_⟩;have S0:=aQ (o:=.lst []) hL;have ba:L≠p:=by
   obtain⟨l,_,z⟩:=hp.ob;exact(bB z hL).symm
  have ay:L≠c:=(bB hp.ce hL).symm;have aD:lf≠L:=bB hlf hL;have aM:lh≠L:=bB hlh hL;refine⟨_,rfl,lf,rfl,⟨_,bE (S0 _ _ hlf)⟩,aAz (K:=K) (xs:=ws.map V.str) (fun i σ H'=>Ex3 fun(o4 o5:Option V) (a':Int)=>∃(xs:List V) (ds:List Ak),Aw6 (σ=[some (.ref p),some (.ref lf),some (.ref lh),some (.ref L),o4,o5]) (H' L=some (.lst xs)) (cG false H' xs ds) (aJS ds) (ds.map fU=ws.take i) (Aw6 (cJ H' p c ns a') (a≤a') (a'≤a + 8 * i) (aY p H H') (H' lf=some (.lst (ws.map V.str))) (H' lh=some (.lst (hs.map V.str)))))
   ⟨none,none,a,[],[],rfl,aH,.nil,(fun d hd=>by simp at hd),by simp,hp.same S0,by omega,by simp,bJ.but S0,S0 _ _ hlf,S0 _ _ hlh⟩ (fun i σ H' _ h=>?_) ?_ ?_⟩
  ·obtain⟨_,_,_,_,_,_,_,_,_,_,_,_,_,_,h,_⟩:=h;exact bE h
  ·rintro i x σ H1 hx ⟨o4,o5,a1,xs,ds,rfl,W,Z,ad,U,B,an,ao,ac,aa,O⟩;have hi:i < ws.length:=by
    have:=(AH.mp hx).1;simpa using this
   obtain⟨fn,hfn,rfl⟩:∃ fn,ws[i]?=some fn∧x=V.str fn:=by
    rw[AK]at hx;cases e:ws[i]? with
    | none=>rw[e]at hx;cases hx
    | some z=>rw[e]at hx;exact⟨z,rfl,(BS.inj hx).symm⟩
   dsimp only[dG];refine⟨_,rfl,_,rfl,_,rfl,lh,_,rfl,.inl (bE O),p,c,ns,a1,_,rfl,B,by omega,by rw[Ae];omega,by rw[Ae];omega,fun r1 a2 H2 aP aA l2 u2 aL Y=>?_⟩;have aj:=b8 O B Y;obtain⟨v,hv,hat⟩:=g9 (xs:=hs.map V.str) (i:=r1) aP aA;obtain⟨hn,hhn,rfl⟩:=Bd.mp hv;refine⟨lh,_,r1,_,rfl,rfl,bE aj,hat,?_⟩;have bc:=b8 W B Y;refine⟨_,rfl,.inl ⟨rfl,_,bE bc⟩,_,rfl,_,rfl,_,rfl,_,_,rfl,rfl,cp _ (by decide) (by decide),p,c,ns,a2,1,1000000,(by show[V.ref p,V.int 1,V.int ((10:Int) ^ C1 6)] ++ []=_;rw[p6];rfl),aL,by omega,by decide,by decide,by omega,fun n1 a3 H3 a0 aE l3 u3 aR aq=>?_⟩;refine⟨_,rfl,_,_,rfl,rfl,cp _ (by decide) (by decide),p,c,ns,a3,0,10000000,(by show[V.ref p,V.int 0,V.int ((10:Int) ^ C1 7)] ++ []=_;rw[p7];rfl),aR,by omega,by decide,by decide,by omega,fun n2 a4 H4 ax aw l4 u4 aN am=>?_⟩;refine⟨zZ4,fun q hq=>?_⟩;have sq:=aQ (o:=.tup [V.str fn,.str hn,.int n1,.int n2]) hq;have J:=((Y.trans aq).trans am).same sq;have ap:=b8 W B J;have aT:q≠L:=(bB (b8 W B ((Y.trans aq).trans am)) hq).symm;have aB:=aCD (hw fn (AF hfn)) (hh hn hhn) a0 aE ax aw;have bn:xs.length≤44:=by
    have e1:=Z.len;have e2:=congrArg Gc U;rw[Ae,AX]at e2;omega
   refine⟨L,xs,_,rfl,rfl,ap,lC (by omega),?_⟩;have ai:=aAo Z B J;have kL:∀(b:Ac) (o:HO),upd H4 q (.tup [V.str fn,.str hn,.int n1,.int n2]) b=some o→b≠L→upd (upd H4 q (.tup [V.str fn,.str hn,.int n1,.int n2])) L (.lst (xs ++ [V.ref q])) b=some o:=fun b o e ne=>by rw[aW ne];exact e
   refine⟨_,_,a4,xs ++ [V.ref q],ds ++ [tH fn hn n1 n2],rfl,aH,?_,?_,?_,?_,by omega,by omega,?_,?_,?_⟩
   ·refine cG.app (ai.keepF fun b o e _ aK=>kL b o e fun z=>?_) (.cons (.tup (kL _ _ aH aT) (by show 4≤1000;decide) (.cons (.str _ (by have:=f9 (hw fn (AF hfn));omega)) (.cons (.str _ (by have:=f9 (hh hn hhn);omega)) (.cons (.int _) (.cons (.int _) .nil))))) .nil);rw[z,ap]at e;exact aK _ (BS.inj e).symm
   ·intro d hd;rcases Bf.mp hd with z | z
    ·exact ad d z
    ·rw[Bx.mp z];exact aB
   ·rw[AU,U,Bk,hfn];rfl
   ·obtain⟨⟨l,hl,e⟩,ce,ge,sm⟩:=aN.same sq;exact⟨⟨l,hl,kL _ _ e ba.symm⟩,kL _ _ ce ay.symm,ge,sm⟩
   ·intro b o e ne;exact kL b o ((ac.trans J) b o e ne) (bB e hL)
   ·exact kL _ _ (b8 aa B J) aD
   ·exact kL _ _ (b8 O B J) aM
  ·rintro σ H1 ⟨o4,o5,a1,xs,ds,rfl,W,Z,ad,U,B,an,ao,ac,aa,O⟩;rw[Ae]at ao U;rw[BJ]at U;refine⟨_,rfl,L,xs,rfl,.inl ⟨bE W,fun t ht=>?_⟩⟩;have S1:=aQ (o:=.tup xs) ht;exact k t xs ds a1 _ aH (Z.same S1) ad U an (by omega) (B.same S1) (ac.same S1)
theorem f7.fourth{word:Str}{ds:List Ak}(h:f7 word ds):∃ d B,ds=d :: B∧(inV (.str word) [V.str "measure",.str "breach",.str "view"]=true→∃ z,d=.str z):=by
 cases h with
 | part _ _ _ _ _=>exact⟨_,_,rfl,fun z=>absurd z (by decide)⟩
 | join _ _ _ _ _=>exact⟨_,_,rfl,fun z=>absurd z (by decide)⟩
 | forfeit _ _=>exact⟨_,_,rfl,fun z=>absurd z (by decide)⟩
 | measure _ _ _=>exact⟨_,_,rfl,fun z=>⟨_,rfl⟩⟩
 | mend _ _ _=>exact⟨_,_,rfl,fun z=>absurd z (by decide)⟩
 | alone _=>exact⟨_,_,rfl,fun z=>absurd z (by decide)⟩
 | breach _ _ _ _ _ _ _=>exact⟨_,_,rfl,fun z=>⟨_,rfl⟩⟩
 | view _ _ _ _=>exact⟨_,_,rfl,fun z=>⟨_,rfl⟩⟩
structure cC where
 word:Str
 name:Str
 day:Int
 ds:List Ak
def cC.d(r:cC):Ak:=gE r.word r.name r.day r.ds
def cC.key(r:cC):L2.K3:=(r.day,rk r.word,r.name)
structure cC.Ok(r:cC)(fs:List Str):Prop where
 rs:f7 r.word r.ds
 nm:bV r.name=true
 d0:0≤r.day
 d1:r.day≤9999
 fi:FIn r.word r.ds fs
theorem cC.Ok.row{r:cC}{fs:List Str}(h:r.Ok fs):rowD r.d=true:=aGA h.rs h.nm h.d0 h.d1
theorem cC.Ok.at{r:cC}{fs:List Str}(h:r.Ok fs){m:Bool}{H:Hp}{x:V}(rd:RdV m H x r.d):aID H x r.word r.name r.day:=by
 unfold cC.d gE at rd;cases rd with
 | @tup a xs _ e J q=>
  cases q with
  | cons B q=>
   cases q with
   | cons F q=>
    cases q with
    | cons z q=>
     cases B;cases F;cases z;exact⟨a,_,rfl,e,h.rs.word⟩
inductive aDx(H:Hp)(t:Ac)(ws:List Str):Prop
 | mk (ps:_) (q0:H t=some (.tup ps)) (q1:ps.length=ws.length) (q2:∀(i:Nat) (x:V),ps[i]?=some x→∃(b:Ac) (z:Str) (cI:List V),x=.ref b∧H b=some (.tup (.str z :: cI))∧ws[i]?=some z):aDx H t ws
def wF(H:Hp)(t:Ac)(ws:List Str):Prop:=aDx H t ws
theorem wF.same{H H':Hp}{t:Ac}{B:List Str}(h:wF H t B)(s:bJ H H'):wF H' t B:=by
 obtain⟨ps,e,hl,ha⟩:=h;refine⟨ps,s _ _ e,hl,fun i x F=>?_⟩;obtain⟨b,z,cI,ex,eb,hw⟩:=ha i x F;exact⟨b,z,cI,ex,s _ _ eb,hw⟩
theorem wF.of{m:Bool}{H:Hp}{t:Ac}{ds:List Ak}(r:RdV m H (.ref t) (.tuple ds))(F:ds.all iB=true):wF H t (ds.map fU):=by
 cases r with
 | @tup _ xs _ e Z q=>
  refine⟨xs,e,by rw[q.len,Ae],fun i x O=>?_⟩;obtain⟨d,hd,rd⟩:=q.at O;have z:=A3.mp F d (AF hd);obtain⟨f,g,a,j,rfl,_⟩:=wD z;cases rd with
  | @tup b ys _ U W J=>
   cases J with
   | cons B Y=>
    cases B;exact⟨b,f,_,rfl,U,by rw[AK,hd];rfl⟩
inductive aIE(H:Hp)(x:V)(r:cC):Prop
 | mk (d:_) (q0:RdV true H x d) (q1:eZ (dP 3 d) r.d):aIE H x r
def Thg(H:Hp)(x:V)(r:cC):Prop:=aIE H x r
theorem aCE{word name:Str}{day:Int}{ds:List Ak}(h:f7 word ds):A2 (AR word :: AR name :: Dn day :: ds)=false:=by
 show(false || (false || (false || A2 ds)))=false;rw[h.nodict];rfl
def aBD(os:List cC):Prop:=os.Pairwise fun a b=>m6 a.key b.key=true
theorem pJ:∀{l m:List cC},l.Perm m→aBD l→aBD m→l=m
 | [],m,h,_,_=>(List.Perm.eq_nil h.symm).symm
 | x :: r,[],h,_,_=>by simpa using h.length_eq
 | x :: r,y :: q,h,h1,h2=>by
  obtain⟨a1,a2⟩:=CN.mp h1;obtain⟨b1,b2⟩:=CN.mp h2;have e:x=y:=by
   rcases Al.mp (h.mem_iff.mp (AL (a:=x) (l:=r)))with e | hx
   ·exact e
   ·rcases Al.mp (h.mem_iff.mpr (AL (a:=y) (l:=q)))with e | hy
    ·exact e.symm
    ·have:=vE (a1 y hy) (b1 x hx);rw[aA7]at this;cases this
  subst e;rw[pJ ((FQ x).mp h) a2 b2]
theorem aEE{B:List cC}{kk:List L2.K3}{p:List Nat}(U:kk=B.map cC.key)(hn:(B.map (·.name)).Nodup)(W:z9 kk p){d:cC}:(p.map fun i=>B.getD i d).Perm B∧aBD (p.map fun i=>B.getD i d):=by
 subst U;obtain⟨hp,hs⟩:=W;rw[Ae]at hp;have J:∀ i∈p,i < B.length:=fun i hi=>BC.mp (hp.mem_iff.mp hi);have O:(B.map cC.key).Nodup:=by
  refine Cy.mpr ((Cy.mp hn).imp fun{a b} h e=>h ?_);exact congrArg (fun z:L2.K3=>z.2.2) e
 refine⟨?_,?_⟩
 ·refine(hp.map _).trans (List.Perm.of_eq ?_);apply CB;intro j;rw[AK];by_cases F:j < B.length
  ·rw[Dk F,Ag F];simp[F]
  ·rw[A0 (by simpa using F),A0 (by omega)];rfl
 ·have h:=hs O;have e:(p.map fun i=>(B.map cC.key).getD i k0)=(p.map fun i=>B.getD i d).map cC.key:=by
   rw[CA];refine D2 fun i hi=>?_;have:=J i hi;simp[this]
  rw[e]at h;exact Cy.mp h
structure dS(H:Hp)(xs:List V)(us:List cC)(fs:List Str):Prop where
 len:xs.length=us.length
 at':∀(i:Nat) (x:V),xs[i]?=some x→∃ u,us[i]?=some u∧RdV false H x u.d∧u.Ok fs
theorem dS.same{H H':Hp}{xs:List V}{z:List cC}{fs:List Str}(h:dS H xs z fs)(s:bJ H H'):dS H' xs z fs:=
 ⟨h.len,fun i x B=>by obtain⟨u,a,b,c⟩:=h.at' i x B;exact⟨u,a,b.same s,c⟩⟩
theorem dS.rdvs{H:Hp}:∀{xs:List V}{z:List cC}{fs:List Str},dS H xs z fs→cG false H xs (z.map cC.d)
 | [],[],_,_=>.nil
 | [],_ :: _,_,h=>by have:=h.len;simp at this
 | _ :: _,[],_,h=>by have:=h.len;simp at this
 | x :: xs,u :: z,fs,h=>by
  obtain⟨u',e,r,_⟩:=h.at' 0 x rfl;have B:u=u':=by simpa using e
  subst B;exact .cons r (dS.rdvs ⟨by simpa using h.len,fun i y F=>h.at' (i + 1) y F⟩)
inductive aDy(H:Hp)(y:V)(k:L2.K3):Prop
 | mk (t:_) (cI:_) (w:_) (n:_) (d:_) (q0:y=.ref t) (q1:H t=some (.tup (.str w :: .str n :: .int d :: cI))) (q2:k=(d,rk w,n)):aDy H y k
def yT(H:Hp)(y:V)(k:L2.K3):Prop:=aDy H y k
theorem aGK{H:Hp}{y:V}{k:L2.K3}{u:cC}{fs:List Str}(h:yT H y k)(r:RdV false H y u.d)(ok:u.Ok fs):k=u.key:=by
 obtain⟨t,cI,w,n,d,rfl,e,rfl⟩:=h;obtain⟨t',rest',e1,e2,_⟩:=ok.at r;cases e1;rw[e]at e2;cases e2;rfl
theorem pK{H1 H':Hp}{xs:List V}{z:List cC}{fs:List Str}{kk:List L2.K3}{p:List Nat}(hR:dS H1 xs z fs)(hn:(z.map (·.name)).Nodup)(ad:kk.length=xs.length)(hk:∀ i,i < xs.length→yT H1 (xs.getD i .non) (kk.getD i k0))(ho:z9 kk p)(s:bJ H1 H'):
  ∃ os:List cC,os.Perm z∧aBD os∧dS H' (p.map fun i=>xs.getD i .non) os fs:=by
 have ac:=hR.len;have ek:kk=z.map cC.key:=by
  apply Fp (by rw[Ae];omega);intro i h1 h2;have hi:i < xs.length:=by omega
  have Y:i < z.length:=by omega
  obtain⟨u,e,r,ok⟩:=hR.at' i xs[i] (Ag hi);have eu:z[i]=u:=by rw[Ag Y]at e;simpa using e
  have h3:=hk i hi;have O:xs.getD i .non=xs[i]:=by simp[hi]
  have e2:kk.getD i k0=kk[i]:=by simp[h1]
  rw[O,e2]at h3;rw[CJ,eu];exact aGK h3 r ok
 cases z with
 | nil=>
  have F:xs=[]:=Bq (by simpa using ac);have W:p=[]:=by
   have h:=ho.1.length_eq;rw[ad,F]at h;simpa using h
  subst F W;exact⟨[],CW _,D1,⟨rfl,fun i x J=>by simp at J⟩⟩
 | cons Z U=>
  obtain⟨h1,h2⟩:=aEE (d:=Z) ek hn ho;refine⟨_,h1,h2,⟨by rw[Ae,Ae],fun i x J=>?_⟩⟩;rw[AK]at J;obtain⟨j,hj,rfl⟩:=Ex.mp J;have B:j < xs.length:=by
   have:=BC.mp (ho.1.mem_iff.mp (AF hj));omega
  obtain⟨u,e,r,ok⟩:=hR.at' j xs[j] (Ag B);refine⟨u,?_,?_,ok⟩
  ·rw[AK,hj];show some ((Z :: U).getD j Z)=some u;rw[Aw,e];rfl
  ·have O:xs.getD j .non=xs[j]:=by simp[B]
   rw[O];exact r.same s
theorem aAr{H1:Hp}{xs:List V}{O:List cC}{fs:List Str}(W:dS H1 xs O fs):∀ y∈xs,∀(H':Hp) (Q:VK),bJ H1 H'→(∀ t a b c z,bJ H' z→z t=some (.tup [.int a,.int b,.str c])→yT H1 y (a,b,c)→Q (.ref t) z)→oG [y] H' Q E0:=fun y J H' Q S h=>by
 obtain⟨i,hi⟩:=Ce J;obtain⟨u,_,r,ok⟩:=W.at' i y hi;have B:=ok.at r;obtain⟨t,cI,rfl,e,hw⟩:=B;exact⟨_,u.word,u.name,u.day,rfl,⟨t,cI,rfl,S _ _ e,hw⟩,fun q H2 F U=>h q _ _ _ H2 F U ⟨t,cI,_,_,_,rfl,e,rfl⟩⟩
inductive aDz(vs:List V)(H:Hp)(Q:VK)(u3_:XK):Prop
 | mk (p c:Ac) (ns:List Int) (a:Int) (name:Str) (day:Int) (tS lf lp lh:Ac) (fs ps hs:List Str) (q0:vs=[.ref p,.str name,.int day,.ref tS]) (q1:cJ H p c ns a) (q2:a≤600000) (q3:H tS=some (.tup [.ref lf,.ref lp,.ref lh])) (q4:S3 H lf lp lh fs ps hs) (q5:bV name=true) (q6:0≤day) (q7:day≤9999) (q8:∀(x:V) (r:cC) (a':Int) (H':Hp),RdV false H' x r.d→r.name=name→r.Ok fs→a≤a'→a'≤a + 90→cJ H' p c ns a'→aY p H H'→Q x H'):aDz vs H Q u3_
def aIF:Sp:=fun vs H Q u3_=>aDz vs H Q u3_
theorem aIG:bY ["_law_pen_here","_law_name","_law_day","_law_sorts_here","_law_terms"] ["_law_pen_here","_law_name","_law_day","_law_sorts_here"] (aO aEk):=⟨rfl,rfl,rfl,by decide,rfl,by decide,by decide⟩
theorem aJT{f:Ac}{fd:AE}(F:Fun K "_law_row" "_law_row" aEk f fd)
  (GT:Cl P w K mg base 1 "_law_take" ["_law_pen_here","_law_many"] hV)
  (GR:Cl P w K mg base 3 "_law_row_of" ["_law_pen_here","_law_word","_law_name","_law_day","_law_sorts_here"] aDs):
  cH P w K mg base CX0 4 f fd ["_law_pen_here","_law_name","_law_day","_law_sorts_here"] aIF:=by
 refine F.ok aIG (fun vs H Q E h=>?_) (fun an A outer s H vs Q E hr h=>?_)
 ·obtain⟨p,c,ns,a,name,day,tS,lf,lp,lh,fs,ps,hs,rfl,_⟩:=h;rfl
 ·obtain⟨p,c,ns,a,name,day,tS,lf,lp,lh,fs,ps,hs,rfl,hp,ha,htS,h3,hnm,d0,d1,k⟩:=h;have ae:cY 1 _:=hr.mono (by decide);refine⟨_,aJ (bQ (i:=4) aIG.nd rfl (AG rfl) (dM (aG aX (aG aX (aG aX (aG aX (aG aX (aG aX (aG aX (aG aX (aG aX (aG aX aF))))))))))))
   (aU (bG (cB GR hr (aG (pv 0) (aG (cE c9 (pv 4) (cB GT ae (aG (pv 0) (aG aI aF))) Ig) (aG (pv 1) (aG (pv 2) (aG (pv 3) aF)))))))),?_⟩
  refine⟨aKD,fun L hL=>?_⟩;have Y:=aQ (o:=.lst [V.str "part",.str "join",.str "forfeit",.str "measure",.str "mend",.str "alone",.str "breach",.str "view",.str "part",.str "join"]) hL;refine⟨_,rfl,_,rfl,_,rfl,p,c,ns,a,_,rfl,hp.same Y,by omega,by decide,by decide,fun O a1 H1 W ap ak ai ad B=>?_⟩;obtain⟨v,hv,hat⟩:=g9 (xs:=[V.str "part",.str "join",.str "forfeit",.str "measure",.str "mend",.str "alone",.str "breach",.str "view",.str "part",.str "join"]) (i:=O) W (by show O < 10;omega);obtain⟨word,rfl,hw⟩:∃ word:Str,v=.str word∧word∈eG:=by
   simp only[Al,Ao,or_false]at hv;rcases hv with rfl | rfl | rfl | rfl | rfl | rfl | rfl | rfl | rfl | rfl <;> exact⟨_,rfl,by decide⟩
  have k1:aY p H H1:=(bJ.but Y).trans B;refine⟨L,_,O,_,rfl,rfl,bE (b8 aH (hp.same Y) B),hat,_,rfl,_,rfl,_,rfl,p,c,ns,a1,word,name,day,tS,lf,lp,lh,fs,ps,hs,rfl,ad,by omega,aAp htS hp k1,h3.but hp k1,hw,hnm,fun t ds cI a2 H2 ht z J aa ah ao Z U=>?_⟩;have aq:=z.len;have ag:=J.len;exact k (.ref t) ⟨word,name,day,ds⟩ a2 H2 (.tup ht (by simp only[A1];omega) (.cons (.str word (aGB hw)) (.cons (j8 hnm) (.cons (.int day) z)))) rfl ⟨J,hnm,d0,d1,aa⟩ (by omega) (by omega) Z (k1.trans U)
theorem aBE:∀ R:List P3,plL (R.map pD)=true
 | []=>rfl
 | p :: R=>by simp[plL,plD,pD,aBE R]
theorem aDA:∀ R:List Str,plL (R.map AR)=true
 | []=>rfl
 | p :: R=>by simp[plL,plD,aDA R]
theorem yU:∀ R:List P3,Bo (R.map pD)≤1
 | []=>by simp[Bo]
 | p :: R=>by
  have:=yU R;simp[Bo,BM,pD];omega
theorem aBF:∀ R:List Str,Bo (R.map AR)=0
 | []=>by simp[Bo]
 | p :: R=>by simp[Bo,BM,aBF R]
theorem yV:∀ R:List P3,(R.map pD).all gJ=true→Bj (R.map pD)=true
 | [],_=>by simp[Bj]
 | p :: R,h=>by
  rw[A8,CV,AY]at h;have h1:(bV p.1 && bV p.2.1 && decide (1≤p.2.2∧p.2.2≤10000000))=true:=h.1;rw[AY,AY]at h1;simp[Bj,BV,pD,dZ h1.1.1,dZ h1.1.2];exact yV R h.2
theorem aBG:∀ R:List Str,(R.map AR).all cU=true→Bj (R.map AR)=true
 | [],_=>by simp[Bj]
 | p :: R,h=>by
  rw[A8,CV,AY]at h;simp[Bj,BV,dZ (show bV p=true from h.1)];exact aBG R h.2
theorem f7.pll{word:Str}{ds:List Ak}(h:f7 word ds):plL ds=true∧Bj ds=true∧Bo ds≤2:=by
 cases h with
 | @part B R J _ _ _ ha=>
  have:=yU R;exact⟨by simp[plL,plD,aBE],by simp[Bj,BV,dZ J,yV R ha],by simp[Bo,BM];omega⟩
 | @join B R J _ _ _ ha=>exact⟨by simp[plL,plD,aDA],by simp[Bj,BV,dZ J,aBG R ha],by simp[Bo,BM,aBF]⟩
 | forfeit J z=>exact⟨by simp[plL,plD],by simp[Bj,BV,dZ J,dZ z],by simp[Bo,BM]⟩
 | measure F _ _=>exact⟨by simp[plL,plD],by simp[Bj,BV,dZ F],by simp[Bo,BM]⟩
 | mend z O _=>exact⟨by simp[plL,plD],by simp[Bj,BV,dZ z,dZ O],by simp[Bo,BM]⟩
 | alone z=>exact⟨by simp[plL,plD],by simp[Bj,BV,dZ z],by simp[Bo,BM]⟩
 | breach F _ _ _ _ _ _=>exact⟨by simp[plL,plD],by simp[Bj,BV,dZ F],by simp[Bo,BM]⟩
 | view F _ _ z=>exact⟨by simp[plL,plD],by simp[Bj,BV,dZ F,dZ z],by simp[Bo,BM]⟩
theorem cC.Ok.rowD{u:cC}{fs:List Str}(h:u.Ok fs):L2.RowD u.d:=by
 obtain⟨h1,h2,h3⟩:=h.rs.pll;have hw:Ew u.word=true:=by
  have:∀ w∈eG,Ew w=true:=by decide
  exact this _ h.rs.word
 refine⟨⟨_,_,rfl⟩,?_,?_,?_⟩
 ·simp[cC.d,gE,plD,plL,h1]
 ·simp[cC.d,gE,BV,Bj,hw,dZ h.nm,h2]
 ·simp[cC.d,gE,BM,Bo];omega
theorem cC.d_inj{u v:cC}(h:u.d=v.d):u=v:=by
 obtain⟨a,b,c,d⟩:=u;obtain⟨a',b',c',d'⟩:=v;unfold cC.d gE at h;injection h with h;injection h with h1 h;injection h with h2 h;injection h with h3 h;injection h1 with h1;injection h2 with h2;injection h3 with h3;dsimp only at h1 h2 h3 h;rw[h1,h2,h3,h]
abbrev aGL(K:Ah)(C:Ac):Prop:=Ed K C [.type "ValueError",.type "Exception",.type "BaseException",.type "object"] "ValueError.__new__"=true
inductive wG(DR:Ac)(vs:List V)(H:Hp)(Q:VK)(E:XK):Prop
 | mk (m:Bool) (x:V) (d d':Ak) (q0:vs=[x]) (q1:RdV m H x d) (q2:eZ (dP 3 d) d') (q3:(rowD d'=true→∀ y H',bJ H H'→RdV m H' y d'→Q y H')) (q4:(rowD d'=false→∀ H',bJ H H'→E (.ref DR) none H')):wG DR vs H Q E
def aBH(DR:Ac):Sp:=fun vs H Q E=>wG DR vs H Q E
inductive ThX(ws:List Str)(d:Ak):Option cC→Prop
 | no {d':Ak} (o:eZ (dP 3 d) d') (h:rowD d'=false):ThX ws d none
 | far {r:cC} {fs:List Str} (o:eZ (dP 3 d) r.d) (ok:r.Ok fs) (h:¬ FIn r.word r.ds ws):ThX ws d none
 | row {r:cC} (o:eZ (dP 3 d) r.d) (ok:r.Ok ws):ThX ws d (some r)
inductive rZ(DR:Ac)(vs:List V)(H:Hp)(Q:VK)(E:XK):Prop
 | mk (t:Ac) (ws:List Str) (m:Bool) (x:V) (d:Ak) (o:Option cC) (q0:vs=[.ref t,x]) (q1:wF H t ws) (q2:ws.length≤8) (q3:RdV m H x d) (q4:ThX ws d o) (q5:(o=none→∀ H',bJ H H'→E (.ref DR) none H')) (q6:(∀ r,o=some r→∀ y H',bJ H H'→RdV false H' y r.d→Q y H')):rZ DR vs H Q E
def yX(DR:Ac):Sp:=fun vs H Q E=>rZ DR vs H Q E
theorem aGM{m:Bool}{H:Hp}{x:V}{d:Ak}(h:RdV m H x d)(p:mY d):RdV false H x d:=by
 cases m with
 | true=>exact RdV.unl h p
 | false=>exact h
theorem aBI:bY ["thing","row"] ["thing"] (aO oD):=⟨rfl,rfl,rfl,by decide,rfl,by decide,by decide⟩
theorem aEF{f fA fO fI Z:Ac}{fd U J W:AE}(F:Fun K "row_of" "row_of" oD f fd)(O:∃ t,mg "ROW_DEPTH"=some (.int 3 t))(mD:mg "NoRow"=some (.ref Z))(xD:aGL K Z)
  (GA:cH P w K mg base CX0 4 fA U ["thing","deep"] (aHS 3)) (mA:mg "as_tuples"=some (.ref fA)) (kA:Aj K (.ref fA)=true) (bA:c8 K U ["thing","deep"] [])
  (GO:cH P w K mg base CX0 5 fO J ["thing"] aIA) (mO:mg "in_order"=some (.ref fO)) (kO:Aj K (.ref fO)=true) (bO:c8 K J ["thing"] [])
  (GI:cH P w K mg base CX0 7 fI W ["thing"] aDo) (mI:mg "is_row"=some (.ref fI)) (kI:Aj K (.ref fI)=true) (bI:c8 K W ["thing"] []):
  cH P w K mg base (CXr P w) 8 f fd ["thing"] (aBH Z):=by
 refine F.okR aBI (fun vs H Q E h=>?_) (fun az A outer s H vs Q E hr h=>?_)
 ·obtain⟨m,x,d,d',rfl,_⟩:=h;rfl
 ·obtain⟨m,x,d,d',rfl,hx,ho,k,ke⟩:=h;have ac:cY 4 _:=hr.mono (by decide);have Y:cY 5 _:=hr.mono (by decide);obtain⟨td,hdp⟩:=O;refine⟨_,aJ (bQ (i:=1) aBI.nd rfl (AG rfl) (c6 GO Y rfl mO kO bO .nil gF (aG (c6 GA ac rfl mA kA bA .nil gF (aG (pv 0) (aG (c7 (v:=.int 3) (by rfl) hdp ⟨_,rfl⟩) aF))) aF)))
   (aJ (cX (fQ (dJ (c6 GI hr rfl mI kI bI .nil gF (aG (pv 1) aF)))) (aU (nM Cn rfl mD xD (aG aX aF))) bM)
   (aU (bG (pv 1)))),?_⟩
  refine⟨_,rfl,m,x,d,rfl,hx,fun y H1 s1 r1=>?_⟩;refine⟨m,y,_,d',rfl,r1,ho,fun z H2 s2 r2=>?_⟩;refine⟨_,rfl,m,z,d',rfl,r2,fun H3 s3=>⟨_,rfl,?_⟩⟩;cases B:rowD d' with
  | true=>
   refine cO ?_;exact⟨_,rfl,k B _ _ ((s1.trans s2).trans s3) (r2.same s3)⟩
  | false=>exact dC ⟨zZ1,ke B _ ((s1.trans s2).trans s3)⟩
theorem wH:bY ["laying","thing","row","field"] ["laying","thing"] (aO mU):=⟨rfl,rfl,rfl,by decide,rfl,by decide,by decide⟩
theorem aCF{f fR fF W:Ac}{fd Y U:AE}(F:Fun K "row_for" "row_for" mU f fd)(mD:mg "NoRow"=some (.ref W))(xD:aGL K W)
  (GR:cH P w K mg base (CXr P w) 8 fR Y ["thing"] (aBH W)) (mR:mg "row_of"=some (.ref fR)) (kR:Aj K (.ref fR)=true) (bR:c8 K Y ["thing"] [])
  (GF:cH P w K mg base CX0 1 fF U ["row"] yK) (mF:mg "field_of"=some (.ref fF)) (kF:Aj K (.ref fF)=true) (bF:c8 K U ["row"] []):
  cH P w K mg base (CXr P w) 9 f fd ["laying","thing"] (yX W):=by
 refine F.okR wH (fun vs H Q E h=>?_) (fun au A outer s H vs Q E hr h=>?_)
 ·obtain⟨t,ws,m,x,d,o,rfl,_⟩:=h;rfl
 ·obtain⟨t,ws,m,x,d,o,rfl,hL,hw8,hx,hth,kn,ks⟩:=h;have af:cY 1 _:=hr.mono (by decide);refine⟨_,aJ (bQ (i:=2) wH.nd rfl (AG rfl) (c6 GR hr rfl mR kR bR .nil (vJ fun _ _ _ h=>h) (aG (pv 1) aF)))
   (aJ (bQ (i:=3) wH.nd rfl (AG rfl) (c6 GF af rfl mF kF bF .nil gF (aG (pv 2) aF)))
   (aJ (cX (PW.pt (l0 (bX aHe (pv 3) oV (cF _)) (i7 (bX mE (pv 3) (fE (N:=["place"]) (src:=[none]) (osc:=aO mU) (oN:=["laying","thing","row","field"]) ⟨by rfl,by decide,by decide,by decide,rfl,by rfl⟩ (gX (pv 0))
     fun cl s H fp dh C=>⟨bU (i:=0) (show(["place"]:List Str).Nodup by decide) rfl (AG rfl),eB,cE (r:=aE6 K) cM (pv 0) aI Ig⟩) (by with_unfolding_all rfl))))) (aU (nM Cn rfl mD xD (aG aX aF))) bM)
   (aU (bG (pv 2))))),?_⟩
  have hc:(∃ O,eZ (dP 3 d) O∧rowD O=false∧o=none)∨∃(r:cC) (fs:List Str),eZ (dP 3 d) r.d∧r.Ok fs∧(FIn r.word r.ds ws→∀ y H',bJ H H'→RdV false H' y r.d→Q y H')∧(¬ FIn r.word r.ds ws→∀ H',bJ H H'→E (.ref W) none H'):=by
   cases hth with
   | @no O o h=>exact .inl ⟨O,o,h,rfl⟩
   | @far r fs o ok h=>exact .inr ⟨r,fs,o,ok,(fun z=>absurd z h),fun _=>kn rfl⟩
   | @row r o ok=>exact .inr ⟨r,ws,o,ok,(fun _=>ks r rfl),fun z=>absurd ok.fi z⟩
  rcases hc with⟨O,o,h,rfl⟩ | ⟨r,fs,hord,hok,kq,ke⟩
  ·exact⟨_,rfl,m,x,d,O,rfl,hx,o,(fun z=>by rw[h]at z;cases z),fun _ H' S=>kn rfl H' S⟩
  ·refine⟨_,rfl,m,x,d,r.d,rfl,hx,hord,fun _ y H1 s1 ry=>?_,fun z=>by rw[hok.row]at z;cases z⟩;have J:RdV false H1 y r.d:=aGM ry (hok.rs.plain r.name r.day);obtain⟨d4,rd',erd,hf4⟩:=hok.rs.fourth;obtain⟨tr,x4,B,rfl,etr,r4⟩:∃ tr x4 B,y=.ref tr∧H1 tr=some (.tup (.str r.word :: .str r.name :: .int r.day :: x4 :: B))∧RdV false H1 x4 d4:=by
    unfold cC.d gE at J;rw[erd]at J;cases J with
    | @tup a xs _ e hl q=>
     cases q with
     | cons q1 q=>
     cases q with
     | cons q2 q=>
     cases q with
     | cons q3 q=>
     cases q with
     | cons q4 q=>
      cases q1;cases q2;cases q3;exact⟨a,_,_,rfl,e,q4⟩
   refine⟨_,rfl,tr,r.word,_,_,x4,B,rfl,etr,fun H2 Z=>?_⟩;have aj:=(hL.same s1).same Z;by_cases g:inV (.str r.word) [V.str "measure",.str "breach",.str "view"]=true
   ·obtain⟨z,rfl⟩:=hf4 g;cases r4;rw[Ib g];refine⟨_,rfl,rfl,_,rfl,?_⟩;rw[decide_eq_false (show¬ V.str z=V.non from fun y=>nomatch y)];refine dC ?_;obtain⟨ps,eps,hpl,hps⟩:=aj;refine⟨_,rfl,_,rfl,t,rfl,⟨ps,aZ eps⟩,?_⟩;refine gQ (xs:=ps) (fun i ys σ H'=>bJ H2 H'∧ys=(ws.take i).map V.str∧∃ o,σ=[o]) ⟨bJ.refl H2,by simp,none,rfl⟩ (aS (by omega)) (fun i ys σ H' p=>by rw[p.2.1,Ae,AX];omega) (fun i ys σ H' p=>aZ (p.1 _ _ eps)) ?_ ?_
    ·rintro i px ys σ H' ag ⟨S,rfl,o,rfl⟩;dsimp only[dG];obtain⟨b,zz,rr,rfl,eb,hw⟩:=hps i px ag;refine dC ?_;refine⟨_,rfl,b,_,0,_,rfl,rfl,aZ (S _ _ eb),dD (j:=0) rfl,S,?_,_,rfl⟩;rw[Bk,hw,AU];rfl
    ·rintro ys σ H' ⟨S,rfl,o,rfl⟩ D hD;rw[hpl,BJ];have sD:=aQ (o:=.lst (ws.map V.str)) hD;refine⟨D,_,rfl,.inl (bE aH),rfl,eJ ws,_,rfl,?_⟩;rw[Ib rfl,tE];have sA:=(Z.trans S).trans sD;by_cases hz:z∈ws
     ·rw[Ic hz];refine cO ?_;exact⟨_,rfl,kq (fun _ z' cI e=>by rw[erd]at e;cases e;exact hz) _ _ (s1.trans sA) (J.same sA)⟩
     ·rw[decide_eq_false hz];exact dC ⟨zZ1,ke (fun h=>hz (h g z rd' erd)) _ (s1.trans sA)⟩
   ·rw[Ia g];refine⟨_,rfl,rfl,_,rfl,?_⟩;rw[Ic rfl];refine cO ?_;exact⟨_,rfl,kq (fun z=>absurd z g) _ _ (s1.trans Z) (J.same Z)⟩
structure eI(H:Hp)(t:Ac)(lds:List Ak)(us:List cC):Prop where
 ex:∃(la rw:Ac) (ys:List V),H t=some (.tup [.ref la,.ref rw])∧RdV false H (.ref la) (.tuple lds)∧H rw=some (.tup ys)∧dS H ys us (lds.map fU)
 fl:aJS lds
 l8:lds.length≤8
 u4:us.length≤40
 nd:(us.map (·.name)).Nodup
 ri:aBD us
theorem eI.fa{H:Hp}{t:Ac}{z:List Ak}{B:List cC}(h:eI H t z B):z.all iB=true:=A3.mpr fun d hd=>(h.fl d hd).1
theorem eI.same{H H':Hp}{t:Ac}{z:List Ak}{B:List cC}(h:eI H t z B)(s:bJ H H'):eI H' t z B:=by
 obtain⟨la,rw,ys,h1,h2,h3,h4⟩:=h.ex;exact⟨⟨la,rw,ys,s _ _ h1,h2.same s,s _ _ h3,h4.same s⟩,h.fl,h.l8,h.u4,h.nd,h.ri⟩
theorem eI.ok{H:Hp}{t:Ac}{z:List Ak}{B:List cC}(h:eI H t z B):∀ u∈B,u.Ok (z.map fU):=fun u F=>by
 obtain⟨la,rw,ys,_,_,_,h4⟩:=h.ex;obtain⟨i,hi⟩:=Ce F;have O:=h4.len;have J:=(AH.mp hi).1;obtain⟨v,e,_,ok⟩:=h4.at' i _ (Ag (by omega));rw[hi]at e;cases e;exact ok
theorem dS.snoc{H:Hp}{xs:List V}{F:List cC}{fs:List Str}{x:V}{u:cC}(h:dS H xs F fs)(rd:RdV false H x u.d)(ok:u.Ok fs):dS H (xs ++ [x]) (F ++ [u]) fs:=by
 refine⟨by rw[Av,Av,h.len];rfl,fun i y B=>?_⟩;have J:=h.len;rcases Nat.lt_trichotomy i xs.length with z | z | z
 ·rw[Di z]at B;obtain⟨v,h1,h2⟩:=h.at' i y B;exact⟨v,by rw[Di (by omega)];exact h1,h2⟩
 ·rw[z,Da (Ap _),Nat.sub_self]at B;cases B;exact⟨u,by rw[z,J,Da (Ap _),Nat.sub_self];rfl,rd,ok⟩
 ·rw[A0 (by rw[Av];show xs.length + 1≤i;omega)]at B;cases B
theorem cC.Ok.tup{r:cC}{fs:List Str}(ok:r.Ok fs){m:Bool}{H:Hp}{x:V}(h:RdV m H x r.d):∃ z cI,x=.ref z∧H z=some (.tup (.str r.word :: .str r.name :: .int r.day :: cI))∧cG m H cI r.ds:=by
 unfold cC.d gE at h;cases h with
 | @tup a xs _ e O q=>
  cases q with
  | cons F q=>
  cases q with
  | cons J q=>
  cases q with
  | cons B q=>
   cases F;cases J;cases B;exact⟨a,_,rfl,e,q⟩
theorem tJ{z:List cC}(h:(z.map (·.name)).Nodup){u v:cC}(B:u∈z)(F:v∈z)(e:u.name=v.name):u=v:=by
 obtain⟨i,hi⟩:=Ce B;obtain⟨j,hj⟩:=Ce F;obtain⟨l1,e1⟩:=AH.mp hi;obtain⟨l2,e2⟩:=AH.mp hj;have:=(CK (xs:=z.map (·.name)) (h₀:=by simpa using l1) (h₁:=by simpa using l2) h).mp (by rw[CJ,CJ,e1,e2,e])
 subst this;rw[e1]at e2;exact e2
inductive oS(DN:Ac)(vs:List V)(H:Hp)(Q:VK)(E:XK):Prop
 | mk (t:Ac) (lds:List Ak) (us:List cC) (x:V) (q0:vs=[.ref t,x]) (q1:eI H t lds us) (q2:Thn H x) (q3:(∀ u∈us,x=.str u.name→∀ y,RdV false H y u.d→Q y H)) (q4:((∀ u∈us,x≠.str u.name)→E (.ref DN) none H)):oS DN vs H Q E
def j9(DN:Ac):Sp:=fun vs H Q E=>oS DN vs H Q E
inductive aBJ(DR DT DM:Ac)(vs:List V)(H:Hp)(Q:VK)(E:XK):Prop
 | mk (t:Ac) (lds:List Ak) (us:List cC) (m:Bool) (x:V) (d:Ak) (o:Option cC) (q0:vs=[.ref t,x]) (q1:eI H t lds us) (q2:RdV m H x d) (q3:ThX (lds.map fU) d o) (q4:(o=none→∀ H',bJ H H'→E (.ref DR) none H')) (q5:(∀ r,o=some r→r.name∈us.map (·.name)→∀ H',bJ H H'→E (.ref DT) none H')) (q6:(∀ r,o=some r→r.name ∉ us.map (·.name)→us.length=40→∀ H',bJ H H'→E (.ref DM) none H')) (q7:(∀ r,o=some r→r.name ∉ us.map (·.name)→us.length < 40→∀(t':Ac) (os:List cC) (H':Hp),bJ H H'→os.Perm (us ++ [r])→eI H' t' lds os→Q (.ref t') H')):aBJ DR DT DM vs H Q E
def aCG(DR DT DM:Ac):Sp:=fun vs H Q E=>aBJ DR DT DM vs H Q E
inductive sB(DN:Ac)(vs:List V)(H:Hp)(Q:VK)(E:XK):Prop
 | mk (t:Ac) (lds:List Ak) (us:List cC) (x:V) (q0:vs=[.ref t,x]) (q1:eI H t lds us) (q2:Thn H x) (q3:(∀ u∈us,x=.str u.name→∀(t':Ac) (H':Hp),bJ H H'→eI H' t' lds (us.filter fun v=>decide (v.name≠u.name))→Q (.ref t') H')) (q4:((∀ u∈us,x≠.str u.name)→E (.ref DN) none H)):sB DN vs H Q E
def rG(DN:Ac):Sp:=fun vs H Q E=>sB DN vs H Q E
theorem sF:bY ["roll","name","row"] ["roll","name"] (aO iN):=⟨rfl,rfl,rfl,by decide,rfl,by decide,by decide⟩
theorem aAs{f Y:Ac}{fd:AE}(F:Fun K "row_called" "row_called" iN f fd)(J:mg "NoName"=some (.ref Y))(B:aGL K Y)
  :cH P w K mg base (CXr P w) 1 f fd ["roll","name"] (j9 Y):=by
 refine F.okR sF (fun vs H Q E h=>?_) (fun ad A outer s H vs Q E hr h=>?_)
 ·obtain⟨t,lds,us,x,rfl,_⟩:=h;rfl
 ·obtain⟨t,lds,us,x,rfl,roll,hx,kq,ke⟩:=h;have nd:=sF.nd;have hu:_ < _:=hr.units0;refine⟨_,(aJ (kE PassesOwn.leaving rfl (gX (cE cM (pv 0) aI Ig)) (g:=dG 2) (bU (i:=2) nd rfl (AG rfl))
   (aU (cX (bX (aFV hu) (cE cM (pv 2) aI Ig) (pv 1) (cF _)) (aU (bG (pv 2))) bM)))
   (aU (nM Cn rfl J B (aG aX aF)))),?_⟩
  obtain⟨la,rw,ys,h1,h2,h3,h4⟩:=roll.ex;have hl:=h4.len;refine⟨_,rfl,t,_,1,_,rfl,rfl,aZ h1,rfl,rw,rfl,⟨_,aZ h3⟩,?_⟩;refine aCP (K:=K) (xs:=ys) (fun i σ H'=>∃(Z:Option V),σ=[some (.ref t),some x,Z]∧H=H'∧∀ j u,j < i→us[j]?=some u→x≠.str u.name) ⟨none,rfl,rfl,fun j u W=>by omega⟩ (fun i σ H' _ p=>by obtain⟨_,_,rfl,_⟩:=p;exact aZ h3) ?_ ?_
  ·rintro i v σ H' hv ⟨Z,rfl,rfl,U⟩;obtain⟨r,hr',rdv,ok⟩:=h4.at' i v hv;obtain⟨tr,cI,rfl,htr,hrest⟩:=ok.tup rdv;dsimp only[dG];refine⟨_,rfl,tr,_,1,_,rfl,rfl,aZ htr,dD (j:=1) rfl,_,rfl,_,rfl,hx,_,rfl,d9 (fun g=>⟨_,rfl,kq r (AF hr') (Ie g).symm _ rdv⟩) fun g=>⟨_,rfl,rfl,fun j u W O=>?_⟩⟩;by_cases z:j=i
   ·subst z;rw[hr']at O;cases O;exact fun e=>g (Ic e.symm)
   ·exact U j u (by omega) O
  ·rintro σ H' ⟨Z,rfl,rfl,U⟩;refine⟨zZ1,ke fun u O=>?_⟩;obtain⟨j,W⟩:=Ce O;exact U j u (by have:=(AH.mp W).1;omega) W
theorem aGN:bY ["roll","thing","laying","rows","row"] ["roll","thing"] (aO vW):=⟨rfl,rfl,rfl,by decide,rfl,by decide,by decide⟩
theorem aH5{f fR fO DR DT DM:Ac}{fd ag ai:AE}(F:Fun K "with_row" "with_row" vW f fd)(ad:mg "len"=none)(af:mg "tuple"=none)(Y:mg "list"=none)(J:mg "sorted"=none)(ah:∃ t,mg "MOST_ROWS"=some (.int 40 t))(U:mg "Twice"=some (.ref DT))(W:aGL K DT)(B:mg "TooMany"=some (.ref DM))(z:aGL K DM)
  (GO:cH P w K mg base CX0 1 fO ai ["row"] oG) (mO:mg "order"=some (.ref fO)) (bO:c8 K ai ["row"] [])
  (GR:cH P w K mg base (CXr P w) 9 fR ag ["laying","thing"] (yX DR)) (mR:mg "row_for"=some (.ref fR)) (kR:Aj K (.ref fR)=true) (bR:c8 K ag ["laying","thing"] [])
  :cH P w K mg base (CXr P w) 10 f fd ["roll","thing"] (aCG DR DT DM):=by
 refine F.okR aGN (fun vs H Q E h=>?_) (fun bj A outer s H vs Q E hr h=>?_)
 ·obtain⟨t,lds,us,m,x,d,o,rfl,_⟩:=h;rfl
 ·obtain⟨t,lds,us,m,x,d,o,rfl,roll,hx,hth,k1,k2,k3,k4⟩:=h;have nd:=aGN.nd;have ap:cY 9 _:=hr;have aE:cY (1 + 2) _:=hr.mono (by decide);obtain⟨tm,hmr⟩:=ah;refine⟨_,(aJ (kB (pv 0) (m8 rfl (dB (bU (i:=2) nd rfl (AG rfl)) (dB (bU (i:=3) nd rfl (AG rfl)) jV))))
   (aJ (bQ (i:=4) nd rfl (AG rfl) (c6 GR ap rfl mR kR bR .nil (vJ fun _ _ _ h=>h) (aG (pv 2) (aG (pv 1) aF))))
   (aJ (cX (bX jG (cE cM (pv 4) aI Ig) (fE (N:=["known"]) (src:=[none]) (osc:=aO vW) (oN:=["roll","thing","laying","rows","row"]) ⟨by rfl,by decide,by decide,by decide,rfl,by rfl⟩ (gX (pv 3)) (fun cl s H fp dh C=>⟨bU (i:=0) (show(["known"]:List Str).Nodup by decide) rfl (AG rfl),eB,cE (r:=aE6 K) cM (pv 0) aI Ig⟩)) (by with_unfolding_all rfl)) (aU (nM Cn rfl U W (aG aX aF))) bM)
   (aJ (cX (bX aIi (aV bH (by rfl) ad AO (aG (pv 3) aF)) (c7 (v:=.int 40) (by rfl) hmr ⟨_,rfl⟩) (cF _)) (aU (nM Cn rfl B z (aG aX aF))) bM)
   (aU (bG (cQ (aG (pv 2) (aG (cV cW (by rfl) af (by kernel_rfl) (aG (vI GO aE bO (by rfl) J (by rfl) mO (aG (cA zN (cV fY (by rfl) Y (by kernel_rfl) (aG (pv 3) aF)) (dM (aG (pv 4) aF))) aF)) aF)) aF))))))))),?_⟩
  obtain⟨la,rw,ys,h1,h2,h3,h4⟩:=roll.ex;have hl:=h4.len;have bi:=roll.u4;refine⟨_,rfl,t,_,rfl,aZ h1,rfl,_,_,rfl,_,_,rfl,rfl,_,rfl,_,rfl,la,_,m,x,d,o,rfl,wF.of h2 roll.fa,by rw[Ae];exact roll.l8,hx,hth,k1,fun r O y H1 s1 ry=>?_⟩;dsimp only[dG];have hok:r.Ok (lds.map fU):=by
   subst O;cases hth with
   | row o ok=>exact ok
  obtain⟨tr,cI,rfl,htr,hrest⟩:=hok.tup ry;have aw:=h4.same s1;refine⟨_,rfl,tr,_,1,_,rfl,rfl,aZ htr,dD (j:=1) rfl,_,rfl,rw,rfl,⟨_,aZ (s1 _ _ h3)⟩,?_⟩;refine gQ (K:=K) (xs:=ys) (fun i zs σ H'=>H'=H1∧zs=((us.take i).map (·.name)).map V.str∧∃ o,σ=[o]) ⟨rfl,rfl,none,rfl⟩ (aS (by omega)) (fun i zs σ H' p=>by rw[p.2.1,Ae,Ae,AX];omega) (fun i zs σ H' p=>by rw[p.1];exact aZ (s1 _ _ h3)) ?_ ?_
  ·rintro i v zs σ H' hv ⟨rfl,rfl,o,rfl⟩;obtain⟨u,hu,rv,oku⟩:=aw.at' i v hv;obtain⟨q,zs',rfl,eq,_⟩:=oku.tup rv;dsimp only[dG];refine dC ?_;refine⟨_,rfl,q,_,1,_,rfl,rfl,aZ eq,dD (j:=1) rfl,rfl,?_,_,rfl⟩;rw[Bk,hu,AU,AU];rfl
  rintro zs σ H' ⟨rfl,rfl,o',rfl⟩ D hD;rw[hl,BJ];have sD:=aQ (o:=.lst ((us.map (·.name)).map V.str)) hD
  refine⟨D,_,rfl,.inl (bE aH),rfl,eJ _,_,rfl,?_⟩;rw[Ia AD,tE];generalize upd H' D _=H2 at sD;have s2:=s1.trans sD;by_cases hn:r.name∈us.map (·.name)
  ·rw[Ic hn];exact dC ⟨zZ1,k2 r O hn _ s2⟩
  rw[decide_eq_false hn];refine cO ?_;refine⟨_,rfl,rw,_,rfl,.inr (aZ (s2 _ _ h3)),_,_,rfl,rfl,_,rfl,?_⟩;by_cases aB:us.length=40
  ·rw[Ic (show(40:Int)≤((ys.length:Nat):Int) by omega)];exact dC ⟨zZ1,k3 r O hn aB _ s2⟩
  rw[decide_eq_false (show¬ ((40:Int)≤((ys.length:Nat):Int)) by omega)];refine cO ?_;refine⟨_,rfl,_,rfl,rw,ys,rfl,.inr (aZ (s2 _ _ h3)),fun L hL=>?_⟩;have sL:=aQ (o:=.lst ys) hL;refine⟨_,rfl,zZ1,fun L1 aK=>?_⟩;have Z:=aQ (o:=.lst [V.ref tr]) aK;refine⟨L,L1,ys,[.ref tr],rfl,rfl,Z _ _ aH,aH,aS (by show ys.length + 1≤1000000;omega),fun L2 aD=>?_⟩;have ac:=aQ (o:=.lst (ys ++ [V.ref tr])) aD;have s3:=s2.trans ((sL.trans Z).trans ac);have e2:upd (upd (upd H2 L (.lst ys)) L1 (.lst [V.ref tr])) L2 (.lst (ys ++ [V.ref tr])) L2=some (.lst (ys ++ [V.ref tr])):=aH;have sA:=(sL.trans Z).trans ac;generalize upd (upd (upd H2 L (.lst ys)) L1 (.lst [V.ref tr])) L2 _=H3 at s3 e2 sA ⊢;have aa:dS H3 (ys ++ [.ref tr]) (us ++ [r]) (lds.map fU):=(h4.same s3).snoc (ry.same (sD.trans sA)) hok;have aj:((us ++ [r]).map (·.name)).Nodup:=by
   rw[AU];exact C2.mpr ⟨roll.nd,by simp,fun a ha b hb e=>hn (by rw[Bx.mp hb]at e;exact(show r.name=a from e.symm) ▸ ha)⟩
  have az:(ys ++ [V.ref tr]).length=us.length + 1:=by rw[Av,hl];rfl
  refine⟨L2,ys ++ [.ref tr],yT H3,rfl,.inl (bE e2),by rw[az];omega,aAr aa,fun E1 kk p H5 s5 hE ay hk ho eE=>?_⟩;obtain⟨os,ho1,ho2,ho3⟩:=pK aa aj ay hk ho s5;refine⟨E1,_,rfl,.inl ⟨bE eE,fun l hl=>⟨zZ2,fun t' ht=>?_⟩⟩⟩;have sl:=aQ (o:=.tup (p.map fun i=>(ys ++ [V.ref tr]).getD i .non)) hl;have el:upd H5 l (.tup (p.map fun i=>(ys ++ [V.ref tr]).getD i .non)) l=some (.tup (p.map fun i=>(ys ++ [V.ref tr]).getD i .non)):=aH;generalize upd H5 l (.tup (p.map fun i=>(ys ++ [V.ref tr]).getD i .non))=H6 at sl el ht ⊢;have st:=aQ (o:=.tup [V.ref la,.ref l]) ht;have s6:=(s3.trans s5).trans sl;have ak:=ho1.length_eq;rw[Av]at ak;refine k4 r O hn (by omega) t' os _ (s6.trans st) ho1 ⟨⟨la,l,_,aH,h2.same (s6.trans st),st _ _ el,ho3.same (sl.trans st)⟩,roll.fl,roll.l8,by rw[ak];show us.length + 1≤40;omega,(ho1.map _).nodup_iff.mpr aj,ho2⟩
theorem yY:bY ["roll","name","gone"] ["roll","name"] (aO jS):=⟨rfl,rfl,rfl,by decide,rfl,by decide,by decide⟩
theorem aCH{f Z DN:Ac}{fd z:AE}(F:Fun K "without_row" "without_row" jS f fd)(O:mg "tuple"=none)
  (GC:cH P w K mg base (CXr P w) 1 Z z ["roll","name"] (j9 DN)) (mC:mg "row_called"=some (.ref Z)) (kC:Aj K (.ref Z)=true) (bC:c8 K z ["roll","name"] [])
  :cH P w K mg base (CXr P w) 2 f fd ["roll","name"] (rG DN):=by
 refine F.okR yY (fun vs H Q E h=>?_) (fun am A outer s H vs Q E hr h=>?_)
 ·obtain⟨t,lds,us,x,rfl,_⟩:=h;rfl
 ·obtain⟨t,lds,us,x,rfl,roll,hx,kq,ke⟩:=h;have nd:=yY.nd;have B:cY 1 _:=hr;refine⟨_,(aJ (bQ (i:=2) nd rfl (Do rfl) (c6 GC B rfl mC kC bC .nil (vJ fun _ _ _ h=>h) (aG (pv 0) (aG (pv 1) aF))))
   (aU (bG (cQ (aG (cE cM (pv 0) aI Ig) (aG (cV cW (by rfl) O (by kernel_rfl) (aG (fE (N:=["row","gone"]) (src:=[none,some 2]) (osc:=aO jS) (oN:=["roll","name","gone"]) ⟨by rfl,by decide,by decide,by decide,rfl,by rfl⟩ (gX (cE cM (pv 0) aI Ig)) (fun cl s H fp dh C=>⟨bU (i:=0) (show(["row","gone"]:List Str).Nodup by decide) rfl (AG rfl),zR (bX (aFX B) (pv 0) (pv 1) (cF _)),pv 0⟩)) aF)) aF)))))),?_⟩
  obtain⟨la,rw,ys,h1,h2,h3,h4⟩:=roll.ex;have hl:=h4.len;have aj:=roll.u4;refine⟨_,rfl,_,rfl,t,lds,us,x,rfl,roll,hx,fun u W e y ry=>?_,ke⟩;have J:=roll.ok u W;refine⟨_,rfl,t,_,0,_,rfl,rfl,aZ h1,rfl,_,rfl,t,_,1,_,rfl,rfl,aZ h1,rfl,rw,rfl,⟨_,aZ h3⟩,?_⟩;refine gQ (K:=K) (xs:=ys) (fun i zs σ H'=>H'=H∧dS H zs ((us.take i).filter fun v=>decide (v.name≠u.name)) (lds.map fU)∧∃ o,σ=[o,some y]) ⟨rfl,⟨rfl,fun i x h=>by simp at h⟩,none,rfl⟩ (aS (by omega)) (fun i zs σ H' p=>by
   have:=(CZ (fun v=>decide (v.name≠u.name)) (us.take i))
   rw[p.2.1.len];rw[AX]at this;omega) (fun i zs σ H' p=>by rw[p.1];exact aZ h3) ?_ ?_
  ·rintro i v zs σ H' hv ⟨rfl,hz,o,rfl⟩;obtain⟨u2,hu2,rv,ok2⟩:=h4.at' i v hv;dsimp only[dG];refine⟨_,rfl,_,rfl,false,false,u2.d,u.d,rv,ry,ok2.rowD.ly,J.rowD.ly,Ba ok2.rowD.dp (by decide),_,rfl,?_⟩;rw[Bk,hu2,Fd];by_cases g:u2=u
   ·subst g;rw[vR _ ok2.rowD.pl];refine cO ⟨rfl,?_,_,rfl⟩;simpa using hz
   ·rw[show Cb u2.d u.d=false from by
     cases q:Cb u2.d u.d with
     | false=>rfl
     | true=>exact absurd (cC.d_inj (aCi _ _ ok2.rowD.pl q J.rowD.pl)) g]
    have gn:u2.name≠u.name:=fun e=>g (tJ roll.nd (AF hu2) W e);refine dC ⟨_,rfl,rfl,?_,_,rfl⟩;have e2:(Option.toList (some u2)).filter (fun v=>decide (v.name≠u.name))=[u2]:=by simp[gn]
    rw[e2];exact hz.snoc rv ok2
  rintro zs σ H' ⟨rfl,hz,o,rfl⟩ D hD;rw[hl,BJ]at hz;have sD:=aQ (o:=.lst zs) hD;refine⟨D,_,rfl,.inl ⟨bE aH,fun l U=>⟨zZ2,fun t' ht=>?_⟩⟩⟩;have sl:=aQ (o:=.tup zs) U;have st:=aQ (o:=.tup [V.ref la,.ref l]) ht;have Y:=(sD.trans sl).trans st;have au:=CZ (fun v=>decide (v.name≠u.name)) us;refine kq u W e t' _ Y ⟨⟨la,l,zs,aH,h2.same Y,st _ _ aH,hz.same Y⟩,roll.fl,roll.l8,by omega,roll.nd.sublist ((Dm).map _),roll.ri.sublist Dm⟩
end K07
namespace L2
open PySem
theorem aFU.mono{P:Ay}{w:AS}{K:Ah}{mg:Str→Option Ab}{base:A4}{k:Nat}{f:Ac}{H:Hp}{Q J:VK}{E B:XK}(h:aFU P w K mg base k f H Q E)(W:∀ v H',Q v H'→J v H')(Y:∀ C dx H',E C dx H'→B C dx H'):aFU P w K mg base k f H J B:=
 ⟨h.1,fun A outer s U O=>Cq (h.2 A outer s U O) fun r s' z=>by
  cases r with
  | error e=>
   obtain⟨x,C,H',e1,F,q⟩:=z;exact⟨x,C,H',e1,F,Y _ _ _ q⟩
  | ok fl=>
   cases fl with
   | ret u=>
    obtain⟨v,H',os,bare,un,hok,r,q⟩:=z;exact⟨v,H',os,bare,un,hok,r,W _ _ q⟩
   | next=>exact z
   | brk=>exact z
   | cont=>exact z⟩
end L2
namespace K07
open PySem L2
def wZ(K:Ah)(D:Ac)(cs:List Ac)(bs:List Bool)(ts:List Ac):Bool:=
 ((cs.zip bs).all fun p=>Bt K (.ref D) (.ref p.1) == some p.2) && (Du K (.ref D) (ts.map AJ) == some false) && (Bt K (.ref D) (.type "ValueError") == some true) &&
 (CF K (.ref D) "__getattribute__" == some (some (.builtin "BaseException.__getattribute__"))) && (CF K (.ref D) "__getattr__" == some none) && (FI K D (.type "BaseException") == some true) && PySem.W.hasDictIn K D && (CF K (.ref D) "__class__" == some (some (.builtin "object.__class__"))) && (FI K D (.type "object") == some true) &&
 (E5 K (.builtin "object.__class__") "__get__" == some (some (.builtin "getset_descriptor.__get__"))) && (PySem.W.takesIn K (.builtin "object.__class__") == some true)
theorem tK{K:Ah}{D:Ac}{z:List Ac}{bs:List Bool}{ts:List Ac}(h:wZ K D z bs ts=true):aAc K D∧(∀(i:Nat) c b,z[i]?=some c→bs[i]?=some b→Bt K (.ref D) (.ref c)=some b)∧Du K (.ref D) (ts.map AJ)=some false∧Bt K (.ref D) (.type "ValueError")=some true:=by
 unfold wZ at h;simp only[AY,beq_iff_eq,A3]at h;obtain⟨⟨⟨⟨⟨⟨⟨⟨⟨⟨h1,h2⟩,h3⟩,h4⟩,h5⟩,h5'⟩,h6⟩,h7⟩,h8⟩,h9⟩,h10⟩:=h;refine⟨⟨h4,h5,h5',h6,h7,h8,h9,h10⟩,fun i c b B F=>h1 (c,b) ?_,h2,h3⟩;exact AF (i:=i) (List.getElem?_zip_eq_some.mpr ⟨B,F⟩)
inductive w6(K:Ah)(cs ts:List Ac)(D:Ac):Str→Prop
 | cNoRow (h:wZ K D cs [true,false,false,false,false,false,false] ts=true):w6 K cs ts D "NoRow"
 | cNoName (h:wZ K D cs [false,false,true,false,false,false,false] ts=true):w6 K cs ts D "NoName"
 | cTwice (h:wZ K D cs [false,false,false,true,false,false,false] ts=true):w6 K cs ts D "Twice"
 | cTooMany (h:wZ K D cs [false,false,false,false,true,false,false] ts=true):w6 K cs ts D "TooMany"
inductive yZ(K:Ah)(cs ts:List Ac)(vs:List V)(H:Hp)(Q:VK)(u3_:XK):Prop
 | mk (y D:Ac) (nm:Str) (q0:vs=[.ref y]) (q1:H y=some (m4 y (.ref D))) (q2:w6 K cs ts D nm) (q3:∀ H',bJ H H'→Q (.str nm) H'):yZ K cs ts vs H Q u3_
def aDB(K:Ah)(cs ts:List Ac):Sp:=fun vs H Q u3_=>yZ K cs ts vs H Q u3_
inductive aBK(P:Ay)(w:AS)(K:Ah)(mg:Str→Option Ab)(base:A4)(cs ts:List Ac)(cD:Ac)(vs:List V)(H:Hp)(Q:VK)(u3_:XK):Prop
 | mk (f:Ac) (q0:vs=[.ref f]) (q1:aFU P w K mg base 11 f H (fun v H'=>∀ L H'',bJ H' H''→H'' L=some (.lst [.str "told",v])→Q (.ref L) H'')
 (fun C _ H'=>∃(D:Ac) (nm:Str),Aw3 (C=.ref D) (Cm K (.ref D) (.ref cD)=some true) (w6 K cs ts D nm∧∀ L H'',bJ H' H''→H'' L=some (.lst [.str "refused",.str nm])→Q (.ref L) H''))):aBK P w K mg base cs ts cD vs H Q u3_
def aCI(P:Ay)(w:AS)(K:Ah)(mg:Str→Option Ab)(base:A4)(cs ts:List Ac)(cD:Ac):Sp:=fun vs H Q u3_=>aBK P w K mg base cs ts cD vs H Q u3_
theorem aDC:bY ["_law_caught","_law_found"] ["_law_caught"] (aO rB):=⟨rfl,rfl,rfl,by decide,rfl,by decide,by decide⟩
theorem aGO{f:Ac}{fd:AE}(F:Fun K "_law_class" "_law_class" rB f fd)(aa:mg "isinstance"=none)(aE:mg "len"=none)(aK:mg "ValueError"=none){cNoRow:Ac}{af:Ac}{cNoName:Ac}{cTwice:Ac}{cTooMany:Ac}{ae:Ac}{ad:Ac}{W:Ac}{z:Ac}{J:Ac}{U:Ac}{B:Ac}{O:Ac}(aw:mg "NoRow"=some (.ref cNoRow))(aq:mg "NoRoll"=some (.ref af))(ao:mg "NoName"=some (.ref cNoName))(ay:mg "Twice"=some (.ref cTwice))(aj:mg "TooMany"=some (.ref cTooMany))(au:mg "NoThen"=some (.ref ae))(ar:mg "NoMend"=some (.ref ad))(az:mg "Clash"=some (.ref W))(ag:mg "NoBreach"=some (.ref z))(am:mg "NoField"=some (.ref J))(ap:mg "NoInch"=some (.ref U))(ak:mg "NoOrder"=some (.ref B))(an:mg "NoText"=some (.ref O))
  :cH P w K mg base CX0 1 f fd ["_law_caught"] (aDB K [cNoRow,af,cNoName,cTwice,cTooMany,ae,ad] [W,z,J,U,B,O]):=by
 refine F.ok aDC (fun vs H Q E h=>?_) (fun aL A outer s H vs Q E hr h=>?_)
 ·obtain⟨y,D,nm,rfl,_⟩:=h;rfl
 ·obtain⟨y,D,nm,rfl,hy,hk,k⟩:=h;have nd:=aDC.nd;refine⟨_,(aJ (bQ (i:=1) nd rfl (AG rfl) (dM aF))
   (aJ (cX (dJ (aV fG (by rfl) aa (by kernel_rfl) (aG (pv 0) (aG (c7 (v:=.ref cNoRow) rfl aw rfl) aF)))) (aU (gW (jX A7 Bn Bm fS (pv 1) (aG aX aF)))) bM)
   (aJ (cX (dJ (aV fG (by rfl) aa (by kernel_rfl) (aG (pv 0) (aG (c7 (v:=.ref af) rfl aq rfl) aF)))) (aU (gW (jX A7 Bn Bm fS (pv 1) (aG aX aF)))) bM)
   (aJ (cX (dJ (aV fG (by rfl) aa (by kernel_rfl) (aG (pv 0) (aG (c7 (v:=.ref cNoName) rfl ao rfl) aF)))) (aU (gW (jX A7 Bn Bm fS (pv 1) (aG aX aF)))) bM)
   (aJ (cX (dJ (aV fG (by rfl) aa (by kernel_rfl) (aG (pv 0) (aG (c7 (v:=.ref cTwice) rfl ay rfl) aF)))) (aU (gW (jX A7 Bn Bm fS (pv 1) (aG aX aF)))) bM)
   (aJ (cX (dJ (aV fG (by rfl) aa (by kernel_rfl) (aG (pv 0) (aG (c7 (v:=.ref cTooMany) rfl aj rfl) aF)))) (aU (gW (jX A7 Bn Bm fS (pv 1) (aG aX aF)))) bM)
   (aJ (cX (dJ (aV fG (by rfl) aa (by kernel_rfl) (aG (pv 0) (aG (c7 (v:=.ref ae) rfl au rfl) aF)))) (aU (gW (jX A7 Bn Bm fS (pv 1) (aG aX aF)))) bM)
   (aJ (cX (dJ (aV fG (by rfl) aa (by kernel_rfl) (aG (pv 0) (aG (c7 (v:=.ref ad) rfl ar rfl) aF)))) (aU (gW (jX A7 Bn Bm fS (pv 1) (aG aX aF)))) bM)
   (aJ (cX (PW.pt (jU (dJ (aV wX (by rfl) aa (by kernel_rfl) (aG (pv 0) (aG (cQ (aG (c7 (v:=.ref W) rfl az rfl) (aG (c7 (v:=.ref z) rfl ag rfl) (aG (c7 (v:=.ref J) rfl am rfl) (aG (c7 (v:=.ref U) rfl ap rfl) (aG (c7 (v:=.ref B) rfl ak rfl) (aG (c7 (v:=.ref O) rfl an rfl) aF))))))) aF)))) (iG (fQ (dJ (aV fG (by rfl) aa (by kernel_rfl) (aG (pv 0) (aG (dW (v:=.ty "ValueError") (by rfl) aK (by kernel_rfl) rfl) aF)))))))) (aU (bG aX)) bM)
   (aJ (cX (bX rK (aV bH (by rfl) aE AO (aG (pv 1) aF)) aI (cF _)) (aU (bG aX)) bM)
   (aU (bG (cE c9 (pv 1) aI Ig))))))))))))),?_⟩
  refine⟨zZ0,fun L hL=>?_⟩;have sL:=aQ (o:=.lst ([]:List V)) hL;have Z:=sL _ _ hy;have ax:y≠L:=bB hy hL;have eL:upd H L (.lst []) L=some (.lst []):=aH;generalize upd H L (.lst [])=H1 at sL Z eL ⊢;cases hk with
  | cNoRow hk=>
   obtain⟨ek,h1,h2,h3⟩:=tK hk;refine⟨_,rfl,y,D,_,_,_,rfl,(fun u r=>r),Z,ek,h1 0 _ _ rfl rfl,_,rfl,dC ⟨_,rfl,.inl ⟨rfl,_,bE eL⟩,L,_,_,rfl,rfl,eL,(by rw[Ct];show(0:Nat) < 16777216;decide),?_⟩⟩;obtain⟨H2,hH2⟩:∃ H2,H2=upd H1 L (.lst ([] ++ [V.str "NoRow"])):=⟨_,rfl⟩
   rw[← hH2];have Y:H2 y=some (m4 y (.ref D)):=by rw[hH2,aW ax];exact Z
   have ac:H2 L=some (.lst [V.str "NoRow"]):=by rw[hH2];exact aH
   have ai:bJ H H2:=fun b o e=>by rw[hH2,aW (bB e hL)];exact sL _ _ e
   clear hH2;refine⟨_,rfl,y,D,_,_,_,rfl,(fun u r=>r),Y,ek,h1 1 _ _ rfl rfl,_,rfl,cO ?_⟩;refine⟨_,rfl,y,D,_,_,_,rfl,(fun u r=>r),Y,ek,h1 2 _ _ rfl rfl,_,rfl,cO ?_⟩;refine⟨_,rfl,y,D,_,_,_,rfl,(fun u r=>r),Y,ek,h1 3 _ _ rfl rfl,_,rfl,cO ?_⟩;refine⟨_,rfl,y,D,_,_,_,rfl,(fun u r=>r),Y,ek,h1 4 _ _ rfl rfl,_,rfl,cO ?_⟩;refine⟨_,rfl,y,D,_,_,_,rfl,(fun u r=>r),Y,ek,h1 5 _ _ rfl rfl,_,rfl,cO ?_⟩;refine⟨_,rfl,y,D,_,_,_,rfl,(fun u r=>r),Y,ek,h1 6 _ _ rfl rfl,_,rfl,cO ?_⟩;refine⟨_,rfl,zZ6,fun tp ah=>?_⟩;have st:=aQ (o:=.tup ([W,z,J,U,B,O].map V.ref)) ah;refine⟨y,D,tp,[W,z,J,U,B,O],_,rfl,aH,st _ _ Y,ek,h2,_,rfl,cO ?_⟩;refine⟨_,rfl,y,D,_,_,_,rfl,(fun u r=>r),st _ _ Y,ek,h3,_,rfl,cO ?_⟩;refine⟨_,rfl,L,_,rfl,.inl (bE (st _ _ ac)),rfl,_,rfl,cO ?_⟩;exact⟨_,rfl,L,_,0,_,rfl,rfl,bE (st _ _ ac),rfl,k _ (ai.trans st)⟩
  | cNoName hk=>
   obtain⟨ek,h1,h2,h3⟩:=tK hk;refine⟨_,rfl,y,D,_,_,_,rfl,(fun u r=>r),Z,ek,h1 0 _ _ rfl rfl,_,rfl,cO ?_⟩;refine⟨_,rfl,y,D,_,_,_,rfl,(fun u r=>r),Z,ek,h1 1 _ _ rfl rfl,_,rfl,cO ?_⟩;refine⟨_,rfl,y,D,_,_,_,rfl,(fun u r=>r),Z,ek,h1 2 _ _ rfl rfl,_,rfl,dC ⟨_,rfl,.inl ⟨rfl,_,bE eL⟩,L,_,_,rfl,rfl,eL,(by rw[Ct];show(0:Nat) < 16777216;decide),?_⟩⟩;obtain⟨H2,hH2⟩:∃ H2,H2=upd H1 L (.lst ([] ++ [V.str "NoName"])):=⟨_,rfl⟩
   rw[← hH2];have Y:H2 y=some (m4 y (.ref D)):=by rw[hH2,aW ax];exact Z
   have ac:H2 L=some (.lst [V.str "NoName"]):=by rw[hH2];exact aH
   have ai:bJ H H2:=fun b o e=>by rw[hH2,aW (bB e hL)];exact sL _ _ e
   clear hH2;refine⟨_,rfl,y,D,_,_,_,rfl,(fun u r=>r),Y,ek,h1 3 _ _ rfl rfl,_,rfl,cO ?_⟩;refine⟨_,rfl,y,D,_,_,_,rfl,(fun u r=>r),Y,ek,h1 4 _ _ rfl rfl,_,rfl,cO ?_⟩;refine⟨_,rfl,y,D,_,_,_,rfl,(fun u r=>r),Y,ek,h1 5 _ _ rfl rfl,_,rfl,cO ?_⟩;refine⟨_,rfl,y,D,_,_,_,rfl,(fun u r=>r),Y,ek,h1 6 _ _ rfl rfl,_,rfl,cO ?_⟩;refine⟨_,rfl,zZ6,fun tp ah=>?_⟩;have st:=aQ (o:=.tup ([W,z,J,U,B,O].map V.ref)) ah;refine⟨y,D,tp,[W,z,J,U,B,O],_,rfl,aH,st _ _ Y,ek,h2,_,rfl,cO ?_⟩;refine⟨_,rfl,y,D,_,_,_,rfl,(fun u r=>r),st _ _ Y,ek,h3,_,rfl,cO ?_⟩;refine⟨_,rfl,L,_,rfl,.inl (bE (st _ _ ac)),rfl,_,rfl,cO ?_⟩;exact⟨_,rfl,L,_,0,_,rfl,rfl,bE (st _ _ ac),rfl,k _ (ai.trans st)⟩
  | cTwice hk=>
   obtain⟨ek,h1,h2,h3⟩:=tK hk;refine⟨_,rfl,y,D,_,_,_,rfl,(fun u r=>r),Z,ek,h1 0 _ _ rfl rfl,_,rfl,cO ?_⟩;refine⟨_,rfl,y,D,_,_,_,rfl,(fun u r=>r),Z,ek,h1 1 _ _ rfl rfl,_,rfl,cO ?_⟩;refine⟨_,rfl,y,D,_,_,_,rfl,(fun u r=>r),Z,ek,h1 2 _ _ rfl rfl,_,rfl,cO ?_⟩;refine⟨_,rfl,y,D,_,_,_,rfl,(fun u r=>r),Z,ek,h1 3 _ _ rfl rfl,_,rfl,dC ⟨_,rfl,.inl ⟨rfl,_,bE eL⟩,L,_,_,rfl,rfl,eL,(by rw[Ct];show(0:Nat) < 16777216;decide),?_⟩⟩;obtain⟨H2,hH2⟩:∃ H2,H2=upd H1 L (.lst ([] ++ [V.str "Twice"])):=⟨_,rfl⟩
   rw[← hH2];have Y:H2 y=some (m4 y (.ref D)):=by rw[hH2,aW ax];exact Z
   have ac:H2 L=some (.lst [V.str "Twice"]):=by rw[hH2];exact aH
   have ai:bJ H H2:=fun b o e=>by rw[hH2,aW (bB e hL)];exact sL _ _ e
   clear hH2;refine⟨_,rfl,y,D,_,_,_,rfl,(fun u r=>r),Y,ek,h1 4 _ _ rfl rfl,_,rfl,cO ?_⟩;refine⟨_,rfl,y,D,_,_,_,rfl,(fun u r=>r),Y,ek,h1 5 _ _ rfl rfl,_,rfl,cO ?_⟩;refine⟨_,rfl,y,D,_,_,_,rfl,(fun u r=>r),Y,ek,h1 6 _ _ rfl rfl,_,rfl,cO ?_⟩;refine⟨_,rfl,zZ6,fun tp ah=>?_⟩;have st:=aQ (o:=.tup ([W,z,J,U,B,O].map V.ref)) ah;refine⟨y,D,tp,[W,z,J,U,B,O],_,rfl,aH,st _ _ Y,ek,h2,_,rfl,cO ?_⟩;refine⟨_,rfl,y,D,_,_,_,rfl,(fun u r=>r),st _ _ Y,ek,h3,_,rfl,cO ?_⟩;refine⟨_,rfl,L,_,rfl,.inl (bE (st _ _ ac)),rfl,_,rfl,cO ?_⟩;exact⟨_,rfl,L,_,0,_,rfl,rfl,bE (st _ _ ac),rfl,k _ (ai.trans st)⟩
  | cTooMany hk=>
   obtain⟨ek,h1,h2,h3⟩:=tK hk;refine⟨_,rfl,y,D,_,_,_,rfl,(fun u r=>r),Z,ek,h1 0 _ _ rfl rfl,_,rfl,cO ?_⟩;refine⟨_,rfl,y,D,_,_,_,rfl,(fun u r=>r),Z,ek,h1 1 _ _ rfl rfl,_,rfl,cO ?_⟩;refine⟨_,rfl,y,D,_,_,_,rfl,(fun u r=>r),Z,ek,h1 2 _ _ rfl rfl,_,rfl,cO ?_⟩;refine⟨_,rfl,y,D,_,_,_,rfl,(fun u r=>r),Z,ek,h1 3 _ _ rfl rfl,_,rfl,cO ?_⟩;refine⟨_,rfl,y,D,_,_,_,rfl,(fun u r=>r),Z,ek,h1 4 _ _ rfl rfl,_,rfl,dC ⟨_,rfl,.inl ⟨rfl,_,bE eL⟩,L,_,_,rfl,rfl,eL,(by rw[Ct];show(0:Nat) < 16777216;decide),?_⟩⟩;obtain⟨H2,hH2⟩:∃ H2,H2=upd H1 L (.lst ([] ++ [V.str "TooMany"])):=⟨_,rfl⟩
   rw[← hH2];have Y:H2 y=some (m4 y (.ref D)):=by rw[hH2,aW ax];exact Z
   have ac:H2 L=some (.lst [V.str "TooMany"]):=by rw[hH2];exact aH
   have ai:bJ H H2:=fun b o e=>by rw[hH2,aW (bB e hL)];exact sL _ _ e
   clear hH2;refine⟨_,rfl,y,D,_,_,_,rfl,(fun u r=>r),Y,ek,h1 5 _ _ rfl rfl,_,rfl,cO ?_⟩;refine⟨_,rfl,y,D,_,_,_,rfl,(fun u r=>r),Y,ek,h1 6 _ _ rfl rfl,_,rfl,cO ?_⟩;refine⟨_,rfl,zZ6,fun tp ah=>?_⟩;have st:=aQ (o:=.tup ([W,z,J,U,B,O].map V.ref)) ah;refine⟨y,D,tp,[W,z,J,U,B,O],_,rfl,aH,st _ _ Y,ek,h2,_,rfl,cO ?_⟩;refine⟨_,rfl,y,D,_,_,_,rfl,(fun u r=>r),st _ _ Y,ek,h3,_,rfl,cO ?_⟩;refine⟨_,rfl,L,_,rfl,.inl (bE (st _ _ ac)),rfl,_,rfl,cO ?_⟩;exact⟨_,rfl,L,_,0,_,rfl,rfl,bE (st _ _ ac),rfl,k _ (ai.trans st)⟩
theorem aGP:bY ["_law_ask","_law_caught","_law_found","e"] ["_law_ask"] (aO yC):=⟨rfl,rfl,rfl,by decide,rfl,by decide,by decide⟩
theorem aH6{f cD:Ac}{U ts:List Ac}{fd:AE}(F:Fun K "_law_told" "_law_told" yC f fd)(mD:mg "DykeError"=some (.ref cD))
  (W:Cl P w K mg base 1 "_law_class" ["_law_caught"] (aDB K U ts))
  :cH P w K mg base CX0 12 f fd ["_law_ask"] (aCI P w K mg base U ts cD):=by
 refine F.ok aGP (fun vs H Q E h=>?_) (fun af A outer s H vs Q E O h=>?_)
 ·obtain⟨f,rfl,_⟩:=h;rfl
 ·obtain⟨f,rfl,lc⟩:=h;have nd:=aGP.nd;have J:cY 1 _:=O.mono (by decide);refine⟨_,aJ (bQ (i:=1) nd rfl (AG rfl) oV) (aJ (bQ (i:=2) nd rfl (AG rfl) oV)
   (aJ (aFP (ie:=3) rfl rfl rfl (aHq (i:=2) nd rfl (AG rfl) (aJr (k:=11) (pv 0) O)) rfl mD nd rfl rfl (fun v=>aU (bQ (i:=1) nd rfl (AG rfl) (pv 3))))
   (aJ (cX (aIT (aIS (pv 1))) (aU (bG (dM (aG aX (aG (pv 2) aF))))) bM)
   (aU (bG (dM (aG aX (aG (cB W J (aG (pv 1) aF)) aF)))))))),?_⟩
  refine⟨_,rfl,f,rfl,lc.mono (fun v H' q=>?_) fun C dx H' ⟨D,nm,e,Z,ht,q⟩=>⟨by rw[e];exact Z,fun y hy=>?_⟩⟩
  ·refine⟨_,rfl,_,rfl,?_⟩;rw[Ic rfl];exact dC ⟨_,rfl,zZ2,fun L B=>q L _ (aQ B) aH⟩
  subst e;have sy:=aQ (o:=m4 y (.ref D)) hy;refine⟨_,rfl,_,rfl,_,rfl,?_⟩;rw[decide_eq_false (fun z=>nomatch z)];refine cO ?_;refine⟨_,rfl,y,D,nm,rfl,aH,ht,fun H2 Y=>⟨zZ2,fun L B=>?_⟩⟩;have sL:=aQ (o:=.lst [V.str "refused",.str nm]) B;exact q L _ ((sy.trans Y).trans sL) aH
theorem y8:∀ R:List P3,(R.map pD).map (dP 1)=R.map pD
 | []=>rfl
 | p :: R=>by rw[A8,A8,y8 R];rfl
theorem aBL(n:Nat):∀ R:List Str,(R.map AR).map (dP n)=R.map AR
 | []=>rfl
 | p :: R=>by
  rw[A8,A8,aBL n R];cases n <;> rfl
theorem f7.two{word:Str}{ds:List Ak}(h:f7 word ds):ds.map (dP 2)=ds:=by
 cases h with
 | @part z R _ _ _ _ _=>
  show[AR z,.tuple ((R.map pD).map (dP 1))]=_;rw[y8]
 | @join z R _ _ _ _ _=>
  show[Fb ((R.map AR).map (dP 1)),.str z]=_;rw[aBL]
 | _=>rfl
theorem f7.ord{word:Str}{ds:List Ak}(h:f7 word ds)(n d:Ak):eZ (.tuple (.str word :: n :: d :: ds)) (.tuple (.str word :: n :: d :: ds)):=by
 cases h with
 | part F z h2 B ha=>exact .part (CW _) z h2 B ha
 | join F z h2 B ha=>exact .join (CW _) z B ha
 | forfeit=>exact .other (by decide) (by decide)
 | measure=>exact .other (by decide) (by decide)
 | mend=>exact .other (by decide) (by decide)
 | alone=>exact .short (by simp)
 | breach=>exact .short (by simp)
 | view=>exact .short (by simp)
structure Bad(d:Ak):Prop where
 no:∃ d',eZ (dP 3 d) d'∧rowD d'=false
 ok:OkD 15259 3 d
theorem aEG{e:Ak}(h:jE e):OkD 315 1 e:=by
 rcases h with⟨_,h⟩ | ⟨is,rfl,h3,h⟩
 ·exact h.mono (by decide) (by decide)
 ·exact OkD.tuple (n:=3) h h3
def El(d:Ak):Prop:=(fJ d=false∧OkD 102 0 d)∨∃ es,d=.tuple es∧es.length≤6∧∀ e∈es,jE e
theorem aGQ{d:Ak}(h:El d):OkD 1905 2 d:=by
 rcases h with⟨_,h⟩ | ⟨es,rfl,h6,h⟩
 ·exact h.mono (by decide) (by decide)
 ·exact OkD.tuple (b:=315) (k:=1) (n:=6) (fun e z=>aEG (h e z)) h6
theorem tP{ds:List Ak}(h:∀ d∈ds,El d)(z:ds.length≤8):OkD 15259 3 (.tuple ds):=OkD.tuple (b:=1905) (k:=2) (n:=8) (fun e B=>aGQ (h e B)) z
def cC.top(u:cC):List Ak:=.str u.word :: .str u.name :: .int u.day :: u.ds
theorem cC.Ok.els{u:cC}{fs:List Str}(h:u.Ok fs):∀ d∈u.top,El d:=aGE h.rs h.nm h.d0 h.d1
theorem cC.Ok.len7{u:cC}{fs:List Str}(h:u.Ok fs):u.top.length≤7:=by
 have:=h.rs.len;simp only[cC.top,A1];omega
inductive Twn(us:List cC)(fs:List Str):Ak→Prop
 | mk {u:cC} {n:Nat} {i:Int} {b:Bool} (hu:u∈us) (ok:u.Ok fs) (h2:2≤n) (hi:u.top[n]?=some (.int i)):Twn us fs (.tuple (u.top.take n ++ .bool b :: u.top.drop (n + 1)))
theorem aDD(b:Bool):El (.bool b):=.inl ⟨rfl,by cases b <;> exact⟨by decide,by decide,by decide⟩⟩
theorem rH{word:Str}{n z:Ak}{ds:List Ak}(h:dI word ds=false):rowD (.tuple (.str word :: n :: z :: ds))=false:=by
 show(decide (word∈eG) && (cU n && (dN 0 9999 z && dI word ds)))=false;rw[h];simp
theorem Twn.bad{W:List cC}{fs:List Str}{d:Ak}(h:Twn W fs d):Bad d:=by
 obtain⟨hu,ok,h2,hi⟩:=h;rename_i u n i b;have Z:=ok.len7;have hn:n < u.top.length:=(AH.mp hi).1;refine⟨?_,tP (fun d hd=>?_) (by rw[Av,AX,A1,Cc];omega)⟩
 ·have B:=ok.rs;obtain⟨word,name,day,ds⟩:=u
  match n,h2 with
  | 2,_=>
   dsimp only at B;refine⟨.tuple (.str word :: .str name :: .bool b :: ds),?_,?_⟩
   ·show eZ (.tuple (.str word :: .str name :: .bool b :: ds.map (dP 2))) _;rw[B.two];exact B.ord _ _
   ·show(decide (word∈eG) && (bV name && (false && dI word ds)))=false;simp
  | m + 3,_=>
   have z:ds[m]?=some (.int i):=hi;dsimp only at B;cases B with
   | part=>
    match m,z with
    | 0,h=>cases h
    | 1,h=>cases h
   | join=>
    match m,z with
    | 0,h=>cases h
    | 1,h=>cases h
   | forfeit=>
    match m,z with
    | 0,h=>cases h
    | 1,h=>cases h
   | mend=>
    match m,z with
    | 0,h=>cases h
    | 1,h=>cases h
   | alone=>
    match m,z with
    | 0,h=>cases h
   | @measure f k U _ _=>
    match m,z with
    | 0,h=>cases h
    | 1,h=>
     refine⟨_,show eZ (.tuple [.str "measure",.str name,.int day,.str f,.bool b]) (.tuple [.str "measure",.str name,.int day,.str f,.bool b]) from .other (by decide) (by decide),rH ?_⟩;rw[show dI "measure" [.str f,.bool b]=hX [.str f,.bool b] from by unfold dI;rw[Ia (by decide),Ia (by decide),Ia (by decide),Ib rfl]];simp[hX,dN]
   | @breach f F O J U _ _ _ _ _ _=>
    have e:∀ ds,dI "breach" ds=hZ ds:=fun ds=>by unfold dI;rw[Ia (by decide),Ia (by decide),Ia (by decide),Ia (by decide),Ia (by decide),Ia (by decide),Ib rfl]
    match m,z with
    | 0,h=>cases h
    | 1,h=>
     refine⟨_,show eZ (.tuple [.str "breach",.str name,.int day,.str f,.bool b,.int O,.int J]) (.tuple [.str "breach",.str name,.int day,.str f,.bool b,.int O,.int J]) from .short (by simp),rH ?_⟩;rw[e];simp[hZ,dN]
    | 2,h=>
     refine⟨_,show eZ (.tuple [.str "breach",.str name,.int day,.str f,.int F,.bool b,.int J]) (.tuple [.str "breach",.str name,.int day,.str f,.int F,.bool b,.int J]) from .short (by simp),rH ?_⟩;rw[e];simp[hZ,dN]
    | 3,h=>
     refine⟨_,show eZ (.tuple [.str "breach",.str name,.int day,.str f,.int F,.int O,.bool b]) (.tuple [.str "breach",.str name,.int day,.str f,.int F,.int O,.bool b]) from .short (by simp),rH ?_⟩;rw[e];simp[hZ,dN]
   | @view f h F U _ _ Y=>
    match m,z with
    | 0,h=>cases h
    | 1,_=>
     refine⟨_,show eZ (.tuple [.str "view",.str name,.int day,.str f,.bool b,.str h]) (.tuple [.str "view",.str name,.int day,.str f,.bool b,.str h]) from .short (by simp),rH ?_⟩;rw[show dI "view" [.str f,.bool b,.str h]=p8 [.str f,.bool b,.str h] from by unfold dI;rw[Ia (by decide),Ia (by decide),Ia (by decide),Ia (by decide),Ia (by decide),Ia (by decide),Ia (by decide)]];simp[p8,dN]
    | 2,h=>cases h
 ·rcases Bf.mp hd with hd | hd
  ·exact ok.els d (Cz hd)
  ·rcases Al.mp hd with rfl | hd
   ·exact aDD b
   ·exact ok.els d (List.mem_of_mem_drop hd)
theorem aJU{u:cC}{fs:List Str}(ok:u.Ok fs)(b:Bool){j:Nat}:¬ u.top[j]?=some (.bool b):=fun h=>by
 have hm:=AF h;obtain⟨word,name,day,ds⟩:=u;have z:=ok.rs;simp only[cC.top]at hm;dsimp only at z;cases z <;> simp at hm
theorem aBM:Bad .none:=⟨⟨.none,.odd rfl,rfl⟩,⟨by decide,by decide,by decide⟩⟩
theorem aDE{xs:List V}{n:Nat}(h:n + 2 < xs.length):gU xs none (some (2 + (n:Int)))=xs.take (n + 2):=by
 rw[show(2:Int) + (n:Int)=((n + 2:Nat):Int) by omega];exact zS (α:=Nat) xs _
theorem y9{xs:List V}{n:Nat}:gU xs (some (2 + (n:Int) + 1)) none=xs.drop (n + 3):=by
 rw[show(2:Int) + (n:Int) + 1=((n + 3:Nat):Int) by omega];exact pY (α:=Nat) xs _
inductive aBN(vs:List V)(H:Hp)(Q:VK)(u3_:XK):Prop
 | mk (p c:Ac) (ns:List Int) (a:Int) (rw:Ac) (ys:List V) (us:List cC) (fs:List Str) (q0:vs=[.ref p,.ref rw]) (q1:cJ H p c ns a) (q2:a≤800000) (q3:H rw=some (.tup ys)) (q4:dS H ys us fs) (q5:us.length≤40) (q6:∀(x:V) (d:Ak) (a':Int) (H':Hp),RdV false H' x d→Bad d→a≤a'→a'≤a + 1→cJ H' p c ns a'→aY p H H'→Q x H'):aBN vs H Q u3_
def aGR:Sp:=fun vs H Q u3_=>aBN vs H Q u3_
theorem aGS:bY ["_law_pen_here","_law_rows","_law_some_here","_law_row_here","_law_at"] ["_law_pen_here","_law_rows"] (aO yD):=⟨rfl,rfl,rfl,by decide,rfl,by decide,by decide⟩
theorem aH7{f:Ac}{fd:AE}(F:Fun K "_law_twin" "_law_twin" yD f fd)(aa:mg "len"=none)(an:mg "range"=none)(ar:mg "isinstance"=none)(aj:mg "int"=none)
  (GT:Cl P w K mg base 1 "_law_take" ["_law_pen_here","_law_many"] hV)
  :cH P w K mg base CX0 2 f fd ["_law_pen_here","_law_rows"] aGR:=by
 refine F.ok aGS (fun vs H Q E h=>?_) (fun bp A outer s H vs Q E hr h=>?_)
 ·obtain⟨p,c,ns,a,rw,ys,us,fs,rfl,_⟩:=h;rfl
 ·obtain⟨p,c,ns,a,rw,ys,us,fs,rfl,hp,ha,hrw,hR,h40,k⟩:=h;have nd:=aGS.nd;have hu:_ < _:=hr.units0;refine⟨_,(aJ (bQ (i:=2) nd rfl (AG rfl) (dM aF))
   (aJ (kE B1 rfl (gX (pv 1)) (g:=dG 3) (bU (i:=3) nd rfl (AG rfl))
   (aU (kE B1 rfl (aDS rfl an (aG aI (aG (aV bH (by rfl) aa AO (aG (pv 3) aF)) aF))) (g:=dG 4) (bU (i:=4) nd rfl (AG rfl))
    (aU (cX (PW.pt (l0 (dJ (aV dQ (by rfl) ar (by kernel_rfl) (aG (cE cM (pv 3) (pv 4) Ig) (aG (dW (v:=.ty "int") (by rfl) aj (by kernel_rfl) rfl) aF)))) (i7 (bX jG (cE cM (pv 3) (pv 4) Ig) (cQ (aG aI (aG aI aF))) (by with_unfolding_all rfl))))) (aU (gW (jX A7 Bn Bm fS (pv 2) (aG (cA nZ (cA nZ (eQ mH (pv 3) fV (fX (pv 4))) (cQ (aG (eV dU (cE cM (pv 3) (pv 4) Ig) aI (cF _)) aF))) (eQ mH (pv 3) (fX (cA eM (pv 4) aI)) fV)) aF)))) bM)))))
   (aJ (cX (bX (aFY hu) (pv 2) (dM aF) (cF _)) (aU (bG oV)) bM)
   (aU (bG (cE c9 (pv 2) (cB GT hr (aG (pv 0) (aG (aV bH (by rfl) aa AO (aG (pv 2) aF)) aF))) Ig)))))),?_⟩
  have bz:=hR.len;refine⟨zZ0,fun L hL=>?_⟩;have sL:=aQ (o:=.lst ([]:List V)) hL;refine⟨_,rfl,rw,rfl,⟨_,aZ (sL _ _ hrw)⟩,?_⟩;refine aCP (K:=K) (xs:=ys) (fun i σ H'=>Ex3 fun(o3 Z:Option V) (zs:List V)=>Aw3 (σ=[some (.ref p),some (.ref rw),some (.ref L),o3,Z]) (bJ H H') (Aw3 (H' L=some (.lst zs)) (zs.length≤7 * i) (∀ z∈zs,∃ d,RdV false H' z d∧Twn us fs d))) ⟨none,none,[],rfl,sL,aH,by simp,(fun z h=>by simp at h)⟩ (fun i σ H' _ h=>by obtain⟨_,_,_,_,S,_⟩:=h;exact aZ (S _ _ hrw)) ?_ ?_
  ·rintro i v σ H1 hv ⟨o3,Z,zs,rfl,S1,U,aA,B⟩;obtain⟨u,hu',rdv,ok⟩:=hR.at' i v hv;have hi:i < ys.length:=(AH.mp hv).1;obtain⟨tr,cI,rfl,htr,hrest⟩:=ok.tup rdv;have br:=ok.len7;have aM:(V.str u.word :: .str u.name :: .int u.day :: cI).length=u.top.length:=by simp[cC.top,hrest.len]
   have J:cG false H (V.str u.word :: .str u.name :: .int u.day :: cI) u.top:=by
    unfold cC.d gE at rdv;cases rdv with
    | tup e hl r=>
     rw[htr]at e;cases e;exact r
   generalize V.str u.word :: .str u.name :: .int u.day :: cI=xs at htr aM J;dsimp only[dG];refine⟨_,rfl,tr,xs,rfl,.inr (aZ (S1 _ _ htr)),2,((xs.length:Nat):Int),rfl,⟨by decide,by decide,by omega,by omega⟩,?_⟩;refine jF (lo:=2) (fun j σ H'=>∃(Z:Option V) (zs:List V),Aw3 (σ=[some (.ref p),some (.ref rw),some (.ref L),some (.ref tr),Z]) (bJ H H') (Aw3 (H' L=some (.lst zs)) (zs.length≤7 * i + j) (∀ z∈zs,∃ d,RdV false H' z d∧Twn us fs d))) ⟨Z,zs,rfl,S1,U,by omega,B⟩ ?_ ?_
   ·rintro j σ H2 hj ⟨Z,zs,rfl,W,U,am,B⟩;have aN:j + 2 < xs.length:=by omega
    obtain⟨w,hw⟩:∃ w,xs[j + 2]?=some w:=⟨_,Ag aN⟩
    obtain⟨d,hd,rw'⟩:=J.at hw;have ac:=W _ _ htr;have ah:atI xs (2 + (j:Int))=some w:=by
     rw[show(2:Int) + (j:Int)=((j + 2:Nat):Int) by omega];exact dD hw
    have ap:=rw'.same W;dsimp only[dG];refine⟨_,rfl,_,rfl,tr,xs,_,w,rfl,rfl,aZ ac,ah,_,"int",_,_,rfl,lY ap,aDm d,_,rfl,?_⟩;cases ae:isInt d with
    | false=>exact cO (cO ⟨_,zs,rfl,W,U,by omega,B⟩)
    | true=>
     refine dC ?_;have bD:=ok.els d (AF hd);obtain⟨k,rfl⟩:∃ k,d=.int k:=by
      cases d with
      | int k=>exact⟨k,rfl⟩
      | bool b=>exact absurd hd (aJU ok b)
      | _=>simp[isInt]at ae
     cases ap;refine⟨_,rfl,_,rfl,tr,xs,_,_,rfl,rfl,aZ ac,ah,zZ2,fun q hq=>?_⟩;have sq:=aQ (o:=.tup [V.int 0,.int 1]) hq;refine⟨q,_,rfl,.inr (aZ aH),rfl,rfl,_,rfl,?_⟩;generalize upd H2 q (.tup [V.int 0,.int 1])=H3 at sq ⊢;have S3:=W.trans sq;refine d9 (fun g=>?_) fun g=>⟨_,zs,rfl,S3,sq _ _ U,by omega,fun z hz=>by obtain⟨d,a,b⟩:=B z hz;exact⟨d,a.same sq,b⟩⟩
     have O:=S3 _ _ htr;refine⟨_,rfl,.inl ⟨rfl,_,bE (sq _ _ U)⟩,_,rfl,_,rfl,_,rfl,tr,xs,rfl,O,fun r1 H4 s4 e4=>?_⟩;refine⟨_,rfl,_,rfl,tr,xs,_,_,rfl,rfl,aZ (s4 _ _ O),ah,rfl,zZ1,fun q1 aC=>?_⟩;obtain⟨b,hb⟩:∃ b,b=decide (V.int k=V.int 1):=⟨_,rfl⟩
     rw[← hb];have ai:=aQ (o:=.tup [V.bl b]) aC;have bt:(gU xs none (some (2 + (j:Int)))).length≤7:=by rw[aDE (by omega)];rw[AX];omega
     refine⟨r1,q1,_,_,rfl,rfl,ai _ _ e4,aH,(by show _ + 1≤1000000;omega),fun r2 H5 s5 e5=>?_⟩;refine⟨_,rfl,_,rfl,_,_,rfl,rfl,_,rfl,tr,xs,rfl,s5 _ _ (ai _ _ (s4 _ _ O)),fun r3 H6 s6 e6=>?_⟩;have bF:(gU xs (some (2 + (j:Int) + 1)) none).length≤7:=by rw[y9,Cc];omega
     have aP:=s5.trans s6;have aB:=s4.trans (ai.trans aP);refine⟨r2,r3,_,_,rfl,rfl,s6 _ _ e5,e6,(by rw[Av];show _ + 1 + _≤1000000;omega),fun r4 H7 s7 e7=>?_⟩;have ad:=aB.trans s7;have S7:=S3.trans ad;have aq:=ad _ _ (sq _ _ U);rw[aDE (by omega),y9]at e7;have ak:RdV false H7 (.ref r4) (.tuple (u.top.take (j + 2) ++ [.bool b] ++ u.top.drop (j + 3))):=
      .tup e7 (by rw[Av,Av,AX,Cc];show _ + 1 + _≤1000;omega) ((((J.same S7).take _).app (.cons (.bl b) .nil)).app ((J.same S7).drop _))
     rw[DC]at ak;have aK:Twn us fs (.tuple (u.top.take (j + 2) ++ .bool b :: u.top.drop (j + 2 + 1))):=.mk (AF hu') ok (by omega) hd;refine⟨L,_,_,rfl,rfl,aq,by rw[Ct];show zs.length < 16777216;omega,?_⟩;have kF:∀{z:V} {d:Ak},RdV false H7 z d→RdV false (upd H7 L (.lst (zs ++ [V.ref r4]))) z d:=fun h=>h.keepF fun a o e _ hl=>by
      rw[aW fun z=>hl zs (by rw[z,aq]at e;injection e with e;exact e.symm)];exact e
     refine⟨_,_,rfl,fun b' o e=>by rw[aW (bB e hL)];exact S7 _ _ e,aH,by rw[Av];show _ + 1≤_;omega,fun z hz=>?_⟩;rcases Bf.mp hz with hz | hz
     ·obtain⟨d,a1,a2⟩:=B z hz;exact⟨d,kF (a1.same (sq.trans ad)),a2⟩
     ·rw[Bx.mp hz];exact⟨_,kF ak,aK⟩
   ·rintro σ H2 ⟨Z,zs,rfl,W,U,am,B⟩;exact⟨_,_,zs,rfl,W,U,by omega,B⟩
  ·rintro σ H1 ⟨o3,Z,zs,rfl,S1,U,aA,B⟩;refine⟨_,rfl,zZ0,fun ao aT=>?_⟩;have sE:=aQ (o:=.lst ([]:List V)) aT;have Y:=sE _ _ U;refine⟨L,ao,zs,rfl,rfl,bE Y,bE aH,_,rfl,?_⟩;generalize upd H1 ao (.lst ([]:List V))=H2 at sE Y ⊢;have W:=S1.trans sE;have ag:=hp.same W;by_cases g:zs=[]
   ·rw[Ic g];exact dC (k .non .none a H2 .non aBM (Em _) (by omega) ag ((aY.refl p H).same W))
   ·rw[decide_eq_false g];refine cO ?_;have am:0 < zs.length:=E4.mpr g;refine⟨_,rfl,_,rfl,_,rfl,L,zs,rfl,.inl (bE Y),p,c,ns,a,_,rfl,ag,by omega,by omega,?_,fun r a' H3 r0 r1 a1 a2 aL k3=>?_⟩
    ·exact Int.lt_trans (show((zs.length:Nat):Int) < 2 ^ 64 by omega) (by decide)
    have aR:L≠p:=by
     obtain⟨⟨l,_,e⟩,_,_,_⟩:=hp;exact fun z=>by rw[z,e]at hL;cases hL
    obtain⟨m,rfl⟩:∃ m:Nat,r=(m:Int):=⟨r.toNat,by omega⟩
    obtain⟨z,hz⟩:∃ z,zs[m]?=some z:=⟨_,Ag (by omega)⟩
    obtain⟨d,d1,d2⟩:=B z (AF hz);refine⟨L,zs,_,z,rfl,rfl,bE (k3 _ _ Y aR),dD hz,k z d a' H3 ((d1.same sE).keepF fun b o e hd _=>k3 b o e fun y=>?_) d2.bad a1 a2 aL (((aY.refl p H).same W).trans k3)⟩;obtain⟨⟨l,_,e'⟩,_,_,_⟩:=ag;rw[y,e']at e;cases e;exact hd _ _ rfl
theorem wI{H H':Hp}{p c:Ac}{ns:List Int}{a:Int}(z:cJ H p c ns a)(k:aY p H H'):∀ b o,H b=some o→(∀ B r,o≠.dK (B :: r))→H' b=some o:=fun b o e hd=>k b o e fun y=>by
 obtain⟨⟨l,_,e'⟩,_,_,_⟩:=z;rw[y,e']at e;cases e;exact hd _ _ rfl
abbrev Kp(H H':Hp):Prop:=∀ b o,H b=some o→(∀ kv r,o≠.dK (kv :: r))→H' b=some o
theorem Kp.of{H H':Hp}(s:bJ H H'):Kp H H':=fun b o e _=>s b o e
theorem Kp.tup{H H':Hp}(k:Kp H H'){b:Ac}{xs:List V}(e:H b=some (.tup xs)):H' b=some (.tup xs):=k _ _ e (fun _ _ z=>nomatch z)
theorem Kp.lst{H H':Hp}(k:Kp H H'){b:Ac}{xs:List V}(e:H b=some (.lst xs)):H' b=some (.lst xs):=k _ _ e (fun _ _ z=>nomatch z)
theorem dS.on{H H':Hp}{xs:List V}{z:List cC}{fs:List Str}(h:dS H xs z fs)(k:Kp H H'):dS H' xs z fs:=
 ⟨h.len,fun i x B=>by obtain⟨u,a,b,c⟩:=h.at' i x B;exact⟨u,a,b.keep k,c⟩⟩
theorem eI.on{H H':Hp}{t:Ac}{z:List Ak}{B:List cC}(h:eI H t z B)(k:Kp H H'):eI H' t z B:=by
 obtain⟨la,rw,ys,h1,h2,h3,h4⟩:=h.ex;exact⟨⟨la,rw,ys,k.tup h1,h2.keep k,k.tup h3,h4.on k⟩,h.fl,h.l8,h.u4,h.nd,h.ri⟩
inductive aGT(us:List cC)(fr:cC):Str→Option cC→Prop
 | no:aGT us fr "NoRow" none
 | twice {r:cC} (h:r.name∈us.map (·.name)):aGT us fr "Twice" (some r)
 | many (h:us.length=40):aGT us fr "TooMany" (some fr)
 | fine (h:us.length≠40):aGT us fr "" (some fr)
inductive zC(vs:List V)(H:Hp)(Q:VK)(u3_:XK):Prop
 | mk (p c:Ac) (ns:List Int) (a:Int) (t:Ac) (lds:List Ak) (us:List cC) (xf:V) (fr:cC) (st:Str) (q0:vs=[.ref p,.ref t,xf,.str st]) (q1:cJ H p c ns a) (q2:a≤600000) (q3:eI H t lds us) (q4:RdV false H xf fr.d) (q5:fr.Ok (lds.map fU)) (q6:fr.name ∉ us.map (·.name)) (q7:bV st=true) (q8:st ∉ lds.map fU) (q9:∀(q:Ac) (x:V) (w:Str) (m:Bool) (d:Ak) (o:Option cC) (a':Int) (H':Hp),H' q=some (.tup [x,.str w])→RdV m H' x d→OkD 15259 3 d→ThX (lds.map fU) d o→aGT us fr w o→a≤a'→a'≤a + 210→cJ H' p c ns a'→aY p H H'→Q (.ref q) H'):zC vs H Q u3_
def aDF:Sp:=fun vs H Q u3_=>zC vs H Q u3_
def cC.by(r:cC)(n:Str):cC:={ r with name:=n }
theorem cC.Ok.by{r:cC}{fs:List Str}(h:r.Ok fs){n:Str}(hn:bV n=true):(r.by n).Ok fs:=⟨h.rs,hn,h.d0,h.d1,h.fi⟩
theorem cC.Ok.okd{r:cC}{fs:List Str}(h:r.Ok fs):OkD 15259 3 r.d∧eZ (dP 3 r.d) r.d:=by
 refine⟨tP h.els (Ba h.len7 (by decide)),?_⟩;show eZ (.tuple (.str r.word :: .str r.name :: .int r.day :: r.ds.map (dP 2))) _;rw[h.rs.two];exact h.rs.ord _ _
theorem aKN(y:Int):inV (V.int y) [V.int 2,.int 3,.int 5]=decide (y=2∨y=3∨y=5):=by
 simp only[inV,eqV,Dp,List.any_nil,F1];rw[BQ];simp only[EH,beq_iff_eq,decide_eq_true_eq];omega
theorem aLt(y:Int):inV (V.int y) [V.int 4,.int 5]=decide (y=4∨y=5):=by
 simp only[inV,eqV,Dp,List.any_nil,F1];rw[BQ];simp only[EH,beq_iff_eq,decide_eq_true_eq];omega
theorem aGU(ds:List Ak):dI "part" ds=yI ds:=by unfold dI;rw[Ib rfl]
theorem aGV(ds:List Ak):dI "join" ds=v9 ds:=by unfold dI;rw[Ia (by decide),Ib rfl]
theorem aBO(ds:List Ak):dI "forfeit" ds=iX ds:=by unfold dI;rw[Ia (by decide),Ia (by decide),Ib rfl]
theorem aBP(ds:List Ak):dI "measure" ds=hX ds:=by unfold dI;rw[Ia (by decide),Ia (by decide),Ia (by decide),Ib rfl]
theorem aGW(ds:List Ak):dI "mend" ds=qA ds:=by unfold dI;rw[Ia (by decide),Ia (by decide),Ia (by decide),Ia (by decide),Ib rfl]
theorem aEH(ds:List Ak):dI "alone" ds=pF ds:=by unfold dI;rw[Ia (by decide),Ia (by decide),Ia (by decide),Ia (by decide),Ia (by decide),Ib rfl]
theorem aCJ(ds:List Ak):dI "breach" ds=hZ ds:=by unfold dI;rw[Ia (by decide),Ia (by decide),Ia (by decide),Ia (by decide),Ia (by decide),Ia (by decide),Ib rfl]
theorem aGX(ds:List Ak):dI "view" ds=p8 ds:=by unfold dI;rw[Ia (by decide),Ia (by decide),Ia (by decide),Ia (by decide),Ia (by decide),Ia (by decide),Ia (by decide)]
theorem aH8{word:Str}{ds es:List Ak}(h:f7 word ds)(B:es.length≠ds.length):dI word es=false:=by
 cases h with
 | part=>rw[aGU];exact aBu B
 | join=>rw[aGV];exact aBv B
 | forfeit=>rw[aBO];unfold iX;rw[decide_eq_false (show¬ es.length=2 from B)];rfl
 | measure=>rw[aBP];exact rS B
 | mend=>rw[aGW];exact v0 fun z=>B z.1
 | alone=>rw[aEH];exact yH B
 | breach=>rw[aCJ];exact vZ B
 | view=>rw[aGX];exact aBn B
theorem aH9{word:Str}{ds es:List Ak}(h:f7 word ds)(z:es.length≠ds.length)(n d:Ak):eZ (.tuple (.str word :: n :: d :: es)) (.tuple (.str word :: n :: d :: es)):=by
 by_cases h2:es.length=2
 ·match es,h2 with
  | [a,b],_=>
   cases h with
   | part=>exact absurd rfl z
   | join=>exact absurd rfl z
   | forfeit=>exact absurd rfl z
   | measure=>exact absurd rfl z
   | mend=>exact absurd rfl z
   | alone=>exact .other (by decide) (by decide)
   | breach=>exact .other (by decide) (by decide)
   | view=>exact .other (by decide) (by decide)
 ·exact .short (by simp only[A1];omega)
theorem aDG{r:cC}{fs:List Str}(ok:r.Ok fs){es:List Ak}(h2:es.map (dP 2)=es)(z:es.length≠r.ds.length)(B:∀ d∈es,El d)(F:es.length≤5):Bad (.tuple (.str r.word :: .str r.name :: .int r.day :: es)):=by
 refine⟨⟨.tuple (.str r.word :: .str r.name :: .int r.day :: es),?_,rH (aH8 ok.rs z)⟩,tP (fun d hd=>?_) (by simp only[A1];omega)⟩
 ·show eZ (.tuple (.str r.word :: .str r.name :: .int r.day :: es.map (dP 2))) _;rw[h2];exact aH9 ok.rs z _ _
 ·simp only[Al]at hd;rcases hd with rfl | rfl | rfl | hd
  ·exact ok.els _ (by simp[cC.top])
  ·exact ok.els _ (by simp[cC.top])
  ·exact ok.els _ (by simp[cC.top])
  ·exact B d hd
inductive aGY(ws:List Str)(H:Hp)(v:V):Prop
 | mk (m:Bool) (d:Ak) (q0:RdV m H v d) (q1:OkD 15259 3 d) (q2:ThX ws d none):aGY ws H v
def aGZ(ws:List Str)(H:Hp)(v:V):Prop:=aGY ws H v
theorem Bad.th{z:List Str}{d:Ak}(h:Bad d):ThX z d none:=by
 obtain⟨d',o,n⟩:=h.no;exact .no o n
theorem Bad.noTh{z:List Str}{H:Hp}{v:V}{m:Bool}{d:Ak}(h:Bad d)(r:RdV m H v d):aGZ z H v:=⟨m,d,r,h.ok,h.th⟩
theorem aGZ.on{z:List Str}{H H':Hp}{v:V}(h:aGZ z H v)(k:Kp H H'):aGZ z H' v:=by
 obtain⟨m,d,r,a,b⟩:=h;exact⟨m,d,r.keep k,a,b⟩
theorem aG0:Bad (.bool true):=⟨⟨_,.odd rfl,rfl⟩,⟨by decide,by decide,by decide⟩⟩
theorem aEI:Bad (.int 7):=⟨⟨_,.odd rfl,rfl⟩,⟨by decide,by decide,by decide⟩⟩
theorem aEJ:Bad (.str ""):=⟨⟨_,.odd rfl,rfl⟩,⟨by decide,by decide,by decide⟩⟩
theorem aIa:Bad (.tuple []):=⟨⟨.tuple [],.short (by simp),rfl⟩,⟨by decide,by decide,by decide⟩⟩
theorem aIb:Bad (.list []):=⟨⟨.tuple [],.short (by simp),rfl⟩,⟨by decide,by decide,by decide⟩⟩
theorem aIc:Bad (.dict []):=⟨⟨_,.odd rfl,rfl⟩,⟨by decide,by decide,by decide⟩⟩
theorem oH{z:Str}(h:bV z=true):El (.str z):=.inl ⟨rfl,OkD.name h⟩
theorem aG1{nm:Str}(h:bV nm=true):Bad (.tuple [.str "alone",.str nm,.int 10000,.str "a"]):=by
 refine⟨⟨_,show eZ (.tuple [.str "alone",.str nm,.int 10000,.str "a"]) _ from .short (by simp),?_⟩,tP (fun d hd=>?_) (by show 4≤8;decide)⟩
 ·show(decide (("alone":Str)∈eG) && (bV nm && (decide ((0:Int)≤10000∧(10000:Int)≤9999) && dI "alone" [.str "a"])))=false;rw[decide_eq_false (show¬ ((0:Int)≤10000∧(10000:Int)≤9999) by omega)];simp
 ·simp only[Al,Ao,or_false]at hd;rcases hd with rfl | rfl | rfl | rfl
  ·exact oH (by decide)
  ·exact oH h
  ·exact .inl ⟨rfl,by exact⟨by decide,by decide,by decide⟩⟩
  ·exact oH (by decide)
theorem aG2{nm:Str}(h:bV nm=true):Bad (.list [.str "alone",.str nm,.bool true,.str "a"]):=by
 refine⟨⟨_,show eZ (.tuple [.str "alone",.str nm,.bool true,.str "a"]) _ from .short (by simp),?_⟩,OkD.mono (OkD.list (b:=1905) (k:=2) (n:=4) (fun d hd=>aGQ ?_) (by show 4≤4;decide)) (by decide) (by decide)⟩
 ·show(decide (("alone":Str)∈eG) && (bV nm && (false && dI "alone" [.str "a"])))=false;simp
 ·simp only[Al,Ao,or_false]at hd;rcases hd with rfl | rfl | rfl | rfl
  ·exact oH (by decide)
  ·exact oH h
  ·exact aDD true
  ·exact oH (by decide)
theorem aBQ{nm st:Str}(h:bV nm=true)(B:bV st=true):(cC.mk "measure" nm 0 [.str st,.int 0]).Ok [st]:=⟨.measure B (by decide) (by decide),h,(show(0:Int)≤0 by decide),(show(0:Int)≤9999 by decide),fun _ z cI e=>by cases e;simp⟩
theorem aG3{nm st:Str}(h:bV nm=true)(B:bV st=true):(cC.mk "view" nm 0 [.str st,.int 0,.str "a"]).Ok [st]:=⟨.view B (by decide) (by decide) (by decide),h,(show(0:Int)≤0 by decide),(show(0:Int)≤9999 by decide),fun _ z cI e=>by cases e;simp⟩
theorem aG4{F:List Str}{r:cC}{st:Str}{ds:List Ak}(ok:r.Ok [st])(hd:r.ds=.str st :: ds)(hw:inV (.str r.word) [V.str "measure",.str "breach",.str "view"]=true)(B:st ∉ F):ThX F r.d none:=.far ok.okd.2 ok fun z=>B (z hw st ds hd)
theorem aG5{a b c:V}{cI:List V}{n:Nat}(z:cI.length≠0)(hn:cI.length=n):gU (a :: b :: c :: cI) none (some (-1))=a :: b :: c :: cI.take (n - 1):=by
 subst hn;have e:HT.sIx (a :: b :: c :: cI).length (a :: b :: c :: cI).length (some (-1))=(cI.length - 1) + 3:=by
  unfold HT.sIx;dsimp only;rw[Ib (by decide)];simp only[A1];omega
 unfold gU;rw[HT.sIx_none,DA,Fj,e];rfl
theorem aDH:bY ["_law_pen_here","_law_roll","_law_fresh","_law_strange","_law_laying_here","_law_rows","_law_way","_law_name","_law_word","_law_odd"] ["_law_pen_here","_law_roll","_law_fresh","_law_strange"] (aO pC):=⟨rfl,rfl,rfl,by decide,rfl,by decide,by decide⟩
theorem aG6{f:Ac}{fd:AE}(F:Fun K "_law_put_in" "_law_put_in" pC f fd)(ap:mg "len"=none)(bc:mg "int"=none)
  (GT:Cl P w K mg base 1 "_law_take" ["_law_pen_here","_law_many"] hV)
  (GL:Cl P w K mg base 3 "_law_listed" ["_law_pen_here","_law_row_here"] aBA)
  (GW:Cl P w K mg base 2 "_law_twin" ["_law_pen_here","_law_rows"] aGR)
  :cH P w K mg base CX0 4 f fd ["_law_pen_here","_law_roll","_law_fresh","_law_strange"] aDF:=by
 refine F.ok aDH (fun vs H Q E h=>?_) (fun dn A outer s H vs Q E hr h=>?_)
 ·obtain⟨p,c,ns,a,t,lds,us,xf,fr,st,rfl,_⟩:=h;rfl
 ·obtain⟨p,c,ns,a,t,lds,us,xf,fr,st,rfl,hp,ha,roll,rdF,okF,hfn,hst,hst2,k⟩:=h;have nd:=aDH.nd;have hu:_ < _:=hr.units0;have ay:cY 1 _:=hr.mono (by decide);have cg:cY 2 _:=hr.mono (by decide);refine⟨_,(aJ (kB (pv 1) (m8 rfl (dB (bU (i:=4) nd rfl (AG rfl)) (dB (bU (i:=5) nd rfl (AG rfl)) jV))))
   (aJ (bQ (i:=6) nd rfl (AG rfl) (cB GT ay (aG (pv 0) (aG aI aF))))
   (aJ (bQ (i:=7) nd rfl (AG rfl) (cE cM (pv 2) aI Ig))
   (aJ (nE (cX (PW.pt (l0 (bX (yB hu) (pv 5) (cQ aF) (cF _)) (i7 (bX jG (pv 6) (cQ (aG aI (aG aI (aG aI aF)))) (by with_unfolding_all rfl))))) (aU (bQ (i:=7) nd rfl (AG rfl) (cE cM (cE cM (pv 5) (cB GT ay (aG (pv 0) (aG (aV bH (by rfl) ap AO (aG (pv 5) aF)) aF))) Ig) aI Ig))) bM))
   (aJ (bQ (i:=8) nd rfl (AG rfl) aX)
   (aJ (nE (cX (bX dU (pv 7) (cE cM (pv 2) aI Ig) (cF _)) (aU (bQ (i:=8) nd rfl (AG rfl) (cE c9 (dM (aG aX (aG aX aF))) (cV xB (by rfl) bc (by kernel_rfl) (aG (eV dU (aV bH (by rfl) ap AO (aG (pv 5) aF)) aI (cF _)) aF)) Ig))) bM))
   (aJ (cX (bX aEU (pv 6) aI (cF _)) (aU (bG (cQ (aG (cB GL hr (aG (pv 0) (aG (cA nZ (cA nZ (eQ mH (pv 2) fV (fX aI)) (cQ (aG (pv 7) aF))) (eQ mH (pv 2) (fX aI) fV)) aF))) (aG (pv 8) aF))))) bM)
   (aJ (nE (cX (PW.pt (l0 (bX dU (pv 6) aI (cF _)) (i7 (bX (yB hu) (pv 5) (cQ aF) (cF _))))) (aU (bG (cQ (aG (cE cM (pv 5) (jX A7 PySem.F.slot_list_index PySem.F.type_list_index aAb (fE (N:=["_law_row_here"]) (src:=[none]) (osc:=aO pC) (oN:=["_law_pen_here","_law_roll","_law_fresh","_law_strange","_law_laying_here","_law_rows","_law_way","_law_name","_law_word","_law_odd"]) ⟨by rfl,by decide,by decide,by decide,rfl,by rfl⟩ (gX (pv 5)) (fun cl s H fp dh C=>⟨bU (i:=0) (show(["_law_row_here"]:List Str).Nodup by decide) rfl (AG rfl),eB,cE (r:=aE6 K) cM (pv 0) aI Ig⟩)) (aG (pv 7) aF)) Ig) (aG aX aF))))) bM))
   (aJ (cX (bX jG (pv 6) (cQ (aG aI (aG aI aF))) (by with_unfolding_all rfl)) (aU (bG (cQ (aG (cQ (aG aX (aG (pv 7) (aG aI (aG (pv 3) (aG aI aF)))))) (aG aX aF))))) bM)
   (aJ (cX (bX dU (pv 6) aI (cF _)) (aU (bG (cQ (aG (cB GW cg (aG (pv 0) (aG (pv 5) aF))) (aG aX aF))))) bM)
   (aJ (bQ (i:=9) nd rfl (AG rfl) (dM (aG oV (aG iR (aG aI (aG aX (aG (cQ aF) (aG (dM aF) (aG aAL (aG (eQ mH (pv 2) fV (fX (aKe aI2 aI))) (aG (cA nZ (pv 2) (cQ (aG aI aF))) (aG (cQ (aG aX (aG (pv 7) (aG aI (aG (pv 3) (aG aI (aG aX aF))))))) aF))))))))))))
   (aJ (bQ (i:=9) nd rfl (AG rfl) (cA zN (pv 9) (dM (aG (cQ (aG aX (aG (pv 7) (aG aI (aG aX aF))))) (aG (dM (aG aX (aG (pv 7) (aG iR (aG aX aF))))) aF)))))
   (aU (bG (cQ (aG (cE c9 (pv 9) (cB GT ay (aG (pv 0) (aG aI aF))) Ig) (aG aX aF))))))))))))))))),?_⟩
  obtain⟨la,rw,ys,h1,h2,h3,h4⟩:=roll.ex;have hl:=h4.len;have bW:=roll.u4;obtain⟨tr,cI,rfl,htr,hrest⟩:=okF.tup rdF;refine⟨_,rfl,t,_,rfl,aZ h1,rfl,_,_,rfl,_,_,rfl,rfl,_,rfl,p,c,ns,a,_,rfl,hp,by omega,by decide,by decide,fun wy a1 H1 w0 w1 l1 u1 b0 k1=>?_⟩;have K1:Kp _ _:=wI hp k1;dsimp only[dG];refine⟨_,rfl,tr,_,1,_,rfl,rfl,aZ (K1.tup htr),dD (j:=1) rfl,fun σ' H'=>∃(nm:Str) (a2:Int),σ'=[some (.ref p),some (.ref t),some (.ref tr),some (.str st),some (.ref la),some (.ref rw),some (.int wy),some (.str nm),none,none]∧(nm=fr.name∨nm∈us.map (·.name))∧(us≠[]→(wy=2∨wy=3∨wy=5)→nm∈us.map (·.name))∧cJ H' p c ns a2∧a≤a2∧a2≤a + 2∧aY p H H',?_,?_⟩
  ·refine⟨_,rfl,zZ0,fun e0 aB=>?_⟩;have s0:=aQ (o:=.tup ([]:List V)) aB;refine⟨rw,e0,ys,rfl,rfl,aZ (s0 _ _ (K1.tup h3)),aZ aH,_,rfl,?_⟩;generalize upd H1 e0 (.tup ([]:List V))=H2 at s0 ⊢;have U:=b0.same s0;have k2:=k1.same s0;have K2:Kp _ _:=wI hp k2;by_cases g:ys=[]
   ·rw[decide_eq_false (fun z=>z g)];refine cO (cO ?_);exact⟨fr.name,a1,rfl,.inl rfl,fun h=>absurd (Bq (by rw[← hl,g];rfl)) h,U,by omega,by omega,k2⟩
   rw[Ic g];refine dC ?_;have ed:0 < ys.length:=E4.mpr g;refine⟨_,rfl,zZ3,fun q1 W=>?_⟩;have J:=aQ (o:=.tup [V.int 2,.int 3,.int 5]) W;refine⟨q1,_,rfl,.inr (aZ aH),rfl,rfl,_,rfl,?_⟩;rw[Ia AD,aKN];generalize upd H2 q1 _=H3 at J ⊢;have Z:=U.same J;have k3:=k2.same J;have K3:Kp _ _:=wI hp k3;refine d9 (fun g2=>?_) fun g2=>?_
   ·refine⟨_,rfl,_,rfl,_,rfl,rw,ys,rfl,.inr (aZ (K3.tup h3)),p,c,ns,a1,_,rfl,Z,by omega,by omega,?_,fun r a4 H4 r0 r1 l4 u4 b4 k4=>?_⟩
    ·exact Int.lt_trans (show((ys.length:Nat):Int) < 2 ^ 64 by omega) (by decide)
    have k5:=k3.trans k4;have K5:Kp _ _:=wI hp k5;obtain⟨n,rfl⟩:∃ n:Nat,r=(n:Int):=⟨r.toNat,by omega⟩
    obtain⟨z,hz⟩:∃ z,ys[n]?=some z:=⟨_,Ag (by omega)⟩
    obtain⟨u,hu',rdu,oku⟩:=h4.at' n z hz;obtain⟨tu,ru,rfl,htu,_⟩:=oku.tup rdu;refine⟨rw,ys,_,_,rfl,rfl,aZ (K5.tup h3),dD hz,tu,_,1,_,rfl,rfl,aZ (K5.tup htu),dD (j:=1) rfl,?_⟩;have hm:u.name∈us.map (·.name):=Bd.mpr ⟨u,AF hu',rfl⟩
    exact⟨u.name,a4,rfl,.inr hm,fun _ _=>hm,b4,by omega,by omega,k5⟩
   ·exact⟨fr.name,a1,rfl,.inl rfl,fun _ h=>absurd (Ic h) g2,Z,by omega,by omega,k3⟩
  rintro σ' H2 ⟨nm,a2,rfl,az,bh,U,l2,u2,k2⟩;have K2:Kp _ _:=wI hp k2;refine⟨fun σ' H'=>∃(wd:Str),σ'=[some (.ref p),some (.ref t),some (.ref tr),some (.str st),some (.ref la),some (.ref rw),some (.int wy),some (.str nm),some (.str wd),none]∧((nm=fr.name∧wd=if us.length=40 then "TooMany" else "")∨(nm≠fr.name∧wd="Twice"))∧bJ H2 H',?_,?_⟩
  ·refine⟨_,rfl,_,rfl,tr,_,1,_,rfl,rfl,aZ (K2.tup htr),dD (j:=1) rfl,rfl,_,rfl,?_⟩;by_cases g:nm=fr.name
   ·subst g;rw[Ic rfl];refine dC ?_;refine⟨zZ2,fun L hL=>?_⟩;have sL:=aQ (o:=.lst [V.str "",.str "TooMany"]) hL;have eL:upd H2 L (.lst [V.str "",.str "TooMany"]) L=some (.lst [V.str "",.str "TooMany"]):=aH;generalize upd H2 L _=H3 at sL eL ⊢;refine⟨_,rfl,rw,ys,rfl,.inr (aZ (sL _ _ (K2.tup h3))),rfl,.inr ⟨_,rfl,?_⟩⟩;by_cases g4:us.length=40
    ·rw[Ic (show V.int ((ys.length:Nat):Int)=V.int 40 from by rw[hl,g4];rfl)];exact⟨L,_,1,_,rfl,rfl,bE eL,rfl,_,rfl,.inl ⟨rfl,by rw[Ib g4]⟩,sL⟩
    ·rw[decide_eq_false (show¬ V.int ((ys.length:Nat):Int)=V.int 40 from fun z=>g4 (by injection z with z;omega))];exact⟨L,_,0,_,rfl,rfl,bE eL,rfl,_,rfl,.inl ⟨rfl,by rw[Ia g4]⟩,sL⟩
   ·rw[decide_eq_false (fun z=>g (by injection z))];exact cO ⟨_,rfl,.inr ⟨g,rfl⟩,bJ.refl _⟩
  rintro σ' H3 ⟨wd,rfl,b9,s3⟩;have K3:Kp H H3:=fun b o e hd=>s3 _ _ (K2 b o e hd);have Z:=U.same s3;have k3:=k2.same s3;refine⟨_,rfl,_,_,rfl,rfl,_,rfl,d9 (fun g=>?_) fun g=>?_⟩
  ·have B:bV nm=true:=by
    rcases az with rfl | h
    ·exact okF.nm
    ·obtain⟨u,hu',rfl⟩:=Bd.mp h;exact(roll.ok u hu').nm
   have ct:gU (V.str fr.word :: .str fr.name :: .int fr.day :: cI) none (some 1)=[V.str fr.word]:=zS (α:=Nat) _ 1;have cf:gU (V.str fr.word :: .str fr.name :: .int fr.day :: cI) (some 2) none=V.int fr.day :: cI:=pY (α:=Nat) _ 2;have ao:=K3.tup htr;have ax:=hrest.len;have cw:=okF.rs.len;refine⟨_,rfl,_,rfl,_,rfl,tr,_,rfl,ao,fun r1 H4 s4 e4=>?_⟩;refine⟨_,rfl,zZ1,fun q1 W=>?_⟩;have O:=aQ (o:=.tup [V.str nm]) W;rw[ct]at e4;refine⟨r1,q1,_,_,rfl,rfl,O _ _ e4,aH,(by show 1 + 1≤1000000;decide),fun r2 H5 s5 e5=>?_⟩;refine⟨_,rfl,_,rfl,tr,_,rfl,s5 _ _ (O _ _ (s4 _ _ ao)),fun r3 H6 s6 e6=>?_⟩;rw[cf]at e6;refine⟨r2,r3,_,_,rfl,rfl,s6 _ _ e5,e6,(by show 2 + (cI.length + 1)≤1000000;omega),fun r4 H7 s7 e7=>?_⟩;have a0:=s4.trans (O.trans (s5.trans (s6.trans s7)));have b2:=Z.same a0;have k7:=k3.same a0;have ci:RdV false H7 (.ref r4) (gE fr.word nm fr.day fr.ds):=.tup e7 (by show cI.length + 3≤1000;omega) (.cons (.str _ (by have:=f9 (pI okF.rs.word);omega)) (.cons (.str _ (by have:=f9 B;omega)) (.cons (.int _) (hrest.keep (wI hp k7)))));refine⟨p,c,ns,a2,r4,fr.word,nm,fr.day,fr.ds,rfl,b2,by omega,ci,okF.rs,B,okF.d0,okF.d1,fun x d2 a' H8 rx okd br lN ba ua b1 k8=>?_⟩;refine⟨_,rfl,zZ2,fun q hq=>?_⟩;have J:=aQ (o:=.tup [x,V.str wd]) hq;refine k q x wd true d2 (some (fr.by nm)) a' _ aH (rx.same J) (okd.mono (by decide) (by decide)) (.row br (okF.by B)) ?_ (by omega) (by omega) (b1.same J) ((k7.trans k8).same J);rcases b9 with⟨rfl,rfl⟩ | ⟨h,rfl⟩
   ·by_cases g4:us.length=40
    ·rw[Ib g4];exact .many g4
    ·rw[Ia g4];exact .fine g4
   ·refine .twice (show nm∈_ from ?_);rcases az with z | z
    ·exact absurd z h
    ·exact z
  have B:bV nm=true:=by
   rcases az with rfl | h
   ·exact okF.nm
   ·obtain⟨u,hu',rfl⟩:=Bd.mp h;exact(roll.ok u hu').nm
  refine⟨fun σ' H'=>σ'=[some (.ref p),some (.ref t),some (.ref tr),some (.str st),some (.ref la),some (.ref rw),some (.int wy),some (.str nm),some (.str wd),none]∧bJ H3 H',?_,?_⟩
  ·refine⟨_,rfl,rfl,_,rfl,?_⟩;by_cases g3:wy=3
   ·rw[Ic (by rw[g3])];refine dC ?_;refine⟨_,rfl,zZ0,fun e0 aB=>?_⟩;have s0:=aQ (o:=.tup ([]:List V)) aB;refine⟨rw,e0,ys,rfl,rfl,aZ (s0 _ _ (K3.tup h3)),aZ aH,_,rfl,?_⟩;generalize upd H3 e0 (.tup ([]:List V))=H4 at s0 ⊢;by_cases gy:ys=[]
    ·rw[decide_eq_false (fun z=>z gy)];exact cO ⟨rfl,s0⟩
    rw[Ic gy];refine dC ?_;have hm:nm∈us.map (·.name):=bh (fun z=>gy (Bq (by rw[hl,z];rfl))) (.inr (.inl g3))
    obtain⟨j,hj,hjn⟩:∃ j,(us.map (·.name))[j]?=some nm∧∀ i,i < j→(us.map (·.name))[i]?≠some nm:=by
     obtain⟨j,hj⟩:=Ce hm;refine⟨j,hj,fun i hi (z:(us.map (·.name))[i]?=some nm)=>?_⟩
     have l1:=(AH.mp hj)
     have l2:=(AH.mp z)
     have e:j=i:=(CK (h₀:=l1.1) (h₁:=l2.1) roll.nd).mp (by rw[l1.2,l2.2]);rw[e]at hi;exact Bg _ hi
    have dw:j < us.length:=by have:=(AH.mp hj).1;rw[Ae]at this;exact this
    have K4:Kp H H4:=fun b o e hd=>s0 _ _ (K3 b o e hd);have bn:=h4.on K4;refine⟨_,rfl,_,rfl,rw,rfl,⟨_,aZ (K4.tup h3)⟩,?_⟩;refine gQ (K:=K) (xs:=ys) (fun i zs σ H'=>H'=H4∧zs=((us.take i).map (·.name)).map V.str∧∃ o,σ=[o]) ⟨rfl,rfl,none,rfl⟩ (aS (by omega)) (fun i zs σ H' p=>by rw[p.2.1,Ae,Ae,AX];omega) (fun i zs σ H' p=>by rw[p.1];exact aZ (K4.tup h3)) ?_ ?_
    ·rintro i v zs σ H' hv ⟨rfl,rfl,o,rfl⟩;obtain⟨u,hu,rv,oku⟩:=bn.at' i v hv;obtain⟨q,zs',rfl,eq,_⟩:=oku.tup rv;dsimp only[dG];refine dC ?_;refine⟨_,rfl,q,_,1,_,rfl,rfl,aZ eq,dD (j:=1) rfl,rfl,?_,_,rfl⟩;rw[Bk,hu,AU,AU];rfl
    rintro zs σ H' ⟨rfl,rfl,o',rfl⟩ D hD;rw[hl,BJ];have sD:=aQ (o:=.lst ((us.map (·.name)).map V.str)) hD
    obtain⟨z,hz⟩:∃ z,ys[j]?=some z:=⟨_,Ag (by omega)⟩
    obtain⟨u,hu',rdu,oku⟩:=bn.at' j z hz;have b3:u.name=nm:=by
     rw[AK,hu']at hj;injection hj
    refine⟨.inl ⟨rfl,_,bE aH⟩,_,rfl,D,us.map (·.name),nm,j,rfl,rfl,aH,by rw[Ae];omega,hj,hjn,rw,ys,_,z,rfl,rfl,aZ (sD _ _ (K4.tup h3)),dD hz,zZ2,fun q hq=>?_⟩
    have J:=aQ (o:=.tup [z,V.str "Twice"]) hq;have sA:=s3.trans (s0.trans (sD.trans J));refine k q z "Twice" false u.d (some u) a2 _ aH (rdu.same (sD.trans J)) oku.okd.1 (.row oku.okd.2 oku) (.twice (by rw[b3];exact hm)) (by omega) (by omega) (U.same sA) (k2.same sA)
   ·rw[decide_eq_false (fun z=>g3 (by injection z))];exact cO (cO ⟨rfl,bJ.refl _⟩)
  rintro σ' H4 ⟨rfl,s4⟩;have K4:Kp H H4:=fun b o e hd=>s4 _ _ (K3 b o e hd);refine⟨_,rfl,zZ2,fun q1 W=>?_⟩;have O:=aQ (o:=.tup [V.int 4,.int 5]) W;refine⟨q1,_,rfl,.inr (aZ aH),rfl,rfl,_,rfl,?_⟩;rw[Ia AD,aLt];generalize upd H4 q1 _=H5 at O ⊢;have s5:=s4.trans O;have aD:=Z.same s5;have k5:=k3.same s5;have K5:Kp _ _:=wI hp k5;refine d9 (fun _=>?_) fun _=>?_
  ·refine⟨_,rfl,_,rfl,zZ5,fun q2 aC=>⟨zZ2,fun q hq=>?_⟩⟩;have s2:=aQ (o:=.tup [V.str "measure",.str nm,.int 0,.str st,.int 0]) aC;have J:=aQ (o:=.tup [V.ref q2,V.str "NoRow"]) hq;have sA:=s2.trans J;have aa:=aBQ B hst;refine k q (.ref q2) "NoRow" false _ none a2 _ aH (.tup (J _ _ aH) (by show 5≤1000;decide) (.cons (.str _ (by decide)) (.cons (.str _ (by have:=f9 B;omega)) (.cons (.int _) (.cons (.str _ (by have:=f9 hst;omega)) (.cons (.int _) .nil)))))) aa.okd.1 (aG4 aa rfl (show inV (.str "measure") [V.str "measure",.str "breach",.str "view"]=true by decide) hst2) .no (by omega) (by omega) (aD.same sA) (k5.same sA)
  refine⟨_,rfl,rfl,_,rfl,d9 (fun _=>?_) fun _=>?_⟩
  ·refine⟨_,rfl,_,rfl,p,c,ns,a2,rw,ys,us,_,rfl,aD,by omega,K5.tup h3,h4.on K5,bW,fun x d a' H' rd bad ba ua bP k'=>⟨zZ2,fun q hq=>?_⟩⟩;have J:=aQ (o:=.tup [x,V.str "NoRow"]) hq;exact k q x "NoRow" false d none a' _ aH (rd.same J) bad.ok bad.th .no (by omega) (by omega) (bP.same J) ((k5.trans k').same J)
  have am:=K5.tup htr;have ax:=hrest.len;have cw:=okF.rs.len;refine⟨zZ0,fun Y ck=>⟨zZ0,fun e2 cc e3 cr=>?_⟩⟩;have t1:=aQ (o:=.tup ([]:List V)) ck;have t2:=aQ (o:=.lst ([]:List V)) cc;have t3:=aQ (o:=.dK []) cr;have f3:=aH (H:=upd (upd H5 Y (.tup ([]:List V))) e2 (.lst ([]:List V))) (a:=e3) (o:=.dK []);have f2:=t3 _ _ (aH (H:=upd H5 Y (.tup ([]:List V))) (a:=e2) (o:=.lst ([]:List V)));have f1:=t3 _ _ (t2 _ _ (aH (H:=H5) (a:=Y) (o:=.tup ([]:List V))));have s6:=t1.trans (t2.trans t3);generalize upd (upd (upd H5 Y (.tup ([]:List V))) e2 (.lst ([]:List V))) e3 (.dK [])=H6 at s6 f1 f2 f3 ⊢;refine⟨_,rfl,1,rfl,_,rfl,tr,_,rfl,s6 _ _ am,fun r1 H7 s7 g1=>?_⟩;refine⟨_,rfl,zZ1,fun q2 aC=>?_⟩;have t4:=aQ (o:=.tup [V.int 1]) aC;refine⟨tr,q2,_,_,rfl,rfl,t4 _ _ (s7 _ _ (s6 _ _ am)),aH,(by show cI.length + 3 + 1≤1000000;omega),fun r2 H8 s8 g2=>?_⟩;refine⟨_,rfl,_,rfl,zZ6,fun q3 b6=>⟨aKD,fun L hL=>?_⟩⟩;have t5:=aQ (o:=.tup [V.str "view",.str nm,.int 0,.str st,.int 0,.str "a"]) b6;have t6:=aQ (o:=.lst [V.non,.bl true,.int 7,.str "",.ref Y,.ref e2,.ref e3,.ref r1,.ref r2,.ref q3]) hL;refine⟨_,rfl,_,rfl,zZ4,fun q4 cq=>⟨_,rfl,zZ4,fun q5 ca=>⟨zZ2,fun L2 cs=>?_⟩⟩⟩;have t7:=aQ (o:=.tup [V.str "alone",.str nm,.int 10000,.str "a"]) cq;have t8:=aQ (o:=.lst [V.str "alone",.str nm,.bl true,.str "a"]) ca;have t9:=aQ (o:=.lst [V.ref q4,.ref q5]) cs;have eL:=t9 _ _ (t8 _ _ (t7 _ _ (aH (H:=upd H8 q3 (.tup [V.str "view",.str nm,.int 0,.str st,.int 0,.str "a"])) (a:=L) (o:=.lst [V.non,.bl true,.int 7,.str "",.ref Y,.ref e2,.ref e3,.ref r1,.ref r2,.ref q3]))))
  refine⟨L,L2,_,_,rfl,rfl,eL,aH,aS (show 12≤1000000 by decide),fun L3 bR=>?_⟩;have cx:=aQ (o:=.lst ([V.non,.bl true,.int 7,.str "",.ref Y,.ref e2,.ref e3,.ref r1,.ref r2,.ref q3] ++ [V.ref q4,.ref q5])) bR;have u9:=t9.trans cx;have u8:=t8.trans u9;have u7:=t7.trans u8;have u6:=t6.trans u7;have u5:=t5.trans u6;have v8:=s8.trans u5;have v7:=(t4.trans v8)
  have v6:=s7.trans v7;have w5:=s6.trans v6;have ac:∀ v∈[V.non,.bl true,.int 7,.str "",.ref Y,.ref e2,.ref e3,.ref r1,.ref r2,.ref q3] ++ [V.ref q4,.ref q5],aGZ (lds.map fU) _ v:=fun v hv=>by
   have r5:cG false _ cI fr.ds:=hrest.keep (Kp.of (s5.trans w5) |> fun z b o e hd=>z b o (K3 b o e hd) hd);have l8:∀{z:Str},bV z=true→z.length≤1000:=fun h=>by have:=f9 h;omega
   have lw:=l8 (pI okF.rs.word);have ln:=l8 okF.nm;have h2:=okF.rs.two;have bo:fr.ds≠[]:=by
    obtain⟨d,ds',e,_⟩:=okF.rs.fourth;rw[e];simp
   simp only[Bf,Al,Ao,or_false]at hv;rcases hv with(rfl | rfl | rfl | rfl | rfl | rfl | rfl | rfl | rfl | rfl) | (rfl | rfl)
   ·exact aBM.noTh (m:=true) .non
   ·exact aG0.noTh (m:=true) (.bl true)
   ·exact aEI.noTh (m:=true) (.int 7)
   ·exact aEJ.noTh (m:=true) (.str "" (by decide))
   ·exact aIa.noTh (m:=true) (.tup (v6 _ _ f1) (by decide) .nil)
   ·exact aIb.noTh (m:=true) (.lst rfl (v6 _ _ f2) (by decide) .nil)
   ·exact aIc.noTh (m:=false) (.dct rfl (v6 _ _ f3))
   ·have e:gU (V.str fr.word :: .str fr.name :: .int fr.day :: cI) none (some (-1))=V.str fr.word :: .str fr.name :: .int fr.day :: cI.take (fr.ds.length - 1):=aG5 (by rw[ax];exact fun z=>bo (Bq z)) ax;rw[e]at g1;refine(aDG okF (es:=fr.ds.take (fr.ds.length - 1)) (by rw[F0,h2]) ?_ (fun d hd=>okF.els d (by simp[cC.top,Cz hd])) (by rw[AX];omega)).noTh (m:=false) (.tup (v7 _ _ g1) (by simp only[A1,AX];omega) (.cons (.str _ lw) (.cons (.str _ ln) (.cons (.int _) (r5.take _)))));rw[AX];have:=E4.mpr bo;omega
   ·refine(aDG okF (es:=fr.ds ++ [.int 1]) (by rw[AU,h2];rfl) (by rw[Av];show _ + 1≠_;omega) (fun d hd=>?_) (by rw[Av];show _ + 1≤5;omega)).noTh (m:=false) (.tup (u5 _ _ g2) (by simp only[Av,A1,EG];omega) (.cons (.str _ lw) (.cons (.str _ ln) (.cons (.int _) (r5.app (.cons (.int 1) .nil))))));rcases Bf.mp hd with hd | hd
    ·exact okF.els d (by simp[cC.top,hd])
    ·rw[Bx.mp hd];exact .inl ⟨rfl,by exact⟨by decide,by decide,by decide⟩⟩
   ·have aa:=aG3 B hst;exact⟨false,_,.tup (u6 _ _ aH) (by show 6≤1000;decide) (.cons (.str _ (by decide)) (.cons (.str _ (l8 B)) (.cons (.int _) (.cons (.str _ (l8 hst)) (.cons (.int _) (.cons (.str _ (by decide)) .nil)))))),aa.okd.1,aG4 aa rfl (show inV (.str "view") [V.str "measure",.str "breach",.str "view"]=true by decide) hst2⟩
   ·exact(aG1 B).noTh (m:=false) (.tup (u8 _ _ aH) (by show 4≤1000;decide) (.cons (.str _ (by decide)) (.cons (.str _ (l8 B)) (.cons (.int _) (.cons (.str _ (by decide)) .nil)))))
   ·exact(aG2 B).noTh (m:=true) (.lst rfl (u9 _ _ aH) (by show 4≤1000;decide) (.cons (.str _ (by decide)) (.cons (.str _ (l8 B)) (.cons (.bl _) (.cons (.str _ (by decide)) .nil)))))
  have bd:=aH (H:=upd (upd (upd (upd (upd H8 q3 (.tup [V.str "view",.str nm,.int 0,.str st,.int 0,.str "a"])) L (.lst [V.non,.bl true,.int 7,.str "",.ref Y,.ref e2,.ref e3,.ref r1,.ref r2,.ref q3])) q4 (.tup [V.str "alone",.str nm,.int 10000,.str "a"])) q5 (.lst [V.str "alone",.str nm,.bl true,.str "a"])) L2 (.lst [V.ref q4,.ref q5])) (a:=L3) (o:=.lst ([V.non,.bl true,.int 7,.str "",.ref Y,.ref e2,.ref e3,.ref r1,.ref r2,.ref q3] ++ [V.ref q4,.ref q5]));generalize upd (upd (upd (upd (upd (upd H8 q3 _) L _) q4 _) q5 _) L2 _) L3 _=H9 at w5 ac bd ⊢;have bf:=aD.same w5;have k9:=k5.same w5;refine⟨_,rfl,_,rfl,p,c,ns,a2,_,rfl,bf,by omega,by decide,by decide,fun r a' dv r0 eh ba ua bv bg=>?_⟩;have bq:Kp _ _:=wI bf bg;obtain⟨n,rfl⟩:∃ n:Nat,r=(n:Int):=⟨r.toNat,by omega⟩
  obtain⟨v,hv⟩:∃ v,([V.non,.bl true,.int 7,.str "",.ref Y,.ref e2,.ref e3,.ref r1,.ref r2,.ref q3] ++ [V.ref q4,.ref q5])[n]?=some v:=⟨_,Ag (by show n < 12;omega)⟩
  refine⟨L3,_,_,v,rfl,rfl,bE (bq.lst bd),dD hv,zZ2,fun q hq=>?_⟩;have J:=aQ (o:=.tup [v,V.str "NoRow"]) hq;obtain⟨m,d,rd,okd,th⟩:=((ac v (AF hv)).on bq).on (Kp.of J);exact k q v "NoRow" m d none a' _ aH rd okd th .no (by omega) (by omega) (bv.same J) ((k9.trans bg).same J)
theorem aG7{d:Ak}(h:iB d=true):d.hasDict=false:=by
 obtain⟨f,g,a,i,rfl,_,hg,ha,hi⟩:=wD h;cases g <;> first | cases hg | skip
 cases a <;> first | cases ha | skip
 all_goals (cases i <;> first | cases hi | rfl)
theorem aCK{z:List Ak}(h:z.all iB=true):A2 z=false:=by
 induction z with
 | nil=>rfl
 | cons d r B=>
  rw[CV,AY]at h;show(d.hasDict || A2 r)=false;rw[aG7 h.1,B h.2];rfl
theorem aBR{os:List cC}{fs:List Str}(h:∀ u∈os,u.Ok fs):A2 (os.map cC.d)=false:=by
 induction os with
 | nil=>rfl
 | cons u r z=>
  show(u.d.hasDict || A2 (r.map cC.d))=false;rw[z fun v B=>h v (AM _ B),show u.d.hasDict=false from aCE (h u AL).rs];rfl
def aBS(lds:List Ak)(os:List cC):Ak:=.tuple [.tuple lds,.tuple (os.map cC.d)]
theorem eI.rd{H:Hp}{t:Ac}{z:List Ak}{B:List cC}(h:eI H t z B):RdV false H (.ref t) (aBS z B):=by
 obtain⟨la,rw,ys,h1,h2,h3,h4⟩:=h.ex;have:=h4.len;have:=h.u4;exact .tup h1 (by show 2≤1000;decide) (.cons h2 (.cons (.tup h3 (by omega) h4.rdvs) .nil))
theorem eI.nodict{H:Hp}{t:Ac}{z:List Ak}{B:List cC}(h:eI H t z B):(aBS z B).hasDict=false:=by
 show(A2 z || (A2 (B.map cC.d) || false))=false;rw[aCK h.fa,aBR h.ok];rfl
theorem eI.okd{H:Hp}{t:Ac}{z:List Ak}{B:List cC}(h:eI H t z B):OkD 3000000 10 (aBS z B):=by
 refine(OkD.tuple (n:=2) (b:=900000) (k:=4) (fun d hd=>?_) (by show 2≤2;decide)).mono (by decide) (by decide);simp only[Al,Ao,or_false]at hd;rcases hd with rfl | rfl
 ·exact(OkD.tuple (fun d hd=>(h.fl d hd).2.1) h.l8).mono (by decide) (by decide)
 ·refine(OkD.tuple (n:=40) (b:=15259) (k:=3) (fun d hd=>?_) (by rw[Ae];exact h.u4)).mono (by decide) (by decide);obtain⟨u,hu,rfl⟩:=Bd.mp hd;exact(h.ok u hu).okd.1
theorem aJV{a b:Ak}(ha:OkD 3000000 10 a)(z:OkD 15259 3 b):OkD 6100000 11 (.list [a,b]):=by
 refine(OkD.list (n:=2) (b:=3000000) (k:=10) (fun d hd=>?_) (by show 2≤2;decide)).mono (by decide) (by decide);simp only[Al,Ao,or_false]at hd;rcases hd with rfl | rfl
 ·exact ha
 ·exact z.mono (by decide) (by decide)
theorem aId{b k:Nat}{d:Ak}(o:OkD b k d)(B:b≤16000000)(z:k≤20):d.showable=true∧d.depth≤20∧d.shown.length≤sizeLine:=⟨o.sh,Ba o.dp z,Ba o.len (by rw[Ct];omega)⟩
theorem wJ{H:Hp}{m:Bool}{a:Ac}{d:Ak}(r:RdV m H (.ref a) d)(o:OkD 3000000 10 d):RpV H (.ref a) d.shown:=.ref r o.sh (Ba o.dp (by decide)) (Ba o.len (by rw[Ct];omega))
theorem qD{H H':Hp}(s:bJ H H'):Kq H H':=fun b o e _ _=>s b o e
theorem qE{H H1 H2:Hp}(a:Kq H H1)(b:Kq H1 H2):Kq H H2:=fun c o e h1 h2=>b c o (a c o e h1 h2) h1 h2
theorem wK{H H':Hp}(k:Kq H H'){b:Ac}{xs:List V}(e:H b=some (.tup xs)):H' b=some (.tup xs):=k _ _ e (fun _ _ z=>nomatch z) fun _ z=>nomatch z
theorem wL{H H':Hp}(k:Kq H H'){b:Ac}{xs:List V}(e:H b=some (.lst xs)):H' b=some (.lst xs):=k _ _ e (fun _ _ z=>nomatch z) fun _ z=>nomatch z
theorem dS.onQ{H H':Hp}{xs:List V}{z:List cC}{fs:List Str}(h:dS H xs z fs)(k:Kq H H'):dS H' xs z fs:=
 ⟨h.len,fun i x B=>by obtain⟨u,a,b,c⟩:=h.at' i x B;exact⟨u,a,b.keepQ k,c⟩⟩
theorem eI.onQ{H H':Hp}{t:Ac}{z:List Ak}{B:List cC}(h:eI H t z B)(k:Kq H H'):eI H' t z B:=by
 obtain⟨la,rw,ys,h1,h2,h3,h4⟩:=h.ex;exact⟨⟨la,rw,ys,wK k h1,h2.keepQ k,wK k h3,h4.onQ k⟩,h.fl,h.l8,h.u4,h.nd,h.ri⟩
theorem aIe{T:Ac}{Ps:List Pos}{qual:Str}{H H':Hp}(g:eU T Ps qual H)(s:lO T H H'):Kq H H':=fun b o e _ n=>s b o (fun z=>by
 obtain⟨ps,hT,_⟩:=g.ex;rw[z,hT]at e;cases e;exact n _ rfl) e
theorem aKO{T:Ac}{Ps:List Pos}{qual:Str}{H H':Hp}{p c:Ac}{ns:List Int}{a:Int}(B:cJ H p c ns a)(g:eU T Ps qual H)(s:lO T H H'):cJ H' p c ns a:=by
 obtain⟨ps,hT,_⟩:=g.ex;obtain⟨⟨l,hl,e⟩,ce,ge,sm⟩:=B;exact⟨⟨l,hl,s _ _ (fun z=>by rw[z,hT]at e;cases e) e⟩,s _ _ (fun z=>by rw[z,hT]at ce;cases ce) ce,ge,sm⟩
theorem iC{T:Ac}{Ps:List Pos}{qual:Str}{H H':Hp}{p c:Ac}{ns:List Int}{a:Int}(g:eU T Ps qual H)(F:cJ H p c ns a)(k:aY p H H'):eU T Ps qual H':=by
 obtain⟨⟨l,_,e⟩,_,_,_⟩:=F;obtain⟨ps,h1,h2,B⟩:=g.ex;refine⟨ps,k _ _ h1 (fun z=>by rw[z,e]at h1;cases h1),h2,fun pos F=>?_⟩;rcases B pos F with B | ⟨O,B,J⟩
 ·exact .inl B
 ·exact .inr ⟨O,B,k _ _ J fun z=>by rw[z,e]at J;cases J⟩
def iE(E:List Ac)(H H':Hp):Prop:=∀ b o,b ∉ E→H b=some o→H' b=some o
theorem iE.trans{E:List Ac}{H H1 H2:Hp}(a:iE E H H1)(b:iE E H1 H2):iE E H H2:=fun c o n h=>b c o n (a c o n h)
theorem iE.same{E:List Ac}{H H1 H2:Hp}(a:iE E H H1)(b:bJ H1 H2):iE E H H2:=fun c o n h=>b c o (a c o n h)
theorem iE.pen{p T:Ac}{H H':Hp}(k:aY p H H'):iE [p,T] H H':=fun c o n h=>k c o h fun z=>n (by simp[z])
theorem iE.tab{p T:Ac}{H H':Hp}(k:lO T H H'):iE [p,T] H H':=fun c o n h=>k c o (fun z=>n (by simp[z])) h
theorem rJ{H:Hp}{L:List (Ac×Obj)}(h:∀ b o,L.lookup b=some o→H b=none):eY (jC H L) L=H:=by
 funext b;cases e:L.lookup b with
 | none=>rw[c0 e,dH e]
 | some o=>rw[f6 e,h b o e]
theorem wM{H:Hp}{L:List (Ac×Obj)}(h:∀ b o,L.lookup b=some o→H b=none):bJ H (jC H L):=fun b o e=>by
 cases z:L.lookup b with
 | none=>rw[dH z];exact e
 | some o'=>rw[h b o' z]at e;cases e
theorem pL{H H':Hp}{L:List (Ac×Obj)}(s:bJ (jC H L) H')(h:∀ b o,L.lookup b=some o→H b=none):bJ H (eY H' L):=fun b o e=>by
 cases z:L.lookup b with
 | none=>rw[c0 z];exact s b o (by rw[dH z];exact e)
 | some o'=>rw[h b o' z]at e;cases e
theorem wN{H H':Hp}{L:List (Ac×Obj)}(s:bJ (jC H L) H'){b:Ac}{o:HO}(e:H' b=some o)(n:∀ x u,o≠.frz x u):eY H' L b=some o:=by
 cases z:L.lookup b with
 | none=>rw[c0 z];exact e
 | some o'=>
  have:=s b _ (hJ (H:=H) z);rw[e]at this;cases this;exact absurd rfl (n _ _)
abbrev aBT:Pos:=⟨324,27,324,66⟩
abbrev wO:Str:=(("_law_with_right":Str) ++ ".<locals>.") ++ "<lambda>"
inductive zD(T:Ac)(vs:List V)(H:Hp)(Q:VK)(u3_:XK):Prop
 | mk (p c:Ac) (ns:List Int) (a:Int) (t:Ac) (lds:List Ak) (us:List cC) (xf:V) (fr:cC) (st:Str) (q0:vs=[.ref p,.ref t,xf,.str st]) (q1:cJ H p c ns a) (q2:a≤600000) (q3:eI H t lds us) (q4:RdV false H xf fr.d) (q5:fr.Ok (lds.map fU)) (q6:fr.name ∉ us.map (·.name)) (q7:bV st=true) (q8:st ∉ lds.map fU) (q9:eU T [aBT] wO H) (q10:∀(a':Int) (H':Hp),a≤a'→a'≤a + 210→cJ H' p c ns a'→eU T [aBT] wO H'→iE [p,T] H H'→Q (.bl true) H'):zD T vs H Q u3_
def aDI(T:Ac):Sp:=fun vs H Q u3_=>zD T vs H Q u3_
inductive aAt(H:Hp)(L:Ac)(lds:List Ak)(us:List cC)(fr:cC)(w:Str):Prop
 | no (h:w≠"") (e:H L=some (.lst [.str "refused",.str w])):aAt H L lds us fr w
 | yes (h:w="") {t':Ac} {os:List cC} (e:H L=some (.lst [.str "told",.ref t'])) (hp:os.Perm (us ++ [fr])) (roll:eI H t' lds os) (h40:us.length≠40):aAt H L lds us fr w
theorem aDJ:bY ["_law_pen_here","_law_roll","_law_fresh","_law_strange","_law_thing","_law_word","_law_kept","_law_found","_law_more","_law_owed"] ["_law_pen_here","_law_roll","_law_fresh","_law_strange"] (aO rC):=⟨rfl,rfl,rfl,by decide,rfl,by decide,by decide⟩
theorem aG8{f fP fT fW fK T cR cD DR DT DM:Ac}{cs ts:List Ac}{fd aK aA aE az:AE}(F:Fun K "_law_with_right" "_law_with_right" rC f fd)(bv:fd.code=.ref cR)(hC:C5 K cR T=true)(hB:vK mg base)(aN:mg "tuple"=none)(O:mg "repr"=none)(ag:mg "sorted"=none)(xR:Cm K (.ref DR) (.ref cD)=some true)(tR:w6 K cs ts DR "NoRow")(xT:Cm K (.ref DT) (.ref cD)=some true)(tT:w6 K cs ts DT "Twice")(xM:Cm K (.ref DM) (.ref cD)=some true)(tM:w6 K cs ts DM "TooMany")
  (GK:cH P w K mg base CX0 1 fK az ["_law_row_here"] oG) (mK:mg "_law_place"=some (.ref fK)) (bK:c8 K az ["_law_row_here"] [])
  (GP:cH P w K mg base CX0 4 fP aK ["_law_pen_here","_law_roll","_law_fresh","_law_strange"] aDF) (mP:mg "_law_put_in"=some (.ref fP)) (kP:Aj K (.ref fP)=true) (bP:c8 K aK ["_law_pen_here","_law_roll","_law_fresh","_law_strange"] [])
  (GT:cH P w K mg base CX0 12 fT aA ["_law_ask"] (aCI P w K mg base cs ts cD)) (mT:mg "_law_told"=some (.ref fT)) (kT:Aj K (.ref fT)=true) (bT:c8 K aA ["_law_ask"] [])
  (GW:cH P w K mg base (CXr P w) 10 fW aE ["roll","thing"] (aCG DR DT DM)) (mW:mg "with_row"=some (.ref fW)) (kW:Aj K (.ref fW)=true) (bW:c8 K aE ["roll","thing"] [])
  :cH P w K mg base CX0 13 f fd ["_law_pen_here","_law_roll","_law_fresh","_law_strange"] (aDI T):=by
 refine F.okC aDJ (fun vs H Q E h=>?_) (fun da A outer s H vs Q E ba hr h=>?_)
 ·obtain⟨p,c,ns,a,t,lds,us,xf,fr,st,rfl,_⟩:=h;rfl
 ·obtain⟨p,c,ns,a,t,lds,us,xf,fr,st,rfl,hp,ha,roll,rdF,okF,hfn,hst,hst2,gT,k⟩:=h;have nd:=aDJ.nd;rw[bv]at ba;subst ba;have hu:_ < _:=hr.units0;have aa:cY 4 _:=hr.mono (by decide);have b6:cY (1 + 2) _:=hr.mono (by decide);refine⟨_,(aJ (kB (c6 GP aa rfl mP kP bP .nil gF (aG (pv 0) (aG (pv 1) (aG (pv 2) (aG (pv 3) aF))))) (m8 rfl (dB (bU (i:=4) nd rfl (Do rfl)) (dB (bU (i:=5) nd rfl (AG rfl)) jV))))
   (aJ (bQ (i:=6) nd rfl (AG rfl) (aV (o8 aa) (by rfl) O (by kernel_rfl) (aG (aAf (aG (pv 1) (aG (pv 4) aF))) aF)))
   (aJ (nE (bQ (i:=7) nd rfl (AG rfl) (vS (Ps:=[aBT]) (c:=cR) (T:=T) (fs:=["_law_roll","_law_thing"]) (cl:=[("_law_thing",s.heap.objs.size + 2),("_law_roll",s.heap.objs.size + 1)]) GT hr rfl mT kT bT (by simp) rfl hC hB ?hc ?hhas (fun _=>rfl) rfl rfl rfl)))
   (aJ (cX (bX rK (pv 5) aX (cF _)) (aU (bG (dY (eV (aB4 hu) (pv 7) (dM (aG aX (aG (pv 5) aF))) (cF _)) (gM (eV dU (aV (o8 aa) (by rfl) O (by kernel_rfl) (aG (aAf (aG (pv 1) (aG (pv 4) aF))) aF)) (pv 6) (cF _)))))) bM)
   (aJ (bQ (i:=8) nd rfl (AG rfl) (cA nZ (cE cM (pv 1) aI Ig) (cQ (aG (pv 2) aF))))
   (aJ (bQ (i:=9) nd rfl (AG rfl) (cQ (aG (cE cM (pv 1) aI Ig) (aG (cV cW (by rfl) aN (by kernel_rfl) (aG (aBb GK b6 bK (by rfl) ag (by rfl) mK (aG (pv 8) aF)) aF)) aF))))
   (aU (bG (dY (eV dU (cE c9 (pv 7) aI Ig) aX (cF _)) (dY (eV dU (aV (gG aa) (by rfl) O (by kernel_rfl) (aG (cE c9 (pv 7) aI Ig) aF)) (aV (gG aa) (by rfl) O (by kernel_rfl) (aG (pv 9) aF)) (cF _)) (gM (eV dU (aV (o8 aa) (by rfl) O (by kernel_rfl) (aG (aAf (aG (pv 1) (aG (pv 4) aF))) aF)) (pv 6) (cF _))))))))))))),?_⟩
  case hc=>
   intro y b h;rw[A5]at h;cases e1:y == ("_law_thing":Str)with
   | true=>
    rw[e1]at h;cases h;rw[beq_iff_eq.mp e1];exact⟨rfl,by simp⟩
   | false=>
    rw[e1]at h;dsimp only at h;rw[A5]at h;cases Z:y == ("_law_roll":Str)with
    | true=>
     rw[Z]at h;cases h;rw[beq_iff_eq.mp Z];exact⟨rfl,by simp⟩
    | false=>
     rw[Z]at h;cases h
  case hhas=>
   intro y h;simp only[Al,Ao,or_false]at h;rcases h with rfl | rfl
   ·exact⟨_,rfl⟩
   ·exact⟨_,rfl⟩
  refine⟨_,rfl,_,rfl,_,rfl,_,rfl,p,c,ns,a,t,lds,us,xf,fr,st,rfl,hp,ha,roll,rdF,okF,hfn,hst,hst2,fun q x wd m d o a1 H1 eq rx okd th out l1 u1 bw k1=>?_⟩;have K1:=wI hp k1;have Y:=roll.on K1;have g1:=iC gT hp k1;refine⟨q,_,rfl,aZ eq,rfl,_,_,rfl,_,_,rfl,rfl,?_⟩;dsimp only[dG];have two:=aJV roll.okd okd;obtain⟨w1,w2,w3⟩:=aId two (by decide) (by decide);have au:∀{H':Hp},Kq H1 H'→cG m H' [.ref t,x] [aBS lds us,d]:=fun kk=>.cons (((Y.onQ kk).rd).flip roll.nodict m) (.cons (rx.keepQ kk) .nil);refine⟨_,rfl,_,rfl,zZ2,fun D hD ai=>?_⟩;have sD:=aQ (o:=.lst [V.ref t,x]) hD;refine⟨D,m,_,_,rfl,aH,ai,au (qD sD),w1,w2,w3,?_⟩;generalize upd H1 D (.lst [V.ref t,x])=H2 at sD ⊢;have g2:=g1.same sD;have bz:=bw.same sD;have aw:=Y.same sD;have bx:=rx.same sD;refine⟨fun σ' H'=>∃ Lf,σ'=[some (.ref p),some (.ref t),some xf,some (.str st),some x,some (.str wd),some (.str (Ef [aBS lds us,d]).shown),some (.ref Lf),none,none]∧lO T H2 H'∧eU T [aBT] wO H'∧aAt H' Lf lds us fr wd,?_,?_⟩
  ·refine⟨[.ref t,x],.cons ⟨1,rfl,rfl,rfl⟩ (.cons ⟨4,rfl,rfl,rfl⟩ .nil),g2,fun f' c' H3 L S3 g3 bD bd tk aB=>?_⟩;have sf:=wM aB;have Q3:=aIe g2 S3;have W:=aw.onQ Q3;have an:=bx.keepQ Q3;refine⟨f',rfl,⟨⟨_,_,_,_,_,c',sf _ _ bd⟩,fun A' bf s' aM e0=>?_⟩⟩;refine aAe (k:=10) e0 aM ⟨rfl,rfl,rfl,by decide,by decide,by decide,by decide⟩ ?hhas2 (sf _ _ bd) (sf _ _ bD) (fun _ _ _=>rfl) tk (fun b o e=>hJ e) (fun b o e z=>by have:=e0.frf b z;rw[hJ e]at this;cases this)
    (fun db=>c6 GW (aM.deeper _) rfl mW kW bW .nil (vO fun _ _ _ h=>h) (aG (pv 0) (aG (pv 1) aF))) ?_
   ·intro y h;have hm:=By h;have e:=(show∀ y∈_,y.2=A6→y.1=("_law_roll":Str)∨y.1=("_law_thing":Str) from by decide) (y,A6) hm rfl;rcases e with rfl | rfl
    ·exact⟨_,rfl⟩
    ·exact⟨_,rfl⟩
   rw[rJ aB];have aq:∀(H':Hp),bJ H3 H'→(∀ b o,L.lookup b=some o→H' b=none)→∀(U:Ac) (B:Hp) (z v:V),bJ (jC H' L) B→B U=some (.lst [z,v])→bJ H3 (eY B L)∧eY B L U=some (.lst [z,v])∧bJ H' (eY B L):=fun H' S hn U B z v S2 e=>by
    have S4:=pL S2 hn;exact⟨S.trans S4,wN S2 e (fun _ _ z=>nomatch z),S4⟩
   have ah:wd≠""→∀(H':Hp),bJ H3 H'→(∀ b o,L.lookup b=some o→H' b=none)→∀(U:Ac) (B:Hp),bJ (jC H' L) B→B U=some (.lst [.str "refused",.str wd])→lO T H2 (eY B L)∧eU T [aBT] wO (eY B L)∧aAt (eY B L) U lds us fr wd:=fun hw H' S hn U B S2 Z=>by
    obtain⟨b1,b2,_⟩:=aq H' S hn U B _ _ S2 Z;exact⟨S3.trans b1.butT,g3.same b1,.no hw b2⟩
   cases out with
   | no=>exact⟨_,rfl,_,rfl,t,lds,us,m,x,d,none,rfl,W,an,th,(fun _ H' S hn=>⟨DR,"NoRow",rfl,xR,tR,fun U B S2 Z=>⟨U,rfl,ah (by decide) H' S hn U B S2 Z⟩⟩),(fun r h=>nomatch h),(fun r h=>nomatch h),fun r h=>nomatch h⟩
   | @twice r aR=>
    refine⟨_,rfl,_,rfl,t,lds,us,m,x,d,some r,rfl,W,an,th,(fun h=>nomatch h),(fun r' h _ H' S hn=>⟨DT,"Twice",rfl,xT,tT,fun U B S2 Z=>⟨U,rfl,ah (by decide) H' S hn U B S2 Z⟩⟩),(fun r' h n=>?_),fun r' h n=>?_⟩
    ·cases h;exact absurd aR n
    ·cases h;exact absurd aR n
   | many ak=>
    refine⟨_,rfl,_,rfl,t,lds,us,m,x,d,some fr,rfl,W,an,th,(fun h=>nomatch h),(fun r' h n=>?_),(fun r' h _ _ H' S hn=>⟨DM,"TooMany",rfl,xM,tM,fun U B S2 Z=>⟨U,rfl,ah (by decide) H' S hn U B S2 Z⟩⟩),fun r' h _ n=>?_⟩
    ·cases h;exact absurd n hfn
    ·omega
   | fine ak=>
    refine⟨_,rfl,_,rfl,t,lds,us,m,x,d,some fr,rfl,W,an,th,(fun h=>nomatch h),(fun r' h n=>?_),(fun r' h _ n=>absurd n ak),fun r' h _ n t' os H' S am bN hn U B S2 Z=>?_⟩
    ·cases h;exact absurd n hfn
    ·cases h;obtain⟨b1,b2,b3⟩:=aq H' S hn U B _ _ S2 Z;exact⟨U,rfl,S3.trans b1.butT,g3.same b1,.yes rfl b2 am (bN.same b3) ak⟩
  rintro σ' H3 ⟨Lf,rfl,S3,g3,b4⟩;have Q3:=aIe g2 S3;have K3:Kq H1 H3:=qE (qD sD) Q3;have aP:=aKO bz g2 S3;have X3:iE [p,T] H H3:=((iE.pen k1).same sD).trans (iE.tab S3);refine⟨_,rfl,rfl,_,rfl,?_⟩;cases b4 with
  | no hw e=>
   rw[decide_eq_false (fun z=>hw (by injection z))];refine dC ?_;refine⟨_,rfl,_,rfl,zZ2,fun L5 b5=>?_⟩;have s5:=aQ (o:=.lst [V.str "refused",.str wd]) b5;refine⟨Lf,L5,_,_,rfl,rfl,bE (s5 _ _ e),bE aH,eJ ["refused",wd],eJ ["refused",wd],_,rfl,?_⟩;rw[show qN [V.str "refused",.str wd] [V.str "refused",.str wd]=true from(lZ ["refused",wd] ["refused",wd]).trans (Ic rfl)];refine dC ?_;generalize upd H3 L5 _=H5 at s5 ⊢;refine⟨_,rfl,_,rfl,zZ2,fun D hD ai=>?_⟩;have sD:=aQ (o:=.lst [V.ref t,x]) hD;have sA:=s5.trans sD;refine⟨D,m,_,_,rfl,aH,ai,au (qE K3 (qD sA)),w1,w2,w3,_,rfl,rfl,?_⟩;rw[Ic rfl];exact k a1 _ l1 u1 (aP.same sA) (g3.same sA) (X3.same sA)
  | @yes hw t' os e am J ak=>
   subst hw;rw[Ic rfl];refine cO ?_;obtain⟨la,rw,ys,h1,h2,h3,h4⟩:=(Y.onQ K3).ex;have hl:=h4.len;have cK:=roll.u4;refine⟨_,rfl,t,_,1,_,rfl,rfl,aZ h1,rfl,_,rfl,zZ1,fun q1 bA=>?_⟩;have bb:=aQ (o:=.tup [xf]) bA;refine⟨rw,q1,ys,[xf],rfl,rfl,bb _ _ h3,aH,(by show ys.length + 1≤1000000;omega),fun r1 H4 s4 e4=>?_⟩;have aj:=bb.trans s4;have aL:RdV false H3 xf fr.d:=(rdF.keep K1).keepQ K3;have a0:dS H4 (ys ++ [xf]) (us ++ [fr]) (lds.map fU):=(h4.same aj).snoc (aL.same aj) okF;have b7:((us ++ [fr]).map (·.name)).Nodup:=(am.map _).nodup_iff.mp J.nd
   have bR:(ys ++ [xf]).length=us.length + 1:=by rw[Av,hl];rfl
   refine⟨_,rfl,t,_,0,_,rfl,rfl,aZ (aj _ _ h1),rfl,_,rfl,r1,ys ++ [xf],yT H4,rfl,aZ e4,by rw[bR];omega,aAr a0,fun E1 kk pp H5 s5 hE bL hk ho eE=>?_⟩;obtain⟨os2,ho1,ho2,ho3⟩:=pK a0 b7 bL hk ho s5;have bC:os2=os:=pJ (ho1.trans am.symm) ho2 J.ri;subst bC;refine⟨E1,_,rfl,.inl ⟨bE eE,fun l bt=>⟨zZ2,fun tO aC=>?_⟩⟩⟩;have sl:=aQ (o:=.tup (pp.map fun i=>(ys ++ [xf]).getD i .non)) bt;have el:upd H5 l (.tup (pp.map fun i=>(ys ++ [xf]).getD i .non)) l=some (.tup (pp.map fun i=>(ys ++ [xf]).getD i .non)):=aH;generalize upd H5 l (.tup (pp.map fun i=>(ys ++ [xf]).getD i .non))=H6 at sl el aC ⊢;have av:=aQ (o:=.tup [V.ref la,.ref l]) aC;have eO:upd H6 tO (.tup [V.ref la,.ref l]) tO=some (.tup [V.ref la,.ref l]):=aH;generalize upd H6 tO (.tup [V.ref la,.ref l])=H7 at av eO ⊢;have aT:=sl.trans av;have af:=(aj.trans s5).trans aT;have rO:eI H7 tO lds os2:=⟨⟨la,l,_,eO,h2.same af,av _ _ el,ho3.same aT⟩,roll.fl,roll.l8,J.u4,J.nd,ho2⟩
   have r7:=J.same af;refine⟨_,rfl,Lf,_,0,_,rfl,rfl,bE (af _ _ e),rfl,rfl,_,rfl,?_⟩;rw[Ic rfl];refine dC ?_;refine⟨_,rfl,Lf,_,1,_,rfl,rfl,bE (af _ _ e),rfl,_,_,rfl,wJ r7.rd r7.okd,_,rfl,_,_,rfl,wJ rO.rd rO.okd,rfl,_,rfl,?_⟩;rw[Ic rfl];refine dC ?_;refine⟨_,rfl,_,rfl,zZ2,fun D hD ai=>?_⟩;have sD:=aQ (o:=.lst [V.ref t,x]) hD;have sA:=af.trans sD;refine⟨D,m,_,_,rfl,aH,ai,au (qE K3 (qD sA)),w1,w2,w3,_,rfl,rfl,?_⟩;rw[Ic rfl];exact k a1 _ l1 u1 (aP.same sA) (g3.same sA) (X3.same sA)
end K07
namespace L2
open PySem
theorem aG9{P:Ay}{w:AS}{X:Cx}:qJ (CXr P w) X E0:=fun _ _ _ _ _ _ _ ⟨_,_,_,_,_,q⟩=>q.elim
end L2
namespace K07
open PySem L2
inductive qF(vs:List V)(H:Hp)(Q:VK)(u3_:XK):Prop
 | mk (t:Ac) (lds:List Ak) (us:List cC) (x:V) (u:cC) (q0:vs=[.ref t,x]) (q1:eI H t lds us) (q2:u∈us) (q3:RdV false H x u.d) (q4:∀ H',bJ H H'→Q (.bl true) H'):qF vs H Q u3_
def wP:Sp:=fun vs H Q u3_=>qF vs H Q u3_
theorem wQ{z:List cC}(h:(z.map (·.name)).Nodup):z.Nodup:=List.Pairwise.imp (fun h e=>h (by rw[e])) (Cy.mp h)
theorem aJW{B:List cC}{u:cC}(h:(B.map (·.name)).Nodup)(F:u∈B):((B.filter fun v=>decide (v.name≠u.name)) ++ [u]).Perm B:=by
 have hn:=wQ h;refine(List.perm_ext_iff_of_nodup ?_ hn).mpr fun z=>?_
 ·refine C2.mpr ⟨hn.sublist Dm,by simp,fun a ha b J e=>?_⟩;rw[Bx.mp J]at e;have:=(CT.mp ha).2;rw[e]at this;simp at this
 ·simp only[Bf,CT,Bx,decide_eq_true_eq];constructor
  ·rintro(⟨h1,_⟩ | rfl)
   ·exact h1
   ·exact F
  ·intro hz;by_cases e:z.name=u.name
   ·exact .inr (tJ h hz F e)
   ·exact .inl ⟨hz,e⟩
theorem aHa{H:Hp}{x:V}{u:cC}{fs:List Str}(ok:u.Ok fs)(r:RdV false H x u.d):RpV H x u.d.shown:=by
 obtain⟨tr,cI,rfl,_,_⟩:=ok.tup r;exact wJ r (ok.okd.1.mono (by decide) (by decide))
theorem wR:bY ["_law_roll","_law_row_here","_law_owed","_law_found"] ["_law_roll","_law_row_here"] (aO iO):=⟨rfl,rfl,rfl,by decide,rfl,by decide,by decide⟩
theorem aBU{f fO fC fW DN DR DT DM:Ac}{fd ai af ag:AE}(F:Fun K "_law_without_right" "_law_without_right" iO f fd)(ah:mg "tuple"=none)(B:mg "repr"=none)
  (GO:cH P w K mg base (CXr P w) 2 fO ai ["roll","name"] (rG DN)) (mO:mg "without_row"=some (.ref fO)) (kO:Aj K (.ref fO)=true) (bO:c8 K ai ["roll","name"] [])
  (GC:cH P w K mg base (CXr P w) 1 fC af ["roll","name"] (j9 DN)) (mC:mg "row_called"=some (.ref fC)) (kC:Aj K (.ref fC)=true) (bC:c8 K af ["roll","name"] [])
  (GW:cH P w K mg base (CXr P w) 10 fW ag ["roll","thing"] (aCG DR DT DM)) (mW:mg "with_row"=some (.ref fW)) (kW:Aj K (.ref fW)=true) (bW:c8 K ag ["roll","thing"] [])
  :cH P w K mg base CX0 11 f fd ["_law_roll","_law_row_here"] wP:=by
 refine F.ok wR (fun vs H Q E h=>?_) (fun aP A outer s H vs Q E hr h=>?_)
 ·obtain⟨t,lds,us,x,u,rfl,_⟩:=h;rfl
 ·obtain⟨t,lds,us,x,u,rfl,roll,hu',rdU,k⟩:=h;have nd:=wR.nd;have J:cY 1 _:=hr.mono (by decide);have ax:cY 2 _:=hr.mono (by decide);refine⟨_,(aJ (cX (bX rK (aV (gG J) (by rfl) B (by kernel_rfl) (aG (c6 GC J rfl mC kC bC .nil aG9 (aG (pv 0) (aG (cE cM (pv 1) aI Ig) aF))) aF)) (aV (gG J) (by rfl) B (by kernel_rfl) (aG (pv 1) aF)) (cF _)) (aU (bG iR)) bM)
   (aJ (bQ (i:=2) nd rfl (AG rfl) (cQ (aG (cE cM (pv 0) aI Ig) (aG (cV cW (by rfl) ah (by kernel_rfl) (aG (fE (N:=["_law_other","_law_row_here"]) (src:=[none,some 1]) (osc:=aO iO) (oN:=["_law_roll","_law_row_here","_law_owed","_law_found"]) ⟨by rfl,by decide,by decide,by decide,rfl,by rfl⟩ (gX (cE cM (pv 0) aI Ig)) (fun cl s H fp dh C=>⟨bU (i:=0) (show(["_law_other","_law_row_here"]:List Str).Nodup by decide) rfl (AG rfl),zR (bX (aFX J) (pv 0) (pv 1) (cF _)),pv 0⟩)) aF)) aF))))
   (aJ (bQ (i:=3) nd rfl (AG rfl) (c6 GO ax rfl mO kO bO .nil aG9 (aG (pv 0) (aG (cE cM (pv 1) aI Ig) aF))))
   (aJ (cX (bX rK (aV (gG J) (by rfl) B (by kernel_rfl) (aG (pv 3) aF)) (aV (gG J) (by rfl) B (by kernel_rfl) (aG (pv 2) aF)) (cF _)) (aU (bG iR)) bM)
   (aU (bG (eV dU (aV (gG J) (by rfl) B (by kernel_rfl) (aG (c6 GW hr rfl mW kW bW .nil aG9 (aG (pv 3) (aG (pv 1) aF))) aF)) (aV (gG J) (by rfl) B (by kernel_rfl) (aG (pv 0) aF)) (cF _)))))))),?_⟩
  have O:=roll.ok u hu';obtain⟨tr,cI,rfl,htr,hrest⟩:=O.tup rdU;have same:∀ v∈us,V.str u.name=.str v.name→v=u:=fun v hv e=>tJ roll.nd hv hu' (by injection e with e;exact e.symm);refine⟨_,rfl,_,rfl,tr,_,1,_,rfl,rfl,aZ htr,dD (j:=1) rfl,t,lds,us,.str u.name,rfl,roll,.str _,fun v hv e y ry=>?_,fun aa=>absurd rfl (aa u hu')⟩;have ev:=same v hv e;subst ev;refine⟨_,_,rfl,aHa O ry,_,rfl,_,_,rfl,aHa O rdU,rfl,_,rfl,?_⟩;rw[Ic rfl];refine cO ?_;obtain⟨la,rw,ys,h1,h2,h3,h4⟩:=roll.ex;have hl:=h4.len;have aM:=roll.u4;refine⟨_,rfl,t,_,0,_,rfl,rfl,aZ h1,rfl,_,rfl,t,_,1,_,rfl,rfl,aZ h1,rfl,rw,rfl,⟨_,aZ h3⟩,?_⟩;refine gQ (K:=K) (xs:=ys) (fun i zs σ H'=>H'=H∧dS H zs ((us.take i).filter fun z=>decide (z.name≠v.name)) (lds.map fU)∧∃ o,σ=[o,some (.ref tr)]) ⟨rfl,⟨rfl,fun i x h=>by simp at h⟩,none,rfl⟩ (aS (by omega)) (fun i zs σ H' p=>by
   have:=(CZ (fun z=>decide (z.name≠v.name)) (us.take i))
   rw[p.2.1.len];rw[AX]at this;omega) (fun i zs σ H' p=>by rw[p.1];exact aZ h3) ?_ ?_
  ·rintro i w' zs σ H' hw ⟨rfl,hz,o,rfl⟩;obtain⟨u2,hu2,rv,ok2⟩:=h4.at' i w' hw;dsimp only[dG];refine⟨_,rfl,_,rfl,false,false,u2.d,v.d,rv,rdU,ok2.rowD.ly,O.rowD.ly,Ba ok2.rowD.dp (by decide),_,rfl,?_⟩;rw[Bk,hu2,Fd];by_cases g:u2=v
   ·subst g;rw[vR _ ok2.rowD.pl];refine cO ⟨rfl,?_,_,rfl⟩;simpa using hz
   ·rw[show Cb u2.d v.d=false from by
     cases q:Cb u2.d v.d with
     | false=>rfl
     | true=>exact absurd (cC.d_inj (aCi _ _ ok2.rowD.pl q O.rowD.pl)) g]
    have gn:u2.name≠v.name:=fun e=>g (tJ roll.nd (AF hu2) hu' e);refine dC ⟨_,rfl,rfl,?_,_,rfl⟩;have e2:(Option.toList (some u2)).filter (fun z=>decide (z.name≠v.name))=[u2]:=by simp[gn]
    rw[e2];exact hz.snoc rv ok2
  rintro zs σ H' ⟨rfl,hz,o,rfl⟩ D hD;rw[hl,BJ]at hz;have sD:=aQ (o:=.lst zs) hD;refine⟨D,_,rfl,.inl ⟨bE aH,fun l am=>⟨zZ2,fun tO ht=>?_⟩⟩⟩;have sl:=aQ (o:=.tup zs) am;have st:=aQ (o:=.tup [V.ref la,.ref l]) ht;have sA:=(sD.trans sl).trans st;have bn:=CZ (fun z=>decide (z.name≠v.name)) us;have rO:eI _ tO lds (us.filter fun z=>decide (z.name≠v.name)):=⟨⟨la,l,zs,aH,h2.same sA,st _ _ aH,hz.same sA⟩,roll.fl,roll.l8,by omega,roll.nd.sublist ((Dm).map _),roll.ri.sublist Dm⟩
  generalize upd (upd (upd H' D _) l _) tO _=H2 at sA rO ⊢;have U:=roll.same sA;refine⟨_,rfl,_,rfl,tr,_,1,_,rfl,rfl,aZ (sA _ _ htr),dD (j:=1) rfl,t,lds,us,.str v.name,rfl,U,.str _,fun v' aq e' t' H3 S3 rW=>?_,fun aa=>absurd rfl (aa v hu')⟩;have ev:=same v' aq e';subst ev;have ae:=rO.same S3;have Z:=U.same S3;have aj:=sA.trans S3;refine⟨_,rfl,_,_,rfl,wJ rW.rd rW.okd,_,rfl,_,_,rfl,wJ ae.rd ae.okd,rfl,_,rfl,?_⟩;rw[Ic rfl];refine cO ?_;have pm:=aJW roll.nd hu';have Y:=pm.length_eq;rw[Av]at Y;have ap:v'.name ∉ (us.filter fun z=>decide (z.name≠v'.name)).map (·.name):=fun h=>by
   obtain⟨z,hz,e⟩:=Bd.mp h;have:=(CT.mp hz).2;simp[e]at this
  refine⟨_,rfl,_,rfl,t',lds,_,false,.ref tr,v'.d,some v',rfl,rW,rdU.same aj,.row O.okd.2 O,(fun h=>nomatch h),(fun r h n=>?_),(fun r h _ n=>?_),fun r h n n4 t2 os H4 S4 au r4=>?_⟩
  ·cases h;exact absurd n ap
  ·have:(us.filter fun z=>decide (z.name≠v'.name)).length + 1=us.length:=Y;omega
  ·cases h;have ar:os=us:=pJ (au.trans pm) r4.ri roll.ri;subst ar;have W:=Z.same S4;refine⟨_,_,rfl,wJ r4.rd r4.okd,_,rfl,_,_,rfl,wJ W.rd W.okd,rfl,?_⟩;rw[Ic rfl];exact k _ (aj.trans S4)
abbrev zE:Pos:=⟨340,21,340,61⟩
abbrev zF:Pos:=⟨342,21,342,62⟩
abbrev aDK:Str:=(("_law_not_called":Str) ++ ".<locals>.") ++ "<lambda>"
inductive oT(T:Ac)(vs:List V)(H:Hp)(Q:VK)(u3_:XK):Prop
 | mk (t lN:Ac) (lds:List Ak) (us:List cC) (ws:List Str) (q0:vs=[.ref t,.ref lN]) (q1:eI H t lds us) (q2:H lN=some (.lst (ws.map V.str))) (q3:ws.length≤44) (q4:(∀ z∈ws,z ∉ us.map (·.name))) (q5:eU T [zE,zF] aDK H) (q6:∀ H',Q (.bl true) H'):oT T vs H Q u3_
def sH(T:Ac):Sp:=fun vs H Q u3_=>oT T vs H Q u3_
theorem qG{H H':Hp}{x:V}(h:Thn H x)(F:∀ a B r,x=.ref a→H a≠some (.dK (B :: r)))(k:Kq H H'):Thn H' x:=by
 cases h with
 | non=>exact .non
 | bl b=>exact .bl b
 | int i=>exact .int i
 | str z=>exact .str z
 | lst e=>exact .lst (wL k e)
 | tup e=>exact .tup (wK k e)
 | @dct a di e=>
  cases di with
  | nil=>exact .dct (k _ _ e (fun _ _ z=>nomatch z) fun _ z=>nomatch z)
  | cons B r=>exact absurd e (F a B r rfl)
theorem sI:bY ["_law_roll","_law_names_here","_law_name"] ["_law_roll","_law_names_here"] (aO iP):=⟨rfl,rfl,rfl,by decide,rfl,by decide,by decide⟩
theorem aAu{f fT fC fO T cR cD DN:Ac}{cs ts:List Ac}{fd au av aC:AE}(F:Fun K "_law_not_called" "_law_not_called" iP f fd)(aN:fd.code=.ref cR)(hC:C5 K cR T=true)(hB:vK mg base)(xN:Cm K (.ref DN) (.ref cD)=some true)(tN:w6 K cs ts DN "NoName")
  (GT:cH P w K mg base CX0 12 fT au ["_law_ask"] (aCI P w K mg base cs ts cD)) (mT:mg "_law_told"=some (.ref fT)) (kT:Aj K (.ref fT)=true) (bT:c8 K au ["_law_ask"] [])
  (GC:cH P w K mg base (CXr P w) 1 fC av ["roll","name"] (j9 DN)) (mC:mg "row_called"=some (.ref fC)) (kC:Aj K (.ref fC)=true) (bC:c8 K av ["roll","name"] [])
  (GO:cH P w K mg base (CXr P w) 2 fO aC ["roll","name"] (rG DN)) (mO:mg "without_row"=some (.ref fO)) (kO:Aj K (.ref fO)=true) (bO:c8 K aC ["roll","name"] [])
  :cH P w K mg base CX0 13 f fd ["_law_roll","_law_names_here"] (sH T):=by
 refine F.okC sI (fun vs H Q E h=>?_) (fun cP A outer s H vs Q E aB hr h=>?_)
 ·obtain⟨t,lN,lds,us,ws,rfl,_⟩:=h;rfl
 ·obtain⟨t,lN,lds,us,ws,rfl,roll,hN,hwl,hws,gT,k⟩:=h;have nd:=sI.nd;rw[aN]at aB;subst aB;have O:_ < _:=hr.units0;refine⟨_,(aJ (kE B1 rfl (nV (cA zN (pv 1) (dM (aG oV (aG iR (aG aI (aG aX (aG aX (aG (dM (aG aX aF)) (aG (cQ (aG aX aF)) (aG aAL aF))))))))))) (g:=dG 2) (bU (i:=2) nd rfl (Do rfl))
   (aJ (cX (bX (aB5 O) (vS (Ps:=[zE,zF]) (c:=cR) (T:=T) (fs:=["_law_roll","_law_name"]) (cl:=[("_law_roll",s.heap.objs.size + 1),("_law_name",s.heap.objs.size + 2)]) GT hr rfl mT kT bT (by simp) rfl hC hB ?hcA ?hhasA (fun _=>rfl) rfl rfl rfl) (dM (aG aX (aG aX aF))) (cF _)) (aU (bG iR)) bM)
    (aU (cX (bX (aB5 O) (vS (Ps:=[zE,zF]) (c:=cR) (T:=T) (fs:=["_law_roll","_law_name"]) (cl:=[("_law_roll",s.heap.objs.size + 1),("_law_name",s.heap.objs.size + 2)]) GT hr rfl mT kT bT (by simp) rfl hC hB ?hcB ?hhasB (fun _=>rfl) rfl rfl rfl) (dM (aG aX (aG aX aF))) (cF _)) (aU (bG iR)) bM))))
   (aU (bG iR))),?_⟩
  case hcA=>
   intro y b h;rw[A5]at h;cases B:y == ("_law_roll":Str)with
   | true=>
    rw[B]at h;cases h;rw[beq_iff_eq.mp B];exact⟨rfl,by simp⟩
   | false=>
    rw[B]at h;dsimp only at h;rw[A5]at h;cases J:y == ("_law_name":Str)with
    | true=>
     rw[J]at h;cases h;rw[beq_iff_eq.mp J];exact⟨rfl,by simp⟩
    | false=>
     rw[J]at h;cases h
  case hhasA=>
   intro y h;simp only[Al,Ao,or_false]at h;rcases h with rfl | rfl
   ·exact⟨_,rfl⟩
   ·exact⟨_,rfl⟩
  case hcB=>
   intro y b h;rw[A5]at h;cases B:y == ("_law_roll":Str)with
   | true=>
    rw[B]at h;cases h;rw[beq_iff_eq.mp B];exact⟨rfl,by simp⟩
   | false=>
    rw[B]at h;dsimp only at h;rw[A5]at h;cases J:y == ("_law_name":Str)with
    | true=>
     rw[J]at h;cases h;rw[beq_iff_eq.mp J];exact⟨rfl,by simp⟩
    | false=>
     rw[J]at h;cases h
  case hhasB=>
   intro y h;simp only[Al,Ao,or_false]at h;rcases h with rfl | rfl
   ·exact⟨_,rfl⟩
   ·exact⟨_,rfl⟩
  refine⟨_,rfl,zZ1,fun B br=>⟨zZ1,fun J bj e3 bu=>⟨zZ8,fun L1 bL=>?_⟩⟩⟩;have t1:=aQ (o:=.lst [V.str "a"]) br;have t2:=aQ (o:=.tup [V.str "a"]) bj;have t3:=aQ (o:=.dK []) bu;have t4:=aQ (o:=.lst [V.non,.bl true,.int 7,.str "",.str "A",.ref B,.ref J,.ref e3]) bL;have f1:=t4 _ _ (t3 _ _ (t2 _ _ (aH (H:=H) (a:=B) (o:=.lst [V.str "a"]))));have f2:=t4 _ _ (t3 _ _ (aH (H:=upd H B (.lst [V.str "a"])) (a:=J) (o:=.tup [V.str "a"])));have f3:=t4 _ _ (aH (H:=upd (upd H B (.lst [V.str "a"])) J (.tup [V.str "a"])) (a:=e3) (o:=.dK []));have s4:=t1.trans (t2.trans (t3.trans t4));have f4:=aH (H:=upd (upd (upd H B (.lst [V.str "a"])) J (.tup [V.str "a"])) e3 (.dK [])) (a:=L1) (o:=.lst [V.non,.bl true,.int 7,.str "",.str "A",.ref B,.ref J,.ref e3]);generalize upd (upd (upd (upd H B _) J _) e3 _) L1 _=H4 at s4 f1 f2 f3 f4 ⊢;refine⟨lN,L1,_,_,rfl,rfl,s4 _ _ hN,f4,aS (by rw[Ae];show _ + 8≤1000000;omega),fun L2 bv=>?_⟩;have s5:=aQ (o:=.lst (ws.map V.str ++ [V.non,.bl true,.int 7,.str "",.str "A",.ref B,.ref J,.ref e3])) bv;have f5:=aH (H:=H4) (a:=L2) (o:=.lst (ws.map V.str ++ [V.non,.bl true,.int 7,.str "",.str "A",.ref B,.ref J,.ref e3]));generalize upd H4 L2 _=H5 at s5 f5 ⊢;have ar:=s4.trans s5;have g5:=gT.same ar;have am:=roll.same ar;have ak:∀ v∈ws.map V.str ++ [V.non,.bl true,.int 7,.str "",.str "A",.ref B,.ref J,.ref e3],Thn H5 v∧(∀ a U r,v=.ref a→H5 a≠some (.dK (U :: r)))∧∀ u∈us,v≠.str u.name:=fun v hv=>by
   have k1:=s5 _ _ f1;have k2:=s5 _ _ f2;have k3:=s5 _ _ f3;rcases Bf.mp hv with hv | hv
   ·obtain⟨z,hz,rfl⟩:=Bd.mp hv;refine⟨.str z,(fun a U r e=>nomatch e),fun u O e=>hws z hz ?_⟩;injection e with e;rw[e];exact Bd.mpr ⟨u,O,rfl⟩
   ·simp only[Al,Ao,or_false]at hv;rcases hv with rfl | rfl | rfl | rfl | rfl | rfl | rfl | rfl
    ·exact⟨.non,(fun a U r e=>nomatch e),fun u O e=>nomatch e⟩
    ·exact⟨.bl _,(fun a U r e=>nomatch e),fun u O e=>nomatch e⟩
    ·exact⟨.int _,(fun a U r e=>nomatch e),fun u O e=>nomatch e⟩
    ·refine⟨.str _,(fun a U r e=>nomatch e),fun u O e=>?_⟩;have:=(roll.ok u O).nm;injection e with e;rw[← e]at this;exact absurd this (by decide)
    ·refine⟨.str _,(fun a U r e=>nomatch e),fun u O e=>?_⟩;have:=(roll.ok u O).nm;injection e with e;rw[← e]at this;exact absurd this (by decide)
    ·exact⟨.lst k1,(fun a U r e z=>by cases e;rw[k1]at z;cases z),fun u O e=>nomatch e⟩
    ·exact⟨.tup k2,(fun a U r e z=>by cases e;rw[k2]at z;cases z),fun u O e=>nomatch e⟩
    ·exact⟨.dct k3,(fun a U r e z=>by cases e;rw[k3]at z;cases z),fun u O e=>nomatch e⟩
  refine⟨L2,rfl,⟨_,bE f5⟩,?_⟩;refine aAz (K:=K) (xs:=ws.map V.str ++ [V.non,.bl true,.int 7,.str "",.str "A",.ref B,.ref J,.ref e3]) (fun i σ H'=>∃(o:Option V),σ=[some (.ref t),some (.ref lN),o]∧Kq H5 H'∧eU T [zE,zF] aDK H') ⟨none,rfl,qD (bJ.refl _),g5⟩ (fun i σ H' _ h=>by obtain⟨_,_,kk,_⟩:=h;exact bE (wL kk f5)) ?_ ?_
  ·rintro i v σ H6 hv ⟨o,rfl,K6,g6⟩;obtain⟨th0,hd0,hne⟩:=ak v (AF hv);have Y:=am.onQ K6;have af:=qG th0 hd0 K6;have ad:∀ a U r,v=.ref a→H6 a≠some (.dK (U :: r)):=fun a U r e z=>by
    cases th0 with
    | non=>cases e
    | bl b=>cases e
    | int i=>cases e
    | str z=>cases e
    | lst W=>cases e;rw[wL K6 W]at z;cases z
    | tup W=>cases e;rw[wK K6 W]at z;cases z
    | @dct a' di W=>
     cases e;cases di with
     | nil=>rw[K6 _ _ W (fun _ _ z=>nomatch z) fun _ z=>nomatch z]at z;cases z
     | cons bx r'=>exact hd0 _ _ _ rfl W
   dsimp only[dG];refine⟨[.ref t,v],.cons ⟨0,rfl,rfl,rfl⟩ (.cons ⟨2,rfl,rfl,rfl⟩ .nil),g6,fun f' c' H7 L S7 g7 bb ap tk aw=>?_⟩;have sf:=wM aw;have Q7:=aIe g6 S7;have an:=Y.onQ Q7;have bf:=qG af ad Q7;refine⟨f',rfl,⟨⟨_,_,_,_,_,c',sf _ _ ap⟩,fun A' ae s' Z e0=>?_⟩⟩;refine aAe (k:=10) e0 Z ⟨rfl,rfl,rfl,by decide,by decide,by decide,by decide⟩ ?hhas2 (sf _ _ ap) (sf _ _ bb) (fun _ _ _=>rfl) tk (fun b o e=>hJ e) (fun b o e z=>by have:=e0.frf b z;rw[hJ e]at this;cases this)
    (fun aT=>c6 GC ((Z.deeper _).mono (by decide)) rfl mC kC bC .nil (vO fun _ _ _ h=>h) (aG (pv 0) (aG (pv 1) aF))) ?_
   ·intro y h;have hm:=By h;have e:=(show∀ y∈_,y.2=A6→y.1=("_law_roll":Str)∨y.1=("_law_name":Str) from by decide) (y,A6) hm rfl;rcases e with rfl | rfl
    ·exact⟨_,rfl⟩
    ·exact⟨_,rfl⟩
   rw[rJ aw];refine⟨_,rfl,_,rfl,t,lds,us,v,rfl,an,bf,(fun u O e=>absurd e (hne u O)),fun _ hn=>⟨DN,"NoName",rfl,xN,tN,fun Lr H8 S8 e8=>?_⟩⟩;have b1:=pL S8 hn;have b2:=wN S8 e8 (fun _ _ z=>nomatch z);have g8:=g7.same b1;have Q8:=qE Q7 (qD b1);have aa:=Y.onQ Q8;have bp:=qG af ad Q8;dsimp only;generalize eY H8 L=H9 at b1 b2 g8 Q8 aa bp ⊢;refine⟨zZ2,fun LA bn=>?_⟩;have sA:=aQ (o:=.lst [V.str "refused",.str "NoName"]) bn;refine⟨Lr,LA,_,_,rfl,rfl,bE (sA _ _ b2),bE aH,eJ ["refused","NoName"],eJ ["refused","NoName"],_,rfl,?_⟩;rw[show qN [V.str "refused",.str "NoName"] [V.str "refused",.str "NoName"]=true from(lZ ["refused","NoName"] ["refused","NoName"]).trans (Ic rfl)];refine cO ?_;generalize upd H9 LA _=HA at sA ⊢;have gA:=g8.same sA;have QA:=qE Q8 (qD sA);have aj:=aa.same sA;have bh:∀ a U r,v=.ref a→HA a≠some (.dK (U :: r)):=fun a U r e z=>by
    cases af with
    | non=>cases e
    | bl b=>cases e
    | int i=>cases e
    | str z=>cases e
    | lst W=>cases e;rw[wL QA W]at z;cases z
    | tup W=>cases e;rw[wK QA W]at z;cases z
    | @dct a' di W=>
     cases e;cases di with
     | nil=>rw[QA _ _ W (fun _ _ z=>nomatch z) fun _ z=>nomatch z]at z;cases z
     | cons bx r'=>exact ad _ _ _ rfl W
   have bc:=qG af ad QA;refine⟨[.ref t,v],.cons ⟨0,rfl,rfl,rfl⟩ (.cons ⟨2,rfl,rfl,rfl⟩ .nil),gA,fun f2 c2 HB bA SB gB hcB aA bK aq=>?_⟩;have ah:=wM aq;have QB:=aIe gA SB;refine⟨f2,rfl,⟨⟨_,_,_,_,_,c2,ah _ _ aA⟩,fun A' ae s' Z e0=>?_⟩⟩;refine aAe (k:=10) e0 Z ⟨rfl,rfl,rfl,by decide,by decide,by decide,by decide⟩ ?hhas3 (ah _ _ aA) (ah _ _ hcB) (fun _ _ _=>rfl) bK (fun b o e=>hJ e) (fun b o e z=>by have:=e0.frf b z;rw[hJ e]at this;cases this)
    (fun aT=>c6 GO ((Z.deeper _).mono (by decide)) rfl mO kO bO .nil (vO fun _ _ _ h=>h) (aG (pv 0) (aG (pv 1) aF))) ?_
   ·intro y h;have hm:=By h;have e:=(show∀ y∈_,y.2=A6→y.1=("_law_roll":Str)∨y.1=("_law_name":Str) from by decide) (y,A6) hm rfl;rcases e with rfl | rfl
    ·exact⟨_,rfl⟩
    ·exact⟨_,rfl⟩
   rw[rJ aq];refine⟨_,rfl,_,rfl,t,lds,us,v,rfl,aj.onQ QB,qG bc bh QB,(fun u O e=>absurd e (hne u O)),fun _ hn=>⟨DN,"NoName",rfl,xN,tN,fun aM HC SC eC=>?_⟩⟩;have d1:=pL SC hn;have d2:=wN SC eC (fun _ _ z=>nomatch z);have gC:=gB.same d1;have QC:=qE QB (qD d1);dsimp only;generalize eY HC bA=HD at d1 d2 gC QC ⊢;refine⟨zZ2,fun LE bw=>?_⟩;have sE:=aQ (o:=.lst [V.str "refused",.str "NoName"]) bw;refine⟨aM,LE,_,_,rfl,rfl,bE (sE _ _ d2),bE aH,eJ ["refused","NoName"],eJ ["refused","NoName"],_,rfl,?_⟩;rw[show qN [V.str "refused",.str "NoName"] [V.str "refused",.str "NoName"]=true from(lZ ["refused","NoName"] ["refused","NoName"]).trans (Ic rfl)];refine cO ?_;exact⟨_,rfl,qE K6 (qE QA (qE QC (qD sE))),gC.same sE⟩
  ·rintro σ H6 ⟨o,rfl,K6,g6⟩;exact k H6
theorem dS.but{H H':Hp}{p c:Ac}{ns:List Int}{a:Int}{xs:List V}{z:List cC}{fs:List Str}(h:dS H xs z fs)(B:cJ H p c ns a)(k:aY p H H'):dS H' xs z fs:=h.on (wI B k)
inductive aDL(K:Ah)(T1 T2:Ac)(vs:List V)(H:Hp)(Q:VK)(u3_:XK):Prop
 | mk (a:Ac) (ns:List Int) (q0:vs=[.ref a]) (q1:SqL K H a (ns.map V.int)) (q2:ns.length≤63) (q3:eU T1 [aBT] wO H) (q4:eU T2 [zE,zF] aDK H) (q5:∀ H',Q (.bl true) H'):aDL K T1 T2 vs H Q u3_
def aDM(K:Ah)(T1 T2:Ac):Sp:=fun vs H Q u3_=>aDL K T1 T2 vs H Q u3_
theorem aJX{p c T:Ac}{ns:List Int}{a:Int}{H H':Hp}{Ps:List Pos}{qual:Str}(F:cJ H p c ns a)(g:eU T Ps qual H)(k:iE [p,T] H H'):Kq H H':=fun b o e B J=>k b o (fun z=>by
 simp only[Al,Ao,or_false]at z;rcases z with rfl | rfl
 ·obtain⟨⟨l,_,e'⟩,_,_,_⟩:=F;rw[e']at e;cases e;exact B _ _ rfl
 ·obtain⟨ps,hT,_⟩:=g.ex;rw[hT]at e;cases e;exact J _ rfl) e
theorem aJY{p c T T2:Ac}{ns:List Int}{a:Int}{H H':Hp}{Ps J:List Pos}{qual B:Str}(W:cJ H p c ns a)(g:eU T Ps qual H)(g2:eU T2 J B H)(U:T≠T2)(k:iE [p,T] H H'):eU T2 J B H':=by
 obtain⟨ps,h1,h2,F⟩:=g2.ex;have Z:=aJX W g k;refine⟨ps,k _ _ (fun z=>?_) h1,h2,fun pos O=>?_⟩
 ·simp only[Al,Ao,or_false]at z;rcases z with rfl | rfl
  ·obtain⟨⟨l,_,e'⟩,_,_,_⟩:=W;rw[e']at h1;cases h1
  ·exact U rfl
 ·rcases F pos O with F | ⟨c',F,Y⟩
  ·exact .inl F
  ·exact .inr ⟨c',F,Z _ _ Y (fun _ _ z=>nomatch z) fun _ z=>nomatch z⟩
def i5:List Str:=["zq","zqz","zqzq","qz"]
theorem aEK:∀ z∈i5,bV z=true:=by decide
theorem aCL{B:List Str}(hN:Nms B)(J:B.length≤8):∃ z cI,(i5 ++ B).filter (fun z=>decide (z ∉ B))=z :: cI∧bV z=true∧z ∉ B:=by
 have hm:∀ z∈(i5 ++ B).filter (fun z=>decide (z ∉ B)),bV z=true∧z ∉ B:=fun z hz=>by
  obtain⟨h1,h2⟩:=CT.mp hz;refine⟨?_,Ie h2⟩;rcases Bf.mp h1 with h | h
  ·exact aEK z h
  ·exact hN.ok z h
 have F:(i5 ++ B).filter (fun z=>decide (z ∉ B))≠[]:=fun e=>by
  have key:∀ z∈i5,z∈B:=fun z hz=>Classical.byContradiction fun hn=>by
   have:z∈(i5 ++ B).filter (fun z=>decide (z ∉ B)):=CT.mpr ⟨C8 _ hz,Ic hn⟩;rw[e]at this;simp at this
  have hz:=hN.zq;unfold Zq at hz;rw[Bw J]at hz;exact hz ⟨key _ (by simp[i5]),key _ (by simp[i5])⟩
 cases h:(i5 ++ B).filter (fun z=>decide (z ∉ B))with
 | nil=>exact absurd h F
 | cons z cI=>exact⟨z,cI,rfl,hm z (by rw[h];simp)⟩
theorem aIH:bY ["_law_script","_law_pen_here","_law_many","_law_fields","_law_plots","_law_houses","_law_names_here","_law_days_here","_law_laying_here","_law_rows","_law_roll","_law_strange","_law_fresh","_law_turn"] ["_law_script"] (aO sU):=⟨rfl,rfl,rfl,by decide,rfl,by decide,by decide⟩
theorem aJZ{f fP bx fD bz fR fN fT fW fO fK T1 T2:Ac}{fd c4 bc b7 bb ck cT cP ci cb cN:AE}(F:Fun K "law" "law" sU f fd)(ed:T1≠T2)(aT:mg "range"=none)(db:mg "tuple"=none)(am:mg "sorted"=none)(b1:mg "all"=none)
  (GK:cH P w K mg base CX0 1 fK cN ["_law_row_here"] oG) (mK:mg "_law_place"=some (.ref fK)) (bK:c8 K cN ["_law_row_here"] [])
  (GP:cH P w K mg base CX0 1 fP c4 ["_law_script"] (aIy K)) (mP:mg "_law_pen"=some (.ref fP)) (kP:Aj K (.ref fP)=true) (bP:c8 K c4 ["_law_script"] [])
  (fe:cH P w K mg base CX0 3 bx bc ["_law_pen_here","_law_fields","_law_rows"] aDq) (fL:mg "_law_sorts"=some (.ref bx)) (kSo:Aj K (.ref bx)=true) (fF:c8 K bc ["_law_pen_here","_law_fields","_law_rows"] [])
  (GD:cH P w K mg base CX0 2 fD b7 ["_law_pen_here","_law_many"] aGw) (mD:mg "_law_days"=some (.ref fD)) (kD:Aj K (.ref fD)=true) (bD:c8 K b7 ["_law_pen_here","_law_many"] [])
  (eF:cH P w K mg base CX0 3 bz bb ["_law_pen_here","_law_fields","_law_houses"] aDw) (fA:mg "_law_laying"=some (.ref bz)) (kLO:Aj K (.ref bz)=true) (fg:c8 K bb ["_law_pen_here","_law_fields","_law_houses"] [])
  (GR:cH P w K mg base CX0 4 fR ck ["_law_pen_here","_law_name","_law_day","_law_sorts_here"] aIF) (mR:mg "_law_row"=some (.ref fR)) (kR:Aj K (.ref fR)=true) (bR:c8 K ck ["_law_pen_here","_law_name","_law_day","_law_sorts_here"] [])
  (GN:cH P w K mg base CX0 13 fN cT ["_law_roll","_law_names_here"] (sH T2)) (mN:mg "_law_not_called"=some (.ref fN)) (kN:Aj K (.ref fN)=true) (bN:c8 K cT ["_law_roll","_law_names_here"] [])
  (GT:cH P w K mg base CX0 1 fT cP ["_law_pen_here","_law_many"] hV) (mT:mg "_law_take"=some (.ref fT)) (kT:Aj K (.ref fT)=true) (bT:c8 K cP ["_law_pen_here","_law_many"] [])
  (GW:cH P w K mg base CX0 13 fW ci ["_law_pen_here","_law_roll","_law_fresh","_law_strange"] (aDI T1)) (mW:mg "_law_with_right"=some (.ref fW)) (kW:Aj K (.ref fW)=true) (bW:c8 K ci ["_law_pen_here","_law_roll","_law_fresh","_law_strange"] [])
  (GO:cH P w K mg base CX0 11 fO cb ["_law_roll","_law_row_here"] wP) (mO:mg "_law_without_right"=some (.ref fO)) (kO:Aj K (.ref fO)=true) (bO:c8 K cb ["_law_roll","_law_row_here"] [])
  :cH P w K mg base CX0 14 f fd ["_law_script"] (aDM K T1 T2):=by
 refine F.ok aIH (fun vs H Q E h=>?_) (fun hN A outer s H vs Q E hr h=>?_)
 ·obtain⟨a,ns,rfl,_⟩:=h;rfl
 ·obtain⟨a,ns,rfl,hS,hns,g1,g2,k⟩:=h;have nd:=aIH.nd;have af:cY 1 _:=hr.mono (by decide);have gb:cY 2 _:=hr.mono (by decide);have dj:cY 3 _:=hr.mono (by decide);have cq:cY (1 + 2) _:=hr.mono (by decide);have cs:cY 4 _:=hr.mono (by decide);have b4:cY 11 _:=hr.mono (by decide);refine⟨_,(aJ (bQ (i:=1) nd rfl (Do rfl) (c6 GP af rfl mP kP bP .nil gF (aG (pv 0) aF)))
   (aJ (bQ (i:=2) nd rfl (AG rfl) (cE c9 (dM (aG aI (aG aI (aG (c6 GT af rfl mT kT bT .nil gF (aG (pv 1) (aG aI aF))) (aG aI (aG (c6 GT af rfl mT kT bT .nil gF (aG (pv 1) (aG aI aF))) aF)))))) (c6 GT af rfl mT kT bT .nil gF (aG (pv 1) (aG aI aF))) Ig))
   (aJ (kB (c6 fe dj rfl fL kSo fF .nil gF (aG (pv 1) (aG (cA eM aI (c6 GT af rfl mT kT bT .nil gF (aG (pv 1) (aG aI aF)))) (aG aI aF)))) (m8 rfl (dB (bU (i:=3) nd rfl (Do rfl)) (dB (bU (i:=4) nd rfl (Do rfl)) (dB (bU (i:=5) nd rfl (Do rfl)) (dB (bU (i:=6) nd rfl (Do rfl)) jV))))))
   (aJ (bQ (i:=7) nd rfl (Do rfl) (c6 GD gb rfl mD kD bD .nil gF (aG (pv 1) (aG aI aF))))
   (aJ (bQ (i:=8) nd rfl (AG rfl) (c6 eF dj rfl fA kLO fg .nil gF (aG (pv 1) (aG (pv 3) (aG (pv 5) aF)))))
   (aJ (jO (i:=9) (N:=["_law_k","_law_pen_here","_law_fields","_law_plots","_law_houses","_law_names_here","_law_days_here"]) (src:=[none,some 1,some 3,some 4,some 5,some 6,some 7]) (osc:=aO sU) (oN:=["_law_script","_law_pen_here","_law_many","_law_fields","_law_plots","_law_houses","_law_names_here","_law_days_here","_law_laying_here","_law_rows","_law_roll","_law_strange","_law_fresh","_law_turn"]) ⟨by rfl,by decide,by decide,by decide,rfl,by rfl⟩ nd rfl (f8 rfl aT (aG (pv 2) aF)) (fun cl s H fp dh C=>⟨bU (i:=0) (show(["_law_k","_law_pen_here","_law_fields","_law_plots","_law_houses","_law_names_here","_law_days_here"]:List Str).Nodup by decide) rfl (AG rfl),eB,c6 GR cs rfl mR kR bR .nil gF (aG (pv 1) (aG (cE (r:=aE4 K) c9 (pv 5) (pv 0) Ig) (aG (cE (r:=aE4 K) c9 (pv 6) (pv 0) Ig) (aG (cQ (aG (pv 2) (aG (pv 3) (aG (pv 4) aF)))) aF))))⟩))
   (aJ (bQ (i:=10) nd rfl (Do rfl) (cQ (aG (pv 8) (aG (cV cW (by rfl) db (by kernel_rfl) (aG (vI GK cq bK (by rfl) am (by rfl) mK (aG (pv 9) aF)) aF)) aF))))
   (aJ (bQ (i:=11) nd rfl (AG rfl) (cE c9 (fE (N:=["_law_name","_law_fields"]) (src:=[none,some 3]) (osc:=aO sU) (oN:=["_law_script","_law_pen_here","_law_many","_law_fields","_law_plots","_law_houses","_law_names_here","_law_days_here","_law_laying_here","_law_rows","_law_roll","_law_strange","_law_fresh","_law_turn"]) ⟨by rfl,by decide,by decide,by decide,rfl,by rfl⟩ (nV (cA zN (dM (aG aX (aG aX (aG aX (aG aX aF))))) (pv 3))) (fun cl s H fp dh C=>⟨bU (i:=0) (show(["_law_name","_law_fields"]:List Str).Nodup by decide) rfl (AG rfl),zR (bX (r:=rIn K true) mE (pv 0) (pv 1) (by with_unfolding_all rfl)),pv 0⟩)) aI Ig))
   (aJ (bQ (i:=12) nd rfl (AG rfl) (c6 GR cs rfl mR kR bR .nil gF (aG (pv 1) (aG (cE c9 (pv 6) aI Ig) (aG (cE c9 (pv 7) aI Ig) (aG (cQ (aG (pv 3) (aG (pv 4) (aG (pv 5) aF)))) aF))))))
   (aJ (kE B1 rfl (f8 rfl aT (aG aI aF)) (g:=dG 13) (bU (i:=13) nd rfl (AG rfl))
   (aU (cX (fQ (dJ (c6 GW hr rfl mW kW bW .nil gF (aG (pv 1) (aG (pv 10) (aG (pv 12) (aG (pv 11) aF))))))) (aU (bG iR)) bM)))
   (aJ (cX (fQ (dJ (aV (pV rfl) (by rfl) b1 (by kernel_rfl) (aG (fE (N:=["_law_row_here","_law_roll"]) (src:=[none,some 10]) (osc:=aO sU) (oN:=["_law_script","_law_pen_here","_law_many","_law_fields","_law_plots","_law_houses","_law_names_here","_law_days_here","_law_laying_here","_law_rows","_law_roll","_law_strange","_law_fresh","_law_turn"]) ⟨by rfl,by decide,by decide,by decide,rfl,by rfl⟩ (gX (cE cM (pv 10) aI Ig)) (fun cl s H fp dh C=>⟨bU (i:=0) (show(["_law_row_here","_law_roll"]:List Str).Nodup by decide) rfl (AG rfl),eB,c6 GO b4 rfl mO kO bO .nil gF (aG (pv 1) (aG (pv 0) aF))⟩)) aF)))) (aU (bG iR)) bM)
   (aU (bG (c6 GN hr rfl mN kN bN .nil gF (aG (pv 10) (aG (eQ nX (pv 6) (fX aI) fV) aF)))))))))))))))),?_⟩
  refine⟨_,rfl,a,ns,rfl,hS,hns,fun p c H1 av s1 h6=>?_⟩;refine⟨_,rfl,p,c,ns,0,_,rfl,av,by decide,by decide,by decide,fun r1 a2 H2 fh io il ij cj k2=>?_⟩;refine⟨_,rfl,p,c,ns,a2,_,rfl,cj,by omega,by decide,by decide,fun r2 a3 H3 fc ji hF h7 dg k3=>?_⟩;refine⟨zZ5,fun q hq=>?_⟩;have sq:=aQ (o:=.lst [V.int 40,.int 0,.int r1,.int 39,.int r2]) hq;have bu:upd H3 q (.lst [V.int 40,.int 0,.int r1,.int 39,.int r2]) q=some (.lst [V.int 40,.int 0,.int r1,.int 39,.int r2]):=aH;generalize upd H3 q (.lst [V.int 40,.int 0,.int r1,.int 39,.int r2])=H4 at sq bu ⊢;have bt:=dg.same sq;refine⟨_,rfl,p,c,ns,a3,_,rfl,bt,by omega,by decide,by decide,fun r3 a5 H5 gh hA im ic bf k5=>?_⟩;obtain⟨v,hv,hat⟩:=g9 (xs:=[V.int 40,.int 0,.int r1,.int 39,.int r2]) (i:=r3) gh (by show r3 < 5;omega);obtain⟨m,rfl,hm⟩:∃ m:Nat,v=.int m∧m≤40:=by
   simp only[Al,Ao,or_false]at hv;rcases hv with rfl | rfl | rfl | rfl | rfl
   ·exact⟨40,rfl,by omega⟩
   ·exact⟨0,rfl,by omega⟩
   ·exact⟨r1.toNat,by rw[D6 fh],by omega⟩
   ·exact⟨39,rfl,by omega⟩
   ·exact⟨r2.toNat,by rw[D6 fc],by omega⟩
  refine⟨q,_,r3,_,rfl,rfl,bE (b8 bu bt k5),hat,?_⟩;have bp:aY p H1 H5:=((k2.trans k3).same sq).trans k5;have G1:eU T1 [aBT] wO H5:=iC (g1.same s1) av bp;have G2:eU T2 [zE,zF] aDK H5:=iC (g2.same s1) av bp;clear hat hv bu sq hq k2 k3 k5 av cj dg bt bp g1 g2;refine⟨_,rfl,_,rfl,p,c,ns,a5,_,rfl,bf,by omega,by decide,by decide,fun r4 a6 H6 jc h5 iv hg d2 gg=>?_⟩;obtain⟨nf,hnf⟩:∃ nf:Nat,(1 + r4:Int)=nf:=⟨(1 + r4).toNat,by omega⟩
  refine⟨_,_,rfl,rfl,p,c,ns,a6,nf,44,by(try dsimp only);rw[hnf];rfl,d2,by omega,by omega,by omega,fun t l1 l2 l3 l4 B ps hs rs aA HA ht cv eC bo dR fj ew cn d6 cf fz hh ax jw h9 W d4=>?_⟩;refine⟨t,_,rfl,aZ ht,rfl,_,_,rfl,_,_,rfl,_,_,rfl,_,_,rfl,rfl,?_⟩;have cu:=gg.trans d4;have eo:=iC G1 bf cu;have gi:=iC G2 bf cu;clear ht;refine⟨_,rfl,p,c,ns,aA,42,rfl,W,by omega,by omega,fun lD ds aB HB eN iz b3 iw jt cc bA=>?_⟩;refine⟨_,rfl,_,rfl,_,rfl,p,c,ns,aB,l1,l3,B,hs,rfl,cc,by omega,b8 cv W bA,bo.ok,by omega,b8 cn W bA,cf.ok,by omega,by omega,fun tL ih ae aC HC e8 b0 eb az hw jf J da=>?_⟩;have aa:=bA.trans da;have jD:=b8 eN cc da;have c3:S3 HC l1 l2 l3 B ps hs:=⟨b8 cv W aa,b8 dR W aa,b8 cn W aa,by omega,by omega,fj,d6,bo,ew,cf⟩
  have j4:=b8 fz W aa;have eu:=iC eo W aa;have fw:=iC gi W aa;have en:((m:Nat):Int).toNat=m:=Bl _;dsimp only[dG];refine⟨_,rfl,m,rfl,by omega,by omega,?_⟩;refine jP (n:=((m:Nat):Int).toNat) (fun i ys σ' H'=>Ex3 fun(a':Int) (o:Option V) (Z:List cC)=>Aw6 (σ'=[o,some (.ref p),some (.ref l1),some (.ref l2),some (.ref l3),some (.ref l4),some (.ref lD)]) (cJ H' p c ns a') (aY p HC H') (aC≤a') (a'≤aC + 90 * i) (Aw3 (ys.length=i) (dS H' ys Z B) (Z.map (·.name)=rs.take i)))
   ⟨aC,none,[],rfl,J,aY.refl _ _,by omega,by omega,rfl,⟨rfl,fun i x hx=>by simp at hx⟩,rfl⟩ (aS (by omega)) (fun i ys σ H p=>by obtain⟨_,_,_,_,_,_,_,_,e,_⟩:=p;omega) ?_ ?_
  ·rintro i ys σ' HD hi ⟨aD,o,Z,rfl,aw,kD,fb,df,bj,ar,ag⟩;rw[en]at hi;dsimp only[dG];refine dC ?_;have ad:i < rs.length:=by omega
   have ai:i < ds.length:=by omega
   have hn:rs[i]?=some rs[i]:=Ag ad;have hd:ds[i]?=some ds[i]:=Ag ai;have ap:atI (rs.map V.str) (0 + (i:Int))=some (.str rs[i]):=by
    rw[Fl];exact dD (by rw[AK,hn];rfl)
   have ao:atI (ds.map V.int) (0 + (i:Int))=some (.int ds[i]):=by
    rw[Fl];exact dD (by rw[AK,hd];rfl)
   refine⟨_,rfl,_,rfl,_,rfl,l4,_,_,_,rfl,rfl,bE (b8 j4 J kD),ap,_,rfl,_,rfl,lD,_,_,_,rfl,rfl,bE (b8 jD J kD),ao,_,rfl,_,rfl,_,rfl,zZ3,fun q3 bg=>?_⟩;have Y:=aQ (o:=.tup [V.ref l1,.ref l2,.ref l3]) bg;have bn:=ax.ok _ (BB ad);obtain⟨dd0,dd1⟩:=b3 _ (BB ai);refine⟨p,c,ns,aD,rs[i],ds[i],q3,l1,l2,l3,B,ps,hs,rfl,aw.same Y,by omega,aH,(c3.but J kD).same Y,bn,dd0,dd1,fun x r aE HE cR f3 cy js ix bw gc=>?_⟩;have c1:aY p HD HE:=fun b o e hb=>gc b o (Y _ _ e) hb;refine⟨aE,_,Z ++ [r],rfl,bw,kD.trans c1,by omega,by omega,by rw[Av,bj];rfl,(ar.but aw c1).snoc cR cy,?_⟩;rw[AU,ag,Bk,hn];show _ ++ [r.name]=_ ++ [rs[i]]
   rw[f3]
  rintro vs σ' HD ⟨aD,o,cr,rfl,aw,kD,fb,df,bj,ar,ag⟩ lR d7;rw[en]at bj df ag;have cL:(cr.map (·.name)).Nodup:=by rw[ag];exact(ax.take m).nd
  have sR:=aQ (o:=.lst vs) d7;have eR:upd HD lR (.lst vs) lR=some (.lst vs):=aH;generalize upd HD lR (.lst vs)=HE at sR eR ⊢;have bw:=aw.same sR;have b5:aY p HC HE:=kD.same sR;have jh:cr.length≤40:=by rw[← ar.len];omega
  have bq:=ar.same sR;have aR:RdV false HE (.ref tL) (.tuple ae):=aCx (RdV.tup e8 (by have:=b0.len;have:=congrArg Gc az;rw[Ae]at this;omega) b0) J b5;dsimp only[dG];have hW:ae.length=nf:=by rw[← eC,← az,Ae]
  refine⟨_,rfl,_,rfl,lR,vs,yT HE,rfl,.inl (bE eR),by omega,aAr bq,fun E1 kk pp HG sG hE ea hk ho eE=>?_⟩;obtain⟨Z,ho1,ho2,ho3⟩:=pK bq cL ea hk ho sG;have ig:=ho1.length_eq;refine⟨E1,_,rfl,.inl ⟨bE eE,fun l hl=>⟨zZ2,fun O hO=>?_⟩⟩⟩;have sl:=aQ (o:=.tup (pp.map fun i=>vs.getD i .non)) hl;have el:upd HG l (.tup (pp.map fun i=>vs.getD i .non)) l=some (.tup (pp.map fun i=>vs.getD i .non)):=aH;generalize upd HG l _=HH at sl el hO ⊢;have sO:=aQ (o:=.tup [V.ref tL,.ref l]) hO;have aK:=sG.trans (sl.trans sO);have eO:upd HH O (.tup [V.ref tL,.ref l]) O=some (.tup [V.ref tL,.ref l]):=aH;have cm:=sl.trans sO;have an:eI (upd HH O (.tup [V.ref tL,.ref l])) O ae Z:=⟨⟨tL,l,_,eO,aR.same aK,sO _ _ el,by rw[az];exact ho3.same cm⟩,eb,by omega,by omega,(ho1.map (·.name)).nodup_iff.mpr cL,ho2⟩
  generalize upd HH O (.tup [V.ref tL,.ref l])=HI at aK an ⊢;have ez:=bw.same aK;have au:=b5.same aK;clear eE ho ho3 el eO cm aR eR sR ar bq;have i1:=(c3.but J au)
  have i4:=b8 j4 J au;have iD:=b8 jD J au;have dz:Z.map (·.name)=Z.map (·.name):=rfl
  have b9:∀ z,z∈Z.map (·.name)→z∈rs.take m:=fun z hz=>by
   rw[← ag];exact(ho1.map (·.name)).mem_iff.mp hz
  refine⟨zZ4,fun q4 eP=>?_⟩;have s4:=aQ (o:=.lst (i5.map V.str)) eP;have e4:upd HI q4 (.lst (i5.map V.str)) q4=some (.lst (i5.map V.str)):=aH;show _;have eg:upd HI q4 (.lst [V.str "zq",.str "zqz",.str "zqzq",.str "qz"])=upd HI q4 (.lst (i5.map V.str)):=rfl;rw[eg];generalize upd HI q4 (.lst (i5.map V.str))=HJ at s4 e4 ⊢;refine⟨_,rfl,q4,l1,_,_,rfl,rfl,e4,s4 _ _ i1.f,aS (by rw[Ae,Ae];show 4 + B.length≤1000000;omega),fun L2 ft=>?_⟩;have ef:i5.map V.str ++ B.map V.str=(i5 ++ B).map V.str:=by rw[AU]
  rw[ef];have s5:=aQ (o:=.lst ((i5 ++ B).map V.str)) ft;have e5:upd HJ L2 (.lst ((i5 ++ B).map V.str)) L2=some (.lst ((i5 ++ B).map V.str)):=aH;generalize upd HJ L2 (.lst ((i5 ++ B).map V.str))=HK at s5 e5 ⊢;have dc:=s4.trans s5;have dV:=dc _ _ i1.f;refine⟨L2,rfl,⟨_,bE e5⟩,?_⟩;have ej:((i5 ++ B).map V.str).length=4 + B.length:=by rw[Ae,Av];rfl
  refine nY (K:=K) (xs:=(i5 ++ B).map V.str) (fun i zs σ H'=>H'=HK∧zs=(((i5 ++ B).take i).filter fun z=>decide (z ∉ B)).map V.str∧∃ o,σ=[o,some (.ref l1)]) ⟨rfl,rfl,none,rfl⟩ (aS (by omega)) (fun i zs σ H' p=>by
   rw[p.2.1,Ae];have:=CZ (fun z=>decide (z ∉ B)) ((i5 ++ B).take i);rw[AX]at this;omega) (fun i zs σ H' p=>by rw[p.1];exact bE e5) ?_ ?_
  ·rintro i v zs σ H' hv ⟨rfl,rfl,o,rfl⟩;rw[AK]at hv;obtain⟨z,hz,rfl⟩:=Ex.mp hv;dsimp only[dG];refine⟨_,rfl,_,rfl,l1,_,rfl,.inl (bE dV),rfl,eJ B,_,rfl,?_⟩;rw[Ib rfl,tE,Bk,hz,Fd];by_cases g:z∈B
   ·rw[Ic g];refine cO ⟨rfl,?_,_,rfl⟩;simp[g]
   ·rw[decide_eq_false g];refine dC ⟨_,rfl,rfl,?_,_,rfl⟩;simp[g]
  rintro zs σ H' ⟨rfl,rfl,o',rfl⟩ DD fk;rw[ej,Bw (show(i5 ++ B).length≤4 + B.length by rw[Av];exact Ap _)];obtain⟨st,strest,hst0,hstn,hst2⟩:=aCL bo (by omega);rw[hst0];have s6:=aQ (o:=.lst ((st :: strest).map V.str)) fk;have e6:upd H' DD (.lst ((st :: strest).map V.str)) DD=some (.lst ((st :: strest).map V.str)):=aH;generalize upd H' DD (.lst ((st :: strest).map V.str))=HL at s6 e6 ⊢;refine⟨DD,_,0,_,rfl,rfl,bE e6,dD (j:=0) rfl,?_⟩;have ac:=dc.trans s6;have cw:=ez.same ac;have bi:=an.same ac;have x4:=ac _ _ i4;have xD:=ac _ _ iD;have cK:=i1.same ac;have ad:41 < rs.length:=by omega
  have ai:41 < ds.length:=by omega
  have dk:rs[41]?=some rs[41]:=Ag ad;have ca:ds[41]?=some ds[41]:=Ag ai;have ap:atI (rs.map V.str) 41=some (.str rs[41]):=dD (j:=41) (by rw[AK,dk];rfl);have ao:atI (ds.map V.int) 41=some (.int ds[41]):=dD (j:=41) (by rw[AK,ca];rfl);refine⟨_,rfl,_,rfl,l4,_,_,_,rfl,rfl,bE x4,ap,_,rfl,lD,_,_,_,rfl,rfl,bE xD,ao,_,rfl,_,rfl,_,rfl,zZ3,fun q3 bg=>?_⟩;have Y:=aQ (o:=.tup [V.ref l1,.ref l2,.ref l3]) bg;obtain⟨dd0,dd1⟩:=b3 _ (BB ai);refine⟨p,c,ns,aD,rs[41],ds[41],q3,l1,l2,l3,B,ps,hs,rfl,cw.same Y,by omega,aH,cK.same Y,ax.ok _ (BB ad),dd0,dd1,fun xf fr aM HM fv ey cz hM jv aL fI=>?_⟩;have cD:aY p HL HM:=fun b o e hb=>fI b o (Y _ _ e) hb;have ak:=bi.on (wI cw cD);have br:aY p HC HM:=(au.same ac).trans cD;have aP:=iC eu J br;have eL:=iC fw J br;have y4:=b8 j4 J br;have aj:∀(j:Nat),m≤j→(hj:j < rs.length)→rs[j] ∉ Z.map (·.name):=fun j hK hj hz=>by
   have h1:=b9 _ hz;obtain⟨i,hi,e⟩:=List.mem_take_iff_getElem.mp h1;have:=(CK (h₀:=by omega) (h₁:=hj) ax.nd).mp e;omega
  have b6:fr.name ∉ Z.map (·.name):=by rw[ey];exact aj 41 (by omega) ad
  subst az;refine⟨10,rfl,by decide,by decide,jF (n:=10) (fun i σ H'=>∃(o:Option V) (a':Int),Aw6 (σ=[some (.ref a),some (.ref p),some (.int m),some (.ref l1),some (.ref l2),some (.ref l3),some (.ref l4),some (.ref lD),some (.ref tL),some (.ref lR),some (.ref O),some (.str st),some xf,o]) (cJ H' p c ns a') (aM≤a') (a'≤aM + 210 * i) (iE [p,T1] HM H') (eU T1 [aBT] wO H')) ⟨none,aM,rfl,aL,by omega,by omega,(fun _ _ _ e=>e),aP⟩ ?_ ?_⟩
  ·rintro i σ HN hi ⟨o,aN,rfl,cx,f4,em,kN,gN⟩;dsimp only[dG];have QN:=aJX aL aP kN;refine⟨_,rfl,_,rfl,_,rfl,_,rfl,p,c,ns,aN,O,ae,Z,xf,fr,st,rfl,cx,by omega,ak.onQ QN,fv.keepQ QN,cz,b6,hstn,hst2,gN,fun a' HP ii ja fu gP kP=>?_⟩;refine⟨_,rfl,cO ?_⟩;exact⟨_,a',rfl,fu,by omega,by omega,kN.trans kP,gP⟩
  ·rintro σ HN ⟨o,aN,rfl,cx,f4,em,kN,gN⟩;have QN:=aJX aL aP kN;have U:=ak.onQ QN;have eT:=aJY aL aP eL ed kN;obtain⟨la,rw,ys,h1,h2,h3,h4⟩:=U.ex;have gt:=h4.len;have jk:=U.u4;refine⟨_,rfl,O,_,1,_,rfl,rfl,aZ h1,rfl,rw,rfl,⟨_,aZ h3⟩,?_⟩;refine gQ (K:=K) (xs:=ys) (fun i ah σ' H'=>∃(o1:Option V),σ'=[o1,some (.ref O)]∧ah=(EK i true).map V.bl∧bJ HN H') ⟨none,rfl,rfl,bJ.refl _⟩ (aS (by omega)) (fun i ah σ H p=>by obtain⟨_,_,e,_⟩:=p;rw[e];simp) (fun i ah σ H p=>by obtain⟨_,_,_,S⟩:=p;exact aZ (S _ _ h3)) ?_ ?_
   ·rintro i v ah σ' HP hv ⟨o1,rfl,rfl,SP⟩;obtain⟨u,hu',rdu,oku⟩:=h4.at' i v hv;dsimp only[dG];refine dC ?_;refine⟨_,rfl,_,rfl,O,ae,Z,v,u,rfl,U.same SP,AF hu',rdu.same SP,fun HQ SQ=>?_⟩;refine⟨_,rfl,?_,SP.trans SQ⟩;rw[List.replicate_succ',AU];rfl
   rintro ah σ' HP ⟨o1,rfl,rfl,SP⟩ Dl fq;have b2:=aQ (o:=.lst ((EK ys.length true).map V.bl)) fq;refine⟨Dl,_,rfl,bE aH,_,rfl,?_⟩;rw[show(EK ys.length true).all id=true by simp];refine cO ?_;generalize upd HP Dl _=HQ at b2 ⊢;have SQ:=SP.trans b2;have z4:=SQ _ _ (wL QN y4);refine⟨_,rfl,_,rfl,_,rfl,l4,_,rfl,bE z4,fun C hC=>?_⟩;have ec:gU (rs.map V.str) (some 42) none=(rs.drop 42).map V.str:=by
    rw[List.map_drop];exact pY (α:=Nat) (rs.map V.str) 42
   rw[ec];have sC:=aQ (o:=.lst ((rs.drop 42).map V.str)) hC;have SC:=SQ.trans sC;refine⟨O,C,ae,Z,rs.drop 42,rfl,U.same SC,aH,by rw[Cc];omega,fun z hz=>?_,eT.same SC,fun H'=>k H'⟩;obtain⟨j,hj,e⟩:=List.mem_drop_iff_getElem.mp hz;rw[← e];exact aj _ (by omega) _
theorem all_mk{l:Fi}{w:AS}{K:Ah}{h:A4}{mg:Str→Option Ab}{fa:Ac}(X:K.In h)(G:h.Ns mainGlobals mg)(hfa:mg "law"=some (.ref fa))
  {fIN:Ac} {odIN anIN:Option Ac} {slIN:Array (Option Ab)} {ocIN kVIN dcIN pmIN cdIN ctIN:Ab} {fNB:Ac} {odNB anNB:Option Ac} {slNB:Array (Option Ab)} {ocNB kVNB dcNB pmNB cdNB ctNB:Ab} {fIW:Ac} {odIW anIW:Option Ac} {slIW:Array (Option Ab)} {ocIW kVIW dcIW pmIW cdIW ctIW:Ab} {fRI:Ac} {odRI anRI:Option Ac} {slRI:Array (Option Ab)} {ocRI kVRI dcRI pmRI cdRI ctRI:Ab} {fPT:Ac} {odPT anPT:Option Ac} {slPT:Array (Option Ab)} {ocPT kVPT dcPT pmPT cdPT ctPT:Ab} {fAP:Ac} {odAP anAP:Option Ac} {slAP:Array (Option Ab)} {ocAP kVAP dcAP pmAP cdAP ctAP:Ab} {fAN:Ac} {odAN anAN:Option Ac} {slAN:Array (Option Ab)} {ocAN kVAN dcAN pmAN cdAN ctAN:Ab} {fRP:Ac} {odRP anRP:Option Ac} {slRP:Array (Option Ab)} {ocRP kVRP dcRP pmRP cdRP ctRP:Ab} {fRL:Ac} {odRL anRL:Option Ac} {slRL:Array (Option Ab)} {ocRL kVRL dcRL pmRL cdRL ctRL:Ab} {fIC:Ac} {odIC anIC:Option Ac} {slIC:Array (Option Ab)} {ocIC kVIC dcIC pmIC cdIC ctIC:Ab} {fF0:Ac} {odF0 anF0:Option Ac} {slF0:Array (Option Ab)} {ocF0 kVF0 dcF0 pmF0 cdF0 ctF0:Ab} {fF1:Ac} {odF1 anF1:Option Ac} {slF1:Array (Option Ab)} {ocF1 kVF1 dcF1 pmF1 cdF1 ctF1:Ab} {fF2:Ac} {odF2 anF2:Option Ac} {slF2:Array (Option Ab)} {ocF2 kVF2 dcF2 pmF2 cdF2 ctF2:Ab} {fF3:Ac} {odF3 anF3:Option Ac} {slF3:Array (Option Ab)} {ocF3 kVF3 dcF3 pmF3 cdF3 ctF3:Ab} {fF4:Ac} {odF4 anF4:Option Ac} {slF4:Array (Option Ab)} {ocF4 kVF4 dcF4 pmF4 cdF4 ctF4:Ab} {fF5:Ac} {odF5 anF5:Option Ac} {slF5:Array (Option Ab)} {ocF5 kVF5 dcF5 pmF5 cdF5 ctF5:Ab} {fF6:Ac} {odF6 anF6:Option Ac} {slF6:Array (Option Ab)} {ocF6 kVF6 dcF6 pmF6 cdF6 ctF6:Ab} {fF7:Ac} {odF7 anF7:Option Ac} {slF7:Array (Option Ab)} {ocF7 kVF7 dcF7 pmF7 cdF7 ctF7:Ab} {fIR:Ac} {odIR anIR:Option Ac} {slIR:Array (Option Ab)} {ocIR kVIR dcIR pmIR cdIR ctIR:Ab} {fAT:Ac} {odAT anAT:Option Ac} {slAT:Array (Option Ab)} {ocAT kVAT dcAT pmAT cdAT ctAT:Ab} {fIO:Ac} {odIO anIO:Option Ac} {slIO:Array (Option Ab)} {ocIO kVIO dcIO pmIO cdIO ctIO:Ab} {fRO:Ac} {odRO anRO:Option Ac} {slRO:Array (Option Ab)} {ocRO kVRO dcRO pmRO cdRO ctRO:Ab} {fFO:Ac} {odFO anFO:Option Ac} {slFO:Array (Option Ab)} {ocFO kVFO dcFO pmFO cdFO ctFO:Ab} {fOr:Ac} {odOr anOr:Option Ac} {slOr:Array (Option Ab)} {ocOr kVOr dcOr pmOr cdOr ctOr:Ab} {fRF:Ac} {odRF anRF:Option Ac} {slRF:Array (Option Ab)} {ocRF kVRF dcRF pmRF cdRF ctRF:Ab} {fRC:Ac} {odRC anRC:Option Ac} {slRC:Array (Option Ab)} {ocRC kVRC dcRC pmRC cdRC ctRC:Ab} {fWi:Ac} {odWi anWi:Option Ac} {slWi:Array (Option Ab)} {ocWi kVWi dcWi pmWi cdWi ctWi:Ab} {fWo:Ac} {odWo anWo:Option Ac} {slWo:Array (Option Ab)} {ocWo kVWo dcWo pmWo cdWo ctWo:Ab} {fP:Ac} {odP anP:Option Ac} {slP:Array (Option Ab)} {ocP kVP dcP pmP cdP ctP:Ab} {fT:Ac} {odT anT:Option Ac} {slT:Array (Option Ab)} {ocT kVT dcT pmT cdT ctT:Ab} {fN:Ac} {odN anN:Option Ac} {slN:Array (Option Ab)} {ocN kVN dcN pmN cdN ctN:Ab} {fSo:Ac} {odSo anSo:Option Ac} {slSo:Array (Option Ab)} {ocSo kVSo dcSo pmSo cdSo ctSo:Ab} {fD:Ac} {odD anD:Option Ac} {slD:Array (Option Ab)} {ocD kVD dcD pmD cdD ctD:Ab} {fNu:Ac} {odNu anNu:Option Ac} {slNu:Array (Option Ab)} {ocNu kVNu dcNu pmNu cdNu ctNu:Ab} {fLO:Ac} {odLO anLO:Option Ac} {slLO:Array (Option Ab)} {ocLO kVLO dcLO pmLO cdLO ctLO:Ab} {fSm:Ac} {odSm anSm:Option Ac} {slSm:Array (Option Ab)} {ocSm kVSm dcSm pmSm cdSm ctSm:Ab} {fRo:Ac} {odRo anRo:Option Ac} {slRo:Array (Option Ab)} {ocRo kVRo dcRo pmRo cdRo ctRo:Ab} {fR:Ac} {odR anR:Option Ac} {slR:Array (Option Ab)} {ocR kVR dcR pmR cdR ctR:Ab} {fTu:Ac} {odTu anTu:Option Ac} {slTu:Array (Option Ab)} {ocTu kVTu dcTu pmTu cdTu ctTu:Ab} {fLi:Ac} {odLi anLi:Option Ac} {slLi:Array (Option Ab)} {ocLi kVLi dcLi pmLi cdLi ctLi:Ab} {fK:Ac} {odK anK:Option Ac} {slK:Array (Option Ab)} {ocK kVK dcK pmK cdK ctK:Ab} {fCs:Ac} {odCs anCs:Option Ac} {slCs:Array (Option Ab)} {ocCs kVCs dcCs pmCs cdCs ctCs:Ab} {fTo:Ac} {odTo anTo:Option Ac} {slTo:Array (Option Ab)} {ocTo kVTo dcTo pmTo cdTo ctTo:Ab} {fTw:Ac} {odTw anTw:Option Ac} {slTw:Array (Option Ab)} {ocTw kVTw dcTw pmTw cdTw ctTw:Ab} {fPI:Ac} {odPI anPI:Option Ac} {slPI:Array (Option Ab)} {ocPI kVPI dcPI pmPI cdPI ctPI:Ab} {fWR:Ac} {odWR anWR:Option Ac} {slWR:Array (Option Ab)} {ocWR kVWR dcWR pmWR ctWR:Ab} {fOR:Ac} {odOR anOR:Option Ac} {slOR:Array (Option Ab)} {ocOR kVOR dcOR pmOR cdOR ctOR:Ab} {fNC:Ac} {odNC anNC:Option Ac} {slNC:Array (Option Ab)} {ocNC kVNC dcNC pmNC ctNC:Ab} {fL:Ac} {odL anL:Option Ac} {slL:Array (Option Ab)} {ocL kVL dcL pmL cdL ctL:Ab}
  {t_LONGEST:Tok}
  {t_LAST_DAY:Tok}
  {t_FEWEST_LANDS:Tok}
  {t_MOST_LANDS:Tok}
  {t_MOST_PART_ACRES:Tok}
  {t_MOST_INCHES:Tok}
  {t_MOST_PENCE:Tok}
  {t_MOST_SPADES:Tok}
  {t_ROW_DEPTH:Tok}
  {t_MOST_ROWS:Tok}
  {t_FORMS:Ac} {eF:Nat} {xk0 xk1 xk2 xk3 xk4 xk5 xk6 xk7:Tok}
  {t_RANKS:Ac} {eR:Nat} {xr0 xr1 xr2 xr3 xr4 xr5 xr6 xr7 yr0 yr1 yr2 yr3 yr4 yr5 yr6 yr7:Tok}
  {T1 T2 qWR qNC:Ac} {cNoRow cNoRoll cNoName cTwice cTooMany cNoThen cNoMend cClash cNoBreach cNoField cNoInch cNoOrder cNoText cDykeError:Ac}
  (aNoRow:Am K mainGlobals "NoRow"=some (some (.ref cNoRow)))
  (aNoRoll:Am K mainGlobals "NoRoll"=some (some (.ref cNoRoll)))
  (aNoName:Am K mainGlobals "NoName"=some (some (.ref cNoName)))
  (aTwice:Am K mainGlobals "Twice"=some (some (.ref cTwice)))
  (aTooMany:Am K mainGlobals "TooMany"=some (some (.ref cTooMany)))
  (aNoThen:Am K mainGlobals "NoThen"=some (some (.ref cNoThen)))
  (aNoMend:Am K mainGlobals "NoMend"=some (some (.ref cNoMend)))
  (aClash:Am K mainGlobals "Clash"=some (some (.ref cClash)))
  (aNoBreach:Am K mainGlobals "NoBreach"=some (some (.ref cNoBreach)))
  (aNoField:Am K mainGlobals "NoField"=some (some (.ref cNoField)))
  (aNoInch:Am K mainGlobals "NoInch"=some (some (.ref cNoInch)))
  (aNoOrder:Am K mainGlobals "NoOrder"=some (some (.ref cNoOrder)))
  (aNoText:Am K mainGlobals "NoText"=some (some (.ref cNoText)))
  (aDykeError:Am K mainGlobals "DykeError"=some (some (.ref cDykeError)))
  (zxNoRow:Ed K cNoRow [.type "ValueError",.type "Exception",.type "BaseException",.type "object"] "ValueError.__new__"=true) (zeNoRow:Cm K (.ref cNoRow) (.ref cDykeError)=some true) (zfNoRow:wZ K cNoRow [cNoRow,cNoRoll,cNoName,cTwice,cTooMany,cNoThen,cNoMend] [true,false,false,false,false,false,false] [cClash,cNoBreach,cNoField,cNoInch,cNoOrder,cNoText]=true)
  (zxNoName:Ed K cNoName [.type "ValueError",.type "Exception",.type "BaseException",.type "object"] "ValueError.__new__"=true) (zeNoName:Cm K (.ref cNoName) (.ref cDykeError)=some true) (zfNoName:wZ K cNoName [cNoRow,cNoRoll,cNoName,cTwice,cTooMany,cNoThen,cNoMend] [false,false,true,false,false,false,false] [cClash,cNoBreach,cNoField,cNoInch,cNoOrder,cNoText]=true)
  (zxTwice:Ed K cTwice [.type "ValueError",.type "Exception",.type "BaseException",.type "object"] "ValueError.__new__"=true) (zeTwice:Cm K (.ref cTwice) (.ref cDykeError)=some true) (zfTwice:wZ K cTwice [cNoRow,cNoRoll,cNoName,cTwice,cTooMany,cNoThen,cNoMend] [false,false,false,true,false,false,false] [cClash,cNoBreach,cNoField,cNoInch,cNoOrder,cNoText]=true)
  (zxTooMany:Ed K cTooMany [.type "ValueError",.type "Exception",.type "BaseException",.type "object"] "ValueError.__new__"=true) (zeTooMany:Cm K (.ref cTooMany) (.ref cDykeError)=some true) (zfTooMany:wZ K cTooMany [cNoRow,cNoRoll,cNoName,cTwice,cTooMany,cNoThen,cNoMend] [false,false,false,false,true,false,false] [cClash,cNoBreach,cNoField,cNoInch,cNoOrder,cNoText]=true)
  (h12:T1≠T2)
  (aIN:Am K mainGlobals "is_name"=some (some (.ref fIN))) (lIN:K.lookup fIN=some ⟨ocIN,odIN,.func (Az "is_name" "is_name" (bZ mQ) (bS mQ) (aO mQ) .none kVIN dcIN pmIN anIN cdIN ctIN),slIN⟩) (cIN:Au K cdIN "is_name"=true) (kIN:Aj K (.ref fIN)=true)
  (aNB:Am K mainGlobals "is_number"=some (some (.ref fNB))) (lNB:K.lookup fNB=some ⟨ocNB,odNB,.func (Az "is_number" "is_number" (bZ jK) (bS jK) (aO jK) .none kVNB dcNB pmNB anNB cdNB ctNB),slNB⟩) (cNB:Au K cdNB "is_number"=true) (kNB:Aj K (.ref fNB)=true)
  (aIW:Am K mainGlobals "is_whole"=some (some (.ref fIW))) (lIW:K.lookup fIW=some ⟨ocIW,odIW,.func (Az "is_whole" "is_whole" (bZ lU) (bS lU) (aO lU) .none kVIW dcIW pmIW anIW cdIW ctIW),slIW⟩) (cIW:Au K cdIW "is_whole"=true) (kIW:Aj K (.ref fIW)=true)
  (aRI:Am K mainGlobals "is_rising"=some (some (.ref fRI))) (lRI:K.lookup fRI=some ⟨ocRI,odRI,.func (Az "is_rising" "is_rising" (bZ mS) (bS mS) (aO mS) .none kVRI dcRI pmRI anRI cdRI ctRI),slRI⟩) (cRI:Au K cdRI "is_rising"=true) (kRI:Aj K (.ref fRI)=true)
  (aPT:Am K mainGlobals "is_part"=some (some (.ref fPT))) (lPT:K.lookup fPT=some ⟨ocPT,odPT,.func (Az "is_part" "is_part" (bZ oA) (bS oA) (aO oA) .none kVPT dcPT pmPT anPT cdPT ctPT),slPT⟩) (cPT:Au K cdPT "is_part"=true) (kPT:Aj K (.ref fPT)=true)
  (aAP:Am K mainGlobals "all_parts"=some (some (.ref fAP))) (lAP:K.lookup fAP=some ⟨ocAP,odAP,.func (Az "all_parts" "all_parts" (bZ iK) (bS iK) (aO iK) .none kVAP dcAP pmAP anAP cdAP ctAP),slAP⟩) (cAP:Au K cdAP "all_parts"=true) (kAP:Aj K (.ref fAP)=true)
  (aAN:Am K mainGlobals "all_names"=some (some (.ref fAN))) (lAN:K.lookup fAN=some ⟨ocAN,odAN,.func (Az "all_names" "all_names" (bZ iL) (bS iL) (aO iL) .none kVAN dcAN pmAN anAN cdAN ctAN),slAN⟩) (cAN:Au K cdAN "all_names"=true) (kAN:Aj K (.ref fAN)=true)
  (aRP:Am K mainGlobals "are_parts"=some (some (.ref fRP))) (lRP:K.lookup fRP=some ⟨ocRP,odRP,.func (Az "are_parts" "are_parts" (bZ iM) (bS iM) (aO iM) .none kVRP dcRP pmRP anRP cdRP ctRP),slRP⟩) (cRP:Au K cdRP "are_parts"=true) (kRP:Aj K (.ref fRP)=true)
  (aRL:Am K mainGlobals "are_lands"=some (some (.ref fRL))) (lRL:K.lookup fRL=some ⟨ocRL,odRL,.func (Az "are_lands" "are_lands" (bZ jL) (bS jL) (aO jL) .none kVRL dcRL pmRL anRL cdRL ctRL),slRL⟩) (cRL:Au K cdRL "are_lands"=true) (kRL:Aj K (.ref fRL)=true)
  (aIC:Am K mainGlobals "is_inch"=some (some (.ref fIC))) (lIC:K.lookup fIC=some ⟨ocIC,odIC,.func (Az "is_inch" "is_inch" (bZ oB) (bS oB) (aO oB) .none kVIC dcIC pmIC anIC cdIC ctIC),slIC⟩) (cIC:Au K cdIC "is_inch"=true) (kIC:Aj K (.ref fIC)=true)
  (aF0:Am K mainGlobals "fits_part"=some (some (.ref fF0))) (lF0:K.lookup fF0=some ⟨ocF0,odF0,.func (Az "fits_part" "fits_part" (bZ qS) (bS qS) (aO qS) .none kVF0 dcF0 pmF0 anF0 cdF0 ctF0),slF0⟩) (cF0:Au K cdF0 "fits_part"=true) (kF0:Aj K (.ref fF0)=true)
  (aF1:Am K mainGlobals "fits_join"=some (some (.ref fF1))) (lF1:K.lookup fF1=some ⟨ocF1,odF1,.func (Az "fits_join" "fits_join" (bZ qT) (bS qT) (aO qT) .none kVF1 dcF1 pmF1 anF1 cdF1 ctF1),slF1⟩) (cF1:Au K cdF1 "fits_join"=true) (kF1:Aj K (.ref fF1)=true)
  (aF2:Am K mainGlobals "fits_forfeit"=some (some (.ref fF2))) (lF2:K.lookup fF2=some ⟨ocF2,odF2,.func (Az "fits_forfeit" "fits_forfeit" (bZ jM) (bS jM) (aO jM) .none kVF2 dcF2 pmF2 anF2 cdF2 ctF2),slF2⟩) (cF2:Au K cdF2 "fits_forfeit"=true) (kF2:Aj K (.ref fF2)=true)
  (aF3:Am K mainGlobals "fits_measure"=some (some (.ref fF3))) (lF3:K.lookup fF3=some ⟨ocF3,odF3,.func (Az "fits_measure" "fits_measure" (bZ jN) (bS jN) (aO jN) .none kVF3 dcF3 pmF3 anF3 cdF3 ctF3),slF3⟩) (cF3:Au K cdF3 "fits_measure"=true) (kF3:Aj K (.ref fF3)=true)
  (aF4:Am K mainGlobals "fits_mend"=some (some (.ref fF4))) (lF4:K.lookup fF4=some ⟨ocF4,odF4,.func (Az "fits_mend" "fits_mend" (bZ qU) (bS qU) (aO qU) .none kVF4 dcF4 pmF4 anF4 cdF4 ctF4),slF4⟩) (cF4:Au K cdF4 "fits_mend"=true) (kF4:Aj K (.ref fF4)=true)
  (aF5:Am K mainGlobals "fits_alone"=some (some (.ref fF5))) (lF5:K.lookup fF5=some ⟨ocF5,odF5,.func (Az "fits_alone" "fits_alone" (bZ oC) (bS oC) (aO oC) .none kVF5 dcF5 pmF5 anF5 cdF5 ctF5),slF5⟩) (cF5:Au K cdF5 "fits_alone"=true) (kF5:Aj K (.ref fF5)=true)
  (aF6:Am K mainGlobals "fits_breach"=some (some (.ref fF6))) (lF6:K.lookup fF6=some ⟨ocF6,odF6,.func (Az "fits_breach" "fits_breach" (bZ lV) (bS lV) (aO lV) .none kVF6 dcF6 pmF6 anF6 cdF6 ctF6),slF6⟩) (cF6:Au K cdF6 "fits_breach"=true) (kF6:Aj K (.ref fF6)=true)
  (aF7:Am K mainGlobals "fits_view"=some (some (.ref fF7))) (lF7:K.lookup fF7=some ⟨ocF7,odF7,.func (Az "fits_view" "fits_view" (bZ qV) (bS qV) (aO qV) .none kVF7 dcF7 pmF7 anF7 cdF7 ctF7),slF7⟩) (cF7:Au K cdF7 "fits_view"=true) (kF7:Aj K (.ref fF7)=true)
  (aIR:Am K mainGlobals "is_row"=some (some (.ref fIR))) (lIR:K.lookup fIR=some ⟨ocIR,odIR,.func (Az "is_row" "is_row" (bZ qW) (bS qW) (aO qW) .none kVIR dcIR pmIR anIR cdIR ctIR),slIR⟩) (cIR:Au K cdIR "is_row"=true) (kIR:Aj K (.ref fIR)=true)
  (aAT:Am K mainGlobals "as_tuples"=some (some (.ref fAT))) (lAT:K.lookup fAT=some ⟨ocAT,odAT,.func (Az "as_tuples" "as_tuples" (bZ jR) (bS jR) (aO jR) .none kVAT dcAT pmAT anAT cdAT ctAT),slAT⟩) (cAT:Au K cdAT "as_tuples"=true) (kAT:Aj K (.ref fAT)=true)
  (aIO:Am K mainGlobals "in_order"=some (some (.ref fIO))) (lIO:K.lookup fIO=some ⟨ocIO,odIO,.func (Az "in_order" "in_order" (bZ lW) (bS lW) (aO lW) .none kVIO dcIO pmIO anIO cdIO ctIO),slIO⟩) (cIO:Au K cdIO "in_order"=true) (kIO:Aj K (.ref fIO)=true)
  (aRO:Am K mainGlobals "row_of"=some (some (.ref fRO))) (lRO:K.lookup fRO=some ⟨ocRO,odRO,.func (Az "row_of" "row_of" (bZ oD) (bS oD) (aO oD) .none kVRO dcRO pmRO anRO cdRO ctRO),slRO⟩) (cRO:Au K cdRO "row_of"=true) (kRO:Aj K (.ref fRO)=true)
  (aFO:Am K mainGlobals "field_of"=some (some (.ref fFO))) (lFO:K.lookup fFO=some ⟨ocFO,odFO,.func (Az "field_of" "field_of" (bZ lX) (bS lX) (aO lX) .none kVFO dcFO pmFO anFO cdFO ctFO),slFO⟩) (cFO:Au K cdFO "field_of"=true) (kFO:Aj K (.ref fFO)=true)
  (aOr:Am K mainGlobals "order"=some (some (.ref fOr))) (lOr:K.lookup fOr=some ⟨ocOr,odOr,.func (Az "order" "order" (bZ qX) (bS qX) (aO qX) .none kVOr dcOr pmOr anOr cdOr ctOr),slOr⟩) (cOr:Au K cdOr "order"=true) (kOr:Aj K (.ref fOr)=true)
  (aRF:Am K mainGlobals "row_for"=some (some (.ref fRF))) (lRF:K.lookup fRF=some ⟨ocRF,odRF,.func (Az "row_for" "row_for" (bZ mU) (bS mU) (aO mU) .none kVRF dcRF pmRF anRF cdRF ctRF),slRF⟩) (cRF:Au K cdRF "row_for"=true) (kRF:Aj K (.ref fRF)=true)
  (aRC:Am K mainGlobals "row_called"=some (some (.ref fRC))) (lRC:K.lookup fRC=some ⟨ocRC,odRC,.func (Az "row_called" "row_called" (bZ iN) (bS iN) (aO iN) .none kVRC dcRC pmRC anRC cdRC ctRC),slRC⟩) (cRC:Au K cdRC "row_called"=true) (kRC:Aj K (.ref fRC)=true)
  (aWi:Am K mainGlobals "with_row"=some (some (.ref fWi))) (lWi:K.lookup fWi=some ⟨ocWi,odWi,.func (Az "with_row" "with_row" (bZ vW) (bS vW) (aO vW) .none kVWi dcWi pmWi anWi cdWi ctWi),slWi⟩) (cWi:Au K cdWi "with_row"=true) (kWi:Aj K (.ref fWi)=true)
  (aWo:Am K mainGlobals "without_row"=some (some (.ref fWo))) (lWo:K.lookup fWo=some ⟨ocWo,odWo,.func (Az "without_row" "without_row" (bZ jS) (bS jS) (aO jS) .none kVWo dcWo pmWo anWo cdWo ctWo),slWo⟩) (cWo:Au K cdWo "without_row"=true) (kWo:Aj K (.ref fWo)=true)
  (aP:Am K mainGlobals "_law_pen"=some (some (.ref fP))) (lP:K.lookup fP=some ⟨ocP,odP,.func (Az "_law_pen" "_law_pen" (bZ aEj) (bS aEj) (aO aEj) .none kVP dcP pmP anP cdP ctP),slP⟩) (cP:Au K cdP "_law_pen"=true) (kP:Aj K (.ref fP)=true)
  (aT:Am K mainGlobals "_law_take"=some (some (.ref fT))) (lT:K.lookup fT=some ⟨ocT,odT,.func (Az "_law_take" "_law_take" (bZ vT) (bS vT) (aO vT) .none kVT dcT pmT anT cdT ctT),slT⟩) (cT:Au K cdT "_law_take"=true) (kT:Aj K (.ref fT)=true)
  (aN:Am K mainGlobals "_law_names"=some (some (.ref fN))) (lN:K.lookup fN=some ⟨ocN,odN,.func (Az "_law_names" "_law_names" (bZ pA) (bS pA) (aO pA) .none kVN dcN pmN anN cdN ctN),slN⟩) (cN:Au K cdN "_law_names"=true) (kN:Aj K (.ref fN)=true)
  (aSo:Am K mainGlobals "_law_sorts"=some (some (.ref fSo))) (lSo:K.lookup fSo=some ⟨ocSo,odSo,.func (Az "_law_sorts" "_law_sorts" (bZ qY) (bS qY) (aO qY) .none kVSo dcSo pmSo anSo cdSo ctSo),slSo⟩) (cSo:Au K cdSo "_law_sorts"=true) (kSo:Aj K (.ref fSo)=true)
  (aD:Am K mainGlobals "_law_days"=some (some (.ref fD))) (lD:K.lookup fD=some ⟨ocD,odD,.func (Az "_law_days" "_law_days" (bZ vU) (bS vU) (aO vU) .none kVD dcD pmD anD cdD ctD),slD⟩) (cD:Au K cdD "_law_days"=true) (kD:Aj K (.ref fD)=true)
  (aNu:Am K mainGlobals "_law_number"=some (some (.ref fNu))) (lNu:K.lookup fNu=some ⟨ocNu,odNu,.func (Az "_law_number" "_law_number" (bZ oE) (bS oE) (aO oE) .none kVNu dcNu pmNu anNu cdNu ctNu),slNu⟩) (cNu:Au K cdNu "_law_number"=true) (kNu:Aj K (.ref fNu)=true)
  (aLO:Am K mainGlobals "_law_laying"=some (some (.ref fLO))) (lLO:K.lookup fLO=some ⟨ocLO,odLO,.func (Az "_law_laying" "_law_laying" (bZ qZ) (bS qZ) (aO qZ) .none kVLO dcLO pmLO anLO cdLO ctLO),slLO⟩) (cLO:Au K cdLO "_law_laying"=true) (kLO:Aj K (.ref fLO)=true)
  (aSm:Am K mainGlobals "_law_some"=some (some (.ref fSm))) (lSm:K.lookup fSm=some ⟨ocSm,odSm,.func (Az "_law_some" "_law_some" (bZ vV) (bS vV) (aO vV) .none kVSm dcSm pmSm anSm cdSm ctSm),slSm⟩) (cSm:Au K cdSm "_law_some"=true) (kSm:Aj K (.ref fSm)=true)
  (aRo:Am K mainGlobals "_law_row_of"=some (some (.ref fRo))) (lRo:K.lookup fRo=some ⟨ocRo,odRo,.func (Az "_law_row_of" "_law_row_of" (bZ pB) (bS pB) (aO pB) .none kVRo dcRo pmRo anRo cdRo ctRo),slRo⟩) (cRo:Au K cdRo "_law_row_of"=true) (kRo:Aj K (.ref fRo)=true)
  (aR:Am K mainGlobals "_law_row"=some (some (.ref fR))) (lR:K.lookup fR=some ⟨ocR,odR,.func (Az "_law_row" "_law_row" (bZ aEk) (bS aEk) (aO aEk) .none kVR dcR pmR anR cdR ctR),slR⟩) (cR:Au K cdR "_law_row"=true) (kR:Aj K (.ref fR)=true)
  (aTu:Am K mainGlobals "_law_turned"=some (some (.ref fTu))) (lTu:K.lookup fTu=some ⟨ocTu,odTu,.func (Az "_law_turned" "_law_turned" (bZ mV) (bS mV) (aO mV) .none kVTu dcTu pmTu anTu cdTu ctTu),slTu⟩) (cTu:Au K cdTu "_law_turned"=true) (kTu:Aj K (.ref fTu)=true)
  (aLi:Am K mainGlobals "_law_listed"=some (some (.ref fLi))) (lLi:K.lookup fLi=some ⟨ocLi,odLi,.func (Az "_law_listed" "_law_listed" (bZ mX) (bS mX) (aO mX) .none kVLi dcLi pmLi anLi cdLi ctLi),slLi⟩) (cLi:Au K cdLi "_law_listed"=true) (kLi:Aj K (.ref fLi)=true)
  (aK:Am K mainGlobals "_law_place"=some (some (.ref fK))) (lK:K.lookup fK=some ⟨ocK,odK,.func (Az "_law_place" "_law_place" (bZ rA) (bS rA) (aO rA) .none kVK dcK pmK anK cdK ctK),slK⟩) (cK:Au K cdK "_law_place"=true) (kK:Aj K (.ref fK)=true)
  (aCs:Am K mainGlobals "_law_class"=some (some (.ref fCs))) (lCs:K.lookup fCs=some ⟨ocCs,odCs,.func (Az "_law_class" "_law_class" (bZ rB) (bS rB) (aO rB) .none kVCs dcCs pmCs anCs cdCs ctCs),slCs⟩) (cCs:Au K cdCs "_law_class"=true) (kCs:Aj K (.ref fCs)=true)
  (aTo:Am K mainGlobals "_law_told"=some (some (.ref fTo))) (lTo:K.lookup fTo=some ⟨ocTo,odTo,.func (Az "_law_told" "_law_told" (bZ yC) (bS yC) (aO yC) .none kVTo dcTo pmTo anTo cdTo ctTo),slTo⟩) (cTo:Au K cdTo "_law_told"=true) (kTo:Aj K (.ref fTo)=true)
  (aTw:Am K mainGlobals "_law_twin"=some (some (.ref fTw))) (lTw:K.lookup fTw=some ⟨ocTw,odTw,.func (Az "_law_twin" "_law_twin" (bZ yD) (bS yD) (aO yD) .none kVTw dcTw pmTw anTw cdTw ctTw),slTw⟩) (cTw:Au K cdTw "_law_twin"=true) (kTw:Aj K (.ref fTw)=true)
  (aPI:Am K mainGlobals "_law_put_in"=some (some (.ref fPI))) (lPI:K.lookup fPI=some ⟨ocPI,odPI,.func (Az "_law_put_in" "_law_put_in" (bZ pC) (bS pC) (aO pC) .none kVPI dcPI pmPI anPI cdPI ctPI),slPI⟩) (cPI:Au K cdPI "_law_put_in"=true) (kPI:Aj K (.ref fPI)=true)
  (aWR:Am K mainGlobals "_law_with_right"=some (some (.ref fWR))) (lWR:K.lookup fWR=some ⟨ocWR,odWR,.func (Az "_law_with_right" "_law_with_right" (bZ rC) (bS rC) (aO rC) .none kVWR dcWR pmWR anWR (.ref qWR) ctWR),slWR⟩) (cWR:Au K (.ref qWR) "_law_with_right"=true) (kWR:Aj K (.ref fWR)=true)
  (aOR:Am K mainGlobals "_law_without_right"=some (some (.ref fOR))) (lOR:K.lookup fOR=some ⟨ocOR,odOR,.func (Az "_law_without_right" "_law_without_right" (bZ iO) (bS iO) (aO iO) .none kVOR dcOR pmOR anOR cdOR ctOR),slOR⟩) (cOR:Au K cdOR "_law_without_right"=true) (kOR:Aj K (.ref fOR)=true)
  (aNC:Am K mainGlobals "_law_not_called"=some (some (.ref fNC))) (lNC:K.lookup fNC=some ⟨ocNC,odNC,.func (Az "_law_not_called" "_law_not_called" (bZ iP) (bS iP) (aO iP) .none kVNC dcNC pmNC anNC (.ref qNC) ctNC),slNC⟩) (cNC:Au K (.ref qNC) "_law_not_called"=true) (kNC:Aj K (.ref fNC)=true)
  (aL:Am K mainGlobals "law"=some (some (.ref fL))) (lL:K.lookup fL=some ⟨ocL,odL,.func (Az "law" "law" (bZ sU) (bS sU) (aO sU) .none kVL dcL pmL anL cdL ctL),slL⟩) (cL:Au K cdL "law"=true) (kL:Aj K (.ref fL)=true)
  (z_isinstance:Am K mainGlobals "isinstance"=some none)
  (z_str:Am K mainGlobals "str"=some none)
  (z_len:Am K mainGlobals "len"=some none)
  (z_all:Am K mainGlobals "all"=some none)
  (z_int:Am K mainGlobals "int"=some none)
  (z_bool:Am K mainGlobals "bool"=some none)
  (z_tuple:Am K mainGlobals "tuple"=some none)
  (z_set:Am K mainGlobals "set"=some none)
  (z_list:Am K mainGlobals "list"=some none)
  (z_sorted:Am K mainGlobals "sorted"=some none)
  (z_abs:Am K mainGlobals "abs"=some none)
  (z_range:Am K mainGlobals "range"=some none)
  (z_min:Am K mainGlobals "min"=some none)
  (z_repr:Am K mainGlobals "repr"=some none)
  (z_ValueError:Am K mainGlobals "ValueError"=some none)
  (q_LONGEST:Am K mainGlobals "LONGEST"=some (some (.int 8 t_LONGEST)))
  (q_LAST_DAY:Am K mainGlobals "LAST_DAY"=some (some (.int 9999 t_LAST_DAY)))
  (q_FEWEST_LANDS:Am K mainGlobals "FEWEST_LANDS"=some (some (.int 2 t_FEWEST_LANDS)))
  (q_MOST_LANDS:Am K mainGlobals "MOST_LANDS"=some (some (.int 6 t_MOST_LANDS)))
  (q_MOST_PART_ACRES:Am K mainGlobals "MOST_PART_ACRES"=some (some (.int 10000000 t_MOST_PART_ACRES)))
  (q_MOST_INCHES:Am K mainGlobals "MOST_INCHES"=some (some (.int 10000000 t_MOST_INCHES)))
  (q_MOST_PENCE:Am K mainGlobals "MOST_PENCE"=some (some (.int 1000000000 t_MOST_PENCE)))
  (q_MOST_SPADES:Am K mainGlobals "MOST_SPADES"=some (some (.int 1000000 t_MOST_SPADES)))
  (q_ROW_DEPTH:Am K mainGlobals "ROW_DEPTH"=some (some (.int 3 t_ROW_DEPTH)))
  (q_MOST_ROWS:Am K mainGlobals "MOST_ROWS"=some (some (.int 40 t_MOST_ROWS)))
  (q_FORMS:Am K mainGlobals "FORMS"=some (some (.ref t_FORMS)))
  (lFm:K.lookup t_FORMS=some { cls:=.type "dict",data:=.dict #[⟨AQ w.params "part",.str "part" xk0,.ref fF0⟩,⟨AQ w.params "join",.str "join" xk1,.ref fF1⟩,⟨AQ w.params "forfeit",.str "forfeit" xk2,.ref fF2⟩,⟨AQ w.params "measure",.str "measure" xk3,.ref fF3⟩,⟨AQ w.params "mend",.str "mend" xk4,.ref fF4⟩,⟨AQ w.params "alone",.str "alone" xk5,.ref fF5⟩,⟨AQ w.params "breach",.str "breach" xk6,.ref fF6⟩,⟨AQ w.params "view",.str "view" xk7,.ref fF7⟩] eF }) (hzF:(t_FORMS == sysModules)=false)
  (q_RANKS:Am K mainGlobals "RANKS"=some (some (.ref t_RANKS)))
  (lRk:K.lookup t_RANKS=some { cls:=.type "dict",data:=.dict #[⟨AQ w.params "measure",.str "measure" xr0,.int 0 yr0⟩,⟨AQ w.params "part",.str "part" xr1,.int 1 yr1⟩,⟨AQ w.params "join",.str "join" xr2,.int 1 yr2⟩,⟨AQ w.params "forfeit",.str "forfeit" xr3,.int 1 yr3⟩,⟨AQ w.params "mend",.str "mend" xr4,.int 2 yr4⟩,⟨AQ w.params "alone",.str "alone" xr5,.int 2 yr5⟩,⟨AQ w.params "breach",.str "breach" xr6,.int 3 yr6⟩,⟨AQ w.params "view",.str "view" xr7,.int 3 yr7⟩] eR }) (hcA:C5 K qWR T1=true) (hcB:C5 K qNC T2=true)
  :∃ fd:AE,(∀(s:Ad) (v:Ab),FM s fd ⟨[v],[]⟩ [("_law_script",v)])∧∀ base:A4,K.In base→base.Ns mainGlobals mg→vK mg base→cH l.prog w K mg base CX0 14 fa fd ["_law_script"] (aDM K T1 T2):=by
 have e:=hfa.symm.trans (An X G aL);cases e;have FIN:=cS (st:=mQ) lIN cIN kIN;have mIN:=An X G aIN;have bIN:=FIN.binds (ps:=["thing"]) fun _ _ _ _ _ _ us hl=>by obtain⟨_,rfl⟩:=iF hl;rfl
 have FNB:=cS (st:=jK) lNB cNB kNB;have mNB:=An X G aNB;have bNB:=FNB.binds (ps:=["thing"]) fun _ _ _ _ _ _ us hl=>by obtain⟨_,rfl⟩:=iF hl;rfl
 have FIW:=cS (st:=lU) lIW cIW kIW;have mIW:=An X G aIW;have bIW:=FIW.binds (ps:=["thing","least","most"]) fun _ _ _ _ _ _ us hl=>by obtain⟨_,_,_,rfl⟩:=aEL hl;rfl
 have FRI:=cS (st:=mS) lRI cRI kRI;have mRI:=An X G aRI;have bRI:=FRI.binds (ps:=["things"]) fun _ _ _ _ _ _ us hl=>by obtain⟨_,rfl⟩:=iF hl;rfl
 have FPT:=cS (st:=oA) lPT cPT kPT;have mPT:=An X G aPT;have bPT:=FPT.binds (ps:=["thing"]) fun _ _ _ _ _ _ us hl=>by obtain⟨_,rfl⟩:=iF hl;rfl
 have FAP:=cS (st:=iK) lAP cAP kAP;have mAP:=An X G aAP;have bAP:=FAP.binds (ps:=["thing"]) fun _ _ _ _ _ _ us hl=>by obtain⟨_,rfl⟩:=iF hl;rfl
 have FAN:=cS (st:=iL) lAN cAN kAN;have mAN:=An X G aAN;have bAN:=FAN.binds (ps:=["thing"]) fun _ _ _ _ _ _ us hl=>by obtain⟨_,rfl⟩:=iF hl;rfl
 have FRP:=cS (st:=iM) lRP cRP kRP;have mRP:=An X G aRP;have bRP:=FRP.binds (ps:=["thing"]) fun _ _ _ _ _ _ us hl=>by obtain⟨_,rfl⟩:=iF hl;rfl
 have FRL:=cS (st:=jL) lRL cRL kRL;have mRL:=An X G aRL;have bRL:=FRL.binds (ps:=["thing"]) fun _ _ _ _ _ _ us hl=>by obtain⟨_,rfl⟩:=iF hl;rfl
 have FIC:=cS (st:=oB) lIC cIC kIC;have mIC:=An X G aIC;have bIC:=FIC.binds (ps:=["thing"]) fun _ _ _ _ _ _ us hl=>by obtain⟨_,rfl⟩:=iF hl;rfl
 have FF0:=cS (st:=qS) lF0 cF0 kF0;have mF0:=An X G aF0;have bF0:=FF0.binds (ps:=["rest"]) fun _ _ _ _ _ _ us hl=>by obtain⟨_,rfl⟩:=iF hl;rfl
 have FF1:=cS (st:=qT) lF1 cF1 kF1;have mF1:=An X G aF1;have bF1:=FF1.binds (ps:=["rest"]) fun _ _ _ _ _ _ us hl=>by obtain⟨_,rfl⟩:=iF hl;rfl
 have FF2:=cS (st:=jM) lF2 cF2 kF2;have mF2:=An X G aF2;have bF2:=FF2.binds (ps:=["rest"]) fun _ _ _ _ _ _ us hl=>by obtain⟨_,rfl⟩:=iF hl;rfl
 have FF3:=cS (st:=jN) lF3 cF3 kF3;have mF3:=An X G aF3;have bF3:=FF3.binds (ps:=["rest"]) fun _ _ _ _ _ _ us hl=>by obtain⟨_,rfl⟩:=iF hl;rfl
 have FF4:=cS (st:=qU) lF4 cF4 kF4;have mF4:=An X G aF4;have bF4:=FF4.binds (ps:=["rest"]) fun _ _ _ _ _ _ us hl=>by obtain⟨_,rfl⟩:=iF hl;rfl
 have FF5:=cS (st:=oC) lF5 cF5 kF5;have mF5:=An X G aF5;have bF5:=FF5.binds (ps:=["rest"]) fun _ _ _ _ _ _ us hl=>by obtain⟨_,rfl⟩:=iF hl;rfl
 have FF6:=cS (st:=lV) lF6 cF6 kF6;have mF6:=An X G aF6;have bF6:=FF6.binds (ps:=["rest"]) fun _ _ _ _ _ _ us hl=>by obtain⟨_,rfl⟩:=iF hl;rfl
 have FF7:=cS (st:=qV) lF7 cF7 kF7;have mF7:=An X G aF7;have bF7:=FF7.binds (ps:=["rest"]) fun _ _ _ _ _ _ us hl=>by obtain⟨_,rfl⟩:=iF hl;rfl
 have FIR:=cS (st:=qW) lIR cIR kIR;have mIR:=An X G aIR;have bIR:=FIR.binds (ps:=["thing"]) fun _ _ _ _ _ _ us hl=>by obtain⟨_,rfl⟩:=iF hl;rfl
 have FAT:=cS (st:=jR) lAT cAT kAT;have mAT:=An X G aAT;have bAT:=FAT.binds (ps:=["thing","deep"]) fun _ _ _ _ _ _ us hl=>by obtain⟨_,_,rfl⟩:=qH hl;rfl
 have FIO:=cS (st:=lW) lIO cIO kIO;have mIO:=An X G aIO;have bIO:=FIO.binds (ps:=["thing"]) fun _ _ _ _ _ _ us hl=>by obtain⟨_,rfl⟩:=iF hl;rfl
 have FRO:=cS (st:=oD) lRO cRO kRO;have mRO:=An X G aRO;have bRO:=FRO.binds (ps:=["thing"]) fun _ _ _ _ _ _ us hl=>by obtain⟨_,rfl⟩:=iF hl;rfl
 have FFO:=cS (st:=lX) lFO cFO kFO;have mFO:=An X G aFO;have bFO:=FFO.binds (ps:=["row"]) fun _ _ _ _ _ _ us hl=>by obtain⟨_,rfl⟩:=iF hl;rfl
 have FOr:=cS (st:=qX) lOr cOr kOr;have mOr:=An X G aOr;have bOr:=FOr.binds (ps:=["row"]) fun _ _ _ _ _ _ us hl=>by obtain⟨_,rfl⟩:=iF hl;rfl
 have FRF:=cS (st:=mU) lRF cRF kRF;have mRF:=An X G aRF;have bRF:=FRF.binds (ps:=["laying","thing"]) fun _ _ _ _ _ _ us hl=>by obtain⟨_,_,rfl⟩:=qH hl;rfl
 have FRC:=cS (st:=iN) lRC cRC kRC;have mRC:=An X G aRC;have bRC:=FRC.binds (ps:=["roll","name"]) fun _ _ _ _ _ _ us hl=>by obtain⟨_,_,rfl⟩:=qH hl;rfl
 have FWi:=cS (st:=vW) lWi cWi kWi;have mWi:=An X G aWi;have bWi:=FWi.binds (ps:=["roll","thing"]) fun _ _ _ _ _ _ us hl=>by obtain⟨_,_,rfl⟩:=qH hl;rfl
 have FWo:=cS (st:=jS) lWo cWo kWo;have mWo:=An X G aWo;have bWo:=FWo.binds (ps:=["roll","name"]) fun _ _ _ _ _ _ us hl=>by obtain⟨_,_,rfl⟩:=qH hl;rfl
 have FP:=cS (st:=aEj) lP cP kP;have mP:=An X G aP;have bP:=FP.binds (ps:=["_law_script"]) fun _ _ _ _ _ _ us hl=>by obtain⟨_,rfl⟩:=iF hl;rfl
 have FT:=cS (st:=vT) lT cT kT;have mT:=An X G aT;have bT:=FT.binds (ps:=["_law_pen_here","_law_many"]) fun _ _ _ _ _ _ us hl=>by obtain⟨_,_,rfl⟩:=qH hl;rfl
 have FN:=cS (st:=pA) lN cN kN;have mN:=An X G aN;have bN:=FN.binds (ps:=["_law_pen_here","_law_many"]) fun _ _ _ _ _ _ us hl=>by obtain⟨_,_,rfl⟩:=qH hl;rfl
 have FSo:=cS (st:=qY) lSo cSo kSo;have mSo:=An X G aSo;have bSo:=FSo.binds (ps:=["_law_pen_here","_law_fields","_law_rows"]) fun _ _ _ _ _ _ us hl=>by obtain⟨_,_,_,rfl⟩:=aEL hl;rfl
 have FD:=cS (st:=vU) lD cD kD;have mD:=An X G aD;have bD:=FD.binds (ps:=["_law_pen_here","_law_many"]) fun _ _ _ _ _ _ us hl=>by obtain⟨_,_,rfl⟩:=qH hl;rfl
 have FNu:=cS (st:=oE) lNu cNu kNu;have mNu:=An X G aNu;have bNu:=FNu.binds (ps:=["_law_pen_here","_law_bottom","_law_most"]) fun _ _ _ _ _ _ us hl=>by obtain⟨_,_,_,rfl⟩:=aEL hl;rfl
 have FLO:=cS (st:=qZ) lLO cLO kLO;have mLO:=An X G aLO;have bLO:=FLO.binds (ps:=["_law_pen_here","_law_fields","_law_houses"]) fun _ _ _ _ _ _ us hl=>by obtain⟨_,_,_,rfl⟩:=aEL hl;rfl
 have FSm:=cS (st:=vV) lSm cSm kSm;have mSm:=An X G aSm;have bSm:=FSm.binds (ps:=["_law_pen_here","_law_names_here","_law_many"]) fun _ _ _ _ _ _ us hl=>by obtain⟨_,_,_,rfl⟩:=aEL hl;rfl
 have FRo:=cS (st:=pB) lRo cRo kRo;have mRo:=An X G aRo;have bRo:=FRo.binds (ps:=["_law_pen_here","_law_word","_law_name","_law_day","_law_sorts_here"]) fun _ _ _ _ _ _ us hl=>by obtain⟨_,_,_,_,_,rfl⟩:=aKP hl;rfl
 have FR:=cS (st:=aEk) lR cR kR;have mR:=An X G aR;have bR:=FR.binds (ps:=["_law_pen_here","_law_name","_law_day","_law_sorts_here"]) fun _ _ _ _ _ _ us hl=>by obtain⟨_,_,_,_,rfl⟩:=aII hl;rfl
 have FTu:=cS (st:=mV) lTu cTu kTu;have mTu:=An X G aTu;have bTu:=FTu.binds (ps:=["_law_pen_here","_law_some_here"]) fun _ _ _ _ _ _ us hl=>by obtain⟨_,_,rfl⟩:=qH hl;rfl
 have FLi:=cS (st:=mX) lLi cLi kLi;have mLi:=An X G aLi;have bLi:=FLi.binds (ps:=["_law_pen_here","_law_row_here"]) fun _ _ _ _ _ _ us hl=>by obtain⟨_,_,rfl⟩:=qH hl;rfl
 have FK:=cS (st:=rA) lK cK kK;have mK:=An X G aK;have bK:=FK.binds (ps:=["_law_row_here"]) fun _ _ _ _ _ _ us hl=>by obtain⟨_,rfl⟩:=iF hl;rfl
 have FCs:=cS (st:=rB) lCs cCs kCs;have mCs:=An X G aCs;have bCs:=FCs.binds (ps:=["_law_caught"]) fun _ _ _ _ _ _ us hl=>by obtain⟨_,rfl⟩:=iF hl;rfl
 have FTo:=cS (st:=yC) lTo cTo kTo;have mTo:=An X G aTo;have bTo:=FTo.binds (ps:=["_law_ask"]) fun _ _ _ _ _ _ us hl=>by obtain⟨_,rfl⟩:=iF hl;rfl
 have FTw:=cS (st:=yD) lTw cTw kTw;have mTw:=An X G aTw;have bTw:=FTw.binds (ps:=["_law_pen_here","_law_rows"]) fun _ _ _ _ _ _ us hl=>by obtain⟨_,_,rfl⟩:=qH hl;rfl
 have FPI:=cS (st:=pC) lPI cPI kPI;have mPI:=An X G aPI;have bPI:=FPI.binds (ps:=["_law_pen_here","_law_roll","_law_fresh","_law_strange"]) fun _ _ _ _ _ _ us hl=>by obtain⟨_,_,_,_,rfl⟩:=aII hl;rfl
 have FWR:=cS (st:=rC) lWR cWR kWR;have mWR:=An X G aWR;have bWR:=FWR.binds (ps:=["_law_pen_here","_law_roll","_law_fresh","_law_strange"]) fun _ _ _ _ _ _ us hl=>by obtain⟨_,_,_,_,rfl⟩:=aII hl;rfl
 have FOR:=cS (st:=iO) lOR cOR kOR;have mOR:=An X G aOR;have bOR:=FOR.binds (ps:=["_law_roll","_law_row_here"]) fun _ _ _ _ _ _ us hl=>by obtain⟨_,_,rfl⟩:=qH hl;rfl
 have FNC:=cS (st:=iP) lNC cNC kNC;have mNC:=An X G aNC;have bNC:=FNC.binds (ps:=["_law_roll","_law_names_here"]) fun _ _ _ _ _ _ us hl=>by obtain⟨_,_,rfl⟩:=qH hl;rfl
 have FL:=cS (st:=sU) lL cL kL;have mL:=An X G aL;have bL:=FL.binds (ps:=["_law_script"]) fun _ _ _ _ _ _ us hl=>by obtain⟨_,rfl⟩:=iF hl;rfl
 have n_isinstance:=Bi X G z_isinstance;have n_str:=Bi X G z_str;have n_len:=Bi X G z_len;have n_all:=Bi X G z_all;have n_int:=Bi X G z_int;have n_bool:=Bi X G z_bool;have n_tuple:=Bi X G z_tuple;have n_set:=Bi X G z_set;have n_list:=Bi X G z_list;have n_sorted:=Bi X G z_sorted;have n_abs:=Bi X G z_abs;have n_range:=Bi X G z_range;have n_min:=Bi X G z_min;have n_repr:=Bi X G z_repr;have n_ValueError:=Bi X G z_ValueError;have g_LONGEST:=An X G q_LONGEST;have g_LAST_DAY:=An X G q_LAST_DAY;have g_FEWEST_LANDS:=An X G q_FEWEST_LANDS;have g_MOST_LANDS:=An X G q_MOST_LANDS;have g_MOST_PART_ACRES:=An X G q_MOST_PART_ACRES;have g_MOST_INCHES:=An X G q_MOST_INCHES;have g_MOST_PENCE:=An X G q_MOST_PENCE;have g_MOST_SPADES:=An X G q_MOST_SPADES;have g_ROW_DEPTH:=An X G q_ROW_DEPTH;have g_MOST_ROWS:=An X G q_MOST_ROWS;have g_FORMS:=An X G q_FORMS;have g_RANKS:=An X G q_RANKS;refine⟨Az "law" "law" (bZ sU) (bS sU) (aO sU) .none kVL dcL pmL anL cdL ctL,fun s v=>.of_eq rfl,fun base _ _ hB=>?_⟩;have mNoRow:=An X G aNoRow;have mNoRoll:=An X G aNoRoll;have mNoName:=An X G aNoName;have mTwice:=An X G aTwice;have mTooMany:=An X G aTooMany;have mNoThen:=An X G aNoThen;have mNoMend:=An X G aNoMend;have mClash:=An X G aClash;have mNoBreach:=An X G aNoBreach;have mNoField:=An X G aNoField;have mNoInch:=An X G aNoInch;have mNoOrder:=An X G aNoOrder;have mNoText:=An X G aNoText;have mDykeError:=An X G aDykeError;have T:Txt K mg:=⟨n_isinstance,n_str,n_len,n_all,n_int,n_bool,n_tuple,n_set,⟨_,g_LONGEST⟩,⟨_,g_LAST_DAY⟩,⟨_,g_FEWEST_LANDS⟩,⟨_,g_MOST_LANDS⟩,⟨_,g_MOST_PART_ACRES⟩,⟨_,g_MOST_INCHES⟩,⟨_,g_MOST_PENCE⟩,⟨_,g_MOST_SPADES⟩⟩
 have RK:tG w K t_RANKS:=⟨_,_,_,_,_,_,_,_,_,_,_,_,_,_,_,_,_,lRk⟩
 have GT:=aHy (P:=l.prog) (w:=w) (base:=base) FT n_len n_abs;have GIN:=aHF (aEq (P:=l.prog) (w:=w) (base:=base) FIN T) aEr;have GNB:=aHG (P:=l.prog) (w:=w) (base:=base) FNB T;have GIW:=aCn FIW ⟨_,_,GNB,mNB,kNB,bNB⟩;have GRI:=aEy (P:=l.prog) (w:=w) (base:=base) FRI T n_list n_sorted;have GPT:=aHH FPT T ⟨_,_,GIN,mIN,kIN,bIN⟩ ⟨_,_,GIW,mIW,kIW,bIW⟩;have GIC:=aHI FIC T ⟨_,_,GIW,mIW,kIW,bIW⟩;have GAP:=aHK FAP T ⟨_,_,GPT,mPT,kPT,bPT⟩;have GAN:=aHJ FAN T ⟨_,_,GIN,mIN,kIN,bIN⟩;have GRP:=aHO FRP T ⟨_,_,GAP,mAP,kAP,bAP⟩ ⟨_,_,GRI,mRI,kRI,bRI⟩;have GRL:=aHN FRL T ⟨_,_,GAN,mAN,kAN,bAN⟩ ⟨_,_,GRI,mRI,kRI,bRI⟩;have GF0:=aGp FF0 T ⟨_,_,GIN,mIN,kIN,bIN⟩ ⟨_,_,GRP,mRP,kRP,bRP⟩;have GF1:=aGq FF1 T ⟨_,_,GIN,mIN,kIN,bIN⟩ ⟨_,_,GRL,mRL,kRL,bRL⟩;have GF2:=aBp FF2 T ⟨_,_,GAN,mAN,kAN,bAN⟩;have GF3:=aBo FF3 T ⟨_,_,GIN,mIN,kIN,bIN⟩ ⟨_,_,GIW,mIW,kIW,bIW⟩;have GF4:=aGm FF4 T ⟨_,_,GAN,mAN,kAN,bAN⟩;have GF5:=aEt FF5 T ⟨_,_,GIN,mIN,kIN,bIN⟩;have GF6:=aCr FF6 T ⟨_,_,GIN,mIN,kIN,bIN⟩ ⟨_,_,GIW,mIW,kIW,bIW⟩ ⟨_,_,GIC,mIC,kIC,bIC⟩;have GF7:=aGk FF7 T ⟨_,_,GIN,mIN,kIN,bIN⟩ ⟨_,_,GIC,mIC,kIC,bIC⟩;have GIR:=aGr FIR T (aH2 lFm) (aJQ fF0 fF1 fF2 fF3 fF4 fF5 fF6 fF7) hzF g_FORMS (aKL fF0 fF1 fF2 fF3 fF4 fF5 fF6 fF7) (aKM GF0 kF0 bF0 GF1 kF1 bF1 GF2 kF2 bF2 GF3 kF3 bF3 GF4 kF4 bF4 GF5 kF5 bF5 GF6 kF6 bF6 GF7 kF7 bF7) ⟨_,_,GIN,mIN,kIN,bIN⟩ ⟨_,_,GIW,mIW,kIW,bIW⟩;have mAT2:=mAT;have kAT2:=kAT;have bAT2:=bAT;have GAT:=aCw FAT T n_list mAT kAT bAT (aCw FAT T n_list mAT kAT bAT (aCw FAT T n_list mAT kAT bAT (aJM (P:=l.prog) (w:=w) (base:=base) FAT T n_list mAT kAT bAT)))
 have GIO:=aJO FIO T n_sorted ⟨_,_,GAP,mAP,kAP,bAP⟩ ⟨_,_,GAN,mAN,kAN,bAN⟩;have GRO:=aEF FRO ⟨_,g_ROW_DEPTH⟩ mNoRow zxNoRow GAT mAT kAT bAT GIO mIO kIO bIO GIR mIR kIR bIR;have GFO:=aCv (P:=l.prog) (w:=w) (mg:=mg) (base:=base) FFO;have GOr:=aGI (P:=l.prog) (base:=base) FOr RK g_RANKS;have GRF:=aCF FRF mNoRow zxNoRow GRO mRO kRO bRO GFO mFO kFO bFO;have GRC:=aAs (P:=l.prog) (w:=w) (base:=base) FRC mNoName zxNoName;have GWi:=aH5 FWi n_len n_tuple n_list n_sorted ⟨_,g_MOST_ROWS⟩ mTwice zxTwice mTooMany zxTooMany GOr mOr bOr GRF mRF kRF bRF;have GWo:=aCH FWo n_tuple GRC mRC kRC bRC;have GN:=aGf FN n_len n_range n_min ⟨_,_,GT,mT,kT,bT⟩;have GSo:=aGy FSo ⟨_,_,GT,mT,kT,bT⟩ ⟨_,_,GN,mN,kN,bN⟩;have GNu:=aJN FNu n_min ⟨_,_,GT,mT,kT,bT⟩;have GD:=aHU FD n_range n_len n_int ⟨_,_,GT,mT,kT,bT⟩;have GLO:=aGJ FLO n_len n_tuple ⟨_,_,GT,mT,kT,bT⟩ ⟨_,_,GNu,mNu,kNu,bNu⟩;have GSm:=aHT FSm n_list n_range n_sorted n_len ⟨_,_,GT,mT,kT,bT⟩;have GRo:=aGC FRo n_len n_tuple ⟨_,_,GT,mT,kT,bT⟩ ⟨_,_,GNu,mNu,kNu,bNu⟩ ⟨_,_,GSm,mSm,kSm,bSm⟩;have GR:=aJT FR ⟨_,_,GT,mT,kT,bT⟩ ⟨_,_,GRo,mRo,kRo,bRo⟩;have GTu:=aEA FTu n_list n_range n_len ⟨_,_,GT,mT,kT,bT⟩;have GLi:=aED FLi T n_list n_range ⟨_,_,GT,mT,kT,bT⟩ ⟨_,_,GTu,mTu,kTu,bTu⟩;have GK:=aGH (P:=l.prog) (w:=w) (mg:=mg) (base:=base) FK;have GCs:=aGO (P:=l.prog) (w:=w) (base:=base) FCs n_isinstance n_len n_ValueError mNoRow mNoRoll mNoName mTwice mTooMany mNoThen mNoMend mClash mNoBreach mNoField mNoInch mNoOrder mNoText;have GTo:=aH6 FTo mDykeError ⟨_,_,GCs,mCs,kCs,bCs⟩
 have GTw:=aH7 FTw n_len n_range n_isinstance n_int ⟨_,_,GT,mT,kT,bT⟩;have GPI:=aG6 FPI n_len n_int ⟨_,_,GT,mT,kT,bT⟩ ⟨_,_,GLi,mLi,kLi,bLi⟩ ⟨_,_,GTw,mTw,kTw,bTw⟩;have GWR:=aG8 FWR rfl hcA hB n_tuple n_repr n_sorted zeNoRow (.cNoRow zfNoRow) zeTwice (.cTwice zfTwice) zeTooMany (.cTooMany zfTooMany) GK mK bK GPI mPI kPI bPI GTo mTo kTo bTo GWi mWi kWi bWi;have GOR:=aBU FOR n_tuple n_repr GWo mWo kWo bWo GRC mRC kRC bRC GWi mWi kWi bWi;have GNC:=aAu FNC rfl hcB hB zeNoName (.cNoName zfNoName) GTo mTo kTo bTo GRC mRC kRC bRC GWo mWo kWo bWo;exact aJZ FL h12 n_range n_tuple n_sorted n_all GK mK bK (aJB FP n_list) mP kP bP GSo mSo kSo bSo GD mD kD bD GLO mLO kLO bLO GR mR kR bR GNC mNC kNC bNC GT mT kT bT GWR mWR kWR bWR GOR mOR kOR bOR
theorem walk{l:Fi}{q:Ay}{loose:List Str}{XP:(Str→Option Ab)→A4→Prop}{YP:AS→A4→Prop}{d:DefRec}{K:Params→Ah}{c T c2 T2:Ac}(hn:l.most=some 63)(hdf:d.params.defaults=[])
  (hY:∀(w:AS) (h:A4),YP w h→(K w.params).In h∧∀ P∈[T,T2],h.get? P=some (PySem.W.tabObj #[]))
  (F:∀(w:AS) (mg:Str→Option Ab) (fa:Ac) (h:A4),(K w.params).In h→h.Ns mainGlobals mg→mg d.name=some (.ref fa)→
   ∃ fd:AE,(∀(s:Ad) (u:Ab),FM s fd ⟨[u],[]⟩ [("_law_script",u)])∧∀ base:A4,(K w.params).In base→base.Ns mainGlobals mg→vK mg base→cH l.prog w (K w.params) mg base CX0 14 fa fd ["_law_script"] (aDM (K w.params) T T2))
  (hC:∀(w:AS),(C5 (K w.params) c T=true∧(K w.params).lookup T=none)∧(C5 (K w.params) c2 T2=true∧(K w.params).lookup T2=none)):
  PySem.W.WalkO q loose XP YP l.row.toRowW d [] (fun f vs=>Gg f vs):=
 L2.walk_ofT (n:=63) (k:=14) (x:="_law_script") (cts:=[(c,T),(c2,T2)]) (sp:=fun w=>aDM (K w.params) T T2) hn (by decide) hdf ⟨rfl,by decide,by decide,rfl⟩ hY (fun w p hp=>by
  obtain⟨h1,h2⟩:=hC w;simp only[Al,Ao,or_false]at hp;rcases hp with rfl | rfl
  ·exact h1
  ·exact h2) F fun w H a ns hl hT hS=>⟨a,ns,rfl,hS,hl,eU.start (hT T (by simp)),eU.start (hT T2 (by simp)),fun _=>rfl⟩
end K07
end
namespace PySem.W.Fast
def tw17253450122461264857:=0
def tw2039201909896222901:=0
def tw4836983455536609803:=0
def tw13533401764496372409:=0
def tw10604828807106372763:=0
def tw4864906751472417544:=0
def tw755821704405120396:=0
def tw13871662827318166295:=0
def tw6445604592882880819:=0
def tw17171705847129305354:=0
def tw2800843322447855191:=0
def tw1744292231611657404:=0
def tw3647283026894461609:=0
def tw2913954823870691762:=0
def tw12932401635017972006:=0
def tw3949342574120742948:=0
def tw13889332017510869376:=0
def tw14616463078427078559:=0
def tw17536643057471735127:=0
def tw13162172683424142258:=0
def tw523441610135711039:=0
def tw18115457947874193073:=0
def tw573870634353519613:=0
def tw17197328554277026660:=0
def tw10577199706707723962:=0
def tw360808024493642203:=0
def tw15489943807452379001:=0
def tw893297261019484600:=0
def tw11715342924746385570:=0
def tw16903266166847382386:=0
def tw5803071614913050372:=0
def tw18156669262852676444:=0
def tw15972307490502127212:=0
def tw16907364895170234626:=0
def tw17596013997406117706:=0
def tw9920297308336687751:=0
def tw1607512184444648822:=0
def tw2273491460215926993:=0
def tw16646803753896608219:=0
def tw16051673711083977510:=0
def tw6920338877729451764:=0
def tw13804936095762842409:=0
def tw7982179486003395626:=0
def tw12423575249358228921:=0
def tw8739447842834991038:=0
def tw7666956811510921991:=0
def tw3201364807163322539:=0
def tw15171707048995913162:=0
def tw11561759811158181377:=0
def tw1150224950967725635:=0
def tw17847323224207419653:=0
def tw2509920457472327367:=0
def tw1719324536521036811:=0
def tw9014038295408750924:=0
def tw4049547055166962190:=0
def tw4213368385655845207:=0
def tw4663805150195536042:=0
def tw1169270928292284186:=0
def tw6980664054360150693:=0
def tw3792032798310419865:=0
def tw4664680417855372965:=0
def tw13300870649056963357:=0
def tw5532193306867870277:=0
def tw14408867998973407619:=0
def tw11866477308641689706:=0
def tw5203502613544926556:=0
def tw6147755556069953295:=0
def tw6326930924169295081:=0
def tw3806600363487700218:=0
def tw15277027426232920091:=0
def tw8931145128906376343:=0
def tw6653319590347420332:=0
def tw17173218043252203485:=0
def tw14254389487163901008:=0
def tw4696709501347671359:=0
def tw195137608161585442:=0
def tw8334313448757552221:=0
def tw15795569052703343961:=0
def tw16028056196538623122:=0
def tw3358892253781789431:=0
def tw1842270629366107955:=0
def tw10576383597393949103:=0
def tw5686010118944675872:=0
def tw880096680585734738:=0
def tw12151458249925046126:=0
def tw7819716285544051479:=0
def tw6081908783860533083:=0
def tw1619934991690749615:=0
def tw6344543083831479476:=0
def tw7537603232169494956:=0
def tw8388436011747662789:=0
def tw3616068435734810407:=0
def tw5565331938609685686:=0
def tw9110032987519671872:=0
def tw18070367962915650199:=0
def tw5910742245979761031:=0
def tw81273253476501245:=0
def tw17393961853389333942:=0
def tw5120534611804573738:=0
def tw15666550132183095376:=0
def tw1050340988581687804:=0
def tw15063216223261112912:=0
def tw7893878597030254944:=0
def tw7823910547809024744:=0
def tw14302803074553635189:=0
def tw2432578661211670159:=0
def tw14319626835725831118:=0
def tw10189644019484936581:=0
def tw3894511365356608500:=0
def tw5272040901492649198:=0
def tw2989835538900992415:=0
def tw1061481634692710081:=0
def tw13488036305297449231:=0
def tw9638844935798015949:=0
def tw15958701045069570593:=0
def tw7896923947821204566:=0
def tw11047541177935592253:=0
def tw11154203062530195029:=0
def tw10624080182572551055:=0
def tw14329892919085104296:=0
def tw551870134760564543:=0
def tw8554219959225360899:=0
def tw13174365928962685306:=0
def tw15678331545812174170:=0
def tw160644650683410906:=0
def tw7357657963884362379:=0
def tw17991811968451030344:=0
def tw17175638047292808866:=0
def tw1677579070095904903:=0
def tw16704838694196556382:=0
def tw749360968435354280:=0
def tw4233619221371914197:=0
def tw6019017333526973082:=0
def tw15502572825984538486:=0
def tw16915519234237476298:=0
def tw7048621907411038689:=0
def tw12138143872167064995:=0
def tw12785074425395274429:=0
def tw5765500513520695160:=0
def tw9767791273098661490:=0
def tw3057526599121629961:=0
def tw4144407124262440073:=0
def tw13962589541318741117:=0
def tw12186544283842053158:=0
def tw5649731716440710510:=0
def tw5848715364481577523:=0
def tw8091336565242311097:=0
def tw10171242319458305057:=0
def tw16794725514955646612:=0
def tw13369684504690672010:=0
def tw17059408528835363438:=0
def tw2604898069440625968:=0
def tw8240722789276333631:=0
def tw2511047688973919034:=0
def tw13898136223176792428:=0
def tw9448451991679948079:=0
def tw11406364586795903791:=0
def tw3045440933634292297:=0
def tw9269082041785316529:=0
def tw13424124930424796029:=0
def tw14659593552109515982:=0
def tw18115375502977409186:=0
def tw16998777556182014674:=0
def tw10545614985576956267:=0
def tw16948947602797869702:=0
def tw10061002005727393821:=0
def tw5728594120815151210:=0
def tw14794238804705416763:=0
def tw734029998869899999:=0
def tw14890761087293219598:=0
def tw10537101561574018221:=0
def tw8624235093595295613:=0
def tw6961557497891093086:=0
def tw14397434695545157300:=0
def tw5908872018240992463:=0
def tw9861000559010419910:=0
def tw2737983394792015494:=0
def tw8180962543291481272:=0
def tw20944447536879881:=0
def tw12761988852993845831:=0
def tw2762069730085389887:=0
def tw9816464940887027367:=0
def tw1410293038346740407:=0
def tw7648779922389945410:=0
def tw5431966118577243095:=0
def tw538755019235337620:=0
def tw9286704861855563375:=0
def tw11766421266182051495:=0
def tw11607113607622737381:=0
def tw3208829431534664670:=0
def tw8855588241137978925:=0
def tw16022661119150348673:=0
def tw4430884146064078082:=0
def tw2374356486761693696:=0
def tw5649868614991297868:=0
def tw9278117184548905935:=0
def tw2568629055875506860:=0
def tw2313970420336794307:=0
def tw1535713284299335999:=0
def tw5625060137123256892:=0
def tw13872342368160804843:=0
def tw2351989578395156025:=0
def tw18277641107225308145:=0
def tw53123825197354639:=0
def tw4767704280872718820:=0
def tw8183170140861787506:=0
def tw4988607728453843486:=0
def tw1763473778592080675:=0
def tw5419524849445977838:=0
def tw12532201912437817908:=0
def tw10258582796477636825:=0
def tw5852098678277202934:=0
def tw13663948196819796548:=0
def tw11946190492427482574:=0
def tw9506986234126709161:=0
def tw1536929865866940358:=0
def tw15669234437039760562:=0
def tw2713793290178834721:=0
def tw5902727126259548034:=0
def tw9222125424928662114:=0
def tw11186362872022893897:=0
def tw4620903403660023229:=0
def tw7511453855062712614:=0
def tw5060490306480282699:=0
def tw867053905976134127:=0
def tw14401163738253139229:=0
def tw404940407431820584:=0
def tw15958687334120967592:=0
def tw10374786036766175605:=0
def tw169878867095556721:=0
def tw15231953794579429753:=0
def tw9770414637312557213:=0
def tw5361745127887324979:=0
def tw13261571148131231412:=0
def tw754012747432821898:=0
def tw698314479244886372:=0
def tw14454282019443249726:=0
def tw14542344160225071782:=0
def tw18281744383889582218:=0
def tw1775684464595080751:=0
def tw7639640593190594360:=0
def tw805909571119161476:=0
def tw4053965397147796372:=0
def tw1575097810581257890:=0
def tw14564173701771270164:=0
def tw6409418312583471620:=0
def tw7407056345174469599:=0
def tw7771557842618846412:=0
def tw12635732290556651505:=0
def tw9272705933373554914:=0
def tw2405814579375925914:=0
def tw1836704324062986265:=0
def tw1855608379594728085:=0
def tw18305389597478424466:=0
def tw2513254172264763657:=0
def tw12015642477290395005:=0
def tw14955515008381062234:=0
def tw16117715521998476520:=0
def tw15122372514834352529:=0
def tw2916143320823025896:=0
def tw16022817145122917571:=0
def tw17097864527314328049:=0
def tw7921347867575458218:=0
def tw6312878180944253343:=0
def tw17693785856411117096:=0
def tw5046046465515312824:=0
def tw17196806184762192433:=0
def tw2712050761108919070:=0
def tw15218129539473890850:=0
def tw6280788473087106640:=0
def tw1049848910725680521:=0
def tw11834679413863222692:=0
def tw13537530101861680476:=0
def tw9879113577298336770:=0
def tw4838881640225137406:=0
def tw12546902215404508800:=0
def tw7106133171898482276:=0
def tw9345221534695785870:=0
def tw6153727828320583128:=0
def tw39124213963947814:=0
def tw12297046275605316807:=0
def tw14873560908756972524:=0
def tw6701094525193864474:=0
def tw722789456341273384:=0
def tw6964206965443853645:=0
def tw12666722223775466480:=0
def tw5649884821717035919:=0
def tw10170493120263239994:=0
def tw8074344081767210697:=0
def tw5801899447088428437:=0
def tw10645289206159361150:=0
def tw16201491496690367154:=0
def tw1522441696967634008:=0
def tw5194967502001825073:=0
def tw3527115921599218050:=0
def tw15815793919565591866:=0
def tw542348221878645670:=0
def tw5031943231559391044:=0
def tw874453483539577202:=0
def tw7155417805769105492:=0
def tw4573099951828767731:=0
def tw3775420145356097764:=0
def tw9378993904248712399:=0
def tw9323816985268988028:=0
def tw16315593252927798297:=0
def tw7992192308397301260:=0
def tw12548874934999680854:=0
def tw16129213967404149123:=0
def tw6131534645702315448:=0
def tw14400070986314832472:=0
def tw8307024812043296864:=0
def tw13194433698590738710:=0
def tw10056009832747545413:=0
def tw13835369955367703343:=0
def tw5084030059723785429:=0
def tw12989394645129677515:=0
def tw14193524279040072649:=0
def tw2886825073475569384:=0
def tw14282083947098862734:=0
def tw6602862575767855321:=0
def tw14719631392111406657:=0
def tw6869774552213268638:=0
def tw16015061341584251150:=0
def tw689579712911098834:=0
def tw12659963662095207038:=0
def tw3463475916107549114:=0
def tw8043226380930916810:=0
def tw8712649895156815197:=0
def tw11898134436179179383:=0
def tw15361034910604761518:=0
def tw10764845213712354047:=0
def tw3138326950652598556:=0
def tw9956286425148362400:=0
def tw7434597995016385338:=0
def tw9691282878051651811:=0
def tw9362219608501922705:=0
def tw9583208092542831570:=0
def tw1931066684829799629:=0
def tw48934689786962487:=0
def tw10258660736985226656:=0
def tw7799304103975642823:=0
def tw8709694768980480676:=0
def tw2106924714291671870:=0
def tw6097513680802720820:=0
def tw15046894806194448943:=0
def tw14728444562407591175:=0
def tw7577554232579789204:=0
def tw12411078030503657333:=0
def tw15260883308853202542:=0
def tw2164455223813184796:=0
def tw16530984302871225081:=0
def tw12777633257892402008:=0
def tw12404969438812954708:=0
def tw10041690857658318042:=0
def tw8886530838715222019:=0
def tw17934171292559182308:=0
def tw12161193460803075015:=0
def tw5045554957195700515:=0
def tw13605984777971367059:=0
def tw7035880020994487497:=0
def tw14707553969197765020:=0
def tw1439629500159919843:=0
def tw13679673213753308712:=0
def tw5510005151061230038:=0
def tw8833019834808794000:=0
def tw10875244760255719324:=0
def tw16174990724472627140:=0
def tw2639514066150147628:=0
def tw2982268492585027085:=0
def tw12557276072527474383:=0
def tw9207470067677188979:=0
def tw17026918555144483488:=0
def tw1438298298219903879:=0
def tw11528088855489957206:=0
def tw62623318687377225:=0
def tw8319995437550115115:=0
def tw10929217800488254165:=0
def tw5425710733336279619:=0
def tw2305102703912999431:=0
def tw7583947238606591894:=0
def tw6716823668209942148:=0
def tw16808278056204318565:=0
def tw14428887692483524392:=0
def tw2749642149518007227:=0
def tw15039413437282741701:=0
def tw6532157067551116442:=0
def tw18223207649676259464:=0
def tw9081718595314195260:=0
def tw7688405879369142986:=0
def tw5825396817983235086:=0
def tw5495520531870587401:=0
def tw16359864128749164074:=0
def tw10421164795815070190:=0
def tw14353701165454162475:=0
def tw8512665383853484505:=0
def tw11799477471254211017:=0
def tw13583885777778897377:=0
def tw9704354300039772430:=0
def tw13934092877259887735:=0
def tw17127368234801061929:=0
def tw7553672800330477734:=0
def tw560512126008056893:=0
def tw2077345653373245736:=0
def tw17152944398145520823:=0
def tw8927274087729177632:=0
def tw6330705448535137783:=0
def tw11548806243885266191:=0
def tw8731882559312186816:=0
def tw7263058342135011653:=0
def tw16849850191937121875:=0
def tw12786374078080623657:=0
def tw693184581332959008:=0
def tw424337647769372228:=0
def tw11494874707562064654:=0
def tw13674397829092593271:=0
def tw12705477304809349413:=0
def tw6184767859248797543:=0
def tw4112970675956201639:=0
def tw2529267230032939929:=0
def tw3266758497070802868:=0
def tw1843105804419875220:=0
def tw14713094653351511392:=0
def tw160779373138245252:=0
def tw11408066963963761911:=0
def tw15580724839387968774:=0
def tw16949847090157853273:=0
def tw2737256521888670172:=0
def tw15265113075122182650:=0
def tw12785105440661793617:=0
def tw403572692370496943:=0
def tw8880734111843179856:=0
def tw2596501681632426927:=0
def tw216019746082326939:=0
def tw255081864126770436:=0
def tw5847756196321889862:=0
def tw7261673543158523368:=0
def tw13375936082110329886:=0
def tw7104793601715032347:=0
def tw1006730706739392818:=0
def tw17148770988110673313:=0
def tw15865618673721559452:=0
def tw18241564824375130710:=0
def tw3797985725625624411:=0
def tw8247089530611643810:=0
def tw647839044129741225:=0
def tw9810793004770722725:=0
def tw3912549920663089309:=0
def tw17229982570915723418:=0
def tw15014640068528868202:=0
def tw13865793741869536699:=0
def tw721895233925474995:=0
def tw8348301511759935088:=0
def tw8601726064050098096:=0
def tw11428723278174575876:=0
def tw16988546226394822438:=0
def tw9087669458429749274:=0
def tw1917556815029340838:=0
def tw2435042599788545303:=0
def tw5495915182903483565:=0
def tw14031588372512328967:=0
def tw8836824108202050603:=0
def tw8700922499650188066:=0
def tw11440015541426342584:=0
def tw6535904701138482327:=0
def tw14697342252226909880:=0
def tw16643632250828579020:=0
def tw16858993877618553656:=0
def tw7720661199510960542:=0
def tw3175935160258193130:=0
def tw16382673681221911385:=0
def tw6342679933634142654:=0
def tw11453911785946344536:=0
def tw15155254349586161743:=0
def tw10394007553991115974:=0
def tw8421014416061834049:=0
def tw15231480825103062017:=0
def tw103280372003973572:=0
def tw14082479208926874650:=0
def tw18115463015160273636:=0
def tw9986531809842574350:=0
def tw5095726354617613623:=0
def tw17992583270093133037:=0
def tw17748810086359245535:=0
def tw6220819960842930488:=0
def tw10990307168401155085:=0
def tw7790044652426613150:=0
def tw13366687649902184611:=0
def tw17568141328814439653:=0
def tw10036545129482549936:=0
def tw4417716162301938812:=0
def tw17931094505421196519:=0
def tw3531059291075790297:=0
def tw6283658069235841598:=0
def tw13928122416298221561:=0
def tw12170933678338767094:=0
def tw16767617184035952590:=0
def tw8830261592795147172:=0
def tw16439966825389900407:=0
def tw10489137469005069467:=0
def tw15727864977664968911:=0
def tw16212357255394663373:=0
def tw1264650294486081654:=0
def tw2281236941071220958:=0
def tw10741360528632883345:=0
def tw16980500850222158842:=0
def tw10377228272119272943:=0
def tw13088228690350384562:=0
def tw6706116632642986033:=0
def tw9623903473793452703:=0
def tw2885974821029510595:=0
def tw1092961660770024969:=0
def tw16046291445998412156:=0
def tw17343240323457706342:=0
def tw6281234744000569009:=0
def tw11302709224695500372:=0
def tw12720710759659457784:=0
def tw8573212399403190744:=0
def tw3188848309315362528:=0
def tw5719013396571077533:=0
def tw4724139070696361793:=0
def tw269169620339290117:=0
def tw3508067390798059072:=0
def tw17574811852481289481:=0
def tw11031760397252442819:=0
def tw4785537427221211631:=0
def tw15807442900448668566:=0
def tw17498875390488285696:=0
def tw3760588763018016376:=0
def tw11995860455638723139:=0
def tw2187870152853100703:=0
def tw16600004426374249780:=0
def tw7938805107179449046:=0
def tw7828436566402854115:=0
def tw5656554015585359693:=0
def tw16860764067288423393:=0
def tw9625612444530302247:=0
def tw9170156679103696934:=0
def tw6429351844417872383:=0
def tw4898645092180728061:=0
def tw2009281673994532669:=0
def tw7500750079007053959:=0
def tw9132655173629186924:=0
def tw2599324551931524525:=0
def tw14452454718048389251:=0
def tw1859398813582467120:=0
def tw10074391771119439995:=0
def tw4104530837179229491:=0
def tw17683712619698482855:=0
def tw1549423147547814334:=0
def tw4611451927727275328:=0
def tw2132661663424153374:=0
def tw13613695381133188033:=0
def tw13879025428784863996:=0
def tw7602869341192592103:=0
def tw2371413447926700227:=0
def tw16048587017336598326:=0
def tw7179034751360013219:=0
def tw3242622630233449850:=0
def tw7645400081025944070:=0
def tw6300058667209961903:=0
def tw11248036726718354454:=0
def tw706938764900895747:=0
def tw484332963451114134:=0
def tw2375258424304354824:=0
def tw1400491764633449801:=0
def tw12038453089817305826:=0
def tw4680444211123525857:=0
def tw9546217258074878906:=0
def tw484982555331061075:=0
def tw13309463009517391960:=0
def tw10345688522918817354:=0
def tw6954968220632969984:=0
def tw15431637496273664538:=0
def tw17245360166865407324:=0
def tw7324001285708353631:=0
def tw15961516501804843042:=0
def tw10449977150365819439:=0
def tw6651905870362507050:=0
def tw8244137965886517792:=0
def tw6721468679879367469:=0
def tw1700899853445542537:=0
def tw15047578429581401993:=0
def tw4219246951576454933:=0
def tw9967320239287735797:=0
def tw14245705865557185297:=0
def tw17122353255150559274:=0
def tw14831742646216632816:=0
def tw7615527638690021315:=0
end PySem.W.Fast
open PySem PySem.W PyProof.Rows
set_option maxRecDepth 100000 in
set_option maxHeartbeats 0 in
theorem PySem.Challenge.cw_dykelengths_k07_rows_put_in_and_left_out_holds : PySem.Challenge.rw_dykelengths_k07_rows_put_in_and_left_out.Holds := by
 w_on;o_law;k_head;(case hw=>w_witness2)
 k_fill
 refine K07.walk (l:=PySem.Challenge.rw_dykelengths_k07_rows_put_in_and_left_out) (c:=483) (T:=479) (c2:=495) (T2:=491) rfl rfl (fun w h Y=>⟨PySem.W.km_in_of Y,fun P hP=>PySem.W.km_tabs_of Y P (by simp only [List.mem_cons,List.not_mem_nil,or_false] at hP ⊢;rcases hP with h | h <;> simp [h])⟩) ?F ?hC
 case F=>
  intro w mg fa h KX G hmg
  refine' K07.all_mk KX G hmg ?aNoRow ?aNoRoll ?aNoName ?aTwice ?aTooMany ?aNoThen ?aNoMend ?aClash ?aNoBreach ?aNoField ?aNoInch ?aNoOrder ?aNoText ?aDykeError ?zxNoRow ?zeNoRow ?zfNoRow ?zxNoName ?zeNoName ?zfNoName ?zxTwice ?zeTwice ?zfTwice ?zxTooMany ?zeTooMany ?zfTooMany ?h12 ?aIN ?lIN ?cIN ?kIN ?aNB ?lNB ?cNB ?kNB ?aIW ?lIW ?cIW ?kIW ?aRI ?lRI ?cRI ?kRI ?aPT ?lPT ?cPT ?kPT ?aAP ?lAP ?cAP ?kAP ?aAN ?lAN ?cAN ?kAN ?aRP ?lRP ?cRP ?kRP ?aRL ?lRL ?cRL ?kRL ?aIC ?lIC ?cIC ?kIC ?aF0 ?lF0 ?cF0 ?kF0 ?aF1 ?lF1 ?cF1 ?kF1 ?aF2 ?lF2 ?cF2 ?kF2 ?aF3 ?lF3 ?cF3 ?kF3 ?aF4 ?lF4 ?cF4 ?kF4 ?aF5 ?lF5 ?cF5 ?kF5 ?aF6 ?lF6 ?cF6 ?kF6 ?aF7 ?lF7 ?cF7 ?kF7 ?aIR ?lIR ?cIR ?kIR ?aAT ?lAT ?cAT ?kAT ?aIO ?lIO ?cIO ?kIO ?aRO ?lRO ?cRO ?kRO ?aFO ?lFO ?cFO ?kFO ?aOr ?lOr ?cOr ?kOr ?aRF ?lRF ?cRF ?kRF ?aRC ?lRC ?cRC ?kRC ?aWi ?lWi ?cWi ?kWi ?aWo ?lWo ?cWo ?kWo ?aP ?lP ?cP ?kP ?aT ?lT ?cT ?kT ?aN ?lN ?cN ?kN ?aSo ?lSo ?cSo ?kSo ?aD ?lD ?cD ?kD ?aNu ?lNu ?cNu ?kNu ?aLO ?lLO ?cLO ?kLO ?aSm ?lSm ?cSm ?kSm ?aRo ?lRo ?cRo ?kRo ?aR ?lR ?cR ?kR ?aTu ?lTu ?cTu ?kTu ?aLi ?lLi ?cLi ?kLi ?aK ?lK ?cK ?kK ?aCs ?lCs ?cCs ?kCs ?aTo ?lTo ?cTo ?kTo ?aTw ?lTw ?cTw ?kTw ?aPI ?lPI ?cPI ?kPI ?aWR ?lWR ?cWR ?kWR ?aOR ?lOR ?cOR ?kOR ?aNC ?lNC ?cNC ?kNC ?aL ?lL ?cL ?kL ?z_isinstance ?z_str ?z_len ?z_all ?z_int ?z_bool ?z_tuple ?z_set ?z_list ?z_sorted ?z_abs ?z_range ?z_min ?z_repr ?z_ValueError ?q_LONGEST ?q_LAST_DAY ?q_FEWEST_LANDS ?q_MOST_LANDS ?q_MOST_PART_ACRES ?q_MOST_INCHES ?q_MOST_PENCE ?q_MOST_SPADES ?q_ROW_DEPTH ?q_MOST_ROWS ?q_FORMS ?lFm ?hzF ?q_RANKS ?lRk ?hcA ?hcB
  case aNoRow|aNoRoll|aNoName|aTwice|aTooMany|aNoThen|aNoMend|aClash|aNoBreach|aNoField|aNoInch|aNoOrder|aNoText|aDykeError=>k_is
  case zxNoRow|zeNoRow|zfNoRow|zxNoName|zeNoName|zfNoName|zxTwice|zeTwice|zfTwice|zxTooMany|zeTooMany|zfTooMany=>kernel_rfl
  case h12=>decide
  case aIN|lIN|cIN|kIN|aNB|lNB|cNB|kNB|aIW|lIW|cIW|kIW|aRI|lRI|cRI|kRI|aPT|lPT|cPT|kPT|aAP|lAP|cAP|kAP|aAN|lAN|cAN|kAN|aRP|lRP|cRP|kRP|aRL|lRL|cRL|kRL|aIC|lIC|cIC|kIC|aF0|lF0|cF0|kF0|aF1|lF1|cF1|kF1|aF2|lF2|cF2|kF2|aF3|lF3|cF3|kF3|aF4|lF4|cF4|kF4|aF5|lF5|cF5|kF5|aF6|lF6|cF6|kF6|aF7|lF7|cF7|kF7|aIR|lIR|cIR|kIR|aAT|lAT|cAT|kAT|aIO|lIO|cIO|kIO|aRO|lRO|cRO|kRO|aFO|lFO|cFO|kFO|aOr|lOr|cOr|kOr|aRF|lRF|cRF|kRF|aRC|lRC|cRC|kRC|aWi|lWi|cWi|kWi|aWo|lWo|cWo|kWo|aP|lP|cP|kP|aT|lT|cT|kT|aN|lN|cN|kN|aSo|lSo|cSo|kSo|aD|lD|cD|kD|aNu|lNu|cNu|kNu|aLO|lLO|cLO|kLO|aSm|lSm|cSm|kSm|aRo|lRo|cRo|kRo|aR|lR|cR|kR|aTu|lTu|cTu|kTu|aLi|lLi|cLi|kLi|aK|lK|cK|kK|aCs|lCs|cCs|kCs|aTo|lTo|cTo|kTo|aTw|lTw|cTw|kTw|aPI|lPI|cPI|kPI|aWR|lWR|cWR|kWR|aOR|lOR|cOR|kOR|aNC|lNC|cNC|kNC|aL|lL|cL|kL|z_isinstance|z_str|z_len|z_all|z_int|z_bool|z_tuple|z_set|z_list|z_sorted|z_abs|z_range|z_min|z_repr|z_ValueError|q_LONGEST|q_LAST_DAY|q_FEWEST_LANDS|q_MOST_LANDS|q_MOST_PART_ACRES|q_MOST_INCHES|q_MOST_PENCE|q_MOST_SPADES|q_ROW_DEPTH|q_MOST_ROWS|q_FORMS|lFm=>k_is
  case hzF=>first | rfl | decide
  case q_RANKS|lRk=>k_is
  case hcA|hcB=>kernel_rfl
 case hC=>exact fun w=>⟨⟨by kernel_rfl,by kernel_rfl⟩,⟨by kernel_rfl,by kernel_rfl⟩⟩
