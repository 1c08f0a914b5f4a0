import PyProof.Rows.All
import Wide.All
import OpenK.AllK
import Wide.FinOn
import Lean
import PyProof.EqAt
import PyProof.EqKinds
import PyProof.TupleCall
import KE.KIntText
import KE.KDictList
import PyProof.StationsW
import PyProof.ExcClass2
import OpenK.KRaise
import OpenK.KOwn
import KE.KTryMore
import PyProof.NsDelKeeps
import PyProof.Rows.Catch
import PyProof.ExcArgs
import PyProof.AttrMissHeap
import KE.KDictOf
import KE.KPairComp
import PySem.Challenge.RW_dykelengths_k09_the_first_laying
set_option linter.all false
set_option maxRecDepth 100000
set_option Elab.async false
set_option maxHeartbeats 16000000
noncomputable section
local macro_rules
|`(tactic|omega)=>`(tactic|lia)
local macro_rules
|`(tactic|decide)=>`(tactic|decide +kernel)
open List renaming length_map→Aa,getElem?_eq_getElem→Ai,mem_cons→Ak,mem_cons_self→Al,getElem?_map→An,not_mem_nil→Ao,mem_cons_of_mem→Ap,size_toArray→Aq,getElem?_eq_some_iff→At,map_cons→Av,map_append→Az,length_append→AD,take_add_one→AE,mem_singleton→AF,mem_of_getElem?→AH,length_take→AJ,length_cons→AK,take_length→AM,mem_append_right→AN,mem_map→AR,mem_append→AS,range→AV,append_assoc→AY,nodup_cons→AZ,getD_eq_getElem?_getD→A1,all_eq_true→A5,mem_map_of_mem→Ba,take_of_length_le→Bg,replicate→Bl,nodup_append→Bn,any_eq_true→Bu,mem_filter→Bz,lookup_cons→BA,foldl_cons→BG,getElem_mem→BI,append_nil→BN,filter_cons→BP,take_append_drop→BR,length_filter_le→BS,mem_range→BU,mem_append_left→BV,forIn_cons→B5,mem_of_mem_take→B8,length_drop→B9,length→Ca,sum_cons→Cf,getElem?_take→Cm,getElem?_of_mem→Cq,length_set→Cs,replicate_succ→Cu,getElem?_append_right→Cw,filter_append→Cy,perm_append_comm→CA,length_singleton→CB,getElem?_eq_none→CC,getElem?_append_left→CI,map_nil→CL,any_cons→C5,length_range→C9,foldl_append→Da,mem_of_mem_drop→Di,lookup→Dj,mem_or_eq_of_mem_set→Do,range_succ→Ds,of_mem_zip→Dt,find?_cons→Du,reverse_perm→DE,nodup_nil→DF,flatten_cons→DG,drop_eq_nil_of_le→DH,zipIdx_cons→DS,mem_iff_getElem→DZ,filter_nil→D0,dropLast_concat_getLast→D5,filterMap_cons→D7,perm_append_comm_assoc→D9,zip_cons_cons→Ej,nodup_iff_pairwise_ne→Ek,drop_zero→El,drop_eq_getElem_cons→Er,zip_nil_left→Ey,filter→Ez,getLast_mem→EL,map_map→EV,getElem?_set_self→EW,filter_eq_nil_iff→EX,zipIdx_nil→E4,dropLast_eq_take→E5,forIn_nil→Fa,drop_drop→Fb,map_congr_left→Fq,mem_filterMap→Fu,map_set→FC,getElem_inj→FS,all_toArray→FT,range'→FY,foldl→Ga,map_take→Ge,all_cons→Gf,take→Gm
open PySem renaming wpAny_bind→Ab,Value→Ad,Addr→Ae,wpAny_pure→Af,Shared→Ag,Program→AC,wpAny_ite_false→AQ,World→AT,Around→AU,boot_len→AW,FuncData→A3,PyData→Bb,Expr→Be,wpAny_holding→Bh,Heap→Bi,Paired→By,strKind→BJ,mem_of_lookup→BO,sizeLine_eq→BT,wpAny_ite_true→BW,wpAny_newObj_type→B4,wpAny_rule→Cb,Stmt→Cc,wpAny_call_entry→Ce,wpAny_typeOf→Cj,wpAny_mono→Ck,codeAny_builtin→CP,wpAny_truthy_bool→CQ,Scope→CW,SetTable→C1,wpAny_Call_Name_kw→C8,wpAny_passesOwn→Dd,wpAny_newList→Df,tupleKind_room_in1→DJ,wpAny_getItem_str_slice→DP,wpAny_pyIter_list→DT,codeAny_mono→DU,NameKind→DV,wpAny_typeNameOfWhole_keyiter→Ed,Arguments→EE,wpAny_of_eq→ET,sizeLine_eq→EU,wpAny_typeNameOf_keyiter→EY,wpAny_standAt→EZ,plainId_quiet→E1,wpAny_isInstance→E6,wpAny_callSpecial?_slot→E7,wpAny_call→Fc,call_meets→Fg,Keyword→Fj,IsPart→Fk,wpAny_loadPart'→Fl,wpAny_execs_nil→Fn,post_val_or_str→Fo,Fin→FJ,typeIs_str→FU,call_meetsIn→F1,GenState→F8,BindsTo→F9,noFill_tuple_add→Gb,DictEntry→Gd,Within→Gk,wpAny_newTuple→Gp,typeIs_int→Gr,Result→Gu,wpAny_attempt→Gy,seq_tuple_add→GG,call→GQ,concat_meets→GZ,wpAny_field→G9,seqIndex_of→Hb,Model→He,CmpOp→Hh
open Sum renaming inr→Ac,inl→Cg
open PySem.W renaming Frag→Ah,keepIn→AO,nsIn→Bf,mg_none_of→Bm,findIn→Bw,fnOf→BE,codeIn→BL,mg_of→B1,emptyDict→Cd,instObj→CG,hasDictIn→Ei,plainGet→Eu,callWith_K→Fi,plainOver→Fr,methodObj→Fs,codeHdIn→Fy,takerIn→FF,makesIn→FG,OpenLaw→FH,lookIn→FX,isFn→Gc,kas_first_eq→GY,kas_item_eq→Hc,codeHd_of_K→Hd
open PySem.Heap renaming get?_push_of_some→Aj,lt_size→Au,get?_push_size→Ax,get?_update_ne→Bs,size_update→Cn,size_push→Cz,get?_update_self→DR,SameBut→Eb,get?_push_ne→EA
open Nat renaming le_refl→Am,ne_of_lt→AB,le_trans→AI,lt_of_lt_of_le→AX,zero_le→A0,lt_of_le_of_lt→BM,lt_succ_of_lt→Cr,le_succ_of_le→CM,lt_irrefl→CO,le_succ→CZ,min_eq_left→C4,lt_succ_self→Dn,add_sub_cancel_left→DA,ne_of_gt→DL,le_of_lt→DM,min_le_left→D6,le_of_eq→Ef,lt_of_succ_lt→ED,min_eq_right→EQ,lt_trans→FK,sub_zero→Gv,log2_lt→GV
open Or renaming inl→Ar,inr→Dq
open PyProof.Rows renaming wpS_bind→Aw,wpS_pure→AL,SortSt→Bk,Keyed→BH,slot_tuple_getitem→BQ,wpS_forRange→B0,listUpdate_at→CF,wpS_modify→CJ,wpS_mono→C0,SortKind→De,StrsAre→D8,seqEpoch_at→Ee,boot_sum→Ep,wpS_get→Es,AllBare→EC,args_list_sort→EF,IsTup→EH,plain_sorted→Fd,listItems_at→Fe,entry_sorted→Ff,wpS_lift→Fw,kind_sorted→Fx,size_push'→FV,assignInOrder_cons→FW,collect_list→F0,args_sorted1→F2,IntsAre→F6,sortedHeap_old→Gs,sortedHeap_at→Gz
open Bool renaming false_ne_true→Ay,and_eq_true→Bv,false_eq_true→B7,eq_iff_iff→Ct,and_false→DI,true_and→Gi
open PySem.Value renaming ref→AA,type→A9,str→Br,int→Bt,none→Dr,isStrOf→Fp,bool→GK
open Option renaming map_eq_some_iff→AG,isSome_iff_exists→A2,some→Ch,map_some→EO,isSome_map→Ft
open Array renaming toList_append→A4,perm_iff_toList_perm→Bc,getElem?_eq_getElem→Bo,length_toList→Bq,getElem?_toList→B3,mapM_eq_mapM_toList→Ci,toList_push→CK,toList_reverse→DX,getElem?_eq_none→ES,toList_map→FQ
open PySem.Obj renaming mapSeq→A6,mapFields→C7,isFreed_of_fields→E8,data_mapFields→Fz,putSet→G7
open PySem.PassesOwn renaming never→A7
open PySem.F renaming plainAttrs_list→A8,type_list_append→BB,slot_list_append→BC,slot_dict_keyiterator_next→Dp,type_list_pop→DC,slot_list_pop→DD,args_tuple_add_2→En,called_set→Eo,plainAttrs_dict→Ev,entry_tuple_add→Ew,slot_tuple_add→EG,slot_dict_get→EM,slot_list_getattribute→ER
open PySem.PyData renaming hasDictAll→Bd,keyHash→Bp,str→BK,shown→Dh,hasDict→Dz,strOk→EJ,depth→EK,showable→EN,list→Gn
open PySem.NameKind renaming free→Bj,cell→DN
open PySem.Paired renaming length→Bx,snoc→BY
open List.Perm renaming append_left→BD,append_right→CS,trans→Dl
open PySem.Str renaming ofString→BF,length_append→DK
open Ne renaming symm→BX
open False renaming elim→BZ
open Int renaming toNat_natCast→B2,lt_of_le_of_lt→CD,le_refl→CN,mul_le_mul_of_nonneg_right→CV,emod_nonneg→Dv,ediv_nonneg→Dw,emod_lt_of_pos→Dy,zero_add→DO,toNat_of_nonneg→Ea,natCast_add→F7,ofNat_lt→Gw,ofNat→Hf
open PySem.Builtin.List renaming listItems→B6,listTooLong→Dc,listExtendWith→DQ,listUpdate→Ec
open PySem.Around renaming under_plainId→Co,under→Fv
open ForInStep renaming yield→Cp
open PySem.SetTable renaming fresh→Cv,grown→C6
open PySem.Heap.SameBut renaming update→CH
open PySem.Data renaming seq→CT,set→Em,fields→FZ,cell→G8
open Array.Perm renaming refl→CU
open PySem.Calls renaming callWith_builtin→CY,call_function_entry→Dm,spliced_cons→Eg,evalArgs_plain→E9,spliced_nil→FA
open PyProof.Rows.F renaming plain_set_update_loop→C2
open PySem.Builtin.Slice renaming slicePlaces→C3,sliceAdjust→DW
open PySem.Builtin.Tuple renaming tupleExact→Db
open True renaming intro→Dg
open List.Sublist renaming nodup→Dk
open List.Nodup renaming length_le_of_subset→DB
open PySem.SeqAt.EqAt renaming str_str→DY,same→Et
open PySem.Txt renaming slice→Eh,slice_le→E3
open PyProof.Rows.SortSt renaming mk'→EI
open PySem.Shared renaming TypeIs→Fh
open Prod renaming ext→FB
open PySem.Walks renaming list→F3
open PySem.SeqAt renaming EqAt→F4
open PySem.Moved renaming mono→F5
open PySem.Code renaming isFrame→Go
open PySem.Flow renaming ret→Gx
open PUnit renaming unit→GT
open Except renaming ok→GX
open Iff renaming trans→Hg
theorem Ia{c:Prop}{h:Decidable c}(n:¬c){α:Sort u}{t e:α}:ite c t e=e:=if_neg n
theorem Ib{c:Prop}{h:Decidable c}(n:c){α:Sort u}{t e:α}:ite c t e=t:=if_pos n
theorem Ic{p:Prop}[s:Decidable p](h:p):decide p=true:=decide_eq_true h
theorem Ie{p:Prop}[s:Decidable p](h:decide p=true):p:=of_decide_eq_true h
theorem Ig{α:Sort u}{β:Sort v}{γ:Sort w}{f:α→β→γ}:∀a b,f a b=f a b:=fun _ _=>rfl
abbrev Ih:=List (PySem.Addr×PySem.Obj)
namespace L2
open PySem PySem.Spec PyProof.Rows
inductive Ex3{α β γ:Type}(p:α→β→γ→Prop):Prop
 | mk (a:α) (b:β) (c:γ) (h:p a b c):Ex3 p
inductive Aw3(a b c:Prop):Prop
 | mk (h:a) (i:b) (j:c):Aw3 a b c
inductive Aw6(a b c d e f:Prop):Prop
 | mk (h:a) (i:b) (j:c) (k:d) (l:e) (m:f):Aw6 a b c d e f
theorem aDe{α:Type}{q:List α}(h:q.length=1):∃ z,q=[z]:=by
 cases q with
 | nil=>simp at h
 | cons z F=>
  cases F with
  | nil=>exact⟨z,rfl⟩
  | cons _ _=>simp at h
theorem iO{α:Type}{q:List α}(h:q.length=2):∃ z a1,q=[z,a1]:=by
 cases q with
 | nil=>simp at h
 | cons z J=>
  cases J with
  | nil=>simp at h
  | cons a1 F=>
   cases F with
   | nil=>exact⟨z,a1,rfl⟩
   | cons _ _=>simp at h
theorem aFj{α:Type}{q:List α}(h:q.length=3):∃ z a1 a2,q=[z,a1,a2]:=by
 cases q with
 | nil=>simp at h
 | cons z M=>
  cases M with
  | nil=>simp at h
  | cons a1 F=>
   cases F with
   | nil=>simp at h
   | cons a2 J=>
    cases J with
    | nil=>exact⟨z,a1,a2,rfl⟩
    | cons _ _=>simp at h
theorem aHS{α:Type}{q:List α}(h:q.length=4):∃ z a1 a2 a3,q=[z,a1,a2,a3]:=by
 cases q with
 | nil=>simp at h
 | cons z O=>
  cases O with
  | nil=>simp at h
  | cons a1 J=>
   cases J with
   | nil=>simp at h
   | cons a2 M=>
    cases M with
    | nil=>simp at h
    | cons a3 F=>
     cases F with
     | nil=>exact⟨z,a1,a2,a3,rfl⟩
     | cons _ _=>simp at h
theorem aIS{α:Type}{q:List α}(h:q.length=5):∃ z a1 a2 a3 a4,q=[z,a1,a2,a3,a4]:=by
 cases q with
 | nil=>simp at h
 | cons z Y=>
  cases Y with
  | nil=>simp at h
  | cons a1 J=>
   cases J with
   | nil=>simp at h
   | cons a2 M=>
    cases M with
    | nil=>simp at h
    | cons a3 F=>
     cases F with
     | nil=>simp at h
     | cons a4 O=>
      cases O with
      | nil=>exact⟨z,a1,a2,a3,a4,rfl⟩
      | cons _ _=>simp at h
abbrev Key:=Sum Int Str
def oP:Key→Ad→Bool
 | .inl k,v=>Value.isInt k v
 | .inr x,v=>Fp x v
def aGR(w:AT):Key→Int
 | .inl k=>hashInt k
 | .inr x=>hashStr w x
theorem dA:∀{k:Key}{v:Ad},oP k v=true→(∃ i t,k=Cg i∧v=Bt i t)∨(∃ x t,k=Ac x∧v=Br x t)
 | .inl i,v,h=>by
  obtain⟨t,e⟩:=Value.isInt_shape (k:=i) (v:=v) h;exact .inl ⟨i,t,rfl,e⟩
 | .inr x,v,h=>by
  obtain⟨t,e⟩:=Value.isStrOf_shape (x:=x) (v:=v) h;exact .inr ⟨x,t,rfl,e⟩
theorem aCs(i:Int)(t:Tok):oP (.inl i) (.int i t)=true:=by simp[oP,Value.isInt]
theorem aCt(x:Str)(t:Tok):oP (.inr x) (.str x t)=true:=by simp[oP,Fp]
theorem aGS(a b:Int):decide ((Cg a:Key)=Cg b)=(a == b):=by
 by_cases e:a=b
 ·subst e;simp
 ·have h:¬ (Cg a:Key)=Cg b:=fun q=>e (Cg.inj q);rw[decide_eq_false h];exact(beq_eq_false_iff_ne.mpr e).symm
theorem aGT(a b:Str):decide ((Ac a:Key)=Ac b)=decide (a=b):=by
 by_cases e:a=b
 ·subst e;simp
 ·have h:¬ (Ac a:Key)=Ac b:=fun q=>e (Ac.inj q);rw[decide_eq_false h,decide_eq_false e]
theorem aGU(a:Int)(b:Str):decide ((Cg a:Key)=Ac b)=false:=decide_eq_false (fun q=>nomatch q)
theorem aGV(a:Str)(b:Int):decide ((Ac a:Key)=Cg b)=false:=decide_eq_false (fun q=>nomatch q)
def cF(prog:AC)(w:AT):PySem.KeyKind prog w Key where
 is:=oP
 hash:=aGR w
 inj:=fun v a b ha hb=>by
  rcases dA ha with⟨i,t,rfl,rfl⟩ | ⟨x,t,rfl,rfl⟩
  ·rcases dA hb with⟨j,u,rfl,e⟩ | ⟨y,u,rfl,e⟩
   ·injection e with e1 _;rw[e1]
   ·exact nomatch e
  ·rcases dA hb with⟨j,u,rfl,e⟩ | ⟨y,u,rfl,e⟩
   ·exact nomatch e
   ·injection e with e1 _;rw[e1]
 byValue:=fun k v h=>by
  rcases dA h with⟨i,t,rfl,rfl⟩ | ⟨x,t,rfl,rfl⟩ <;> rfl
 pyHash:=fun hv h=>by
  rcases dA hv with⟨i,t,rfl,rfl⟩ | ⟨x,t,rfl,rfl⟩
  ·exact wpAny_pyHash_int h
  ·exact wpAny_pyHash_str h
 eqBool:=fun hu hv h=>by
  rcases dA hu with⟨i,t,rfl,rfl⟩ | ⟨x,t,rfl,rfl⟩
  ·rcases dA hv with⟨j,u,rfl,rfl⟩ | ⟨y,u,rfl,rfl⟩
   ·rw[aGS]at h;exact wpAny_eqBool_int h
   ·rw[aGU]at h;exact SeqAt.EqAt.int_str i t y u _ _ _ _ h
  ·rcases dA hv with⟨j,u,rfl,rfl⟩ | ⟨y,u,rfl,rfl⟩
   ·rw[aGV]at h;exact SeqAt.EqAt.str_int x t j u _ _ _ _ h
   ·rw[aGT]at h;exact wpAny_eqBool_str h
 «strs»:=fun k x t v h=>by
  rcases dA h with⟨i,u,rfl,e⟩ | ⟨y,u,rfl,e⟩
  ·exact nomatch e
  ·injection e with e1 _;subst e1;cases v <;> rfl
theorem xT(prog:AC)(w:AT)(i:Int)(t:Tok):(cF prog w).is (.inl i) (.int i t)=true:=aCs i t
theorem xU(prog:AC)(w:AT)(x:Str)(t:Tok):(cF prog w).is (.inr x) (.str x t)=true:=aCt x t
inductive V where
 | non | bl (b:Bool) | int (i:Int) | str (x:Str) | byt (b:Array UInt8) | flt (b:UInt64) | ref (a:Ae) | ty (n:String)
 deriving DecidableEq
def cG:V→Ad→Prop
 | .non,u=>u=Dr
 | .bl b,u=>u=GK b
 | .int i,u=>∃ t,u=Bt i t
 | .str x,u=>∃ t,u=Br x t
 | .byt b,u=>∃ t,u=Value.bytes b t
 | .flt b,u=>∃ t,u=Value.float b t
 | .ref a,u=>u=AA a
 | .ty n,u=>u=A9 n
abbrev bX:List V→List Ad→Prop:=By cG
theorem bX.length{xs:List V}{q:List Ad}(r:bX xs q):xs.length=q.length:=Bx r
theorem bX.get:∀{xs:List V}{q:List Ad}{i:Nat}{x:V},bX xs q→xs[i]?=some x→∃ u,q[i]?=some u∧cG x u
 | _,_,_,_,.nil,e=>by simp at e
 | _,_,0,_,.cons r _,e=>by simp at e;subst e;exact⟨_,rfl,r⟩
 | _,_,i + 1,x,.cons _ t,e=>by
  obtain⟨u,h1,h2⟩:=bX.get (i:=i) (x:=x) t (by simpa using e);exact⟨u,by simpa using h1,h2⟩
theorem bX.set{x:V}{u:Ad}(r:cG x u):∀{xs:List V}{z:List Ad} (i:Nat),bX xs z→bX (xs.set i x) (z.set i u)
 | _,_,_,.nil=>.nil
 | _,_,0,.cons _ t=>.cons r t
 | _,_,i + 1,.cons q t=>.cons q (bX.set r i t)
theorem bX.append:∀{xs ys:List V}{q ws:List Ad},bX xs q→bX ys ws→bX (xs ++ ys) (q ++ ws)
 | _,_,_,_,.nil,s=>s
 | _,_,_,_,.cons r t,s=>.cons r (bX.append t s)
theorem bX.take:∀{xs:List V}{q:List Ad} (n:Nat),bX xs q→bX (xs.take n) (q.take n)
 | _,_,0,_=>.nil
 | _,_,_ + 1,.nil=>.nil
 | _,_,n + 1,.cons r t=>.cons r (bX.take n t)
theorem bX.drop:∀{xs:List V}{q:List Ad} (n:Nat),bX xs q→bX (xs.drop n) (q.drop n)
 | _,_,0,r=>r
 | _,_,_ + 1,.nil=>.nil
 | _,_,n + 1,.cons _ t=>bX.drop n t
def lR:Option V→Option Ad→Prop
 | some v,some u=>cG v u
 | none,none=>True
 | _,_=>False
def KV{κ:Type}:List (κ×V)→List (κ×Ad)→Prop:=By fun(p:κ×V) (q:κ×Ad)=>p.1=q.1∧cG p.2 q.2
def kV:Key→V
 | .inl i=>.int i
 | .inr x=>.str x
inductive HO where
  | lst (xs:List V)
  | tup (xs:List V)
  | dK (iz:List (Key×V)) | dT (iz:List (List Key×V))
  | set (S:Int→Bool) (n:Nat)
  | ins (C dx:Ae) (fs:List (Str×V))
  | own (x:Ae)
  | xd (fs:List (Str×V))
  | met (f x:Ae)
  | rng (lo hi:Int)
  | frz (o:Obj) (u:HO)
  | tbl (ps:Array Ad)
  | ext (φ:Bi→Prop)
abbrev Hp:=Ae→Option HO
def upd(H:Hp)(a:Ae)(o:HO):Hp:=fun b=>if b=a then some o else H b
theorem aA{H:Hp}{a:Ae}{o:HO}:upd H a o a=some o:=by unfold upd;rw[Ib rfl]
theorem aG{H:Hp}{a b:Ae}{o:HO}(h:b≠a):upd H a o b=H b:=by unfold upd;rw[Ia h]
theorem aFk{H:Hp}{a:Ae}{o u:HO}:upd (upd H a o) a u=upd H a u:=by
 funext b;unfold upd;split <;> rfl
theorem bU{H:Hp}{a b:Ae}{o u:HO}(h:H a=some o)(h':H b=some u)(d:o≠u):a≠b:=by
 intro e;subst e;rw[h]at h';exact d (Ch.inj h')
theorem aJ{H:Hp}{a b:Ae}{o:HO}(h:H a=some o)(h':H b=none):a≠b:=by
 intro e;subst e;rw[h]at h';cases h'
section
variable(P:AC)(w:AT)
def lS(h:Bi)(a:Ae)(items:Array Ad):Prop:=∃ o,h.get? a=some o∧(o.cls=.type "tuple"∧∃ n,o.data=.seq items n)∧o.dict=none
theorem lS.tup{h:Bi}{a:Ae}{items:Array Ad}(x:lS h a items):EH h a items:=by
 obtain⟨o,e,c,_⟩:=x;exact⟨o,e,c⟩
instance lS.coe{h:Bi}{a:Ae}{items:Array Ad}:Coe (lS h a items) (EH h a items):=⟨lS.tup⟩
theorem lS.lt{h:Bi}{a:Ae}{items:Array Ad}(x:lS h a items):a < h.objs.size:=x.tup.lt
def cS(H:Hp)(h:Bi)(a:Ae):HO→Prop
 | .lst xs=>xs.length≤sizeLine∧∃(its:List Ad) (n:Nat),bX xs its∧h.get? a=some { cls:=.type "list",data:=.seq its.toArray n }
 | .tup xs=>xs.length≤sizeLine∧∃ its:List Ad,bX xs its∧lS h a its.toArray
 | .dK iz=>iz.length≤sizeLine∧(a == sysModules)=false∧∃ vs,KV iz vs∧h.DictOf (cF P w) a vs
 | .dT iz=>iz.length≤sizeLine∧(a == sysModules)=false∧∃ xs:List (List Key×Ae×Ad),
   By (fun(p:List Key×V) (q:List Key×Ae×Ad)=>p.1=q.1∧H q.2.1=some (.tup (p.1.map kV))∧cG p.2 q.2.2) iz xs∧
   ∃ o es ep,h.get? a=some o∧o.ExactDict∧o.data=.dict es ep∧es.toList=xs.map (entryOfKey (tupleKind (cF P w)))∧(xs.map (·.1)).Nodup
 | .set S n=>h.SetOf (intKind P w) a S n
 | .ins C dx fs=>H dx=some (.own a)∧fs.length≤1000∧dx≠a∧h.get? a=some (CG C dx)∧
   ∃ mA,h.Ns1 dx mA∧(∀ f,lR (fs.lookup f) (mA f))∧Gk mA (fs.map (·.1))
 | .own _=>∃ o,h.get? a=some o
 | .xd fs=>∃ mA,h.Ns1 a mA∧∀ f,lR (fs.lookup f) (mA f)
 | .rng lo hi=>∃ t u v,h.get? a=some { cls:=.type "range",data:=.fields #[.int lo t,.int hi u,.int 1 v] }
 | .frz o u=>h.get? a=some o∧cS H h a u
 | .tbl ps=>h.get? a=some { cls:=.none,data:=.fields ps }
 | .met f x=>h.get? a=some (Fs (.ref f) (.ref x))
 | .ext φ=>φ h∧(∃ o,h.get? a=some o)∧∀ h1 h2:Bi,φ h1→(∀ o,h1.get? a=some o→h2.get? a=some o)→φ h2
def HOk(H:Hp)(h:Bi):Prop:=∀ a o,H a=some o→cS P w H h a o
end
section
variable{P:AC}{w:AT}{H H':Hp}{h h':Bi}{a:Ae}{o:HO}
theorem cS.lt(x:cS P w H h a o):a < h.objs.size:=by
 cases o with
 | lst xs=>obtain⟨_,_,_,_,e⟩:=x;exact Au e
 | tup xs=>obtain⟨_,_,_,p⟩:=x;exact p.lt
 | dK iz=>obtain⟨_,_,_,_,o,_,_,e,_⟩:=x;exact Au e
 | dT iz=>obtain⟨_,_,_,_,o,_,_,e,_⟩:=x;exact Au e
 | set S n=>obtain⟨o,_,_,_,e,_⟩:=x;exact Au e
 | ins C dx fs=>obtain⟨_,_,_,e,_⟩:=x;exact Au e
 | own y=>obtain⟨_,e⟩:=x;exact Au e
 | xd fs=>obtain⟨_,⟨_,_,_,e,_⟩,_⟩:=x;exact Au e
 | rng lo hi=>obtain⟨_,_,_,e⟩:=x;exact Au e
 | frz ob u=>obtain⟨e,_⟩:=x;exact Au e
 | tbl ps=>exact Au (show h.get? a=some _ from x)
 | met f y=>exact Au (show h.get? a=some _ from x)
 | ext φ=>obtain⟨_,⟨_,e⟩,_⟩:=x;exact Au e
theorem Paired.mapP{α β:Type}{F G:α→β→Prop}:∀{l₁:List α}{l₂:List β},By F l₁ l₂→(∀ a b,F a b→G a b)→By G l₁ l₂
 | _,_,.nil,_=>.nil
 | _,_,.cons r t,f=>.cons (f _ _ r) (Paired.mapP t f)
theorem cS.stay(x:cS P w H h a o)(k:∀ b u,(b=a∨H b=some (.own a))→h.get? b=some u→h'.get? b=some u)
  (ho:∀ b,H b=some (.own a)→H' b=some (.own a)) (ht:∀ b xs,H b=some (.tup xs)→H' b=some (.tup xs)):cS P w H' h' a o:=by
 induction o with
 | lst xs=>obtain⟨z,its,n,r,e⟩:=x;exact⟨z,its,n,r,k _ _ (.inl rfl) e⟩
 | tup xs=>obtain⟨z,its,r,ob,e,c⟩:=x;exact⟨z,its,r,ob,k _ _ (.inl rfl) e,c⟩
 | dK iz=>obtain⟨z,y,vs,r,ob,es,ep,e,c⟩:=x;exact⟨z,y,vs,r,ob,es,ep,k _ _ (.inl rfl) e,c⟩
 | dT iz=>
  obtain⟨z,y,xs,r,ob,es,ep,e,c⟩:=x;exact⟨z,y,xs,Paired.mapP r fun p q z=>⟨z.1,ht _ _ z.2.1,z.2.2⟩,ob,es,ep,k _ _ (.inl rfl) e,c⟩
 | set S n=>obtain⟨ob,es,ep,t,e,c⟩:=x;exact⟨ob,es,ep,t,k _ _ (.inl rfl) e,c⟩
 | ins C dx fs=>
  obtain⟨d,z,ne,e,mA,⟨od,es,ep,e2,c⟩,r⟩:=x;exact⟨ho _ d,z,ne,k _ _ (.inl rfl) e,mA,⟨od,es,ep,k _ _ (.inr d) e2,c⟩,r⟩
 | own y=>obtain⟨ob,e⟩:=x;exact⟨ob,k _ _ (.inl rfl) e⟩
 | xd fs=>obtain⟨mA,⟨od,es,ep,e,c⟩,r⟩:=x;exact⟨mA,⟨od,es,ep,k _ _ (.inl rfl) e,c⟩,r⟩
 | rng lo hi=>obtain⟨t,u,v,e⟩:=x;exact⟨t,u,v,k _ _ (.inl rfl) e⟩
 | frz ob u F=>obtain⟨e,q⟩:=x;exact⟨k _ _ (.inl rfl) e,F q⟩
 | tbl ps=>
  have e:h.get? a=some { cls:=.none,data:=.fields ps }:=x;show h'.get? a=some { cls:=.none,data:=.fields ps };exact k a _ (.inl rfl) e
 | met f y=>
  have e:h.get? a=some (Fs (.ref f) (.ref y)):=x;show h'.get? a=some (Fs (.ref f) (.ref y));exact k a _ (.inl rfl) e
 | ext φ=>obtain⟨p,⟨o,e⟩,st⟩:=x;exact⟨st _ _ p fun o q=>k _ _ (.inl rfl) q,⟨o,k _ _ (.inl rfl) e⟩,st⟩
theorem HOk.lt(x:HOk P w H h)(e:H a=some o):a < h.objs.size:=(x a o e).lt
theorem HOk.fresh(x:HOk P w H h)(e:h.objs.size≤a):H a=none:=by
 cases q:H a with
 | none=>rfl
 | some u=>exact absurd (AX (x.lt q) e) (CO _)
theorem HOk.kept(x:HOk P w H h)(k:∀ b u,h.get? b=some u→h'.get? b=some u):HOk P w H h':=fun a o e=>
 (x a o e).stay (fun b u _ q=>k b u q) (fun _ q=>q) fun _ _ q=>q
theorem HOk.laid(x:HOk P w H h)(k:∀ b u,h.get? b=some u→h'.get? b=some u)(F:h.objs.size≤a)(new:cS P w (upd H a o) h' a o):HOk P w (upd H a o) h':=fun b u e=>by
 have hn:=x.fresh F;by_cases z:b=a
 ·subst z;rw[aA]at e;cases e;exact new
 ·rw[aG z]at e;exact(x b u e).stay (fun c v _ q=>k c v q) (fun c q=>by rw[aG (aJ q hn)];exact q) fun c xs q=>by rw[aG (aJ q hn)];exact q
end
def Rd(H:Hp)(a:Ae)(u:HO):Prop:=H a=some u∨∃ o,H a=some (.frz o u)
theorem Rd.ok{P:AC}{w:AT}{H:Hp}{h:Bi}{a:Ae}{u:HO}(r:Rd H a u)(x:HOk P w H h):cS P w H h a u:=by
 rcases r with r | ⟨o,r⟩
 ·exact x a u r
 ·obtain⟨_,q⟩:=x a _ r;exact q
def Mut:Option HO→Prop
 | some (.lst _)=>True
 | some (.dK _)=>True
 | some (.dT _)=>True
 | some (.set _ _)=>True
 | some (.ins _ _ _)=>True
 | some (.ext _)=>True
 | _=>False
section
variable{P:AC}{w:AT}{H:Hp}{h h':Bi}{x e:Ae}{o':HO}
theorem HOk.write(ok:HOk P w H h)(Y:Mut (H x))(he:e=x∨H e=some (.own x))(k:∀ b u,b≠e→h.get? b=some u→h'.get? b=some u)(Z:∃ u,h'.get? e=some u)
  (new:cS P w (upd H x o') h' x o'):HOk P w (upd H x o') h':=fun b u q=>by
 have J:∀ c y,H c=some (.own y)→c≠x:=fun c y r z=>by subst z;rw[r]at Y;exact Y
 have M:∀ c xs,H c=some (.tup xs)→c≠x:=fun c xs r z=>by subst z;rw[r]at Y;exact Y
 by_cases O:b=x
 ·subst O;rw[aA]at q;cases q;exact new
 ·rw[aG O]at q;by_cases F:b=e
  ·have q':H b=some (.own x):=by
    rcases he with z | z
    ·exact absurd (F.trans z) O
    ·rw[F];exact z
   rw[q]at q';cases q';obtain⟨v,hv⟩:=Z;exact⟨v,by rw[F];exact hv⟩
  ·refine(ok b u q).stay (fun c v hc r=>k c v ?_ r) (fun c r=>by rw[aG (J c b r)];exact r) fun c xs r=>by rw[aG (M c xs r)];exact r
   rcases hc with rfl | hc
   ·exact F
   ·rintro rfl;rcases he with z | z
    ·exact J c b hc z
    ·rw[hc]at z;cases z;exact O rfl
end
structure Un(fs ex:List Ae)(H H':Hp)(h h':Bi):Prop where
 keep:∀ b o,h.get? b=some o→H b=none→b ∉ fs→b ∉ ex→h'.get? b=some o
 slot:∀ b o,h.get? b=some o→H b=none→b∈fs→b ∉ ex→∃ sl,h'.get? b=some { o with slots:=sl }
 free:∀ b o,h.get? b=some o→H b=none→b ∉ ex→H' b=none
 there:∀ b o,h.get? b=some o→b ∉ ex→∃ o',h'.get? b=some o'
 tups:∀ b xs,H b=some (.tup xs)→H' b=some (.tup xs)
 frzs:∀ b o u,H b=some (.frz o u)→H' b=some (.frz o u)
 tbls:∀ b ps,H b=some (.tbl ps)→∃ more,H' b=some (.tbl (ps ++ more))
section
variable{fs jo ex ex':List Ae}{H H1 H2:Hp}{h h1 h2 h':Bi}{a x e:Ae}{o:HO}
theorem Un.any(u:Un fs ex H H1 h h1){b:Ae}{ob:Obj}(q:h.get? b=some ob)(n:H b=none)(z:b ∉ ex):∃ J,h1.get? b=some { ob with slots:=J }:=by
 by_cases F:b∈fs
 ·exact u.slot b ob q n F z
 ·exact⟨ob.slots,u.keep b ob q n F z⟩
theorem Un.kept(k:∀ b u,h.get? b=some u→h'.get? b=some u):Un fs ex H H h h':=
 ⟨fun b ob q _ _ _=>k b ob q,fun b ob q _ _ _=>⟨ob.slots,k b ob q⟩,fun _ _ _ n _=>n,fun b ob q _=>⟨ob,k b ob q⟩,fun _ _ q=>q,fun _ _ _ q=>q,fun _ ps q=>⟨#[],by rw[q];simp⟩⟩
theorem Un.refl:Un fs ex H H h h:=Un.kept fun _ _ q=>q
theorem Un.laid(k:∀ b u,h.get? b=some u→h'.get? b=some u)(z:h.objs.size≤a)(hn:H a=none):Un fs ex H (upd H a o) h h' where
 keep:=fun b u q _ _ _=>k b u q
 slot:=fun b u q _ _ _=>⟨u.slots,k b u q⟩
 free:=fun b u q n _=>by rw[aG (AB (AX (Au q) z))];exact n
 there:=fun b u q _=>⟨u,k b u q⟩
 tups:=fun b xs q=>by rw[aG (aJ q hn)];exact q
 frzs:=fun b u xs q=>by rw[aG (aJ q hn)];exact q
 tbls:=fun b ps q=>⟨#[],by rw[aG (aJ q hn),q];simp⟩
theorem Un.write(J:Mut (H x))(Z:e=x∨H e=some (.own x))(k:∀ b u,b≠e→h.get? b=some u→h'.get? b=some u)(M:∃ u,h'.get? e=some u):Un fs ex H (upd H x o) h h':=by
 have O:∀ b,H b=none→b≠x:=fun b n z=>by subst z;rw[n]at J;exact J
 have Y:∀ b,H b=none→b≠e:=fun b n z=>by
  subst z;rcases Z with r | r
  ·exact O b n r
  ·rw[n]at r;cases r
 have hm:∀ b u,H b=some u→¬ Mut (some u)→b≠x:=fun b u q nm z=>by subst z;rw[q]at J;exact nm J
 refine⟨fun b u q n _ _=>k b u (Y b n) q,fun b u q n _ _=>⟨u.slots,k b u (Y b n) q⟩,fun b u q n _=>by rw[aG (O b n)];exact n,fun b u q _=>?_,
  fun b xs q=>by rw[aG (hm b _ q fun z=>z)];exact q,fun b u xs q=>by rw[aG (hm b _ q fun z=>z)];exact q,fun b ps q=>⟨#[],by rw[aG (hm b _ q fun z=>z),q];simp⟩⟩
 by_cases F:b=e
 ·subst F;exact M
 ·exact⟨u,k b u F q⟩
end
def trk(h:Bi)(H:Hp):List Ae:=(AV h.objs.size).filter fun a=>(H a).isSome
def wG(h:Bi)(H:Hp):Bi:=PySem.W.hideAll h (trk h H)
theorem aCu(h:Bi)(H:Hp):(wG h H).objs.size=h.objs.size:=PySem.W.hideAll_size _ _
theorem rL{h:Bi}{H:Hp}{b:Ae}{o:Obj}(e:h.get? b=some o)(n:H b=none):(wG h H).get? b=some o:=
 PySem.W.hideAll_get _ e fun hm=>by
  have q:(H b).isSome=true:=(Bz.mp hm).2;rw[n]at q;simp at q
theorem aFl{h:Bi}{H:Hp}{b:Ae}{o:Obj}(e:(wG h H).get? b=some o):h.get? b=some o∧H b=none:=by
 have F:h.get? b=some o:=PySem.W.of_hideAll (trk h H) e;refine⟨F,?_⟩;cases q:H b with
 | none=>rfl
 | some x=>
  have hm:b∈trk h H:=Bz.mpr ⟨BU.mpr (Au F),by simp[q]⟩;have z:(wG h H).get? b=none:=PySem.W.hideAll_none (trk h H) hm;rw[z]at e;cases e
def aFm(g h:Bi)(L:Ae):List (Ae×Obj):=(AV h.objs.size).filterMap fun a=>if a=L∨(g.get? a).isSome=true then none else(h.get? a).map fun o=>(a,o)
def bZ(g h:Bi)(L d:Ae):List (Ae×Obj):=(aFm g h L).filter fun p=>decide (p.1≠d)
structure Mod(K:Ah)(mg:Str→Option Ad)(base:Bi):Prop where
 kin:K.In base
 glob:base.Ns mainGlobals mg
 blt:∃ mb,base.Ns builtinsNs mb∧∀ x:Str,x≠"__name__"→mb x=bootBuiltins x
 nolimit:base.NoLimit
structure Cx where
 prog:AC
 w:AT
 K:Ah
 mg:Str→Option Ad
 base:Bi
 A:AU
 N:List Str
 s₀:Ag
 H₀:Hp
 env:Env
 outer:List Env
 stack:List Env
 ex:List Ae
 fn:Str→Bool
 calm:Bool
 pn:List (Ae×Obj)
 xe:Ad→Ag→Prop
def frs(l:List Env):List Ae:=l.filterMap (·.frame)
abbrev Cx.fs(X:Cx):List Ae:=frs X.outer
def Vis(sc:CW)(x:Str):Prop:=sc.names.lookup x=some .local∨sc.names.lookup x=some .cell∨sc.names.lookup x=some .free
def Loc(sc:CW)(x:Str):Prop:=sc.names.lookup x=some .local∨sc.names.lookup x=some .cell
def aIT(env:Env)(h:Bi)(m:Str→Option Ad)(x:Str)(u:Ad):Prop:=
 (env.kindOf x=some .local∧m x=some u)∨((env.kindOf x=some .cell∨env.kindOf x=some .free)∧∃ c,env.cells.lookup x=some c∧h.IsCell c (some u))
structure Cx.Ok(X:Cx):Prop where
 mod:Mod X.K X.mg X.base
 kind:X.env.scope.kind=.function
 glob:X.env.globals=mainGlobals
 blt:X.env.builtins=builtinsNs
 above:X.s₀.heap.objs.size≤X.env.locals
 inj:∀ x y c,X.env.cells.lookup x=some c→X.env.cells.lookup y=some c→x=y
 has:∀ x,(X.env.kindOf x=some .cell∨X.env.kindOf x=some .free)→∃ c,X.env.cells.lookup x=some c
 cab:∀ x c,X.fn x=true→X.env.cells.lookup x=some c→X.s₀.heap.objs.size≤c
 hd:X.calm=true→X.A.handled=none
 frames:X.A.frames=some X.stack
 stk:X.stack=X.outer∨(X.stack=X.env :: X.outer∧X.env.frame=some X.env.locals)
 exf:∀ b∈X.ex,b≠X.env.locals∧∀ x c,X.env.cells.lookup x=some c→c≠b
 bs:∀ b o,X.base.get? b=some o→X.s₀.heap.get? b=some o∧X.H₀ b=none
 bsz:X.base.objs.size≤X.s₀.heap.objs.size
 noex:∀ b o,X.base.get? b=some o→b ∉ X.ex
 exfs:∀ b∈X.ex,b ∉ X.fs
 funs:X.s₀.heap.FunFrames X.base X.outer
 frf:∀ b∈X.fs,X.H₀ b=none
structure Inv(X:Cx)(gz:List (Ae×Obj))(σ:List (Option V))(H:Hp)(s:Ag):Prop where
 ok:X.Ok
 os:s.os=X.s₀.os
 bare:EC s.gens
 base:Un X.fs X.ex X.H₀ H X.s₀.heap s.heap
 loc:∃ m,s.heap.Ns X.env.locals m∧∀(i:Nat) (x:Str) (v:V),X.N[i]?=some x→σ[i]?=some (some v)→Vis X.env.scope x→∃ u,cG v u∧aIT X.env s.heap m x u
 cell:∀ x c,X.env.cells.lookup x=some c→∃ v,s.heap.IsCell c v
 free:H X.env.locals=none
 freeC:∀ x c,X.env.cells.lookup x=some c→H c=none
 pin:∀ p∈X.pn ++ gz,s.heap.get? p.1=some p.2∧H p.1=none∧p.1≠X.env.locals∧p.1 ∉ X.fs∧∀ v,p.2.data≠.cell v
 hok:HOk X.prog X.w H s.heap
 len:σ.length=X.N.length
section
variable{X:Cx}{gz:List (Ae×Obj)}{σ:List (Option V)}{H H':Hp}{s:Ag}{h':Bi}
theorem Cx.Ok.nofr(ok:X.Ok){b:Ae}{o:Obj}(e:X.base.get? b=some o):b ∉ X.fs:=fun q=>by
 have:=(ok.funs.mem q).1;rw[e]at this;cases this
theorem Inv.bs(I:Inv X gz σ H s):∀ b o,X.base.get? b=some o→s.heap.get? b=some o∧H b=none:=fun b o e=>
 ⟨I.base.keep b o (I.ok.bs b o e).1 (I.ok.bs b o e).2 (I.ok.nofr e) (I.ok.noex b o e),I.base.free b o (I.ok.bs b o e).1 (I.ok.bs b o e).2 (I.ok.noex b o e)⟩
theorem Inv.bk(I:Inv X gz σ H s):∀ b o,X.base.get? b=some o→s.heap.get? b=some o:=fun b o e=>(I.bs b o e).1
theorem Inv.mod(I:Inv X gz σ H s):Mod X.K X.mg X.base:=I.ok.mod
theorem Inv.kIn(I:Inv X gz σ H s):X.K.In s.heap:=I.ok.mod.kin.keeps I.bk
theorem Inv.nolimit(I:Inv X gz σ H s):s.heap.NoLimit:=I.ok.mod.nolimit.keeps I.bk
theorem Inv.lt(I:Inv X gz σ H s):X.env.locals < s.heap.objs.size:=let ⟨_,hn,_⟩:=I.loc;hn.lt
theorem Inv.sz(I:Inv X gz σ H s):X.s₀.heap.objs.size≤s.heap.objs.size:=AI I.ok.above (DM I.lt)
theorem Inv.nofs(I:Inv X gz σ H s){a:Ae}(h:s.heap.objs.size≤a):a ∉ X.fs:=fun q=>by
 obtain⟨_,o,ho,_⟩:=I.ok.funs.mem q;exact absurd (AX (Au ho) (AI I.sz h)) (CO _)
theorem Inv.cne(I:Inv X gz σ H s):∀ x c,X.env.cells.lookup x=some c→c≠X.env.locals:=fun x c e z=>by
 obtain⟨v,o,ho,hd⟩:=I.cell x c e;obtain⟨m,⟨o',es,ep,ho',hd',_⟩,_⟩:=I.loc;rw[z,ho']at ho;cases ho;rw[hd']at hd;cases hd
theorem Inv.funs(I:Inv X gz σ H s):s.heap.FunFrames X.base X.outer:=by
 have all:∀(l:List Env),(∀ b∈frs l,b∈X.fs)→X.s₀.heap.FunFrames X.base l→s.heap.FunFrames X.base l:=by
  intro l
  induction l with
  | nil=>intro _ _;trivial
  | cons env r J=>
   intro hs hl;obtain⟨hk,⟨L,o,hf,hn,ho,hd⟩,hr⟩:=hl;have F:L∈X.fs:=hs L (by unfold frs;rw[D7,hf];exact Al);obtain⟨sl,e⟩:=I.base.slot L o ho (I.ok.frf L F) F fun z=>I.ok.exfs L z F;exact⟨hk,⟨L,_,hf,hn,e,hd⟩,J (fun b q=>hs b (by unfold frs;rw[D7,hf];exact Ap _ q)) hr⟩
 exact all X.outer (fun _ q=>q) I.ok.funs
theorem Inv.stack(I:Inv X gz σ H s):s.heap.FunFrames X.base X.stack:=by
 rcases I.ok.stk with e | ⟨e,q⟩
 ·rw[e];exact I.funs
 ·rw[e];obtain⟨m,hn,_⟩:=I.loc;refine .cons (by rw[I.ok.kind];decide) q hn ?_ I.funs;exact Heap.get?_none_of_le (AI I.ok.bsz I.ok.above)
theorem Inv.stkSub(I:Inv X gz σ H s):∀ b∈frs X.stack,b∈X.env.locals :: X.fs:=fun b q=>by
 rcases I.ok.stk with e | ⟨e,z⟩
 ·rw[e]at q;exact Ap _ q
 ·rw[e]at q;unfold frs at q;rw[D7,z]at q;exact q
theorem Inv.stkFree(I:Inv X gz σ H s):∀ b∈frs X.stack,H b=none:=fun b q=>by
 rcases Ak.mp (I.stkSub b q)with e | q
 ·rw[e];exact I.free
 ·obtain⟨_,o,ho,_⟩:=I.ok.funs.mem q;exact I.base.free b o ho (I.ok.frf b q) fun z=>I.ok.exfs b z q
theorem Inv.step{g':Array F8}{t':Nat}{d':Drawn}{ch:List Ae}(I:Inv X gz σ H s)
  (M:∀ b∈ch,(b∈X.ex∨X.s₀.heap.objs.size≤b)∧b≠X.env.locals∧(∀ x c,X.env.cells.lookup x=some c→c≠b)∧∀ p∈X.pn ++ gz,p.1≠b)
  (keep:∀ b o,b≠X.env.locals→b ∉ X.fs→b ∉ ch→s.heap.get? b=some o→H b=none→h'.get? b=some o)
  (slot:∀ b o,b≠X.env.locals→b∈X.fs→b ∉ ch→s.heap.get? b=some o→H b=none→∃ sl,h'.get? b=some { o with slots:=sl }) (free:∀ b o,b ∉ ch→s.heap.get? b=some o→H b=none→H' b=none)
  (there:∀ b o,b ∉ ch→s.heap.get? b=some o→∃ o',h'.get? b=some o')
  (tups:∀ b xs,H b=some (.tup xs)→H' b=some (.tup xs)) (frzs:∀ b o u,H b=some (.frz o u)→H' b=some (.frz o u)) (tbls:∀ b ps,H b=some (.tbl ps)→∃ more,H' b=some (.tbl (ps ++ more)))
  (ns:∀ m,s.heap.Ns X.env.locals m→h'.Ns X.env.locals m) (hok:HOk X.prog X.w H' h') (hg:EC g'):
  Inv X gz σ H' { s with heap:=h',gens:=g',drawn:=d',toks:=t' }:=by
 have ab:∀ b o,X.s₀.heap.get? b=some o→b≠X.env.locals:=fun b o e=>AB (AX (Au e) I.ok.above);have Y:∀ b o,X.s₀.heap.get? b=some o→b ∉ X.ex→b ∉ ch:=fun b o e F hb=>by
  rcases(M b hb).1 with z | z
  ·exact F z
  ·exact absurd (AX (Au e) z) (CO _)
 have J:∀ x c,X.env.cells.lookup x=some c→∀ v,s.heap.IsCell c v→h'.IsCell c v:=fun x c e v ⟨o,ho,hd⟩=>by
  have O:c ∉ ch:=fun z=>(M c z).2.2.1 x c e rfl;by_cases hc:c∈X.fs
  ·obtain⟨sl,q⟩:=slot c o (I.cne x c e) hc O ho (I.freeC x c e);exact⟨_,q,hd⟩
  ·exact⟨o,keep c o (I.cne x c e) hc O ho (I.freeC x c e),hd⟩
 refine⟨I.ok,I.os,hg,⟨fun b o e n hb F=>?_,fun b o e n hb F=>?_,fun b o e n F=>?_,fun b o e F=>?_,fun b xs e=>tups b xs (I.base.tups b xs e),fun b o xs e=>frzs b o xs (I.base.frzs b o xs e),fun b ps e=>?_⟩,?_,fun x c e=>?_,?_,fun x c e=>?_,fun p hp=>?_,hok,I.len⟩
 ·exact keep b o (ab b o e) hb (Y b o e F) (I.base.keep b o e n hb F) (I.base.free b o e n F)
 ·obtain⟨sl,Z⟩:=I.base.slot b o e n hb F;obtain⟨sl',e2⟩:=slot b _ (ab b o e) hb (Y b o e F) Z (I.base.free b o e n F);exact⟨sl',e2⟩
 ·obtain⟨o',Z⟩:=I.base.there b o e F;exact free b o' (Y b o e F) Z (I.base.free b o e n F)
 ·obtain⟨o',Z⟩:=I.base.there b o e F;exact there b o' (Y b o e F) Z
 ·obtain⟨m1,Z⟩:=I.base.tbls b ps e;obtain⟨m2,e2⟩:=tbls b _ Z;exact⟨m1 ++ m2,by rw[e2,Array.append_assoc]⟩
 ·obtain⟨m,hn,hl⟩:=I.loc;refine⟨m,ns m hn,fun i x v Z e2 e3=>?_⟩;obtain⟨u,r,l⟩:=hl i x v Z e2 e3;refine⟨u,r,?_⟩;rcases l with l | ⟨k,c,e,z⟩
  ·exact .inl l
  ·exact .inr ⟨k,c,e,J x c e _ z⟩
 ·obtain⟨v,z⟩:=I.cell x c e;exact⟨v,J x c e v z⟩
 ·obtain⟨m,⟨o,_,_,ho,_⟩,_⟩:=I.loc;exact free _ o (fun z=>(M _ z).2.1 rfl) ho I.free
 ·obtain⟨v,o,ho,hd⟩:=I.cell x c e;exact free c o (fun z=>(M c z).2.2.1 x c e rfl) ho (I.freeC x c e)
 ·obtain⟨e,n,ne,nf,d⟩:=I.pin p hp;have O:p.1 ∉ ch:=fun z=>(M p.1 z).2.2.2 p hp rfl;exact⟨keep p.1 p.2 ne nf O e n,free p.1 p.2 O e n,ne,nf,d⟩
theorem Inv.un{t':Nat}(I:Inv X gz σ H s)(u:Un X.fs [] H H' s.heap h')(hok:HOk X.prog X.w H' h'):Inv X gz σ H' { s with heap:=h',toks:=t' }:=by
 obtain⟨m,⟨o,es,ep,ho,r⟩,_⟩:=id I.loc;obtain⟨sl,hL⟩:=u.any ho I.free (by simp);exact I.step (g':=s.gens) (d':=s.drawn) (ch:=[]) (fun _ z=>nomatch z) (fun b o _ q _ e n=>u.keep b o e n q (by simp)) (fun b o _ q _ e n=>u.slot b o e n q (by simp)) (fun b o _ e n=>u.free b o e n (by simp)) (fun b o _ e=>u.there b o e (by simp)) u.tups u.frzs u.tbls (fun F hm=>by
  obtain⟨o',es',ep',ho',r'⟩:=hm;rw[ho]at ho';cases ho';exact⟨_,es',ep',hL,r'⟩) hok I.bare
theorem Inv.call{g':Array F8}{t':Nat}{d':Drawn}{ch:List Ae}(I:Inv X gz σ H s)(u:Un (frs X.stack) ch H H' s.heap h')(hok:HOk X.prog X.w H' h')(J:EC g')
  (q:∀ b∈ch,(b∈X.ex∨X.s₀.heap.objs.size≤b)∧b≠X.env.locals∧(∀ x c,X.env.cells.lookup x=some c→c≠b)∧∀ p∈X.pn ++ gz,p.1≠b):
  Inv X gz σ H' { s with heap:=h',gens:=g',drawn:=d',toks:=t' }:=by
 obtain⟨m,⟨o,es,ep,ho,r⟩,_⟩:=id I.loc;obtain⟨sl,F⟩:=u.any ho I.free fun z=>(q _ z).2.1 rfl;exact I.step (ch:=ch) q (fun b o F M hc e n=>u.keep b o e n (fun z=>(Ak.mp (I.stkSub b z)).elim F M) hc) (fun b o _ _ hc e n=>u.any e n hc) (fun b o hc e n=>u.free b o e n hc) (fun b o hc e=>u.there b o e hc) u.tups u.frzs u.tbls (fun O hm=>by
  obtain⟨o',es',ep',ho',r'⟩:=hm;rw[ho]at ho';cases ho';exact⟨_,es',ep',F,r'⟩) hok J
theorem Inv.turned{t':Nat}{it:Ae}(I:Inv X gz σ H s)(k:∀ b o,b≠it→s.heap.get? b=some o→h'.get? b=some o)(hn:H it=none)(J:it≠X.env.locals)
  (h1:it∈X.ex∨X.s₀.heap.objs.size≤it) (h2:∀ x c,X.env.cells.lookup x=some c→c≠it) (M:∀ p∈X.pn ++ gz,p.1≠it):Inv X gz σ H { s with heap:=h',toks:=t' }:=by
 have F:∀ b u,H b=some u→b≠it:=fun b u e z=>by rw[z,hn]at e;cases e
 refine I.step (g':=s.gens) (d':=s.drawn) (ch:=[it]) (fun b O=>?_) (fun b o _ _ hc e _=>k b o (fun z=>hc (by simp[z])) e) (fun b o _ _ hc e _=>⟨o.slots,k b o (fun z=>hc (by simp[z])) e⟩) (fun _ _ _ _ n=>n)
  (fun b o hc e=>⟨o,k b o (fun z=>hc (by simp[z])) e⟩) (fun _ _ e=>e) (fun _ _ _ e=>e) (fun b ps e=>⟨#[],by rw[e];simp⟩) (fun m hm=>?_) (fun b u e=>?_) I.bare
 ·have e:b=it:=by simpa using O
  subst e;exact⟨h1,J,h2,M⟩
 ·obtain⟨o,es,ep,ho,r⟩:=hm;exact⟨o,es,ep,k _ o (BX J) ho,r⟩
 ·refine(I.hok b u e).stay (fun c v hc q=>k c v ?_ q) (fun _ q=>q) fun _ _ q=>q;rcases hc with z | z
  ·rw[z];exact F b u e
  ·exact F c _ z
theorem Inv.tok(I:Inv X gz σ H s)(t:Nat):Inv X gz σ H { s with toks:=t }:=I.un (h':=s.heap) (t':=t) Un.refl I.hok
theorem Inv.kept{t':Nat}(I:Inv X gz σ H s)(k:∀ b u,s.heap.get? b=some u→h'.get? b=some u):Inv X gz σ H { s with heap:=h',toks:=t' }:=I.un (Un.kept k) (I.hok.kept k)
theorem Inv.laid{a:Ae}{o:HO}{t':Nat}(I:Inv X gz σ H s)(k:∀ b u,s.heap.get? b=some u→h'.get? b=some u)(q:s.heap.objs.size≤a)(new:cS X.prog X.w (upd H a o) h' a o):
  Inv X gz σ (upd H a o) { s with heap:=h',toks:=t' }:=I.un (Un.laid k q (I.hok.fresh q)) (I.hok.laid k q new)
theorem Inv.write{x e:Ae}{o:HO}{t':Nat}(I:Inv X gz σ H s)(z:Mut (H x))(F:e=x∨H e=some (.own x))(k:∀ b u,b≠e→s.heap.get? b=some u→h'.get? b=some u)(q:∃ u,h'.get? e=some u)
  (new:cS X.prog X.w (upd H x o) h' x o):Inv X gz σ (upd H x o) { s with heap:=h',toks:=t' }:=I.un (Un.write z F k q) (I.hok.write z F k q new)
theorem Inv.pins_of{q:List (Ae×Obj)}(I:Inv X gz σ H s)(h:∀ p∈q,s.heap.get? p.1=some p.2∧H p.1=none∧p.1≠X.env.locals∧p.1 ∉ X.fs∧∀ v,p.2.data≠.cell v):Inv X q σ H s:=
 ⟨I.ok,I.os,I.bare,I.base,I.loc,I.cell,I.free,I.freeC,fun p F=>(AS.mp F).elim (fun z=>I.pin p (BV _ z)) (h p),I.hok,I.len⟩
theorem xV{N:List Str}(hN:N.Nodup){i j:Nat}{x:Str}(a:N[i]?=some x)(b:N[j]?=some x):i=j:=by
 obtain⟨h1,e1⟩:=At.mp a;obtain⟨h2,e2⟩:=At.mp b;exact(FS hN).mp (e1.trans e2.symm)
theorem uR{M:He}{A:AU}{E:Ad→Ag→Prop}{i:Nat}{x:Str}{v:V}{u:Ad}{Q:Unit→Ag→Prop}(I:Inv X gz σ H s)(hN:X.N.Nodup)(hi:X.N[i]?=some x)(O:Loc X.env.scope x)(r:cG v u)
  (h:∀ s',Inv X gz (σ.set i (some v)) H s'→(∃ a,Eb a s.heap s'.heap∧(a=X.env.locals∨X.env.cells.lookup x=some a))→Q () s') (hf:X.fn x=true∨X.env.scope.names.lookup x=some .local:=by first | exact .inl rfl | exact .inr rfl | assumption):wpAny M A (storeName X.env x u) Q E s:=by
 obtain⟨m,hn,hl⟩:=id I.loc;have ae:(X.env.scope.kind == .class || (X.env.scope.kind == .module && X.env.locals != X.env.globals))=false:=by rw[I.ok.kind];rfl
 have ah:i < σ.length:=by rw[I.len];exact(At.mp hi).1
 have cne:=I.cne;have F:∀{a:Ae} {h':Bi},(∃ o,s.heap.get? a=some o∧H a=none)→Eb a s.heap h'→HOk X.prog X.w H h':=fun{a h'} ha hs b ob e=>by
  obtain⟨_,_,hfree⟩:=ha;refine(I.hok b ob e).stay (fun c w' hc q=>(hs.2 c ?_).trans q) (fun _ q=>q) fun _ _ q=>q;rintro rfl;rcases hc with rfl | hc
  ·rw[hfree]at e;cases e
  ·rw[hfree]at hc;cases hc
 rcases O with Z | Z
 ·refine wpAny_storeName_local Z hn (fun h' an hs=>?_) ae;obtain⟨oL,_,_,hoL,_⟩:=id hn;refine h _ ⟨I.ok,I.os,I.bare,⟨fun b o e n hb O=>?_,fun b o e n hb O=>?_,I.base.free,fun b o e O=>?_,I.base.tups,I.base.frzs,I.base.tbls⟩,⟨_,an,fun j y v' J Y e3=>?_⟩,fun y c e=>?_,I.free,I.freeC,fun p hp=>?_,F ⟨oL,hoL,I.free⟩ hs,by simpa using I.len⟩ ⟨_,hs,.inl rfl⟩
  ·exact(hs.2 b (AB (AX (Au e) I.ok.above))).trans (I.base.keep b o e n hb O)
  ·obtain⟨sl,J⟩:=I.base.slot b o e n hb O;exact⟨sl,(hs.2 b (AB (AX (Au e) I.ok.above))).trans J⟩
  ·obtain⟨o',J⟩:=I.base.there b o e O;exact⟨o',(hs.2 b (AB (AX (Au e) I.ok.above))).trans J⟩
  ·by_cases hj:j=i
   ·subst hj;rw[hi]at J;cases J;rw[EW ah]at Y;cases Y;exact⟨u,r,.inl ⟨Z,by simp⟩⟩
   ·rw[List.getElem?_set_ne (BX hj)]at Y;obtain⟨u',r',q⟩:=hl j y v' J Y e3;refine⟨u',r',?_⟩;rcases q with⟨k,e⟩ | ⟨k,c,e,z⟩
    ·refine .inl ⟨k,?_⟩;have:y≠x:=fun e=>hj (xV hN J (e ▸ hi));simp[this,e]
    ·exact .inr ⟨k,c,e,z.sameBut hs (cne y c e)⟩
  ·obtain⟨w',z⟩:=I.cell y c e;exact⟨w',z.sameBut hs (cne y c e)⟩
  ·obtain⟨e,n,ne,nf,d⟩:=I.pin p hp;exact⟨(hs.2 p.1 ne).trans e,n,ne,nf,d⟩
 ·have ad:X.fn x=true:=by
   rcases hf with z | z
   ·exact z
   ·rw[z]at Z;cases Z
  obtain⟨c,hc⟩:=I.ok.has x (.inl Z);obtain⟨w',z⟩:=I.cell x c hc;refine wpAny_storeName_cell I.ok.kind Z hc z (fun h' af hs=>?_);obtain⟨oc,hoc,hocd⟩:=id z;refine h { s with heap:=h' } ⟨I.ok,I.os,I.bare,⟨fun b o e n hb O=>?_,fun b o e n hb O=>?_,I.base.free,fun b o e O=>?_,I.base.tups,I.base.frzs,I.base.tbls⟩,⟨m,hn.sameBut hs (BX (cne x c hc)),fun j y v' J Y e3=>?_⟩,fun y c' e=>?_,I.free,I.freeC,fun p hp=>?_,F ⟨oc,hoc,I.freeC x c hc⟩ hs,by simpa using I.len⟩ ⟨c,hs,.inr hc⟩
  ·exact(hs.2 b (AB (AX (Au e) (I.ok.cab x c ad hc)))).trans (I.base.keep b o e n hb O)
  ·obtain⟨sl,J⟩:=I.base.slot b o e n hb O;exact⟨sl,(hs.2 b (AB (AX (Au e) (I.ok.cab x c ad hc)))).trans J⟩
  ·obtain⟨o',J⟩:=I.base.there b o e O;exact⟨o',(hs.2 b (AB (AX (Au e) (I.ok.cab x c ad hc)))).trans J⟩
  ·by_cases hj:j=i
   ·subst hj;rw[hi]at J;cases J;rw[EW ah]at Y;cases Y;exact⟨u,r,.inr ⟨.inl Z,c,hc,af⟩⟩
   ·rw[List.getElem?_set_ne (BX hj)]at Y;obtain⟨u',r',q⟩:=hl j y v' J Y e3;refine⟨u',r',?_⟩;rcases q with q | ⟨k,c',e,z'⟩
    ·exact .inl q
    ·refine .inr ⟨k,c',e,z'.sameBut hs ?_⟩;rintro rfl;exact hj (xV hN J (I.ok.inj _ _ _ e hc ▸ hi))
  ·by_cases ag:c'=c
   ·subst ag;exact⟨_,af⟩
   ·obtain⟨w2,z2⟩:=I.cell y c' e;exact⟨w2,z2.sameBut hs ag⟩
  ·obtain⟨e,n,ne,nf,d⟩:=I.pin p hp;refine⟨(hs.2 p.1 ?_).trans e,n,ne,nf,d⟩;intro q;rw[q,hoc]at e;have q':oc=p.2:=Ch.inj e;exact d w' (by rw[← q'];exact hocd)
theorem lT{M:He}{A:AU}{E:Ad→Ag→Prop}{i:Nat}{x:Str}{v:V}{u:Ad}{Q:Unit→Ag→Prop}(I:Inv X gz σ H s)(hN:X.N.Nodup)(hi:X.N[i]?=some x)(q:Loc X.env.scope x)(r:cG v u)
  (h:∀ s',Inv X gz (σ.set i (some v)) H s'→Q () s') (z:X.fn x=true∨X.env.scope.names.lookup x=some .local:=by first | exact .inl rfl | exact .inr rfl | assumption):wpAny M A (storeName X.env x u) Q E s:=
 uR I hN hi q r (fun s' F _=>h s' F) z
theorem Inv.call'{s':Ag}{ch:List Ae}(I:Inv X gz σ H s)(ho:s'.os=s.os)(u:Un (frs X.stack) ch H H' s.heap s'.heap)(hok:HOk X.prog X.w H' s'.heap)(z:EC s'.gens)
  (q:∀ b∈ch,(b∈X.ex∨X.s₀.heap.objs.size≤b)∧b≠X.env.locals∧(∀ x c,X.env.cells.lookup x=some c→c≠b)∧∀ p∈X.pn ++ gz,p.1≠b):Inv X gz σ H' s':=by
 obtain⟨h',g',d',t',o'⟩:=s';have e:o'=s.os:=ho;subst e;exact I.call (g':=g') (t':=t') (d':=d') u hok z q
end
abbrev XK:=Ad→Option Ae→Hp→Prop
abbrev St:=List (Option V)
abbrev VK:=V→Hp→Prop
abbrev TE:=St→Hp→VK→Prop
abbrev TT:=St→Hp→(Bool→Hp→Prop)→Prop
abbrev TA:=St→Hp→(List V→Hp→Prop)→Prop
structure Ends where
 nx:St→Hp→Prop
 rt:VK
 bk:St→Hp→Prop:=fun _ _=>False
 ct:St→Hp→Prop:=fun _ _=>False
abbrev TS:=Ends→St→Hp→Prop
inductive aHT(X:Cx)(gz:List (Ae×Obj))(σ:St)(Q:VK)(u:Ad)(s':Ag):Prop
 | mk (v:_) (H':_) (q0:Inv X gz σ H' s') (q1:cG v u) (q2:Q v H'):aHT X gz σ Q u s'
def EP(X:Cx)(gz:List (Ae×Obj))(σ:St)(Q:VK)(u:Ad)(s':Ag):Prop:=aHT X gz σ Q u s'
def TP(X:Cx)(gz:List (Ae×Obj))(σ:St)(Q:Bool→Hp→Prop)(b:Bool)(s':Ag):Prop:=∃ H',Inv X gz σ H' s'∧Q b H'
inductive aHU(X:Cx)(gz:List (Ae×Obj))(σ:St)(Q:List V→Hp→Prop)(us:List Ad)(s':Ag):Prop
 | mk (vs:_) (H':_) (q0:Inv X gz σ H' s') (q1:bX vs us) (q2:Q vs H'):aHU X gz σ Q us s'
def AP(X:Cx)(gz:List (Ae×Obj))(σ:St)(Q:List V→Hp→Prop)(us:List Ad)(s':Ag):Prop:=aHU X gz σ Q us s'
def SP(X:Cx)(gz:List (Ae×Obj))(D:Ends)(f:Flow)(s':Ag):Prop:=
 match f with
 | .next=>∃ σ' H',Inv X gz σ' H' s'∧D.nx σ' H'
 | .brk=>∃ σ' H',Inv X gz σ' H' s'∧D.bk σ' H'
 | .cont=>∃ σ' H',Inv X gz σ' H' s'∧D.ct σ' H'
 | .ret u=>∃ v σ' H',Inv X gz σ' H' s'∧cG v u∧D.rt v H'
structure PE(X:Cx)(e:Be)(t:TE):Prop where
 run:
  ∀(gz:List (Ae×Obj)) (s:Ag) (σ:St) (H:Hp) (Q:VK),Inv X gz σ H s→t σ H Q→wpAny (model X.prog X.w) X.A (eval e X.env) (EP X gz σ Q) X.xe s
instance{X:Cx}{e:Be}{t:TE}:CoeFun (PE X e t) (fun _=>
 ∀(gz:List (Ae×Obj)) (s:Ag) (σ:St) (H:Hp) (Q:VK),Inv X gz σ H s→t σ H Q→wpAny (model X.prog X.w) X.A (eval e X.env) (EP X gz σ Q) X.xe s):=⟨fun h=>h.run⟩
structure PT(X:Cx)(e:Be)(t:TT):Prop where
 run:
  ∀(gz:List (Ae×Obj)) (s:Ag) (σ:St) (H:Hp) (Q:Bool→Hp→Prop),Inv X gz σ H s→t σ H Q→wpAny (model X.prog X.w) X.A (isTrue e X.env (eval e X.env)) (TP X gz σ Q) X.xe s
instance{X:Cx}{e:Be}{t:TT}:CoeFun (PT X e t) (fun _=>
 ∀(gz:List (Ae×Obj)) (s:Ag) (σ:St) (H:Hp) (Q:Bool→Hp→Prop),Inv X gz σ H s→t σ H Q→wpAny (model X.prog X.w) X.A (isTrue e X.env (eval e X.env)) (TP X gz σ Q) X.xe s):=⟨fun h=>h.run⟩
structure PW(X:Cx)(e:Be)(t:TT):Prop where
 run:
  ∀(whole:Sem Ad) (gz:List (Ae×Obj)) (s:Ag) (σ:St) (H:Hp) (Q:Bool→Hp→Prop),Inv X gz σ H s→t σ H Q→wpAny (model X.prog X.w) X.A (isTrue e X.env whole) (TP X gz σ Q) X.xe s
instance{X:Cx}{e:Be}{t:TT}:CoeFun (PW X e t) (fun _=>
 ∀(whole:Sem Ad) (gz:List (Ae×Obj)) (s:Ag) (σ:St) (H:Hp) (Q:Bool→Hp→Prop),Inv X gz σ H s→t σ H Q→wpAny (model X.prog X.w) X.A (isTrue e X.env whole) (TP X gz σ Q) X.xe s):=⟨fun h=>h.run⟩
theorem PW.pt{X:Cx}{e:Be}{t:TT}(h:PW X e t):PT X e t:=⟨h.run _⟩
structure PA(X:Cx)(es:List Be)(t:TA):Prop where
 run:
  ∀(pos:Pos) (gz:List (Ae×Obj)) (s:Ag) (σ:St) (H:Hp) (Q:List V→Hp→Prop),Inv X gz σ H s→t σ H Q→wpAny (model X.prog X.w) X.A (spliced (backTo pos (starEach es X.env))) (AP X gz σ Q) X.xe s
instance{X:Cx}{es:List Be}{t:TA}:CoeFun (PA X es t) (fun _=>
 ∀(pos:Pos) (gz:List (Ae×Obj)) (s:Ag) (σ:St) (H:Hp) (Q:List V→Hp→Prop),Inv X gz σ H s→t σ H Q→wpAny (model X.prog X.w) X.A (spliced (backTo pos (starEach es X.env))) (AP X gz σ Q) X.xe s):=⟨fun h=>h.run⟩
structure PS(X:Cx)(st:Cc)(t:TS):Prop where
 run:
  ∀(gz:List (Ae×Obj)) (s:Ag) (σ:St) (H:Hp) (D:Ends),Inv X gz σ H s→t D σ H→wpAny (model X.prog X.w) X.A (exec st X.env) (SP X gz D) X.xe s
instance{X:Cx}{st:Cc}{t:TS}:CoeFun (PS X st t) (fun _=>
 ∀(gz:List (Ae×Obj)) (s:Ag) (σ:St) (H:Hp) (D:Ends),Inv X gz σ H s→t D σ H→wpAny (model X.prog X.w) X.A (exec st X.env) (SP X gz D) X.xe s):=⟨fun h=>h.run⟩
structure PSs(X:Cx)(st:List Cc)(t:TS):Prop where
 run:
  ∀(gz:List (Ae×Obj)) (s:Ag) (σ:St) (H:Hp) (D:Ends),Inv X gz σ H s→t D σ H→wpAny (model X.prog X.w) X.A (execs st X.env) (SP X gz D) X.xe s
instance{X:Cx}{st:List Cc}{t:TS}:CoeFun (PSs X st t) (fun _=>
 ∀(gz:List (Ae×Obj)) (s:Ag) (σ:St) (H:Hp) (D:Ends),Inv X gz σ H s→t D σ H→wpAny (model X.prog X.w) X.A (execs st X.env) (SP X gz D) X.xe s):=⟨fun h=>h.run⟩
theorem thn{α:Type}{t:Sem α}{Q q:α→Ag→Prop}{M:He}{A:AU}{E:Ad→Ag→Prop}{s:Ag}(h:wpAny M A t Q E s)(z:∀ a s,Q a s→q a s):wpAny M A t q E s:=Ck h z fun _ _ x=>x
section
variable{X:Cx}
inductive aDf(i:Nat)(σ:St)(H:Hp)(Q:VK):Prop
 | mk (v:_) (q0:σ[i]?=some (some v)) (q1:Q v H):aDf i σ H Q
def aHV(i:Nat):TE:=fun σ H Q=>aDf i σ H Q
def tC(v:V):TE:=fun _ H Q=>Q v H
theorem aGW{i:Nat}{x:Str}{pos:Pos}(hN:X.N[i]?=some x)(hv:Vis X.env.scope x)(hd:(x == ("__debug__":Str))=false:=by decide)(z:(x == ("__classdict__":Str))=false:=by decide):PE X (.Name x pos) (aHV i):=by
 constructor;intro gz s σ H Q I h;obtain⟨v,e,h⟩:=h;obtain⟨m,hn,hl⟩:=I.loc;obtain⟨u,r,l⟩:=hl i x v hN e hv;have fin:EP X gz σ Q u s:=⟨v,H,I,r,h⟩
 rcases l with⟨q,hm⟩ | ⟨q,c,hc,hcell⟩
 ·exact wpAny_Name (wpAny_loadName_local I.ok.kind q hn hm fin) hd
 ·rcases q with q | q
  ·exact wpAny_Name (wpAny_loadName_cell I.ok.kind q hc hcell fin) hd
  ·exact wpAny_Name (wpAny_loadName_free I.ok.kind q hc hcell fin z) hd
theorem aD{i j pos}:PE X (.Constant (.int i) j pos) (tC (.int i)):=⟨fun _ _ _ H _ I h=>wpAny_Constant_int ⟨.int i,H,I.tok _,⟨_,rfl⟩,h⟩⟩
theorem aBm{b j pos}:PE X (.Constant (.bool b) j pos) (tC (.bl b)):=⟨fun _ _ _ H _ I h=>Constant_bool ⟨.bl b,H,I,rfl,h⟩⟩
theorem aGX{j pos}:PE X (.Constant .none j pos) (tC .non):=⟨fun _ _ _ H _ I h=>Constant_none ⟨.non,H,I,rfl,h⟩⟩
theorem aN{x j pos}:PE X (.Constant (.str x) j pos) (tC (.str x)):=⟨fun _ _ _ H _ I h=>Calls.Constant_str ⟨.str x,H,I.tok _,⟨_,rfl⟩,h⟩⟩
def Gl(X:Cx)(x:Str):Prop:=X.env.kindOf x=some .globalImplicit
theorem wH{E:Ad→Ag→Prop}{gz:List (Ae×Obj)}{s:Ag}{σ:St}{H:Hp}{x:Str}{u:Ad}{pos:Pos}{Q:Ad→Ag→Prop}(I:Inv X gz σ H s)(q:Gl X x)(hm:X.mg x=some u)(h:Q u s)
  (hd:(x == ("__debug__":Str))=false:=by decide):wpAny (model X.prog X.w) X.A (eval (.Name x pos) X.env) Q E s:=
 Calls.Name_function_global I.ok.kind q (Calls.loadGlobal_global (by rw[I.ok.glob];exact I.mod.glob.keeps I.bk) hm h) hd
theorem wI{E:Ad→Ag→Prop}{gz:List (Ae×Obj)}{s:Ag}{σ:St}{H:Hp}{x:Str}{u:Ad}{pos:Pos}{Q:Ad→Ag→Prop}(I:Inv X gz σ H s)(q:Gl X x)(hm:X.mg x=none)(hv:bootBuiltins x=some u)(h:Q u s)
  (hn:x≠"__name__":=by decide) (hd:(x == ("__debug__":Str))=false:=by decide):wpAny (model X.prog X.w) X.A (eval (.Name x pos) X.env) Q E s:=by
 obtain⟨mb,h1,h2⟩:=I.mod.blt;exact Calls.Name_function_global I.ok.kind q (Calls.loadGlobal_builtin (by rw[I.ok.glob];exact I.mod.glob.keeps I.bk) hm (by rw[I.ok.blt];exact h1.keeps I.bk) ((h2 x hn).trans hv) h) hd
theorem aFn{x:Str}{v:V}{u:Ad}{pos:Pos}(q:Gl X x)(hm:X.mg x=some u)(r:cG v u)(hd:(x == ("__debug__":Str))=false:=by decide):PE X (.Name x pos) (tC v):=
 ⟨fun _ _ _ H _ I h=>wH I q hm ⟨v,H,I,r,h⟩ hd⟩
variable{a b:Be}{ta tb:TE}{pos:Pos}
structure PC(X:Cx)(op:Hh)(a b:Be)(t:TE):Prop where
 run:
  ∀(gz:List (Ae×Obj)) (s:Ag) (σ:St) (H:Hp) (Q:VK),Inv X gz σ H s→t σ H Q→
   wpAny (model X.prog X.w) X.A (eval a X.env) (fun v s₁=>wpAny (model X.prog X.w) X.A (eval b X.env) (fun u s₂=>wpAny (model X.prog X.w) X.A (compareOp op v u) (EP X gz σ Q) X.xe s₂) X.xe s₁) X.xe s
instance{X:Cx}{op:Hh}{a b:Be}{t:TE}:CoeFun (PC X op a b t) (fun _=>
 ∀(gz:List (Ae×Obj)) (s:Ag) (σ:St) (H:Hp) (Q:VK),Inv X gz σ H s→t σ H Q→
  wpAny (model X.prog X.w) X.A (eval a X.env) (fun v s₁=>wpAny (model X.prog X.w) X.A (eval b X.env) (fun u s₂=>wpAny (model X.prog X.w) X.A (compareOp op v u) (EP X gz σ Q) X.xe s₂) X.xe s₁) X.xe s):=⟨fun h=>h.run⟩
inductive As{α:Type}(f:α→V)(x:V)(Q:α→Prop):Prop
 | mk (c:α) (h:x=f c) (q:Q c):As f x Q
def tB(t:TE):TT:=fun σ H Q=>t σ H fun x H1=>As V.bl x fun c=>Q c H1
theorem aAr{op:Hh}{t:TE}(h:PC X op a b t)(h1:behindInMarks op b=false:=by first | exact nobehind _ (by decide) (by decide) | rfl):PE X (.Compare a [op] [b] pos) t:=⟨fun gz s σ H Q I hw=>wpAny_Compare1 (h gz s σ H Q I hw) h1⟩
theorem iU{op:Hh}{t:TE}(h:PC X op a b t)(h1:behindInMarks op b=false:=by first | exact nobehind _ (by decide) (by decide) | rfl):PT X (.Compare a [op] [b] pos) (tB t):=by
 constructor;intro gz s σ H Q I hw;refine wpAny_isTrue_Compare1 (thn (h gz s σ H _ I hw) fun v s1 h1=>thn h1 fun u s2 h2=>thn h2 fun c M ⟨x,H1,z,F,J⟩=>?_) h1;obtain⟨d,rfl,q⟩:=J;cases F;exact CQ ⟨H1,z,q⟩
theorem pU{e:Be}{t:TE}(h:PE X e t)(O:∀ z,isTrue e X.env z=(do let v ← z;standAt e.pos;holding [v] (truthy v)):=by intro _;rfl):PT X e (tB t):=by
 constructor;intro gz s σ H Q I hw;refine isTrue_plain (thn (h gz s σ H _ I hw) fun v s1 ⟨x,H1,F,J,M⟩=>?_) (O _);obtain⟨d,rfl,q⟩:=M;cases J;exact CQ ⟨H1,F,q⟩
variable{tA jp:TT}{bZ:List Be}
def aIU(t u:TT):TT:=fun σ H Q=>t σ H fun c H1=>if c=true then u σ H1 Q else Q false H1
def tOr(t u:TT):TT:=fun σ H Q=>t σ H fun c H1=>if c=true then Q true H1 else u σ H1 Q
def aIV(t:TT):TT:=fun σ H Q=>t σ H fun c H1=>Q (!c) H1
theorem gF(ha:PT X a tA):PW X (.BoolOp .And [a] pos) tA:=by
 constructor;intro wh gz s σ H Q I h;refine isTrue_and (thn (ha gz s σ H Q I h) fun c s1 e=>?_);cases c with
 | true=>exact isTrue_and_nil e
 | false=>exact e
theorem wJ(ha:PT X a tA):PW X (.BoolOp .Or [a] pos) tA:=by
 constructor;intro wh gz s σ H Q I h;refine isTrue_or (thn (ha gz s σ H Q I h) fun c s1 e=>?_);cases c with
 | false=>exact isTrue_or_nil e
 | true=>exact e
theorem iH(ha:PT X a tA)(F:PW X (.BoolOp .And (b :: bZ) pos) jp):PW X (.BoolOp .And (a :: b :: bZ) pos) (aIU tA jp):=by
 constructor;intro wh gz s σ H Q I h;refine isTrue_and (thn (ha gz s σ H _ I h) fun c s1 ⟨H1,z,q⟩=>?_);cases c with
 | true=>exact F wh gz s1 σ H1 Q z q
 | false=>exact⟨H1,z,q⟩
theorem xW(ha:PT X a tA)(F:PW X (.BoolOp .Or (b :: bZ) pos) jp):PW X (.BoolOp .Or (a :: b :: bZ) pos) (tOr tA jp):=by
 constructor;intro wh gz s σ H Q I h;refine isTrue_or (thn (ha gz s σ H _ I h) fun c s1 ⟨H1,z,q⟩=>?_);cases c with
 | true=>exact⟨H1,z,q⟩
 | false=>exact F wh gz s1 σ H1 Q z q
theorem wK(ha:PT X a tA):PT X (.UnaryOp .Not a pos) (aIV tA):=by
 constructor;intro gz s σ H Q I h;exact isTrue_not (ha gz s σ H (fun c H1=>Q (!c) H1) I h)
def aHW(ta tb:TE):TE:=fun σ H Q=>ta σ H fun x H1=>As V.bl x fun c=>if c=true then tb σ H1 Q else Q (.bl false) H1
theorem aDg{op}{t:TE}(h:PE X a t):PE X (.BoolOp op [a] pos) t:=⟨fun gz s σ H Q I hw=>BoolOp_one (h gz s σ H Q I hw)⟩
theorem aDh(ha:PE X a ta)(J:PE X (.BoolOp .And (b :: bZ) pos) tb):PE X (.BoolOp .And (a :: b :: bZ) pos) (aHW ta tb):=by
 constructor;intro gz s σ H Q I h;refine BoolOp_and (thn (ha gz s σ H _ I h) fun v s1 ⟨x,H1,z,F,q⟩=>?_);obtain⟨c,rfl,q⟩:=q;cases F;refine CQ ?_;cases c with
 | true=>exact J gz s1 σ H1 Q z q
 | false=>exact⟨.bl false,H1,z,rfl,q⟩
def tIf(t:TT)(ta tb:TE):TE:=fun σ H Q=>t σ H fun c H1=>if c=true then ta σ H1 Q else tb σ H1 Q
theorem aDi{c:Be}(hc:PT X c tA)(ha:PE X a ta)(F:PE X b tb):PE X (.IfExp c a b pos) (tIf tA ta tb):=by
 constructor;intro gz s σ H Q I h;refine wpAny_IfExp (thn (hc gz s σ H _ I h) fun d s1 ⟨H1,z,q⟩=>?_);cases d with
 | true=>exact ha gz s1 σ H1 Q z q
 | false=>exact F gz s1 σ H1 Q z q
end
def SqL(K:Ah)(H:Hp)(a:Ae)(xs:List V):Prop:=
 Rd H a (.lst xs)∨
  ∃(o:Obj) (its:Array Ad) (n:Nat),K.lookup a=some o∧o.cls=.type "list"∧o.dict=none∧o.data=.seq its n∧its.size≤sizeLine∧bX xs its.toList
def SqT(K:Ah)(H:Hp)(a:Ae)(xs:List V):Prop:=
 Rd H a (.tup xs)∨
  ∃(o:Obj) (its:Array Ad) (n:Nat),K.lookup a=some o∧o.cls=.type "tuple"∧o.data=.seq its n∧its.size≤sizeLine∧bX xs its.toList
def aIW:Ad→Option V
 | .none=>some .non
 | .bool b=>some (.bl b)
 | .int i _=>some (.int i)
 | .str x _=>some (.str x)
 | .bytes b _=>some (.byt b)
 | .float b _=>some (.flt b)
 | .ref a=>some (.ref a)
 | .type n=>some (.ty n)
 | _=>none
theorem cG.abs{x:V}{u:Ad}(r:cG x u):aIW u=some x:=by
 cases x with
 | non=>cases r;rfl
 | bl _=>cases r;rfl
 | int _=>obtain⟨t,rfl⟩:=r;rfl
 | str _=>obtain⟨t,rfl⟩:=r;rfl
 | byt _=>obtain⟨t,rfl⟩:=r;rfl
 | flt _=>obtain⟨t,rfl⟩:=r;rfl
 | ref _=>cases r;rfl
 | ty _=>cases r;rfl
theorem cG.inj{x y:V}{u:Ad}(r:cG x u)(q:cG y u):x=y:=Ch.inj (r.abs.symm.trans q.abs)
theorem bX.inj:∀{xs ys:List V}{q:List Ad},bX xs q→bX ys q→xs=ys
 | _,_,_,.nil,.nil=>rfl
 | _,_,_,.cons r t,.cons z t'=>by rw[r.inj z,bX.inj t t']
section
variable{X:Cx}{gz:List (Ae×Obj)}{σ:St}{H:Hp}{s:Ag}{a:Ae}{xs ys:List V}
theorem aY{K:Ah}(h:H a=some (.lst xs)):SqL K H a xs:=.inl (.inl h)
theorem aH{K:Ah}(h:H a=some (.tup xs)):SqT K H a xs:=.inl (.inl h)
theorem Inv.list(I:Inv X gz σ H s)(h:SqL X.K H a xs):∃ its:List Ad,bX xs its∧PlainL s.heap a its.toArray∧xs.length≤sizeLine:=by
 rcases h with h | ⟨o,its,n,q,hc,hd,hs,F,r⟩
 ·obtain⟨z,its,n,r,e⟩:=h.ok I.hok;exact⟨its,r,⟨_,n,e,rfl,rfl,rfl⟩,z⟩
 ·refine⟨its.toList,r,⟨o,n,I.kIn a o q,hc,hd,by simpa using hs⟩,?_⟩;have e:=r.length;simp only[Bq]at e;omega
theorem Inv.tuple(I:Inv X gz σ H s)(h:SqT X.K H a xs):∃ its:List Ad,bX xs its∧EH s.heap a its.toArray∧xs.length≤sizeLine:=by
 rcases h with h | ⟨o,its,n,q,hc,hs,F,r⟩
 ·obtain⟨z,its,r,p⟩:=h.ok I.hok;exact⟨its,r,p.tup,z⟩
 ·refine⟨its.toList,r,⟨o,I.kIn a o q,hc,n,by simpa using hs⟩,?_⟩;have e:=r.length;simp only[Bq]at e;omega
theorem Inv.list_inj(I:Inv X gz σ H s)(h:SqL X.K H a xs)(h':SqL X.K H a ys):xs=ys:=by
 obtain⟨its,r,⟨o,n,e,_,_,d⟩,_⟩:=I.list h;obtain⟨its',r',⟨o',n',e',_,_,d'⟩,_⟩:=I.list h';rw[e]at e';cases e';rw[d]at d';injection d' with d1 _;have:its=its':=by simpa using congrArg Array.toList d1
 subst this;exact r.inj r'
theorem Inv.tuple_inj(I:Inv X gz σ H s)(h:SqT X.K H a xs)(h':SqT X.K H a ys):xs=ys:=by
 obtain⟨its,r,⟨o,e,_,n,d⟩,_⟩:=I.tuple h;obtain⟨its',r',⟨o',e',_,n',d'⟩,_⟩:=I.tuple h';rw[e]at e';cases e';rw[d]at d';injection d' with d1 _;have:its=its':=by simpa using congrArg Array.toList d1
 subst this;exact r.inj r'
end
abbrev Cx.wish(X:Cx)(E:Ad→Ag→Prop):Cx:={ X with xe:=E }
abbrev Cx.nox(X:Cx):Cx:=X.wish fun _ _=>False
theorem Cx.Ok.wish{X:Cx}(ok:X.Ok)(E:Ad→Ag→Prop):(X.wish E).Ok:=
 ⟨ok.mod,ok.kind,ok.glob,ok.blt,ok.above,ok.inj,ok.has,ok.cab,ok.hd,ok.frames,ok.stk,ok.exf,ok.bs,ok.bsz,ok.noex,ok.exfs,ok.funs,ok.frf⟩
theorem Cx.Ok.unwish{X:Cx}{E:Ad→Ag→Prop}(ok:(X.wish E).Ok):X.Ok:=
 ⟨ok.mod,ok.kind,ok.glob,ok.blt,ok.above,ok.inj,ok.has,ok.cab,ok.hd,ok.frames,ok.stk,ok.exf,ok.bs,ok.bsz,ok.noex,ok.exfs,ok.funs,ok.frf⟩
section
variable{X:Cx}{gz:List (Ae×Obj)}{σ:St}{H:Hp}{s:Ag}{E:Ad→Ag→Prop}
theorem Inv.wish(I:Inv X gz σ H s)(E:Ad→Ag→Prop):Inv (X.wish E) gz σ H s:=⟨I.ok.wish E,I.os,I.bare,I.base,I.loc,I.cell,I.free,I.freeC,I.pin,I.hok,I.len⟩
theorem Inv.unwish(I:Inv (X.wish E) gz σ H s):Inv X gz σ H s:=⟨I.ok.unwish,I.os,I.bare,I.base,I.loc,I.cell,I.free,I.freeC,I.pin,I.hok,I.len⟩
theorem SP.unwish{D:Ends}{f:Flow}{s':Ag}(h:SP (X.wish E) gz D f s'):SP X gz D f s':=by
 cases f with
 | next=>obtain⟨σ',H',I,q⟩:=h;exact⟨σ',H',I.unwish,q⟩
 | brk=>obtain⟨σ',H',I,q⟩:=h;exact⟨σ',H',I.unwish,q⟩
 | cont=>obtain⟨σ',H',I,q⟩:=h;exact⟨σ',H',I.unwish,q⟩
 | ret u=>obtain⟨v,σ',H',I,r,q⟩:=h;exact⟨v,σ',H',I.unwish,r,q⟩
theorem PSs.nox{st:List Cc}{t:TS}(h:PSs X.nox st t):PSs X st t:=⟨fun gz s σ H D I hw=>
 Ck (h gz s σ H D (I.wish _) hw) (fun _ _ q=>q.unwish) fun _ _ z=>BZ z⟩
end
section
variable{X:Cx}{st:Cc}{bZ:List Cc}{t u:TS}{e:Be}{te:TE}{pos:Pos}
def aHX:TS:=fun D σ H=>D.nx σ H
def aGY(t u:TS):TS:=fun D σ H=>t { D with nx:=u D } σ H
theorem bB:PSs X [] aHX:=⟨fun _ _ σ H _ I h=>Fn ⟨σ,H,I,h⟩⟩
theorem aB(h1:PS X st t)(h2:PSs X bZ u):PSs X (st :: bZ) (aGY t u):=by
 constructor;intro gz s σ H D I h;refine wpAny_execs_cons (thn (h1 gz s σ H { D with nx:=u D } I h) fun f s1 q=>?_);cases f with
 | next=>
  obtain⟨σ',H',I',q⟩:=q;exact h2 gz s1 σ' H' D I' q
 | ret v=>exact q
 | brk=>exact q
 | cont=>exact q
theorem aM(h1:PS X st t):PSs X [st] t:=by
 constructor;intro gz s σ H D I h;refine wpAny_execs_cons (thn (h1 gz s σ H D I h) fun f s1 q=>?_);cases f with
 | next=>exact Fn q
 | ret v=>exact q
 | brk=>exact q
 | cont=>exact q
theorem Inv.quiet{gz:List (Ae×Obj)}{σ:St}{H:Hp}{s:Ag}(I:Inv X gz σ H s):interactive X.env=false:=by simp[interactive,I.ok.kind]
def aHY(te:TE):TS:=fun D σ H=>te σ H fun _ H1=>D.nx σ H1
theorem dP(z:PE X e te)(hs:swapsWith e none pos.line X.env=pure false:=by rfl):PS X (.Expr e pos) (aHY te):=by
 constructor;intro gz s σ H D I h;exact wpAny_Expr_any (thn (z gz s σ H _ I h) fun v s1 ⟨x,H1,F,J,q⟩=>⟨σ,H1,F,q⟩) I.quiet hs
def aIX(te:TE):TS:=fun D σ H=>te σ H D.rt
theorem bF(F:PE X e te):PS X (.Return (some e) pos) (aIX te):=by
 constructor;intro gz s σ H D I h;exact wpAny_Return_some (thn (F gz s σ H _ I h) fun v s1 ⟨x,H1,J,z,q⟩=>⟨x,σ,H1,J,z,q⟩)
def aIY(c:TT)(t u:TS):TS:=fun D σ H=>c σ H fun b H1=>if b=true then t D σ H1 else u D σ H1
theorem cC{c:Be}{a b:List Cc}{tc:TT}(hc:PT X c tc)(ha:PSs X a t)(F:PSs X b u):PS X (.If c a b pos) (aIY tc t u):=by
 constructor;intro gz s σ H D I h;refine wpAny_If (thn (hc gz s σ H _ I h) fun d s1 ⟨H1,q,z⟩=>?_);cases d with
 | true=>exact ha gz s1 σ H1 D q z
 | false=>exact F gz s1 σ H1 D q z
end
abbrev TG:=V→St→Hp→(St→Hp→Prop)→Prop
abbrev TGs:=List V→St→Hp→(St→Hp→Prop)→Prop
structure PG(X:Cx)(target:Be)(t:TG):Prop where
 run:
  ∀(gz:List (Ae×Obj)) (s:Ag) (σ:St) (H:Hp) (v:V) (u:Ad) (Q:St→Hp→Prop),Inv X gz σ H s→cG v u→t v σ H Q→
   wpAny (model X.prog X.w) X.A (assign target X.env u) (fun _ s'=>∃ σ' H',Inv X gz σ' H' s'∧Q σ' H') X.xe s
instance{X:Cx}{target:Be}{t:TG}:CoeFun (PG X target t) (fun _=>
 ∀(gz:List (Ae×Obj)) (s:Ag) (σ:St) (H:Hp) (v:V) (u:Ad) (Q:St→Hp→Prop),Inv X gz σ H s→cG v u→t v σ H Q→
  wpAny (model X.prog X.w) X.A (assign target X.env u) (fun _ s'=>∃ σ' H',Inv X gz σ' H' s'∧Q σ' H') X.xe s):=⟨fun h=>h.run⟩
structure PGs(X:Cx)(ts:List Be)(t:TGs):Prop where
 run:
  ∀(gz:List (Ae×Obj)) (s:Ag) (σ:St) (H:Hp) (vs:List V) (us:List Ad) (Q:St→Hp→Prop),Inv X gz σ H s→bX vs us→t vs σ H Q→
   wpAny (model X.prog X.w) X.A (assignInOrder ((assignEach ts X.env).map (·.2)) us) (fun _ s'=>∃ σ' H',Inv X gz σ' H' s'∧Q σ' H') X.xe s
instance{X:Cx}{ts:List Be}{t:TGs}:CoeFun (PGs X ts t) (fun _=>
 ∀(gz:List (Ae×Obj)) (s:Ag) (σ:St) (H:Hp) (vs:List V) (us:List Ad) (Q:St→Hp→Prop),Inv X gz σ H s→bX vs us→t vs σ H Q→
  wpAny (model X.prog X.w) X.A (assignInOrder ((assignEach ts X.env).map (·.2)) us) (fun _ s'=>∃ σ' H',Inv X gz σ' H' s'∧Q σ' H') X.xe s):=⟨fun h=>h.run⟩
abbrev aGZ:=V→V→V→Hp→(Hp→Prop)→Prop
def aHZ(X:Cx)(t:aGZ):Prop:=
 ∀(gz:List (Ae×Obj)) (s:Ag) (σ:St) (H:Hp) (o i v:V) (ov iv u:Ad) (Q:Hp→Prop),Inv X gz σ H s→cG o ov→cG i iv→cG v u→t o i v H Q→
  wpAny (model X.prog X.w) X.A (setItem ov iv u) (fun _ s'=>∃ H',Inv X gz σ H' s'∧Q H') X.xe s
abbrev TIp:=V→V→Hp→VK→Prop
def PIp(X:Cx)(op:Operator)(t:TIp):Prop:=
 ∀(gz:List (Ae×Obj)) (s:Ag) (σ:St) (H:Hp) (x y:V) (v u:Ad) (Q:VK),Inv X gz σ H s→cG x v→cG y u→t x y H Q→
  wpAny (model X.prog X.w) X.A (inplaceOp op v u) (EP X gz σ Q) X.xe s
section
variable{X:Cx}{pos:Pos}
def aU(i:Nat):TG:=fun v σ H Q=>Q (σ.set i (some v)) H
theorem aR{i:Nat}{x:Str}(hN:X.N.Nodup)(hi:X.N[i]?=some x)(q:Loc X.env.scope x)(z:X.fn x=true∨X.env.scope.names.lookup x=some .local:=by first | exact .inl rfl | exact .inr rfl | assumption):PG X (.Name x pos) (aU i):=by
 constructor;intro gz s σ H v u Q I r h;exact wpAny_assign_Name (lT I hN hi q r (fun s' F=>⟨_,H,F,h⟩) z)
def qS:TGs:=fun vs σ H Q=>vs=[]∧Q σ H
inductive aBn(t:TG)(u:TGs)(vs:List V)(σ:St)(H:Hp)(Q:(St→Hp→Prop)):Prop
 | mk (v:_) (r:_) (q0:vs=v :: r) (q1:t v σ H fun σ' H'=>u r σ' H' Q):aBn t u vs σ H Q
def c7(t:TG)(u:TGs):TGs:=fun vs σ H Q=>aBn t u vs σ H Q
theorem dU:PGs X [] qS:=by
 constructor;intro gz s σ H vs q Q I r h;obtain⟨e,h⟩:=h;subst e;cases r;exact assignInOrder_nil ⟨σ,H,I,h⟩
theorem bH{e:Be}{es:List Be}{t:TG}{u:TGs}(h1:PG X e t)(h2:PGs X es u)
  (hs:(assignEach (e :: es) X.env).map (·.2)=assign e X.env :: (assignEach es X.env).map (·.2):=by rfl):PGs X (e :: es) (c7 t u):=by
 constructor;intro gz s σ H vs M Q I r h;obtain⟨v,vr,e1,h⟩:=h;subst e1;cases r with
 | cons r F=>
  rw[hs];refine FW (thn (h1 gz s σ H _ _ _ I r h) fun _ s1 ⟨z,H1,q,J⟩=>?_);exact h2 gz s1 z H1 _ _ Q q F J
inductive aDj(K:Ah)(n:Nat)(t:TGs)(v:V)(σ:St)(H:Hp)(Q:(St→Hp→Prop)):Prop
 | mk (a:_) (xs:_) (q0:v=.ref a) (q1:SqT K H a xs) (q2:xs.length=n) (q3:t xs σ H Q):aDj K n t v σ H Q
def qU(K:Ah)(n:Nat)(t:TGs):TG:=fun v σ H Q=>aDj K n t v σ H Q
theorem fJ{es:List Be}{k:Nat}{t:TGs}{n:Nat}(hc:X.calm=true)(h:PGs X es t)
  (hn:(assignEach es X.env).length=n:=by rfl) (q:(assignEach es X.env).findIdx? (·.1)=none:=by rfl):PG X (.Tuple es k pos) (qU X.K n t):=by
 constructor;intro gz s σ H v u Q I r hw;obtain⟨a,xs,e1,hq,hl,hw⟩:=hw;subst e1;cases r;obtain⟨its,rv,ht,hz⟩:=I.tuple hq;refine assign_Tuple_tuple (I.ok.hd hc) ht (by simp[hn,← hl,rv.length]) q fun h' F=>?_;have z:Inv X gz σ H { s with heap:=h' }:=I.kept (t':=s.toks) fun b o e=>F b o (AB (Au e)) e;exact h gz _ σ H xs _ Q z (by simpa using rv) hw
def aIZ(to ti:TE)(t:aGZ):TG:=fun v σ H Q=>to σ H fun o H1=>ti σ H1 fun i H2=>t o i v H2 fun H3=>Q σ H3
theorem pV{o i:Be}{to F:TE}{t:aGZ}(ho:PE X o to)(hi:PE X i F)(hs:aHZ X t)
  (ha:∀ v,assign (.Subscript o i pos) X.env v=(do
   let q ← holding [v] (eval o X.env)
   let z ← holding [v,q] (eval i X.env)
   standAt pos
   holding [v,q,z] (setItem q z v)
   release [v,q,z] []):=by intro _;rfl):PG X (.Subscript o i pos) (aIZ to F t):=by
 constructor;intro gz s σ H v u Q I r h;rw[ha];refine Ab (Bh (thn (ho gz s σ H _ I h) fun q s1 ⟨x,H1,M,O,q1⟩=>?_));refine Ab (Bh (thn (hi gz s1 σ H1 _ M q1) fun z s2 ⟨y,H2,Z,J,q2⟩=>?_));refine Ab (EZ (Ab (Bh (thn (hs gz s2 σ H2 x y v q z u _ Z O J r q2) fun _ s3 ⟨H3,Y,q3⟩=>?_))));exact wpAny_release ⟨σ,H3,Y,q3⟩
def aG0(te:TE)(g:TG):TS:=fun D σ H=>te σ H fun x H1=>g x σ H1 D.nx
theorem iV{tg e:Be}{te:TE}{g:TG}(O:PE X e te)(z:PG X tg g)(hs:swapsWithSole [tg] e pos.line X.env=pure false:=by rfl)(hw:swappedStores [tg] e X.env=pure none:=by rfl)
  (h1:(assignEach [tg] X.env).map (·.2)=[assign tg X.env]:=by rfl):PS X (.Assign [tg] e pos) (aG0 te g):=by
 constructor;intro gz s σ H D I h;refine wpAny_Assign_stores (thn (O gz s σ H _ I h) fun v s1 ⟨x,H1,F,J,M⟩=>?_) hs hw;rw[h1];exact thn (z gz s1 σ H1 x v _ F J M) fun _ s2 q=>q
theorem aX{i:Nat}{x:Str}{e:Be}{te:TE}{jl:Pos}(hN:X.N.Nodup)(hi:X.N[i]?=some x)(J:Loc X.env.scope x)(Y:PE X e te)(hs:swapsWith e (some (.Name x jl)) pos.line X.env=pure false:=by rfl)(O:X.fn x=true∨X.env.scope.names.lookup x=some .local:=by first | exact .inl rfl | exact .inr rfl | assumption):
  PS X (.Assign [.Name x jl] e pos) (aG0 te (aU i)):=by
 constructor;intro gz s σ H D I h;refine wpAny_Assign_Name (thn (Y gz s σ H _ I h) fun v s1 ⟨y,H1,q,z,M⟩=>?_) hs;exact lT q hN hi J z (fun s2 F=>⟨_,H1,F,M⟩) O
def aI0(i j:Nat)(ta:TA):TS:=fun D σ H=>ta σ H fun vs H1=>∃ v w,vs=[v,w]∧D.nx ((σ.set i (some v)).set j (some w)) H1
theorem aAs{i j:Nat}{x y:Str}{a b:Be}{ta:TA}{J Y pt:Pos}{kt k2 pt2}(hc:X.calm=true)(hN:X.N.Nodup)(hi:X.N[i]?=some x)(hj:X.N[j]?=some y)(Z:i≠j)
  (hx:X.env.scope.names.lookup x=some .local) (hy:X.env.scope.names.lookup y=some .local) (ha:PA X [a,b] ta)
  (hw:swappedStores [.Tuple [.Name x J,.Name y Y] kt pt] (.Tuple [a,b] k2 pt2) X.env=pure (some [x,y]))
  (hs:swapsWithSole [.Tuple [.Name x J,.Name y Y] kt pt] (.Tuple [a,b] k2 pt2) pos.line X.env=pure false:=by rfl):
  PS X (.Assign [.Tuple [.Name x J,.Name y Y] kt pt] (.Tuple [a,b] k2 pt2) pos) (aI0 i j ta):=by
 constructor;intro gz s σ H D I h;rw[exec_Assign_arm];refine Ab (EZ ?_);rw[hs];refine Ab (Af ?_);rw[Ia (by decide)];refine Ab (Tuple_ (thn (ha _ gz s σ H _ I h) fun us s1 ⟨vs,H1,I1,r1,O⟩=>?_));obtain⟨v,w,e1,O⟩:=O;subst e1;obtain⟨z,F,rfl,rv,rw'⟩:∃ z F,us=[z,F]∧cG v z∧cG w F:=by
  cases r1 with
  | cons p q=>
   cases q with
   | cons p' q'=>
    cases q';exact⟨_,_,rfl,p,p'⟩
 refine B4 ?_ (by show 2≤sizeLine;decide);have I2:Inv X gz σ H1 { s1 with heap:=s1.heap.push { cls:=.type "tuple",data:=.seq [z,F].toArray } }:=I1.kept (t':=s1.toks) fun b o e=>Aj _ e;rw[hw];refine Ab (Af ?_);show wpAny (model X.prog X.w) X.A (do rule "assign.swapped-stores";let items ← unpackItems (.ref s1.heap.objs.size) 2 none;assignInOrder [fun v=>bindName X.env y v,fun v=>bindName X.env x v] items.reverse;pure Flow.next) _ _ _;refine Ab (Cb (Ab (unpackItems_tuple (items:=#[z,F]) (I.ok.hd hc) (IsTup.new s1.heap _) fun h' M=>?_)));have I3:=I2.kept (h':=h') (t':=s1.toks) fun b o e=>M b o (AB (Au e)) e;show wpAny _ _ (assignInOrder [fun v=>bindName X.env y v,fun v=>bindName X.env x v] [F,z] >>= fun _=>pure Flow.next) _ _ _;refine Ab (FW (wpAny_bindName (lT I3 hN hj (.inl hy) rw' (fun s2 I4=>?_) (.inr hy))));refine FW (wpAny_bindName (lT I4 hN hi (.inl hx) rv (fun s3 I5=>assignInOrder_nil (Af ?_)) (.inr hx)));rw[List.set_comm _ _ (BX Z)]at I5;exact⟨_,H1,I5,O⟩
inductive aDk(i:Nat)(te:TE)(ti:TIp)(D:Ends)(σ:St)(H:Hp):Prop
 | mk (x:_) (q0:σ[i]?=some (some x)) (q1:te σ H fun y H1=>ti x y H1 fun z H2=>D.nx (σ.set i (some z)) H2):aDk i te ti D σ H
def aI1(i:Nat)(te:TE)(ti:TIp):TS:=fun D σ H=>aDk i te ti D σ H
theorem aDl{i:Nat}{x:Str}{e:Be}{te:TE}{op:Operator}{M:TIp}{jl:Pos}(hN:X.N.Nodup)(hi:X.N[i]?=some x)(F:Loc X.env.scope x)(he:PE X e te)(ho:PIp X op M)(hf:X.fn x=true∨X.env.scope.names.lookup x=some .local:=by first | exact .inl rfl | exact .inr rfl | assumption):
  PS X (.AugAssign (.Name x jl) op e pos) (aI1 i te M):=by
 constructor;intro gz s σ H D I h;obtain⟨v,e1,h⟩:=h;obtain⟨m,hn,hl⟩:=I.loc;have J:Vis X.env.scope x:=by rcases F with k | k;exact .inl k;exact .inr (.inl k)
 obtain⟨u,r,l⟩:=hl i x v hi e1 J;refine wpAny_AugAssign_Name ?_;have go:wpAny (model X.prog X.w) X.A (eval e X.env) (fun w s₂=>wpAny (model X.prog X.w) X.A (inplaceOp op u w) (fun r O=>wpAny (model X.prog X.w) X.A (storeName X.env x r) (fun _=>SP X gz D .next) X.xe O) X.xe s₂) X.xe s:=by
  refine thn (he gz s σ H _ I h) fun w s1 ⟨y,H1,Z,r1,q1⟩=>?_;refine thn (ho gz s1 σ H1 v y u w _ Z r r1 q1) fun z s2 ⟨zv,H2,I2,Y,q2⟩=>?_;exact lT I2 hN hi F Y (fun s3 I3=>⟨_,H2,I3,q2⟩) hf
 rcases l with⟨q,hm⟩ | ⟨q,c,hc,hcell⟩
 ·exact wpAny_loadName_local I.ok.kind q hn hm go
 ·rcases q with q | q
  ·exact wpAny_loadName_cell I.ok.kind q hc hcell go
  ·rcases F with k | k
   ·have:X.env.scope.names.lookup x=some .free:=q;rw[k]at this;cases this
   ·have:X.env.scope.names.lookup x=some .free:=q;rw[k]at this;cases this
def ipI(f:Int→Int→Int):TIp:=fun x y H Q=>∃ i j,x=.int i∧y=.int j∧Q (.int (f i j)) H
theorem aDm:PIp X .Add (ipI fun i j=>i + j):=by
 intro gz s σ H x y v u Q I z F h;obtain⟨i,j,e1,e2,q⟩:=h;subst e1;subst e2;obtain⟨t,rfl⟩:=z;obtain⟨t',rfl⟩:=F;exact iadd_int ⟨.int _,H,I.tok _,⟨_,rfl⟩,q⟩
end
section
variable{X:Cx}{pos:Pos}
inductive xX(c:TT)(tb:TS)(D:Ends)(σ:St)(H:Hp):Prop
 | mk (W:Nat→St→Hp→Prop) (q0:(∃ m,W m σ H)) (q1:∀ m σ H,W m σ H→
 c σ H fun b H1=>if b=true then∃ N:St→Hp→Prop,(∀ σ' H',N σ' H'→∃ m',m' < m∧W m' σ' H')∧tb { D with nx:=N,ct:=N,bk:=D.nx } σ H1 else D.nx σ H1):xX c tb D σ H
def aG1(c:TT)(tb:TS):TS:=fun D σ H=>xX c tb D σ H
theorem rM{c:Be}{q:List Cc}{tc:TT}{tb:TS}(M:PassesOwn (model X.prog X.w) X.A X.env X.xe)(hc:PT X c tc)(hb:PSs X q tb):PS X (.While c q [] pos) (aG1 tc tb):=by
 constructor;intro gz s σ H D I h;obtain⟨W,⟨m0,w0⟩,turn⟩:=h;refine wpAny_While (codeAny_whileLoop (fun n s'=>∃ Y H',Inv X gz Y H' s'∧W n Y H') ?_ m0 ⟨σ,H,I,w0⟩);rintro n s1 ⟨z,H1,Z,w1⟩;refine Dd M (thn (hc gz s1 z H1 _ Z (turn n z H1 w1)) fun b s2 ⟨H2,O,F⟩=>?_);cases b with
 | true=>
  obtain⟨N,hN,F⟩:=F;rw[Ib rfl];refine Dd M (thn (hb gz s2 z H2 _ O F) fun f s3 J=>?_);cases f with
  | next=>
   obtain⟨σ3,H3,I3,n3⟩:=J;obtain⟨m',hm,w3⟩:=hN σ3 H3 n3;exact⟨m',hm,σ3,H3,I3,w3⟩
  | cont=>
   obtain⟨σ3,H3,I3,n3⟩:=J;obtain⟨m',hm,w3⟩:=hN σ3 H3 n3;exact⟨m',hm,σ3,H3,I3,w3⟩
  | brk=>exact J
  | ret v=>exact J
 | false=>
  rw[Ia Ay];exact Fn ⟨z,H2,O,F⟩
end
structure It where
 go:Nat→Hp→Prop
 yld:Nat→Hp→V→Hp→Prop
 stop:Nat→Hp→Prop
def lO(X:Cx)(gz:List (Ae×Obj))(H:Hp)(b:Ae):Prop:=
 H b=none∧b≠X.env.locals∧b ∉ X.fs∧(b∈X.ex∨X.s₀.heap.objs.size≤b)∧(∀ x c,X.env.cells.lookup x=some c→c≠b)∧∀ p∈X.pn ++ gz,p.1≠b
theorem Inv.fpOk{X:Cx}{gz:List (Ae×Obj)}{σ:St}{H H':Hp}{s:Ag}{b:Ae}(I:Inv X gz σ H s)(F:s.heap.objs.size≤b)(hn:H' b=none):lO X gz H' b:=by
 refine⟨hn,DL (AX I.lt F),I.nofs F,.inr (AI I.sz F),fun x c e z=>?_,fun p J z=>?_⟩
 ·obtain⟨v,q⟩:=I.cell x c e;exact absurd (AX q.lt (by rw[z];exact F)) (CO _)
 ·exact absurd (AX (Au (I.pin p J).1) (by rw[z];exact F)) (CO _)
structure aAt(P:AC)(w:AT)(K:Ah)(tg:Be)(J:It)(fp:List Ae)(it:Ae)(tn:Nat→Bi→Prop):Prop where
 mem:it∈fp
 obj:∀ i h,tn i h→∀ b∈fp,∃ o,h.get? b=some o∧∀ v,o.data≠.cell v
 keep:∀ i h h',tn i h→(∀ b∈fp,∀ o,h.get? b=some o→h'.get? b=some o)→tn i h'
 item:∀(X:Cx),X.prog=P→X.w=w→X.K=K→X.calm=true→∀(i:Nat) (gz:List (Ae×Obj)) (s:Ag) (σ:St) (H:Hp) (E:Ad→Ag→Prop),Inv X gz σ H s→(∀ b∈fp,lO X gz H b)→tn i s.heap→J.go i H→
  wpAny (model P w) X.A (pyNext (.ref it)) (fun r s1=>∃ u,r=some u∧
   wpAny (model P w) X.A (letOwnedTupleGo tg (.ref it) u) (fun _ s2=>∃ x H',Inv X gz σ H' s2∧cG x u∧J.yld i H x H'∧tn (i + 1) s2.heap∧∀ b∈fp,H' b=none) E s1) E s
 done:∀(X:Cx),X.prog=P→X.w=w→X.K=K→X.calm=true→∀(i:Nat) (gz:List (Ae×Obj)) (s:Ag) (σ:St) (H:Hp) (E:Ad→Ag→Prop),Inv X gz σ H s→(∀ b∈fp,lO X gz H b)→tn i s.heap→J.stop i H→
  wpAny (model P w) X.A (pyNext (.ref it)) (fun r s1=>r=none∧Inv X gz σ H s1) E s
 self:∀(A:AU) (i:Nat) (s:Ag) (Q:Ad→Ag→Prop) (E:Ad→Ag→Prop),tn i s.heap→Q (.ref it) s→wpAny (model P w) A (pyIter (.ref it)) Q E s
abbrev TI:=St→Hp→(It→Hp→Prop)→Prop
inductive aGq(X:Cx)(gz:List (Ae×Obj))(σ:St)(tg:Be)(R:It→Hp→Prop)(itv:Ad)(s2:Ag):Prop
 | mk (it:Ae) (fp:List Ae) (tn:Nat→Bi→Prop) (J:It) (H':Hp) (q0:itv=.ref it) (q1:Inv X gz σ H' s2) (q2:aAt X.prog X.w X.K tg J fp it tn) (q3:tn 0 s2.heap) (q4:(∀ b∈fp,lO X gz H' b)) (q5:R J H'):aGq X gz σ tg R itv s2
def PIE(X:Cx)(gz:List (Ae×Obj))(σ:St)(tg:Be)(R:It→Hp→Prop)(itv:Ad)(s2:Ag):Prop:=aGq X gz σ tg R itv s2
structure PI(X:Cx)(tg iter:Be)(wi:TI):Prop where
 run:
  ∀(gz:List (Ae×Obj)) (s:Ag) (σ:St) (H:Hp) (R:It→Hp→Prop),Inv X gz σ H s→wi σ H R→
   wpAny (model X.prog X.w) X.A (eval iter X.env) (fun v s1=>wpAny (model X.prog X.w) X.A (pyIter v) (PIE X gz σ tg R) X.xe s1) X.xe s
instance{X:Cx}{tg iter:Be}{wi:TI}:CoeFun (PI X tg iter wi) (fun _=>
 ∀(gz:List (Ae×Obj)) (s:Ag) (σ:St) (H:Hp) (R:It→Hp→Prop),Inv X gz σ H s→wi σ H R→
  wpAny (model X.prog X.w) X.A (eval iter X.env) (fun v s1=>wpAny (model X.prog X.w) X.A (pyIter v) (PIE X gz σ tg R) X.xe s1) X.xe s):=⟨fun h=>h.run⟩
theorem aBo{M : He}{A : AU}{E : Ad → Ag → Prop}{s : Ag}{tg : Be}{it : Ae}{u : Ad}{o : Obj}{n : String}{vs : Array Ad}{Q : Unit → Ag → Prop}(ho : s.heap.get? it = some o)(hc : o.cls = .type n)(hd : o.data = .fields vs)
    (hn : ["enumerate", "zip", "dict_itemiterator", "dict_reverseitemiterator", "odict_iterator", "itertools.zip_longest", "itertools.pairwise"].contains n = false) (q : Q () s) : wpAny M A (letOwnedTupleGo tg (.ref it) u) Q E s := by
  unfold letOwnedTupleGo;cases tg <;> first
    | exact Af q
    | (cases u <;> first
        | exact Af q
        | (refine Ab (wpAny_load ho ?_)
           rw[hc, hd];show wpAny M A (if (["enumerate", "zip", "dict_itemiterator", "dict_reverseitemiterator", "odict_iterator", "itertools.zip_longest", "itertools.pairwise"].contains n && vs[0]? == some (rawInt _)) = true then _ else _) Q E s;rw[Ia (by intro h;rw[hn, Bool.false_and]at h;cases h)];exact Af q))
def Itl(K:Ah)(a:Ae):It:=
 ⟨fun i H=>∃ xs x,SqL K H a xs∧xs[i]?=some x,fun i H x H'=>H'=H∧∀ xs,SqL K H a xs→xs[i]?=some x,fun i H=>∃ xs,SqL K H a xs∧xs.length≤i⟩
def Itt(K:Ah)(a:Ae):It:=
 ⟨fun i H=>∃ xs x,SqT K H a xs∧xs[i]?=some x,fun i H x H'=>H'=H∧∀ xs,SqT K H a xs→xs[i]?=some x,fun i H=>∃ xs,SqT K H a xs∧xs.length≤i⟩
def Itr(lo:Int)(n:Nat):It:=⟨fun i _=>i < n,fun i H x H'=>H'=H∧x=.int (lo + i),fun i _=>n≤i⟩
theorem aCv{P:AC}{w:AT}{K:Ah}{tg:Be}(a it:Ae):aAt P w K tg (Itl K a) [it] it (fun i h=>h.IsListIter it a i) where
 mem:=by simp
 obj:=fun i h st b q=>by
  have e:b=it:=by simpa using q
  subst e;obtain⟨o,e,c,d⟩:=st;exact⟨o,e,fun v z=>by rw[d]at z;cases z⟩
 keep:=fun i h h' st k=>st.at fun o e=>k it (by simp) o e
 item:=by
  intro X M hw Y hc i gz s σ H E I J st O;subst M hw Y;obtain⟨xs,x,hq,hx⟩:=O;obtain⟨its,rv,p,hz⟩:=I.list hq;obtain⟨u,hu,ru⟩:=rv.get hx;obtain⟨f0,f1,f2,f3,f4,f5⟩:=J it (by simp);refine wpAny_pyNext_list_item st p.isList (x:=u) (by simpa using hu) fun h' F sb=>?_;have Z:Inv X gz σ H { s with heap:=h' }:=I.turned (t':=s.toks) (fun b o q e=>(sb.2 b q).trans e) f0 f1 f3 f4 f5;obtain⟨o,e,c,d⟩:=id F;exact⟨u,rfl,aBo (s:={ s with heap:=h' }) e c d (by decide) ⟨x,H,Z,ru,⟨rfl,fun ys hy=>by rw[I.list_inj hy hq];exact hx⟩,F,fun b q=>(J b q).1⟩⟩
 done:=by
  intro X M hw Y hc i gz s σ H E I J st O;subst M hw Y;obtain⟨xs,hq,hx⟩:=O;obtain⟨its,rv,p,hz⟩:=I.list hq;obtain⟨f0,f1,f2,f3,f4,f5⟩:=J it (by simp);have hl:=rv.length;exact wpAny_pyNext_list_end (I.ok.hd hc) st p.isList (by simp;omega) fun h' eb=>⟨rfl,I.turned (t':=s.toks) (fun b o q e=>eb b o q e) f0 f1 f3 f4 f5⟩
 self:=fun _ _ _ _ _ st h=>wpAny_pyIter_listiter st h
theorem aAu{P:AC}{w:AT}{K:Ah}{tg:Be}(a it:Ae):aAt P w K tg (Itt K a) [it] it (fun i h=>h.IsTupleIter it a i) where
 mem:=by simp
 obj:=fun i h st b q=>by
  have e:b=it:=by simpa using q
  subst e;obtain⟨o,e,c,d⟩:=st;exact⟨o,e,fun v z=>by rw[d]at z;cases z⟩
 keep:=fun i h h' st k=>st.at fun o e=>k it (by simp) o e
 item:=by
  intro X M hw Y hc i gz s σ H E I J st O;subst M hw Y;obtain⟨xs,x,hq,hx⟩:=O;obtain⟨its,rv,p,hz⟩:=I.tuple hq;obtain⟨u,hu,ru⟩:=rv.get hx;obtain⟨f0,f1,f2,f3,f4,f5⟩:=J it (by simp);refine wpAny_pyNext_tuple_item st (show s.heap.IsTuple a its.toArray from p) (x:=u) (by simpa using hu) fun h' F sb=>?_;have Z:Inv X gz σ H { s with heap:=h' }:=I.turned (t':=s.toks) (fun b o q e=>(sb.2 b q).trans e) f0 f1 f3 f4 f5;obtain⟨o,e,c,d⟩:=id F;exact⟨u,rfl,aBo (s:={ s with heap:=h' }) e c d (by decide) ⟨x,H,Z,ru,⟨rfl,fun ys hy=>by rw[I.tuple_inj hy hq];exact hx⟩,F,fun b q=>(J b q).1⟩⟩
 done:=by
  intro X M hw Y hc i gz s σ H E I J st O;subst M hw Y;obtain⟨xs,hq,hx⟩:=O;obtain⟨its,rv,p,hz⟩:=I.tuple hq;obtain⟨f0,f1,f2,f3,f4,f5⟩:=J it (by simp);have hl:=rv.length;exact wpAny_pyNext_tuple_end (I.ok.hd hc) st (show s.heap.IsTuple a its.toArray from p) (by simp;omega) fun h' eb=>⟨rfl,I.turned (t':=s.toks) (fun b o q e=>eb b o q e) f0 f1 f3 f4 f5⟩
 self:=fun _ _ _ _ _ st h=>wpAny_pyIter_tupleiter st h
theorem aAv{P:AC}{w:AT}{K:Ah}{tg:Be}(it:Ae)(lo:Int)(n:Nat):aAt P w K tg (Itr lo n) [it] it (fun i h=>IsRangeIter h it (lo + (i:Nat) * 1) ((n:Int) - (i:Nat)) 1) where
 mem:=by simp
 obj:=fun i h st b q=>by
  have e:b=it:=by simpa using q
  subst e;exact⟨_,st,fun v z=>by
   have z':FZ _=G8 v:=z;cases z'⟩
 keep:=fun i h h' st k=>k it (by simp) _ st
 item:=by
  intro X M hw Y hc i gz s σ H E I J st O;subst M hw Y;obtain⟨f0,f1,f2,f3,f4,f5⟩:=J it (by simp);have W:=Walks.range (prog:=X.prog) (w:=X.w) (I.ok.hd hc) it lo 1 n;refine W.item i s _ _ O st fun v h' tk hv F kk=>?_;obtain⟨t,rfl⟩:=hv;have Z:Inv X gz σ H { s with heap:=h',toks:=tk }:=I.turned (fun b o q e=>kk b o (by simpa using q) e) f0 f1 f3 f4 f5;refine⟨_,rfl,aBo (s:={ s with heap:=h',toks:=tk }) (n:="range_iterator") F rfl rfl (by decide) ⟨.int (lo + i),H,Z,⟨t,?_⟩,⟨rfl,rfl⟩,F,fun b q=>(J b q).1⟩⟩;rw[Int.mul_one]
 done:=by
  intro X M hw Y hc i gz s σ H E I J st O;subst M hw Y;obtain⟨f0,f1,f2,f3,f4,f5⟩:=J it (by simp);exact wpAny_pyNext_range_end (I.ok.hd hc) st (by have:n≤i:=O;omega) fun h' eb=>⟨rfl,I.turned (t':=s.toks) (fun b o q e=>eb b o q e) f0 f1 f3 f4 f5⟩
 self:=fun _ _ _ _ _ st h=>wpAny_pyIter_rangeiter st h
section
variable{X:Cx}{tg:Be}
def aH0(K:Ah)(tl:TE):TI:=fun σ H R=>tl σ H fun x H1=>As V.ref x fun a=>(∃ xs,SqL K H1 a xs)∧R (Itl K a) H1
def aI2(K:Ah)(tl:TE):TI:=fun σ H R=>tl σ H fun x H1=>As V.ref x fun a=>(∃ xs,SqT K H1 a xs)∧R (Itt K a) H1
theorem iP{l:Be}{tl:TE}(hl:PE X l tl):PI X tg l (aH0 X.K tl):=by
 constructor;intro gz s σ H R I h;refine thn (hl gz s σ H _ I h) fun v s1 ⟨x,H1,z,F,J⟩=>?_;obtain⟨a,e,⟨xs,hq⟩,q⟩:=J;subst e;cases F;obtain⟨its,rv,p,hz⟩:=z.list hq;refine DT p.isList ?_;refine⟨s1.heap.objs.size,[s1.heap.objs.size],_,_,H1,rfl,z.kept (t':=s1.toks) fun b o e=>Aj _ e,aCv a _,⟨_,Ax _ rfl,rfl,rfl⟩,fun b M=>?_,q⟩;have e:b=s1.heap.objs.size:=by simpa using M
 subst e;exact z.fpOk (Am _) (z.hok.fresh (Am _))
theorem dE{l:Be}{tl:TE}(hl:PE X l tl):PI X tg l (aI2 X.K tl):=by
 constructor;intro gz s σ H R I h;refine thn (hl gz s σ H _ I h) fun v s1 ⟨x,H1,z,F,J⟩=>?_;obtain⟨a,e,⟨xs,hq⟩,q⟩:=J;subst e;cases F;obtain⟨its,rv,p,hz⟩:=z.tuple hq;refine wpAny_pyIter_tuple (show s1.heap.IsTuple a its.toArray from p) ?_;refine⟨s1.heap.objs.size,[s1.heap.objs.size],_,_,H1,rfl,z.kept (t':=s1.toks) fun b o e=>Aj _ e,aAu a _,⟨_,Ax _ rfl,rfl,rfl⟩,fun b M=>?_,q⟩;have e:b=s1.heap.objs.size:=by simpa using M
 subst e;exact z.fpOk (Am _) (z.hok.fresh (Am _))
theorem aDn{gz:List (Ae×Obj)}{σ:St}{H:Hp}{s:Ag}{R:It→Hp→Prop}{E:Ad→Ag→Prop}{lo hi:Int}{t u v:Tok}{tk:Nat}(I:Inv X gz σ H s)(h1:-(2 ^ 62)≤lo)(h2:lo < 2 ^ 62)(J:-(2 ^ 62)≤hi)(F:hi < 2 ^ 62)
  (q:R (Itr lo (hi - lo).toNat) H):wpAny (model X.prog X.w) X.A (pyIter (.ref s.heap.objs.size)) (PIE X gz σ tg R) E { s with heap:=s.heap.push { cls:=.type "range",data:=.fields #[.int lo t,.int hi u,.int 1 v] },toks:=tk }:=by
 refine wpAny_pyIter_range (IsRange.new ..) (small_one h1 h2 J F) ?_;have z:Inv X gz σ H { s with heap:=s.heap.push { cls:=.type "range",data:=.fields #[.int lo t,.int hi u,.int 1 v] },toks:=tk }:=I.kept fun b o e=>Aj _ e;refine⟨(s.heap.push { cls:=.type "range",data:=.fields #[.int lo t,.int hi u,.int 1 v] }).objs.size,[(s.heap.push { cls:=.type "range",data:=.fields #[.int lo t,.int hi u,.int 1 v] }).objs.size],_,_,H,rfl,
  z.kept (t':=tk) fun b o e=>Aj _ e,aAv _ lo (hi - lo).toNat,?_,fun b O=>?_,q⟩
 ·have Y:lo + ((0:Nat):Int) * 1=lo:=by simp
  have M:(((hi - lo).toNat:Nat):Int) - ((0:Nat):Int)=Builtin.Range.rangeSize lo hi 1:=by rw[rangeSize_one];split <;> omega
  show IsRangeIter _ _ (lo + ((0:Nat):Int) * 1) ((((hi - lo).toNat:Nat):Int) - ((0:Nat):Int)) 1;rw[Y,M];exact Ax _ rfl
 ·have e:b=(s.heap.push { cls:=.type "range",data:=.fields #[.int lo t,.int hi u,.int 1 v] }).objs.size:=by simpa using O
  subst e;exact z.fpOk (Am _) (z.hok.fresh (Am _))
def aH1(ta:TA):TI:=fun σ H R=>ta σ H fun vs H1=>∃ j:Int,vs=[.int j]∧-(2 ^ 62)≤j∧j < 2 ^ 62∧R (Itr 0 j.toNat) H1
theorem eJ{a:Be}{ta:TA}{p pos:Pos}(F:Gl X "range")(hm:X.mg "range"=none)(ha:PA X [a] ta)(hs:starEach [a] X.env=[(false,eval a X.env)]:=by rfl):PI X tg (.Call (.Name "range" p) [a] [] pos) (aH1 ta):=by
 constructor;intro gz s σ H R I h;refine Call_ (wI I F hm boot_range (PyProof.Rows.callWith_type1 (thn (ha pos gz s σ H _ I h) fun Y s1 ⟨vs,H1,J,M,z⟩=>?_) hs rfl));obtain⟨j,e,z,q2,q⟩:=z;subst e;cases M with
 | cons r O=>
  cases O;obtain⟨t,rfl⟩:=r;exact call_range_1 (aDn J (by omega) (by omega) z q2 (by simpa using q))
def aI3(wi:TI)(g:TG)(tb:TS):TS:=fun D σ H=>wi σ H fun J H1=>∃ W:Nat→Nat→St→Hp→Prop,(∃ m,W 0 m σ H1)∧∀ i m σ H,W i m σ H→
 (J.stop i H∧D.nx σ H)∨(J.go i H∧∃ N:St→Hp→Prop,(∀ σ' H',N σ' H'→∃ m',m' < m∧W (i + 1) m' σ' H')∧∀ x H',J.yld i H x H'→g x σ H' fun σ2 H2=>tb { D with nx:=N,ct:=N,bk:=D.nx } σ2 H2)
def nX(fp:List Ae)(h:Bi):List (Ae×Obj):=fp.filterMap fun b=>(h.get? b).map fun o=>(b,o)
theorem kU{fp:List Ae}{h:Bi}{b:Ae}{o:Obj}(q:b∈fp)(e:h.get? b=some o):(b,o)∈nX fp h:=Fu.mpr ⟨b,q,by rw[e];rfl⟩
theorem uS{fp:List Ae}{h:Bi}{p:Ae×Obj}(F:p∈nX fp h):p.1∈fp∧h.get? p.1=some p.2:=by
 obtain⟨b,hb,e⟩:=Fu.mp F;cases q:h.get? b with
 | none=>rw[q]at e;cases e
 | some o=>
  rw[q]at e;have z:(b,o)=p:=Ch.inj e;subst z;exact⟨hb,q⟩
theorem Inv.pinned{gz:List (Ae×Obj)}{σ:St}{H:Hp}{s:Ag}{fp:List Ae}(I:Inv X gz σ H s)(q:∀ b∈fp,lO X gz H b)(ho:∀ b∈fp,∃ o,s.heap.get? b=some o∧∀ v,o.data≠.cell v):Inv X (gz ++ nX fp s.heap) σ H s:=
 I.pins_of fun p F=>(AS.mp F).elim (fun z=>I.pin p (AN _ z)) fun z=>by
  obtain⟨hb,e⟩:=uS z;obtain⟨f0,f1,f2,_⟩:=q p.1 hb;obtain⟨o,e',d⟩:=ho p.1 hb;rw[e]at e';cases e';exact⟨e,f0,f1,f2,d⟩
theorem Inv.unpinned{gz pl:List (Ae×Obj)}{σ:St}{H:Hp}{s:Ag}(I:Inv X (gz ++ pl) σ H s):Inv X gz σ H s:=I.pins_of fun p q=>I.pin p (AN _ (BV _ q))
theorem d8{F:Be}{Z:List Cc}{wi:TI}{g:TG}{tb:TS}{pos:Pos}(hp:PassesOwn (model X.prog X.w) X.A X.env X.xe)(hc:X.calm=true)(hi:PI X tg F wi)(hg:PG X tg g)(z:PSs X Z tb)
  (hs:∀ x,foldedSetIterable F X.env x=pure x:=by intro _;rfl):PS X (.For tg F Z [] pos) (aI3 wi g tb):=by
 constructor;intro gz s σ H D I h;refine wpAny_For (thn (hi gz s σ H _ I h) fun v s1 h1=>thn h1 fun bc s2 h2=>?_) hs;obtain⟨it,fp,tn,J,H2,e,I2,T,st2,f2,W,⟨m0,w0⟩,turn⟩:=h2;subst e;have O:∀{H':Hp},(∀ b∈fp,H' b=none)→∀ b∈fp,lO X gz H' b:=fun hn b z=>⟨hn b z,(f2 b z).2⟩
 refine codeAny_forLoop_any (fun n s'=>∃ i σ' H',Inv X gz σ' H' s'∧tn i s'.heap∧(∀ b∈fp,H' b=none)∧W i n σ' H') ?_ m0 ⟨0,σ,H2,I2,st2,fun b z=>(f2 b z).1,w0⟩;rintro n s3 ⟨i,σ3,H3,I3,ah,ag,w3⟩;rcases turn i n σ3 H3 w3 with⟨stop,qn⟩ | ⟨go,N,hN,step⟩
 ·refine Dd hp (thn (T.done X rfl rfl rfl hc i gz s3 σ3 H3 X.xe I3 (O ag) ah stop) fun r s4 ⟨hr,I4⟩=>?_);subst hr;exact Fn ⟨σ3,H3,I4,qn⟩
 ·refine Dd hp (thn (T.item X rfl rfl rfl hc i gz s3 σ3 H3 X.xe I3 (O ag) ah go) fun r s4 ⟨u,hr,h4⟩=>?_);subst hr;refine Dd hp (thn h4 fun _ s5 ⟨x,H5,I5,r5,y5,ab,aj⟩=>?_);have am:=I5.pinned (O aj) (T.obj _ _ ab);refine Dd hp (thn (hg _ s5 σ3 H5 x u _ am r5 (step x H5 y5)) fun _ s6 ⟨σ6,H6,I6,q6⟩=>?_);refine Dd hp (thn (z _ s6 σ6 H6 _ I6 q6) fun f s7 q7=>?_);have M:∀{q:St} {Y:Hp},Inv X (gz ++ nX fp s5.heap) q Y s7→N q Y→∃ m,m < n∧∃ i σ' H',Inv X gz σ' H' s7∧tn i s7.heap∧(∀ b∈fp,H' b=none)∧W i m σ' H':=fun{q Y} I7 n7=>by
   obtain⟨m',hm,w7⟩:=hN q Y n7;refine⟨m',hm,i + 1,q,Y,I7.unpinned,T.keep _ _ _ ab fun b z o e=>(I7.pin (b,o) (AN _ (AN _ (kU z e)))).1,fun b z=>?_,w7⟩;obtain⟨o,e,d⟩:=T.obj _ _ ab b z;exact(I7.pin (b,o) (AN _ (AN _ (kU z e)))).2.1
  cases f with
  | next=>obtain⟨q,Y,I7,n7⟩:=q7;exact M I7 n7
  | cont=>obtain⟨q,Y,I7,n7⟩:=q7;exact M I7 n7
  | brk=>obtain⟨q,Y,I7,q7⟩:=q7;exact⟨q,Y,I7.unpinned,q7⟩
  | ret v=>obtain⟨x7,q,Y,I7,r7,q7⟩:=q7;exact⟨x7,q,Y,I7.unpinned,r7,q7⟩
end
theorem lU{K:Ah}{a:Ae}{xs:List V}{g:TG}{tb:TS}{D:Ends}{σ:St}{H:Hp}(z:Nat→St→Hp→Prop)(Y:z 0 σ H)(hl:∀ i σ H,i≤xs.length→z i σ H→SqL K H a xs)
  (hs:∀ i x σ H,xs[i]?=some x→z i σ H→g x σ H fun J H2=>tb { D with nx:=z (i + 1),ct:=z (i + 1),bk:=D.nx } J H2) (hd:∀ σ H,z xs.length σ H→D.nx σ H):
  ∃ W:Nat→Nat→St→Hp→Prop,(∃ m,W 0 m σ H)∧∀ i m σ H,W i m σ H→
   ((Itl K a).stop i H∧D.nx σ H)∨((Itl K a).go i H∧∃ N:St→Hp→Prop,(∀ M H',N M H'→∃ O,O < m∧W (i + 1) O M H')∧∀ x H',(Itl K a).yld i H x H'→g x σ H' fun J H2=>tb { D with nx:=N,ct:=N,bk:=D.nx } J H2):=by
 refine⟨fun i m σ H=>m=xs.length - i∧i≤xs.length∧z i σ H,⟨xs.length,by simp,A0 _,Y⟩,?_⟩;rintro i m σ H ⟨rfl,hi,p⟩;have q:=hl i σ H hi p;by_cases F:i < xs.length
 ·refine .inr ⟨⟨xs,xs[i],q,by simp[F]⟩,z (i + 1),fun M H' Z=>⟨xs.length - (i + 1),by omega,rfl,F,Z⟩,fun x H' y=>?_⟩;obtain⟨e,y⟩:=y;subst e;exact hs i x σ _ (y xs q) p
 ·have e:i=xs.length:=by omega
  subst e;exact .inl ⟨⟨xs,q,Am _⟩,hd σ H p⟩
theorem gZ{K:Ah}{a:Ae}{xs:List V}{g:TG}{tb:TS}{D:Ends}{σ:St}{H:Hp}(z:Nat→St→Hp→Prop)(Y:z 0 σ H)(hl:∀ i σ H,i≤xs.length→z i σ H→SqT K H a xs)
  (hs:∀ i x σ H,xs[i]?=some x→z i σ H→g x σ H fun J H2=>tb { D with nx:=z (i + 1),ct:=z (i + 1),bk:=D.nx } J H2) (hd:∀ σ H,z xs.length σ H→D.nx σ H):
  ∃ W:Nat→Nat→St→Hp→Prop,(∃ m,W 0 m σ H)∧∀ i m σ H,W i m σ H→
   ((Itt K a).stop i H∧D.nx σ H)∨((Itt K a).go i H∧∃ N:St→Hp→Prop,(∀ M H',N M H'→∃ O,O < m∧W (i + 1) O M H')∧∀ x H',(Itt K a).yld i H x H'→g x σ H' fun J H2=>tb { D with nx:=N,ct:=N,bk:=D.nx } J H2):=by
 refine⟨fun i m σ H=>m=xs.length - i∧i≤xs.length∧z i σ H,⟨xs.length,by simp,A0 _,Y⟩,?_⟩;rintro i m σ H ⟨rfl,hi,p⟩;have q:=hl i σ H hi p;by_cases F:i < xs.length
 ·refine .inr ⟨⟨xs,xs[i],q,by simp[F]⟩,z (i + 1),fun M H' Z=>⟨xs.length - (i + 1),by omega,rfl,F,Z⟩,fun x H' y=>?_⟩;obtain⟨e,y⟩:=y;subst e;exact hs i x σ _ (y xs q) p
 ·have e:i=xs.length:=by omega
  subst e;exact .inl ⟨⟨xs,q,Am _⟩,hd σ H p⟩
theorem mX{lo:Int}{n:Nat}{g:TG}{tb:TS}{D:Ends}{σ:St}{H:Hp}(q:Nat→St→Hp→Prop)(O:q 0 σ H)
  (hs:∀ i σ H,i < n→q i σ H→g (.int (lo + i)) σ H fun F H2=>tb { D with nx:=q (i + 1),ct:=q (i + 1),bk:=D.nx } F H2) (hd:∀ σ H,q n σ H→D.nx σ H):
  ∃ W:Nat→Nat→St→Hp→Prop,(∃ m,W 0 m σ H)∧∀ i m σ H,W i m σ H→
   ((Itr lo n).stop i H∧D.nx σ H)∨((Itr lo n).go i H∧∃ N:St→Hp→Prop,(∀ J H',N J H'→∃ M,M < m∧W (i + 1) M J H')∧∀ x H',(Itr lo n).yld i H x H'→g x σ H' fun F H2=>tb { D with nx:=N,ct:=N,bk:=D.nx } F H2):=by
 refine⟨fun i m σ H=>m=n - i∧i≤n∧q i σ H,⟨n,by simp,A0 _,O⟩,?_⟩;rintro i m σ H ⟨rfl,hi,p⟩;by_cases z:i < n
 ·refine .inr ⟨z,q (i + 1),fun J H' Y=>⟨n - (i + 1),by omega,rfl,z,Y⟩,fun x H' y=>?_⟩;obtain⟨e,y⟩:=y;subst e y;exact hs i σ _ z p
 ·have e:i=n:=by omega
  subst e;exact .inl ⟨Am _,hd σ H p⟩
abbrev R2:=V→V→Hp→VK→Prop
def OpR(X:Cx)(f:Ad→Ad→Sem Ad)(r:R2):Prop:=
 ∀(gz:List (Ae×Obj)) (s:Ag) (σ:St) (H:Hp) (x y:V) (v u:Ad) (Q:VK),Inv X gz σ H s→cG x v→cG y u→r x y H Q→
  wpAny (model X.prog X.w) X.A (f v u) (EP X gz σ Q) X.xe s
def UnR(X:Cx)(f:Ad→Sem Ad)(r:V→Hp→VK→Prop):Prop:=
 ∀(gz:List (Ae×Obj)) (s:Ag) (σ:St) (H:Hp) (x:V) (v:Ad) (Q:VK),Inv X gz σ H s→cG x v→r x H Q→
  wpAny (model X.prog X.w) X.A (f v) (EP X gz σ Q) X.xe s
def eU(X:Cx)(f:Ad)(r:List V→Hp→VK→Prop):Prop:=
 ∀(gz:List (Ae×Obj)) (s:Ag) (σ:St) (H:Hp) (xs:List V) (us:List Ad) (Q:VK),Inv X gz σ H s→bX xs us→r xs H Q→
  wpAny (model X.prog X.w) X.A (call f us) (EP X gz σ Q) X.xe s
def aI4(X:Cx)(r:V→Hp→(Bool→Hp→Prop)→Prop):Prop:=
 ∀(gz:List (Ae×Obj)) (s:Ag) (σ:St) (H:Hp) (x:V) (v:Ad) (Q:Bool→Hp→Prop),Inv X gz σ H s→cG x v→r x H Q→
  wpAny (model X.prog X.w) X.A (truthy v) (TP X gz σ Q) X.xe s
def tOp(r:R2)(ta tb:TE):TE:=fun σ H Q=>ta σ H fun x H1=>tb σ H1 fun y H2=>r x y H2 Q
def tUn(r:V→Hp→VK→Prop)(ta:TE):TE:=fun σ H Q=>ta σ H fun x H1=>r x H1 Q
inductive aH2(C:Int→Int→Prop)(g:Int→Int→V)(x:V)(y:V)(H:Hp)(Q:VK):Prop
 | mk (i:_) (j:_) (q0:x=.int i) (q1:y=.int j) (q2:C i j) (q3:Q (g i j) H):aH2 C g x y H Q
def rI(C:Int→Int→Prop)(g:Int→Int→V):R2:=fun x y H Q=>aH2 C g x y H Q
inductive aGr(g:Int→Int→V)(x:V)(y:V)(H:Hp)(Q:VK):Prop
 | mk (i:_) (j:_) (q0:x=.int i) (q1:y=.int j) (q2:Q (g i j) H):aGr g x y H Q
def rI0(g:Int→Int→V):R2:=fun x y H Q=>aGr g x y H Q
inductive aH3(g:Int→V)(x:V)(H:Hp)(Q:VK):Prop
 | mk (i:_) (q0:x=.int i) (q1:Q (g i) H):aH3 g x H Q
def rU(g:Int→V):V→Hp→VK→Prop:=fun x H Q=>aH3 g x H Q
section
variable{X:Cx}{a b c:Be}{ta tb tc:TE}{pos:Pos}
theorem aG2(ha:PE X a ta)(Z:PE X b tb){gz:List (Ae×Obj)}{s:Ag}{σ:St}{H:Hp}{R:V→V→Hp→Prop}(I:Inv X gz σ H s)
  (h:ta σ H fun x H1=>tb σ H1 fun y H2=>R x y H2) {Q:Ad→Ag→Prop} {f:Ad→Ad→Sem Ad}
  (hf:∀ v u s2 x y H2,Inv X gz σ H2 s2→cG x v→cG y u→R x y H2→wpAny (model X.prog X.w) X.A (f v u) Q X.xe s2):
  wpAny (model X.prog X.w) X.A (eval a X.env) (fun v F=>wpAny (model X.prog X.w) X.A (eval b X.env) (fun u s₂=>wpAny (model X.prog X.w) X.A (f v u) Q X.xe s₂) X.xe F) X.xe s:=by
 refine thn (ha gz s σ H _ I h) fun v s1 ⟨x,H1,z,J,Y⟩=>?_;refine thn (Z gz s1 σ H1 _ z Y) fun u s2 ⟨y,H2,M,q,O⟩=>?_;exact hf v u s2 x y H2 M J q O
theorem bC{op:Operator}{r:R2}(ho:OpR X (binaryOp op) r)(ha:PE X a ta)(F:PE X b tb):PE X (.BinOp a op b pos) (tOp r ta tb):=by
 constructor;intro gz s σ H Q I h;exact wpAny_BinOp (aG2 ha F I h fun v u s2 x y H2 z J M q=>ho gz s2 σ H2 x y v u Q z J M q)
theorem jU{op:UnaryOp}{r:V→Hp→VK→Prop}(ho:UnR X (unaryOp op) r)(ha:PE X a ta):PE X (.UnaryOp op a pos) (tUn r ta):=by
 constructor;intro gz s σ H Q I h;exact UnaryOp_ (thn (ha gz s σ H _ I h) fun v s1 ⟨x,H1,F,z,q⟩=>ho gz s1 σ H1 x v Q F z q)
theorem opI{f:Ad→Ad→Sem Ad}{C:Int→Int→Prop}{g:Int→Int→Int}
  (z:∀(i j:Int) (t u:Tok) (s:Ag) (Q:Ad→Ag→Prop) (E:Ad→Ag→Prop),C i j→Q (.int (g i j) s.toks) { s with toks:=s.toks + 1 }→wpAny (model X.prog X.w) X.A (f (.int i t) (.int j u)) Q E s):
  OpR X f (rI C fun i j=>.int (g i j)):=by
 intro gz s σ H x y v u Q I F J h;obtain⟨i,j,rfl,rfl,hc,q⟩:=h;obtain⟨t,rfl⟩:=F;obtain⟨t',rfl⟩:=J;exact z i j t t' s _ _ hc ⟨.int (g i j),H,I.tok _,⟨_,rfl⟩,q⟩
theorem aH4{f:Ad→Ad→Sem Ad}{g:Int→Int→Int}
  (z:∀(i j:Int) (t u:Tok) (s:Ag) (Q:Ad→Ag→Prop) (E:Ad→Ag→Prop),Q (.int (g i j) s.toks) { s with toks:=s.toks + 1 }→wpAny (model X.prog X.w) X.A (f (.int i t) (.int j u)) Q E s):
  OpR X f (rI0 fun i j=>.int (g i j)):=by
 intro gz s σ H x y v u Q I F J h;obtain⟨i,j,rfl,rfl,q⟩:=h;obtain⟨t,rfl⟩:=F;obtain⟨t',rfl⟩:=J;exact z i j t t' s _ _ ⟨.int (g i j),H,I.tok _,⟨_,rfl⟩,q⟩
theorem aG3{f:Ad→Ad→Sem Ad}{g:Int→Int→Bool}
  (z:∀(i j:Int) (t u:Tok) (s:Ag) (Q:Ad→Ag→Prop) (E:Ad→Ag→Prop),Q (.bool (g i j)) s→wpAny (model X.prog X.w) X.A (f (.int i t) (.int j u)) Q E s):
  OpR X f (rI0 fun i j=>.bl (g i j)):=by
 intro gz s σ H x y v u Q I F J h;obtain⟨i,j,rfl,rfl,q⟩:=h;obtain⟨t,rfl⟩:=F;obtain⟨t',rfl⟩:=J;exact z i j t t' s _ _ ⟨.bl (g i j),H,I,rfl,q⟩
def aI5(i j:Int):Prop:=0 < j∧j < 1073741824
def aI6(i j:Int):Prop:=0≤j∧j≤1000000∧i.natAbs < 2 ^ 64
def aG4(i j:Int):Prop:=(-(2 ^ 64) < i∧i < 2 ^ 64)∨(-(2 ^ 64) < j∧j < 2 ^ 64)
theorem aG4.ok{i j:Int}(h:aG4 i j):IntMulOk i j:=by
 rcases h with⟨h1,h2⟩ | ⟨h1,h2⟩
 ·exact .of_left (intBits_le_64 h1 h2)
 ·exact .of_right (intBits_le_64 h1 h2)
theorem cX:OpR X (binaryOp .Add) (rI0 fun i j=>.int (i + j)):=aH4 fun _ _ _ _ _ _ _ q=>add_int q
theorem kX:OpR X (binaryOp .Sub) (rI0 fun i j=>.int (i - j)):=aH4 fun _ _ _ _ _ _ _ q=>sub_int q
theorem fX:OpR X (binaryOp .Mult) (rI aG4 fun i j=>.int (i * j)):=opI fun _ _ _ _ _ _ _ hc q=>mul_int q hc.ok
theorem mY:OpR X (binaryOp .FloorDiv) (rI aI5 fun i j=>.int (i / j)):=opI fun i j _ _ _ _ _ hc q=>by
 have h1:(0:Int) < j:=hc.1;have h2:j < 1073741824:=hc.2;exact floordiv_int (by omega) (by rw[Int.fdiv_eq_ediv_of_nonneg i (by omega)];exact q) (.inl (PyProof.noPylong_small (by omega)))
theorem eV:OpR X (binaryOp .Mod) (rI (fun _ j=>0 < j) fun i j=>.int (i % j)):=opI fun i j _ _ _ _ _ hc q=>by
 have h1:(0:Int) < j:=hc;exact mod_int' (by omega) (by rw[Int.fmod_eq_emod_of_nonneg i (by omega)];exact q)
theorem nY:OpR X (binaryOp .Pow) (rI aI6 fun i j=>.int (i ^ j.toNat)):=opI fun _ _ _ _ _ _ _ hc q=>pow_int_small hc.1 hc.2.1 hc.2.2 q
theorem unI{f:Ad→Sem Ad}{g:Int→Int}
  (z:∀(i:Int) (t:Tok) (s:Ag) (Q:Ad→Ag→Prop) (E:Ad→Ag→Prop),Q (.int (g i) s.toks) { s with toks:=s.toks + 1 }→wpAny (model X.prog X.w) X.A (f (.int i t)) Q E s):
  UnR X f (rU fun i=>.int (g i)):=by
 intro gz s σ H x v Q I F h;obtain⟨i,rfl,q⟩:=h;obtain⟨t,rfl⟩:=F;exact z i t s _ _ ⟨.int (g i),H,I.tok _,⟨_,rfl⟩,q⟩
theorem gL:UnR X (unaryOp .USub) (rU fun i=>.int (-i)):=unI fun _ _ _ _ _ q=>neg_int q
end
def aH5:V→V→Bool
 | .non,.non=>true | .non,.int _=>true | .int _,.non=>true | .non,.bl _=>true | .bl _,.non=>true | .non,.str _=>true | .str _,.non=>true
 | .int _,.int _=>true | .bl _,.bl _=>true | .str _,.str _=>true | .byt _,.byt _=>true
 | .int _,.str _=>true | .str _,.int _=>true | .bl _,.str _=>true | .str _,.bl _=>true
 | _,_=>false
def rEq:R2:=fun x y H Q=>aH5 x y=true∧Q (.bl (decide (x=y))) H
def rNe:R2:=fun x y H Q=>aH5 x y=true∧Q (.bl (!decide (x=y))) H
theorem aBp{i j:Int}:decide (V.int i=V.int j)=(i == j):=by
 rw[Ct];simp
theorem aDo{i j:Bool}:decide (V.bl i=V.bl j)=(i == j):=by
 rw[Ct];simp
theorem aBq{i j:Str}:decide (V.str i=V.str j)=(i == j):=by
 rw[Ct];simp
theorem aBr{i j:Array UInt8}:decide (V.byt i=V.byt j)=(i.toList == j.toList):=by
 rw[Ct];cases i;cases j;simp
section
variable{X:Cx}{a b c:Be}{ta tb tc:TE}{pos:Pos}
theorem cY{gz:List (Ae×Obj)}{σ:St}{H:Hp}{s:Ag}{Q:VK}{k z:Bool}(I:Inv X gz σ H s)(q:Q (.bl k) H)(e:k=z):EP X gz σ Q (.bool z) s:=by
 subst e;exact⟨.bl k,H,I,rfl,q⟩
theorem cT:OpR X (compareOp .Eq) rEq:=by
 intro gz s σ H x y v u Q I F z h;obtain⟨hs,q⟩:=h;cases x with
 | non=>
  cases F;cases y with
  | non=>cases z;exact PySem.EqNone.eq_none_none (cY I q (by simp))
  | bl j=>cases z;exact PySem.EqNone.eq_none_bool (cY I q (by simp))
  | int j=>obtain⟨t',rfl⟩:=z;exact PySem.EqNone.eq_none_int (cY I q (by simp))
  | str j=>obtain⟨t',rfl⟩:=z;exact PySem.EqNone.eq_none_str (cY I q (by simp))
  | _=>exact absurd (show false=true from hs) Ay
 | bl i=>
  cases F;cases y with
  | non=>cases z;exact PySem.EqNone.eq_bool_none (cY I q (by simp))
  | bl j=>cases z;exact eq_bool (cY I q aDo)
  | str j=>obtain⟨t',rfl⟩:=z;exact PySem.EqMixed.eq_bool_str (cY I q (by simp))
  | _=>exact absurd (show false=true from hs) Ay
 | int i=>
  obtain⟨t,rfl⟩:=F;cases y with
  | non=>cases z;exact PySem.EqNone.eq_int_none (cY I q (by simp))
  | int j=>obtain⟨t',rfl⟩:=z;exact eq_int (cY I q aBp)
  | str j=>obtain⟨t',rfl⟩:=z;exact PySem.EqMixed.eq_int_str (cY I q (by simp))
  | _=>exact absurd (show false=true from hs) Ay
 | str i=>
  obtain⟨t,rfl⟩:=F;cases y with
  | non=>cases z;exact PySem.EqNone.eq_str_none (cY I q (by simp))
  | bl j=>cases z;exact PySem.EqMixed.eq_str_bool (cY I q (by simp))
  | int j=>obtain⟨t',rfl⟩:=z;exact PySem.EqMixed.eq_str_int (cY I q (by simp))
  | str j=>obtain⟨t',rfl⟩:=z;exact eq_str (cY I q aBq)
  | _=>exact absurd (show false=true from hs) Ay
 | byt i=>
  obtain⟨t,rfl⟩:=F;cases y with
  | byt j=>obtain⟨t',rfl⟩:=z;exact PySem.W.eq_bytes (cY I q aBr)
  | _=>exact absurd (show false=true from hs) Ay
 | _=>cases y <;> exact absurd (show false=true from hs) Ay
theorem oQ:OpR X (compareOp .NotEq) rNe:=by
 intro gz s σ H x y v u Q I F z h;obtain⟨hs,q⟩:=h;cases x with
 | non=>
  cases F;cases y with
  | non=>cases z;exact PySem.EqNone.ne_none_none (cY I q (by simp))
  | bl j=>cases z;exact PySem.EqNone.ne_none_bool (cY I q (by simp))
  | int j=>obtain⟨t',rfl⟩:=z;exact PySem.EqNone.ne_none_int (cY I q (by simp))
  | str j=>obtain⟨t',rfl⟩:=z;exact PySem.EqNone.ne_none_str (cY I q (by simp))
  | _=>exact absurd (show false=true from hs) Ay
 | bl i=>
  cases F;cases y with
  | non=>cases z;exact PySem.EqNone.ne_bool_none (cY I q (by simp))
  | bl j=>cases z;exact ne_bool (cY I q (congrArg not aDo))
  | str j=>obtain⟨t',rfl⟩:=z;exact PySem.EqMixed.ne_bool_str (cY I q (by simp))
  | _=>exact absurd (show false=true from hs) Ay
 | int i=>
  obtain⟨t,rfl⟩:=F;cases y with
  | non=>cases z;exact PySem.EqNone.ne_int_none (cY I q (by simp))
  | int j=>obtain⟨t',rfl⟩:=z;exact ne_int (cY I q (congrArg not aBp))
  | str j=>obtain⟨t',rfl⟩:=z;exact PySem.EqMixed.ne_int_str (cY I q (by simp))
  | _=>exact absurd (show false=true from hs) Ay
 | str i=>
  obtain⟨t,rfl⟩:=F;cases y with
  | non=>cases z;exact PySem.EqNone.ne_str_none (cY I q (by simp))
  | bl j=>cases z;exact PySem.EqMixed.ne_str_bool (cY I q (by simp))
  | int j=>obtain⟨t',rfl⟩:=z;exact PySem.EqMixed.ne_str_int (cY I q (by simp))
  | str j=>obtain⟨t',rfl⟩:=z;exact ne_str (cY I q (congrArg not aBq))
  | _=>exact absurd (show false=true from hs) Ay
 | byt i=>
  obtain⟨t,rfl⟩:=F;cases y with
  | byt j=>obtain⟨t',rfl⟩:=z;exact PySem.W.ne_bytes (cY I q (congrArg not aBr))
  | _=>exact absurd (show false=true from hs) Ay
 | _=>cases y <;> exact absurd (show false=true from hs) Ay
theorem oR:OpR X (compareOp .Lt) (rI0 fun i j=>.bl (decide (i < j))):=aG3 fun _ _ _ _ _ _ _ q=>lt_int q
theorem aBs:OpR X (compareOp .Gt) (rI0 fun i j=>.bl (decide (j < i))):=aG3 fun _ _ _ _ _ _ _ q=>gt_int q
theorem aGs:OpR X (compareOp .GtE) (rI0 fun i j=>.bl (decide (j≤i))):=aG3 fun _ _ _ _ _ _ _ q=>ge_int q
theorem bG(b:Be){op:Hh}(h:op≠.In:=by decide)(h2:op≠.NotIn:=by decide):behindInMarks op b=false:=by
 have z:(op == CmpOp.In)=false:=by cases op <;> first | rfl | exact absurd rfl h
 have q:(op == CmpOp.NotIn)=false:=by cases op <;> first | rfl | exact absurd rfl h2
 cases b <;> simp[behindInMarks,z,q]
theorem kY{op:Hh}{r:R2}(ho:OpR X (compareOp op) r)(ha:PE X a ta)(F:PE X b tb)(hm:behindInMarks op b=false):PE X (.Compare a [op] [b] pos) (tOp r ta tb):=by
 constructor;intro gz s σ H Q I h;exact wpAny_Compare1 (aG2 ha F I h fun v u s2 x y H2 z J M q=>ho gz s2 σ H2 x y v u Q z J M q) hm
def aH6(t:TE):TT:=fun σ H Q=>t σ H fun x H'=>As V.bl x fun k=>Q k H'
theorem aZ{op:Hh}{r:R2}(ho:OpR X (compareOp op) r)(ha:PE X a ta)(hb:PE X b tb)(hm:behindInMarks op b=false):PT X (.Compare a [op] [b] pos) (aH6 (tOp r ta tb)):=by
 constructor;intro gz s σ H Q I h;refine wpAny_isTrue_Compare1 (thn (ha gz s σ H _ I h) fun v s1 ⟨x,H1,F,J,Z⟩=>thn (hb gz s1 σ H1 _ F Z) fun u s2 ⟨y,H2,O,q,Y⟩=>
  thn (ho gz s2 σ H2 x y v u _ O J q Y) fun c s3 ⟨z,H3,M,r3,k,e,q3⟩=>?_) hm
 subst e;cases r3;exact CQ ⟨H3,M,q3⟩
def aH7(K:Ah)(x:V)(H:Hp)(k:Bool):Prop:=
 match x with
 | .non=>k=false
 | .bl b=>k=b
 | .int i=>k=(i != 0)
 | .str y=>y.length≤sizeLine∧k=((y.length:Int) != 0)
 | .byt y=>y.size≤sizeLine∧k=((y.size:Int) != 0)
 | .ref p=>(∃ xs,SqL K H p xs∧k=!xs.isEmpty)∨(∃ xs,SqT K H p xs∧k=!xs.isEmpty)∨∃ iz,H p=some (.dK iz)∧k=!iz.isEmpty
 | _=>False
theorem aAw{κ:Type}{iz:List (κ×V)}{vs:List (κ×Ad)}(r:KV iz vs):(!vs.isEmpty)=!iz.isEmpty:=by
 cases r <;> rfl
theorem rN{xs:List V}{its:List Ad}(r:bX xs its):(!its.toArray.isEmpty)=!xs.isEmpty:=by
 cases r <;> simp
theorem nZ:(sizeLine:Nat) < 2 ^ 63:=by rw[EU];decide
theorem aG5:aI4 X (fun x H Q=>∃ k,aH7 X.K x H k∧Q k H):=by
 intro gz s σ H x v Q I J h;obtain⟨k,e,q⟩:=h;have hl:=nZ;have hs:sizeLine=16777216:=EU;cases x with
 | non=>
  cases J;have z:k=false:=e;subst z;exact truthy_none ⟨H,I,q⟩
 | bl b=>
  cases J;have z:k=b:=e;subst z;exact CQ ⟨H,I,q⟩
 | int i=>
  obtain⟨t,rfl⟩:=J;have z:k=(i != 0):=e;subst z;exact PySem.P.truthy_int ⟨H,I,q⟩
 | str y=>
  obtain⟨t,rfl⟩:=J;obtain⟨hy,z⟩:y.length≤sizeLine∧k=((y.length:Int) != 0):=e;subst z;exact PySem.P.truthy_str (by omega) ⟨H,I.tok _,q⟩
 | byt y=>
  obtain⟨t,rfl⟩:=J;obtain⟨hy,z⟩:y.size≤sizeLine∧k=((y.size:Int) != 0):=e;subst z;exact PySem.W.truthy_bytes (by omega) ⟨H,I.tok _,q⟩
 | ref p=>
  cases J;have z:(∃ xs,SqL X.K H p xs∧k=!xs.isEmpty)∨(∃ xs,SqT X.K H p xs∧k=!xs.isEmpty)∨∃ iz,H p=some (.dK iz)∧k=!iz.isEmpty:=e;rcases z with⟨xs,hx,z⟩ | ⟨xs,hx,z⟩ | ⟨iz,hx,z⟩
  ·subst z;obtain⟨its,r,pl,hz⟩:=I.list hx;have F:=r.length;exact wpAny_truthy_list pl.isList (by simp only[Aq];omega) ⟨H,I.tok _,by rw[rN r];exact q⟩
  ·subst z;obtain⟨its,r,pl,hz⟩:=I.tuple hx;have F:=r.length;exact truthy_tuple pl (by simp only[Aq];omega) ⟨H,I.tok _,by rw[rN r];exact q⟩
  ·subst z;obtain⟨hz,hS,vs,r,m⟩:iz.length≤sizeLine∧(p == sysModules)=false∧∃ vs,KV iz vs∧s.heap.DictOf (cF X.prog X.w) p vs:=I.hok p _ hx;have F:iz.length=vs.length:=Bx r;exact wpAny_truthy_dict hS m (by omega) ⟨H,I.tok _,by rw[aAw r];exact q⟩
 | _=>exact(show False from e).elim
theorem aDp(ha:PE X a ta)(M:∀ q,isTrue a X.env q=(do let v ← q;standAt a.pos;holding [v] (truthy v))):
  PT X a (fun σ H Q=>ta σ H fun x H'=>∃ k,aH7 X.K x H' k∧Q k H'):=by
 constructor;intro gz s σ H Q I h;exact isTrue_plain (thn (ha gz s σ H _ I h) fun v s1 ⟨x,H1,z,F,J⟩=>aG5 gz s1 σ H1 x v Q z F J) (M _)
inductive lV(x:V)(y:V)(H:Hp)(Q:VK):Prop
 | mk (i:_) (j:_) (q0:x=.str i) (q1:y=.str j) (q2:i.length + j.length≤sizeLine) (q3:Q (.str (i ++ j)) H):lV x y H Q
def wL:V→V→Hp→VK→Prop:=fun x y H Q=>lV x y H Q
theorem iW:OpR X (binaryOp .Add) wL:=by
 intro gz s σ H x y v u Q I z F h;obtain⟨i,j,rfl,rfl,hz,q⟩:=h;obtain⟨t,rfl⟩:=z;obtain⟨J,rfl⟩:=F;exact add_str (fun J tk=>⟨.str (i ++ j),H,I.tok _,⟨_,rfl⟩,q⟩) hz
theorem eY{x:V}{q:List Ad}(r:bX [x] q):∃ u,q=[u]∧cG x u:=by
 cases r with
 | cons z F=>cases F;exact⟨_,rfl,z⟩
theorem aGt{x y:V}{z:List Ad}(r:bX [x,y] z):∃ u q,z=[u,q]∧cG x u∧cG y q:=by
 cases r with
 | cons J M=>
  cases M with
  | cons F O=>cases O;exact⟨_,_,rfl,J,F⟩
inductive oS(xs:List V)(H:Hp)(Q:VK):Prop
 | mk (i:_) (q0:xs=[.int i]) (q1:Q (.int (if i < 0 then -i else i)) H):oS xs H Q
def aAx:List V→Hp→VK→Prop:=fun xs H Q=>oS xs H Q
theorem rO:eU X (.builtin "abs") aAx:=by
 intro gz s σ H xs z Q I r h;obtain⟨i,rfl,q⟩:=h;obtain⟨u,rfl,t,rfl⟩:=eY r;exact call_abs_int fun u tk=>⟨.int (if i < 0 then -i else i),H,I.tok _,⟨_,rfl⟩,q⟩
inductive nJ(xs:List V)(H:Hp)(Q:VK):Prop
 | mk (i:_) (j:_) (q0:xs=[.int i,.int j]) (q1:Q (.int (if j > i then j else i)) H):nJ xs H Q
def xY:List V→Hp→VK→Prop:=fun xs H Q=>nJ xs H Q
theorem uT(hc:X.calm=true):eU X (.builtin "max") xY:=by
 intro gz s σ H xs F Q I r h;obtain⟨i,j,rfl,q⟩:=h;obtain⟨u,w',rfl,⟨t,rfl⟩,⟨t',rfl⟩⟩:=aGt r;refine max_two_ints (I.ok.hd hc) fun h' tk k=>⟨_,H,I.kept k,?_,q⟩
 by_cases z:j > i
 ·rw[Ib z,Ib z];exact⟨_,rfl⟩
 ·rw[Ia z,Ia z];exact⟨_,rfl⟩
inductive nL(xs:List V)(H:Hp)(Q:VK):Prop
 | mk (i:_) (j:_) (q0:xs=[.int i,.int j]) (q1:Q (.int (if j < i then j else i)) H):nL xs H Q
def xZ:List V→Hp→VK→Prop:=fun xs H Q=>nL xs H Q
theorem mZ(hc:X.calm=true):eU X (.builtin "min") xZ:=by
 intro gz s σ H xs F Q I r h;obtain⟨i,j,rfl,q⟩:=h;obtain⟨u,w',rfl,⟨t,rfl⟩,⟨t',rfl⟩⟩:=aGt r;refine min_two_ints (I.ok.hd hc) fun h' tk k=>⟨_,H,I.kept k,?_,q⟩
 by_cases z:j < i
 ·rw[Ib z,Ib z];exact⟨_,rfl⟩
 ·rw[Ia z,Ia z];exact⟨_,rfl⟩
theorem uU:eU X (.type "int") (fun xs H Q=>(∃ i,xs=[.int i]∧Q (.int i) H)∨∃ k,xs=[.bl k]∧Q (.int (if k then 1 else 0)) H):=by
 intro gz s σ H xs z Q I r h;rcases h with⟨i,rfl,q⟩ | ⟨k,rfl,q⟩
 ·obtain⟨u,rfl,t,rfl⟩:=eY r;exact call_int_int ⟨.int i,H,I,⟨_,rfl⟩,q⟩
 ·obtain⟨u,rfl,r1⟩:=eY r;cases r1;exact call_int_bool ⟨.int (if k then 1 else 0),H,I.tok _,⟨_,rfl⟩,q⟩
end
structure aCw(h:Bi)(x dx C:Ae)(mA:Str→Option Ad):Prop where
 obj:h.get? x=some (CG C dx)
 ns:h.Ns1 dx mA
 ne:dx≠x
theorem aCx{h:Bi}{dx:Ae}{mA:Str→Option Ad}(n:h.Ns1 dx mA):∃ od,h.get? dx=some od∧∀ name,FX name od=some (mA name):=by
 obtain⟨o,es,ep,ho,hd,hk,_,hm⟩:=n;refine⟨o,ho,fun name=>?_⟩;have e:=hm name;unfold nsFind findBy at e;rw[← Array.find?_toList]at e;unfold FX;rw[hd];dsimp only;split
 ·rename_i y q;rw[q]at e;exact congrArg some e
 ·rename_i q;rw[q]at e;have a:es.toList.any (·.refKey)=false:=by
   rw[List.any_eq_false];intro y F;obtain⟨z,t,hkey⟩:=hk y (Array.mem_toList_iff.mp F);simp[DictEntry.refKey,hkey]
  have a':¬ es.toList.any (·.refKey)=true:=by rw[a];exact Ay
  rw[Ia a'];exact congrArg some e
theorem aCw.look{h:Bi}{x dx C:Ae}{mA:Str→Option Ad}(I:aCw h x dx C mA):∃ od,PySem.W.InstAt h x (CG C dx) C (some od)∧∀ name,FX name od=some (mA name):=
 let ⟨od,ho,hl⟩:=aCx I.ns
 ⟨od,⟨I.obj,rfl,rfl,ho⟩,hl⟩
section
variable{prog:AC}{w:AT}{A:AU}{E:Ad→Ag→Prop}{s:Ag}{K:Ah}{x dx C f:Ae}{mA:Str→Option Ad}{name:Str}{v:Ad}
theorem aFp{q:Bool}{Q:Ad→Ag→Prop}(X:K.In s.heap)(I:aCw s.heap x dx C mA)(F:Eu K C name=true)(M:Ei K C=true)
  (ha:Bw K (.ref C) name=some none) (hv:mA name=some v) (z:PySem.W.handedIn v=true) (h:Q v { s with toks:=s.toks + 1 }):
  wpAny (model prog w) A (getAttr (.ref x) name q) Q E s:=by
 obtain⟨od,J,hl⟩:=I.look;exact PySem.W.get_value X J (PySem.W.plainGet_of F).1 (PySem.W.findObj_own M ha rfl (by rw[hl,hv])) z h
theorem aFq{ns:List Str}{Q:Unit→Ag→Prop}(X:K.In s.heap)(I:aCw s.heap x dx C mA)
  (hs:Bw K (.ref C) "__setattr__"=some (some (.builtin "object.__setattr__"))) (O:Fr K C=true) (ht:FF K C name=some none) (M:Ei K C=true)
  (hw:Gk mA ns) (hsz:ns.length≤sizeLine)
  (h:∀ h',aCw h' x dx C (fun y=>if y=name then some v else mA y)→Eb dx s.heap h'→Q () { s with heap:=h',toks:=s.toks + 2 }):
  wpAny (model prog w) A (setAttr (.ref x) name v) Q E s:=by
 obtain⟨od,J,hl⟩:=I.look;refine PySem.W.set_plain X J hs (PySem.W.osa_open (s:={ s with toks:=s.toks + 1 }) (r:=none) X J O ht fun b=>?_);obtain⟨cd,hc,hd'⟩:=PySem.W.any_some M;have F:s.heap.get? x=some ⟨.ref C,some dx,.plain,#[]⟩:=I.obj;refine Ab (Af (Ab (Ab (wpAny_loadPart F (Ab (PySem.W.Looks.here (s:={ s with toks:=s.toks + 1 }) (PySem.W.looks_clsIn X hc) ?_))))));rw[hd'];refine Af (a:=some dx) (Ab (Af (Ab ?_)));refine wpAny_nsSet1 (s:={ s with toks:=s.toks + 1 }) I.ns fun h' q z=>?_;obtain⟨oD,esD,epD,hoD,hdD,hcD⟩:=q.count (PySem.Within.cons name v hw);refine Ab (wpAny_lookBehind hoD (by rw[hdD];exact pastItsLine_dict (AI hcD (by rw[AK];omega))) ?_);exact Af (h _ ⟨(z.2 _ (BX I.ne)).trans I.obj,q,I.ne⟩ z)
theorem aDq{R:Gu→Ag→Prop}{vs:List Ad}{q:List (Str×Ad)}(X:K.In s.heap)(hm:FG K C=true)
  (hi:Bw K (.ref C) "__init__"=some (some (.ref f))) (z:PySem.W.typeIn K (.ref f)=some (.type "function"))
  (h:codeAny (model prog w) (A.under (.builtin "type.__call__" ⟨.ref C :: vs,q⟩)) (.call (.ref f) ⟨.ref (s.heap.objs.size + 1) :: vs,q⟩) (PySem.W.InitBack (s.heap.objs.size + 1) R)
   { s with heap:=(s.heap.push Cd).push (CG C s.heap.objs.size) }):
  codeAny (model prog w) A (.call (.ref C) ⟨vs,q⟩) R s:=by
 obtain⟨hh,g,d,t,os⟩:=s;exact PySem.W.make_core (PySem.W.makes_of X hm) (PySem.W.looks_findIn X hi) (fun self=>PySem.W.bind_fn X self z) (.inl rfl) h
end
def fY(f:Str)(v:V):List (Str×V)→List (Str×V)
 | []=>[(f,v)]
 | (g,x) :: r=>if g=f then(g,v) :: r else(g,x) :: fY f v r
theorem qG(f g:Str)(v:V):∀ fs:List (Str×V),(fY f v fs).lookup g=if g=f then some v else fs.lookup g
 | []=>by
  show Dj g [(f,v)]=_;by_cases h:g=f
  ·have q:(g == f)=true:=beq_iff_eq.mpr h;simp only[Dj,q,Ib h]
  ·have q:(g == f)=false:=beq_eq_false_iff_ne.mpr h;simp only[Dj,q,Ia h]
 | (k,x) :: r=>by
  have F:=qG f g v r;rw[show fY f v ((k,x) :: r)=(if k=f then(k,v) :: r else(k,x) :: fY f v r) from rfl];by_cases z:k=f
  ·rw[Ib z];by_cases h:g=k
   ·have q:(g == k)=true:=beq_iff_eq.mpr h;simp only[Dj,q,Ib (h.trans z)]
   ·have q:(g == k)=false:=beq_eq_false_iff_ne.mpr h;simp only[Dj,q,Ia (fun e:g=f=>h (e.trans z.symm))]
  ·rw[Ia z];by_cases h:g=k
   ·have q:(g == k)=true:=beq_iff_eq.mpr h;simp only[Dj,q,Ia (fun e:g=f=>z (h.symm.trans e))]
   ·have q:(g == k)=false:=beq_eq_false_iff_ne.mpr h;simp only[Dj,q];exact F
theorem pW(f:Str)(v:V):∀ fs:List (Str×V),f∈(fY f v fs).map (·.1)∧∀ g,g∈fs.map (·.1)→g∈(fY f v fs).map (·.1)
 | []=>⟨by simp[fY],fun g h=>by simp at h⟩
 | (k,x) :: r=>by
  obtain⟨i1,i2⟩:=pW f v r;rw[show fY f v ((k,x) :: r)=(if k=f then(k,v) :: r else(k,x) :: fY f v r) from rfl];by_cases q:k=f
  ·rw[Ib q];subst q;exact⟨by simp,fun g h=>by simpa using h⟩
  ·rw[Ia q];refine⟨?_,fun g h=>?_⟩
   ·rw[Av];exact Ap _ i1
   ·rw[Av]at h ⊢;rcases Ak.mp h with e | e
    ·exact Ak.mpr (.inl e)
    ·exact Ap _ (i2 g e)
theorem qH(f:Str)(v:V):∀ fs:List (Str×V),(fY f v fs).length≤fs.length + 1
 | []=>by simp[fY]
 | (k,x) :: r=>by
  have z:=qH f v r;rw[show fY f v ((k,x) :: r)=(if k=f then(k,v) :: r else(k,x) :: fY f v r) from rfl];by_cases q:k=f
  ·rw[Ib q,AK,AK];omega
  ·rw[Ia q,AK,AK];omega
theorem lR.some_of{v:V}{o:Option Ad}(r:lR (some v) o):∃ u,o=some u∧cG v u:=by
 cases o with
 | none=>exact(show False from r).elim
 | some u=>exact⟨u,rfl,r⟩
theorem aCy{v:V}{u:Ad}(r:cG v u):PySem.W.handedIn u=true:=by
 cases v with
 | non=>cases(show u=Dr from r);rfl
 | bl b=>cases(show u=GK b from r);rfl
 | int i=>obtain⟨t,e⟩:=(show∃ t,u=Bt i t from r);cases e;rfl
 | str x=>obtain⟨t,e⟩:=(show∃ t,u=Br x t from r);cases e;rfl
 | byt b=>obtain⟨t,e⟩:=(show∃ t,u=Value.bytes b t from r);cases e;rfl
 | flt b=>obtain⟨t,e⟩:=(show∃ t,u=Value.float b t from r);cases e;rfl
 | ref a=>cases(show u=AA a from r);rfl
 | ty n=>cases(show u=A9 n from r);rfl
section
variable{P:AC}{w:AT}{H H':Hp}{h h':Bi}{a C dx:Ae}{fs jo:List (Str×V)}
theorem aBt(hok:HOk P w H h)(e:H a=some (.ins C dx fs)):∃ mA,aCw h a dx C mA∧(∀ f,lR (fs.lookup f) (mA f))∧Gk mA (fs.map (·.1))∧fs.length≤1000∧H dx=some (.own a):=by
 obtain⟨d,z,ne,ob,mA,n,r,q⟩:=(show cS P w H h a (.ins C dx fs) from hok a _ e)
 exact⟨mA,⟨ob,n,ne⟩,r,q,z,d⟩
end
structure Cls(K:Ah)(C:Ae):Prop where
 pg:Eu K C Str.empty=true
 hd:Ei K C=true
 po:Fr K C=true
 sa:Bw K (.ref C) "__setattr__"=some (some (.builtin "object.__setattr__"))
theorem Cls.get{K:Ah}{C:Ae}(c:Cls K C)(f:Str):Eu K C f=true:=c.pg
def iX(K:Ah)(C:Ae)(f:Str):Prop:=Bw K (.ref C) f=some none
theorem iX.taker{K:Ah}{C:Ae}{f:Str}(n:iX K C f):FF K C f=some none:=by
 unfold FF;rw[show Bw K (.ref C) f=some none from n];rfl
structure Con(K:Ah)(C:Ae)(f:Str)(v:V)(u:Ad):Prop where
 at_:Bw K (.ref C) f=some (some u)
 rel:cG v u
 get:PySem.W.specialIn K u "__get__"=some none
 cp:PySem.W.copiedNames.contains f=false
structure aJD(K:Ah)(C:Ae)(m:Str)(f:Ae):Prop where
 at_:Bw K (.ref C) m=some (some (.ref f))
 fn:Gc K (.ref f)=true
 kp:AO K (.ref f)=true
section
variable{X:Cx}{gz:List (Ae×Obj)}{σ:St}{H:Hp}{s:Ag}{a C dx:Ae}{fs:List (Str×V)}{f:Str}{v:V}{A:AU}{E:Ad→Ag→Prop}
theorem aAy{b:Bool}{Q:Ad→Ag→Prop}(I:Inv X gz σ H s)(e:H a=some (.ins C dx fs))(c:Cls X.K C)(n:iX X.K C f)(l:fs.lookup f=some v)
  (h:∀ u s',Inv X gz σ H s'→cG v u→Q u s'):wpAny (model X.prog X.w) A (getAttr (.ref a) f b) Q E s:=by
 obtain⟨mA,O,r,_,_,_⟩:=aBt I.hok e;obtain⟨u,hu,ru⟩:=lR.some_of (v:=v) (o:=mA f) (by rw[← l];exact r f);exact aFp I.kIn O (c.get f) c.hd n hu (aCy ru) (h u _ (I.tok _) ru)
theorem aAz{y:V}{u:Ad}{Q:Unit→Ag→Prop}(I:Inv X gz σ H s)(e:H a=some (.ins C dx fs))(c:Cls X.K C)(n:iX X.K C f)(hl:fs.length < 1000)(Z:cG y u)
  (h:∀ s',Inv X gz σ (upd H a (.ins C dx (fY f y fs))) s'→Q () s'):wpAny (model X.prog X.w) A (setAttr (.ref a) f u) Q E s:=by
 obtain⟨mA,O,r,wi,_,ho⟩:=aBt I.hok e;have Y:(fs.map (·.1)).length≤sizeLine:=by rw[Aa,EU];omega
 refine aFq I.kIn O c.sa c.po n.taker c.hd wi Y fun h' F sb=>h _ ?_;have hd:∃ o,h'.get? dx=some o:=let ⟨o,_,_,e',_⟩:=F.ns;⟨o,e'⟩
 refine I.write (x:=a) (e:=dx) (by rw[e];exact Dg) (.inr ho) (fun b q M z=>(sb.2 b M).trans z) hd ?_;refine⟨by rw[aG O.ne];exact ho,?_,O.ne,F.obj,_,F.ns,fun g=>?_,fun g J=>?_⟩
 ·have:=qH f y fs;omega
 ·show lR ((fY f y fs).lookup g) (if g=f then some u else mA g);rw[qG];by_cases q:g=f
  ·rw[Ib q,Ib q];exact Z
  ·rw[Ia q,Ia q];exact r g
 ·by_cases q:g=f
  ·rw[q];exact(pW f y fs).1
  ·refine(pW f y fs).2 g (wi g fun z=>J ?_);show(if g=f then some u else mA g)=none;rw[Ia q];exact z
theorem Inv.made(I:Inv X gz σ H s):Inv X gz σ (upd (upd H s.heap.objs.size (.own (s.heap.objs.size + 1))) (s.heap.objs.size + 1) (.ins C s.heap.objs.size []))
  { s with heap:=(s.heap.push Cd).push (CG C s.heap.objs.size) }:=by
 have z:(s.heap.push Cd).get? s.heap.objs.size=some Cd:=Ax s.heap rfl;have F:((s.heap.push Cd).push (CG C s.heap.objs.size)).get? (s.heap.objs.size + 1)=some (CG C s.heap.objs.size):=by
  have:=Ax (s.heap.push Cd) (o:=CG C s.heap.objs.size) rfl
  rwa [Cz]at this
 have M:(s.heap.push Cd).Ns s.heap.objs.size (fun _=>none):=⟨Cd,#[],_,z,rfl,(fun e O=>absurd O (by simp)),fun _=>rfl⟩
 have Y:=I.laid (a:=s.heap.objs.size) (o:=.own (s.heap.objs.size + 1)) (h':=s.heap.push Cd) (t':=s.toks) (fun b u q=>Aj _ q) (Am _) ⟨_,z⟩;refine Y.laid (a:=s.heap.objs.size + 1) (o:=.ins C s.heap.objs.size []) (t':=s.toks) (fun b u q=>Aj _ q) (Ef (Cz _ _)) ?_;have ne:s.heap.objs.size≠s.heap.objs.size + 1:=AB (Dn _);refine⟨by rw[aG ne,aA],A0 _,ne,F,fun _=>none,(Heap.Ns1.of_empty M).at fun o q=>Aj _ q,fun _=>Dg,fun y J=>absurd rfl J⟩
theorem aFr{prog:AC}{w:AT}{env:Env}{e:Be}{f:Str}{pos:Pos}{s:Ag}{Q:Ad→Ag→Prop}(z:attributeBase e f env (eval e env)=eval e env)
  (h:wpAny (model prog w) A (eval e env) (fun o q=>wpAny (model prog w) A (getAttr o f true) Q E q) E s):wpAny (model prog w) A (eval (.Attribute e f pos) env) Q E s:=
 Attribute_any_ h (by rw[arm_eval_Attribute,z])
end
def aH8(K:Ah)(ta:TE)(f:Str):TE:=fun σ H Q=>ta σ H fun x H1=>∃ a C dx fs v,x=.ref a∧H1 a=some (.ins C dx fs)∧Cls K C∧iX K C f∧fs.lookup f=some v∧Q v H1
def aI7(K:Ah)(ta tv:TE)(f:Str):TS:=fun D σ H=>tv σ H fun y H1=>ta σ H1 fun x H2=>∃ a C dx fs,x=.ref a∧H2 a=some (.ins C dx fs)∧Cls K C∧iX K C f∧fs.length < 1000∧
 D.nx σ (upd H2 a (.ins C dx (fY f y fs)))
section
variable{X:Cx}{o e value:Be}{f:Str}{pos jl tpos:Pos}{ta tv:TE}
theorem dB(O:PE X e ta)(M:attributeBase e f X.env (eval e X.env)=eval e X.env):PE X (.Attribute e f pos) (aH8 X.K ta f):=by
 constructor;intro gz s σ H Q I h;refine aFr M (thn (O gz s σ H _ I h) fun u s1 ⟨x,H1,z,Y,a,C,dx,fs,v,ex,F,c,n,l,q⟩=>?_);subst ex;obtain rfl:u=AA a:=Y;exact aAy z F c n l fun u' s2 J Z=>⟨v,H1,J,Z,q⟩
theorem rP(ha:PE X o ta)(hv:PE X value tv)(hs:swapsWith value (some (.Attribute o f jl)) pos.line X.env=pure false):PS X (.Assign [.Attribute o f jl] value pos) (aI7 X.K ta tv f):=by
 constructor;intro gz s σ H D I h;refine plainObj_wpAny_Assign_Attribute (thn (hv gz s σ H _ I h) fun u s1 ⟨y,H1,F,ry,q⟩=>thn (ha gz s1 σ H1 _ F q) fun z s2 ⟨x,H2,O,Z,a,C,dx,fs,ex,J,c,n,l,Y⟩=>?_) hs;subst ex;obtain rfl:z=AA a:=Z;exact aAz O J c n l ry fun s3 M=>⟨σ,_,M,Y⟩
end
section
variable{X:Cx}{gz:List (Ae×Obj)}{σ:St}{H:Hp}{s:Ag}{A:AU}{E:Ad→Ag→Prop}{Q:Ad→Ag→Prop}{c:Ad}{b:Bool}
inductive rQ(K:Ah)(H:Hp):V→Ad→Prop where
 | non:rQ K H .non (.type "NoneType")
 | bl (x:Bool):rQ K H (.bl x) (.type "bool")
 | int (i:Int):rQ K H (.int i) (.type "int")
 | str (x:Str):rQ K H (.str x) (.type "str")
 | flt (x:UInt64):rQ K H (.flt x) (.type "float")
 | lst {a:Ae} {xs:List V} (e:H a=some (.lst xs)):rQ K H (.ref a) (.type "list")
 | frz {a:Ae} {o:Obj} {xs:List V} (e:H a=some (.frz o (.lst xs))):rQ K H (.ref a) (.type "list")
 | tup {a:Ae} {xs:List V} (e:H a=some (.tup xs)):rQ K H (.ref a) (.type "tuple")
 | dK {a:Ae} {iz:List (Key×V)} (e:H a=some (.dK iz)):rQ K H (.ref a) (.type "dict")
 | dT {a:Ae} {iz:List (List Key×V)} (e:H a=some (.dT iz)):rQ K H (.ref a) (.type "dict")
 | ins {a C dx:Ae} {fs:List (Str×V)} (e:H a=some (.ins C dx fs)) (cl:Cls K C) (ha:Bw K (.ref C) "__class__"=some (some (.builtin "object.__class__")))
   (hn:PySem.W.specialIn K (.builtin "object.__class__") "__get__"=some (some (.builtin "getset_descriptor.__get__"))) (htk:PySem.W.takesIn K (.builtin "object.__class__")=some true)
   (hm:PySem.W.mroIn K C (.type "object")=some true):rQ K H (.ref a) (.ref C)
end
structure dG(k:Nat)(A:AU):Prop where
 hd:A.handled=none
 dp:A.depth + 3 * k + 5 < recursionLimit
 un:A.units + 16 * k + 200 < cLine
 gd:A.guards=some []
theorem dG.mono{j k:Nat}{A:AU}(r:dG k A)(h:j≤k):dG j A:=⟨r.hd,by have:=r.dp;omega,by have:=r.un;omega,r.gd⟩
theorem dG.deeper{k:Nat}{A:AU}(r:dG (k + 1) A)(env:Env):dG k (A.deeper env):=
 ⟨r.hd,by have:=r.dp;show A.depth + 1 + 3 * k + 5 < _;omega,by have:=r.un;show A.units + 3 + 16 * k + 200 < _;omega,r.gd⟩
theorem dG.in1{k:Nat}{A:AU}(r:dG (k + 1) A):dG k A.in1:=
 ⟨r.hd,by have:=r.dp;show A.depth + 3 * k + 5 < _;omega,by have:=r.un;show A.units + 1 + 16 * k + 200 < _;omega,r.gd⟩
theorem aAA{A:AU}{C:Ae}{z:List Ad}{q:List (Str×Ad)}:(A.under (.builtin "type.__call__" ⟨.ref C :: z,q⟩)).depth=A.depth + 1:=by
 first | rfl | simp[Fv,Code.weight,Code.isCreation,Code.isGuard,Code.isCaller,Code.frames,Go,guardIds]
theorem aAB{A:AU}{C:Ae}{z:List Ad}{q:List (Str×Ad)}:(A.under (.builtin "type.__call__" ⟨.ref C :: z,q⟩)).units=A.units + 1:=by
 first | rfl | simp[Fv,Code.cUnits,Code.frames,Go]
theorem x8{A:AU}{C:Ae}{q:List Ad}{z:List (Str×Ad)}:(A.under (.builtin "type.__call__" ⟨.ref C :: q,z⟩)).guards=A.guards:=by
 first | rfl | (cases A;rename_i a b c g e;cases g <;> first | rfl | simp[Fv,Code.guards,Code.isGuard,guardIds,pushGuards])
theorem dG.make{k:Nat}{A:AU}(r:dG (k + 1) A)(C:Ae)(q:List Ad)(z:List (Str×Ad)):dG k (A.under (.builtin "type.__call__" ⟨.ref C :: q,z⟩)):=
 ⟨r.hd,by have:=r.dp;rw[aAA];omega,by have:=r.un;rw[aAB];omega,x8.trans r.gd⟩
theorem dG.depth{k:Nat}{A:AU}(r:dG k A):A.depth < recursionLimit:=by have:=r.dp;omega
theorem dG.units{k:Nat}{A:AU}(r:dG k A):A.units + 64 < cLine:=by have:=r.un;omega
def aG6:TA:=fun _ H Q=>Q [] H
def aBu(ta:TE)(tr:TA):TA:=fun σ H Q=>ta σ H fun x H1=>tr σ H1 fun xs H2=>Q (x :: xs) H2
section
variable{X:Cx}{e:Be}{es:List Be}{te:TE}{t:TA}{pos:Pos}
theorem aE:PA X [] aG6:=⟨fun _ _ _ _ H Q I h=>FA ⟨[],H,I,.nil,h⟩⟩
theorem aFs(ha:PE X e te)(O:PA X es t)(hs:starEach (e :: es) X.env=(false,eval e X.env) :: starEach es X.env:=by rfl):PA X (e :: es) (aBu te t):=by
 constructor;intro pos gz s σ H Q I h;rw[hs];show wpAny _ _ (spliced ((false,eval e X.env) :: backTo pos (starEach es X.env))) _ _ s;refine Eg (thn (ha gz s σ H _ I h) fun u s1 ⟨x,H1,z,F,Y⟩=>?_);exact thn (O pos gz s1 σ H1 _ z Y) fun Z s2 ⟨xs,H2,J,q,M⟩=>⟨x :: xs,H2,J,.cons F q,M⟩
def aI8(t:TA):TE:=fun σ H Q=>t σ H fun xs H1=>xs.length≤sizeLine∧∀ p,H1 p=none→Q (.ref p) (upd H1 p (.tup xs))
def aI9(t:TA):TE:=fun σ H Q=>t σ H fun xs H1=>xs.length≤sizeLine∧∀ p,H1 p=none→Q (.ref p) (upd H1 p (.lst xs))
theorem cH{x1}(h:PA X es t):PE X (.Tuple es x1 pos) (aI8 t):=by
 constructor;intro gz s σ H Q I J;refine wpAny_Tuple_spliced (thn (h pos gz s σ H _ I J) fun M s1 ⟨xs,H1,F,r,z,q⟩=>⟨by rw[← r.length];exact z,?_⟩);have O:H1 s1.heap.objs.size=none:=F.hok.fresh (Am _);refine⟨.ref s1.heap.objs.size,upd H1 s1.heap.objs.size (.tup xs),F.laid (t':=s1.toks) (fun b u e=>Aj _ e) (Am _) ?_,rfl,q _ O⟩;exact⟨z,M,r,⟨_,Ax _ rfl,⟨rfl,_,rfl⟩,rfl⟩⟩
theorem c6(h:PA X es t):PE X (.List es pos) (aI9 t):=by
 constructor;intro gz s σ H Q I J;refine wpAny_List_spliced (thn (h pos gz s σ H _ I J) fun M s1 ⟨xs,H1,F,r,z,q⟩=>⟨by rw[← r.length];exact z,?_⟩);have O:H1 s1.heap.objs.size=none:=F.hok.fresh (Am _);refine⟨.ref s1.heap.objs.size,upd H1 s1.heap.objs.size (.lst xs),F.laid (t':=s1.toks) (fun b u e=>Aj _ e) (Am _) ?_,rfl,q _ O⟩;exact⟨z,M,0,r,Ax _ rfl⟩
end
abbrev Sp:=List V→Hp→VK→XK→Prop
abbrev CXT:=List Env→Hp→Ag→XK→Ad→Ag→Prop
structure aAC(P:AC)(w:AT)(K:Ah)(mg:Str→Option Ad)(base:Bi)(A:AU)(outer:List Env)(s:Ag)(H:Hp):Prop where
 frames:A.frames=some outer
 mod:Mod K mg base
 bs:∀ b o,base.get? b=some o→s.heap.get? b=some o∧H b=none
 bsz:base.objs.size≤s.heap.objs.size
 funs:s.heap.FunFrames base outer
 frf:∀ b∈frs outer,H b=none
 hok:HOk P w H s.heap
 bare:EC s.gens
inductive aH9(outer:List Env)(P:AC)(w:AT)(H:Hp)(s:Ag)(Q:VK)(u:Ad)(s':Ag):Prop
 | mk (v:_) (H':_) (q0:s'.os=s.os) (q1:EC s'.gens) (q2:Un (frs outer) [] H H' s.heap s'.heap) (q3:HOk P w H' s'.heap) (q4:cG v u) (q5:Q v H'):aH9 outer P w H s Q u s'
def CE(outer:List Env)(P:AC)(w:AT)(H:Hp)(s:Ag)(Q:VK)(u:Ad)(s':Ag):Prop:=aH9 outer P w H s Q u s'
def CR(CX:CXT)(outer:List Env)(P:AC)(w:AT)(H:Hp)(s:Ag)(Q:VK)(E:XK)(r:Gu)(s':Ag):Prop:=
 match r with
 | .ok (.ret u)=>CE outer P w H s Q u s'
 | .ok _=>False
 | .error e=>CX outer H s E e s'
structure cP(P:AC)(w:AT)(K:Ah)(mg:Str→Option Ad)(base:Bi)(CX:CXT)(k:Nat)(f:Ae)(fd:A3)(ps:List Str)(sp:Sp):Prop where
 len:∀ vs H Q E,sp vs H Q E→vs.length=ps.length
 run:∀(A:AU) (outer:List Env) (s:Ag) (H:Hp) (args:Args) (us:List Ad) (vs:List V) (Q:VK) (E:XK),dG k A→aAC P w K mg base A outer s H→F9 s fd args (ps.zip us)→bX vs us→sp vs H Q E→
  codeAny (model P w) A (.call (.ref f) args) (CR CX outer P w H s Q E) s
theorem cP.mono{P:AC}{w:AT}{K:Ah}{mg:Str→Option Ad}{base:Bi}{CX:CXT}{j k:Nat}{f:Ae}{fd:A3}{ps:List Str}{sp:Sp}(F:cP P w K mg base CX j f fd ps sp)(h:j≤k):
  cP P w K mg base CX k f fd ps sp:=⟨F.len,fun A outer s H q J vs Q E z=>F.run A outer s H q J vs Q E (z.mono h)⟩
theorem aAC.make{P:AC}{w:AT}{K:Ah}{mg:Str→Option Ad}{base:Bi}{A:AU}{outer:List Env}{s:Ag}{H:Hp}(e:aAC P w K mg base A outer s H)(C:Ae)(q:List Ad)(z:List (Str×Ad)):
  aAC P w K mg base (A.under (.builtin "type.__call__" ⟨.ref C :: q,z⟩)) outer s H:=⟨by first | exact e.frames | (simpa[Fv,Code.envs,Go,pushEnvs]using e.frames),e.mod,e.bs,e.bsz,e.funs,e.frf,e.hok,e.bare⟩
section
variable{X:Cx}{gz:List (Ae×Obj)}{σ:St}{H:Hp}{s s':Ag}
theorem Inv.env0(I:Inv X gz σ H s):aAC X.prog X.w X.K X.mg X.base X.A X.stack s H:=
 ⟨I.ok.frames,I.ok.mod,I.bs,AI I.ok.bsz I.sz,I.stack,I.stkFree,I.hok,I.bare⟩
theorem Inv.after{Q:VK}{u:Ad}(I:Inv X gz σ H s)(h:CE X.stack X.prog X.w H s Q u s'):EP X gz σ Q u s':=by
 obtain⟨v,H',os,bare,un,hok,r,q⟩:=h;obtain⟨hh,g,d,t,os'⟩:=s';obtain rfl:os'=s.os:=os;exact⟨v,H',I.call (h':=hh) (g':=g) (d':=d) (t':=t) (ch:=[]) un hok bare (fun b z=>absurd z (by simp)),r,q⟩
end
def aGu(sp:Sp)(dvs:List V)(E:XK)(t:TA):TE:=fun σ H Q=>t σ H fun vs H1=>sp (vs ++ dvs) H1 Q E
def aIa(C:Ae)(sp:Sp)(dvs:List V)(E:XK)(t:TA):TE:=fun σ H Q=>t σ H fun vs H1=>∀ x dx,H1 x=none→H1 dx=none→dx≠x→
 sp (.ref x :: (vs ++ dvs)) (upd (upd H1 dx (.own x)) x (.ins C dx [])) (fun v H2=>v=.non∧Q (.ref x) H2) E
def d9(K:Ah)(fd:A3)(ps:List Str)(ds:List Ad):Prop:=
 ∀(s:Ag) (us:List Ad),K.In s.heap→(us ++ ds).length=ps.length→F9 s fd ⟨us,[]⟩ (ps.zip (us ++ ds))
theorem d9.all{K:Ah}{fd:A3}{ps:List Str}(h:∀ q:List Ad,q.length=ps.length→bindArgs fd ⟨q,[]⟩=pure (ps.zip q)):d9 K fd ps []:=fun s q _ hl=>by
 rw[BN]at hl ⊢;exact .of_eq (h q hl)
def rR(CX:CXT)(X:Cx)(E:XK):Prop:=∀(gz:List (Ae×Obj)) (σ:St) (H:Hp) (s:Ag) (e:Ad) (s':Ag),Inv X gz σ H s→CX X.stack H s E e s'→X.xe e s'
section
variable{X:Cx}{CX:CXT}{k:Nat}{f C:Ae}{fd:A3}{ps:List Str}{sp:Sp}{dvs:List V}{ds:List Ad}{E:XK}{x m:Str}{p pos jc:Pos}{e o:Be}{es:List Be}{ta:TE}{t:TA}
theorem aDr{gz:List (Ae×Obj)}{σ:St}{H:Hp}{s:Ag}{Q:VK}{q:List Ad}{vs:List V}(F:cP X.prog X.w X.K X.mg X.base CX k f fd ps sp)(O:dG k X.A)(Y:d9 X.K fd ps ds)(hd:bX dvs ds)(M:rR CX X E)
  (I:Inv X gz σ H s) (r:bX vs q) (h:sp (vs ++ dvs) H Q E):wpAny (model X.prog X.w) X.A (call (.ref f) q) (EP X gz σ Q) X.xe s:=by
 have J:bX (vs ++ dvs) (q ++ ds):=r.append hd;have hl:(q ++ ds).length=ps.length:=by rw[← J.length];exact F.len _ _ _ _ h
 refine Fc (DU (F.run X.A X.stack s H ⟨q,[]⟩ (q ++ ds) (vs ++ dvs) Q E O I.env0 (Y s q I.kIn hl) J h) fun r s' z=>?_);cases r with
 | error e=>exact M gz σ H s e s' I z
 | ok fl=>
  cases fl with
  | ret u=>exact I.after z
  | next=>exact BZ z
  | brk=>exact BZ z
  | cont=>exact BZ z
theorem cN(F:cP X.prog X.w X.K X.mg X.base CX k f fd ps sp)(hr:dG k X.A)(O:Gl X x)(hm:X.mg x=some (.ref f))(Y:AO X.K (.ref f)=true)(hb:d9 X.K fd ps ds)(hd:bX dvs ds)(Z:rR CX X E)
  (ha:PA X (e :: es) t) (z:(x == ("__debug__":Str))=false:=by decide) (he:starEach (e :: es) X.env=(false,eval e X.env) :: starEach es X.env:=by rfl) (J:(backTo pos (starEach es X.env)).any (·.1)=false:=by rfl):
  PE X (.Call (.Name x p) (e :: es) [] pos) (aGu sp dvs E t):=by
 constructor;intro gz s σ H Q I h;refine C8 (wH I O hm ?_ z);refine Fi (h₀:=X.base) I.ok.mod.kin Y (thn (ha pos gz s σ H _ I h) fun us s1 ⟨vs,H1,M,r,q⟩=>⟨M.kIn,?_⟩) he J;exact aDr F hr hb hd Z M r q
structure Mk(K:Ah)(C f:Ae):Prop where
 makes:FG K C=true
 init:Bw K (.ref C) "__init__"=some (some (.ref f))
 fn:Gc K (.ref f)=true
 kp:AO K (.ref C)=true
theorem aDs{gz:List (Ae×Obj)}{σ:St}{H:Hp}{s:Ag}{Q:VK}{z:List Ad}{vs:List V}(M:Mk X.K C f)(F:cP X.prog X.w X.K X.mg X.base CX k f fd ps sp)(hr:dG (k + 1) X.A)(hb:d9 X.K fd ps ds)(hd:bX dvs ds)
  (Z:rR CX X E) (I:Inv X gz σ H s) (r:bX vs z)
  (h:∀ x dx,H x=none→H dx=none→dx≠x→sp (.ref x :: (vs ++ dvs)) (upd (upd H dx (.own x)) x (.ins C dx [])) (fun v H2=>v=.non∧Q (.ref x) H2) E):
  wpAny (model X.prog X.w) X.A (call (.ref C) z) (EP X gz σ Q) X.xe s:=by
 have Y:=h (s.heap.objs.size + 1) s.heap.objs.size (I.hok.fresh (CZ _)) (I.hok.fresh (Am _)) (AB (Dn _));have J:=Inv.made (C:=C) I;have O:bX (V.ref (s.heap.objs.size + 1) :: (vs ++ dvs)) (AA (s.heap.objs.size + 1) :: (z ++ ds)):=.cons rfl (r.append hd);have hl:(AA (s.heap.objs.size + 1) :: z ++ ds).length=ps.length:=by
  have e:=O.length;rw[F.len _ _ _ _ Y]at e;exact e.symm
 refine Fc (aDq (f:=f) I.kIn M.makes M.init (beq_iff_eq.mp M.fn) (DU (F.run _ X.stack _ _ ⟨AA (s.heap.objs.size + 1) :: z,[]⟩ (AA (s.heap.objs.size + 1) :: (z ++ ds)) _ _ E (hr.make C z [])
  (J.env0.make C z []) (hb _ (AA (s.heap.objs.size + 1) :: z) J.kIn hl) O Y) fun r s' q=>?_))
 cases r with
 | error e=>exact Z gz σ _ _ e s' J q
 | ok fl=>
  cases fl with
  | ret u=>
   obtain⟨v,H',I3,rv,ev,q3⟩:=J.after q;subst ev;exact⟨rv,⟨V.ref (s.heap.objs.size + 1),H',I3,rfl,q3⟩⟩
  | next=>exact BZ q
  | brk=>exact BZ q
  | cont=>exact BZ q
theorem aBv(M:Mk X.K C f)(F:cP X.prog X.w X.K X.mg X.base CX k f fd ps sp)(hr:dG (k + 1) X.A)(Y:Gl X x)(hm:X.mg x=some (.ref C))(hb:d9 X.K fd ps ds)(hd:bX dvs ds)(Z:rR CX X E)
  (ha:PA X (e :: es) t) (z:(x == ("__debug__":Str))=false:=by decide) (he:starEach (e :: es) X.env=(false,eval e X.env) :: starEach es X.env:=by rfl) (J:(backTo pos (starEach es X.env)).any (·.1)=false:=by rfl):
  PE X (.Call (.Name x p) (e :: es) [] pos) (aIa C sp dvs E t):=by
 constructor;intro gz s σ H Q I h;refine C8 (wH I Y hm ?_ z);refine Fi (h₀:=X.base) I.ok.mod.kin M.kp (thn (ha pos gz s σ H _ I h) fun us s1 ⟨vs,H1,O,r,q⟩=>⟨O.kIn,?_⟩) he J;exact aDs M F hr hb hd Z O r q
end
structure PK(X:Cx)(jn:List Fj)(t:TA):Prop where
 run:
  ∀(pos:Pos) (gz:List (Ae×Obj)) (s:Ag) (σ:St) (H:Hp) (Q:List V→Hp→Prop),Inv X gz σ H s→t σ H Q→wpAny (model X.prog X.w) X.A (evalAll ((backToKw pos (keywordEach jn X.env)).map (·.2))) (AP X gz σ Q) X.xe s
instance{X:Cx}{jn:List Fj}{t:TA}:CoeFun (PK X jn t) (fun _=>
 ∀(pos:Pos) (gz:List (Ae×Obj)) (s:Ag) (σ:St) (H:Hp) (Q:List V→Hp→Prop),Inv X gz σ H s→t σ H Q→wpAny (model X.prog X.w) X.A (evalAll ((backToKw pos (keywordEach jn X.env)).map (·.2))) (AP X gz σ Q) X.xe s):=⟨fun h=>h.run⟩
section
variable{X:Cx}{CX:CXT}{k:Nat}{f C:Ae}{fd:A3}{ps ks:List Str}{sp:Sp}{E:XK}{x m:Str}{p pos jc kpos:Pos}{e o:Be}{es:List Be}{jn:List Fj}{te ta:TE}{t tk:TA}{nm:Option Str}
theorem aG7:PK X [] aG6:=⟨fun _ _ _ _ H Q I h=>wpAny_evalAll_nil ⟨[],H,I,.nil,h⟩⟩
theorem aFt(ha:PE X e te)(O:PK X jn t):PK X (⟨nm,e,kpos⟩ :: jn) (aBu te t):=by
 constructor;intro pos gz s σ H Q I h;show wpAny _ _ (evalAll ((do let v ← eval e X.env;standAt pos;pure v) :: (backToKw pos (keywordEach jn X.env)).map (·.2))) _ _ s
 refine wpAny_evalAll_cons (Ab (thn (ha gz s σ H _ I h) fun u s1 ⟨x,H1,z,F,Y⟩=>Ab (EZ (Af ?_))));exact thn (O pos gz s1 σ H1 _ z Y) fun Z s2 ⟨xs,H2,J,q,M⟩=>⟨x :: xs,H2,J,.cons F q,M⟩
structure aJa(K:Ah)(fd:A3)(ps ks:List Str)(g:List Ad→List Ad→List Ad)(gV:List V→List V→List V):Prop where
 to:∀(s:Ag) (us ws:List Ad),K.In s.heap→(g us ws).length=ps.length→F9 s fd ⟨us,ks.zip ws⟩ (ps.zip (g us ws))
 rel:∀{vs:List V} {us:List Ad} {zs:List V} {ws:List Ad},bX vs us→bX zs ws→bX (gV vs zs) (g us ws)
variable{g:List Ad→List Ad→List Ad}{gV:List V→List V→List V}
end
structure bY(N P:List Str)(sc:CW):Prop where
 kind:sc.kind=.function
 co:sc.isCoroutine=false
 gen:sc.isGenerator=false
 nd:N.Nodup
 pre:N.take P.length=P
 par:∀ x∈P,sc.names.lookup x=some .local∨sc.names.lookup x=some .cell
 nofree:∀ y∈sc.names,y.2≠.free
theorem uV{kindOf:Str→Option DV}{x:Str}:∀{binds:List (Str×Ad)}{m:Str→Option Ad},(∀ v,(x,v) ∉ binds)→bindL kindOf binds m x=m x
 | [],_,_=>rfl
 | (n,v) :: r,m,h=>by
  unfold bindL;rw[uV fun w hw=>h w (Ap _ hw)];split
  ·have:x≠n:=by rintro rfl;exact h v Al
   simp[this]
  ·rfl
theorem uW{kindOf:Str→Option DV}{x:Str}:∀{binds:List (Str×Ad)}{m:Str→Option Ad},(∀ v,(x,v) ∉ binds)→bindC kindOf binds m x=m x
 | [],_,_=>rfl
 | (n,v) :: r,m,h=>by
  unfold bindC;rw[uW fun w hw=>h w (Ap _ hw)];split
  ·rfl
  ·have:x≠n:=by rintro rfl;exact h v Al
   simp[this]
theorem pX{kindOf:Str→Option DV}{x:Str}{v:Ad}:∀{P:List Str}{vs:List Ad}{i:Nat}{m:Str→Option Ad},P.Nodup→P[i]?=some x→vs[i]?=some v→kindOf x=some .local→
  bindL kindOf (P.zip vs) m x=some v
 | [],_,_,_,_,h,_,_=>by simp at h
 | _ :: _,[],_,_,_,_,h,_=>by simp at h
 | p :: P,w :: vs,0,m,nd,h1,h2,q=>by
  simp at h1 h2;subst h1;subst h2;show bindL kindOf ((p,w) :: P.zip vs) m p=_;unfold bindL;rw[uV fun v hv=>(AZ.mp nd).1 (Dt hv).1,Ib q];simp
 | p :: P,w :: vs,i + 1,m,nd,h1,h2,q=>by
  show bindL kindOf ((p,w) :: P.zip vs) m x=_;unfold bindL;exact pX (i:=i) (AZ.mp nd).2 (by simpa using h1) (by simpa using h2) q
theorem uX{kindOf:Str→Option DV}{x:Str}{v:Ad}:∀{P:List Str}{vs:List Ad}{i:Nat}{m:Str→Option Ad},P.Nodup→P[i]?=some x→vs[i]?=some v→kindOf x≠some .local→
  bindC kindOf (P.zip vs) m x=some v
 | [],_,_,_,_,h,_,_=>by simp at h
 | _ :: _,[],_,_,_,_,h,_=>by simp at h
 | p :: P,w :: vs,0,m,nd,h1,h2,q=>by
  simp at h1 h2;subst h1;subst h2;show bindC kindOf ((p,w) :: P.zip vs) m p=_;unfold bindC;rw[uW fun v hv=>(AZ.mp nd).1 (Dt hv).1,Ia q];simp
 | p :: P,w :: vs,i + 1,m,nd,h1,h2,q=>by
  show bindC kindOf ((p,w) :: P.zip vs) m x=_;unfold bindC;exact uX (i:=i) (AZ.mp nd).2 (by simpa using h1) (by simpa using h2) q
def start(N:List Str)(vs:List V):St:=vs.map some ++ Bl (N.length - vs.length) none
def aAD(CX:CXT)(P:AC)(w:AT)(K:Ah)(mg:Str→Option Ad)(base:Bi)(N:List Str)(qual:Str)(scope:CW)(f:Ae)(cd:Ad)(A:AU)(outer:List Env)(s:Ag)(H:Hp)(E:XK):Cx where
 prog:=P
 w:=w
 K:=K
 mg:=mg
 base:=base
 A:=A.deeper (envOfC qual scope s.heap.objs.size f cd)
 N:=N
 s₀:=s
 H₀:=H
 env:=envOfC qual scope s.heap.objs.size f cd
 outer:=outer
 stack:=envOfC qual scope s.heap.objs.size f cd :: outer
 ex:=[]
 calm:=true
 fn:=fun _=>true
 pn:=[]
 xe:=fun e s'=>wpAny (model P w) (A.deeper (envOfC qual scope s.heap.objs.size f cd)) (leaving (envOfC qual scope s.heap.objs.size f cd) e) (fun _ s''=>CX outer H s E e s'') (fun e' s''=>CX outer H s E e' s'') s'
theorem x9{sc:CW}{n:Nat}{x:Str}(h:sc.names.lookup x=some .cell):∃ c,(cellsFrom n sc.names []).lookup x=some c:=by
 have q:=PySem.W.cellsFrom_some sc.names n [] (.inl h);exact A2.mp q
theorem aCz{CX:CXT}{P:AC}{w:AT}{K:Ah}{mg:Str→Option Ad}{base:Bi}{N ps:List Str}{qual:Str}{scope:CW}{f:Ae}{cd:Ad}{A:AU}{outer:List Env}{s s1:Ag}{H:Hp}{E:XK}{Z:List Ad}{vs:List V}
  (S:bY N ps scope) (hd:A.handled=none) (F:aAC P w K mg base A outer s H) (hl:vs.length=ps.length) (r:bX vs Z)
  (x:InCallC s s.heap.objs.size (bindL (envOfC qual scope s.heap.objs.size f cd).kindOf (ps.zip Z) fun _=>none) (cellsFrom (s.heap.objs.size + 1) scope.names []) (bindC (envOfC qual scope s.heap.objs.size f cd).kindOf (ps.zip Z) fun _=>none) s1):
  Inv (aAD CX P w K mg base N qual scope f cd A outer s H E) [] (start N vs) H s1:=by
 have aa:ps.length≤N.length:=by have:=congrArg Ca S.pre;rw[AJ]at this;omega
 obtain⟨h1,tk,rfl,hk⟩:=x.done;have M:∀ b:Ae,b ∉ (aAD CX P w K mg base N qual scope f cd A outer s H E).ex:=fun b z=>absurd (show b∈([]:List Ae) from z) (by simp);refine⟨⟨F.mod,S.kind,rfl,rfl,Am _,fun y z c h1 h2=>?_,fun y J=>?_,fun y c _ h=>?_,fun _=>hd,Around.frames_deeper F.frames,.inr ⟨rfl,rfl⟩,fun b z=>absurd z (M b),F.bs,F.bsz,fun b _ _=>M b,fun b z=>absurd z (M b),F.funs,F.frf⟩,
  rfl,F.bare,Un.kept hk,⟨_,x.toInCall.ns,fun i y v h1 h2 h3=>?_⟩,fun y c h=>⟨_,x.cell y c h⟩,F.hok.fresh (Am _),fun y c h=>?_,fun p O=>absurd (show p∈([]:List (Ae×Obj)) from O) (by simp),F.hok.kept hk,?_⟩
 ·exact name_of_addr x.apart (BO h1) (BO h2)
 ·have J:scope.names.lookup y=some .cell∨scope.names.lookup y=some .free:=J;rcases J with J | J
  ·exact x9 J
  ·exact absurd rfl (S.nofree _ (BO J))
 ·exact DM (x.above y c (BO h))
 ·have hi:i < vs.length:=by
   unfold start at h2;by_cases hi:i < vs.length
   ·exact hi
   ·rw[Cw (by simpa using hi)]at h2;rw[List.getElem?_replicate]at h2;split at h2 <;> cases h2
  have ha:vs[i]?=some v:=by
   unfold start at h2;rw[CI (by simpa using hi),An]at h2;cases e:vs[i]? with
   | none=>rw[e]at h2;cases h2
   | some a=>rw[e]at h2;cases h2;rfl
  obtain⟨u,hu,rv⟩:=r.get ha;have O:ps[i]?=some y:=by
   rw[← S.pre,List.getElem?_take_of_lt (by omega)];exact h1
  have Y:ps.Nodup:=by rw[← S.pre];exact S.nd.sublist (List.take_sublist _ _)
  refine⟨u,rv,?_⟩;rcases S.par y (AH O)with k | k
  ·exact .inl ⟨k,pX Y O hu k⟩
  ·obtain⟨c,e⟩:=x9 (n:=s.heap.objs.size + 1) k;refine .inr ⟨.inl k,c,e,?_⟩;have q:=x.cell y c e;rw[uX Y O hu (by show scope.names.lookup y≠_;rw[k];decide)]at q;exact q
 ·exact F.hok.fresh (DM (x.above y c (BO h)))
 ·unfold start;show _=N.length;rw[AD,Aa,List.length_replicate];omega
theorem aGv{CX:CXT}{P:AC}{w:AT}{K:Ah}{mg:Str→Option Ad}{base:Bi}{k:Nat}{f:Ae}{name qual:Str}{F:EE}{M:List Cc}{scope:CW}{dV kV Z pm z ct oc:Ad}{an od:Option Ae}
  {af:Array (Option Ad)} {N ps:List Str} {sp:Sp} (lk:K.lookup f=some ⟨oc,od,.func (BE name qual F M scope dV kV Z pm an z ct),af⟩) (ah:BL K z qual=true) (S:bY N ps scope)
  (len:∀ vs H Q E,sp vs H Q E→vs.length=ps.length)
  (Y:∀(A:AU) (outer:List Env) (s:Ag) (H:Hp) (vs:List V) (Q:VK) (E:XK),dG k (A.deeper (envOfC qual scope s.heap.objs.size f z))→sp vs H Q E→
   ∃ t,PSs (aAD CX P w K mg base N qual scope f z A outer s H E) M t∧t { nx:=fun _ H'=>Q .non H',rt:=Q } (start N vs) H):
  cP P w K mg base CX (k + 1) f (BE name qual F M scope dV kV Z pm an z ct) ps sp:=by
 refine⟨len,fun A outer s H al us vs Q E hr e0 hb r aa=>?_⟩;have hl:=len _ _ _ _ aa;have KX:K.In s.heap:=e0.mod.kin.keeps fun b o e=>(e0.bs b o e).1;have ae:s.heap.NoLimit:=e0.mod.nolimit.keeps fun b o e=>(e0.bs b o e).1;have O:∀ y∈ps.zip us,scope.names.lookup y.1=some .local∨(scope.names.lookup y.1=some .cell∧((cellsFrom (s.heap.objs.size + 1) scope.names []).lookup y.1).isSome=true):=fun⟨n,v⟩ hy=>by
  rcases S.par n (Dt hy).1 with q | q
  ·exact .inl q
  ·exact .inr ⟨q,PySem.W.cellsFrom_some _ _ _ (.inl q)⟩
 refine codeAny_call_function hr.depth (KX _ _ lk) rfl S.co S.gen rfl (PySem.W.codeRec_of KX ah) (hb _ _ _ _ ?_);refine wpAny_newFunctionEnv_cells S.kind O fun env he s1 x=>?_;subst he;refine⟨ae.keeps x.toInCall.keep,codeAny_func ?_⟩;obtain⟨t,ht,hq⟩:=Y A outer s H vs Q E (hr.deeper _) aa;have I:Inv (aAD CX P w K mg base N qual scope f z A outer s H E) [] (start N vs) H s1:=aCz S hr.hd e0 hl r x;refine Ck (ht [] s1 (start N vs) H _ I hq) (fun fl s' hs=>?_) fun e s' hs=>hs;have fin:∀{σ':St} {H':Hp} {v:V} {u:Ad},Inv (aAD CX P w K mg base N qual scope f z A outer s H E) [] σ' H' s'→cG v u→Q v H'→CE outer P w H s Q u s':=
  fun{σ' H' v u} J rv q=>⟨v,H',J.os,J.bare,J.base,J.hok,rv,q⟩
 cases fl with
 | ret u=>
  obtain⟨v,σ',H',J,rv,q⟩:=hs;exact fin J rv q
 | next=>
  obtain⟨σ',H',J,q⟩:=hs;exact fin (v:=V.non) (u:=Dr) J rfl q
 | brk=>
  obtain⟨_,_,_,q⟩:=hs;exact BZ q
 | cont=>
  obtain⟨_,_,_,q⟩:=hs;exact BZ q
section
variable{X:Cx}{x:Str}{p pos:Pos}{e:Be}{es:List Be}{t:TA}{id T:String}{r:List V→Hp→VK→Prop}
def tCB(r:List V→Hp→VK→Prop)(t:TA):TE:=fun σ H Q=>t σ H fun vs H1=>r vs H1 Q
theorem aW(hc:eU X (.builtin id) r)(F:Gl X x)(hm:X.mg x=none)(hv:bootBuiltins x=some (.builtin id))(ha:PA X (e :: es) t)(hn:x≠"__name__":=by decide)(q:(x == ("__debug__":Str))=false:=by decide)
  (Z:starEach (e :: es) X.env=(false,eval e X.env) :: starEach es X.env:=by rfl) (z:(backTo pos (starEach es X.env)).any (·.1)=false:=by rfl):PE X (.Call (.Name x p) (e :: es) [] pos) (tCB r t):=by
 constructor;intro gz s σ H Q I h;refine C8 (wI I F hm hv ?_ hn q);exact PyProof.Rows.callWith_builtin1 (thn (ha pos gz s σ H _ I h) fun O s1 ⟨vs,H1,J,M,Y⟩=>hc gz s1 σ H1 vs O Q J M Y) Z z
theorem dL(hc:eU X (.type T) r)(F:Gl X x)(hm:X.mg x=none)(hv:bootBuiltins x=some (.type T))(ha:PA X (e :: es) t)(hn:x≠"__name__":=by decide)(q:(x == ("__debug__":Str))=false:=by decide)
  (Z:starEach (e :: es) X.env=(false,eval e X.env) :: starEach es X.env:=by rfl) (z:(backTo pos (starEach es X.env)).any (·.1)=false:=by rfl):PE X (.Call (.Name x p) (e :: es) [] pos) (tCB r t):=by
 constructor;intro gz s σ H Q I h;refine C8 (wI I F hm hv ?_ hn q);exact PyProof.Rows.callWith_type1 (thn (ha pos gz s σ H _ I h) fun O s1 ⟨vs,H1,J,M,Y⟩=>hc gz s1 σ H1 vs O Q J M Y) Z z
end
end L2
namespace HT
open PySem PyProof.Rows
theorem eqAt_int(A:AU)(s:Ag)(a:Int)(t:Tok)(c:Int)(u:Tok):∃ e,F4 A s (.int a t) (.int c u) e∧(e=true↔a=c):=
 ⟨(a == c),SeqAt.EqAt.int_int a t c u,by simp⟩
section
open PySem.SeqAt
open PySem.AutoSeq1 (wpAny_loadPart')
open PySem.MeetsSeq PySem.MeetsSeq2 PySem.MeetsSeq3
end
section
variable{prog:AC}{w:AT}{A:AU}{E:Ad→Ag→Prop}{s:Ag}
theorem cat_tup{t b:Ae}{vs ws:List Ad}{Q:Ad→Ag→Prop}(ht:EH s.heap t vs.toArray)(q:EH s.heap b ws.toArray)(hv:vs≠[])
  (h1:ws=[]→Q (.ref t) s) (h2:ws≠[]→Q (.ref s.heap.objs.size) { s with heap:=s.heap.push { cls:=.type "tuple",data:=.seq (vs ++ ws).toArray } })
  (hsz:vs.length + ws.length≤sizeLine):wpAny (model prog w) A (binaryOp .Add (.ref t) (.ref b)) Q E s:=by
 obtain⟨⟨cls,dd,data,sl⟩,ho,hc,n,hd⟩:=id ht;obtain⟨⟨cls2,dd2,data2,sl2⟩,ho2,hc2,n2,hd2⟩:=id q;simp only at hc hd hc2 hd2;subst hc hd hc2 hd2;have e:vs.toArray ++ ws.toArray=(vs ++ ws).toArray:=by simp
 by_cases hw:ws=[]
 ·exact GZ ⟨_,ho,rfl⟩ ⟨_,ho2,rfl⟩ Gb GG EG Ew (En _ _)
   (tuple_addW1 t b vs.toArray ws.toArray n n2 dd dd2 sl sl2 (by simpa using hv) (by simp[hw])) ⟨ho,ho2,h1 hw⟩
 ·refine GZ ⟨_,ho,rfl⟩ ⟨_,ho2,rfl⟩ Gb GG EG Ew (En _ _)
   (tuple_addW2 t b vs.toArray ws.toArray n n2 dd dd2 sl sl2 (by simpa using hv) (by simpa using hw) (by rw[Aq,Aq];exact hsz)) ⟨ho,ho2,?_⟩
  rw[e];exact h2 hw
def sIx(n d:Nat):Option Int→Nat
 | none=>d
 | some v=>if v < 0 then(v + (n:Int)).toNat else min v.toNat n
theorem sIx_none(n d:Nat):sIx n d none=d:=rfl
theorem sIx_nat(n d k:Nat):sIx n d (some (k:Int))=min k n:=by
 show(if (k:Int) < 0 then((k:Int) + (n:Int)).toNat else min (k:Int).toNat n)=min k n;rw[Ia (by omega),B2]
theorem aG8(n d:Nat)(hd:d≤n)(o:Option Int):sIx n d o≤n:=by
 cases o with
 | none=>exact hd
 | some v=>
  show(if v < 0 then(v + (n:Int)).toNat else min v.toNat n)≤n;by_cases hv:v < 0
  ·rw[Ib hv];omega
  ·rw[Ia hv];exact Nat.min_le_right _ _
theorem aBw(v:Int)(n d:Nat):(if v < 0 then max (v + (n:Int)) 0 else min v (n:Int))=((sIx n d (some v):Nat):Int):=by
 show(if v < 0 then max (v + (n:Int)) 0 else min v (n:Int))=(((if v < 0 then(v + (n:Int)).toNat else min v.toNat n):Nat):Int)
 by_cases hv:v < 0
 ·simp only[Ib hv];omega
 ·simp only[Ia hv];omega
theorem aAE(lo hi:Option Int)(n:Nat):DW lo hi 1 (n:Int)=(((sIx n 0 lo:Nat):Int),((sIx n n hi:Nat):Int)):=by
 have h1:¬ ((1:Int) < 0):=by omega
 unfold DW;simp only[h1,if_false];refine FB ?_ ?_
 ·cases lo with
  | none=>rfl
  | some v=>exact aBw v n 0
 ·cases hi with
  | none=>rfl
  | some v=>exact aBw v n n
theorem aAF(i j:Nat):C3 (i:Int) (j:Int) 1=j - i:=by
 unfold C3;have h1:(1:Int) > 0:=by omega
 simp only[h1,if_true,Int.ediv_one];split <;> omega
theorem rS{v:Ad}{o:Option Int}{Q:Option Int→Ag→Prop}(p:Fk v o)(h:Q o s):wpAny (model prog w) A (Builtin.Slice.slicePartIndex v) Q E s:=by
 cases p with
 | none=>exact slicePart_none h
 | int i t=>exact slicePart_int h
theorem sliceApplied_gen{F:Ae}{q z:Ad}{lo hi:Option Int}{n:Nat}{Q:Int×Int×Nat→Ag→Prop}(hs:s.heap.IsSliceOf F q z .none)(pl:Fk q lo)(J:Fk z hi)
  (h:Q (((sIx n 0 lo:Nat):Int),1,sIx n n hi - sIx n 0 lo) s):wpAny (model prog w) A (Builtin.Slice.sliceApplied (.ref F) (pure (n:Int))) Q E s:=by
 obtain⟨os,hos,hcs,hds⟩:=id hs;unfold Builtin.Slice.sliceApplied Builtin.Slice.sliceFields;refine Ab (Ab (G9 hos hds (x:=q) rfl (Ab (G9 hos hds (x:=z) rfl (Ab (G9 hos hds (x:=.none) rfl (Af ?_)))))));refine Ab (slicePart_none ?_);show wpAny _ _ (if ((1:Int) == 0)=true then _ else _) _ _ s;rw[Ia (by decide)];refine Ab (rS pl (Ab (rS J (Ab (Af ?_)))));show wpAny _ _ (match DW lo hi 1 (n:Int)with | (lo,hi)=>pure (lo,(1:Int),C3 lo hi 1)) _ _ s;rw[aAE lo hi n];show wpAny _ _ (pure (((sIx n 0 lo:Nat):Int),(1:Int),C3 ((sIx n 0 lo:Nat):Int) ((sIx n n hi:Nat):Int) 1)) _ _ s;rw[aAF];exact Af h
theorem aDt(xs:Array Ad)(i k:Nat):((AV k).filterMap fun(m:Nat)=>xs[((i:Int) + (m:Int) * 1).toNat]?).toArray=((xs.toList.drop i).take k).toArray:=by
 have e:(fun(m:Nat)=>xs[((i:Int) + (m:Int) * 1).toNat]?)=fun m=>xs[i + m]?:=by
  funext m;have:((i:Int) + (m:Int) * 1).toNat=i + m:=by omega
  rw[this]
 rw[e];have:=pick_run xs i k;rw[List.filterMap_map]at this;have q:((fun x=>xs[x]?) ∘ fun x=>i + x)=fun m=>xs[i + m]?:=rfl;rw[q]at this;rw[this]
theorem getItem_tuple_cut{t M:Ae}{items:Array Ad}{Y O:Ad}{lo hi:Option Int}{Q:Ad→Ag→Prop}(ht:EH s.heap t items)(hs:s.heap.IsSliceOf M Y O .none)(pl:Fk Y lo)(Z:Fk O hi)
  (hw:¬ (sIx items.size 0 lo=0∧sIx items.size items.size hi=items.size))
  (h:Q (.ref s.heap.objs.size) { s with heap:=s.heap.push { cls:=.type "tuple",data:=.seq ((items.toList.drop (sIx items.size 0 lo)).take (sIx items.size items.size hi - sIx items.size 0 lo)).toArray } })
  (hsz:items.size≤sizeLine):wpAny (model prog w) A (getItem (.ref t) (.ref M)) Q E s:=by
 have z:sizeOk (.seq ((items.toList.drop (sIx items.size 0 lo)).take (sIx items.size items.size hi - sIx items.size 0 lo)).toArray):=by
  show((items.toList.drop (sIx items.size 0 lo)).take (sIx items.size items.size hi - sIx items.size 0 lo)).toArray.size≤sizeLine;rw[Aq,AJ,B9,Bq];omega
 have hj:sIx items.size items.size hi≤items.size:=aG8 _ _ (Am _) hi;obtain⟨os,hos,hcs,hds⟩:=id hs;have J:s.TypeIs (.ref M) "slice":=⟨os,hos,hcs⟩
 unfold getItem
 try with_reducible refine Bh ?_
 first | refine Ab (Af ?_) | skip
 refine Ab (wpAny_sequenceKey ht.typeIs (by decide) ?_);refine Ab (E7 (name:=BF "__getitem__") ht.typeIs BQ
  (Ce BQ ht.typeIs entry_tuple_getitem ?_ (args_tuple_getitem _ _)))
 show wpAny _ _ (Builtin.Tuple.tupleItemsOf (.ref t) >>= _) _ _ s;refine Ab (tupleItemsOf_ ht ?_);refine Ab (Cj J ?_);rw[Ib (by decide)];refine Ab (sliceApplied_gen hs pl Z ?_);have F:¬ ((((sIx items.size 0 lo:Nat):Int) == 0 && (1:Int) == 1 && (sIx items.size items.size hi - sIx items.size 0 lo) == items.size)=true):=by
  intro q;rw[Bv,Bv]at q;have q1:((sIx items.size 0 lo:Nat):Int)=0:=eq_of_beq q.1.1;have q2:sIx items.size items.size hi - sIx items.size 0 lo=items.size:=eq_of_beq q.2;exact hw ⟨by omega,by omega⟩
 show wpAny _ _ (if (((sIx items.size 0 lo:Nat):Int) == 0 && (1:Int) == 1 && (sIx items.size items.size hi - sIx items.size 0 lo) == items.size)=true then _ else _) _ _ s;rw[Ia F,aDt]
 first
  | exact Ab (m:=Db _) (B4 (Af ⟨_,rfl,Af h⟩) z)
  | exact Ab (m:=Db _) (B4 (Ab (Af (Af ⟨_,rfl,Af h⟩))) z)
  | exact Ab (Ab (m:=Db _) (B4 (Af (Af ⟨_,rfl,Af h⟩)) z))
  | exact Ab (Ab (m:=Db _) (B4 (Af ⟨_,rfl,Af h⟩) z))
end
end HT
namespace L2
open PySem PySem.Spec PyProof.Rows
abbrev TO:=St→Hp→(Option Int→Hp→Prop)→Prop
structure PO(X:Cx)(e:Option Be)(t:TO):Prop where
 run:
  ∀(gz:List (Ae×Obj)) (s:Ag) (σ:St) (H:Hp) (Q:Option Int→Hp→Prop),Inv X gz σ H s→t σ H Q→
   wpAny (model X.prog X.w) X.A (evalPart e X.env) (fun u s'=>∃ o H',Inv X gz σ H' s'∧Fk u o∧Q o H') X.xe s
instance{X:Cx}{e:Option Be}{t:TO}:CoeFun (PO X e t) (fun _=>
 ∀(gz:List (Ae×Obj)) (s:Ag) (σ:St) (H:Hp) (Q:Option Int→Hp→Prop),Inv X gz σ H s→t σ H Q→
  wpAny (model X.prog X.w) X.A (evalPart e X.env) (fun u s'=>∃ o H',Inv X gz σ H' s'∧Fk u o∧Q o H') X.xe s):=⟨fun h=>h.run⟩
def aFu:TO:=fun _ H Q=>Q none H
def aIb(t:TE):TO:=fun σ H Q=>t σ H fun x H1=>As V.int x fun i=>Q (some i) H1
theorem aAG{ns:List Int}:∀{q:List Ad},bX (ns.map V.int) q→F6 q ns:=by
 induction ns with
 | nil=>intro q r;rw[CL]at r;cases r;exact .nil
 | cons n ns z=>
  intro q r;rw[Av]at r;cases r with
  | cons F J=>
   obtain⟨t,e⟩:=F;subst e;exact .cons n t (z J)
section
variable{X:Cx}{e:Be}{te:TE}{lo hi:Option Be}{tl th:TO}{pos p2:Pos}
theorem jE:PO X none aFu:=by
 constructor;intro gz s σ H Q I h;rw[evalPart_none];exact Af ⟨none,H,I,.none,h⟩
theorem jF(h:PE X e te):PO X (some e) (aIb te):=by
 constructor;intro gz s σ H Q I hw;rw[evalPart_some];refine thn (h gz s σ H _ I hw) fun u s1 ⟨x,H1,J,F,z⟩=>?_;obtain⟨i,rfl,q⟩:=z;obtain⟨t,rfl⟩:=F;exact⟨some i,H1,J,.int i t,q⟩
def SlR(X:Cx)(r:V→Option Int→Option Int→Hp→VK→Prop):Prop:=
 ∀(gz:List (Ae×Obj)) (s:Ag) (σ:St) (H:Hp) (x:V) (v vl vu:Ad) (lo hi:Option Int) (sl:Ae) (Q:VK),Inv X gz σ H s→cG x v→s.heap.IsSliceOf sl vl vu .none→Fk vl lo→Fk vu hi→r x lo hi H Q→
  ∃ T id,typeLookup (.type T) "__getitem__"=pure (some (.builtin id))∧s.TypeIs v T∧wpAny (model X.prog X.w) X.A (getItem v (.ref sl)) (EP X gz σ Q) X.xe s
def tSl(r:V→Option Int→Option Int→Hp→VK→Prop)(te:TE)(tl th:TO):TE:=fun σ H Q=>te σ H fun x H1=>tl σ H1 fun l H2=>th σ H2 fun u H3=>r x l u H3 Q
theorem g8{r:V→Option Int→Option Int→Hp→VK→Prop}(hr:SlR X r)(he:PE X e te)(hl:PO X lo tl)(hu:PO X hi th):PE X (.Subscript e (.Slice lo hi none p2) pos) (tSl r te tl th):=by
 constructor;intro gz s σ H Q I h;refine Subscript_ (thn (he gz s σ H _ I h) fun v s1 ⟨x,H1,O,Y,q1⟩=>?_);refine wpAny_Slice (thn (hl gz s1 σ H1 _ O q1) fun J s2 ⟨l,H2,I2,pl,q2⟩=>thn (hu gz s2 σ H2 _ I2 q2) fun F z ⟨u,M,Z,pu,q3⟩=>?_);rw[evalPart_none];refine Af ?_;have I4:Inv X gz σ M { z with heap:=z.heap.push { cls:=.type "slice",data:=.fields #[J,F,.none] } }:=Z.kept (t':=z.toks) fun b ob q=>Aj _ q;obtain⟨T,id,hT,ht,hg⟩:=hr gz { z with heap:=z.heap.push { cls:=.type "slice",data:=.fields #[J,F,.none] } } σ M x v J F l u z.heap.objs.size Q I4 Y (Heap.IsSliceOf.new ..) pl pu q3;show wpAny (model X.prog X.w) X.A (subscriptTail e (.Slice lo hi none p2) v (.ref z.heap.objs.size)) (EP X gz σ Q) X.xe { z with heap:=z.heap.push { cls:=.type "slice",data:=.fields #[J,F,.none] } };exact tail_any (ops:=[.ref z.heap.objs.size,v]) ht hT hg (by with_unfolding_all rfl)
def pY(xs:List V)(lo hi:Option Int):List V:=(xs.drop (HT.sIx xs.length 0 lo)).take (HT.sIx xs.length xs.length hi - HT.sIx xs.length 0 lo)
theorem qI(xs:List V)(lo hi:Option Int):(pY xs lo hi).length≤xs.length:=by
 unfold pY;rw[AJ,B9];omega
inductive aDu(K:Ah)(x:V)(lo:Option Int)(hi:Option Int)(H:Hp)(Q:VK):Prop
 | mk (a:_) (xs:_) (q0:x=.ref a) (q1:SqT K H a xs) (q2:¬ (HT.sIx xs.length 0 lo=0∧HT.sIx xs.length xs.length hi=xs.length)) (q3:∀ p,H p=none→Q (.ref p) (upd H p (.tup (pY xs lo hi)))):aDu K x lo hi H Q
def aJb(K:Ah):V→Option Int→Option Int→Hp→VK→Prop:=fun x lo hi H Q=>aDu K x lo hi H Q
theorem aG9:SlR X (aJb X.K):=by
 intro gz s σ H x v O M lo hi Y Q I F hs pl J h;obtain⟨a,xs,rfl,hx,hw,q⟩:=h;cases F;obtain⟨its,r,ht,hz⟩:=I.tuple hx;have z:its.toArray.size=xs.length:=by rw[Aq];exact r.length.symm
 refine⟨"tuple",_,BQ.lookup,ht.typeIs,HT.getItem_tuple_cut ht hs pl J (by rw[z];exact hw) ?_ (by rw[z];exact hz)⟩;rw[z];refine⟨.ref s.heap.objs.size,_,I.laid (t':=s.toks) (o:=.tup (pY xs lo hi)) (fun b ob q=>Aj _ q) (Am _) ?_,rfl,q _ (I.hok.fresh (Am _))⟩;exact⟨AI (qI xs lo hi) hz,_,(r.drop (HT.sIx xs.length 0 lo)).take (HT.sIx xs.length xs.length hi - HT.sIx xs.length 0 lo),⟨_,Ax _ rfl,⟨rfl,_,rfl⟩,rfl⟩⟩
inductive aBx(K:Ah)(x:V)(y:V)(H:Hp)(Q:VK):Prop
 | mk (a:_) (b:_) (xs:_) (ys:_) (q0:x=.ref a) (q1:y=.ref b) (q2:SqT K H a xs) (q3:SqT K H b ys) (q4:xs≠[]) (q5:xs.length + ys.length≤sizeLine) (q6:(ys=[]→Q (.ref a) H)) (q7:(ys≠[]→∀ p,H p=none→Q (.ref p) (upd H p (.tup (xs ++ ys))))):aBx K x y H Q
def aIc(K:Ah):R2:=fun x y H Q=>aBx K x y H Q
theorem bX.nil_iff{xs:List V}{q:List Ad}(r:bX xs q):q=[]↔xs=[]:=by
 cases r with
 | nil=>simp
 | cons _ _=>simp
theorem aFv:OpR X (binaryOp .Add) (aIc X.K):=by
 intro gz s σ H x y v u Q I F J h;obtain⟨a,b,xs,ys,rfl,rfl,ha,hb,hx,hz,q1,q2⟩:=h;cases F;cases J;obtain⟨its,r1,p1,_⟩:=I.tuple ha;obtain⟨its2,r2,p2,_⟩:=I.tuple hb;refine HT.cat_tup p1 p2 (fun z=>hx (r1.nil_iff.mp z)) (fun z=>⟨.ref a,H,I,rfl,q1 (r2.nil_iff.mp z)⟩) (fun z=>?_) (by rw[← r1.length,← r2.length];exact hz);refine⟨.ref s.heap.objs.size,_,I.laid (t':=s.toks) (o:=.tup (xs ++ ys)) (fun b ob q=>Aj _ q) (Am _) ?_,rfl,q2 (fun w=>z (r2.nil_iff.mpr w)) _ (I.hok.fresh (Am _))⟩;exact⟨by rw[AD];exact hz,_,r1.append r2,⟨_,Ax _ rfl,⟨rfl,_,rfl⟩,rfl⟩⟩
end
def ixN(n:Nat)(i:Int):Option Nat:=if 0≤i then(if i < n then some i.toNat else none) else if -(n:Int)≤i then some (i + n).toNat else none
def atI{α:Type}(xs:List α)(i:Int):Option α:=(ixN xs.length i).bind fun j=>xs[j]?
theorem rC{n:Nat}{i:Int}{j:Nat}(h:ixN n i=some j):seqIndex? i n=some j∧j < n∧-(n:Int)≤i∧i < n:=by
 unfold ixN at h;by_cases q:0≤i
 ·rw[Ib q]at h;by_cases h1:i < n
  ·rw[Ib h1]at h;have e:i.toNat=j:=Ch.inj h;exact⟨by rw[Hb q h1,e],by omega,by omega,h1⟩
  ·rw[Ia h1]at h;cases h
 ·rw[Ia q]at h;by_cases h1:-(n:Int)≤i
  ·rw[Ib h1]at h;have e:(i + n).toNat=j:=Ch.inj h;exact⟨by rw[seqIndex_neg (by omega) h1,e],by omega,h1,by omega⟩
  ·rw[Ia h1]at h;cases h
theorem wM{α:Type}{xs:List α}{i:Int}{v:α}(h:atI xs i=some v):∃ j,seqIndex? i xs.length=some j∧xs[j]?=some v∧j < xs.length∧-(xs.length:Int)≤i∧i < xs.length:=by
 unfold atI at h;cases e:ixN xs.length i with
 | none=>rw[e]at h;cases h
 | some j=>
  rw[e]at h;obtain⟨h1,h2,h3,h4⟩:=rC e;exact⟨j,h1,h,h2,h3,h4⟩
theorem fU{α:Type}{xs:List α}{j:Nat}{v:α}(h:xs[j]?=some v):atI xs (j:Int)=some v:=by
 have q:j < xs.length:=(At.mp h).1;have e:ixN xs.length (j:Int)=some j:=by
  unfold ixN;rw[Ib (by omega),Ib (by omega)];simp
 unfold atI;rw[e];exact h
theorem jV{α:Type}(xs:List α)(v:α):atI (xs ++ [v]) (-1)=some v:=by
 have hl:(xs ++ [v]).length=xs.length + 1:=by simp
 have e:ixN (xs ++ [v]).length (-1)=some xs.length:=by
  unfold ixN;rw[hl,Ia (by decide),Ib (by omega)];congr 1;omega
 unfold atI;rw[e];show(xs ++ [v])[xs.length]?=some v;simp
def aFw(b:Be):Prop:=∀ o i,subscripted b false o i=operate [o,i] (getItem o i)
def IxR(X:Cx)(r:R2):Prop:=
 ∀(value slice:Be) (gz:List (Ae×Obj)) (s:Ag) (σ:St) (H:Hp) (x y:V) (v u:Ad) (Q:VK),Inv X gz σ H s→cG x v→cG y u→r x y H Q→
  subscripted slice false v u=operate [v,u] (getItem v u)→wpAny (model X.prog X.w) X.A (subscriptTail value slice v u) (EP X gz σ Q) X.xe s
def MtR(X:Cx)(id:String)(r:V→List V→Hp→VK→Prop):Prop:=
 ∀(gz:List (Ae×Obj)) (s:Ag) (σ:St) (H:Hp) (x:V) (xs:List V) (v:Ad) (us:List Ad) (Q:VK),Inv X gz σ H s→cG x v→bX xs us→r x xs H Q→
  wpAny (model X.prog X.w) X.A (call (.builtin id) (v :: us)) (EP X gz σ Q) X.xe s
section
variable{X:Cx}{a b:Be}{ta tb:TE}{pos:Pos}
theorem aQ{r:R2}(F:IxR X r)(ha:PE X a ta)(J:PE X b tb)(hs:aFw b):PE X (.Subscript a b pos) (tOp r ta tb):=by
 constructor;intro gz s σ H Q I h;exact Subscript_ (aG2 ha J I h fun v u s2 x y H2 z M O q=>F a b gz s2 σ H2 x y v u Q z M O q (hs _ _))
inductive aDv(K:Ah)(x:V)(y:V)(H:Hp)(Q:VK):Prop
 | mk (p:_) (xs:_) (i:_) (v:_) (q0:x=.ref p) (q1:y=.int i) (q2:SqL K H p xs) (q3:atI xs i=some v) (q4:Q v H):aDv K x y H Q
def aDw(K:Ah):R2:=fun x y H Q=>aDv K x y H Q
inductive aDx(K:Ah)(x:V)(y:V)(H:Hp)(Q:VK):Prop
 | mk (p:_) (xs:_) (i:_) (v:_) (q0:x=.ref p) (q1:y=.int i) (q2:SqT K H p xs) (q3:atI xs i=some v) (q4:Q v H):aDx K x y H Q
def kZ(K:Ah):R2:=fun x y H Q=>aDx K x y H Q
inductive aDy(x:V)(y:V)(H:Hp)(Q:VK):Prop
 | mk (z:_) (i:_) (c:_) (q0:x=.str z) (q1:y=.int i) (q2:z.length≤sizeLine) (q3:atI z.cps.toList i=some c) (q4:Q (.str ⟨#[c]⟩) H):aDy x y H Q
def aJc:R2:=fun x y H Q=>aDy x y H Q
theorem b8:IxR X (aDw X.K):=by
 intro value F gz s σ H x y v u Q I O Y h hs;obtain⟨p,xs,i,z,rfl,rfl,hq,he,q⟩:=h;cases O;obtain⟨t,rfl⟩:=Y;obtain⟨its,r,pl,hz⟩:=I.list hq;obtain⟨j,h1,h2,h3,h4,h5⟩:=wM he;obtain⟨w,ew,rw'⟩:=r.get h2;have hl:=r.length;have hn:=nZ;have fin:EP X gz σ Q w s:=⟨z,H,I,rw',q⟩
 by_cases M:0≤i
 ·have J:i.toNat=j:=by
   rw[Hb M h5]at h1;exact Ch.inj h1
  exact item_listR pl.isList M (by omega) (by rw[J];simpa using ew) fin hs
 ·have J:(i + (its.toArray.size:Int)).toNat=j:=by
   rw[seqIndex_neg (by omega) h4]at h1;rw[Aq,← hl];exact Ch.inj h1
  exact subscriptTail_builtinR (x:=w) pl.isList.typeIs slot_list_getitem.lookup
   (wpAny_getItem_list_neg (Q:=fun r s'=>r=w∧EP X gz σ Q r s') pl.isList (by omega) (by rw[Aq] <;> omega) (by omega) (by rw[J];simpa using ew) ⟨rfl,fin⟩) hs
theorem aV:IxR X (kZ X.K):=by
 intro value F gz s σ H x y v u Q I J M h hs;obtain⟨p,xs,i,z,rfl,rfl,hq,he,q⟩:=h;cases J;obtain⟨t,rfl⟩:=M;obtain⟨its,r,pl,hz⟩:=I.tuple hq;obtain⟨j,h1,h2,h3,h4,h5⟩:=wM he;obtain⟨w,ew,rw'⟩:=r.get h2;have hl:=r.length;have hn:=nZ;have fin:EP X gz σ Q w s:=⟨z,H,I,rw',q⟩
 exact subscriptTail_builtinR (x:=w) pl.typeIs slot_tuple_getitem.lookup
  (getItem_tuple (j:=j) (Q:=fun r s'=>r=w∧EP X gz σ Q r s') pl (by omega) (by omega) (by rw[Aq,← hl];exact h1) (by simpa using ew) ⟨rfl,fin⟩) hs
theorem pZ:IxR X aJc:=by
 intro value F gz s σ H x y v u Q I O Y h hs;obtain⟨z,i,c,rfl,rfl,hz,he,q⟩:=h;obtain⟨t,rfl⟩:=O;obtain⟨t',rfl⟩:=Y;obtain⟨j,h1,h2,h3,h4,h5⟩:=wM he;have hl:z.cps.toList.length=z.length:=by simp[Str.length]
 rw[hl]at h1 h4 h5;have hn:=nZ;exact tail_any (FU s z t) slot_str_getitem.lookup (getItem_str (c:=c) (by
  have M:decide (i < -(2 ^ 63:Int))=false:=decide_eq_false (by omega);have J:decide (i ≥ 2 ^ 63)=false:=decide_eq_false (by omega);rw[M,J,Bool.or_false]) (by rw[h1];simpa using h2) ⟨.str ⟨#[c]⟩,H,I.tok _,⟨_,rfl⟩,q⟩) hs
theorem aAH(its:List Ad)(n j:Nat)(u:Ad):A6 (·.setIfInBounds j u) { cls:=.type "list",data:=.seq its.toArray n }={ cls:=.type "list",data:=.seq (its.set j u).toArray n }:=by
 simp[A6]
theorem Inv.lst{gz:List (Ae×Obj)}{σ:St}{H:Hp}{s:Ag}{p:Ae}{xs:List V}(I:Inv X gz σ H s)(h:H p=some (.lst xs)):
  ∃(its:List Ad) (n:Nat),bX xs its∧s.heap.get? p=some { cls:=.type "list",data:=.seq its.toArray n }∧xs.length≤sizeLine:=by
 obtain⟨z,its,n,r,e⟩:=I.hok p _ h;exact⟨its,n,r,e,z⟩
theorem Inv.lstUpd{gz:List (Ae×Obj)}{σ:St}{H:Hp}{s:Ag}{p:Ae}{xs ys:List V}{its its':List Ad}{n z:Nat}{f:Obj→Obj}(I:Inv X gz σ H s)(h:H p=some (.lst xs))
  (ho:s.heap.get? p=some { cls:=.type "list",data:=.seq its.toArray n }) (F:f { cls:=.type "list",data:=.seq its.toArray n }={ cls:=.type "list",data:=.seq its'.toArray z }) (r:bX ys its') (M:ys.length≤sizeLine) (t:Nat):
  Inv X gz σ (upd H p (.lst ys)) { s with heap:=s.heap.update p f,toks:=t }:=by
 have e:(s.heap.update p f).get? p=some { cls:=.type "list",data:=.seq its'.toArray z }:=by
  rw[DR f ho (by rw[F] <;> rfl),F]
 refine I.write (x:=p) (e:=p) (by rw[h];trivial) (.inl rfl) (fun b u J q=>(Heap.get?_update_other _ _ (BX J)).trans q) ⟨_,e⟩ ?_;exact⟨M,its',z,r,e⟩
inductive aBy(o:V)(i:V)(v:V)(H:Hp)(Q:(Hp→Prop)):Prop
 | mk (p:_) (xs:_) (k:_) (j:_) (q0:o=.ref p) (q1:i=.int k) (q2:H p=some (.lst xs)) (q3:ixN xs.length k=some j) (q4:Q (upd H p (.lst (xs.set j v)))):aBy o i v H Q
def aId:V→V→V→Hp→(Hp→Prop)→Prop:=fun o i v H Q=>aBy o i v H Q
theorem jW:aHZ X aId:=by
 intro gz s σ H o i v Z Y u Q I O ri M h;obtain⟨p,xs,k,j,rfl,rfl,hp,hj,q⟩:=h;cases O;obtain⟨t,rfl⟩:=ri;obtain⟨its,n,r,ho,hz⟩:=I.lst hp;obtain⟨h1,h2,h3,h4⟩:=rC hj;have hl:=r.length;have hn:=nZ;have J:Inv X gz σ (upd H p (.lst (xs.set j v))) { s with heap:=s.heap.update p (A6 (·.setIfInBounds j u)) }:=
  I.lstUpd hp ho (aAH its n j u) (r.set M j) (by rw[Cs];exact hz) s.toks
 by_cases F:0≤k
 ·have z:k.toNat=j:=by
   rw[Hb F h4]at h1;exact Ch.inj h1
  exact PySem.W.ki_setAt ho F (by omega) (by rw[Aq,← hl];exact h4) (by rw[z];exact⟨_,J,q⟩)
 ·have z:(k + (its.toArray.size:Int)).toNat=j:=by
   rw[seqIndex_neg (by omega) h3]at h1;rw[Aq,← hl];exact Ch.inj h1
  exact PySem.W.ki_setBack ho (by omega) (by rw[Aq,← hl];exact h3) (by omega) (by rw[z];exact⟨_,J,q⟩)
theorem wN(lo hi:Option Int)(n:Nat):(sliceBounds lo hi none n).1=((HT.sIx n 0 lo:Nat):Int)∧(sliceBounds lo hi none n).2.1=((HT.sIx n n hi:Nat):Int)∧(sliceBounds lo hi none n).2.2=1:=by
 refine⟨?_,?_,rfl⟩
 ·cases lo with
  | none=>simp[sliceBounds,HT.sIx]
  | some i=>
   simp only[sliceBounds,HT.sIx,Option.getD_none,show(1:Int) > 0 by decide,if_true];by_cases h:i < 0
   ·simp only[h,if_true] <;> omega
   ·simp only[h,if_false] <;> omega
 ·cases hi with
  | none=>simp[sliceBounds,HT.sIx]
  | some i=>
   simp only[sliceBounds,HT.sIx,Option.getD_none,show(1:Int) > 0 by decide,if_true];by_cases h:i < 0
   ·simp only[h,if_true] <;> omega
   ·simp only[h,if_false] <;> omega
theorem uJ(its:List Ad)(lo hi:Option Int):slicePick its.toArray lo hi none=((its.drop (HT.sIx its.length 0 lo)).take (HT.sIx its.length its.length hi - HT.sIx its.length 0 lo)).toArray:=by
 obtain⟨h1,h2,h3⟩:=wN lo hi its.toArray.size;unfold slicePick;rw[h1,h2,h3];simp only[sliceRange_one,pick_run,Aq] <;> rfl
inductive aDz(K:Ah)(x:V)(lo:Option Int)(hi:Option Int)(H:Hp)(Q:VK):Prop
 | mk (a:_) (xs:_) (q0:x=.ref a) (q1:SqL K H a xs) (q2:∀ p,H p=none→Q (.ref p) (upd H p (.lst (pY xs lo hi)))):aDz K x lo hi H Q
def aJd(K:Ah):V→Option Int→Option Int→Hp→VK→Prop:=fun x lo hi H Q=>aDz K x lo hi H Q
theorem wO:SlR X (aJd X.K):=by
 intro gz s σ H x v O M lo hi Y Q I F hs pl J h;obtain⟨a,xs,rfl,hx,q⟩:=h;cases F;obtain⟨its,r,ht,hz⟩:=I.list hx;have z:=r.length;refine⟨"list",_,slot_list_getitem.lookup,ht.isList.typeIs,wpAny_getItem_list_slice ht.isList hs pl J .none (by simp) ?_ (by rw[Aq] <;> omega)⟩;rw[uJ,← z];refine⟨.ref s.heap.objs.size,_,I.laid (t':=s.toks) (o:=.lst (pY xs lo hi)) (fun b ob q=>Aj _ q) (Am _) ?_,rfl,q _ (I.hok.fresh (Am _))⟩;exact⟨AI (qI xs lo hi) hz,_,0,(r.drop (HT.sIx xs.length 0 lo)).take (HT.sIx xs.length xs.length hi - HT.sIx xs.length 0 lo),Ax _ rfl⟩
def g9:V→Bool
 | .non=>true
 | .bl _=>true
 | .int _=>true
 | .str _=>true
 | _=>false
def eqV:V→V→Bool
 | .non,.non=>true
 | .bl a,.bl b=>a == b
 | .bl a,.int b=>(if a then 1 else 0) == b
 | .int a,.bl b=>a == (if b then 1 else 0)
 | .int a,.int b=>a == b
 | .str a,.str b=>a == b
 | _,_=>false
theorem aAI{A:AU}{s:Ag}{y x:V}{u v:Ad}(z:cG y u)(q:cG x v)(J:g9 y=true)(F:g9 x=true):F4 A s u v (eqV y x):=by
 cases y with
 | non=>
  cases z;cases x with
  | non=>cases q;exact Et _
  | bl b=>cases q;exact SeqAt.EqAt.none_bool b
  | int b=>obtain⟨t,rfl⟩:=q;exact SeqAt.EqAt.none_int b t
  | str b=>obtain⟨t,rfl⟩:=q;exact SeqAt.EqAt.none_str b t
  | _=>exact absurd (show false=true from F) Ay
 | bl a=>
  cases z;cases x with
  | non=>cases q;exact SeqAt.EqAt.bool_none a
  | bl b=>cases q;exact SeqAt.EqAt.bool_bool a b
  | int b=>obtain⟨t,rfl⟩:=q;exact SeqAt.EqAt.bool_int a b t
  | str b=>obtain⟨t,rfl⟩:=q;exact SeqAt.EqAt.bool_str a b t
  | _=>exact absurd (show false=true from F) Ay
 | int a=>
  obtain⟨t',rfl⟩:=z;cases x with
  | non=>cases q;exact SeqAt.EqAt.int_none a t'
  | bl b=>cases q;exact SeqAt.EqAt.int_bool a t' b
  | int b=>obtain⟨t,rfl⟩:=q;exact SeqAt.EqAt.int_int a t' b t
  | str b=>obtain⟨t,rfl⟩:=q;exact SeqAt.EqAt.int_str a t' b t
  | _=>exact absurd (show false=true from F) Ay
 | str a=>
  obtain⟨t',rfl⟩:=z;cases x with
  | non=>cases q;exact SeqAt.EqAt.str_none a t'
  | bl b=>cases q;exact SeqAt.EqAt.str_bool a t' b
  | int b=>obtain⟨t,rfl⟩:=q;exact SeqAt.EqAt.str_int a t' b t
  | str b=>obtain⟨t,rfl⟩:=q;exact DY a t' b t
  | _=>exact absurd (show false=true from F) Ay
 | _=>exact absurd (show false=true from J) Ay
def eqU(x:V)(u:Ad):Bool:=match u with
 | .none=>eqV .non x
 | .bool b=>eqV (.bl b) x
 | .int i _=>eqV (.int i) x
 | .str z _=>eqV (.str z) x
 | _=>false
theorem aDA{x y:V}{u:Ad}(r:cG y u)(f:g9 y=true):eqU x u=eqV y x:=by
 cases y with
 | non=>cases r;rfl
 | bl b=>cases r;rfl
 | int i=>obtain⟨t,rfl⟩:=r;rfl
 | str z=>obtain⟨t,rfl⟩:=r;rfl
 | _=>exact absurd (show false=true from f) Ay
theorem oT{x:V}:∀{xs:List V}{q:List Ad},bX xs q→xs.all g9=true→q.any (eqU x)=xs.any fun y=>eqV y x
 | _,_,.nil,_=>rfl
 | y :: xs,u :: q,.cons r t,f=>by
  rw[Gf,Bv]at f;rw[C5,C5,aDA r f.1,oT t f.2]
theorem lW{A:AU}{s:Ag}{x:V}{v:Ad}(z:cG x v)(F:g9 x=true):∀{xs:List V}{q:List Ad},bX xs q→xs.all g9=true→∀ u∈q,F4 A s u v (eqU x u)
 | _,_,.nil,_=>fun u hu=>by cases hu
 | y :: xs,u :: q,.cons r t,f=>fun J hu=>by
  rw[Gf,Bv]at f;rcases Ak.mp hu with rfl | hu
  ·rw[aDA r f.1];exact aAI r z f.1 F
  ·exact lW z F t f.2 J hu
def inV(x:V)(xs:List V):Bool:=xs.any fun y=>eqV y x
inductive aGw(K:Ah)(neg:Bool)(x:V)(y:V)(H:Hp)(Q:VK):Prop
 | mk (p:_) (xs:_) (q0:y=.ref p) (q1:(SqL K H p xs∨SqT K H p xs)) (q2:g9 x=true) (q3:xs.all g9=true) (q4:Q (.bl (if neg then !inV x xs else inV x xs)) H):aGw K neg x y H Q
def rIn(K:Ah)(neg:Bool):R2:=fun x y H Q=>aGw K neg x y H Q
theorem jX:OpR X (compareOp .In) (rIn X.K false):=by
 intro gz s σ H x y v u Q I F J h;obtain⟨p,xs,rfl,z,fx,fs,q⟩:=h;cases J;rcases z with z | z
 ·obtain⟨its,r,pl,hz⟩:=I.list z;refine SeqAt.in_listAt (eqU x) pl.isList (fun w hw=>lW F fx r fs w (by simpa using hw)) ⟨.bl _,H,I,rfl,?_⟩;rw[show its.toArray.any (eqU x)=its.any (eqU x) by simp,oT r fs];exact q
 ·obtain⟨its,r,pl,hz⟩:=I.tuple z;refine SeqAt.in_tupleAt (eqU x) pl (fun w hw=>lW F fx r fs w (by simpa using hw)) ⟨.bl _,H,I,rfl,?_⟩;rw[show its.toArray.any (eqU x)=its.any (eqU x) by simp,oT r fs];exact q
theorem lA:OpR X (compareOp .NotIn) (rIn X.K true):=by
 intro gz s σ H x y v u Q I F J h;obtain⟨p,xs,rfl,z,fx,fs,q⟩:=h;cases J;rcases z with z | z
 ·obtain⟨its,r,pl,hz⟩:=I.list z;refine SeqAt.notIn_listAt (eqU x) pl.isList (fun w hw=>lW F fx r fs w (by simpa using hw)) ⟨.bl _,H,I,rfl,?_⟩;rw[show its.toArray.any (eqU x)=its.any (eqU x) by simp,oT r fs];exact q
 ·obtain⟨its,r,pl,hz⟩:=I.tuple z;refine SeqAt.notIn_tupleAt (eqU x) pl (fun w hw=>lW F fx r fs w (by simpa using hw)) ⟨.bl _,H,I,rfl,?_⟩;rw[show its.toArray.any (eqU x)=its.any (eqU x) by simp,oT r fs];exact q
inductive jY(K:Ah)(xs:List V)(H:Hp)(Q:VK):Prop
 | mk (p:_) (ys:_) (q0:xs=[.ref p]) (q1:(SqL K H p ys∨SqT K H p ys)) (q2:Q (.int ys.length) H):jY K xs H Q
def lX(K:Ah):List V→Hp→VK→Prop:=fun xs H Q=>jY K xs H Q
theorem bK:eU X (.builtin "len") (lX X.K):=by
 intro gz s σ H xs J Q I r h;obtain⟨p,ys,rfl,F,q⟩:=h;obtain⟨u,rfl,rx⟩:=eY r;cases rx;have hn:=nZ;rcases F with F | F
 ·obtain⟨its,r',pl,hz⟩:=I.list F;have z:=r'.length;exact Calls.call_len_list pl.isList (by simp only[Aq] <;> omega) ⟨.int ys.length,H,I.tok _,⟨s.toks + 1,by rw[Aq,z]⟩,q⟩
 ·obtain⟨its,r',pl,hz⟩:=I.tuple F;have z:=r'.length;exact len_tuple pl (by simp only[Aq] <;> omega) ⟨.int ys.length,H,I.tok _,⟨s.toks + 1,by rw[Aq,z]⟩,q⟩
inductive jZ(xs:List V)(H:Hp)(Q:VK):Prop
 | mk (z:_) (q0:xs=[.str z]) (q1:z.length≤sizeLine) (q2:Q (.int z.length) H):jZ xs H Q
def rT:List V→Hp→VK→Prop:=fun xs H Q=>jZ xs H Q
theorem oU:eU X (.builtin "len") rT:=by
 intro gz s σ H xs F Q I r h;obtain⟨z,rfl,hz,q⟩:=h;obtain⟨u,rfl,t,rfl⟩:=eY r;have hn:=nZ;exact len_str (by omega) ⟨.int z.length,H,I.tok _,⟨_,rfl⟩,q⟩
inductive jG(K:Ah)(xs:List V)(H:Hp)(Q:VK):Prop
 | mk (p:_) (ys:_) (q0:xs=[.ref p]) (q1:((SqL K H p ys∧∀ l,H l=none→Q (.ref l) (upd H l (.tup ys)))∨(SqT K H p ys∧Q (.ref p) H))):jG K xs H Q
def qV(K:Ah):List V→Hp→VK→Prop:=fun xs H Q=>jG K xs H Q
theorem eO:eU X (.type "tuple") (qV X.K):=by
 intro gz s σ H xs M Q I r h;obtain⟨p,ys,rfl,h⟩:=h;obtain⟨u,rfl,rx⟩:=eY r;cases rx;rcases h with⟨hq,q⟩ | ⟨hq,q⟩
 ·obtain⟨its,r',pl,hz⟩:=I.list hq;have z:=r'.length;refine call_tuple_list pl.isList (fun h' kp=>?_) (by simp only[Aq] <;> omega);have F:Inv X gz σ H { s with heap:=h' }:=I.kept (t':=s.toks) kp;have J:Inv X gz σ (upd H h'.objs.size (.tup ys)) { s with heap:=h'.push { cls:=.type "tuple",data:=.seq its.toArray } }:=
   F.laid (t':=s.toks) (fun b o e=>Aj _ e) (Am _) (show cS X.prog X.w _ _ _ (.tup ys) from⟨hz,its,r',⟨_,Ax _ rfl,⟨rfl,_,rfl⟩,rfl⟩⟩)
  exact⟨.ref h'.objs.size,_,J,rfl,q _ (F.hok.fresh (Am _))⟩
 ·obtain⟨its,r',pl,hz⟩:=I.tuple hq;exact call_tuple_same pl ⟨.ref p,H,I,rfl,q⟩
def tyV(K:Ah)(T:String)(x:V)(H:Hp):Prop:=match x with
 | .str _=>T="str"
 | .int _=>T="int"
 | .ref p=>(T="list"∧∃ xs,SqL K H p xs)∨(T="tuple"∧∃ o,K.lookup p=some o∧o.cls=.type "tuple"∧o.dict=none)∨
   (T="dict"∧((∃ iz,H p=some (.dK iz))∨∃ iz,H p=some (.dT iz)))∨(T="set"∧∃ S n,H p=some (.set S n))∨(T="tuple"∧∃ xs,H p=some (.tup xs))
 | _=>False
theorem aDB{gz:List (Ae×Obj)}{σ:St}{H:Hp}{s:Ag}{T:String}{x:V}{v:Ad}(I:Inv X gz σ H s)(r:cG x v)(ty:tyV X.K T x H):
  s.TypeIs v T∧∀ a,v=.ref a→∃ ob,s.heap.get? a=some ob∧ob.dict=none:=by
 cases x with
 | str z=>
  obtain⟨t,rfl⟩:=r;cases(show T="str" from ty);exact⟨FU s z t,fun _ e=>nomatch e⟩
 | int i=>
  obtain⟨t,rfl⟩:=r;cases(show T="int" from ty);exact⟨Gr s i t,fun _ e=>nomatch e⟩
 | ref p=>
  cases r;rcases ty with⟨rfl,xs,hq⟩ | ⟨rfl,o,hk,hc,hd⟩ | ⟨rfl,hk⟩ | ⟨rfl,S,n,hk⟩ | ⟨rfl,xs,hq⟩
  ·obtain⟨its,_,pl,_⟩:=I.list hq;refine⟨pl.isList.typeIs,fun a e=>?_⟩;cases e;obtain⟨o,n,e,c,hd,_⟩:=pl;exact⟨o,e,hd⟩
  ·refine⟨⟨o,I.kIn p o hk,hc⟩,fun a e=>?_⟩;cases e;exact⟨o,I.kIn _ o hk,hd⟩
  ·have z:∃ o,s.heap.get? p=some o∧o.ExactDict:=by
    rcases hk with⟨iz,hk⟩ | ⟨iz,hk⟩
    ·obtain⟨_,_,_,_,o,_,_,e,ex,_⟩:=I.hok p _ hk;exact⟨o,e,ex⟩
    ·obtain⟨_,_,_,_,o,_,_,e,ex,_⟩:=I.hok p _ hk;exact⟨o,e,ex⟩
   obtain⟨o,e,ex⟩:=z;refine⟨⟨o,e,ex.1⟩,fun a q=>?_⟩;cases q;exact⟨o,e,ex.2.1⟩
  ·obtain⟨o,_,_,_,e,ex,_⟩:=I.hok p _ hk;refine⟨⟨o,e,ex.1⟩,fun a q=>?_⟩;cases q;exact⟨o,e,ex.2.1⟩
  ·obtain⟨_,_,_,o,e,⟨c,_⟩,hd⟩:=(show cS X.prog X.w H s.heap p (.tup xs) from I.hok p _ hq)
   refine⟨⟨o,e,c⟩,fun a q=>?_⟩;cases q;exact⟨o,e,hd⟩
 | _=>exact BZ ty
def aIe(K:Ah)(T:String)(r:V→List V→Hp→VK→Prop)(to:TE):TE:=fun σ H Q=>to σ H fun x H1=>tyV K T x H1∧r x [] H1 Q
def tBM(K:Ah)(T:String)(r:V→List V→Hp→VK→Prop)(to:TE)(t:TA):TE:=fun σ H Q=>to σ H fun x H1=>tyV K T x H1∧t σ H1 fun xs H2=>r x xs H2 Q
variable{o e:Be}{es:List Be}{to:TE}{t:TA}{name:Str}{jc jb:Pos}{T id:String}{r:V→List V→Hp→VK→Prop}
theorem aDC(O:PlainAttrs T)(slot:Slot T name id)(F:typeOf (.builtin id)=pure (.type "method_descriptor"))(hm:MtR X id r)(ho:PE X o to)
  (z:attributeBase o name X.env (eval o X.env)=eval o X.env:=by rfl) (q:(jc.endLine == jb.line)=true:=by rfl):PE X (.Call (.Attribute o name jc) [] [] jb) (aIe X.K T r to):=by
 constructor;intro gz s σ H Q I h;refine wpAny_Call_method0_late z q (thn (ho gz s σ H _ I h) fun v s1 ⟨x,H1,J,M,ty,Y⟩=>?_);obtain⟨h1,h2⟩:=aDB J M ty;exact⟨T,id,O,slot,F,h1,h2,CY rfl (PySem.evalArgs_none (hm gz s1 σ H1 x [] v [] Q J M .nil Y))⟩
theorem j0(pa:PlainAttrs T)(slot:Slot T name id)(M:typeOf (.builtin id)=pure (.type "method_descriptor"))(hm:MtR X id r)(ho:PE X o to)(ha:PA X (e :: es) t)
  (F:attributeBase o name X.env (eval o X.env)=eval o X.env:=by rfl)
  (J:((backTo jb (starEach (e :: es) X.env)).all (fun x=>!x.1) && (backToKw jb (keywordEach [] X.env)).all (fun x=>x.1.isSome)
   && decide ((e :: es).length + ([]:List Fj).length + (if ([]:List Fj).isEmpty then 0 else 1) < 30))=true:=by rfl)
  (z:(jc.endLine == jb.line)=true:=by rfl) (hs:starEach (e :: es) X.env=(false,eval e X.env) :: starEach es X.env:=by rfl) (q:(backTo jb (starEach es X.env)).any (·.1)=false:=by rfl):
  PE X (.Call (.Attribute o name jc) (e :: es) [] jb) (tBM X.K T r to t):=by
 constructor;intro gz s σ H Q I h;refine wpAny_Call_method_late F J z rfl (thn (ho gz s σ H _ I h) fun v s1 ⟨x,H1,O,Z,ty,q1⟩=>?_);obtain⟨h1,h2⟩:=aDB O Z ty;refine⟨T,id,pa,slot,M,h1,h2,?_⟩;have Y:=ha jb gz s1 σ H1 _ O q1;rw[hs]at Y ⊢;refine CY (by show(false || (backTo jb (starEach es X.env)).any (·.1))=false;rw[q] <;> rfl) (E9 ?_)
 exact thn Y fun us s2 ⟨vs,H2,I2,r2,q2⟩=>hm gz s2 σ H2 x vs v us Q I2 Z r2 q2
end
def MtM(X:Cx)(id:String)(r:V→List V→Hp→VK→Prop):Prop:=
 ∀(gz:List (Ae×Obj)) (s:Ag) (σ:St) (H:Hp) (x:V) (xs:List V) (v:Ad) (us:List Ad) (Q:VK),Inv X gz σ H s→cG x v→bX xs us→r x xs H Q→
  wpAny (model X.prog X.w) X.A (call (.builtin id) (v :: us)) (EP X gz σ Q) X.xe s
theorem bX.one:∀{x:V}{q:List Ad},bX [x] q→∃ u,q=[u]∧cG x u
 | _,_,.cons r .nil=>⟨_,rfl,r⟩
theorem bX.zero:∀{q:List Ad},bX [] q→q=[]
 | _,.nil=>rfl
theorem bX.dropLast{xs:List V}{z:List Ad}(h:bX xs z):bX xs.dropLast z.dropLast:=by
 induction h with
 | nil=>exact .nil
 | cons r t F=>
  cases t with
  | nil=>exact .nil
  | cons q J=>exact .cons r F
theorem bX.eraseIdx:∀{xs:List V}{q:List Ad} (i:Nat),bX xs q→bX (xs.eraseIdx i) (q.eraseIdx i)
 | _,_,_,.nil=>.nil
 | _,_,0,.cons _ t=>t
 | _,_,i + 1,.cons r t=>.cons r (bX.eraseIdx i t)
theorem bX.rep{xs:List V}{q:List Ad}(h:bX xs q):∀ k:Nat,bX (Bl k xs).flatten (Bl k q).flatten
 | 0=>.nil
 | k + 1=>by
  rw[Cu,Cu,DG,DG];exact bX.append h (bX.rep h k)
theorem aAJ{α:Type}(l:List α):l.eraseIdx (l.length - 1)=l.dropLast:=by
 induction l with
 | nil=>rfl
 | cons a r q=>
  cases r with
  | nil=>rfl
  | cons b r=>
   have e:(a :: b :: r).length - 1=((b :: r).length - 1) + 1:=by
    have h1:(a :: b :: r).length=r.length + 2:=rfl;have h2:(b :: r).length=r.length + 1:=rfl;omega
   rw[e,List.eraseIdx_cons_succ,q]
   all_goals rfl
theorem uY{α:Type}:∀(l:List α) (i:Nat),(l.eraseIdx i).length≤l.length
 | [],_=>Am _
 | _ :: _,0=>CZ _
 | _ :: r,i + 1=>Nat.succ_le_succ (uY r i)
theorem uZ(its:List Ad):∀(k:Nat) (q:List Ad),
  Ga (fun F J=>F ++ J) q.toArray (Bl k its.toArray)=(q ++ (Bl k its).flatten).toArray
 | 0,q=>by simp
 | k + 1,q=>by
  have e:q.toArray ++ its.toArray=(q ++ its).toArray:=by simp
  have z:(q ++ its) ++ (Bl k its).flatten=q ++ (Bl (k + 1) its).flatten:=by
   rw[Cu,DG,AY]
  rw[← z,← uZ its k (q ++ its),← e,Cu,BG]
section
variable{X:Cx}{gz:List (Ae×Obj)}{σ:St}{H:Hp}{s:Ag}{l b:Ae}{xs ys zs:List V}
theorem Inv.lset{its its':List Ad}{n:Nat}{f:Array Ad→Array Ad}{t':Nat}(I:Inv X gz σ H s)(z:H l=some (.lst xs))
  (e:s.heap.get? l=some { cls:=.type "list",data:=.seq its.toArray n }) (F:f its.toArray=its'.toArray) (hv:bX ys its') (J:ys.length≤sizeLine):
  Inv X gz σ (upd H l (.lst ys)) { s with heap:=s.heap.update l (A6 f),toks:=t' }:=by
 have q:=PySem.IsL.update e f;rw[F]at q;refine I.write (x:=l) (e:=l) (by rw[z];exact trivial) (.inl rfl) (fun O u M hu=>(Heap.get?_update_other s.heap (A6 f) (BX M)).trans hu) ⟨_,q⟩ ?_;exact⟨J,its',_,hv,q⟩
theorem Inv.lnew{its:List Ad}{t':Nat}(I:Inv X gz σ H s)(hv:bX ys its)(z:ys.length≤sizeLine):
  Inv X gz σ (upd H s.heap.objs.size (.lst ys)) { s with heap:=s.heap.push { cls:=.type "list",data:=.seq its.toArray },toks:=t' }:=
 I.laid (fun _ _ q=>Aj _ q) (Am _) ⟨z,its,0,hv,Ax _ rfl⟩
theorem Inv.fresh(I:Inv X gz σ H s):H s.heap.objs.size=none:=I.hok.fresh (Am _)
theorem Inv.lstM(I:Inv X gz σ H s)(q:H l=some (.lst xs)):xs.length≤sizeLine∧∃(its:List Ad) (n:Nat),bX xs its∧xs.length=its.length∧s.heap.get? l=some { cls:=.type "list",data:=.seq its.toArray n }:=by
 obtain⟨z,its,n,r,e⟩:=I.hok l _ q;exact⟨z,its,n,r,r.length,e⟩
theorem yA{n:Nat}(h:n≤sizeLine):Dc n=false:=by
 unfold Dc;exact decide_eq_false (by omega)
end
section
variable{X:Cx}
inductive u0(x:V)(vs:List V)(H:Hp)(Q:VK):Prop
 | mk (l:_) (xs:_) (y:_) (q0:x=.ref l) (q1:vs=[y]) (q2:H l=some (.lst xs)) (q3:xs.length < sizeLine) (q4:Q .non (upd H l (.lst (xs ++ [y])))):u0 x vs H Q
def aFx:V→List V→Hp→VK→Prop:=fun x vs H Q=>u0 x vs H Q
theorem fG:MtM X "list.append" aFx:=by
 intro gz s σ H x vs v O Q I J M h;obtain⟨l,xs,y,rfl,rfl,hH,hz,q⟩:=h;cases J;obtain⟨u,rfl,ru⟩:=M.one;obtain⟨z,its,n,r,hl,e⟩:=I.lstM hH;refine Fg F.slot_list_append ⟨_,e,rfl⟩ F.entry_list_append (F.args_list_append_2 _ _) (PySem.list_append l its.toArray n u (by rw[Aq];omega)) ⟨e,?_⟩;refine⟨.non,_,I.lset (its':=its ++ [u]) hH e (by simp) (r.append (.cons ru .nil)) ?_,rfl,q⟩;rw[AD,CB];omega
inductive aDD(x:V)(vs:List V)(H:Hp)(Q:VK):Prop
 | mk (l:_) (xs:_) (y:_) (q0:x=.ref l) (q1:vs=[]) (q2:H l=some (.lst xs)) (q3:xs[xs.length - 1]?=some y) (q4:Q y (upd H l (.lst xs.dropLast))):aDD x vs H Q
def aJe:V→List V→Hp→VK→Prop:=fun x vs H Q=>aDD x vs H Q
theorem aDE:MtM X "list.pop" aJe:=by
 intro gz s σ H x vs v Z Q I O Y h;obtain⟨l,xs,y,rfl,rfl,hH,hy,q⟩:=h;cases O;have M:=Y.zero;subst M;obtain⟨z,its,n,r,hl,e⟩:=I.lstM hH;obtain⟨u,hu,ru⟩:=r.get hy;have J:its.toArray[its.toArray.size - 1]?=some u:=by
  show its.toArray[its.length - 1]?=some u;rw[← B3,← hl];exact hu
 refine Fg F.slot_list_pop ⟨_,e,rfl⟩ F.entry_list_pop (F.args_list_pop_1 _) (MeetsSeq.list_pop_last l its.toArray n u J (by rw[Aq];omega)) ⟨e,?_⟩;refine⟨y,_,I.lset (its':=its.dropLast) hH e ?_ r.dropLast ?_,ru,q⟩
 ·show its.toArray.eraseIdxIfInBounds (its.toArray.size - 1)=its.dropLast.toArray;rw[Aq,List.eraseIdxIfInBounds_toArray,aAJ]
 ·rw[List.length_dropLast];omega
inductive yB(x:V)(vs:List V)(H:Hp)(Q:VK):Prop
 | mk (l:_) (xs:_) (i:_) (k:_) (y:_) (q0:x=.ref l) (q1:vs=[.int i]) (q2:H l=some (.lst xs)) (q3:-(2 ^ 63)≤i) (q4:i < 2 ^ 63) (q5:seqIndex? i xs.length=some k) (q6:xs[k]?=some y) (q7:Q y (upd H l (.lst (xs.eraseIdx k)))):yB x vs H Q
def aHa:V→List V→Hp→VK→Prop:=fun x vs H Q=>yB x vs H Q
theorem yC:MtM X "list.pop" aHa:=by
 intro gz s σ H x vs v O Q I J M h;obtain⟨l,xs,i,k,y,rfl,rfl,hH,h1,h2,hk,hy,q⟩:=h;cases J;obtain⟨u,rfl,ru⟩:=M.one;obtain⟨t,rfl⟩:=ru;obtain⟨z,its,n,r,hl,e⟩:=I.lstM hH;obtain⟨w,hw,rw'⟩:=r.get hy;refine Fg F.slot_list_pop ⟨_,e,rfl⟩ F.entry_list_pop (F.args_list_pop_2 _ _)
  (MeetsSeq.list_pop_at l its.toArray n i t k w (fitsIndex_both h1 h2) (by rw[Aq,← hl];exact hk) (by rw[← B3];exact hw) (by rw[Aq];omega)) ⟨e,?_⟩
 refine⟨y,_,I.lset (its':=its.eraseIdx k) hH e ?_ (r.eraseIdx k) ?_,rw',q⟩
 ·show its.toArray.eraseIdxIfInBounds k=(its.eraseIdx k).toArray;rw[List.eraseIdxIfInBounds_toArray]
 ·have:=uY xs k;omega
inductive aDF(x:V)(y:V)(H:Hp)(Q:VK):Prop
 | mk (l:_) (b:_) (xs:_) (zs:_) (q0:x=.ref l) (q1:y=.ref b) (q2:H l=some (.lst xs)) (q3:H b=some (.lst zs)) (q4:xs.length + zs.length≤sizeLine) (q5:∀ p,H p=none→Q (.ref p) (upd H p (.lst (xs ++ zs)))):aDF x y H Q
def aJf:R2:=fun x y H Q=>aDF x y H Q
theorem aAK:OpR X (binaryOp .Add) aJf:=by
 intro gz s σ H x y v u Q I F J h;obtain⟨l,b,xs,zs,rfl,rfl,hH,hB,hz,q⟩:=h;cases F;cases J;obtain⟨z,its,n,r,hl,e⟩:=I.lstM hH;obtain⟨z2,its2,n2,r2,hl2,e2⟩:=I.lstM hB;refine PySem.P.add_list e e2 ?_ (by rw[Aq,Aq];omega);have M:its.toArray ++ its2.toArray=(its ++ its2).toArray:=by simp
 rw[M];exact⟨.ref _,_,I.lnew (t':=s.toks) (r.append r2) (by rw[AD];omega),rfl,q _ I.fresh⟩
inductive aDG(x:V)(y:V)(H:Hp)(Q:VK):Prop
 | mk (l:_) (k:_) (xs:_) (q0:x=.ref l) (q1:y=.int k) (q2:H l=some (.lst xs)) (q3:-(2 ^ 63)≤k) (q4:k < 2 ^ 63) (q5:xs.length * k.toNat≤sizeLine) (q6:∀ p,H p=none→Q (.ref p) (upd H p (.lst (Bl k.toNat xs).flatten))):aDG x y H Q
def aJg:R2:=fun x y H Q=>aDG x y H Q
theorem aFy{α:Type}(xs:List α)(k:Nat):(Bl k xs).flatten.length=k * xs.length:=by
 induction k with
 | zero=>simp
 | succ k q=>rw[Cu,DG,AD,q,Nat.succ_mul,Nat.add_comm]
theorem aHb:OpR X (binaryOp .Mult) aJg:=by
 intro gz s σ H x y v u Q I rx ry h;obtain⟨l,k,xs,rfl,rfl,hH,h1,h2,hz,q⟩:=h;cases rx;obtain⟨t,rfl⟩:=ry;obtain⟨z,its,n,r,hl,e⟩:=I.lstM hH;have O:its.toArray.size * k.toNat≤sizeLine:=by rw[Aq,← hl];exact hz
 have M:¬ its.toArray.size * k.toNat > (2 ^ 63 - 1) / 8:=by
  have:(sizeLine:Nat)≤(2 ^ 63 - 1) / 8:=by decide
  omega
 have Z:¬ (!Builtin.List.listFitsIndex k)=true:=by
  rw[fitsIndex_both h1 h2];exact Ay
 have J:¬ Dc (its.toArray.size * k.toNat)=true:=by
  rw[yA O];exact Ay
 have Y:Ga (fun x1 x2=>x1 ++ x2) #[] (Bl (if its.toArray.isEmpty=true then 0 else k.toNat) its.toArray)=(Bl k.toNat its).flatten.toArray:=by
  have f0:∀ m:Nat,Ga (fun x1 x2=>x1 ++ x2) #[] (Bl m its.toArray)=(Bl m its).flatten.toArray:=fun m=>by
   have:=uZ its m [];rw[List.nil_append]at this;exact this
  rw[f0];cases its with
  | nil=>simp
  | cons a r'=>rw[Ia (by simp)]
 refine wpAny_binaryOp_repeat_ref (T:="list") (U:="int") (by decide) ⟨_,e,rfl⟩ (fun s'=>Gr s' k t) noFill_list_mul F.fills_int_mul F.slot_int_rmul repeat_list F.slot_int_index.lookup
  (Fg F.slot_int_rmul (Gr s k t) F.entry_int_rmul (F.args_int_rmul_2 _ _) (int___rmul___int_list k t l its.toArray n)
   ⟨e,rfl,⟨_,e,rfl⟩,Fg F.slot_list_mul ⟨_,e,rfl⟩ F.entry_list_mul (F.args_list_mul_2 _ _) (AutoListH.list___mul___list_int_3 l its.toArray n k t Z M J) ⟨e,?_⟩⟩)
 rw[Y];exact⟨.ref _,_,I.lnew (t':=s.toks) (r.rep k.toNat) (by rw[aFy,Nat.mul_comm];exact hz),rfl,q _ I.fresh⟩
end
section
variable{prog:AC}{w:AT}{A:AU}{E:Ad→Ag→Prop}{s:Ag}
end
section
variable{X:Cx}
end
section
variable{κ:Type}[DecidableEq κ]
def bS(iz:List (κ×V))(k:κ):Option V:=(iz.find? fun kv=>decide (kv.1=k)).map (·.2)
def bT(iz:List (κ×V))(k:κ)(v:V):List (κ×V):=
 if (iz.any fun kv=>decide (kv.1=k))=true then iz.map (fun kv=>if kv.1=k then(kv.1,v) else kv) else iz ++ [(k,v)]
def cA(iz:List (κ×V))(k:κ):List (κ×V):=iz.filter fun kv=>decide (kv.1≠k)
theorem rV{k:κ}:bS ([]:List (κ×V)) k=none:=rfl
theorem cU{p:κ×V}{r:List (κ×V)}{k:κ}(e:p.1=k):bS (p :: r) k=some p.2:=by simp[bS,Du,e]
theorem cK{p:κ×V}{r:List (κ×V)}{k:κ}(e:¬ p.1=k):bS (p :: r) k=bS r k:=by simp[bS,Du,e]
theorem dX(k:κ):∀ iz:List (κ×V),(iz.any fun q=>decide (q.1=k))=(bS iz k).isSome
 | []=>rfl
 | p :: r=>by
  rw[C5];by_cases e:p.1=k
  ·simp only[cU e,Ic e,Bool.true_or,Option.isSome_some]
  ·rw[cK e,decide_eq_false e,Bool.false_or];exact dX k r
theorem yD(k j:κ)(y:V):∀ iz:List (κ×V),bS (iz.map fun q=>if q.1=k then(q.1,y) else q) j=(bS iz j).map fun x=>if j=k then y else x
 | []=>rfl
 | p :: r=>by
  have F:=yD k j y r;rw[Av];by_cases h:p.1=k
  ·rw[Ib h];by_cases e:p.1=j
   ·rw[cU (p:=(p.1,y)) e,cU e,EO,Ib (e.symm.trans h)]
   ·rw[cK (p:=(p.1,y)) e,cK e,F]
  ·rw[Ia h];by_cases e:p.1=j
   ·rw[cU (p:=p) e,cU e,EO,Ia (fun z=>h (e.trans z))]
   ·rw[cK (p:=p) e,cK e,F]
theorem vA(k j:κ)(y:V):∀ iz:List (κ×V),bS iz k=none→bS (iz ++ [(k,y)]) j=if j=k then some y else bS iz j
 | [],_=>by
  by_cases e:k=j
  ·rw[Ib e.symm];exact cU (p:=(k,y)) e
  ·rw[Ia (fun z=>e z.symm)];exact cK (p:=(k,y)) e
 | p :: r,hn=>by
  rw[List.cons_append];have q:¬ p.1=k:=fun z=>by rw[cU z]at hn;cases hn
  rw[cK q]at hn;have F:=vA k j y r hn;by_cases e:p.1=j
  ·rw[cU e,cU e,Ia (fun z=>q (e.trans z))]
  ·rw[cK e,cK e,F]
theorem eB(iz:List (κ×V))(k j:κ)(y:V):bS (bT iz k y) j=if j=k then some y else bS iz j:=by
 unfold bT;by_cases a:(iz.any fun z=>decide (z.1=k))=true
 ·rw[Ib a,yD];rw[dX]at a;by_cases e:j=k
  ·obtain⟨x,hx⟩:=A2.mp a;rw[Ib e,e,hx,EO,Ib rfl]
  ·rw[Ia e];cases bS iz j with
   | none=>rfl
   | some x=>rw[EO,Ia e]
 ·rw[Ia a];refine vA k j y iz ?_;rw[dX]at a;cases q:bS iz k with
  | none=>rfl
  | some x=>rw[q]at a;exact(a rfl).elim
theorem cB(iz:List (κ×V))(k:κ)(v:V):(bT iz k v).length≤iz.length + 1:=by
 unfold bT;split
 ·rw[Aa];omega
 ·rw[AD,AK,List.length_nil];omega
theorem iY{iz:List (κ×V)}{k:κ}(v:V)(h:bS iz k=none):bT iz k v=iz ++ [(k,v)]:=by
 unfold bT;rw[dX,h];exact Ia (by decide)
theorem lR.isSome_eq{o:Option V}{u:Option Ad}(r:lR o u):o.isSome=u.isSome:=by
 cases o with
 | none=>cases u with
  | none=>rfl
  | some _=>exact(show False from r).elim
 | some _=>cases u with
  | none=>exact(show False from r).elim
  | some _=>rfl
theorem lR.getD{o:Option V}{u:Option Ad}{d:V}{d':Ad}(r:lR o u)(rd:cG d d'):cG (o.getD d) (u.getD d'):=by
 cases o with
 | none=>cases u with
  | none=>exact rd
  | some _=>exact(show False from r).elim
 | some _=>cases u with
  | none=>exact(show False from r).elim
  | some _=>exact r
theorem KV.val{iz:List (κ×V)}{vs:List (κ×Ad)}(r:KV iz vs)(k:κ):lR (bS iz k) (valueAt vs k):=by
 unfold KV at r
 induction r with
 | nil=>exact Dg
 | @cons p q ps F h t M=>
  obtain⟨h1,h2⟩:=h;by_cases e:p.1=k
  ·have J:q.1=k:=h1.symm.trans e;have b:valueAt (q :: F) k=some q.2:=by simp[valueAt,Du,J]
   rw[cU e,b];exact h2
  ·have J:¬ q.1=k:=fun z=>e (h1.trans z);have b:valueAt (q :: F) k=valueAt F k:=by simp[valueAt,Du,J]
   rw[cK e,b];exact M
theorem KV.any{iz:List (κ×V)}{vs:List (κ×Ad)}(r:KV iz vs)(k:κ):(iz.any fun q=>decide (q.1=k))=vs.any fun q=>decide (q.1=k):=by
 unfold KV at r
 induction r with
 | nil=>rfl
 | cons h t z=>rw[C5,C5,z,h.1]
theorem KV.repl{iz:List (κ×V)}{vs:List (κ×Ad)}(r:KV iz vs)(k:κ){y:V}{u:Ad}(M:cG y u):
  KV (iz.map fun F=>if F.1=k then(F.1,y) else F) (vs.map fun F=>if F.1=k then(F.1,u) else F):=by
 unfold KV at r ⊢
 induction r with
 | nil=>exact .nil
 | @cons p q ps O h t J=>
  rw[Av,Av];refine .cons ?_ J;obtain⟨h1,h2⟩:=h;by_cases e:p.1=k
  ·rw[Ib e,Ib (h1.symm.trans e)];exact⟨h1,M⟩
  ·rw[Ia e,Ia (fun z=>e (h1.trans z))];exact⟨h1,h2⟩
theorem KV.put{iz:List (κ×V)}{vs:List (κ×Ad)}(r:KV iz vs)(k:κ){y:V}{u:Ad}(q:cG y u):KV (bT iz k y) (stored vs k u):=by
 unfold bT stored;rw[r.any k];by_cases e:(vs.any fun z=>decide (z.1=k))=true
 ·rw[Ib e,Ib e];exact r.repl k q
 ·rw[Ia e,Ia e];exact BY r ⟨rfl,q⟩
theorem KV.drop{iz:List (κ×V)}{vs:List (κ×Ad)}(r:KV iz vs)(k:κ):KV (cA iz k) (without vs k):=by
 unfold KV at r ⊢;unfold cA without
 induction r with
 | nil=>exact .nil
 | @cons p q ps M h t F=>
  obtain⟨h1,h2⟩:=h;rw[BP,BP];by_cases e:p.1=k
  ·have a:¬ decide (p.1≠k)=true:=by simp[e]
   have b:¬ decide (q.1≠k)=true:=by simp[h1.symm.trans e]
   rw[Ia a,Ia b];exact F
  ·have J:¬ q.1=k:=fun z=>e (h1.trans z);have a:decide (p.1≠k)=true:=by simp[e]
   have b:decide (q.1≠k)=true:=by simp[J]
   rw[Ib a,Ib b];exact .cons ⟨h1,h2⟩ F
theorem KV.length{iz:List (κ×V)}{vs:List (κ×Ad)}(r:KV iz vs):iz.length=vs.length:=Bx r
theorem oV(iz:List (κ×V))(k:κ):(cA iz k).length≤iz.length:=BS _ _
end
theorem nN{P:AC}{w:AT}{k:Key}{u:Ad}(r:cG (kV k) u):(cF P w).is k u=true:=by
 cases k with
 | inl i=>obtain⟨t,e⟩:=(show∃ t,u=Bt i t from r);subst e;exact xT P w i t
 | inr x=>obtain⟨t,e⟩:=(show∃ t,u=Br x t from r);subst e;exact xU P w x t
theorem vB{P:AC}{w:AT}:∀{ks:List Key}{q:List Ad},bX (ks.map kV) q→ItemsAre (cF P w) ks q
 | [],_,r=>by rw[CL]at r;cases r;exact .nil
 | k :: ks,_,r=>by
  rw[Av]at r;cases r with
  | cons h t=>exact .cons (nN h) (vB t)
abbrev KT(H:Hp):List (List Key×V)→List (List Key×Ae×Ad)→Prop:=By fun p q=>p.1=q.1∧H q.2.1=some (.tup (p.1.map kV))∧cG p.2 q.2.2
theorem KT.val{H:Hp}{iz:List (List Key×V)}{xs:List (List Key×Ae×Ad)}(r:KT H iz xs)(k:List Key):lR (bS iz k) ((atKey xs k).map (·.2)):=by
 induction r with
 | nil=>exact Dg
 | @cons p q ps F h t M=>
  obtain⟨h1,_,h2⟩:=h;by_cases e:p.1=k
  ·have J:q.1=k:=h1.symm.trans e;have b:atKey (q :: F) k=some q.2:=by simp[atKey,Du,J]
   rw[cU e,b];exact h2
  ·have J:¬ q.1=k:=fun z=>e (h1.trans z);have b:atKey (q :: F) k=atKey F k:=by simp[atKey,Du,J]
   rw[cK e,b];exact M
theorem KT.repl{H:Hp}{iz:List (List Key×V)}{xs:List (List Key×Ae×Ad)}(r:KT H iz xs)(k:List Key){y:V}{u:Ad}(M:cG y u):
  KT H (iz.map fun F=>if F.1=k then(F.1,y) else F) (xs.map (putAt k u)):=by
 induction r with
 | nil=>exact .nil
 | @cons p q ps O h t J=>
  rw[Av,Av];refine .cons ?_ J;obtain⟨h1,h2,h3⟩:=h;unfold putAt;by_cases e:p.1=k
  ·rw[Ib e,Ib (h1.symm.trans e)];exact⟨h1,h2,M⟩
  ·rw[Ia e,Ia (fun z=>e (h1.trans z))];exact⟨h1,h2,h3⟩
theorem KT.put{H:Hp}{iz:List (List Key×V)}{xs:List (List Key×Ae×Ad)}(r:KT H iz xs)(k:List Key){b:Ae}{y:V}{u:Ad}(J:H b=some (.tup (k.map kV)))(z:cG y u):
  KT H (bT iz k y) (storedH xs k b u):=by
 have e:(iz.any fun F=>decide (F.1=k))=(atKey xs k).isSome:=by
  rw[dX,(r.val k).isSome_eq,Ft]
 unfold bT storedH;rw[e];by_cases q:(atKey xs k).isSome=true
 ·rw[Ib q,Ib q];exact r.repl k z
 ·rw[Ia q,Ia q];exact BY r ⟨rfl,J,z⟩
theorem KT.keeps{H H':Hp}{iz:List (List Key×V)}{xs:List (List Key×Ae×Ad)}(r:KT H iz xs)(ht:∀ b ys,H b=some (.tup ys)→H' b=some (.tup ys)):KT H' iz xs:=
 Paired.mapP r fun _ _ z=>⟨z.1,ht _ _ z.2.1,z.2.2⟩
section
variable{P:AC}{w:AT}{H:Hp}{h:Bi}{a:Ae}
theorem aGx{u:HO}(ok:HOk P w H h)(e:Rd H a u):cS P w H h a u:=e.ok ok
theorem qJ{iz:List (Key×V)}(ok:HOk P w H h)(e:Rd H a (.dK iz)):iz.length≤sizeLine∧(a == sysModules)=false∧∃ vs,KV iz vs∧h.DictOf (cF P w) a vs:=
 show cS P w H h a (.dK iz) from aGx ok e
theorem aBz{iz:List (Key×V)}(ok:HOk P w H h)(e:H a=some (.dK iz)):iz.length≤sizeLine∧(a == sysModules)=false∧∃ vs,KV iz vs∧h.DictOf (cF P w) a vs:=qJ ok (.inl e)
theorem p4{ks:List Key}(ok:HOk P w H h)(e:H a=some (.tup (ks.map kV))):(tupleKind (cF P w)).is h ks a:=by
 obtain⟨_,its,r,o,h1,⟨h2,n,h3⟩,_⟩:=(show cS P w H h a (.tup (ks.map kV)) from ok a _ e)
 exact⟨o,its.toArray,n,h1,h2,h3,by simpa using vB r⟩
theorem rW{iz:List (List Key×V)}(ok:HOk P w H h)(e:Rd H a (.dT iz)):iz.length≤sizeLine∧(a == sysModules)=false∧
  ∃ xs,KT H iz xs∧h.DictOfH (tupleKind (cF P w)) a xs:=by
 obtain⟨z,y,xs,r,o,es,ep,h1,h2,h3,h4,h5⟩:=(show cS P w H h a (.dT iz) from aGx ok e)
 refine⟨z,y,xs,r,o,es,ep,h1,h2,h3,h4,fun x F=>?_,h5⟩;have all:∀{l:List (List Key×V)} {m:List (List Key×Ae×Ad)},KT H l m→∀ x∈m,(tupleKind (cF P w)).is h x.1 x.2.1:=by
  intro l m q
  induction q with
  | nil=>intro x F;exact nomatch F
  | @cons p q ps O J t M=>
   intro x F;rcases Ak.mp F with e | F
   ·subst e;exact p4 ok (by rw[← J.1];exact J.2.1)
   ·exact M x F
 exact all r x F
theorem aIf{iz:List (List Key×V)}(ok:HOk P w H h)(e:H a=some (.dT iz)):iz.length≤sizeLine∧(a == sysModules)=false∧
  ∃ xs,KT H iz xs∧h.DictOfH (tupleKind (cF P w)) a xs:=rW ok (.inl e)
end
def gI(H:Hp)(a:Ae)(y:V)(r:Option V):Prop:=
 (∃ iz k,Rd H a (.dK iz)∧y=kV k∧r=bS iz k)∨∃ iz k b,Rd H a (.dT iz)∧y=.ref b∧H b=some (.tup (k.map kV))∧r=bS iz k
def gE(H:Hp)(a:Ae)(y v:V)(H':Hp):Prop:=
 (∃ iz k,H a=some (.dK iz)∧y=kV k∧iz.length < sizeLine∧H'=upd H a (.dK (bT iz k v)))∨
 ∃ iz k b,H a=some (.dT iz)∧y=.ref b∧H b=some (.tup (k.map kV))∧iz.length < sizeLine∧H'=upd H a (.dT (bT iz k v))
theorem gI.k{H:Hp}{a:Ae}{iz:List (Key×V)}{k:Key}(e:H a=some (.dK iz)):gI H a (kV k) (bS iz k):=.inl ⟨iz,k,.inl e,rfl,rfl⟩
theorem gI.t{H:Hp}{a b:Ae}{iz:List (List Key×V)}{k:List Key}(e:H a=some (.dT iz))(q:H b=some (.tup (k.map kV))):gI H a (.ref b) (bS iz k):=.inr ⟨iz,k,b,.inl e,rfl,q,rfl⟩
theorem gE.k{H:Hp}{a:Ae}{iz:List (Key×V)}{k:Key}{v:V}(e:H a=some (.dK iz))(hl:iz.length < sizeLine):gE H a (kV k) v (upd H a (.dK (bT iz k v))):=.inl ⟨iz,k,e,rfl,hl,rfl⟩
theorem gE.t{H:Hp}{a b:Ae}{iz:List (List Key×V)}{k:List Key}{v:V}(e:H a=some (.dT iz))(q:H b=some (.tup (k.map kV)))(hl:iz.length < sizeLine):
  gE H a (.ref b) v (upd H a (.dT (bT iz k v))):=.inr ⟨iz,k,b,e,rfl,q,hl,rfl⟩
section
variable{X:Cx}{gz:List (Ae×Obj)}{σ:St}{H:Hp}{s:Ag}{a:Ae}{y v:V}{u r:Ad}{o:Option V}{A:AU}{E:Ad→Ag→Prop}
theorem Inv.big(I:Inv X gz σ H s):sysModules < s.heap.objs.size:=by
 have h:mainGlobals < s.heap.objs.size:=(I.mod.glob.keeps I.bk).lt;exact FK (by decide) h
theorem aCA{Q:Ad→Ag→Prop}(hu:A.units + 1 < cLine)(I:Inv X gz σ H s)(g:gI H a y (some v))(F:cG y u)(h:∀ q s',Inv X gz σ H s'→cG v q→Q q s'):
  wpAny (model X.prog X.w) A (getItem (.ref a) u) Q E s:=by
 rcases g with⟨iz,k,e,ey,l⟩ | ⟨iz,k,b,e,ey,eb,l⟩
 ·subst ey;obtain⟨z,hd,vs,rel,dd⟩:=qJ I.hok e;obtain⟨q,hw,rw'⟩:=lR.some_of (v:=v) (o:=valueAt vs k) (by rw[l];exact rel.val k);exact wpAny_getItem_of (nN F) dd.mapOf hw (h q _ (I.tok _) rw')
 ·subst ey;cases(show u=AA b from F);obtain⟨z,hd,xs,rel,dd⟩:=rW I.hok e;obtain⟨q,hw,rw'⟩:=lR.some_of (v:=v) (o:=(atKey xs k).map (·.2)) (by rw[l];exact rel.val k)
  obtain⟨p,hp,hp2⟩:=AG.mp hw;refine wpAny_getItem_heap (DJ hu) (p4 I.hok eb) dd hp ?_;rw[hp2];exact h q _ (I.tok _) rw'
theorem aJh{Q:Ad→Ag→Prop}(hu:A.units + 1 < cLine)(I:Inv X gz σ H s)(g:gI H a y o)(F:cG y u)(h:∀ s',Inv X gz σ H s'→Q (.bool o.isSome) s'):
  wpAny (model X.prog X.w) A (compareOp .In u (.ref a)) Q E s:=by
 rcases g with⟨iz,k,e,ey,l⟩ | ⟨iz,k,b,e,ey,eb,l⟩
 ·subst ey;obtain⟨z,hd,vs,rel,dd⟩:=qJ I.hok e;refine wpAny_in_of (nN F) hd dd.mapOf ?_;rw[← (rel.val k).isSome_eq,← l];exact h _ (I.tok _)
 ·subst ey;cases(show u=AA b from F);obtain⟨z,hd,xs,rel,dd⟩:=rW I.hok e;refine wpAny_in_heap (DJ hu) (p4 I.hok eb) hd dd ?_;have q:=(rel.val k).isSome_eq;rw[Ft]at q;rw[← q,← l];exact h _ (I.tok _)
theorem aFz{Q:Ad→Ag→Prop}(hu:A.units + 1 < cLine)(I:Inv X gz σ H s)(g:gI H a y o)(F:cG y u)(h:∀ s',Inv X gz σ H s'→Q (.bool (!o.isSome)) s'):
  wpAny (model X.prog X.w) A (compareOp .NotIn u (.ref a)) Q E s:=by
 rcases g with⟨iz,k,e,ey,l⟩ | ⟨iz,k,b,e,ey,eb,l⟩
 ·subst ey;obtain⟨z,hd,vs,rel,dd⟩:=qJ I.hok e;refine wpAny_notIn_of (nN F) hd dd.mapOf ?_;rw[← (rel.val k).isSome_eq,← l];exact h _ (I.tok _)
 ·subst ey;cases(show u=AA b from F);obtain⟨z,hd,xs,rel,dd⟩:=rW I.hok e;refine wpAny_notIn_heap (DJ hu) (p4 I.hok eb) hd dd ?_;have q:=(rel.val k).isSome_eq;rw[Ft]at q;rw[← q,← l];exact h _ (I.tok _)
theorem rD{h':Bi}{t':Nat}{ob:HO}(I:Inv X gz σ H s)(F:Mut (H a))(hs:Eb a s.heap h')(M:∃ q,h'.get? a=some q)(new:cS X.prog X.w (upd H a ob) h' a ob):
  Inv X gz σ (upd H a ob) { s with heap:=h',toks:=t' }:=
 I.write (x:=a) (e:=a) F (.inl rfl) (fun b q J z=>(hs.2 b J).trans z) M new
theorem wP{P:AC}{w:AT}{H':Hp}{h':Bi}{iz:List (Key×V)}{vs:List (Key×Ad)}(z:iz.length≤sizeLine)(hd:(a == sysModules)=false)(rel:KV iz vs)(q:h'.DictOf (cF P w) a vs):
  cS P w H' h' a (.dK iz):=⟨z,hd,vs,rel,q⟩
theorem aCB{H':Hp}{Q:Unit→Ag→Prop}(hu:A.units + 1 < cLine)(I:Inv X gz σ H s)(g:gE H a y v H')(Y:cG y u)(O:cG v r)(h:∀ s',Inv X gz σ H' s'→Q () s'):
  wpAny (model X.prog X.w) A (setItem (.ref a) u r) Q E s:=by
 rcases g with⟨iz,k,e,ey,l,eH⟩ | ⟨iz,k,b,e,ey,eb,l,eH⟩
 ·subst ey eH;obtain⟨z,hd,vs,rel,dd⟩:=aBz I.hok e;have J:vs.length≤sizeLine:=by rw[← rel.length];exact z
  have hl:(bT iz k v).length≤sizeLine:=by have:=cB iz k v;omega
  refine wpAny_setItem_pairs (hsz:=J) (nN Y) dd fun h' F hs=>h _ ?_;have Z:∃ q,h'.get? a=some q:=let ⟨q,_,_,hq,_⟩:=F;⟨q,hq⟩
  exact rD I (by rw[e];exact Dg) hs Z (wP hl hd (rel.put k O) F)
 ·subst ey eH;cases(show u=AA b from Y);obtain⟨z,hd,xs,rel,dd⟩:=aIf I.hok e;have J:xs.length≤sizeLine:=by rw[← Bx rel];exact z
  have hl:(bT iz k v).length≤sizeLine:=by have:=cB iz k v;omega
  refine wpAny_setItem_heap (hsz:=J) (DJ hu) (p4 I.hok eb) dd fun h' F hs=>h _ ?_;obtain⟨q,es,ep,hq,h2,h3,h4,_,h5⟩:=F;refine rD I (by rw[e];exact Dg) hs ⟨q,hq⟩ ⟨hl,hd,_,(rel.put k eb O).keeps fun c ys M=>?_,q,es,ep,hq,h2,h3,h4,h5⟩;rw[aG (bU M e (fun z=>nomatch z))];exact M
end
section
variable{X:Cx}{gz:List (Ae×Obj)}{σ:St}{H:Hp}{s:Ag}{a:Ae}{iz:List (Key×V)}{k:Key}{u:Ad}{A:AU}{E:Ad→Ag→Prop}
theorem aIg{v:V}{more:List Ad}{Q:Ad→Ag→Prop}(I:Inv X gz σ H s)(e:H a=some (.dK iz))(O:cG (kV k) u)(l:bS iz k=some v)(hm:more=[]∨∃ x,more=[x])
  (h:∀ M s',Inv X gz σ (upd H a (.dK (cA iz k))) s'→cG v M→Q M s'):wpAny (model X.prog X.w) A (call (.builtin "dict.pop") (.ref a :: u :: more)) Q E s:=by
 obtain⟨z,hd,vs,rel,dd⟩:=aBz I.hok e;obtain⟨M,hw,rw'⟩:=lR.some_of (v:=v) (o:=valueAt vs k) (by rw[← l];exact rel.val k);have Y:(keyPart u).isSome=true:=by
  cases k with
  | inl i=>obtain⟨t,q⟩:=(show∃ t,u=Bt i t from O);subst q;rfl
  | inr x=>obtain⟨t,q⟩:=(show∃ t,u=Br x t from O);subst q;rfl
 have ha:argsOk "dict.pop" ⟨.ref a :: u :: more,[]⟩:=by
  rcases hm with q | ⟨x,q⟩
  ·subst q;exact PySem.F.args_dict_pop_2 _ _
  ·subst q;exact PySem.F.args_dict_pop_3 _ _ _
 refine F1 PySem.F.slot_dict_pop dd.typeIs PySem.F.entry_dict_pop ha (meets_dict_pop_there (cF X.prog X.w) a (nN O) more hm Y)
  ⟨vs,M,dd,by rw[← rel.length];exact z,hw,fun h' J hs=>h M _ ?_ rw'⟩
 have Z:∃ q,h'.get? a=some q:=let ⟨q,_,_,hq,_⟩:=J;⟨q,hq⟩
 exact rD I (by rw[e];exact Dg) hs Z (wP (AI (oV iz k) z) hd (rel.drop k) J)
theorem aIh{Q:Ad→Ag→Prop}(I:Inv X gz σ H s)(e:Rd H a (.dK iz))(h:∀ t s',Inv X gz σ H s'→Q (.int iz.length t) s'):wpAny (model X.prog X.w) A (call (.builtin "len") [.ref a]) Q E s:=by
 obtain⟨z,hd,vs,rel,dd⟩:=qJ I.hok e;refine call_len_dict hd dd (by rw[← rel.length];rw[EU]at z;omega) ?_;rw[← rel.length];exact h _ _ (I.tok _)
end
def aHc(i:Be):Prop:=∀ ov iv,subscripted i false ov iv=operate [ov,iv] (getItem ov iv)
theorem aBA{prog:AC}{w:AT}{A:AU}{E:Ad→Ag→Prop}{s:Ag}{env:Env}{value q:Be}{pos:Pos}{T id:String}{Q:Ad→Ag→Prop}
  (hl:typeLookup (.type T) "__getitem__"=pure (some (.builtin id))) (hs:aHc q)
  (h:wpAny (model prog w) A (eval value env) (fun o M=>wpAny (model prog w) A (eval q env) (fun i z=>z.TypeIs o T∧wpAny (model prog w) A (getItem o i) Q E z) E M) E s):
  wpAny (model prog w) A (eval (.Subscript value q pos) env) Q E s:=by
 refine Subscript_ (Ck h (fun o M O=>Ck O (fun i z F=>?_) fun _ _ x=>x) fun _ _ x=>x);obtain⟨hT,F⟩:=F;unfold subscriptTail;refine Ab ?_;rw[getitemInPython_of_ne hT.not_modules];refine Ab (wpAny_specialOf hT hl ?_);have fin:wpAny (model prog w) A (subscripted q false o i) (fun r J=>wpAny (model prog w) A (letTemporaryGo value o r >>= fun _=>pure r) Q E J) E z:=by
  rw[hs o i];exact wpAny_operating (Ck F (fun r J Y=>Ab (wpAny_letTemporaryGo (Af Y))) fun _ _ x=>x)
 first
  | exact Af (Ab fin)
  | exact Ab (Af (Ab fin))
  | exact Ab fin
theorem yE{X:Cx}{gz:List (Ae×Obj)}{σ:St}{H:Hp}{s:Ag}{a:Ae}{y:V}{o:Option V}(I:Inv X gz σ H s)(g:gI H a y o):s.TypeIs (.ref a) "dict":=by
 rcases g with⟨iz,k,e,_,_⟩ | ⟨iz,k,b,e,_,_,_⟩
 ·obtain⟨_,_,vs,_,dd⟩:=qJ I.hok e;exact dd.typeIs
 ·obtain⟨_,_,xs,_,dd⟩:=rW I.hok e;exact dd.typeIs
def aIi(td ty:TE):TE:=fun σ H Q=>td σ H fun x H1=>ty σ H1 fun y H2=>∃ a v,x=.ref a∧gI H2 a y (some v)∧Q v H2
def aJi(ty td:TE):TE:=fun σ H Q=>ty σ H fun y H1=>td σ H1 fun x H2=>∃ a o,x=.ref a∧gI H2 a y o∧Q (.bl o.isSome) H2
def aFA(ty td:TE):TE:=fun σ H Q=>ty σ H fun y H1=>td σ H1 fun x H2=>∃ a o,x=.ref a∧gI H2 a y o∧Q (.bl (!o.isSome)) H2
def aIj(td ty tv:TE):TS:=fun D σ H=>tv σ H fun v H1=>td σ H1 fun x H2=>ty σ H2 fun y H3=>∃ a H4,x=.ref a∧gE H3 a y v H4∧D.nx σ H4
section
variable{X:Cx}{o i e value:Be}{pos jl tpos:Pos}{td ty tv:TE}
theorem bJ(hu:X.A.units + 1 < cLine)(ho:PE X o td)(hi:PE X i ty)(hs:aHc i):PE X (.Subscript o i pos) (aIi td ty):=by
 constructor;intro gz s σ H Q I h;refine aBA PySem.F.slot_dict_getitem.lookup hs (thn (ho gz s σ H _ I h) fun u s1 ⟨x,H1,J,Z,Y⟩=>thn (hi gz s1 σ H1 _ J Y) fun iv s2 ⟨y,H2,z,ry,a,v,ex,g,O⟩=>?_);subst ex;obtain rfl:u=AA a:=Z;exact⟨yE z g,aCA hu z g ry fun w' s3 M q=>⟨v,H2,M,q,O⟩⟩
theorem lY(hu:X.A.units + 1 < cLine)(hi:PE X i ty)(ho:PE X o td):PC X .In i o (aJi ty td):=by
 constructor;intro gz s σ H Q I h;refine thn (hi gz s σ H _ I h) fun iv s1 ⟨y,H1,z,Z,O⟩=>thn (ho gz s1 σ H1 _ z O) fun u s2 ⟨x,H2,J,Y,a,q,ex,g,M⟩=>?_;subst ex;obtain rfl:u=AA a:=Y;exact aJh hu J g Z fun s3 F=>⟨.bl q.isSome,H2,F,rfl,M⟩
theorem iS(hu:X.A.units + 1 < cLine)(hi:PE X i ty)(ho:PE X o td):PC X .NotIn i o (aFA ty td):=by
 constructor;intro gz s σ H Q I h;refine thn (hi gz s σ H _ I h) fun iv s1 ⟨y,H1,z,Z,O⟩=>thn (ho gz s1 σ H1 _ z O) fun u s2 ⟨x,H2,J,Y,a,q,ex,g,M⟩=>?_;subst ex;obtain rfl:u=AA a:=Y;exact aFz hu J g Z fun s3 F=>⟨.bl (!q.isSome),H2,F,rfl,M⟩
theorem c4(hu:X.A.units + 1 < cLine)(ho:PE X o td)(hi:PE X i ty)(hv:PE X value tv)(hs:swapsWith value (some (.Subscript o i jl)) pos.line X.env=pure false):
  PS X (.Assign [.Subscript o i jl] value pos) (aIj td ty tv):=by
 constructor;intro gz s σ H D I h;refine wpAny_Assign_Subscript (thn (hv gz s σ H _ I h) fun r s1 ⟨v,H1,z,Y,O⟩=>thn (ho gz s1 σ H1 _ z O) fun u s2 ⟨x,H2,J,rx,M⟩=>thn (hi gz s2 σ H2 _ J M) fun iv s3 ⟨y,H3,F,ry,a,q,ex,g,q3⟩=>?_) hs;subst ex;obtain rfl:u=AA a:=rx;exact aCB hu F g ry Y fun s4 Z=>⟨σ,q,Z,q3⟩
end
theorem yF{P:AC}{w:AT}{H:Hp}(h:Bi)(q:sysModules < h.objs.size):cS P w H (h.push { cls:=.type "dict",data:=.dict #[] }) h.objs.size (.dK []):=
 ⟨A0 _,beq_eq_false_iff_ne.mpr (BX (AB q)),[],.nil,Heap.DictOf.new h⟩
theorem aDH{P:AC}{w:AT}{H:Hp}(h:Bi)(q:sysModules < h.objs.size):cS P w H (h.push { cls:=.type "dict",data:=.dict #[] }) h.objs.size (.dT []):=
 ⟨A0 _,beq_eq_false_iff_ne.mpr (BX (AB q)),[],.nil,_,#[],0,Ax _ rfl,⟨rfl,rfl,rfl⟩,rfl,rfl,DF⟩
def aHd:TE:=fun _ H Q=>∀ p,H p=none→Q (.ref p) (upd H p (.dK []))
def aHe:TE:=fun _ H Q=>∀ p,H p=none→Q (.ref p) (upd H p (.dT []))
section
variable{X:Cx}{pos:Pos}
theorem j4:PE X (.Dict [] [] pos) aHd:=⟨fun gz s σ H Q I h=>
 wpAny_Dict_empty ⟨.ref s.heap.objs.size,_,I.laid (a:=s.heap.objs.size) (o:=.dK []) (t':=s.toks) (fun _ _ q=>Aj _ q) (Am _) (yF s.heap I.big),rfl,h _ (I.hok.fresh (Am _))⟩⟩
theorem aDI:PE X (.Dict [] [] pos) aHe:=⟨fun gz s σ H Q I h=>
 wpAny_Dict_empty ⟨.ref s.heap.objs.size,_,I.laid (a:=s.heap.objs.size) (o:=.dT []) (t':=s.toks) (fun _ _ q=>Aj _ q) (Am _) (aDH s.heap I.big),rfl,h _ (I.hok.fresh (Am _))⟩⟩
end
def aAL:List (TE×TE)→St→Hp→(List (V×V)→Hp→Prop)→Prop
 | [],_,H,Q=>Q [] H
 | (tk,tv) :: r,σ,H,Q=>tk σ H fun x H1=>tv σ H1 fun y H2=>aAL r σ H2 fun ps H3=>Q ((x,y) :: ps) H3
abbrev VV:List (V×V)→List (Ad×Ad)→Prop:=By fun p q=>cG p.1 q.1∧cG p.2 q.2
def PPs(X:Cx)(pos:Pos)(keys:List (Option Be))(values:List Be)(trs:List (TE×TE)):Prop:=
 ∀(gz:List (Ae×Obj)) (s:Ag) (σ:St) (H:Hp) (Q:List (V×V)→Hp→Prop),Inv X gz σ H s→aAL trs σ H Q→
  wpAny (model X.prog X.w) X.A (evalPairs (pairTrees keys values X.env pos)) (fun vs s'=>∃ ps H',Inv X gz σ H' s'∧VV ps vs∧Q ps H') X.xe s
theorem wQ{X:Cx}{pos:Pos}:PPs X pos [] [] []:=fun gz s σ H Q I h=>pairTrees_nil_walk ⟨[],H,I,.nil,h⟩
theorem eG{X:Cx}{pos:Pos}{k v:Be}{ks:List (Option Be)}{vs:List Be}{tk tv:TE}{q:List (TE×TE)}(J:PE X k tk)(hv:PE X v tv)(Y:PPs X pos ks vs q):
  PPs X pos (some k :: ks) (v :: vs) ((tk,tv) :: q):=fun gz s σ H Q I h=>
 pairTrees_cons_walk (thn (J gz s σ H _ I h) fun u s1 ⟨x,H1,z,rx,Z⟩=>thn (hv gz s1 σ H1 _ z Z) fun w2 s2 ⟨y,H2,M,ry,O⟩=>
  thn (Y gz s2 σ H2 _ M O) fun ws s3 ⟨ps,H3,F,rel,q3⟩=>⟨(x,y) :: ps,H3,F,.cons ⟨rx,ry⟩ rel,q3⟩)
def cZ(iz more:List (Key×V)):List (Key×V):=more.foldl (fun acc kv=>bT acc kv.1 kv.2) iz
theorem KV.merge:∀{more:List (Key×V)}{rs:List (Key×Ad)}{iz:List (Key×V)}{vs:List (Key×Ad)},KV more rs→KV iz vs→KV (cZ iz more) (merged vs rs):=by
 intro more rs iz vs r;unfold KV at r
 induction r generalizing iz vs with
 | nil=>intro q;exact q
 | @cons p q ps J h t z=>
  intro F;have e:KV (bT iz p.1 p.2) (stored vs q.1 q.2):=by
   have:=F.put p.1 h.2;rw[← h.1];exact this
  exact z e
theorem nO:∀(more iz:List (Key×V)),(cZ iz more).length≤iz.length + more.length
 | [],iz=>by show iz.length≤iz.length + 0;omega
 | p :: r,iz=>by
  have h1:=nO r (bT iz p.1 p.2);have h2:=cB iz p.1 p.2;show(cZ (bT iz p.1 p.2) r).length≤_;rw[AK];omega
theorem rX{P:AC}{w:AT}:∀{iz:List (Key×V)}{ws:List (Ad×Ad)},VV (iz.map fun z=>(kV z.1,z.2)) ws→∃ rs,Carries (cF P w) ws rs∧KV iz rs
 | [],_,r=>by rw[CL]at r;cases r;exact⟨[],Dg,.nil⟩
 | p :: iz,_,r=>by
  rw[Av]at r;cases r with
  | @cons a b as bs h t=>
   obtain⟨rs,c,q⟩:=rX (P:=P) (w:=w) t;obtain⟨b1,b2⟩:=b;exact⟨(p.1,b2) :: rs,⟨nN h.1,rfl,c⟩,.cons ⟨rfl,h.2⟩ q⟩
def aIk(trs:List (TE×TE)):TE:=fun σ H Q=>∀ p,H p=none→aAL trs σ (upd H p (.dK [])) fun ps H2=>H2 p=some (.dK [])∧∃ iz:List (Key×V),ps=iz.map (fun kv=>(kV kv.1,kv.2))∧iz.length≤15∧Q (.ref p) (upd H2 p (.dK (cZ [] iz)))
theorem wR{X:Cx}{pos:Pos}{keys:List (Option Be)}{F:List Be}{M:List (TE×TE)}(h:PPs X pos keys F M)(J:keys.all (·.isSome)=true)(hl:keys.length=F.length)(h0:keys≠[])
  (Y:keys.length≤15):PE X (.Dict keys F pos) (aIk M):=by
 constructor;intro gz s σ H Q I q;have hn:=I.hok.fresh (Am s.heap.objs.size);have I1:=I.laid (a:=s.heap.objs.size) (o:=.dK []) (h':=s.heap.push { cls:=.type "dict",data:=.dict #[] }) (t':=s.toks) (fun _ _ q=>Aj _ q) (Am _) (yF s.heap I.big);refine wpAny_Dict_walk (knd:=cF X.prog X.w) J hl h0 Y (thn (h gz _ σ _ _ I1 (q _ hn)) fun ws s2 ⟨ps,H2,Z,rel,e,iz,ep,lk,q2⟩=>?_);subst ep;obtain⟨rs,c,rk⟩:=rX (P:=X.prog) (w:=X.w) rel;obtain⟨z,hd,vs0,r0,dd⟩:=aBz Z.hok e;cases r0;refine⟨rs,c,dd,fun h' O hs=>⟨.ref s.heap.objs.size,_,?_,rfl,q2⟩⟩;have hz:(cZ [] iz).length≤sizeLine:=by
  have h1:=nO iz [];rw[List.length_nil]at h1;rw[EU];omega
 have he:∃ q,h'.get? s.heap.objs.size=some q:=let ⟨q,_,_,hq,_⟩:=O;⟨q,hq⟩
 exact rD Z (by rw[e];exact Dg) hs he (wP hz hd (rk.merge .nil) O)
structure M1(X:Cx)(o:Be)(m:Str)(jc:Pos)(e:Be)(jb:Pos):Prop where
 base:attributeBase o m X.env (eval o X.env)=eval o X.env
 few:((backTo jb (starEach [e] X.env)).all (fun x=>!x.1) && (backToKw jb (keywordEach [] X.env)).all (fun x=>x.1.isSome)
  && decide (([e]:List Be).length + ([]:List Fj).length + (if ([]:List Fj).isEmpty then 0 else 1) < 30))=true
 line:(jc.endLine == jb.line)=true
 trees:backTo jb (starEach [e] X.env)=[(false,eval e X.env)]
structure M2(X:Cx)(o:Be)(m:Str)(jc:Pos)(e f:Be)(jb:Pos):Prop where
 base:attributeBase o m X.env (eval o X.env)=eval o X.env
 few:((backTo jb (starEach [e,f] X.env)).all (fun x=>!x.1) && (backToKw jb (keywordEach [] X.env)).all (fun x=>x.1.isSome)
  && decide (([e,f]:List Be).length + ([]:List Fj).length + (if ([]:List Fj).isEmpty then 0 else 1) < 30))=true
 line:(jc.endLine == jb.line)=true
 trees:backTo jb (starEach [e,f] X.env)=[(false,eval e X.env),(false,eval f X.env)]
def IsD(H:Hp)(a:Ae):Prop:=(∃ iz,Rd H a (.dK iz))∨∃ iz,Rd H a (.dT iz)
theorem aAM{X:Cx}{gz:List (Ae×Obj)}{σ:St}{H:Hp}{s:Ag}{a:Ae}(I:Inv X gz σ H s)(d:IsD H a):
  s.TypeIs (.ref a) "dict"∧(∀ b,AA a=.ref b→∃ ob,s.heap.get? b=some ob∧ob.dict=none)∧(a == sysModules)=false:=by
 rcases d with⟨iz,e⟩ | ⟨iz,e⟩
 ·obtain⟨_,hd,vs,_,dd⟩:=qJ I.hok e;refine⟨dd.typeIs,fun b q=>?_,hd⟩;cases q;obtain⟨ob,_,_,h1,h2,_⟩:=dd;exact⟨ob,h1,h2.2.1⟩
 ·obtain⟨_,hd,xs,_,dd⟩:=rW I.hok e;refine⟨dd.typeIs,fun b q=>?_,hd⟩;cases q;obtain⟨ob,_,_,h1,h2,_⟩:=dd;exact⟨ob,h1,h2.2.1⟩
section
variable{X:Cx}{gz:List (Ae×Obj)}{σ:St}{H:Hp}{s:Ag}{a:Ae}{y d:V}{u r:Ad}{o:Option V}{A:AU}{E:Ad→Ag→Prop}
theorem aHf{Q:Ad→Ag→Prop}(hu:A.units + 1 < cLine)(I:Inv X gz σ H s)(g:gI H a y o)(J:cG y u)(rd:cG d r)(h:∀ q s',Inv X gz σ H s'→cG (o.getD d) q→Q q s'):
  wpAny (model X.prog X.w) A (call (.builtin "dict.get") [.ref a,u,r]) Q E s:=by
 rcases g with⟨iz,k,e,ey,l⟩ | ⟨iz,k,b,e,ey,eb,l⟩
 ·subst ey;obtain⟨z,hd,vs,rel,dd⟩:=qJ I.hok e;refine F1 EM dd.typeIs PySem.F.entry_dict_get (PySem.F.args_dict_get_3 _ _ _) (meets_dict_get_default (cF X.prog X.w) a (nN J) hd r) ⟨_,dd.mapOf,h _ _ (I.tok _) ?_⟩;rw[l];exact(rel.val k).getD rd
 ·subst ey;cases(show u=AA b from J);obtain⟨z,hd,xs,rel,dd⟩:=rW I.hok e;refine F1 EM dd.typeIs PySem.F.entry_dict_get (PySem.F.args_dict_get_3 _ _ _) (meetsH_dict_get_default (tupleKind (cF X.prog X.w)) a b hd r) ⟨DJ hu,k,xs,p4 I.hok eb,dd,h _ _ (I.tok _) ?_⟩;rw[l];exact(rel.val k).getD rd
end
def aHg(td ty tx:TE):TE:=fun σ H Q=>td σ H fun x H1=>∃ a,x=.ref a∧IsD H1 a∧ty σ H1 fun y H2=>tx σ H2 fun z H3=>∃ o,gI H3 a y o∧Q (o.getD z) H3
def aHh(td ty:TE):TE:=fun σ H Q=>td σ H fun x H1=>∃ a,x=.ref a∧IsD H1 a∧ty σ H1 fun y H2=>∃ iz k v,H2 a=some (.dK iz)∧y=kV k∧bS iz k=some v∧Q v (upd H2 a (.dK (cA iz k)))
section
variable{X:Cx}{o e f:Be}{jc jb:Pos}{td ty tx:TE}
theorem aDJ(hu:X.A.units + 1 < cLine)(ho:PE X o td)(he:PE X e ty)(hf:PE X f tx)(m:M2 X o "get" jc e f jb):PE X (.Call (.Attribute o "get" jc) [e,f] [] jb) (aHg td ty tx):=by
 constructor;intro gz s σ H Q I h;refine wpAny_Call_method m.base m.few m.line Ev EM PySem.F.type_dict_get (thn (ho gz s σ H _ I h) fun u s1 ⟨x,H1,J,rx,a,ex,d,Z⟩=>?_);subst ex;obtain rfl:u=AA a:=rx;obtain⟨t1,t2,_⟩:=aAM J d;refine⟨t1,t2,?_⟩;rw[m.trees];refine CY rfl (E9 (Eg (thn (he gz s1 σ H1 _ J Z) fun iv s2 ⟨y,H2,O,ry,Y⟩=>
  Eg (thn (hf gz s2 σ H2 _ O Y) fun fv s3 ⟨z,H3,M,rz,ov,g,q3⟩=>FA ?_))))
 exact aHf hu M g ry rz fun w' s4 I4 q=>⟨_,H3,I4,q,q3⟩
theorem j5(ho:PE X o td)(he:PE X e ty)(m:M1 X o "pop" jc e jb):PE X (.Call (.Attribute o "pop" jc) [e] [] jb) (aHh td ty):=by
 constructor;intro gz s σ H Q I h;refine wpAny_Call_method m.base m.few m.line Ev PySem.F.slot_dict_pop PySem.F.type_dict_pop (thn (ho gz s σ H _ I h) fun u s1 ⟨x,H1,z,rx,a,ex,d,q1⟩=>?_);subst ex;obtain rfl:u=AA a:=rx;obtain⟨t1,t2,_⟩:=aAM z d;refine⟨t1,t2,?_⟩;rw[m.trees];refine CY rfl (E9 (Eg (thn (he gz s1 σ H1 _ z q1) fun iv s2 ⟨y,H2,Y,ry,iz,k,v,M,J,l,Z⟩=>FA ?_)));subst J;exact aIg Y M ry l (.inl rfl) fun w' s3 O q=>⟨v,_,O,q,Z⟩
end
section
variable{X:Cx}{gz:List (Ae×Obj)}{σ:St}{H:Hp}{s:Ag}{a:Ae}{iz:List (Key×V)}{A:AU}{E:Ad→Ag→Prop}
end
section
variable{X:Cx}{gz:List (Ae×Obj)}{σ:St}{H:Hp}{s:Ag}{a:Ae}{y:V}{u:Ad}{A:AU}{E:Ad→Ag→Prop}
end
end L2
namespace Att
open PySem PySem.W PySem.Calls PyProof.Rows
theorem qW{P:Params}{h:Bi}:∀(ns:List Int) (vs:List Ad),WellAll P h vs (ns.map WData.int)→F6 vs ns:=by
 intro ns
 induction ns with
 | nil=>
  intro vs w;rw[CL]at w;cases w;exact .nil
 | cons n ns q=>
  intro vs w;rw[Av]at w;cases w with
  | cons a b=>
   cases a;exact .cons _ _ (q _ b)
theorem aCC{l:OpenLaw}{n:Nat}(hn:l.most=some n){P:Params}{h:Bi}{args:List WData}{F:List Ad}
  (z:l.row.toRowW.claim.pre args=true) (aa:WellAll P h F args):
  ∃ a vs ns,F=[AA a]∧args=[WData.list (ns.map WData.int)]∧h.get? a=some { cls:=.type "list",data:=.seq vs.toArray }∧F6 vs ns∧ns.length≤n:=by
 have Z:WShape.hasAll [] args [.list .int]=true:=(pre_splitW z).1;have hc:l.pre.holds [] { args:=args }=true:=(pre_splitW z).2;obtain⟨d,r,rfl,h1,h2⟩:=hasAllW_cons Z;obtain rfl:=hasAllW_nil h2;obtain⟨xs,rfl,h3⟩:=hasW_list h1;obtain⟨ns,rfl⟩:=items_int h3;have M:ns.length≤n:=by
  unfold OpenLaw.pre at hc;have Y:(WTm.not (.lt (.lit (.int (n:Int))) (.len (.arg 0)))).holds [] { args:=[.list (ns.map .int)] }=true:=by
   have Y:=(holds_andW hc).1;rw[hn]at Y;exact Y
  have O:=condW_of Y (w_not (w_lt w_lit (w_len_list (w_arg rfl))));rw[Aa]at O;refine Nat.le_of_not_lt fun q=>?_;have q':(n:Int) < ((ns.length:Nat):Int):=by omega
  first
   | (rw[Ic q']at O;exact absurd O (by decide))
   | (simp at O;omega)
 cases aa with
 | cons w1 w2=>
  cases w2;cases w1 with
  | list ho J=>exact⟨_,_,ns,rfl,rfl,ho,qW ns _ J,M⟩
theorem aCD(l:OpenLaw)(args:List WData):l.row.toRowW.claim.post args (.bool true) args=true:=
 postW_of (r:=l.row.toRowW) (X:=(true == true))
  (show WShape.has [] (.bool true) .bool=true by first | rfl | decide | simp[WShape.has,WShape.arms,WShape.armsAll])
  (show(WTm.eq .res (.lit (.bool true))).value [] { args:=args,res:=some (.bool true),after:=args }=some (.bool (true == true)) from w_eq_bool (w_res rfl) w_lit) rfl
theorem attach_call{l:OpenLaw}{n:Nat}{q:AC}{F:List Str}{XP:(Str→Option Ad)→Bi→Prop}{YP:AT→Bi→Prop}{d:DefRec}
  (hn:l.most=some n) (ab:d.params.defaults=[])
  (call:∀(w:AT) (s₀ z:Ag) (mg mb:Str→Option Ad) (O:Ae) (o:Obj) (pm cd J:Ad) (a:Ae) (vs:List Ad) (ns:List Int),
   Ground q F [] XP w s₀ mg mb z.heap→YP w z.heap→
   z.heap.get? O=some o→o.data=.func (docDef d.name d.params d.body d.scope pm cd J)→z.heap.CodeRec cd d.name→mg d.name=some (.ref O)→
   z.heap.get? a=some { cls:=.type "list",data:=.seq vs.toArray }→F6 vs ns→ns.length≤n→z.gens=#[]→
   codeAny (model l.prog w) callerA (.call (.ref O) ⟨[.ref a],[]⟩) (fun r s'=>r=.ok (.ret (.bool true))∧OldK z.heap s'.heap∧s'.os=z.os∧EC s'.gens) z):
  WalkO q F XP YP l.row.toRowW d [] (fun f vs=>GQ f vs):=by
 intro w s₀ z mg mb G Y O o pm cd J dV kV ho hd ae hD Z hg ah ai as M ag an ad ao;obtain rfl:dV=.none:=Dflts.none hD ab;obtain rfl:kV=.none:=Dflts.noKw hD;obtain⟨a,vs,ns,rfl,rfl,hobj,hints,hlen⟩:=aCC hn M ad;refine enter_call (DU (call w s₀ z mg mb O o pm cd J a vs ns G Y ho (fd_plain hd) ae Z hobj hints hlen hg) fun r s' hq=>?_);obtain⟨rfl,h2,h3,h4⟩:=hq;exact⟨.inl ⟨.bool true,.bool true,[],rfl,fun _=>rfl,.bool true,aCD l _,fun _=>⟨List.Pairwise.nil,fun _ hm=>(nomatch hm)⟩⟩,h2,h3,h4⟩
section
variable{prog:AC}{w:AT}{A:AU}{E:Ad→Ag→Prop}{s:Ag}{K:Frag}
end
end Att
namespace L2
open PySem PySem.Spec PyProof.Rows
theorem vC:∀{vs:List Ad}{ns:List Int},F6 vs ns→bX (ns.map V.int) vs
 | _,_,.nil=>.nil
 | _,_,.cons n t h=>.cons ⟨t,rfl⟩ (vC h)
def aJE(H:Hp):Prop:=∀ b,H b=none∨∃ o xs,H b=some (.frz o (.lst xs))
abbrev KOf{K:Ah}{h:Bi}(_:K.In h):Ah:=K
def aFB(s:Cc)(j:Nat):Cc:=match s with
 | .ClassDef _ _ _ body _ _ _ _ _ _ _=>body.getD j (.Pass ⟨0,0,0,0⟩)
 | _=>.Pass ⟨0,0,0,0⟩
def dW(s:Cc):EE:=match s with
 | .FunctionDef _ a _ _ _ _ _ _ _ _=>a
 | _=>{ posonlyargs:=[],args:=[],vararg:=none,kwonlyargs:=[],kw_defaults:=[],kwarg:=none,defaults:=[] }
def dQ(s:Cc):List Cc:=match s with
 | .FunctionDef _ _ b _ _ _ _ _ _ _=>b
 | _=>[]
def aO(s:Cc):CW:=match s with
 | .FunctionDef _ _ _ _ _ _ sc _ _ _=>sc
 | _=>{ kind:=.function,names:=[],isGenerator:=false,isCoroutine:=false }
abbrev CX0:CXT:=fun _ _ _ _ _ _=>False
abbrev E0:XK:=fun _ _ _=>False
theorem dJ{X:Cx}:rR CX0 X E0:=fun _ _ _ _ _ _ _ h=>h.elim
structure Fun(K:Ah)(x qual:Str)(st:Cc)(f:Ae)(fd:A3):Prop where
 ex:∃(oc:Ad) (od:Option Ae) (kV doc pm:Ad) (an:Option Ae) (cdv ct:Ad) (osl:Array (Option Ad)),
  fd=BE x qual (dW st) (dQ st) (aO st) .none kV doc pm an cdv ct∧K.lookup f=some ⟨oc,od,.func fd,osl⟩∧BL K cdv qual=true
 kp:AO K (.ref f)=true
section
variable{P:AC}{w:AT}{K:Ah}{mg:Str→Option Ad}{base:Bi}
theorem Fun.ok{x qual:Str}{st:Cc}{f:Ae}{fd:A3}{N ps:List Str}{k:Nat}{sp:Sp}(F:Fun K x qual st f fd)(S:bY N ps (aO st))(len:∀ vs H Q E,sp vs H Q E→vs.length=ps.length)
  (J:∀(z:Ad) (A:AU) (outer:List Env) (s:Ag) (H:Hp) (vs:List V) (Q:VK) (E:XK),dG k (A.deeper (envOfC qual (aO st) s.heap.objs.size f z))→sp vs H Q E→
   ∃ t,PSs (aAD CX0 P w K mg base N qual (aO st) f z A outer s H E).nox (dQ st) t∧t { nx:=fun _ H'=>Q .non H',rt:=Q } (start N vs) H):cP P w K mg base CX0 (k + 1) f fd ps sp:=by
 obtain⟨oc,od,kV,doc,pm,an,z,ct,osl,rfl,lk,hcd⟩:=F.ex;refine aGv lk hcd S len fun A outer s H vs Q E O M=>?_;obtain⟨t,h,q⟩:=J z A outer s H vs Q E O M;exact⟨t,h.nox,q⟩
theorem Fun.binds{x qual:Str}{st:Cc}{f:Ae}{fd:A3}{ps:List Str}(F:Fun K x qual st f fd)
  (h:∀(kV z J:Ad) (O:Option Ae) (q ct:Ad) (M:List Ad),M.length=ps.length→bindArgs (BE x qual (dW st) (dQ st) (aO st) .none kV z J O q ct) ⟨M,[]⟩=pure (ps.zip M)):d9 K fd ps []:=by
 obtain⟨oc,od,kV,z,J,O,q,ct,osl,rfl,lk,hcd⟩:=F.ex;exact .all (h kV z J O q ct)
theorem iZ{x qual:Str}{st:Cc}{f:Ae}{O:Ad}{od M:Option Ae}{F:Array (Option Ad)}{kV z J q ct:Ad}(l:K.lookup f=some ⟨O,od,.func (BE x qual (dW st) (dQ st) (aO st) .none kV z J M q ct),F⟩)
  (c:BL K q qual=true) (k:AO K (.ref f)=true):Fun K x qual st f (BE x qual (dW st) (dQ st) (aO st) .none kV z J M q ct):=⟨⟨O,od,kV,z,J,M,q,ct,F,rfl,l,c⟩,k⟩
end
theorem d7{A:AU}{k:Nat}(q:dG k A):A.units + 1 < cLine:=BM (Nat.add_le_add_left (by decide:1≤64) _) q.units
theorem cV{n:Nat}(h:n≤1000):n < sizeLine:=BM h (by decide)
section
variable{X:Cx}
theorem pv(i:Nat){x:Str}{pos:Pos}(hN:X.N[i]?=some x:=by rfl)(hv:Vis X.env.scope x:=by first | exact Ar rfl | exact Dq (Ar rfl) | exact Dq (Dq rfl))(hd:(x == ("__debug__":Str))=false:=by decide)
  (q:(x == ("__classdict__":Str))=false:=by decide):PE X (.Name x pos) (aHV i):=aGW hN hv hd q
end
theorem dS{A B:Prop}(h:B):if false=true then A else B:=by
 rw[Ia Ay];exact h
theorem eZ{A B:Prop}(h:A):if true=true then A else B:=by
 rw[Ib rfl];exact h
theorem cR{c A B:Prop}[Decidable c](h1:c→A)(h2:¬ c→B):if c then A else B:=by
 by_cases h:c
 ·rw[Ib h];exact h1 h
 ·rw[Ia h];exact h2 h
def b9(H H':Hp):Prop:=∀ b o,H b=some o→H' b=some o
theorem b9.refl(H:Hp):b9 H H:=fun _ _ h=>h
theorem b9.trans{H H1 H2:Hp}(a:b9 H H1)(b:b9 H1 H2):b9 H H2:=fun c o h=>b c o (a c o h)
theorem b9.free{H H':Hp}(e:b9 H H'){l:Ae}(h:H' l=Option.none):H l=Option.none:=by
 cases q:H l with
 | none=>rfl
 | some o=>
  rw[e l o q]at h;cases h
theorem b9.seq{K:Ah}{H H':Hp}{a:Ae}{xs:List V}(e:b9 H H')(h:SqL K H a xs):SqL K H' a xs:=by
 rcases h with(h | ⟨o,h⟩) | h
 ·exact .inl (.inl (e _ _ h))
 ·exact .inl (.inr ⟨o,e _ _ h⟩)
 ·exact .inr h
section
variable{X:Cx}
inductive nP(xs:List V)(H:Hp)(Q:VK):Prop
 | mk (a:_) (iz:_) (q0:xs=[V.ref a]) (q1:H a=some (.dK iz)) (q2:Q (.int iz.length) H):nP xs H Q
def yG:List V→Hp→VK→Prop:=fun xs H Q=>nP xs H Q
theorem aCE:eU X (.builtin "len") yG:=by
 intro gz s σ H xs F Q I r h;obtain⟨a,iz,rfl,ha,q⟩:=h;obtain⟨u,rfl,ru⟩:=eY r;cases ru;exact aIh I (.inl ha) fun t s' z=>⟨.int iz.length,H,z,⟨t,rfl⟩,q⟩
end
section
variable{κ:Type}[DecidableEq κ]
theorem aDK{iz:List (κ×V)}{k:κ}(h:bS iz k=none):¬ k∈iz.map (·.1):=by
 intro m;obtain⟨p,hp,e⟩:=AR.mp m;have q:(iz.any fun z=>decide (z.1=k))=true:=Bu.mpr ⟨p,hp,Ic e⟩;rw[dX,h]at q;exact absurd q (by simp)
theorem aFC{iz:List (κ×V)}{k:κ}{v:V}(h:bS iz k=some v):k∈iz.map (·.1):=by
 have q:(iz.any fun z=>decide (z.1=k))=true:=by
  rw[dX,h]
  all_goals rfl
 obtain⟨p,hp,e⟩:=Bu.mp q;exact AR.mpr ⟨p,hp,Ie e⟩
theorem aBB:∀{l:List κ}{k:κ},l.Nodup→¬ k∈l→(l ++ [k]).Nodup
 | [],k,_,_=>by simp
 | a :: r,k,h,z=>by
  obtain⟨h1,h2⟩:=AZ.mp h;show(a :: (r ++ [k])).Nodup;refine AZ.mpr ⟨fun m=>?_,aBB h2 fun m=>z (Ak.mpr (Dq m))⟩;rcases AS.mp m with q | q
  ·exact h1 q
  ·exact z (Ak.mpr (Ar (AF.mp q).symm))
theorem aFD{iz:List (κ×V)}{k:κ}(v:V)(hn:(iz.map (·.1)).Nodup)(h:bS iz k=none):((bT iz k v).map (·.1)).Nodup:=by
 rw[iY v h,Az];exact aBB hn (aDK h)
theorem j6{p:κ×V}{r:List (κ×V)}{k:κ}(e:p.1=k):cA (p :: r) k=cA r k:=by
 unfold cA;rw[BP,Ia (by simp[e])]
theorem j7{p:κ×V}{r:List (κ×V)}{k:κ}(e:¬ p.1=k):cA (p :: r) k=p :: cA r k:=by
 unfold cA;rw[BP,Ib (by simp[e])]
theorem vD{iz:List (κ×V)}{k:κ}{p:κ×V}(h:p∈cA iz k):p∈iz:=(Bz.mp h).1
theorem hJ:∀{iz:List (κ×V)}{k:κ},(iz.map (·.1)).Nodup→((cA iz k).map (·.1)).Nodup
 | [],_,_=>DF
 | p :: r,k,h=>by
  have h:(p.1 :: r.map (·.1)).Nodup:=h
  obtain⟨h1,h2⟩:=AZ.mp h;by_cases e:p.1=k
  ·rw[j6 e];exact hJ h2
  ·rw[j7 e];show(p.1 :: (cA r k).map (·.1)).Nodup
   refine AZ.mpr ⟨fun m=>h1 ?_,hJ h2⟩;obtain⟨q,hq,eq⟩:=AR.mp m;exact AR.mpr ⟨q,vD hq,eq⟩
end
section
variable{X:Cx}{gz:List (Ae×Obj)}{σ:St}{H:Hp}{s:Ag}
theorem Inv.track{D:Ae}{ob:HO}(I:Inv X gz σ H s)(M:lO X gz H D)(new:cS X.prog X.w (upd H D ob) s.heap D ob):Inv X gz σ (upd H D ob) s:=by
 obtain⟨hn,hL,hfs,hex,hce,hpi⟩:=M;have F:∀ b u,H b=some u→b≠D:=fun b u e=>aJ e hn;refine I.step (g':=s.gens) (t':=s.toks) (d':=s.drawn) (h':=s.heap) (H':=upd H D ob) (ch:=[D]) (fun b J=>?_) (fun b o _ _ _ e _=>e) (fun b o _ _ _ e _=>⟨o.slots,e⟩) (fun b o hc e n=>?_)
  (fun b o _ e=>⟨o,e⟩) (fun b xs e=>by rw[aG (F b _ e)];exact e) (fun b o u e=>by rw[aG (F b _ e)];exact e) (fun b ps e=>⟨#[],by rw[aG (F b _ e),e];simp⟩) (fun m hm=>hm) (fun b u e=>?_) I.bare
 ·have e:b=D:=by simpa using J
  subst e;exact⟨hex,hL,hce,hpi⟩
 ·rw[aG (fun z=>hc (by simp[z]))];exact n
 ·by_cases J:b=D
  ·subst J;rw[aA]at e;cases e;exact new
  ·rw[aG J]at e;exact(I.hok b u e).stay (fun c v _ q=>q) (fun c q=>by rw[aG (F c _ q)];exact q) fun c xs q=>by rw[aG (F c _ q)];exact q
end
def iN(env:Env):List (Str×DV)→List (Str×Ae)→List (Str×Ae)
 | [],cs=>cs
 | (n,k) :: r,cs=>iN env r (if k=.free then(match env.cells.lookup n with | some c=>(n,c) :: cs | none=>cs) else cs)
theorem rY{α β:Type}(f:α→β→Sem (ForInStep β))(g:α→β→β):∀(l:List α) (b:β),(∀ y∈l,∀ b,f y b=pure (.yield (g y b)))→(forIn l b f:Sem β)=pure (l.foldl (fun b y=>g y b) b)
 | [],b,_=>rfl
 | a :: r,b,h=>by
  rw[B5,h a Al b];exact rY f g r (g a b) fun y q=>h y (Ap _ q)
def vE(env:Env)(y:Str×DV)(cs:List (Str×Ae)):List (Str×Ae):=if y.2=.free then(match env.cells.lookup y.1 with | some c=>(y.1,c) :: cs | none=>cs) else cs
theorem rZ(env:Env):∀(l:List (Str×DV)) (q:List (Str×Ae)),l.foldl (fun b y=>vE env y b) q=iN env l q
 | [],q=>rfl
 | (n,k) :: r,q=>by
  rw[BG,rZ env r];rfl
theorem oW{scope:CW}{env:Env}(h:∀ y∈scope.names,y.2=.free→∃ c,env.cells.lookup y.1=some c):closureFor scope env=pure (iN env scope.names []):=by
 simp only[closureFor];rw[rY _ (vE env) scope.names [] (fun y F b=>?_)]
 ·rw[rZ];rfl
 ·obtain⟨n,k⟩:=y;by_cases q:k=.free
  ·obtain⟨c,hc⟩:=h (n,k) F q;subst q;have e:cellOf env n=pure c:=by unfold cellOf;rw[hc]
   have z:vE env (n,Bj) b=(n,c) :: b:=by unfold vE;rw[Ib rfl,hc]
   simp only[e,z];rfl
  ·have e:(k == Bj)=false:=by simpa using q
   have z:vE env (n,k) b=b:=by unfold vE;rw[Ia q]
   simp only[e,z,B7,if_false]
theorem p5{env:Env}:∀(l:List (Str×DV)) (q:List (Str×Ae)),(∀ x c,q.lookup x=some c→env.cells.lookup x=some c)→∀ x c,(iN env l q).lookup x=some c→env.cells.lookup x=some c
 | [],q,h,x,c,e=>h x c e
 | (n,k) :: r,q,h,x,c,e=>by
  unfold iN at e;refine p5 r _ (fun x c e=>?_) x c e;by_cases z:k=.free
  ·rw[Ib z]at e;cases hc:env.cells.lookup n with
   | none=>rw[hc]at e;exact h x c e
   | some d=>
    rw[hc]at e;by_cases F:x=n
    ·subst F;simp at e;rw[← e];exact hc
    ·have:(x == n)=false:=by simpa using F
     rw[BA,this]at e;exact h x c e
  ·rw[Ia z]at e;exact h x c e
theorem p6{env:Env}:∀(l:List (Str×DV)) (q:List (Str×Ae)) (x:Str),(∀ y∈l,y.2=.free→∃ c,env.cells.lookup y.1=some c)→((∃ c,q.lookup x=some c)∨(x,Bj)∈l)→∃ c,(iN env l q).lookup x=some c
 | [],q,x,_,h=>by
  rcases h with h | h
  ·exact h
  ·simp at h
 | (n,k) :: r,q,x,hc,h=>by
  unfold iN;refine p6 r _ x (fun y J=>hc y (Ap _ J)) ?_;rcases h with⟨c,h⟩ | h
  ·refine .inl ?_;split
   ·split
    ·rename_i d _;by_cases F:x=n
     ·subst F;exact⟨d,by simp⟩
     ·have:(x == n)=false:=by simpa using F
      exact⟨c,by rw[BA,this];exact h⟩
    ·exact⟨c,h⟩
   ·exact⟨c,h⟩
  ·rcases Ak.mp h with h | h
   ·cases h;obtain⟨d,hd⟩:=hc (n,Bj) Al rfl;refine .inl ⟨d,?_⟩;rw[Ib rfl];have z:env.cells.lookup n=some d:=hd;rw[z];simp
   ·exact .inr h
theorem sB{env : Env} : ∀{names : List (Str × DV)}{x : Str}, (∀ y ∈ names, y.2 ≠ .cell) →
    ((names.map fun(n, k) => if (k == Bj && env.scope.kind == .function && env.kindOf n == some .cell) then(n, DN) else(n, k)).lookup x = some .cell ∨
     (names.map fun(n, k) => if (k == Bj && env.scope.kind == .function && env.kindOf n == some .cell) then(n, DN) else(n, k)).lookup x = some .free) → names.lookup x = some .free
  | [], x, _, h => by simp at h
  | (n, k) :: r, x, hc, h => by
    have J := @sB env r x fun y M => hc y (Ap _ M);have F := hc (n, k) Al;rw[Av]at h;by_cases z : x = n
    · subst z
      rw[BA, beq_self_eq_true];simp only;by_cases q : (k == Bj && env.scope.kind == .function && env.kindOf x == some .cell) = true
      · have : (k == Bj) = true := by
          rw[Bv, Bv]at q;exact q.1.1
        simpa using this
      · simp only[Ia q, BA, beq_self_eq_true]at h
        rcases h with h | h
        · exact absurd (Ch.inj h) F
        · exact h
    · have e : (x == n) = false := by simpa using z
      rw[BA, e];refine J ?_;by_cases q : (k == Bj && env.scope.kind == .function && env.kindOf n == some .cell) = true
      · simp only[Ib q, BA, e]at h
        exact h
      · simp only[Ia q, BA, e]at h
        exact h
theorem oX{env : Env} : ∀{names : List (Str × DV)}{x : Str}, names.lookup x = some .free →
    ((names.map fun(n, k) => if (k == Bj && env.scope.kind == .function && env.kindOf n == some .cell) then(n, DN) else(n, k)).lookup x = some .cell ∨
     (names.map fun(n, k) => if (k == Bj && env.scope.kind == .function && env.kindOf n == some .cell) then(n, DN) else(n, k)).lookup x = some .free)
  | [], x, h => by simp at h
  | (n, k) :: r, x, h => by
    have F := @oX env r x;rw[Av];by_cases z : x = n
    · subst z
      rw[BA, beq_self_eq_true]at h;simp only at h;cases h;by_cases q : (Bj == Bj && env.scope.kind == .function && env.kindOf x == some .cell) = true
      · refine .inl ?_
        show Dj x ((if (Bj == Bj && env.scope.kind == .function && env.kindOf x == some .cell) = true then(x, DN) else(x, Bj)) :: _) = _;rw[Ib q, BA, beq_self_eq_true]
      · refine .inr ?_
        show Dj x ((if (Bj == Bj && env.scope.kind == .function && env.kindOf x == some .cell) = true then(x, DN) else(x, Bj)) :: _) = _;rw[Ia q, BA, beq_self_eq_true]
    · have e : (x == n) = false := by simpa using z
      rw[BA, e]at h;have := F h;by_cases q : (k == Bj && env.scope.kind == .function && env.kindOf n == some .cell) = true
      · simp only[Ib q, BA, e]
        exact this
      · simp only[Ia q, BA, e]
        exact this
def blk(X:Cx)(N:List Str)(scope:CW)(cl:List (Str×Ae))(s:Ag)(H:Hp)(fp:List Ae)(gz:List (Ae×Obj))(C:Ae):Cx where
 prog:=X.prog
 w:=X.w
 K:=X.K
 mg:=X.mg
 base:=X.base
 A:=X.A
 N:=N
 s₀:=s
 H₀:=H
 env:=compEnvC scope cl C X.env
 outer:=X.stack
 stack:=X.stack
 ex:=fp
 fn:=fun _=>false
 calm:=X.calm
 pn:=X.pn ++ gz
 xe:=fun _ _=>False
def aGy(N:List Str)(src:List (Option Nat))(scope:CW)(oN:List Str):Bool:=
 (N.zip src).all fun p=>match p.2 with | none=>true | some j=>(oN[j]? == some p.1) && (scope.names.lookup p.1 == some .free)
structure yH(N:List Str)(src:List (Option Nat))(scope osc:CW)(oN:List Str):Prop where
 kind:scope.kind=.function
 nocell:∀ y∈scope.names,y.2≠.cell
 names:∀ y∈scope.names,y.2=.local→scope.names.lookup y.1=some .local
 fr:∀ y∈scope.names,y.2=.free→osc.names.lookup y.1=some .cell∨osc.names.lookup y.1=some .free
 len:src.length=N.length
 srcs:aGy N src scope oN=true
def sub(src:List (Option Nat))(σ:St):St:=src.map fun o=>match o with | none=>none | some j=>(σ[j]?).getD none
theorem aDL{N:List Str}{src:List (Option Nat)}{scope:CW}{oN:List Str}(h:aGy N src scope oN=true){i j:Nat}{x:Str}(h1:N[i]?=some x)(h2:src[i]?=some (some j)):oN[j]?=some x∧scope.names.lookup x=some .free:=by
 have hm:(x,some j)∈N.zip src:=by
  refine AH (i:=i) ?_;rw[List.getElem?_zip_eq_some];exact⟨h1,h2⟩
 have:=A5.mp h _ hm;simp only[Bv,beq_iff_eq]at this;exact this
theorem aHi{src:List (Option Nat)}{σ:St}{i:Nat}{v:V}(h:(sub src σ)[i]?=some (some v)):∃ j,src[i]?=some (some j)∧σ[j]?=some (some v):=by
 unfold sub at h;rw[An]at h;cases e:src[i]? with
 | none=>rw[e]at h;simp at h
 | some o=>
  rw[e]at h;cases o with
  | none=>simp at h
  | some j=>
   refine⟨j,rfl,?_⟩;cases q:σ[j]? with
   | none=>simp[q]at h
   | some z=>
    simp[q]at h;rw[h]
structure PTs(X:Cx)(ifs:List Be)(t:TT):Prop where
 run:
  ∀(gz:List (Ae×Obj)) (s:Ag) (σ:St) (H:Hp) (Q:Bool→Hp→Prop),Inv X gz σ H s→t σ H Q→
   wpAny (model X.prog X.w) X.A (forIn ifs true fun c r=>if r=true then do let ok ← isTrue c X.env (eval c X.env);pure (Cp ok) else pure (Cp r)) (TP X gz σ Q) X.xe s
instance{X:Cx}{ifs:List Be}{t:TT}:CoeFun (PTs X ifs t) (fun _=>
 ∀(gz:List (Ae×Obj)) (s:Ag) (σ:St) (H:Hp) (Q:Bool→Hp→Prop),Inv X gz σ H s→t σ H Q→
  wpAny (model X.prog X.w) X.A (forIn ifs true fun c r=>if r=true then do let ok ← isTrue c X.env (eval c X.env);pure (Cp ok) else pure (Cp r)) (TP X gz σ Q) X.xe s):=⟨fun h=>h.run⟩
theorem c8{X:Cx}:PTs X [] (fun _ H Q=>Q true H):=⟨fun _ _ _ H _ I h=>wpAny_tests_nil ⟨H,I,h⟩⟩
theorem m5{X:Cx}{c:Be}{t:TT}(h:PT X c t):PTs X [c] t:=⟨fun gz s σ H Q I q=>wpAny_tests_one (h gz s σ H Q I q)⟩
section
variable{X:Cx}{gz:List (Ae×Obj)}{σ:St}{H:Hp}{s:Ag}
theorem Inv.clos{N:List Str}{src:List (Option Nat)}{scope:CW}(B:yH N src scope X.env.scope X.N)(I:Inv X gz σ H s):∀ y∈scope.names,y.2=.free→∃ c,X.env.cells.lookup y.1=some c:=
 fun y q z=>I.ok.has y.1 (B.fr y q z)
theorem Inv.block{N:List Str}{src:List (Option Nat)}{scope:CW}{fp:List Ae}{s1:Ag}{C:Ae}{m:Str→Option Ad}(B:yH N src scope X.env.scope X.N)(I:Inv X gz σ H s)
  (Y:∀ b∈fp,lO X gz H b) (aa:∀ b∈fp,b < s.heap.objs.size) (hC:s.heap.objs.size≤C) (ho:s1.os=s.os) (J:EC s1.gens) (O:∀ b o,s.heap.get? b=some o→s1.heap.get? b=some o) (hn:s1.heap.Ns C m):
  Inv (blk X N scope (iN X.env scope.names []) s H fp gz C) [] (sub src σ) H s1:=by
 have F:=I.clos B;have q:∀ x c,(iN X.env scope.names []).lookup x=some c→X.env.cells.lookup x=some c:=p5 _ _ (fun x c e=>by simp at e);have ag:∀ b∈frs X.stack,b < s.heap.objs.size:=fun b J=>by
  obtain⟨_,o,ho,_⟩:=I.stack.mem J;exact Au ho
 refine⟨⟨I.ok.mod,B.kind,I.ok.glob,I.ok.blt,hC,fun x y c e1 e2=>I.ok.inj x y c (q x c e1) (q y c e2),fun x hx=>?_,fun x c hx=>absurd hx Ay,I.ok.hd,I.ok.frames,.inl rfl,fun b J=>⟨?_,fun x c e=>?_⟩,fun b o e=>?_,AI I.ok.bsz I.sz,fun b o e J=>?_,fun b J hz=>?_,I.stack,I.stkFree⟩,
  ho,J,Un.kept O,⟨m,hn,fun i x v e1 e2 e3=>?_⟩,fun x c e=>?_,?_,fun x c e=>I.freeC x c (q x c e),fun p hp=>?_,I.hok.kept O,?_⟩
 ·have Z:=sB (env:=X.env) B.nocell hx;exact p6 _ _ x F (.inr (BO Z))
 ·exact AB (AX (aa b J) hC)
 ·exact(Y b J).2.2.2.2.1 x c (q x c e)
 ·exact I.bs b o e
 ·rcases(Y b J).2.2.2.1 with z | z
  ·exact I.ok.noex b o e z
  ·exact absurd (AX (Au e) (AI I.ok.bsz z)) (CO _)
 ·rcases Ak.mp (I.stkSub b hz)with e | z
  ·exact(Y b J).2.1 e
  ·exact(Y b J).2.2.1 z
 ·obtain⟨j,ej,ev⟩:=aHi e2;obtain⟨oj,fj⟩:=aDL B.srcs e1 ej;have M:=B.fr _ (BO fj) rfl;obtain⟨m0,hn0,hl0⟩:=id I.loc;obtain⟨u,ru,lk⟩:=hl0 j x v oj ev (.inr M);refine⟨u,ru,.inr ⟨oX fj,?_⟩⟩;rcases lk with⟨k,_⟩ | ⟨k,c,hc,hcell⟩
  ·have k':X.env.scope.names.lookup x=some .local:=k;rcases M with z | z <;> (rw[k']at z;cases z)
  ·obtain⟨c',hc'⟩:=p6 (env:=X.env) scope.names [] x F (.inr (BO fj));have e:=q x c' hc';rw[hc]at e;cases e;obtain⟨o,ho,hd⟩:=hcell;exact⟨c,hc',o,O _ _ ho,hd⟩
 ·obtain⟨v,o,ho,hd⟩:=I.cell x c (q x c e);exact⟨v,o,O _ _ ho,hd⟩
 ·exact I.hok.fresh hC
 ·have af:p∈X.pn ++ gz:=by
   rcases AS.mp hp with z | z
   ·exact z
   ·simp at z
  obtain⟨q1,q2,q3,q4,q5⟩:=I.pin p af;refine⟨O _ _ q1,q2,AB (AX (Au q1) hC),fun z=>?_,q5⟩;rcases Ak.mp (I.stkSub _ z)with e | z
  ·exact q3 e
  ·exact q4 z
 ·show(sub src σ).length=N.length;unfold sub;rw[Aa];exact B.len
end
section
variable{prog:AC}{w:AT}{A:AU}{R:Gu→Ag→Prop}{s:Ag}
theorem yI{F q z:Be}{M:List Be}{scope:CW}{pos:Pos}{it J:Ad}{env:Env}(I:Nat→Ag→Prop)
  (O:∀ n s,I n s→wpAny (model prog w) A (pyNext it) (fun r s₁=>match r with
   | none=>R (.ok .next) s₁
   | some v=>wpAny (model prog w) A (letOwnedTupleGo q it v) (fun _ Y=>wpAny (model prog w) A (assign q env v) (fun _ s₂=>
     wpAny (model prog w) A (forIn M true fun c r=>if r=true then do let ok ← isTrue c env (eval c env);pure (Cp ok) else pure (Cp r)) (fun ok Z=>
      if ok=true then wpAny (model prog w) A (eval F env) (fun x s₄=>
       wpAny (model prog w) A (call (.builtin "list.append") [J,x]) (fun _ s₅=>∃ m,m < n∧I m s₅) (fun _ _=>False) s₄) (fun _ _=>False) Z
      else∃ m,m < n∧I m Z) (fun _ _=>False) s₂) (fun _ _=>False) Y) (fun _ _=>False) s₁) (fun _ _=>False) s)
  (n:Nat) (h:I n s):
  codeAny (model prog w) A (.compLoop (.ListComp F [⟨q,z,M,0⟩] scope pos) 0 it J env) R s:=by
 have nv:∀{α:Type} {t:Sem α} {Q:α→Ag→Prop} {E:Ad→Ag→Prop} {s:Ag},wpAny (model prog w) A t Q (fun _ _=>False) s→wpAny (model prog w) A t Q E s:=fun h=>Ck h (fun _ _ x=>x) fun _ _ x=>x.elim;refine codeAny_loop rfl I (fun n s hI=>?_) n h;show wpAny _ A ((compTurn (.ListComp F [⟨q,z,M,0⟩] scope pos) 0 it J env).onRaise (fun x=>do noteFrame x env;theTreesLotGoes x)) _ _ s;refine wpAny_noted ?_;rw[compTurn_list];refine Ab (EZ (Ab (nv (thn (O n s hI) (fun r s₁ h₁=>?_)))));cases r with
 | none=>exact Af h₁
 | some v=>
  refine Ab (Ck h₁ (fun _ Y aa=>?_) fun _ _ x=>x.elim);refine Ab (Ck aa (fun _ s₂ h₂=>Ab (Ck h₂ (fun ok Z h₃=>?_) fun _ _ h'=>h'.elim)) fun _ _ h'=>h'.elim);cases ok with
  | false=>exact Af ⟨rfl,h₃⟩
  | true=>
   exact Ab (Ab (Ck h₃ (fun x s₄ h₄=>Ab (Ck h₄ (fun _ s₅ h₅=>Af (Af ⟨rfl,h₅⟩)) fun _ _ h'=>h'.elim)) fun _ _ h'=>h'.elim))
end
inductive aBC(J : It)(g : TG)(tt : TT)(te : TE)(σ₀ : St)(H₀ : Hp)(Q : VK) : Prop
  | mk (W : Nat → Nat → List V → St → Hp → Prop) (q0 : (∃ m, W 0 m [] σ₀ H₀)) (q1 : ∀ i m ys σ H, W i m ys σ H → ys.length ≤ sizeLine ∧
    ((J.stop i H ∧ ∀ D, H D = none → Q (.ref D) (upd H D (.lst ys))) ∨
     (J.go i H ∧ ∃ N : List V → St → Hp → Prop, (∀ zs σ' H', N zs σ' H' → ∃ m', m' < m ∧ W (i + 1) m' zs σ' H') ∧
       ∀ x H', J.yld i H x H' → g x σ H' fun σ2 H2 => tt σ2 H2 fun b H3 => if b = true then te σ2 H3 fun v H4 => N (ys ++ [v]) σ2 H4 else N ys σ2 H3))) : aBC J g tt te σ₀ H₀ Q
def qK(J:It)(g:TG)(tt:TT)(te:TE)(σ₀:St)(H₀:Hp)(Q:VK):Prop:=aBC J g tt te σ₀ H₀ Q
section
variable{X:Cx}{gz:List (Ae×Obj)}{σ:St}
theorem vF{tg ar aI:Be}{ay:List Be}{scope:CW}{pos:Pos}{N:List Str}{src:List (Option Nat)}{g:TG}{tt:TT}{te:TE}{J:It}{fp:List Ae}{it:Ae}{tn:Nat→Bi→Prop}{H2:Hp}{s2:Ag}{Q:VK}{E:Ad→Ag→Prop}
  {RR:Ad→Ae→Gu→Ag→Prop} (B:yH N src scope X.env.scope X.N) (hc:X.calm=true)
  (F:∀ cl s H fp gz C,PG (blk X N scope cl s H fp gz C) tg g∧PTs (blk X N scope cl s H fp gz C) ay tt∧PE (blk X N scope cl s H fp gz C) aI te)
  (I2:Inv X gz σ H2 s2) (T:aAt X.prog X.w X.K tg J fp it tn) (bv:tn 0 s2.heap) (f2:∀ b∈fp,lO X gz H2 b) (cw:qK J g tt te (sub src σ) H2 Q)
  (b2:∀ D C H' m s',Inv X gz σ H' s'→s'.heap.Ns C m→lO X gz H' C→D≠C→Q (.ref D) H'→RR (.ref D) C (.ok .next) s'):
  wpAny (model X.prog X.w) X.A (newList []) (fun bp s₃=>wpAny (model X.prog X.w) X.A (newFunctionEnv scope X.env.globals (iN X.env scope.names []) [] X.env.qual none .none (some X.env)) (fun aq s₄=>
   codeAny (model X.prog X.w) X.A (.compStart (.ListComp aI [⟨tg,ar,ay,0⟩] scope pos) 0 (.ref it) bp { aq with scope:=relabel scope X.env }) (RR bp aq.locals) s₄) E s₃) E s2:=by
 refine B4 (wpAny_newFunctionEnv B.nocell (by intro y hy;simp at hy) (fun h₁ ah Z=>?_) B.kind);dsimp only at ah Z ⊢;generalize a0:s2.heap.push { cls:=.type "list",dict:=none,data:=.seq ([]:List Ad).toArray }=HH at ah Z ⊢;have az:HH.objs.size=s2.heap.objs.size + 1:=by rw[← a0,Cz]
 have ai:s2.heap.objs.size≠HH.objs.size:=by rw[az];exact AB (Dn _)
 have aj:s2.heap.objs.size≤HH.objs.size:=by rw[az];exact CZ _
 have ap:∀ b∈fp,b < s2.heap.objs.size:=fun b F=>by
  obtain⟨o,e,_⟩:=T.obj _ _ bv b F;exact Au e
 have bj:∀ b o,s2.heap.get? b=some o→h₁.get? b=some o:=fun b o e=>
  Z.extBut b o (by rw[az];exact AB (Cr (Au e))) (Aj _ (a0 ▸ Aj _ e))
 have bh:h₁.PlainList s2.heap.objs.size #[]:=⟨_,Z.extBut _ _ ai (Aj _ (a0 ▸ Ax _ rfl))⟩
 have bE:tn 0 h₁:=T.keep _ _ _ bv fun b _ o e=>bj b o e;obtain⟨W,⟨m0,w0⟩,turn⟩:=cw;have bD:∀ b∈frs X.stack,b < s2.heap.objs.size:=fun b F=>by
  obtain⟨_,o,ho,_⟩:=I2.stack.mem F;exact Au ho
 generalize q:blk X N scope (iN X.env scope.names []) s2 H2 fp gz HH.objs.size=M;have bg:=F (iN X.env scope.names []) s2 H2 fp gz HH.objs.size;rw[q]at bg;have eP:M.prog=X.prog:=by rw[← q];rfl
 have eW:M.w=X.w:=by rw[← q];rfl
 have eK:M.K=X.K:=by rw[← q];rfl
 have eA:M.A=X.A:=by rw[← q];rfl
 have eE:M.env=compEnvC scope (iN X.env scope.names []) HH.objs.size X.env:=by rw[← q];rfl
 have eL:M.env.locals=HH.objs.size:=by rw[eE];rfl
 have eF:M.fs=frs X.stack:=by rw[← q];rfl
 have eX:M.ex=fp:=by rw[← q];rfl
 have eS:M.s₀=s2:=by rw[← q];rfl
 have eH:M.H₀=H2:=by rw[← q];rfl
 have eC:M.calm=true:=by rw[← q];exact hc
 have bI:M.pn=X.pn ++ gz:=by rw[← q];rfl
 have ba:M.xe=fun _ _=>False:=by rw[← q];rfl
 have aa:∀ x c,M.env.cells.lookup x=some c→X.env.cells.lookup x=some c:=fun x c e=>by
  rw[eE]at e;exact p5 scope.names [] (fun x c e=>by simp at e) x c e
 have ad:∀ x c,M.env.cells.lookup x=some c→c < s2.heap.objs.size:=fun x c e=>by
  obtain⟨v,o,ho,_⟩:=I2.cell x c (aa x c e);exact Au ho
 have ag:∀ p∈X.pn ++ gz,p.1 < s2.heap.objs.size:=fun p Y=>Au (I2.pin p Y).1;generalize hD:s2.heap.objs.size=D at *;generalize dc:HH.objs.size=C at *;have aw:∀ s₃:Ag,s₃={ s2 with heap:=h₁,toks:=s2.toks + ([]:List (Str×Ad)).length }→
   codeAny (model X.prog X.w) X.A (.compLoop (.ListComp aI [⟨tg,ar,ay,0⟩] scope pos) 0 (.ref it) (.ref D) (compEnvC scope (iN X.env scope.names []) C X.env)) (RR (.ref D) C) s₃:=by
  rintro s₃ rfl;have I3:Inv M [] (sub src σ) H2 { s2 with heap:=h₁,toks:=s2.toks + ([]:List (Str×Ad)).length }:=by
   rw[← q];exact I2.block B f2 (by rw[hD];exact ap) (by rw[hD];exact aj) rfl I2.bare bj ah
  have cf:H2 D=none:=I2.hok.fresh (Ef hD);have cj:D ∉ M.fs:=fun z=>by rw[eF]at z;exact absurd (bD D z) (CO _)
  have au:∀{O:St} {H':Hp} {s':Ag} {pl:List (Ae×Obj)} {its:List Ad} {n:Nat},Inv M pl O H' s'→H' D=none→s'.heap.get? D=some { cls:=.type "list",data:=.seq its.toArray n }→
    Inv M ((D,{ cls:=.type "list",data:=.seq its.toArray n }) :: pl) O H' s':=fun{O H' s' pl its n} I' hn hg=>
   I'.pins_of fun p Y=>by
    rcases Ak.mp Y with e | Y
    ·subst e;exact⟨hg,hn,by rw[eL];exact ai,cj,fun v z=>by cases z⟩
    ·exact I'.pin p (AN _ Y)
  obtain⟨n0,hg0⟩:=bh;have b6:=au (its:=[]) I3 cf hg0;have ax:∀{H':Hp} {pl:List (Ae×Obj)},(∀ p∈pl,p.1=D)→(∀ b∈fp,H' b=none)→∀ b∈fp,lO M pl H' b:=fun{H' pl} hpl hn b F=>by
   refine⟨hn b F,by rw[eL];exact AB (AX (ap b F) aj),fun z=>?_,.inl (by rw[eX];exact F),fun x c e=>(f2 b F).2.2.2.2.1 x c (aa x c e),fun p Y=>?_⟩
   ·rw[eF]at z;rcases Ak.mp (I2.stkSub b z)with e | z
    ·exact(f2 b F).2.1 e
    ·exact(f2 b F).2.2.1 z
   ·rw[bI]at Y;rcases AS.mp Y with z | z
    ·exact(f2 b F).2.2.2.2.2 p z
    ·rw[hpl p z];exact DL (ap b F)
  refine yI (fun n s'=>∃ i ys its nn O H',Inv M [(D,{ cls:=.type "list",data:=.seq its.toArray nn })] O H' s'∧tn i s'.heap∧(∀ b∈fp,H' b=none)∧bX ys its∧W i n ys O H') ?_ m0
   ⟨0,[],[],n0,sub src σ,H2,b6,bE,fun b F=>(f2 b F).1,.nil,w0⟩
  rintro n s4 ⟨i,ys,its,nn,σ4,H4,I4,br,bi,ao,w4⟩;obtain⟨hsz,hcase⟩:=turn i n ys σ4 H4 w4;have one:∀{o:Obj},∀ p∈[(D,o)],p.1=D:=fun{o} p Y=>by
   have:=AF.mp Y;rw[this]
  rcases hcase with⟨stop,qn⟩ | ⟨go,Nx,hN,step⟩
  ·have ae:=T.done M eP eW eK eC i _ s4 σ4 H4 (fun _ _=>False) I4 (ax one bi) br stop;rw[eA]at ae;refine thn ae fun r s5 ⟨hr,I5⟩=>?_;subst hr;have pd:=I5.pin _ (AN _ Al);have b0:Un (frs X.stack) fp H2 H4 s2.heap s5.heap:=by
    have:=I5.base;rw[eF,eX,eS,eH]at this;exact this
   have bz:HOk X.prog X.w H4 s5.heap:=by
    have:=I5.hok;rw[eP,eW]at this;exact this
   have cg:s5.os=s2.os:=by
    have:=I5.os;rw[eS]at this;exact this
   have J5:Inv X gz σ H4 s5:=I2.call' cg b0 bz I5.bare fun b F=>⟨(f2 b F).2.2.2.1,(f2 b F).2.1,(f2 b F).2.2.2.2.1,(f2 b F).2.2.2.2.2⟩
   have fD:lO X gz H4 D:=I2.fpOk (Ef hD) pd.2.1;have J6:Inv X gz σ (upd H4 D (.lst ys)) s5:=J5.track fD ⟨hsz,its,nn,ao,pd.1⟩;obtain⟨mm,nsC,_⟩:=I5.loc;rw[eL]at nsC;have cc:H4 C=none:=by
    have:=I5.free;rw[eL]at this;exact this
   have fC:lO X gz (upd H4 D (.lst ys)) C:=I2.fpOk (by rw[hD];exact aj) (by rw[aG (BX ai)];exact cc);exact b2 D C _ mm s5 J6 nsC fC ai (qn D pd.2.1)
  ·have ak:=T.item M eP eW eK eC i _ s4 σ4 H4 (fun _ _=>False) I4 (ax one bi) br go;rw[eA]at ak;refine thn ak fun r s5 ⟨u,hr,h5⟩=>?_;subst hr;refine thn h5 fun _ s6 ⟨x,H6,I6,r6,y6,aT,ci⟩=>?_;have cb:=I6.pinned (ax one ci) (T.obj _ _ aT);obtain⟨hg,ht,he⟩:=bg;have e1:=hg _ s6 σ4 H6 x u _ cb r6 (step x H6 y6);rw[eP,eW,eA,eE,ba]at e1;refine thn e1 fun _ s7 ⟨σ7,H7,I7,q7⟩=>?_;have e2:=ht _ s7 σ7 H7 _ I7 q7;rw[eP,eW,eA,eE,ba]at e2;refine thn e2 fun ok s8 ⟨H8,I8,q8⟩=>?_;have fin:∀{O:St} {H':Hp} {s':Ag} {ab:List Ad} {af:Nat} {zs:List V},Inv M ([(D,{ cls:=.type "list",data:=.seq ab.toArray af })] ++ nX fp s6.heap) O H' s'→bX zs ab→Nx zs O H'→
     ∃ m,m < n∧∃ i ys its nn O H',Inv M [(D,{ cls:=.type "list",data:=.seq its.toArray nn })] O H' s'∧tn i s'.heap∧(∀ b∈fp,H' b=none)∧bX ys its∧W i m ys O H':=fun{O H' s' ab af zs} I' vs' n'=>by
    obtain⟨m',hm,w'⟩:=hN zs O H' n';refine⟨m',hm,i + 1,zs,ab,af,O,H',I'.unpinned,T.keep _ _ _ aT fun b F o e=>(I'.pin (b,o) (AN _ (AN _ (kU F e)))).1,fun b F=>?_,vs',w'⟩;obtain⟨o,e,d⟩:=T.obj _ _ aT b F;exact(I'.pin (b,o) (AN _ (AN _ (kU F e)))).2.1
   cases ok with
   | false=>
    simp only[B7,if_false]at q8 ⊢;exact fin I8 ao q8
   | true=>
    simp only[if_true]at q8 ⊢;have e3:=he _ s8 σ7 H8 _ I8 q8;rw[eP,eW,eA,eE,ba]at e3;refine thn e3 fun v s9 ⟨y,H9,I9,r9,q9⟩=>?_;have pd:=I9.pin _ (AN _ (BV _ Al));have ck:=ao.length;refine wpAny_list_append_plain (hsz:=by simp only[Aq];omega) (⟨nn,pd.1⟩:s9.heap.PlainList D its.toArray) fun h' ⟨af,b4⟩ bR=>?_;have b3:Inv M (nX fp s6.heap) σ7 H9 s9:=I9.pins_of fun p Y=>I9.pin p (AN _ (AN _ Y));have ca:Inv M (nX fp s6.heap) σ7 H9 { s9 with heap:=h' }:=b3.turned (t':=s9.toks) (it:=D) (fun b o F e=>(bR.2 b F).trans e) pd.2.1 (by rw[eL];exact ai) (.inr (by rw[eS];exact Ef hD))
     (fun x c e=>AB (ad x c e)) fun p Y=>by
      rw[bI]at Y;rcases AS.mp Y with z | z
      ·exact AB (ag p z)
      ·exact AB (ap _ (uS z).1)
    have bm:h'.get? D=some { cls:=.type "list",data:=.seq (its ++ [v]).toArray af }:=by
     rw[b4];simp
    exact fin (au (s':={ s9 with heap:=h' }) ca pd.2.1 bm) (ao.append (.cons r9 .nil)) q9
 exact codeAny_compStart_list (aw _ rfl) (T.self X.A 0 _ _ _ bE (aw _ rfl))
end
def aGz(src:List (Option Nat))(wi:TI)(g:TG)(tt:TT)(te:TE):TE:=fun σ H Q=>wi σ H fun J H1=>qK J g tt te (sub src σ) H1 Q
section
variable{X:Cx}
theorem c5{tg z F:Be}{M:List Be}{scope osc:CW}{pos:Pos}{N oN:List Str}{src:List (Option Nat)}{Z:TI}{g:TG}{tt:TT}{te:TE}(B:yH N src scope osc oN)(hi:PI X tg z Z)
  (O:∀ cl s H fp gz C,PG (blk X N scope cl s H fp gz C) tg g∧PTs (blk X N scope cl s H fp gz C) M tt∧PE (blk X N scope cl s H fp gz C) F te)
  (hc:X.calm=true:=by rfl) (eo:X.env.scope=osc:=by rfl) (eN:X.N=oN:=by rfl)
  (hs:∀ x,foldedSetIterable z X.env x=pure x:=by intro _;rfl):PE X (.ListComp F [⟨tg,z,M,0⟩] scope pos) (aGz src Z g tt te):=by
 subst eo eN;constructor;intro gz s σ H Q I h;rw[eval_ListComp];refine wpAny_comprehension_free (use:=none) (cl:=iN X.env scope.names []) rfl hs (oW (I.clos B)) B.kind B.names (thn (hi gz s σ H _ I h) fun xv s1 h1=>thn h1 fun ai s2 h2=>?_);obtain⟨it,fp,tn,J,H2,e,I2,T,st2,f2,cw⟩:=h2;subst e;refine vF B hc O I2 T st2 f2 cw fun D C H' m s' J' Y fC ag q=>?_;refine⟨m,Y,fun h' sb=>⟨.ref D,H',?_,rfl,q⟩⟩;obtain⟨f0,f1,_,f3,f4,f5⟩:=fC;exact J'.turned (t':=s'.toks) (fun b o O e=>(sb.2 b O).trans e) f0 f1 f3 f4 f5
theorem i0{tg F O:Be}{M:List Be}{scope osc:CW}{pos ps Z:Pos}{y:Str}{i:Nat}{N oN:List Str}{src:List (Option Nat)}{wi:TI}{g:TG}{tt:TT}{te:TE}(B:yH N src scope osc oN)(hN:X.N.Nodup)(hy:X.N[i]?=some y)(hi:PI X tg F wi)
  (hb:∀ cl s H fp gz C,PG (blk X N scope cl s H fp gz C) tg g∧PTs (blk X N scope cl s H fp gz C) M tt∧PE (blk X N scope cl s H fp gz C) O te)
  (Y:X.env.scope.names.lookup y=some .local:=by rfl)
  (ah:swapsWith (.ListComp O [⟨tg,F,M,0⟩] scope pos) (some (.Name y Z)) ps.line X.env=pure true:=by rfl)
  (hc:X.calm=true:=by rfl) (eo:X.env.scope=osc:=by rfl) (eN:X.N=oN:=by rfl)
  (hs:∀ x,foldedSetIterable F X.env x=pure x:=by intro _;rfl):PS X (.Assign [.Name y Z] (.ListComp O [⟨tg,F,M,0⟩] scope pos) ps) (aG0 (aGz src wi g tt te) (aU i)):=by
 subst eo eN;constructor;intro gz s σ H D I h;rw[exec_Assign_Name_used _ _ _ _ ah];refine Ab (EZ (Ab ?_));show wpAny _ _ (evalThenUse (.ListComp O [⟨tg,F,M,0⟩] scope pos) X.env (assign (.Name y Z) X.env)) _ _ s;have e:evalThenUse (.ListComp O [⟨tg,F,M,0⟩] scope pos) X.env (assign (.Name y Z) X.env)=(do
   let _ ← comprehension (.ListComp O [⟨tg,F,M,0⟩] scope pos) scope X.env (firstIterPos [⟨tg,F,M,0⟩] pos) (newList []) (firstAsync [⟨tg,F,M,0⟩]) (firstIter [⟨tg,F,M,0⟩] X.env) (some (assign (.Name y Z) X.env))):=rfl
 rw[e];refine Ab ?_;refine wpAny_comprehension_free (use:=some (assign (.Name y Z) X.env)) (cl:=iN X.env scope.names []) rfl hs (oW (I.clos B)) B.kind B.names (thn (hi gz s σ H _ I h) fun xv s1 h1=>thn h1 fun au s2 h2=>?_);obtain⟨it,fp,tn,J,H2,e,I2,T,st2,f2,cw⟩:=h2;subst e;refine vF B hc hb I2 T st2 f2 cw fun D' C H' m s' J' ag fC aq q=>?_;obtain⟨f0,f1,_,f3,f4,f5⟩:=fC;refine wpAny_assign_Name (uR J' hN hy (.inl Y) (v:=.ref D') rfl (fun aa ab ⟨a,sb,ha⟩=>?_) (.inr Y));have ae:C≠a:=by
  rcases ha with rfl | ha
  ·exact f1
  ·exact fun z=>f4 y a ha z.symm
 refine⟨m,ag.sameBut sb ae,fun h' ad=>Af (Af ⟨_,H',ab.turned (t':=aa.toks) (fun b o hb e=>(ad.2 b hb).trans e) f0 f1 f3 f4 f5,q⟩)⟩
end
section
variable{X:Cx}
def vG(i j:Int):Prop:=0 < j∧j.natAbs.log2 < 9000
theorem vG.of{i j:Int}(h:0 < j)(h2:j < 2 ^ 512):vG i j:=by
 refine⟨h,?_⟩;have q:j.natAbs≠0:=by omega
 have:j.natAbs.log2 < 512:=(GV q).mpr (by
  have e:((2:Int) ^ 512)=((2 ^ 512:Nat):Int):=by decide
  rw[e]at h2;omega)
 omega
theorem sC:OpR X (binaryOp .FloorDiv) (rI vG fun i j=>.int (i / j)):=opI fun i j _ _ _ _ _ hc q=>by
 have h1:(0:Int) < j:=hc.1;refine floordiv_int (by omega) ?_ (Ar (PyProof.noPylong_of_log2 hc.2));rw[Int.fdiv_eq_ediv_of_nonneg i (by omega)];exact q
inductive sG(x:V)(lo:Option Int)(hi:Option Int)(H:Hp)(Q:VK):Prop
 | mk (z:_) (q0:x=.str z) (q1:z.length≤sizeLine) (q2:Q (.str (Eh z lo hi)) H):sG x lo hi H Q
def aDM:V→Option Int→Option Int→Hp→VK→Prop:=fun x lo hi H Q=>sG x lo hi H Q
theorem aAN:SlR X aDM:=by
 intro gz s σ H x v vl vu lo hi sl Q I Z hs pl Y h;obtain⟨z,rfl,hz,q⟩:=h;obtain⟨t,rfl⟩:=Z;refine⟨"str",_,F.slot_str_getitem.lookup,FU _ _ _,?_⟩;have fin:∀ O k,EP X gz σ Q (.str (Eh z lo hi) O) { s with toks:=k }:=fun O k=>⟨.str _,H,I.tok _,⟨_,rfl⟩,q⟩
 obtain⟨o,ho,hc,hd⟩:=hs;cases pl with
 | none=>
  cases Y with
  | none=>exact DP (l:=none) (u:=none) (st:=none) ⟨o,ho,hc,hd⟩ rfl (Fo ⟨AI (E3 z _ _) hz,fin⟩)
  | int j J=>exact DP (l:=none) (u:=some (j,J)) (st:=none) ⟨o,ho,hc,hd⟩ rfl (Fo ⟨AI (E3 z _ _) hz,fin⟩)
 | int i M=>
  cases Y with
  | none=>exact DP (l:=some (i,M)) (u:=none) (st:=none) ⟨o,ho,hc,hd⟩ rfl (Fo ⟨AI (E3 z _ _) hz,fin⟩)
  | int j J=>exact DP (l:=some (i,M)) (u:=some (j,J)) (st:=none) ⟨o,ho,hc,hd⟩ rfl (Fo ⟨AI (E3 z _ _) hz,fin⟩)
theorem aBD:∀{ys:List Str}{q:List Ad},bX (ys.map V.str) q→D8 q ys
 | [],_,.nil=>.nil
 | y :: ys,_,.cons ⟨t,rfl⟩ r=>.cons y t (aBD r)
inductive qL(K:Ah)(x:V)(xs:List V)(H:Hp)(Q:VK):Prop
 | mk (z:_) (p:_) (ys:_) (q0:x=.str z) (q1:xs=[.ref p]) (q2:SqL K H p (ys.map V.str)) (q3:(ys.map (·.length)).sum + ys.length * z.length≤16777216) (q4:Q (.str (Txt.join z ys)) H):qL K x xs H Q
def aCF(K:Ah):V→List V→Hp→VK→Prop:=fun x xs H Q=>qL K x xs H Q
theorem aFE:MtR X "str.join" (aCF X.K):=by
 intro gz s σ H x xs v J Q I F r h;obtain⟨z,p,ys,rfl,rfl,hx,hz,q⟩:=h;obtain⟨t,rfl⟩:=F;obtain⟨u,rfl,ru⟩:=eY r;cases ru;obtain⟨its,rv,pl,_⟩:=I.list hx;exact join_list pl.isList (by simpa using aBD rv) hz fun M k=>⟨.str _,H,I.tok _,⟨_,rfl⟩,q⟩
theorem sH:∀{bs:List Bool}{q:List Ad},bX (bs.map V.bl) q→∀(i:Nat) v,q[i]?=some v→∃ b,bs[i]?=some b∧v=.bool b
 | [],_,.nil,i,v,e=>by simp at e
 | b :: bs,_,.cons rfl r,0,v,e=>by simp at e;exact⟨b,rfl,e.symm⟩
 | b :: bs,_,.cons rfl r,i + 1,v,e=>by
  obtain⟨c,h1,h2⟩:=sH r i v (by simpa using e);exact⟨c,by simpa using h1,h2⟩
theorem aAO(bs:List Bool):((AV bs.length).all fun i=>(bs[i]?).getD true)=bs.all id:=by
 rw[Ct,A5,A5];constructor
 ·intro h b z;obtain⟨i,hi,e⟩:=DZ.mp z;have:=h i (BU.mpr hi);rw[Ai hi]at this;simpa[e]using this
 ·intro h i hi;have q:=BU.mp hi;rw[Ai q];exact h _ (BI q)
theorem aAP(bs:List Bool):((AV bs.length).any fun i=>(bs[i]?).getD false)=bs.any id:=by
 rw[Ct,Bu,Bu];constructor
 ·rintro⟨i,hi,e⟩;have q:=BU.mp hi;rw[Ai q]at e;exact⟨_,BI q,e⟩
 ·rintro⟨b,hb,e⟩;obtain⟨i,hi,e2⟩:=DZ.mp hb;refine⟨i,BU.mpr hi,?_⟩;rw[Ai hi,e2];exact e
inductive oY(K:Ah)(xs:List V)(H:Hp)(Q:VK):Prop
 | mk (p:Ae) (bs:List Bool) (q0:xs=[.ref p]) (q1:SqL K H p (bs.map V.bl)) (q2:Q (.bl (bs.all id)) H):oY K xs H Q
def aAQ(K:Ah):List V→Hp→VK→Prop:=fun xs H Q=>oY K xs H Q
theorem aDN(hc:X.calm=true):eU X (.builtin "all") (aAQ X.K):=by
 intro gz s σ H xs Y Q I r h;obtain⟨p,bs,rfl,hx,q⟩:=h;obtain⟨u,rfl,ru⟩:=eY r;cases ru;obtain⟨its,rv,pl,_⟩:=I.list hx;have hl:=pl.isList;have z:its.length=bs.length:=by have:=rv.length;simpa using this.symm
 have F:p < s.heap.objs.size:=by obtain⟨_,e,_⟩:=hl;exact Au e
 refine call_all_walk (DT hl ?_);refine⟨s.heap.objs.size,[s.heap.objs.size,p],[s.heap.objs.size],its.toArray.size,_,_,fun i=>(bs[i]?).getD true,rfl,F3 (A:=X.A.in1) (I.ok.hd hc) _ p (AB F) its.toArray,
  ⟨⟨_,Ax _ rfl,rfl,rfl⟩,hl.push _⟩,fun i v s' Q' Z M J=>?_,fun h' tk O=>?_⟩
 ·obtain⟨b,e,rfl⟩:=sH rv i v (by simpa using M);simp only[e,Option.getD_some]at J;exact CQ J
 ·rw[Aq,z,aAO];exact⟨.bl _,H,I.kept fun b x e=>O b x (fun hm=>by rw[AF.mp hm]at e;exact CO _ (Au e)) (Aj _ e),rfl,q⟩
inductive oZ(K:Ah)(xs:List V)(H:Hp)(Q:VK):Prop
 | mk (p:Ae) (bs:List Bool) (q0:xs=[.ref p]) (q1:SqL K H p (bs.map V.bl)) (q2:Q (.bl (bs.any id)) H):oZ K xs H Q
def aAR(K:Ah):List V→Hp→VK→Prop:=fun xs H Q=>oZ K xs H Q
theorem yJ(hc:X.calm=true):eU X (.builtin "any") (aAR X.K):=by
 intro gz s σ H xs Y Q I r h;obtain⟨p,bs,rfl,hx,q⟩:=h;obtain⟨u,rfl,ru⟩:=eY r;cases ru;obtain⟨its,rv,pl,_⟩:=I.list hx;have hl:=pl.isList;have z:its.length=bs.length:=by have:=rv.length;simpa using this.symm
 have F:p < s.heap.objs.size:=by obtain⟨_,e,_⟩:=hl;exact Au e
 refine call_any_walk (DT hl ?_);refine⟨s.heap.objs.size,[s.heap.objs.size,p],[s.heap.objs.size],its.toArray.size,_,_,fun i=>(bs[i]?).getD false,rfl,F3 (A:=X.A.in1) (I.ok.hd hc) _ p (AB F) its.toArray,
  ⟨⟨_,Ax _ rfl,rfl,rfl⟩,hl.push _⟩,fun i v s' Q' Z M J=>?_,fun h' tk O=>?_⟩
 ·obtain⟨b,e,rfl⟩:=sH rv i v (by simpa using M);simp only[e,Option.getD_some]at J;exact CQ J
 ·rw[Aq,z,aAP];exact⟨.bl _,H,I.kept fun b x e=>O b x (fun hm=>by rw[AF.mp hm]at e;exact CO _ (Au e)) (Aj _ e),rfl,q⟩
def aAS:List V→List V→Bool
 | [],[]=>true
 | x :: xs,y :: ys=>eqV x y && aAS xs ys
 | _,_=>false
theorem sI:∀{xs ys:List V},xs.length≠ys.length→aAS xs ys=false
 | [],[],h=>absurd rfl h
 | [],_ :: _,_=>rfl
 | _ :: _,[],_=>rfl
 | x :: xs,y :: ys,h=>by
  show(eqV x y && aAS xs ys)=false;rw[sI (fun e=>h (by simp[e])),DI]
theorem sJ:∀{xs ys:List V},xs.length=ys.length→((AV xs.length).all fun i=>eqV (xs[i]?.getD .non) (ys[i]?.getD .non))=aAS xs ys
 | [],[],_=>rfl
 | x :: xs,y :: ys,h=>by
  have q:=sJ (xs:=xs) (ys:=ys) (by simpa using h);rw[AK,List.range_succ_eq_map,Gf,List.all_map];show(eqV x y && _)=(eqV x y && aAS xs ys)
  rw[← q];rfl
theorem yK{A:AU}{s:Ag}{xs ys:List V}{F ws:List Ad}(M:bX xs F)(J:bX ys ws)(Z:xs.all g9=true)(f2:ys.all g9=true)(j:Nat)(h1:j < F.toArray.size)(h2:j < ws.toArray.size):
  F4 A s F.toArray[j] ws.toArray[j] (eqV (xs[j]?.getD .non) (ys[j]?.getD .non)):=by
 have Y:=M.length;have O:=J.length;have q:j < xs.length:=by simpa[Y]using h1
 have z:j < ys.length:=by simpa[O]using h2
 obtain⟨u,eu,ru⟩:=M.get (Ai q);obtain⟨w',ew,rw'⟩:=J.get (Ai z);have e1:F.toArray[j]=u:=by
  rw[Ai (by simpa using h1)]at eu;simpa using eu
 have e2:ws.toArray[j]=w':=by
  rw[Ai (by simpa using h2)]at ew;simpa using ew
 rw[e1,e2,Ai q,Ai z];exact aAI ru rw' (A5.mp Z _ (BI q)) (A5.mp f2 _ (BI z))
inductive sK(K:Ah)(x:V)(y:V)(H:Hp)(Q:VK):Prop
 | mk (p:_) (q:_) (xs:_) (ys:_) (q0:x=.ref p) (q1:y=.ref q) (q2:SqL K H p xs) (q3:SqL K H q ys) (q4:xs.all g9=true) (q5:ys.all g9=true) (q6:Q (.bl (aAS xs ys)) H):sK K x y H Q
def aDO(K:Ah):V→V→Hp→VK→Prop:=fun x y H Q=>sK K x y H Q
theorem aHj(hu:X.A.units < cLine):OpR X (compareOp .Eq) (aDO X.K):=by
 intro gz s σ H x y v u Q I z J h;obtain⟨p,q,xs,ys,rfl,rfl,h1,h2,f1,f2,hq⟩:=h;cases z;cases J;obtain⟨us,r1,p1,_⟩:=I.list h1;obtain⟨ws,r2,p2,_⟩:=I.list h2;have F:=r1.length;have M:=r2.length;by_cases e:xs.length=ys.length
 ·refine SeqAt.eq_listAt p1.isList p2.isList (by simp;omega) hu (yK r1 r2 f1 f2) ?_;rw[Aq,← F,sJ e];exact⟨.bl _,H,I,rfl,hq⟩
 ·refine SeqAt.eq_list_lengthsAt p1.isList p2.isList (by simp;omega) hu ?_;rw[sI e]at hq;exact⟨.bl _,H,I,rfl,hq⟩
inductive sO(K:Ah)(x:V)(y:V)(H:Hp)(Q:VK):Prop
 | mk (p:_) (q:_) (xs:_) (ys:_) (q0:x=.ref p) (q1:y=.ref q) (q2:SqL K H p xs) (q3:SqL K H q ys) (q4:xs.all g9=true) (q5:ys.all g9=true) (q6:Q (.bl (!aAS xs ys)) H):sO K x y H Q
def aDP(K:Ah):V→V→Hp→VK→Prop:=fun x y H Q=>sO K x y H Q
theorem aDQ(hu:X.A.units < cLine):OpR X (compareOp .NotEq) (aDP X.K):=by
 intro gz s σ H x y v u Q I z J h;obtain⟨p,q,xs,ys,rfl,rfl,h1,h2,f1,f2,hq⟩:=h;cases z;cases J;obtain⟨us,r1,p1,_⟩:=I.list h1;obtain⟨ws,r2,p2,_⟩:=I.list h2;have F:=r1.length;have M:=r2.length;by_cases e:xs.length=ys.length
 ·refine SeqAt.RcNeAt.lists p1.isList p2.isList (by simp;omega) hu (yK r1 r2 f1 f2) X.prog X.w _ _ ?_;rw[Aq,← F,sJ e];exact⟨.bl _,H,I,rfl,hq⟩
 ·refine SeqAt.RcNeAt.lists_lengths p1.isList p2.isList (by simp;omega) hu X.prog X.w _ _ ?_;rw[sI e]at hq;exact⟨.bl _,H,I,rfl,hq⟩
end
theorem aP{n:Nat}(h:n≤1000000):n≤sizeLine:=by
 have:sizeLine=16777216:=EU;omega
theorem o0{J:It}{g:TG}{tt:TT}{te:TE}{Z:St}{H₀:Hp}{Q:VK}(n:Nat)(q:Nat→List V→St→Hp→Prop)(h0:q 0 [] Z H₀)(hn:n≤sizeLine)(M:∀ i ys σ H,q i ys σ H→ys.length≤i)
  (Y:∀ i ys σ H,i < n→q i ys σ H→J.go i H) (z:∀ ys σ H,q n ys σ H→J.stop n H)
  (hs:∀ i ys σ H x H',i < n→q i ys σ H→J.yld i H x H'→g x σ H' fun O H2=>tt O H2 fun b H3=>if b=true then te O H3 fun v H4=>q (i + 1) (ys ++ [v]) O H4 else q (i + 1) ys O H3)
  (hd:∀ ys σ H,q n ys σ H→∀ D,H D=none→Q (.ref D) (upd H D (.lst ys))):qK J g tt te Z H₀ Q:=by
 refine⟨fun i m ys σ H=>m=n - i∧i≤n∧q i ys σ H,⟨n,by simp,A0 _,h0⟩,?_⟩;rintro i m ys σ H ⟨rfl,hi,p⟩;refine⟨AI (M i ys σ H p) (AI hi hn),?_⟩;by_cases F:i < n
 ·exact .inr ⟨Y i ys σ H F p,q (i + 1),fun zs σ' H' p'=>⟨n - (i + 1),by omega,rfl,F,p'⟩,fun x H' y=>hs i ys σ H x H' F p y⟩
 ·have e:i=n:=by omega
  subst e;exact .inl ⟨z ys σ H p,hd ys σ H p⟩
theorem gM{lo:Int}{n:Nat}{g:TG}{O:TT}{te:TE}{J:St}{H₀:Hp}{Q:VK}(q:Nat→List V→St→Hp→Prop)(Y:q 0 [] J H₀)(hn:n≤sizeLine)(z:∀ i ys σ H,q i ys σ H→ys.length≤i)
  (hs:∀ i ys σ H,i < n→q i ys σ H→g (.int (lo + i)) σ H fun F H2=>O F H2 fun b M=>if b=true then te F M fun v Z=>q (i + 1) (ys ++ [v]) F Z else q (i + 1) ys F M)
  (hd:∀ ys σ H,q n ys σ H→∀ D,H D=none→Q (.ref D) (upd H D (.lst ys))):qK (Itr lo n) g O te J H₀ Q:=
 o0 n q Y hn z (fun i _ _ _ h _=>h) (fun _ _ _ _=>Am _) (fun i ys σ H v H' hi p y=>by
  obtain⟨e,rfl⟩:=y;subst e;exact hs i ys σ _ hi p) hd
theorem m6{K:Ah}{a:Ae}{xs:List V}{g:TG}{O:TT}{te:TE}{J:St}{H₀:Hp}{Q:VK}(q:Nat→List V→St→Hp→Prop)(Y:q 0 [] J H₀)(hn:xs.length≤sizeLine)(z:∀ i ys σ H,q i ys σ H→ys.length≤i)
  (hl:∀ i ys σ H,q i ys σ H→SqL K H a xs)
  (hs:∀ i x ys σ H,xs[i]?=some x→q i ys σ H→g x σ H fun F H2=>O F H2 fun b M=>if b=true then te F M fun v Z=>q (i + 1) (ys ++ [v]) F Z else q (i + 1) ys F M)
  (hd:∀ ys σ H,q xs.length ys σ H→∀ D,H D=none→Q (.ref D) (upd H D (.lst ys))):qK (Itl K a) g O te J H₀ Q:=
 o0 xs.length q Y hn z (fun i ys σ H h p=>⟨xs,xs[i],hl i ys σ H p,by simp[h]⟩) (fun ys σ H p=>⟨xs,hl _ ys σ H p,Am _⟩) (fun i ys σ H v H' hi p y=>by
  obtain⟨e,y⟩:=y;subst e;exact hs i v ys σ _ (y xs (hl i ys σ _ p)) p) hd
theorem dN{K:Ah}{a:Ae}{xs:List V}{g:TG}{O:TT}{te:TE}{J:St}{H₀:Hp}{Q:VK}(q:Nat→List V→St→Hp→Prop)(Y:q 0 [] J H₀)(hn:xs.length≤sizeLine)(z:∀ i ys σ H,q i ys σ H→ys.length≤i)
  (hl:∀ i ys σ H,q i ys σ H→SqT K H a xs)
  (hs:∀ i x ys σ H,xs[i]?=some x→q i ys σ H→g x σ H fun F H2=>O F H2 fun b M=>if b=true then te F M fun v Z=>q (i + 1) (ys ++ [v]) F Z else q (i + 1) ys F M)
  (hd:∀ ys σ H,q xs.length ys σ H→∀ D,H D=none→Q (.ref D) (upd H D (.lst ys))):qK (Itt K a) g O te J H₀ Q:=
 o0 xs.length q Y hn z (fun i ys σ H h p=>⟨xs,xs[i],hl i ys σ H p,by simp[h]⟩) (fun ys σ H p=>⟨xs,hl _ ys σ H p,Am _⟩) (fun i ys σ H v H' hi p y=>by
  obtain⟨e,y⟩:=y;subst e;exact hs i v ys σ _ (y xs (hl i ys σ _ p)) p) hd
def bA(p:Ae)(H H':Hp):Prop:=∀ b o,H b=some o→b≠p→H' b=some o
theorem bA.refl(p:Ae)(H:Hp):bA p H H:=fun _ _ e _=>e
theorem bA.trans{p:Ae}{H H1 H2:Hp}(a:bA p H H1)(b:bA p H1 H2):bA p H H2:=fun c o e h=>b c o (a c o e h) h
theorem bA.same{p:Ae}{H H1 H2:Hp}(a:bA p H H1)(b:b9 H1 H2):bA p H H2:=fun c o e h=>b c o (a c o e h)
theorem b9.but{p:Ae}{H H1:Hp}(a:b9 H H1):bA p H H1:=fun c o e _=>a c o e
theorem bA.upd{p:Ae}{o:HO}{H H1:Hp}(a:bA p H H1):bA p H (upd H1 p o):=fun c u e h=>by rw[aG h];exact a c u e h
theorem aK{p:Ae}{o:HO}{H:Hp}(h:H p=none):b9 H (upd H p o):=fun c u e=>by rw[aG (aJ e h)];exact e
section
variable{X:Cx}
end
section
variable{X:Cx}
inductive aDR(t:TS)(D:Ends)(σ:St)(H:Hp):Prop
 | mk (R:St→Hp→Prop) (q0:t { D with nx:=R } σ H) (q1:∀ σ' H',R σ' H'→D.nx σ' H'):aDR t D σ H
def aJj(t:TS):TS:=fun D σ H=>aDR t D σ H
theorem fP{st:Cc}{t:TS}(h:PS X st t):PS X st (aJj t):=by
 constructor;intro gz s σ H D I q;obtain⟨R,q1,q2⟩:=q;refine thn (h gz s σ H _ I q1) fun f s' z=>?_;cases f with
 | next=>obtain⟨σ',H',I',r⟩:=z;exact⟨σ',H',I',q2 _ _ r⟩
 | brk=>exact z
 | cont=>exact z
 | ret u=>exact z
inductive aBE(t:TT)(σ:St)(H:Hp)(Q:(Bool→Hp→Prop)):Prop
 | mk (R:Bool→Hp→Prop) (q0:t σ H R) (q1:∀ b H',R b H'→Q b H'):aBE t σ H Q
def aIl(t:TT):TT:=fun σ H Q=>aBE t σ H Q
theorem wS{e:Be}{t:TT}(h:PT X e t):PT X e (aIl t):=by
 constructor;intro gz s σ H Q I q;obtain⟨R,q1,q2⟩:=q;exact thn (h gz s σ H _ I q1) fun b s' ⟨H',F,z⟩=>⟨H',F,q2 _ _ z⟩
end
theorem aHk{xs:List V}{i:Int}(z:0≤i)(h1:i < xs.length):∃ v,v∈xs∧atI xs i=some v:=by
 have q:i.toNat < xs.length:=by omega
 refine⟨xs[i.toNat],BI q,?_⟩;have e:=fU (xs:=xs) (j:=i.toNat) (v:=xs[i.toNat]) (Ai q);rw[Ea z]at e;exact e
def aDS:Be→Bool
 | .Starred ..=>false
 | _=>true
theorem aCG{e:Be}{es:List Be}{env:Env}(h:aDS e=true):starEach (e :: es) env=(false,eval e env) :: starEach es env:=by
 cases e <;> first | rfl | cases h
theorem aF{X:Cx}{e:Be}{es:List Be}{te:TE}{t:TA}(ha:PE X e te)(q:PA X es t)(hs:aDS e=true:=by rfl):PA X (e :: es) (aBu te t):=aFs ha q (aCG hs)
section
variable{X:Cx}
inductive pA(K:Ah)(xs:List V)(H:Hp)(Q:VK):Prop
 | mk (p:Ae) (ns:List Int) (q0:xs=[.ref p]) (q1:SqL K H p (ns.map V.int)) (q2:Q (.int ns.sum) H):pA K xs H Q
def aAT(K:Ah):List V→Hp→VK→Prop:=fun xs H Q=>pA K xs H Q
theorem sQ(hc:X.calm=true):eU X (.builtin "sum") (aAT X.K):=by
 intro gz s σ H xs O Q I r h;obtain⟨p,ns,rfl,hx,q⟩:=h;obtain⟨u,rfl,ru⟩:=eY r;cases ru;obtain⟨its,rv,pl,_⟩:=I.list hx;have hi:F6 its ns:=aAG rv;have hl:=pl.isList;obtain⟨xs,hx'⟩:=hi.allInts.items;have z:s.heap.IsList p (intItems xs):=hx' ▸ hl;refine sum_intListG (I.ok.hd hc) z fun h' tk Y F=>?_;have M:ns=xs.toList.map (·.1):=by
  rw[← nums_intItems,← hx'];exact(show numsOf its.toArray.toList=ns from hi.numsOf).symm
 have J:preSum (numAt xs) xs.size=ns.sum:=by
  rw[preSum_eq,Bg (by simp),M]
 rw[J];exact⟨.int ns.sum,H,I.kept F,⟨_,rfl⟩,q⟩
theorem Inv.turnedL{gz:List (Ae×Obj)}{σ:St}{H:Hp}{s:Ag}{h':Bi}{t':Nat}{fp:List Ae}(I:Inv X gz σ H s)(k:∀ b o,b ∉ fp→s.heap.get? b=some o→h'.get? b=some o)(J:∀ b∈fp,lO X gz H b):
  Inv X gz σ H { s with heap:=h',toks:=t' }:=by
 have F:∀ b u,H b=some u→b ∉ fp:=fun b u e z=>by rw[(J b z).1]at e;cases e
 refine I.step (g':=s.gens) (d':=s.drawn) (ch:=fp) (fun b M=>?_) (fun b o _ _ hc e _=>k b o hc e) (fun b o _ _ hc e _=>⟨o.slots,k b o hc e⟩) (fun _ _ _ _ n=>n)
  (fun b o hc e=>⟨o,k b o hc e⟩) (fun _ _ e=>e) (fun _ _ _ e=>e) (fun b ps e=>⟨#[],by rw[e];simp⟩) (fun m hm=>?_) (fun b u e=>?_) I.bare
 ·obtain⟨_,h1,_,h3,h4,h5⟩:=J b M;exact⟨h3,h1,h4,h5⟩
 ·obtain⟨o,es,ep,ho,r⟩:=hm;exact⟨o,es,ep,k _ o (fun z=>(J _ z).2.1 rfl) ho,r⟩
 ·refine(I.hok b u e).stay (fun c v hc q=>k c v ?_ q) (fun _ q=>q) fun _ _ q=>q;rcases hc with z | z
  ·rw[z];exact F b u e
  ·exact F c _ z
structure ZA(z TI TO i1 i2:Ae):Prop where
 a1:TI≠z
 a2:TO≠z
 a3:i1≠z
 a4:i2≠z
 a5:TI≠TO
 a6:TI≠i1
 a7:TI≠i2
 a8:TO≠i1
 a9:TO≠i2
 a10:i1≠i2
end
def j8(σ:List Str)(v:Str):List Str:=if v∈σ then σ else σ ++ [v]
def hV(val:Nat→Str):Nat→List Str
 | 0=>[]
 | i + 1=>j8 (hV val i) (val i)
theorem rE(σ:List Str)(k:Str):(σ.any fun x=>x == k)=decide (k∈σ):=by
 rw[Ct,Bu,decide_eq_true_iff];constructor
 ·rintro⟨x,hx,e⟩;rw[beq_iff_eq]at e;exact e ▸ hx
 ·intro h;exact⟨k,h,beq_self_eq_true k⟩
theorem aCH(σ:List Str)(v k:Str):((j8 σ v).any fun x=>x == k)=((σ.any fun x=>x == k) || decide (k=v)):=by
 rw[rE,rE];unfold j8;split
 ·next h=>
  rw[Ct];simp only[decide_eq_true_eq,Bool.or_eq_true];constructor
  ·intro z;exact .inl z
  ·rintro(z | z)
   ·exact z
   ·exact z ▸ h
 ·rw[Ct];simp
theorem lB(σ:List Str)(v:Str):(j8 σ v).length=if (σ.any fun x=>x == v)=true then σ.length else σ.length + 1:=by
 rw[rE];unfold j8;by_cases h:v∈σ
 ·rw[Ib h,Ib (Ic h)]
 ·rw[Ia h,Ia (by simpa using h),AD];rfl
theorem pB(val:Nat→Str):∀ i,(hV val i).length≤i
 | 0=>Am _
 | i + 1=>by
  have q:=pB val i;show(j8 _ _).length≤_;rw[lB];split <;> omega
section
variable{X:Cx}
theorem sU(val:Nat→Str):∀ i k,k∈hV val i↔∃ j,j < i∧val j=k
 | 0,k=>by
  show k∈[]↔_;simp
 | i + 1,k=>by
  show k∈j8 (hV val i) (val i)↔_;have q:=sU val i;unfold j8;by_cases h:val i∈hV val i
  ·rw[Ib h,q k];constructor
   ·rintro⟨j,hj,e⟩;exact⟨j,by omega,e⟩
   ·rintro⟨j,hj,e⟩;by_cases z:j=i
    ·subst z;obtain⟨j',hj',e'⟩:=(q _).mp h;exact⟨j',hj',e'.trans e⟩
    ·exact⟨j,by omega,e⟩
  ·rw[Ia h,AS,q k,AF];constructor
   ·rintro(⟨j,hj,e⟩ | e)
    ·exact⟨j,by omega,e⟩
    ·exact⟨i,by omega,e.symm⟩
   ·rintro⟨j,hj,e⟩;by_cases z:j=i
    ·subst z;exact .inr e.symm
    ·exact .inl ⟨j,by omega,e⟩
theorem vH(val:Nat→Str):∀ i,(hV val i).length=i↔((AV i).map val).Nodup
 | 0=>by simp[hV]
 | i + 1=>by
  have F:=vH val i;have J:=pB val i;show(j8 (hV val i) (val i)).length=_↔_;rw[lB,rE,Ds,Az,Bn];have hm:val i∈hV val i↔val i∈(AV i).map val:=by
   rw[sU,AR];constructor
   ·rintro⟨j,hj,e⟩;exact⟨j,BU.mpr hj,e⟩
   ·rintro⟨j,hj,e⟩;exact⟨j,BU.mp hj,e⟩
  by_cases h:val i∈hV val i
  ·rw[Ib (Ic h)];constructor
   ·intro z;omega
   ·rintro⟨_,_,z⟩;exact absurd rfl (z _ (hm.mp h) _ (by simp))
  ·rw[Ia (by simpa using h)];constructor
   ·intro z;refine⟨F.mp (by omega),by simp,fun a ha b M e=>?_⟩;have q:b=val i:=by simpa using M
    subst q;exact h (hm.mpr (e ▸ ha))
   ·rintro⟨z,_,_⟩;rw[F.mpr z]
theorem aCI(ss:List Str):decide (((hV (fun i=>ss.getD i "") ss.length).length:Int)=(ss.length:Int))=decide ss.Nodup:=by
 have e:(AV ss.length).map (fun i=>ss.getD i "")=ss:=by
  apply List.ext_getElem?;intro j;rw[An];by_cases h:j < ss.length
  ·rw[List.getElem?_range h,Ai h];simp[h]
  ·rw[CC (by rw[C9];omega),CC (by omega)];rfl
 have:=vH (fun i=>ss.getD i "") ss.length;rw[e]at this;rw[decide_eq_decide,← this];omega
inductive yL(K:Ah)(x:V)(y:V)(H:Hp)(Q:VK):Prop
 | mk (a:_) (b:_) (ys:_) (q0:x=.ref a) (q1:y=.ref b) (q2:SqT K H a []) (q3:SqT K H b ys) (q4:Q (.ref b) H):yL K x y H Q
def aHl(K:Ah):R2:=fun x y H Q=>yL K x y H Q
theorem aDT:OpR X (binaryOp .Add) (aHl X.K):=by
 intro gz s σ H x y v u Q I z F h;obtain⟨a,b,ys,rfl,rfl,ha,hb,q⟩:=h;cases z;cases F;obtain⟨its,r1,p1,_⟩:=I.tuple ha;obtain⟨its2,r2,p2,_⟩:=I.tuple hb;cases r1;obtain⟨⟨cls,dd,data,sl⟩,ho,hc,n,hd⟩:=id p1;obtain⟨⟨cls2,dd2,data2,sl2⟩,ho2,hc2,n2,hd2⟩:=id p2;simp only at hc hd hc2 hd2;subst hc hd hc2 hd2;exact GZ ⟨_,ho,rfl⟩ ⟨_,ho2,rfl⟩ Gb GG EG Ew (En _ _)
   (tuple_addW0 a b _ _ n n2 dd dd2 sl sl2 (by simp)) ⟨ho,ho2,⟨.ref b,H,I,rfl,q⟩⟩
end
section
variable{prog:AC}{w:AT}{A:AU}{E:Ad→Ag→Prop}{s:Ag}
end
section
variable{X:Cx}{e st:Be}{te ts:TE}{pos p2:Pos}
end
section
variable{X:Cx}
end
mutual
inductive RdV(m:Bool)(H:Hp):V→Bb→Prop
 | non:RdV m H .non .none
 | bl (b:Bool):RdV m H (.bl b) (.bool b)
 | int (i:Int):RdV m H (.int i) (.int i)
 | str (z:Str) (h:z.length≤1000):RdV m H (.str z) (.str z)
 | lst {a:Ae} {xs:List V} {ds:List Bb} (hm:m=true) (e:H a=some (.lst xs)) (hl:xs.length≤1000) (r:cD m H xs ds):RdV m H (.ref a) (.list ds)
 | tup {a:Ae} {xs:List V} {ds:List Bb} (e:H a=some (.tup xs)) (hl:xs.length≤1000) (r:cD m H xs ds):RdV m H (.ref a) (.tuple ds)
 | dct {a:Ae} (hm:m=false) (e:H a=some (.dK [])):RdV m H (.ref a) (.dict [])
inductive cD(m:Bool)(H:Hp):List V→List Bb→Prop
 | nil:cD m H [] []
 | cons {x:V} {d:Bb} {xs:List V} {ds:List Bb} (a:RdV m H x d) (r:cD m H xs ds):cD m H (x :: xs) (d :: ds)
end
mutual
theorem RdV.keep{m:Bool}{H H':Hp}(k:∀ a o,H a=some o→(∀ q r,o≠.dK (q :: r))→H' a=some o):∀{x:V}{d:Bb},RdV m H x d→RdV m H' x d
 | _,_,.non=>.non
 | _,_,.bl b=>.bl b
 | _,_,.int i=>.int i
 | _,_,.str z h=>.str z h
 | _,_,.lst hm e hl r=>.lst hm (k _ _ e (fun _ _ z=>nomatch z)) hl (cD.keep k r)
 | _,_,.tup e hl r=>.tup (k _ _ e (fun _ _ z=>nomatch z)) hl (cD.keep k r)
 | _,_,.dct hm e=>.dct hm (k _ _ e (fun _ _ z=>nomatch z))
theorem cD.keep{m:Bool}{H H':Hp}(k:∀ a o,H a=some o→(∀ q r,o≠.dK (q :: r))→H' a=some o):∀{xs:List V}{ds:List Bb},cD m H xs ds→cD m H' xs ds
 | _,_,.nil=>.nil
 | _,_,.cons a r=>.cons (RdV.keep k a) (cD.keep k r)
end
theorem cD.same{m:Bool}{H H':Hp}{x:List V}{d:List Bb}(h:cD m H x d)(s:b9 H H'):cD m H' x d:=h.keep fun a o e _=>s a o e
theorem cD.len{m:Bool}{H:Hp}:∀{xs:List V}{ds:List Bb},cD m H xs ds→xs.length=ds.length
 | _,_,.nil=>rfl
 | _,_,.cons _ r=>by rw[AK,AK,cD.len r]
theorem cD.app{m:Bool}{H:Hp}:∀{xs:List V}{ds:List Bb}{ys:List V}{es:List Bb},cD m H xs ds→cD m H ys es→cD m H (xs ++ ys) (ds ++ es)
 | _,_,_,_,.nil,h=>h
 | _,_,_,_,.cons a r,h=>.cons a (cD.app r h)
theorem cD.at{m:Bool}{H:Hp}:∀{xs:List V}{ds:List Bb}{i:Nat}{x:V},cD m H xs ds→xs[i]?=some x→∃ d,ds[i]?=some d∧RdV m H x d
 | _,_,0,_,.cons a r,e=>by simp at e;subst e;exact⟨_,rfl,a⟩
 | _,_,i + 1,_,.cons a r,e=>by simp at e;simpa using cD.at r e
section
variable{X:Cx}
mutual
theorem RdV.reads{gz:List (Ae×Obj)}{σ:St}{m:Bool}{H:Hp}{s:Ag}(I:Inv X gz σ H s):∀{x:V}{d:Bb}{v:Ad},RdV m H x d→cG x v→∃ as,Reads s.heap v d as∧(m=true→d.hasDict=false)∧(m=false→¬ sysModules∈as)
 | _,_,_,.non,r=>by cases r;exact⟨[],.none,fun _=>rfl,fun _=>by simp⟩
 | _,_,_,.bl b,r=>by cases r;exact⟨[],.bool b,fun _=>rfl,fun _=>by simp⟩
 | _,_,_,.int i,r=>by obtain⟨t,rfl⟩:=r;exact⟨[],.int i t,fun _=>rfl,fun _=>by simp⟩
 | _,_,_,.str z _,r=>by obtain⟨t,rfl⟩:=r;exact⟨[],.str z t,fun _=>rfl,fun _=>by simp⟩
 | _,_,_,.lst hm e _ rs,r=>by
  cases r;obtain⟨_,its,n,rv,eo⟩:cS X.prog X.w H s.heap _ (.lst _):=I.hok _ _ e;obtain⟨as,ra,h1,h2⟩:=cD.reads I rs rv;exact⟨_,.list eo rfl rfl (by simpa using ra),fun _=>h1 hm,fun z=>by rw[hm]at z;cases z⟩
 | _,_,_,.tup e _ rs,r=>by
  cases r;obtain⟨_,its,rv,pt⟩:cS X.prog X.w H s.heap _ (.tup _):=I.hok _ _ e;obtain⟨as,ra,h1,h2⟩:=cD.reads I rs rv;obtain⟨o,eo,⟨hc,n,hd⟩,_⟩:=pt;exact⟨as,.tuple eo hc hd (by simpa using ra),h1,h2⟩
 | _,_,_,.dct hm e,r=>by
  cases r;obtain⟨_,hs,vs,kv,o,es,ep,eo,hx,hd,hk,hp,_⟩:cS X.prog X.w H s.heap _ (.dK []):=I.hok _ _ e;cases kv;have q:es.toList=[]:=by
   cases h:es.toList with
   | nil=>rfl
   | cons y r=>rw[h]at hp;cases hp
  refine⟨_,Reads.dict (kvs:=[]) (as:=[]) (bs:=[]) eo hx.1 hd (by rw[q];exact .nil) (by rw[q];exact .nil),(fun z=>by rw[hm]at z;cases z),fun _=>?_⟩;intro z;simp at z;rw[z]at hs;simp at hs
theorem cD.reads{gz:List (Ae×Obj)}{σ:St}{m:Bool}{H:Hp}{s:Ag}(I:Inv X gz σ H s):∀{xs:List V}{ds:List Bb}{vs:List Ad},cD m H xs ds→bX xs vs→∃ as,ReadsAll s.heap vs ds as∧(m=true→Bd ds=false)∧(m=false→¬ sysModules∈as)
 | _,_,_,.nil,.nil=>⟨[],.nil,fun _=>rfl,fun _=>by simp⟩
 | _,_,_,.cons a r,.cons F q=>by
  obtain⟨as,h1,h2,h3⟩:=RdV.reads I a F;obtain⟨bs,g1,g2,g3⟩:=cD.reads I r q;refine⟨as ++ bs,.cons h1 g1,fun z=>?_,fun z w=>?_⟩
  ·unfold Bd;rw[h2 z,g2 z];rfl
  ·rcases AS.mp w with w | w
   ·exact h3 z w
   ·exact g3 z w
end
inductive nQ(xs:List V)(H:Hp)(Q:VK):Prop
 | mk (a:Ae) (m:Bool) (d:Bb) (q0:xs=[.ref a]) (q1:RdV m H (.ref a) d) (q2:d.showable=true) (q3:d.depth≤20) (q4:d.shown.length≤sizeLine) (q5:Q (.str d.shown) H):nQ xs H Q
def yM:List V→Hp→VK→Prop:=fun xs H Q=>nQ xs H Q
theorem aCJ{k:Nat}(F:dG k X.A):eU X (.builtin "repr") yM:=by
 intro gz s σ H xs M Q I r h;obtain⟨a,m,d,rfl,hx,hs,hd,hz,q⟩:=h;obtain⟨u,rfl,ru⟩:=eY r;cases ru;obtain⟨as,hrd,h1,h2⟩:=RdV.reads I hx rfl;refine repr_of_reads' hrd hs (fun z=>?_) F.gd (by have:=F.un;omega) (fun b o e=>e) (fun h' u tk J=>⟨.str d.shown,H,I.kept (t':=tk) J,⟨u,rfl⟩,q⟩) hz;cases m with
 | true=>rw[h1 rfl]at z;cases z
 | false=>exact h2 rfl
end
section
variable{prog:AC}{w:AT}{A:AU}{E:Ad→Ag→Prop}{s:Ag}
theorem pC{t F:Ae}{items:Array Ad}{J M:Ad}{lo hi:Option Int}{Q:Ad→Ag→Prop}(ht:EH s.heap t items)(hs:s.heap.IsSliceOf F J M .none)(pl:Fk J lo)(O:Fk M hi)
  (hw:HT.sIx items.size 0 lo=0∧HT.sIx items.size items.size hi=items.size) (h:Q (.ref t) s):wpAny (model prog w) A (getItem (.ref t) (.ref F)) Q E s:=by
 obtain⟨os,hos,hcs,hds⟩:=id hs;have z:s.TypeIs (.ref F) "slice":=⟨os,hos,hcs⟩
 unfold getItem
 try with_reducible refine Bh ?_
 first | refine Ab (Af ?_) | skip
 refine Ab (wpAny_sequenceKey ht.typeIs (by decide) ?_);refine Ab (E7 (name:=BF "__getitem__") ht.typeIs BQ
  (Ce BQ ht.typeIs entry_tuple_getitem ?_ (args_tuple_getitem _ _)))
 show wpAny _ _ (Builtin.Tuple.tupleItemsOf (.ref t) >>= _) _ _ s;refine Ab (tupleItemsOf_ ht ?_);refine Ab (Cj z ?_);rw[Ib (by decide)];refine Ab (HT.sliceApplied_gen hs pl O ?_);have q:(((HT.sIx items.size 0 lo:Nat):Int) == 0 && (1:Int) == 1 && (HT.sIx items.size items.size hi - HT.sIx items.size 0 lo) == items.size)=true:=by
  rw[hw.1,hw.2];simp
 show wpAny _ _ (if (((HT.sIx items.size 0 lo:Nat):Int) == 0 && (1:Int) == 1 && (HT.sIx items.size items.size hi - HT.sIx items.size 0 lo) == items.size)=true then _ else _) _ _ s;rw[Ib q];obtain⟨⟨cls,dd,data,sl'⟩,ho,hc,n,hd⟩:=id ht;simp only at hc hd;subst hc hd
 wp_walk
 exact⟨_,rfl,Af h⟩
end
section
variable{X:Cx}
inductive aDU(K:Ah)(x:V)(lo:Option Int)(hi:Option Int)(H:Hp)(Q:VK):Prop
 | mk (a:_) (xs:_) (q0:x=.ref a) (q1:H a=some (.tup xs)) (q2:∀ r H',b9 H H'→H' r=some (.tup (pY xs lo hi))→Q (.ref r) H'):aDU K x lo hi H Q
def aJk(K:Ah):V→Option Int→Option Int→Hp→VK→Prop:=fun x lo hi H Q=>aDU K x lo hi H Q
theorem aBF:SlR X (aJk X.K):=by
 intro gz s σ H x v Y O lo hi Z Q I F hs pl J h;obtain⟨a,xs,rfl,hx,q⟩:=h;by_cases hw:HT.sIx xs.length 0 lo=0∧HT.sIx xs.length xs.length hi=xs.length
 ·cases F;obtain⟨its,r,ht,hz⟩:=I.tuple (aH hx);have z:its.toArray.size=xs.length:=by rw[Aq];exact r.length.symm
  refine⟨"tuple",_,BQ.lookup,ht.typeIs,pC ht hs pl J (by rw[z];exact hw) ⟨.ref a,H,I,rfl,q a H (b9.refl H) ?_⟩⟩;have e:pY xs lo hi=xs:=by
   unfold pY;rw[hw.1,hw.2,El,Gv,AM]
  rw[e];exact hx
 ·exact aG9 gz s σ H _ v Y O lo hi Z Q I F hs pl J ⟨a,xs,rfl,aH hx,hw,fun p M=>q p _ (aK M) aA⟩
inductive aBG(x:V)(y:V)(H:Hp)(Q:VK):Prop
 | mk (a:_) (b:_) (xs:_) (ys:_) (q0:x=.ref a) (q1:y=.ref b) (q2:H a=some (.tup xs)) (q3:H b=some (.tup ys)) (q4:xs.length + ys.length≤1000000) (q5:∀ r H',b9 H H'→H' r=some (.tup (xs ++ ys))→Q (.ref r) H'):aBG x y H Q
def aIm:R2:=fun x y H Q=>aBG x y H Q
theorem aFF:OpR X (binaryOp .Add) aIm:=by
 intro gz s σ H x y v u Q I z J h;obtain⟨a,b,xs,ys,rfl,rfl,ha,hb,hz,q⟩:=h;by_cases F:xs=[]
 ·subst F;exact aDT gz s σ H _ _ v u Q I z J ⟨a,b,ys,rfl,rfl,aH ha,aH hb,q b H (b9.refl H) hb⟩
 ·refine aFv gz s σ H _ _ v u Q I z J ⟨a,b,xs,ys,rfl,rfl,aH ha,aH hb,F,aP hz,fun h1=>?_,fun h1 p M=>q p _ (aK M) aA⟩;subst h1;exact q a H (b9.refl H) (by rw[BN];exact ha)
theorem wT{α:Type}(xs:List V)(n:Nat):pY xs none (some (n:Int))=xs.take n:=by
 unfold pY;rw[HT.sIx_none,HT.sIx_nat,El,Gv];by_cases h:n≤xs.length
 ·rw[C4 h]
 ·rw[EQ (by omega),AM,Bg (by omega)]
theorem aDV{α:Type}(xs:List V)(n:Nat):pY xs (some (n:Int)) none=xs.drop n:=by
 unfold pY;rw[HT.sIx_none,HT.sIx_nat];by_cases h:n≤xs.length
 ·rw[C4 h];exact Bg (by rw[B9];exact Am _)
 ·rw[EQ (by omega),DH (Am _),DH (by omega),List.take_nil]
mutual
theorem RdV.flip{H:Hp}:∀{x:V}{d:Bb},RdV false H x d→d.hasDict=false→∀ m,RdV m H x d
 | _,_,.non,_,_=>.non
 | _,_,.bl b,_,_=>.bl b
 | _,_,.int i,_,_=>.int i
 | _,_,.str z h,_,_=>.str z h
 | _,_,.lst hm _ _ _,_,_=>nomatch hm
 | _,_,.tup e hl r,h,m=>.tup e hl (cD.flip r (by unfold Dz at h;exact h) m)
 | _,_,.dct _ _,h,_=>by unfold Dz at h;cases h
theorem cD.flip{H:Hp}:∀{xs:List V}{ds:List Bb},cD false H xs ds→Bd ds=false→∀ m,cD m H xs ds
 | _,_,.nil,_,_=>.nil
 | _,_,.cons a r,h,m=>by
  unfold Bd at h;rw[Bool.or_eq_false_iff]at h;exact .cons (RdV.flip a h.1 m) (cD.flip r h.2 m)
end
mutual
theorem RdV.keepF{H H':Hp}(k:∀ a o,H a=some o→(∀ q r,o≠.dK (q :: r))→(∀ xs,o≠.lst xs)→H' a=some o):∀{x:V}{d:Bb},RdV false H x d→RdV false H' x d
 | _,_,.non=>.non
 | _,_,.bl b=>.bl b
 | _,_,.int i=>.int i
 | _,_,.str z h=>.str z h
 | _,_,.lst hm _ _ _=>nomatch hm
 | _,_,.tup e hl r=>.tup (k _ _ e (fun _ _ z=>nomatch z) (fun _ z=>nomatch z)) hl (cD.keepF k r)
 | _,_,.dct hm e=>.dct hm (k _ _ e (fun _ _ z=>nomatch z) (fun _ z=>nomatch z))
theorem cD.keepF{H H':Hp}(k:∀ a o,H a=some o→(∀ q r,o≠.dK (q :: r))→(∀ xs,o≠.lst xs)→H' a=some o):∀{xs:List V}{ds:List Bb},cD false H xs ds→cD false H' xs ds
 | _,_,.nil=>.nil
 | _,_,.cons a r=>.cons (RdV.keepF k a) (cD.keepF k r)
end
end
open PySem PySem.Spec PyProof.Rows PySem.W
def i4{α:Type}(n:Nat)(P:α→Prop):KasT α→Prop
 | .ret a=>P a
 | .ask i j k=>i < n∧j < n∧∀ b,i4 n P (k b)
theorem i4.bind{α β:Type}{n:Nat}{P:α→Prop}{Q:β→Prop}{f:α→KasT β}:∀{t:KasT α},i4 n P t→(∀ a,P a→i4 n Q (f a))→i4 n Q (t.bind f)
 | .ret a,h,g=>by rw[KasT.bind.eq_1];exact g a h
 | .ask i j k,h,g=>by
  rw[KasT.bind.eq_2];exact⟨h.1,h.2.1,fun b=>i4.bind (h.2.2 b) g⟩
def Pm(n:Nat)(p:Array Nat):Prop:=p.Perm (AV n).toArray
theorem Pm.lt{n:Nat}{p:Array Nat}(h:Pm n p)(hn:0 < n)(i:Nat):p.getD i 0 < n:=by
 by_cases hi:i < p.size
 ·have hm:p[i]∈(AV n).toArray:=h.mem_iff.mp (Array.getElem_mem hi);have:p[i] < n:=by simpa using hm
  rw[Array.getD_eq_getD_getElem?,Bo hi];exact this
 ·rw[Array.getD_eq_getD_getElem?,ES (by omega)];exact hn
theorem Pm.rev{n:Nat}{p:Array Nat}(h:Pm n p)(i j:Nat):Pm n (kas_rev p i j):=(mirror_perm p i j _).trans h
theorem Pm.bub{n:Nat}{p:Array Nat}(h:Pm n p)(i j:Nat):Pm n (bubble p i j):=(bubble_perm p i j).trans h
section
variable{n:Nat}(hn:0 < n)
include hn
theorem sV{p:Array Nat}(h:Pm n p):∀(f x:Nat),i4 n (fun _=>True) (kas_asc p f x)
 | 0,x=>by rw[kas_asc.eq_1];trivial
 | f + 1,x=>by
  rw[kas_asc.eq_2];refine⟨h.lt hn _,h.lt hn _,fun b=>?_⟩;cases b
  ·exact sV h f (x + 1)
  ·exact trivial
theorem m7:∀(f:Nat) {p:Array Nat} (x y:Nat),Pm n p→i4 n (fun r=>Pm n r.1) (kas_desc f p x y)
 | 0,p,x,y,h=>by rw[kas_desc.eq_1];exact h
 | f + 1,p,x,y,h=>by
  rw[kas_desc.eq_2];refine⟨h.lt hn _,h.lt hn _,fun b=>?_⟩;cases b
  ·refine⟨h.lt hn _,h.lt hn _,fun b=>?_⟩;cases b
   ·exact m7 f _ _ h
   ·exact h
  ·show i4 n _ (if y > 0 then _ else _);split
   ·exact m7 f _ _ (h.rev _ _)
   ·exact m7 f _ _ h
theorem n9{p:Array Nat}(h:Pm n p)(k:Nat):∀(f x y:Nat),i4 n (fun _=>True) (kas_place p k f x y)
 | 0,x,y=>by rw[kas_place.eq_1];trivial
 | f + 1,x,y=>by
  rw[kas_place.eq_2];split
  ·trivial
  ·refine⟨h.lt hn _,h.lt hn _,fun b=>?_⟩;cases b
   ·exact n9 h k f _ _
   ·exact n9 h k f _ _
theorem yN:∀(f:Nat) {p:Array Nat} (x:Nat),Pm n p→i4 n (Pm n) (kas_bin f p x)
 | 0,p,x,h=>by rw[kas_bin.eq_1];exact h
 | f + 1,p,x,h=>by
  rw[kas_bin.eq_2];exact(n9 hn h x _ _ _).bind fun l _=>yN f _ (h.bub _ _)
theorem sW{p:Array Nat}(h:Pm n p)(a b:Nat):i4 n (fun r=>Pm n r.2) (kas_tail3 a b p):=by
 unfold kas_tail3;exact(sV hn (h.rev _ _) _ _).bind fun m _=>h.rev _ _
theorem nS{p:Array Nat}(h:Pm n p)(a b:Nat):i4 n (fun r=>Pm n r.2) (kas_descPart a b p):=by
 unfold kas_descPart;refine(m7 hn _ _ _ h).bind fun r q=>?_;split
 ·exact sW hn (q.rev _ _) _ _
 ·exact sW hn q _ _
theorem aAU{p:Array Nat}(h:Pm n p)(a:Nat):i4 n (fun r=>Pm n r.2) (kas_count a p):=by
 unfold kas_count;refine(sV hn h _ _).bind fun m _=>?_;split
 ·exact h
 ·split
  ·refine⟨h.lt hn _,h.lt hn _,fun b=>?_⟩;cases b
   ·exact nS hn (h.rev _ _) _ _
   ·exact h
  ·exact nS hn h _ _
theorem vI:i4 n (Pm n) (kas_sort n):=by
 unfold kas_sort;refine(aAU hn (CU _) n).bind fun r q=>?_;split
 ·exact yN hn _ _ q
 ·exact q
end
section
variable{prog:AC}{w:AT}{A:AU}{E:Ad→Ag→Prop}{s:Ag}
theorem aBH{a b:Int}{t u:Tok}{Q:Bool→Ag→Prop}(h:∀ b,Q b s):wpAny (model prog w) A (oneLt' false (Bt a t) (Bt b u)) Q E s:=by
 rw[oneLt'_eq];show wpAny _ _ (compareOp .Lt (Bt a t) (Bt b u) >>= _) _ _ _;refine Ab (lt_int ?_)
 wp_walk
 exact h _
theorem dR{x:Ae}{its:Array Ad}{Q:Array Ad→Ag→Prop}(q:EH s.heap x its)(h:Q its s):wpAny (model prog w) A (B6 (AA x)) Q E s:=by
 obtain⟨⟨cls,dd,data,sl⟩,ho,hc,n,hd⟩:=id q;simp only at hc hd;subst hc hd;unfold B6
 wp_walk
 exact h
end
section
variable{prog:AC}{w:AT}{A:AU}{E:Ad→Ag→Prop}{s:Ag}
inductive aDW(h:Bi)(v:Ad):Prop
 | mk (t:_) (a:_) (b:_) (c:_) (u1:_) (u2:_) (u3:_) (q0:v=.ref t) (q1:EH h t #[.int a u1,.int b u2,.str c u3]):aDW h v
def aJF(h:Bi)(v:Ad):Prop:=aDW h v
theorem i5{α β:Type}{f:α→Sem β}{R:α→β→Prop}:∀(l:List α) {Q:List β→Ag→Prop},(∀ v∈l,∃ r,R v r∧∀ O:β→Ag→Prop,O r s→wpAny (model prog w) A (f v) O E s)→(∀ rs:List β,rs.length=l.length→(∀ r∈rs,∃ v∈l,R v r)→Q rs s)→wpAny (model prog w) A (List.mapM f l) Q E s
 | [],Q,_,q=>by
  rw[List.mapM_nil];exact Af (q [] rfl fun r F=>by simp at F)
 | a :: l,Q,h,q=>by
  rw[List.mapM_cons];obtain⟨r,F,hw⟩:=h a Al;refine Ab (hw _ (Ab (i5 l (fun v hv=>h v (Ap _ hv)) fun rs hl J=>Af (q (r :: rs) (by rw[AK,AK,hl]) fun z M=>?_))));rcases Ak.mp M with rfl | M
  ·exact⟨a,Al,F⟩
  ·obtain⟨v,hv,hR⟩:=J z M;exact⟨v,Ap _ hv,hR⟩
end
section
variable{prog:AC}{w:AT}{A:AU}{E:Ad→Ag→Prop}{s:Ag}
theorem aIo{a kS:Ae}{st:Bk}{keys:Array Ad}{e e1:Nat}{P:FJ→Ag→Prop}(ha:s.heap.get? a=some (seqObj "list" #[] e1))(J:s.heap.get? kS=some (seqObj "list" keys e))(z:a≠kS)(F:keys.size≤sizeLine)(O:(arrOf st).size≤sizeLine)(M:failedOf st=none)
  (h:P (Fin.done (Gx Dr)) { s with heap:=(s.heap.update kS (A6 fun _=>#[])).update a (A6 fun _=>(arrOf st).map (·.2)) }):wpAny (model prog w) A (ksk_tail a false e1 (.ref kS) st) P E s:=by
 unfold ksk_tail;refine Ab (CF J rfl ?_ F (A0 _));refine Ab (wpAny_letGo ?_);have q:(s.heap.update kS (A6 fun _=>#[])).get? a=some (seqObj "list" #[] e1):=by
  rw[Bs _ _ _ _ z];exact ha
 refine Ab (Ee q rfl ?_);refine Ab (CF q rfl ?_ (A0 _) (by show((arrOf st).map (·.2)).size≤_;rw[Array.size_map];omega))
 rw[M];refine AQ (by simp) ?_;exact Af h
end
theorem aCK:∀{out its:List Ad},out.Perm its→∀{xs:List V},bX xs its→∃ ys:List V,ys.Perm xs∧bX ys out:=by
 intro out its Z
 induction Z with
 | nil=>intro xs r;exact⟨xs,.refl _,r⟩
 | cons a _ O=>
  intro xs r;cases r with
  | cons z F=>
   obtain⟨ys,h1,h2⟩:=O F;exact⟨_ :: ys,h1.cons _,.cons z h2⟩
 | swap a b l=>
  intro xs r;cases r with
  | cons z F=>
   cases F with
   | cons M Y=>exact⟨_ :: _ :: _,.swap _ _ _,.cons M (.cons z Y)⟩
 | trans _ _ q J=>
  intro xs r;obtain⟨ys,h1,h2⟩:=J r;obtain⟨zs,h3,h4⟩:=q h2;exact⟨zs,h3.trans h1,h4⟩
section
variable{X:Cx}{gz:List (Ae×Obj)}{σ:St}
inductive aDX(H:Hp)(v:Ad):Prop
 | mk (t:_) (a:_) (b:_) (c:_) (q0:v=.ref t) (q1:H t=some (.tup [.int a,.int b,.str c])):aDX H v
def aJG(H:Hp)(v:Ad):Prop:=aDX H v
end
section
variable{X:Cx}{gz:List (Ae×Obj)}{σ:St}{H:Hp}{s:Ag}
end
section
variable{X:Cx}{e:Be}{ta:TA}
end
open PySem.SeqAt
open PySem.AutoSeq1 (wpAny_loadPart')
open PySem.MeetsSeq PySem.MeetsSeq2 PySem.MeetsSeq3
theorem yO{X:Cx}{gz:List (Ae×Obj)}{σ:St}{H:Hp}{s:Ag}{t:Ae}{a b:Int}{c:Str}(I:Inv X gz σ H s)(ht:H t=some (.tup [.int a,.int b,.str c])):∃ z F J,EH s.heap t #[.int a z,.int b F,.str c J]:=by
 obtain⟨_,its,q,hT⟩:cS X.prog X.w H s.heap t (.tup [.int a,.int b,.str c]):=I.hok _ _ ht;cases q with
 | cons O q=>
  cases q with
  | cons Y q=>
   cases q with
   | cons M q=>
    cases q;obtain⟨z,e1⟩:=O;obtain⟨F,e2⟩:=Y;obtain⟨J,e3⟩:=M;subst e1 e2 e3;exact⟨z,F,J,hT⟩
inductive aGA(X:Cx)(k:Nat)(ps:List Str)(f:Ae)(sp:Sp):Prop
 | mk (fd:A3) (q0:cP X.prog X.w X.K X.mg X.base CX0 k f fd ps sp) (q1:AO X.K (.ref f)=true) (q2:d9 X.K fd ps []):aGA X k ps f sp
def FnV(X:Cx)(k:Nat)(ps:List Str)(f:Ae)(sp:Sp):Prop:=aGA X k ps f sp
def aHm(X:Cx)(k:Nat)(ps:List Str)(tv:TE)(t:TA):TE:=fun σ H Q=>tv σ H fun v H1=>∃(f:Ae) (sp:Sp),v=.ref f∧FnV X k ps f sp∧t σ H1 fun vs H2=>sp vs H2 Q E0
theorem aDY{X:Cx}{k:Nat}{ps:List Str}{x:Str}{p pos:Pos}{e:Be}{es:List Be}{tv:TE}{t:TA}(hv:PE X (.Name x p) tv)(Z:dG k X.A)(ha:PA X (e :: es) t)
  (he:starEach (e :: es) X.env=(false,eval e X.env) :: starEach es X.env:=by rfl) (z:(backTo pos (starEach es X.env)).any (·.1)=false:=by rfl):
  PE X (.Call (.Name x p) (e :: es) [] pos) (aHm X k ps tv t):=by
 constructor;intro gz s σ H Q I h;refine C8 (thn (hv gz s σ H _ I h) fun u s1 ⟨y,H1,J,ry,f,sp,O,⟨fd,F,Y,hb⟩,h2⟩=>?_);subst O;cases ry;refine Fi (h₀:=X.base) J.ok.mod.kin Y (thn (ha pos gz s1 σ H1 _ J h2) fun us s2 ⟨vs,H2,M,r,q⟩=>⟨M.kIn,?_⟩) he z;exact aDr F Z hb .nil dJ M r (by rw[BN];exact q)
def aIp(iz:List (Key×V))(ty:TE):TE:=fun σ H Q=>ty σ H fun y H2=>∃ k v,y=kV k∧bS iz k=some v∧Q v H2
theorem aFG{X:Cx}{i:Be}{x:Str}{ty:TE}{a:Ae}{vs:List (Key×Ad)}{iz:List (Key×V)}{p pos:Pos}(hd:∀ h:Bi,X.K.In h→h.DictOf (cF X.prog X.w) a vs)(rel:KV iz vs)(M:Gl X x)(hm:X.mg x=some (.ref a))(hi:PE X i ty)(hs:aHc i)(q:(x == ("__debug__":Str))=false:=by decide):
  PE X (.Subscript (.Name x p) i pos) (aIp iz ty):=by
 constructor;intro gz s σ H Q I h;have ho:PE X (.Name x p) (tC (.ref a)):=aFn M hm rfl q;refine aBA PySem.F.slot_dict_getitem.lookup hs (thn (ho gz s σ H (fun v H1=>v=.ref a∧ty σ H1 fun y H2=>∃ k v,y=kV k∧bS iz k=some v∧Q v H2) I ⟨rfl,h⟩) fun u s1 ⟨x,H1,Y,rx,ex,q1⟩=>thn (hi gz s1 σ H1 _ Y q1) fun iv s2 ⟨y,H2,z,ry,k,v,O,l,Z⟩=>?_);subst ex O;obtain rfl:u=AA a:=rx;have J:=hd s2.heap z.kIn;refine⟨?_,?_⟩
 ·obtain⟨o,es,ep,e,hx,_⟩:=J;exact⟨o,e,hx.1⟩
 ·obtain⟨w',hw,rw'⟩:=lR.some_of (v:=v) (o:=valueAt vs k) (by rw[← l];exact rel.val k);exact wpAny_getItem_of (nN ry) J.mapOf hw ⟨v,H2,z.tok _,rw',Z⟩
section
variable{X:Cx}{gz:List (Ae×Obj)}{σ:St}{H:Hp}{s:Ag}{A:AU}{E:Ad→Ag→Prop}{Q:Ad→Ag→Prop}{b:Bool}
end
theorem tD:∀{ss:List Str}{q:List Ad},bX (ss.map V.str) q→D8 q ss
 | [],_,r=>by rw[CL]at r;cases r;exact .nil
 | s :: ss,_,r=>by
  rw[Av]at r;cases r with
  | cons z F=>
   obtain⟨t,e⟩:=z;subst e;exact .cons s t (tD F)
theorem lC:∀{q:List Ad}{ns:List Str},D8 q ns→bX (ns.map V.str) q
 | _,_,.nil=>.nil
 | _,_,.cons i t r=>.cons ⟨t,rfl⟩ (lC r)
def aAV(w:AT)(es:Array (Int×Ad))(t:C1):Prop:=t.led=!w.params.followText "set-order"∧(es.size=0∨t.plain=false)
def lP(prog:AC)(w:AT)(h:Bi)(a:Ae)(S:Str→Bool)(n:Nat):Prop:=
 ∃ o es ep t,h.get? a=some o∧o.ExactSet∧o.data=.set es ep t∧ElemsOf (BJ prog w) es.toList∧(∀ k,S k=true↔∃ e∈es.toList,(BJ prog w).is k e.2=true)
  ∧es.size < scanBound∧t.fits es.size=true∧es.size=n∧aAV w es t
theorem lP.at{prog:AC}{w:AT}{h h':Bi}{a:Ae}{S:Str→Bool}{n:Nat}(x:lP prog w h a S n)(e:∀ o,h.get? a=some o→h'.get? a=some o):lP prog w h' a S n:=by
 obtain⟨o,es,ep,t,h1,r⟩:=x;exact⟨o,es,ep,t,e o h1,r⟩
theorem lP.congr{prog:AC}{w:AT}{h:Bi}{a:Ae}{S S':Str→Bool}{n q:Nat}(x:lP prog w h a S n)(e:∀ k,S k=S' k)(z:n=q):lP prog w h a S' q:=by
 have F:S=S':=funext e;subst F z;exact x
theorem uK(t:C1)(n:Nat):(t.orStandIn n).led=t.led:=by
 unfold SetTable.orStandIn;split <;> rfl
theorem aAW(t:C1)(es:Array (Int×Ad))(h:Int)(x:Ad):(layNew t es h x).2.1.led=t.led:=by
 unfold layNew;split
 ·exact uK _ _
 ·rfl
theorem uL(t:C1)(es:Array (Int×Ad))(n:Nat)(z:t.plain=false):(relayAll t es n).2.1.led=t.led∧(relayAll t es n).2.1.plain=false:=by
 unfold relayAll;split
 ·next t' ord e=>
  dsimp only;split
  ·dsimp only;unfold SetTable.relaid SetTable.laid at e;cases q:SetTable.layClean (SetTable.sizeAbove n - 1) (es.map (·.1))with
   | none=>rw[q]at e;cases e
   | some ow=>
    rw[q]at e;cases e;exact⟨rfl,z⟩
  ·exact⟨rfl,rfl⟩
 ·exact⟨rfl,rfl⟩
theorem lP.stored{prog:AC}{w:AT}{h:Bi}{a:Ae}{o:Obj}{es:Array (Int×Ad)}{ep:Nat}{t:C1}(ho:h.get? a=some o)(J:o.ExactSet)(hd:o.data=.set es ep t)
  {q:Array (Int×Ad)} {t':C1} {S':Str→Bool} (F:ElemsOf (BJ prog w) q.toList) (z:∀ k,S' k=true↔∃ e∈q.toList,(BJ prog w).is k e.2=true) (M:q.size < scanBound) (O:t'.fits q.size=true) (Y:aAV w q t'):
  (h.update a (G7 q t')).get? a=some { o with data:=.set q (ep + 1) t' }∧lP prog w (h.update a (G7 q t')) a S' q.size:=by
 obtain⟨hg,_⟩:=SetOf_store (knd:=BJ prog w) (S':=S') ho J hd F z M O;exact⟨hg,_,q,ep + 1,t',hg,J,rfl,F,z,M,O,rfl,Y⟩
theorem aIq{prog:AC}{w:AT}{A:AU}{E:Ad→Ag→Prop}{s:Ag}{a:Ae}{S:Str→Bool}{n:Nat}{k:Str}{tk:Tok}{Q:Bool→Ag→Prop}(hS:lP prog w s.heap a S n)(Z:n + 1 < scanBound)
  (h:∀ h',Eb a s.heap h'→lP prog w h' a (fun k'=>S k' || decide (k'=k)) (if S k then n else n + 1)→Q (!S k) { s with heap:=h' }):
  wpAny (model prog w) A (setAddHashed a (.str k tk) ((BJ prog w).hash k)) Q E s:=by
 have Y:=strKind_is prog w k tk;obtain⟨o,es,ep,t,ho,hex,hd,hel,hmem,hb,hf,hn,hTab⟩:=hS;have aT:es.size + 1 < scanBound:=by rw[hn];exact Z
 unfold setAddHashed setAddHashedIn;refine Bh (Ab (wpAny_setState_of ho hd hf ?_));dsimp only;rw[byScan_of (x:=Br k tk) rfl hb hel,Ib rfl];unfold setAddByScan;refine Ab (Ab (Cb (Ab (wpAny_setScan_of Y ho hd hf hel ?_))));cases hr:List.findIdx? (fun e=>(BJ prog w).is k e.2) es.toList with
 | some j=>
  dsimp only;obtain⟨hj,hpj,_⟩:=List.findIdx?_eq_some_iff_getElem.mp hr;have ab:S k=true:=(hmem k).mpr ⟨es.toList[j],BI hj,hpj⟩;refine Af (Af ?_);have q:=h s.heap (Heap.SameBut.refl a s.heap) ⟨o,es,ep,t,ho,hex,hd,hel,fun z=>by
   rw[Bool.or_eq_true,decide_eq_true_eq,← hmem z];exact⟨fun hz=>hz.elim id (fun e=>e ▸ ab),.inl⟩,hb,hf,by rw[ab];exact hn,hTab⟩
  rw[ab]at q;exact q
 | none=>
  dsimp only;have ab:S k=false:=by
   cases hz:S k with
   | false=>rfl
   | true=>
    obtain⟨e,he,hp⟩:=(hmem k).mp hz;have z:=List.findIdx?_eq_none_iff.mp hr e he;rw[hp]at z;exact Bool.noConfusion z
  have F:=layNew_perm t es ((BJ prog w).hash k) (Br k tk);have J:=layNew_fits t es ((BJ prog w).hash k) (Br k tk);have M:=aAW t es ((BJ prog w).hash k) (Br k tk);generalize hL:layNew t es ((BJ prog w).hash k) (Br k tk)=L at F J M ⊢;obtain⟨es1,t1,wasD,gave⟩:=L;dsimp only at F J M ⊢;rw[CK]at F;have ad:ElemsOf (BJ prog w) es1.toList:=(hel.push Y rfl).perm F;have aa:=mem_push_iff Y hmem F;have ai:es1.size=n + 1:=by rw[← Bq,F.length_eq,AD,Bq,hn];rfl
  have al:es1.size < scanBound:=by rw[ai];exact Z
  have gw:∀(b:Bool) {s₁:Ag} {Q':Unit→Ag→Prop},Q' () s₁→wpAny (model prog w) A (match b with | true=>rule "set.scan.the-table-gave-way" | false=>pure ()) Q' E s₁:=fun b s₁ Q' hq=>by cases b <;> first | exact Af hq | exact Cb hq
  have ag:∀ h',Eb a s.heap h'→lP prog w h' a (fun k'=>S k' || decide (k'=k)) es1.size→Q true { s with heap:=h' }:=fun h' x1 x2=>by
   have q:=h h' x1;rw[ab]at q;rw[ai]at x2;exact q x2
  have af:∀ O:C1,O.led=t.led→O.plain=false→O.fits es1.size=true→
    wpAny (model prog w) A (do
     storeSet a es1 O
     if (!wasD && O.tooFull)=true then do
       (match (relayAll O es1 (C6 es1.size)).2.2 with | true=>rule "set.scan.the-table-gave-way" | false=>pure ())
       storeSet a (relayAll O es1 (C6 es1.size)).1 (relayAll O es1 (C6 es1.size)).2.1
       pure (some true)
      else pure (some true)) (fun r s'=>wpAny (model prog w) A (match r with | some added=>pure added | none=>setAddHashedIn a (.str k tk) ((BJ prog w).hash k) 99999) Q E s') E s:=by
   intro O l2 p2 f2;refine Ab (wpAny_storeSet_of ho hd ?_ (fits_of_scanBound al));obtain⟨ho1,hS1⟩:=lP.stored (prog:=prog) (w:=w) ho hex hd ad aa al f2 ⟨by rw[l2];exact hTab.1,.inr p2⟩;have ap:=CH s.heap a (G7 es1 O);split
   ·have hp:=relayAll_perm O es1 (C6 es1.size);have ak:=relayAll_fits O es1 (C6 es1.size);obtain⟨rl,rp⟩:=uL O es1 (C6 es1.size) p2;generalize relayAll O es1 (C6 es1.size)=R at hp ak rl rp ⊢;obtain⟨es2,t3,g2⟩:=R;dsimp only at hp ak rl rp ⊢;have ao:ElemsOf (BJ prog w) es2.toList:=ad.perm hp;have aj:∀ z,(S z || decide (z=k))=true↔∃ e∈es2.toList,(BJ prog w).is z e.2=true:=fun z=>(aa z).trans ⟨fun⟨e,he,q⟩=>⟨e,hp.mem_iff.mpr he,q⟩,fun⟨e,he,q⟩=>⟨e,hp.mem_iff.mp he,q⟩⟩;have ah:es2.size=es1.size:=by rw[← Bq,hp.length_eq,Bq]
    have am:es2.size < scanBound:=by rw[ah];exact al
    refine Ab (gw _ (Ab (wpAny_storeSet_of ho1 rfl ?_ (fits_of_scanBound am))));obtain⟨_,hS2⟩:=lP.stored (prog:=prog) (w:=w) ho1 hex rfl ao aj am ak ⟨by rw[rl,l2];exact hTab.1,.inr rp⟩;rw[ah]at hS2;exact Af (Af (ag _ (ap.trans (CH _ a _)) hS2))
   ·exact Af (Af (ag _ ap hS1))
  refine Ab (gw _ ?_);split
  ·next hpl=>
   rw[hashByValue_scannable 8 (x:=Br k tk) rfl];refine Ab (Af ?_);exact af { t1 with plain:=false } M rfl (SetTable.fits_plain_off J)
  ·next hpl=>
   refine Ab (Af ?_);exact af t1 M (by simpa using hpl) J
theorem aHn{prog:AC}{w:AT}{A:AU}{R:Gu→Ag→Prop}{I:Ae}{fp Z:List Ae}{G:Array F8→Array F8→Prop}{n:Nat}{P:Nat→Ad→Prop}{St:Nat→Ag→Prop}
  (W:WalksS prog w A.in1 I fp Z G n P St) (S:Ae) (af:¬ S∈fp) (val:Nat→Str) (Y:∀(i:Nat) (v:Ad),P i v→∃ t,v=Br (val i) t) (O:n + 1 < scanBound):
  ∀(k i:Nat) (s:Ag),n - i=k→i≤n→St i s→lP prog w s.heap S (fun M=>(hV val i).any fun x=>x == M) (hV val i).length→
   (∀ s':Ag,Moved (S :: Z) G s s'→lP prog w s'.heap S (fun M=>(hV val n).any fun x=>x == M) (hV val n).length→R (GX (Gx Dr)) s')→
   codeAny (model prog w) A (Code.builtin "set.update.loop" { pos:=[AA S,AA I] }) R s:=by
 have ab:¬ S∈Z:=fun h=>af (W.sub S h);have q:∀ b,b∈Z→b∈S :: Z:=fun b O=>Ap S O;intro k
 induction k with
 | zero=>
  intro i s hk hi J hS hR;have aj:i=n:=by omega
  subst aj;refine CP PyProof.Rows.F.entry_set_update_loop ?_;rw[Co C2];refine Ab (W.done s _ _ J fun s' hm=>?_);refine Af (hR s' (F5 hm q) ?_);exact hS.at fun o ho=>hm.heap S o ab ho
 | succ k ih=>
  intro i s hk hi J hS hR;have ae:i < n:=by omega
  refine CP PyProof.Rows.F.entry_set_update_loop ?_;rw[Co C2];refine Ab (W.item i s _ _ ae J fun v s' hP ah hm=>?_);obtain⟨t,rfl⟩:=Y i v hP;have an:lP prog w s'.heap S (fun M=>(hV val i).any fun x=>x == M) (hV val i).length:=by
   exact hS.at fun o ho=>hm.heap S o ab ho
  have z:(hV val i).length + 1 < scanBound:=by
   have:=pB val i;omega
  refine Ab (Bh (Bh (Ab ((BJ prog w).pyHash (strKind_is prog w (val i) t) ?_))));refine aIq an z fun h' ag al=>?_;refine Af ⟨E1 C2 _,?_⟩;refine ih (i + 1) _ (by omega) ae (W.frame (i + 1) s' h' _ ah (CZ s'.toks) fun b O o e=>?_) ?_ fun ai aa ad=>?_
  ·rw[ag.right b fun h=>af (h ▸ O)];exact e
  ·refine al.congr (fun M=>?_) ?_
   ·show _=((j8 _ _).any _)
    rw[aCH]
   ·show _=(j8 _ _).length;rw[lB]
  ·refine hR ai (Moved.trans W.gtrans (Moved.then_heap (F5 hm q) (CZ s'.toks) fun b o O e=>?_) aa) ad;rw[ag.right b fun h=>O (h ▸ Al)];exact e
theorem aIr{prog:AC}{w:AT}{A:AU}{E:Ad→Ag→Prop}{s:Ag}(a:Ad){Q₁:Ad→Ag→Prop}
  (h:Q₁ (.ref s.heap.objs.size) { s with heap:=s.heap.push { cls:=.type "set",dict:=none,data:=.set #[] 0 (.fresh 0 0 (!w.params.followText "set-order")) } }):
  codeAny (model prog w) A (.call (.builtin "set.__new__") ⟨[.type "set",a],[]⟩) (wants Q₁ E) s:=by
 apply codeAny_of_tree;show wpAny (model prog w) A.in1 (checkBuiltinCall "set.__new__" ⟨[.type "set",a],[]⟩ >>= fun _=>again (.builtin "set.__new__" ⟨[.type "set",a],[]⟩)) _ _ s;apply Ab;refine ET (F.newCall_set_1 a) (Af ⟨E1 F.plain_set_new _,?_⟩);apply CP F.entry_set_new;rw[Co F.plain_set_new];unfold Builtin.«set.__new__» Builtin.Frozenset.newClass;have q:=sub_set_self;obtain⟨hp,gs,dr,tk,os⟩:=s;dsimp only
 wp_walk
 apply wpAny_askSetting;apply Af;dsimp only;simp only[newObj];apply Ab;apply wpAny_alloc;exact Af (Af h)
theorem yP{prog:AC}{w:AT}{A:AU}{E:Ad→Ag→Prop}{s:Ag}{l:Ae}{items:Array Ad}{val:Nat→Str}{Q:Ad→Ag→Prop}(hh:A.handled=none)(hl:s.heap.IsList l items)
  (hi:∀(i:Nat) (v:Ad),items[i]?=some v→∃ t,v=Br (val i) t) (hb:items.size + 1 < scanBound)
  (h:∀(h':Bi) (tk:Nat),lP prog w h' s.heap.objs.size (fun k'=>(hV val items.size).any fun x=>x == k') (hV val items.size).length→
   (∀(b:Nat) (o:Obj),b < s.heap.objs.size→s.heap.get? b=some o→h'.get? b=some o)→Q (AA s.heap.objs.size) { s with heap:=h',toks:=tk }):
  wpAny (model prog w) A (call (A9 "set") [AA l]) Q E s:=by
 obtain⟨c,tl,hmro⟩:=Eo.mro;have M:=Eo.made;have aa:=Eo.sub;have ak:=F.typeCall_set_1 (AA l);refine Fc (codeAny_of_tree (Af ⟨Code.quiet_builtin _ (by decide),CP F.entry_type_call ?_⟩));rw[Around.under_plain (weight_type_call_type "set" [AA l] []) rfl];unfold Builtin.«type.__call__»;dsimp only
 iterate 2 refine AQ (by first | rfl | decide) ?_
 refine Ab (ET ak ?_);refine Ab (ET hmro ?_);refine AQ (by first | rfl | decide) ?_;refine Ab (ET M ?_);refine Ab (Af ?_);refine Ab (Bh (Fc (DU (aIr (Q₁:=fun obj s₁=>∃ led,led=(!w.params.followText "set-order")∧obj=AA s.heap.objs.size∧s₁={ s with heap:=s.heap.push { cls:=A9 "set",data:=Em #[] 0 (Cv 0 0 led) } }) (E:=E) (AA l) ⟨_,rfl,rfl,rfl⟩) fun r s₁ z=>?_)));cases r with
 | error e=>exact z
 | ok fl=>
  cases fl with
  | next=>exact z.elim
  | brk=>exact z.elim
  | cont=>exact z.elim
  | ret v=>
   obtain⟨led,hled,rfl,rfl⟩:=z;have hS:=Ax s.heap (o:={ cls:=A9 "set",data:=Em #[] 0 (Cv 0 0 led) }) rfl;have hT:Fh { s with heap:=s.heap.push { cls:=A9 "set",data:=Em #[] 0 (Cv 0 0 led) } } (AA s.heap.objs.size) "set":=⟨_,hS,rfl⟩
   have al:=Eo.init.lookup;have ah:=Eo.init.bind (AA s.heap.objs.size);obtain⟨ol,hol,hcl,nl,hdl⟩:=hl;have J:=Aj { cls:=A9 "set",data:=Em #[] 0 (Cv 0 0 led) } hol;have ad:Heap.IsList (s.heap.push { cls:=A9 "set",data:=Em #[] 0 (Cv 0 0 led) }) l items:=⟨ol,J,hcl,nl,hdl⟩
   refine Ab (E6 hT aa ?_);refine AQ (by first | rfl | decide) ?_;refine Ab (Bh ?_);unfold callSpecial?;refine Ab (wpAny_specialOf hT al ?_);dsimp only;refine Bh ?_;refine Ab (ET ah ?_);refine Ab (Fc (DU (codeAny_call_builtin Eo.init.plain F.entry_set_init (R:=fun r s'=>match r with | .ok (.ret v)=>v=.none∧Q (.ref s.heap.objs.size) s' | _=>False) (check_set_init_1 hT ?_)) fun r s₁ z=>?_))
   ·unfold Builtin.«set.__init__»;refine Ab (BW (by first | rfl | decide) (Af ?_));refine Ab (Ab (Ab (Cj hT (AQ (by first | rfl | decide) (Af ?_)))));refine Af ?_;refine Ab ?_;unfold checkCount
    iterate 2 refine AQ (by first | rfl | decide) ?_
    refine AQ (by first | rfl | decide) (Af ?_);refine Ab (Af ?_);refine Ab ?_;unfold setUsed setState;refine Ab (Ab (wpAny_load' hS ?_));dsimp only;refine AQ (by first | rfl | decide) (Af ?_);refine Af ?_;refine AQ (by first | rfl | decide) ?_;show wpAny _ _ (do let aw ← Builtin.Frozenset.updateFrom "set.__init__" s.heap.objs.size (AA l);ret Dr) _ _ _;refine Ab ?_;unfold Builtin.Frozenset.updateFrom;refine Ab ?_;have Y:Fh { s with heap:=s.heap.push { cls:=A9 "set",data:=Em #[] 0 (Cv 0 0 led) } } (AA l) "list":=⟨ol,J,hcl⟩
    unfold Builtin.Frozenset.isAnySet;refine Ab (E6 Y F.sub_list_set ?_);refine E6 Y F.sub_list_frozenset ?_;refine AQ (by first | rfl | decide) ?_;refine Ab (Cj Y ?_);refine AQ (by first | rfl | decide) ?_;refine Ab (DT ad ?_);refine Ab (wpAny_runValue ?_);have ab:l < s.heap.objs.size:=Au hol;have O:(s.heap.push { cls:=A9 "set",data:=Em #[] 0 (Cv 0 0 led) }).objs.size=s.heap.objs.size + 1:=Cz _ _;have ae:l≠(s.heap.push { cls:=A9 "set",data:=Em #[] 0 (Cv 0 0 led) }).objs.size:=by rw[O];exact AB (Cr ab)
    have am:¬ s.heap.objs.size∈[(s.heap.push { cls:=A9 "set",data:=Em #[] 0 (Cv 0 0 led) }).objs.size,l]:=by
     rw[O];simp only[Ak,Ao,or_false,not_or];exact⟨AB (Dn _),DL ab⟩
    have an:A.in1.in1.in1.handled=none:=hh;refine aHn (Walks.toS (F3 an _ l ae items)) s.heap.objs.size am val hi hb (items.size - 0) 0 _ rfl (A0 _) ⟨⟨_,Ax _ rfl,rfl,rfl⟩,Heap.IsList.push ad _⟩ ?_ ?_
    ·have Z:=Aj { cls:=A9 "list_iterator",data:=FZ #[AA l,Bt 0 0] } hS;exact⟨_,#[],0,_,Z,⟨rfl,rfl,rfl⟩,rfl,(fun e he=>by simp at he),(fun k=>by show(false=true)↔_;simp),(by decide),rfl,rfl,hled,.inl rfl⟩
    ·rintro⟨h',g',d',tk',os'⟩ hm hS';refine Af (Af ⟨rfl,?_⟩);have e1:=hm.gens;have e2:=hm.drawn;have e3:=hm.os;dsimp only at e1 e2 e3;subst e1 e2 e3;refine h h' tk' hS' fun b o hb e=>hm.heap b o ?_ ?_
     ·simp only[Ak,Ao,or_false,not_or];rw[O];exact⟨AB hb,AB (Cr hb)⟩
     ·exact Aj _ (Aj _ e)
   ·cases r with
    | error e=>exact z.elim
    | ok fl=>
     cases fl with
     | next=>exact z.elim
     | brk=>exact z.elim
     | cont=>exact z.elim
     | ret v=>
      obtain⟨rfl,q⟩:=z;refine Af ?_;refine AQ (by first | rfl | decide) ?_;exact Af q
section
variable{prog:AC}{w:AT}{A:AU}{E:Ad→Ag→Prop}{s:Ag}{I S T:Ae}{i m ep:Nat}{o ot:Obj}{es:Array (Int×Ad)}{t:C1}{places:Array Ad}{x:Ad}
theorem aAX{M:He}{B:AU}{q:Ad→Ag→Prop}{Q:Fin→Ag→Prop}{s:Ag}(z:B.handled=none)(h:∀(e:Ad) (h':Bi),(∀ b u,s.heap.get? b=some u→h'.get? b=some u)→Fh { s with heap:=h' } e "StopIteration"→q e { s with heap:=h' }):
  wpAny M B (newExc (.type "StopIteration") [] >>= fun e=>raiseNew e) Q q s:=by
 refine Ab ?_;simp only[newExc,newTuple];apply Ab;refine B4 ?_ (by size_fits);apply Ab (m:=firstArgMember _ _);refine ET (a:=Dr) (by first | rfl | (simp only[firstArgMember];rfl)) ?_;refine B4 (h:=?_) (by size_fits);simp only[raiseNew];refine Ab (wpAny_handled ?_);rw[z];refine Ab (Af (wpAny_throw (h (.ref _) _ (fun b u e=>Aj _ (Aj _ e)) ⟨_,Ax _ rfl,rfl⟩)))
end
section
variable{prog:AC}{w:AT}{A:AU}{I S T:Ae}{m ep:Nat}{o ot:Obj}{es:Array (Int×Ad)}{t:C1}{places:Array Ad}
structure aJH(prog:AC)(w:AT)(A:AU)(S:Ae)(el:List Ad)(s s2:Ag)(I:Ae):Prop where
 w:∃(fp:List Ae) (P:Nat→Ad→Prop) (St:Nat→Bi→Prop),Walks prog w A I fp [I] el.length P St∧St 0 s2.heap∧I∈fp∧(∀ b∈fp,b < s2.heap.objs.size∧(b=S∨s.heap.objs.size≤b))∧∀ acc,ItemsOf P acc el.length→acc.toList.Perm el
 keep:∀ b u,s.heap.get? b=some u→s2.heap.get? b=some u
 new:s.heap.objs.size≤I
 gens:s2.gens=s.gens
 os:s2.os=s.os
 toks:s2.toks=s.toks
end
section
variable{prog:AC}{w:AT}{A:AU}{S:Ae}{ep:Nat}{o:Obj}{es:Array (Int×Ad)}{t:C1}
end
section
variable{prog:AC}{w:AT}{A:AU}{S:Ae}{ep:Nat}{o:Obj}{es:Array (Int×Ad)}{t:C1}
end
section
variable{prog:AC}{w:AT}{A:AU}{S:Ae}{E:Ad→Ag→Prop}{s:Ag}
end
section
variable{X:Cx}{gz:List (Ae×Obj)}{σ:St}{H H':Hp}{s:Ag}{h':Bi}
theorem tE(val:Nat→Str):∀ i,(hV val i).Nodup
 | 0=>DF
 | i + 1=>by
  show(j8 (hV val i) (val i)).Nodup;have q:=tE val i;unfold j8;split
  ·exact q
  ·next hne=>
   rw[Bn];exact⟨q,by simp,fun x z y F e=>hne (by rw[← (show y=val i from by simpa using F),← e];exact z)⟩
def qX(ss:List Str):List Str:=hV (fun i=>ss.getD i "") ss.length
theorem aDZ(ss:List Str)(k:Str):k∈qX ss↔k∈ss:=by
 unfold qX;rw[sU];constructor
 ·rintro⟨j,hj,e⟩;rw[← e,A1,Ai hj];exact BI hj
 ·intro q;obtain⟨j,hj,e⟩:=DZ.mp q;exact⟨j,hj,by rw[A1,Ai hj];exact e⟩
theorem aAY(ss:List Str):(qX ss).Nodup:=tE _ _
def yQ(P:AC)(w:AT)(a:Ae)(ss:List Str):HO:=.ext fun h=>lP P w h a (fun k=>(qX ss).any fun x=>x == k) (qX ss).length
theorem aD0{ss:List Str}{its:List Ad}(F:bX (ss.map V.str) its){i:Nat}{v:Ad}(hv:its.toArray[i]?=some v):∃ t,v=Br (ss.getD i "") t:=by
 have q:=F.length;rw[Aa]at q;have z:its[i]?=some v:=by simpa using hv
 have hi:i < ss.length:=by
  rw[q];exact(At.mp z).1
 have e:(ss.map V.str)[i]?=some (V.str (ss.getD i "")):=by
  rw[An,Ai hi];simp[hi]
 obtain⟨u,hu,ru⟩:=F.get e;rw[z]at hu;cases hu;exact ru
end
def aD1{α:Type}(o:Nat→Nat→Bool):KasT α→α
 | .ret a=>a
 | .ask i j k=>aD1 o (k (o i j))
theorem i4.run{α:Type}{n:Nat}{P:α→Prop}(o:Nat→Nat→Bool):∀{t:KasT α},i4 n P t→P (aD1 o t)
 | .ret a,h=>h
 | .ask i j k,h=>by
  show P (aD1 o (k (o i j)));exact i4.run o (h.2.2 (o i j))
theorem i4.wpO{α:Type}{n:Nat}{P:α→Prop}{z:Nat→Nat→(Bool→Ag→Prop)→Ag→Prop}{Q:α→Ag→Prop}{s:Ag}{o:Nat→Nat→Bool}(hc:∀ i j C,i < n→j < n→C (o i j) s→z i j C s):∀{t:KasT α},i4 n P t→Q (aD1 o t) s→t.kasWp z Q s
 | .ret a,_,q=>by rw[KasT.kasWp.eq_1];exact q
 | .ask i j k,h,q=>by
  rw[KasT.kasWp.eq_2];exact hc i j _ h.1 h.2.1 (i4.wpO hc (h.2.2 _) q)
abbrev P3:=Str×Str×Int
def aIs(x y:P3):Bool:=if x.1 == y.1 then(if x.2.1 == y.2.1 then(if x.2.2 == y.2.2 then false else decide (x.2.2 < y.2.2)) else decide (x.2.1.cps.toList < y.2.1.cps.toList)) else decide (x.1.cps.toList < y.1.cps.toList)
inductive aBI(h:Bi)(v:Ad)(x:P3):Prop
 | mk (t:_) (u1:_) (u2:_) (u3:_) (q0:v=.ref t) (q1:EH h t #[.str x.1 u1,.str x.2.1 u2,.int x.2.2 u3]):aBI h v x
def pE(h:Bi)(v:Ad)(x:P3):Prop:=aBI h v x
section
variable{prog:AC}{w:AT}{A:AU}{E:Ad→Ag→Prop}{s:Ag}
theorem aFH{a b:Int}{t u:Tok}{Q:Bool→Ag→Prop}(h:Q (decide (a < b)) s):wpAny (model prog w) A (oneLt' false (Bt a t) (Bt b u)) Q E s:=by
 rw[oneLt'_eq];show wpAny _ _ (compareOp .Lt (Bt a t) (Bt b u) >>= _) _ _ _;apply Ab;refine lt_int ?_
 wp_walk
 exact h
theorem wU{a b:Str}{t u:Tok}{Q:Bool→Ag→Prop}(h:Q (decide (a.cps.toList < b.cps.toList)) s):wpAny (model prog w) A (oneLt' false (Br a t) (Br b u)) Q E s:=by
 rw[oneLt'_eq];show wpAny _ _ (compareOp .Lt (Br a t) (Br b u) >>= _) _ _ _;apply Ab;refine lt_str ?_
 wp_walk
 exact h
theorem ltP{z:Bool}{v1 Z:Ad}{x y:P3}{C:Bool→Ag→Prop}(M:pE s.heap v1 x)(O:pE s.heap Z y)(h:C (aIs x y) s):wpAny (model prog w) A (keyLt' (tuples' z) v1 Z) C E s:=by
 obtain⟨a1,b1,c1⟩:=x;obtain⟨a2,b2,c2⟩:=y;obtain⟨p1,t1,t2,t3,rfl,M⟩:=M;obtain⟨p2,u1,u2,u3,rfl,O⟩:=O;dsimp only at M O;unfold aIs at h;dsimp only at h;show wpAny _ _ (B6 (.ref p1) >>= _) _ _ _;refine Ab (dR M ?_);refine Ab (dR O ?_);dsimp only[Ej,DS,Ey];rw[E4];have e1:∀{Q:Bool→Ag→Prop} {a b:Int} {t u:Tok},Q (a == b) s→wpAny (model prog w) A (eqBool (.int a t) (.int b u)) Q E s:=fun{Q a b t u} q=>aAI (y:=.int a) (x:=.int b) ⟨t,rfl⟩ ⟨u,rfl⟩ rfl rfl prog w _ _ q;have e2:∀{Q:Bool→Ag→Prop} {a b:Str} {t u:Tok},Q (a == b) s→wpAny (model prog w) A (eqBool (.str a t) (.str b u)) Q E s:=fun{Q a b t u} q=>DY a t b u prog w _ _ q;refine Ab ?_;rw[B5];refine Ab (Ab (e2 ?_));cases hz:(a1 == a2)with
 | false=>
  rw[hz]at h;refine BW (by decide) ?_;refine Ab ?_;show wpAny _ _ (oneLt' (z && 0 == 0) (Br a1 t1) (Br a2 u1)) _ _ _;cases z
  ·exact wU (Af (Af (Af h)))
  ·exact oneLt_str (Af (Af (Af h)))
 | true=>
  rw[hz,Ib rfl]at h;refine AQ (by decide) (Af ?_);dsimp only;rw[B5];refine Ab (Ab (e2 ?_));cases J:(b1 == b2)with
  | false=>
   rw[J]at h;refine BW (by decide) ?_;refine Ab ?_;have Y:(z && ((0 + 1:Nat) == 0))=false:=by cases z <;> rfl
   show wpAny _ _ (oneLt' (z && (0 + 1 == 0)) (Br b1 t2) (Br b2 u2)) _ _ _;rw[Y];exact wU (Af (Af (Af h)))
  | true=>
   rw[J,Ib rfl]at h;refine AQ (by decide) (Af ?_);dsimp only;rw[B5];refine Ab (Ab (e1 ?_));cases F:(c1 == c2)with
   | false=>
    rw[F]at h;refine BW (by decide) ?_;refine Ab ?_;have Y:(z && ((0 + 1 + 1:Nat) == 0))=false:=by cases z <;> rfl
    show wpAny _ _ (oneLt' (z && (0 + 1 + 1 == 0)) (Bt c1 t3) (Bt c2 u3)) _ _ _;rw[Y];exact aFH (Af (Af (Af h)))
   | true=>
    rw[F,Ib rfl]at h;refine AQ (by decide) (Af ?_);dsimp only;rw[Fa];exact Af (Af h)
end
section
variable{prog:AC}{w:AT}{A:AU}{E:Ad→Ag→Prop}{s:Ag}
theorem aIt{ks:List Ad}{Q:De→Ag→Prop}(Y:∀ v∈ks,∃ x,pE s.heap v x)(h:∀ b,Q (tuples' b) s):wpAny (model prog w) A (keyKind' ks.toArray) Q E s:=by
 rw[keyKind'_eq,Ci];refine Ab ?_;rw[← bind_pure_comp];refine Ab (i5 (R:=fun _ r=>∃ a u,r=some (Br a u)) ks (fun v hv=>?_) fun rs hl F=>Af ?_)
 ·obtain⟨x,t,u1,u2,u3,rfl,ht⟩:=Y v hv;refine⟨some (.str x.1 u1),⟨x.1,u1,rfl⟩,fun Q' q=>?_⟩;rw[GY];refine Ab (Cj ht.typeIs ?_);refine AQ (by decide) ?_;refine Ab (dR ht ?_);exact Af q
 ·have z:(rs.toArray.all fun x=>x.isSome)=true:=by
   rw[FT,A5];intro r Z;obtain⟨v,_,a,u,rfl⟩:=F r Z;rfl
  refine BW (by rw[z];rfl) ?_;refine Ab (Cb ?_);rw[oneTypeOnly'_eq,Ci]
  iterate 2 refine Ab ?_
  rw[← bind_pure_comp];refine Ab (i5 (R:=fun _ r=>r=A9 "str") _ (fun v hv=>?_) fun ts ab O=>Af ?_)
  ·have J:some v∈rs:=by simpa using hv
   obtain⟨_,_,a,u,e⟩:=F _ J;cases e;exact⟨_,rfl,fun Q' q=>Cj (FU s a u) q⟩
  ·cases M:ts.toArray[0]? with
   | none=>exact Af (Af (h _))
   | some t=>exact Af (Af (h _))
theorem pE.keep{h h':Bi}{v:Ad}{x:P3}(p:pE h v x)(k:∀ b o,h.get? b=some o→o.cls=.type "tuple"→h'.get? b=some o):pE h' v x:=by
 obtain⟨t,u1,u2,u3,e,o,ho,hc,r⟩:=p;exact⟨t,u1,u2,u3,e,o,k t o ho hc,hc,r⟩
end
section
variable{prog:AC}{w:AT}{A:AU}{E:Ad→Ag→Prop}{s:Ag}
end
section
variable{X:Cx}
inductive aBJ(H:Hp)(v:V)(x:P3):Prop
 | mk (t:_) (q0:v=.ref t) (q1:H t=some (.tup [.str x.1,.str x.2.1,.int x.2.2])):aBJ H v x
def aD2(H:Hp)(v:V)(x:P3):Prop:=aBJ H v x
theorem aD2.real{gz:List (Ae×Obj)}{σ:St}{H:Hp}{s:Ag}{v:V}{u:Ad}{x:P3}(I:Inv X gz σ H s)(h:aD2 H v x)(r:cG v u):pE s.heap u x:=by
 obtain⟨t,rfl,ht⟩:=h;cases r;obtain⟨_,its,q,hT⟩:cS X.prog X.w H s.heap t (.tup [.str x.1,.str x.2.1,.int x.2.2]):=I.hok _ _ ht;cases q with
 | cons F q=>
  cases q with
  | cons J q=>
   cases q with
   | cons z q=>
    cases q;obtain⟨u1,e1⟩:=F;obtain⟨u2,e2⟩:=J;obtain⟨u3,e3⟩:=z;subst e1 e2 e3;exact⟨t,u1,u2,u3,rfl,hT⟩
end
section
variable{n:Nat}{π:Nat→Nat}
abbrev ord(π:Nat→Nat):Nat→Nat→Bool:=fun i j=>decide (π i < π j)
variable(hn:0 < n)(hπ:∀ i j,i < n→j < n→π i=π j→i=j)
include hn hπ
omit hn hπ in
omit hn hπ in
end
abbrev K3:=Int×Int×Str
abbrev k0:K3:=(0,0,"")
inductive aD3(h:Bi)(v:Ad)(k:K3):Prop
 | mk (t:_) (u1:_) (u2:_) (u3:_) (q0:v=.ref t) (q1:EH h t #[.int k.1 u1,.int k.2.1 u2,.str k.2.2 u3]):aD3 h v k
def aJI(h:Bi)(v:Ad)(k:K3):Prop:=aD3 h v k
section
variable{prog:AC}{w:AT}{A:AU}{E:Ad→Ag→Prop}{s:Ag}
end
section
variable{prog:AC}{w:AT}{A:AU}{E:Ad→Ag→Prop}{s:Ag}
end
section
variable{X:Cx}{gz:List (Ae×Obj)}{σ:St}
inductive aBK(H:Hp)(v:Ad)(k:K3):Prop
 | mk (t:_) (q0:v=.ref t) (q1:H t=some (.tup [.int k.1,.int k.2.1,.str k.2.2])):aBK H v k
def aIu(H:Hp)(v:Ad)(k:K3):Prop:=aBK H v k
structure KsX(KR:V→K3→Prop)(H:Hp)(xd:List V)(ks:List Ad)(kk:List K3):Prop where
 len:ks.length=xd.length∧kk.length=xd.length
 key:∀ i,i < xd.length→aIu H (ks.getD i .none) (kk.getD i k0)
 kr:∀ i,i < xd.length→KR (xd.getD i .non) (kk.getD i k0)
end
section
variable{X:Cx}{gz:List (Ae×Obj)}{σ:St}{H:Hp}{s:Ag}
end
section
variable{X:Cx}{gz:List (Ae×Obj)}{σ:St}{H:Hp}{s:Ag}{a:Ae}{iz:List (Key×V)}{k:Key}{u r:Ad}{A:AU}{E:Ad→Ag→Prop}
end
section
variable{X:Cx}{o e f:Be}{jc jb:Pos}{td ty tx:TE}
end
section
variable{X:Cx}{o:Be}{jc jb:Pos}{td:TE}
end
section
variable{prog:AC}{w:AT}{A:AU}{v d:Ae}{vs:List (Key×Ad)}
end
section
variable{X:Cx}{e:Be}{ta:TA}
end
inductive Fm:V→Str→Prop
 | str (z:Str) (h:z.length≤sizeLine):Fm (.str z) z
 | int (i:Int) (h:i.natAbs.log2 < 1920):Fm (.int i) (toString i)
abbrev TJ:=Str→St→Hp→VK→Prop
structure PJ(X:Cx)(es:List Be)(t:TJ):Prop where
 run:∀(gz:List (Ae×Obj)) (s:Ag) (σ:St) (H:Hp) (Q:VK) (acc:Str),Inv X gz σ H s→t acc σ H Q→wpAny (model X.prog X.w) X.A (joinParts acc (evalEach es X.env)) (EP X gz σ Q) X.xe s
inductive J0(acc:Str)(σ:St)(H:Hp)(Q:VK):Prop
 | mk (h:acc.length≤sizeLine) (q:Q (.str acc) H):J0 acc σ H Q
inductive JC(z:Str)(t:TJ)(acc:Str)(σ:St)(H:Hp)(Q:VK):Prop
 | mk (h:(acc ++ z).length≤sizeLine) (q:t (acc ++ z) σ H Q):JC z t acc σ H Q
inductive JF(t:TJ)(acc:Str)(σ:St)(x:V)(H:Hp)(Q:VK):Prop
 | mk (z:Str) (f:Fm x z) (h:(acc ++ z).length≤sizeLine) (q:t (acc ++ z) σ H Q):JF t acc σ x H Q
section
variable{X:Cx}{es:List Be}{t:TJ}{te:TE}
end
open PySem PySem.Spec PyProof.Rows PySem.Builtin PySem.Builtin.Str
inductive aFI(x:V)(xs:List V)(H:Hp)(Q:VK):Prop
 | mk (z y:PySem.Str) (h0:x=.str z) (h1:xs=[.str y]) (hy:(y.length == 0)=false) (hz:z.length + 2≤sizeLine) (q:∀ L,H L=none→Q (.ref L) (upd H L (.lst ((Txt.split z y).map V.str)))):aFI x xs H Q
open PySem PySem.Spec PyProof.Rows PySem.NumText
inductive aIv(xs:List V)(H:Hp)(Q:VK):Prop
 | mk (x:V) (z:Str) (h0:xs=[x]) (f:Fm x z) (q:Q (.str z) H):aIv xs H Q
inductive aIw(xs:List V)(H:Hp)(Q:VK):Prop
 | mk (z:Str) (n:Int) (h0:xs=[.str z]) (hn:PySem.intText? z=some n) (hl:z.length≤640) (q:Q (.int n) H):aIw xs H Q
section
variable{prog:AC}{w:AT}{K:Type}[DecidableEq K]{knd:HeapKind prog w K}{A:AU}{E:Ad→Ag→Prop}{s:Ag}
end
open PySem PySem.SetTable
inductive aD4(t:C1):Probe→Nat→Prop
 | here {p:Probe} {n:Nat}:t.slot p.j=.empty→aD4 t p n
 | step {p:Probe} {n:Nat}:aD4 t (t.advance p) n→aD4 t p (n + 1)
def aJw(t:C1)(i perturb:Nat):Probe:={ j:=i,more:=runEnd t.mask i - i,i:=i,perturb:=perturb,dummy:=none }
def orb(m:Nat):Nat→Nat→Nat
 | 0,i=>i
 | k + 1,i=>orb m k ((i * 5 + 1) % m)
structure aIx(t:C1)(n:Nat):Prop where
 size:t.place.size=n
 nod:t.dummies=#[]
 mask:(t.mask=7∧n≤4)∨(t.mask=31∧n≤18)
inductive aD5(owner:Array (Option Nat)):Nat→Nat→Nat→Prop
 | here {i p n:Nat}:(owner.getD i (some 0)).isNone=true→aD5 owner i p (n + 1)
 | step {i p n:Nat}:aD5 owner (SetTable.leap 31 i p).1 (SetTable.leap 31 i p).2 n→aD5 owner i p (n + 1)
structure aJJ(owner:Array (Option Nat))(k:Nat):Prop where
 size:owner.size=32
 perm:((AV 32).filterMap fun j=>owner.getD j none).Perm (AV k)
section
variable{prog:AC}{w:AT}{A:AU}{E:Ad→Ag→Prop}{s:Ag}
inductive aGB(prog:AC)(w:AT)(h:Bi)(ks:List (List Str))(v:Ad):Prop
 | mk (b:_) (k:_) (q0:v=.ref b) (q1:IsTupleKey (strKind prog w) h k b) (q2:k∈ks):aGB prog w h ks v
def ElT(prog:AC)(w:AT)(h:Bi)(ks:List (List Str))(v:Ad):Prop:=aGB prog w h ks v
end
section
variable{prog:AC}{w:AT}{A:AU}{E:Ad→Ag→Prop}{s:Ag}
structure aJK(prog:AC)(w:AT)(h:Bi)(a:Ae)(rs:List Ae)(ks:List (List Str))(o:Obj)(es:Array (Int×Ad))(ep:Nat)(t:C1):Prop where
 at_:h.get? a=some o
 ex:o.ExactSet
 data:o.data=.set es ep t
 perm:(es.toList.map (·.2)).Perm (rs.map AA)
 els:∀ e∈es.toList,ElT prog w h ks e.2
 tab:aIx t es.size
 led:aAV w es t
end
abbrev P2:=Str×Str
def aJl(x y:P2):Bool:=if x.1 == y.1 then(if x.2 == y.2 then false else decide (x.2.cps.toList < y.2.cps.toList)) else decide (x.1.cps.toList < y.1.cps.toList)
inductive aBL(h:Bi)(v:Ad)(x:P2):Prop
 | mk (t:_) (u1:_) (u2:_) (q0:v=.ref t) (q1:EH h t #[.str x.1 u1,.str x.2 u2]):aBL h v x
def aJx(h:Bi)(v:Ad)(x:P2):Prop:=aBL h v x
section
variable{prog:AC}{w:AT}{A:AU}{E:Ad→Ag→Prop}{s:Ag}
end
section
variable{prog:AC}{w:AT}{A:AU}{E:Ad→Ag→Prop}{s:Ag}
end
def aJy(R:List P2):Prop:=R.Pairwise fun a b=>aJl a b=true
def aD6(H:Hp)(r:Ae):P2:=match H r with
 | some (.tup [.str x,.str y])=>(x,y)
 | _=>("","")
def Pairs(H:Hp)(rs:List Ae):Prop:=∀ r∈rs,H r=some (.tup [.str (aD6 H r).1,.str (aD6 H r).2])
section
variable{P:AC}{w:AT}{H:Hp}{h:Bi}{a:Ae}
end
theorem wV:∀{rs:List Ae}{its:List Ad},bX (rs.map V.ref) its→its=rs.map AA
 | [],_,.nil=>rfl
 | r :: rs,_,.cons e q=>by
  rw[wV q];cases e;rfl
theorem p7:∀(rs:List Ae),bX (rs.map V.ref) (rs.map AA)
 | []=>.nil
 | r :: rs=>.cons rfl (p7 rs)
section
variable{X:Cx}{gz:List (Ae×Obj)}{σ:St}{H:Hp}{s:Ag}
end
section
variable{prog:AC}{w:AT}{A:AU}{E:Ad→Ag→Prop}{s:Ag}{d I:Ae}{od:Obj}{es:Array Gd}{ep i:Nat}
def lZ(d:Ae)(i n ep:Nat):Obj:={ cls:=.type "dict_keyiterator",dict:=none,data:=.fields #[.ref d,.int i 0,.int n 0,.int ep 0],slots:=#[] }
theorem aFJ{n:Nat}(h:s.heap.get? I=some (lZ d i n ep)):s.TypeIs (.ref I) "dict_keyiterator":=⟨_,h,rfl⟩
theorem rF{Q:Option Ad→Ag→Prop}(M:s.heap.get? I=some (lZ d i es.size ep))(hd:s.heap.get? d=some od)(J:od.data=.dict es ep)
  (h:∀(key:Ad),es[i]?.map (·.key)=some key→Q (some key) { s with heap:=s.heap.update I (C7 (·.setIfInBounds 1 (rawInt ((i:Int) + 1)))) })
  (he:es.size≤i→A.handled=none∧∀ h',(∀ b u,b≠I→s.heap.get? b=some u→h'.get? b=some u)→Q none { s with heap:=h' }):wpAny (model prog w) A (pyNext (.ref I)) Q E s:=by
 have z:=aFJ M;have own:Builtin.Dict_items.ownsTuple "dict_keyiterator"=false:=by decide
 unfold pyNext;refine Ab (Gy (E7 (name:=BF "__next__") z Dp (Ce Dp z PySem.F.entry_dict_keyiterator_next ?_ (PySem.F.args_dict_keyiterator_next_1 _))));refine Ab (Af (Ab (Ab ?_)))
 first | refine Ab (Ed z (Af ?_)) | refine Ab (EY z (Af ?_))
 refine Ab (wpAny_fieldsOf M rfl ?_);rw[own];refine AQ (by rfl) ?_;refine Ab (Af (Ab (wpAny_dictEntries hd J ?_)));refine AQ (by simp) ?_;refine Ab (Af (Ab (wpAny_dictEpoch hd J ?_)));refine AQ (by simp) (Af ?_);by_cases hi:i < es.size
 ·simp only[show¬ ((i:Int) < 0) from by omega,if_false,B2,Bo hi];refine Ab ?_
  first | refine Ab (Ed z (Af ?_)) | refine Ab (EY z (Af ?_))
  refine Ab (wpAny_isOneOf_keyiter z ?_);show wpAny _ _ (setField (.ref I) 1 (rawInt ((i:Int) + 1)) >>= _) _ _ s;refine Ab (wpAny_setField M rfl (by simp[lZ]) ?_);have O:Fh { s with heap:=s.heap.update I (C7 (·.setIfInBounds 1 (rawInt ((i:Int) + 1)))) } (.ref I) "dict_keyiterator":=
   ⟨_,DR _ M (E8 (Fz rfl _)),Obj.cls_mapFields ..⟩
  refine Ab (Bh (Ab (wpAny_isOneOf_keyiter O ?_)));show wpAny _ _ (pure es[i].key) _ _ _;exact Af (Af ⟨_,rfl,Af (h _ (by simp[hi]))⟩)
 ·obtain⟨hh,q⟩:=he (by omega);simp only[show¬ ((i:Int) < 0) from by omega,if_false,B2,ES (show es.size≤i by omega)];refine Ab ?_
  first | refine Ab (Ed z (Af ?_)) | refine Ab (EY z (Af ?_))
  show wpAny _ _ (setField (.ref I) 0 .none >>= _) _ _ s;refine Ab (wpAny_setField M rfl (by simp[lZ]) ?_);refine aAX (show A.in1.handled=none from hh) fun e h' k Y=>?_;refine Ab (E6 (T:="StopIteration") (b:=true) Y isSubtype_stop ?_);exact Af (q h' fun b u nb Z=>k b u ((CH _ I _).extBut b u nb Z))
theorem aHo(Z:A.handled=none)(M:d≠I)(F:od.data=.dict es ep):
  Walks prog w A I [I,d] [I] es.size (fun i v=>es[i]?.map (·.key)=some v) (fun i h=>h.get? I=some (lZ d i es.size ep)∧h.get? d=some od) where
 sub:=fun b Y=>by simp at Y;simp[Y]
 frame:=fun _ _ _ st O=>⟨O I (by simp) _ st.1,O d (by simp) _ st.2⟩
 item:=fun i s Q E hi st J=>by
  refine rF st.1 st.2 F (fun key q=>?_) fun z=>absurd z (by omega);refine J key _ s.toks q ⟨?_,(CH ..).extBut d _ M st.2⟩ fun b u nb e=>(CH ..).extBut b u (by simpa using nb) e;rw[DR _ st.1 (E8 (Fz rfl _))];simp[lZ,C7,rawInt]
 done:=fun s Q E st J=>rF st.1 st.2 F (fun key q=>by simp at q) fun _=>⟨Z,fun h' k=>J h' s.toks fun b u nb e=>k b u (by simpa using nb) e⟩
 self:=fun i s Q E st J=>wpAny_pyIter_keyiter (n:=es.size) (ep:=ep) (d:=d) (i:=i) ⟨_,st.1,rfl,rfl⟩ J
theorem aD7{Q:Ad→Ag→Prop}(hm:(d == sysModules)=false)(hd:s.heap.get? d=some od)(z:od.ExactDict)(q:od.data=.dict es ep)
  (M:Q (.ref s.heap.objs.size) { s with heap:=s.heap.push (lZ d 0 es.size ep) }):wpAny (model prog w) A (pyIter (.ref d)) Q E s:=by
 have J:s.TypeIs (.ref d) "dict":=⟨od,hd,z.1⟩
 refine wpAny_pyIter_slot J PySem.F.slot_dict_iter (Ce PySem.F.slot_dict_iter J PySem.F.entry_dict_iter ?_ (PySem.F.args_dict_iter_1 _));unfold Builtin.«dict.__iter__» Builtin.Dict.dictSlotNone;refine Ab (Ab (wpAny_notOrdered_dict J ?_));show wpAny _ _ (pure (AA d)) _ _ s;refine Af ?_;show wpAny _ _ (Builtin.Dict.showsAll d >>= _) _ _ s;unfold Builtin.Dict.showsAll;rw[Ia (by rw[hm];exact Ay)];refine Ab (Af (Ab (wpAny_dictEntries hd q (Ab (wpAny_dictEpoch hd q ?_)))));refine Ab (B4 (Af ⟨_,rfl,"dict_keyiterator",_,⟨_,Ax _ rfl,rfl⟩,Dp.lookup,?_⟩));exact M
theorem aIy(hm:(d == sysModules)=false)(q:od.ExactDict)(z:od.data=.dict es ep):KdlSrc prog w "dict" d d es.size (fun i v=>es[i]?.map (·.key)=some v) (fun h=>h.get? d=some od) where
 type:=fun _ hd=>⟨od,hd,q.1⟩
 there:=fun _ hd=>⟨Au hd,Au hd⟩
 keep:=fun _ _ hd J=>J d (.inl rfl) _ hd
 notList:=by decide
 notTuple:=by decide
 hint:=fun _ _ _ _ hd F=>kdl_hint_dict ⟨od,hd,q.1⟩ F
 iter:=fun _ s M hd=>⟨lZ d 0 es.size ep,_,(fun _ _ F=>aD7 hm hd q z F),aHo M (AB (Au hd)) z,⟨Ax _ rfl,Aj _ hd⟩⟩
end
section
variable{X:Cx}
end
section
variable{X:Cx}{e st:Be}{te ts:TE}{pos p2:Pos}
end
structure Fly(P:AC)(w:AT)(outer:List Env)(H H':Hp)(s:Ag)(x:Ae)(C:Ad)(s':Ag):Prop where
 os:s'.os=s.os
 bare:EC s'.gens
 ex:∃(B:Bi) (a0:Ad),Heap.FlyingW B outer x C a0 s'.heap∧HOk P w H' B∧(∀ b o,s.heap.get? b=some o→H b=none→b ∉ frs outer→B.get? b=some o)∧∀ b o,s.heap.get? b=some o→b ∉ frs outer→∃ o',B.get? b=some o'
 frf:∀ b∈frs outer,H b=none
 slot:∀ b o,s.heap.get? b=some o→H b=none→b∈frs outer→∃ sl,s'.heap.get? b=some { o with slots:=sl }
 free:∀ b o,s.heap.get? b=some o→H b=none→H' b=none
 tups:∀ b xs,H b=some (.tup xs)→H' b=some (.tup xs)
 frzs:∀ b o u,H b=some (.frz o u)→H' b=some (.frz o u)
 tbls:∀ b ps,H b=some (.tbl ps)→∃ more,H' b=some (.tbl (ps ++ more))
def CXr(P:AC)(w:AT):CXT:=fun outer H s E e s'=>∃(x:Ae) (C:Ad) (H':Hp),e=.ref x∧Fly P w outer H H' s x C s'∧E C none H'
section
variable{P:AC}{w:AT}{K:Ah}{mg:Str→Option Ad}{base:Bi}{N:List Str}{qual:Str}{scope:CW}{f:Ae}{cd:Ad}{A:AU}{outer:List Env}{s:Ag}{H:Hp}{E:XK}
end
structure aJz(h:Bi)(C:Ae)(bmB:List Ad)(newId:String)(tl:List Ad)(N':Ae)(nm q:Str)(bs:List Ad)(hdct:Bool)(sn:List Str)(sub:List Ad)(ab:Bool)(col:Option Bool)(dd:Option Ae)(k0 k1 k2 k3 k5:Option Ad)(mN:Str→Option Ad):Prop where
 ob:h.get? C=some (excClassObj nm q C N' bs tl hdct sn sub ab col dd k0 k1 k2 k3 k5 newId)
 ns:h.Ns N' mN
 ni:mN "__init__"=none
 tl:OwnTail h bmB tl
section
variable{P:AC}{w:AT}{K:Ah}{mg:Str→Option Ad}{base:Bi}{N:List Str}{qual:Str}{scope:CW}{f:Ae}{cd:Ad}{A:AU}{outer:List Env}{s:Ag}{H:Hp}{E:XK}
end
def aFK:Bool→BH→Array BH→Nat→Nat→Nat→StateT Bk Sem (Option Nat):=sortPriv% PySem.Builtin.gallop
def aD8:Array BH→Array BH→StateT Bk Sem (Array BH):=sortPriv% PySem.Builtin.mergeLo
def aD9:Array BH→Array BH→StateT Bk Sem (Array BH):=sortPriv% PySem.Builtin.mergeHi
section
variable{prog:AC}{w:AT}{A:AU}{E:Ad→Ag→Prop}{s:Ag}{κ:De}{it:Array BH}
def oA(prog:AC)(w:AT)(A:AU)(s:Ag)(κ:De)(it:Array BH):Prop:=
 ∀ x y,x∈it.toList→y∈it.toList→∀ C:Bool→Ag→Prop,(∀ b,C b s)→wpAny (model prog w) A (keyLt' κ x.1 y.1) C (fun _ _=>False) s
theorem e8{arr:Array BH}{i:Nat}{p:BH}{st:Bk}{Q:BH→Bk→Prop}(hi:arr[i]?=some p)(h:Q p st):wpS (model prog w) A E s (elem' arr i) Q st:=by
 rw[elem'_eq,hi];exact AL h
variable(hc:oA prog w A s κ it)
include hc
theorem tH{x y:BH}{st:Bk}{Q:Option Bool→Bk→Prop}(q:kindOf st=κ)(z:x∈it.toList)(F:y∈it.toList)(h:∀ b,Q (some b) st):wpS (model prog w) A E s (lt' x y) Q st:=by
 rw[lt'_eq];refine Aw (Es ?_);rw[q];refine Aw (Fw (Gy (Ck (hc x y z F (fun b s'=>s'=s) fun _=>rfl) (fun b s' e=>⟨e,?_⟩) fun _ _ e=>e.elim)));exact AL (h b)
theorem gN{left:Bool}{key:BH}{arr:Array BH}{base n M:Nat}{st:Bk}{Q:Option Nat→Bk→Prop}(O:key∈it.toList)(Z:∀ i,i < n→∃ p,arr[base + i]?=some p∧p∈it.toList)(hh:M < n)(hk:kindOf st=κ)
  (h:∀ k,k≤n→Q (some k) st):wpS (model prog w) A E s (aFK left key arr base n M) Q st:=by
 have Y:∀(i:Nat) (Q':Option Bool→Bk→Prop),i < n→(∀ b,Q' (some b) st)→wpS (model prog w) A E s (do
   let x ← elem' arr (base + i)
   if left=true then lt' x key else do
    let r ← lt' key x
    pure (r.map fun b=>!b)) Q' st:=fun i Q' hi q=>by
  obtain⟨p,e,hp⟩:=Z i hi;refine Aw (e8 e ?_);split
  ·exact tH hc hk hp O q
  ·exact Aw (tH hc hk O hp fun b=>AL (q _))
 refine Aw (Y M _ hh fun b=>?_);dsimp only;split <;>
 ·refine Aw (C0 (B0 (I:=fun _ c F=>F=st∧c.1=none) (Q:=fun c F=>F=st∧c.1=none) ?_ (fun c F z=>z) ⟨rfl,rfl⟩) ?_)
  ·rintro x ⟨r,lo,ab⟩ F _ _ ⟨rfl,z⟩;cases z;dsimp only;split
   ·exact AL ⟨rfl,rfl⟩
   ·refine Aw (Y _ _ (by omega) fun b=>?_);dsimp only;split <;> exact AL ⟨rfl,rfl⟩
  ·rintro⟨r,lo,ab⟩ F ⟨rfl,z⟩;cases z;dsimp only;refine Aw (C0 (B0 (I:=fun _ c J=>J=F∧c.1=none∧c.2.2≤n) (Q:=fun c J=>J=F∧c.1=none∧c.2.2≤n) ?_ (fun c F z=>z) ⟨rfl,rfl,?_⟩) ?_)
   ·rintro x ⟨r,lo,hi⟩ J _ _ ⟨rfl,z,z2⟩;cases z;dsimp only at z2 ⊢;split
    ·exact AL ⟨rfl,rfl,z2⟩
    ·refine Aw (Y _ _ (by omega) fun b=>?_);dsimp only;split
     ·exact AL ⟨rfl,rfl,z2⟩
     ·exact AL ⟨rfl,rfl,by dsimp only;omega⟩
   ·dsimp only;omega
   ·rintro⟨r,lo,hi⟩ J ⟨rfl,z,z2⟩;cases z;exact AL (h _ z2)
end
theorem pr3{α β γ:Type}{P:α×β×γ→Prop}(h:∀ a b c,P (a,b,c)):∀ x,P x:=fun⟨a,b,c⟩=>h a b c
def Pl(a b out:Array BH)(ia ib:Nat):Prop:=(out.toList ++ (a.toList.drop ia ++ b.toList.drop ib)).Perm (a.toList ++ b.toList)
section
variable{a b out:Array BH}{ia ib k:Nat}
theorem vJ{c:Array BH}{i:Nat}{p:BH}(e:c[i]?=some p):c.toList.drop i=p :: c.toList.drop (i + 1):=by
 have q:c.toList[i]?=some p:=by rw[B3];exact e
 obtain⟨h1,h2⟩:=At.mp q;rw[← h2];exact Er h1
theorem eI{c:Array BH}{i j:Nat}:(c.extract i j).toList=(c.toList.drop i).take (j - i):=by simp
theorem rG{c:Array BH}{i:Nat}:(c.extract i c.size).toList=c.toList.drop i:=by
 rw[eI,Bg];simp
theorem Pl.pushA{p:BH}(h:Pl a b out ia ib)(e:a[ia]?=some p):Pl a b (out.push p) (ia + 1) ib:=by
 unfold Pl at h ⊢;rw[vJ e]at h;rw[CK,AY];exact h
theorem Pl.pushB{p:BH}(h:Pl a b out ia ib)(e:b[ib]?=some p):Pl a b (out.push p) ia (ib + 1):=by
 unfold Pl at h ⊢;rw[vJ e]at h;rw[CK,AY];exact(BD _ (List.perm_middle (l₁:=a.toList.drop ia) (a:=p)).symm).trans h
theorem Pl.runA(h:Pl a b out ia ib):Pl a b (out ++ a.extract ia (ia + k)) (ia + k) ib:=by
 unfold Pl at h ⊢;rw[A4,eI,DA,AY,← AY (Gm _ _),← Fb,BR];exact h
theorem Pl.runB(h:Pl a b out ia ib):Pl a b (out ++ b.extract ib (ib + k)) ia (ib + k):=by
 unfold Pl at h ⊢;refine Dl ?_ h;rw[A4,eI,DA,AY];refine BD _ ?_;refine(D9 _ _ _).trans (BD _ ?_);rw[← Fb,BR]
theorem Pl.fin(h:Pl a b out ia ib):(out ++ a.extract ia a.size ++ b.extract ib b.size).Perm (a ++ b):=by
 rw[Bc,A4,A4,A4,rG,rG,AY];exact h
theorem Pl.fin2(h:Pl a b out ia ib):(out ++ b.extract ib b.size ++ a.extract ia a.size).Perm (a ++ b):=by
 rw[Bc,A4,A4,A4,rG,rG,AY];exact(BD _ CA).trans h
theorem Pl.start{p:BH}(e:b[0]?=some p):Pl a b #[p] 0 1:=by
 have h:Pl a b #[] 0 0:=List.Perm.refl _;exact h.pushB e
end
theorem bQ{M:He}{A:AU}{E:Ad→Ag→Prop}{s:Ag}{σ α:Type}{c:Prop}[Decidable c]{z q:StateT σ Sem α}{Q:α→σ→Prop}{st:σ}(h1:c→wpS M A E s z Q st)(h2:¬ c→wpS M A E s q Q st):wpS M A E s (if c then z else q) Q st:=by
 split
 ·exact h1 ‹_›
 ·exact h2 ‹_›
structure Sg(st st':Bk):Prop where
 kind:kindOf st'=kindOf st
 arr:arrOf st'=arrOf st
 pend:pendingOf st'=pendingOf st
 fail:failedOf st'=failedOf st
theorem Sg.refl(st:Bk):Sg st st:=⟨rfl,rfl,rfl,rfl⟩
theorem hX{i j:Nat}(h:¬ (i == j)=true):i≠j:=fun z=>h (by rw[z];exact beq_self_eq_true _)
structure GL(a b:Array BH)(x:Nat)(out:Array BH)(ia ib:Nat):Prop where
 pl:Pl a b out ia ib
 la:ia + 1 < a.size
 lb:ib < b.size
 on:x≤ia + ib
section
variable{prog:AC}{w:AT}{A:AU}{E:Ad→Ag→Prop}{s:Ag}{κ:De}{it:Array BH}(hc:oA prog w A s κ it)
include hc
theorem yR{a b:Array BH}{st:Bk}{Q:Array BH→Bk→Prop}(ha:1≤a.size)(hb:1≤b.size)(iA:∀ p∈a.toList,p∈it.toList)(iB:∀ p∈b.toList,p∈it.toList)(hk:kindOf st=κ)
  (h:∀ out F,out.Perm (a ++ b)→Sg st F→Q out F):wpS (model prog w) A E s (aD8 a b) Q st:=by
 have gA:∀ i,i < a.size→∃ p,a[i]?=some p∧p∈it.toList:=fun i hi=>⟨_,Bo hi,iA _ (by simp)⟩
 have gB:∀ i,i < b.size→∃ p,b[i]?=some p∧p∈it.toList:=fun i hi=>⟨_,Bo hi,iB _ (by simp)⟩
 refine Aw (Fw (Cb ⟨rfl,?_⟩));obtain⟨p0,e0,_⟩:=gB 0 hb;refine Aw (e8 e0 ?_);refine bQ (fun _=>AL (h _ _ (Pl.start e0).fin (Sg.refl _))) fun n1=>?_;have ar:1≠b.size:=fun z=>n1 (by rw[← z];rfl);refine bQ (fun _=>AL (h _ _ (Pl.start e0).fin2 (Sg.refl _))) fun n2=>?_;have av:1≠a.size:=fun z=>n2 (by rw[← z];rfl);refine Aw (Es ?_);dsimp only;have Y:∀(i:Nat) (Q':BH→Bk→Prop) (F:Bk),i < a.size→(∀ p,a[i]?=some p→p∈it.toList→Q' p F)→wpS (model prog w) A E s (elem' a i) Q' F:=fun i Q' F hi q=>by
  obtain⟨p,e,Z⟩:=gA i hi;exact e8 e (q p e Z)
 have M:∀(i:Nat) (Q':BH→Bk→Prop) (F:Bk),i < b.size→(∀ p,b[i]?=some p→p∈it.toList→Q' p F)→wpS (model prog w) A E s (elem' b i) Q' F:=fun i Q' F hi q=>by
  obtain⟨p,e,Z⟩:=gB i hi;exact e8 e (q p e Z)
 refine Aw (C0 (B0 (I:=fun x c F=>c.1=none∧GL a b x c.2.1 c.2.2.1 c.2.2.2.1∧Sg st F) (Q:=fun c F=>∃ r,c.1=some r∧r.Perm (a ++ b)∧Sg st F) ?_ (fun c F z=>?_) ⟨rfl,⟨Pl.start e0,by dsimp only;omega,by dsimp only;omega,by dsimp only;omega⟩,Sg.refl _⟩) ?_)
 ·refine fun x=>pr3 fun r out=>pr3 fun ia ib mg F _ hx=>?_;rintro⟨z,g,sg⟩;cases z;dsimp only at g ⊢;refine Aw (C0 (B0 (I:=fun y c F=>c.1=none∧GL a b (x + y) c.2.1 c.2.2.1 c.2.2.2.1∧Sg st F) (Q:=fun c F=>Sg st F∧((∃ r,c.1=some r∧r.Perm (a ++ b))∨(c.1=none∧GL a b (x + 1) c.2.1 c.2.2.1 c.2.2.2.1))) ?_ (fun c F z=>?_) ⟨rfl,g,sg⟩) ?_)
  ·refine fun y=>pr3 fun r out=>pr3 fun ia ib=>Prod.rec fun ac bc F _ hy=>?_;rintro⟨z,g,sg⟩;cases z;obtain⟨hP,h1,h2,h3⟩:=g;dsimp only at hP h1 h2 h3 ⊢;refine Aw (M _ _ _ h2 fun p ep Z=>Aw (Y _ _ _ (by omega) fun q eq hq=>Aw (tH hc (sg.kind.trans hk) Z hq fun bw=>?_)));refine bQ (fun _=>?_) fun _=>?_
   ·refine Aw (M _ _ _ h2 fun p' J _=>?_);refine bQ (fun _=>AL ⟨sg,.inl ⟨_,rfl,(hP.pushB J).fin⟩⟩) fun n=>?_;have n':ib + 1≠b.size:=fun z=>n (by rw[z];exact beq_self_eq_true _);exact bQ (fun _=>AL ⟨sg,.inr ⟨rfl,hP.pushB J,h1,by dsimp only;omega,by dsimp only;omega⟩⟩) fun _=>AL ⟨rfl,⟨hP.pushB J,h1,by dsimp only;omega,by dsimp only;omega⟩,sg⟩
   ·refine Aw (Y _ _ _ (by omega) fun p' J _=>?_);refine bQ (fun _=>AL ⟨sg,.inl ⟨_,rfl,(hP.pushA J).fin2⟩⟩) fun n=>?_;have n':ia + 1 + 1≠a.size:=fun z=>n (by rw[z];exact beq_self_eq_true _);exact bQ (fun _=>AL ⟨sg,.inr ⟨rfl,hP.pushA J,by dsimp only;omega,h2,by dsimp only;omega⟩⟩) fun _=>AL ⟨rfl,⟨hP.pushA J,by dsimp only;omega,h2,by dsimp only;omega⟩,sg⟩
  ·obtain⟨z1,⟨hP,h1,h2,h3⟩,sg⟩:=z;exact⟨sg,.inr ⟨z1,hP,h1,h2,by omega⟩⟩
  ·rintro⟨r,out,ia,ib,ac,bc⟩ F ⟨sg,⟨r',z,hr⟩ | ⟨z,g⟩⟩
   ·cases z;exact AL ⟨_,rfl,hr,sg⟩
   ·cases z;dsimp only at g ⊢;refine Aw (Fw (Cb ⟨rfl,?_⟩));refine Aw (C0 (B0 (I:=fun y c F=>c.1=none∧GL a b (x + 1) c.2.1 c.2.2.1 c.2.2.2.1∧Sg st F) (Q:=fun c F=>Sg st F∧((∃ r,c.1=some r∧r.Perm (a ++ b))∨(c.1=none∧GL a b (x + 1) c.2.1 c.2.2.1 c.2.2.2.1))) ?_ (fun c F z=>⟨z.2.2,.inr ⟨z.1,z.2.1⟩⟩) ⟨rfl,g,sg⟩) ?_)
    ·refine fun y=>pr3 fun r out=>pr3 fun ia ib=>pr3 fun mg ac bc F _ hy=>?_;rintro⟨z,g,sg⟩;cases z;obtain⟨hP,h1,h2,h3⟩:=g;dsimp only at hP h1 h2 h3 ⊢;refine bQ (fun _=>Aw (CJ ?_)) fun _=>Aw (CJ ?_)
     all_goals
      refine Aw (M _ _ _ h2 fun p ep Z=>Aw (gN hc Z (fun i hi=>gA _ (by omega)) (by omega) (sg.kind.trans hk) fun k ap=>?_));dsimp only;refine bQ (fun kp=>bQ (fun _=>AL ⟨⟨sg.1,sg.2,sg.3,sg.4⟩,.inl ⟨_,rfl,(hP.runA (k:=k)).fin2⟩⟩) fun na=>bQ (fun _=>AL ⟨⟨sg.1,sg.2,sg.3,sg.4⟩,.inl ⟨_,rfl,(hP.runA (k:=k)).fin⟩⟩) fun nb=>?_) fun _=>?_
      all_goals
       first | (have e1:=hX na;have e2:=hX nb;have aa:=hP.runA (k:=k);have ag:ia + k + 1 < a.size:=by omega) | (have aa:=hP;have ag:=h1)
       refine Aw (M _ _ _ h2 fun p' J _=>bQ (fun _=>AL ⟨⟨sg.1,sg.2,sg.3,sg.4⟩,.inl ⟨_,rfl,(aa.pushB J).fin⟩⟩) fun n=>?_);have n':=hX n;have ab:=aa.pushB J;refine Aw (Y _ _ _ (by omega) fun q eq hq=>Aw (gN hc hq (fun i hi=>gB _ (by omega)) (by omega) (sg.kind.trans hk) fun k2 aC=>?_));dsimp only;refine bQ (fun aw=>bQ (fun _=>AL ⟨⟨sg.1,sg.2,sg.3,sg.4⟩,.inl ⟨_,rfl,(ab.runB (k:=k2)).fin⟩⟩) fun nc=>?_) fun _=>?_
       all_goals
        first | (have e3:=hX nc;have O:=ab.runB (k:=k2)) | have O:=ab
        refine Aw (Y _ _ _ (by omega) fun q' ae _=>bQ (fun _=>AL ⟨⟨sg.1,sg.2,sg.3,sg.4⟩,.inl ⟨_,rfl,(O.pushA ae).fin2⟩⟩) fun nd=>?_);have e4:=hX nd;exact bQ (fun _=>AL ⟨⟨sg.1,sg.2,sg.3,sg.4⟩,.inr ⟨rfl,O.pushA ae,by dsimp only;omega,by dsimp only;omega,by dsimp only;omega⟩⟩) fun _=>AL ⟨rfl,⟨O.pushA ae,by dsimp only;omega,by dsimp only;omega,by dsimp only;omega⟩,sg.1,sg.2,sg.3,sg.4⟩
    ·rintro⟨r,out,ia,ib,mg,ac,bc⟩ F ⟨sg,⟨r',z,hr⟩ | ⟨z,g⟩⟩
     ·cases z;exact AL ⟨_,rfl,hr,sg⟩
     ·cases z;exact Aw (CJ (AL ⟨rfl,g,sg.1,sg.2,sg.3,sg.4⟩))
 ·obtain⟨z1,⟨hP,h1,h2,h3⟩,sg⟩:=z;exfalso;omega
 ·rintro⟨r,out,ia,ib,mg⟩ F ⟨r',z,hr,sg⟩;cases z;exact AL (h _ _ hr sg)
end
def Ph(a b out:Array BH)(na nb:Nat):Prop:=(out.toList ++ (a.toList.take na ++ b.toList.take nb)).Perm (a.toList ++ b.toList)
section
variable{a b out:Array BH}{na nb k:Nat}
theorem vK{c:Array BH}{i:Nat}{p:BH}(h:1≤i)(e:c[i - 1]?=some p):c.toList.take i=c.toList.take (i - 1) ++ [p]:=by
 obtain⟨j,rfl⟩:∃ j,i=j + 1:=⟨i - 1,by omega⟩
 rw[Nat.add_sub_cancel]at e ⊢;rw[List.take_succ,B3,e];rfl
theorem yS{c:Array BH}{i j:Nat}(h:i≤j):c.toList.take j=c.toList.take i ++ (c.extract i j).toList:=by
 rw[eI];obtain⟨d,rfl⟩:∃ d,j=i + d:=⟨j - i,by omega⟩
 rw[DA];exact List.take_add
theorem Ph.pushA{p:BH}(h:Ph a b out na nb)(h1:1≤na)(e:a[na - 1]?=some p):Ph a b (out.push p) (na - 1) nb:=by
 unfold Ph at h ⊢;refine Dl ?_ h;rw[vK h1 e,CK,AY,AY];exact BD _ (D9 _ _ _)
theorem Ph.pushB{p:BH}(h:Ph a b out na nb)(h1:1≤nb)(e:b[nb - 1]?=some p):Ph a b (out.push p) na (nb - 1):=by
 unfold Ph at h ⊢;refine Dl ?_ h;rw[vK h1 e,CK,AY,← AY (Gm na _)];exact BD _ CA
theorem Ph.runA(h:Ph a b out na nb)(h1:k≤na):Ph a b (out ++ (a.extract k na).reverse) k nb:=by
 unfold Ph at h ⊢;refine Dl ?_ h;rw[yS h1,A4,DX,AY,AY];exact BD _ ((CS _ (DE _)).trans (D9 _ _ _))
theorem Ph.runB(h:Ph a b out na nb)(h1:k≤nb):Ph a b (out ++ (b.extract k nb).reverse) na k:=by
 unfold Ph at h ⊢;refine Dl ?_ h;rw[yS h1,A4,DX,AY,← AY (Gm na _)];exact BD _ ((CS _ (DE _)).trans CA)
theorem Ph.fin(h:Ph a b out na nb):(a.extract 0 na ++ b.extract 0 nb ++ out.reverse).Perm (a ++ b):=by
 rw[Bc,A4,A4,A4,eI,eI,DX];exact(CA.trans (CS _ (DE _))).trans h
theorem Ph.fin2(h:Ph a b out na nb):(b.extract 0 nb ++ a.extract 0 na ++ out.reverse).Perm (a ++ b):=by
 rw[Bc,A4,A4,A4,eI,eI,DX];exact((CA.trans (CS _ (DE _))).trans (BD _ CA)).trans h
theorem Ph.start{p:BH}(h:1≤a.size)(e:a[a.size - 1]?=some p):Ph a b #[p] (a.size - 1) b.size:=by
 have q:Ph a b #[] a.size b.size:=by
  unfold Ph;rw[Bg (by simp),Bg (by simp)];exact List.Perm.refl _
 exact q.pushA h e
end
structure GH(a b:Array BH)(x:Nat)(out:Array BH)(na nb:Nat):Prop where
 pl:Ph a b out na nb
 la:1≤na
 lb:2≤nb
 ua:na≤a.size
 ub:nb≤b.size
 on:x + na + nb≤a.size + b.size
section
variable{prog:AC}{w:AT}{A:AU}{E:Ad→Ag→Prop}{s:Ag}{κ:De}{it:Array BH}(hc:oA prog w A s κ it)
include hc
theorem yT{a b:Array BH}{st:Bk}{Q:Array BH→Bk→Prop}(ha:1≤a.size)(hb:1≤b.size)(iA:∀ p∈a.toList,p∈it.toList)(iB:∀ p∈b.toList,p∈it.toList)(hk:kindOf st=κ)
  (h:∀ out F,out.Perm (a ++ b)→Sg st F→Q out F):wpS (model prog w) A E s (aD9 a b) Q st:=by
 have gA:∀ i,i < a.size→∃ p,a[i]?=some p∧p∈it.toList:=fun i hi=>⟨_,Bo hi,iA _ (by simp)⟩
 have gB:∀ i,i < b.size→∃ p,b[i]?=some p∧p∈it.toList:=fun i hi=>⟨_,Bo hi,iB _ (by simp)⟩
 refine Aw (Fw (Cb ⟨rfl,?_⟩));obtain⟨p0,e0,_⟩:=gA (a.size - 1) (by omega);refine Aw (e8 e0 ?_);refine bQ (fun _=>AL (h _ _ (Ph.start ha e0).fin (Sg.refl _))) fun n1=>?_;have aq:=hX n1;refine bQ (fun _=>AL (h _ _ (Ph.start ha e0).fin2 (Sg.refl _))) fun n2=>?_;have aw:=hX n2;refine Aw (Es ?_);dsimp only;have aa:∀(i:Nat) (Q':BH→Bk→Prop) (F:Bk),i < a.size→(∀ p,a[i]?=some p→p∈it.toList→Q' p F)→wpS (model prog w) A E s (elem' a i) Q' F:=fun i Q' F hi q=>by
  obtain⟨p,e,hp⟩:=gA i hi;exact e8 e (q p e hp)
 have M:∀(i:Nat) (Q':BH→Bk→Prop) (F:Bk),i < b.size→(∀ p,b[i]?=some p→p∈it.toList→Q' p F)→wpS (model prog w) A E s (elem' b i) Q' F:=fun i Q' F hi q=>by
  obtain⟨p,e,hp⟩:=gB i hi;exact e8 e (q p e hp)
 refine Aw (C0 (B0 (I:=fun x c F=>c.1=none∧GH a b x c.2.2.2.1 c.2.1 c.2.2.1∧Sg st F) (Q:=fun c F=>∃ r,c.1=some r∧r.Perm (a ++ b)∧Sg st F) ?_ (fun c F z=>?_) ⟨rfl,⟨Ph.start ha e0,by dsimp only;omega,by dsimp only;omega,by dsimp only;omega,by dsimp only;omega,by dsimp only;omega⟩,Sg.refl _⟩) ?_)
 ·refine fun x=>pr3 fun r na=>pr3 fun nb out mg F _ hx=>?_;rintro⟨z,g,sg⟩;cases z;dsimp only at g ⊢;refine Aw (C0 (B0 (I:=fun y c F=>c.1=none∧GH a b (x + y) c.2.2.2.1 c.2.1 c.2.2.1∧Sg st F) (Q:=fun c F=>Sg st F∧((∃ r,c.1=some r∧r.Perm (a ++ b))∨(c.1=none∧GH a b (x + 1) c.2.2.2.1 c.2.1 c.2.2.1))) ?_ (fun c F z=>?_) ⟨rfl,g,sg⟩) ?_)
  ·refine fun y=>pr3 fun r na=>pr3 fun nb out=>Prod.rec fun ac bc F _ hy=>?_;rintro⟨z,g,sg⟩;cases z;obtain⟨hP,h1,h2,h3,h4,h5⟩:=g;dsimp only at hP h1 h2 h3 h4 h5 ⊢;refine Aw (M _ _ _ (by omega) fun p ep hp=>Aw (aa _ _ _ (by omega) fun q eq hq=>Aw (tH hc (sg.kind.trans hk) hp hq fun bw=>?_)));refine bQ (fun _=>?_) fun _=>?_
   ·refine Aw (aa _ _ _ (by omega) fun p' J _=>?_);refine bQ (fun _=>AL ⟨sg,.inl ⟨_,rfl,(hP.pushA h1 J).fin⟩⟩) fun n=>?_;have n':=hX n;exact bQ (fun _=>AL ⟨sg,.inr ⟨rfl,hP.pushA h1 J,by dsimp only;omega,h2,by dsimp only;omega,h4,by dsimp only;omega⟩⟩) fun _=>AL ⟨rfl,⟨hP.pushA h1 J,by dsimp only;omega,h2,by dsimp only;omega,h4,by dsimp only;omega⟩,sg⟩
   ·refine Aw (M _ _ _ (by omega) fun p' J _=>?_);refine bQ (fun _=>AL ⟨sg,.inl ⟨_,rfl,(hP.pushB (by omega) J).fin2⟩⟩) fun n=>?_;have n':=hX n;exact bQ (fun _=>AL ⟨sg,.inr ⟨rfl,hP.pushB (by omega) J,h1,by dsimp only;omega,h3,by dsimp only;omega,by dsimp only;omega⟩⟩) fun _=>AL ⟨rfl,⟨hP.pushB (by omega) J,h1,by dsimp only;omega,h3,by dsimp only;omega,by dsimp only;omega⟩,sg⟩
  ·obtain⟨z1,⟨hP,h1,h2,h3,h4,h5⟩,sg⟩:=z;exact⟨sg,.inr ⟨z1,hP,h1,h2,h3,h4,by omega⟩⟩
  ·rintro⟨r,na,nb,out,ac,bc⟩ F ⟨sg,⟨r',z,hr⟩ | ⟨z,g⟩⟩
   ·cases z;exact AL ⟨_,rfl,hr,sg⟩
   ·cases z;dsimp only at g ⊢;refine Aw (Fw (Cb ⟨rfl,?_⟩));refine Aw (C0 (B0 (I:=fun y c F=>c.1=none∧GH a b (x + 1) c.2.2.2.1 c.2.1 c.2.2.1∧Sg st F) (Q:=fun c F=>Sg st F∧((∃ r,c.1=some r∧r.Perm (a ++ b))∨(c.1=none∧GH a b (x + 1) c.2.2.2.1 c.2.1 c.2.2.1))) ?_ (fun c F z=>⟨z.2.2,.inr ⟨z.1,z.2.1⟩⟩) ⟨rfl,g,sg⟩) ?_)
    ·refine fun y=>pr3 fun r na=>pr3 fun nb out=>pr3 fun mg ac bc F _ hy=>?_;rintro⟨z,g,sg⟩;cases z;obtain⟨hP,h1,h2,h3,h4,h5⟩:=g;dsimp only at hP h1 h2 h3 h4 h5 ⊢;refine bQ (fun _=>Aw (CJ ?_)) fun _=>Aw (CJ ?_)
     all_goals
      refine Aw (M _ _ _ (by omega) fun p ep hp=>Aw (gN hc hp (fun i hi=>gA _ (by omega)) (by omega) (sg.kind.trans hk) fun k ah=>?_));dsimp only;refine bQ (fun kp=>bQ (fun _=>AL ⟨⟨sg.1,sg.2,sg.3,sg.4⟩,.inl ⟨_,rfl,(hP.runA ah).fin⟩⟩) fun na=>?_) fun kz=>?_
      all_goals
       first | (have e1:=hX na;have ad:=hP.runA ah;have Z:1≤k:=by omega) | (have ad:=hP;have Z:=h1)
       refine Aw (M _ _ _ (by omega) fun p' J _=>bQ (fun _=>AL ⟨⟨sg.1,sg.2,sg.3,sg.4⟩,.inl ⟨_,rfl,(ad.pushB (by omega) J).fin2⟩⟩) fun n=>?_);have n':=hX n;have O:=ad.pushB (by omega) J;refine Aw (aa _ _ _ (by omega) fun q eq hq=>Aw (gN hc hq (fun i hi=>gB _ (by omega)) (by omega) (sg.kind.trans hk) fun k2 ag=>?_));dsimp only;refine bQ (fun ax=>bQ (fun _=>AL ⟨⟨sg.1,sg.2,sg.3,sg.4⟩,.inl ⟨_,rfl,(O.runB ag).fin2⟩⟩) fun nc=>bQ (fun _=>AL ⟨⟨sg.1,sg.2,sg.3,sg.4⟩,.inl ⟨_,rfl,(O.runB ag).fin⟩⟩) fun nd=>?_) fun _=>?_
       all_goals
        first | (have e3:=hX nc;have ar:=hX nd;have Y:=O.runB ag) | have Y:=O
        refine Aw (aa _ _ _ (by omega) fun q' af _=>bQ (fun _=>AL ⟨⟨sg.1,sg.2,sg.3,sg.4⟩,.inl ⟨_,rfl,(Y.pushA Z af).fin⟩⟩) fun nd=>?_);have e4:=hX nd;exact bQ (fun _=>AL ⟨⟨sg.1,sg.2,sg.3,sg.4⟩,.inr ⟨rfl,Y.pushA Z af,by dsimp only;omega,by dsimp only;omega,by dsimp only;omega,by dsimp only;omega,by dsimp only;omega⟩⟩) fun _=>AL ⟨rfl,⟨Y.pushA Z af,by dsimp only;omega,by dsimp only;omega,by dsimp only;omega,by dsimp only;omega,by dsimp only;omega⟩,sg.1,sg.2,sg.3,sg.4⟩
    ·rintro⟨r,na,nb,out,mg,ac,bc⟩ F ⟨sg,⟨r',z,hr⟩ | ⟨z,g⟩⟩
     ·cases z;exact AL ⟨_,rfl,hr,sg⟩
     ·cases z;exact Aw (CJ (AL ⟨rfl,g,sg.1,sg.2,sg.3,sg.4⟩))
 ·obtain⟨z1,⟨hP,h1,h2,h3,h4,h5⟩,sg⟩:=z;exfalso;omega
 ·rintro⟨r,na,nb,out,mg⟩ F ⟨r',z,hr,sg⟩;cases z;exact AL (h _ _ hr sg)
end
structure Sm(st st':Bk):Prop where
 kind:kindOf st'=kindOf st
 arr:(arrOf st').Perm (arrOf st)
 pend:pendingOf st'=pendingOf st
 fail:failedOf st'=failedOf st
theorem Sm.refl(st:Bk):Sm st st:=⟨rfl,CU _,rfl,rfl⟩
theorem Sm.trans{st z q:Bk}(a:Sm st z)(b:Sm z q):Sm st q:=⟨b.1.trans a.1,b.2.trans a.2,b.3.trans a.3,b.4.trans a.4⟩
theorem Sm.rev(st:Bk)(i j k:Nat):Sm st (setArr st (mirror (arrOf st) i j k)):=⟨rfl,mirror_perm _ _ _ _,rfl,rfl⟩
theorem Sm.bub(st:Bk)(i j:Nat):Sm st (setArr st (bubble (arrOf st) i j)):=⟨rfl,bubble_perm _ _ _,rfl,rfl⟩
structure GS(κ:De)(it:Array BH)(st:Bk):Prop where
 kind:kindOf st=κ
 perm:(arrOf st).Perm it
 fail:failedOf st=none
theorem GS.on{κ:De}{it:Array BH}{st q:Bk}(g:GS κ it st)(m:Sm st q):GS κ it q:=⟨m.1.trans g.1,m.2.trans g.2,m.4.trans g.3⟩
section
variable{prog:AC}{w:AT}{A:AU}{E:Ad→Ag→Prop}{s:Ag}{κ:De}{it:Array BH}
theorem GS.get{st:Bk}(g:GS κ it st){i:Nat}(hi:i < it.size):∃ p,(arrOf st)[i]?=some p∧p∈it.toList:=by
 have q:i < (arrOf st).size:=by rw[g.perm.size_eq];exact hi
 exact⟨_,Bo q,(Bc.mp g.perm).mem_iff.mp (by simp)⟩
theorem pF{st:Bk}{i j:Nat}{Q:Unit→Bk→Prop}(h:∀ q,Sm st q→Q () q):wpS (model prog w) A E s (reverseSlice' i j) Q st:=by
 rw[reverseSlice'_eq];exact CJ (h _ (Sm.rev _ _ _ _))
theorem aEa{st:Bk}{i j:Nat}{Q:Unit→Bk→Prop}(h:∀ q,Sm st q→Q () q):wpS (model prog w) A E s (moveDown' i j) Q st:=by
 rw[moveDown'_eq];exact CJ (h _ (Sm.bub _ _ _))
variable(hc:oA prog w A s κ it)
include hc
theorem j9{st:Bk}{i j:Nat}{Q:Option Bool→Bk→Prop}(g:GS κ it st)(hi:i < it.size)(z:j < it.size)(h:∀ b,Q (some b) st):wpS (model prog w) A E s (ltAt' i j) Q st:=by
 obtain⟨p,e1,hp⟩:=g.get hi;obtain⟨q,e2,hq⟩:=g.get z;rw[ltAt'_eq];exact Aw (Es (Aw (e8 e1 (Aw (e8 e2 (tH hc g.kind hp hq h))))))
theorem aCL{lo J:Nat}{st:Bk}{Q:Option Nat→Bk→Prop}(g:GS κ it st)(h1:1≤J)(hz:lo + J≤it.size)(h:∀ n F,1≤n→n≤J→Sm st F→Q (some n) F):wpS (model prog w) A E s (countRun' lo J) Q st:=by
 have O:∀(n0:Nat) (st0:Bk) (Q':Option (Option Nat)×Nat→Bk→Prop),GS κ it st0→1≤n0→n0≤J→(∀ n,n0≤n→n≤J→Q' (none,n) st0)→wpS (model prog w) A E s (forIn [n0:J] (none,n0) fun _ c=>do
   let r ← ltAt' (lo + c.2) (lo + c.2 - 1)
   match r with
   | some b=>if b=true then pure (ForInStep.done (none,c.2)) else pure (Cp (none,c.2 + 1))
   | _=>pure (ForInStep.done (some none,c.2))) Q' st0:=fun n0 st0 Q' g0 ar ad q=>by
  refine C0 (B0 (I:=fun x c F=>F=st0∧c=(none,x)) (Q:=fun c F=>F=st0∧∃ n,c=(none,n)∧n0≤n∧n≤J) ?_ (fun c F z=>⟨z.1,_,z.2,by omega,by omega⟩) ⟨rfl,rfl⟩) fun c F z=>?_
  ·rintro x c F ag am ⟨rfl,rfl⟩;refine Aw (j9 hc g0 (by dsimp only;omega) (by dsimp only;omega) fun b=>?_);refine bQ (fun _=>AL ⟨rfl,_,rfl,ag,by omega⟩) fun _=>AL ⟨rfl,rfl⟩
  ·obtain⟨rfl,n,rfl,z1,Z⟩:=z;exact q n z1 Z
 rw[countRun'_eq];refine Aw (O 1 st _ g (Am _) h1 fun n ad af=>?_);dsimp only;refine bQ (fun _=>AL (h n st ad af (Sm.refl _))) fun ne=>?_;have av:=hX ne;refine bQ (fun _=>Aw (j9 hc g (by omega) (by omega) fun b=>bQ (fun _=>AL (h n st ad af (Sm.refl _))) fun _=>Aw (pF fun aq m1=>?_))) fun _=>?_
 all_goals
  first | (have g1:=g.on m1;have ah:=m1) | (have g1:=g;have ah:=Sm.refl st)
  refine Aw (Fw (Cb ⟨rfl,?_⟩));refine Aw (C0 (B0 (I:=fun x c F=>c.1=none∧c.2.1=x∧Sm st F) (Q:=fun c F=>c.1=none∧1≤c.2.1∧c.2.1≤J∧Sm st F) ?_ (fun c F z=>⟨z.1,by have:=z.2.1;omega,by have:=z.2.1;omega,z.2.2⟩) ⟨rfl,rfl,ah⟩) ?_)
  ·rintro x ⟨r,n',q⟩ F ag am ⟨z1,Z,M⟩;dsimp only at z1 Z ⊢;subst z1 Z;refine Aw (j9 hc (g.on M) (by omega) (by omega) fun b=>?_);refine bQ (fun _=>bQ (fun _=>Aw (pF fun an m3=>AL ⟨rfl,rfl,M.trans m3⟩)) fun _=>AL ⟨rfl,rfl,M⟩) fun _=>?_;refine Aw (j9 hc (g.on M) (by omega) (by omega) fun b=>?_);exact bQ (fun _=>AL ⟨rfl,by dsimp only;omega,by dsimp only;omega,M⟩) fun _=>AL ⟨rfl,rfl,M⟩
  ·rintro⟨r,n',q⟩ F ⟨z1,Z,z3,M⟩;dsimp only at z1 Z z3 ⊢;subst z1;refine bQ (fun _=>Aw (pF fun an m3=>Aw (pF fun Y m4=>?_))) fun _=>Aw (pF fun Y m4=>?_)
   ·exact Aw (O n' Y _ (g.on ((M.trans m3).trans m4)) Z z3 fun ae a1 a2=>AL (h ae Y (by omega) a2 ((M.trans m3).trans m4)))
   ·exact Aw (O n' Y _ (g.on (M.trans m4)) Z z3 fun ae a1 a2=>AL (h ae Y (by omega) a2 (M.trans m4)))
theorem aAZ{lo n ok:Nat}{st:Bk}{Q:Bool→Bk→Prop}(g:GS κ it st)(hz:lo + n≤it.size)(h:∀ F,Sm st F→Q true F):wpS (model prog w) A E s (binarySort' lo n ok) Q st:=by
 rw[binarySort'_eq];refine Aw (C0 (B0 (I:=fun x c F=>c.1=none∧Sm st F) (Q:=fun c F=>c.1=none∧Sm st F) ?_ (fun c F z=>z) ⟨rfl,Sm.refl _⟩) ?_)
 ·rintro k ⟨r,u⟩ F Z aa ⟨M,m⟩;dsimp only at M ⊢;subst M;refine Aw (C0 (B0 (I:=fun x c J=>c.1=none∧c.2.2≤k∧J=F) (Q:=fun c J=>c.1=none∧J=F) ?_ (fun c F z=>⟨z.1,z.2.2⟩) ⟨rfl,Am _,rfl⟩) ?_)
  ·rintro x ⟨r,l,q⟩ J _ hx ⟨M,z2,rfl⟩;dsimp only at M z2 ⊢;subst M;refine bQ (fun _=>AL ⟨rfl,rfl⟩) fun O=>?_;refine Aw (j9 hc (g.on m) (by omega) (by omega) fun b=>?_);exact bQ (fun _=>AL ⟨rfl,by dsimp only;omega,rfl⟩) fun _=>AL ⟨rfl,by dsimp only;omega,rfl⟩
  ·rintro⟨r,l,q⟩ J ⟨M,rfl⟩;dsimp only at M ⊢;subst M;exact Aw (aEa fun ab Y=>AL ⟨rfl,m.trans Y⟩)
 ·rintro⟨r,u⟩ F ⟨M,m⟩;dsimp only at M ⊢;subst M;exact AL (h F m)
end
def gO:List (Nat×Nat×Nat)→Nat→Nat→Prop
 | [],a,b=>a=b
 | r :: l,a,b=>r.1=a∧1≤r.2.1∧gO l (a + r.2.1) b
theorem gO.le:∀{l:List (Nat×Nat×Nat)}{a b:Nat},gO l a b→a≤b
 | [],a,b,h=>Ef h
 | r :: l,a,b,h=>by have:=gO.le h.2.2;omega
theorem gO.snoc{n x:Nat}(hn:1≤n):∀{l:List (Nat×Nat×Nat)}{a b:Nat},gO l a b→gO (l ++ [(b,n,x)]) a (b + n)
 | [],a,b,h=>⟨(show a=b from h).symm,hn,by show a + n=b + n;rw[show a=b from h]⟩
 | r :: l,a,b,h=>⟨h.1,h.2.1,gO.snoc hn h.2.2⟩
theorem gO.mod{f:Nat×Nat×Nat→Nat×Nat×Nat}(q:∀ r,(f r).1=r.1∧(f r).2.1=r.2.1):∀{l:List (Nat×Nat×Nat)}{a b:Nat} (i:Nat),gO l a b→gO (l.modify i f) a b
 | [],a,b,i,h=>by rw[List.modify_nil];exact h
 | r :: l,a,b,0,h=>by
  rw[List.modify_zero_cons];exact⟨(q r).1.trans h.1,by rw[(q r).2];exact h.2.1,by rw[(q r).2];exact h.2.2⟩
 | r :: l,a,b,i + 1,h=>by
  rw[List.modify_succ_cons];exact⟨h.1,h.2.1,gO.mod q i h.2.2⟩
theorem gO.two{sa na pw z nb pv:Nat}:∀{l:List (Nat×Nat×Nat)}{a b:Nat} (i:Nat),gO l a b→l[i]?=some (sa,na,pw)→l[i + 1]?=some (z,nb,pv)→sa + na=z∧1≤na∧1≤nb∧z + nb≤b∧gO ((l.set i (sa,na + nb,pw)).eraseIdx (i + 1)) a b
 | [],a,b,i,h,e1,q=>by simp at e1
 | [r],a,b,0,h,e1,q=>by simp at q
 | r :: F :: l,a,b,0,h,e1,q=>by
  simp at e1 q;subst e1 q;obtain⟨h1,h2,h3,h4,h5⟩:=h;dsimp only at h1 h2 h3 h4 h5;have:=h5.le;refine⟨by omega,h2,h4,by omega,h1,by dsimp only;omega,?_⟩;dsimp only;rw[← Nat.add_assoc];exact h5
 | r :: l,a,b,i + 1,h,e1,q=>by
  obtain⟨x1,x2,x3,x4,x5⟩:=gO.two i h.2.2 (by simpa using e1) (by simpa using q);exact⟨x1,x2,x3,x4,h.1,h.2.1,x5⟩
theorem aBM:∀(l:List BH) (j k:Nat) (c:Array BH),((l.zipIdx j).foldl (fun a q=>a.setIfInBounds (k + q.2) q.1) c).toList=c.toList.take (k + j) ++ (l ++ c.toList.drop (k + j + l.length))∨c.size < k + j + l.length
 | [],j,k,c=>.inl (by simp)
 | p :: l,j,k,c=>by
  by_cases z:c.size < k + j + (p :: l).length
  ·exact .inr z
  ·refine .inl ?_;rw[DS,BG];have hl:k + j < c.toList.length:=by simp at z ⊢;omega
   rcases aBM l (j + 1) k (c.setIfInBounds (k + j) p)with e | e
   ·rw[e,Array.toList_setIfInBounds];have J:(c.toList.set (k + j) p).take (k + (j + 1))=c.toList.take (k + j) ++ [p]:=by
     rw[← Nat.add_assoc,List.take_succ,EW hl,List.take_set_of_le (Am _)];rfl
    have F:(c.toList.set (k + j) p).drop (k + (j + 1) + l.length)=c.toList.drop (k + j + (p :: l).length):=by
     rw[List.drop_set_of_lt (by omega),AK];congr 1;omega
    rw[J,F,AY];rfl
   ·exfalso;simp at e z;omega
theorem aEb{c x:Array BH}{sa n:Nat}(z:x.toList.Perm ((c.toList.drop sa).take n))(J:sa + n≤c.size):(x.toList.zipIdx.foldl (fun a q=>a.setIfInBounds (sa + q.2) q.1) c).Perm c:=by
 have hl:x.toList.length=n:=by
  rw[z.length_eq];simp;omega
 rcases aBM x.toList 0 sa c with e | e
 ·rw[Bc,e];rw[Nat.add_zero,hl];have F:c.toList=c.toList.take sa ++ ((c.toList.drop sa).take n ++ c.toList.drop (sa + n)):=by
   rw[← Fb,BR,BR]
  refine Dl (BD _ (CS _ z)) ?_;rw[← F]
 ·rw[hl]at e;omega
section
variable{prog:AC}{w:AT}{A:AU}{E:Ad→Ag→Prop}{s:Ag}{κ:De}{it:Array BH}
theorem aFL{M:He}{σ:Type}{a:σ}{Q:PUnit→σ→Prop}{st:σ}(h:Q ⟨⟩ a):wpS M A E s (set a:StateT σ Sem PUnit) Q st:=by
 unfold wpS;rw[StateT.run_set];exact Af ⟨rfl,h⟩
variable(hc:oA prog w A s κ it)
include hc
theorem qM{i lo:Nat}{st:Bk}{Q:Bool→Bk→Prop}(g:GS κ it st)(hs:gO (pendingOf st).toList 0 lo)(ao:lo≤it.size)(hi:i + 1 < (pendingOf st).size)(h:∀ z,GS κ it z→gO (pendingOf z).toList 0 lo→(pendingOf z).size + 1=(pendingOf st).size→Q true z):
  wpS (model prog w) A E s (mergeAt' i) Q st:=by
 obtain⟨⟨sa,na,pw⟩,ea⟩:∃ r,(pendingOf st)[i]?=some r:=⟨_,Bo (by omega)⟩
 obtain⟨⟨sb,nb,pv⟩,eb⟩:∃ r,(pendingOf st)[i + 1]?=some r:=⟨_,Bo hi⟩
 have af:(pendingOf st).toList[i]?=some (sa,na,pw):=by rw[B3];exact ea
 have ad:(pendingOf st).toList[i + 1]?=some (sb,nb,pv):=by rw[B3];exact eb
 obtain⟨x1,x2,x3,x4,x5⟩:=gO.two i hs af ad;have Y:(((pendingOf st).setIfInBounds i (sa,na + nb,pw)).eraseIdxIfInBounds (i + 1)).toList=((pendingOf st).toList.set i (sa,na + nb,pw)).eraseIdx (i + 1):=by simp
 have ab:(((pendingOf st).setIfInBounds i (sa,na + nb,pw)).eraseIdxIfInBounds (i + 1)).size + 1=(pendingOf st).size:=by
  rw[← Bq,Y,List.length_eraseIdx_of_lt (by rw[Cs,Bq];exact hi),Cs,Bq];omega
 have hz:(arrOf st).size=it.size:=g.perm.size_eq;refine Aw (Es ?_);rw[ea,eb];dsimp only;refine Aw (aFL ?_);have Z:∀ j,j < it.size→∃ p,(arrOf st)[j]?=some p∧p∈it.toList:=fun j hj=>g.get hj;have fin:∀(z:Bk),Sg (setPending st (((pendingOf st).setIfInBounds i (sa,na + nb,pw)).eraseIdxIfInBounds (i + 1))) z→∀ c:Array BH,c.Perm (arrOf st)→Q true (setArr z c):=fun z sg c hp=>
  h _ ⟨sg.kind.trans g.kind,hp.trans g.perm,sg.fail.trans g.fail⟩ (by show gO (pendingOf z).toList 0 lo;rw[sg.pend];show gO (((pendingOf st).setIfInBounds i (sa,na + nb,pw)).eraseIdxIfInBounds (i + 1)).toList 0 lo;rw[Y];exact x5) (by show(pendingOf z).size + 1=_;rw[sg.pend];exact ab)
 have F:Q true (setPending st (((pendingOf st).setIfInBounds i (sa,na + nb,pw)).eraseIdxIfInBounds (i + 1))):=fin _ (Sg.refl _) _ (CU _);obtain⟨p1,e1,i1⟩:=Z sb (by omega);refine Aw (e8 e1 (Aw (gN hc i1 (fun j hj=>Z _ (by omega)) (by omega) g.kind fun k hk=>?_)));dsimp only;refine bQ (fun _=>AL F) fun n0=>?_;have an:=hX n0;obtain⟨p2,e2,i2⟩:=Z (sa + k + (na - k) - 1) (by omega);refine Aw (e8 e2 (Aw (gN hc i2 (fun j hj=>Z _ (by omega)) (by omega) g.kind fun k2 ap=>?_)));dsimp only;refine bQ (fun _=>AL F) fun n1=>?_;have ak:=hX n1;have J:∀ q∈((arrOf st).extract (sa + k) sb).toList,q∈it.toList:=fun q M=>by
  rw[eI]at M;exact(Bc.mp g.perm).mem_iff.mp (Di (B8 M))
 have O:∀ q∈((arrOf st).extract sb (sb + k2)).toList,q∈it.toList:=fun q M=>by
  rw[eI]at M;exact(Bc.mp g.perm).mem_iff.mp (Di (B8 M))
 have sX:1≤((arrOf st).extract (sa + k) sb).size:=by rw[Array.size_extract];omega
 have sY:1≤((arrOf st).extract sb (sb + k2)).size:=by rw[Array.size_extract];omega
 have fin2:∀(out:Array BH) (z:Bk),out.Perm ((arrOf st).extract (sa + k) sb ++ (arrOf st).extract sb (sb + k2))→Sg (setPending st (((pendingOf st).setIfInBounds i (sa,na + nb,pw)).eraseIdxIfInBounds (i + 1))) z→
   Q (failedOf (setArr z (out.toList.zipIdx.foldl (fun a q=>a.setIfInBounds (sa + k + q.2) q.1) (arrOf z)))).isNone (setArr z (out.toList.zipIdx.foldl (fun a q=>a.setIfInBounds (sa + k + q.2) q.1) (arrOf z))):=fun out z ho sg=>by
  have hf:(failedOf (setArr z (out.toList.zipIdx.foldl (fun a q=>a.setIfInBounds (sa + k + q.2) q.1) (arrOf z)))).isNone=true:=by
   show(failedOf z).isNone=true;rw[sg.fail.trans g.fail];rfl
  rw[hf];refine fin z sg _ ?_;rw[sg.arr];refine aEb (n:=na - k + k2) ?_ (by show _≤(arrOf st).size;omega);refine(Bc.mp ho).trans ?_;rw[A4,eI,eI];have e3:(arrOf st).toList.drop sb=((arrOf st).toList.drop (sa + k)).drop (na - k):=by
   rw[Fb];congr 1;omega
  rw[e3,show sb - (sa + k)=na - k by omega,DA,← List.take_add]
 refine bQ (fun _=>Aw (yR hc sX sY J O g.kind fun out z ho sg=>?_)) fun _=>Aw (yT hc sX sY J O g.kind fun out z ho sg=>?_)
 ·exact Aw (CJ (Aw (Es (AL (fin2 out z ho sg)))))
 ·exact Aw (CJ (Aw (Es (AL (fin2 out z ho sg)))))
end
section
variable{prog:AC}{w:AT}{A:AU}{E:Ad→Ag→Prop}{s:Ag}{κ:De}{it:Array BH}
structure SR(κ:De)(it:Array BH)(lo:Nat)(st:Bk):Prop where
 gs:GS κ it st
 le:lo≤it.size
 sg:gO (pendingOf st).toList 0 lo
variable(hc:oA prog w A s κ it)
include hc
theorem aEc{st:Bk}{Q:Unit→Bk→Prop}(g:GS κ it st)(hp:pendingOf st=#[])(h:∀ q,(arrOf q).Perm it→failedOf q=none→Q () q):wpS (model prog w) A E s sortRuns' Q st:=by
 rw[sortRuns'_eq];refine Aw (Es ?_);dsimp only;have hz:(arrOf st).size=it.size:=g.perm.size_eq;rw[hz];generalize minRun' it.size it.size 0=mr;refine Aw (C0 (B0 (I:=fun x c q=>c.1=none∧SR κ it c.2 q) (Q:=fun c q=>c.1=none∧∃ lo,SR κ it lo q) ?_ (fun c q z=>⟨z.1,_,z.2⟩) ⟨rfl,g,A0 _,?_⟩) ?_)
 ·rintro x ⟨r,lo⟩ q _ _ ⟨J,M,F,hs⟩;dsimp only at J F hs ⊢;subst J;refine bQ (fun _=>AL ⟨rfl,lo,M,F,hs⟩) fun hl=>?_;refine Aw (aCL hc M (by omega) (by omega) fun n aq au ap m1=>?_);dsimp only;refine bQ (fun hm=>Aw (Fw (Cb ⟨rfl,Aw (aAZ hc (M.on m1) (by omega) fun ag m2=>bQ (fun z=>nomatch z) fun _=>?_)⟩))) fun hm=>?_
  all_goals
   first | (have mm:=m1.trans m2;have ez:1≤min (it.size - lo) mr∧lo + min (it.size - lo) mr≤it.size:=by omega) | (have mm:=m1;have ez:1≤n∧lo + n≤it.size:=by omega)
   have gg:=M.on mm;have O:=hs;rw[← mm.pend]at O;refine Aw (Es ?_);split
   ·rename_i s1 n1 _ aj;refine Aw (C0 (B0 (I:=fun x c q=>c.1=none∧SR κ it lo q) (Q:=fun c q=>c.1=none∧SR κ it lo q) ?_ (fun c q z=>z) ⟨rfl,gg,F,O⟩) ?_)
    ·rintro x ⟨r,u⟩ Z _ _ ⟨J,g3,_,Y⟩;dsimp only at J ⊢;subst J;refine Aw (Es ?_);split
     ·rename_i a1 a2 ah aa;refine bQ (fun _=>AL ⟨rfl,g3,F,Y⟩) fun _=>?_;have h2:(pendingOf Z).size > 1:=by
       by_cases h2:(pendingOf Z).size > 1
       ·exact h2
       ·rw[Ia h2]at aa;cases aa
      refine Aw (qM hc g3 Y F (by omega) fun ax g4 af _=>?_);exact bQ (fun z=>nomatch z) fun _=>AL ⟨rfl,g4,F,af⟩
     ·exact AL ⟨rfl,g3,F,Y⟩
    ·rintro⟨r,u⟩ Z ⟨J,g3,_,Y⟩;dsimp only at J ⊢;subst J;refine Aw (CJ (Aw (CJ (AL ⟨rfl,⟨g3.kind,g3.perm,g3.fail⟩,ez.2,?_⟩))));show gO (((pendingOf Z).modify _ _).push _).toList 0 _;rw[CK,Array.toList_modify];refine gO.snoc ez.1 (gO.mod ?_ _ Y);exact fun _=>⟨rfl,rfl⟩
   ·refine Aw (CJ (AL ⟨rfl,⟨gg.kind,gg.perm,gg.fail⟩,ez.2,?_⟩));show gO ((pendingOf _).push _).toList 0 _;rw[CK];exact O.snoc ez.1
 ·show gO (pendingOf st).toList 0 0;rw[hp];rfl
 ·rintro⟨r,lo⟩ q ⟨J,lo',M,F,hs⟩;dsimp only at J ⊢;subst J;refine Aw (C0 (B0 (I:=fun x c q=>c.1=none∧SR κ it lo' q) (Q:=fun c q=>c.1=none∧SR κ it lo' q) ?_ (fun c q z=>z) ⟨rfl,M,F,hs⟩) ?_)
  ·rintro x ⟨r,u⟩ q _ _ ⟨J,M,F,hs⟩;dsimp only at J ⊢;subst J;refine Aw (Es ?_);refine bQ (fun _=>AL ⟨rfl,M,F,hs⟩) fun h2=>?_;have av:¬ (pendingOf q).size≤1:=h2;have hi:∀ b:Bool,(if b=true then(pendingOf q).size - 2 - 1 else(pendingOf q).size - 2) + 1 < (pendingOf q).size:=fun b=>by
    cases b <;> simp <;> omega
   refine Aw (qM hc M hs F (hi _) fun ag g2 O _=>?_);exact AL ⟨rfl,g2,F,O⟩
  ·rintro⟨r,u⟩ q ⟨J,M,F,hs⟩;dsimp only at J ⊢;subst J;exact AL (h _ M.perm M.fail)
theorem yU{Q:Unit×Bk→Ag→Prop}(h:∀ st:Bk,(arrOf st).Perm it→failedOf st=none→Q ((),st) s):wpAny (model prog w) A (sortRuns'.run (EI κ it #[] 7 none)) Q E s:=by
 refine Ck (aEc (E:=E) hc (st:=EI κ it #[] 7 none) (Q:=fun u st=>Q (u,st) s) ⟨rfl,CU _,rfl⟩ rfl h) (fun r s' z=>?_) fun _ _ z=>z;obtain⟨rfl,q⟩:=z;exact q
end
def oB(c:Ae)(qual:Str):HO:=.ext fun h=>h.CodeRec (.ref c) qual
def qN(f:Ae)(qual:Str)(params:EE)(body:Be)(scope:CW)(cl:List (Str×Ae))(c:Ae):HO:=.ext fun h=>∃ pm ctv,h.get? f=some (kla_obj "<lambda>" qual params body scope cl pm c ctv)
theorem aFM{P:AC}{w:AT}{H:Hp}{h:Bi}{c:Ae}{qual:Str}(e:h.CodeRec (.ref c) qual):cS P w H h c (oB c qual):=by
 obtain⟨c',o,vs,t,e1,e2,e3,e4⟩:=id e;cases e1;exact⟨e,⟨o,e2⟩,fun h1 h2 x k=>by
  obtain⟨c',o,vs,t,e1,e2,e3,e4⟩:=x;cases e1;exact⟨c,o,vs,t,rfl,k o e2,e3,e4⟩⟩
theorem aEd{P:AC}{w:AT}{H:Hp}{h:Bi}{f c:Ae}{qual:Str}{q:EE}{F:Be}{scope:CW}{cl:List (Str×Ae)}{J z:Ad}(e:h.get? f=some (kla_obj "<lambda>" qual q F scope cl J c z)):cS P w H h f (qN f qual q F scope cl c):=
 ⟨⟨J,z,e⟩,⟨_,e⟩,fun h1 h2 x k=>by
  obtain⟨J,z,e⟩:=x;exact⟨J,z,k _ e⟩⟩
structure lM(T:Ae)(pos:Pos)(qual:Str)(H:Hp):Prop where
 ex:∃ ps,H T=some (.tbl ps)∧TriplesOk ps.toList∧(codeAmong pos ps.toList=none∨∃ c,codeAmong pos ps.toList=some (.ref c)∧H c=some (oB c qual))
theorem lM.same{T:Ae}{pos:Pos}{qual:Str}{H H':Hp}(g:lM T pos qual H)(s:b9 H H'):lM T pos qual H':=by
 obtain⟨ps,h1,h2,q⟩:=g.ex;refine⟨ps,s _ _ h1,h2,?_⟩;rcases q with q | ⟨c,q,z⟩
 ·exact .inl q
 ·exact .inr ⟨c,q,s _ _ z⟩
def dH(T:Ae)(H H':Hp):Prop:=∀ b o,b≠T→H b=some o→H' b=some o
theorem b9.butT{T:Ae}{H H':Hp}(s:b9 H H'):dH T H H':=fun b o _ e=>s b o e
theorem dH.trans{T:Ae}{H H1 H2:Hp}(a:dH T H H1)(b:dH T H1 H2):dH T H H2:=fun c o n h=>b c o n (a c o n h)
section
variable{X:Cx}{gz:List (Ae×Obj)}{σ:St}{H:Hp}{s:Ag}
theorem Inv.table{T:Ae}{ps more:Array Ad}{h':Bi}{t':Nat}(I:Inv X gz σ H s)(M:H T=some (.tbl ps))(k:∀ b o,b≠T→s.heap.get? b=some o→h'.get? b=some o)(e:h'.get? T=some (tabObj (ps ++ more))):
  Inv X gz σ (upd H T (.tbl (ps ++ more))) { s with heap:=h',toks:=t' }:=by
 have F:∀ b u,H b=some u→(∀ ps,u≠.tbl ps)→b≠T:=fun b u q n z=>by
  subst z;rw[M]at q;cases q;exact n _ rfl
 refine I.un ⟨fun b o q n _ _=>?_,fun b o q n _ _=>?_,fun b o q n _=>?_,fun b o q _=>?_,fun b xs q=>?_,fun b o u q=>?_,fun b O q=>?_⟩ fun b u q=>?_
 ·exact k b o (fun z=>by subst z;rw[M]at n;cases n) q
 ·exact⟨o.slots,k b o (fun z=>by subst z;rw[M]at n;cases n) q⟩
 ·rw[aG (fun z=>by subst z;rw[M]at n;cases n)];exact n
 ·by_cases J:b=T
  ·subst J;exact⟨_,e⟩
  ·exact⟨o,k b o J q⟩
 ·rw[aG (F b _ q fun _ z=>nomatch z)];exact q
 ·rw[aG (F b _ q fun _ z=>nomatch z)];exact q
 ·by_cases J:b=T
  ·subst J;rw[M]at q;cases q;exact⟨more,aA⟩
  ·exact⟨#[],by rw[aG J,q];simp⟩
 ·by_cases J:b=T
  ·subst J;rw[aA]at q;cases q;exact e
  ·rw[aG J]at q;refine(I.hok b u q).stay (fun c v hc r=>k c v ?_ r) (fun c r=>?_) fun c xs r=>?_
   ·rcases hc with rfl | hc
    ·exact J
    ·exact F c _ hc fun _ z=>nomatch z
   ·rw[aG (F c _ r fun _ z=>nomatch z)];exact r
   ·rw[aG (F c _ r fun _ z=>nomatch z)];exact r
def aIz(T:Ae)(pos:Pos)(qual:Str)(params:EE)(body:Be)(scope:CW)(cl:List (Str×Ae)):TE:=fun _ H Q=>lM T pos qual H∧
 ∀ f c H',dH T H H'→lM T pos qual H'→H' c=some (oB c qual)→H' f=some (qN f qual params body scope cl c)→Q (.ref f) H'
inductive aEe(mg:Str→Option Ad)(base:Bi):Prop
 | mk (bm:_) (o:_) (q0:mg "__builtins__"=some (.ref bm)) (q1:bm≠builtinsNs) (q2:bm≠mainGlobals) (q3:base.get? bm=some o) (q4:o.cls=.type "module") (q5:o.dict=some builtinsNs) (q6:o.data=.plain):aEe mg base
def uM(mg:Str→Option Ad)(base:Bi):Prop:=aEe mg base
theorem aHp{c T:Ae}{F:EE}{J:Be}{scope:CW}{pos:Pos}{cl:List (Str×Ae)}(O:X.env.code=.ref c)(hC:codeHdIn X.K c T=true)(hB:uM X.mg X.base)(af:closureFor scope X.env=pure cl:=by rfl)(ai:defaultsOf F X.env=([],[]):=by rfl):
  PE X (.Lambda F J scope pos) (aIz T pos (X.env.qual ++ "<lambda>") F J scope cl):=by
 constructor;intro gz s σ H Q I h;obtain⟨g,q⟩:=h;obtain⟨ps,hT,ht,hor⟩:=g.ex;have gT:s.heap.get? T=some (tabObj ps):=I.hok T _ hT;have ag:∀ b o,X.base.get? b=some o→b≠T:=fun b o e z=>by
  have:=(I.bs b o e).2;rw[z,hT]at this;cases this
 obtain⟨bm,ob,b1,b2,b3,b4,b5,b6,b7⟩:=hB;have ak:s.heap.Ns mainGlobals X.mg:=by
  obtain⟨o,es,ep,e,r⟩:=I.mod.glob;exact⟨o,es,ep,I.bk _ _ e,r⟩
 have al:mainGlobals≠T:=by
  obtain⟨o,es,ep,e,r⟩:=I.mod.glob;exact ag _ _ e
 have ae:s.heap.BuiltinsAt X.mg T:=⟨bm,ob,b1,b2,b3,ag _ _ b4,I.bk _ _ b4,b5,b6,b7⟩
 refine kla_eval ai ?_;rcases hor with aj | ⟨M,hf,ao⟩
 ·refine kla_makeFunction (mg:=X.mg) af I.ok.glob ak O (Hd I.kIn hC) gT ht aj al ae fun M aa h' tk hx Y ah ab ar=>?_;have I1:=I.table (t':=tk) (more:=#[rawInt pos.line,rawInt pos.col,.ref M]) hT (fun b o n e=>hx b o n e) ar;have nT:∀ b,s.heap.objs.size≤b→b≠T:=fun b hb z=>absurd (Au gT) (Nat.not_lt.mpr (z ▸ hb));have ad:=nT M Y;have an:upd H T (.tbl (ps ++ #[rawInt pos.line,rawInt pos.col,.ref M])) M=none:=by
   rw[aG ad];exact I.hok.fresh Y
  have I2:=I1.track (ob:=oB M (X.env.qual ++ "<lambda>")) (I.fpOk Y an) (aFM ab);have Z:s.heap.objs.size≤h'.objs.size:=by omega
  have aq:=nT _ Z;have I3:=I2.laid (a:=h'.objs.size) (o:=qN h'.objs.size (X.env.qual ++ "<lambda>") F J scope cl M) (t':=tk) (h':=h'.push (kla_obj "<lambda>" (X.env.qual ++ "<lambda>") F J scope cl ((X.mg "__name__").getD .none) M aa)) (fun b u e=>Aj _ e) (Am _) (aEd (Ax _ rfl));refine⟨.ref _,_,I3,rfl,q _ M _ (fun b o n e=>?_) ⟨ps ++ #[rawInt pos.line,rawInt pos.col,.ref M],?_,?_,.inr ⟨M,?_,?_⟩⟩ ?_ aA⟩
  ·rw[aG (AB (AX (I.hok.lt e) Z)),aG (AB (AX (I.hok.lt e) Y)),aG n];exact e
  ·rw[aG aq.symm,aG ad.symm];exact aA
  ·rw[A4];exact TriplesOk_snoc _ _ _ _ ht
  ·rw[A4];exact codeAmong_snoc _ ht aj
  ·rw[aG (AB ah)];exact aA
  ·rw[aG (AB ah)];exact aA
 ·refine kla_makeFunctionHit (mg:=X.mg) af I.ok.glob ak O (Hd I.kIn hC) gT ht hf ae fun aa h' tk hk Z=>?_;have I1:=I.kept (h':=h') (t':=tk) hk;have I3:=I1.laid (a:=h'.objs.size) (o:=qN h'.objs.size (X.env.qual ++ "<lambda>") F J scope cl M) (t':=tk) (h':=h'.push (kla_obj "<lambda>" (X.env.qual ++ "<lambda>") F J scope cl ((X.mg "__name__").getD .none) M aa)) (fun b u e=>Aj _ e) (Am _) (aEd (Ax _ rfl));have hs:b9 H (upd H h'.objs.size (qN h'.objs.size (X.env.qual ++ "<lambda>") F J scope cl M)):=fun b o e=>by
   rw[aG (AB (AX (I.hok.lt e) Z))];exact e
  exact⟨.ref _,_,I3,rfl,q _ M _ hs.butT (g.same hs) (hs _ _ ao) aA⟩
end
def yV(X:Cx)(N:List Str)(qual:Str)(scope:CW)(f:Ae)(cd:Ad)(cl:List (Str×Ae))(A:AU)(s:Ag)(H:Hp):Cx where
 prog:=X.prog
 w:=X.w
 K:=X.K
 mg:=X.mg
 base:=X.base
 A:=A.deeper (envX qual scope s.heap.objs.size f cd cl)
 N:=N
 s₀:=s
 H₀:=H
 env:=envX qual scope s.heap.objs.size f cd cl
 outer:=X.stack
 stack:=envX qual scope s.heap.objs.size f cd cl :: X.stack
 ex:=[]
 calm:=true
 fn:=fun _=>false
 pn:=[]
 xe:=fun _ _=>False
structure yX(ps fs:List Str)(sc:CW):Prop where
 kind:sc.kind=.function
 co:sc.isCoroutine=false
 gen:sc.isGenerator=false
 nd:ps.Nodup
 par:∀ x∈ps,sc.names.lookup x=some .local
 fr:∀ x∈fs,sc.names.lookup x=some .free
 nocell:∀ y∈sc.names,y.2≠.cell
section
variable{X:Cx}{gz:List (Ae×Obj)}{σ:St}{H:Hp}{s:Ag}
theorem Paired.at{α β:Type}{R:α→β→Prop}:∀{as:List α}{bs:List β}{i:Nat}{a:α}{b:β},By R as bs→as[i]?=some a→bs[i]?=some b→R a b
 | _,_,_,_,_,.nil,e,_=>by simp at e
 | _,_,0,_,_,.cons r _,e1,q=>by simp at e1 q;subst e1 q;exact r
 | _,_,i + 1,_,_,.cons _ t,e1,q=>Paired.at (i:=i) t (by simpa using e1) (by simpa using q)
def aGC(X:Cx)(σ:St)(fs:List Str)(zs:List V):Prop:=By (fun(x:Str) (v:V)=>∃ i:Nat,X.N[i]?=some x∧σ[i]?=some (some v)∧X.env.kindOf x=some .cell) fs zs
theorem aEf{ps fs:List Str}{f c:Ae}{qual:Str}{F:EE}{M:Be}{scope:CW}{cl:List (Str×Ae)}{A:AU}{us:List Ad}{vs zs:List V}{Q:VK}{k:Nat}{te:TE}
  (I:Inv X gz σ H s) (hA:A.frames=some X.stack) (hr:dG (k + 1) A) (S:yX ps fs scope) (Y:∀ x b,cl.lookup x=some b→X.env.cells.lookup x=some b) (hhas:∀ x,scope.names.lookup x=some .free→∃ b,cl.lookup x=some b)
  (hf:H f=some (qN f qual F M scope cl c)) (hc:H c=some (oB c qual)) (hb:∀(pm aj ah:Ad),bindArgs (kla_fn "<lambda>" qual F M scope cl pm aj ah) ⟨us,[]⟩=pure (ps.zip us)) (r:bX vs us) (hl:vs.length=ps.length) (ht:aGC X σ fs zs)
  (ae:PE (yV X (ps ++ fs) qual scope f (.ref c) cl A s H) M te) (hq:te (vs.map some ++ zs.map some) H Q):codeAny (model X.prog X.w) A (.call (.ref f) ⟨us,[]⟩) (CR CX0 X.stack X.prog X.w H s Q E0) s:=by
 obtain⟨⟨pm,ah,ho⟩,_,_⟩:cS X.prog X.w H s.heap f (qN f qual F M scope cl c):=I.hok _ _ hf;obtain⟨hrec,_,_⟩:cS X.prog X.w H s.heap c (oB c qual):=I.hok _ _ hc;have lu:us.length=ps.length:=by rw[← r.length];exact hl
 have aa:∀ y∈ps.zip us,scope.names.lookup y.1=some .local:=fun⟨n,v⟩ hy=>S.par n (Dt hy).1;refine kla_callFunE hr.depth ho rfl S.co S.gen rfl hrec ?_;rw[hb];refine Af (wpAny_newFunctionEnv S.nocell aa (fun h₁ ao an=>?_) S.kind);have Z:∀ b o,s.heap.get? b=some o→h₁.get? b=some o:=fun b o e=>an.extBut b o (AB (Au e)) (Aj _ e);refine⟨I.nolimit.keeps Z,?_⟩;show codeAny _ _ (.expr M (envX qual scope s.heap.objs.size f (.ref c) cl)) _ _;have e0:=I.env0;have ag:∀ b:Ae,b ∉ (yV X (ps ++ fs) qual scope f (.ref c) cl A s H).ex:=fun b z=>absurd (show b∈([]:List Ae) from z) (by simp);have J:Inv (yV X (ps ++ fs) qual scope f (.ref c) cl A s H) [] (vs.map some ++ zs.map some) H { s with heap:=h₁,toks:=s.toks + (ps.zip us).length }:=by
  refine⟨⟨e0.mod,S.kind,rfl,rfl,Am _,fun y z b h1 h2=>?_,fun y hy=>?_,fun y b z _=>absurd z (by simp[yV]),fun _=>hr.hd,Around.frames_deeper hA,.inr ⟨rfl,rfl⟩,fun b z=>absurd z (ag b),e0.bs,e0.bsz,fun b _ _=>ag b,fun b z=>absurd z (ag b),e0.funs,e0.frf⟩,
   rfl,e0.bare,Un.kept Z,⟨_,ao,fun i y v h1 h2 h3=>?_⟩,fun y b h=>?_,e0.hok.fresh (Am _),fun y b h=>?_,fun p hp=>absurd (show p∈([]:List (Ae×Obj)) from hp) (by simp),e0.hok.kept Z,?_⟩
  ·exact I.ok.inj y z b (Y y b h1) (Y z b h2)
  ·rcases hy with hy | hy
   ·exact absurd rfl (S.nocell _ (BO (show scope.names.lookup y=some .cell from hy)))
   ·exact hhas y hy
  ·have O:(ps ++ fs)[i]?=some y:=h1;by_cases hi:i < ps.length
   ·rw[CI hi]at O;have hv:vs[i]?=some v:=by
     rw[CI (by simpa[hl]using hi),An]at h2;cases e:vs[i]? with
     | none=>rw[e]at h2;cases h2
     | some a=>rw[e]at h2;cases h2;rfl
    obtain⟨u,hu,rv⟩:=r.get hv;refine⟨u,rv,.inl ⟨S.par y (AH O),?_⟩⟩;have e1:=pX (kindOf:=fun x=>scope.names.lookup x) (m:=fun _=>none) S.nd O hu (S.par y (AH O));have e2:∀(l:List (Str×Ad)) (m:Str→Option Ad) (x:Str),(∀ q∈l,scope.names.lookup q.1=some .local)→bindL (fun x=>scope.names.lookup x) l m x=(l.reverse.lookup x).or (m x):=by
     intro l
     induction l with
     | nil=>intro m x _;rfl
     | cons q l ih=>
      intro m x hl;obtain⟨n,v⟩:=q;unfold bindL;rw[Ib (hl (n,v) Al),ih _ _ fun q hq=>hl q (Ap _ hq),List.reverse_cons,List.lookup_append,Option.or_assoc];congr 1;rw[BA,List.lookup_nil];by_cases hx:x=n
      ·subst hx;simp
      ·have al:(x == n)=false:=by simpa using hx
       simp[hx,al]
    rw[e2 _ _ _ aa,Option.or_none]at e1;exact e1
   ·rw[Cw (by omega)]at O;rw[Cw (by rw[Aa,hl];omega),Aa,hl,An]at h2;have hz:zs[i - ps.length]?=some v:=by
     cases e:zs[i - ps.length]? with
     | none=>rw[e]at h2;cases h2
     | some a=>rw[e]at h2;cases h2;rfl
    obtain⟨j,a1,a2,a3⟩:=Paired.at ht O hz;obtain⟨m,_,lk⟩:=I.loc;obtain⟨u,ru,lo⟩:=lk j y v a1 a2 (.inr (.inl a3));rcases lo with⟨a4,_⟩ | ⟨_,b,a4,a5⟩
    ·rw[a3]at a4;cases a4
    ·have ai:=S.fr y (AH O);obtain⟨b',hb'⟩:=hhas y ai;have:=Y y b' hb';rw[a4]at this;cases this;obtain⟨o,ho',hd⟩:=a5;exact⟨u,ru,.inr ⟨.inr ai,b,hb',o,Z _ _ ho',hd⟩⟩
  ·obtain⟨v,o,ho',hd⟩:=I.cell y b (Y y b h);exact⟨v,o,Z _ _ ho',hd⟩
  ·exact I.freeC y b (Y y b h)
  ·show _=(ps ++ fs).length;rw[AD,AD,Aa,Aa,hl,ht.length]
 refine kla_codeExpr (Ck (ae [] _ _ H Q J hq) (fun u s' hu=>?_) fun e s' z=>z.elim);obtain⟨v,H',J',rv,q⟩:=hu;exact⟨v,H',J'.os,J'.bare,J'.base,J'.hok,rv,q⟩
end
section
variable{prog:AC}{w:AT}{A:AU}{E:Ad→Ag→Prop}{s:Ag}
inductive aBN(h:Bi)(v:Ad):Prop
 | mk (t:_) (a:_) (b:_) (u1:_) (u2:_) (q0:v=.ref t) (q1:EH h t #[.int a u1,.int b u2]):aBN h v
def aBO(h:Bi)(v:Ad):Prop:=aBN h v
theorem aJm{F:Bool}{x y:Ae}{a1 a2 M Z:Int}{Y t2 J O:Tok}{C:Bool→Ag→Prop}(hx:EH s.heap x #[.int a1 Y,.int M t2])(hy:EH s.heap y #[.int a2 J,.int Z O])(h:∀ b,C b s):
  wpAny (model prog w) A (keyLt' (tuples' F) (.ref x) (.ref y)) C E s:=by
 show wpAny _ _ (B6 (.ref x) >>= _) _ _ _;refine Ab (dR hx ?_);refine Ab (dR hy ?_);dsimp only[Ej,DS,Ey];rw[E4];have e1:∀{Q:Bool→Ag→Prop} {a b:Int} {t u:Tok},(∀ z,Q z s)→wpAny (model prog w) A (eqBool (.int a t) (.int b u)) Q E s:=fun{Q a b t u} q=>by
  obtain⟨z,hz,_⟩:=HT.eqAt_int A s a t b u;exact hz prog w _ _ (q z)
 refine Ab ?_;rw[B5];refine Ab (Ab (e1 fun z=>?_));cases z with
 | false=>
  refine BW (by decide) ?_;refine Ab ?_;show wpAny _ _ (oneLt' (F && 0 == 0) (Bt a1 Y) (Bt a2 J)) _ _ _;cases F
  ·exact aBH fun z=>Af (Af (Af (h z)))
  ·exact oneLt_int (Af (Af (Af (h _))))
 | true=>
  refine AQ (by decide) (Af ?_);dsimp only;rw[B5];refine Ab (Ab (e1 fun z=>?_));cases z with
  | false=>
   refine BW (by decide) ?_;refine Ab ?_;have ez:(F && ((0 + 1:Nat) == 0))=false:=by cases F <;> rfl
   show wpAny _ _ (oneLt' (F && (0 + 1 == 0)) (Bt M t2) (Bt Z O)) _ _ _;rw[ez];exact aBH fun z=>Af (Af (Af (h z)))
  | true=>
   refine AQ (by decide) (Af ?_);dsimp only;rw[Fa];exact Af (Af (h _))
theorem aHq{ks:List Ad}{Q:De→Ag→Prop}(Y:∀ v∈ks,aBO s.heap v)(h:∀ b,Q (tuples' b) s):wpAny (model prog w) A (keyKind' ks.toArray) Q E s:=by
 rw[keyKind'_eq,Ci];refine Ab ?_;rw[← bind_pure_comp];refine Ab (i5 (R:=fun _ r=>∃ a u,r=some (Bt a u)) ks (fun v hv=>?_) fun rs hl F=>Af ?_)
 ·obtain⟨t,a,b,u1,u2,rfl,ht⟩:=Y v hv;refine⟨some (.int a u1),⟨a,u1,rfl⟩,fun Q' q=>?_⟩;rw[GY];refine Ab (Cj ht.typeIs ?_);refine AQ (by decide) ?_;refine Ab (dR ht ?_);exact Af q
 ·have z:(rs.toArray.all fun x=>x.isSome)=true:=by
   rw[FT,A5];intro r Z;obtain⟨v,_,a,u,rfl⟩:=F r Z;rfl
  refine BW (by rw[z];rfl) ?_;refine Ab (Cb ?_);rw[oneTypeOnly'_eq,Ci]
  iterate 2 refine Ab ?_
  rw[← bind_pure_comp];refine Ab (i5 (R:=fun _ r=>r=A9 "int") _ (fun v hv=>?_) fun ts ab O=>Af ?_)
  ·have J:some v∈rs:=by simpa using hv
   obtain⟨_,_,a,u,e⟩:=F _ J;cases e;exact⟨_,rfl,fun Q' q=>Cj (Gr s a u) q⟩
  ·cases M:ts.toArray[0]? with
   | none=>exact Af (Af (h _))
   | some t=>exact Af (Af (h _))
theorem aIA{a kS:Ae}{ks its:List Ad}{e e1:Nat}{P:FJ→Ag→Prop}(ha:s.heap.get? a=some (seqObj "list" #[] e1))(hk:s.heap.get? kS=some (seqObj "list" ks.toArray e))(Z:a≠kS)(hl:ks.length=its.length)(O:its.length≤sizeLine)(hK:∀ v∈ks,aBO s.heap v)
  (h:∀ out:List Ad,out.Perm its→P (Fin.done (Gx Dr)) { s with heap:=(s.heap.update kS (A6 fun _=>#[])).update a (A6 fun _=>out.toArray) }):wpAny (model prog w) A (ksk_end a false its.toArray e1 (.ref kS) ks.toArray) P E s:=by
 have F:(ks.toArray.zip its.toArray).size=its.length:=by simp[hl]
 have fin:∀ st:Bk,(arrOf st).Perm (ks.toArray.zip its.toArray)→failedOf st=none→wpAny (model prog w) A (ksk_tail a false e1 (.ref kS) st) P E s:=fun st Y hf=>by
  refine aIo ha hk Z (by rw[Aq,hl];exact O) (by rw[Y.size_eq,F];exact O) hf ?_;have ad:((arrOf st).map (·.2)).toList.Perm its:=by
   rw[FQ];have:=(Bc.mp Y).map (·.2)
   have e2:(ks.toArray.zip its.toArray).toList.map (·.2)=its:=by
    rw[Array.toList_zip];exact List.map_snd_zip (by simp[hl])
   rw[e2]at this;exact this
  have:=h _ ad;rw[Array.toArray_toList]at this;exact this
 unfold ksk_end;dsimp only;by_cases h2:its.length < 2
 ·have J:its.toArray.size < 2:=by simpa using h2
  rw[Ia Ay,Ib J];refine Ab (Af ?_);rw[Ib J,Ia Ay];refine Ab (Af ?_);exact fin _ (CU _) rfl
 ·have J:¬ its.toArray.size < 2:=by simpa using h2
  rw[Ia Ay,Ia J];refine Ab (aHq hK fun b=>?_);rw[Ia J,Ia Ay];refine Ab (yU (fun x y hx hy C hC=>?_) fun st Y hf=>fin st Y hf);have M:∀ z:BH,z∈(ks.toArray.zip its.toArray).toList→aBO s.heap z.1:=fun z hz=>by
   rw[Array.toList_zip]at hz;obtain⟨p,q⟩:=z;exact hK _ (Dt hz).1
  obtain⟨t,a1,b1,u1,u2,e1,ht⟩:=M x hx;obtain⟨t',a2,b2,v1,v2,e2,ht'⟩:=M y hy;rw[e1,e2];exact aJm ht ht' hC
end
section
variable{X:Cx}{gz:List (Ae×Obj)}{σ:St}
inductive aBP(H:Hp)(v:Ad):Prop
 | mk (t:_) (a:_) (b:_) (q0:v=.ref t) (q1:H t=some (.tup [.int a,.int b])):aBP H v
def tI(H:Hp)(v:Ad):Prop:=aBP H v
theorem tI.same{H H':Hp}{v:Ad}(h:tI H v)(s:b9 H H'):tI H' v:=by
 obtain⟨t,a,b,e,ht⟩:=h;exact⟨t,a,b,e,s _ _ ht⟩
theorem tI.real{H:Hp}{s:Ag}{v:Ad}(I:Inv X gz σ H s)(h:tI H v):aBO s.heap v:=by
 obtain⟨t,a,b,rfl,ht⟩:=h;obtain⟨_,its,q,hT⟩:cS X.prog X.w H s.heap t (.tup [.int a,.int b]):=I.hok _ _ ht;cases q with
 | cons z q=>
  cases q with
  | cons F q=>
   cases q;obtain⟨u1,e1⟩:=z;obtain⟨u2,e2⟩:=F;subst e1 e2;exact⟨t,a,b,u1,u2,rfl,hT⟩
theorem aCM{f:Ae}{A':AU}{E:Ad→Ag→Prop}
  {D kS:Ae} {H0:Hp} {e1:Nat} {xs:List V} (fD:∀ H',H' D=none→lO X gz H' D) (fK:∀ H',H' kS=none→lO X gz H' kS) (an:D≠kS)
  (af:∀ y∈xs,∀(v:Ad) (Y:List (Ae×Obj)) (H':Hp) (s':Ag),cG y v→Inv X Y σ H' s'→b9 H0 H'→codeAny (model X.prog X.w) A' (.call (.ref f) ⟨[v],[]⟩) (CR CX0 X.stack X.prog X.w H' s' (fun u J=>∃ t a b,u=.ref t∧J t=some (.tup [.int a,.int b])∧b9 H' J) E0) s') {er:Ad→Ad→Sem (ForInStep PUnit)} {Q:Ag→Prop}
  {M:Ad→PUnit→Sem (ForInStep PUnit)} (O:∀ v u,M v u=(do
   let r ← (call (.ref f) [v]).attempt
   match r with
   | GX k=>do
    Ec (.ref kS) fun x=>x.push k
    pure (Cp GT)
   | Except.error e=>er v e)):
  ∀(bZ:List Ad) (xr:List V) (s:Ag) (H:Hp) (ks:List Ad) (e:Nat),bX xr bZ→(∀ y∈xr,y∈xs)→Inv X gz σ H s→b9 H0 H→H D=none→H kS=none→s.heap.get? D=some (seqObj "list" #[] e1)→s.heap.get? kS=some (seqObj "list" ks.toArray e)→(∀ v∈ks,tI H v)→ks.length + bZ.length≤sizeLine→
   (∀(s':Ag) (H':Hp) (Z:List Ad) (e':Nat),Inv X gz σ H' s'→b9 H0 H'→H' D=none→H' kS=none→s'.heap.get? D=some (seqObj "list" #[] e1)→s'.heap.get? kS=some (seqObj "list" Z.toArray e')→(∀ v∈Z,tI H' v)→Z.length=ks.length + bZ.length→Q s')→
   wpAny (model X.prog X.w) A' (forIn bZ GT M) (fun _ s'=>Q s') E s:=by
 intro bZ
 induction bZ with
 | nil=>
  intro xr s H ks e r F I S hD hK gD gK hk ai q;rw[Fa];exact Af (q s H ks e I S hD hK gD gK hk rfl)
 | cons v bZ ih=>
  intro xr s H ks e r F I S hD hK gD gK hk ai q;rw[AK]at ai;cases r with
  | @cons y _ ap _ r1 r2=>
  rw[B5,O];refine Ab (Ab (Gy ?_));have I3:Inv X ((D,seqObj "list" #[] e1) :: (kS,seqObj "list" ks.toArray e) :: gz) σ H s:=I.pins_of fun p hp=>by
   rcases Ak.mp hp with z | hp
   ·subst z;exact⟨gD,hD,(fD H hD).2.1,(fD H hD).2.2.1,fun v z=>by cases z⟩
   ·rcases Ak.mp hp with z | hp
    ·subst z;exact⟨gK,hK,(fK H hK).2.1,(fK H hK).2.2.1,fun v z=>by cases z⟩
    ·exact I.pin p (AN _ hp)
  refine Fc (DU (af y (F y Al) v _ H s r1 I3 S) fun r s' hq=>?_);cases r with
  | error e=>exact BZ hq
  | ok fl=>
   cases fl with
   | next=>exact BZ hq
   | brk=>exact BZ hq
   | cont=>exact BZ hq
   | ret u=>
    obtain⟨vv,H',I',r',t,a,b,rfl,ht,S'⟩:=I3.after hq;cases r';obtain⟨gD',hD',_⟩:=I'.pin (D,seqObj "list" #[] e1) (AN _ Al);obtain⟨gK',hK',_⟩:=I'.pin (kS,seqObj "list" ks.toArray e) (AN _ (Ap _ Al));have I4:Inv X gz σ H' s':=I'.pins_of fun p hp=>I'.pin p (AN _ (Ap _ (Ap _ hp)));refine Ab (CF gK' rfl ?_ (by rw[Aq];omega) (by rw[Array.size_push,Aq];omega));refine Af ?_;have ad:=get?_update_seq gK' (fun x=>x.push (.ref t));have ep:(ks.toArray.push (.ref t))=(ks ++ [AA t]).toArray:=by simp
    rw[ep]at ad;have I5:Inv X gz σ H' { s' with heap:=s'.heap.update kS (A6 fun x=>x.push (.ref t)) }:=I4.turnedL (t':=s'.toks) (fp:=[kS]) (fun b o hb e=>by
     rw[Bs _ _ _ _ (fun z=>hb (by simp[z]))];exact e) fun b hb=>by
      rw[AF.mp hb];exact fK H' hK'
    refine ih ap _ H' (ks ++ [AA t]) _ r2 (fun y hy=>F y (Ap _ hy)) I5 (S.trans S') hD' hK' ?_ ad (fun z hz=>?_) (by rw[AD,CB];omega) fun am J ag ao a1 a2 a3 a4 a5 a6 a7 a8=>?_
    ·show(s'.heap.update kS _).get? D=_;rw[Bs _ _ _ _ an];exact gD'
    ·rcases AS.mp hz with hz | hz
     ·exact(hk z hz).same S'
     ·rw[AF.mp hz];exact⟨t,a,b,rfl,ht⟩
    ·exact q am J ag ao a1 a2 a3 a4 a5 a6 a7 (by rw[a8,AD,CB,AK];omega)
end
section
variable{X:Cx}{gz:List (Ae×Obj)}{σ:St}{H:Hp}{s:Ag}
theorem aEg{f l:Ae}{xs:List V}{Q:VK}{E:Ad→Ag→Prop}
  (I:Inv X gz σ H s) (hl:SqL X.K H l xs) (bh:xs.length≤sizeLine)
  (al:∀ y∈xs,∀(v:Ad) (ag:List (Ae×Obj)) (H':Hp) (s':Ag),cG y v→Inv X ag σ H' s'→b9 H H'→codeAny (model X.prog X.w) X.A.in1.in1 (.call (.ref f) ⟨[v],[]⟩) (CR CX0 X.stack X.prog X.w H' s' (fun u aq=>∃ t a b,u=.ref t∧aq t=some (.tup [.int a,.int b])∧b9 H' aq) E0) s')
  (q:∀ D ys H',b9 H H'→H D=none→ys.Perm xs→H' D=some (.lst ys)→Q (.ref D) H'):
  wpAny (model X.prog X.w) X.A (call (.builtin "sorted") [.ref l] [(BF "key",.ref f)]) (EP X gz σ Q) E s:=by
 obtain⟨its,rv,pl,_⟩:=I.list hl;have aL:=rv.length;have zz:its.length≤sizeLine:=by omega
 refine call_function_entry_kw Fx Fd Ff (ksk_s1 _ _) ?_;refine Ab (Af ?_);refine Ab (F0 pl.isList ?_ zz);refine Ab (Df ?_ zz);have F:((s.heap.push (seqObj "list" #[] 0)).update s.heap.objs.size (A6 fun x=>x ++ its.toArray)).objs.size=s.heap.objs.size + 1:=by
  rw[Cn,FV]
 generalize az:(s.heap.push (seqObj "list" #[] 0)).update s.heap.objs.size (A6 fun x=>x ++ its.toArray)=h1 at F ⊢;have an:∀ b o,s.heap.get? b=some o→h1.get? b=some o:=fun b o e=>by
  rw[← az,Bs _ _ _ _ (AB (Au e))];exact Aj _ e
 dsimp only;obtain⟨D,hD⟩:∃ D,D=h1.objs.size:=⟨_,rfl⟩
 have J:(h1.push (seqObj "list" its.toArray 0)).get? D=some (seqObj "list" its.toArray 0):=by
  rw[hD];exact Ax _ rfl
 have ab:∀ b o,s.heap.get? b=some o→(h1.push (seqObj "list" its.toArray 0)).get? b=some o:=fun b o e=>Aj _ (an b o e);have Y:(h1.push (seqObj "list" its.toArray 0)).objs.size=s.heap.objs.size + 2:=by rw[FV,F]
 change wpAny _ _ (do let _ ← holding [AA h1.objs.size] (call (.builtin "list.sort") [AA h1.objs.size] [(BF "key",.ref f)]);ret (AA h1.objs.size)) _ _ { s with heap:=h1.push (seqObj "list" its.toArray 0) };rw[← hD];generalize h1.push (seqObj "list" its.toArray 0)=h2 at J ab Y ⊢;have ah:D=s.heap.objs.size + 1:=by rw[hD,F]
 refine Ab (Bh (wpAny_call_entry_kw slot_list_sort ⟨_,J,rfl⟩ entry_list_sort ?_ (ksk_l1 _ _)));rw[ksk_t1];unfold ksk_tree;refine Ab (Fe J rfl ?_);refine Ab (CF J rfl ?_ (by rw[Aq];exact zz) (A0 _));have M:=get?_update_seq J (fun _=>#[]);generalize (if ((#[]:Array Ad).size == its.toArray.size)=true then 0 else 0 + 1)=e1 at M;have Z:∀ b o,s.heap.get? b=some o→(h2.update D (A6 fun _=>#[])).get? b=some o:=fun b o e=>by
  rw[Bs _ _ _ _ (AB (by rw[ah];exact Cr (Au e)))];exact ab b o e
 have O:(h2.update D (A6 fun _=>#[])).objs.size=s.heap.objs.size + 2:=by rw[Cn,Y]
 dsimp only;generalize h2.update D (A6 fun _=>#[])=h3 at M Z O ⊢;refine Ab (Ee M rfl ?_);refine Ab (Gp ?_ (by simpa using zz));refine Ab (Df ?_ (A0 _));dsimp only;refine Bh ?_;obtain⟨kS,hkS⟩:∃ kS,kS=(h3.push { cls:=A9 "tuple",data:=CT its.toArray.toList.toArray }).objs.size:=⟨_,rfl⟩
 have ak:((h3.push { cls:=A9 "tuple",data:=CT its.toArray.toList.toArray }).push { cls:=A9 "list",data:=CT ([]:List Ad).toArray }).get? kS=some (seqObj "list" ([]:List Ad).toArray 0):=by
  rw[hkS];exact Ax _ rfl
 have ao:((h3.push { cls:=A9 "tuple",data:=CT its.toArray.toList.toArray }).push { cls:=A9 "list",data:=CT ([]:List Ad).toArray }).get? D=some (seqObj "list" #[] e1):=Aj _ (Aj _ M);have aa:∀ b o,s.heap.get? b=some o→((h3.push { cls:=A9 "tuple",data:=CT its.toArray.toList.toArray }).push { cls:=A9 "list",data:=CT ([]:List Ad).toArray }).get? b=some o:=fun b o e=>Aj _ (Aj _ (Z b o e));have ad:kS=s.heap.objs.size + 3:=by rw[hkS,Cz,O]
 rw[← hkS];generalize (h3.push { cls:=A9 "tuple",data:=CT its.toArray.toList.toArray }).push { cls:=A9 "list",data:=CT ([]:List Ad).toArray }=h4 at ak ao aa ⊢;have af:D≠kS:=AB (by rw[ah,ad];omega);have I4:Inv X gz σ H { s with heap:=h4 }:=I.kept (t':=s.toks) aa;have lD:s.heap.objs.size≤D:=by rw[ah];exact CZ _
 have lK:s.heap.objs.size≤kS:=by rw[ad];exact Nat.le_add_right _ _
 have nD:H D=none:=I.hok.fresh lD;have nK:H kS=none:=I.hok.fresh lK;have fD:∀ H',H' D=none→lO X gz H' D:=fun H' hn=>I.fpOk lD hn;have fK:∀ H',H' kS=none→lO X gz H' kS:=fun H' hn=>I.fpOk lK hn;unfold ksk_rest;refine Ab (Cb ?_);refine Ab ?_;rw[← Array.forIn_toList];refine aCM (X:=X) (gz:=gz) (σ:=σ) (f:=f) (A':=X.A.in1.in1) (D:=D) (kS:=kS) (H0:=H) (e1:=e1) (xs:=xs) fD fK af al (er:=fun v e=>do
     rule "list.sort.key-raised"
     let made ← B6 (.ref kS)
     Ec (.ref kS) fun x=>#[]
     letGo made.toList.reverse [e]
     Ec (AA D) fun x=>its.toArray
     throw e
     pure (Cp GT)) (fun v u=>by congr 1) its xs _ H [] 0 rv (fun y hy=>hy) I4 (b9.refl H) nD nK ao ak (fun v hv=>by simp at hv) (by simp;omega) ?_
 intro s' H' ks e' I' S ae ay aj am ax av;refine Ab (Fe am rfl ?_);refine aIA aj am af (by simpa using av) (by omega) (fun v hv=>(ax v hv).real I') fun out hp=>?_;refine⟨_,rfl,Af ⟨_,rfl,?_⟩⟩;obtain⟨ys,hys,rys⟩:=aCK hp rv;have I6:Inv X gz σ H' { s' with heap:=(s'.heap.update kS (A6 fun _=>#[])).update D (A6 fun _=>out.toArray) }:=I'.turnedL (t':=s'.toks) (fp:=[kS,D]) (fun b o hb e=>by
  rw[Bs _ _ _ _ (fun z=>hb (by simp[z])),Bs _ _ _ _ (fun z=>hb (by simp[z]))];exact e) fun b hb=>by
   simp only[Ak,Ao,or_false]at hb;rcases hb with rfl | rfl
   ·exact fK H' ay
   ·exact fD H' ae
 have aw:((s'.heap.update kS (A6 fun _=>#[])).update D (A6 fun _=>out.toArray)).get? D=_:=get?_update_seq (c:="list") (xs:=#[]) (n:=e1) (by
  rw[Bs _ _ _ _ af];exact aj) fun _=>out.toArray
 have aC:ys.length≤sizeLine:=by rw[hys.length_eq];omega
 exact⟨.ref D,_,I6.track (ob:=.lst ys) (fD H' ae) ⟨aC,out,_,rys,aw⟩,rfl,q D ys _ (S.trans (aK ae)) nD hys aA⟩
end
theorem dH.seq{K:Ah}{T:Ae}{H H':Hp}{a:Ae}{xs:List V}{ps:Array Ad}(e:dH T H H')(q:H T=some (.tbl ps))(h:SqL K H a xs):SqL K H' a xs:=by
 rcases h with(h | ⟨o,h⟩) | h
 ·exact .inl (.inl (e _ _ (fun z=>by rw[z,q]at h;cases h) h))
 ·exact .inl (.inr ⟨o,e _ _ (fun z=>by rw[z,q]at h;cases h) h⟩)
 ·exact .inr h
section
variable{X:Cx}{e:Be}{ta:TA}
def tSL(X:Cx)(T:Ae)(uP:Pos)(fs:List Str)(te:TE)(ta:TA):TE:=fun σ H Q=>ta σ H fun vs H1=>∃ l xs zs,vs=[V.ref l]∧SqL X.K H1 l xs∧xs.length≤sizeLine∧aGC X σ fs zs∧lM T uP (X.env.qual ++ "<lambda>") H1∧
 (∀ y∈xs,∀ H',dH T H1 H'→te (some y :: zs.map some) H' fun u H''=>∃ t a b,u=.ref t∧H'' t=some (.tup [.int a,.int b])∧b9 H' H'')∧
 ∀ D ys H',dH T H1 H'→lM T uP (X.env.qual ++ "<lambda>") H'→H1 D=none→ys.Perm xs→H' D=some (.lst ys)→Q (.ref D) H'
theorem aA0{k:Nat}{c T:Ae}{x:Str}{fs:List Str}{z:EE}{F:Be}{scope:CW}{cl:List (Str×Ae)}{te:TE}{p uP kp pos:Pos}(hr:dG (k + 3) X.A)(O:X.env.code=.ref c)(hC:codeHdIn X.K c T=true)(hB:uM X.mg X.base)(hg:Gl X "sorted")(hm:X.mg "sorted"=none)(S:yX [x] fs scope)
  (hc:∀ x b,cl.lookup x=some b→X.env.cells.lookup x=some b) (hhas:∀ x,scope.names.lookup x=some .free→∃ b,cl.lookup x=some b) (hb:∀(pm Z M u:Ad),bindArgs (kla_fn "<lambda>" (X.env.qual ++ "<lambda>") z F scope cl pm Z M) ⟨[u],[]⟩=pure [(x,u)])
  (Y:∀(f c:Ae) (s:Ag) (H:Hp),PE (yV X ([x] ++ fs) (X.env.qual ++ "<lambda>") scope f (.ref c) cl X.A.in1.in1 s H) F te) (ha:PA X [e] ta)
  (ab:closureFor scope X.env=pure cl:=by rfl) (aa:defaultsOf z X.env=([],[]):=by rfl) (he:starEach [e] X.env=[(false,eval e X.env)]:=by rfl):
  PE X (.Call (.Name "sorted" p) [e] [⟨some "key",.Lambda z F scope uP,kp⟩] pos) (tSL X T uP fs te ta):=by
 constructor;intro gz s σ H Q I h;refine C8 (wI I hg hm boot_sorted ?_ (by decide) (by decide));refine callWith_builtin_kwB (by rw[he];rfl) (by rfl) ?_;have J:=ha pos gz s σ H _ I h;rw[he]at J ⊢;refine evalArgs_kwB (by rfl) (thn J fun us s1 ⟨vs,H1,I1,r,q1⟩=>?_);obtain⟨l,xs,zs,rfl,hl,hlen,ht,gt,hkey,q⟩:=q1;obtain⟨ps,hT,_⟩:=gt.ex;have af:PK X [⟨some "key",.Lambda z F scope uP,kp⟩] (aBu (aIz T uP (X.env.qual ++ "<lambda>") z F scope cl) aG6):=aFt (aHp O hC hB ab aa) aG7;refine thn (af pos gz s1 σ H1 (fun ws H2=>∃ f c,ws=[V.ref f]∧dH T H1 H2∧lM T uP (X.env.qual ++ "<lambda>") H2∧H2 c=some (oB c (X.env.qual ++ "<lambda>"))∧H2 f=some (qN f (X.env.qual ++ "<lambda>") z F scope cl c)) I1 ⟨gt,fun f c H2 a1 a2 a3 a4=>⟨f,c,rfl,a1,a2,a3,a4⟩⟩) fun ws s2 ⟨ak,H2,I2,rz,f,c',ez,a1,a2,a3,a4⟩=>?_;subst ez;cases rz with
 | cons r1 r2=>
  cases r1;cases r2;cases r with
  | cons r3 r4=>
   cases r3;cases r4;refine aEg I2 (a1.seq hT hl) hlen (fun y hy v ad H' s' rv I' S'=>?_) fun D ys H' s' n1 n2 n3=>q D ys H' (a1.trans s'.butT) (a2.same s') ?_ n2 n3
   ·exact aEf (k:=k) (ps:=[x]) (fs:=fs) I' I'.ok.frames ((hr.in1).in1) S hc hhas (S' _ _ a4) (S' _ _ a3) (fun pm Z M=>hb pm Z M v) (.cons rv .nil) rfl ht (Y f c' s' H') (hkey y hy H' (a1.trans S'.butT))
   ·cases qD:H1 D with
    | none=>rfl
    | some o=>
     by_cases hD:D=T
     ·subst hD;obtain⟨ps',hT',_⟩:=a2.ex;rw[hT']at n1;cases n1
     ·rw[a1 _ _ hD qD]at n1;cases n1
end
theorem Fun.okC{P:AC}{w:AT}{K:Ah}{mg:Str→Option Ad}{base:Bi}{x qual:Str}{st:Cc}{f:Ae}{fd:A3}{N ps:List Str}{k:Nat}{sp:Sp}(F:Fun K x qual st f fd)(S:bY N ps (aO st))(len:∀ vs H Q E,sp vs H Q E→vs.length=ps.length)
  (J:∀(z:Ad) (A:AU) (outer:List Env) (s:Ag) (H:Hp) (vs:List V) (Q:VK) (E:XK),fd.code=z→dG k (A.deeper (envOfC qual (aO st) s.heap.objs.size f z))→sp vs H Q E→
   ∃ t,PSs (aAD CX0 P w K mg base N qual (aO st) f z A outer s H E).nox (dQ st) t∧t { nx:=fun _ H'=>Q .non H',rt:=Q } (start N vs) H):cP P w K mg base CX0 (k + 1) f fd ps sp:=by
 obtain⟨oc,od,kV,doc,pm,an,z,ct,osl,rfl,lk,hcd⟩:=F.ex;refine aGv lk hcd S len fun A outer s H vs Q E O M=>?_;obtain⟨t,h,q⟩:=J z A outer s H vs Q E rfl O M;exact⟨t,h.nox,q⟩
theorem lM.start{T:Ae}{pos:Pos}{qual:Str}{H:Hp}(h:H T=some (.tbl #[])):lM T pos qual H:=⟨#[],h,trivial,.inl rfl⟩
theorem aCN{P:AC}{w:AT}{K:Ah}{mg mb:Str→Option Ad}{k:Nat}{fa a:Ae}{fd:A3}{x:Str}{sp:Sp}{J:Ag}{vs:List Ad}{ns:List Int}{Ts:List Ae}
  (KX:K.In J.heap) (ai:J.heap.Ns mainGlobals mg) (M:J.heap.Ns builtinsNs mb) (ao:∀ x:Str,x≠"__name__"→mb x=bootBuiltins x) (ah:J.heap.NoLimit) (hg:J.gens=#[]) (hB:uM mg J.heap)
  (hT:∀ T∈Ts,J.heap.get? T=some (tabObj #[])∧K.lookup T=none∧isCodeTable J.heap T)
  (ha:J.heap.get? a=some { cls:=.type "list",data:=.seq vs.toArray }) (hi:F6 vs ns) (hl:ns.length≤sizeLine) (hr:dG k callerA)
  (F:∀ base:Bi,K.In base→base.Ns mainGlobals mg→uM mg base→cP P w K mg base CX0 k fa fd [x] sp) (ad:∀(s:Ag) (u:Ad),F9 s fd ⟨[u],[]⟩ [(x,u)])
  (al:∀ H:Hp,(∀ T∈Ts,H T=some (.tbl #[]))→SqL K H a (ns.map V.int)→sp [.ref a] H (fun v _=>v=.bl true) fun _ _ _=>False):
  codeAny (model P w) callerA (.call (.ref fa) ⟨[.ref a],[]⟩) (fun r s'=>r=.ok (.ret (.bool true))∧OldK J.heap s'.heap∧s'.os=J.os∧EC s'.gens) J:=by
 have rv:=vC hi;have af:=hi.length;have aT:∀ T∈Ts,T≠a:=fun T h z=>by
  have:=(hT T h).1;rw[z,ha]at this;cases this
 have ab:∀ H:Hp,(∀ T∈Ts,H T=some (.tbl #[]))→SqL K H a (ns.map V.int)→HOk P w H J.heap→(∀ b,H b≠none→b∈Ts∨(b=a∧K.lookup a=none∧H a=some (.frz { cls:=.type "list",data:=.seq vs.toArray } (.lst (ns.map V.int)))))→
   codeAny (model P w) callerA (.call (.ref fa) ⟨[.ref a],[]⟩) (fun r s'=>r=.ok (.ret (.bool true))∧OldK J.heap s'.heap∧s'.os=J.os∧EC s'.gens) J:=by
  intro H hO hS hok hA;have free:∀{b:Ae} {o:Obj},J.heap.get? b=some o→(∀ xs n,o.data≠.seq xs n)→(∀ vs,o.data≠.fields vs)→H b=none:=fun{b o} e d1 d2=>by
   cases q:H b with
   | none=>rfl
   | some u=>
    rcases hA b (by rw[q];simp)with z | ⟨z,_,_⟩
    ·rw[(hT b z).1]at e;cases e;exact absurd rfl (d2 _)
    ·rw[z,ha]at e;cases e;exact absurd rfl (d1 _ _)
  have aa:∀{b:Ae} {m:Str→Option Ad},J.heap.Ns b m→(wG J.heap H).Ns b m:=fun{b m} ⟨o,es,ep,e,d,r⟩=>⟨o,es,ep,rL e (free e (fun _ _ z=>by rw[d]at z;cases z) fun _ z=>by rw[d]at z;cases z),d,r⟩
  have ae:K.In (wG J.heap H):=fun b o e=>rL (KX b o e) (by
   cases q:H b with
   | none=>rfl
   | some u=>
    rcases hA b (by rw[q];simp)with z | ⟨z,z2,_⟩
    ·rw[(hT b z).2.1]at e;cases e
    ·rw[z,z2]at e;cases e)
  have aj:uM mg (wG J.heap H):=by
   obtain⟨bm,o,b1,b2,b3,b4,b5,b6,b7⟩:=hB;exact⟨bm,o,b1,b2,b3,rL b4 (free b4 (fun _ _ z=>by rw[b7]at z;cases z) fun _ z=>by rw[b7]at z;cases z),b5,b6,b7⟩
  have hM:Mod K mg (wG J.heap H):=⟨ae,aa ai,⟨mb,aa M,ao⟩,let ⟨mc,h1,h2⟩:=ah;⟨mc,aa h1,h2⟩⟩
  have e0:aAC P w K mg (wG J.heap H) callerA [] J H:=⟨rfl,hM,fun b o e=>aFl e,Ef (aCu _ _),trivial,fun b M=>absurd (show b∈([]:List Ae) from M) (by simp),hok,.of_eq hg⟩
  refine DU ((F _ ae (aa ai) aj).run callerA [] J H ⟨[.ref a],[]⟩ [.ref a] [.ref a] _ _ hr e0 (ad J (.ref a)) (.cons rfl .nil) (al H hO hS)) fun r s' h=>?_;cases r with
  | error e=>exact BZ h
  | ok fl=>
   cases fl with
   | next=>exact BZ h
   | brk=>exact BZ h
   | cont=>exact BZ h
   | ret u=>
    obtain⟨v,H',os,bare,un,hok',r',q⟩:=h;have q':v=.bl true:=q;subst q';obtain rfl:u=GK true:=r';refine⟨rfl,⟨fun b o e=>?_,fun b o e=>un.there b o e (by simp)⟩,os,bare⟩;cases q:H b with
    | none=>exact .inl (un.keep b o e q (by intro z;exact absurd (show b∈([]:List Ae) from z) (by simp)) (by simp))
    | some u=>
     rcases hA b (by rw[q];simp)with z | ⟨z,_,z2⟩
     ·obtain⟨e1,_,e3⟩:=hT b z;rw[e1]at e;cases e;obtain⟨more,e4⟩:=un.tbls b _ (hO b z);exact .inr (.inl ⟨e3,rfl,#[],more,rfl,hok' b _ e4⟩)
     ·subst z;have z3:=un.frzs _ _ _ z2;obtain⟨e1,_⟩:=hok _ _ z2;obtain⟨e2,_⟩:=hok' _ _ z3;rw[e]at e1;cases e1;exact .inl e2
 have Y:∀(H:Hp) T,T∈Ts→cS P w H J.heap T (.tbl #[]):=fun H T h=>(hT T h).1;cases hk:K.lookup a with
 | some o=>
  have e:=KX a o hk;rw[ha]at e;cases e;refine ab (fun b=>if b∈Ts then some (.tbl #[]) else none) (fun T h=>Ib h) (.inr ⟨_,vs.toArray,_,hk,rfl,rfl,rfl,by rw[Aq,af];exact hl,by simpa using rv⟩) (fun b u z=>?_) fun b z=>?_
  ·by_cases M:b∈Ts
   ·have Z:=(Ib M).symm.trans z;cases Z;exact Y _ b M
   ·have Z:=(Ia M).symm.trans z;cases Z
  ·by_cases M:b∈Ts
   ·exact .inl M
   ·exact absurd (Ia M) z
 | none=>
  have an:∀ T∈Ts,(if T=a then some (HO.frz { cls:=.type "list",data:=.seq vs.toArray } (.lst (ns.map V.int))) else if T∈Ts then some (.tbl #[]) else none)=some (.tbl #[]):=fun T h=>by
   rw[Ia (aT T h),Ib h]
  refine ab (fun b=>if b=a then some (.frz { cls:=.type "list",data:=.seq vs.toArray } (.lst (ns.map V.int))) else if b∈Ts then some (.tbl #[]) else none) an (.inl (.inr ⟨{ cls:=.type "list",data:=.seq vs.toArray },Ib rfl⟩)) (fun b u z=>?_) fun b z=>?_
  ·by_cases M:b=a
   ·have Z:=(Ib M).symm.trans z;cases Z;subst M;exact⟨ha,by rw[Aa];exact hl,vs,_,rv,ha⟩
   ·have z1:=(Ia M).symm.trans z;by_cases O:b∈Ts
    ·have Z:=(Ib O).symm.trans z1;cases Z;exact Y _ b O
    ·have Z:=(Ia O).symm.trans z1;cases Z
  ·by_cases M:b=a
   ·exact .inr ⟨M,hk,Ib rfl⟩
   ·by_cases O:b∈Ts
    ·exact .inl O
    ·exact absurd ((Ia M).trans (Ia O)) z
theorem walk_ofT{l:FH}{n k:Nat}{q:AC}{M:List Str}{XP:(Str→Option Ad)→Bi→Prop}{YP:AT→Bi→Prop}{d:DefRec}{K:Params→Ah}{sp:AT→Sp}{x:Str}{cts:List (Ae×Ae)}
  (hn:l.most=some n) (ad:n≤sizeLine) (af:d.params.defaults=[]) (hr:dG k callerA)
  (hY:∀(w:AT) (h:Bi),YP w h→(K w.params).In h∧∀ T∈cts.map (·.2),h.get? T=some (tabObj #[]))
  (hC:∀(w:AT),∀ p∈cts,codeHdIn (K w.params) p.1 p.2=true∧(K w.params).lookup p.2=none)
  (F:∀(w:AT) (mg:Str→Option Ad) (fa:Ae) (h:Bi),(K w.params).In h→h.Ns mainGlobals mg→mg d.name=some (.ref fa)→
   ∃ fd:A3,(∀(s:Ag) (u:Ad),F9 s fd ⟨[u],[]⟩ [(x,u)])∧
    ∀ base:Bi,(K w.params).In base→base.Ns mainGlobals mg→uM mg base→cP l.prog w (K w.params) mg base CX0 k fa fd [x] (sp w))
  (ae:∀(w:AT) (H:Hp) (a:Ae) (ns:List Int),ns.length≤n→(∀ T∈cts.map (·.2),H T=some (.tbl #[]))→SqL (K w.params) H a (ns.map V.int)→sp w [.ref a] H (fun v _=>v=.bl true) fun _ _ _=>False):
  PySem.W.WalkO q M XP YP l.row.toRowW d [] (fun f vs=>GQ f vs):=by
 refine Att.attach_call hn af fun w s₀ s₁ mg mb fa o pm cd ai a vs ns G Y ho hd ao ab Z O J hg=>?_;obtain⟨KX,TX⟩:=hY w _ Y;obtain⟨fd,hb,hF⟩:=F w mg fa _ KX G.T.g ab;have hB:uM mg s₁.heap:=by
  obtain⟨bm,ob,b1,b2,b3,b4,b5,b6⟩:=G.T.bmain;refine⟨bm,ob,b1,b2,fun z=>?_,b3,b4,b5,b6⟩;obtain⟨o',es,ep,e,r⟩:=G.T.g;rw[z,e]at b3;cases b3;rw[r.1]at b6;cases b6
 refine aCN KX G.T.g G.T.b G.T.builtins G.T.nolimit hg hB (Ts:=cts.map (·.2)) (fun T h=>?_) Z O (AI J ad) hr hF hb fun H hO hS=>ae w H a ns J hO hS
 obtain⟨p,hp,rfl⟩:=AR.mp h;obtain⟨h1,h2⟩:=hC w p hp;exact⟨TX _ h,h2,((Hd KX h1).tab (TX _ h)).isCodeTable⟩
section
variable{X:Cx}
inductive tJ(x:V)(vs:List V)(H:Hp)(Q:VK):Prop
 | mk (l:_) (b:_) (xs:_) (zs:_) (q0:x=.ref l) (q1:vs=[.ref b]) (q2:H l=some (.lst xs)) (q3:H b=some (.tup zs)) (q4:xs.length + zs.length≤sizeLine) (q5:Q .non (upd H l (.lst (xs ++ zs)))):tJ x vs H Q
def aEh:V→List V→Hp→VK→Prop:=fun x vs H Q=>tJ x vs H Q
theorem aA1:MtM X "list.extend" aEh:=by
 intro gz s σ H x vs v us Q I O Z h;obtain⟨l,b,xs,zs,rfl,rfl,hH,hB,hz,q⟩:=h;cases O;obtain⟨u,rfl,ru⟩:=Z.one;cases ru;obtain⟨z,its,n,r,hl,e⟩:=I.lstM hH;obtain⟨its2,r2,p,_⟩:=I.tuple (aH (K:=X.K) hB);have Y:=r2.length;have M:its.toArray.size + its2.toArray.size≤sizeLine:=by rw[Aq,Aq];omega
 have J:¬ (!its.toArray.isEmpty && Dc (its.toArray.size + its2.toArray.size))=true:=by
  rw[yA M,DI];exact Ay
 refine Ce F.slot_list_extend ⟨_,e,rfl⟩ F.entry_list_extend ?_ (F.args_list_extend_2 _ _);show wpAny _ _ (DQ (.ref l) (.ref b) .none) _ _ _;unfold DQ;refine Ab (Cj p.typeIs ?_);rw[Ib (by
  have ht:(A9 "tuple" == A9 "tuple")=true:=by rfl
  rw[ht];simp)]
 refine Ab (dR p ?_);refine Ab (Fe e rfl ?_);rw[Ia J];refine Ab (CF e rfl ?_ (by rw[Aq];omega) (by rw[Array.size_append];omega));refine Af ⟨_,rfl,?_⟩;refine⟨.non,_,I.lset (its':=its ++ its2) (t':=s.toks) hH e (by simp) (r.append r2) ?_,rfl,q⟩;rw[AD];omega
end
section
variable{X:Cx}{tg:Be}
end
section
variable{X:Cx}
inductive aA2(H:Hp):V→Prop
 | str (z:Str):aA2 H (.str z)
 | non:aA2 H .non
 | int (i:Int):aA2 H (.int i)
 | bl (b:Bool):aA2 H (.bl b)
 | lst {a:Ae} {xs:List V} (e:H a=some (.lst xs)):aA2 H (.ref a)
 | tup {a:Ae} {xs:List V} (e:H a=some (.tup xs)):aA2 H (.ref a)
inductive Thg(H:Hp):V→Option (List V)→Prop
 | lst {a:Ae} {xs:List V} (e:H a=some (.lst xs)) (h:∀ v∈xs,aA2 H v):Thg H (.ref a) (some xs)
 | tup {a:Ae} {xs:List V} (e:H a=some (.tup xs)):Thg H (.ref a) none
 | dct {a:Ae} {iz:List (Key×V)} (e:H a=some (.dK iz)):Thg H (.ref a) none
 | non:Thg H .non none
 | str (z:Str):Thg H (.str z) none
 | bl (b:Bool):Thg H (.bl b) none
end
section
variable{X:Cx}
inductive RpV(H:Hp):V→Str→Prop
 | non:RpV H .non "None"
 | bl (b:Bool):RpV H (.bl b) (if b then "True" else "False")
 | str (z:Str) (h:(reprText z).length≤sizeLine):RpV H (.str z) (reprText z)
 | ref {a:Ae} {m:Bool} {d:Bb} (r:RdV m H (.ref a) d) (h1:d.showable=true) (h2:d.depth≤20) (h3:d.shown.length≤sizeLine):RpV H (.ref a) d.shown
inductive mB(xs:List V)(H:Hp)(Q:VK):Prop
 | mk (x:V) (z:Str) (q0:xs=[x]) (q1:RpV H x z) (q2:Q (.str z) H):mB xs H Q
def wW:List V→Hp→VK→Prop:=fun xs H Q=>mB xs H Q
theorem gP{k:Nat}(M:dG k X.A):eU X (.builtin "repr") wW:=by
 intro gz s σ H xs J Q I r h;obtain⟨x,z,rfl,hx,q⟩:=h;cases hx with
 | non=>
  obtain⟨u,rfl,ru⟩:=eY r;cases ru;exact P.repr_of_none ⟨.str _,H,I.tok _,⟨_,rfl⟩,q⟩
 | bl b=>
  obtain⟨u,rfl,ru⟩:=eY r;cases ru;exact P.repr_of_bool ⟨.str _,H,I.tok _,⟨_,by cases b <;> rfl⟩,q⟩
 | str z h=>
  obtain⟨u,rfl,ru⟩:=eY r;obtain⟨t,rfl⟩:=ru;exact P.repr_of_str ⟨.str _,H,I.tok _,⟨_,rfl⟩,q⟩ h
 | @ref a m d rd h1 h2 F=>exact aCJ M gz s σ H _ J Q I r ⟨a,m,d,rfl,rd,h1,h2,F,q⟩
end
mutual
theorem RdV.uniq{H:Hp}:∀{x:V}{d d':Bb},RdV false H x d→RdV false H x d'→d=d'
 | _,_,_,.non,h=>by cases h;rfl
 | _,_,_,.bl b,h=>by cases h;rfl
 | _,_,_,.int i,h=>by cases h;rfl
 | _,_,_,.str z _,h=>by cases h;rfl
 | _,_,_,.lst hm _ _ _,_=>nomatch hm
 | _,_,_,.tup e hl r,h=>by
  cases h with
  | lst hm=>cases hm
  | tup q J F=>
   rw[e]at q;cases q;rw[cD.uniq r F]
  | dct _ q=>rw[e]at q;cases q
 | _,_,_,.dct _ e,h=>by
  cases h with
  | lst hm=>cases hm
  | tup q _ _=>rw[e]at q;cases q
  | dct _ q=>rfl
theorem cD.uniq{H:Hp}:∀{xs:List V}{ds q:List Bb},cD false H xs ds→cD false H xs q→ds=q
 | _,_,_,.nil,h=>by cases h;rfl
 | _,_,_,.cons a r,h=>by
  cases h with
  | cons a' z=>rw[RdV.uniq a a',cD.uniq r z]
end
def OkS:Nat→Bb→Prop
 | 0,d=>(∃ z,d=.str z)∨∃ i,d=.int i
 | n + 1,d=>(∃ z,d=.str z)∨(∃ i,d=.int i)∨∃ ds,d=.tuple ds∧∀ e∈ds,OkS n e
open Classical in
section
variable{X:Cx}{gz:List (Ae×Obj)}{σ:St}{H:Hp}{s:Ag}
open Classical in
end
section
variable{X:Cx}
open Classical in
end
section
variable{X:Cx}
end
inductive aIB(X:Cx)(gz:List (Ae×Obj))(σ:St)(E':XK)(x:Ad)(s':Ag):Prop
 | mk (H1:_) (s1:_) (q0:Inv X gz σ H1 s1) (q1:CXr X.prog X.w X.stack H1 s1 E' x s'):aIB X gz σ E' x s'
def XP(X:Cx)(gz:List (Ae×Obj))(σ:St)(E':XK)(x:Ad)(s':Ag):Prop:=aIB X gz σ E' x s'
structure PX(X:Cx)(e:Be)(te:XK→TE):Prop where
 run:∀(E':XK) (gz:List (Ae×Obj)) (s:Ag) (σ:St) (H:Hp) (Q:VK),Inv X gz σ H s→te E' σ H Q→wpAny (model X.prog X.w) X.A (eval e X.env) (EP X gz σ Q) (XP X gz σ E') s
structure PXs(X:Cx)(b:List Cc)(tb:XK→TS):Prop where
 run:∀(E':XK) (gz:List (Ae×Obj)) (s:Ag) (σ:St) (H:Hp) (D:Ends),Inv X gz σ H s→tb E' D σ H→wpAny (model X.prog X.w) X.A (execs b X.env) (SP X gz D) (XP X gz σ E') s
section
variable{X:Cx}{k:Nat}{f:Ae}{fd:A3}{ps:List Str}{sp:Sp}{x:Str}{p pos:Pos}{e:Be}{es:List Be}{t:TA}{te:XK→TE}
end
section
variable{X:Cx}{gz:List (Ae×Obj)}{σ:St}{H:Hp}{s:Ag}{v:Ad}
end
def aJA(y:Ae)(C:Ad):HO:=.ext fun h=>∃ ob vs,h.get? y=some ob∧ob.cls=C∧ob.data=.fields vs
open PySem PySem.Spec PyProof.Rows PySem.W Builtin Builtin.ObjectAttr PySem.Calls Builtin.Getset_descriptor
structure aJL(K:Ah)(D:Ae):Prop where
 ga:findIn K (.ref D) "__getattribute__"=some (some (.builtin "BaseException.__getattribute__"))
 gn:findIn K (.ref D) "__getattr__"=some none
 mb:mroIn K D (.type "BaseException")=some true
 hd:hasDictIn K D=true
 ha:findIn K (.ref D) "__class__"=some (some (.builtin "object.__class__"))
 hm:mroIn K D (.type "object")=some true
 hn:specialIn K (.builtin "object.__class__") "__get__"=some (some (.builtin "getset_descriptor.__get__"))
 ht:takesIn K (.builtin "object.__class__")=some true
def aJB(y:Ae)(C:Ad)(h:Bi):Prop:=∃ ob vs,h.get? y=some ob∧ob.cls=C∧ob.data=.fields vs
section
variable{X:Cx}
end
section
variable{H H':Hp}{L:List (Ae×Obj)}{b:Ae}{o:Obj}
variable{P:AC}{w:AT}{h h':Bi}{fs:List Ae}
end
section
variable{P:AC}{w:AT}{K:Ah}{mg:Str→Option Ad}{base:Bi}{N:List Str}{qual:Str}{scope:CW}{f:Ae}{cd:Ad}{A:AU}{outer:List Env}{s:Ag}{H:Hp}{E:XK}
structure aJC(cl:List (Str×Ae))(L:List (Ae×Obj))(fs:List Str)(zs:List V):Prop where
 pr:By (fun(x:Str) (v:V)=>∃ b o u,cl.lookup x=some b∧L.lookup b=some o∧o.data=.cell (some u)∧cG v u) fs zs
 all:∀ x b,cl.lookup x=some b→∃ o u,L.lookup b=some o∧o.data=.cell u
 inj:∀ x y b,cl.lookup x=some b→cl.lookup y=some b→x=y
end
section
variable{X:Cx}{k:Nat}{x:Str}{p pos:Pos}
end
inductive Thn(H:Hp):V→Prop
 | non:Thn H .non
 | bl (b:Bool):Thn H (.bl b)
 | int (i:Int):Thn H (.int i)
 | str (z:Str):Thn H (.str z)
 | lst {a:Ae} {xs:List V} (e:H a=some (.lst xs)):Thn H (.ref a)
 | tup {a:Ae} {xs:List V} (e:H a=some (.tup xs)):Thn H (.ref a)
 | dct {a:Ae} {iz:List (Key×V)} (e:H a=some (.dK iz)):Thn H (.ref a)
section
variable{X:Cx}
end
section
variable{prog:AC}{w:AT}{A:AU}{E:Ad→Ag→Prop}{s:Ag}
theorem tK{a:Ae}{vs:List Ad}{n:Nat}{P:FJ→Ag→Prop}(ho:s.heap.get? a=some (seqObj "list" vs.toArray n))(Z:∀(F z:Ad) (bZ:List Ad),vs=F :: z :: bZ→∀(s':Ag) (Q:De→Ag→Prop),(∀ b u,b≠a→s.heap.get? b=some u→s'.heap.get? b=some u)→(∀ κ,oA prog w A s' κ (pairsOf vs)→Q κ s')→wpAny (model prog w) A (keyKind' vs.toArray) Q E s')(hz:vs.length≤sizeLine)
  (h:∀ out:List Ad,out.Perm vs→P (.done (.ret .none)) { s with heap:=sortedHeap s.heap a vs out.toArray }):wpAny (model prog w) A (Builtin.«list.sort» ⟨[.ref a],[]⟩) P E s:=by
 rw[list_sort_plain];have ha:a < s.heap.objs.size:=Au ho;refine Ab (Fe ho rfl (Ab (CF ho rfl ?_)));obtain⟨O,ho1⟩:∃ O,(s.heap.update a (A6 fun _=>#[])).get? a=some (seqObj "list" #[] O):=⟨_,get?_update_seq ho (fun _=>#[])⟩
 refine Ab (Ee ho1 rfl (Ab (Gp (Ab (Df (Bh ?_))))));have n1:a≠((s.heap.update a (A6 fun _=>#[])).push (seqObj "tuple" vs.toArray 0)).objs.size:=by rw[FV,Cn];exact AB (Cr ha)
 have n2:a≠(s.heap.update a (A6 fun _=>#[])).objs.size:=by rw[Cn];exact AB ha
 have q:(((s.heap.update a (A6 fun _=>#[])).push (seqObj "tuple" vs.toArray 0)).push (seqObj "list" #[] 0)).get? a=some (seqObj "list" #[] O):=by
  rw[EA _ _ _ n1,EA _ _ _ n2];exact ho1
 show wpAny (model prog w) A _ P E { s with heap:=((s.heap.update a (A6 fun _=>#[])).push (seqObj "tuple" vs.toArray 0)).push (seqObj "list" #[] 0) };dsimp only;have fin:∀ st:Bk,(arrOf st).Perm (pairsOf vs)→P (.done (.ret .none)) { s with heap:=sortedHeap s.heap a vs ((arrOf st).map (·.2)) }:=fun st J=>by
  have Y:((arrOf st).map (·.2)).toList.Perm vs:=by
   rw[FQ];have:=(Bc.mp J).map (·.2)
   rw[pairsOf_toList,List.map_snd_zip (Am _)]at this;exact this
  have:=h _ Y
  rwa [Array.toArray_toList]at this
 have le:∀ st:Bk,(arrOf st).Perm (pairsOf vs)→((arrOf st).map (·.2)).size≤sizeLine + 1:=fun st J=>by
  rw[Array.size_map,J.size_eq,pairsOf_size];omega
 by_cases h2:vs.toArray.size < 2
 ·rw[Ib h2,Ib h2];refine Ab (Af ?_);rw[StateT.run_pure];refine Ab (Af ?_);dsimp only;refine Ab (Ee q rfl (Ab (CF q rfl ?_ (hsz2:=le (EI general' (vs.toArray.zip vs.toArray) #[] 7 none) (CU _)))));simp only[bne_self_eq_false,B7,if_false];exact Af (fin (EI general' (vs.toArray.zip vs.toArray) #[] 7 none) (CU _))
 ·rw[Ia h2,Ia h2];obtain⟨F,z,bZ,rfl⟩:∃ F z bZ,vs=F :: z :: bZ:=by
   match vs,h2 with
   | [],h2=>simp at h2
   | [_],h2=>simp at h2
   | F :: z :: bZ,_=>exact⟨F,z,bZ,rfl⟩
  refine Ab (Z F z bZ rfl _ _ (fun b u nb e=>?_) fun κ hc=>Ab (yU hc fun st J hf=>?_))
  ·have M:=Au e;rw[EA _ _ _ (by rw[FV,Cn];exact AB (Cr M)),EA _ _ _ (by rw[Cn];exact AB M),Bs _ _ _ _ nb];exact e
  ·dsimp only;refine Ab (Ee q rfl (Ab (CF q rfl ?_ (hsz2:=le st J))));rw[hf];simp only[bne_self_eq_false,B7,if_false];exact Af (fin st J)
theorem vL{a:Ae}{vs:List Ad}{ss:List Str}{n:Nat}{P:FJ→Ag→Prop}(ho:s.heap.get? a=some (seqObj "list" vs.toArray n))(F:D8 vs ss)(M:vs.length≤sizeLine)
  (h:∀ out:List Ad,out.Perm vs→P (.done (.ret .none)) { s with heap:=sortedHeap s.heap a vs out.toArray }):wpAny (model prog w) A (Builtin.«list.sort» ⟨[.ref a],[]⟩) P E s:=by
 refine tK ho (fun Z Y bZ e s' Q _ q=>?_) M h;subst e;rw[keyKind_strs F];refine Af (q _ fun x y J O C hC=>?_);have z:=F.keysOf;obtain⟨a1,k1⟩:=z x J;obtain⟨a2,k2⟩:=z y O;rw[keyLt'_oneType];exact strKind_oneLt prog w A _ _ x.1 y.1 a1 a2 k1 k2 (hC _)
theorem vM{vs out:List Ad}(p:out.Perm vs):∀{ss:List Str},D8 vs ss→∃ q,D8 out q∧q.Perm ss:=by
 induction p with
 | nil=>intro ss h;exact⟨ss,h,.refl _⟩
 | cons x _ M=>
  intro ss h;cases h with
  | cons i t r=>
   obtain⟨q,h1,h2⟩:=M r;exact⟨i :: q,.cons i t h1,h2.cons i⟩
 | swap x y l=>
  intro ss h;cases h with
  | cons i t r=>
   cases r with
   | cons j u J=>exact⟨j :: i :: _,.cons j u (.cons i t J),.swap _ _ _⟩
 | trans _ _ z F=>
  intro ss h;obtain⟨s1,h1,h2⟩:=F h;obtain⟨s2,h3,h4⟩:=z h1;exact⟨s2,h3,h4.trans h2⟩
theorem yY{l:Ae}{vs:List Ad}{ss:List Str}{Q:Ad→Ag→Prop}(hl:s.heap.IsList l vs.toArray)(J:D8 vs ss)(M:vs.length≤sizeLine)
  (h:∀(out:List Ad) (q:List Str),D8 out q→q.Perm ss→Q (.ref (s.heap.objs.size + 1)) { s with heap:=sortedAll s.heap vs out.toArray }):
  wpAny (model prog w) A (call (.builtin "sorted") [.ref l]) Q E s:=by
 refine Dm Fx Fd Ff (F2 _) ?_;unfold Builtin.«sorted»;refine Ab (m:=checkCount "sorted" 1 1 _) (Af (Ab (F0 hl (Ab (Df ?_)))));have z:((s.heap.push (seqObj "list" #[] 0)).update s.heap.objs.size (A6 (· ++ vs.toArray))).objs.size=s.heap.objs.size + 1:=by
  rw[Cn,FV]
 have F:(((s.heap.push (seqObj "list" #[] 0)).update s.heap.objs.size (A6 (· ++ vs.toArray))).push (seqObj "list" vs.toArray 0)).get? (s.heap.objs.size + 1)=some (seqObj "list" vs.toArray 0):=by
  rw[← z];exact Ax _ rfl
 show wpAny _ _ _ _ _ { s with heap:=((s.heap.push (seqObj "list" #[] 0)).update s.heap.objs.size (A6 (· ++ vs.toArray))).push (seqObj "list" vs.toArray 0) }
 rw[z];refine Ab (Bh (Ce slot_list_sort ⟨_,F,rfl⟩ entry_list_sort (vL F J M fun out O=>⟨_,rfl,?_⟩) (EF _)));obtain⟨q,h1,h2⟩:=vM O J;exact Af ⟨_,rfl,h out q h1 h2⟩
end
section
variable{X:Cx}
inductive jH(K:Ah)(xs:List V)(H:Hp)(Q:VK):Prop
 | mk (p:Ae) (ns:List Str) (q0:xs=[.ref p]) (q1:SqL K H p (ns.map V.str)) (q2:ns.length≤sizeLine) (q3:∀(l:Ae) (ms:List Str),H l=none→ms.Perm ns→Q (.ref l) (upd H l (.lst (ms.map V.str)))):jH K xs H Q
def qY(K:Ah):List V→Hp→VK→Prop:=fun xs H Q=>jH K xs H Q
theorem uN:eU X (.builtin "sorted") (qY X.K):=by
 intro gz s σ H xs Z Q I r h;obtain⟨p,ns,rfl,hx,hz,q⟩:=h;obtain⟨u,rfl,ru⟩:=eY r;cases ru;obtain⟨its,rv,pl,_⟩:=I.list hx;have hi:D8 its ns:=tD rv;have z:=rv.length;rw[Aa]at z;refine yY pl.isList hi (by omega) fun out F Y J=>?_;have O:∀ b o,s.heap.get? b=some o→(sortedAll s.heap its out.toArray).get? b=some o:=fun b o e=>sortedAll_old e;obtain⟨e,he⟩:=sortedAll_at s.heap its out.toArray;have hn:H (s.heap.objs.size + 1)=none:=I.hok.fresh (CZ _);have M:=J.length_eq;have hv:bX (F.map V.str) out:=lC Y;exact⟨.ref (s.heap.objs.size + 1),_,I.laid (t':=s.toks) (o:=.lst (F.map V.str)) O (CZ _) ⟨by rw[Aa];omega,out,e,hv,by rw[he] <;> rfl⟩,rfl,q _ F hn J⟩
end
section
variable{prog:AC}{w:AT}{A:AU}{E:Ad→Ag→Prop}{s:Ag}{T:String}{r d:Ae}{n:Nat}{P:Nat→Ad→Prop}{OK:Bi→Prop}
theorem yZ(K:KdlSrc prog w T r d n P OK)(hh:A.handled=none)(hok:OK s.heap)(hn:n≤sizeLine){Q:List Ad→Ag→Prop}
  (Z:∀(q:Array Ad) (h':Bi) (tk:Nat),(∀ b o,s.heap.get? b=some o→h'.get? b=some o)→s.heap.objs.size < h'.objs.size→ItemsOf P q n→Q q.toList { s with heap:=h',toks:=tk }):wpAny (model prog w) A (collect (.ref r)) Q E s:=by
 unfold collect;refine Ab (wpAny_runValue (CP F.entry_proto_collect ?_));rw[Co F.plain_proto_collect _];show wpAny _ A.in1 (newList [] >>= fun l=>again (.builtin "list.__iadd__" ⟨[l,.ref r],[]⟩)) _ _ s;refine Ab (B4 (Af ⟨E1 F.plain_list_iadd _,CP F.entry_list_iadd ?_⟩));rw[Co F.plain_list_iadd _];obtain⟨t1,t2⟩:=K.there _ hok;have O:(s.heap.push { cls:=.type "list",data:=.seq ([]:List Ad).toArray }).get? s.heap.objs.size=some { cls:=.type "list",data:=.seq ([]:List Ad).toArray }:=Ax _ rfl;have J:OK (s.heap.push { cls:=.type "list",data:=.seq ([]:List Ad).toArray }):=K.keep _ _ hok fun b _ o e=>Aj _ e;show wpAny _ A.in1 (DQ (.ref s.heap.objs.size) (.ref r) (.ref s.heap.objs.size)) _ _ _;refine kdl_extend (R:=fun(r:Gu) s'=>match r with
  | .ok (.ret v)=>wpAny (model prog w) A (match v with
   | .ref a=>(do
    let o ← load a
    match o.data with
    | .seq xs _=>pure xs.toList
    | _=>unsupported "internal:collect")
   | _=>unsupported "internal:collect") Q E s'
  | .ok _=>False
  | .error e=>E e s') (s:={ s with heap:=s.heap.push { cls:=.type "list",data:=.seq ([]:List Ad).toArray } }) K hh J s.heap.objs.size (DL t1) (DL t2) _ _ O (fun h' tk q c Y M z=>?_) hn
 show wpAny _ A (load s.heap.objs.size >>= _) _ _ _;refine Ab (wpAny_load M ?_);exact Af (Z q h' tk (fun b o e=>Y b o (AB (Au e)) (Aj _ e)) (Au M) z)
theorem aA3(K:KdlSrc prog w T r d n P OK)(hh:A.handled=none)(hok:OK s.heap)(hn:n≤sizeLine){ss:List Str}(hS:∀ q,ItemsOf P q n→D8 q.toList ss){Q:Ad→Ag→Prop}
  (h:∀(l:Ae) (h':Bi) (tk e:Nat) (out:List Ad) (M:List Str),s.heap.objs.size≤l→(∀ b u,s.heap.get? b=some u→h'.get? b=some u)→h'.get? l=some (seqObj "list" out.toArray e)→D8 out M→M.Perm ss→Q (.ref l) { s with heap:=h',toks:=tk }):
  wpAny (model prog w) A (call (.builtin "sorted") [.ref r]) Q E s:=by
 refine Dm Fx Fd Ff (F2 _) ?_;unfold Builtin.«sorted»;refine Ab (m:=checkCount "sorted" 1 1 _) (Af (Ab (yZ (A:=A.in1) K hh hok hn fun q h1 tk hk O z=>?_)));have Z:=hS q z;have hz:q.toList.length≤sizeLine:=by rw[Bq,z.1];exact hn
 refine Ab (Df ?_ hz);have F:(h1.push (seqObj "list" q.toList.toArray 0)).get? h1.objs.size=some (seqObj "list" q.toList.toArray 0):=Ax _ rfl;refine Ab (Bh (Ce slot_list_sort ⟨_,F,rfl⟩ entry_list_sort (vL F Z hz fun out hp=>⟨_,rfl,?_⟩) (EF _)));obtain⟨M,b1,b2⟩:=vM hp Z;refine Af ⟨_,rfl,?_⟩;obtain⟨e,he⟩:=Gz (vs:=q.toList) (out:=out.toArray) F;refine h _ _ tk e _ M (DM O) (fun b u Y=>?_) he b1 b2;have J:=Au (hk b u Y);rw[Gs (AB J) (by rw[Cz];exact Cr J)];exact Aj _ (hk b u Y)
end
section
theorem aA4{P:AC}{w:AT}:∀{es:List Gd}{vs:List (Key×Ad)}{ss:List Str},PySem.Pairs (cF P w) es vs→vs.map (·.1)=ss.map Ac→D8 (es.map (·.key)) ss:=by
 intro es vs ss h
 induction h generalizing ss with
 | nil=>
  intro e;cases ss with
  | nil=>exact .nil
  | cons _ _=>simp at e
 | cons F hv _ J=>
  intro e;cases ss with
  | nil=>simp at e
  | cons z ss=>
   rw[Av,Av]at e;injection e with e1 e2;rcases dA (show oP _ _=true from F)with⟨i,t,q,_⟩ | ⟨x,t,q,q2⟩
   ·skip
    rw[q]at e1;cases e1
   ·skip
    rw[q]at e1;cases e1;rw[Av,q2];exact .cons z t (J e2)
theorem rH:∀{iz:List (Key×V)}{vs:List (Key×Ad)},KV iz vs→iz.map (·.1)=vs.map (·.1)
 | _,_,.nil=>rfl
 | _,_,.cons r t=>by rw[Av,Av,rH t,r.1]
variable{X:Cx}
inductive kB(xs:List V)(H:Hp)(Q:VK):Prop
 | mk (p:Ae) (iz:List (Key×V)) (ss:List Str) (q0:xs=[.ref p]) (q1:H p=some (.dK iz)) (q2:iz.map (·.1)=ss.map Ac) (q3:∀(l:Ae) (ms:List Str),H l=none→ms.Perm ss→Q (.ref l) (upd H l (.lst (ms.map V.str)))):kB xs H Q
def tL:List V→Hp→VK→Prop:=fun xs H Q=>kB xs H Q
theorem iQ(hc:X.calm=true):eU X (.builtin "sorted") tL:=by
 intro gz s σ H xs us Q I r h;obtain⟨p,iz,ss,rfl,hx,hks,q⟩:=h;obtain⟨u,rfl,ru⟩:=eY r;cases ru;obtain⟨hz,hsm,vs,kv,o,es,ep,ho,hex,hd,hes,hpr,hnd⟩:cS X.prog X.w H s.heap p (.dK iz):=I.hok p _ hx;have Z:=rH kv;have aa:es.size=iz.length:=by
  have h1:=hpr.length;have h2:=congrArg Ca Z;rw[Aa,Aa]at h2;rw[← Bq,h1,h2]
 refine aA3 (aIy hsm hex hd) (I.ok.hd hc) ho (by omega) (ss:=ss) (fun z F=>?_) fun l h' tk e out M hl hk hL hA Y=>?_
 ·have J:z.toList=es.toList.map (·.key):=by
   apply List.ext_getElem?;intro j;by_cases O:j < z.size
   ·have e2:es[j]?.map (·.key)=some z[j]:=F.2 j z[j] (by simp[O])
    rw[An,B3,B3,e2];simp[O]
   ·have h1:=F.1;rw[CC (by simpa using O),CC (by simp;omega)]
  rw[J];exact aA4 hpr (by rw[← Z,hks])
 ·have hv:bX (M.map V.str) out:=lC hA;have ab:=Y.length_eq;have ah:ss.length=iz.length:=by
   have:=congrArg Ca hks;rw[Aa,Aa]at this;exact this.symm
  exact⟨.ref l,_,I.laid (t':=tk) (o:=.lst (M.map V.str)) hk hl ⟨by rw[Aa];omega,out,e,hv,by rw[hL] <;> rfl⟩,rfl,q l M (I.hok.fresh hl) Y⟩
end
section
variable{prog:AC}{w:AT}{A:AU}{E:Ad→Ag→Prop}{s:Ag}
theorem aFN:typeLookup (.type "list") "keys"=pure none:=am_miss_of_fast (by kernel_rfl)
theorem aCO{a:Ae}{o:Obj}{xs:Array Ad}{k:Nat}{Q:Option Ad→Ag→Prop}(M:s.heap.get? a=some o)(hc:o.cls=.type "list")(q:o.data=.seq xs k)(hd:o.dict=none)(Y:A.handled=none)
  (h:∀ h' tk,(∀ b u,s.heap.get? b=some u→h'.get? b=some u)→Q none { s with heap:=h',toks:=tk }):wpAny (model prog w) A (getAttr? (.ref a) "keys") Q E s:=by
 obtain⟨c,dct,dat,sl⟩:=o;simp only at hc q hd;subst hc q hd;obtain⟨hp,g,d,tk,os⟩:=s;have O:∀ z,(⟨hp,g,d,z,os⟩:Ag).TypeIs (.ref a) "list":=fun _=>⟨_,M,rfl⟩
 have f1:=sub_AttributeError;have f3:=ER.lookup;have Z:=ER.bind (.ref a);have f5:=am_list_getattr_none;unfold getAttr? getAttrBy? getAttrBy
 repeat any_goals first | assumption | exact O _ | ((with_reducible show wpAny _ _ (call (Value.builtin "list.__getattribute__") _ _) _ _ _);refine Fg ER (O _) am_entry_list_getattribute (F.args_list_getattribute_2 _ _) (meets_getattribute_miss_list a xs k sl "keys" _ aFN (by decide) (by size_fits)) ⟨M,Y,fun h' z e J=>?_⟩) | wp_step
 obtain⟨t',u',he⟩:=J.there;show wpAny _ _ (getattributeRaised _ _ _ _ _ _ _) _ _ _;unfold getattributeRaised
 repeat any_goals first | assumption | wp_step
 exact h h' z J.keeps
def iJ(vs:List (Key×Ad)):List (Key×Ad):=vs.foldl (fun d kv=>stored d kv.1 kv.2) []
theorem y0(vs:List (Key×Ad))(q:Key×Ad):iJ (vs ++ [q])=stored (iJ vs) q.1 q.2:=by
 unfold iJ;rw[Da];rfl
theorem aCP(l:List (Key×Ad))(k:Key)(v:Ad):(stored l k v).length≤l.length + 1:=by
 unfold stored;split
 ·rw[Aa];omega
 ·rw[AD];exact Am _
theorem aCQ:∀ vs:List (Key×Ad),(iJ vs).length≤vs.length:=by
 intro vs;have:∀(vs d:List (Key×Ad)),(vs.foldl (fun d q=>stored d q.1 q.2) d).length≤d.length + vs.length:=by
  intro vs
  induction vs with
  | nil=>intro d;exact Am _
  | cons x r z=>
   intro d;rw[BG,AK];have h1:=z (stored d x.1 x.2);have h2:=aCP d x.1 x.2;omega
 have:=this vs [];unfold iJ;simpa using this
def oC(P:AC)(w:AT)(h:Bi)(q:Ae)(kv:Key×Ad):Prop:=∃ o key n,h.get? q=some o∧o.cls=.type "tuple"∧o.data=.seq #[key,kv.2] n∧(cF P w).is kv.1 key=true
theorem oC.on{P:AC}{w:AT}{h h':Bi}{q:Ae}{z:Key×Ad}(p:oC P w h q z)(k:∀ o,h.get? q=some o→h'.get? q=some o):oC P w h' q z:=by
 obtain⟨o,key,n,h1,h2⟩:=p;exact⟨o,key,n,k _ h1,h2⟩
theorem aA5{R:Gu→Ag→Prop}{I:Ae}{fp Z:List Ae}{G:Array F8→Array F8→Prop}{n:Nat}{P:Nat→Ad→Prop}{St:Nat→Ag→Prop}
  (W:WalksS prog w A.in1 I fp Z G n P St) (D:Ae) (af:¬ D∈fp) (vs:List (Key×Ad)) (qs:List Ae) (al:∀(i:Nat) (v:Ad),P i v→∃ q,v=.ref q∧qs[i]?=some q) (hn:vs.length=n) (hb:n≤sizeLine) (ah:∀ q∈qs,q ∉ Z∧q≠D):
  ∀(k i:Nat) (s:Ag),n - i=k→i≤n→St i s→s.heap.DictOf (cF prog w) D (iJ (vs.take i))→(∀(j:Nat) q z,qs[j]?=some q→vs[j]?=some z→oC prog w s.heap q z)→
   (∀ s':Ag,Moved (D :: Z) G s s'→s'.heap.DictOf (cF prog w) D (iJ vs)→R (GX (Gx Dr)) s')→
   codeAny (model prog w) A (Code.builtin "dict.update.loop" { pos:=[AA D,AA I,rawInt i,.none] }) R s:=by
 have ai:¬ D∈Z:=fun h=>af (W.sub D h);have M:∀ b,b∈Z→b∈D :: Z:=fun b hb=>Ap D hb;have J:entryFor table "dict.update.loop"=some Builtin.«dict.update.loop»:=entryFor_of_tree (by kernel_rfl);have F:plainId "dict.update.loop"=true:=by decide
 intro k
 induction k with
 | zero=>
  intro i s hk hi O hD hT hR;have au:i=n:=by omega
  subst au;refine CP J ?_;rw[Co F];refine Ab (W.done s _ _ O fun s' hm=>?_);refine Ab (m:=Builtin.Dict.addKeywords _ _) (Af (Af (hR s' (F5 hm M) ?_)));rw[Bg (by omega)]at hD;obtain⟨o,es,ep,ho,bZ⟩:=hD;exact⟨o,es,ep,hm.heap D o ai ho,bZ⟩
 | succ k ih=>
  intro i s hk hi O hD hT hR;have ae:i < n:=by omega
  refine CP J ?_;rw[Co F];refine Ab (W.item i s _ _ ae O fun v s' hP am hm=>?_);obtain⟨q,rfl,hq⟩:=al i v hP;obtain⟨z,hkv⟩:∃ z,vs[i]?=some z:=⟨_,Ai (by omega)⟩
  have ak:∀(j:Nat) q z,qs[j]?=some q→vs[j]?=some z→oC prog w s'.heap q z:=fun j q z e1 e2=>(hT j q z e1 e2).on fun o eo=>hm.heap q o (ah q (AH e1)).1 eo;obtain⟨o,key,m,ho,hc,hd,hkey⟩:=ak i q z hq hkv;have aw:s'.heap.DictOf (cF prog w) D (iJ (vs.take i)):=by
   obtain⟨o,es,ep,ho,bZ⟩:=hD;exact⟨o,es,ep,hm.heap D o ai ho,bZ⟩
  have aq:s'.TypeIs (.ref q) "tuple":=⟨o,ho,hc⟩
  refine Ab (Bh (Ab (wpAny_tryCatch ?_)));unfold Builtin.Dict.pairItems;refine Ab (Cj aq ?_);rw[Ib (by decide)];refine Ab (m:=seqItems? (.ref q)) ?_;show wpAny _ _ (load q >>= _) _ _ _;refine Ab (wpAny_load ho ?_);rw[hd];refine Af (Af ?_);refine Bh (wpAny_dictSet_pairs hkey aw (fun h' ad Y=>?_) (AI (aCQ _) (by rw[AJ];omega)));refine Af ⟨E1 F _,?_⟩;have et:iJ (vs.take (i + 1))=stored (iJ (vs.take i)) z.1 z.2:=by
   rw[AE,hkv];exact y0 _ _
  rw[← et]at ad;refine ih (i + 1) _ (by omega) ae (W.frame (i + 1) s' h' _ am (CZ s'.toks) fun b hb o e=>?_) ad (fun j q z e1 e2=>(ak j q z e1 e2).on fun o eo=>?_) fun ap ab ag=>?_
  ·rw[Y.right b fun h=>af (h ▸ hb)];exact e
  ·rw[Y.right q (ah q (AH e1)).2];exact eo
  ·refine hR ap (Moved.trans W.gtrans (Moved.then_heap (F5 hm M) (CZ s'.toks) fun b o hb e=>?_) ab) ag;rw[Y.right b fun h=>hb (h ▸ Al)];exact e
theorem qZ{n0:Nat}{l:Ae}{qs:List Ae}{vs:List (Key×Ad)}{Q:Ad→Ag→Prop}(hh:A.handled=none)(hl:s.heap.get? l=some { cls:=.type "list",data:=.seq (qs.map AA).toArray n0,slots:=#[] })(hT:∀(j:Nat) q kv,qs[j]?=some q→vs[j]?=some kv→oC prog w s.heap q kv)(af:qs.length=vs.length)(hb:vs.length≤sizeLine)
  (h:∀(h':Bi) (tk:Nat),h'.DictOf (cF prog w) s.heap.objs.size (iJ vs)→(∀ b o,s.heap.get? b=some o→h'.get? b=some o)→Q (.ref s.heap.objs.size) { s with heap:=h',toks:=tk }):
  wpAny (model prog w) A (call (.type "dict") [.ref l]) Q E s:=by
 refine callType_codes (Q₁:=fun obj s₁=>obj=.ref s.heap.objs.size∧s₁={ s with heap:=s.heap.push { cls:=.type "dict",data:=.dict #[] } }) F.kt_called_dict (F.kt_typeCall_dict_1 _) F.entry_dict_init (kt_code_dict_new _ ⟨rfl,rfl⟩) ?_;rintro obj s₁ ⟨rfl,rfl⟩;have M:(s.heap.push { cls:=.type "dict",data:=.dict #[] }).DictOf (cF prog w) s.heap.objs.size []:=Heap.DictOf.new s.heap;refine⟨M.typeIs,F.args_dict_init_2 _ _,?_⟩;unfold Builtin.«dict.__init__»;refine Ab ?_;unfold Builtin.Dict.selfAndRest;refine Ab (wpAny_notOrdered_dict M.typeIs ?_);show wpAny _ _ (pure (s.heap.objs.size,[AA l])) _ _ _;refine Af ?_;show wpAny _ _ (Builtin.Dict.updateFrom "dict.__init__" s.heap.objs.size (.ref l) [] .none) _ _ _;unfold Builtin.Dict.updateFrom;have Z:=Aj { cls:=.type "dict",data:=.dict #[] } hl;refine Ab (Cj ⟨_,Z,rfl⟩ ?_);rw[Ib (by decide)];refine Ab (aCO Z rfl rfl rfl hh fun h2 au Y=>?_);rw[Ib (by rfl)];have ae:=Y _ _ Z;refine Ab (Cb (Ab (DT ⟨_,ae,rfl,_,rfl⟩ ?_)));have aj:h2.DictOf (cF prog w) s.heap.objs.size []:=by
  obtain⟨o,es,ep,ho,bZ⟩:=M;exact⟨o,es,ep,Y _ _ ho,bZ⟩
 have O:s.heap.objs.size < h2.objs.size:=Au (Y _ _ (Ax s.heap rfl));have ah:l < s.heap.objs.size:=Au hl;have ak:l≠h2.objs.size:=AB (FK ah O);refine Af ⟨E1 (by decide) _,?_⟩;have z:∀{b:Ae} {o:Obj},h2.get? b=some o→(h2.push { cls:=.type "list_iterator",data:=.fields #[.ref l,.int 0 0] }).get? b=some o:=fun e=>Aj _ e;have al:A.in1.in1.handled=none:=hh;have ag:∀{b:Ae} {o:Obj},s.heap.get? b=some o→h2.get? b=some o:=fun e=>Y _ _ (Aj _ e);refine aA5 (n:=(qs.map AA).toArray.size) (Walks.toS (F3 al _ l ak (qs.map AA).toArray)) s.heap.objs.size ?_ vs qs (fun i v hv=>?_) (by simp[af]) (by simp;omega) (fun q hq=>?_) ((qs.map AA).toArray.size - 0) 0 _ rfl (A0 _) ⟨⟨_,Ax _ rfl,rfl,rfl⟩,Heap.IsList.push ⟨_,ae,rfl,_,rfl⟩ _⟩ ?_ (fun j q kv e1 e2=>(hT j q kv e1 e2).on fun o e=>z (ag e)) ?_
 ·simp only[Ak,Ao,or_false,not_or];exact⟨AB O,DL ah⟩
 ·rw[List.getElem?_toArray,An]at hv;obtain⟨q,e1,e2⟩:=AG.mp hv;exact⟨q,e2.symm,e1⟩
 ·obtain⟨j,hj⟩:=Cq hq;obtain⟨hj1,_⟩:=At.mp hj;obtain⟨o,key,n,e,_⟩:=hT j q _ hj (Ai (by omega));have J:=Au e;simp only[Ak,Ao,or_false];exact⟨AB (FK J O),AB J⟩
 ·obtain⟨o,es,ep,ho,bZ⟩:=aj;exact⟨o,es,ep,z ho,bZ⟩
 ·rintro⟨h',g',d',tk',os'⟩ hm hS';have e1:=hm.gens;have e2:=hm.drawn;have e3:=hm.os;dsimp only at e1 e2 e3;subst e1 e2 e3;refine⟨rfl,h h' tk' hS' fun b o e=>hm.heap b o ?_ (z (ag e))⟩;have J:=Au e;simp only[Ak,Ao,or_false,not_or];exact⟨AB J,AB (FK J O)⟩
end
section
theorem aHr{iz:List (Key×V)}{vs:List (Key×Ad)}(r:KV iz vs):KV (cZ [] iz) (iJ vs):=by
 have:∀{iz:List (Key×V)} {vs:List (Key×Ad)},KV iz vs→∀{a:List (Key×V)} {b:List (Key×Ad)},KV a b→KV (cZ a iz) (vs.foldl (fun d q=>stored d q.1 q.2) b):=by
  intro iz vs r
  induction r with
  | nil=>intro a b h;exact h
  | @cons x y _ _ h _ z=>
   intro a b F;obtain⟨h1,h2⟩:=h;have:=F.put x.1 h2;rw[h1]at this;have e:=z this;unfold cZ at e ⊢;rw[BG,BG,h1];exact e
 exact this r .nil
theorem kC:∀(iz a:List (Key×V)),(cZ a iz).length≤a.length + iz.length
 | [],a=>Am _
 | x :: r,a=>by
  have h1:=kC r (bT a x.1 x.2);have h2:=cB a x.1 x.2;show(cZ (bT a x.1 x.2) r).length≤_;rw[AK];omega
variable{X:Cx}
inductive mG(xs:List V)(H:Hp)(Q:VK):Prop
 | mk (p:Ae) (rs:List Ae) (iz:List (Key×V)) (q0:xs=[.ref p]) (q1:H p=some (.lst (rs.map V.ref))) (q2:By (fun(r:Ae) (kv:Key×V)=>H r=some (.tup [kV kv.1,kv.2])) rs iz) (q3:∀(d:Ae),H d=none→Q (.ref d) (upd H d (.dK (cZ [] iz)))):mG xs H Q
def wX:List V→Hp→VK→Prop:=fun xs H Q=>mG xs H Q
theorem oE(hc:X.calm=true):eU X (.type "dict") wX:=by
 intro gz s σ H xs us Q I r h;obtain⟨p,rs,iz,rfl,hx,hP,q⟩:=h;obtain⟨u,rfl,ru⟩:=eY r;cases ru;obtain⟨hz,z,n,hv,ho⟩:cS X.prog X.w H s.heap p (.lst (rs.map V.ref)):=I.hok p _ hx;have J:z=rs.map AA:=by
  have:∀{rs:List Ae} {z:List Ad},bX (rs.map V.ref) z→z=rs.map AA:=by
   intro rs
   induction rs with
   | nil=>intro z h;cases h;rfl
   | cons a r Z=>
    intro z h;cases h with
    | cons h1 h2=>
     cases h1;rw[Z h2];rfl
  exact this hv
 subst J;obtain⟨vs,hvs,hT⟩:∃ vs:List (Key×Ad),KV iz vs∧∀(j:Nat) q F,rs[j]?=some q→vs[j]?=some F→oC X.prog X.w s.heap q F:=by
  clear hx ho hv hz q r
  induction hP with
  | nil=>exact⟨[],.nil,fun j q F e=>by simp at e⟩
  | @cons a F as bs h _ Z=>
   obtain⟨vs,h1,h2⟩:=Z;obtain⟨_,z,hv,o,ho,⟨hc,n,hd⟩,_⟩:cS X.prog X.w H s.heap a (.tup [kV F.1,F.2]):=I.hok a _ h;cases hv with
   | cons r1 hv=>
   cases hv with
   | @cons _ u2 _ _ r2 hv=>
   cases hv;refine⟨(F.1,u2) :: vs,.cons ⟨rfl,r2⟩ h1,fun j q Y O M=>?_⟩;cases j with
   | zero=>
    simp only[List.getElem?_cons_zero,Ch.injEq]at O M;subst O M;exact⟨o,_,n,ho,hc,hd,nN r1⟩
   | succ j=>
    rw[List.getElem?_cons_succ]at O M;exact h2 j q Y O M
 have ag:=hvs.length;have ad:=hP.length;rw[Aa]at hz;refine qZ (I.ok.hd hc) ho hT (by omega) (by omega) fun h' tk hd hk=>?_;have:=kC iz [];exact⟨.ref s.heap.objs.size,_,I.laid (t':=tk) (o:=.dK (cZ [] iz)) hk (Am _) (wP (by simp at this;omega) (beq_eq_false_iff_ne.mpr (BX (AB I.big))) (aHr hvs) hd),rfl,q _ (I.hok.fresh (Am _))⟩
end
def leK(a1 b1:Int)(c1:Str)(a2 b2:Int)(c2:Str):Bool:=if a1=a2 then(if b1=b2 then(if c1=c2 then true else !decide (c2.cps.toList < c1.cps.toList)) else decide (b1≤b2)) else decide (a1≤a2)
theorem aCR(l b:Ae)(n n2:Nat)(dd af:Option Ae)(sl ae:Array (Option Ad))(a1 J:Int)(F:Str)(a2 M:Int)(q:Str)(t1 t2 t3 Y Z O:Tok):
  Meets (Builtin.«tuple.__le__» ⟨[.ref l,.ref b],[]⟩)
   (fun _ R s=>s.heap.get? l=some { cls:=.type "tuple",dict:=dd,data:=.seq #[.int a1 t1,.int J t2,.str F t3] n,slots:=sl }∧s.heap.get? b=some { cls:=.type "tuple",dict:=af,data:=.seq #[.int a2 Y,.int M Z,.str q O] n2,slots:=ae }∧
    R (.ok (.ret (.bool (leK a1 J F a2 M q)))) s):=
 .of_wp fun prog w A R s h=>by
  obtain⟨hp,g,d,tk,os⟩:=s;obtain⟨hl,hb,h⟩:=h;have f2:=AutoSeq1.sub_tuple_tuple
  wp_walk using Fl hl,Fl hb
  show wpAny (model prog w) A.in1 (eqBool (Bt a1 t1) (Bt a2 Y)) _ _ _;obtain⟨e,he,hiff⟩:=HT.eqAt_int A.in1 ⟨hp,g,d,tk,os⟩ a1 t1 a2 Y;refine he prog w _ _ ?_;unfold leK at h;cases e with
  | false=>
   rw[Ia (fun z=>Ay (hiff.mpr z))]at h;refine BW (by decide) ?_;refine Ab (Cb ?_);refine Ab ?_;show wpAny _ _ (compareOp .LtE (Bt a1 t1) (Bt a2 Y)) _ _ _;refine le_int ?_
   wp_walk
   exact⟨_,rfl,h⟩
  | true=>
   rw[Ib (hiff.mp rfl)]at h;refine AQ (by decide) (Af ?_)
   wp_walk
   show wpAny (model prog w) A.in1 (eqBool (Bt J t2) (Bt M Z)) _ _ _;obtain⟨e,he,hiff⟩:=HT.eqAt_int A.in1 ⟨hp,g,d,tk,os⟩ J t2 M Z;refine he prog w _ _ ?_;cases e with
   | false=>
    rw[Ia (fun z=>Ay (hiff.mpr z))]at h;refine BW (by decide) ?_;refine Ab (Cb ?_);refine Ab ?_;show wpAny _ _ (compareOp .LtE (Bt J t2) (Bt M Z)) _ _ _;refine le_int ?_
    wp_walk
    exact⟨_,rfl,h⟩
   | true=>
    rw[Ib (hiff.mp rfl)]at h;refine AQ (by decide) (Af ?_)
    wp_walk
    show wpAny (model prog w) A.in1 (eqBool (Br F t3) (Br q O)) _ _ _;refine DY F t3 q O prog w _ _ ?_;cases hc:(F == q)with
    | false=>
     rw[Ia (fun z=>by rw[z,beq_self_eq_true]at hc;cases hc)]at h;refine BW (by decide) ?_;refine Ab (Cb ?_);refine Ab ?_;show wpAny _ _ (compareOp .LtE (Br F t3) (Br q O)) _ _ _;refine PySem.P.le_str ?_
     wp_walk
     exact⟨_,rfl,h⟩
    | true=>
     rw[Ib (eq_of_beq hc)]at h;refine AQ (by decide) (Af ?_)
     wp_walk
     exact⟨_,rfl,h⟩
inductive tM(x:V)(y:V)(H:Hp)(Q:VK):Prop
 | mk (p:_) (q:_) (a1:_) (b1:_) (c1:_) (a2:_) (b2:_) (c2:_) (q0:x=.ref p) (q1:y=.ref q) (q2:H p=some (.tup [.int a1,.int b1,.str c1])) (q3:H q=some (.tup [.int a2,.int b2,.str c2])) (q4:Q (.bl (leK a1 b1 c1 a2 b2 c2)) H):tM x y H Q
def aEi:V→V→Hp→VK→Prop:=fun x y H Q=>tM x y H Q
theorem aHs{X:Cx}(hu:X.A.units < cLine):OpR X (compareOp .LtE) aEi:=by
 intro gz s σ H x y v u Q I z J h;obtain⟨p,q,a1,b1,c1,a2,b2,c2,rfl,rfl,hp,hq,k⟩:=h;cases z;cases J;obtain⟨t1,t2,t3,hl⟩:=yO I hp;obtain⟨u1,u2,u3,hb⟩:=yO I hq;obtain⟨⟨cls,dd,data,sl⟩,ho,hc,n,hd⟩:=id hl;obtain⟨⟨cls2,dd2,data2,sl2⟩,ho2,hc2,n2,hd2⟩:=id hb;simp only at hc hd hc2 hd2;subst hc hd hc2 hd2;exact richCompare_meets_room (op:=.LtE) ⟨_,ho,rfl⟩ ⟨_,ho2,rfl⟩ PySem.F.slot_tuple_le PySem.F.entry_tuple_le (PySem.F.args_tuple_le_2 _ _) (aCR p q n n2 dd dd2 sl sl2 a1 b1 c1 a2 b2 c2 t1 t2 t3 u1 u2 u3)
  ⟨ho,ho2,⟨(fun x=>nomatch x),⟨.bl _,H,I,rfl,k⟩⟩⟩ hu
theorem aFO{X:Cx}{K:Ah}{o:Be}{to:TE}{name:Str}{jc jb:Pos}{T id:String}{r:V→List V→Hp→VK→Prop}(M:PlainAttrs T)(slot:Slot T name id)(F:typeOf (.builtin id)=pure (.type "method_descriptor"))(hm:MtR X id r)(ho:PE X o to)(J:X.K=K:=by rfl)
  (z:attributeBase o name X.env (eval o X.env)=eval o X.env:=by rfl) (q:(jc.endLine == jb.line)=true:=by rfl):PE X (.Call (.Attribute o name jc) [] [] jb) (aIe K T r to):=by
 subst J;exact aDC M slot F hm ho z q
open PySem.W in
section
variable{X:Cx}
def aCS(H:Hp)(r:Ae)(x:P3):Prop:=H r=some (.tup [.str x.1,.str x.2.1,.int x.2.2])
theorem aCT{out:List Ad}:∀{rs:List Ae},out.Perm (rs.map AA)→∃ q:List Ae,out=q.map AA∧q.Perm rs:=by
 intro rs h;generalize hm:rs.map AA=m at h
 induction h generalizing rs with
 | nil=>exact⟨[],rfl,by cases rs with | nil=>exact .refl _ | cons _ _=>simp at hm⟩
 | cons x _ J=>
  cases rs with
  | nil=>simp at hm
  | cons a r=>
   rw[Av]at hm;injection hm with h1 h2;obtain⟨r',e,p⟩:=J h2;exact⟨a :: r',by rw[e,← h1];rfl,p.cons a⟩
 | swap x y l=>
  cases rs with
  | nil=>simp at hm
  | cons a r=>
   cases r with
   | nil=>simp at hm
   | cons b r=>
    rw[Av,Av]at hm;injection hm with h1 h2;injection h2 with h2 h3;exact⟨b :: a :: r,by rw[← h1,← h2,← h3];rfl,.swap _ _ _⟩
 | trans _ _ z F=>
  obtain⟨r2,e2,p2⟩:=F hm;obtain⟨r1,e1,p1⟩:=z e2.symm;exact⟨r1,e1,p1.trans p2⟩
theorem y7{α β:Type}{R:α→β→Prop}{z as:List α}(h:z.Perm as):∀{bs:List β},By R as bs→∃ q,q.Perm bs∧By R z q:=by
 induction h with
 | nil=>intro bs p;exact⟨bs,.refl _,p⟩
 | cons x _ O=>
  intro bs p;cases p with
  | cons r t=>
   obtain⟨b',p1,p2⟩:=O t;exact⟨_ :: b',p1.cons _,.cons r p2⟩
 | swap x y l=>
  intro bs p;cases p with
  | cons r t=>
   cases t with
   | cons M t=>exact⟨_,.swap _ _ _,.cons M (.cons r t)⟩
 | trans _ _ F J=>
  intro bs p;obtain⟨b2,p2,q2⟩:=J p;obtain⟨b1,p1,q1⟩:=F q2;exact⟨b1,p1.trans p2,q1⟩
inductive jI(xs:List V)(H:Hp)(Q:VK):Prop
 | mk (p:Ae) (rs:List Ae) (T:List P3) (q0:xs=[.ref p]) (q1:H p=some (.lst (rs.map V.ref))) (q2:By (aCS H) rs T) (q3:T.length≤60) (q4:∀(l:Ae) (rs':List Ae) (R:List P3),H l=none→R.Perm T→By (aCS H) rs' R→Q (.ref l) (upd H l (.lst (rs'.map V.ref)))):jI xs H Q
def rA:List V→Hp→VK→Prop:=fun xs H Q=>jI xs H Q
theorem uO:eU X (.builtin "sorted") rA:=by
 intro gz s σ H xs us Q I r h;obtain⟨p,rs,T,rfl,hx,hP,h6,q⟩:=h;obtain⟨u,rfl,ru⟩:=eY r;cases ru;obtain⟨its,rv,pl,_⟩:=I.list (aY hx);have ak:=hP.length;have ai:=rv.length;rw[Aa]at ai;refine Dm Fx Fd Ff (F2 _) ?_;unfold Builtin.«sorted»;apply Ab (m:=checkCount "sorted" 1 1 _);apply Af;refine Ab (F0 pl.isList ?_ (aP (by omega)));have hk:∀ b u,s.heap.get? b=some u→((s.heap.push (seqObj "list" #[] 0)).update s.heap.objs.size (A6 (· ++ its.toArray))).get? b=some u:=fun b u e=>by
  rw[Bs _ _ _ _ (AB (Au e))];exact Aj _ e
 have ab:s.heap.objs.size < ((s.heap.push (seqObj "list" #[] 0)).update s.heap.objs.size (A6 (· ++ its.toArray))).objs.size:=by
  rw[Cn,Cz];exact Dn _
 dsimp only;generalize (s.heap.push (seqObj "list" #[] 0)).update s.heap.objs.size (A6 (· ++ its.toArray))=h1 at hk ab ⊢
 have Y:its.length≤sizeLine:=aP (by omega);apply Ab;refine Df ?_ Y;have J:(h1.push (seqObj "list" its.toArray 0)).get? h1.objs.size=some (seqObj "list" its.toArray 0):=Ax _ rfl;have ae:∀ b u,s.heap.get? b=some u→(h1.push (seqObj "list" its.toArray 0)).get? b=some u:=fun b u e=>Aj _ (hk b u e);have af:its=rs.map AA:=wV rv;subst af;have aj:∀ v∈rs.map AA,∃ x,pE s.heap v x:=fun v hv=>by
  obtain⟨r,hr,rfl⟩:=AR.mp hv;obtain⟨i,hi⟩:=Cq hr;obtain⟨hlt,_⟩:=At.mp hi;have hp:=Paired.at hP hi (Ai (by omega:i < T.length));exact⟨_,aD2.real I ⟨_,rfl,hp⟩ rfl⟩
 refine Ab (Bh (Ce slot_list_sort ⟨_,J,rfl⟩ entry_list_sort (tK J (fun v1 v2 bZ e s' Q' ks q'=>?_) Y fun out hp=>⟨_,rfl,?_⟩) (EF _)))
 ·have M:∀ v∈rs.map AA,∃ x,pE s'.heap v x:=fun v hv=>by
   obtain⟨x,hx⟩:=aj v hv;exact⟨x,hx.keep fun b o Z _=>ks b o (AB (Au (hk b o Z))) (ae b o Z)⟩
  refine aIt M fun fb=>q' _ fun x y hx hy C hC=>?_;have O:∀ z∈(pairsOf (rs.map AA)).toList,z.1∈rs.map AA:=fun z hz=>by
   rw[pairsOf_toList]at hz;exact(Dt hz).1
  obtain⟨x',hx'⟩:=M _ (O x hx);obtain⟨y',hy'⟩:=M _ (O y hy);exact ltP hx' hy' (hC _)
 ·refine Af ⟨_,rfl,?_⟩;have F:s.heap.objs.size≤h1.objs.size:=DM ab;obtain⟨rs',rfl,pr⟩:=aCT hp;obtain⟨R,p1,p2⟩:=y7 pr hP;obtain⟨e,he⟩:=Gz (vs:=rs.map AA) (out:=(rs'.map AA).toArray) J;refine⟨.ref h1.objs.size,_,I.laid (t':=s.toks) (o:=.lst (rs'.map V.ref)) (fun b u Z=>?_) F ⟨aP (by rw[Aa,pr.length_eq];omega),rs'.map AA,e,p7 rs',by rw[he] <;> rfl⟩,rfl,q _ rs' R (I.hok.fresh F) p1 p2⟩;have aa:=Au (hk b u Z);rw[Gs (AB aa) (by rw[Cz];exact Cr aa)];exact ae b u Z
theorem vN(hc:X.calm=true):eU X (.type "set") (fun xs H Q=>∃(p:Ae) (ss:List Str),xs=[.ref p]∧SqL X.K H p (ss.map V.str)∧ss.length≤1000∧∀ a,H a=none→Q (.ref a) (upd H a (yQ X.prog X.w a ss))):=by
 intro gz s σ H xs O Q I r h;obtain⟨p,ss,rfl,hx,h1000,q⟩:=h;obtain⟨u,rfl,ru⟩:=eY r;cases ru;obtain⟨its,rv,pl,_⟩:=I.list hx;have hl:=rv.length;rw[Aa]at hl;refine yP (val:=fun i=>ss.getD i "") (I.ok.hd hc) pl.isList (fun i v hv=>aD0 rv hv) (by rw[Aq,← hl];show _ < 4096;omega) fun h' tk z M=>?_;have F:its.toArray.size=ss.length:=by rw[Aq,hl]
 rw[F]at z;have J:∀ b u,s.heap.get? b=some u→h'.get? b=some u:=fun b u e=>M b u (Au e) e;have hn:H s.heap.objs.size=none:=I.hok.fresh (Am _);refine⟨.ref s.heap.objs.size,_,I.laid (t':=tk) (o:=yQ X.prog X.w s.heap.objs.size ss) J (Am _) ⟨z,?_,fun h1 h2 f g=>f.at g⟩,rfl,q _ hn⟩;obtain⟨o,_,_,_,e,_⟩:=z;exact⟨o,e⟩
theorem vO:eU X (.builtin "len") (fun xs H Q=>∃(p:Ae) (ss:List Str),xs=[.ref p]∧H p=some (yQ X.prog X.w p ss)∧ss.length≤1000∧Q (.int ((hV (fun i=>ss.getD i "") ss.length).length:Nat)) H):=by
 intro gz s σ H xs J Q I r h;obtain⟨p,ss,rfl,hx,h1000,q⟩:=h;obtain⟨u,rfl,ru⟩:=eY r;cases ru;obtain⟨⟨o,es,ep,t,ho,hex,hd,_,_,_,hf,hn,_⟩,_,_⟩:cS X.prog X.w H s.heap p (yQ X.prog X.w p ss):=I.hok p _ hx;have F:=pB (fun i=>ss.getD i "") ss.length;have z:es.size=(hV (fun i=>ss.getD i "") ss.length).length:=hn;exact call_len_set ho hex hd hf (by omega) ⟨.int _,H,I.tok _,⟨_,by rw[z]⟩,q⟩
end
theorem aGD{P:AC}{w:AT}{k:Key}{u:Ad}(h:(cF P w).is k u=true):cG (kV k) u:=by
 rcases dA (show oP k u=true from h)with⟨i,t,q,q2⟩ | ⟨x,t,q,q2⟩
 ·rw[q,q2];exact⟨t,rfl⟩
 ·rw[q,q2];exact⟨t,rfl⟩
theorem KV.at{iz:List (Key×V)}{vs:List (Key×Ad)}(r:KV iz vs):∀{i:Nat}{k:Key}{v:V},iz[i]?=some (k,v)→∃ u,vs[i]?=some (k,u)∧cG v u:=by
 unfold KV at r
 induction r with
 | nil=>intro i k v h;simp at h
 | @cons p q _ _ h t F=>
  intro i k v e;cases i with
  | zero=>
   have J:p=(k,v):=by simpa using e
   subst J;obtain⟨q1,q2⟩:=q;obtain⟨h1,h2⟩:=h;have z:k=q1:=h1;subst z;exact⟨q2,rfl,h2⟩
  | succ i=>exact F (by simpa using e)
section
variable{X:Cx}{gz:List (Ae×Obj)}{σ:St}{H:Hp}{s:Ag}{d:Ae}{iz:List (Key×V)}
theorem Inv.freeze(I:Inv X gz σ H s)(e:H d=some (.dK iz)):∃ od es ep,s.heap.get? d=some od∧od.ExactDict∧od.data=.dict es ep∧es.size=iz.length∧(d == sysModules)=false∧Inv X gz σ (upd H d (.frz od (.dK iz))) s:=by
 obtain⟨hz,hm,vs,rel,od,es,ep,ho,hex,hd,r⟩:cS X.prog X.w H s.heap d (.dK iz):=I.hok d _ e;have z:es.size=iz.length:=by
  have h1:=r.2.1.length;have h2:=congrArg Ca (rH rel);rw[Aa,Aa]at h2;rw[← Bq,h1,h2]
 exact⟨od,es,ep,ho,hex,hd,z,hm,I.write (x:=d) (e:=d) (t':=s.toks) (by rw[e];exact Dg) (.inl rfl) (fun _ _ _ q=>q) ⟨od,ho⟩ ⟨ho,hz,hm,vs,rel,od,es,ep,ho,hex,hd,r⟩⟩
theorem Inv.fast{od:Obj}{es:Array Gd}{ep:Nat}(I:Inv X gz σ H s)(e:H d=some (.frz od (.dK iz)))(hd:od.data=.dict es ep):s.heap.get? d=some od∧∃ vs,KV iz vs∧vs.length=iz.length∧s.heap.DictAt (cF X.prog X.w) d vs ep∧PySem.Pairs (cF X.prog X.w) es.toList vs:=by
 obtain⟨ho,hz,hm,vs,rel,od',es',ep',ho',hex,hd',r⟩:cS X.prog X.w H s.heap d (.frz od (.dK iz)):=I.hok d _ e;rw[ho]at ho';cases ho';rw[hd]at hd';cases hd';have h2:=congrArg Ca (rH rel);rw[Aa,Aa]at h2;exact⟨ho,vs,rel,h2.symm,⟨od,es,ho,hex,hd,r⟩,r.2.1⟩
end
def Itk(d:Ae)(od:Obj)(iz:List (Key×V)):It:=
 ⟨fun i H=>H d=some (.frz od (.dK iz))∧i < iz.length,fun i H x H'=>H'=H∧∃ k v,iz[i]?=some (k,v)∧x=kV k,fun i H=>H d=some (.frz od (.dK iz))∧iz.length≤i⟩
def Iti(d:Ae)(od:Obj)(iz:List (Key×V)):It:=
 ⟨fun i H=>H d=some (.frz od (.dK iz))∧i < iz.length,fun i H x H'=>∃ t k v,x=.ref t∧H t=none∧iz[i]?=some (k,v)∧H'=upd H t (.tup [kV k,v]),fun i H=>H d=some (.frz od (.dK iz))∧iz.length≤i⟩
theorem aCU{P:AC}{w:AT}{K:Ah}{tg:Be}(d it:Ae)(od:Obj)(iz:List (Key×V)){es:Array Gd}{ep:Nat}(hd:od.data=.dict es ep)(ab:es.size=iz.length):
  aAt P w K tg (Itk d od iz) [it] it (fun i h=>h.get? it=some (lZ d i es.size ep)) where
 mem:=by simp
 obj:=fun i h st b J=>by
  have e:b=it:=by simpa using J
  subst e;exact⟨_,st,fun v z=>by
   have z':FZ _=G8 v:=z;cases z'⟩
 keep:=fun i h h' st k=>k it (by simp) _ st
 item:=by
  intro X Y hw hK hc i gz s σ H E I O st Z;subst Y hw hK;obtain⟨hH,hi⟩:=Z;obtain⟨f0,f1,f2,f3,f4,f5⟩:=O it (by simp);obtain⟨ho,vs,rel,hvl,hat,hpr⟩:=I.fast hH hd;refine rF st ho hd (fun key q=>?_) fun z=>absurd z (by omega);have sb:=CH s.heap it (C7 (·.setIfInBounds 1 (rawInt ((i:Int) + 1))))
  have I1:=I.turned (t':=s.toks) (h':=s.heap.update it (C7 (·.setIfInBounds 1 (rawInt ((i:Int) + 1))))) (fun b o J e=>sb.extBut b o J e) f0 f1 f3 f4 f5
  have M:(s.heap.update it (C7 (·.setIfInBounds 1 (rawInt ((i:Int) + 1))))).get? it=some (lZ d (i + 1) es.size ep):=by
   rw[DR _ st (E8 (Fz rfl _))];simp[lZ,C7,rawInt]
  refine⟨key,rfl,aBo (s:={ s with heap:=s.heap.update it (C7 (·.setIfInBounds 1 (rawInt ((i:Int) + 1)))) }) (n:="dict_keyiterator") M rfl rfl (by decide) ?_⟩
  obtain⟨⟨k,v⟩,hk⟩:∃ p,iz[i]?=some p:=⟨iz[i],by simp[hi]⟩
  obtain⟨u,hu,_⟩:=KV.at rel hk;have F:i < es.size:=by omega
  obtain⟨hkk,_⟩:=hpr.get? (e:=es[i]) (by simp[F]) hu;have ek:es[i].key=key:=by
   rw[Bo F]at q;simpa using q
  rw[ek]at hkk;exact⟨kV k,H,I1,aGD hkk,⟨rfl,k,v,hk,rfl⟩,M,fun b J=>(O b J).1⟩
 done:=by
  intro X Y hw hK hc i gz s σ H E I O st Z;subst Y hw hK;obtain⟨hH,hi⟩:=Z;obtain⟨f0,f1,f2,f3,f4,f5⟩:=O it (by simp);obtain⟨ho,vs,rel,hvl,hat,hpr⟩:=I.fast hH hd;refine rF st ho hd (fun key q=>?_) fun _=>⟨I.ok.hd hc,fun h' k=>⟨rfl,I.turned (t':=s.toks) (fun b o J e=>k b o J e) f0 f1 f3 f4 f5⟩⟩
  rw[ES (by omega)]at q;cases q
 self:=fun _ i _ _ _ st h=>wpAny_pyIter_keyiter (n:=es.size) (ep:=ep) (d:=d) (i:=i) ⟨_,st,rfl,rfl⟩ h
theorem aA6{P:AC}{w:AT}{K:Ah}{xs:List Be}{kk:Nat}{tp:Pos}(d it:Ae)(od:Obj)(iz:List (Key×V)){es:Array Gd}{ep:Nat}(hd:od.data=.dict es ep):
  aAt P w K (.Tuple xs kk tp) (Iti d od iz) [it] it (fun i h=>∃ ok F,IsItemIter h it d i iz.length ep ok F) where
 mem:=by simp
 obj:=fun i h st b J=>by
  have e:b=it:=by simpa using J
  subst e;obtain⟨_,_,st⟩:=st;exact⟨_,st,fun v z=>by
   have z':FZ _=G8 v:=z;cases z'⟩
 keep:=fun i h h' st k=>by
  obtain⟨ok,F,st⟩:=st;exact⟨ok,F,k it (by simp) _ st⟩
 item:=by
  intro X Z hw hK hc i gz s σ H E I hf st hg;subst Z hw hK;obtain⟨hH,hi⟩:=hg;obtain⟨f0,f1,f2,f3,f4,f5⟩:=hf it (by simp);obtain⟨ho,vs,rel,hvl,hat,hpr⟩:=I.fast hH hd;obtain⟨ok,F,st⟩:=st;obtain⟨⟨k,v⟩,hk⟩:∃ p,iz[i]?=some p:=⟨iz[i],by simp[hi]⟩
  obtain⟨u,hu,ru⟩:=KV.at rel hk;refine wpAny_pyNext_items_item (kvs:=vs) (by rw[hvl];exact st) hat hu fun key h' M O hT ao ae=>⟨_,rfl,?_⟩
  refine wpAny_letOwnedTupleGo_items O fun q Y sb=>?_;have nT:H s.heap.objs.size=none:=I.hok.fresh (Am _);have nI:s.heap.objs.size≠it:=DL (Au st);have I1:Inv X gz σ H { s with heap:=q,toks:=s.toks }:=I.turned (fun b o J e=>sb.extBut b o J (ae b o J e)) f0 f1 f3 f4 f5;have ad:q.get? s.heap.objs.size=some { cls:=.type "tuple",data:=.seq #[key,u] }:=sb.extBut _ _ nI hT;have I2:Inv X gz σ (upd H s.heap.objs.size (.tup [kV k,v])) { s with heap:=q,toks:=s.toks }:=
   I1.track (I.fpOk (Am _) nT) ⟨aP (show 2≤1000000 by decide),[key,u],.cons (aGD M) (.cons ru .nil),_,ad,⟨rfl,_,rfl⟩,rfl⟩
  refine⟨.ref s.heap.objs.size,_,I2,rfl,⟨_,k,v,rfl,nT,hk,rfl⟩,⟨key,u,by rw[← hvl];exact Y⟩,fun c hc=>?_⟩;have e:c=it:=by simpa using hc
  rw[e,aG nI.symm];exact f0
 done:=by
  intro X Z hw hK hc i gz s σ H E I hf st hg;subst Z hw hK;obtain⟨hH,hi⟩:=hg;obtain⟨f0,f1,f2,f3,f4,f5⟩:=hf it (by simp);obtain⟨ho,vs,rel,hvl,hat,hpr⟩:=I.fast hH hd;obtain⟨ok,F,st⟩:=st;exact wpAny_pyNext_items_end (I.ok.hd hc) (kvs:=vs) (by rw[hvl];exact st) hat (CC (by omega)) fun h' eb=>⟨rfl,I.turned (t':=s.toks) (fun b o J e=>eb b o J e) f0 f1 f3 f4 f5⟩
 self:=fun _ i _ _ _ st h=>by
  obtain⟨ok,F,st⟩:=st;exact kcp_self st h
section
variable{X:Cx}{tg:Be}
def aIC(tl:TE):TI:=fun σ H R=>tl σ H fun x H1=>∃ d iz,x=.ref d∧H1 d=some (.dK iz)∧∀ od,R (Itk d od iz) (upd H1 d (.frz od (.dK iz)))
def aHt(tl:TE):TI:=fun σ H R=>tl σ H fun x H1=>∃ d iz,x=.ref d∧H1 d=some (.dK iz)∧∀ od,R (Iti d od iz) (upd H1 d (.frz od (.dK iz)))
theorem aFP{l:Be}{tl:TE}(hl:PE X l tl):PI X tg l (aIC tl):=by
 constructor;intro gz s σ H R I h;refine thn (hl gz s σ H _ I h) fun v s1 ⟨x,H1,z,F,J⟩=>?_;obtain⟨d,iz,e,hq,q⟩:=J;subst e;cases F;obtain⟨od,es,ep,ho,hex,hd,hel,hm,I2⟩:=z.freeze hq;refine aD7 hm ho hex hd ?_;refine⟨s1.heap.objs.size,[s1.heap.objs.size],_,_,_,rfl,I2.kept (t':=s1.toks) fun b o e=>Aj _ e,aCU d _ od iz hd hel,Ax _ rfl,fun b M=>?_,q od⟩;have e:b=s1.heap.objs.size:=by simpa using M
 subst e;exact I2.fpOk (Am _) (I2.hok.fresh (Am _))
theorem aEj{o:Be}{td:TE}{jc jb:Pos}{xs:List Be}{kk:Nat}{tp:Pos}(ho:PE X o td)(J:attributeBase o "items" X.env (eval o X.env)=eval o X.env:=by rfl)(z:(jc.endLine == jb.line)=true:=by rfl):
  PI X (.Tuple xs kk tp) (.Call (.Attribute o "items" jc) [] [] jb) (aHt td):=by
 constructor;intro gz s σ H R I h;refine wpAny_Call_method0_late J z (thn (ho gz s σ H _ I h) fun v s1 ⟨x,H1,Y,Z,d,iz,ex,O,q1⟩=>?_);subst ex;obtain rfl:v=AA d:=Z;obtain⟨t1,t2,_⟩:=aAM Y (.inl ⟨iz,.inl O⟩);obtain⟨zz,hds,vs,rel,dd⟩:=aBz Y.hok O;refine⟨"dict","dict.items",Ev,PySem.F.slot_dict_items,PySem.F.type_dict_items,t1,t2,CY rfl (PySem.evalArgs_none ?_)⟩;refine F1 PySem.F.slot_dict_items dd.typeIs PySem.F.entry_dict_items (PySem.F.args_dict_items_1 _) (meets_dict_items (cF X.prog X.w) d hds) ⟨⟨vs,dd⟩,?_⟩;obtain⟨od,es,ep,ho,hex,hd,hel,hm,I2⟩:=Y.freeze O;have M:Inv X gz σ (upd H1 d (.frz od (.dK iz))) { s1 with heap:=s1.heap.push { cls:=.type "dict_items",data:=.fields #[.ref d] },toks:=s1.toks }:=I2.kept fun b o e=>Aj _ e;obtain⟨ho3,vs3,rel3,hvl3,hat3,hpr3⟩:=M.fast aA hd;have q:Heap.IsItemsView (s1.heap.push { cls:=.type "dict_items",data:=.fields #[.ref d] }) s1.heap.objs.size d:=⟨_,Ax _ rfl,rfl,rfl⟩
 refine wpAny_pyIter_items (s:={ s1 with heap:=s1.heap.push { cls:=.type "dict_items",data:=.fields #[.ref d] },toks:=s1.toks }) q hat3 ?_;refine⟨_,[(s1.heap.push { cls:=.type "dict_items",data:=.fields #[.ref d] }).objs.size],_,_,_,rfl,M.kept (t':=s1.toks) fun b o e=>Aj _ e,aA6 d _ od iz hd,⟨.none,.none,by rw[← hvl3];exact Ax _ rfl⟩,fun b hb=>?_,q1 od⟩;have e:b=(s1.heap.push { cls:=.type "dict_items",data:=.fields #[.ref d] }).objs.size:=by simpa using hb
 subst e;exact M.fpOk (Am _) (M.hok.fresh (Am _))
theorem aCV{d:Ae}{od:Obj}{iz:List (Key×V)}{g:TG}{O:TT}{te:TE}{J:St}{H₀:Hp}{Q:VK}(q:Nat→List V→St→Hp→Prop)(Y:q 0 [] J H₀)(hn:iz.length≤sizeLine)(z:∀ i ys σ H,q i ys σ H→ys.length≤i)
  (hl:∀ i ys σ H,q i ys σ H→H d=some (.frz od (.dK iz)))
  (hs:∀ i k x ys σ H,iz[i]?=some (k,x)→q i ys σ H→g (kV k) σ H fun F H2=>O F H2 fun b M=>if b=true then te F M fun v Z=>q (i + 1) (ys ++ [v]) F Z else q (i + 1) ys F M)
  (hd:∀ ys σ H,q iz.length ys σ H→∀ D,H D=none→Q (.ref D) (upd H D (.lst ys))):qK (Itk d od iz) g O te J H₀ Q:=
 o0 iz.length q Y hn z (fun i ys σ H h p=>⟨hl i ys σ H p,h⟩) (fun ys σ H p=>⟨hl _ ys σ H p,Am _⟩) (fun i ys σ H v H' hi p y=>by
  obtain⟨e,k,x,hk,e2⟩:=y;subst e e2;exact hs i k x ys σ _ hk p) hd
theorem aA7{d:Ae}{od:Obj}{iz:List (Key×V)}{g:TG}{O:TT}{te:TE}{J:St}{H₀:Hp}{Q:VK}(q:Nat→List V→St→Hp→Prop)(Y:q 0 [] J H₀)(hn:iz.length≤sizeLine)(z:∀ i ys σ H,q i ys σ H→ys.length≤i)
  (hl:∀ i ys σ H,q i ys σ H→H d=some (.frz od (.dK iz)))
  (hs:∀ i k x t ys σ H,iz[i]?=some (k,x)→H t=none→q i ys σ H→g (.ref t) σ (upd H t (.tup [kV k,x])) fun F H2=>O F H2 fun b M=>if b=true then te F M fun v Z=>q (i + 1) (ys ++ [v]) F Z else q (i + 1) ys F M)
  (hd:∀ ys σ H,q iz.length ys σ H→∀ D,H D=none→Q (.ref D) (upd H D (.lst ys))):qK (Iti d od iz) g O te J H₀ Q:=
 o0 iz.length q Y hn z (fun i ys σ H h p=>⟨hl i ys σ H p,h⟩) (fun ys σ H p=>⟨hl _ ys σ H p,Am _⟩) (fun i ys σ H v H' hi p y=>by
  obtain⟨t,k,x,e,ht,hk,e2⟩:=y;subst e e2;exact hs i k x t ys σ _ hk ht p) hd
end
def ltS(x y:Str):Bool:=if x == y then false else decide (x.cps.toList < y.cps.toList)
inductive aGE(h:Bi)(v:Ad)(z:Str):Prop
 | mk (t:_) (u:_) (a:_) (b:_) (q0:v=.ref t) (q1:EH h t #[.str z u,a,b]):aGE h v z
def NmT(h:Bi)(v:Ad)(z:Str):Prop:=aGE h v z
theorem NmT.keep{h h':Bi}{v:Ad}{z:Str}(p:NmT h v z)(k:∀ b o,h.get? b=some o→o.cls=.type "tuple"→h'.get? b=some o):NmT h' v z:=by
 obtain⟨t,u,a,b,e,o,ho,hc,r⟩:=p;exact⟨t,u,a,b,e,o,k t o ho hc,hc,r⟩
section
variable{prog:AC}{w:AT}{A:AU}{E:Ad→Ag→Prop}{s:Ag}
theorem ltN{F:Bool}{M J:Ad}{x y:Str}{C:Bool→Ag→Prop}(q:NmT s.heap M x)(z:NmT s.heap J y)(hs:x=y→M=J)(h:C (ltS x y) s):wpAny (model prog w) A (keyLt' (tuples' F) M J) C E s:=by
 unfold ltS at h;obtain⟨p1,t1,a1,b1,rfl,q⟩:=q;by_cases e:x=y
 ·subst e;have Y:=hs rfl;subst Y;rw[beq_self_eq_true,Ib rfl]at h;show wpAny _ _ (B6 (.ref p1) >>= _) _ _ _
  iterate 2 refine Ab (dR q ?_)
  dsimp only[Ej,DS,Ey];rw[E4];refine Ab ?_;rw[B5];refine Ab (Ab (Et _ prog w _ _ ?_));refine AQ (by decide) (Af ?_);dsimp only;rw[B5];refine Ab (Ab (Et _ prog w _ _ ?_));refine AQ (by decide) (Af ?_);dsimp only;rw[B5];refine Ab (Ab (Et _ prog w _ _ ?_));refine AQ (by decide) (Af ?_);dsimp only;rw[Fa];exact Af (Af h)
 ·obtain⟨p2,u1,a2,b2,rfl,z⟩:=z;have O:(x == y)=false:=by simpa using e
  rw[O]at h;show wpAny _ _ (B6 (.ref p1) >>= _) _ _ _;refine Ab (dR q ?_);refine Ab (dR z ?_);dsimp only[Ej,DS,Ey];rw[E4];refine Ab ?_;rw[B5];refine Ab (Ab (DY _ _ _ _ prog w _ _ ?_));rw[O];refine BW (by decide) ?_;refine Ab ?_;show wpAny _ _ (oneLt' (F && 0 == 0) (Br x t1) (Br y u1)) _ _ _;cases F
  ·exact wU (Af (Af (Af h)))
  ·exact oneLt_str (Af (Af (Af h)))
theorem aID{ks:List Ad}{Q:De→Ag→Prop}(Z:∀ v∈ks,∃ z,NmT s.heap v z)(h:∀ b,Q (tuples' b) s):wpAny (model prog w) A (keyKind' ks.toArray) Q E s:=by
 rw[keyKind'_eq,Ci];refine Ab ?_;rw[← bind_pure_comp];refine Ab (i5 (R:=fun _ r=>∃ a u,r=some (Br a u)) ks (fun v hv=>?_) fun rs hl J=>Af ?_)
 ·obtain⟨z,t,u,a,b,rfl,ht⟩:=Z v hv;refine⟨some (.str z u),⟨z,u,rfl⟩,fun Q' q=>?_⟩;rw[GY];refine Ab (Cj ht.typeIs ?_);refine AQ (by decide) ?_;refine Ab (dR ht ?_);exact Af q
 ·have F:(rs.toArray.all fun x=>x.isSome)=true:=by
   rw[FT,A5];intro r hr;obtain⟨v,_,a,u,rfl⟩:=J r hr;rfl
  refine BW (by rw[F];rfl) ?_;refine Ab (Cb ?_);rw[oneTypeOnly'_eq,Ci]
  iterate 2 refine Ab ?_
  rw[← bind_pure_comp];refine Ab (i5 (R:=fun _ r=>r=A9 "str") _ (fun v hv=>?_) fun ts ad Y=>Af ?_)
  ·have M:some v∈rs:=by simpa using hv
   obtain⟨_,_,a,u,e⟩:=J _ M;cases e;exact⟨_,rfl,fun Q' q=>Cj (FU s a u) q⟩
  ·cases O:ts.toArray[0]? with
   | none=>exact Af (Af (h _))
   | some t=>exact Af (Af (h _))
def fT(zs:List Str):List Nat:=(aD1 (fun i j=>ltS (zs.getD i "") (zs.getD j "")) (kas_sort zs.length)).toList
theorem gQ(zs:List Str)(h:0 < zs.length):(fT zs).Perm (AV zs.length):=by
 have:=i4.run (fun i j=>ltS (zs.getD i "") (zs.getD j "")) (vI h);exact Bc.mp this
theorem aIE{b:Bool}{vs:List Ad}{zs:List Str}{Q:Unit×Bk→Ag→Prop}(hl:vs.length=zs.length)(hn:zs.Nodup)(h2:2≤vs.length)(J:vs.length < 64)(O:∀ i,i < vs.length→NmT s.heap (vs.getD i .none) (zs.getD i ""))
  (h:∀ st:Bk,(arrOf st).map (·.2)=((fT zs).map fun i=>vs.getD i .none).toArray→failedOf st=none→Q ((),st) s):wpAny (model prog w) A (sortRuns'.run (EI (tuples' b) (vs.toArray.zip vs.toArray) #[] 7 none)) Q E s:=by
 have hz:(vs.toArray.zip vs.toArray).size=vs.length:=by simp
 have F:=kas_runs (prog:=prog) (w:=w) (A:=A) (E:=E) (κ:=tuples' b) (it:=vs.toArray.zip vs.toArray) (n:=vs.length) (s:=s) (Q:=fun u st s'=>s'=s∧Q (u,st) s) (G:=fun p s'=>p.toList=fT zs∧s'=s) h2 J (fun p' M s' ad ha Y Z=>?_)
  (i4.wpO (n:=vs.length) (P:=Pm vs.length) (o:=fun i j=>ltS (zs.getD i "") (zs.getD j "")) (fun i j C hi hj hC=>?_) (vI (by omega)) ⟨by unfold fT;rw[hl],rfl⟩)
 ·have e1:kas_st (tuples' b) (vs.toArray.zip vs.toArray) (AV vs.length).toArray=EI (tuples' b) (vs.toArray.zip vs.toArray) #[] 7 none:=by
   unfold kas_st;have:=kas_range (vs.toArray.zip vs.toArray);rw[hz]at this;rw[this]
  rw[e1]at F;exact Ck F (fun r s' z=>by
   obtain⟨rfl,q⟩:=z;exact q) fun e s' z=>z
 ·obtain⟨hp,rfl⟩:=Z;refine⟨rfl,h M ?_ Y⟩;rw[ha];apply Array.toList_inj.mp;rw[Array.map_map,FQ,hp];show _=(fT zs).map _;refine Fq fun i _=>?_;show(kas_item (pairsOf vs) i).2=_;rw[Hc]
 ·unfold kas_cmp;show wpAny _ _ (keyLt' _ (kas_item (pairsOf vs) i).1 (kas_item (pairsOf vs) j).1) _ _ _;rw[Hc,Hc];refine ltN (O i hi) (O j hj) (fun e=>?_) hC;rw[A1,A1,Ai (by omega:i < zs.length),Ai (by omega:j < zs.length)]at e;have:i=j:=(FS hn).mp e;rw[this]
theorem aA8{a:Ae}{vs:List Ad}{zs:List Str}{n:Nat}{P:FJ→Ag→Prop}(gA:s.heap.get? a=some (seqObj "list" vs.toArray n))(hl:vs.length=zs.length)(hn:zs.Nodup)(h2:2≤vs.length)(ae:vs.length < 64)(hk:∀ i,i < vs.length→NmT s.heap (vs.getD i .none) (zs.getD i ""))
  (h:∀(h':Bi) (e:Nat),(∀ b u,b≠a→s.heap.get? b=some u→h'.get? b=some u)→h'.get? a=some (seqObj "list" ((fT zs).map fun i=>vs.getD i .none).toArray e)→P (.done (.ret .none)) { s with heap:=h' }):
  wpAny (model prog w) A (Builtin.«list.sort» ⟨[.ref a],[]⟩) P E s:=by
 have zz:∀ m,m≤vs.length→m≤sizeLine:=fun m hm=>aP (by omega);rw[list_sort_plain];refine Ab (Fe gA rfl ?_);refine Ab (CF gA rfl ?_ (by rw[Aq];exact zz _ (Am _)) (A0 _));have F:=get?_update_seq gA (fun _=>#[]);generalize (if ((#[]:Array Ad).size == vs.toArray.size)=true then n else n + 1)=e1 at F;have M:∀ b u,b≠a→s.heap.get? b=some u→(s.heap.update a (A6 fun _=>#[])).get? b=some u:=fun b u nb e=>by
  rw[Bs _ _ _ _ nb];exact e
 dsimp only;generalize s.heap.update a (A6 fun _=>#[])=h1 at F M ⊢;refine Ab (Ee F rfl ?_);refine Ab (Gp ?_ (by simpa using zz _ (Am _)));refine Ab (Df ?_ (A0 _));refine Bh ?_;have J:((h1.push { cls:=A9 "tuple",data:=CT vs.toArray.toList.toArray }).push { cls:=A9 "list",data:=CT ([]:List Ad).toArray }).get? a=some (seqObj "list" #[] e1):=Aj _ (Aj _ F);have q:∀ b u,b≠a→s.heap.get? b=some u→((h1.push { cls:=A9 "tuple",data:=CT vs.toArray.toList.toArray }).push { cls:=A9 "list",data:=CT ([]:List Ad).toArray }).get? b=some u:=fun b u nb e=>Aj _ (Aj _ (M b u nb e));dsimp only;generalize (h1.push { cls:=A9 "tuple",data:=CT vs.toArray.toList.toArray }).push { cls:=A9 "list",data:=CT ([]:List Ad).toArray }=h3 at J q ⊢;have Z:∀ i,i < vs.length→NmT h3 (vs.getD i .none) (zs.getD i ""):=fun i hi=>(hk i hi).keep fun b o e hc=>q b o (fun z=>by
  rw[z,gA]at e;cases e;have ab:(A9 "list")=A9 "tuple":=hc;injection ab with z2;exact absurd z2 (by decide)) e
 have Y:¬ vs.toArray.size < 2:=by simpa using Nat.not_lt.mpr h2
 rw[Ia Y,Ia Y];refine Ab (aID (fun v hv=>?_) fun b=>?_)
 ·obtain⟨i,hi,rfl⟩:=DZ.mp hv;have:=Z i hi;rw[A1,Ai hi]at this;exact⟨_,this⟩
 ·refine Ab (aIE hl hn h2 ae Z fun st O hf=>?_);dsimp only;refine Ab (Ee J rfl ?_);have ad:((fT zs).map fun i=>vs.getD i .none).length=vs.length:=by rw[Aa,(gQ zs (by omega)).length_eq,C9,hl]
  refine Ab (CF J rfl ?_ (A0 _) (by show((arrOf st).map (·.2)).size≤_;rw[O,Aq,ad];exact CM (zz _ (Am _))))
  rw[hf];refine AQ (by simp) ?_;obtain⟨e3,gA3⟩:∃ e3,(h3.update a (A6 fun _=>(arrOf st).map (·.2))).get? a=some (seqObj "list" ((arrOf st).map (·.2)) e3):=⟨_,get?_update_seq J (fun _=>(arrOf st).map (·.2))⟩
  refine Af (h _ e3 (fun b u nb e=>?_) (by rw[← O];exact gA3));rw[Bs _ _ _ _ nb];exact q b u nb e
end
section
variable{X:Cx}
inductive aGF(H:Hp)(r:Ae)(z:Str):Prop
 | mk (a:_) (b:_) (q0:H r=some (.tup [.str z,a,b])):aGF H r z
def NmH(H:Hp)(r:Ae)(z:Str):Prop:=aGF H r z
theorem vP{rs:List Ae}:∀{q:List Nat},(∀ i∈q,i < rs.length)→(q.map fun i=>(rs.map AA).getD i .none)=(q.map fun i=>rs.getD i 0).map AA
 | [],_=>rfl
 | i :: q,h=>by
  have hi:=h i (by simp);rw[Av,Av,Av,vP fun j z=>h j (by simp[z])];congr 1;rw[A1,A1,An,Ai hi];rfl
theorem aCW{z:Str}:fT [z]=[0]:=by
 have:=gQ [z] (by simp);exact List.perm_singleton.mp this
inductive kG(xs:List V)(H:Hp)(Q:VK):Prop
 | mk (p:Ae) (rs:List Ae) (zs:List Str) (q0:xs=[.ref p]) (q1:H p=some (.lst (rs.map V.ref))) (q2:By (NmH H) rs zs) (q3:zs.Nodup) (q4:1≤zs.length) (q5:zs.length < 64) (q6:∀(l:Ae),H l=none→Q (.ref l) (upd H l (.lst (((fT zs).map fun i=>rs.getD i 0).map V.ref)))):kG xs H Q
def tN:List V→Hp→VK→Prop:=fun xs H Q=>kG xs H Q
theorem pG:eU X (.builtin "sorted") tN:=by
 intro gz s σ H xs us Q I r h;obtain⟨p,rs,zs,rfl,hx,hP,hn,h1,h64,q⟩:=h;obtain⟨u,rfl,ru⟩:=eY r;cases ru;obtain⟨its,rv,pl,_⟩:=I.list (aY hx);have Y:=hP.length;have am:=rv.length;rw[Aa]at am;refine Dm Fx Fd Ff (F2 _) ?_;unfold Builtin.«sorted»;apply Ab (m:=checkCount "sorted" 1 1 _);apply Af;refine Ab (F0 pl.isList ?_ (aP (by omega)));have hk:∀ b u,s.heap.get? b=some u→((s.heap.push (seqObj "list" #[] 0)).update s.heap.objs.size (A6 (· ++ its.toArray))).get? b=some u:=fun b u e=>by
  rw[Bs _ _ _ _ (AB (Au e))];exact Aj _ e
 have ad:s.heap.objs.size < ((s.heap.push (seqObj "list" #[] 0)).update s.heap.objs.size (A6 (· ++ its.toArray))).objs.size:=by
  rw[Cn,Cz];exact Dn _
 dsimp only;generalize (s.heap.push (seqObj "list" #[] 0)).update s.heap.objs.size (A6 (· ++ its.toArray))=z at hk ad ⊢
 have aa:its.length≤sizeLine:=aP (by omega);apply Ab;refine Df ?_ aa;have F:(z.push (seqObj "list" its.toArray 0)).get? z.objs.size=some (seqObj "list" its.toArray 0):=Ax _ rfl;have ae:∀ b u,s.heap.get? b=some u→(z.push (seqObj "list" its.toArray 0)).get? b=some u:=fun b u e=>Aj _ (hk b u e);have ag:its=rs.map AA:=wV rv;subst ag;have hN:∀ i,i < rs.length→NmT (z.push (seqObj "list" (rs.map AA).toArray 0)) ((rs.map AA).getD i .none) (zs.getD i ""):=fun i hi=>by
  obtain⟨a,b,hp⟩:=Paired.at hP (Ai hi) (Ai (by omega:i < zs.length));obtain⟨_,its',rv',ht⟩:cS X.prog X.w H s.heap _ (.tup _):=I.hok _ _ hp;rw[A1,A1,An,Ai hi,Ai (by omega:i < zs.length)];cases rv' with
  | cons r1 t1=>
   cases t1 with
   | cons r2 t2=>
    cases t2 with
    | cons r3 t3=>
     cases t3;obtain⟨u,rfl⟩:=r1;obtain⟨o,ho,hc,_⟩:=ht;exact⟨_,u,_,_,rfl,o,ae _ _ ho,hc⟩
 have O:s.heap.objs.size≤z.objs.size:=DM ad;have Z:=gQ zs (by omega);have ap:(fT zs).length=zs.length:=by rw[Z.length_eq,C9]
 have ak:((fT zs).map fun i=>(rs.map AA).getD i .none)=((fT zs).map fun i=>rs.getD i 0).map AA:=vP fun i hi=>by
  have:=Z.mem_iff.mp hi;rw[BU]at this;omega
 have M:∀(h':Bi) (e:Nat),(∀ b u,b≠z.objs.size→(z.push (seqObj "list" (rs.map AA).toArray 0)).get? b=some u→h'.get? b=some u)→h'.get? z.objs.size=some (seqObj "list" (((fT zs).map fun i=>rs.getD i 0).map AA).toArray e)→EP X gz σ Q (.ref z.objs.size) { s with heap:=h',toks:=s.toks }:=fun h' e k' he=>
  ⟨.ref z.objs.size,_,I.laid (t':=s.toks) (o:=.lst (((fT zs).map fun i=>rs.getD i 0).map V.ref)) (fun b u eb=>k' b u (AB (Au (hk b u eb))) (ae b u eb)) O ⟨aP (by rw[Aa,Aa];omega),_,e,p7 _,by rw[he] <;> rfl⟩,rfl,q _ (I.hok.fresh O)⟩
 by_cases h2:2≤rs.length
 ·refine Ab (Bh (Ce slot_list_sort ⟨_,F,rfl⟩ entry_list_sort (aA8 F (by rw[Aa];omega) hn (by rw[Aa];omega) (by rw[Aa];omega) (fun i hi=>hN i (by rw[Aa]at hi;exact hi)) fun h' e k' he=>⟨_,rfl,?_⟩) (EF _)));exact Af ⟨_,rfl,M h' e k' (by rw[← ak];exact he)⟩
 ·obtain⟨J,rfl⟩:∃ J,rs=[J]:=by
   cases rs with
   | nil=>simp at Y;omega
   | cons J t=>cases t with
    | nil=>exact⟨J,rfl⟩
    | cons _ _=>simp at h2
  obtain⟨z0,rfl⟩:∃ z0,zs=[z0]:=by
   cases zs with
   | nil=>simp at h1
   | cons J t=>cases t with
    | nil=>exact⟨J,rfl⟩
    | cons _ _=>simp at Y
  refine Ab (Bh (Ce slot_list_sort ⟨_,F,rfl⟩ entry_list_sort (tK F (fun v1 v2 bZ e=>by simp at e) aa fun out hp=>⟨_,rfl,?_⟩) (EF _)));have ho:out=[AA J]:=List.perm_singleton.mp hp;subst ho;obtain⟨e,he⟩:=Gz (vs:=[J].map AA) (out:=[AA J].toArray) F;refine Af ⟨_,rfl,M _ e (fun b u nb eb=>?_) ?_⟩
  ·have aj:=Au eb;rw[Gs nb aj];exact eb
  ·rw[aCW];exact he
end
section
variable{X:Cx}
inductive mH(xs:List V)(H:Hp)(Q:VK):Prop
 | mk (i:Int) (q0:xs=[.int i]) (q1:i.natAbs.log2 < 1920) (q2:Q (.str (toString i:String)) H):mH xs H Q
def wY:List V→Hp→VK→Prop:=fun xs H Q=>mH xs H Q
theorem lE:eU X (.builtin "repr") wY:=by
 intro gz s σ H xs z Q I r h;obtain⟨i,rfl,hs,q⟩:=h;obtain⟨u,rfl,ru⟩:=eY r;obtain⟨t,rfl⟩:=ru;exact P.repr_of_int hs ⟨.str _,H,I.tok _,⟨_,rfl⟩,q⟩
end
end L2
namespace K09
open PySem L2
theorem nW{a b:Str}{X Y:Prop}(n:a≠b)(h:Y):if decide (V.str a=V.str b)=true then X else Y:=cR (fun g=>absurd (V.str.inj (Ie g)) n) fun _=>h
theorem yW{a:Str}{X Y:Prop}(h:X):if decide (V.str a=V.str a)=true then X else Y:=cR (fun _=>h) fun g=>absurd (Ic rfl) g
theorem zZ1{q:V}:[q].length≤sizeLine:=aP (show 1≤1000000 by decide)
theorem zZ2{q a1:V}:[q,a1].length≤sizeLine:=aP (show 2≤1000000 by decide)
theorem zZ3{q a1 a2:V}:[q,a1,a2].length≤sizeLine:=aP (show 3≤1000000 by decide)
theorem zZ4{q a1 a2 a3:V}:[q,a1,a2,a3].length≤sizeLine:=aP (show 4≤1000000 by decide)
theorem zZ5{q a1 a2 a3 a4:V}:[q,a1,a2,a3,a4].length≤sizeLine:=aP (show 5≤1000000 by decide)
theorem zZ6{q a1 a2 a3 a4 a5:V}:[q,a1,a2,a3,a4,a5].length≤sizeLine:=aP (show 6≤1000000 by decide)
theorem zZ8{q a1 a2 a3 a4 a5 a6 a7:V}:[q,a1,a2,a3,a4,a5,a6,a7].length≤sizeLine:=aP (show 8≤1000000 by decide)
theorem aJn{z a1 a2 a3 a4 a5 a6 a7 a8 a9 a10 q:V}:[z,a1,a2,a3,a4,a5,a6,a7,a8,a9,a10,q].length≤sizeLine:=aP (show 12≤1000000 by decide)
def Cl(P:AC)(w:AT)(K:Ah)(mg:Str→Option Ad)(base:Bi)(k:Nat)(n:Str)(ps:List Str)(sp:Sp):Prop:=∃ f fd,cP P w K mg base CX0 k f fd ps sp∧mg n=some (.ref f)∧AO K (.ref f)=true∧d9 K fd ps []
theorem cM{X:Cx}{k:Nat}{ps:List Str}{sp:Sp}{x:Str}{p pos:Pos}{e:Be}{es:List Be}{t:TA}(c:Cl X.prog X.w X.K X.mg X.base k x ps sp)(M:dG k X.A)(ha:PA X (e::es) t)(J:Gl X x:=by rfl)(z:(x==("__debug__":Str))=false:=by decide)(O:starEach (e::es) X.env=(false,eval e X.env)::starEach es X.env:=by rfl)(q:(backTo pos (starEach es X.env)).any (·.1)=false:=by rfl):PE X (.Call (.Name x p) (e::es) [] pos) (aGu sp [] E0 t):=by
 obtain⟨f,fd,F,hm,hk,hb⟩:=c;exact cN F M J hm hk hb .nil dJ ha z O q
abbrev Mnd:=List (Key×V)
def nxt(m:Mnd)(h:Str):Option Str:=match bS m (Ac h)with
 | some (.str o)=>some o
 | _=>none
inductive Ends(m:Mnd):Str→List Str→Prop
 | stop {h:Str} (e:nxt m h=none):Ends m h [h]
 | on {h o:Str} {l:List Str} (e:nxt m h=some o) (r:Ends m o l):Ends m h (h :: l)
theorem Ends.uniq{m:Mnd}{h:Str}{l z:List Str}(a:Ends m h l)(b:Ends m h z):l=z:=by
 induction a generalizing z with
 | stop e=>
  cases b with
  | stop _=>rfl
  | on q _=>rw[e]at q;cases q
 | on e _ J=>
  cases b with
  | stop q=>rw[e]at q;cases q
  | on q F=>
   rw[e]at q;cases q;rw[J F]
theorem Ends.from{m:Mnd}{h x:Str}{l:List Str}(a:Ends m h l)(F:x∈l):∃ p r,l=p ++ r∧Ends m x r:=by
 induction a with
 | @stop h e=>
  rw[AF.mp F];exact⟨[],[h],rfl,.stop e⟩
 | @on h o l e r J=>
  rcases Ak.mp F with rfl | F
  ·exact⟨[],x :: l,rfl,.on e r⟩
  ·obtain⟨p,q,rfl,z⟩:=J F;exact⟨h :: p,q,rfl,z⟩
theorem Ends.nodup{m:Mnd}{h:Str}{l:List Str}(a:Ends m h l):l.Nodup:=by
 induction a with
 | stop _=>exact AZ.mpr ⟨by simp,DF⟩
 | @on h o l e r J=>
  refine AZ.mpr ⟨fun F=>?_,J⟩;obtain⟨p,q,rfl,z⟩:=r.from F;have:=congrArg Ca (z.uniq (.on e r));simp at this;omega
theorem aEk:∀{l k:List Str},l.Nodup→(∀ x∈l,x∈k)→l.length≤k.length
 | [],k,_,_=>A0 _
 | a :: l,k,hn,hs=>by
  obtain⟨h1,h2⟩:=AZ.mp hn;have ha:=hs a Al;have:=aEk (k:=k.erase a) h2 fun x q=>(List.mem_erase_of_ne (fun e=>h1 (by rw[← e];exact q))).mpr (hs x (Ap _ q));rw[List.length_erase_of_mem ha]at this;have:0 < k.length:=List.length_pos_of_mem ha;rw[AK];omega
theorem Ends.keys{m:Mnd}{h:Str}{l:List Str}(a:Ends m h l):∃ r x,l=r ++ [x]∧∀ y∈r,y∈m.filterMap fun p=>match p.1 with | .inr z=>some z | _=>none:=by
 induction a with
 | @stop h e=>exact⟨[],h,rfl,fun y F=>by simp at F⟩
 | @on h o l e r J=>
  obtain⟨q,x,rfl,hq⟩:=J;refine⟨h :: q,x,rfl,fun y F=>?_⟩;rcases Ak.mp F with rfl | F
  ·unfold nxt at e;cases hv:bS m (Ac y)with
   | none=>rw[hv]at e;cases e
   | some v=>
    obtain⟨p,hp,e2⟩:=AR.mp (aFC hv);exact Fu.mpr ⟨p,hp,by rw[e2]⟩
  ·exact hq y F
theorem Ends.len{m:Mnd}{h:Str}{l:List Str}(a:Ends m h l):l.length≤m.length + 1:=by
 obtain⟨r,x,rfl,hr⟩:=a.keys;have h1:=aEk (Bn.mp a.nodup).1 hr;have h2:=List.length_filterMap_le (fun p:Key×V=>match p.1 with | .inr z=>some z | _=>none) m;simp;omega
theorem aBQ(m:Mnd)(h o x:Str):nxt (bT m (Ac h) (.str o)) x=if x=h then some o else nxt m x:=by
 unfold nxt;rw[eB];by_cases e:x=h
 ·subst e;rw[Ib rfl,Ib rfl]
 ·rw[Ia e,Ia fun z=>e (Ac.inj z)]
theorem kH(m:Mnd)(k j:Key):bS (cA m k) j=if j=k then none else bS m j:=by
 induction m with
 | nil=>split <;> rfl
 | cons p m F=>
  by_cases e:p.1=k
  ·rw[j6 e,F];by_cases q:j=k
   ·rw[Ib q,Ib q]
   ·rw[Ia q,Ia q,cK fun z=>q (z.symm.trans e)]
  ·rw[j7 e];by_cases q:p.1=j
   ·rw[cU q,cU q,Ia fun z=>e (q.trans z)]
   ·rw[cK q,cK q,F]
theorem y8(m:Mnd)(h x:Str):nxt (cA m (Ac h)) x=if x=h then none else nxt m x:=by
 unfold nxt;rw[kH];by_cases e:x=h
 ·subst e;rw[Ib rfl,Ib rfl]
 ·rw[Ia e,Ia fun z=>e (Ac.inj z)]
theorem Ends.keep{m F:Mnd}{h x:Str}{l:List Str}(a:Ends m x l)(hn:h ∉ l)(e:∀ y,y≠h→nxt F y=nxt m y):Ends F x l:=by
 induction a with
 | @stop y q=>exact .stop ((e y fun z=>hn (by rw[z];exact Al)).trans q)
 | @on y o l q r J=>exact .on ((e y fun z=>hn (by rw[z];exact Al)).trans q) (J fun z=>hn (Ap _ z))
theorem Ends.bend{m q:Mnd}{h x:Str}{l J:List Str}(a:Ends m x l)(O:Ends q h J)(e:∀ y,y≠h→nxt q y=nxt m y):∃ Y,Ends q x Y:=by
 induction a with
 | @stop y M=>
  by_cases z:y=h
  ·rw[z];exact⟨J,O⟩
  ·exact⟨_,.stop ((e y z).trans M)⟩
 | @on y o l M r F=>
  by_cases z:y=h
  ·rw[z];exact⟨J,O⟩
  ·obtain⟨Y,F⟩:=F;exact⟨_,.on ((e y z).trans M) F⟩
structure iR(m:Mnd):Prop where
 tx:∀ p∈m,∃ o,p.2=.str o
 ends : ∀ h, ∃ l, Ends m h l
theorem iR.nil:iR []:=⟨fun p q=>by simp at q,fun h=>⟨[h],.stop rfl⟩⟩
theorem aEl{m:Mnd}{k:Key}{v:V}{p:Key×V}(z:p∈bT m k v):p∈m∨p.2=v:=by
 unfold bT at z;split at z
 ·obtain⟨q,hq,e⟩:=AR.mp z;split at e
  ·exact .inr (by rw[← e])
  ·exact .inl (by rw[← e];exact hq)
 ·rcases AS.mp z with z | z
  ·exact .inl z
  ·exact .inr (by rw[AF.mp z])
theorem iR.put{m:Mnd}{h o:Str}{l:List Str}(a:iR m)(e:Ends m o l)(hn:h ∉ l):iR (bT m (Ac h) (.str o)):=by
 have q:∀ y,y≠h→nxt (bT m (Ac h) (.str o)) y=nxt m y:=fun y z=>by rw[aBQ,Ia z]
 have F:Ends (bT m (Ac h) (.str o)) h (h :: l):=.on (by rw[aBQ,Ib rfl]) (e.keep hn q);refine⟨fun p J=>?_,fun x=>?_⟩
 ·rcases aEl J with z | z
  ·exact a.tx p z
  ·exact⟨o,z⟩
 ·obtain⟨lx,hx⟩:=a.ends x;exact hx.bend F q
theorem iR.drop{m:Mnd}{h:Str}(a:iR m):iR (cA m (Ac h)):=by
 have q:∀ y,y≠h→nxt (cA m (Ac h)) y=nxt m y:=fun y z=>by rw[y8,Ia z]
 refine⟨fun p F=>a.tx p (vD F),fun x=>?_⟩;obtain⟨lx,hx⟩:=a.ends x;exact hx.bend (h:=h) (.stop (by rw[y8,Ib rfl])) q
open Classical in
noncomputable def rd(m:Mnd)(h:Str):List Str:=if e:∃ l,Ends m h l then e.choose else[h]
theorem iR.rd{m:Mnd}(a:iR m)(h:Str):Ends m h (rd m h):=by
 unfold K09.rd;rw[dif_pos (a.ends h)];exact(a.ends h).choose_spec
theorem iR.val{m:Mnd}(a:iR m)(h:Str):bS m (Ac h)=(nxt m h).map V.str:=by
 unfold nxt;cases e:bS m (Ac h)with
 | none=>rfl
 | some v=>
  have:∃ p∈m,p.2=v:=by
   unfold bS at e;obtain⟨p,hp,e2⟩:=AG.mp e;exact⟨p,List.mem_of_find?_eq_some hp,e2⟩
  obtain⟨p,hp,e2⟩:=this;obtain⟨o,e3⟩:=a.tx p hp;rw[e2]at e3;subst e3;rfl
noncomputable def mJ(m:Mnd)(h o:Str):Mnd:=if h∈rd m o then m else bT m (Ac h) (.str o)
def mK(m:Mnd)(h:Str):Mnd:=if (bS m (Ac h)).isSome=true then cA m (Ac h) else m
theorem iR.mend{m:Mnd}(a:iR m)(h o:Str):iR (mJ m h o):=by
 unfold mJ;split
 ·exact a
 ·exact a.put (a.rd o) ‹_›
theorem iR.alone{m:Mnd}(a:iR m)(h:Str):iR (mK m h):=by
 unfold mK;split
 ·exact a.drop
 ·exact a
theorem aCX(m:Mnd)(h o:Str):(mJ m h o).length≤m.length + 1:=by
 unfold mJ;split
 ·omega
 ·exact cB _ _ _
def top(i:Nat):Cc:=PySem.Challenge.pw_dykelengths_k09_the_first_laying.main.body.getD i (.Pass ⟨0,0,0,0⟩)
abbrev aFQ:Cc:=top 1
abbrev wZ:Cc:=top 2
abbrev aHu:Cc:=top 3
abbrev p8:Cc:=top 4
abbrev p9:Cc:=top 5
abbrev jJ:Cc:=top 6
abbrev jK:Cc:=top 7
abbrev gR:Cc:=top 8
abbrev gS:Cc:=top 9
abbrev m8:Cc:=top 10
abbrev kJ:Cc:=top 11
abbrev m9:Cc:=top 12
abbrev aA9:Cc:=top 14
abbrev w6:Cc:=top 15
abbrev w8:Cc:=top 17
abbrev w9:Cc:=top 18
abbrev qA:Cc:=top 19
abbrev aHv:Cc:=top 21
abbrev aEm:Cc:=top 22
abbrev oF:Cc:=top 23
abbrev tO:Cc:=top 24
abbrev xA:Cc:=top 25
abbrev aBa:Cc:=top 26
abbrev kK:Cc:=top 27
abbrev kQ:Cc:=top 28
abbrev aEn:Cc:=top 29
abbrev sDo:Cc:=top 30
abbrev vQ:Cc:=top 32
abbrev aBR:Cc:=top 33
abbrev aEo:Cc:=top 34
abbrev aEp:Cc:=top 35
abbrev xB:Cc:=top 36
abbrev y9:Cc:=top 37
abbrev jL:Cc:=top 38
abbrev gG:Cc:=top 39
abbrev xC:Cc:=top 40
def cJ(z:Str):Bool:=decide (1≤z.length∧z.length≤8) && z.cps.toList.all fun c=>decide (97≤c∧c≤122)
def isL(c:Nat):Bool:=decide (97≤c∧c≤122)
def fH(i:Nat):Nat:=97 + i % 26
theorem tP(i:Nat):isL (fH i)=true:=by
 unfold isL fH;exact Ic (by omega)
abbrev abc:Str:=BF "abcdefghijklmnopqrstuvwxyz"
theorem aEq:abc.cps.toList=FY 97 26:=by decide
theorem xD{i:Int}(q:0≤i)(h1:i < 26):atI abc.cps.toList i=some (fH i.toNat):=by
 obtain⟨j,rfl⟩:∃ j:Nat,i=j:=⟨i.toNat,by omega⟩
 unfold atI ixN;rw[aEq,Ib q,Ib (by simpa using h1)];simp only[B2,Option.bind_some];rw[List.getElem?_range' (by omega)];unfold fH;congr 1;omega
theorem aFR:abc.length=26:=by decide
def mk(l:List Nat):Str:=⟨l.toArray⟩
theorem aBb{a b:List Nat}(h:mk a=mk b):a=b:=by
 have:=congrArg (fun z:Str=>z.cps.toList) h;simpa[mk]using this
theorem iK(l:List Nat):(mk l).length=l.length:=by
 show l.toArray.size=_;simp
theorem aEr(a b:List Nat):mk a ++ mk b=mk (a ++ b):=by
 show(⟨a.toArray ++ b.toArray⟩:Str)=_;simp[mk]
def aJp(t k:Nat):List Nat:=[fH (t + 7 * k),fH (t + k / 26)]
def bij:Nat→Nat→List Nat
 | 0,_=>[]
 | f + 1,n=>if n=0 then[] else bij f ((n - 1) / 2) ++ [n % 2]
def bin(t n:Nat):List Nat:=(bij 6 n).map fun d=>fH (t + 9 * d)
def word(one:Bool)(b:List Nat)(sp t k:Nat):List Nat:=if one then bin t (k + 1) else b.take sp ++ aJp t k ++ b.drop sp
theorem aHw{α:Type}{f:Nat→α}{n m:Nat}(h:((AV n).map f).Nodup)(hm:m≤n):((AV m).map f).Nodup:=by
 obtain⟨d,rfl⟩:∃ d,n=m + d:=⟨n - m,by omega⟩
 rw[List.range_add,Az]at h;exact(Bn.mp h).1
theorem tQ{l:List Nat}(h1:1≤l.length)(q:l.length≤8)(ha:∀ c∈l,isL c=true):cJ (mk l)=true:=by
 unfold cJ;rw[iK,Ic ⟨h1,q⟩,Gi];have e:(mk l).cps.toList=l:=by simp[mk]
 rw[e,A5];exact ha
theorem qB{z:Str}(h:cJ z=true):1≤z.length∧z.length≤8:=by
 unfold cJ at h;rw[Bv]at h;exact Ie h.1
theorem gU:∀ ns:List Str,(ns.map V.str).all g9=true
 | []=>rfl
 | _ :: r=>by simpa[g9]using gU r
abbrev pH:Key:=Ac ("script":Str)
abbrev kAt:Key:=Ac ("at":Str)
abbrev jM:Key:=Ac ("left":Str)
def f6(c:Ae)(a l:Int):List (Key×V):=[(pH,.ref c),(kAt,.int a),(jM,.int l)]
theorem aHx:¬ (pH=kAt):=by decide
theorem aHy:¬ (pH=jM):=by decide
theorem aFS:¬ (kAt=jM):=by decide
theorem aJq:¬ (jM=kAt):=fun e=>aFS e.symm
theorem aFT(c:Ae)(a l:Int):bS (f6 c a l) pH=some (.ref c):=by
 unfold f6;rw[cU rfl]
theorem aHz(c:Ae)(a l:Int):bS (f6 c a l) kAt=some (.int a):=by
 unfold f6;rw[cK aHx,cU rfl]
theorem aEs(c:Ae)(a l:Int):bS (f6 c a l) jM=some (.int l):=by
 unfold f6;rw[cK aHy,cK aFS,cU rfl]
theorem aHA(c:Ae)(a l a':Int):bT (f6 c a l) kAt (.int a')=f6 c a' l:=by
 unfold bT f6;rw[Ib (by rw[Bu];exact⟨(kAt,.int a),by simp,Ic rfl⟩)];simp only[Av,CL,Ia aHx,Ia aJq,Ib]
theorem aEt(c:Ae)(a l q:Int):bT (f6 c a l) jM (.int q)=f6 c a q:=by
 unfold bT f6;rw[Ib (by rw[Bu];exact⟨(jM,.int l),by simp,Ic rfl⟩)];simp only[Av,CL,Ia aHy,Ia aFS,Ib]
theorem aHB{H:Hp}{p c:Ae}{a l:Int}(h:H p=some (.dK (f6 c a l))):gI H p (.str "left") (some (.int l)):=by
 have:=gI.k (k:=jM) h;rw[aEs]at this;exact this
theorem aJr{H:Hp}{p c:Ae}{a l:Int}(h:H p=some (.dK (f6 c a l))):gI H p (.str "at") (some (.int a)):=by
 have:=gI.k (k:=kAt) h;rw[aHz]at this;exact this
theorem aJs{H:Hp}{p c:Ae}{a l:Int}(h:H p=some (.dK (f6 c a l))):gI H p (.str "script") (some (.ref c)):=by
 have:=gI.k (k:=pH) h;rw[aFT]at this;exact this
theorem aIF{H:Hp}{p c:Ae}{a l:Int}(q:Int)(h:H p=some (.dK (f6 c a l))):gE H p (.str "left") (.int q) (upd H p (.dK (f6 c a q))):=by
 have:=gE.k (k:=jM) (v:=.int q) h (cV (by show 3≤1000;decide));rw[aEt]at this;exact this
theorem aJt{H:Hp}{p c:Ae}{a l:Int}(a':Int)(h:H p=some (.dK (f6 c a l))):gE H p (.str "at") (.int a') (upd H p (.dK (f6 c a' l))):=by
 have:=gE.k (k:=kAt) (v:=.int a') h (cV (by show 3≤1000;decide));rw[aHA]at this;exact this
structure dD(K:Ah)(H:Hp)(p c:Ae)(ns:List Int)(a:Int):Prop where
 ob:∃ l,0≤l∧H p=some (.dK (f6 c a l))
 ce:SqL K H c (ns.map V.int)
 ge:0≤a
 sm:ns.length≤63
theorem dD.same{K:Ah}{H H':Hp}{p c:Ae}{ns:List Int}{a:Int}(x:dD K H p c ns a)(h:b9 H H'):dD K H' p c ns a:=by
 obtain⟨⟨l,hl,e⟩,ce,ge,sm⟩:=x;exact⟨⟨l,hl,h _ _ e⟩,h.seq ce,ge,sm⟩
theorem aHC{K:Ah}{H H':Hp}{p c:Ae}{ys:List V}{iz:List (Key×V)}(h:SqL K H c ys)(e:H p=some (.dK iz))(k:bA p H H'):SqL K H' c ys:=by
 rcases h with(h | ⟨o',h⟩) | h
 ·exact .inl (.inl (k _ _ h (bU h e (fun z=>nomatch z))))
 ·exact .inl (.inr ⟨o',k _ _ h (bU h e (fun z=>nomatch z))⟩)
 ·exact .inr h
theorem dD.put{K:Ah}{H H':Hp}{p c:Ae}{ns:List Int}{a a' l:Int}(x:dD K H p c ns a)(k:bA p H H')(hl:0≤l)(ha:0≤a')(e:H' p=some (.dK (f6 c a' l))):dD K H' p c ns a':=by
 obtain⟨⟨l0,hl0,e0⟩,ce,ge,sm⟩:=x;exact⟨⟨l,hl,e⟩,aHC ce e0 k,ha,sm⟩
theorem aIG{x j:Int}(q:0 < j)(h1:j≤2 ^ 63):-(2 ^ 64) < x % j∧x % j < 2 ^ 64:=by
 have F:=Dv x (show j≠0 by omega);have z:=Dy x q;omega
inductive aBS(K:Ah)(vs:List V)(H:Hp)(Q:VK)(u3_:XK):Prop
 | mk (c:Ae) (ns:List Int) (q0:vs=[.ref c]) (q1:SqL K H c (ns.map V.int)) (q2:ns.length≤63) (q3:∀ p H',dD K H' p c ns 0→b9 H H'→H p=none→Q (.ref p) H'):aBS K vs H Q u3_
def aGG(K:Ah):Sp:=fun vs H Q u3_=>aBS K vs H Q u3_
inductive zC(K:Ah)(vs:List V)(H:Hp)(Q:VK)(u3_:XK):Prop
 | mk (p c:Ae) (ns:List Int) (a m:Int) (q0:vs=[.ref p,.int m]) (q1:dD K H p c ns a) (q2:a≤1000000) (q3:0 < m) (q4:m < 2 ^ 512) (q5:∀ r a' H',0≤r→r < m→a≤a'→a'≤a + 1→dD K H' p c ns a'→bA p H H'→Q (.int r) H'):zC K vs H Q u3_
def oG(K:Ah):Sp:=fun vs H Q u3_=>zC K vs H Q u3_
variable{P:AC}{w:AT}{K:Ah}{mg:Str→Option Ad}{base:Bi}
theorem aIH:bY ["_law_script"] ["_law_script"] (aO aHv):=⟨rfl,rfl,rfl,by decide,rfl,by decide,by decide⟩
theorem aHD{f:Ae}{fd:A3}(F:Fun K "_law_pen" "_law_pen" aHv f fd):cP P w K mg base CX0 1 f fd ["_law_script"] (aGG K):=by
 refine F.ok aIH (fun vs H Q E h=>?_) (fun z A outer s H vs Q E Z h=>?_)
 ·obtain⟨a,ns,rfl,_⟩:=h;rfl
 ·obtain⟨c,ns,rfl,hS,hn,k⟩:=h;refine⟨_,aM (bF (wR (eG aN (pv 0) (eG aN aD (eG aN aD wQ))) rfl rfl (by simp) (by decide))),?_⟩;intro p q;have sp:=aK (o:=.dK []) q;refine⟨_,rfl,aA,[(pH,.ref c),(kAt,.int 0),(jM,.int 0)],rfl,by show 3≤15;decide,?_⟩;have J:cZ [] [(pH,V.ref c),(kAt,.int 0),(jM,.int 0)]=f6 c 0 0:=by
   have Y:bT ([]:List (Key×V)) pH (.ref c)=[(pH,.ref c)]:=by rw[iY _ rV];rfl
   have M:bT [(pH,V.ref c)] kAt (.int 0)=[(pH,.ref c),(kAt,.int 0)]:=by rw[iY _ (by rw[cK aHx,rV])];rfl
   have O:bT [(pH,V.ref c),(kAt,.int 0)] jM (.int 0)=[(pH,.ref c),(kAt,.int 0),(jM,.int 0)]:=by rw[iY _ (by rw[cK aHy,cK aFS,rV])];rfl
   show bT (bT (bT [] pH (.ref c)) kAt (.int 0)) jM (.int 0)=_;rw[Y,M,O];rfl
  rw[J];have S:b9 H (upd (upd H p (.dK [])) p (.dK (f6 c 0 0))):=fun b o e=>by rw[aG (aJ e q),aG (aJ e q)];exact e
  exact k p _ ⟨⟨0,CN _,aA⟩,S.seq hS,CN _,hn⟩ S q
theorem aEu:bY ["_law_pen_here","_law_many","_law_script","_law_found","_law_at","_law_cell","_law_number"] ["_law_pen_here","_law_many"] (aO aEm):=⟨rfl,rfl,rfl,by decide,rfl,by decide,by decide⟩
theorem aFU{f:Ae}{fd:A3}(F:Fun K "_law_draw" "_law_draw" aEm f fd)(M:mg "len"=none)(J:mg "abs"=none)
  :cP P w K mg base CX0 1 f fd ["_law_pen_here","_law_many"] (oG K):=by
 refine F.ok aEu (fun vs H Q E h=>?_) (fun ah A outer s H vs Q E hr h=>?_)
 ·obtain⟨p,c,ns,a,m,rfl,_⟩:=h;rfl
 ·obtain⟨p,c,ns,a,m,rfl,hp,ha,hm,hm2,k⟩:=h;have hu:=d7 hr;have nd:=aEu.nd;refine⟨_,(aB (aX (i:=2) nd rfl (Ar rfl) (bJ hu (pv 0) aN Ig))
   (aB (cC (aZ aBs (bJ hu (pv 0) aN Ig) aD (bG _)) (aB (aX (i:=3) nd rfl (Ar rfl) (bC eV (bJ hu (pv 0) aN Ig) (pv 1)))
    (aB (c4 hu (pv 0) aN (bC sC (bJ hu (pv 0) aN Ig) (pv 1)) rfl)
    (aM (bF (pv 3))))) bB)
   (aB (aX (i:=4) nd rfl (Ar rfl) (bJ hu (pv 0) aN Ig))
   (aB (c4 hu (pv 0) aN (bC cX (pv 4) aD) rfl)
   (aB (aX (i:=5) nd rfl (Ar rfl) (bC cX (bC cX (bC fX (bC fX aD (pv 4)) (pv 4)) (bC fX aD (pv 4))) aD))
   (aB (fP <| cC (aZ oR (pv 4) (aW bK (by rfl) M AW (aF (pv 2) aE)) (bG _)) (aB (aX (i:=5) nd rfl (Ar rfl) (aQ b8 (pv 2) (pv 4) Ig))
    (aM (cC (aZ aGs (aW rO (by rfl) J (by kernel_rfl) (aF (pv 5) aE)) (bC nY aD aD) (bG _)) (aB (c4 hu (pv 0) aN (bC sC (aW rO (by rfl) J (by kernel_rfl) (aF (pv 5) aE)) (pv 1)) rfl)
     (aM (bF (bC eV (aW rO (by rfl) J (by kernel_rfl) (aF (pv 5) aE)) (pv 1))))) bB))) (aM (cC (aZ aBs (aW bK (by rfl) M AW (aF (pv 2) aE)) aD (bG _)) (aM (aX (i:=5) nd rfl (Ar rfl) (bC cX (bC eV (aQ b8 (pv 2) (bC eV (pv 4) (aW bK (by rfl) M AW (aF (pv 2) aE))) Ig) (bC nY aD aD)) (bC fX aD (pv 4))))) bB)))
   (aB (aX (i:=6) nd rfl (Ar rfl) (bC eV (bC fX (bC cX (bC cX (bC eV (pv 5) aD) (bC fX aD (pv 4))) aD) aD) aD))
   (aB (aX (i:=6) nd rfl (Ar rfl) (bC eV (bC cX (bC fX (pv 6) (bC cX (bC eV (pv 6) aD) aD)) (bC fX aD (pv 4))) aD))
   (aM (bF (bC eV (bC sC (bC eV (bC fX (pv 6) (bC cX (bC eV (pv 6) aD) aD)) aD) aD) (pv 1)))))))))))),?_⟩
  obtain⟨⟨l,hl0,hob⟩,hce,hge,hsm⟩:=id hp;refine⟨_,rfl,p,_,rfl,aJs hob,_,rfl,p,_,rfl,aHB hob,_,_,rfl,rfl,_,rfl,cR (fun h0=>?_) (fun h0=>?_)⟩
  ·exact⟨_,rfl,p,_,rfl,aHB hob,_,rfl,_,_,rfl,rfl,hm,_,rfl,p,_,rfl,aHB hob,_,rfl,_,_,rfl,rfl,vG.of hm hm2,_,rfl,p,_,rfl,aIF _ hob,_,rfl,k (l % m) a _ (Dv _ (by omega)) (Dy _ hm) (CN _) (by omega) (hp.put (bA.refl p H).upd (Dw hl0 (by omega)) hge aA) (bA.refl p H).upd⟩
  ·refine⟨_,rfl,p,_,rfl,aJr hob,_,rfl,_,_,rfl,rfl,_,rfl,p,_,rfl,aJt _ hob,_,rfl,_,_,rfl,rfl,.inl (by decide),_,rfl,_,_,rfl,rfl,.inr (by omega),_,rfl,_,_,rfl,rfl,.inl (by decide),_,_,rfl,rfl,_,_,rfl,rfl,?_⟩;have q:bA p H (upd H p (.dK (f6 c (a + 1) l))):=(bA.refl p H).upd;have Y:dD K (upd H p (.dK (f6 c (a + 1) l))) p c ns (a + 1):=hp.put q hl0 (by omega) aA;have ep:upd H p (.dK (f6 c (a + 1) l)) p=some (.dK (f6 c (a + 1) l)):=aA;generalize upd H p (.dK (f6 c (a + 1) l))=H1 at q Y ep ⊢;have z:=Y.ce;refine⟨fun σ' H'=>∃ O:Int,σ'=[some (.ref p),some (.int m),some (.ref c),none,some (.int a),some (.int O),none]∧H'=H1,?_,?_⟩
   ·refine⟨_,rfl,_,rfl,c,_,rfl,.inl z,_,_,rfl,rfl,_,rfl,cR (fun h1=>?_) (fun h1=>?_)⟩
    ·have ab:a < ((ns.map V.int).length:Nat):=Ie h1;rw[Aa]at ab;obtain⟨O,hcv⟩:∃ O,ns[a.toNat]?=some O:=⟨_,Ai (by omega)⟩
     have aa:atI (ns.map V.int) a=some (.int O):=by
      have e:=fU (xs:=ns.map V.int) (j:=a.toNat) (v:=.int O) (by rw[An,hcv];rfl);rw[Ea hge]at e;exact e
     refine⟨_,rfl,_,rfl,c,_,_,_,rfl,rfl,z,aa,_,rfl,_,rfl,_,_,rfl,rfl,⟨by decide,by decide,by decide⟩,_,_,rfl,rfl,_,rfl,cR (fun h2=>?_) (fun h2=>?_)⟩
     ·refine⟨_,rfl,_,rfl,_,rfl,_,_,rfl,rfl,vG.of hm hm2,_,rfl,p,_,rfl,aIF _ ep,_,rfl,_,rfl,_,rfl,_,_,rfl,rfl,hm,?_⟩;have Z:0≤(if O < 0 then -O else O):=by split <;> omega
      exact k _ (a + 1) _ (Dv _ (by omega)) (Dy _ hm) (by omega) (CN _) (Y.put (bA.refl p H1).upd (Dw Z (by omega)) (by omega) aA) q.upd
     ·exact⟨O,rfl,rfl⟩
    ·refine⟨_,rfl,c,_,rfl,.inl z,_,_,rfl,rfl,_,rfl,cR (fun h2=>?_) (fun h2=>⟨_,rfl,rfl⟩)⟩;have af:0 < ns.length:=by
      have:=Ie h2;rw[Aa]at this;omega
     have ad:(a % (ns.length:Int)).toNat < ns.length:=by
      have h1:=Dy a (show(0:Int) < ns.length by omega);have h2:=Dv a (show(ns.length:Int)≠0 by omega);omega
     have aa:atI (ns.map V.int) (a % ((ns.map V.int).length:Int))=some (.int (ns[(a % (ns.length:Int)).toNat])):=by
      rw[Aa];have h2:=Dv a (show(ns.length:Int)≠0 by omega);have e:=fU (xs:=ns.map V.int) (j:=(a % (ns.length:Int)).toNat) (v:=.int (ns[(a % (ns.length:Int)).toNat])) (by rw[An,Ai ad];rfl);rw[Ea h2]at e;exact e
     exact⟨_,rfl,_,rfl,_,rfl,c,_,rfl,.inl z,_,_,rfl,rfl,(by rw[Aa];omega),c,_,_,_,rfl,rfl,z,aa,_,_,rfl,rfl,⟨by decide,by decide,by decide⟩,_,_,rfl,rfl,(by show(0:Int) < 10 ^ Int.toNat 17;decide),_,rfl,_,_,rfl,rfl,.inl (by decide),_,_,rfl,rfl,_,rfl,rfl⟩
   ·rintro σ' H' ⟨O,rfl,rfl⟩;have c0:∀{j:Int},0 < j→(0:Int) < j:=fun h=>h;exact⟨_,rfl,_,_,rfl,rfl,(by show(0:Int) < _;decide),_,rfl,_,_,rfl,rfl,.inl (by decide),_,_,rfl,rfl,_,_,rfl,rfl,_,_,rfl,rfl,.inr (by decide),_,_,rfl,rfl,(by show(0:Int) < _;decide),_,rfl,_,rfl,_,_,rfl,rfl,(by show(0:Int) < _;decide),_,_,rfl,rfl,_,_,rfl,rfl,.inl (aIG (by decide) (by decide)),_,rfl,_,_,rfl,rfl,.inl (by decide),_,_,rfl,rfl,_,_,rfl,rfl,(by show(0:Int) < _;decide),_,rfl,_,rfl,_,_,rfl,rfl,(by show(0:Int) < _;decide),_,_,rfl,rfl,_,_,rfl,rfl,.inl (aIG (by decide) (by decide)),_,_,rfl,rfl,(by show(0:Int) < _;decide),_,_,rfl,rfl,vG.of (by decide) (by decide),_,rfl,_,_,rfl,rfl,hm,k _ (a + 1) _ (Dv _ (by omega)) (Dy _ hm) (by omega) (CN _) Y q⟩
structure Nms(ws:List Str):Prop where
 nd:ws.Nodup
 ok:∀ w∈ws,cJ w=true
inductive vR(K:Ah)(vs:List V)(H:Hp)(Q:VK)(u3_:XK):Prop
 | mk (p c:Ae) (ns:List Int) (a:Int) (m:Nat) (q0:vs=[.ref p,.int m]) (q1:dD K H p c ns a) (q2:a≤900000) (q3:m≤300) (q4:∀ l ws a' H',H l=none→H' l=some (.lst (ws.map V.str))→ws.length=m→Nms ws→a≤a'→a'≤a + 320→dD K H' p c ns a'→bA p H H'→Q (.ref l) H'):vR K vs H Q u3_
def xE(K:Ah):Sp:=fun vs H Q u3_=>vR K vs H Q u3_
theorem oH(l:List Nat):∀(m s:Nat),(FY s m).filterMap (fun j=>l.toArray[j]?)=(l.drop s).take m
 | 0,s=>by simp
 | m + 1,s=>by
  rw[List.range'_succ,D7];have q:=oH l m (s + 1);by_cases h:s < l.length
  ·have e:l.toArray[s]?=some l[s]:=by simp[h]
   rw[e];dsimp only;rw[q,Er h,List.take_succ_cons]
  ·have e:l.toArray[s]?=none:=by simp;omega
   rw[e];dsimp only;rw[q,DH (by omega),DH (by omega)];simp
theorem aFV:∀ n:Nat,n < 7→∀ s:Nat,s < 7→s≤n→Builtin.Str.strSliceIndices none (some (s:Int)) 1 n=FY 0 s:=by decide
theorem aCY:∀ n:Nat,n < 7→∀ s:Nat,s < 7→s≤n→Builtin.Str.strSliceIndices (some (s:Int)) none 1 n=FY s (n - s):=by decide
theorem aGH{b:List Nat}{s:Nat}(q:b.length≤6)(hs:s≤b.length):Eh (mk b) none (some (s:Int))=mk (b.take s):=by
 unfold Eh;rw[iK,aFV _ (by omega) _ (by omega) hs];split
 ·next h=>
  simp at h;rw[h,AM]
 ·have e:=oH b s 0;rw[El]at e;exact congrArg mk e
theorem aFW{b:List Nat}{s:Nat}(z:b.length≤6)(hs:s≤b.length):Eh (mk b) (some (s:Int)) none=mk (b.drop s):=by
 unfold Eh;rw[iK,aCY _ (by omega) _ (by omega) hs];split
 ·next h=>
  simp at h;have:s=0∨b.length=0:=by omega
  rcases this with rfl | q
  ·rfl
  ·rw[List.length_eq_zero_iff.mp q];simp
 ·have e:=oH b (b.length - s) s;rw[show(b.drop s).take (b.length - s)=b.drop s from Bg (by rw[B9];exact Am _)]at e;exact congrArg mk e
theorem aCZ(bs:List Nat):∀ q:Array Nat,(bs.map fun c=>mk [c]).foldl (fun(q:Array Nat) (p:Str)=>q ++ (BF "").cps ++ p.cps) q=q ++ bs.toArray:=by
 have F:(BF "").cps=#[]:=by decide
 induction bs with
 | nil=>intro q;simp
 | cons x r z=>
  intro q;rw[Av,BG,z,F];simp[mk]
theorem aFX(bs:List Nat):Txt.join "" (bs.map fun c=>mk [c])=mk bs:=by
 show Builtin.Str.glued _ _=_;unfold Builtin.Str.glued;cases bs with
 | nil=>rfl
 | cons x r=>
  have:=aCZ r #[x];simp only[Av,List.headD_cons,List.drop_succ_cons,El];show(⟨Ga _ _ _⟩:Str)=_;rw[show(mk [x]).cps=#[x] from rfl];rw[this];simp[mk]
theorem xF(x:Nat){j:Int}(z:j=(x:Int) % 26):atI abc.cps.toList j=some (fH x):=by
 have q:0≤j:=by omega
 have h1:j < 26:=by omega
 rw[xD q h1];unfold fH;congr 1;omega
def t12:List Str:=["part","join","forfeit","measure","mend","alone","breach","view","field","as","with","none"]
def w0(f k:Nat):Str:=t12.getD ((f + 7 * k) % 12) ""
def q0(k:Nat):Str:=mk [113,fH (k / 26),fH k]
def w1(f k:Nat):Str:=mk [fH (f + 5 * k)]
def w2(b:List Nat)(sp n t:Nat):Str:=mk (b.take sp ++ [fH (n / 26),fH n] ++ (b.drop sp).take t)
theorem aHE(f k:Nat):w0 f k=w0 (f % 12) k:=by
 unfold w0;congr 1;omega
theorem aII:∀ g < 12,((AV 12).map (w0 g)).Nodup:=by decide
theorem aGI(f k:Nat):w0 f k∈t12:=by
 unfold w0;have h:(f + 7 * k) % 12 < t12.length:=by show _ < 12;omega
 rw[A1,Ai h];exact BI h
theorem aEv:∀ z∈t12,cJ z=true∧z.cps.toList.head?≠some 113:=by decide
theorem aGJ(k:Nat):cJ (q0 k)=true∧(q0 k).cps.toList.head?=some 113:=by
 refine⟨tQ (by show 1≤3;decide) (by show 3≤8;decide) fun c hc=>?_,rfl⟩;simp only[Ak,Ao,or_false]at hc;rcases hc with rfl | rfl | rfl
 ·decide
 ·exact tP _
 ·exact tP _
theorem aHF{j k:Nat}(q:j < 676)(z:k < 676)(e:q0 j=q0 k):j=k:=by
 have:=aBb e;injection this with _ this;injection this with h1 this;injection this with h2 _;unfold fH at h1 h2;omega
theorem vS{α:Type}{f:Nat→α}{n:Nat}(h:∀ i j,i < n→j < n→f i=f j→i=j):((AV n).map f).Nodup:=by
 unfold List.Nodup;rw[List.pairwise_map];exact(List.nodup_range (n:=n)).imp_of_mem fun{i j} hi hj ne e=>ne (h i j (BU.mp hi) (BU.mp hj) e)
theorem nm0{f m:Nat}(hm:m≤300):Nms ((AV (min m 12)).map (w0 f) ++ (AV (m - min m 12)).map q0):=by
 refine⟨Bn.mpr ⟨?_,vS fun i j hi M e=>aHF (by omega) (by omega) e,fun x F y J e=>?_⟩,fun z q=>?_⟩
 ·have h:=aHw (aII (f % 12) (by omega)) (show min m 12≤12 by omega);have e:(AV (min m 12)).map (w0 f)=(AV (min m 12)).map (w0 (f % 12)):=Fq fun k _=>aHE f k;rw[e];exact h
 ·obtain⟨k,_,rfl⟩:=AR.mp F;obtain⟨j,_,rfl⟩:=AR.mp J;have:=(aEv _ (aGI f k)).2;rw[e]at this;exact this (aGJ j).2
 ·rcases AS.mp q with q | q
  ·obtain⟨k,_,rfl⟩:=AR.mp q;exact(aEv _ (aGI f k)).1
  ·obtain⟨k,_,rfl⟩:=AR.mp q;exact(aGJ k).1
theorem nm1{f m:Nat}(hm:m < 27):Nms ((AV m).map (w1 f)):=by
 refine⟨vS fun i j hi F e=>?_,fun z q=>?_⟩
 ·have:=aBb e;injection this with h1 _;unfold fH at h1;omega
 ·obtain⟨k,_,rfl⟩:=AR.mp q;refine tQ (by show 1≤1;decide) (by show 1≤8;decide) fun c hc=>?_;rw[AF.mp hc];exact tP _
theorem aHG{b:List Nat}{sp n q t t':Nat}(hn:n < 676)(z:q < 676)(e:w2 b sp n t=w2 b sp q t'):n=q:=by
 have:=aBb e;rw[AY,AY]at this;have h:=List.append_cancel_left this;injection h with h1 h;injection h with h2 _;unfold fH at h1 h2;omega
theorem aIJ{b:List Nat}{sp n t:Nat}(q:b.length≤6)(ha:∀ c∈b,isL c=true):cJ (w2 b sp n t)=true:=by
 refine tQ (by simp;omega) (by simp;omega) fun c hc=>?_;rcases AS.mp hc with hc | hc
 ·rcases AS.mp hc with hc | hc
  ·exact ha c (B8 hc)
  ·simp only[Ak,Ao,or_false]at hc;rcases hc with rfl | rfl <;> exact tP _
 ·exact ha c (Di (B8 hc))
theorem aFY{s f i k:Nat}(hs:s∈[1,5,27,85,181,335])(hi:i < 676)(q:k < 676)(e:(f + s * i) % 676=(f + s * k) % 676):i=k:=by
 have c:=(by decide:∀ s∈[1,5,27,85,181,335],Nat.Coprime 676 s) s hs;have g:∀{a b:Nat},b < 676→(f + s * a) % 676=(f + s * b) % 676→b≤a:=fun{a b} h e=>by
  have d:=Nat.dvd_of_mod_eq_zero (Nat.sub_mod_eq_zero_of_mod_eq e.symm);rw[Nat.add_sub_add_left,← Nat.mul_sub]at d;have:=Nat.eq_zero_of_dvd_of_lt (c.dvd_of_dvd_mul_left d) (by omega);omega
 exact Nat.le_antisymm (g hi e.symm) (g q e)
theorem aEw{K:Ah}{H:Hp}{p c a:Ae}{ns:List Int}{t:Int}{o:HO}(z:dD K H p c ns t)(e:H a=some o)(h:∀ q r,o≠.dK (q :: r)):a≠p:=by
 obtain⟨l,_,e2⟩:=z.ob;exact bU e e2 (h _ _)
theorem cW{K:Ah}{H H':Hp}{p c a:Ae}{ns:List Int}{t:Int}{xs:List V}(e:H a=some (.lst xs))(q:dD K H p c ns t)(k:bA p H H'):H' a=some (.lst xs):=k a _ e (aEw q e (fun _ _ z=>nomatch z))
theorem lF{K:Ah}{H H':Hp}{p c L:Ae}{ns:List Int}{t:Int}(q:dD K H' p c ns t)(k:bA p H H')(h:H' L=none):H L=none:=by
 cases e:H L with
 | none=>rfl
 | some x=>
  obtain⟨l,_,z⟩:=q.ob;rw[k L x e (aJ z h).symm]at h;cases h
theorem aFZ{ws:List Str}(h:∀ w∈ws,w.length=1):(ws.map (·.length)).sum=ws.length:=by
 induction ws with
 | nil=>rfl
 | cons x r q=>
  rw[Av,Cf,q fun w hw=>h w (Ap _ hw),h x Al,AK];omega
theorem dD.app{K:Ah}{H H':Hp}{p c L:Ae}{ns:List Int}{a a':Int}{xs ys:List V}(M:dD K H p c ns a)(x:dD K H' p c ns a')(k:bA p H H')(h:H L=none)(e:H' L=some (.lst xs)):
  dD K (upd H' L (.lst ys)) p c ns a'∧bA p H (upd H' L (.lst ys)):=by
 have F:bA p H (upd H' L (.lst ys)):=fun b o z n=>by
  by_cases J:b=L
  ·rw[J,h]at z;cases z
  ·rw[aG J];exact k b o z n
 obtain⟨l,hl,z⟩:=x.ob;exact⟨M.put F hl x.ge (by rw[aG (bU z e (fun q=>nomatch q))];exact z),F⟩
theorem aIK{s:Nat}(hs:s∈[1,5,27,85,181,335]):s≤335:=by
 simp only[Ak,Ao,or_false]at hs;omega
theorem aBT:bY ["_law_pen_here","_law_many","_law_letters","_law_terms","_law_way","_law_first","_law_found","_law_step","_law_base","_law_spot","_law_k","_law_number","_law_tail","_law_pair"] ["_law_pen_here","_law_many"] (aO oF):=⟨rfl,rfl,rfl,by decide,rfl,by decide,by decide⟩
theorem aEx{f fD:Ae}{fd bg:A3}(F:Fun K "_law_names" "_law_names" oF f fd)(Y:mg "len"=none)(M:mg "range"=none)(bh:mg "min"=none)
  (GD:cP P w K mg base CX0 1 fD bg ["_law_pen_here","_law_many"] (oG K)) (mD:mg "_law_draw"=some (.ref fD)) (kD:AO K (.ref fD)=true) (bD:d9 K bg ["_law_pen_here","_law_many"] [])
  :cP P w K mg base CX0 2 f fd ["_law_pen_here","_law_many"] (xE K):=by
 refine F.ok aBT (fun vs H Q E h=>?_) (fun dj A outer s H vs Q E hr h=>?_)
 ·obtain⟨p,c,ns,a,m,rfl,_⟩:=h;rfl
 ·obtain⟨p,c,ns,a,m,rfl,hp,ha,hm,k⟩:=h;have nd:=aBT.nd;refine⟨_,(aB (aX (i:=2) nd rfl (Dq rfl) aN)
   (aB (aX (i:=3) nd rfl (Dq rfl) (c6 (aF aN (aF aN (aF aN (aF aN (aF aN (aF aN (aF aN (aF aN (aF aN (aF aN (aF aN (aF aN aE))))))))))))))
   (aB (aX (i:=4) nd rfl (Ar rfl) (cN GD hr rfl mD kD bD .nil dJ (aF (pv 0) (aF aD aE))))
   (aB (aX (i:=5) nd rfl (Dq rfl) (cN GD hr rfl mD kD bD .nil dJ (aF (pv 0) (aF aD aE))))
   (aB (cC (aZ cT (pv 4) aD (bG _)) (aB (i0 (i:=6) (N:=["_law_k","_law_terms","_law_first"]) (src:=[none,some 3,some 5]) (osc:=aO oF) (oN:=["_law_pen_here","_law_many","_law_letters","_law_terms","_law_way","_law_first","_law_found","_law_step","_law_base","_law_spot","_law_k","_law_number","_law_tail","_law_pair"]) ⟨by rfl,by decide,by decide,by decide,rfl,by rfl⟩ nd rfl (eJ rfl M (aF (aW (mZ rfl) (by rfl) bh (by kernel_rfl) (aF (pv 1) (aF aD aE))) aE)) (fun cl s H fp gz C=>⟨aR (i:=0) (show(["_law_k","_law_terms","_law_first"]:List Str).Nodup by decide) rfl (Ar rfl),c8,aQ (r:=aDw K) b8 (pv 1) (bC eV (bC cX (pv 2) (bC fX aD (pv 0))) aD) Ig⟩))
    (aM (bF (bC aAK (pv 6) (c5 (N:=["_law_k","_law_letters"]) (src:=[none,some 2]) (osc:=aO oF) (oN:=["_law_pen_here","_law_many","_law_letters","_law_terms","_law_way","_law_first","_law_found","_law_step","_law_base","_law_spot","_law_k","_law_number","_law_tail","_law_pair"]) ⟨by rfl,by decide,by decide,by decide,rfl,by rfl⟩ (eJ rfl M (aF (bC kX (pv 1) (aW bK (by rfl) Y AW (aF (pv 6) aE))) aE)) (fun cl s H fp gz C=>⟨aR (i:=0) (show(["_law_k","_law_letters"]:List Str).Nodup by decide) rfl (Ar rfl),c8,bC iW (bC iW aN (aQ pZ (pv 1) (bC mY (pv 0) aD) Ig)) (aQ pZ (pv 1) (bC eV (pv 0) aD) Ig)⟩)))))) bB)
   (aB (fP <| cC (PW.pt (iH (aZ cT (pv 4) aD (bG _)) (gF (aZ oR (pv 1) aD (bG _))))) (aM (bF (c5 (N:=["_law_k","_law_letters","_law_first"]) (src:=[none,some 2,some 5]) (osc:=aO oF) (oN:=["_law_pen_here","_law_many","_law_letters","_law_terms","_law_way","_law_first","_law_found","_law_step","_law_base","_law_spot","_law_k","_law_number","_law_tail","_law_pair"]) ⟨by rfl,by decide,by decide,by decide,rfl,by rfl⟩ (eJ rfl M (aF (pv 1) aE)) (fun cl s H fp gz C=>⟨aR (i:=0) (show(["_law_k","_law_letters","_law_first"]:List Str).Nodup by decide) rfl (Ar rfl),c8,aQ pZ (pv 1) (bC eV (bC cX (pv 2) (bC fX aD (pv 0))) aD) Ig⟩)))) bB)
   (aB (aX (i:=7) nd rfl (Ar rfl) (aQ b8 (c6 (aF aD (aF aD (aF aD (aF aD (aF aD (aF aD aE))))))) (cN GD hr rfl mD kD bD .nil dJ (aF (pv 0) (aF aD aE))) Ig))
   (aB (aX (i:=8) nd rfl (Ar rfl) (j0 PySem.F.plainAttrs_str PySem.F.slot_str_join PySem.F.type_str_join aFE aN (aF (c5 (N:=["_law_k","_law_pen_here","_law_letters"]) (src:=[none,some 0,some 2]) (osc:=aO oF) (oN:=["_law_pen_here","_law_many","_law_letters","_law_terms","_law_way","_law_first","_law_found","_law_step","_law_base","_law_spot","_law_k","_law_number","_law_tail","_law_pair"]) ⟨by rfl,by decide,by decide,by decide,rfl,by rfl⟩ (eJ rfl M (aF (cN GD hr rfl mD kD bD .nil dJ (aF (pv 0) (aF aD aE))) aE)) (fun cl s H fp gz C=>⟨aR (i:=0) (show(["_law_k","_law_pen_here","_law_letters"]:List Str).Nodup by decide) rfl (Ar rfl),c8,aQ pZ (pv 2) (cN GD hr rfl mD kD bD .nil dJ (aF (pv 1) (aF aD aE))) Ig⟩)) aE)))
   (aB (aX (i:=9) nd rfl (Ar rfl) (cN GD hr rfl mD kD bD .nil dJ (aF (pv 0) (aF (bC cX (aW oU (by rfl) Y AW (aF (pv 8) aE)) aD) aE))))
   (aB (aX (i:=6) nd rfl (Ar rfl) (c6 aE))
   (aB (d8 A7 rfl (eJ rfl M (aF (pv 1) aE)) (g:=aU 10) (aR (i:=10) nd rfl (Ar rfl))
   (aB (aX (i:=11) nd rfl (Ar rfl) (bC eV (bC cX (pv 5) (bC fX (pv 7) (pv 10))) aD))
    (aB (aX (i:=12) nd rfl (Ar rfl) (g8 aAN (pv 8) (jF (pv 9)) jE))
    (aB (fP <| cC (aZ cT (pv 4) aD (bG _)) (aM (aX (i:=12) nd rfl (Ar rfl) (g8 aAN (pv 12) jE (jF (cN GD hr rfl mD kD bD .nil dJ (aF (pv 0) (aF (bC cX (aW oU (by rfl) Y AW (aF (pv 12) aE)) aD) aE))))))) bB)
    (aB (aX (i:=13) nd rfl (Ar rfl) (bC iW (aQ pZ (pv 2) (bC mY (pv 11) aD) Ig) (aQ pZ (pv 2) (bC eV (pv 11) aD) Ig)))
    (aM (dP (j0 A8 BC BB fG (pv 6) (aF (bC iW (bC iW (g8 aAN (pv 8) jE (jF (pv 9))) (pv 13)) (pv 12)) aE)))))))))
   (aM (bF (pv 6)))))))))))))),?_⟩
  have zA:abc.length≤sizeLine:=aP (by rw[aFR];decide);refine⟨aJn,fun lt bL=>?_⟩;have st:=aK (o:=.lst (t12.map V.str)) bL;refine⟨_,rfl,p,c,ns,a,5,rfl,hp.same st,by omega,by decide,by decide,fun au a1 H1 cv w5 da cu an ay=>?_⟩;refine⟨_,rfl,p,c,ns,a1,676,rfl,an,by omega,by decide,by decide,fun fi a2 H2 f0 cf cr dr aa bi=>?_⟩;obtain⟨f,rfl⟩:∃ f:Nat,fi=f:=⟨fi.toNat,by omega⟩
  have k2:bA p H H2:=(st.but.trans ay).trans bi;have bN:H2 lt=some (.lst (t12.map V.str)):=cW (cW aA (hp.same st) ay) an bi;clear an ay st;refine⟨_,rfl,rfl,_,rfl,cR (fun g0=>?_) (fun g0=>?_)⟩
  ·refine⟨_,rfl,_,_,rfl,_,rfl,?_⟩;have a0:(if (12:Int) < (m:Int) then(12:Int) else(m:Int))=((min m 12:Nat):Int):=by
    split <;> omega
   rw[a0];refine⟨by omega,by omega,?_⟩;rw[B2];refine gM (n:=min m 12) (fun i ys J H'=>∃(o:Option V),J=[o,some (.ref lt),some (.int f)]∧H'=H2∧ys=((AV i).map (w0 f)).map V.str) ⟨none,rfl,rfl,rfl⟩ (aP (by omega)) (fun i ys σ H p=>by obtain⟨_,_,_,e⟩:=p;rw[e];simp) ?_ ?_
   ·rintro i ys J H' hi ⟨o,rfl,rfl,rfl⟩;dsimp only[aU];refine eZ ?_;have ax:atI (t12.map V.str) (((f:Int) + 7 * (0 + (i:Int))) % 12)=some (.str (w0 f i)):=by
     have h:(f + 7 * i) % 12 < t12.length:=by show _ < 12;omega
     have e:=fU (xs:=t12.map V.str) (j:=(f + 7 * i) % 12) (v:=.str (w0 f i)) (by
      rw[An,Ai h];unfold w0;rw[A1,Ai h];rfl)
     rw[show(((f:Int) + 7 * (0 + (i:Int))) % 12)=(((f + 7 * i) % 12:Nat):Int) by omega];exact e
    exact⟨_,rfl,_,rfl,_,rfl,_,_,rfl,rfl,.inl ⟨by decide,by decide⟩,_,_,rfl,rfl,_,_,rfl,rfl,(by show(0:Int) < 12;decide),lt,_,_,_,rfl,rfl,aY bN,ax,_,rfl,rfl,by rw[Ds];simp⟩
   ·rintro ys J H' ⟨o,rfl,rfl,rfl⟩ D hD;have sD:=aK (o:=.lst (((AV (min m 12)).map (w0 f)).map V.str)) hD;have eD:upd H' D (.lst (((AV (min m 12)).map (w0 f)).map V.str)) D=some (.lst (((AV (min m 12)).map (w0 f)).map V.str)):=aA;have az:=aa.same sD;have kD:=k2.same sD;generalize upd H' D (.lst (((AV (min m 12)).map (w0 f)).map V.str))=H3 at eD az kD ⊢;refine⟨_,rfl,_,rfl,_,rfl,D,_,rfl,.inl (aY eD),_,_,rfl,rfl,_,rfl,?_⟩;rw[show((m:Int) - ((((AV (min m 12)).map (w0 f)).map V.str).length:Nat))=((m - min m 12:Nat):Int) by simp;omega];refine⟨by omega,by omega,?_⟩;rw[B2];refine gM (n:=m - min m 12) (fun i ys J H'=>∃(o:Option V),J=[o,some (.str abc)]∧H'=H3∧ys=((AV i).map q0).map V.str) ⟨none,rfl,rfl,rfl⟩ (aP (by omega)) (fun i ys σ H p=>by obtain⟨_,_,_,e⟩:=p;rw[e];simp) ?_ ?_
    ·rintro i ys J H' hi ⟨o,rfl,rfl,rfl⟩;dsimp only[aU];refine eZ ?_;refine⟨_,rfl,_,rfl,_,_,rfl,rfl,⟨by decide,by decide⟩,_,_,fH (i / 26),rfl,rfl,zA,?_,_,_,rfl,rfl,aP (by show 1 + 1≤1000000;decide),_,rfl,_,rfl,_,_,rfl,rfl,(by show(0:Int) < 26;decide),_,_,fH i,rfl,rfl,zA,?_,_,_,rfl,rfl,aP (by show 2 + 1≤1000000;decide),?_⟩
     ·rw[xD (by omega) (by omega)];unfold fH;congr 1;omega
     ·exact xF _ (by omega)
     ·exact⟨_,rfl,rfl,by rw[Ds];simp;rfl⟩
    ·rintro ys J H' ⟨o,rfl,rfl,rfl⟩ E2 bR;have sE:=aK (o:=.lst (((AV (m - min m 12)).map q0).map V.str)) bR;refine⟨D,E2,_,_,rfl,rfl,sE _ _ eD,aA,aP (by simp;omega),fun L hL=>?_⟩;have sL:=aK (o:=.lst (((AV (min m 12)).map (w0 f)).map V.str ++ ((AV (m - min m 12)).map q0).map V.str)) hL;refine k L _ a2 _ ?_ (by rw[aA,← Az]) (by simp;omega) (nm0 hm) (by omega) (by omega) ((az.same sE).same sL) ((kD.same sE).same sL);exact lF (az.same sE) (kD.same sE) hL
  ·refine⟨fun J H'=>J=[some (.ref p),some (.int m),some (.str abc),some (.ref lt),some (.int au),some (.int f),none,none,none,none,none,none,none,none]∧H'=H2,?_,?_⟩
   ·refine⟨_,rfl,rfl,_,rfl,cR (fun g1=>?_) (fun g1=>dS ⟨rfl,rfl⟩)⟩;refine⟨_,rfl,_,_,rfl,rfl,_,rfl,cR (fun g2=>?_) (fun g2=>⟨rfl,rfl⟩)⟩;have bf:m < 27:=by have:=Ie g2;omega
    refine⟨_,rfl,_,rfl,by omega,by omega,?_⟩;rw[B2];refine gM (n:=m) (fun i ys J H'=>∃(o:Option V),J=[o,some (.str abc),some (.int f)]∧H'=H2∧ys=((AV i).map (w1 f)).map V.str) ⟨none,rfl,rfl,rfl⟩ (aP (by omega)) (fun i ys σ H p=>by obtain⟨_,_,_,e⟩:=p;rw[e];simp) ?_ ?_
    ·rintro i ys J H' hi ⟨o,rfl,rfl,rfl⟩;dsimp only[aU];refine eZ ?_;exact⟨_,rfl,_,rfl,_,rfl,_,_,rfl,rfl,.inl ⟨by decide,by decide⟩,_,_,rfl,rfl,_,_,rfl,rfl,(by show(0:Int) < 26;decide),_,_,fH (f + 5 * i),rfl,rfl,zA,xF _ (by omega),_,rfl,rfl,by rw[Ds];simp;rfl⟩
    ·rintro ys J H' ⟨o,rfl,rfl,rfl⟩ L hL;have sL:=aK (o:=.lst (((AV m).map (w1 f)).map V.str)) hL;exact k L _ a2 _ (lF aa k2 hL) aA (by simp) (nm1 bf) (by omega) (by omega) (aa.same sL) (k2.same sL)
   ·rintro J H' ⟨rfl,rfl⟩;refine⟨zZ6,fun q hq=>?_⟩;have sq:=aK (o:=.lst [V.int 1,.int 5,.int 27,.int 85,.int 181,.int 335]) hq;refine⟨_,rfl,p,c,ns,a2,6,rfl,aa.same sq,by omega,by decide,by decide,fun r3 a3 H3 bW dg di c1 bw be=>?_⟩;obtain⟨v,hv,ax⟩:=aHk (xs:=[V.int 1,.int 5,.int 27,.int 85,.int 181,.int 335]) (i:=r3) bW (by show r3 < 6;omega);obtain⟨sp,rfl,hsp⟩:∃ s:Nat,v=.int s∧s∈[1,5,27,85,181,335]:=by
     simp only[Ak,Ao,or_false]at hv;rcases hv with rfl | rfl | rfl | rfl | rfl | rfl
     ·exact⟨1,rfl,by simp⟩
     ·exact⟨5,rfl,by simp⟩
     ·exact⟨27,rfl,by simp⟩
     ·exact⟨85,rfl,by simp⟩
     ·exact⟨181,rfl,by simp⟩
     ·exact⟨335,rfl,by simp⟩
    have k3:=(k2.same sq).trans be;refine⟨q,_,r3,_,rfl,rfl,aY (cW aA (aa.same sq) be),ax,rfl,_,rfl,p,c,ns,a3,7,rfl,bw,by omega,by decide,by decide,fun n4 a4 H4 dd cg df db bP bv=>?_⟩;refine⟨n4,rfl,by omega,by omega,?_⟩;have k4:=k3.trans bv;refine gM (fun i ys J H'=>∃(a':Int) (bs:List Nat) (o:Option V),J=[o,some (.ref p),some (.str abc)]∧dD K H' p c ns a'∧bA p H H'∧a4≤a'∧a'≤a4 + i∧ys=(bs.map fun c=>mk [c]).map V.str∧bs.length=i∧(∀ c∈bs,isL c=true))
     ⟨a4,[],none,rfl,bP,k4,by omega,by omega,rfl,rfl,fun w hw=>by simp at hw⟩ (aP (by omega)) (fun i ys σ H p=>by obtain⟨_,bs,_,_,_,_,_,_,rfl,e,_⟩:=p;rw[Aa,Aa,e];exact Am _) ?_ ?_
    ·rintro i' ys J H5 cs ⟨a',bs,o,rfl,aI,av,cL,dc,rfl,hl,hb⟩;dsimp only[aU];refine eZ ?_;refine⟨_,rfl,_,rfl,p,c,ns,a',_,rfl,aI,by omega,by decide,by decide,fun r6 a6 H6 bu b2 l6 u6 af ag=>?_⟩;refine⟨_,r6,fH r6.toNat,rfl,rfl,zA,xD bu b2,a6,bs ++ [fH r6.toNat],_,rfl,af,av.trans ag,by omega,by omega,by rw[Az,Az];rfl,by rw[AD,hl];rfl,fun c hc=>?_⟩;rcases AS.mp hc with z | z
     ·exact hb c z
     ·rw[AF.mp z];exact tP _
    ·rintro ys J H5 ⟨a5,b,o,rfl,aI,av,l5,u5,rfl,ck,hb⟩ D hD;have aC:b.length≤6:=by omega
     have e0:(BF "").length=0:=by decide
     refine⟨_,D,b.map (fun c=>mk [c]),rfl,rfl,aY aA,by
      rw[aFZ (fun w hw=>by obtain⟨x,_,rfl⟩:=AR.mp hw;rfl),Aa,e0];omega,?_⟩
     rw[aFX];have af:=aI.same (aK (o:=.lst ((b.map fun c=>mk [c]).map V.str)) hD);have ag:bA p H _:=av.same (aK (o:=.lst ((b.map fun c=>mk [c]).map V.str)) hD);generalize upd H5 D (.lst ((b.map fun c=>mk [c]).map V.str))=H6 at af ag ⊢;refine⟨_,rfl,_,rfl,mk b,rfl,aP (by rw[iK];omega),_,_,rfl,rfl,p,c,ns,a5,_,rfl,af,by omega,by omega,by rw[iK];omega,fun ss a7 H7 s0 s1 l7 u7 bb bO=>?_⟩;rw[iK]at s1;obtain⟨st,rfl⟩:∃ st:Nat,ss=st:=⟨ss.toNat,by omega⟩
     refine⟨A0 _,fun L hL=>?_⟩;have bc:=ag.trans bO;have ba:=lF bb bc hL;have sL:=aK (o:=.lst []) hL;have cz:=aIK hsp;refine⟨_,rfl,m,rfl,by omega,by omega,mX (n:=(m:Int).toNat) (fun i σ H'=>Ex3 fun(ao ar ap:Option V)=>Ex3 fun(ae:Option V) (a':Int) (ws:List Str)=>Aw6 (σ=[some (.ref p),some (.int m),some (.str abc),some (.ref lt),some (.int au),some (.int f),some (.ref L),some (.int sp),some (.str (mk b)),some (.int st),ao,ar,ap,ae]) (dD K H' p c ns a') (bA p H H') (a7≤a') (a'≤a7 + i) (Aw3 (H' L=some (.lst (ws.map V.str))) (ws.length=i) (Nms ws∧∀ z∈ws,∃ k t,k < i∧z=w2 b st ((f + sp * k) % 676) t)))
      ⟨_,_,_,_,a7,[],rfl,bb.same sL,bc.same sL,by omega,by omega,aA,rfl,⟨DF,fun z O=>by simp at O⟩,fun z O=>by simp at O⟩ ?_ ?_⟩
     ·rintro i σ H8 hi ⟨ao,ar,ap,ae,a8,ws,rfl,Z,k8,l8,u8,eL,bj,hN,hW⟩;dsimp only[aU];have zB:(mk b).length≤sizeLine:=aP (by rw[iK];omega);refine⟨_,rfl,_,rfl,_,rfl,_,_,rfl,rfl,.inl ⟨by omega,by omega⟩,_,_,rfl,rfl,_,_,rfl,rfl,(by show(0:Int) < 676;decide),?_⟩;dsimp only[aU];rw[show(((f:Int) + (sp:Int) * (0 + (i:Int))) % 676)=(((f + sp * i) % 676:Nat):Int) by rw[DO,← Int.natCast_mul,← F7];rfl];have hn:(f + sp * i) % 676 < 676:=Nat.mod_lt _ (by decide);have aj:∀ k,k < i→(f + sp * k) % 676≠(f + sp * i) % 676:=fun k hk e=>by
       have:=aFY hsp (by omega) (by omega) e;omega
      generalize bI:(f + sp * i) % 676=n at hn aj ⊢;refine⟨_,rfl,_,rfl,_,rfl,mk b,rfl,zB,?_⟩;rw[aFW aC (by omega)];refine⟨fun J H'=>∃(t:Nat) (a':Int),J=[some (.ref p),some (.int m),some (.str abc),some (.ref lt),some (.int au),some (.int f),some (.ref L),some (.int sp),some (.str (mk b)),some (.int st),some (.int (0 + i)),some (.int n),some (.str (mk ((b.drop st).take t))),ae]∧dD K H' p c ns a'∧bA p H H'∧a8≤a'∧a'≤a8 + 1∧H' L=some (.lst (ws.map V.str)),?_,?_⟩
      ·refine⟨_,rfl,rfl,_,rfl,cR (fun g=>?_) (fun g=>?_)⟩
       ·have zT:(mk (b.drop st)).length≤sizeLine:=aP (by rw[iK,B9];omega);refine⟨_,rfl,_,rfl,_,rfl,mk (b.drop st),rfl,zT,_,_,rfl,rfl,p,c,ns,a8,_,rfl,Z,by omega,by omega,by rw[iK,B9];omega,fun r a9 H9 r0 r1 l9 u9 aL k9=>?_⟩;rw[iK]at r1;obtain⟨t,rfl⟩:∃ t:Nat,r=t:=⟨r.toNat,by omega⟩
        refine⟨_,rfl,_,rfl,zT,?_⟩;rw[aGH (by rw[B9];omega) (by omega)];exact⟨t,a9,rfl,aL,k8.trans k9,by omega,by omega,cW eL Z k9⟩
       ·exact⟨b.length,a8,by rw[Bg (by rw[B9];omega)];rfl,Z,k8,by omega,by omega,eL⟩
      ·rintro J H9 ⟨t,a9,rfl,aL,k9,l9,u9,al⟩;refine⟨_,rfl,_,rfl,_,_,rfl,rfl,⟨by decide,by decide⟩,_,_,fH (n / 26),rfl,rfl,zA,?_,_,rfl,_,rfl,_,_,rfl,rfl,(by show(0:Int) < 26;decide),_,_,fH n,rfl,rfl,zA,?_,_,_,rfl,rfl,aP (by show 1 + 1≤1000000;decide),?_⟩
       ·rw[xD (by omega) (by omega)];unfold fH;congr 1
       ·exact xF _ (by omega)
       have bd:∀{x y},(Eh (mk b) x y).length≤6:=fun{x y}=>AI (E3 _ x y) (by rw[iK];omega);have h2:((⟨#[fH (n / 26)]⟩:Str) ++ ⟨#[fH n]⟩).length=2:=rfl;have h3:(mk ((b.drop st).take t)).length≤6:=by rw[iK,AJ,B9];omega
       refine⟨_,rfl,.inl ⟨rfl,_,aY al⟩,_,rfl,_,rfl,_,rfl,mk b,rfl,zB,_,rfl,_,_,rfl,rfl,aP (by have:=bd (x:=none) (y:=some (st:Int));omega),_,rfl,_,_,rfl,rfl,aP (by have:=bd (x:=none) (y:=some (st:Int));rw[DK];omega),L,_,_,rfl,rfl,al,by rw[Aa];exact cV (by omega),?_⟩;have ew:(Eh (mk b) none (some (st:Int)) ++ ((⟨#[fH (n / 26)]⟩:Str) ++ ⟨#[fH n]⟩)) ++ mk ((b.drop st).take t)=w2 b st n t:=by
        rw[aGH aC (by omega)];rw[show((⟨#[fH (n / 26)]⟩:Str) ++ ⟨#[fH n]⟩)=mk [fH (n / 26),fH n] from rfl,aEr,aEr];rfl
       rw[ew];obtain⟨hpA,kA⟩:=dD.app (ys:=ws.map V.str ++ [V.str (w2 b st n t)]) hp aL k9 ba al;refine⟨_,_,_,_,a9,ws ++ [w2 b st n t],rfl,hpA,kA,by omega,by omega,by rw[aA,Az];rfl,by rw[AD,bj];rfl,⟨Bn.mpr ⟨hN.nd,(by simp),fun x hx y hy e=>?_⟩,fun z O=>?_⟩,fun z O=>?_⟩
       ·rw[AF.mp hy]at e;obtain⟨k',t',hk',rfl⟩:=hW x hx;exact aj k' hk' (aHG (Nat.mod_lt _ (by decide)) hn e)
       ·rcases AS.mp O with O | O
        ·exact hN.ok z O
        ·rw[AF.mp O];exact aIJ aC hb
       ·rcases AS.mp O with O | O
        ·obtain⟨k',t',hk',e⟩:=hW z O;exact⟨k',t',by omega,e⟩
        ·exact⟨i,t,by omega,by rw[bI];exact AF.mp O⟩
     ·rintro σ H8 ⟨ao,ar,ap,ae,a8,ws,rfl,Z,k8,l8,u8,eL,bj,hN,hW⟩;exact⟨_,rfl,k L ws a8 H8 ba eL (by omega) hN (by omega) (by omega) Z k8⟩
abbrev Pc:=Str×Int×Int
def pcT(p:Pc):HO:=.tup [.str p.1,.int p.2.1,.int p.2.2]
def eQ(H:Hp)(xs:List V)(ps:List Pc):Prop:=By (fun(x:V) (p:Pc)=>∃ q,x=.ref q∧H q=some (pcT p)) xs ps
def d6(H H':Hp):Prop:=∀ q xs,H q=some (.tup xs)→H' q=some (.tup xs)
theorem bV{H H':Hp}(s:b9 H H'):d6 H H':=fun q xs e=>s _ _ e
theorem eQ.on{H H':Hp}{xs:List V}{ps:List Pc}(h:eQ H xs ps)(t:d6 H H'):eQ H' xs ps:=Paired.mapP h fun x p ⟨q,e,z⟩=>⟨q,e,t _ _ z⟩
theorem eQ.same{H H':Hp}{xs:List V}{ps:List Pc}(h:eQ H xs ps)(s:b9 H H'):eQ H' xs ps:=h.on fun q xs e=>s _ _ e
theorem BY{α β:Type}{R:α→β→Prop}{a:α}{b:β}(r:R a b):∀{as:List α}{bs:List β},By R as bs→By R (as ++ [a]) (bs ++ [b])
 | _,_,.nil=>.cons r .nil
 | _,_,.cons q t=>.cons q (BY r t)
theorem Paired.app{α β:Type}{R:α→β→Prop}:∀{as F:List α}{bs z:List β},By R as bs→By R F z→By R (as ++ F) (bs ++ z)
 | _,_,_,_,.nil,s=>s
 | _,_,_,_,.cons q t,s=>.cons q (Paired.app t s)
theorem eQ.at{H:Hp}{xs:List V}{ps:List Pc}(h:eQ H xs ps){i:Nat}{x:V}(e:xs[i]?=some x):∃ p q,ps[i]?=some p∧x=.ref q∧H q=some (pcT p):=by
 have hl:=Bx h;obtain⟨hi,_⟩:=At.mp e;obtain⟨q,e1,e2⟩:=Paired.at h e (Ai (show i < ps.length by omega));exact⟨_,q,Ai (by omega),e1,e2⟩
def dI(p:Pc):Int:=p.2.2 - p.2.1
def acr(ps:List Pc):Int:=(ps.map dI).sum
theorem tR(p:Pc)(ps:List Pc):acr (p :: ps)=dI p + acr ps:=by simp[acr]
theorem lG(ps q:List Pc):acr (ps ++ q)=acr ps + acr q:=by simp[acr]
structure f9(ws:List Str)(ps:List Pc):Prop where
 ok:∀ p∈ps,p.1∈ws∧p.2.1 < p.2.2
theorem f9.app{ws:List Str}{ps q:List Pc}(a:f9 ws ps)(b:f9 ws q):f9 ws (ps ++ q):=⟨fun p z=>(AS.mp z).elim (a.ok p) (b.ok p)⟩
theorem f9.len{ws:List Str}:∀{ps:List Pc},f9 ws ps→(ps.length:Int)≤acr ps
 | [],_=>by simp[acr]
 | p :: ps,h=>by
  have h1:=f9.len (ps:=ps) ⟨fun q z=>h.ok q (Ap _ z)⟩;have h2:=(h.ok p Al).2;rw[tR,AK];unfold dI;omega
def pI(f:Str)(s e:Int):List Pc:=if s < e then[(f,s,e)] else[]
def iL(p:Pc)(lo hi:Int):List Pc:=pI p.1 (if p.2.1 + lo > p.2.1 then p.2.1 + lo else p.2.1) (if p.2.1 + hi < p.2.2 then p.2.1 + hi else p.2.2)
def nG:List Pc→Int→Int→List Pc
 | [],_,_=>[]
 | p :: r,lo,hi=>iL p lo hi ++ nG r (lo - dI p) (hi - dI p)
theorem vT(p:Pc):∀(ps:List Pc) (lo hi:Int),nG (ps ++ [p]) lo hi=nG ps lo hi ++ iL p (lo - acr ps) (hi - acr ps)
 | [],lo,hi=>by simp[nG,acr]
 | q :: ps,lo,hi=>by
  show iL q lo hi ++ nG (ps ++ [p]) (lo - dI q) (hi - dI q)=(iL q lo hi ++ nG ps (lo - dI q) (hi - dI q)) ++ _;rw[vT p ps,AY,tR,Int.sub_sub,Int.sub_sub]
def bef:List Pc→Int→Int
 | [],_=>0
 | p :: r,x=>(if x≤0 then 0 else if x≤dI p then x else dI p) + bef r (x - dI p)
theorem aBU{ws:List Str}:∀{ps:List Pc}{lo hi:Int},f9 ws ps→lo≤hi→acr (nG ps lo hi)=bef ps hi - bef ps lo
 | [],lo,hi,_,_=>by simp[nG,acr,bef]
 | p :: r,lo,hi,h,hl=>by
  have z:=aBU (ps:=r) (lo:=lo - dI p) (hi:=hi - dI p) ⟨fun q F=>h.ok q (Ap _ F)⟩ (by omega);have h2:=(h.ok p Al).2;show acr (iL p lo hi ++ nG r (lo - dI p) (hi - dI p))=((if hi≤0 then 0 else if hi≤dI p then hi else dI p) + bef r (hi - dI p)) - ((if lo≤0 then 0 else if lo≤dI p then lo else dI p) + bef r (lo - dI p));rw[lG,z];have:acr (iL p lo hi)=(if hi≤0 then 0 else if hi≤dI p then hi else dI p) - (if lo≤0 then 0 else if lo≤dI p then lo else dI p):=by
   unfold iL pI dI at *
   repeat' split
   all_goals simp only[acr,Av,CL,Cf,List.sum_nil,dI]
   all_goals omega
  omega
theorem aBc{ws:List Str}{f:Str}{s e:Int}(F:f∈ws):∀ q∈pI f s e,q.1∈ws∧q.2.1 < q.2.2:=fun q z=>by
 unfold pI at z;split at z
 ·rw[AF.mp z];exact⟨F,by assumption⟩
 ·simp at z
theorem aC0(f:Str)(s e:Int):(pI f s e).length≤1:=by
 unfold pI;split <;> simp
theorem aC1(p:Pc)(lo hi a:Int):iL p (lo - a) (hi - a)=pI p.1 (if p.2.1 + lo - a > p.2.1 then p.2.1 + lo - a else p.2.1) (if p.2.1 + hi - a < p.2.2 then p.2.1 + hi - a else p.2.2):=by
 unfold iL;rw[Int.add_sub_assoc,Int.add_sub_assoc]
theorem zF{ws:List Str}:∀{ps:List Pc}{lo hi:Int},f9 ws ps→f9 ws (nG ps lo hi)
 | [],_,_,_=>⟨fun p F=>by simp[nG]at F⟩
 | p :: r,lo,hi,h=>by
  refine f9.app ⟨fun q z=>?_⟩ (zF ⟨fun q z=>h.ok q (Ap _ z)⟩);unfold iL at z;exact aBc (h.ok p Al).1 q z
theorem aGK:∀(ps:List Pc) (x:Int),(∀ p∈ps,p.2.1 < p.2.2)→x≤0→bef ps x=0
 | [],_,_,_=>rfl
 | p :: r,x,h,z=>by
  have h2:=h p Al;have F:=aGK r (x - dI p) (fun q J=>h q (Ap _ J)) (by unfold dI;omega);show(if x≤0 then 0 else _) + bef r (x - dI p)=0;rw[F,Ib z];rfl
theorem aEy:∀(ps:List Pc) (x:Int),(∀ p∈ps,p.2.1 < p.2.2)→bef ps x≤acr ps
 | [],_,_=>by simp[bef,acr]
 | p :: r,x,h=>by
  have h2:=h p Al;have F:=aEy r (x - dI p) fun q z=>h q (Ap _ z);rw[tR];show(if x≤0 then 0 else if x≤dI p then x else dI p) + bef r (x - dI p)≤_;have:(if x≤0 then 0 else if x≤dI p then x else dI p)≤dI p:=by
   unfold dI
   repeat' split
   all_goals omega
  omega
theorem zG:∀(ps:List Pc) (lo hi:Int),(nG ps lo hi).length≤ps.length
 | [],_,_=>Am _
 | p :: r,lo,hi=>by
  have:=zG r (lo - dI p) (hi - dI p);have h2:(iL p lo hi).length≤1:=aC0 _ _ _;show(iL p lo hi ++ nG r (lo - dI p) (hi - dI p)).length≤_;rw[AD,AK];omega
inductive vU(vs:List V)(H:Hp)(Q:VK)(u3_:XK):Prop
 | mk (t:Ae) (xs:List V) (ps:List Pc) (q0:vs=[.ref t]) (q1:H t=some (.tup xs)) (q2:eQ H xs ps) (q3:xs.length≤sizeLine) (q4:∀ H',b9 H H'→Q (.int (acr ps)) H'):vU vs H Q u3_
def aBV:Sp:=fun vs H Q u3_=>vU vs H Q u3_
inductive aBW(vs:List V)(H:Hp)(Q:VK)(u3_:XK):Prop
 | mk (t:Ae) (xs:List V) (ps:List Pc) (lo hi:Int) (q0:vs=[.ref t,.int lo,.int hi]) (q1:H t=some (.tup xs)) (q2:eQ H xs ps) (q3:xs.length≤sizeLine) (q4:∀(t':Ae) (ys:List V) (H':Hp),b9 H H'→H' t'=some (.tup ys)→eQ H' ys (nG ps lo hi)→Q (.ref t') H'):aBW vs H Q u3_
def aGL:Sp:=fun vs H Q u3_=>aBW vs H Q u3_
theorem aF0:bY ["pieces"] ["pieces"] (aO wZ):=⟨rfl,rfl,rfl,by decide,rfl,by decide,by decide⟩
theorem aEz{f:Ae}{fd:A3}(F:Fun K "acres_in" "acres_in" wZ f fd)(z:mg "sum"=none):cP P w K mg base CX0 1 f fd ["pieces"] aBV:=by
 refine F.ok aF0 (fun vs H Q E h=>?_) (fun aa A outer s H vs Q E hr h=>?_)
 ·obtain⟨t,xs,ps,rfl,_⟩:=h;rfl
 ·obtain⟨t,xs,ps,rfl,ht,hps,hz,k⟩:=h;have nd:(["field","low","high"]:List Str).Nodup:=by decide
  refine⟨_,aM (bF (aW (sQ rfl) (by rfl) z Ep (aF (c5 (N:=["field","low","high"]) (src:=[none,none,none]) (osc:=aO wZ) (oN:=["pieces"]) (g:=qU K 3 (c7 (aU 0) (c7 (aU 1) (c7 (aU 2) qS)))) ⟨by rfl,by decide,by decide,by decide,rfl,by rfl⟩ (dE (pv 0))
   fun cl s H fp gz C=>⟨fJ rfl (bH (aR (i:=0) nd rfl (Ar rfl)) (bH (aR (i:=1) nd rfl (Ar rfl)) (bH (aR (i:=2) nd rfl (Ar rfl)) dU))),c8,bC kX (pv 2) (pv 1)⟩) aE))),?_⟩
  have hl:=Bx hps;refine⟨_,rfl,t,rfl,⟨_,aH ht⟩,?_⟩;refine dN (K:=K) (xs:=xs) (fun i ys O H'=>Ex3 fun(Y J M:Option V)=>Aw3 (O=[Y,J,M]) (b9 H H') (ys=((ps.take i).map dI).map V.int)) ⟨none,none,none,rfl,b9.refl H,by simp⟩
   hz (fun i ys σ H' p=>by obtain⟨_,_,_,_,_,rfl⟩:=p;simp;omega) (fun i ys σ H' p=>by obtain⟨_,_,_,_,S,_⟩:=p;exact aH (S _ _ ht)) ?_ ?_
  ·rintro i v ys O H1 hv ⟨Y,J,M,rfl,S,rfl⟩;obtain⟨p,q,hp,rfl,hq⟩:=hps.at hv;refine⟨q,_,rfl,aH (S _ _ hq),rfl,_,_,rfl,_,_,rfl,_,_,rfl,rfl,eZ ?_⟩;refine⟨_,rfl,_,rfl,_,_,rfl,rfl,_,_,_,rfl,S,?_⟩;rw[AE,hp];simp[dI]
  ·rintro ys O H1 ⟨Y,J,M,rfl,S,rfl⟩ D Z;rw[hl,AM];exact⟨D,ps.map dI,rfl,aY aA,k _ (S.trans (aK Z))⟩
theorem pJ:bY ["pieces","low","high","told","ahead","field","first","last","start","end"] ["pieces","low","high"] (aO aHu):=⟨rfl,rfl,rfl,by decide,rfl,by decide,by decide⟩
theorem aHH{f:Ae}{fd:A3}(F:Fun K "cut" "cut" aHu f fd)(ab:mg "max"=none)(Y:mg "min"=none)(Z:mg "tuple"=none):cP P w K mg base CX0 1 f fd ["pieces","low","high"] aGL:=by
 refine F.ok pJ (fun vs H Q E h=>?_) (fun au A outer s H vs Q E hr h=>?_)
 ·obtain⟨t,xs,ps,lo,hi,rfl,_⟩:=h;rfl
 ·obtain⟨t,xs,ps,lo,hi,rfl,ht,hps,hz,k⟩:=h;refine⟨_,aB (aX (i:=3) pJ.nd rfl (Ar rfl) (c6 aE))
   (aB (aX (i:=4) pJ.nd rfl (Ar rfl) aD)
   (aB (d8 A7 rfl (dE (pv 0)) (g:=qU K 3 (c7 (aU 5) (c7 (aU 6) (c7 (aU 7) qS)))) (fJ rfl (bH (aR (i:=5) pJ.nd rfl (Ar rfl)) (bH (aR (i:=6) pJ.nd rfl (Ar rfl)) (bH (aR (i:=7) pJ.nd rfl (Ar rfl)) dU))))
    (aB (aX (i:=8) pJ.nd rfl (Ar rfl) (aW (uT rfl) (by rfl) ab (by kernel_rfl) (aF (pv 6) (aF (bC kX (bC cX (pv 6) (pv 1)) (pv 4)) aE))))
    (aB (aX (i:=9) pJ.nd rfl (Ar rfl) (aW (mZ rfl) (by rfl) Y (by kernel_rfl) (aF (pv 7) (aF (bC kX (bC cX (pv 6) (pv 2)) (pv 4)) aE))))
    (aB (cC (aZ oR (pv 8) (pv 9) (bG _)) (aM (dP (j0 A8 BC BB fG (pv 3) (aF (cH (aF (pv 5) (aF (pv 8) (aF (pv 9) aE)))) aE)))) bB)
    (aM (aDl (i:=4) pJ.nd rfl (Ar rfl) (bC kX (pv 7) (pv 6)) aDm))))))
   (aM (bF (dL eO (by rfl) Z (by kernel_rfl) (aF (pv 3) aE)))))),?_⟩
  have hl:=Bx hps;refine⟨A0 _,fun L hL=>?_⟩;have sL:=aK (o:=.lst []) hL;refine⟨_,rfl,t,rfl,⟨_,aH (sL _ _ ht)⟩,?_⟩;refine gZ (K:=K) (xs:=xs) (fun i σ H'=>Ex3 fun(o5 o6 o7:Option V)=>Ex3 fun(o8 o9:Option V) (ys:List V)=>Aw3 (σ=[some (.ref t),some (.int lo),some (.int hi),some (.ref L),some (.int (acr (ps.take i))),o5,o6,o7,o8,o9]) (b9 H H') (H' L=some (.lst ys)∧eQ H' ys (nG (ps.take i) lo hi)))
   ⟨none,none,none,none,none,[],rfl,sL,aA,.nil⟩ (fun i σ H' _ p=>by obtain⟨_,_,_,_,_,_,_,S,_⟩:=p;exact aH (S _ _ ht)) ?_ ?_
  ·rintro i v σ H1 hv ⟨o5,o6,o7,o8,o9,ys,rfl,S,J,O⟩;obtain⟨p,q,hp,rfl,hq⟩:=hps.at hv;refine⟨q,_,rfl,aH (S _ _ hq),rfl,_,_,rfl,_,_,rfl,_,_,rfl,rfl,_,rfl,_,rfl,_,rfl,_,_,rfl,rfl,_,rfl,_,_,rfl,rfl,_,_,rfl,_,rfl,_,rfl,_,rfl,_,_,rfl,rfl,_,rfl,_,_,rfl,rfl,_,_,rfl,_,rfl,_,rfl,_,_,rfl,rfl,_,rfl,?_⟩;have ea:acr (ps.take (i + 1))=acr (ps.take i) + (p.2.2 - p.2.1):=by
    rw[AE,hp,lG];simp[acr,dI]
   have M:=vT p (ps.take i) lo hi;rw[aC1]at M;have et:ps.take (i + 1)=ps.take i ++ [p]:=by rw[AE,hp];rfl
   rw[← et]at M;have aw:=Bx O;have aj:=zG (ps.take i) lo hi;have am:=List.length_take_le i ps;refine cR (fun g=>?_) fun g=>?_
   ·have g':=Ie g;unfold pI at M;rw[Ib g']at M;refine⟨_,rfl,.inl ⟨rfl,_,aY J⟩,_,rfl,_,rfl,_,rfl,zZ3,fun q2 ad=>?_⟩;have s2:=aK (o:=pcT (p.1,(if p.2.1 + lo - acr (ps.take i) > p.2.1 then p.2.1 + lo - acr (ps.take i) else p.2.1),(if p.2.1 + hi - acr (ps.take i) < p.2.2 then p.2.1 + hi - acr (ps.take i) else p.2.2))) ad;have af:L≠q2:=aJ J ad;refine⟨L,ys,_,rfl,rfl,s2 _ _ J,?_,?_⟩
    ·obtain⟨hi',_⟩:=At.mp hp;rw[AJ]at am aj;omega
    ·refine⟨_,rfl,_,rfl,_,rfl,_,_,rfl,rfl,_,_,rfl,rfl,_,_,_,_,_,ys ++ [.ref q2],by rw[ea];rfl,fun b o e=>?_,aA,?_⟩
     ·rw[aG (aJ e hL)];exact s2 _ _ (S _ _ e)
     ·rw[M];have al:=O.on (H':=upd (upd H1 q2 _) L (.lst (ys ++ [.ref q2]))) fun b us e=>by
       rw[aG (fun z=>by rw[z,J]at e;cases e)];exact s2 _ _ e
      exact BY ⟨q2,rfl,by rw[aG af.symm];exact aA⟩ al
   ·have g':¬ _:=fun z=>g (Ic z);unfold pI at M;rw[Ia g',BN]at M;exact⟨_,rfl,_,rfl,_,rfl,_,_,rfl,rfl,_,_,rfl,rfl,_,_,_,_,_,ys,by rw[ea];rfl,S,J,by rw[M];exact O⟩
  ·rintro σ H1 ⟨o5,o6,o7,o8,o9,ys,rfl,S,J,O⟩;rw[hl,AM]at O;refine⟨_,rfl,L,ys,rfl,.inl ⟨aY J,fun t' ai=>?_⟩⟩;have s2:=aK (o:=.tup ys) ai;exact k t' ys _ (S.trans s2) aA (O.same s2)
def uP:Pos:=⟨29,47,29,88⟩
def aIL:Str:=(("in_one":Str) ++ ".<locals>.") ++ "<lambda>"
abbrev Tb(T:Ae)(H:Hp):Prop:=lM T uP aIL H
theorem cE{T:Ae}{H H':Hp}(s:dH T H H')(g:Tb T H):d6 H H':=fun q xs e=>s _ _ (fun z=>by
 obtain⟨ps,hT,_⟩:=g.ex;rw[z,hT]at e;cases e) e
theorem aEA{H:Hp}{xs ys:List V}(Y:ys.Perm xs):∀{ps:List Pc},eQ H xs ps→∃ q,q.Perm ps∧eQ H ys q:=by
 induction Y with
 | nil=>intro ps h;exact⟨ps,.refl _,h⟩
 | cons a _ J=>
  intro ps h;cases h with
  | cons r t=>
   obtain⟨q,h1,h2⟩:=J t;exact⟨_ :: q,h1.cons _,.cons r h2⟩
 | swap a b l=>
  intro ps h;cases h with
  | cons r t=>
   cases t with
   | cons M O=>exact⟨_ :: _ :: _,.swap _ _ _,.cons M (.cons r O)⟩
 | trans _ _ z F=>
  intro ps h;obtain⟨q,h1,h2⟩:=F h;obtain⟨rs,h3,h4⟩:=z h2;exact⟨rs,h3.trans h1,h4⟩
theorem aEB{ps q:List Pc}(h:q.Perm ps):acr q=acr ps:=by
 unfold acr
 induction h with
 | nil=>rfl
 | cons a _ z=>simp[z]
 | swap a b l=>simp;omega
 | trans _ _ h1 h2=>exact h1.trans h2
theorem f9.perm{ws:List Str}{ps q:List Pc}(g:f9 ws ps)(h:q.Perm ps):f9 ws q:=⟨fun p z=>g.ok p (h.mem_iff.mp z)⟩
theorem qO{α β:Type}{R:α→β→Prop}{a:α}:∀{as:List α}{bs:List β},By R (as ++ [a]) bs→∃ q b,bs=q ++ [b]∧By R as q∧R a b
 | [],_,h=>by
  cases h with
  | cons r t=>
   cases t;exact⟨[],_,rfl,.nil,r⟩
 | x :: as,_,h=>by
  cases h with
  | cons r t=>
   obtain⟨q,b,rfl,h1,h2⟩:=qO t;exact⟨_ :: q,b,rfl,.cons r h1,h2⟩
theorem zH{α:Type}(l:List α):l=[]∨∃ r x,l=r ++ [x]:=by
 rcases List.eq_nil_or_concat l with h | ⟨r,x,h⟩
 ·exact .inl h
 ·exact .inr ⟨r,x,by rw[h,List.concat_eq_append]⟩
theorem aEC{T:Ae}{H H':Hp}(g:Tb T H)(k:∀ b o,H b=some o→¬ (∃ xs,H b=some (.lst xs))→H' b=some o):Tb T H':=by
 obtain⟨ps,h1,h2,q⟩:=g.ex;refine⟨ps,k _ _ h1 (fun⟨xs,z⟩=>by rw[h1]at z;cases z),h2,?_⟩;rcases q with q | ⟨c,q,F⟩
 ·exact .inl q
 ·exact .inr ⟨c,q,k _ _ F fun⟨xs,z⟩=>by rw[F]at z;cases z⟩
def nU(rks:List (Key×V))(ws:List Str):Prop:=∀ w∈ws,∃ n:Int,bS rks (Ac w)=some (.int n)
inductive vV(T:Ae)(vs:List V)(H:Hp)(Q:VK)(u3_:XK):Prop
 | mk (r l:Ae) (rks:List (Key×V)) (xs:List V) (ps:List Pc) (ws:List Str) (q0:vs=[.ref r,.ref l]) (q1:H r=some (.dK rks)) (q2:nU rks ws) (q3:H l=some (.lst xs)) (q4:eQ H xs ps) (q5:f9 ws ps) (q6:xs.length < sizeLine) (q7:Tb T H) (q8:∀(t:Ae) (ys:List V) (qs:List Pc) (H':Hp),dH T H H'→Tb T H'→H' t=some (.tup ys)→eQ H' ys qs→f9 ws qs→acr qs=acr ps→Q (.ref t) H'):vV T vs H Q u3_
def aBX(T:Ae):Sp:=fun vs H Q u3_=>vV T vs H Q u3_
theorem aBY:bY ["ranks","pieces","told","field","low","high"] ["ranks","pieces"] (aO p8):=⟨rfl,rfl,rfl,by decide,rfl,by decide,by decide⟩
theorem aED{f c T:Ae}{fd:A3}(F:Fun K "in_one" "in_one" p8 f fd)(be:fd.code=.ref c)(hC:Fy K c T=true)(hB:uM mg base)(aw:mg "sorted"=none)(aI:mg "tuple"=none):cP P w K mg base CX0 4 f fd ["ranks","pieces"] (aBX T):=by
 refine F.okC aBY (fun vs H Q E h=>?_) (fun bR A outer s H vs Q E ay hr h=>?_)
 ·obtain⟨r,l,rks,xs,ps,ws,rfl,_⟩:=h;rfl
 ·obtain⟨r,l,rks,xs,ps,ws,rfl,hR,hok,hl,hps,hg,hz,hT,k⟩:=h;rw[be]at ay;subst ay;have nd:=aBY.nd;refine⟨_,aB (aX (i:=2) nd rfl (Ar rfl) (c6 aE))
   (aB (d8 A7 rfl (iP (aA0 (k:=0) (x:="piece") (fs:=["ranks"]) (cl:=[("ranks",s.heap.objs.size + 1)]) (T:=T) hr rfl hC hB (by rfl) aw ⟨rfl,rfl,rfl,by decide,by decide,by decide,by decide⟩ ?hc ?hhas (fun _ _ _ _=>rfl)
     (fun f c s H=>cH (aF (bJ ?hu (pv 1) (aQ (r:=kZ K) aV (pv 0) aD Ig) Ig) (aF (aQ (r:=kZ K) aV (pv 0) aD Ig) aE))) (aF (pv 1) aE)))
    (g:=qU K 3 (c7 (aU 3) (c7 (aU 4) (c7 (aU 5) qS)))) (fJ rfl (bH (aR (i:=3) nd rfl (Ar rfl)) (bH (aR (i:=4) nd rfl (Ar rfl)) (bH (aR (i:=5) nd rfl (Ar rfl)) dU))))
    (aM (cC (wS (PW.pt (iH (aDp (pv 2) (fun _=>rfl)) (iH (aZ cT (aQ aV (aQ b8 (pv 2) (jU gL aD) Ig) aD Ig) (pv 3) (bG _)) (gF (aZ cT (aQ aV (aQ b8 (pv 2) (jU gL aD) Ig) aD Ig) (pv 4) (bG _)))))))
     (aM (iV (cH (aF (pv 3) (aF (aQ aV (aQ b8 (pv 2) (jU gL aD) Ig) aD Ig) (aF (pv 5) aE)))) (pV (pv 2) (jU gL aD) jW)))
     (aM (dP (j0 A8 BC BB fG (pv 2) (aF (cH (aF (pv 3) (aF (pv 4) (aF (pv 5) aE)))) aE)))))))
   (aM (bF (dL eO (by rfl) aI (by kernel_rfl) (aF (pv 2) aE))))),?_⟩
  case hc=>exact fun x b h=>h
  case hhas=>
   intro x h;have hm:=BO h;obtain rfl:x="ranks":=(show∀ y∈_,y.2=Bj→y.1=("ranks":Str) from by decide) (x,Bj) hm rfl;exact⟨_,rfl⟩
  case hu=>exact d7 ((hr.in1).in1.deeper _)
  refine⟨A0 _,fun L hL=>?_⟩;have sL:=aK (o:=.lst []) hL;have bm:=sL _ _ hl;have ak:=hps.same sL;have ai:Tb T _:=hT.same sL;have am:=sL _ _ hR;obtain⟨tps,hTt,_⟩:=ai.ex;refine⟨_,rfl,l,xs,[.ref r],rfl,aY bm,DM hz,.cons ⟨0,rfl,rfl,rfl⟩ .nil,ai,fun y hy H' sT=>?_,fun D ys H1 sT gT nD hp hD=>?_⟩
  ·obtain⟨i,hi⟩:=Cq hy;obtain⟨p,q,hp,rfl,hq⟩:=ak.at hi;have au:=cE sT ai _ _ hq;obtain⟨n,hn⟩:=hok p.1 (hg.ok p (AH hp)).1;have bf:H' r=some (.dK rks):=sT _ _ (fun z=>by rw[z,hTt]at am;cases am) am;refine⟨_,rfl,_,rfl,q,_,0,_,rfl,rfl,aH au,rfl,r,.int n,rfl,.inl ⟨rks,Ac p.1,.inl bf,rfl,hn.symm⟩,_,rfl,q,_,1,_,rfl,rfl,aH au,rfl,zZ2,fun t2 bg=>?_⟩;exact⟨t2,n,p.2.1,rfl,aA,aK bg⟩
  ·obtain⟨ps',hpp,hY⟩:=aEA hp ak;have bp:=hY.on (cE sT ai);have bh:=hg.perm hpp;have ap:D≠L:=fun z=>by rw[z,aA]at nD;cases nD
   have bi:L≠T:=fun z=>by rw[← z,aA]at hTt;cases hTt
   have bj:=Bx hY;have bx:=hp.length_eq;refine⟨D,rfl,⟨_,aY hD⟩,?_⟩;refine lU (K:=K) (xs:=ys) (fun i σ H'=>Ex3 fun(o3 o4 o5:Option V)=>∃(zs:List V) (qs:List Pc),Aw6 (σ=[some (.ref r),some (.ref l),some (.ref L),o3,o4,o5]) (dH T H H') (Tb T H') (H' D=some (.lst ys)) (H' L=some (.lst zs)) (Aw3 (eQ H' ys ps') (eQ H' zs qs) (Aw3 (f9 ws qs) (acr qs=acr (ps'.take i)) (qs.length≤i))))
    ⟨none,none,none,[],[],rfl,sL.butT.trans sT,gT,hD,sT _ _ bi aA,bp,.nil,⟨fun p hp=>by simp at hp⟩,by simp[acr],Am _⟩ (fun i σ H' _ p=>by obtain⟨_,_,_,_,_,_,_,_,e,_⟩:=p;exact aY e) ?_ ?_
   ·rintro i v σ H2 hv ⟨o3,o4,o5,zs,qs,rfl,S2,T2,al,J,ah,aa,ad,ab,aC⟩;obtain⟨p,q,hp,rfl,hq⟩:=ah.at hv;have az:=bh.ok p (AH hp);have bM:=Bx aa;have ea:acr (ps'.take (i + 1))=acr (ps'.take i) + dI p:=by
     rw[AE,hp,lG];simp[acr]
    have bD:i < ys.length:=(At.mp hv).1;refine⟨q,_,rfl,aH hq,rfl,_,_,rfl,_,_,rfl,_,_,rfl,rfl,fun b H3=>H3=H2∧(b=true→∃ M Z O p2,zs=M ++ [.ref Z]∧qs=O ++ [p2]∧eQ H2 M O∧H2 Z=some (pcT p2)∧p2.1=p.1∧p2.2.2=p.2.1),?_,fun b H3 hb=>?_⟩
    ·refine⟨_,rfl,!zs.isEmpty,.inl ⟨zs,aY J,rfl⟩,?_⟩;rcases zH zs with rfl | ⟨M,z,rfl⟩
     ·exact dS ⟨rfl,fun z=>nomatch z⟩
     ·obtain⟨O,p2,rfl,hZ',Z,rfl,hq2⟩:∃ O p2,qs=O ++ [p2]∧eQ H2 M O∧∃ Z,z=.ref Z∧H2 Z=some (pcT p2):=qO aa;rw[show(!(M ++ [V.ref Z]).isEmpty)=true by cases M <;> rfl];refine eZ ?_;refine⟨_,rfl,_,rfl,L,_,-1,_,rfl,rfl,aY J,jV _ _,Z,_,0,_,rfl,rfl,aH hq2,rfl,_,rfl,rfl,_,rfl,cR (fun g1=>?_) fun g1=>⟨rfl,fun z=>nomatch z⟩⟩;refine⟨_,rfl,_,rfl,L,_,-1,_,rfl,rfl,aY J,jV _ _,Z,_,2,_,rfl,rfl,aH hq2,rfl,_,rfl,rfl,_,rfl,rfl,fun g2=>?_⟩;have e1:=Ie g1;have e2:=Ie g2;injection e1 with e1;injection e2 with e2;exact⟨M,Z,O,p2,rfl,rfl,hZ',hq2,e1,e2⟩
    ·obtain⟨rfl,hb⟩:=hb;have bL:H L=none:=hL;cases b with
     | true=>
      obtain⟨M,Z,O,p2,rfl,rfl,hZ',hq2,e1,e2⟩:=hb rfl;refine eZ ?_;refine⟨_,rfl,_,rfl,_,rfl,L,_,-1,_,rfl,rfl,aY J,jV _ _,Z,_,1,_,rfl,rfl,aH hq2,rfl,_,rfl,zZ3,fun Y ae=>?_⟩;have s3:=aK (o:=pcT (p.1,p2.2.1,p.2.2)) ae;have an:L≠Y:=aJ J ae;refine⟨_,rfl,_,rfl,L,_,-1,M.length,rfl,rfl,s3 _ _ J,?_,?_⟩
      ·unfold ixN;rw[AD,CB,Ia (by decide),Ib (by omega)];congr 1;omega
      ·have es:(M ++ [V.ref Z]).set M.length (.ref Y)=M ++ [.ref Y]:=by simp
       rw[es];have keep:∀ b o,b≠L→H3 b=some o→upd (upd H3 Y (pcT (p.1,p2.2.1,p.2.2))) L (.lst (M ++ [.ref Y])) b=some o:=fun b o n e=>by
        rw[aG n];exact s3 _ _ e
       have kt:d6 H3 (upd (upd H3 Y (pcT (p.1,p2.2.1,p.2.2))) L (.lst (M ++ [.ref Y]))):=fun b us e=>keep b _ (fun z=>by rw[z,J]at e;cases e) e;refine⟨_,_,_,M ++ [.ref Y],O ++ [(p.1,p2.2.1,p.2.2)],rfl,fun b o n e=>keep b o (aJ e hL) (S2 b o n e),?_,keep _ _ ap al,aA,ah.on kt,?_,?_,?_,by rw[AD,CB]at aC ⊢;omega⟩
       ·exact aEC T2 fun b o e n=>keep b o (fun z=>n ⟨_,z ▸ J⟩) e
       ·exact BY ⟨Y,rfl,by rw[aG an.symm];exact aA⟩ (hZ'.on kt)
       ·have h2:=ad.ok p2 (AN _ Al);exact f9.app ⟨fun x hx=>ad.ok x (BV _ hx)⟩ ⟨fun x hx=>by rw[AF.mp hx];exact⟨az.1,by dsimp only;omega⟩⟩
       ·rw[ea,← ab,lG,lG];simp only[acr,dI,Av,CL,Cf,List.sum_nil];omega
     | false=>
      refine dS ?_;refine⟨_,rfl,.inl ⟨rfl,_,aY J⟩,_,rfl,_,rfl,_,rfl,zZ3,fun Y ae=>?_⟩;have s3:=aK (o:=pcT p) ae;have an:L≠Y:=aJ J ae;refine⟨L,zs,_,rfl,rfl,s3 _ _ J,by omega,?_⟩;have keep:∀ b o,b≠L→H3 b=some o→upd (upd H3 Y (pcT p)) L (.lst (zs ++ [.ref Y])) b=some o:=fun b o n e=>by
       rw[aG n];exact s3 _ _ e
      have kt:d6 H3 (upd (upd H3 Y (pcT p)) L (.lst (zs ++ [.ref Y]))):=fun b us e=>keep b _ (fun z=>by rw[z,J]at e;cases e) e;refine⟨_,_,_,zs ++ [.ref Y],qs ++ [p],rfl,fun b o n e=>keep b o (aJ e hL) (S2 b o n e),?_,keep _ _ ap al,aA,ah.on kt,?_,?_,?_,by rw[AD,CB];omega⟩
      ·exact aEC T2 fun b o e n=>keep b o (fun z=>n ⟨_,z ▸ J⟩) e
      ·exact BY ⟨Y,rfl,by rw[aG an.symm];exact aA⟩ (aa.on kt)
      ·exact ad.app ⟨fun x hx=>by rw[AF.mp hx];exact az⟩
      ·rw[ea,← ab,lG];simp[acr]
   ·rintro σ H2 ⟨o3,o4,o5,zs,qs,rfl,S2,T2,al,J,ah,aa,ad,ab,aC⟩;rw[bj,AM]at ab;refine⟨_,rfl,L,zs,rfl,.inl ⟨aY J,fun t' bo=>?_⟩⟩;have s2:=aK (o:=.tup zs) bo;exact k t' zs qs _ (S2.trans s2.butT) (T2.same s2) aA (aa.same s2) ad (ab.trans (aEB hpp))
inductive zI(vs:List V)(H:Hp)(Q:VK)(u3_:XK):Prop
 | mk (me:Ae) (h:Str) (m:Mnd) (q0:vs=[.ref me,.str h]) (q1:H me=some (.dK m)) (q2:iR m) (q3:m.length≤100000) (q4:∀(L:Ae) (H':Hp),H L=none→b9 H H'→H' L=some (.lst ((rd m h).map V.str))→Q (.ref L) H'):zI vs H Q u3_
def aEE:Sp:=fun vs H Q u3_=>zI vs H Q u3_
theorem tS:bY ["menders","house","road"] ["menders","house"] (aO p9):=⟨rfl,rfl,rfl,by decide,rfl,by decide,by decide⟩
theorem zJ{f:Ae}{fd:A3}(F:Fun K "road_from" "road_from" p9 f fd):cP P w K mg base CX0 1 f fd ["menders","house"] aEE:=by
 refine F.ok tS (fun vs H Q E h=>?_) (fun ad A outer s H vs Q E hr h=>?_)
 ·obtain⟨me,h,m,rfl,_⟩:=h;rfl
 ·obtain⟨me,h,m,rfl,hm,ha,hlen,k⟩:=h;have hu:=d7 hr;refine⟨_,aB (aX (i:=2) tS.nd rfl (Ar rfl) (c6 (aF (pv 1) aE)))
   (aB (rM A7 (iU (lY hu (aQ b8 (pv 2) (jU gL aD) Ig) (pv 0)))
    (aM (dP (j0 A8 BC BB fG (pv 2) (aF (bJ hu (pv 0) (aQ b8 (pv 2) (jU gL aD) Ig) Ig) aE)))))
   (aM (bF (pv 2)))),?_⟩
  refine⟨_,rfl,zZ1,fun L hL=>?_⟩;have sL:=aK (o:=.lst [V.str h]) hL;have M:=ha.rd h;have ah:=M.len;refine⟨fun n σ H'=>∃(pre l:List Str) (x:Str),σ=[some (.ref me),some (.str h),some (.ref L)]∧b9 H H'∧H' L=some (.lst ((pre ++ [x]).map V.str))∧rd m h=pre ++ l∧Ends m x l∧n=l.length,⟨_,[],rd m h,h,rfl,sL,aA,rfl,M,rfl⟩,?_⟩;rintro n σ H1 ⟨pre,l,x,rfl,S,q,Z,hx,rfl⟩;have J:atI ((pre ++ [x]).map V.str) (-1)=some (.str x):=by
   rw[Az];exact jV _ _
  refine⟨_,rfl,_,rfl,L,_,-1,_,rfl,rfl,aY q,J,_,rfl,me,_,rfl,.inl ⟨m,Ac x,.inl (S _ _ hm),rfl,rfl⟩,_,rfl,?_⟩;rw[ha.val x];cases hx with
  | stop e=>
   rw[e];refine dS ?_;refine⟨_,rfl,k L H1 hL S ?_⟩;rw[Z];exact q
  | @on _ y l e r=>
   rw[e];refine eZ ?_;refine⟨fun σ' H'=>∃(pre Y:List Str) (x:Str),σ'=[some (.ref me),some (.str h),some (.ref L)]∧b9 H H'∧H' L=some (.lst ((pre ++ [x]).map V.str))∧rd m h=pre ++ Y∧Ends m x Y∧l.length=Y.length,fun σ' H' z=>⟨l.length,by simp,z⟩,?_⟩;have O:some (V.str y)=bS m (Ac x):=by rw[ha.val x,e];rfl
   refine⟨_,rfl,.inl ⟨rfl,_,aY q⟩,_,rfl,_,rfl,_,rfl,L,_,-1,_,rfl,rfl,aY q,J,me,_,rfl,.inl ⟨m,Ac x,.inl (S _ _ hm),rfl,O⟩,L,_,_,rfl,rfl,q,?_,?_⟩
   ·have:=congrArg Ca Z;simp at this ⊢;exact BM (show pre.length + 1≤1000000 by omega) (by decide)
   ·refine⟨pre ++ [x],l,y,rfl,fun b o z=>?_,?_,by rw[Z];simp,r,rfl⟩
    ·rw[aG (aJ z hL)];exact S _ _ z
    ·rw[aA];simp
def zK:Bb→Bool | .str z=>cJ z | _=>false
def aBd(lo hi:Int):Bb→Bool | .int i=>decide (lo≤i∧i≤hi) | _=>false
def qP:Bb→Bool
 | .tuple [l,h,a]=>zK l && zK h && aBd 1 10000000 a
 | _=>false
def f7:List Str:=["part","join","forfeit","measure","mend","alone","breach","view"]
def pD(x:P3):Bb:=.tuple [.str x.1,.str x.2.1,.int x.2.2]
theorem vW{m:Bool}{H:Hp}:∀{T:List Str},(∀ z∈T,z.length≤1000)→cD m H (T.map V.str) (T.map BK)
 | [],_=>.nil
 | t :: T,h=>.cons (.str t (h t (by simp))) (vW fun z q=>h z (by simp[q]))
theorem aEF{z:Str}(h:cJ z=true):EJ z=true:=by
 unfold cJ at h;rw[Bv,A5]at h;unfold EJ;rw[Array.all_eq_true_iff_forall_mem];intro c hc;have:=Ie (h.2 c (by simpa using hc));exact Ic (by omega)
theorem pK:∀ R:List P3,Bd (R.map pD)=false
 | []=>rfl
 | x :: R=>by
  show((pD x).hasDict || Bd (R.map pD))=false;rw[pK R];rfl
theorem qQ:∀ R:List Str,Bd (R.map BK)=false
 | []=>rfl
 | x :: R=>by
  show((BK x).hasDict || Bd (R.map BK))=false;rw[qQ R];rfl
inductive kT:Str→List Bb→Prop
 | part {land:Str} {R:List P3} (hl:cJ land=true) (hr:(R.map (·.1)).Nodup) (h2:2≤R.length) (h6:R.length≤6) (ha:(R.map pD).all qP=true):kT "part" [.str land,.tuple (R.map pD)]
 | join {land:Str} {R:List Str} (hl:cJ land=true) (hr:R.Nodup) (h2:2≤R.length) (h6:R.length≤6) (ha:(R.map BK).all zK=true):kT "join" [.tuple (R.map BK),.str land]
 | forfeit {land house:Str} (hl:cJ land=true) (hh:cJ house=true):kT "forfeit" [.str land,.str house]
 | measure {field:Str} {n:Int} (hf:cJ field=true) (h0:0≤n) (h1:n≤10000000):kT "measure" [.str field,.int n]
 | mend {house other:Str} (hh:cJ house=true) (ho:cJ other=true) (hne:house≠other):kT "mend" [.str house,.str other]
 | alone {house:Str} (hh:cJ house=true):kT "alone" [.str house]
 | breach {field:Str} {n1 n2 n3:Int} (hf:cJ field=true) (h10:0≤n1) (h11:n1≤9999999) (h20:0≤n2) (h21:n2≤1000000000) (h30:0≤n3) (h31:n3≤1000000):kT "breach" [.str field,.int n1,.int n2,.int n3]
 | view {field house:Str} {n1:Int} (hf:cJ field=true) (h10:0≤n1) (h11:n1≤9999999) (hh:cJ house=true):kT "view" [.str field,.int n1,.str house]
def xG(word name:Str)(day:Int)(ds:List Bb):Bb:=.tuple (.str word :: .str name :: .int day :: ds)
theorem gC{m:Bool}{H:Hp}{z:Str}(h:cJ z=true):RdV m H (.str z) (.str z):=.str z (by have:=(qB h).2;omega)
theorem aEG{w:Str}(h:w∈f7):w.length≤1000:=by
 have:∀ w∈f7,w.length≤1000:=by decide
 exact this w h
def FIn(word:Str)(ds:List Bb)(fs:List Str):Prop:=inV (.str word) [V.str "measure",.str "breach",.str "view"]=true→∀ z bZ,ds=.str z :: bZ→z∈fs
theorem kT.word{word:Str}{ds:List Bb}(h:kT word ds):word∈f7:=by
 cases h <;> decide
theorem kT.len{word:Str}{ds:List Bb}(h:kT word ds):ds.length≤4:=by
 cases h <;> simp
theorem kT.nodict{word:Str}{ds:List Bb}(h:kT word ds):Bd ds=false:=by
 cases h with
 | @part q R _ _ _ _ _=>
  show(false || (Bd (R.map pD) || false))=false;rw[pK];rfl
 | @join q R _ _ _ _ _=>
  show(Bd (R.map BK) || (false || false))=false;rw[qQ];rfl
 | _=>rfl
theorem iC(w:AT)(s:Str):Bp w.params s=aGR w (Ac s):=by
 first | rfl | (unfold aGR hashStr Bp;rfl)
theorem isS(s:Str)(t:Tok):oP (Ac s) (.str s t)=true:=by
 show Fp s (.str s t)=true;simp[Fp]
def fmV(g0 g1 g2 g3 g4 g5 g6 g7:Ae):List (Key×V):=[(Ac "part",.ref g0),(Ac "join",.ref g1),(Ac "forfeit",.ref g2),(Ac "measure",.ref g3),(Ac "mend",.ref g4),(Ac "alone",.ref g5),(Ac "breach",.ref g6),(Ac "view",.ref g7)]
def fmR(g0 g1 g2 g3 g4 g5 g6 g7:Ae):List (Key×Ad):=[(Ac "part",.ref g0),(Ac "join",.ref g1),(Ac "forfeit",.ref g2),(Ac "measure",.ref g3),(Ac "mend",.ref g4),(Ac "alone",.ref g5),(Ac "breach",.ref g6),(Ac "view",.ref g7)]
theorem aHI(z J F M q Y Z O:Ae):KV (fmV z J F M q Y Z O) (fmR z J F M q Y Z O):=.cons ⟨rfl,rfl⟩ (.cons ⟨rfl,rfl⟩ (.cons ⟨rfl,rfl⟩ (.cons ⟨rfl,rfl⟩ (.cons ⟨rfl,rfl⟩ (.cons ⟨rfl,rfl⟩ (.cons ⟨rfl,rfl⟩ (.cons ⟨rfl,rfl⟩ (.nil))))))))
theorem aF1{P:AC}{w:AT}{K:Ah}{a:Ae}{e:Nat}{Y O F q M J z Z:Tok}{g0 g1 g2 g3 g4 g5 g6 g7:Ae}(l:K.lookup a=some { cls:=.type "dict",data:=.dict #[⟨Bp w.params "part",.str "part" Y,.ref g0⟩,⟨Bp w.params "join",.str "join" O,.ref g1⟩,⟨Bp w.params "forfeit",.str "forfeit" F,.ref g2⟩,⟨Bp w.params "measure",.str "measure" q,.ref g3⟩,⟨Bp w.params "mend",.str "mend" M,.ref g4⟩,⟨Bp w.params "alone",.str "alone" J,.ref g5⟩,⟨Bp w.params "breach",.str "breach" z,.ref g6⟩,⟨Bp w.params "view",.str "view" Z,.ref g7⟩] e }):∀ h:Bi,K.In h→h.DictOf (cF P w) a (fmR g0 g1 g2 g3 g4 g5 g6 g7):=by
 intro h hK;refine⟨_,_,_,hK _ _ l,⟨rfl,rfl,rfl⟩,rfl,?_,?_,?_⟩
 ·intro en he;simp only[List.mem_toArray,Ak,Ao,or_false]at he;rcases he with rfl | rfl | rfl | rfl | rfl | rfl | rfl | rfl
  ·exact⟨Ac "part",isS "part" Y,iC w "part"⟩
  ·exact⟨Ac "join",isS "join" O,iC w "join"⟩
  ·exact⟨Ac "forfeit",isS "forfeit" F,iC w "forfeit"⟩
  ·exact⟨Ac "measure",isS "measure" q,iC w "measure"⟩
  ·exact⟨Ac "mend",isS "mend" M,iC w "mend"⟩
  ·exact⟨Ac "alone",isS "alone" J,iC w "alone"⟩
  ·exact⟨Ac "breach",isS "breach" z,iC w "breach"⟩
  ·exact⟨Ac "view",isS "view" Z,iC w "view"⟩
 ·exact .cons (isS "part" Y) rfl (.cons (isS "join" O) rfl (.cons (isS "forfeit" F) rfl (.cons (isS "measure" q) rfl (.cons (isS "mend" M) rfl (.cons (isS "alone" J) rfl (.cons (isS "breach" z) rfl (.cons (isS "view" Z) rfl (.nil))))))))
 ·show([Ac "part",Ac "join",Ac "forfeit",Ac "measure",Ac "mend",Ac "alone",Ac "breach",Ac "view"]:List Key).Nodup;decide
theorem aEH{word name:Str}{day:Int}{bZ:List V}:atI (V.str word :: .str name :: .int day :: bZ) 0=some (.str word)∧atI (V.str word :: .str name :: .int day :: bZ) 1=some (.str name)∧atI (V.str word :: .str name :: .int day :: bZ) 2=some (.int day):=by
 have hl:(V.str word :: V.str name :: V.int day :: bZ).length=bZ.length + 3:=rfl;unfold atI ixN;rw[hl,Ib (by decide),Ib (by omega),Ib (by decide),Ib (by omega),Ib (by decide),Ib (by omega)];exact⟨rfl,rfl,rfl⟩
structure c3 where
 word:Str
 name:Str
 day:Int
 ds:List Bb
def c3.d(r:c3):Bb:=xG r.word r.name r.day r.ds
structure c3.Ok(r:c3)(fs:List Str):Prop where
 rs:kT r.word r.ds
 nm:cJ r.name=true
 d0:0≤r.day
 d1:r.day≤9999
 fi:FIn r.word r.ds fs
structure mQ(H:Hp)(xs:List V)(us:List c3)(fs:List Str):Prop where
 len:xs.length=us.length
 at':∀(i:Nat) (x:V),xs[i]?=some x→∃ u,us[i]?=some u∧RdV false H x u.d∧u.Ok fs
end K09
namespace L2
open PySem PySem.Spec PyProof.Rows
mutual
theorem RdV.onT{H H':Hp}(t:∀ q xs,H q=some (.tup xs)→H' q=some (.tup xs)):∀{x:V}{d:Bb},RdV false H x d→d.hasDict=false→RdV false H' x d
 | _,_,.non,_=>.non
 | _,_,.bl b,_=>.bl b
 | _,_,.int i,_=>.int i
 | _,_,.str z h,_=>.str z h
 | _,_,.lst hm _ _ _,_=>nomatch hm
 | _,_,.tup e hl r,h=>.tup (t _ _ e) hl (cD.onT t r (by unfold Dz at h;exact h))
 | _,_,.dct _ _,h=>by unfold Dz at h;cases h
theorem cD.onT{H H':Hp}(t:∀ q xs,H q=some (.tup xs)→H' q=some (.tup xs)):∀{xs:List V}{ds:List Bb},cD false H xs ds→Bd ds=false→cD false H' xs ds
 | _,_,.nil,_=>.nil
 | _,_,.cons a r,h=>by
  unfold Bd at h;rw[Bool.or_eq_false_iff]at h;exact .cons (RdV.onT t a h.1) (cD.onT t r h.2)
end
end L2
namespace K09
open PySem L2
theorem c3.Ok.nd{r:c3}{fs:List Str}(h:r.Ok fs):r.d.hasDict=false:=by
 unfold c3.d xG;unfold Dz;show(false || (false || (false || Bd r.ds)))=false;rw[h.rs.nodict];rfl
theorem c3.Ok.on{r:c3}{fs:List Str}(h:r.Ok fs){H H':Hp}{x:V}(rd:RdV false H x r.d)(t:d6 H H'):RdV false H' x r.d:=RdV.onT t rd h.nd
theorem c3.Ok.tup{r:c3}{fs:List Str}{H:Hp}{x:V}(rd:RdV false H x r.d):∃ t bZ,x=.ref t∧H t=some (.tup (.str r.word :: .str r.name :: .int r.day :: bZ))∧cD false H bZ r.ds:=by
 unfold c3.d xG at rd;cases rd with
 | tup e hl q=>
  cases q with
  | cons J q=>
   cases q with
   | cons z q=>
    cases q with
    | cons F q=>
     cases J;cases z;cases F;exact⟨_,_,rfl,e,q⟩
def oI(H:Hp)(ws:List Str)(v:V)(n:Int):Prop:=∃(t tp:Ae) (hs:Str) (xs:List V) (ps:List Pc),v=.ref t∧H t=some (.tup [.str hs,.ref tp])∧H tp=some (.tup xs)∧eQ H xs ps∧f9 ws ps∧acr ps=n
theorem oI.on{H H':Hp}{ws:List Str}{v:V}{n:Int}(h:oI H ws v n)(t:d6 H H'):oI H' ws v n:=by
 obtain⟨a,b,hs,xs,ps,h1,h2,h3,h4,h5⟩:=h;exact⟨a,b,hs,xs,ps,h1,t _ _ h2,t _ _ h3,h4.on t,h5⟩
theorem oI.pos{H:Hp}{ws:List Str}{v:V}{n:Int}(h:oI H ws v n):0≤n:=by
 obtain⟨_,_,_,_,ps,_,_,_,_,g,rfl⟩:=h;have:=g.len;omega
inductive f8(H:Hp)(ws:List Str):List (Key×V)→Int→Prop
 | nil:f8 H ws [] 0
 | cons {k:Key} {v:V} {r:List (Key×V)} {n m:Int} (h:oI H ws v n) (t:f8 H ws r m):f8 H ws ((k,v) :: r) (n + m)
theorem f8.on{H H':Hp}{ws:List Str}{l:List (Key×V)}{n:Int}(h:f8 H ws l n)(t:d6 H H'):f8 H' ws l n:=by
 induction h with
 | nil=>exact .nil
 | cons h _ q=>exact .cons (h.on t) q
theorem f8.pos{H:Hp}{ws:List Str}{l:List (Key×V)}{n:Int}(h:f8 H ws l n):0≤n:=by
 induction h with
 | nil=>exact CN _
 | cons h _ q=>
  have:=h.pos;omega
theorem f8.dropLe{H:Hp}{ws:List Str}{l:List (Key×V)}{n:Int}(h:f8 H ws l n)(k:Key):∃ q,f8 H ws (cA l k) q∧q≤n:=by
 induction h with
 | nil=>exact⟨0,.nil,CN _⟩
 | @cons j v r a m h t z=>
  obtain⟨q,h1,h2⟩:=z;have:=h.pos;by_cases e:j=k
  ·rw[j6 (p:=(j,v)) e];exact⟨q,h1,by omega⟩
  ·rw[j7 (p:=(j,v)) e];exact⟨a + q,.cons h h1,by omega⟩
theorem f8.take{H:Hp}{ws:List Str}{l:List (Key×V)}{n:Int}(h:f8 H ws l n){k:Key}{v:V}(e:bS l k=some v):∃ a q,oI H ws v a∧f8 H ws (cA l k) q∧a + q≤n:=by
 induction h with
 | nil=>cases e
 | @cons j u r a m h t F=>
  by_cases z:j=k
  ·rw[cU (p:=(j,u)) z]at e;cases e;obtain⟨q,h1,h2⟩:=t.dropLe k;rw[j6 (p:=(j,u)) z];exact⟨a,q,h,h1,by omega⟩
  ·rw[cK (p:=(j,u)) z]at e;obtain⟨b,q,h1,h2,h3⟩:=F e;rw[j7 (p:=(j,u)) z];exact⟨b,a + q,h1,.cons h h2,by omega⟩
theorem f8.snoc{H:Hp}{ws:List Str}{l:List (Key×V)}{n a:Int}{k:Key}{v:V}(h:f8 H ws l n)(hv:oI H ws v a):f8 H ws (l ++ [(k,v)]) (n + a):=by
 induction h with
 | nil=>
  have:=f8.cons (k:=k) hv (f8.nil (H:=H) (ws:=ws));rw[Int.add_zero]at this;rw[DO];exact this
 | cons h _ q=>
  rw[Int.add_assoc];exact .cons h q
theorem oJ:∀{l:List (Key×V)}{k:Key}{v:V},¬ k∈l.map (·.1)→l.map (fun q=>if q.1=k then(q.1,v) else q)=l
 | [],_,_,_=>rfl
 | p :: l,k,v,h=>by
  rw[Av,Ia (fun z=>h (by rw[← z];exact Al)),oJ fun z=>h (Ap _ z)]
theorem f8.put{H:Hp}{ws:List Str}{l:List (Key×V)}{n a:Int}{k:Key}{v:V}(h:f8 H ws l n)(F:(l.map (·.1)).Nodup)(hv:oI H ws v a):∃ z,f8 H ws (bT l k v) z∧z≤n + a:=by
 unfold bT;split
 ·rename_i q;clear q
  induction h with
  | nil=>exact⟨0,.nil,by have:=hv.pos;omega⟩
  | @cons j u r b m h t J=>
   obtain⟨h1,h2⟩:=AZ.mp F;rw[Av];by_cases e:j=k
   ·rw[Ib e,oJ (by rw[← e];exact h1)];exact⟨a + m,.cons hv t,by have:=h.pos;omega⟩
   ·rw[Ia e];obtain⟨z,h3,h4⟩:=J h2;exact⟨b + z,.cons h h3,by omega⟩
 ·exact⟨n + a,h.snoc hv,CN _⟩
theorem lH{l:List (Key×V)}{k:Key}(v:V)(hn:(l.map (·.1)).Nodup):((bT l k v).map (·.1)).Nodup:=by
 cases e:bS l k with
 | none=>exact aFD v hn e
 | some u=>
  have z:(l.any fun q=>decide (q.1=k))=true:=by rw[dX,e];rfl
  unfold bT;rw[Ib z,EV];have:((fun x:Key×V=>x.1) ∘ fun q:Key×V=>if q.1=k then(q.1,v) else q)=(·.1):=by
   funext q;show(if q.1=k then(q.1,v) else q).1=q.1;split <;> rfl
  rw[this];exact hn
structure MA where
 dx:Ae
 r:Ae
 h:Ae
 a:Ae
 i:Ae
 me:Ae
def aBe(A:MA):List (Str×V):=[("ranks",.ref A.r),("holdings",.ref A.h),("acres",.ref A.a),("inches",.ref A.i),("menders",.ref A.me)]
structure MC(K:Ah)(C:Ae):Prop where
 cl:Cls K C
 r:iX K C "ranks"
 h:iX K C "holdings"
 a:iX K C "acres"
 i:iX K C "inches"
 m:iX K C "menders"
structure Mom(H:Hp)(C M:Ae)(A:MA)(ws:List Str)(n:Nat)(m:Mnd)(ic:List (Key×V)):Prop where
 ins:H M=some (.ins C A.dx (aBe A))
 r:∃ rks,H A.r=some (.dK rks)∧nU rks ws
 h:∃ hol b,H A.h=some (.dK hol)∧(hol.map (·.1)).Nodup∧hol.length≤n∧f8 H ws hol b∧b≤8000000
 i:H A.i=some (.dK ic)∧nU ic ws∧ic.length≤n
 me:H A.me=some (.dK m)
 ac:iR m
 ml:m.length≤n
 rh:A.r≠A.h
 ri:A.r≠A.i
 rm:A.r≠A.me
 hi:A.h≠A.i
 hm:A.h≠A.me
 im:A.i≠A.me
def cO(E:List Ae)(H H':Hp):Prop:=∀ b o,b ∉ E→H b=some o→H' b=some o
theorem cO.trans{E:List Ae}{H H1 H2:Hp}(a:cO E H H1)(b:cO E H1 H2):cO E H H2:=fun c o n h=>b c o n (a c o n h)
theorem cO.refl{E:List Ae}(H:Hp):cO E H H:=fun _ _ _ h=>h
theorem cO.same{E:List Ae}{H H1 H2:Hp}(a:cO E H H1)(b:b9 H1 H2):cO E H H2:=fun c o n h=>b c o (a c o n h)
theorem dF{E:List Ae}{H H1:Hp}(a:b9 H H1):cO E H H1:=fun c o _ h=>a c o h
theorem Mom.ne{H:Hp}{C M:Ae}{A:MA}{ws:List Str}{n:Nat}{m:Mnd}{ic:List (Key×V)}(h:Mom H C M A ws n m ic):M≠A.r∧M≠A.h∧M≠A.i∧M≠A.me:=by
 obtain⟨rks,hr,_⟩:=h.r;obtain⟨hol,b,hh,_⟩:=h.h;obtain⟨hi,_⟩:=h.i;exact⟨bU h.ins hr (fun z=>nomatch z),bU h.ins hh (fun z=>nomatch z),bU h.ins hi (fun z=>nomatch z),bU h.ins h.me (fun z=>nomatch z)⟩
theorem Mom.same{H H':Hp}{C M:Ae}{A:MA}{ws:List Str}{n:Nat}{m:Mnd}{ic:List (Key×V)}(h:Mom H C M A ws n m ic)(s:b9 H H'):Mom H' C M A ws n m ic:=by
 obtain⟨rks,hr,r2⟩:=h.r;obtain⟨hol,b,hh,h2,h3,h4,h5⟩:=h.h;obtain⟨hi,i2⟩:=h.i;exact⟨s _ _ h.ins,⟨rks,s _ _ hr,r2⟩,⟨hol,b,s _ _ hh,h2,h3,h4.on fun q xs e=>s _ _ e,h5⟩,⟨s _ _ hi,i2⟩,s _ _ h.me,h.ac,h.ml,h.rh,h.ri,h.rm,h.hi,h.hm,h.im⟩
theorem Mom.mono{H:Hp}{C M:Ae}{A:MA}{ws:List Str}{n k:Nat}{m:Mnd}{ic:List (Key×V)}(h:Mom H C M A ws n m ic)(q:n≤k):Mom H C M A ws k m ic:=by
 obtain⟨hol,b,hh,h2,h3,h4,h5⟩:=h.h;obtain⟨hi,i2,i3⟩:=h.i;exact⟨h.ins,h.r,⟨hol,b,hh,h2,by omega,h4,h5⟩,⟨hi,i2,by omega⟩,h.me,h.ac,by have:=h.ml;omega,h.rh,h.ri,h.rm,h.hi,h.hm,h.im⟩
theorem Mom.setM{H:Hp}{C M:Ae}{A:MA}{ws:List Str}{n:Nat}{m F:Mnd}{ic:List (Key×V)}(h:Mom H C M A ws n m ic)(ac:iR F)(hl:F.length≤n):Mom (upd H A.me (.dK F)) C M A ws n F ic:=by
 obtain⟨n1,n2,n3,n4⟩:=h.ne;obtain⟨rks,hr,r2⟩:=h.r;obtain⟨hol,b,hh,h2,h3,h4,h5⟩:=h.h;obtain⟨hi,i2⟩:=h.i;have t:d6 H (upd H A.me (.dK F)):=fun q xs e=>by rw[aG (bU e h.me (fun z=>nomatch z))];exact e
 exact⟨by rw[aG n4];exact h.ins,⟨rks,by rw[aG h.rm];exact hr,r2⟩,⟨hol,b,by rw[aG h.hm];exact hh,h2,h3,h4.on t,h5⟩,⟨by rw[aG h.im];exact hi,i2⟩,aA,ac,hl,h.rh,h.ri,h.rm,h.hi,h.hm,h.im⟩
theorem Mom.setI{H:Hp}{C M:Ae}{A:MA}{ws:List Str}{n:Nat}{m:Mnd}{inc ic:List (Key×V)}(h:Mom H C M A ws n m ic)(ok:nU inc ws)(hl:inc.length≤n):Mom (upd H A.i (.dK inc)) C M A ws n m inc:=by
 obtain⟨n1,n2,n3,n4⟩:=h.ne;obtain⟨rks,hr,r2⟩:=h.r;obtain⟨hol,b,hh,h2,h3,h4,h5⟩:=h.h;obtain⟨hi,i2⟩:=h.i;have t:d6 H (upd H A.i (.dK inc)):=fun q xs e=>by rw[aG (bU e hi (fun z=>nomatch z))];exact e
 exact⟨by rw[aG n3];exact h.ins,⟨rks,by rw[aG h.ri];exact hr,r2⟩,⟨hol,b,by rw[aG h.hi];exact hh,h2,h3,h4.on t,h5⟩,⟨aA,ok,hl⟩,by rw[aG h.im.symm];exact h.me,h.ac,h.ml,h.rh,h.ri,h.rm,h.hi,h.hm,h.im⟩
theorem Mom.setH{H:Hp}{C M:Ae}{A:MA}{ws:List Str}{n k:Nat}{m:Mnd}{F ic:List (Key×V)}{b:Int}(h:Mom H C M A ws n m ic)(J:(F.map (·.1)).Nodup)(hl:F.length≤k)(Y:n≤k)(ht:f8 H ws F b)(O:b≤8000000):Mom (upd H A.h (.dK F)) C M A ws k m ic:=by
 obtain⟨n1,n2,n3,n4⟩:=h.ne;obtain⟨rks,hr,r2⟩:=h.r;obtain⟨hol0,b0,hh,_⟩:=h.h;obtain⟨hi,i2,i3⟩:=h.i;have t:d6 H (upd H A.h (.dK F)):=fun q xs e=>by rw[aG (bU e hh (fun z=>nomatch z))];exact e
 exact⟨by rw[aG n2];exact h.ins,⟨rks,by rw[aG h.rh];exact hr,r2⟩,⟨F,b,aA,J,hl,ht.on t,O⟩,⟨by rw[aG h.hi.symm];exact hi,i2,by omega⟩,by rw[aG h.hm.symm];exact h.me,h.ac,by have:=h.ml;omega,h.rh,h.ri,h.rm,h.hi,h.hm,h.im⟩
def dv:Bb→Option V
 | .str z=>some (.str z)
 | .int i=>some (.int i)
 | _=>none
def dvs:List Bb→Option (List V)
 | []=>some []
 | d :: ds=>match dv d,dvs ds with
  | some v,some vs=>some (v :: vs)
  | _,_=>none
theorem aIM{m:Bool}{H:Hp}:∀{xs:List V}{ds:List Bb}{vs:List V},cD m H xs ds→dvs ds=some vs→xs=vs
 | _,_,_,.nil,e=>by cases e;rfl
 | _,_,_,@cD.cons _ _ x d xs ds a r,e=>by
  unfold dvs at e;split at e
  ·next v vs e1 e2=>
   cases e;rw[aIM r e2];cases a <;> cases e1 <;> rfl
  ·cases e
theorem mS{m:Bool}{H:Hp}{xs:List V}{ds:List Bb}{vs:List V}(h:cD m H xs ds)(e:dvs ds=some vs:=by rfl):xs=vs:=aIM h e
inductive Rd2(m:Bool)(H:Hp)(d e:Bb):List V→Prop
 | mk {x y:V} (a:RdV m H x d) (b:RdV m H y e):Rd2 m H d e [x,y]
theorem rd2{m:Bool}{H:Hp}{xs:List V}{d e:Bb}(h:cD m H xs [d,e]):Rd2 m H d e xs:=by
 cases h with
 | cons a h=>
 cases h with
 | cons b h=>
 cases h;exact⟨a,b⟩
structure Ex where
 hs:List (Key×V)
 ac:Str→Int
 inc:List (Key×V)
 men:Mnd
def rB(ac:Str→Int)(z:Str)(n:Int):Str→Int:=fun y=>if y=z then n else ac y
theorem tT(k:Key):∀ l:List (Key×V),(l.any fun q=>decide (q.1=k))=(l.map (·.1)).any fun j=>decide (j=k)
 | []=>rfl
 | p :: r=>by rw[C5,Av,C5,tT k r]
theorem aHJ(l:List (Key×V))(k:Key)(v:V):(bT l k v).map (·.1)=if (bS l k).isSome=true then l.map (·.1) else l.map (·.1) ++ [k]:=by
 unfold bT;rw[dX];split
 ·rw[EV];congr 1;funext q;show(if q.1=k then(q.1,v) else q).1=q.1;split <;> rfl
 ·rw[Az];rfl
def aS(S:Ex)(z:Str):Bool:=(bS S.hs (Ac z)).isSome
def dY(S:Ex)(land:Str)(R:List P3):Str:=if aS S land=false then "land" else if (R.map fun p=>p.2.2).sum≠S.ac land then "acres" else if (R.any fun p=>decide (p.1≠land) && aS S p.1)=true then "name" else "done"
def jO(S:Ex)(land:Str)(R:List P3):Ex:=R.foldl (fun S p=>{ S with hs:=bT S.hs (Ac p.1) (.str p.2.1),ac:=rB S.ac p.1 p.2.2 }) { S with hs:=cA S.hs (Ac land) }
def dO(S:Ex)(R:List Str)(land:Str):Str:=if R.all (aS S)=false then "land" else if (R.any fun z=>decide (bS S.hs (Ac z)≠bS S.hs (Ac (R.headD ""))))=true then "houses" else if (!decide (land∈R) && aS S land)=true then "name" else "done"
def gW(S:Ex)(R:List Str)(land:Str):Ex:={ S with hs:=bT (R.foldl (fun d z=>cA d (Ac z)) S.hs) (Ac land) ((bS S.hs (Ac (R.headD ""))).getD .non),ac:=rB S.ac land (R.map S.ac).sum }
def iD(S:Ex)(land house:Str):Str:=if aS S land=false then "land" else if bS S.hs (Ac land)=some (.str house) then "same" else "done"
def iE(S:Ex)(field:Str)(n:Int):Str:=match bS S.inc (Ac field)with
 | some (.int k)=>if n < k then "done" else "inch"
 | _=>"inch"
inductive jC(S:Ex):Str→List Bb→Str→Ex→Prop
 | part {land:Str} {R:List P3}:jC S "part" [.str land,.tuple (R.map pD)] (dY S land R) (if dY S land R="done" then jO S land R else S)
 | join {land:Str} {R:List Str}:jC S "join" [.tuple (R.map BK),.str land] (dO S R land) (if dO S R land="done" then gW S R land else S)
 | forfeit {land house:Str}:jC S "forfeit" [.str land,.str house] (iD S land house) (if iD S land house="done" then{ S with hs:=bT S.hs (Ac land) (.str house) } else S)
 | measure {field:Str} {n:Int}:jC S "measure" [.str field,.int n] "done" { S with inc:=bT S.inc (Ac field) (.int n) }
 | mend {a b:Str}:jC S "mend" [.str a,.str b] (if a∈rd S.men b then "ring" else "done") { S with men:=mJ S.men a b }
 | alone {a:Str}:jC S "alone" [.str a] (if (bS S.men (Ac a)).isSome=true then "done" else "none") { S with men:=mK S.men a }
 | breach {field:Str} {n:Int} {r:List Bb}:jC S "breach" (.str field :: .int n :: r) (iE S field n) S
 | view {field:Str} {n:Int} {r:List Bb}:jC S "view" (.str field :: .int n :: r) (iE S field n) S
def lN(inc:List (Key×V))(r:c3):List (Key×V):=match r.ds with
 | [.str f,.int n]=>if r.word="measure" then bT inc (Ac f) (.int n) else inc
 | _=>inc
theorem i6{inc:List (Key×V)}{r:c3}(h:r.word≠"measure"):lN inc r=inc:=by
 unfold lN;split
 ·rw[Ia h]
 ·rfl
inductive zQ(C T:Ae)(W:List Str)(vs:List V)(H:Hp)(Q:VK)(u3_:XK):Prop
 | mk (M:Ae) (A:MA) (ws:List Str) (n:Nat) (m:Mnd) (ic:List (Key×V)) (x:V) (r:c3) (q0:vs=[.ref M,x]) (q1:Mom H C M A ws n m ic) (q2:n≤10000) (q3:Tb T H) (q4:RdV false H x r.d) (q5:r.Ok ws) (q6:r.word∈W) (q7:∀ z m' H',cO [T,A.h,A.i,A.me] H H'→Tb T H'→Mom H' C M A ws (n + 6) m' (lN ic r)→Q (.str z) H'):zQ C T W vs H Q u3_
def iM(C T:Ae)(W:List Str):Sp:=fun vs H Q u3_=>zQ C T W vs H Q u3_
theorem jN{T a:Ae}{iz kvs':List (Key×V)}{H:Hp}(g:Tb T H)(e:H a=some (.dK iz)):Tb T (upd H a (.dK kvs')):=by
 obtain⟨ps,h1,h2,q⟩:=g.ex;refine⟨ps,by rw[aG (bU h1 e (fun z=>nomatch z))];exact h1,h2,?_⟩;rcases q with q | ⟨c,q,F⟩
 ·exact .inl q
 ·exact .inr ⟨c,q,by rw[aG (bU F e (fun z=>nomatch z))];exact F⟩
theorem cQ{E:List Ae}{a:Ae}{o:HO}{H:Hp}(h:a∈E):cO E H (upd H a o):=fun b u n e=>by
 rw[aG (fun z=>n (by rw[z];exact h))];exact e
theorem zS{H:Hp}:∀{xs:List V}{ps z:List Pc},eQ H xs ps→eQ H xs z→ps=z
 | _,_,_,.nil,.nil=>rfl
 | _,_,_,.cons r t,.cons F t'=>by
  obtain⟨q,e,h⟩:=r;obtain⟨q',e',h'⟩:=F;rw[e]at e';cases e';rw[h]at h';unfold pcT at h';injection h' with h';injection h' with h';injection h' with h1 h';injection h' with h2 h';injection h' with h3 h';injection h1 with h1;injection h2 with h2;injection h3 with h3;rw[zS t t',FB h1 (FB h2 h3)]
theorem zU{H:Hp}{ws:List Str}{l:List (Key×V)}{n a:Int}{k:Key}{v u:V}(h:f8 H ws l n)(J:(l.map (·.1)).Nodup)(e:bS l k=some v)(hu:oI H ws u a)(hv:oI H ws v a):∃ F,f8 H ws (bT l k u) F∧F≤n:=by
 have q:(l.any fun M=>decide (M.1=k))=true:=by rw[dX,e];rfl
 unfold bT;rw[Ib q];clear q
 induction h with
 | nil=>cases e
 | @cons j x r b m h t O=>
  obtain⟨h1,h2⟩:=AZ.mp J;rw[Av];by_cases z:j=k
  ·rw[cU (p:=(j,x)) z]at e;cases e;rw[Ib z,oJ (by rw[← z];exact h1)];have:a=b:=by
    obtain⟨t1,tp1,s1,xs1,ps1,e1,f1,g1,p1,_,q1⟩:=hv;obtain⟨t2,tp2,s2,xs2,ps2,e2,f2,g2,p2,_,q2⟩:=h;subst e1;cases e2;rw[f1]at f2;injection f2 with f2;injection f2 with f2;injection f2 with f3 f4;injection f4 with f4;injection f4 with f4;subst f4;rw[g1]at g2;injection g2 with g2;injection g2 with g2;subst g2;rw[← q1,← q2,zS p1 p2]
   exact⟨a + m,.cons hu t,by omega⟩
  ·rw[cK (p:=(j,x)) z]at e;rw[Ia z];obtain⟨F,h3,h4⟩:=O h2 e;exact⟨b + F,.cons h h3,by omega⟩
theorem vX:bY ["moment","row","land","house","holding","pieces"] ["moment","row"] (aO gR):=⟨rfl,rfl,rfl,by decide,rfl,by decide,by decide⟩
theorem xH{f C T:Ae}{fd:A3}(F:Fun K "do_forfeit" "do_forfeit" gR f fd)(hc:MC K C):cP P w K mg base CX0 1 f fd ["moment","row"] (iM C T ["forfeit"]):=by
 refine F.ok vX (fun vs H Q E h=>?_) (fun ae A outer s H vs Q E hr h=>?_)
 ·obtain⟨M,A,ws,n,m,ic,x,r,rfl,_⟩:=h;rfl
 ·obtain⟨M,MA,ws,n,m,ic,x,r,rfl,mom,hn,tb,rdv,ok,hw,k⟩:=h;have hu:=d7 hr;have nd:=vX.nd;refine⟨_,aB (aAs (i:=2) (j:=3) rfl nd rfl rfl (by decide) rfl rfl (aF (aQ aV (pv 1) aD Ig) (aF (aQ aV (pv 1) aD Ig) aE)) rfl)
   (aB (cC (iU (iS hu (pv 2) (dB (pv 0) rfl))) (aM (bF aN)) bB)
   (aB (iV (bJ hu (dB (pv 0) rfl) (pv 2) Ig) (fJ rfl (bH (aR (i:=4) nd rfl (Ar rfl)) (bH (aR (i:=5) nd rfl (Ar rfl)) dU))))
   (aB (cC (aZ cT (pv 4) (pv 3) (bG _)) (aM (bF aN)) bB)
   (aB (c4 hu (dB (pv 0) rfl) (pv 2) (cH (aF (pv 3) (aF (pv 5) aE))) rfl)
   (aM (bF aN)))))),?_⟩
  obtain⟨t,bZ,rfl,ht,hrest⟩:=c3.Ok.tup (fs:=ws) rdv;have Y:r.word="forfeit":=by simpa using hw
  have rs:=ok.rs;rw[i6 (by rw[Y];decide)]at k;obtain⟨word,name,day,ds⟩:=r;dsimp only at Y rs hrest ht;subst Y;cases rs with
  | @forfeit q J hl hh=>
  obtain rfl:=mS hrest;refine⟨_,rfl,t,_,3,_,rfl,rfl,aH ht,rfl,_,rfl,t,_,4,_,rfl,rfl,aH ht,rfl,_,_,rfl,?_⟩;obtain⟨hol,b,hh1,hnd,hlen,hT,hb⟩:=mom.h;refine⟨_,rfl,_,rfl,M,C,_,_,_,rfl,mom.ins,hc.cl,hc.h,rfl,MA.h,_,rfl,.inl ⟨hol,Ac q,.inl hh1,rfl,rfl⟩,_,rfl,?_⟩;cases hv:bS hol (Ac q)with
  | none=>exact eZ (k _ _ _ (cO.refl H) tb (mom.mono (by omega)))
  | some v=>
   refine dS ?_;obtain⟨a,b',he,hT',hab⟩:=hT.take hv;obtain⟨t3,tp,hs,xs,ps,rfl,e1,e2,e3,e4,e5⟩:=id he;refine⟨_,rfl,M,C,_,_,_,rfl,mom.ins,hc.cl,hc.h,rfl,_,rfl,MA.h,_,rfl,.inl ⟨hol,Ac q,.inl hh1,rfl,hv.symm⟩,t3,_,rfl,aH e1,rfl,_,_,rfl,_,_,rfl,rfl,_,rfl,_,rfl,rfl,_,rfl,cR (fun g=>k _ _ _ (cO.refl H) tb (mom.mono (by omega))) fun g=>?_⟩;refine⟨_,rfl,_,rfl,zZ2,fun Z aa=>?_⟩;have z:=aK (o:=.tup [V.str J,.ref tp]) aa;have O:=mom.same z;have ab:Tb T _:=tb.same z;refine⟨_,rfl,M,C,_,_,_,rfl,O.ins,hc.cl,hc.h,rfl,_,rfl,MA.h,_,rfl,gE.k (k:=Ac q) (z _ _ hh1) (BM hlen (by rw[BT];omega)),?_⟩;have ad:oI (upd H Z (.tup [V.str J,.ref tp])) ws (.ref Z) a:=⟨Z,tp,J,xs,ps,rfl,aA,z _ _ e2,e3.same z,e4,e5⟩
   obtain⟨b2,hT2,hb2⟩:=zU (k:=Ac q) (hT.on (bV z)) hnd hv ad (he.on (bV z));refine k _ _ _ ((dF z).trans (cQ (by simp))) (jN ab (z _ _ hh1)) (O.setH (lH _ hnd) ?_ (by omega) hT2 (by omega));have:=cB hol (Ac q) (.ref Z);omega
theorem nB(x:Str):∀ l:List Str,inV (.str x) (l.map V.str)=decide (x∈l)
 | []=>by simp[inV]
 | y :: l=>by
  have q:=nB x l;unfold inV at q ⊢;rw[Av,C5,q];by_cases e:y=x
  ·subst e;simp[eqV]
  ·have:x≠y:=fun z=>e z.symm;simp[eqV,e,this]
theorem aC2:bY ["moment","row"] ["moment","row"] (aO gS):=⟨rfl,rfl,rfl,by decide,rfl,by decide,by decide⟩
theorem xI{f C T:Ae}{fd:A3}(F:Fun K "do_measure" "do_measure" gS f fd)(hc:MC K C):cP P w K mg base CX0 1 f fd ["moment","row"] (iM C T ["measure"]):=by
 refine F.ok aC2 (fun vs H Q E h=>?_) (fun Y A outer s H vs Q E Z h=>?_)
 ·obtain⟨M,A,ws,n,m,ic,x,r,rfl,_⟩:=h;rfl
 ·obtain⟨M,MA,ws,n,m,ic,x,r,rfl,mom,hn,tb,rdv,ok,hw,k⟩:=h;have hu:=d7 Z;refine⟨_,aB (c4 hu (dB (pv 0) rfl) (aQ aV (pv 1) aD Ig) (aQ aV (pv 1) aD Ig) rfl) (aM (bF aN)),?_⟩;obtain⟨t,bZ,rfl,ht,hrest⟩:=c3.Ok.tup (fs:=ws) rdv;have O:r.word="measure":=by simpa using hw
  have rs:=ok.rs;have fi:=ok.fi;obtain⟨word,name,day,ds⟩:=r;dsimp only at O rs hrest ht fi k;subst O;cases rs with
  | @measure q J hf h0 h1=>
  obtain rfl:=mS hrest;obtain⟨hi,i2,i3⟩:=mom.i;refine⟨_,rfl,t,_,4,_,rfl,rfl,aH ht,rfl,_,rfl,M,C,_,_,_,rfl,mom.ins,hc.cl,hc.i,rfl,_,rfl,t,_,3,_,rfl,rfl,aH ht,rfl,MA.i,_,rfl,gE.k (k:=Ac q) hi (BM i3 (by rw[BT];omega)),?_⟩;have hl:=cB ic (Ac q) (.int J);have es:lN ic ⟨"measure",name,day,[.str q,.int J]⟩=bT ic (Ac q) (.int J):=by simp[lN]
  rw[es]at k;refine k _ _ _ (cQ (by simp)) (jN tb hi) ((mom.mono (show n≤n + 6 by omega)).setI (fun w hw=>?_) (by omega));rw[eB];by_cases e:w=q
  ·rw[Ib (by rw[e])];exact⟨J,rfl⟩
  ·rw[Ia (fun z=>e (Ac.inj z))];exact i2 w hw
theorem aHK:bY ["moment","row"] ["moment","row"] (aO m9):=⟨rfl,rfl,rfl,by decide,rfl,by decide,by decide⟩
theorem aC3{f C T:Ae}{fd:A3}(F:Fun K "do_look" "do_look" m9 f fd)(hc:MC K C):cP P w K mg base CX0 1 f fd ["moment","row"] (iM C T ["breach","view"]):=by
 refine F.ok aHK (fun vs H Q E h=>?_) (fun ab A outer s H vs Q E hr h=>?_)
 ·obtain⟨M,A,ws,n,m,ic,x,r,rfl,_⟩:=h;rfl
 ·obtain⟨M,MA,ws,n,m,ic,x,r,rfl,mom,hn,tb,rdv,ok,hw,k⟩:=h;have hu:=d7 hr;refine⟨_,aM (bF (aDi (aZ oR (aQ aV (pv 1) aD Ig) (bJ hu (dB (pv 0) rfl) (aQ aV (pv 1) aD Ig) Ig) (bG _)) aN aN)),?_⟩;obtain⟨t,bZ,rfl,ht,q⟩:=c3.Ok.tup (fs:=ws) rdv;have Y:r.word="breach"∨r.word="view":=by simpa using hw
  rw[i6 fun z=>by rcases Y with e | e <;> (rw[e]at z;revert z;decide)]at k;obtain⟨J,Z,O,hds,hin⟩:∃ J Z O,r.ds=.str J :: .int Z :: O∧J∈ws:=by
   have rs:=ok.rs;have fi:=ok.fi;rcases Y with e | e
   ·rw[e]at rs fi;cases hd:r.ds with
    | nil=>rw[hd]at rs;cases rs
    | cons d0 aa=>
     rw[hd]at rs fi;cases rs;exact⟨_,_,_,rfl,fi (by decide) _ _ rfl⟩
   ·rw[e]at rs fi;cases hd:r.ds with
    | nil=>rw[hd]at rs;cases rs
    | cons d0 aa=>
     rw[hd]at rs fi;cases rs;exact⟨_,_,_,rfl,fi (by decide) _ _ rfl⟩
  rw[hds]at q;cases q with
  | cons q1 q=>
  cases q with
  | cons q2 q=>
  cases q1;cases q2;have hz:=ht;obtain⟨hi,i2,i3⟩:=mom.i;obtain⟨v,hv⟩:=i2 J hin;have a3:∀(a b c d e:V) (r:List V),atI (a :: b :: c :: d :: e :: r) 3=some d∧atI (a :: b :: c :: d :: e :: r) 4=some e:=fun a b c d e r=>by
   have hl:(a :: b :: c :: d :: e :: r).length=r.length + 5:=rfl;unfold atI ixN;rw[hl,Ib (by decide),Ib (by omega),Ib (by decide),Ib (by omega)];exact⟨rfl,rfl⟩
  exact⟨_,rfl,t,_,4,_,rfl,rfl,aH ht,(a3 _ _ _ _ _ _).2,_,rfl,M,C,_,_,_,rfl,mom.ins,hc.cl,hc.i,rfl,_,rfl,t,_,3,_,rfl,rfl,aH ht,(a3 _ _ _ _ _ _).1,MA.i,_,rfl,.inl ⟨ic,Ac J,.inl hi,rfl,hv.symm⟩,_,_,rfl,rfl,_,rfl,cR (fun _=>k _ _ _ (cO.refl H) tb (mom.mono (by omega))) fun _=>k _ _ _ (cO.refl H) tb (mom.mono (by omega))⟩
theorem aEI:bY ["moment","row","house","other"] ["moment","row"] (aO m8):=⟨rfl,rfl,rfl,by decide,rfl,by decide,by decide⟩
theorem aC4{f C T:Ae}{fd:A3}(F:Fun K "do_mend" "do_mend" m8 f fd)(hc:MC K C)
  (GR:Cl P w K mg base 1 "road_from" ["menders","house"] aEE):cP P w K mg base CX0 2 f fd ["moment","row"] (iM C T ["mend"]):=by
 refine F.ok aEI (fun vs H Q E h=>?_) (fun ae A outer s H vs Q E hr h=>?_)
 ·obtain⟨M,A,ws,n,m,ic,x,r,rfl,_⟩:=h;rfl
 ·obtain⟨M,MA,ws,n,m,ic,x,r,rfl,mom,hn,tb,rdv,ok,hw,k⟩:=h;have hu:=d7 hr;have nd:=aEI.nd;refine⟨_,aB (aAs (i:=2) (j:=3) rfl nd rfl rfl (by decide) rfl rfl (aF (aQ aV (pv 1) aD Ig) (aF (aQ aV (pv 1) aD Ig) aE)) rfl)
   (aB (cC (aZ jX (pv 2) (cM GR hr (aF (dB (pv 0) rfl) (aF (pv 3) aE))) (by with_unfolding_all rfl)) (aM (bF aN)) bB)
   (aB (c4 hu (dB (pv 0) rfl) (pv 2) (pv 3) rfl)
   (aM (bF aN)))),?_⟩
  obtain⟨t,bZ,rfl,ht,hrest⟩:=c3.Ok.tup (fs:=ws) rdv;have O:r.word="mend":=by simpa using hw
  have rs:=ok.rs;obtain⟨word,name,day,ds⟩:=r;dsimp only at O rs hrest ht;subst O;cases rs with
  | @mend z q hh ho ag=>
  obtain rfl:=mS hrest;have ml:=mom.ml;refine⟨_,rfl,t,_,3,_,rfl,rfl,aH ht,rfl,_,rfl,t,_,4,_,rfl,rfl,aH ht,rfl,_,_,rfl,_,rfl,_,rfl,M,C,_,_,_,rfl,mom.ins,hc.cl,hc.m,rfl,_,rfl,MA.me,q,m,rfl,mom.me,mom.ac,by omega,fun L H1 hL Z ab=>?_⟩;refine⟨L,_,rfl,.inl (aY ab),rfl,gU _,_,rfl,?_⟩;have J:=mom.same Z;have Y:Tb T H1:=tb.same Z;rw[i6 (by show("mend":Str)≠"measure";decide)]at k;show if (if false=true then !inV (V.str z) ((rd m q).map V.str) else inV (V.str z) ((rd m q).map V.str))=true then _ else _
  rw[Ia Ay,nB];by_cases g:z∈rd m q
  ·rw[Ic g];exact eZ (k _ _ _ (dF Z) Y (J.mono (by omega)))
  ·rw[decide_eq_false g];refine dS ?_;refine⟨_,rfl,_,rfl,M,C,_,_,_,rfl,J.ins,hc.cl,hc.m,rfl,_,rfl,MA.me,_,rfl,gE.k (k:=Ac z) J.me (BM ml (by rw[BT];omega)),?_⟩;have aa:=aCX m z q;have ac:=mom.ac.mend z q;have em:mJ m z q=bT m (Ac z) (.str q):=Ia g;rw[em]at aa ac;exact k _ _ _ ((dF Z).trans (cQ (by simp))) (jN Y J.me) ((J.mono (show n≤n + 6 by omega)).setM ac (by omega))
theorem aF2:bY ["moment","row"] ["moment","row"] (aO kJ):=⟨rfl,rfl,rfl,by decide,rfl,by decide,by decide⟩
theorem aBf{f C T:Ae}{fd:A3}(F:Fun K "do_alone" "do_alone" kJ f fd)(hc:MC K C):cP P w K mg base CX0 1 f fd ["moment","row"] (iM C T ["alone"]):=by
 refine F.ok aF2 (fun vs H Q E h=>?_) (fun J A outer s H vs Q E O h=>?_)
 ·obtain⟨M,A,ws,n,m,ic,x,r,rfl,_⟩:=h;rfl
 ·obtain⟨M,MA,ws,n,m,ic,x,r,rfl,mom,hn,tb,rdv,ok,hw,k⟩:=h;have hu:=d7 O;refine⟨_,aB (cC (iU (iS hu (aQ aV (pv 1) aD Ig) (dB (pv 0) rfl))) (aM (bF aN)) bB)
   (aB (dP (j5 (dB (pv 0) rfl) (aQ aV (pv 1) aD Ig) ⟨rfl,rfl,rfl,rfl⟩))
   (aM (bF aN))),?_⟩
  obtain⟨t,bZ,rfl,ht,hrest⟩:=c3.Ok.tup (fs:=ws) rdv;have z:r.word="alone":=by simpa using hw
  have rs:=ok.rs;obtain⟨word,name,day,ds⟩:=r;dsimp only at z rs hrest ht;subst z;cases rs with
  | @alone q Y=>
  obtain rfl:=mS hrest;rw[i6 (by show("alone":Str)≠"measure";decide)]at k;refine⟨_,rfl,t,_,3,_,rfl,rfl,aH ht,rfl,_,rfl,M,C,_,_,_,rfl,mom.ins,hc.cl,hc.m,rfl,MA.me,_,rfl,.inl ⟨m,Ac q,.inl mom.me,rfl,rfl⟩,_,rfl,?_⟩;cases hv:bS m (Ac q)with
  | none=>exact eZ (k _ _ _ (cO.refl H) tb (mom.mono (by omega)))
  | some v=>
   refine dS ?_;refine⟨_,rfl,M,C,_,_,_,rfl,mom.ins,hc.cl,hc.m,rfl,MA.me,rfl,.inl ⟨m,.inl mom.me⟩,_,rfl,t,_,3,_,rfl,rfl,aH ht,rfl,m,Ac q,v,mom.me,rfl,hv,?_⟩;have ml:=mom.ml;have hd:=oV m (Ac q);exact k _ _ _ (cQ (by simp)) (jN tb mom.me) ((mom.mono (show n≤n + 6 by omega)).setM mom.ac.drop (by omega))
end K09
namespace L2
open PySem PySem.Spec PyProof.Rows
theorem xJ{X:Cx}{K:Ah}{e:Be}{f:Str}{pos:Pos}{ta:TE}(F:PE X e ta)(z:attributeBase e f X.env (eval e X.env)=eval e X.env:=by rfl)(q:X.K=K:=by rfl):PE X (.Attribute e f pos) (aH8 K ta f):=by
 subst q;exact dB F z
end L2
namespace K09
open PySem L2
theorem i7{H:Hp}:∀{z:List V}{R:List P3},cD false H z (R.map pD)→∀{i:Nat}{v:V},z[i]?=some v→∃ p q,R[i]?=some p∧v=.ref q∧H q=some (.tup [.str p.1,.str p.2.1,.int p.2.2])
 | _,[],h,i,v,e=>by cases h;simp at e
 | _,p :: R,h,i,v,e=>by
  rw[Av]at h;cases h with
  | cons a r=>
   cases i with
   | zero=>
    simp at e;subst e;unfold pD at a;cases a with
    | tup e hl q=>
     cases q with
     | cons M q=>
      cases q with
      | cons F q=>
       cases q with
       | cons J q=>
        cases q;cases M;cases F;cases J;exact⟨p,_,rfl,rfl,e⟩
   | succ i=>
    obtain⟨p',q,e1,e2⟩:=i7 r (i:=i) (by simpa using e);exact⟨p',q,by simpa using e1,e2⟩
theorem aBg{p:P3}(h:qP (pD p)=true):1≤p.2.2:=by
 simp only[pD,qP,aBd,Bv,decide_eq_true_eq]at h;omega
theorem aEJ:bY ["moment","row","parted","parts","pieces","low","land","house","acres"] ["moment","row"] (aO jJ):=⟨rfl,rfl,rfl,by decide,rfl,by decide,by decide⟩
theorem aC5{f C T:Ae}{fd:A3}(F:Fun K "do_part" "do_part" jJ f fd)(hc:MC K C)(br:mg "sum"=none)(bg:mg "any"=none)
  (GA:Cl P w K mg base 1 "acres_in" ["pieces"] aBV)
  (GC:Cl P w K mg base 1 "cut" ["pieces","low","high"] aGL):cP P w K mg base CX0 2 f fd ["moment","row"] (iM C T ["part"]):=by
 refine F.ok aEJ (fun vs H Q E h=>?_) (fun c1 A outer s H vs Q E hr h=>?_)
 ·obtain⟨M,A,ws,n,m,ic,x,r,rfl,_⟩:=h;rfl
 ·obtain⟨M,MA,ws,n,m,ic,x,r,rfl,mom,hn,tb,rdv,ok,hw,k⟩:=h;have hu:=d7 hr;have nd:=aEJ.nd;have bO:(["part","moment","parted"]:List Str).Nodup:=by decide
  refine⟨_,aB (iV (cH (aF (aQ aV (pv 1) aD Ig) (aF (aQ aV (pv 1) aD Ig) aE))) (fJ rfl (bH (aR (i:=2) nd rfl (Dq rfl)) (bH (aR (i:=3) nd rfl (Ar rfl)) dU))))
   (aB (cC (iU (iS hu (pv 2) (dB (pv 0) rfl))) (aM (bF aN)) bB)
   (aB (aX (i:=4) nd rfl (Ar rfl) (aQ aV (bJ hu (dB (pv 0) rfl) (pv 2) Ig) aD Ig))
   (aB (cC (aZ oQ (aW (sQ rfl) (by rfl) br Ep (aF (c5 (N:=["part"]) (src:=[none]) (osc:=aO jJ) (oN:=["moment","row","parted","parts","pieces","low","land","house","acres"]) ⟨by rfl,by decide,by decide,by decide,rfl,by rfl⟩ (dE (pv 3))
     fun cl s H fp gz C=>⟨aR (i:=0) (show(["part"]:List Str).Nodup by decide) rfl (Ar rfl),c8,aQ (r:=kZ K) aV (pv 0) aD Ig⟩) aE))
     (cM GA hr (aF (pv 4) aE)) (bG _)) (aM (bF aN)) bB)
   (aB (cC (pU (aW (yJ rfl) (by rfl) bg (by kernel_rfl) (aF (c5 (N:=["part","moment","parted"]) (src:=[none,some 0,some 2]) (osc:=aO jJ) (oN:=["moment","row","parted","parts","pieces","low","land","house","acres"]) ⟨by rfl,by decide,by decide,by decide,rfl,by rfl⟩ (dE (pv 3))
     fun cl s H fp gz C=>⟨aR (i:=0) bO rfl (Ar rfl),c8,aDh (kY oQ (aQ (r:=kZ K) aV (pv 0) aD Ig) (pv 2) (bG _)) (aDg (aAr (lY hu (aQ (r:=kZ K) aV (pv 0) aD Ig) (xJ (K:=K) (pv 1)))))⟩) aE))) (aM (bF aN)) bB)
   (aB (dP (j5 (dB (pv 0) rfl) (pv 2) ⟨rfl,rfl,rfl,rfl⟩))
   (aB (aX (i:=5) nd rfl (Ar rfl) aD)
   (aB (d8 A7 rfl (dE (pv 3)) (g:=qU K 3 (c7 (aU 6) (c7 (aU 7) (c7 (aU 8) qS)))) (fJ rfl (bH (aR (i:=6) nd rfl (Ar rfl)) (bH (aR (i:=7) nd rfl (Ar rfl)) (bH (aR (i:=8) nd rfl (Ar rfl)) dU))))
    (aB (c4 hu (dB (pv 0) rfl) (pv 6) (cH (aF (pv 7) (aF (cM GC hr (aF (pv 4) (aF (pv 5) (aF (bC cX (pv 5) (pv 8)) aE)))) aE))) rfl)
    (aM (aDl (i:=5) nd rfl (Ar rfl) (pv 8) aDm))))
   (aM (bF aN))))))))),?_⟩
  obtain⟨t,bZ,rfl,ht,hrest⟩:=c3.Ok.tup (fs:=ws) rdv;have az:r.word="part":=by simpa using hw
  have rs:=ok.rs;rw[i6 (by rw[az];decide)]at k;obtain⟨word,name,day,ds⟩:=r;dsimp only at az rs hrest ht;subst az;cases rs with
  | @part J R hl b5 h2 h6 bf=>
  obtain⟨q1,q2⟩:=rd2 hrest;cases q1;cases q2 with
  | @tup tp us _ b2 c0 bp=>
  have bb:=bp.len;rw[Aa]at bb;refine⟨_,rfl,t,_,3,_,rfl,rfl,aH ht,rfl,_,rfl,t,_,4,_,rfl,rfl,aH ht,rfl,zZ2,fun u bP=>?_⟩;have su:=aK (o:=.tup [V.str J,.ref tp]) bP;refine⟨u,_,rfl,aH aA,rfl,_,_,rfl,_,_,rfl,rfl,?_⟩;generalize upd H u (.tup [V.str J,.ref tp])=H0 at su ⊢;have O:=mom.same su;have av:Tb T H0:=tb.same su;have Y:=su _ _ b2;have ah:=bp.same su;obtain⟨hol,b,hh1,hnd,hlen,hT,hb⟩:=O.h;refine⟨_,rfl,_,rfl,M,C,_,_,_,rfl,O.ins,hc.cl,hc.h,rfl,MA.h,_,rfl,.inl ⟨hol,Ac J,.inl hh1,rfl,rfl⟩,_,rfl,?_⟩;cases hv:bS hol (Ac J)with
  | none=>exact eZ (k _ _ _ (dF su) av (O.mono (by omega)))
  | some v=>
  refine dS ?_;obtain⟨a,b',he,hT',hab⟩:=hT.take hv;obtain⟨t3,tp3,hs,xs,ps,rfl,e1,e2,e3,e4,e5⟩:=he;refine⟨_,rfl,M,C,_,_,_,rfl,O.ins,hc.cl,hc.h,rfl,_,rfl,MA.h,_,rfl,.inl ⟨hol,Ac J,.inl hh1,rfl,hv.symm⟩,t3,_,1,_,rfl,rfl,aH e1,rfl,?_⟩;have cr:=e4.len;have cL:=Bx e3;have cf:=hT'.pos;have bj:xs.length≤8000000:=by omega
  have z8:∀ i,i≤8000000→i≤sizeLine:=fun i h=>by rw[BT];omega
  refine⟨_,rfl,tp,rfl,⟨_,aH Y⟩,?_⟩;refine dN (K:=K) (xs:=us) (fun i ys σ' H'=>∃ o1:Option V,σ'=[o1]∧b9 H0 H'∧ys=((R.take i).map fun p=>p.2.2).map V.int) ⟨none,rfl,b9.refl H0,by simp⟩
   (z8 _ (by omega)) (fun i ys σ H' p=>by obtain⟨_,_,_,rfl⟩:=p;simp;omega) (fun i ys σ H' p=>by obtain⟨_,_,S,_⟩:=p;exact aH (S _ _ Y)) ?_ ?_
  ·rintro i v ys σ' H1 hv ⟨o1,rfl,S,rfl⟩;obtain⟨p,q,hp,rfl,hq⟩:=i7 ah hv;dsimp only[aU];refine eZ ?_;refine⟨_,rfl,q,_,2,_,rfl,rfl,aH (S _ _ hq),rfl,_,rfl,S,?_⟩;rw[AE,hp];simp
  rintro ys σ' H1 ⟨o1,rfl,S1,rfl⟩ D hD;rw[bb,AM];have S2:=S1.trans (aK (o:=.lst ((R.map fun p=>p.2.2).map V.int)) hD);refine⟨D,R.map fun p=>p.2.2,rfl,aY aA,_,rfl,tp3,xs,ps,rfl,S2 _ _ e2,e3.same S2,z8 _ bj,fun H3 S3=>?_⟩;have S4:=S2.trans S3;generalize upd H1 D _=H2 at S2 S3;refine⟨rfl,_,rfl,cR (fun g=>k _ _ _ (dF (su.trans S4)) (av.same S4) ((O.same S4).mono (by omega))) fun g=>?_⟩;refine⟨_,rfl,tp,rfl,⟨_,aH (S4 _ _ Y)⟩,?_⟩;refine dN (K:=K) (xs:=us) (fun i ys σ' H'=>∃(o1:Option V) (bs:List Bool),σ'=[o1,some (.ref M),some (.str J)]∧b9 H3 H'∧ys=bs.map V.bl∧bs.length=i) ⟨none,[],rfl,b9.refl H3,rfl,rfl⟩
   (z8 _ (by omega)) (fun i ys σ H' p=>by obtain⟨_,_,_,_,rfl,e⟩:=p;simp;omega) (fun i ys σ H' p=>by obtain⟨_,_,_,S,_⟩:=p;exact aH (S _ _ (S4 _ _ Y))) ?_ ?_
  ·rintro i v ys σ' H5 hv ⟨o1,bs,rfl,S,rfl,bc⟩;obtain⟨p,q,hp,rfl,hq⟩:=i7 ah hv;have bi:=S _ _ (S4 _ _ hq);have bu:=(O.same S4).same S;have nx:∀ c:Bool,∃(o1:Option V) (bn:List Bool),[some (V.ref q),some (V.ref M),some (.str J)]=[o1,some (.ref M),some (.str J)]∧b9 H3 H5∧bs.map V.bl ++ [.bl c]=bn.map V.bl∧bn.length=i + 1:=fun c=>⟨_,bs ++ [c],rfl,S,by simp,by simp[bc]⟩
   dsimp only[aU];refine eZ ?_;refine⟨_,rfl,q,_,0,_,rfl,rfl,aH bi,rfl,_,rfl,rfl,_,rfl,cR (fun g2=>?_) fun g2=>nx false⟩;refine⟨_,rfl,q,_,0,_,rfl,rfl,aH bi,rfl,_,rfl,M,C,_,_,_,rfl,bu.ins,hc.cl,hc.h,rfl,MA.h,_,rfl,.inl ⟨hol,Ac p.1,.inl (S _ _ (S4 _ _ hh1)),rfl,rfl⟩,nx _⟩
  rintro ys σ' H5 ⟨o1,bs,rfl,S5,rfl,bc⟩ D2 bz;have S6:=(S4.trans S5).trans (aK (o:=.lst (bs.map V.bl)) bz);refine⟨D2,bs,rfl,aY aA,_,rfl,?_⟩;generalize upd H5 D2 _=H6 at S6 ⊢;have af:=O.same S6;have ba:Tb T H6:=av.same S6;refine cR (fun g2=>k _ _ _ (dF (su.trans S6)) ba (af.mono (by omega))) fun g2=>?_;refine⟨_,rfl,M,C,_,_,_,rfl,af.ins,hc.cl,hc.h,rfl,MA.h,rfl,.inl ⟨hol,.inl (S6 _ _ hh1)⟩,_,rfl,hol,Ac J,_,S6 _ _ hh1,rfl,hv,?_⟩;have cz:=oV hol (Ac J);have an:Mom (upd H6 MA.h (.dK (cA hol (Ac J)))) C M MA ws n m ic:=af.setH (hJ hnd) (by omega) (Am _) (hT'.on (bV S6)) (by omega);have bo:Tb T (upd H6 MA.h (.dK (cA hol (Ac J)))):=jN ba (S6 _ _ hh1);have K7:cO [T,MA.h,MA.i,MA.me] H (upd H6 MA.h (.dK (cA hol (Ac J)))):=(dF (su.trans S6)).trans (cQ (by simp));have T7:d6 H0 (upd H6 MA.h (.dK (cA hol (Ac J)))):=fun q us e=>by
   rw[aG (bU (S6 _ _ e) (S6 _ _ hh1) (fun z=>nomatch z))];exact S6 _ _ e
  have bd:f8 (upd H6 MA.h (.dK (cA hol (Ac J)))) ws (cA hol (Ac J)) b':=hT'.on T7;have bq:upd H6 MA.h (.dK (cA hol (Ac J))) MA.h=some (.dK (cA hol (Ac J))):=aA;generalize upd H6 MA.h (.dK (cA hol (Ac J)))=H7 at an bo K7 T7 bd bq ⊢;have bm:∀ p∈ps,p.2.1 < p.2.2:=fun p hp=>(e4.ok p hp).2;refine⟨_,rfl,tp,rfl,⟨_,aH (T7 _ _ Y)⟩,?_⟩;refine gZ (K:=K) (xs:=us) (fun i σ H'=>Ex3 fun(o6 o7 o8:Option V)=>Ex3 fun(lo c:Int) (hl:List (Key×V))=>Aw6 (σ=[some (.ref M),some (.ref t),some (.str J),some (.ref tp),some (.ref tp3),some (.int lo),o6,o7,o8]) (cO [T,MA.h,MA.i,MA.me] H H') (d6 H0 H') (Tb T H') (Mom H' C M MA ws (n + i) m ic) (Aw6 (H' MA.h=some (.dK hl)) ((hl.map (·.1)).Nodup) (hl.length≤n + i) (f8 H' ws hl c) (0≤lo) (c≤b' + bef ps lo)))
   ⟨none,none,none,0,b',cA hol (Ac J),rfl,K7,T7,bo,an,bq,hJ hnd,by omega,bd,CN _,by rw[aGK ps 0 bm (CN _)];omega⟩ (fun i σ H' _ p=>by obtain⟨_,_,_,_,_,_,_,_,tt,_⟩:=p;exact aH (tt _ _ Y)) ?_ ?_
  ·rintro i v σ H8 b6 ⟨o6,o7,o8,lo,c,al,rfl,K8,T8,aI,ae,aj,aa,ad,be,b1,b4⟩;obtain⟨p,q,hp,rfl,hq⟩:=i7 ah b6;have cs:1≤p.2.2:=aBg (A5.mp bf _ (Ba (AH hp)));have cy:i < R.length:=(At.mp hp).1;refine⟨q,_,rfl,aH (T8 _ _ hq),rfl,_,_,rfl,_,_,rfl,_,_,rfl,rfl,_,rfl,_,rfl,_,rfl,_,rfl,_,rfl,_,_,rfl,rfl,tp3,xs,ps,lo,lo + p.2.2,rfl,T8 _ _ e2,e3.on T8,z8 _ bj,fun t9 bW H9 S9 b0 bL=>?_⟩;refine⟨zZ2,fun u9 ax=>?_⟩;have Z:=S9.trans (aK (o:=.tup [V.str p.2.1,.ref t9]) ax);have aq:=bL.same (aK (o:=.tup [V.str p.2.1,.ref t9]) ax);have ao:=(aK (o:=.tup [V.str p.2.1,.ref t9]) ax) _ _ b0;have au:upd H9 u9 (.tup [V.str p.2.1,.ref t9]) u9=_:=aA;generalize upd H9 u9 (.tup [V.str p.2.1,.ref t9])=aw at Z aq ao au ⊢;have ag:=ae.same Z;have hE:oI aw ws (.ref u9) (acr (nG ps lo (lo + p.2.2))):=⟨u9,t9,p.2.1,bW,_,rfl,au,ao,aq,zF e4,rfl⟩
   obtain⟨c',hT10,hc10⟩:=(be.on (bV Z)).put (k:=Ac p.1) aa hE;have ca:=aBU (lo:=lo) (hi:=lo + p.2.2) e4 (by omega);have cc:=aEy ps (lo + p.2.2) bm;have cv:=cB al (Ac p.1) (.ref u9);refine⟨_,rfl,M,C,_,_,_,rfl,ag.ins,hc.cl,hc.h,rfl,_,rfl,MA.h,_,rfl,gE.k (k:=Ac p.1) (Z _ _ aj) (BM ad (by rw[BT];omega)),_,rfl,_,rfl,_,_,rfl,rfl,?_⟩;have bh:d6 aw (upd aw MA.h (.dK (bT al (Ac p.1) (.ref u9)))):=fun q us e=>by
    rw[aG (bU e (Z _ _ aj) (fun z=>nomatch z))];exact e
   exact⟨_,_,_,lo + p.2.2,c',bT al (Ac p.1) (.ref u9),rfl,(K8.same Z).trans (cQ (by simp)),fun q us e=>bh _ _ (Z _ _ (T8 _ _ e)),jN (aI.same Z) (Z _ _ aj),ag.setH (lH _ aa) (by omega) (by omega) hT10 (by omega),aA,lH _ aa,by omega,hT10.on bh,by omega,by omega⟩
  ·rintro σ H8 ⟨o6,o7,o8,lo,c,al,rfl,K8,T8,aI,ae,aj,aa,ad,be,b1,b4⟩;exact k _ _ _ K8 aI (ae.mono (by omega))
theorem Mom.sameT{H H':Hp}{C M T:Ae}{A:MA}{ws:List Str}{n:Nat}{m:Mnd}{ic:List (Key×V)}(h:Mom H C M A ws n m ic)(s:dH T H H')(g:Tb T H):Mom H' C M A ws n m ic:=by
 obtain⟨tps,hT,_⟩:=g.ex;have go:∀ b o,H b=some o→(∀ ps,o≠.tbl ps)→H' b=some o:=fun b o e ne=>s b o (fun z=>by rw[z,hT]at e;cases e;exact ne _ rfl) e;obtain⟨rks,hr,r2⟩:=h.r;obtain⟨hol,b,hh,h2,h3,h4,h5⟩:=h.h;obtain⟨hi,i2⟩:=h.i;exact⟨go _ _ h.ins (fun _ z=>nomatch z),⟨rks,go _ _ hr (fun _ z=>nomatch z),r2⟩,⟨hol,b,go _ _ hh (fun _ z=>nomatch z),h2,h3,h4.on (cE s g),h5⟩,⟨go _ _ hi (fun _ z=>nomatch z),i2⟩,go _ _ h.me (fun _ z=>nomatch z),h.ac,h.ml,h.rh,h.ri,h.rm,h.hi,h.hm,h.im⟩
theorem Mom.list{H:Hp}{C M L:Ae}{A:MA}{ws:List Str}{n:Nat}{m:Mnd}{ic:List (Key×V)}{xs ys:List V}(h:Mom H C M A ws n m ic)(e:H L=some (.lst xs)):Mom (upd H L (.lst ys)) C M A ws n m ic:=by
 have go:∀ b o,H b=some o→(∀ xs,o≠.lst xs)→upd H L (.lst ys) b=some o:=fun b o q ne=>by
  rw[aG (fun z=>by rw[z,e]at q;cases q;exact ne _ rfl)];exact q
 obtain⟨rks,hr,r2⟩:=h.r;obtain⟨hol,b,hh,h2,h3,h4,h5⟩:=h.h;obtain⟨hi,i2⟩:=h.i;exact⟨go _ _ h.ins (fun _ z=>nomatch z),⟨rks,go _ _ hr (fun _ z=>nomatch z),r2⟩,⟨hol,b,go _ _ hh (fun _ z=>nomatch z),h2,h3,h4.on (fun q F z=>go _ _ z (fun _ z=>nomatch z)),h5⟩,⟨go _ _ hi (fun _ z=>nomatch z),i2⟩,go _ _ h.me (fun _ z=>nomatch z),h.ac,h.ml,h.rh,h.ri,h.rm,h.hi,h.hm,h.im⟩
theorem aF3{T L:Ae}{xs ys:List V}{H:Hp}(g:Tb T H)(e:H L=some (.lst xs)):Tb T (upd H L (.lst ys)):=aEC g fun b o q n=>by
 rw[aG (fun z=>n ⟨xs,by rw[z];exact e⟩)];exact q
theorem nC{m:Bool}{H:Hp}:∀{q:List V}{R:List Str},cD m H q (R.map BK)→q=R.map V.str
 | _,[],h=>by cases h;rfl
 | _,z :: R,h=>by
  rw[Av]at h;cases h with
  | cons a r=>
   cases a;rw[nC r];rfl
theorem aEK:bY ["moment","row","joined","land","house","pieces","name"] ["moment","row"] (aO jK):=⟨rfl,rfl,rfl,by decide,rfl,by decide,by decide⟩
theorem aC6{f C T:Ae}{fd:A3}(F:Fun K "do_join" "do_join" jK f fd)(hc:MC K C)(bv:mg "all"=none)(bx:mg "any"=none)
  (GI:Cl P w K mg base 4 "in_one" ["ranks","pieces"] (aBX T)):cP P w K mg base CX0 5 f fd ["moment","row"] (iM C T ["join"]):=by
 refine F.ok aEK (fun vs H Q E h=>?_) (fun dr A outer s H vs Q E hr h=>?_)
 ·obtain⟨M,A,ws,n,m,ic,x,r,rfl,_⟩:=h;rfl
 ·obtain⟨M,MA,ws,n,m,ic,x,r,rfl,mom,hn,tb,rdv,ok,hw,k⟩:=h;have hu:=d7 hr;have nd:=aEK.nd;have b4:(["name","moment"]:List Str).Nodup:=by decide
  have ca:(["name","moment","house"]:List Str).Nodup:=by decide
  refine⟨_,aB (aAs (i:=2) (j:=3) rfl nd rfl rfl (by decide) rfl rfl (aF (aQ aV (pv 1) aD Ig) (aF (aQ aV (pv 1) aD Ig) aE)) rfl)
   (aB (cC (wK (pU (aW (aDN rfl) (by rfl) bv (by kernel_rfl) (aF (c5 (N:=["name","moment"]) (src:=[none,some 0]) (osc:=aO jK) (oN:=["moment","row","joined","land","house","pieces","name"]) ⟨by rfl,by decide,by decide,by decide,rfl,by rfl⟩ (dE (pv 2))
     fun cl s H fp gz C=>⟨aR (i:=0) b4 rfl (Ar rfl),c8,aAr (lY hu (pv 0) (xJ (K:=K) (pv 1)))⟩) aE)))) (aM (bF aN)) bB)
   (aB (aX (i:=4) nd rfl (Dq rfl) (aQ aV (bJ hu (dB (pv 0) rfl) (aQ aV (pv 2) aD Ig) Ig) aD Ig))
   (aB (cC (pU (aW (yJ rfl) (by rfl) bx (by kernel_rfl) (aF (c5 (N:=["name","moment","house"]) (src:=[none,some 0,some 4]) (osc:=aO jK) (oN:=["moment","row","joined","land","house","pieces","name"]) ⟨by rfl,by decide,by decide,by decide,rfl,by rfl⟩ (dE (pv 2))
     fun cl s H fp gz C=>⟨aR (i:=0) ca rfl (Ar rfl),c8,kY oQ (aQ (r:=kZ K) aV (bJ hu (xJ (K:=K) (pv 1)) (pv 0) Ig) aD Ig) (pv 2) (bG _)⟩) aE))) (aM (bF aN)) bB)
   (aB (cC (wS (PW.pt (iH (aZ lA (pv 3) (pv 2) (by with_unfolding_all rfl)) (gF (iU (lY hu (pv 3) (dB (pv 0) rfl))))))) (aM (bF aN)) bB)
   (aB (aX (i:=5) nd rfl (Ar rfl) (c6 aE))
   (aB (d8 A7 rfl (dE (pv 2)) (aR (i:=6) nd rfl (Ar rfl))
    (aM (dP (j0 A8 PySem.F.slot_list_extend PySem.F.type_list_extend aA1 (pv 5) (aF (aQ aV (j5 (dB (pv 0) rfl) (pv 6) ⟨rfl,rfl,rfl,rfl⟩) aD Ig) aE)))))
   (aB (c4 hu (dB (pv 0) rfl) (pv 3) (cH (aF (pv 4) (aF (cM GI hr (aF (dB (pv 0) rfl) (aF (pv 5) aE))) aE))) rfl)
   (aM (bF aN))))))))),?_⟩
  obtain⟨t,bZ,rfl,ht,hrest⟩:=c3.Ok.tup (fs:=ws) rdv;have bj:r.word="join":=by simpa using hw
  have rs:=ok.rs;rw[i6 (by rw[bj];decide)]at k;obtain⟨word,name,day,ds⟩:=r;dsimp only at bj rs hrest ht;subst bj;cases rs with
  | @join aa R hl bm h2 h6 b3=>
  obtain⟨q1,q2⟩:=rd2 hrest;cases q2;cases q1 with
  | @tup tp us _ ao dn cv=>
  obtain rfl:=nC cv;have cc:=bm;refine⟨_,rfl,t,_,3,_,rfl,rfl,aH ht,rfl,_,rfl,t,_,4,_,rfl,rfl,aH ht,rfl,_,_,rfl,?_⟩;obtain⟨hol,b,hh1,hnd,hlen,hT,hb⟩:=mom.h;have zs:∀ i,i≤8000000→i≤sizeLine:=fun i h=>by rw[BT];omega
  have cs:(R.map V.str).length=R.length:=Aa _;refine⟨_,rfl,tp,rfl,⟨_,aH ao⟩,?_⟩;refine dN (K:=K) (xs:=R.map V.str) (fun i ys σ' H'=>∃(o1:Option V),σ'=[o1,some (.ref M)]∧b9 H H'∧ys=((R.take i).map fun z=>(bS hol (Ac z)).isSome).map V.bl) ⟨none,rfl,b9.refl H,by simp⟩
   (zs _ (by omega)) (fun i ys σ H' p=>by obtain⟨_,_,_,rfl⟩:=p;simp;omega) (fun i ys σ H' p=>by obtain⟨_,_,S,_⟩:=p;exact aH (S _ _ ao)) ?_ ?_
  ·rintro i v ys σ' H1 hv ⟨o1,rfl,S,rfl⟩;rw[An]at hv;obtain⟨z,hz,rfl⟩:=AG.mp hv;dsimp only[aU];refine eZ ?_;refine⟨_,rfl,_,rfl,M,C,_,_,_,rfl,(mom.same S).ins,hc.cl,hc.h,rfl,MA.h,_,rfl,.inl ⟨hol,Ac z,.inl (S _ _ hh1),rfl,rfl⟩,_,rfl,S,?_⟩;rw[AE,hz];simp
  rintro ys σ' H1 ⟨o1,rfl,S1,rfl⟩ D hD;rw[cs,AM];have S2:=S1.trans (aK (o:=.lst ((R.map fun z=>(bS hol (Ac z)).isSome).map V.bl)) hD);refine⟨D,R.map fun z=>(bS hol (Ac z)).isSome,rfl,aY aA,_,rfl,?_⟩;generalize upd H1 D _=H2 at S2 ⊢;have ag:=mom.same S2;have bw:Tb T H2:=tb.same S2;refine cR (fun g=>k _ _ _ (dF S2) bw (ag.mono (by omega))) fun g=>?_;have bg:∀ z∈R,∃ v,bS hol (Ac z)=some v:=fun z hz=>by
   have g':((R.map fun z=>(bS hol (Ac z)).isSome).all id)=true:=by
    cases hh:((R.map fun z=>(bS hol (Ac z)).isSome).all id)with
    | true=>rfl
    | false=>rw[hh]at g;exact absurd rfl g
   have:=A5.mp g' _ (Ba hz);exact A2.mp this
  have br:=hT.on (bV S2);have ae:=S2 _ _ ao;have bf:=S2 _ _ hh1;obtain⟨z0,R',rfl⟩:∃ z0 R',R=z0 :: R':=by
   cases R with
   | nil=>simp at h2
   | cons z0 R'=>exact⟨z0,R',rfl⟩
  obtain⟨v0,hv0⟩:=bg z0 Al;obtain⟨_,_,⟨t0,tp0,hs0,xs0,ps0,rfl,e1,_⟩,_⟩:=br.take hv0;have cr:atI ((z0 :: R').map V.str) 0=some (.str z0):=fU (xs:=(z0 :: R').map V.str) (j:=0) rfl;refine⟨_,rfl,M,C,_,_,_,rfl,ag.ins,hc.cl,hc.h,rfl,_,rfl,tp,_,0,_,rfl,rfl,aH ae,cr,MA.h,_,rfl,.inl ⟨hol,Ac z0,.inl bf,rfl,hv0.symm⟩,t0,_,0,_,rfl,rfl,aH e1,rfl,?_⟩;generalize dg:z0 :: R'=R at *;refine⟨_,rfl,tp,rfl,⟨_,aH ae⟩,?_⟩;refine dN (K:=K) (xs:=R.map V.str) (fun i ys σ' H'=>∃(o1:Option V) (bs:List Bool),σ'=[o1,some (.ref M),some (.str hs0)]∧b9 H2 H'∧ys=bs.map V.bl∧bs.length=i) ⟨none,[],rfl,b9.refl H2,rfl,rfl⟩
   (zs _ (by omega)) (fun i ys σ H' p=>by obtain⟨_,_,_,_,rfl,e⟩:=p;simp;omega) (fun i ys σ H' p=>by obtain⟨_,_,_,S,_⟩:=p;exact aH (S _ _ ae)) ?_ ?_
  ·rintro i v ys σ' H5 hv ⟨o1,bs,rfl,S,rfl,bq⟩;rw[An]at hv;obtain⟨z,hz,rfl⟩:=AG.mp hv;obtain⟨v1,hv1⟩:=bg z (AH hz);obtain⟨_,_,⟨t5,tp5,hs5,xs5,ps5,rfl,e5,_⟩,_⟩:=br.take hv1;dsimp only[aU];refine eZ ?_;exact⟨_,rfl,M,C,_,_,_,rfl,(ag.same S).ins,hc.cl,hc.h,rfl,_,rfl,MA.h,_,rfl,.inl ⟨hol,Ac z,.inl (S _ _ bf),rfl,hv1.symm⟩,t5,_,0,_,rfl,rfl,aH (S _ _ e5),rfl,_,rfl,rfl,_,bs ++ [!decide (V.str hs5=V.str hs0)],rfl,S,by rw[Az];rfl,by simp[bq]⟩
  rintro ys σ' H5 ⟨o1,bs,rfl,S5,rfl,bq⟩ D2 b1;have S6:=S5.trans (aK (o:=.lst (bs.map V.bl)) b1);refine⟨D2,bs,rfl,aY aA,_,rfl,?_⟩;generalize upd H5 D2 _=H6 at S6 ⊢;have af:=ag.same S6;have bd:Tb T H6:=bw.same S6;have az:=S2.trans S6;refine cR (fun g2=>k _ _ _ (dF az) bd (af.mono (by omega))) fun g2=>?_;refine⟨fun _ H'=>H'=H6,?_,fun bb H' e=>?_⟩
  ·refine⟨_,rfl,_,rfl,tp,_,rfl,.inr (aH (S6 _ _ ae)),rfl,gU _,_,rfl,cR (fun g3=>?_) fun g3=>rfl⟩;exact⟨_,rfl,_,rfl,M,C,_,_,_,rfl,af.ins,hc.cl,hc.h,rfl,MA.h,_,rfl,.inl ⟨hol,Ac aa,.inl (S6 _ _ bf),rfl,rfl⟩,_,rfl,rfl⟩
  subst e;refine cR (fun g3=>k _ _ _ (dF az) bd (af.mono (by omega))) fun g3=>?_;refine⟨A0 _,fun L hL=>?_⟩;have sL:=aK (o:=.lst []) hL;have aI:=af.same sL;have bL:Tb T _:=bd.same sL;have bz:upd H' L (.lst []) L=some (.lst []):=aA;have ah:=az.trans sL;have cu:H L=none:=az.free hL;generalize upd H' L (.lst [])=H7 at sL aI bL bz ah ⊢;have bu:=ah _ _ ao;refine⟨_,rfl,tp,rfl,⟨_,aH bu⟩,?_⟩;refine gZ (K:=K) (xs:=R.map V.str) (fun i σ H'=>Ex3 fun(o6:Option V) (hl:List (Key×V)) (c:Int)=>∃(xs:List V) (ps:List Pc),Aw6 (σ=[some (.ref M),some (.ref t),some (.ref tp),some (.str aa),some (.str hs0),some (.ref L),o6]) (cO [T,MA.h,MA.i,MA.me] H H') (d6 H H') (Tb T H') (Mom H' C M MA ws n m ic) (Aw6 (H' MA.h=some (.dK hl)) ((hl.map (·.1)).Nodup) (hl.length≤n) (f8 H' ws hl c) (H' L=some (.lst xs)) (Aw3 (eQ H' xs ps) (f9 ws ps) (acr ps + c≤b∧∀ j z,i≤j→R[j]?=some z→∃ v,bS hl (Ac z)=some v))))
   ⟨none,hol,b,[],[],rfl,dF ah,bV ah,bL,aI,ah _ _ hh1,hnd,hlen,hT.on (bV ah),bz,.nil,⟨fun p hp=>by simp at hp⟩,by simp[acr],fun j z _ e=>bg z (AH e)⟩ (fun i σ H' _ p=>by obtain⟨_,_,_,_,_,_,_,tt,_⟩:=p;exact aH (tt _ _ ao)) ?_ ?_
  ·rintro i v σ H8 bN ⟨o6,J,c,xs,ps,rfl,K8,T8,ai,O,Y,Z,ak,av,aj,ar,am,cq,aq⟩;rw[An]at bN;obtain⟨z,hz,rfl⟩:=AG.mp bN;obtain⟨v1,hv1⟩:=aq i z (Am _) hz;obtain⟨a9,c9,⟨t9,tp9,hs9,xs9,ps9,rfl,f1,f2,f3,f4,f5⟩,hT9,hac9⟩:=av.take hv1;have b5:=hT9.pos;have dj:=f4.len;have b2:=am.len;have cm:=Bx ar;have cx:=Bx f3;have dl:=oV J (Ac z);dsimp only[aU];have bM:L≠MA.h:=bU aj Y (fun z=>nomatch z);have aL:Mom (upd H8 MA.h (.dK (cA J (Ac z)))) C M MA ws n m ic:=O.setH (hJ Z) (by omega) (Am _) hT9 (by omega);have T9:d6 H8 (upd H8 MA.h (.dK (cA J (Ac z)))):=fun q us e=>by
    rw[aG (bU e Y (fun z=>nomatch z))];exact e
   have ap:upd H8 MA.h (.dK (cA J (Ac z))) L=some (.lst xs):=by
    rw[aG bM];exact aj
   have aC:Tb T (upd H8 MA.h (.dK (cA J (Ac z)))):=jN ai Y;have K9:cO [T,MA.h,MA.i,MA.me] H (upd H8 MA.h (.dK (cA J (Ac z)))):=K8.trans (cQ (by simp));have bI:upd H8 MA.h (.dK (cA J (Ac z))) MA.h=some (.dK (cA J (Ac z))):=aA;refine⟨_,rfl,.inl ⟨rfl,_,aY aj⟩,_,rfl,M,C,_,_,_,rfl,O.ins,hc.cl,hc.h,rfl,MA.h,rfl,.inl ⟨J,.inl Y⟩,_,rfl,J,Ac z,_,Y,rfl,hv1,t9,_,1,_,rfl,rfl,aH (T9 _ _ f1),rfl,L,tp9,xs,xs9,rfl,rfl,ap,T9 _ _ f2,zs _ (by omega),?_⟩;generalize upd H8 MA.h (.dK (cA J (Ac z)))=H9 at aL T9 ap aC K9 bI ⊢;have bn:d6 H9 (upd H9 L (.lst (xs ++ xs9))):=fun q us e=>by
    rw[aG (bU e ap (fun z=>nomatch z))];exact e
   have aw:d6 H8 (upd H9 L (.lst (xs ++ xs9))):=fun q us e=>bn _ _ (T9 _ _ e);refine⟨_,cA J (Ac z),c9,xs ++ xs9,ps ++ ps9,rfl,fun bb o nn e=>?_,fun q us e=>aw _ _ (T8 _ _ e),aF3 aC ap,aL.list ap,by rw[aG bM.symm];exact bI,hJ Z,by omega,hT9.on aw,aA,Paired.app (ar.on aw) (f3.on aw),am.app f4,by rw[lG];omega,fun j y hj ey=>?_⟩
   ·rw[aG (aJ e cu)];exact K9 bb o nn e
   ·obtain⟨vy,hvy⟩:=aq j y (by omega) ey;rw[kH,Ia]
    ·exact⟨vy,hvy⟩
    ·intro zz;have cb:=Ac.inj zz;subst cb;obtain⟨h1,e1⟩:=At.mp hz;obtain⟨h2',e2⟩:=At.mp ey;have:=(FS cc).mp (e1.trans e2.symm);omega
  ·rintro σ H8 ⟨o6,J,c,xs,ps,rfl,K8,T8,ai,O,Y,Z,ak,av,aj,ar,am,cq,aq⟩;obtain⟨rks,hr8,hrk8⟩:=O.r;have c0:=av.pos;have b2:=am.len;have cm:=Bx ar;refine⟨_,rfl,_,rfl,M,C,_,_,_,rfl,O.ins,hc.cl,hc.r,rfl,_,rfl,MA.r,L,rks,xs,ps,ws,rfl,hr8,hrk8,aj,ar,am,BM (show xs.length≤8000000 by omega) (by rw[BT];omega),ai,fun t9 cg bt H9 S9 aC ci b6 ck dq=>?_⟩;refine⟨zZ2,fun u9 cf=>?_⟩;have ab:=aK (o:=.tup [V.str hs0,.ref t9]) cf;have ad:=(O.sameT S9 ai).same ab;have bc:Tb T _:=aC.same ab;have an:upd H9 u9 (.tup [V.str hs0,.ref t9]) MA.h=some (.dK J):=by
    obtain⟨tps,hTT,_⟩:=ai.ex;exact ab _ _ (S9 _ _ (fun z=>by rw[z,hTT]at Y;cases Y) Y)
   have bn:d6 H8 (upd H9 u9 (.tup [V.str hs0,.ref t9])):=fun q us e=>ab _ _ (cE S9 ai _ _ e);have bD:cO [T,MA.h,MA.i,MA.me] H (upd H9 u9 (.tup [V.str hs0,.ref t9])):=fun bb o nn e=>ab _ _ (S9 _ _ (fun z=>nn (by rw[z];simp)) (K8 bb o nn e));have hE:oI (upd H9 u9 (.tup [V.str hs0,.ref t9])) ws (.ref u9) (acr bt):=⟨u9,t9,hs0,cg,bt,rfl,aA,ab _ _ ci,b6.same ab,ck,rfl⟩
   obtain⟨c',hT11,hc11⟩:=(av.on bn).put (k:=Ac aa) Z hE;have dh:=cB J (Ac aa) (.ref u9);generalize upd H9 u9 (.tup [V.str hs0,.ref t9])=di at ad bc an bD hT11 ⊢;exact⟨_,rfl,M,C,_,_,_,rfl,ad.ins,hc.cl,hc.h,rfl,_,rfl,MA.h,_,rfl,gE.k (k:=Ac aa) an (BM ak (by rw[BT];omega)),k _ _ _ (bD.trans (cQ (by simp))) (jN bc an) (ad.setH (lH _ Z) (by omega) (by omega) hT11 (by omega))⟩
structure oK(P:AC)(w:AT)(K:Ah)(mg:Str→Option Ad)(base:Bi)(C T:Ae)(g:Ae)(W:List Str):Prop where
 ex:∃ fd,cP P w K mg base CX0 5 g fd ["moment","row"] (iM C T W)∧AO K (.ref g)=true∧d9 K fd ["moment","row"] []
theorem aBZ:bY ["moment","row","deed"] ["moment","row"] (aO aA9):=⟨rfl,rfl,rfl,by decide,rfl,by decide,by decide⟩
theorem aEL{f C T ra J g1 O g3 Z Y q:Ae}{fd:A3}(F:Fun K "carry_out" "carry_out" aA9 f fd)
  (ad:∀ h:Bi,K.In h→h.DictOf (cF P w) ra (fmR J g1 O g3 Z Y q q)) (mF:mg "DEEDS"=some (.ref ra))
  (G0:oK P w K mg base C T J ["part"]) (G1:oK P w K mg base C T g1 ["join"]) (G2:oK P w K mg base C T O ["forfeit"]) (G3:oK P w K mg base C T g3 ["measure"]) (G4:oK P w K mg base C T Z ["mend"]) (G5:oK P w K mg base C T Y ["alone"]) (G6:oK P w K mg base C T q ["breach","view"]):
  cP P w K mg base CX0 6 f fd ["moment","row"] (iM C T f7):=by
 refine F.ok aBZ (fun vs H Q E h=>?_) (fun ag A outer s H vs Q E hr h=>?_)
 ·obtain⟨M,A,ws,n,m,ic,x,r,rfl,_⟩:=h;rfl
 ·obtain⟨M,MA,ws,n,m,ic,x,r,rfl,mom,hn,tb,rdv,ok,hw,k⟩:=h;have nd:=aBZ.nd;refine⟨_,aB (aX (i:=2) nd rfl (Ar rfl) (aFG ad (aHI J g1 O g3 Z Y q q) (by rfl) mF (aQ aV (pv 1) aD Ig) Ig))
   (aM (bF (aDY (k:=5) (ps:=["moment","row"]) (pv 2) hr (aF (pv 0) (aF (pv 1) aE))))),?_⟩
  obtain⟨t,bZ,rfl,ht,hrest⟩:=c3.Ok.tup (fs:=ws) rdv;have a0:=(aEH (word:=r.word) (name:=r.name) (day:=r.day) (bZ:=bZ)).1;obtain⟨g,W,hg,hW,fdg,Gg,kg,bg⟩:∃ g W,bS (fmV J g1 O g3 Z Y q q) (Ac r.word)=some (.ref g)∧r.word∈W∧∃ fd,cP P w K mg base CX0 5 g fd ["moment","row"] (iM C T W)∧AO K (.ref g)=true∧d9 K fd ["moment","row"] []:=by
   have z:=ok.rs.word;unfold f7 at z;simp only[Ak,Ao,or_false]at z;rcases z with e | e | e | e | e | e | e | e <;> rw[e]
   ·exact⟨J,_,rfl,Al,G0.ex⟩
   ·exact⟨g1,_,rfl,Al,G1.ex⟩
   ·exact⟨O,_,rfl,Al,G2.ex⟩
   ·exact⟨g3,_,rfl,Al,G3.ex⟩
   ·exact⟨Z,_,rfl,Al,G4.ex⟩
   ·exact⟨Y,_,rfl,Al,G5.ex⟩
   ·exact⟨q,_,rfl,Al,G6.ex⟩
   ·exact⟨q,_,rfl,Ap _ Al,G6.ex⟩
  exact⟨_,rfl,t,_,0,_,rfl,rfl,aH ht,a0,Ac r.word,.ref g,rfl,hg,_,rfl,g,_,rfl,⟨fdg,Gg,kg,bg⟩,_,rfl,_,rfl,M,MA,ws,n,m,ic,_,r,rfl,mom,hn,tb,rdv,ok,hW,k⟩
abbrev L4:=Str×Str×Int×Int
def lQ(l:L4):Bb:=.tuple [.str l.1,.str l.2.1,.int l.2.2.1,.int l.2.2.2]
structure LOk(l:L4):Prop where
 f:cJ l.1=true
 h:cJ l.2.1=true
 a1:1≤l.2.2.1
 a2:l.2.2.1≤1000000
 i1:0≤l.2.2.2
 i2:l.2.2.2≤10000000
def i8(S:Ex)(l:L4):Ex:={ S with hs:=bT S.hs (Ac l.1) (.str l.2.1),ac:=rB S.ac l.1 l.2.2.1,inc:=bT S.inc (Ac l.1) (.int l.2.2.2) }
def ex0(Ls:List L4):Ex:=Ls.foldl i8 ⟨[],fun _=>0,[],[]⟩
theorem vY:∀(Ls:List L4) (S:Ex),(Ls.foldl i8 S).men=S.men
 | [],_=>rfl
 | l :: Ls,S=>vY Ls (i8 S l)
theorem rJ(Ls:List L4):(ex0 Ls).men=[]:=vY Ls _
theorem fQ:∀(Ls:List L4),Bd (Ls.map lQ)=false
 | []=>by simp[Bd]
 | l :: Ls=>by
  rw[Av];unfold Bd;rw[fQ Ls];simp[lQ,Dz,Bd]
def aC7(H:Hp)(kv:Key×V)(l:L4):Prop:=kv.1=Ac l.1∧∃ t u p:Ae,kv.2=.ref t∧H t=some (.tup [.str l.2.1,.ref u])∧H u=some (.tup [.ref p])∧H p=some (.tup [.str l.1,.int 0,.int l.2.2.1])
def aBh(H:Hp)(a:Ae)(Ls:List L4):Prop:=(Ls.map (·.1)).Nodup→∃ hol,H a=some (.dK hol)∧By (aC7 H) hol Ls
theorem vZ{H:Hp}:∀{q:List (Key×V)}{Ls:List L4},By (aC7 H) q Ls→q.map (·.1)=Ls.map fun l=>Ac l.1
 | _,_,.nil=>rfl
 | _,_,.cons h t=>by rw[Av,Av,h.1,vZ t]
theorem aC7.on{H H':Hp}{q:Key×V}{l:L4}(h:aC7 H q l)(t:d6 H H'):aC7 H' q l:=by
 obtain⟨h0,a,b,c,h1,h2,h3,h4⟩:=h;exact⟨h0,a,b,c,h1,t _ _ h2,t _ _ h3,t _ _ h4⟩
theorem aBh.put{G F:Hp}{a M O J:Ae}{Ls:List L4}{l:L4}{q:List (Key×V)}(h:aBh G a Ls)(e:G a=some (.dK q))(t:d6 G F)(e':F a=some (.dK (bT q (Ac l.1) (.ref J))))(h3:F J=some (.tup [.str l.2.1,.ref O]))(h2:F O=some (.tup [.ref M]))(h1:F M=some (.tup [.str l.1,.int 0,.int l.2.2.1])):aBh F a (Ls ++ [l]):=fun hn=>by
 rw[Az]at hn;obtain⟨n1,_,n2⟩:=Bn.mp hn;obtain⟨hol',q1,q2⟩:=h n1;rw[e]at q1;cases q1;have Z:=vZ q2;have en:(q.any fun Y=>decide (Y.1=Ac l.1))=false:=by
  rw[tT,Z,List.any_map,List.any_eq_false];intro x hx hd;have:x.1=l.1:=by simpa using hd
  exact n2 x.1 (Ba hx) l.1 (by simp) this
 refine⟨_,e',?_⟩;unfold bT;rw[en,Ia (by decide)];exact BY (R:=aC7 F) ⟨rfl,J,O,M,rfl,h3,h2,h1⟩ (Paired.mapP q2 fun _ _ z=>z.on t)
inductive zV(C:Ae)(vs:List V)(H:Hp)(Q:VK)(u3_:XK):Prop
 | mk (x dx lay:Ae) (xs:List V) (Ls:List L4) (q0:vs=[.ref x,.ref lay]) (q1:H x=some (.ins C dx [])) (q2:H lay=some (.tup xs)) (q3:cD false H xs (Ls.map lQ)) (q4:(∀ l∈Ls,LOk l)) (q5:Ls.length≤8) (q6:∀(A:MA) (H':Hp),bA x H H'→H A.h=none→H A.i=none→H A.me=none→Mom H' C x A (Ls.map (·.1)) 8 [] (ex0 Ls).inc→aBh H' A.h Ls→Q .non H'):zV C vs H Q u3_
def aBi(C:Ae):Sp:=fun vs H Q u3_=>zV C vs H Q u3_
structure aIN(H:Hp)(C x:Ae)(A:MA)(ws:List Str)(i:Nat)(S:Ex):Prop where
 ins:H x=some (.ins C A.dx (aBe A))
 r:∃ rks,H A.r=some (.dK rks)∧nU rks (ws.take i)∧rks.length≤i
 h:∃ hol b,H A.h=some (.dK hol)∧(hol.map (·.1)).Nodup∧hol.length≤i∧f8 H ws hol b∧b≤i * 1000000
 a:∃ acs,H A.a=some (.dK acs)∧acs.length≤i
 i:H A.i=some (.dK S.inc)∧nU S.inc (ws.take i)∧S.inc.length≤i
 me:H A.me=some (.dK [])
 nd:[A.r,A.h,A.a,A.i,A.me].Nodup
theorem aB0{J:List (Key×V)}{ws:List Str}{i:Nat}{z:Str}{n:Int}(h:nU J (ws.take i))(e:ws[i]?=some z):nU (bT J (Ac z) (.int n)) (ws.take (i + 1)):=fun y F=>by
 rw[eB];by_cases M:y=z
 ·rw[Ib (by rw[M])];exact⟨n,rfl⟩
 ·rw[Ia fun q=>M (Ac.inj q)];rw[AE,e]at F;rcases AS.mp F with F | F
  ·exact h y F
  ·exact absurd (by simpa using F) M
theorem iF{H:Hp}{x:V}{l:L4}(r:RdV false H x (lQ l)):∃(q:Ae),x=.ref q∧H q=some (.tup [.str l.1,.str l.2.1,.int l.2.2.1,.int l.2.2.2]):=by
 unfold lQ at r;cases r with
 | tup e hl q=>
  cases q with
  | cons M q=>
   cases q with
   | cons z q=>
    cases q with
    | cons F q=>
     cases q with
     | cons J q=>
      cases q;cases M;cases z;cases F;cases J;exact⟨_,rfl,e⟩
abbrev v3:Cc:=aFB aFQ 0
theorem aEM:bY ["self","laying","field","house","acres","inches"] ["self","laying"] (aO v3):=⟨rfl,rfl,rfl,by decide,rfl,by decide,by decide⟩
theorem aF4{f C:Ae}{fd:A3}(F:Fun K "__init__" "Moment.__init__" v3 f fd)(hc:MC K C)(aI:mg "len"=none):cP P w K mg base CX0 1 f fd ["self","laying"] (aBi C):=by
 refine F.ok aEM (fun vs H Q E h=>?_) (fun df A outer s H vs Q E hr h=>?_)
 ·obtain⟨x,dx,lay,xs,Ls,rfl,_⟩:=h;rfl
 ·obtain⟨x,dx,lay,xs,Ls,rfl,hx,hlay,hrd,hfl,h8,k⟩:=h;obtain⟨ws,hws⟩:∃ ws,ws=Ls.map (·.1):=⟨_,rfl⟩
  rw[← hws]at k;have hu:=d7 hr;have nd:=aEM.nd;refine⟨_,aB (rP (pv 0) j4 rfl) (aB (rP (pv 0) j4 rfl) (aB (rP (pv 0) j4 rfl) (aB (rP (pv 0) j4 rfl) (aB (rP (pv 0) j4 rfl)
   (aM (d8 A7 rfl (dE (pv 1)) (g:=qU K 4 (c7 (aU 2) (c7 (aU 3) (c7 (aU 4) (c7 (aU 5) qS))))) (fJ rfl (bH (aR (i:=2) nd rfl (Ar rfl)) (bH (aR (i:=3) nd rfl (Ar rfl)) (bH (aR (i:=4) nd rfl (Ar rfl)) (bH (aR (i:=5) nd rfl (Ar rfl)) dU)))))
    (aB (c4 hu (dB (pv 0) rfl) (pv 2) (aW aCE (by rfl) aI AW (aF (dB (pv 0) rfl) aE)) rfl)
    (aB (c4 hu (dB (pv 0) rfl) (pv 2) (cH (aF (pv 3) (aF (cH (aF (cH (aF (pv 2) (aF aD (aF (pv 4) aE)))) aE)) aE))) rfl)
    (aB (c4 hu (dB (pv 0) rfl) (pv 2) (pv 4) rfl)
    (aM (c4 hu (dB (pv 0) rfl) (pv 2) (pv 5) rfl))))))))))),?_⟩
  have st:∀(H0:Hp) (d:Ae) (fs jo:List (Str×V)),H0 d=none→H0 x=some (.ins C dx fs)→upd (upd H0 d (.dK [])) x (.ins C dx jo) x=some (.ins C dx jo)∧upd (upd H0 d (.dK [])) x (.ins C dx jo) d=some (.dK [])∧∀ b o,b≠x→H0 b=some o→upd (upd H0 d (.dK [])) x (.ins C dx jo) b=some o:=fun H0 d fs jo hd bv=>by
   have dx:d≠x:=(aJ bv hd).symm;refine⟨aA,by rw[aG dx];exact aA,fun b o n e=>?_⟩;rw[aG n,aG (aJ e hd)];exact e
  refine fun d1 ap=>⟨_,rfl,x,C,dx,_,rfl,(by rw[aG (aJ hx ap)];exact hx),hc.cl,hc.r,by decide,?_⟩
  obtain⟨x1,O,k1⟩:=st H d1 _ (fY "ranks" (.ref d1) []) ap hx;generalize upd (upd H d1 (.dK [])) x _=H1 at x1 O k1 ⊢;refine fun d2 al=>⟨_,rfl,x,C,dx,_,rfl,(by rw[aG (aJ x1 al)];exact x1),hc.cl,hc.h,(by show(1:Nat) < 1000;decide),?_⟩
  obtain⟨x2,y2,k2⟩:=st H1 d2 _ (fY "holdings" (.ref d2) (fY "ranks" (.ref d1) [])) al x1;generalize upd (upd H1 d2 (.dK [])) x _=H2 at x2 y2 k2 ⊢;refine fun d3 ah=>⟨_,rfl,x,C,dx,_,rfl,(by rw[aG (aJ x2 ah)];exact x2),hc.cl,hc.a,(by show(2:Nat) < 1000;decide),?_⟩
  obtain⟨x3,y3,k3⟩:=st H2 d3 _ (fY "acres" (.ref d3) (fY "holdings" (.ref d2) (fY "ranks" (.ref d1) []))) ah x2;generalize upd (upd H2 d3 (.dK [])) x _=H3 at x3 y3 k3 ⊢;refine fun d4 aa=>⟨_,rfl,x,C,dx,_,rfl,(by rw[aG (aJ x3 aa)];exact x3),hc.cl,hc.i,(by show(3:Nat) < 1000;decide),?_⟩
  obtain⟨x4,y4,k4⟩:=st H3 d4 _ (fY "inches" (.ref d4) (fY "acres" (.ref d3) (fY "holdings" (.ref d2) (fY "ranks" (.ref d1) [])))) aa x3;generalize upd (upd H3 d4 (.dK [])) x _=H4 at x4 y4 k4 ⊢;refine fun d5 Y=>⟨_,rfl,x,C,dx,_,rfl,(by rw[aG (aJ x4 Y)];exact x4),hc.cl,hc.m,(by show(4:Nat) < 1000;decide),?_⟩
  obtain⟨x5,y5,k5⟩:=st H4 d5 _ (aBe ⟨dx,d1,d2,d3,d4,d5⟩) Y x4;have ef:fY "menders" (.ref d5) (fY "inches" (.ref d4) (fY "acres" (.ref d3) (fY "holdings" (.ref d2) (fY "ranks" (.ref d1) []))))=aBe ⟨dx,d1,d2,d3,d4,d5⟩:=rfl;rw[ef];generalize upd (upd H4 d5 (.dK [])) x _=H5 at x5 y5 k5 ⊢;have nx:∀{G:Hp} {d:Ae} {iz:List (Key×V)} {fs:List (Str×V)},G d=some (.dK iz)→G x=some (.ins C dx fs)→d≠x:=fun a b=>bU a b (fun z=>nomatch z);have e1:=k5 _ _ (nx O x1) (k4 _ _ (nx O x1) (k3 _ _ (nx O x1) (k2 _ _ (nx O x1) O)));have e2:=k5 _ _ (nx y2 x2) (k4 _ _ (nx y2 x2) (k3 _ _ (nx y2 x2) y2));have e3:=k5 _ _ (nx y3 x3) (k4 _ _ (nx y3 x3) y3);have e4:=k5 _ _ (nx y4 x4) y4;have K0:bA x H H5:=fun b o e n=>k5 _ _ n (k4 _ _ n (k3 _ _ n (k2 _ _ n (k1 _ _ n e))));have a0:[d1,d2,d3,d4,d5].Nodup:=by
   have bR:d1≠d2:=aJ O al;have b7:d1≠d3:=aJ (k2 _ _ (nx O x1) O) ah;have bt:d2≠d3:=aJ y2 ah;have cc:d1≠d4:=aJ (k3 _ _ (nx O x1) (k2 _ _ (nx O x1) O)) aa;have bo:d2≠d4:=aJ (k3 _ _ (nx y2 x2) y2) aa;have bL:d3≠d4:=aJ y3 aa;have b1:d1≠d5:=aJ (k4 _ _ (nx O x1) (k3 _ _ (nx O x1) (k2 _ _ (nx O x1) O))) Y;have bE:d2≠d5:=aJ (k4 _ _ (nx y2 x2) (k3 _ _ (nx y2 x2) y2)) Y;have bP:d3≠d5:=aJ (k4 _ _ (nx y3 x3) y3) Y;have b4:d4≠d5:=aJ y4 Y;simp[bR,b7,cc,b1,bt,bo,bE,bL,bP,b4]
  have fr:∀{G G':Hp} {d:Ae},(∀ b o,b≠x→G b=some o→G' b=some o)→(∃ o,G' x=some o)→G' d=none→G d=none:=fun{G G' d} kq hx' hd=>by
   cases q:G d with
   | none=>rfl
   | some o=>
    by_cases e:d=x
    ·obtain⟨o',hx'⟩:=hx';rw[e,hx']at hd;cases hd
    ·rw[kq d o e q]at hd;cases hd
  have f2:H d2=none:=fr k1 ⟨_,x1⟩ al;have f3:H d3=none:=fr k1 ⟨_,x1⟩ (fr k2 ⟨_,x2⟩ ah);have f4:H d4=none:=fr k1 ⟨_,x1⟩ (fr k2 ⟨_,x2⟩ (fr k3 ⟨_,x3⟩ aa));have f5:H d5=none:=fr k1 ⟨_,x1⟩ (fr k2 ⟨_,x2⟩ (fr k3 ⟨_,x3⟩ (fr k4 ⟨_,x4⟩ Y)));obtain⟨MA,hMA⟩:∃ MA:MA,MA=⟨dx,d1,d2,d3,d4,d5⟩:=⟨_,rfl⟩
  have I0:aIN H5 C x MA ws 0 (ex0 (Ls.take 0)):=by
   subst hMA;exact⟨x5,⟨[],e1,fun y hy=>by simp at hy,Am _⟩,⟨[],0,e2,by simp,Am _,.nil,by simp⟩,⟨[],e3,Am _⟩,⟨e4,fun y hy=>by simp at hy,Am _⟩,y5,a0⟩
  have aw:H MA.r=none∧H MA.h=none∧H MA.a=none∧H MA.i=none:=by
   subst hMA;exact⟨ap,f2,f3,f4⟩
  have bw:H MA.me=none:=by
   subst hMA;exact f5
  have bc:H5 MA.h=some (.dK []):=by subst hMA;exact e2
  have ar:H5 lay=some (.tup xs):=K0 _ _ hlay (bU hlay hx (fun z=>nomatch z));have bb:=hrd.len;refine⟨_,rfl,lay,rfl,⟨_,aH ar⟩,?_⟩;refine gZ (K:=K) (xs:=xs) (fun i σ H'=>Ex3 fun(o2 o3 o4:Option V)=>∃(o5:Option V),Aw3 (σ=[some (.ref x),some (.ref lay),o2,o3,o4,o5]) (bA x H H') (aIN H' C x MA ws i (ex0 (Ls.take i))∧aBh H' MA.h (Ls.take i))) ⟨none,none,none,none,rfl,K0,I0,fun _=>⟨[],bc,.nil⟩⟩ (fun i σ H' _ p=>by obtain⟨_,_,_,_,_,kk,_⟩:=p;exact aH (kk _ _ hlay (bU hlay hx (fun z=>nomatch z)))) ?_ ?_
  ·rintro i v σ M hv ⟨o2,o3,o4,o5,rfl,kk,I,hZ⟩;clear bc x1 O k1 x2 y2 k2 x3 y3 k3 x4 y4 k4 x5 y5 k5 e1 e2 e3 e4 I0 a0 ap al ah aa Y st nx ef fr f2 f3 f4 f5;obtain⟨d,hd,rd'⟩:=hrd.at hv;rw[An]at hd;obtain⟨l,hl,rfl⟩:=AG.mp hd;obtain⟨f1,g1,a1,i1⟩:=l;have bd:=hfl _ (AH hl);have de:1≤a1:=bd.a1;have dc:a1≤1000000:=bd.a2;have bq:∀ b us,H b=some (.tup us)→M b=some (.tup us):=fun b us e=>kk _ _ e (bU e hx (fun z=>nomatch z));obtain⟨q,rfl,hq0⟩:=iF rd';have hq:M q=some (.tup [.str f1,.str g1,.int a1,.int i1]):=bq _ _ hq0;have ax:ws[i]?=some f1:=by rw[hws,An,hl];rfl
   have bI:f1∈ws:=AH ax;have di:i < Ls.length:=(At.mp hl).1;have eS:ex0 (Ls.take (i + 1))=i8 (ex0 (Ls.take i)) (f1,g1,a1,i1):=by
    unfold ex0;rw[AE,hl,Da];rfl
   generalize ex0 (Ls.take i)=S at eS I;have hn:=I.nd;simp only[AZ,Ak,Ao,or_false,not_or]at hn;obtain⟨⟨n12,n13,n14,n15⟩,⟨n23,n24,n25⟩,⟨n34,n35⟩,n45,_⟩:=hn;obtain⟨rks,r1,r2,r3⟩:=I.r;obtain⟨hol,b,h1,h2,h3,h4,h5⟩:=I.h;obtain⟨acs,c1,c2⟩:=I.a;obtain⟨j1,j2,j3⟩:=I.i;generalize ak:S.inc=inc at j1 j2 j3;have me:=I.me;have ins:=I.ins;have zl:∀ k,k≤8→k < sizeLine:=fun k h=>by rw[BT];omega
   have an:∀{G:Hp} {d:Ae} {iz:List (Key×V)} {fs:List (Str×V)},G d=some (.dK iz)→G x=some (.ins C MA.dx fs)→x≠d:=fun a b=>(bU a b (fun z=>nomatch z)).symm;refine⟨q,_,rfl,aH hq,rfl,_,_,rfl,_,_,rfl,_,_,rfl,_,_,rfl,rfl,_,rfl,x,C,_,_,_,rfl,ins,hc.cl,hc.r,rfl,MA.r,rks,rfl,r1,_,rfl,x,C,_,_,_,rfl,ins,hc.cl,hc.r,rfl,_,rfl,MA.r,_,rfl,gE.k (k:=Ac f1) r1 (zl _ (by omega)),?_⟩;have L1:=cB rks (Ac f1) (.int (rks.length:Int));have R2:=aB0 (n:=(rks.length:Int)) r2 ax;obtain⟨fr1,fr2,fr3,fr4⟩:=aw;have be:bA x H (upd M MA.r (.dK (bT rks (Ac f1) (.int (rks.length:Int))))):=fun b o e n=>by
    rw[aG (aJ e fr1)];exact kk b o e n
   have bg:upd M MA.r (.dK (bT rks (Ac f1) (.int (rks.length:Int)))) MA.r=some (.dK (bT rks (Ac f1) (.int (rks.length:Int)))):=aA;have g2:upd M MA.r (.dK (bT rks (Ac f1) (.int (rks.length:Int)))) MA.h=some (.dK hol):=by rw[aG (BX n12)];exact h1
   have g3:upd M MA.r (.dK (bT rks (Ac f1) (.int (rks.length:Int)))) MA.a=some (.dK acs):=by rw[aG (BX n13)];exact c1
   have g4:upd M MA.r (.dK (bT rks (Ac f1) (.int (rks.length:Int)))) MA.i=some (.dK inc):=by rw[aG (BX n14)];exact j1
   have g5:upd M MA.r (.dK (bT rks (Ac f1) (.int (rks.length:Int)))) MA.me=some (.dK []):=by rw[aG (BX n15)];exact me
   have g6:upd M MA.r (.dK (bT rks (Ac f1) (.int (rks.length:Int)))) x=some (.ins C MA.dx (aBe MA)):=by rw[aG (an r1 ins)];exact ins
   have g7:f8 (upd M MA.r (.dK (bT rks (Ac f1) (.int (rks.length:Int))))) ws hol b:=h4.on fun b us e=>by rw[aG (bU e r1 (fun z=>nomatch z))];exact e
   have gT:d6 M (upd M MA.r (.dK (bT rks (Ac f1) (.int (rks.length:Int))))):=fun b us e=>by rw[aG (bU e r1 (fun z=>nomatch z))];exact e
   generalize upd M MA.r (.dK (bT rks (Ac f1) (.int (rks.length:Int))))=G1 at be bg g2 g3 g4 g5 g6 g7 gT ⊢;refine⟨_,rfl,_,rfl,_,rfl,zZ3,fun Z cf=>?_⟩;have s1:=aK (o:=.tup [V.str f1,.int 0,.int a1]) cf;refine⟨zZ1,fun u2 b5=>?_⟩;have s2:=aK (o:=.tup [V.ref Z]) b5;refine⟨zZ2,fun u3 bp=>?_⟩;have s3:=aK (o:=.tup [V.str g1,.ref u2]) bp;have J:=(s1.trans s2).trans s3;have he:oI (upd (upd (upd G1 Z (.tup [V.str f1,.int 0,.int a1])) u2 (.tup [V.ref Z])) u3 (.tup [V.str g1,.ref u2])) ws (.ref u3) a1:=⟨u3,u2,g1,[.ref Z],[(f1,0,a1)],rfl,aA,s3 _ _ aA,.cons ⟨Z,rfl,s3 _ _ (s2 _ _ aA)⟩ .nil,⟨fun p hp=>by rw[AF.mp hp];exact⟨bI,by dsimp only;omega⟩⟩,by simp[acr,dI]⟩
   have aT:bA x H (upd (upd (upd G1 Z (.tup [V.str f1,.int 0,.int a1])) u2 (.tup [V.ref Z])) u3 (.tup [V.str g1,.ref u2])):=be.same J;refine⟨_,rfl,x,C,_,_,_,rfl,J _ _ g6,hc.cl,hc.h,rfl,_,rfl,MA.h,_,rfl,gE.k (k:=Ac f1) (J _ _ g2) (zl _ (by omega)),?_⟩;have q1:=J _ _ bg;have q2:=J _ _ g2;have q3:=J _ _ g3;have q4:=J _ _ g4;have q5:=J _ _ g5;have q6:=J _ _ g6;have q7:=g7.on (bV J);have qT:d6 M (upd (upd (upd G1 Z (.tup [V.str f1,.int 0,.int a1])) u2 (.tup [V.ref Z])) u3 (.tup [V.str g1,.ref u2])):=fun b us e=>J _ _ (gT _ _ e);have y3:upd (upd (upd G1 Z (.tup [V.str f1,.int 0,.int a1])) u2 (.tup [V.ref Z])) u3 (.tup [V.str g1,.ref u2]) u3=some (.tup [V.str g1,.ref u2]):=aA;have y2:=s3 _ _ (aA (H:=upd G1 Z (.tup [V.str f1,.int 0,.int a1])) (a:=u2) (o:=.tup [V.ref Z]));have O:=s3 _ _ (s2 _ _ (aA (H:=G1) (a:=Z) (o:=.tup [V.str f1,.int 0,.int a1])));generalize upd (upd (upd G1 Z (.tup [V.str f1,.int 0,.int a1])) u2 (.tup [V.ref Z])) u3 (.tup [V.str g1,.ref u2])=G2 at he aT q1 q2 q3 q4 q5 q6 q7 qT y3 y2 O ⊢;obtain⟨b',hT',hb'⟩:=q7.put (k:=Ac f1) h2 he;have L2:=cB hol (Ac f1) (.ref u3);have L3:=cB acs (Ac f1) (.int a1);have L4:=cB inc (Ac f1) (.int i1);have R4:=aB0 (n:=i1) j2 ax;have e6:upd G2 MA.h (.dK (bT hol (Ac f1) (.ref u3))) x=some (.ins C MA.dx (aBe MA)):=by rw[aG (an q2 q6)];exact q6
   have e3:upd G2 MA.h (.dK (bT hol (Ac f1) (.ref u3))) MA.a=some (.dK acs):=by rw[aG (BX n23)];exact q3
   refine⟨_,rfl,_,rfl,x,C,_,_,_,rfl,e6,hc.cl,hc.a,rfl,_,rfl,MA.a,_,rfl,gE.k (k:=Ac f1) e3 (zl _ (by omega)),?_⟩;have av:upd (upd G2 MA.h (.dK (bT hol (Ac f1) (.ref u3)))) MA.a (.dK (bT acs (Ac f1) (.int a1))) x=some (.ins C MA.dx (aBe MA)):=by rw[aG (an e3 e6)];exact e6
   have e4:upd (upd G2 MA.h (.dK (bT hol (Ac f1) (.ref u3)))) MA.a (.dK (bT acs (Ac f1) (.int a1))) MA.i=some (.dK inc):=by rw[aG (BX n34),aG (BX n24)];exact q4
   refine⟨_,rfl,_,rfl,x,C,_,_,_,rfl,av,hc.cl,hc.i,rfl,_,rfl,MA.i,_,rfl,gE.k (k:=Ac f1) e4 (zl _ (by omega)),?_⟩;have tt:d6 G2 (upd (upd (upd G2 MA.h (.dK (bT hol (Ac f1) (.ref u3)))) MA.a (.dK (bT acs (Ac f1) (.int a1)))) MA.i (.dK (bT inc (Ac f1) (.int i1)))):=fun b us e=>by
    rw[aG (bU e q4 (fun z=>nomatch z)),aG (bU e q3 (fun z=>nomatch z)),aG (bU e q2 (fun z=>nomatch z))];exact e
   have b6:b'≤((i + 1:Nat):Int) * 1000000:=by
    rw[F7];omega
   refine⟨_,_,_,_,rfl,fun b o e n=>?_,⟨?_,⟨_,?_,R2,by omega⟩,⟨_,b',?_,lH _ h2,by omega,hT'.on tt,b6⟩,⟨bT acs (Ac f1) (.int a1),?_,by omega⟩,⟨by rw[eS];unfold i8;rw[ak];exact aA,by rw[eS];unfold i8;rw[ak];exact R4,by rw[eS];unfold i8;rw[ak];exact AI L4 (by omega)⟩,?_,I.nd⟩,?_⟩
   rotate_right
   ·rw[AE,hl];exact hZ.put (l:=(f1,g1,a1,i1)) h1 (fun b us e=>tt _ _ (qT _ _ e)) (by rw[aG n24,aG n23];exact aA) (tt _ _ y3) (tt _ _ y2) (tt _ _ O)
   ·rw[aG (aJ e fr4),aG (aJ e fr3),aG (aJ e fr2)];exact aT b o e n
   ·rw[aG (an e4 av)];exact av
   ·rw[aG n14,aG n13,aG n12];exact q1
   ·rw[aG n24,aG n23];exact aA
   ·rw[aG n34];exact aA
   ·rw[aG (BX n45),aG (BX n35),aG (BX n25)];exact q5
  ·rintro σ H' ⟨o2,o3,o4,o5,rfl,kk,I,hZ⟩;rw[Aa]at bb;rw[bb,AM]at I hZ;have cb:ws.length=Ls.length:=by rw[hws,Aa]
   obtain⟨rks,r1,r2,r3⟩:=I.r;obtain⟨hol,b,h1,h2,h3,h4,h5⟩:=I.h;obtain⟨i1,i2,i3⟩:=I.i;rw[← cb,AM]at r2 i2;have hn:=I.nd;simp only[AZ,Ak,Ao,or_false,not_or]at hn;exact k MA H' kk aw.2.1 aw.2.2.2 bw ⟨I.ins,⟨rks,r1,r2⟩,⟨hol,b,h1,h2,by omega,h4,by omega⟩,⟨i1,i2,by omega⟩,I.me,iR.nil,A0 _,hn.1.1,hn.1.2.2.1,hn.1.2.2.2,hn.2.1.2.1,hn.2.1.2.2,hn.2.2.2.1⟩ hZ
structure fS(H:Hp)(t:Ae)(Ls:List L4)(us:List c3):Prop where
 ex:∃(lay rw:Ae) (xs ys:List V),H t=some (.tup [.ref lay,.ref rw])∧H lay=some (.tup xs)∧cD false H xs (Ls.map lQ)∧(∀ l∈Ls,LOk l)∧Ls.length≤8∧H rw=some (.tup ys)∧mQ H ys us (Ls.map (·.1))∧us.length≤40
theorem mQ.on{H H':Hp}{xs:List V}{q:List c3}{fs:List Str}(h:mQ H xs q fs)(t:d6 H H'):mQ H' xs q fs:=⟨h.len,fun i x z=>by
 obtain⟨u,h1,h2,h3⟩:=h.at' i x z;exact⟨u,h1,h3.on h2 t,h3⟩⟩
theorem fS.on{H H':Hp}{t:Ae}{Ls:List L4}{q:List c3}(h:fS H t Ls q)(k:d6 H H'):fS H' t Ls q:=by
 obtain⟨lay,rw,xs,ys,h1,h2,h3,h4,h6,h7,h8,h9⟩:=h.ex;exact⟨lay,rw,xs,ys,k _ _ h1,k _ _ h2,cD.onT k h3 (fQ Ls),h4,h6,k _ _ h7,h8.on k,h9⟩
theorem aEN{T x C dx:Ae}{fs:List (Str×V)}{H H':Hp}(g:Tb T H)(e:H x=some (.ins C dx fs))(k:bA x H H'):Tb T H':=by
 obtain⟨ps,h1,h2,q⟩:=g.ex;refine⟨ps,k _ _ h1 (bU h1 e (fun z=>nomatch z)),h2,?_⟩;rcases q with q | ⟨c,q,F⟩
 ·exact .inl q
 ·exact .inr ⟨c,q,k _ _ F (bU F e (fun z=>nomatch z))⟩
theorem Mom.tups{H H':Hp}{C M T:Ae}{A:MA}{ws:List Str}{n:Nat}{m:Mnd}{ic:List (Key×V)}(h:Mom H C M A ws n m ic)(g:Tb T H)(k:cO [T,A.h,A.i,A.me] H H'):d6 H H':=fun q xs e=>by
 obtain⟨hol,b,hh,_⟩:=h.h;obtain⟨hi,_⟩:=h.i;obtain⟨ps,hT,_⟩:=g.ex;refine k q _ (fun z=>?_) e;simp only[Ak,Ao,or_false]at z;rcases z with z | z | z | z <;> rw[z]at e
 ·rw[hT]at e;cases e
 ·rw[hh]at e;cases e
 ·rw[hi]at e;cases e
 ·rw[h.me]at e;cases e
theorem aF5{T L:Ae}{H H':Hp}(g:Tb T H')(s:dH T H H')(h:H' L=none):H L=none:=by
 cases q:H L with
 | none=>rfl
 | some o=>
  obtain⟨ps,h1,_⟩:=g.ex;rw[s _ _ (fun z=>by rw[z,h1]at h;cases h) q]at h;cases h
inductive v4(T:Ae)(vs:List V)(H:Hp)(Q:VK)(u3_:XK):Prop
 | mk (t:Ae) (Ls:List L4) (q0:vs=[.ref t]) (q1:fS H t Ls []) (q2:Tb T H) (q3:∀ l H',dH T H H'→Tb T H'→H' l=some (.lst [])→Q (.ref l) H'):v4 T vs H Q u3_
def aB1(T:Ae):Sp:=fun vs H Q u3_=>v4 T vs H Q u3_
theorem aB2:bY ["roll","laying","rows","moment"] ["roll"] (aO w8):=⟨rfl,rfl,rfl,by decide,rfl,by decide,by decide⟩
theorem aEO{f fI C T:Ae}{fd J:A3}(F:Fun K "words" "words" w8 f fd)(mk:Mk K C fI)(GI:cP P w K mg base CX0 1 fI J ["self","laying"] (aBi C))(mC:mg "Moment"=some (.ref C))(bI:d9 K J ["self","laying"] [])
  (GD:Cl P w K mg base 6 "carry_out" ["moment","row"] (iM C T f7))
  :cP P w K mg base CX0 7 f fd ["roll"] (aB1 T):=by
 refine F.ok aB2 (fun vs H Q E h=>?_) (fun aj A outer s H vs Q E hr h=>?_)
 ·obtain⟨t,Ls,rfl,_⟩:=h;rfl
 ·obtain⟨t,Ls,rfl,roll,tb,k⟩:=h;have O:dG 2 _:=hr.mono (by decide);have nd:=aB2.nd;refine⟨_,(aB (iV (pv 0) (fJ rfl (bH (aR (i:=1) nd rfl (Ar rfl)) (bH (aR (i:=2) nd rfl (Ar rfl)) dU))))
   (aB (aX (i:=3) nd rfl (Dq rfl) (aBv mk GI O rfl mC bI .nil dJ (aF (pv 1) aE)))
   (aM (bF (c5 (N:=["row","moment"]) (src:=[none,some 3]) (osc:=aO w8) (oN:=["roll","laying","rows","moment"]) ⟨by rfl,by decide,by decide,by decide,rfl,by rfl⟩ (dE (pv 2)) (fun cl s H fp gz C=>⟨aR (i:=0) (show(["row","moment"]:List Str).Nodup by decide) rfl (Ar rfl),c8,cM GD hr (aF (pv 1) (aF (pv 0) aE))⟩)))))),?_⟩
  obtain⟨lay,rw,xs,ys,h1,h2,h3,h4,h6,h7,h8,h9⟩:=roll.ex;refine⟨_,rfl,t,_,rfl,aH h1,rfl,_,_,rfl,_,_,rfl,rfl,_,rfl,fun x dx hx Z ne=>?_⟩;have s1:=aK (o:=.own x) Z;have s2:=aK (H:=upd H dx (.own x)) (o:=.ins C dx []) (p:=x) (by rw[aG (BX ne)];exact hx);have q:=s1.trans s2;have ex:upd (upd H dx (.own x)) x (.ins C dx []) x=some (.ins C dx []):=aA;generalize upd (upd H dx (.own x)) x (.ins C dx [])=H0 at q ex ⊢;clear s2;refine⟨x,dx,lay,xs,Ls,rfl,ex,q _ _ h2,h3.same q,h4,h6,fun MA H1 k1 _ _ _ _ _=>⟨rfl,?_⟩⟩;have M:dH T H H1:=fun b o _ e=>k1 b o (q _ _ e) (aJ e hx);have Y:Tb T H1:=aEN (tb.same q) ex k1;obtain rfl:ys=[]:=List.eq_nil_of_length_eq_zero h8.len;refine⟨_,rfl,rw,rfl,⟨_,aH (cE M tb _ _ h7)⟩,?_⟩;refine dN (K:=K) (xs:=[]) (fun i z σ' H'=>z=[]∧H'=H1) ⟨rfl,rfl⟩ (A0 _) (fun i ys σ H' p=>by rw[p.1];exact A0 _) (fun i ys σ H' p=>by rw[p.2];exact aH (cE M tb _ _ h7)) (fun i v z σ' H' hv=>by simp at hv) ?_;rintro z σ' H3 ⟨rfl,rfl⟩ L hL;have sL:=aK (o:=.lst []) hL;exact k L _ (M.trans sL.butT) (Y.same sL) aA
structure WA where
 o:Ae
 ow:Ae
 me:Ae
 ho:Ae
 ic:Ae
abbrev jP:Key:=Ac "scale"
abbrev jQ:Key:=Ac "order"
abbrev jR:Key:=Ac "owner"
abbrev jS:Key:=Ac "menders"
abbrev qC:Key:=Ac "houses"
abbrev aF6:Key:=Ac "inches"
def jD(sc:Int)(B:WA):List (Key×V):=[(jP,.int sc),(jQ,.ref B.o),(jR,.ref B.ow),(jS,.ref B.me),(qC,.ref B.ho),(aF6,.ref B.ic)]
abbrev UK:=Str×Nat
def i9(os:List UK)(own:UK→Str):List (List Key×V):=os.map fun k=>([Ac k.1,Cg (k.2:Int)],.str (own k))
structure e9(H:Hp)(W:Ae)(B:WA)(sc:Int)(os:List UK)(own:UK→Str)(S:Ex):Prop where
 d:H W=some (.dK (jD sc B))
 o:∃ qs:List Ae,H B.o=some (.lst (qs.map V.ref))∧By (fun(q:Ae) (k:UK)=>H q=some (.tup [.str k.1,.int (k.2:Int)])) qs os
 ow:H B.ow=some (.dT (i9 os own))
 me:H B.me=some (.dK S.men)
 ho:H B.ho=some (.dK S.hs)
 ic:H B.ic=some (.dK S.inc)
 ac:iR S.men
 ml:S.men.length≤1000
 nd:os.Nodup
 ol:os.length≤80
 s1:1≤sc
 s2:sc≤100000
 cn:∀ z,aS S z=true→sc * ((os.filter fun k=>decide (own k=z)).length:Int)=S.ac z
 ne:[W,B.me,B.ho,B.ic].Nodup
 hv:∀ k v,bS S.hs k=some v→∃ h z,v=.str h∧k=Ac z
 ks:(S.hs.map (·.1)).Nodup
 hl:S.hs.length≤1000
 so:∀ k∈os,aS S (own k)=true
theorem e9.same{H H':Hp}{W:Ae}{B:WA}{sc:Int}{os:List UK}{own:UK→Str}{S:Ex}(h:e9 H W B sc os own S)(s:b9 H H'):e9 H' W B sc os own S:=by
 obtain⟨qs,o1,o2⟩:=h.o;exact⟨s _ _ h.d,⟨qs,s _ _ o1,Paired.mapP o2 fun q k e=>s _ _ e⟩,s _ _ h.ow,s _ _ h.me,s _ _ h.ho,s _ _ h.ic,h.ac,h.ml,h.nd,h.ol,h.s1,h.s2,h.cn,h.ne,h.hv,h.ks,h.hl,h.so⟩
theorem aB3(sc:Int)(B:WA):bS (jD sc B) jP=some (.int sc):=rfl
theorem aEP(sc:Int)(B:WA):bS (jD sc B) jQ=some (.ref B.o):=rfl
theorem zW(sc:Int)(B:WA):bS (jD sc B) jR=some (.ref B.ow):=rfl
theorem zX(sc:Int)(B:WA):bS (jD sc B) jS=some (.ref B.me):=rfl
theorem fF(sc:Int)(B:WA):bS (jD sc B) qC=some (.ref B.ho):=rfl
theorem zY(sc:Int)(B:WA):bS (jD sc B) aF6=some (.ref B.ic):=rfl
theorem e9.get{H:Hp}{W:Ae}{B:WA}{sc:Int}{os:List UK}{own:UK→Str}{S:Ex}(h:e9 H W B sc os own S){z:Str}{v:V}(e:bS (jD sc B) (Ac z)=some v):gI H W (.str z) (some v):=by
 have:=gI.k (k:=Ac z) h.d;rw[e]at this;exact this
inductive v5(vs:List V)(H:Hp)(Q:VK)(u3_:XK):Prop
 | mk (W:Ae) (B:WA) (sc:Int) (os:List UK) (own:UK→Str) (S:Ex) (h:Str) (q0:vs=[.ref W,.str h]) (q1:e9 H W B sc os own S) (q2:∀(L:Ae) (H':Hp),H L=none→b9 H H'→H' L=some (.lst ((rd S.men h).map V.str))→Q (.ref L) H'):v5 vs H Q u3_
def aB4:Sp:=fun vs H Q u3_=>v5 vs H Q u3_
theorem aB5:bY ["_law_world_here","_law_house","_law_houses_on"] ["_law_world_here","_law_house"] (aO aBa):=⟨rfl,rfl,rfl,by decide,rfl,by decide,by decide⟩
theorem aEQ{f:Ae}{fd:A3}(F:Fun K "_law_road" "_law_road" aBa f fd)
  :cP P w K mg base CX0 1 f fd ["_law_world_here","_law_house"] aB4:=by
 refine F.ok aB5 (fun vs H Q E h=>?_) (fun aj A outer s H vs Q E hr h=>?_)
 ·obtain⟨W,B,sc,os,own,S,h,rfl,_⟩:=h;rfl
 ·obtain⟨W,B,sc,os,own,S,h,rfl,wl,k⟩:=h;have hu:=d7 hr;have nd:=aB5.nd;refine⟨_,(aB (aX (i:=2) nd rfl (Ar rfl) (c6 (aF (pv 1) aE)))
   (aB (rM A7 (iU (lY hu (aQ b8 (pv 2) (jU gL aD) Ig) (bJ hu (pv 0) aN Ig)))
   (aM (dP (j0 A8 BC BB fG (pv 2) (aF (bJ hu (bJ hu (pv 0) aN Ig) (aQ b8 (pv 2) (jU gL aD) Ig) Ig) aE)))))
   (aM (bF (pv 2))))),?_⟩
  have ha:=wl.ac;have Z:=wl.ml;refine⟨_,rfl,zZ1,fun L hL=>?_⟩;have sL:=aK (o:=.lst [V.str h]) hL;have O:=ha.rd h;have ah:=O.len;generalize aa:S.men=m at ha Z O ah;refine⟨fun n σ H'=>∃(pre l:List Str) (x:Str),σ=[some (.ref W),some (.str h),some (.ref L)]∧b9 H H'∧H' L=some (.lst ((pre ++ [x]).map V.str))∧rd m h=pre ++ l∧Ends m x l∧n=l.length,⟨_,[],rd m h,h,rfl,sL,aA,rfl,O,rfl⟩,?_⟩;rintro n σ H1 ⟨pre,l,x,rfl,S1,q,er,hx,rfl⟩;have Y:atI ((pre ++ [x]).map V.str) (-1)=some (.str x):=by
   rw[Az];exact jV _ _
  have M:=wl.same S1;have J:=M.me;rw[aa]at J;refine⟨_,rfl,_,rfl,L,_,-1,_,rfl,rfl,aY q,Y,_,rfl,W,_,rfl,M.get (zX _ _),B.me,_,rfl,.inl ⟨m,Ac x,.inl J,rfl,rfl⟩,_,rfl,?_⟩;rw[ha.val x];cases hx with
  | stop e=>
   rw[e];refine dS ?_;refine⟨_,rfl,k L H1 hL S1 ?_⟩;rw[aa,er];exact q
  | @on _ y l e r=>
   rw[e];refine eZ ?_;refine⟨fun σ' H'=>∃(pre l':List Str) (x:Str),σ'=[some (.ref W),some (.str h),some (.ref L)]∧b9 H H'∧H' L=some (.lst ((pre ++ [x]).map V.str))∧rd m h=pre ++ l'∧Ends m x l'∧l.length=l'.length,fun σ' H' z=>⟨l.length,by simp,z⟩,?_⟩;have ab:some (V.str y)=bS m (Ac x):=by rw[ha.val x,e];rfl
   refine⟨_,rfl,.inl ⟨rfl,_,aY q⟩,_,rfl,W,_,rfl,M.get (zX _ _),_,rfl,_,rfl,L,_,-1,_,rfl,rfl,aY q,Y,B.me,_,rfl,.inl ⟨m,Ac x,.inl J,rfl,ab⟩,L,_,_,rfl,rfl,q,?_,?_⟩
   ·have:=congrArg Ca er;simp at this ⊢;exact BM (show pre.length + 1≤1000000 by omega) (by decide)
   ·refine⟨pre ++ [x],l,y,rfl,fun b o z=>?_,?_,by rw[er];simp,r,rfl⟩
    ·rw[aG (aJ z hL)];exact S1 _ _ z
    ·rw[aA];simp
def UAt(H:Hp)(rs:List Ae)(ks:List UK):Prop:=By (fun(q:Ae) (k:UK)=>H q=some (.tup [.str k.1,.int (k.2:Int)])) rs ks
inductive v6(vs:List V)(H:Hp)(Q:VK)(u3_:XK):Prop
 | mk (W:Ae) (B:WA) (sc:Int) (os:List UK) (own:UK→Str) (S:Ex) (z:Str) (q0:vs=[.ref W,.str z]) (q1:e9 H W B sc os own S) (q2:∀(L:Ae) (rs:List Ae) (H':Hp),H L=none→b9 H H'→H' L=some (.lst (rs.map V.ref))→UAt H' rs (os.filter fun k=>decide (own k=z))→Q (.ref L) H'):v6 vs H Q u3_
def rK:Sp:=fun vs H Q u3_=>v6 vs H Q u3_
theorem xK{own:UK→Str}:∀{os:List UK}{k:UK},k∈os→bS (i9 os own) [Ac k.1,Cg (k.2:Int)]=some (.str (own k))
 | [],_,h=>by simp at h
 | k' :: os,k,h=>by
  show bS (([Ac k'.1,Cg (k'.2:Int)],V.str (own k')) :: i9 os own) _=_;by_cases e:k'=k
  ·subst e;exact cU rfl
  ·have q:k∈os:=(Ak.mp h).resolve_left fun z=>e z.symm;rw[cK]
   ·exact xK q
   ·intro z;injection z with z1 z2;injection z2 with z2;injection z1 with z1;injection z2 with z2;exact e (FB z1 (Hf.inj z2))
theorem aB6:bY ["_law_world_here","_law_land"] ["_law_world_here","_law_land"] (aO xA):=⟨rfl,rfl,rfl,by decide,rfl,by decide,by decide⟩
theorem aER{f:Ae}{fd:A3}(F:Fun K "_law_units" "_law_units" xA f fd)
  :cP P w K mg base CX0 1 f fd ["_law_world_here","_law_land"] rK:=by
 refine F.ok aB6 (fun vs H Q E h=>?_) (fun ag A outer s H vs Q E hr h=>?_)
 ·obtain⟨W,B,sc,os,own,S,z,rfl,_⟩:=h;rfl
 ·obtain⟨W,B,sc,os,own,S,z,rfl,wl,k⟩:=h;have hu:=d7 hr;have nd:=aB6.nd;refine⟨_,(aM (bF (c5 (N:=["_law_key","_law_world_here","_law_land"]) (src:=[none,some 0,some 1]) (osc:=aO xA) (oN:=["_law_world_here","_law_land"]) ⟨by rfl,by decide,by decide,by decide,rfl,by rfl⟩ (iP (bJ hu (pv 0) aN Ig)) (fun cl s H fp gz C=>⟨aR (i:=0) (show(["_law_key","_law_world_here","_law_land"]:List Str).Nodup by decide) rfl (Ar rfl),m5 (aZ cT (bJ hu (bJ hu (pv 1) aN Ig) (pv 0) Ig) (pv 2) (bG _)),pv 0⟩)))),?_⟩;obtain⟨qs,o1,o2⟩:=wl.o;have Z:=Bx o2;have ah:=wl.ol;refine⟨_,rfl,W,_,rfl,wl.get (aEP _ _),B.o,rfl,⟨_,aY o1⟩,?_⟩;refine m6 (K:=K) (xs:=qs.map V.ref) (fun i ys σ' H'=>∃(o:Option V) (rs:List Ae),Aw3 (σ'=[o,some (.ref W),some (.str z)]) (H'=H) (Aw3 (ys=rs.map V.ref) (rs.length≤i) (UAt H rs ((os.take i).filter fun k=>decide (own k=z))))) ⟨none,[],rfl,rfl,rfl,Am _,.nil⟩
   (aP (by rw[Aa];omega)) (fun i ys σ H' p=>by obtain⟨_,rs,_,_,rfl,e,_⟩:=p;rw[Aa];exact e) (fun i ys σ H' p=>by obtain⟨_,_,_,rfl,_⟩:=p;exact aY o1) ?_ ?_
  ·rintro i x ys σ' H' hx ⟨o,rs,rfl,rfl,rfl,J,O⟩;rw[An]at hx;obtain⟨q,hq,rfl⟩:=AG.mp hx;obtain⟨hi,_⟩:=At.mp hq;obtain⟨u,hu'⟩:∃ u,os[i]?=some u:=⟨_,Ai (by omega)⟩
   have M:=Paired.at o2 hq hu';have hD:gI H' B.ow (.ref q) (some (.str (own u))):=by
    have:=gI.t (k:=[Ac u.1,Cg (u.2:Int)]) wl.ow M;rw[xK (AH hu')]at this;exact this
   dsimp only[aU];refine⟨_,rfl,W,_,rfl,wl.get (zW _ _),_,rfl,B.ow,_,rfl,hD,_,rfl,rfl,_,rfl,cR (fun g=>?_) fun g=>?_⟩
   ·have Y:own u=z:=V.str.inj (Ie g);refine⟨_,rfl,_,rs ++ [q],rfl,rfl,by rw[Az];rfl,by rw[AD];exact Nat.succ_le_succ J,?_⟩;rw[AE,hu',Cy];show UAt H' _ (_ ++ Ez _ [u]);rw[BP,Ib (Ic Y)];exact BY (R:=fun(q:Ae) (k:UK)=>H' q=some (.tup [.str k.1,.int (k.2:Int)])) M O
   ·have Y:¬ own u=z:=fun e=>g (Ic (by rw[e]));refine⟨_,rs,rfl,rfl,rfl,CM J,?_⟩;rw[AE,hu',Cy];show UAt H' _ (_ ++ Ez _ [u]);rw[BP,Ia (by simpa using Y),D0,BN];exact O
  ·rintro ys σ' H' ⟨o,rs,rfl,rfl,rfl,J,O⟩ L hL;have sL:=aK (o:=.lst (rs.map V.ref)) hL;rw[Aa,Z,AM]at O;exact k L rs _ hL sL aA (Paired.mapP O fun q k e=>sL _ _ e)
inductive pN(vs:List V)(H:Hp)(Q:VK)(u3_:XK):Prop
 | mk (W:Ae) (B:WA) (sc:Int) (os:List UK) (own:UK→Str) (S:Ex) (x:V) (r:c3) (ws:List Str) (land:Str) (R:List P3) (q0:vs=[.ref W,x]) (q1:e9 H W B sc os own S) (q2:RdV false H x r.d) (q3:r.Ok ws) (q4:r.word="part") (q5:r.ds=[.str land,.tuple (R.map pD)]) (q6:∀ H',b9 H H'→Q (.str (dY S land R)) H'):pN vs H Q u3_
def tU:Sp:=fun vs H Q u3_=>pN vs H Q u3_
theorem tV:bY ["_law_world_here","_law_row","_law_stand","_law_taken"] ["_law_world_here","_law_row"] (aO kK):=⟨rfl,rfl,rfl,by decide,rfl,by decide,by decide⟩
theorem zZ{f:Ae}{fd:A3}(F:Fun K "_law_part_word" "_law_part_word" kK f fd)(aj:mg "len"=none)(al:mg "sum"=none)(ak:mg "int"=none)
  (GU:Cl P w K mg base 1 "_law_units" ["_law_world_here","_law_land"] rK)
  :cP P w K mg base CX0 2 f fd ["_law_world_here","_law_row"] tU:=by
 refine F.ok tV (fun vs H Q E h=>?_) (fun bu A outer s H vs Q E hr h=>?_)
 ·obtain⟨W,B,sc,os,own,S,x,r,ws,land,R,rfl,_⟩:=h;rfl
 ·obtain⟨W,B,sc,os,own,S,x,r,ws,land,R,rfl,wl,rdv,ok,hwd,hds,k⟩:=h;have hu:=d7 hr;have nd:=tV.nd;refine⟨_,(aB (aX (i:=2) nd rfl (Dq rfl) (bJ hu (pv 0) aN Ig))
   (aB (cC (iU (iS hu (aQ aV (pv 1) aD Ig) (pv 2))) (aM (bF aN)) bB)
   (aB (cC (aZ oQ (bC fX (aW bK (by rfl) aj AW (aF (cM GU hr (aF (pv 0) (aF (aQ aV (pv 1) aD Ig) aE))) aE)) (bJ hu (pv 0) aN Ig)) (aW (sQ rfl) (by rfl) al Ep (aF (c5 (N:=["_law_part_here"]) (src:=[none]) (osc:=aO kK) (oN:=["_law_world_here","_law_row","_law_stand","_law_taken"]) ⟨by rfl,by decide,by decide,by decide,rfl,by rfl⟩ (dE (aQ aV (pv 1) aD Ig)) (fun cl s H fp gz C=>⟨aR (i:=0) (show(["_law_part_here"]:List Str).Nodup by decide) rfl (Ar rfl),c8,aQ (r:=kZ K) aV (pv 0) aD Ig⟩)) aE)) (bG _)) (aM (bF aN)) bB)
   (aB (i0 (i:=3) (N:=["_law_part_here","_law_row","_law_stand"]) (src:=[none,some 1,some 2]) (osc:=aO kK) (oN:=["_law_world_here","_law_row","_law_stand","_law_taken"]) ⟨by rfl,by decide,by decide,by decide,rfl,by rfl⟩ nd rfl (dE (aQ aV (pv 1) aD Ig)) (fun cl s H fp gz C=>⟨aR (i:=0) (show(["_law_part_here","_law_row","_law_stand"]:List Str).Nodup by decide) rfl (Ar rfl),m5 (PW.pt (iH (iU (lY hu (aQ (r:=kZ K) aV (pv 0) aD Ig) (pv 2))) (gF (aZ oQ (aQ (r:=kZ K) aV (pv 0) aD Ig) (aQ (r:=kZ K) aV (pv 1) aD Ig) (bG _))))),aQ (r:=kZ K) aV (pv 0) aD Ig⟩))
   (aM (bF (aQ b8 (c6 (aF aN (aF aN aE))) (dL uU (by rfl) ak (by kernel_rfl) (aF (kY (aDQ (ED hu)) (pv 3) (c6 aE) (bG _)) aE)) Ig))))))),?_⟩
  obtain⟨t,bZ,rfl,ht,hrest⟩:=c3.Ok.tup (fs:=ws) rdv;rw[hds]at hrest;obtain⟨q1,q2⟩:=rd2 hrest;cases q1;cases q2 with
  | @tup tp us _ J bt af=>
  have Y:=af.len;rw[Aa]at Y;have bq:R.length≤6:=by
   have rs:=ok.rs;rw[hwd,hds]at rs;generalize hg:R.map pD=ps at rs;have ah:=congrArg Ca hg;rw[Aa]at ah;cases rs with
   | part _ _ _ h6 _=>rw[ah,Aa];exact h6
  have z8:us.length≤sizeLine:=aP (by omega);refine⟨_,rfl,W,_,rfl,wl.get (fF _ _),_,rfl,t,_,3,_,rfl,rfl,aH ht,rfl,_,rfl,B.ho,_,rfl,.inl ⟨S.hs,Ac land,.inl wl.ho,rfl,rfl⟩,_,rfl,?_⟩;cases hv:bS S.hs (Ac land)with
  | none=>
   have e0:dY S land R="land":=by
    unfold dY aS;rw[hv];rfl
   rw[e0]at k;exact eZ (k H (b9.refl H))
  | some v=>
  refine dS ?_;have M:aS S land=true:=by unfold aS;rw[hv];rfl
  refine⟨_,rfl,_,rfl,t,_,3,_,rfl,rfl,aH ht,rfl,W,B,sc,os,own,S,land,rfl,wl,fun L rs H1 hL S1 aC hU=>?_⟩;have ar:=Bx hU;have aT:=wl.cn land M;have s1:=wl.s1;have s2:=wl.s2;refine⟨L,_,rfl,.inl (aY aC),_,rfl,W,_,rfl,(wl.same S1).get (aB3 _ _),_,_,rfl,rfl,.inr ⟨by omega,by omega⟩,_,rfl,t,_,4,_,rfl,rfl,aH (S1 _ _ ht),rfl,tp,rfl,⟨_,aH (S1 _ _ J)⟩,?_⟩;refine dN (K:=K) (xs:=us) (fun i ys σ' H'=>∃ o1:Option V,σ'=[o1]∧b9 H1 H'∧ys=((R.take i).map fun p=>p.2.2).map V.int) ⟨none,rfl,b9.refl H1,by simp⟩
   z8 (fun i ys σ H' p=>by obtain⟨_,_,_,rfl⟩:=p;simp;omega) (fun i ys σ H' p=>by obtain⟨_,_,S,_⟩:=p;exact aH (S _ _ (S1 _ _ J))) ?_ ?_
  ·rintro i v ys σ' H2 Z ⟨o1,rfl,S2,rfl⟩;obtain⟨p,q,hp,rfl,hq⟩:=i7 af Z;dsimp only[aU];refine eZ ?_;refine⟨_,rfl,q,_,2,_,rfl,rfl,aH (S2 _ _ (S1 _ _ hq)),rfl,_,rfl,S2,?_⟩;rw[AE,hp];simp
  rintro ys σ' H2 ⟨o1,rfl,S2,rfl⟩ D hD;rw[Y,AM];have O:=(S1.trans S2).trans (aK (o:=.lst ((R.map fun p=>p.2.2).map V.int)) hD);refine⟨D,R.map fun p=>p.2.2,rfl,aY aA,rfl,_,rfl,?_⟩;generalize upd H2 D _=H3 at O ⊢;have aq:(((rs.map V.ref).length:Nat):Int) * sc=S.ac land:=by
   rw[Aa,ar,Int.mul_comm];exact aT
  rw[show V.int ((((rs.map V.ref).length:Nat):Int) * sc)=V.int (S.ac land) from congrArg V.int aq];refine cR (fun g=>?_) fun g=>?_
  ·have g':(R.map fun p=>p.2.2).sum≠S.ac land:=fun z=>by
    rw[z]at g;simp at g
   have e0:dY S land R="acres":=by
    unfold dY;rw[M,Ia (by decide),Ib g']
   rw[e0]at k;exact k H3 O
  have g':(R.map fun p=>p.2.2).sum=S.ac land:=by
   have:S.ac land=(R.map fun p=>p.2.2).sum:=by simpa using g
   exact this.symm
  have a0:=wl.same O;refine⟨_,rfl,t,_,4,_,rfl,rfl,aH (O _ _ ht),rfl,tp,rfl,⟨_,aH (O _ _ J)⟩,?_⟩;refine dN (K:=K) (xs:=us) (fun i ys σ' H'=>∃ o1:Option V,σ'=[o1,some (.ref t),some (.ref B.ho)]∧H'=H3∧ys=((R.take i).filter fun p=>decide (p.1≠land) && aS S p.1).map fun p=>V.str p.1) ⟨none,rfl,rfl,by simp⟩
   z8 (fun i ys σ H' p=>by obtain⟨_,_,_,rfl⟩:=p;rw[Aa];exact AI (BS _ _) (by rw[AJ];exact D6 _ _)) (fun i ys σ H' p=>by obtain⟨_,_,rfl,_⟩:=p;exact aH (O _ _ J)) ?_ ?_
  ·rintro i v ys σ' H4 Z ⟨o1,rfl,rfl,rfl⟩;obtain⟨p,q,hp,rfl,hq⟩:=i7 af Z;have ab:=O _ _ hq;have et:(R.take (i + 1)).filter (fun p=>decide (p.1≠land) && aS S p.1)=(R.take i).filter (fun p=>decide (p.1≠land) && aS S p.1) ++ if (decide (p.1≠land) && aS S p.1)=true then[p] else[]:=by
    rw[AE,hp,Cy];congr 1;show Ez _ [p]=_;rw[BP,D0]
   dsimp only[aU];refine⟨_,rfl,q,_,0,_,rfl,rfl,aH ab,rfl,_,rfl,B.ho,_,rfl,.inl ⟨S.hs,Ac p.1,.inl a0.ho,rfl,rfl⟩,_,rfl,cR (fun g1=>?_) fun g1=>?_⟩
   ·refine⟨_,rfl,q,_,0,_,rfl,rfl,aH ab,rfl,_,rfl,t,_,3,_,rfl,rfl,aH (O _ _ ht),rfl,rfl,_,rfl,cR (fun g2=>?_) fun g2=>?_⟩
    ·refine⟨_,rfl,q,_,0,_,rfl,rfl,aH ab,rfl,_,rfl,rfl,?_⟩;rw[et,Ib,Az]
     ·rfl
     ·rw[show decide (p.1≠land)=true by simpa using g2,Gi];exact g1
    ·refine⟨_,rfl,rfl,?_⟩;rw[et,Ia,BN];rw[show decide (p.1≠land)=false by simpa using g2];simp
   ·refine dS ⟨_,rfl,rfl,?_⟩;rw[et,Ia,BN];intro z;exact g1 (Bool.and_eq_true_iff.mp z).2
  rintro ys σ' H4 ⟨o1,rfl,rfl,rfl⟩ D4 aI;rw[Y,AM];have S4:=O.trans (aK (o:=.lst ((R.filter fun p=>decide (p.1≠land) && aS S p.1).map fun p=>V.str p.1)) aI);have ai:upd H4 D4 (.lst ((R.filter fun p=>decide (p.1≠land) && aS S p.1).map fun p=>V.str p.1)) D4=some (.lst ((R.filter fun p=>decide (p.1≠land) && aS S p.1).map fun p=>V.str p.1)):=aA;generalize upd H4 D4 _=H5 at S4 ai ⊢;refine⟨zZ2,fun L6 av=>?_⟩;have s6:=aK (o:=.lst [V.str "done",.str "name"]) av;refine⟨_,rfl,A0 _,fun L7 az=>?_⟩;have s7:=aK (o:=.lst []) az;refine⟨D4,L7,_,_,rfl,rfl,aY (s7 _ _ (s6 _ _ ai)),aY aA,by simp[g9],rfl,.inr ⟨_,rfl,?_⟩⟩;have hS:=(S4.trans s6).trans s7;cases hf:R.filter (fun p=>decide (p.1≠land) && aS S p.1)with
  | nil=>
   have e0:dY S land R="done":=by
    unfold dY;rw[M,Ia (by decide),Ia (fun z=>z g'),Ia];intro z;obtain⟨p,hp,hz⟩:=Bu.mp z;have:p∈R.filter (fun p=>decide (p.1≠land) && aS S p.1):=Bz.mpr ⟨hp,hz⟩;rw[hf]at this;simp at this
   rw[e0]at k;exact⟨L6,_,_,_,rfl,rfl,aY (s7 _ _ aA),rfl,k _ hS⟩
  | cons p ps=>
   have e0:dY S land R="name":=by
    unfold dY;rw[M,Ia (by decide),Ia (fun z=>z g'),Ib];have:p∈R.filter (fun p=>decide (p.1≠land) && aS S p.1):=by rw[hf];exact Al
    exact Bu.mpr ⟨p,(Bz.mp this).1,(Bz.mp this).2⟩
   rw[e0]at k;exact⟨L6,_,_,_,rfl,rfl,aY (s7 _ _ aA),rfl,k _ hS⟩
inductive pO(vs:List V)(H:Hp)(Q:VK)(u3_:XK):Prop
 | mk (W:Ae) (B:WA) (sc:Int) (os:List UK) (own:UK→Str) (S:Ex) (x:V) (r:c3) (ws:List Str) (land:Str) (R:List Str) (q0:vs=[.ref W,x]) (q1:e9 H W B sc os own S) (q2:RdV false H x r.d) (q3:r.Ok ws) (q4:r.word="join") (q5:r.ds=[.tuple (R.map BK),.str land]) (q6:∀ H',(∀ b o,H b=some o→H' b=some o)→Q (.str (dO S R land)) H'):pO vs H Q u3_
def tW:Sp:=fun vs H Q u3_=>pO vs H Q u3_
def hof(S:Ex)(z:Str):Str:=match bS S.hs (Ac z)with
 | some (.str h)=>h
 | _=>""
theorem aES{a:Str}{l:List Str}:1 < (qX (a :: l)).length↔∃ z∈a :: l,z≠a:=by
 have nd:=aAY (a :: l);have mem:=aDZ (a :: l);constructor
 ·intro h;cases hm:qX (a :: l)with
  | nil=>rw[hm]at h;simp at h
  | cons x r=>
   cases r with
   | nil=>rw[hm]at h;simp at h
   | cons y r=>
    rw[hm]at nd mem;have q:x≠y:=fun e=>(AZ.mp nd).1 (by rw[e];exact Al);by_cases e:x=a
    ·exact⟨y,(mem y).mp (by simp),fun z=>q (by rw[e,z])⟩
    ·exact⟨x,(mem x).mp (by simp),e⟩
 ·rintro⟨z,hz,hne⟩;have h1:=(mem z).mpr hz;have h2:=(mem a).mpr Al;cases hm:qX (a :: l)with
  | nil=>rw[hm]at h1;simp at h1
  | cons x r=>
   cases r with
   | nil=>
    rw[hm]at h1 h2;simp at h1 h2;exact absurd (h1.trans h2.symm) hne
   | cons y r=>simp
theorem tX:bY ["_law_world_here","_law_row","_law_stand"] ["_law_world_here","_law_row"] (aO kQ):=⟨rfl,rfl,rfl,by decide,rfl,by decide,by decide⟩
theorem z4{f:Ae}{fd:A3}(F:Fun K "_law_join_word" "_law_join_word" kQ f fd)(Y:mg "len"=none)(aq:mg "set"=none)(ar:mg "int"=none)
  :cP P w K mg base CX0 1 f fd ["_law_world_here","_law_row"] tW:=by
 refine F.ok tX (fun vs H Q E h=>?_) (fun bq A outer s H vs Q E hr h=>?_)
 ·obtain⟨W,B,sc,os,own,S,x,r,ws,land,R,rfl,_⟩:=h;rfl
 ·obtain⟨W,B,sc,os,own,S,x,r,ws,land,R,rfl,wl,rdv,ok,hwd,hds,k⟩:=h;have hu:=d7 hr;have nd:=tX.nd;refine⟨_,(aB (aX (i:=2) nd rfl (Dq rfl) (bJ hu (pv 0) aN Ig))
   (aB (cC (aZ oR (aW bK (by rfl) Y AW (aF (c5 (N:=["_law_land","_law_stand"]) (src:=[none,some 2]) (osc:=aO kQ) (oN:=["_law_world_here","_law_row","_law_stand"]) ⟨by rfl,by decide,by decide,by decide,rfl,by rfl⟩ (dE (aQ aV (pv 1) aD Ig)) (fun cl s H fp gz C=>⟨aR (i:=0) (show(["_law_land","_law_stand"]:List Str).Nodup by decide) rfl (Ar rfl),m5 (iU (lY hu (pv 0) (pv 1))),pv 0⟩)) aE)) (aW bK (by rfl) Y AW (aF (aQ aV (pv 1) aD Ig) aE)) (bG _)) (aM (bF aN)) bB)
   (aB (cC (aZ aBs (aW vO (by rfl) Y AW (aF (dL (vN rfl) (by rfl) aq (by kernel_rfl) (aF (c5 (N:=["_law_land","_law_stand"]) (src:=[none,some 2]) (osc:=aO kQ) (oN:=["_law_world_here","_law_row","_law_stand"]) ⟨by rfl,by decide,by decide,by decide,rfl,by rfl⟩ (dE (aQ aV (pv 1) aD Ig)) (fun cl s H fp gz C=>⟨aR (i:=0) (show(["_law_land","_law_stand"]:List Str).Nodup by decide) rfl (Ar rfl),c8,bJ hu (pv 1) (pv 0) Ig⟩)) aE)) aE)) aD (bG _)) (aM (bF aN)) bB)
   (aM (bF (aQ b8 (c6 (aF aN (aF aN aE))) (dL uU (by rfl) ar (by kernel_rfl) (aF (aDh (aAr (lY hu (aQ aV (pv 1) aD Ig) (pv 2))) (aDg (kY lA (aQ aV (pv 1) aD Ig) (aQ aV (pv 1) aD Ig) (by with_unfolding_all rfl)))) aE)) Ig)))))),?_⟩
  obtain⟨t,bZ,rfl,ht,hrest⟩:=c3.Ok.tup (fs:=ws) rdv;rw[hds]at hrest;obtain⟨q1,q2⟩:=rd2 hrest;cases q2;cases q1 with
  | @tup tp us _ M bp a0=>
  obtain rfl:=nC a0;obtain⟨hR2,hR6⟩:2≤R.length∧R.length≤6:=by
   have rs:=ok.rs;rw[hwd,hds]at rs;generalize hg:R.map BK=ps at rs;have al:=congrArg Ca hg;rw[Aa]at al;cases rs with
   | join _ _ h2 h6 _=>rw[al,Aa];exact⟨h2,h6⟩
  have ap:(R.map V.str).length=R.length:=Aa _;have z8:(R.map V.str).length≤sizeLine:=aP (by omega);refine⟨_,rfl,W,_,rfl,wl.get (fF _ _),_,rfl,t,_,3,_,rfl,rfl,aH ht,rfl,tp,rfl,⟨_,aH M⟩,?_⟩;refine dN (K:=K) (xs:=R.map V.str) (fun i ys σ' H'=>∃ o1:Option V,σ'=[o1,some (.ref B.ho)]∧H'=H∧ys=((R.take i).filter (aS S)).map V.str) ⟨none,rfl,rfl,by simp⟩
   z8 (fun i ys σ H' p=>by obtain⟨_,_,_,rfl⟩:=p;rw[Aa];exact AI (BS _ _) (by rw[AJ];exact D6 _ _)) (fun i ys σ H' p=>by obtain⟨_,_,rfl,_⟩:=p;exact aH M) ?_ ?_
  ·rintro i v ys σ' H1 hv ⟨o1,rfl,rfl,rfl⟩;rw[An]at hv;obtain⟨z,O,rfl⟩:=AG.mp hv;have et:(R.take (i + 1)).filter (aS S)=(R.take i).filter (aS S) ++ if aS S z=true then[z] else[]:=by
    rw[AE,O,Cy];congr 1;show Ez _ [z]=_;rw[BP,D0]
   dsimp only[aU];refine⟨_,rfl,_,rfl,B.ho,_,rfl,.inl ⟨S.hs,Ac z,.inl wl.ho,rfl,rfl⟩,_,rfl,cR (fun g1=>?_) fun g1=>?_⟩
   ·refine⟨_,rfl,_,rfl,rfl,?_⟩;rw[et,Ib (show aS S z=true from g1),Az];rfl
   ·refine⟨_,rfl,rfl,?_⟩;rw[et,Ia (show¬ aS S z=true from g1),BN]
  rintro ys σ' H1 ⟨o1,rfl,rfl,rfl⟩ D hD;rw[ap,AM];have S1:=aK (o:=.lst ((R.filter (aS S)).map V.str)) hD;have an:upd H1 D (.lst ((R.filter (aS S)).map V.str)) D=some (.lst ((R.filter (aS S)).map V.str)):=aA;generalize upd H1 D _=H2 at S1 an ⊢;refine⟨D,_,rfl,.inl (aY an),_,rfl,t,_,3,_,rfl,rfl,aH (S1 _ _ ht),rfl,tp,_,rfl,.inr (aH (S1 _ _ M)),_,_,rfl,rfl,_,rfl,?_⟩;have am:(R.filter (aS S)).length < R.length↔R.all (aS S)=false:=by
   constructor
   ·intro h;cases e:R.all (aS S)with
    | false=>rfl
    | true=>
     rw[List.filter_eq_self.mpr (A5.mp e)]at h;omega
   ·intro h;have h1:=BS (aS S) R;rcases Nat.lt_or_ge (R.filter (aS S)).length R.length with z | z
    ·exact z
    ·have e:=List.length_filter_eq_length_iff.mp (Nat.le_antisymm h1 z);rw[A5.mpr e]at h;cases h
  refine cR (fun g=>?_) fun g=>?_
  ·have g':=am.mp (by have:=Ie g;rw[Aa,Aa]at this;omega);have e0:dO S R land="land":=by
    unfold dO;rw[Ib g']
   rw[e0]at k;exact k H2 S1
  have q:¬ R.all (aS S)=false:=fun z=>g (Ic (by rw[Aa,Aa];exact Gw.mpr (am.mpr z)));have aa:∀ z∈R,bS S.hs (Ac z)=some (.str (hof S z)):=fun z O=>by
   have ha:R.all (aS S)=true:=by
    cases e:R.all (aS S)with
    | true=>rfl
    | false=>exact absurd e q
   have h1:(bS S.hs (Ac z)).isSome=true:=A5.mp ha z O;cases e:bS S.hs (Ac z)with
   | none=>rw[e]at h1;cases h1
   | some v=>
    obtain⟨h,y,rfl,_⟩:=wl.hv _ _ e;unfold hof;rw[e]
  have aL:=wl.same S1;refine⟨_,rfl,t,_,3,_,rfl,rfl,aH (S1 _ _ ht),rfl,tp,rfl,⟨_,aH (S1 _ _ M)⟩,?_⟩;refine dN (K:=K) (xs:=R.map V.str) (fun i ys σ' H'=>∃ o1:Option V,σ'=[o1,some (.ref B.ho)]∧H'=H2∧ys=((R.take i).map (hof S)).map V.str) ⟨none,rfl,rfl,by simp⟩
   z8 (fun i ys σ H' p=>by obtain⟨_,_,_,rfl⟩:=p;rw[Aa,Aa,AJ];exact D6 _ _) (fun i ys σ H' p=>by obtain⟨_,_,rfl,_⟩:=p;exact aH (S1 _ _ M)) ?_ ?_
  ·rintro i v ys σ' H3 hv ⟨o1,rfl,rfl,rfl⟩;rw[An]at hv;obtain⟨z,O,rfl⟩:=AG.mp hv;dsimp only[aU];refine eZ ?_;refine⟨_,rfl,_,rfl,B.ho,_,rfl,.inl ⟨S.hs,Ac z,.inl aL.ho,rfl,(aa z (AH O)).symm⟩,_,rfl,rfl,?_⟩;rw[AE,O];simp
  rintro ys σ' H3 ⟨o1,rfl,rfl,rfl⟩ D2 av;rw[ap,AM];have s3:=aK (o:=.lst ((R.map (hof S)).map V.str)) av;refine⟨D2,R.map (hof S),rfl,aY aA,by rw[Aa];omega,fun a ha=>⟨a,R.map (hof S),rfl,aA,by rw[Aa];omega,?_⟩⟩;have s4:=(S1.trans s3).trans (aK (o:=yQ P w a (R.map (hof S))) ha);obtain⟨z0,R',eR⟩:∃ z0 R',R=z0 :: R':=by
   cases R with
   | nil=>simp at hR2
   | cons z0 R'=>exact⟨z0,R',rfl⟩
  have ah:R.headD ""=z0:=by rw[eR];rfl
  have ae:(R.any fun z=>decide (bS S.hs (Ac z)≠bS S.hs (Ac (R.headD ""))))=true↔1 < (qX (R.map (hof S))).length:=by
   have e2:qX (R.map (hof S))=qX (hof S z0 :: R'.map (hof S)):=by rw[eR];rfl
   rw[e2,aES,ah,Bu];have e3:hof S z0 :: R'.map (hof S)=R.map (hof S):=by rw[eR];rfl
   rw[e3];have h0:=aa z0 (by rw[eR];exact Al);constructor
   ·rintro⟨z,O,hne⟩;refine⟨hof S z,Ba O,fun e=>?_⟩;rw[aa z O,h0,e]at hne;simp at hne
   ·rintro⟨y,hy,hne⟩;obtain⟨z,O,rfl⟩:=AR.mp hy;refine⟨z,O,Ic fun e=>hne ?_⟩;rw[aa z O,h0]at e;injection e with e;injection e with e
  refine⟨_,_,rfl,rfl,_,rfl,cR (fun g2=>?_) fun g2=>?_⟩
  ·have g3:1 < (qX (R.map (hof S))).length:=by
    have:=Ie g2;exact Gw.mp this
   have e0:dO S R land="houses":=by
    unfold dO;rw[Ia q,Ib (ae.mpr g3)]
   rw[e0]at k;exact k _ s4
  have Z:¬ (R.any fun z=>decide (bS S.hs (Ac z)≠bS S.hs (Ac (R.headD ""))))=true:=fun z=>g2 (Ic (Gw.mpr (ae.mp z)));have ax:=wl.same s4;refine⟨zZ2,fun L6 ay=>?_⟩;have s6:=aK (o:=.lst [V.str "done",.str "name"]) ay;have J:=s4.trans s6;have aw:=ax.same s6;refine⟨_,rfl,t,_,4,_,rfl,rfl,aH (J _ _ ht),rfl,_,rfl,B.ho,_,rfl,.inl ⟨S.hs,Ac land,.inl aw.ho,rfl,rfl⟩,_,rfl,cR (fun g3=>?_) fun g3=>?_⟩
  ·refine⟨_,rfl,t,_,4,_,rfl,rfl,aH (J _ _ ht),rfl,_,rfl,t,_,3,_,rfl,rfl,aH (J _ _ ht),rfl,tp,_,rfl,.inr (aH (J _ _ M)),rfl,gU _,.inr ⟨_,rfl,?_⟩⟩;have aj:aS S land=true:=g3;rw[Ib rfl,nB];by_cases e:land∈R
   ·have e0:dO S R land="done":=by
     unfold dO;rw[Ia q,Ia Z,Ia (by rw[Ic e];simp)]
    rw[e0]at k;rw[Ic e];exact⟨L6,_,_,_,rfl,rfl,aY aA,rfl,k _ J⟩
   ·have e0:dO S R land="name":=by
     unfold dO;rw[Ia q,Ia Z,Ib (by rw[decide_eq_false e,aj];rfl)]
    rw[e0]at k;rw[decide_eq_false e];exact⟨L6,_,_,_,rfl,rfl,aY aA,rfl,k _ J⟩
  ·have aj:aS S land=false:=by
    cases e:aS S land with
    | false=>rfl
    | true=>exact absurd e g3
   have e0:dO S R land="done":=by
    unfold dO;rw[Ia q,Ia Z,Ia (by rw[aj,DI];exact Ay)]
   rw[e0]at k;exact .inr ⟨_,rfl,L6,_,_,_,rfl,rfl,aY aA,rfl,k _ J⟩
theorem aGM{α β γ:Type}{T:α→β→γ→Prop}{a:α}{b:β}{c:γ}(h:∀ q,q=T→q a b c):T a b c:=h T rfl
inductive z5(vs:List V)(H:Hp)(Q:VK)(u3_:XK):Prop
 | mk (W:Ae) (B:WA) (sc:Int) (os:List UK) (own:UK→Str) (S:Ex) (x:V) (r:c3) (ws:List Str) (q0:vs=[.ref W,x]) (q1:e9 H W B sc os own S) (q2:nU S.inc ws) (q3:RdV false H x r.d) (q4:r.Ok ws) (q5:∀ z S' H',jC S r.word r.ds z S'→b9 H H'→Q (.str z) H'):z5 vs H Q u3_
def aET:Sp:=fun vs H Q u3_=>z5 vs H Q u3_
theorem aEU:bY ["_law_world_here","_law_row","_law_stand"] ["_law_world_here","_law_row"] (aO aEn):=⟨rfl,rfl,rfl,by decide,rfl,by decide,by decide⟩
theorem aF7{f:Ae}{fd:A3}(F:Fun K "_law_word" "_law_word" aEn f fd)
  (GP:Cl P w K mg base 2 "_law_part_word" ["_law_world_here","_law_row"] tU)
  (GJ:Cl P w K mg base 1 "_law_join_word" ["_law_world_here","_law_row"] tW)
  (GR:Cl P w K mg base 1 "_law_road" ["_law_world_here","_law_house"] aB4)
  :cP P w K mg base CX0 3 f fd ["_law_world_here","_law_row"] aET:=by
 refine F.ok aEU (fun vs H Q E h=>?_) (fun au A outer s H vs Q E hr h=>?_)
 ·obtain⟨W,B,sc,os,own,S,x,r,ws,rfl,_⟩:=h;rfl
 ·obtain⟨W,B,sc,os,own,S,x,r,ws,rfl,wl,hrk,rdv,ok,k⟩:=h;have hu:=d7 hr;have ae:dG 1 _:=hr.mono (by decide);have nd:=aEU.nd;refine⟨_,(aB (aX (i:=2) nd rfl (Ar rfl) (bJ hu (pv 0) aN Ig))
   (aB (cC (aZ cT (aQ aV (pv 1) aD Ig) aN (bG _)) (aM (bF (cM GP hr (aF (pv 0) (aF (pv 1) aE))))) bB)
   (aB (cC (aZ cT (aQ aV (pv 1) aD Ig) aN (bG _)) (aM (bF (cM GJ ae (aF (pv 0) (aF (pv 1) aE))))) bB)
   (aB (cC (PW.pt (iH (aZ cT (aQ aV (pv 1) aD Ig) aN (bG _)) (gF (iU (iS hu (aQ aV (pv 1) aD Ig) (pv 2)))))) (aM (bF aN)) bB)
   (aB (cC (PW.pt (iH (aZ cT (aQ aV (pv 1) aD Ig) aN (bG _)) (gF (aZ cT (bJ hu (pv 2) (aQ aV (pv 1) aD Ig) Ig) (aQ aV (pv 1) aD Ig) (bG _))))) (aM (bF aN)) bB)
   (aB (cC (PW.pt (iH (aZ cT (aQ aV (pv 1) aD Ig) aN (bG _)) (gF (aZ jX (aQ aV (pv 1) aD Ig) (cM GR ae (aF (pv 0) (aF (aQ aV (pv 1) aD Ig) aE))) (by with_unfolding_all rfl))))) (aM (bF aN)) bB)
   (aB (cC (PW.pt (iH (aZ cT (aQ aV (pv 1) aD Ig) aN (bG _)) (gF (iU (iS hu (aQ aV (pv 1) aD Ig) (bJ hu (pv 0) aN Ig)))))) (aM (bF aN)) bB)
   (aB (cC (PW.pt (iH (aZ jX (aQ aV (pv 1) aD Ig) (cH (aF aN (aF aN aE))) (by with_unfolding_all rfl)) (gF (aZ aGs (aQ aV (pv 1) aD Ig) (bJ hu (bJ hu (pv 0) aN Ig) (aQ aV (pv 1) aD Ig) Ig) (bG _))))) (aM (bF aN)) bB)
   (aM (bF aN)))))))))),?_⟩
  refine aGM fun T hT=>?_;obtain⟨t,bZ,rfl,ht,hrest⟩:=c3.Ok.tup (fs:=ws) rdv;have rs:=ok.rs;have fi:=ok.fi;obtain⟨word,name,day,ds⟩:=r;dsimp only at rs hrest ht k fi;cases rs with
  | @part M R hl ad h2 h6 ag=>
   obtain⟨q1,q2⟩:=rd2 hrest;subst hT;refine⟨_,rfl,W,_,rfl,wl.get (fF _ _),_,rfl,t,_,0,_,rfl,rfl,aH ht,rfl,rfl,_,rfl,yW ?_⟩;exact⟨_,rfl,_,rfl,W,B,sc,os,own,S,_,_,ws,M,R,rfl,wl,rdv,ok,rfl,rfl,fun H' s=>k _ _ _ .part s⟩
  | @join M R hl ad h2 h6 ag=>
   obtain⟨q1,q2⟩:=rd2 hrest;subst hT;refine⟨_,rfl,W,_,rfl,wl.get (fF _ _),_,rfl,t,_,0,_,rfl,rfl,aH ht,rfl,rfl,_,rfl,nW (by decide) ?_⟩;refine⟨_,rfl,t,_,0,_,rfl,rfl,aH ht,rfl,rfl,_,rfl,yW ?_⟩;exact⟨_,rfl,_,rfl,W,B,sc,os,own,S,_,_,ws,M,R,rfl,wl,rdv,ok,rfl,rfl,fun H' s=>k _ _ _ .join s⟩
  | @forfeit M q hl hh=>
   obtain rfl:=mS hrest;have kF:∀(z:Str),iD S M q=z→∃ S',jC S "forfeit" [.str M,.str q] z S':=by
    rintro z rfl;exact⟨_,.forfeit⟩
   subst hT;refine⟨_,rfl,W,_,rfl,wl.get (fF _ _),_,rfl,t,_,0,_,rfl,rfl,aH ht,rfl,rfl,_,rfl,nW (by decide) ?_⟩;refine⟨_,rfl,t,_,0,_,rfl,rfl,aH ht,rfl,rfl,_,rfl,nW (by decide) ?_⟩;refine⟨_,rfl,t,_,0,_,rfl,rfl,aH ht,rfl,rfl,_,rfl,yW ?_⟩;refine⟨_,rfl,t,_,3,_,rfl,rfl,aH ht,rfl,_,rfl,B.ho,_,rfl,.inl ⟨S.hs,Ac M,.inl wl.ho,rfl,rfl⟩,_,rfl,?_⟩;cases hv:bS S.hs (Ac M)with
   | none=>
    obtain⟨S',st⟩:=kF "land" (by unfold iD aS;rw[hv];rfl);exact eZ (k _ _ _ st (b9.refl H))
   | some v=>
   refine dS ?_;obtain⟨hs,_,rfl,_⟩:=wl.hv _ _ hv;have af:aS S M=true:=by unfold aS;rw[hv];rfl
   refine⟨_,rfl,t,_,0,_,rfl,rfl,aH ht,rfl,rfl,_,rfl,yW ?_⟩;refine⟨_,rfl,_,rfl,t,_,3,_,rfl,rfl,aH ht,rfl,B.ho,_,rfl,.inl ⟨S.hs,Ac M,.inl wl.ho,rfl,hv.symm⟩,_,rfl,t,_,4,_,rfl,rfl,aH ht,rfl,rfl,_,rfl,cR (fun g=>?_) fun g=>?_⟩
   ·obtain⟨S',st⟩:=kF "same" (by unfold iD;rw[af,Ia (by decide),hv,V.str.inj (Ie g),Ib rfl]);exact k _ _ _ st (b9.refl H)
   obtain⟨S',st⟩:=kF "done" (by unfold iD;rw[af,Ia (by decide),hv,Ia (fun z=>g (Ic (Ch.inj z)))]);refine⟨_,rfl,t,_,0,_,rfl,rfl,aH ht,rfl,rfl,_,rfl,nW (by decide) ?_⟩;refine dS ?_;refine⟨_,rfl,t,_,0,_,rfl,rfl,aH ht,rfl,rfl,_,rfl,nW (by decide) ?_⟩;refine dS ?_;refine⟨_,rfl,t,_,0,_,rfl,rfl,aH ht,rfl,zZ2,fun u Y=>?_⟩;have Z:=(aK (o:=.tup [V.str "breach",.str "view"]) Y)
   refine⟨u,_,rfl,.inr (aH aA),rfl,rfl,_,rfl,cR (fun g=>absurd g (by decide)) fun _=>?_⟩;refine dS ?_;exact k _ _ _ st Z
  | @measure J ay hf h0 h1=>
   obtain rfl:=mS hrest;subst hT;refine⟨_,rfl,W,_,rfl,wl.get (fF _ _),_,rfl,t,_,0,_,rfl,rfl,aH ht,rfl,rfl,_,rfl,nW (by decide) ?_⟩
   iterate 2 refine⟨_,rfl,t,_,0,_,rfl,rfl,aH ht,rfl,rfl,_,rfl,nW (by decide) ?_⟩
   refine dS ?_;refine⟨_,rfl,t,_,0,_,rfl,rfl,aH ht,rfl,rfl,_,rfl,nW (by decide) ?_⟩;refine dS ?_;refine⟨_,rfl,t,_,0,_,rfl,rfl,aH ht,rfl,rfl,_,rfl,nW (by decide) ?_⟩;refine dS ?_;refine⟨_,rfl,t,_,0,_,rfl,rfl,aH ht,rfl,rfl,_,rfl,nW (by decide) ?_⟩;refine dS ?_;refine⟨_,rfl,t,_,0,_,rfl,rfl,aH ht,rfl,zZ2,fun u Y=>?_⟩;have Z:=(aK (o:=.tup [V.str "breach",.str "view"]) Y)
   refine⟨u,_,rfl,.inr (aH aA),rfl,rfl,_,rfl,cR (fun g=>absurd g (by decide)) fun _=>?_⟩;refine dS ?_;exact k _ _ _ .measure Z
  | @mend q O hh ho aC=>
   obtain rfl:=mS hrest;have kM:∀(z:Str),(if q∈rd S.men O then("ring":Str) else "done")=z→∃ S',jC S "mend" [.str q,.str O] z S':=by
    rintro z rfl;exact⟨_,.mend⟩
   subst hT;refine⟨_,rfl,W,_,rfl,wl.get (fF _ _),_,rfl,t,_,0,_,rfl,rfl,aH ht,rfl,rfl,_,rfl,nW (by decide) ?_⟩
   iterate 2 refine⟨_,rfl,t,_,0,_,rfl,rfl,aH ht,rfl,rfl,_,rfl,nW (by decide) ?_⟩
   refine dS ?_;refine⟨_,rfl,t,_,0,_,rfl,rfl,aH ht,rfl,rfl,_,rfl,nW (by decide) ?_⟩;refine dS ?_;refine⟨_,rfl,t,_,0,_,rfl,rfl,aH ht,rfl,rfl,_,rfl,yW ?_⟩;refine⟨_,rfl,t,_,3,_,rfl,rfl,aH ht,rfl,_,rfl,_,rfl,t,_,4,_,rfl,rfl,aH ht,rfl,W,B,sc,os,own,S,O,rfl,wl,fun L H1 hL S1 ak=>?_⟩;refine⟨L,_,rfl,.inl (aY ak),rfl,gU _,_,rfl,?_⟩;show if (if false=true then !inV (V.str q) ((rd S.men O).map V.str) else inV (V.str q) ((rd S.men O).map V.str))=true then _ else _
   rw[Ia Ay,nB];by_cases g:q∈rd S.men O
   ·rw[Ic g];obtain⟨S',st⟩:=kM "ring" (Ib g);exact eZ (k _ _ _ st S1)
   rw[decide_eq_false g];obtain⟨S',st⟩:=kM "done" (Ia g);refine dS ?_;refine⟨_,rfl,t,_,0,_,rfl,rfl,aH (S1 _ _ ht),rfl,rfl,_,rfl,nW (by decide) ?_⟩;refine dS ?_;refine⟨_,rfl,t,_,0,_,rfl,rfl,aH (S1 _ _ ht),rfl,zZ2,fun u Y=>?_⟩;have Z:=S1.trans (aK (o:=.tup [V.str "breach",.str "view"]) Y);refine⟨u,_,rfl,.inr (aH aA),rfl,rfl,_,rfl,cR (fun g=>absurd g (by decide)) fun _=>?_⟩;refine dS ?_;exact k _ _ _ st Z
  | @alone q hh=>
   obtain rfl:=mS hrest;have kA:∀(z:Str),(if (bS S.men (Ac q)).isSome=true then("done":Str) else "none")=z→∃ S',jC S "alone" [.str q] z S':=by
    rintro z rfl;exact⟨_,.alone⟩
   subst hT;refine⟨_,rfl,W,_,rfl,wl.get (fF _ _),_,rfl,t,_,0,_,rfl,rfl,aH ht,rfl,rfl,_,rfl,nW (by decide) ?_⟩
   iterate 2 refine⟨_,rfl,t,_,0,_,rfl,rfl,aH ht,rfl,rfl,_,rfl,nW (by decide) ?_⟩
   refine dS ?_;refine⟨_,rfl,t,_,0,_,rfl,rfl,aH ht,rfl,rfl,_,rfl,nW (by decide) ?_⟩;refine dS ?_;refine⟨_,rfl,t,_,0,_,rfl,rfl,aH ht,rfl,rfl,_,rfl,nW (by decide) ?_⟩;refine dS ?_;refine⟨_,rfl,t,_,0,_,rfl,rfl,aH ht,rfl,rfl,_,rfl,yW ?_⟩;refine⟨_,rfl,t,_,3,_,rfl,rfl,aH ht,rfl,_,rfl,W,_,rfl,wl.get (zX _ _),B.me,_,rfl,.inl ⟨S.men,Ac q,.inl wl.me,rfl,rfl⟩,_,rfl,?_⟩;cases hv:bS S.men (Ac q)with
   | none=>
    obtain⟨S',st⟩:=kA "none" (by rw[hv];rfl);exact eZ (k _ _ _ st (b9.refl H))
   | some v=>
   obtain⟨S',st⟩:=kA "done" (by rw[hv];rfl);refine dS ?_;refine⟨_,rfl,t,_,0,_,rfl,rfl,aH ht,rfl,zZ2,fun u Y=>?_⟩;have Z:=(aK (o:=.tup [V.str "breach",.str "view"]) Y)
   refine⟨u,_,rfl,.inr (aH aA),rfl,rfl,_,rfl,cR (fun g=>absurd g (by decide)) fun _=>?_⟩;refine dS ?_;exact k _ _ _ st Z
  | @breach J n1 n2 n3 hf an aj bb aw az a0=>
   obtain rfl:=mS hrest;obtain⟨v,hv⟩:=hrk J (fi (by decide) _ _ rfl);have el:iE S J n1=if n1 < v then("done":Str) else "inch":=by
    unfold iE;rw[hv]
   have kL:∀ z,iE S J n1=z→jC S "breach" (.str J :: .int n1 :: [.int n2,.int n3]) z S:=by
    rintro z rfl;exact .breach
   subst hT;refine⟨_,rfl,W,_,rfl,wl.get (fF _ _),_,rfl,t,_,0,_,rfl,rfl,aH ht,rfl,rfl,_,rfl,nW (by decide) ?_⟩
   iterate 2 refine⟨_,rfl,t,_,0,_,rfl,rfl,aH ht,rfl,rfl,_,rfl,nW (by decide) ?_⟩
   refine dS ?_;refine⟨_,rfl,t,_,0,_,rfl,rfl,aH ht,rfl,rfl,_,rfl,nW (by decide) ?_⟩;refine dS ?_;refine⟨_,rfl,t,_,0,_,rfl,rfl,aH ht,rfl,rfl,_,rfl,nW (by decide) ?_⟩;refine dS ?_;refine⟨_,rfl,t,_,0,_,rfl,rfl,aH ht,rfl,rfl,_,rfl,nW (by decide) ?_⟩;refine dS ?_;refine⟨_,rfl,t,_,0,_,rfl,rfl,aH ht,rfl,zZ2,fun u Y=>?_⟩;have Z:=(aK (o:=.tup [V.str "breach",.str "view"]) Y)
   refine⟨u,_,rfl,.inr (aH aA),rfl,rfl,_,rfl,cR (fun _=>?_) fun g=>absurd (by decide) g⟩;have aa:=wl.same Z;refine⟨_,rfl,t,_,4,_,rfl,rfl,aH (Z _ _ ht),rfl,_,rfl,W,_,rfl,aa.get (zY _ _),_,rfl,t,_,3,_,rfl,rfl,aH (Z _ _ ht),rfl,B.ic,_,rfl,.inl ⟨S.inc,Ac J,.inl aa.ic,rfl,hv.symm⟩,_,_,rfl,rfl,_,rfl,cR (fun g=>?_) fun g=>?_⟩
   ·exact k _ _ _ (kL _ (by rw[el,Ia (by have:=Ie g;omega)])) Z
   ·exact k _ _ _ (kL _ (by rw[el,Ib (by have:¬ v≤n1:=fun z=>g (Ic z);omega)])) Z
  | @view J q n1 hf an aj hh=>
   obtain rfl:=mS hrest;obtain⟨v,hv⟩:=hrk J (fi (by decide) _ _ rfl);have el:iE S J n1=if n1 < v then("done":Str) else "inch":=by
    unfold iE;rw[hv]
   have kL:∀ z,iE S J n1=z→jC S "view" (.str J :: .int n1 :: [.str q]) z S:=by
    rintro z rfl;exact .view
   subst hT;refine⟨_,rfl,W,_,rfl,wl.get (fF _ _),_,rfl,t,_,0,_,rfl,rfl,aH ht,rfl,rfl,_,rfl,nW (by decide) ?_⟩
   iterate 2 refine⟨_,rfl,t,_,0,_,rfl,rfl,aH ht,rfl,rfl,_,rfl,nW (by decide) ?_⟩
   refine dS ?_;refine⟨_,rfl,t,_,0,_,rfl,rfl,aH ht,rfl,rfl,_,rfl,nW (by decide) ?_⟩;refine dS ?_;refine⟨_,rfl,t,_,0,_,rfl,rfl,aH ht,rfl,rfl,_,rfl,nW (by decide) ?_⟩;refine dS ?_;refine⟨_,rfl,t,_,0,_,rfl,rfl,aH ht,rfl,rfl,_,rfl,nW (by decide) ?_⟩;refine dS ?_;refine⟨_,rfl,t,_,0,_,rfl,rfl,aH ht,rfl,zZ2,fun u Y=>?_⟩;have Z:=(aK (o:=.tup [V.str "breach",.str "view"]) Y)
   refine⟨u,_,rfl,.inr (aH aA),rfl,rfl,_,rfl,cR (fun _=>?_) fun g=>absurd (by decide) g⟩;have aa:=wl.same Z;refine⟨_,rfl,t,_,4,_,rfl,rfl,aH (Z _ _ ht),rfl,_,rfl,W,_,rfl,aa.get (zY _ _),_,rfl,t,_,3,_,rfl,rfl,aH (Z _ _ ht),rfl,B.ic,_,rfl,.inl ⟨S.inc,Ac J,.inl aa.ic,rfl,hv.symm⟩,_,_,rfl,rfl,_,rfl,cR (fun g=>?_) fun g=>?_⟩
   ·exact k _ _ _ (kL _ (by rw[el,Ia (by have:=Ie g;omega)])) Z
   ·exact k _ _ _ (kL _ (by rw[el,Ib (by have:¬ v≤n1:=fun z=>g (Ic z);omega)])) Z
theorem aBj:∀{a b:P3},pD a=pD b→a=b
 | (a1,a2,a3),(b1,b2,b3),h=>by
  unfold pD at h;injection h with h;injection h with h1 h;injection h with h2 h;injection h with h3 h;injection h1 with h1;injection h2 with h2;injection h3 with h3;dsimp only at h1 h2 h3;rw[h1,h2,h3]
theorem nE{α β:Type}{f:α→β}(q:∀{a b:α},f a=f b→a=b):∀{l m:List α},l.map f=m.map f→l=m
 | [],[],_=>rfl
 | [],_ :: _,h=>by simp at h
 | _ :: _,[],h=>by simp at h
 | a :: l,b :: m,h=>by
  rw[Av,Av]at h;injection h with h1 h2;rw[q h1,nE q h2]
theorem jC.fn{S:Ex}{word:Str}{ds:List Bb}{z M:Str}{O J:Ex}(h:jC S word ds z O)(h':jC S word ds M J):z=M∧O=J:=by
 generalize hw:word=w0 at h';generalize hd:ds=d0 at h';cases h with
 | @part F R=>
  cases h' with
  | @part q Y=>
   injection hd with h1 h2;injection h2 with h2 _;injection h1 with h1;injection h2 with h2;subst h1;have:=nE aBj h2;subst this;exact⟨rfl,rfl⟩
  | _=>exact absurd hw (by decide)
 | @join F R=>
  cases h' with
  | @join q Y=>
   injection hd with h1 h2;injection h2 with h2 _;injection h1 with h1;injection h2 with h2;subst h2;have:=nE (fun{a b} (e:BK a=BK b)=>by injection e) h1;subst this;exact⟨rfl,rfl⟩
  | _=>exact absurd hw (by decide)
 | forfeit=>
  cases h' with
  | forfeit=>cases hd;exact⟨rfl,rfl⟩
  | _=>exact absurd hw (by decide)
 | measure=>
  cases h' with
  | measure=>cases hd;exact⟨rfl,rfl⟩
  | _=>exact absurd hw (by decide)
 | mend=>
  cases h' with
  | mend=>cases hd;exact⟨rfl,rfl⟩
  | _=>exact absurd hw (by decide)
 | alone=>
  cases h' with
  | alone=>cases hd;exact⟨rfl,rfl⟩
  | _=>exact absurd hw (by decide)
 | breach=>
  cases h' with
  | breach=>cases hd;exact⟨rfl,rfl⟩
  | _=>exact absurd hw (by decide)
 | view=>
  cases h' with
  | view=>cases hd;exact⟨rfl,rfl⟩
  | _=>exact absurd hw (by decide)
def rkD:List (Key×V):=[(Ac "measure",.int 0),(Ac "mend",.int 2),(Ac "alone",.int 2),(Ac "breach",.int 3),(Ac "view",.int 3)]
def rk(w:Str):Int:=if w="measure" then 0 else if w="mend"∨w="alone" then 2 else if w="breach"∨w="view" then 3 else 1
theorem aHL:∀ w∈f7,(bS rkD (Ac w)).getD (.int 1)=.int (rk w):=by decide
inductive z6(vs:List V)(H:Hp)(Q:VK)(u3_:XK):Prop
 | mk (word:Str) (q0:vs=[.str word]) (q1:word∈f7) (q2:∀ H',b9 H H'→Q (.int (rk word)) H'):z6 vs H Q u3_
def aEV:Sp:=fun vs H Q u3_=>z6 vs H Q u3_
theorem aHM:bY ["_law_word_here"] ["_law_word_here"] (aO aEp):=⟨rfl,rfl,rfl,by decide,rfl,by decide,by decide⟩
theorem aF8{f:Ae}{fd:A3}(F:Fun K "_law_rank" "_law_rank" aEp f fd):cP P w K mg base CX0 1 f fd ["_law_word_here"] aEV:=by
 refine F.ok aHM (fun vs H Q E h=>?_) (fun J A outer s H vs Q E M h=>?_)
 ·obtain⟨word,rfl,_⟩:=h;rfl
 ·obtain⟨word,rfl,hw,k⟩:=h;have hu:=d7 M;refine⟨_,aM (bF (aDJ hu (wR (eG aN aD (eG aN aD (eG aN aD (eG aN aD (eG aN aD wQ))))) rfl rfl (by simp) (by decide)) (pv 0) aD ⟨rfl,rfl,rfl,rfl⟩)),fun d hd=>?_⟩;refine⟨aA,rkD,rfl,(by show 5≤15;decide),?_⟩;rw[show cZ [] rkD=rkD by first | rfl | decide];have z:b9 H (upd (upd H d (.dK [])) d (.dK rkD)):=fun b o e=>by rw[aFk,aG (aJ e hd)];exact e
  have q:upd (upd H d (.dK [])) d (.dK rkD) d=some (.dK rkD):=aA;generalize upd (upd H d (.dK [])) d (.dK rkD)=H2 at z q ⊢;refine⟨d,rfl,.inl ⟨rkD,.inl q⟩,_,rfl,_,.inl ⟨rkD,Ac word,.inl q,rfl,rfl⟩,?_⟩;rw[aHL word hw];exact k H2 z
theorem fV{ps:List Str}{r:Int}(q:0≤r)(h1:r < ((ps.map V.str).length:Nat)):∃ z,z∈ps∧atI (ps.map V.str) r=some (.str z):=by
 obtain⟨j,rfl⟩:∃ j:Nat,r=j:=⟨r.toNat,by omega⟩
 rw[Aa]at h1;obtain⟨z,hz⟩:∃ z,ps[j]?=some z:=⟨_,Ai (by omega)⟩
 exact⟨z,AH hz,fU (by rw[An,hz];rfl)⟩
theorem jA{K:Ah}{H H':Hp}{p c:Ae}{ns:List Int}{a:Int}(q:dD K H p c ns a)(k:bA p H H'):d6 H H':=fun b F e=>k _ _ e (aEw q e (fun _ _ z=>nomatch z))
theorem gJ{i:Int}(h:i≤1000000000):i < 2 ^ 512:=CD h (by decide)
inductive tY(K:Ah)(vs:List V)(H:Hp)(Q:VK)(u3_:XK):Prop
 | mk (p c:Ae) (ns:List Int) (a:Int) (lp:Ae) (ps:List Str) (sc m:Int) (q0:vs=[.ref p,.ref lp,.int sc,.int m]) (q1:dD K H p c ns a) (q2:a≤500000) (q3:H lp=some (.lst (ps.map V.str))) (q4:Nms ps) (q5:1≤ps.length) (q6:ps.length≤300) (q7:1≤sc) (q8:sc≤100000) (q9:m=10) (q10:∀(t:Ae) (xs:List V) (Ls:List L4) (a':Int) (H':Hp),H' t=some (.tup xs)→cD false H' xs (Ls.map lQ)→(∀ l∈Ls,LOk l∧sc ∣ l.2.2.1∧l.2.2.1≤10 * sc)→(Ls.map (·.1)).Nodup→1≤Ls.length→Ls.length≤8→a≤a'→a'≤a + 400→dD K H' p c ns a'→bA p H H'→Q (.ref t) H'):tY K vs H Q u3_
def z7(K:Ah):Sp:=fun vs H Q u3_=>tY K vs H Q u3_
theorem z9:bY ["_law_pen_here","_law_pool","_law_scale","_law_most","_law_laying_here","_law_field","_law_inches","_law_way"] ["_law_pen_here","_law_pool","_law_scale","_law_most"] (aO xB):=⟨rfl,rfl,rfl,by decide,rfl,by decide,by decide⟩
theorem aC8{f:Ae}{fd:A3}(F:Fun K "_law_laying" "_law_laying" xB f fd)(ao:mg "len"=none)(aI:mg "tuple"=none)
  (GN:Cl P w K mg base 2 "_law_names" ["_law_pen_here","_law_many"] (xE K))
  (GD:Cl P w K mg base 1 "_law_draw" ["_law_pen_here","_law_many"] (oG K))
  :cP P w K mg base CX0 3 f fd ["_law_pen_here","_law_pool","_law_scale","_law_most"] (z7 K):=by
 refine F.ok z9 (fun vs H Q E h=>?_) (fun c2 A outer s H vs Q E hr h=>?_)
 ·obtain⟨p,c,ns,a,lp,ps,sc,m,rfl,_⟩:=h;rfl
 ·obtain⟨p,c,ns,a,lp,ps,sc,m,rfl,hp,ha,hlp,hps,hp1x,hp3x,s1,s2,hm,k⟩:=h;have Y:dG 1 _:=hr.mono (by decide);have nd:=z9.nd;refine⟨_,(aB (aX (i:=4) nd rfl (Ar rfl) (c6 aE))
   (aB (d8 A7 rfl (iP (cM GN hr (aF (pv 0) (aF (aQ b8 (c6 (aF aD (aF aD (aF aD (aF aD (aF aD (aF aD (aF aD (aF aD aE))))))))) (cM GD Y (aF (pv 0) (aF aD aE))) Ig) aE)))) (g:=aU 5) (aR (i:=5) nd rfl (Ar rfl))
   (aB (aX (i:=6) nd rfl (Ar rfl) (cM GD Y (aF (pv 0) (aF aD aE))))
    (aB (aX (i:=7) nd rfl (Ar rfl) (cM GD Y (aF (pv 0) (aF aD aE))))
    (aB (fP (cC (aZ oR (pv 7) aD (bG _)) (aM (aX (i:=6) nd rfl (Ar rfl) (aQ b8 (c6 (aF (bC kX (bC nY aD aD) (cM GD Y (aF (pv 0) (aF aD aE)))) (aF aD aE))) (pv 7) Ig))) bB))
    (aM (dP (j0 A8 BC BB fG (pv 4) (aF (cH (aF (pv 5) (aF (aQ b8 (pv 1) (cM GD Y (aF (pv 0) (aF (aW bK (by rfl) ao AW (aF (pv 1) aE)) aE))) Ig) (aF (bC fX (bC cX aD (cM GD Y (aF (pv 0) (aF (pv 3) aE)))) (pv 2)) (aF (pv 6) aE))))) aE))))))))
   (aM (bF (dL eO (by rfl) aI (by kernel_rfl) (aF (pv 4) aE)))))),?_⟩
  refine⟨A0 _,fun L hL=>?_⟩;have sL:=aK (o:=.lst []) hL;have ag:=hp.same sL;have kL:bA p H _:=(bA.refl p H).same sL;have eL:upd H L (.lst []) L=some (.lst []):=aA;generalize upd H L (.lst [])=H0 at sL ag kL eL ⊢;refine⟨_,rfl,zZ8,fun q hq=>?_⟩;have sq:=aK (o:=.lst [V.int 1,.int 2,.int 2,.int 3,.int 3,.int 4,.int 5,.int 8]) hq;refine⟨_,rfl,p,c,ns,a,8,rfl,ag.same sq,by omega,by decide,by decide,fun r1 a1 H1 cy ck l1 u1 au q1=>?_⟩;obtain⟨n,hn1,hn8,hat⟩:∃ n:Nat,1≤n∧n≤8∧atI [V.int 1,.int 2,.int 2,.int 3,.int 3,.int 4,.int 5,.int 8] r1=some (.int n):=by
   obtain⟨j,rfl⟩:∃ j:Nat,r1=j:=⟨r1.toNat,by omega⟩
   have hj:j < 8:=by omega
   have:∀ j:Nat,j < 8→∃ n:Nat,n < 9∧1≤n∧n≤8∧atI [V.int 1,.int 2,.int 2,.int 3,.int 3,.int 4,.int 5,.int 8] (j:Int)=some (.int n):=by decide
   obtain⟨n,_,h1,h2,h3⟩:=this j hj;exact⟨n,h1,h2,h3⟩
  refine⟨q,_,r1,_,rfl,rfl,aY (cW aA (ag.same sq) q1),hat,?_⟩;have k1:=(kL.same sq).trans q1;have aL:=cW (sq _ _ eL) (ag.same sq) q1;refine⟨p,c,ns,a1,n,rfl,au,by omega,by omega,fun l ws a2 H2 ax av aT hN l2 u2 br q2=>?_⟩;have k2:=k1.trans q2;have bP:=cW aL au q2;have c1:=hL;have bW:l≠L:=fun e=>by rw[e,aL]at ax;cases ax
  refine⟨l,rfl,⟨_,aY av⟩,?_⟩;refine lU (K:=K) (xs:=ws.map V.str) (fun i σ H'=>Ex3 fun(o5 o6 o7:Option V)=>Ex3 fun(a':Int) (qs:List Ae) (M:List L4)=>Aw6 (σ=[some (.ref p),some (.ref lp),some (.int sc),some (.int m),some (.ref L),o5,o6,o7]) (dD K H' p c ns a') (bA p H H') (a2≤a') (a'≤a2 + 5 * i) (Aw3 (H' L=some (.lst (qs.map V.ref))) (H' l=some (.lst (ws.map V.str))) (Aw3 (cD false H' (qs.map V.ref) (M.map lQ)) ((∀ l∈M,LOk l∧sc ∣ l.2.2.1∧l.2.2.1≤10 * sc)) (M.map (·.1)=ws.take i)))) ⟨_,_,_,a2,[],[],rfl,br,k2,by omega,by omega,bP,av,.nil,fun l hl=>by simp at hl,rfl⟩ (fun i σ H' _ p=>by obtain⟨_,_,_,_,_,_,_,_,_,_,_,_,e,_⟩:=p;exact aY e) ?_ ?_
  ·rintro i v σ H3 hv ⟨o5,o6,o7,a3,qs,M,rfl,O,k3,l3,u3,al,aw,af,hok,Z⟩;rw[An]at hv;obtain⟨z,hz,rfl⟩:=AG.mp hv;have bb:=hN.ok z (AH hz);have dc:i < n:=by rw[← aT];exact(At.mp hz).1
   have bp:M.length=i:=by
    have:=congrArg Ca Z;rw[Aa,AJ]at this;omega
   dsimp only[aU];refine⟨_,rfl,p,c,ns,a3,40,rfl,O,by omega,by decide,by decide,fun r4 a4 H4 cv c9 l4 u4 ah q4=>?_⟩;dsimp only[aU];refine⟨_,rfl,p,c,ns,a4,8,rfl,ah,by omega,by decide,by decide,fun r5 a5 H5 cw cL l5 u5 aa q5=>?_⟩;have k5:=(k3.trans q4).trans q5;have bM:=cW (cW al O q4) ah q5;have bz:=cW (cW aw O q4) ah q5;have bN:cD false H5 (qs.map V.ref) (M.map lQ):=cD.onT (fun b us e=>jA ah q5 _ _ (jA O q4 _ _ e)) af (fQ M);refine⟨fun σ' H'=>∃(x a':Int),σ'=[some (.ref p),some (.ref lp),some (.int sc),some (.int m),some (.ref L),some (.str z),some (.int x),some (.int r5)]∧dD K H' p c ns a'∧bA p H5 H'∧a5≤a'∧a'≤a5 + 1∧0≤x∧x≤10000000,?_,?_⟩
   ·refine⟨_,rfl,_,_,rfl,rfl,_,rfl,cR (fun g=>?_) fun g=>?_⟩
    ·have g':r5 < 2:=Ie g;refine⟨_,_,rfl,rfl,⟨by decide,by decide,by decide⟩,_,rfl,p,c,ns,a5,3,rfl,aa,by omega,by decide,by decide,fun r6 a6 H6 cj de l6 u6 J q6=>?_⟩;refine⟨_,_,rfl,rfl,zZ2,fun q hq=>?_⟩;have ai:=aK (o:=.lst [V.int (10 ^ (7:Int).toNat - r6),.int 0]) hq;have e7:(10:Int) ^ (7:Int).toNat=10000000:=by decide
     have bi:r5=0∨r5=1:=by omega
     rcases bi with rfl | rfl
     ·exact⟨_,rfl,q,_,0,_,rfl,rfl,aY aA,rfl,_,a6,rfl,J.same ai,q6.same ai,by omega,by omega,by rw[e7];omega,by rw[e7];omega⟩
     ·exact⟨_,rfl,q,_,1,_,rfl,rfl,aY aA,rfl,_,a6,rfl,J.same ai,q6.same ai,by omega,by omega,by omega,by omega⟩
    ·exact⟨r4,a5,rfl,aa,bA.refl _ _,by omega,by omega,by omega,by omega⟩
   ·rintro σ' H6 ⟨x,a6,rfl,J,q6,l6,u6,bo,bI⟩;have k6:=k5.trans q6;have ba:=cW bM aa q6;have bD:=cW bz aa q6;have ak:H6 lp=some (.lst (ps.map V.str)):=cW hlp hp k6;refine⟨_,rfl,.inl ⟨rfl,_,aY ba⟩,_,rfl,_,rfl,_,rfl,_,rfl,lp,_,rfl,.inl (aY ak),p,c,ns,a6,_,rfl,J,by omega,by rw[Aa];omega,gJ (by rw[Aa];omega),fun r7 a7 H7 bj bw l7 u7 ae q7=>?_⟩;obtain⟨hz7,hh7,hat7⟩:=fV bj bw;refine⟨lp,_,_,_,rfl,rfl,aY (cW ak J q7),hat7,_,rfl,_,rfl,p,c,ns,a7,_,rfl,ae,by omega,by omega,gJ (by omega),fun r8 a8 H8 cx db l8 u8 bq q8=>?_⟩;refine⟨_,_,rfl,rfl,_,rfl,_,_,rfl,rfl,.inr ⟨by omega,by omega⟩,_,rfl,zZ4,fun t ht=>?_⟩;have st:=aK (o:=.tup [V.str z,.str hz7,.int ((1 + r8) * sc),.int x]) ht;have k8:=((k6.trans q7).trans q8).same st;have bc:=bq.same st;have ad:=st _ _ (cW (cW ba J q7) ae q8);have aC:=st _ _ (cW (cW bD J q7) ae q8);refine⟨L,_,_,rfl,rfl,ad,by rw[Aa];exact cV (by have:=af.len;rw[Aa,Aa]at this;omega),?_⟩;have cc:1 * sc≤(1 + r8) * sc∧(1 + r8) * sc≤10 * sc:=⟨CV (by omega) (by omega),CV (by omega) (by omega)⟩
    have ap:LOk (z,hz7,(1 + r8) * sc,x):=⟨bb,hps.ok _ hh7,by dsimp only;omega,by dsimp only;omega,bo,bI⟩
    have ay:RdV false (upd H8 t (.tup [V.str z,.str hz7,.int ((1 + r8) * sc),.int x])) (.ref t) (lQ (z,hz7,(1 + r8) * sc,x)):=.tup aA (by show 4≤_;decide) (.cons (gC bb) (.cons (gC (hps.ok _ hh7)) (.cons (.int _) (.cons (.int _) .nil))));have aq:cD false (upd H8 t (.tup [V.str z,.str hz7,.int ((1 + r8) * sc),.int x])) (qs.map V.ref) (M.map lQ):=cD.onT (fun b us e=>st _ _ (jA ae q8 _ _ (jA J q7 _ _ (jA aa q6 _ _ e)))) bN (fQ M);generalize upd H8 t _=H9 at k8 bc ad aC ay aq ⊢;obtain⟨hpA,kA⟩:=dD.app (ys:=qs.map V.ref ++ [V.ref t]) hp bc k8 hL ad;have tA:d6 H9 (upd H9 L (.lst (qs.map V.ref ++ [V.ref t]))):=fun b us e=>by rw[aG (bU e ad (fun z=>nomatch z))];exact e
    refine⟨_,_,_,a8,qs ++ [t],M ++ [(z,hz7,(1 + r8) * sc,x)],rfl,hpA,kA,by omega,by omega,by rw[aA,Az];rfl,by rw[aG bW];exact aC,?_,fun y hy=>?_,?_⟩
    ·rw[Az,Az];exact cD.app (cD.onT tA aq (fQ M)) (.cons (RdV.onT tA ay rfl) .nil)
    ·rcases AS.mp hy with hy | hy
     ·exact hok y hy
     ·rw[AF.mp hy];exact⟨ap,Int.dvd_mul_left _ _,by dsimp only;omega⟩
    ·rw[Az,Z,AE,hz];rfl
  ·rintro σ H3 ⟨o5,o6,o7,a3,qs,M,rfl,O,k3,l3,u3,al,aw,af,hok,Z⟩;rw[Aa,AM]at Z;have bp:M.length=n:=by rw[← aT,← Z,Aa]
   rw[Aa]at u3;refine⟨_,rfl,L,_,rfl,.inl ⟨aY al,fun t ht=>?_⟩⟩;have st:=aK (o:=.tup (qs.map V.ref)) ht;exact k t _ M a3 _ aA (cD.onT (bV st) af (fQ M)) hok (by rw[Z];exact hN.nd) (by omega) (by omega) (by omega) (by omega) (O.same st) (k3.same st)
def gX(sc:Int)(l:L4):List UK:=(AV (l.2.2.1 / sc).toNat).map fun u=>(l.1,u)
def mT(sc:Int)(Ls:List L4):List UK:=Ls.flatMap (gX sc)
def xL(k:UK):Str:=k.1
theorem lJ:∀(Ls:List L4) (S:Ex),(Ls.foldl i8 S).hs=cZ S.hs (Ls.map fun l=>(Ac l.1,V.str l.2.1))
 | [],_=>rfl
 | l :: Ls,S=>lJ Ls (i8 S l)
theorem iG:∀(Ls:List L4) (S:Ex),(Ls.foldl i8 S).inc=cZ S.inc (Ls.map fun l=>(Ac l.1,V.int l.2.2.2))
 | [],_=>rfl
 | l :: Ls,S=>iG Ls (i8 S l)
theorem aAa:∀(Ls:List L4) (S:Ex) (z:Str),z ∉ Ls.map (·.1)→(Ls.foldl i8 S).ac z=S.ac z
 | [],_,_,_=>rfl
 | l :: Ls,S,z,h=>by
  rw[Av,Ak,not_or]at h;rw[BG,aAa Ls (i8 S l) z h.2];show rB S.ac l.1 l.2.2.1 z=_;unfold rB;rw[Ia h.1]
theorem aB7:∀(Ls:List L4) (S:Ex),(Ls.map (·.1)).Nodup→∀ l∈Ls,(Ls.foldl i8 S).ac l.1=l.2.2.1
 | [],_,_,_,h=>by simp at h
 | a :: Ls,S,hn,l,h=>by
  rw[Av,AZ]at hn;rw[BG];rcases Ak.mp h with rfl | h
  ·rw[aAa Ls _ _ hn.1];show rB S.ac l.1 l.2.2.1 l.1=_;unfold rB;rw[Ib rfl]
  ·exact aB7 Ls _ hn.2 l h
theorem iT{α:Type}(f:α→Str)(g:α→V)(k:Key)(v:V):∀(Ls:List α) (d:List (Key×V)),bS (cZ d (Ls.map fun l=>(Ac (f l),g l))) k=some v→bS d k=some v∨∃ l∈Ls,k=Ac (f l)∧v=g l
 | [],d,h=>.inl h
 | l :: Ls,d,h=>by
  rcases iT f g k v Ls (bT d (Ac (f l)) (g l)) h with h | ⟨q,h1,h2⟩
  ·rw[eB]at h;by_cases e:k=Ac (f l)
   ·rw[Ib e]at h;cases h;exact .inr ⟨l,by simp,e,rfl⟩
   ·rw[Ia e]at h;exact .inl h
  ·exact .inr ⟨q,by simp[h1],h2⟩
theorem mU{α:Type}(f:α→Str)(g:α→V)(k:Key):∀(Ls:List α) (d:List (Key×V)),((bS d k).isSome=true∨∃ l∈Ls,k=Ac (f l))→(bS (cZ d (Ls.map fun l=>(Ac (f l),g l))) k).isSome=true
 | [],d,h=>h.elim id fun⟨l,h,_⟩=>by simp at h
 | l :: Ls,d,h=>by
  refine mU f g k Ls (bT d (Ac (f l)) (g l)) ?_;rw[eB];by_cases e:k=Ac (f l)
  ·rw[Ib e];exact .inl rfl
  ·rw[Ia e];rcases h with h | ⟨q,h1,h2⟩
   ·exact .inl h
   ·rcases Ak.mp h1 with rfl | h1
    ·exact absurd h2 e
    ·exact .inr ⟨q,h1,h2⟩
theorem aAb:∀(iz d:List (Key×V)),(d.map (·.1)).Nodup→((cZ d iz).map (·.1)).Nodup
 | [],d,h=>h
 | kv :: iz,d,h=>aAb iz (bT d kv.1 kv.2) (lH _ h)
theorem st0{Ls:List L4}{z:Str}:aS (ex0 Ls) z=true↔z∈Ls.map (·.1):=by
 unfold aS ex0;rw[lJ];constructor
 ·intro h;obtain⟨v,hv⟩:=A2.mp h;rcases iT _ _ _ _ _ _ hv with h | ⟨l,h1,h2,_⟩
  ·cases h
  ·injection h2 with h2;rw[h2];exact Ba h1
 ·intro h;obtain⟨l,h1,rfl⟩:=AR.mp h;exact mU _ _ _ _ _ (.inr ⟨l,h1,rfl⟩)
theorem xM{sc:Int}:∀{Ls:List L4}{k:UK},k∈mT sc Ls→k.1∈Ls.map (·.1):=by
 intro Ls k h;unfold mT at h;obtain⟨l,h1,h2⟩:=List.mem_flatMap.mp h;unfold gX at h2;obtain⟨u,_,rfl⟩:=AR.mp h2;exact Ba h1
theorem aEW{sc:Int}:∀{Ls:List L4},(Ls.map (·.1)).Nodup→∀ l∈Ls,((mT sc Ls).filter fun k=>decide (xL k=l.1)).length=(l.2.2.1 / sc).toNat
 | [],_,_,h=>by simp at h
 | a :: Ls,hn,l,h=>by
  rw[Av,AZ]at hn;show((gX sc a ++ mT sc Ls).filter _).length=_;rw[Cy,AD];rcases Ak.mp h with rfl | h
  ·rw[List.filter_eq_self.mpr,EX.mpr]
   ·unfold gX;simp
   ·intro k q z;exact hn.1 (by rw[← Ie z];exact xM q)
   ·intro k q;unfold gX at q;obtain⟨u,_,rfl⟩:=AR.mp q;exact Ic rfl
  ·rw[EX.mpr,aEW hn.2 l h]
   ·simp
   ·intro k q z;unfold gX at q;obtain⟨u,_,rfl⟩:=AR.mp q;have:a.1=l.1:=Ie z;exact hn.1 (by show a.1∈_;rw[this];exact Ba h)
theorem aGN{sc:Int}:∀{Ls:List L4},(Ls.map (·.1)).Nodup→(mT sc Ls).Nodup
 | [],_=>DF
 | a :: Ls,hn=>by
  rw[Av,AZ]at hn;show(gX sc a ++ mT sc Ls).Nodup;refine Bn.mpr ⟨?_,aGN hn.2,fun x q y z e=>?_⟩
  ·unfold gX;rw[Ek,List.pairwise_map];exact List.Pairwise.imp (fun{x y} hxy e=>hxy (congrArg Prod.snd e)) (Ek.mp List.nodup_range)
  ·subst e;unfold gX at q;obtain⟨u,_,rfl⟩:=AR.mp q;exact hn.1 (xM z)
theorem aBk{sc:Int}(h1:1≤sc):∀{Ls:List L4},(∀ l∈Ls,1≤l.2.2.1∧l.2.2.1≤10 * sc)→(mT sc Ls).length≤10 * Ls.length
 | [],_=>Am _
 | a :: Ls,h=>by
  have q:=aBk h1 (Ls:=Ls) fun l hl=>h l (by simp[hl]);have ha:=h a (by simp);have:a.2.2.1 / sc≤10:=Int.ediv_le_of_le_mul (by omega) ha.2;show(gX sc a ++ mT sc Ls).length≤_;rw[AD,AK];unfold gX;rw[Aa,C9];omega
theorem gY{α β γ:Type}{R:α→β→Prop}{S:α→γ→Prop}{f:β→γ}(h:∀ a b,R a b→S a (f b)):∀{as:List α}{bs:List β},By R as bs→By S as (bs.map f)
 | _,_,.nil=>.nil
 | _,_,.cons r t=>.cons (h _ _ r) (gY h t)
theorem aF9(sc:Int)(o ow me:Ae):cZ [] [(jP,V.int sc),(jQ,.ref o),(jR,.ref ow),(jS,.ref me)]=[(jP,V.int sc),(jQ,.ref o),(jR,.ref ow),(jS,.ref me)]:=by
 first | rfl | decide
theorem aGa(sc:Int)(o ow me ho:Ae):bT [(jP,V.int sc),(jQ,.ref o),(jR,.ref ow),(jS,.ref me)] qC (.ref ho)=[(jP,V.int sc),(jQ,.ref o),(jR,.ref ow),(jS,.ref me),(qC,.ref ho)]:=by
 first | rfl | decide
theorem aGb(sc:Int)(o ow me ho ic:Ae):bT [(jP,V.int sc),(jQ,.ref o),(jR,.ref ow),(jS,.ref me),(qC,.ref ho)] aF6 (.ref ic)=jD sc ⟨o,ow,me,ho,ic⟩:=by
 first | rfl | decide
theorem dZ{H H':Hp}{a:Ae}(s:b9 H H')(h:H' a=none):H a=none:=by
 cases q:H a with
 | none=>rfl
 | some o=>rw[s _ _ q]at h;cases h
def LP(g:L4→V)(H:Hp)(r:Ae)(l:L4):Prop:=H r=some (.tup [.str l.1,g l])
structure WB(H:Hp)(d:Ae)(B:WA)(sc:Int)(os:List UK)(hs ic:List (Key×V)):Prop where
 d:H d=some (.dK (jD sc B))
 o:∃ qs:List Ae,H B.o=some (.lst (qs.map V.ref))∧UAt H qs os
 ow:H B.ow=some (.dT (i9 os xL))
 me:H B.me=some (.dK [])
 ho:H B.ho=some (.dK hs)
 ic:H B.ic=some (.dK ic)
theorem aHN{H:Hp}{W:Ae}{B:WA}{sc:Int}(h:H W=some (.dK (jD sc B))){z:Str}{v:V}(e:bS (jD sc B) (Ac z)=some v):gI H W (.str z) (some v):=by
 have:=gI.k (k:=Ac z) h;rw[e]at this;exact this
theorem aGc{own:UK→Str}{os:List UK}{k:UK}(h:k ∉ os):bS (i9 os own) [Ac k.1,Cg (k.2:Int)]=none:=by
 induction os with
 | nil=>rfl
 | cons a r q=>
  show bS (([Ac a.1,Cg (a.2:Int)],V.str (own a)) :: i9 r own) _=_;rw[cK]
  ·exact q fun z=>h (by simp[z])
  ·intro z;injection z with z1 z2;injection z2 with z2;injection z1 with z1;injection z2 with z2;exact h (by rw[show a=k from FB z1 (Hf.inj z2)];simp)
theorem aGd{sc:Int}{Ls:List L4}{i:Nat}{l:L4}(h:Ls[i]?=some l):mT sc (Ls.take (i + 1))=mT sc (Ls.take i) ++ gX sc l:=by
 unfold mT;rw[AE,h,List.flatMap_append];show _ ++ (gX sc l ++ [])=_;rw[BN]
theorem UAt.snoc{H:Hp}{z:List Ae}{ks:List UK}{q:Ae}{k:UK}(h:H q=some (.tup [.str k.1,.int (k.2:Int)]))(u:UAt H z ks):UAt H (z ++ [q]) (ks ++ [k]):=BY (R:=fun(q:Ae) (k:UK)=>H q=some (.tup [.str k.1,.int (k.2:Int)])) h u
theorem UAt.on{H H':Hp}{z:List Ae}{ks:List UK}(u:UAt H z ks)(t:d6 H H'):UAt H' z ks:=Paired.mapP u fun q k e=>t _ _ e
inductive v7(vs:List V)(H:Hp)(Q:VK)(u3_:XK):Prop
 | mk (lay:Ae) (xs:List V) (Ls:List L4) (sc:Int) (q0:vs=[.ref lay,.int sc]) (q1:H lay=some (.tup xs)) (q2:cD false H xs (Ls.map lQ)) (q3:(∀ l∈Ls,LOk l∧sc ∣ l.2.2.1∧l.2.2.1≤10 * sc)) (q4:(Ls.map (·.1)).Nodup) (q5:1≤Ls.length) (q6:Ls.length≤8) (q7:1≤sc) (q8:sc≤100000) (q9:∀(W:Ae) (B:WA) (os:List UK) (own:UK→Str) (H':Hp),b9 H H'→(∀ x∈[W,B.o,B.ow,B.me,B.ho,B.ic],H x=none)→e9 H' W B sc os own (ex0 Ls)→Q (.ref W) H'):v7 vs H Q u3_
def aB8:Sp:=fun vs H Q u3_=>v7 vs H Q u3_
theorem aB9:bY ["_law_laying_here","_law_scale","_law_world_here","_law_field","_law_house","_law_acres","_law_inches","_law_unit"] ["_law_laying_here","_law_scale"] (aO tO):=⟨rfl,rfl,rfl,by decide,rfl,by decide,by decide⟩
theorem aEX{f:Ae}{fd:A3}(F:Fun K "_law_world" "_law_world" tO f fd)(aj:mg "dict"=none)(bN:mg "range"=none)
  :cP P w K mg base CX0 2 f fd ["_law_laying_here","_law_scale"] aB8:=by
 refine F.ok aB9 (fun vs H Q E h=>?_) (fun dr A outer s H vs Q E hr h=>?_)
 ·obtain⟨lay,xs,Ls,sc,rfl,_⟩:=h;rfl
 ·obtain⟨lay,xs,Ls,sc,rfl,hlay,rdl,hok,hnd,h1,h8,s1,s2,k⟩:=h;have hu:=d7 hr;have nd:=aB9.nd;refine⟨_,(aB (aX (i:=2) nd rfl (Ar rfl) (wR (eG aN (pv 1) (eG aN (c6 aE) (eG aN aDI (eG aN j4 wQ)))) rfl rfl (by simp) (by decide)))
   (aB (c4 hu (pv 2) aN (dL (oE rfl) (by rfl) aj (by kernel_rfl) (aF (c5 (N:=["_law_row"]) (src:=[none]) (osc:=aO tO) (oN:=["_law_laying_here","_law_scale","_law_world_here","_law_field","_law_house","_law_acres","_law_inches","_law_unit"]) ⟨by rfl,by decide,by decide,by decide,rfl,by rfl⟩ (dE (pv 0)) (fun cl s H fp gz C=>⟨aR (i:=0) (show(["_law_row"]:List Str).Nodup by decide) rfl (Ar rfl),c8,cH (aF (aQ (r:=kZ K) aV (pv 0) aD Ig) (aF (aQ (r:=kZ K) aV (pv 0) aD Ig) aE))⟩)) aE)) rfl)
   (aB (c4 hu (pv 2) aN (dL (oE rfl) (by rfl) aj (by kernel_rfl) (aF (c5 (N:=["_law_row"]) (src:=[none]) (osc:=aO tO) (oN:=["_law_laying_here","_law_scale","_law_world_here","_law_field","_law_house","_law_acres","_law_inches","_law_unit"]) ⟨by rfl,by decide,by decide,by decide,rfl,by rfl⟩ (dE (pv 0)) (fun cl s H fp gz C=>⟨aR (i:=0) (show(["_law_row"]:List Str).Nodup by decide) rfl (Ar rfl),c8,cH (aF (aQ (r:=kZ K) aV (pv 0) aD Ig) (aF (aQ (r:=kZ K) aV (pv 0) aD Ig) aE))⟩)) aE)) rfl)
   (aB (d8 A7 rfl (dE (pv 0)) (g:=qU K 4 (c7 (aU 3) (c7 (aU 4) (c7 (aU 5) (c7 (aU 6) qS))))) (fJ rfl (bH (aR (i:=3) nd rfl (Ar rfl)) (bH (aR (i:=4) nd rfl (Ar rfl)) (bH (aR (i:=5) nd rfl (Ar rfl)) (bH (aR (i:=6) nd rfl (Ar rfl)) dU)))))
   (aM (d8 A7 rfl (eJ rfl bN (aF (bC mY (pv 5) (pv 1)) aE)) (g:=aU 7) (aR (i:=7) nd rfl (Ar rfl))
    (aB (dP (j0 A8 BC BB fG (bJ hu (pv 2) aN Ig) (aF (cH (aF (pv 3) (aF (pv 7) aE))) aE)))
     (aM (c4 hu (bJ hu (pv 2) aN Ig) (cH (aF (pv 3) (aF (pv 7) aE))) (pv 3) rfl))))))
   (aM (bF (pv 2))))))),?_⟩
  have ao:=rdl.len;rw[Aa]at ao;have z8:xs.length≤sizeLine:=aP (by omega);refine fun d hd=>⟨_,rfl,A0 _,fun o ho=>fun ow O=>fun me ae=>?_⟩
  have az:=aK (o:=.dK []) hd;have aI:=az.trans (aK (o:=.lst []) ho);have ay:=aI.trans (aK (o:=.dT []) O);have aC:=ay.trans (aK (o:=.dK []) ae);have fo:H o=none:=dZ az ho;have dk:H ow=none:=dZ aI O;have dl:H me=none:=dZ ay ae;have dm:d≠me:=aJ (H:=upd (upd (upd H d (.dK [])) o (.lst [])) ow (.dT [])) (by rw[aG (aJ (H:=upd (upd H d (.dK [])) o (.lst [])) (by rw[aG (aJ (aA) ho)];exact aA) O),aG (aJ aA ho)];exact aA) ae;have ed:upd (upd (upd (upd H d (.dK [])) o (.lst [])) ow (.dT [])) me (.dK []) d=some (.dK []):=by
   rw[aG dm,aG (aJ (H:=upd (upd H d (.dK [])) o (.lst [])) (by rw[aG (aJ (aA) ho)];exact aA) O),aG (aJ aA ho)];exact aA
  have aT:upd (upd (upd (upd H d (.dK [])) o (.lst [])) ow (.dT [])) me (.dK []) me=some (.dK []):=aA;have am:upd (upd (upd (upd H d (.dK [])) o (.lst [])) ow (.dT [])) me (.dK []) ow=some (.dT []):=by
   rw[aG (aJ aA ae)];exact aA
  have eo:upd (upd (upd (upd H d (.dK [])) o (.lst [])) ow (.dT [])) me (.dK []) o=some (.lst []):=by
   rw[aG (aJ (H:=upd (upd (upd H d (.dK [])) o (.lst [])) ow (.dT [])) (by rw[aG (aJ aA O)];exact aA) ae),aG (aJ aA O)];exact aA
  generalize upd (upd (upd (upd H d (.dK [])) o (.lst [])) ow (.dT [])) me (.dK [])=G at aC ed aT am eo ⊢;clear az aI ay ho O ae;refine⟨ed,[(jP,V.int sc),(jQ,.ref o),(jR,.ref ow),(jS,.ref me)],rfl,(by show 4≤15;decide),?_⟩;rw[aF9];have S1:b9 H (upd G d (.dK [(jP,V.int sc),(jQ,.ref o),(jR,.ref ow),(jS,.ref me)])):=fun b u e=>by
   rw[aG (aJ e hd)];exact aC _ _ e
  have ag:upd G d (.dK [(jP,V.int sc),(jQ,.ref o),(jR,.ref ow),(jS,.ref me)]) d=some (.dK [(jP,V.int sc),(jQ,.ref o),(jR,.ref ow),(jS,.ref me)]):=aA;have ad:upd G d (.dK [(jP,V.int sc),(jQ,.ref o),(jR,.ref ow),(jS,.ref me)]) me=some (.dK []):=by rw[aG (BX dm)];exact aT
  have ab:upd G d (.dK [(jP,V.int sc),(jQ,.ref o),(jR,.ref ow),(jS,.ref me)]) ow=some (.dT []):=by rw[aG (bU am ed (fun z=>nomatch z))];exact am
  have ar:upd G d (.dK [(jP,V.int sc),(jQ,.ref o),(jR,.ref ow),(jS,.ref me)]) o=some (.lst []):=by rw[aG (bU eo ed (fun z=>nomatch z))];exact eo
  generalize upd G d _=G1 at S1 ag ad ab ar ⊢;clear aC ed aT am eo;refine⟨_,rfl,lay,rfl,⟨_,aH (S1 _ _ hlay)⟩,?_⟩;refine dN (K:=K) (xs:=xs) (fun i ys σ' H'=>∃(o1:Option V) (rs:List Ae),Aw3 (σ'=[o1]) (b9 G1 H') (ys=rs.map V.ref∧By (LP (fun l=>V.str l.2.1) H') rs (Ls.take i))) ⟨none,[],rfl,b9.refl _,rfl,.nil⟩
   z8 (fun i ys σ H' p=>by
    obtain⟨_,rs,_,_,rfl,pr⟩:=p;have:=pr.length;rw[AJ]at this;rw[Aa];omega) (fun i ys σ H' p=>by obtain⟨_,_,_,S,_⟩:=p;exact aH (S _ _ (S1 _ _ hlay))) ?_ ?_
  ·rintro i v ys σ' H' hv ⟨o1,rs,rfl,S',rfl,pr⟩;obtain⟨dd,hdd,rd'⟩:=rdl.at hv;rw[An]at hdd;obtain⟨l,hl,rfl⟩:=AG.mp hdd;obtain⟨f1,g1,a1,i1⟩:=l;obtain⟨q,rfl,hq0⟩:=iF rd';have hq:=S' _ _ (S1 _ _ hq0);dsimp only[aU];refine eZ ?_;refine⟨_,rfl,q,_,0,_,rfl,rfl,aH hq,rfl,_,rfl,q,_,1,_,rfl,rfl,aH hq,rfl,zZ2,fun u bq=>?_⟩;have su:=aK (o:=.tup [V.str f1,V.str g1]) bq;refine⟨_,rs ++ [u],rfl,S'.trans su,by rw[Az];rfl,?_⟩;rw[AE,hl];exact BY (R:=LP (fun l=>V.str l.2.1) _) aA (Paired.mapP pr fun r l e=>su _ _ e)
  rintro ys σ' H' ⟨o1,rs,rfl,S',rfl,pr⟩ D hD;rw[ao,AM]at pr;have sD:=aK (o:=.lst (rs.map V.ref)) hD;refine⟨D,rs,Ls.map fun l=>(Ac l.1,V.str l.2.1),rfl,aA,gY (f:=fun l=>(Ac l.1,V.str l.2.1)) (fun r l e=>sD _ _ e) pr,fun h hh=>?_⟩;have S2:=(S'.trans sD).trans (aK (o:=.dK (cZ [] (Ls.map fun l=>(Ac l.1,V.str l.2.1)))) hh);have eh:upd (upd H' D (.lst (rs.map V.ref))) h (.dK (cZ [] (Ls.map fun l=>(Ac l.1,V.str l.2.1)))) h=some (.dK (cZ [] (Ls.map fun l=>(Ac l.1,V.str l.2.1)))):=aA;have fh:G1 h=none:=dZ (S'.trans sD) hh;generalize upd (upd H' D (.lst (rs.map V.ref))) h _=Gh at S2 eh ⊢;refine⟨_,rfl,d,_,rfl,gE.k (k:=qC) (S2 _ _ ag) (cV (by show 4≤1000;decide)),?_⟩;rw[aGa];have dg:H h=none:=dZ S1 fh;have bf:h≠d:=(aJ ag fh).symm;have S3:b9 H (upd Gh d (.dK [(jP,V.int sc),(jQ,.ref o),(jR,.ref ow),(jS,.ref me),(qC,.ref h)])):=fun b u e=>by
   rw[aG (aJ e hd)];exact S2 _ _ (S1 _ _ e)
  have af:upd Gh d (.dK [(jP,V.int sc),(jQ,.ref o),(jR,.ref ow),(jS,.ref me),(qC,.ref h)]) d=some (.dK [(jP,V.int sc),(jQ,.ref o),(jR,.ref ow),(jS,.ref me),(qC,.ref h)]):=aA;have aa:upd Gh d (.dK [(jP,V.int sc),(jQ,.ref o),(jR,.ref ow),(jS,.ref me),(qC,.ref h)]) me=some (.dK []):=by rw[aG (BX dm)];exact S2 _ _ ad
  have Z:upd Gh d (.dK [(jP,V.int sc),(jQ,.ref o),(jR,.ref ow),(jS,.ref me),(qC,.ref h)]) ow=some (.dT []):=by rw[aG (bU ab ag (fun z=>nomatch z))];exact S2 _ _ ab
  have an:upd Gh d (.dK [(jP,V.int sc),(jQ,.ref o),(jR,.ref ow),(jS,.ref me),(qC,.ref h)]) o=some (.lst []):=by rw[aG (bU ar ag (fun z=>nomatch z))];exact S2 _ _ ar
  have aq:upd Gh d (.dK [(jP,V.int sc),(jQ,.ref o),(jR,.ref ow),(jS,.ref me),(qC,.ref h)]) h=some (.dK (cZ [] (Ls.map fun l=>(Ac l.1,V.str l.2.1)))):=by rw[aG bf];exact eh
  have bu:me≠h:=aJ ad fh;generalize upd Gh d _=G3 at S3 af aa Z an aq ⊢;clear S2 eh S1 ag ad ab ar fh S' sD;refine⟨_,rfl,lay,rfl,⟨_,aH (S3 _ _ hlay)⟩,?_⟩;refine dN (K:=K) (xs:=xs) (fun i ys σ' H'=>∃(o1:Option V) (rs:List Ae),Aw3 (σ'=[o1]) (b9 G3 H') (ys=rs.map V.ref∧By (LP (fun l=>V.int l.2.2.2) H') rs (Ls.take i))) ⟨none,[],rfl,b9.refl _,rfl,.nil⟩
   z8 (fun i ys σ H' p=>by
    obtain⟨_,rs,_,_,rfl,pr⟩:=p;have:=pr.length;rw[AJ]at this;rw[Aa];omega) (fun i ys σ H' p=>by obtain⟨_,_,_,S,_⟩:=p;exact aH (S _ _ (S3 _ _ hlay))) ?_ ?_
  ·rintro i v ys σ' H' hv ⟨o1,rs,rfl,S',rfl,pr⟩;obtain⟨dd,hdd,rd'⟩:=rdl.at hv;rw[An]at hdd;obtain⟨l,hl,rfl⟩:=AG.mp hdd;obtain⟨f1,g1,a1,i1⟩:=l;obtain⟨q,rfl,hq0⟩:=iF rd';have hq:=S' _ _ (S3 _ _ hq0);dsimp only[aU];refine eZ ?_;refine⟨_,rfl,q,_,0,_,rfl,rfl,aH hq,rfl,_,rfl,q,_,3,_,rfl,rfl,aH hq,rfl,zZ2,fun u bq=>?_⟩;have su:=aK (o:=.tup [V.str f1,V.int i1]) bq;refine⟨_,rs ++ [u],rfl,S'.trans su,by rw[Az];rfl,?_⟩;rw[AE,hl];exact BY (R:=LP (fun l=>V.int l.2.2.2) _) aA (Paired.mapP pr fun r l e=>su _ _ e)
  rintro ys σ' H' ⟨o1,rs,rfl,S',rfl,pr⟩ D hD;rw[ao,AM]at pr;have sD:=aK (o:=.lst (rs.map V.ref)) hD;refine⟨D,rs,Ls.map fun l=>(Ac l.1,V.int l.2.2.2),rfl,aA,gY (f:=fun l=>(Ac l.1,V.int l.2.2.2)) (fun r l e=>sD _ _ e) pr,fun j hj=>?_⟩;have S4:=(S'.trans sD).trans (aK (o:=.dK (cZ [] (Ls.map fun l=>(Ac l.1,V.int l.2.2.2)))) hj);have ej:upd (upd H' D (.lst (rs.map V.ref))) j (.dK (cZ [] (Ls.map fun l=>(Ac l.1,V.int l.2.2.2)))) j=some (.dK (cZ [] (Ls.map fun l=>(Ac l.1,V.int l.2.2.2)))):=aA;have fj:G3 j=none:=dZ (S'.trans sD) hj;generalize upd (upd H' D (.lst (rs.map V.ref))) j _=Gj at S4 ej ⊢;refine⟨_,rfl,d,_,rfl,gE.k (k:=aF6) (S4 _ _ af) (cV (by show 5≤1000;decide)),?_⟩;rw[aGb];have dn:H j=none:=dZ S3 fj;have bz:j≠d:=(aJ af fj).symm;have ck:me≠j:=aJ aa fj;have cx:h≠j:=aJ aq fj;obtain⟨B,hB⟩:∃ B:WA,B=⟨o,ow,me,h,j⟩:=⟨_,rfl⟩
  rw[← hB];have S5:b9 H (upd Gj d (.dK (jD sc B))):=fun b u e=>by
   rw[aG (aJ e hd)];exact S4 _ _ (S3 _ _ e)
  have bc:upd Gj d (.dK (jD sc B)) d=some (.dK (jD sc B)):=aA;have ai:upd Gj d (.dK (jD sc B)) B.me=some (.dK []):=by rw[hB];dsimp only;rw[aG (BX dm)];exact S4 _ _ aa
  have ak:upd Gj d (.dK (jD sc B)) B.ow=some (.dT []):=by rw[hB];dsimp only;rw[aG (bU Z af (fun z=>nomatch z))];exact S4 _ _ Z
  have bg:upd Gj d (.dK (jD sc B)) B.o=some (.lst []):=by rw[hB];dsimp only;rw[aG (bU an af (fun z=>nomatch z))];exact S4 _ _ an
  have a0:upd Gj d (.dK (jD sc B)) B.ho=some (.dK (ex0 Ls).hs):=by unfold ex0;rw[lJ,hB];dsimp only;rw[aG bf];exact S4 _ _ aq
  have bd:upd Gj d (.dK (jD sc B)) B.ic=some (.dK (ex0 Ls).inc):=by unfold ex0;rw[iG,hB];dsimp only;rw[aG bz];exact ej
  have cj:[d,B.me,B.ho,B.ic].Nodup:=by rw[hB];simp[dm,BX bf,BX bz,bu,ck,cx]
  have bp:∀ x∈[d,B.o,B.ow,B.me,B.ho,B.ic],H x=none:=by
   rw[hB];simp only[Ak,Ao,or_false];rintro x (rfl | rfl | rfl | rfl | rfl | rfl) <;> assumption
  generalize upd Gj d _=G5 at S5 bc ai ak bg a0 bd ⊢;clear S4 ej S3 af aa Z an aq fj S' sD hB;refine⟨_,rfl,lay,rfl,⟨_,aH (S5 _ _ hlay)⟩,?_⟩;have zL:∀ l∈Ls,1≤l.2.2.1∧l.2.2.1≤10 * sc:=fun l hl=>⟨(hok l hl).1.a1,(hok l hl).2.2⟩
  refine gZ (K:=K) (xs:=xs) (fun i σ H'=>Ex3 fun(o3 o4 o5:Option V)=>∃(o6 o7:Option V),Aw3 (σ=[some (.ref lay),some (.int sc),some (.ref d),o3,o4,o5,o6,o7]) (b9 H H') (WB H' d B sc (mT sc (Ls.take i)) (ex0 Ls).hs (ex0 Ls).inc)) ⟨none,none,none,none,none,rfl,S5,bc,⟨[],bg,.nil⟩,ak,ai,a0,bd⟩ (fun i σ H' _ p=>by obtain⟨_,_,_,_,_,_,S,_⟩:=p;exact aH (S _ _ hlay)) ?_ ?_
  ·rintro i v σ H1 hv ⟨o3,o4,o5,o6,o7,rfl,S6,wb⟩;clear S5 bc ai ak bg a0 bd;obtain⟨dd,hdd,rd'⟩:=rdl.at hv;rw[An]at hdd;obtain⟨l,hl,rfl⟩:=AG.mp hdd;have bx:=aGd (sc:=sc) hl;have ax:=zL l (AH hl);have bj:∀ u:Nat,(l.1,u) ∉ mT sc (Ls.take i):=fun u hm=>by
    have h1:=xM hm;rw[Ge]at h1;have hi:=(At.mp hl).1;have e1:(Ls.map (·.1))[i]?=some l.1:=by rw[An,hl];rfl
    have h2:(Gm i (Ls.map fun x=>x.1) ++ List.drop i (Ls.map fun x=>x.1)).Nodup:=by rw[BR];exact hnd
    have h3:=(Bn.mp h2).2.2 _ h1 l.1 (by
     rw[List.mem_iff_getElem?];exact⟨0,by rw[List.getElem?_drop,Nat.add_zero];exact e1⟩)
    exact h3 rfl
   have cI:(mT sc (Ls.take i)).length≤80:=by
    have:=aBk s1 (Ls:=Ls.take i) fun l hl=>zL l (B8 hl);rw[AJ]at this;omega
   generalize db:mT sc (Ls.take i)=M at wb bx bj cI;obtain⟨f1,g1,a1,i1⟩:=l;obtain⟨q,rfl,hq0⟩:=iF rd';dsimp only at hq0;have hq:=S6 _ _ hq0;dsimp only at ax bj;have c2:a1 / sc≤10:=Int.ediv_le_of_le_mul (by omega) ax.2;have df:0≤a1 / sc:=Dw (by omega) (by omega);refine⟨q,_,rfl,aH hq,rfl,_,_,rfl,_,_,rfl,_,_,rfl,_,_,rfl,rfl,_,rfl,_,rfl,_,_,rfl,rfl,⟨by omega,by omega⟩,_,rfl,by omega,by omega,?_⟩;refine mX (n:=(a1 / sc).toNat) (fun j σ H'=>∃(o7:Option V),σ=[some (.ref lay),some (.int sc),some (.ref d),some (.str f1),some (.str g1),some (.int a1),some (.int i1),o7]∧b9 H H'∧WB H' d B sc (M ++ (AV j).map fun u=>(f1,u)) (ex0 Ls).hs (ex0 Ls).inc) ⟨o7,rfl,S6,by rw[List.range_zero,CL,BN];exact wb⟩ ?_ ?_
   ·rintro j σ H2 hj ⟨o7,rfl,S7,J⟩;obtain⟨qs,p1,p2⟩:=J.o;have cc:=Bx p2;rw[AD,Aa,C9]at cc;dsimp only[aU];refine⟨_,rfl,d,_,rfl,aHN J.d (aEP _ _),.inl ⟨rfl,_,aY p1⟩,_,rfl,_,rfl,zZ2,fun t ht=>?_⟩;have st:=aK (o:=.tup [V.str f1,.int (0 + (j:Int))]) ht;refine⟨B.o,_,_,rfl,rfl,st _ _ p1,by rw[Aa];exact cV (by omega),?_⟩;have cg:t≠B.o:=(aJ p1 ht).symm;have gq:∀{G:Hp},b9 H2 G→∀{b:Ae} {o:HO},H2 b=some o→G b=some o:=fun z _ _ e=>z _ _ e;have ah:∀{b:Ae} {o:HO},H2 b=some o→(∀ xs,o≠.lst xs)→upd (upd H2 t (.tup [V.str f1,.int (0 + (j:Int))])) B.o (.lst (qs.map V.ref ++ [V.ref t])) b=some o:=fun{b o} e n=>by
     rw[aG (bU e p1 (n _))];exact st _ _ e
    have bn:=ah J.d (fun _ z=>nomatch z);have bi:=ah J.ow (fun _ z=>nomatch z);have bE:=ah J.me (fun _ z=>nomatch z);have bL:=ah J.ho (fun _ z=>nomatch z);have bI:=ah J.ic (fun _ z=>nomatch z);have bO:∀ b us,H2 b=some (.tup us)→upd (upd H2 t (.tup [V.str f1,.int (0 + (j:Int))])) B.o (.lst (qs.map V.ref ++ [V.ref t])) b=some (.tup us):=fun b us e=>ah e (fun _ z=>nomatch z);have bD:upd (upd H2 t (.tup [V.str f1,.int (0 + (j:Int))])) B.o (.lst (qs.map V.ref ++ [V.ref t])) B.o=some (.lst ((qs ++ [t]).map V.ref)):=by rw[aA,Az];rfl
    have bv:upd (upd H2 t (.tup [V.str f1,.int (0 + (j:Int))])) B.o (.lst (qs.map V.ref ++ [V.ref t])) t=some (.tup [V.str f1,.int (j:Int)]):=by rw[aG cg,aA,DO]
    have S8:b9 H (upd (upd H2 t (.tup [V.str f1,.int (0 + (j:Int))])) B.o (.lst (qs.map V.ref ++ [V.ref t]))):=fun b u e=>by
     rw[aG (aJ e (bp B.o (by simp)))];exact st _ _ (S7 _ _ e)
    generalize upd (upd H2 t (.tup [V.str f1,.int (0 + (j:Int))])) B.o _=H3 at bn bi bE bL bI bO bD bv S8 ⊢;refine⟨_,rfl,_,rfl,d,_,rfl,aHN bn (zW _ _),_,rfl,_,rfl,zZ2,fun t2 ci=>?_⟩;have be:=aK (o:=.tup [V.str f1,.int (0 + (j:Int))]) ci;have cq:upd H3 t2 (.tup [V.str f1,.int (0 + (j:Int))]) t2=some (.tup (([Ac f1,Cg (j:Int)]:List Key).map kV)):=by rw[aA,DO];rfl
    have dt:(i9 (M ++ (AV j).map fun u=>(f1,u)) xL).length=M.length + j:=by
     unfold i9;simp
    refine⟨B.ow,_,rfl,gE.t (k:=[Ac f1,Cg (j:Int)]) (be _ _ bi) cq (cV (by omega)),?_⟩;have bW:(f1,j) ∉ M ++ (AV j).map fun u=>(f1,u):=by
     rw[AS,not_or];refine⟨bj j,fun hm=>?_⟩;obtain⟨u,hu1,hu2⟩:=AR.mp hm;have:=BU.mp hu1;injection hu2 with _ hu2;omega
    rw[iY _ (aGc (own:=xL) bW)];have bP:i9 (M ++ (AV j).map fun u=>(f1,u)) xL ++ [([Ac f1,Cg (j:Int)],V.str f1)]=i9 (M ++ (AV (j + 1)).map fun u=>(f1,u)) xL:=by
     rw[Ds,Az,← AY];unfold i9;rw[Az (l₂:=List.map _ [j])];rfl
    rw[bP];have Y:∀{b:Ae} {o:HO},H3 b=some o→(∀ xs,o≠.dT xs)→upd (upd H3 t2 (.tup [V.str f1,.int (0 + (j:Int))])) B.ow (.dT (i9 (M ++ (AV (j + 1)).map fun u=>(f1,u)) xL)) b=some o:=fun{b o} e n=>by
     rw[aG (bU e bi (n _))];exact be _ _ e
    refine⟨_,rfl,fun b u e=>?_,Y bn (fun _ z=>nomatch z),⟨qs ++ [t],Y bD (fun _ z=>nomatch z),?_⟩,aA,Y bE (fun _ z=>nomatch z),Y bL (fun _ z=>nomatch z),Y bI (fun _ z=>nomatch z)⟩
    ·rw[aG (aJ e (bp B.ow (by simp)))];exact be _ _ (S8 _ _ e)
    ·have cr:M ++ (AV (j + 1)).map (fun u=>(f1,u))=(M ++ (AV j).map fun u=>(f1,u)) ++ [(f1,j)]:=by
      rw[Ds,Az,← AY];rfl
     have u9:=UAt.snoc (k:=(f1,j)) (Y bv (fun _ z=>nomatch z)) (UAt.on p2 fun q us e=>Y (bO _ _ e) (fun _ z=>nomatch z));rw[← cr]at u9;exact u9
   ·rintro σ H2 ⟨o7,rfl,S7,J⟩;refine⟨_,_,_,_,_,rfl,S7,?_⟩;rw[bx];exact J
  ·rintro σ H1 ⟨o3,o4,o5,o6,o7,rfl,S6,wb⟩;rw[ao,AM]at wb;have cu:∀ k∈mT sc Ls,aS (ex0 Ls) (xL k)=true:=fun k hk=>st0.mpr (xM hk);have dq:=aBk s1 zL;refine⟨_,rfl,k d B (mT sc Ls) xL H1 S6 bp ⟨wb.d,wb.o,wb.ow,by rw[rJ];exact wb.me,wb.ho,wb.ic,by rw[rJ];exact iR.nil,by rw[rJ];exact A0 _,aGN hnd,by omega,s1,s2,fun z hz=>?_,cj,fun kk v hv=>?_,?_,?_,cu⟩⟩
   ·obtain⟨l,hl,rfl⟩:=AR.mp (st0.mp hz);rw[aEW hnd l hl];unfold ex0;rw[aB7 _ _ hnd l hl];obtain⟨h1,h2,h3⟩:=hok l hl;rw[Ea (Dw (by have:=h1.a1;omega) (by omega))];exact Int.mul_ediv_cancel' h2
   ·unfold ex0 at hv;rw[lJ]at hv;rcases iT _ _ _ _ _ _ hv with h | ⟨l,_,h2,h3⟩
    ·cases h
    ·exact⟨_,_,h3,h2⟩
   ·unfold ex0;rw[lJ];exact aAb _ _ (by simp)
   ·unfold ex0;rw[lJ];have:=kC (Ls.map fun l=>((Ac l.1:Key),V.str l.2.1)) [];rw[Aa]at this;simp at this;exact AI this (by omega)
theorem aHO{os ks:List UK}(ho:os.Nodup)(q:ks.Nodup)(h:∀ k∈ks,k∈os):(os.filter fun k=>decide (k∈ks)).length=ks.length:=by
 have:(os.filter fun k=>decide (k∈ks)).Perm ks:=by
  rw[List.perm_ext_iff_of_nodup (ho.filter _) q];intro k;rw[Bz];constructor
  ·intro z;exact Ie z.2
  ·intro z;exact⟨h k z,Ic z⟩
 exact this.length_eq
theorem dM{α:Type}{f g:α→Bool}{l:List α}(h:∀ x∈l,f x=g x):(l.filter f).length=(l.filter g).length:=by
 rw[List.filter_congr h]
theorem aCa{own:UK→Str}{z:Str}:∀{os:List UK}{k:UK},k∈os→bT (i9 os own) [Ac k.1,Cg (k.2:Int)] (.str z)=i9 os (fun F=>if F=k then z else own F):=by
 intro os k h;unfold bT;have h1:((i9 os own).any fun J=>decide (J.1=[Ac k.1,Cg (k.2:Int)]))=true:=by
  rw[Bu];exact⟨([Ac k.1,Cg (k.2:Int)],.str (own k)),AR.mpr ⟨k,h,rfl⟩,Ic rfl⟩
 rw[Ib h1];unfold i9;rw[EV];refine Fq fun F _=>?_;show(if ([Ac F.1,Cg (F.2:Int)]:List Key)=[Ac k.1,Cg (k.2:Int)] then _ else _)=_;by_cases e:F=k
 ·rw[Ib (by rw[e])];dsimp only;rw[Ib e]
 ·rw[Ia]
  ·dsimp only;rw[Ia e]
  intro q;injection q with z1 z2;injection z2 with z2;injection z1 with z1;injection z2 with z2;exact e (FB z1 (Hf.inj z2))
structure tZ(os:List UK)(sc:Int)(rem:List UK)(own:UK→Str)(S:Ex):Prop where
 cn:∀ z,aS S z=true→sc * ((os.filter fun k=>decide (k ∉ rem) && decide (own k=z)).length:Int)=S.ac z
 so:∀ k∈os,k ∉ rem→aS S (own k)=true
def oM(S:Ex)(z h:Str)(a:Int):Ex:={ S with hs:=bT S.hs (Ac z) (.str h),ac:=rB S.ac z a }
theorem xN{S:Ex}{z h:Str}{a:Int}{y:Str}:aS (oM S z h a) y=true↔y=z∨aS S y=true:=by
 unfold aS oM;dsimp only;rw[eB];by_cases e:y=z
 ·rw[Ib (by rw[e])];exact⟨fun _=>.inl e,fun _=>rfl⟩
 ·rw[Ia (fun q=>e (by injection q))];exact⟨.inr,fun q=>q.resolve_left e⟩
theorem tZ.step{os ks J:List UK}{sc:Int}{own:UK→Str}{S:Ex}{z h:Str}{a:Int}(p:tZ os sc (ks ++ J) own S)(hn:(ks ++ J).Nodup)(hi:∀ k∈ks ++ J,k∈os)(ho:os.Nodup)(hz:aS S z=false)(ha:sc * (ks.length:Int)=a):tZ os sc J (fun k=>if k∈ks then z else own k) (oM S z h a):=by
 obtain⟨hk,hr,hd⟩:=Bn.mp hn;refine⟨fun y hy=>?_,fun k Z ab=>?_⟩
 ·by_cases e:y=z
  ·subst e;rw[show(oM S y h a).ac y=a by unfold oM rB;dsimp only;rw[Ib rfl],← ha,← aHO ho hk fun k hk=>hi k (BV _ hk)];congr 2;refine dM fun k O=>?_;by_cases F:k∈ks
   ·have:k ∉ J:=fun q=>hd k F k q rfl;rw[Ib F,Ic this,Ic rfl,Ic F];rfl
   ·rw[Ia F,decide_eq_false F];by_cases M:k∈J
    ·rw[decide_eq_false (fun q=>q M)];rfl
    ·have hs:=p.so k O (fun q=>(AS.mp q).elim F M);have:own k≠y:=fun q=>by rw[q,hz]at hs;cases hs
     rw[decide_eq_false this,DI]
  ·have Y:=(xN.mp hy).resolve_left e;rw[show(oM S z h a).ac y=S.ac y by unfold oM rB;dsimp only;rw[Ia e],← p.cn y Y];congr 2;refine dM fun k O=>?_;by_cases F:k∈ks
   ·rw[Ib F,decide_eq_false (show¬ z=y from fun q=>e q.symm),DI,decide_eq_false (show¬ k ∉ ks ++ J from fun q=>q (BV _ F))];rfl
   ·rw[Ia F];congr 1;by_cases M:k∈J
    ·rw[decide_eq_false (show¬ k ∉ J from fun q=>q M),decide_eq_false (show¬ k ∉ ks ++ J from fun q=>q (AN _ M))]
    ·rw[Ic M,Ic (show k ∉ ks ++ J from fun q=>(AS.mp q).elim F M)]
 ·by_cases F:k∈ks
  ·rw[Ib F];exact xN.mpr (.inl rfl)
  ·rw[Ia F];exact xN.mpr (.inr (p.so k Z fun q=>(AS.mp q).elim F ab))
theorem xO{S:Ex}{z y:Str}:aS { S with hs:=cA S.hs (Ac z) } y=true↔y≠z∧aS S y=true:=by
 unfold aS;dsimp only;rw[kH];by_cases e:y=z
 ·rw[Ib (by rw[e])];exact⟨fun q=>(by cases q),fun q=>absurd e q.1⟩
 ·rw[Ia (fun q=>e (by injection q))];exact⟨fun q=>⟨e,q⟩,fun q=>q.2⟩
theorem tZ.start{os:List UK}{sc:Int}{own:UK→Str}{S:Ex}{land:Str}(cn:∀ z,aS S z=true→sc * ((os.filter fun k=>decide (own k=z)).length:Int)=S.ac z)(so:∀ k∈os,aS S (own k)=true):tZ os sc (os.filter fun k=>decide (own k=land)) own { S with hs:=cA S.hs (Ac land) }:=by
 refine⟨fun z J=>?_,fun k F hn=>?_⟩
 ·obtain⟨h1,h2⟩:=xO.mp J;rw[← cn z h2];congr 2;refine dM fun k M=>?_;by_cases e:own k=z
  ·rw[Ic e,Ic,Gi];intro q;exact h1 (by rw[← e];exact Ie (Bz.mp q).2)
  ·rw[decide_eq_false e,DI]
 ·exact xO.mpr ⟨fun e=>hn (Bz.mpr ⟨F,Ic e⟩),so k F⟩
theorem tZ.fin{os:List UK}{sc:Int}{own:UK→Str}{S:Ex}(p:tZ os sc [] own S):(∀ z,aS S z=true→sc * ((os.filter fun k=>decide (own k=z)).length:Int)=S.ac z)∧∀ k∈os,aS S (own k)=true:=by
 refine⟨fun z F=>?_,fun k q=>p.so k q (by simp)⟩;rw[← p.cn z F];congr 2
theorem t4{y:Str}:∀{R:List Str}{d:List (Key×V)},(bS (R.foldl (fun d z=>cA d (Ac z)) d) (Ac y)).isSome=true↔y ∉ R∧(bS d (Ac y)).isSome=true
 | [],d=>by simp
 | z :: R,d=>by
  rw[BG,t4,kH,Ak,not_or];by_cases e:y=z
  ·rw[Ib (by rw[e])];exact⟨fun q=>(by cases q.2),fun q=>absurd e q.1.1⟩
  ·rw[Ia (fun q=>e (by injection q))];exact⟨fun q=>⟨⟨e,q.1⟩,q.2⟩,fun q=>⟨q.1.2,q.2⟩⟩
theorem pP{S:Ex}{R:List Str}{land y:Str}:aS (gW S R land) y=true↔y=land∨(y ∉ R∧aS S y=true):=by
 unfold aS gW;dsimp only;rw[eB];by_cases e:y=land
 ·rw[Ib (by rw[e])];exact⟨fun _=>.inl e,fun _=>rfl⟩
 ·rw[Ia (fun q=>e (by injection q)),t4];exact⟨.inr,fun q=>q.resolve_left e⟩
theorem aCb{os:List UK}{own:UK→Str}{sc:Int}{ac:Str→Int}:∀{R:List Str},R.Nodup→(∀ z∈R,sc * ((os.filter fun k=>decide (own k=z)).length:Int)=ac z)→sc * ((os.filter fun k=>decide (own k∈R)).length:Int)=(R.map ac).sum
 | [],_,_=>by rw[EX.mpr (by simp)];simp
 | z :: R,hn,h=>by
  obtain⟨h1,h2⟩:=AZ.mp hn;have Y:=aCb h2 fun y Z=>h y (Ap _ Z);have O:=h z Al;have e:(os.filter fun k=>decide (own k∈z :: R)).length=(os.filter fun k=>decide (own k=z)).length + (os.filter fun k=>decide (own k∈R)).length:=by
   clear Y O h
   induction os with
   | nil=>rfl
   | cons a r M=>
    simp only[BP];by_cases J:own a=z
    ·have F:own a ∉ R:=by rw[J];exact h1
     rw[Ic J,decide_eq_false F,Ic (by rw[J];exact Al)];simp only[if_true,if_false,AK,B7];omega
    ·by_cases F:own a∈R
     ·rw[decide_eq_false J,Ic F,Ic (Ap _ F)];simp only[if_true,if_false,AK,B7];omega
     ·rw[decide_eq_false J,decide_eq_false F,decide_eq_false (fun q=>(Ak.mp q).elim J F)];simp only[if_false,B7];exact M
  rw[e,F7,Int.mul_add,O,Y,Av,Cf]
theorem aEY{os:List UK}{own:UK→Str}{sc:Int}{S:Ex}{R:List Str}{land:Str}(cn:∀ z,aS S z=true→sc * ((os.filter fun k=>decide (own k=z)).length:Int)=S.ac z)(so:∀ k∈os,aS S (own k)=true)(hn:R.Nodup)(hs:∀ z∈R,aS S z=true)(hl:land∈R∨aS S land=false):
  (∀ z,aS (gW S R land) z=true→sc * ((os.filter fun k=>decide ((if own k∈R then land else own k)=z)).length:Int)=(gW S R land).ac z)∧∀ k∈os,aS (gW S R land) (if own k∈R then land else own k)=true:=by
 refine⟨fun z O=>?_,fun k F=>?_⟩
 ·by_cases e:z=land
  ·subst e;rw[show(gW S R z).ac z=(R.map S.ac).sum by unfold gW rB;dsimp only;rw[Ib rfl],← aCb hn fun y Y=>cn y (hs y Y)];congr 2;refine dM fun k M=>?_;by_cases F:own k∈R
   ·rw[Ib F,Ic rfl,Ic F]
   ·rw[Ia F,decide_eq_false F,decide_eq_false];intro q;rcases hl with hl | hl
    ·exact F (by rw[q];exact hl)
    ·have:=so k M;rw[q,hl]at this;cases this
  ·obtain⟨h1,h2⟩:=(pP.mp O).resolve_left e;rw[show(gW S R land).ac z=S.ac z by unfold gW rB;dsimp only;rw[Ia e],← cn z h2];congr 2;refine dM fun k M=>?_;by_cases F:own k∈R
   ·rw[Ib F,decide_eq_false (show¬ land=z from fun q=>e q.symm),decide_eq_false];intro q;exact h1 (by rw[← q];exact F)
   ·rw[Ia F]
 ·by_cases J:own k∈R
  ·rw[Ib J];exact pP.mpr (.inl rfl)
  ·rw[Ia J];exact pP.mpr (.inr ⟨J,so k F⟩)
structure WH(H:Hp)(W:Ae)(B:WA)(sc:Int)(os:List UK)(own:UK→Str)(hs men inc:List (Key×V)):Prop where
 d:H W=some (.dK (jD sc B))
 o:∃ qs:List Ae,H B.o=some (.lst (qs.map V.ref))∧UAt H qs os
 ow:H B.ow=some (.dT (i9 os own))
 me:H B.me=some (.dK men)
 ho:H B.ho=some (.dK hs)
 ic:H B.ic=some (.dK inc)
 ne:[W,B.me,B.ho,B.ic].Nodup
section
variable{H:Hp}{W:Ae}{B:WA}{sc:Int}{os:List UK}{own:UK→Str}{hs men inc:List (Key×V)}
theorem e9.wh{S:Ex}(h:e9 H W B sc os own S):WH H W B sc os own S.hs S.men S.inc:=⟨h.d,h.o,h.ow,h.me,h.ho,h.ic,h.ne⟩
theorem WH.same{H':Hp}(h:WH H W B sc os own hs men inc)(s:b9 H H'):WH H' W B sc os own hs men inc:=by
 obtain⟨qs,o1,o2⟩:=h.o;exact⟨s _ _ h.d,⟨qs,s _ _ o1,o2.on (bV s)⟩,s _ _ h.ow,s _ _ h.me,s _ _ h.ho,s _ _ h.ic,h.ne⟩
theorem WH.get(h:WH H W B sc os own hs men inc){z:Str}{v:V}(e:bS (jD sc B) (Ac z)=some v):gI H W (.str z) (some v):=aHN h.d e
theorem WH.setO(h:WH H W B sc os own hs men inc)(jg:UK→Str):WH (upd H B.ow (.dT (i9 os jg))) W B sc os jg hs men inc:=by
 obtain⟨qs,o1,o2⟩:=h.o;have k:∀{b:Ae} {o:HO},H b=some o→(∀ xs,o≠.dT xs)→upd H B.ow (.dT (i9 os jg)) b=some o:=fun{b o} e n=>by
  rw[aG (bU e h.ow (n _))];exact e
 exact⟨k h.d (fun _ z=>nomatch z),⟨qs,k o1 (fun _ z=>nomatch z),o2.on fun q F e=>k e (fun _ z=>nomatch z)⟩,aA,k h.me (fun _ z=>nomatch z),k h.ho (fun _ z=>nomatch z),k h.ic (fun _ z=>nomatch z),h.ne⟩
theorem WH.setD{a:Ae}{iz kvs':List (Key×V)}(h:WH H W B sc os own hs men inc)(e:H a=some (.dK iz)):upd H a (.dK kvs') B.ow=some (.dT (i9 os own))∧∃ F:List Ae,upd H a (.dK kvs') B.o=some (.lst (F.map V.ref))∧UAt (upd H a (.dK kvs')) F os:=by
 obtain⟨F,o1,o2⟩:=h.o;have k:∀{b:Ae} {o:HO},H b=some o→(∀ xs,o≠.dK xs)→upd H a (.dK kvs') b=some o:=fun{b o} e' n=>by
  rw[aG (bU e' e (n _))];exact e'
 exact⟨k h.ow (fun _ z=>nomatch z),F,k o1 (fun _ z=>nomatch z),o2.on fun q J e=>k e (fun _ z=>nomatch z)⟩
theorem WH.nes(h:WH H W B sc os own hs men inc):W≠B.me∧W≠B.ho∧W≠B.ic∧B.me≠B.ho∧B.me≠B.ic∧B.ho≠B.ic:=by
 have hn:=h.ne;simp only[AZ,Ak,Ao,or_false,not_or]at hn;exact⟨hn.1.1,hn.1.2.1,hn.1.2.2,hn.2.1.1,hn.2.1.2,hn.2.2.1⟩
theorem WH.setH(h:WH H W B sc os own hs men inc)(q:List (Key×V)):WH (upd H B.ho (.dK q)) W B sc os own q men inc:=by
 obtain⟨n1,n2,n3,n4,n5,n6⟩:=h.nes;obtain⟨k1,k2⟩:=h.setD (kvs':=q) h.ho;exact⟨by rw[aG n2];exact h.d,k2,k1,by rw[aG n4];exact h.me,aA,by rw[aG n6.symm];exact h.ic,h.ne⟩
theorem WH.setM(h:WH H W B sc os own hs men inc)(q:List (Key×V)):WH (upd H B.me (.dK q)) W B sc os own hs q inc:=by
 obtain⟨n1,n2,n3,n4,n5,n6⟩:=h.nes;obtain⟨k1,k2⟩:=h.setD (kvs':=q) h.me;exact⟨by rw[aG n1];exact h.d,k2,k1,aA,by rw[aG n4.symm];exact h.ho,by rw[aG n5.symm];exact h.ic,h.ne⟩
theorem WH.setI(h:WH H W B sc os own hs men inc)(q:List (Key×V)):WH (upd H B.ic (.dK q)) W B sc os own hs men q:=by
 obtain⟨n1,n2,n3,n4,n5,n6⟩:=h.nes;obtain⟨k1,k2⟩:=h.setD (kvs':=q) h.ic;exact⟨by rw[aG n3];exact h.d,k2,k1,by rw[aG n5];exact h.me,by rw[aG n6];exact h.ho,aA,h.ne⟩
end
theorem aCc{hs:List (Key×V)}{z y:Str}{v:V}:(bS (bT hs (Ac z) v) (Ac y)).isSome=true↔y=z∨(bS hs (Ac y)).isSome=true:=by
 rw[eB];by_cases e:y=z
 ·rw[Ib (by rw[e])];exact⟨fun _=>.inl e,fun _=>rfl⟩
 ·rw[Ia (fun q=>e (by injection q))];exact⟨.inr,fun q=>q.resolve_left e⟩
def oO(hs:List (Key×V)):Prop:=∀ k v,bS hs k=some v→∃ h z,v=.str h∧k=Ac z
theorem oO.put{hs:List (Key×V)}{z h:Str}(o:oO hs):oO (bT hs (Ac z) (.str h)):=fun k v e=>by
 rw[eB]at e;by_cases q:k=Ac z
 ·rw[Ib q]at e;cases e;exact⟨h,z,rfl,q⟩
 ·rw[Ia q]at e;exact o k v e
theorem oO.drop{hs:List (Key×V)}{z:Str}(o:oO hs):oO (cA hs (Ac z)):=fun k v e=>by
 rw[kH]at e;by_cases q:k=Ac z
 ·rw[Ib q]at e;cases e
 ·rw[Ia q]at e;exact o k v e
theorem aC9{S:Ex}{land:Str}{R:List P3}(h:dY S land R="done"):aS S land=true∧(R.map fun p=>p.2.2).sum=S.ac land∧∀ p∈R,p.1=land∨aS S p.1=false:=by
 unfold dY at h;by_cases h1:aS S land=false
 ·rw[Ib h1]at h;exact absurd h (by decide)
 rw[Ia h1]at h;by_cases h2:(R.map fun p=>p.2.2).sum≠S.ac land
 ·rw[Ib h2]at h;exact absurd h (by decide)
 rw[Ia h2]at h;by_cases z:(R.any fun p=>decide (p.1≠land) && aS S p.1)=true
 ·rw[Ib z]at h;exact absurd h (by decide)
 refine⟨by simpa using h1,Decidable.not_not.mp h2,fun p F=>?_⟩;by_cases e:p.1=land
 ·exact .inl e
 ·refine .inr ?_;cases q:aS S p.1 with
  | false=>rfl
  | true=>exact absurd (Bu.mpr ⟨p,F,by rw[Ic e,q];rfl⟩) z
theorem nF(iz:List (Key×V))(k:Key):(cA iz k).length≤iz.length:=by
 induction iz with
 | nil=>exact Am _
 | cons p r q=>
  by_cases e:p.1=k
  ·rw[j6 e,AK];omega
  ·rw[j7 e,AK,AK];omega
theorem aAc{R:List P3}(h:(R.map pD).all qP=true){p:P3}(q:p∈R):1≤p.2.2∧p.2.2≤10000000:=by
 have:=A5.mp h (pD p) (Ba q);unfold pD qP aBd at this;simp only[Bv,decide_eq_true_eq]at this;exact this.2
theorem aCd:∀{R:List P3},(∀ p∈R,0≤p.2.2)→0≤(R.map fun p=>p.2.2).sum
 | [],_=>CN _
 | p :: R,h=>by
  rw[Av,Cf];have h1:=h p (by simp);have h2:=aCd (R:=R) fun q z=>h q (by simp[z]);omega
theorem aCe{y:Str}:∀{R:List P3}{S:Ex},aS (R.foldl (fun S p=>oM S p.1 p.2.1 p.2.2) S) y=true↔y∈R.map (·.1)∨aS S y=true
 | [],S=>by simp
 | p :: R,S=>by
  rw[BG,aCe,xN,Av,Ak];constructor
  ·rintro(h | h | h)
   ·exact .inl (.inr h)
   ·exact .inl (.inl h)
   ·exact .inr h
  ·rintro((h | h) | h)
   ·exact .inr (.inl h)
   ·exact .inl h
   ·exact .inr (.inr h)
theorem xP{S:Ex}{land y:Str}{R:List P3}:aS (jO S land R) y=true↔y∈R.map (·.1)∨(y≠land∧aS S y=true):=by
 refine Hg (aCe (R:=R)) ?_;rw[xO]
theorem aEZ{α:Type}{l:List α}(h:l.Nodup){i j:Nat}{x:α}(a:l[i]?=some x)(b:l[j]?=some x):i=j:=by
 obtain⟨h1,e1⟩:=At.mp a;obtain⟨h2,e2⟩:=At.mp b;have q:=List.pairwise_iff_getElem.mp (Ek.mp h);rcases Nat.lt_trichotomy i j with z | z | z
 ·exact absurd (e1.trans e2.symm) (q i j h1 h2 z)
 ·exact z
 ·exact absurd (e2.trans e1.symm) (q j i h2 h1 z)
theorem aE0{R:List P3}(h:(R.map (·.1)).Nodup){i:Nat}{p:P3}(F:R[i]?=some p):p.1 ∉ (R.take i).map (·.1):=fun hm=>by
 obtain⟨q,hq,e⟩:=AR.mp hm;obtain⟨j,hj⟩:=Cq hq;rw[Cm]at hj;by_cases z:j < i
 ·rw[Ib z]at hj;have:=aEZ h (i:=j) (j:=i) (x:=p.1) (by rw[An,hj,← e];rfl) (by rw[An,F];rfl);omega
 ·rw[Ia z]at hj;cases hj
theorem qR{α β:Type}{R:α→β→Prop}:∀{n:Nat}{as:List α}{bs:List β},By R as bs→By R (as.drop n) (bs.drop n)
 | 0,_,_,h=>h
 | _ + 1,_,_,.nil=>.nil
 | n + 1,_,_,.cons _ t=>qR (n:=n) t
theorem t6{S:Ex}{land:Str}:∀{R:List P3},(jO S land R).men=S.men:=by
 intro R;have:∀(R:List P3) (S:Ex),(R.foldl (fun S p=>oM S p.1 p.2.1 p.2.2) S).men=S.men:=by
  intro R
  induction R with
  | nil=>intro S;rfl
  | cons p R q=>intro S;rw[BG,q];rfl
 exact this R _
theorem mV{S:Ex}{land:Str}:∀{R:List P3},(jO S land R).inc=S.inc:=by
 intro R;have:∀(R:List P3) (S:Ex),(R.foldl (fun S p=>oM S p.1 p.2.1 p.2.2) S).inc=S.inc:=by
  intro R
  induction R with
  | nil=>intro S;rfl
  | cons p R q=>intro S;rw[BG,q];rfl
 exact this R _
theorem aGe{S:Ex}{land:Str}{R:List P3}(h:oO S.hs):oO (jO S land R).hs:=by
 have:∀(R:List P3) (S:Ex),oO S.hs→oO (R.foldl (fun S p=>oM S p.1 p.2.1 p.2.2) S).hs:=by
  intro R
  induction R with
  | nil=>intro S h;exact h
  | cons p R q=>intro S h;exact q _ h.put
 exact this R _ h.drop
theorem aGf{S:Ex}{land:Str}{R:List P3}(h:(S.hs.map (·.1)).Nodup):((jO S land R).hs.map (·.1)).Nodup:=by
 have:∀(R:List P3) (S:Ex),(S.hs.map (·.1)).Nodup→((R.foldl (fun S p=>oM S p.1 p.2.1 p.2.2) S).hs.map (·.1)).Nodup:=by
  intro R
  induction R with
  | nil=>intro S h;exact h
  | cons p R q=>intro S h;exact q _ (lH _ h)
 exact this R _ (hJ h)
theorem v8{S:Ex}{R:List Str}{land:Str}(h:dO S R land="done"):(∀ z∈R,aS S z=true)∧(land∈R∨aS S land=false):=by
 unfold dO at h;by_cases h1:R.all (aS S)=false
 ·rw[Ib h1]at h;exact absurd h (by decide)
 rw[Ia h1]at h;by_cases h2:(R.any fun z=>decide (bS S.hs (Ac z)≠bS S.hs (Ac (R.headD ""))))=true
 ·rw[Ib h2]at h;exact absurd h (by decide)
 rw[Ia h2]at h;by_cases F:(!decide (land∈R) && aS S land)=true
 ·rw[Ib F]at h;exact absurd h (by decide)
 have ha:R.all (aS S)=true:=by simpa using h1
 refine⟨A5.mp ha,?_⟩;by_cases e:land∈R
 ·exact .inl e
 ·refine .inr ?_;cases q:aS S land with
  | false=>rfl
  | true=>exact absurd (by rw[decide_eq_false e,q];rfl) F
theorem aDa{R:List Str}(h:R.Nodup):R.Nodup:=h
theorem qE:∀(R:List Str) (d:List (Key×V)),(R.foldl (fun d z=>cA d (Ac z)) d).length≤d.length
 | [],_=>Am _
 | z :: R,d=>AI (qE R _) (nF _ _)
theorem aAd:∀{R:List Str}{d:List (Key×V)},oO d→oO (R.foldl (fun d z=>cA d (Ac z)) d)
 | [],_,h=>h
 | z :: R,d,h=>aAd (R:=R) h.drop
theorem aAe:∀{R:List Str}{d:List (Key×V)},(d.map (·.1)).Nodup→((R.foldl (fun d z=>cA d (Ac z)) d).map (·.1)).Nodup
 | [],_,h=>h
 | z :: R,d,h=>aAe (R:=R) (hJ h)
def RSc(sc:Int)(r:c3):Prop:=∀(land:Str) (R:List P3),r.word="part"→r.ds=[.str land,.tuple (R.map pD)]→(∀ p∈R,sc ∣ p.2.2)∨¬ sc ∣ (R.map fun p=>p.2.2).sum
inductive aE1(vs:List V)(H:Hp)(Q:VK)(u3_:XK):Prop
 | mk (W:Ae) (B:WA) (sc:Int) (os:List UK) (own:UK→Str) (S S':Ex) (x:V) (r:c3) (ws:List Str) (q0:vs=[.ref W,x]) (q1:e9 H W B sc os own S) (q2:RdV false H x r.d) (q3:r.Ok ws) (q4:RSc sc r) (q5:jC S r.word r.ds "done" S') (q6:S'.men.length≤1000) (q7:S'.hs.length≤1000) (q8:S.inc.length≤1000) (q9:∀ jg H',cO [B.ow,B.me,B.ho,B.ic] H H'→e9 H' W B sc os jg S'→Q .non H'):aE1 vs H Q u3_
def aIO:Sp:=fun vs H Q u3_=>aE1 vs H Q u3_
theorem aIP:bY ["_law_world_here","_law_row","_law_stand","_law_units_here","_law_land","_law_house","_law_acres","_law_key"] ["_law_world_here","_law_row"] (aO sDo):=⟨rfl,rfl,rfl,by decide,rfl,by decide,by decide⟩
theorem aIQ{f:Ae}{fd:A3}(F:Fun K "_law_do" "_law_do" sDo f fd)
  (GU:Cl P w K mg base 1 "_law_units" ["_law_world_here","_law_land"] rK)
  :cP P w K mg base CX0 2 f fd ["_law_world_here","_law_row"] aIO:=by
 refine F.ok aIP (fun vs H Q E h=>?_) (fun ey A outer s H vs Q E hr h=>?_)
 ·obtain⟨W,B,sc,os,own,S,S2,x,r,ws,rfl,_⟩:=h;rfl
 ·obtain⟨W,B,sc,os,own,S,S2,x,r,ws,rfl,wl,rdv,ok,rsc,stp,hm1,hh1,hi0,k⟩:=h;have hu:=d7 hr;have nd:=aIP.nd;refine⟨_,(aB (aX (i:=2) nd rfl (Ar rfl) (bJ hu (pv 0) aN Ig))
   (aB (cC (aZ cT (aQ aV (pv 1) aD Ig) aN (bG _)) (aB (aX (i:=3) nd rfl (Ar rfl) (cM GU hr (aF (pv 0) (aF (aQ aV (pv 1) aD Ig) aE))))
    (aB (dP (j5 (pv 2) (aQ aV (pv 1) aD Ig) ⟨rfl,rfl,rfl,rfl⟩))
    (aM (d8 A7 rfl (dE (aQ aV (pv 1) aD Ig)) (g:=qU K 3 (c7 (aU 4) (c7 (aU 5) (c7 (aU 6) qS)))) (fJ rfl (bH (aR (i:=4) nd rfl (Ar rfl)) (bH (aR (i:=5) nd rfl (Ar rfl)) (bH (aR (i:=6) nd rfl (Ar rfl)) dU))))
    (aB (c4 hu (pv 2) (pv 4) (pv 5) rfl)
     (aB (d8 A7 rfl (iP (g8 wO (pv 3) jE (jF (bC mY (pv 6) (bJ hu (pv 0) aN Ig))))) (g:=aU 7) (aR (i:=7) nd rfl (Ar rfl))
     (aM (c4 hu (bJ hu (pv 0) aN Ig) (pv 7) (pv 4) rfl)))
     (aM (aX (i:=3) nd rfl (Ar rfl) (g8 wO (pv 3) (jF (bC mY (pv 6) (bJ hu (pv 0) aN Ig))) jE))))))))) bB)
   (aB (cC (aZ cT (aQ aV (pv 1) aD Ig) aN (bG _)) (aB (aX (i:=5) nd rfl (Ar rfl) (bJ hu (pv 2) (aQ aV (aQ aV (pv 1) aD Ig) aD Ig) Ig))
    (aB (d8 A7 rfl (iP (bJ hu (pv 0) aN Ig)) (g:=aU 7) (aR (i:=7) nd rfl (Ar rfl))
    (aM (cC (aZ jX (bJ hu (bJ hu (pv 0) aN Ig) (pv 7) Ig) (aQ aV (pv 1) aD Ig) (by with_unfolding_all rfl)) (aM (c4 hu (bJ hu (pv 0) aN Ig) (pv 7) (aQ aV (pv 1) aD Ig) rfl)) bB)))
    (aB (d8 A7 rfl (dE (aQ aV (pv 1) aD Ig)) (g:=aU 4) (aR (i:=4) nd rfl (Ar rfl))
    (aM (dP (j5 (pv 2) (pv 4) ⟨rfl,rfl,rfl,rfl⟩))))
    (aM (c4 hu (pv 2) (aQ aV (pv 1) aD Ig) (pv 5) rfl))))) bB)
   (aB (cC (aZ cT (aQ aV (pv 1) aD Ig) aN (bG _)) (aM (c4 hu (pv 2) (aQ aV (pv 1) aD Ig) (aQ aV (pv 1) aD Ig) rfl)) bB)
   (aB (cC (aZ cT (aQ aV (pv 1) aD Ig) aN (bG _)) (aM (c4 hu (bJ hu (pv 0) aN Ig) (aQ aV (pv 1) aD Ig) (aQ aV (pv 1) aD Ig) rfl)) bB)
   (aB (cC (aZ cT (aQ aV (pv 1) aD Ig) aN (bG _)) (aM (c4 hu (bJ hu (pv 0) aN Ig) (aQ aV (pv 1) aD Ig) (aQ aV (pv 1) aD Ig) rfl)) bB)
   (aM (cC (aZ cT (aQ aV (pv 1) aD Ig) aN (bG _)) (aM (dP (j5 (bJ hu (pv 0) aN Ig) (aQ aV (pv 1) aD Ig) ⟨rfl,rfl,rfl,rfl⟩))) bB)))))))),?_⟩
  refine aGM fun T hT=>?_;obtain⟨t,bZ,rfl,ht,hrest⟩:=c3.Ok.tup (fs:=ws) rdv;have rs:=ok.rs;obtain⟨word,name,day,ds⟩:=r;dsimp only at rs hrest ht k stp;have wh:=wl.wh;have dt:S.inc.length < sizeLine:=cV hi0;have z3:S.hs.length < sizeLine:=cV wl.hl;cases rs with
  | @part land R hl ap h2 h6 aI=>
   obtain⟨q1,q2⟩:=rd2 hrest;cases q1;cases q2 with
   | @tup tp us _ ao dw bh=>
   have bq:=bh.len;rw[Aa]at bq;obtain⟨e1,Z⟩:=stp.fn (.part (land:=land) (R:=R));rw[← e1,Ib rfl]at Z;subst Z;obtain⟨aT,hsum,hnm⟩:=aC9 e1.symm;have dh:∀ p∈R,sc ∣ p.2.2:=by
    rcases rsc land R rfl rfl with h | h
    ·exact h
    ·exact absurd ⟨_,by rw[hsum];exact(wl.cn land aT).symm⟩ h
   have cu:=aT;unfold aS at cu;obtain⟨v,hv⟩:=A2.mp cu;subst hT;refine⟨_,rfl,W,_,rfl,wl.get (fF _ _),_,rfl,t,_,0,_,rfl,rfl,aH ht,rfl,rfl,_,rfl,yW ?_⟩;refine⟨_,rfl,_,rfl,t,_,3,_,rfl,rfl,aH ht,rfl,W,B,sc,os,own,S,land,rfl,wl,fun L rs H1 hL S1 cq hU=>?_⟩;have aa:=wh.same S1;refine⟨_,rfl,B.ho,rfl,.inl ⟨_,.inl aa.ho⟩,_,rfl,t,_,3,_,rfl,rfl,aH (S1 _ _ ht),rfl,_,Ac land,v,aa.ho,rfl,hv,?_⟩;have ae:=aa.setH (cA S.hs (Ac land));have aj:cO [B.ow,B.me,B.ho,B.ic] H (upd H1 B.ho (.dK (cA S.hs (Ac land)))):=(dF S1).trans (cQ (by simp));have ck:upd H1 B.ho (.dK (cA S.hs (Ac land))) L=some (.lst (rs.map V.ref)):=by rw[aG (bU cq aa.ho (fun z=>nomatch z))];exact cq
   have cy:UAt (upd H1 B.ho (.dK (cA S.hs (Ac land)))) rs (os.filter fun k=>decide (own k=land)):=hU.on fun b us e=>by rw[aG (bU e aa.ho (fun z=>nomatch z))];exact e
   generalize upd H1 B.ho _=H2 at ae aj ck cy ⊢;have tk:∀{G:Hp} {b:Ae} {us:List V},cO [B.ow,B.me,B.ho,B.ic] H G→H b=some (.tup us)→G b=some (.tup us):=fun{G b us} kx e=>kx b _ (fun z=>by
    simp only[Ak,Ao,or_false]at z;rcases z with z | z | z | z <;> rw[z]at e
    ·rw[wl.ow]at e;cases e
    ·rw[wl.me]at e;cases e
    ·rw[wl.ho]at e;cases e
    ·rw[wl.ic]at e;cases e) e
   refine⟨_,rfl,t,_,4,_,rfl,rfl,aH (tk aj ht),rfl,tp,rfl,⟨_,aH (tk aj ao)⟩,?_⟩;have p0:=tZ.start (land:=land) wl.cn wl.so;have b7:(os.filter fun k=>decide (own k=land)).Nodup:=wl.nd.filter _;have cw:∀ k∈os.filter (fun k=>decide (own k=land)),k∈os:=fun k hk=>(Bz.mp hk).1;have du:=wl.cn land aT;have s1:=wl.s1;refine gZ (K:=K) (xs:=us) (fun i σ H'=>Ex3 fun(L:Ae) (qs:List Ae) (J:List UK)=>Ex3 fun(jg:UK→Str) (Si:Ex) (o4:Option V)=>Ex3 fun(o5 o6 o7:Option V)=>Aw6 (σ=[some (.ref W),some (.ref t),some (.ref B.ho),some (.ref L),o4,o5,o6,o7]) (cO [B.ow,B.me,B.ho,B.ic] H H') (WH H' W B sc os jg Si.hs S.men S.inc) (H' L=some (.lst (qs.map V.ref))) (UAt H' qs J) (Aw6 (tZ os sc J jg Si) (jO S land (R.take i)=Si) J.Nodup ((∀ k∈J,k∈os)) (sc * (J.length:Int)=((R.drop i).map fun p=>p.2.2).sum) (Si.hs.length≤1000 + i))) ⟨L,rs,_,own,_,none,none,none,none,rfl,aj,ae,ck,cy,p0,rfl,b7,cw,by rw[du,El,hsum],AI (nF _ _) wl.hl⟩ (fun i σ H' _ p=>by obtain⟨_,_,_,_,_,_,_,_,_,_,kx,_⟩:=p;exact aH (tk kx ao)) ?_ ?_
   ·rintro i v σ H3 dr ⟨L3,qs,J,ad,Si,o4,o5,o6,o7,rfl,ak,O,bw,cI,p3,aw,a0,aq,bc,cc⟩;obtain⟨p,q,hp,rfl,hq⟩:=i7 bh dr;have eu:i < R.length:=(At.mp hp).1;have bN:=AH hp;obtain⟨n,hn⟩:=dh p bN;refine⟨q,_,rfl,aH (tk ak hq),rfl,_,_,rfl,_,_,rfl,_,_,rfl,rfl,_,rfl,_,rfl,_,rfl,B.ho,_,rfl,gE.k (k:=Ac p.1) O.ho (BM cc (by rw[BT];omega)),?_⟩;have bL:=O.setH (bT Si.hs (Ac p.1) (.str p.2.1));have b5:cO [B.ow,B.me,B.ho,B.ic] H (upd H3 B.ho (.dK (bT Si.hs (Ac p.1) (.str p.2.1)))):=ak.trans (cQ (by simp));have bD:upd H3 B.ho (.dK (bT Si.hs (Ac p.1) (.str p.2.1))) L3=some (.lst (qs.map V.ref)):=by rw[aG (bU bw O.ho (fun z=>nomatch z))];exact bw
    have bI:UAt (upd H3 B.ho (.dK (bT Si.hs (Ac p.1) (.str p.2.1)))) qs J:=cI.on fun b us e=>by rw[aG (bU e O.ho (fun z=>nomatch z))];exact e
    generalize upd H3 B.ho _=H4 at bL b5 bD bI ⊢;have aL:p.2.2 / sc=n:=by rw[hn,Int.mul_ediv_cancel_left _ (by omega)]
    refine⟨_,rfl,_,rfl,?_⟩;have eq:=aAc aI bN;obtain⟨m,rfl⟩:∃ m:Nat,n=m:=by
     have:0≤n:=by
      rw[← aL];exact Dw (by omega) (by omega)
     exact⟨n.toNat,by omega⟩
    have bE:R.drop i=p :: R.drop (i + 1):=by
     obtain⟨h1,h2⟩:=At.mp hp;rw[Er h1,h2]
    have eb:0≤((R.drop (i + 1)).map fun p=>p.2.2).sum:=aCd fun q hq=>by
     have:=aAc aI (Di hq);omega
    rw[bE,Av,Cf,hn]at bc;have dk:sc * ((J.length:Int) - m)=((R.drop (i + 1)).map fun p=>p.2.2).sum:=by
     rw[Int.mul_sub];omega
    have dn:m≤J.length:=by
     rcases Nat.lt_or_ge J.length m with z | z
     ·exfalso;have:sc * ((J.length:Int) - m)≤sc * (-1):=Int.mul_le_mul_of_nonneg_left (by omega) (by omega);omega
     ·exact z
    have ed:=bI.length;have dd:J.length≤80:=AI (DB a0 aq) wl.ol;refine⟨_,rfl,W,_,rfl,bL.get (aB3 _ _),_,_,rfl,rfl,⟨by omega,by have:=wl.s2;omega⟩,_,rfl,L3,_,rfl,aY bD,fun D hD=>?_⟩;rw[aL,wT (α:=Unit),← Ge];have sD:=aK (o:=.lst ((qs.take m).map V.ref)) hD;have cx:=bL.same sD;have cs:=b5.same sD;have cm:=sD _ _ bD;have b0:=bI.on (bV sD);have br:upd H4 D (.lst ((qs.take m).map V.ref)) D=some (.lst ((qs.take m).map V.ref)):=aA;generalize upd H4 D _=H5 at cx cs cm b0 br ⊢;refine⟨D,rfl,⟨_,aY br⟩,?_⟩;refine lU (K:=K) (xs:=(qs.take m).map V.ref) (fun j σ H'=>∃(o7:Option V),Aw6 (σ=[some (.ref W),some (.ref t),some (.ref B.ho),some (.ref L3),some (.str p.1),some (.str p.2.1),some (.int p.2.2),o7]) (cO [B.ow,B.me,B.ho,B.ic] H H') (WH H' W B sc os (fun k=>if k∈(J.take m).take j then p.1 else ad k) (bT Si.hs (Ac p.1) (.str p.2.1)) S.men S.inc) (H' L3=some (.lst (qs.map V.ref))) (H' D=some (.lst ((qs.take m).map V.ref))) (UAt H' qs J)) ⟨_,rfl,cs,by simp only[List.take_zero,Ao,if_false];exact cx,cm,br,b0⟩ (fun i σ H' _ p=>by obtain⟨_,_,_,_,_,e,_⟩:=p;exact aY e) ?_ ?_
    ·rintro j v σ H6 ca ⟨o7,rfl,bO,al,bx,cb,ba⟩;rw[An]at ca;obtain⟨q6,hq6,rfl⟩:=AG.mp ca;rw[Cm]at hq6;by_cases bu:j < m
     ·rw[Ib bu]at hq6;have cv:j < J.length:=by omega
      have av:J[j]?=some J[j]:=Ai cv;have bf:=Paired.at ba hq6 av;have be:J[j]∈os:=aq _ (BI cv);dsimp only[aU];refine⟨_,rfl,_,rfl,W,_,rfl,al.get (zW _ _),_,rfl,B.ow,_,rfl,gE.t (k:=[Ac J[j].1,Cg (J[j].2:Int)]) al.ow bf (by unfold i9;rw[Aa];exact cV (AI wl.ol (by decide))),?_⟩;rw[aCa be];have ar:(fun k'=>if k'=J[j] then p.1 else(fun k=>if k∈(J.take m).take j then p.1 else ad k) k')=fun k=>if k∈(J.take m).take (j + 1) then p.1 else ad k:=by
       funext k';dsimp only;have et:(J.take m).take (j + 1)=(J.take m).take j ++ [J[j]]:=by
        rw[AE,Cm,Ib bu,av];rfl
       rw[et];by_cases e1:k'=J[j]
       ·rw[Ib e1,Ib (by rw[e1];simp)]
       ·rw[Ia e1];by_cases Z:k'∈(J.take m).take j
        ·rw[Ib Z,Ib (BV _ Z)]
        ·rw[Ia Z,Ia (fun z=>(AS.mp z).elim Z fun z=>e1 (AF.mp z))]
      rw[ar];have kO:∀{b:Ae} {o:HO},H6 b=some o→(∀ xs,o≠.dT xs)→upd H6 B.ow (.dT (i9 os fun k=>if k∈(J.take m).take (j + 1) then p.1 else ad k)) b=some o:=fun{b o} e n=>by
       rw[aG (bU e al.ow (n _))];exact e
      exact⟨_,rfl,bO.trans (cQ (by simp)),al.setO _,kO bx (fun _ z=>nomatch z),kO cb (fun _ z=>nomatch z),ba.on fun b us e=>kO e (fun _ z=>nomatch z)⟩
     ·rw[Ia bu]at hq6;cases hq6
    ·rintro σ H6 ⟨o7,rfl,bO,al,bx,cb,ba⟩;have b6:((qs.take m).map V.ref).length=m:=by rw[Aa,AJ];omega
     rw[b6,Bg (by rw[AJ];omega)]at al;refine⟨_,rfl,_,rfl,_,rfl,W,_,rfl,al.get (aB3 _ _),_,_,rfl,rfl,⟨by omega,by have:=wl.s2;omega⟩,_,rfl,L3,_,rfl,aY bx,fun D2 df=>?_⟩;rw[aL,aDV (α:=Unit),← List.map_drop];have bz:=aK (o:=.lst ((qs.drop m).map V.ref)) df;have b4:(J.take m ++ J.drop m).Nodup:=by rw[BR];exact a0
     have cL:∀ k∈J.take m ++ J.drop m,k∈os:=by rw[BR];exact aq
     have dl:tZ os sc (J.take m ++ J.drop m) ad Si:=by rw[BR];exact p3
     have ci:aS Si p.1=false:=by
      cases hq:aS Si p.1 with
      | false=>rfl
      | true=>
       rw[← aw]at hq;rcases xP.mp hq with z | ⟨z1,z2⟩
       ·exact absurd z (aE0 ap hp)
       ·rcases hnm p bN with z | z
        ·exact absurd z z1
        ·rw[z]at z2;cases z2
     have pn:=tZ.step (h:=p.2.1) dl b4 cL wl.nd ci (show sc * (((J.take m).length:Nat):Int)=p.2.2 by rw[AJ,C4 dn,hn]);have dm:UAt H6 (qs.drop m) (J.drop m):=qR ba;refine⟨D2,qs.drop m,J.drop m,_,_,_,_,_,_,rfl,bO.same bz,al.same bz,aA,dm.on (bV bz),pn,?_,(Bn.mp b4).2.1,fun k hk=>cL k (AN _ hk),?_,?_⟩
     ·unfold jO at aw ⊢;rw[AE,hp,Da,aw];rfl
     ·rw[B9,← dk];congr 1;omega
     ·show(bT Si.hs (Ac p.1) (V.str p.2.1)).length≤_;have:=cB Si.hs (Ac p.1) (V.str p.2.1);omega
   ·rintro σ H3 ⟨L3,qs,J,ad,Si,o4,o5,o6,o7,rfl,ak,O,bw,cI,p3,aw,a0,aq,bc,cc⟩;rw[bq,AM]at aw;rw[bq,List.drop_length]at bc;have di:J=[]:=by
     have:sc * (J.length:Int)=0:=bc;rcases Int.mul_eq_zero.mp this with z | z
     ·omega
     ·exact List.length_eq_zero_iff.mp (by omega)
    subst di aw;obtain⟨c1,c2⟩:=p3.fin;have af:=tk ak ht
    iterate 5 refine⟨_,rfl,t,_,0,_,rfl,rfl,aH af,rfl,rfl,_,rfl,nW (by decide) ?_⟩
    exact k ad H3 ak ⟨O.d,O.o,O.ow,by rw[t6];exact O.me,O.ho,by rw[mV];exact O.ic,by rw[t6];exact wl.ac,hm1,wl.nd,wl.ol,wl.s1,wl.s2,c1,wl.ne,aGe wl.hv,aGf wl.ks,hh1,c2⟩
  | @join land R hl ap h2 h6 aI=>
   obtain⟨q1,q2⟩:=rd2 hrest;cases q2;cases q1 with
   | @tup tp us _ ao dw bh=>
   obtain rfl:=nC bh;obtain⟨e1,Z⟩:=stp.fn (.join (land:=land) (R:=R));rw[← e1,Ib rfl]at Z;subst Z;obtain⟨hall',hlR⟩:=v8 e1.symm;have bo:=aDa ap;obtain⟨z0,R',eR⟩:∃ z0 R',R=z0 :: R':=by
    cases R with
    | nil=>simp at h2
    | cons z0 R'=>exact⟨z0,R',rfl⟩
   obtain⟨v0,hv0⟩:=A2.mp (show(bS S.hs (Ac z0)).isSome=true from hall' z0 (by rw[eR];exact Al));obtain⟨h0,_,rfl,_⟩:=wl.hv _ _ hv0;have tk:∀{G:Hp} {b:Ae} {us:List V},cO [B.ow,B.me,B.ho,B.ic] H G→H b=some (.tup us)→G b=some (.tup us):=fun{G b us} kx e=>kx b _ (fun z=>by
    simp only[Ak,Ao,or_false]at z;rcases z with z | z | z | z <;> rw[z]at e
    ·rw[wl.ow]at e;cases e
    ·rw[wl.me]at e;cases e
    ·rw[wl.ho]at e;cases e
    ·rw[wl.ic]at e;cases e) e
   subst hT;refine⟨_,rfl,W,_,rfl,wl.get (fF _ _),_,rfl,t,_,0,_,rfl,rfl,aH ht,rfl,rfl,_,rfl,nW (by decide) ?_⟩;refine⟨_,rfl,t,_,0,_,rfl,rfl,aH ht,rfl,rfl,_,rfl,yW ?_⟩;refine⟨_,rfl,_,rfl,t,_,3,_,rfl,rfl,aH ht,rfl,tp,_,0,.str z0,rfl,rfl,aH ao,fU (j:=0) (by rw[eR];rfl),B.ho,_,rfl,.inl ⟨S.hs,Ac z0,.inl wl.ho,rfl,hv0.symm⟩,?_⟩;obtain⟨qs,o1,o2⟩:=wl.o;have cz:=Bx o2;refine⟨_,rfl,W,_,rfl,wl.get (aEP _ _),B.o,rfl,⟨_,aY o1⟩,?_⟩;refine lU (K:=K) (xs:=qs.map V.ref) (fun j σ H'=>∃(o7:Option V),Aw3 (σ=[some (.ref W),some (.ref t),some (.ref B.ho),none,none,some (.str h0),none,o7]) (cO [B.ow,B.me,B.ho,B.ic] H H') (WH H' W B sc os (fun k=>if k∈os.take j∧own k∈R then land else own k) S.hs S.men S.inc∧H' B.o=some (.lst (qs.map V.ref)))) ⟨none,rfl,cO.refl H,by simp only[List.take_zero,Ao,false_and,if_false];exact wh,o1⟩ (fun i σ H' _ p=>by obtain⟨_,_,_,_,e⟩:=p;exact aY e) ?_ ?_
   ·rintro j v σ H1 cf ⟨o7,rfl,ah,aa,bb⟩;rw[An]at cf;obtain⟨q,hq,rfl⟩:=AG.mp cf;have hj:j < os.length:=by rw[← cz];exact(At.mp hq).1
    have av:os[j]?=some os[j]:=Ai hj;have b2:=Paired.at o2 hq av;have bf:=tk ah b2;have be:os[j]∈os:=BI hj;have c0:os[j] ∉ os.take j:=fun z=>by
     obtain⟨i,hi⟩:=Cq z;rw[Cm]at hi;by_cases aC:i < j
     ·rw[Ib aC]at hi;exact absurd (aEZ wl.nd hi av) (by omega)
     ·rw[Ia aC]at hi;cases hi
    have hD:gI H1 B.ow (.ref q) (some (.str (own os[j]))):=by
     have:=gI.t (k:=[Ac os[j].1,Cg (os[j].2:Int)]) aa.ow bf;rw[xK be,Ia (fun z=>c0 z.1)]at this;exact this
    dsimp only[aU];refine⟨_,rfl,W,_,rfl,aa.get (zW _ _),_,rfl,B.ow,_,rfl,hD,_,rfl,t,_,3,_,rfl,rfl,aH (tk ah ht),rfl,tp,_,rfl,.inr (aH (tk ah ao)),rfl,gU _,_,rfl,?_⟩;show if (if false=true then !inV (V.str (own os[j])) (R.map V.str) else inV (V.str (own os[j])) (R.map V.str))=true then _ else _
    rw[Ia Ay,nB];have et:os.take (j + 1)=os.take j ++ [os[j]]:=by
     rw[AE,av];rfl
    by_cases g:own os[j]∈R
    ·rw[Ic g];refine eZ ?_;refine⟨_,rfl,t,_,4,_,rfl,rfl,aH (tk ah ht),rfl,_,rfl,W,_,rfl,aa.get (zW _ _),_,rfl,B.ow,_,rfl,gE.t (k:=[Ac os[j].1,Cg (os[j].2:Int)]) aa.ow bf (by unfold i9;rw[Aa];exact cV (AI wl.ol (by decide))),?_⟩;rw[aCa be];have ar:(fun k'=>if k'=os[j] then land else(fun k=>if k∈os.take j∧own k∈R then land else own k) k')=fun k=>if k∈os.take (j + 1)∧own k∈R then land else own k:=by
      funext k';dsimp only;rw[et];by_cases e1:k'=os[j]
      ·rw[Ib e1,Ib (by rw[e1];exact⟨AN _ (AF.mpr rfl),g⟩)]
      ·rw[Ia e1];by_cases Z:k'∈os.take j∧own k'∈R
       ·rw[Ib Z,Ib ⟨BV _ Z.1,Z.2⟩]
       ·rw[Ia Z,Ia (fun z=>(AS.mp z.1).elim (fun y=>Z ⟨y,z.2⟩) fun y=>e1 (AF.mp y))]
     rw[ar];exact⟨_,rfl,ah.trans (cQ (by simp)),aa.setO _,by rw[aG (bU bb aa.ow (fun z=>nomatch z))];exact bb⟩
    ·rw[decide_eq_false g];refine dS ⟨_,rfl,ah,?_,bb⟩;have ar:(fun k=>if k∈os.take j∧own k∈R then land else own k)=fun k=>if k∈os.take (j + 1)∧own k∈R then land else own k:=by
      funext k';rw[et];by_cases Z:k'∈os.take j∧own k'∈R
      ·rw[Ib Z,Ib ⟨BV _ Z.1,Z.2⟩]
      ·rw[Ia Z,Ia (fun z=>(AS.mp z.1).elim (fun y=>Z ⟨y,z.2⟩) fun y=>g (by rw[← AF.mp y];exact z.2))]
     rw[← ar];exact aa
   ·rintro σ H1 ⟨o7,rfl,ah,aa,bb⟩;rw[Aa,cz]at aa;refine⟨_,rfl,t,_,3,_,rfl,rfl,aH (tk ah ht),rfl,tp,rfl,⟨_,aH (tk ah ao)⟩,?_⟩;refine gZ (K:=K) (xs:=R.map V.str) (fun i σ H'=>∃(o4:Option V),σ=[some (.ref W),some (.ref t),some (.ref B.ho),none,o4,some (.str h0),none,o7]∧cO [B.ow,B.me,B.ho,B.ic] H H'∧WH H' W B sc os (fun k=>if k∈os.take os.length∧own k∈R then land else own k) ((R.take i).foldl (fun d z=>cA d (Ac z)) S.hs) S.men S.inc) ⟨none,rfl,ah,aa⟩ (fun i σ H' _ p=>by obtain⟨_,_,kx,_⟩:=p;exact aH (tk kx ao)) ?_ ?_
    ·rintro i v σ H2 cj ⟨o4,rfl,aj,ae⟩;rw[An]at cj;obtain⟨z,hz,rfl⟩:=AG.mp cj;have d3:z ∉ R.take i:=fun y=>by
      obtain⟨j,hj⟩:=Cq y;rw[Cm]at hj;by_cases aC:j < i
      ·rw[Ib aC]at hj;exact absurd (aEZ bo hj hz) (by omega)
      ·rw[Ia aC]at hj;cases hj
     obtain⟨v2,hv2'⟩:=A2.mp (t4.mpr ⟨d3,hall' z (AH hz)⟩);dsimp only[aU];refine⟨_,rfl,B.ho,rfl,.inl ⟨_,.inl ae.ho⟩,_,rfl,_,Ac z,v2,ae.ho,rfl,hv2',_,rfl,aj.trans (cQ (by simp)),?_⟩;rw[AE,hz,Da];exact ae.setH _
    ·rintro σ H2 ⟨o4,rfl,aj,ae⟩;rw[Aa,AM]at ae;rw[AM]at ae;have b1:(R.foldl (fun d z=>cA d (Ac z)) S.hs).length≤S.hs.length:=qE R S.hs;refine⟨_,rfl,_,rfl,_,rfl,t,_,4,_,rfl,rfl,aH (tk aj ht),rfl,B.ho,_,rfl,gE.k (k:=Ac land) ae.ho (cV (AI b1 wl.hl)),?_⟩;have O:=ae.setH (bT (R.foldl (fun d z=>cA d (Ac z)) S.hs) (Ac land) (.str h0));have ak:cO [B.ow,B.me,B.ho,B.ic] H (upd H2 B.ho (.dK (bT (R.foldl (fun d z=>cA d (Ac z)) S.hs) (Ac land) (.str h0)))):=aj.trans (cQ (by simp));have af:=tk ak ht;generalize upd H2 B.ho _=H3 at O ak af ⊢
     iterate 4 refine⟨_,rfl,t,_,0,_,rfl,rfl,aH af,rfl,rfl,_,rfl,nW (by decide) ?_⟩
     have bM:(gW S R land).hs=bT (R.foldl (fun d z=>cA d (Ac z)) S.hs) (Ac land) (.str h0):=by
      unfold gW;rw[eR];dsimp only[List.headD];rw[hv0];rfl
     obtain⟨c1,c2⟩:=aEY (R:=R) (land:=land) wl.cn wl.so bo hall' hlR;have ar:(fun k=>if k∈os∧own k∈R then land else own k)=fun k=>if k∈os∧own k∈R then land else own k:=rfl
     have ef:∀ k∈os,(if k∈os∧own k∈R then land else own k)=if own k∈R then land else own k:=fun k hk=>by
      by_cases e:own k∈R
      ·rw[Ib ⟨hk,e⟩,Ib e]
      ·rw[Ia (fun z=>e z.2),Ia e]
     refine k _ H3 ak ⟨O.d,O.o,O.ow,O.me,by rw[bM];exact O.ho,O.ic,wl.ac,hm1,wl.nd,wl.ol,wl.s1,wl.s2,fun z hz=>?_,wl.ne,by rw[bM];exact oO.put (aAd wl.hv),by rw[bM];exact lH _ (aAe wl.ks),hh1,fun u bi=>?_⟩
     ·rw[← c1 z hz];congr 2;refine dM fun k hk=>?_;rw[ef k hk]
     ·rw[ef u bi];exact c2 u bi
  | @forfeit land house hl hh=>
   obtain rfl:=mS hrest;obtain⟨e1,Z⟩:=stp.fn (.forfeit (land:=land) (house:=house));rw[← e1,Ib rfl]at Z;subst Z;have aT:aS S land=true:=by
    unfold iD at e1;by_cases z:aS S land=false
    ·rw[Ib z]at e1;exact absurd e1 (by decide)
    ·simpa using z
   subst hT;refine⟨_,rfl,W,_,rfl,wl.get (fF _ _),_,rfl,t,_,0,_,rfl,rfl,aH ht,rfl,rfl,_,rfl,nW (by decide) ?_⟩;refine⟨_,rfl,t,_,0,_,rfl,rfl,aH ht,rfl,rfl,_,rfl,nW (by decide) ?_⟩;refine⟨_,rfl,t,_,0,_,rfl,rfl,aH ht,rfl,rfl,_,rfl,yW ?_⟩;refine⟨_,rfl,t,_,4,_,rfl,rfl,aH ht,rfl,_,rfl,_,rfl,t,_,3,_,rfl,rfl,aH ht,rfl,B.ho,_,rfl,gE.k (k:=Ac land) wl.ho z3,?_⟩;have M:=wh.setH (bT S.hs (Ac land) (.str house));have kx:cO [B.ow,B.me,B.ho,B.ic] H (upd H B.ho (.dK (bT S.hs (Ac land) (.str house)))):=cQ (by simp);have ag:upd H B.ho (.dK (bT S.hs (Ac land) (.str house))) t=some (.tup [.str "forfeit",.str name,.int day,.str land,.str house]):=by rw[aG (bU ht wl.ho (fun z=>nomatch z))];exact ht
   generalize upd H B.ho _=H1 at M kx ag ⊢
   iterate 3 refine⟨_,rfl,t,_,0,_,rfl,rfl,aH ag,rfl,rfl,_,rfl,nW (by decide) ?_⟩
   have cg:∀ z,aS { S with hs:=bT S.hs (Ac land) (.str house) } z=true↔aS S z=true:=fun z=>by
    refine Hg aCc ⟨fun q=>?_,.inr⟩;rcases q with rfl | q
    ·exact aT
    ·exact q
   exact k own H1 kx ⟨M.d,M.o,M.ow,M.me,M.ho,M.ic,wl.ac,hm1,wl.nd,wl.ol,wl.s1,wl.s2,fun z hz=>wl.cn z ((cg z).mp hz),wl.ne,oO.put wl.hv,lH _ wl.ks,hh1,fun u bi=>(cg _).mpr (wl.so u bi)⟩
  | @measure field ay hf h0 h1=>
   obtain rfl:=mS hrest;obtain⟨_,Z⟩:=stp.fn (.measure (field:=field) (n:=ay));subst Z;subst hT;refine⟨_,rfl,W,_,rfl,wl.get (fF _ _),_,rfl,t,_,0,_,rfl,rfl,aH ht,rfl,rfl,_,rfl,nW (by decide) ?_⟩
   iterate 2 refine⟨_,rfl,t,_,0,_,rfl,rfl,aH ht,rfl,rfl,_,rfl,nW (by decide) ?_⟩
   refine⟨_,rfl,t,_,0,_,rfl,rfl,aH ht,rfl,rfl,_,rfl,yW ?_⟩;refine⟨_,rfl,t,_,4,_,rfl,rfl,aH ht,rfl,_,rfl,W,_,rfl,wl.get (zY _ _),_,rfl,t,_,3,_,rfl,rfl,aH ht,rfl,B.ic,_,rfl,gE.k (k:=Ac field) wl.ic dt,?_⟩;have M:=wh.setI (bT S.inc (Ac field) (.int ay));have kx:cO [B.ow,B.me,B.ho,B.ic] H (upd H B.ic (.dK (bT S.inc (Ac field) (.int ay)))):=cQ (by simp);have ag:upd H B.ic (.dK (bT S.inc (Ac field) (.int ay))) t=some (.tup [.str "measure",.str name,.int day,.str field,.int ay]):=by rw[aG (bU ht wl.ic (fun z=>nomatch z))];exact ht
   generalize upd H B.ic _=H1 at M kx ag ⊢
   iterate 2 refine⟨_,rfl,t,_,0,_,rfl,rfl,aH ag,rfl,rfl,_,rfl,nW (by decide) ?_⟩
   exact k own H1 kx ⟨M.d,M.o,M.ow,M.me,M.ho,M.ic,wl.ac,hm1,wl.nd,wl.ol,wl.s1,wl.s2,wl.cn,wl.ne,wl.hv,wl.ks,hh1,wl.so⟩
  | @mend house Y hh ho ek=>
   obtain rfl:=mS hrest;obtain⟨e1,Z⟩:=stp.fn (.mend (a:=house) (b:=Y));have bd:house ∉ rd S.men Y:=fun z=>by rw[Ib z]at e1;exact absurd e1 (by decide)
   subst Z;have az:=wl.ac.mend house Y;have em:mJ S.men house Y=bT S.men (Ac house) (.str Y):=by unfold mJ;rw[Ia bd]
   rw[em]at az;dsimp only at hm1;rw[em]at hm1 k;subst hT;refine⟨_,rfl,W,_,rfl,wl.get (fF _ _),_,rfl,t,_,0,_,rfl,rfl,aH ht,rfl,rfl,_,rfl,nW (by decide) ?_⟩
   iterate 3 refine⟨_,rfl,t,_,0,_,rfl,rfl,aH ht,rfl,rfl,_,rfl,nW (by decide) ?_⟩
   refine⟨_,rfl,t,_,0,_,rfl,rfl,aH ht,rfl,rfl,_,rfl,yW ?_⟩;refine⟨_,rfl,t,_,4,_,rfl,rfl,aH ht,rfl,_,rfl,W,_,rfl,wl.get (zX _ _),_,rfl,t,_,3,_,rfl,rfl,aH ht,rfl,B.me,_,rfl,gE.k (k:=Ac house) wl.me (cV wl.ml),?_⟩;have M:=wh.setM (bT S.men (Ac house) (.str Y));have kx:cO [B.ow,B.me,B.ho,B.ic] H (upd H B.me (.dK (bT S.men (Ac house) (.str Y)))):=cQ (by simp);have ag:upd H B.me (.dK (bT S.men (Ac house) (.str Y))) t=some (.tup [.str "mend",.str name,.int day,.str house,.str Y]):=by rw[aG (bU ht wl.me (fun z=>nomatch z))];exact ht
   generalize upd H B.me _=H1 at M kx ag ⊢;refine⟨_,rfl,t,_,0,_,rfl,rfl,aH ag,rfl,rfl,_,rfl,nW (by decide) ?_⟩;exact k own H1 kx ⟨M.d,M.o,M.ow,M.me,M.ho,M.ic,az,hm1,wl.nd,wl.ol,wl.s1,wl.s2,wl.cn,wl.ne,wl.hv,wl.ks,hh1,wl.so⟩
  | @alone house hh=>
   obtain rfl:=mS hrest;obtain⟨e1,Z⟩:=stp.fn (.alone (a:=house));have bd:(bS S.men (Ac house)).isSome=true:=by
    by_cases z:(bS S.men (Ac house)).isSome=true
    ·exact z
    ·rw[Ia z]at e1;exact absurd e1 (by decide)
   subst Z;have az:=wl.ac.alone house;have em:mK S.men house=cA S.men (Ac house):=by unfold mK;rw[Ib bd]
   rw[em]at az;dsimp only at hm1;rw[em]at hm1 k;obtain⟨v,hv⟩:=A2.mp bd;subst hT;refine⟨_,rfl,W,_,rfl,wl.get (fF _ _),_,rfl,t,_,0,_,rfl,rfl,aH ht,rfl,rfl,_,rfl,nW (by decide) ?_⟩
   iterate 4 refine⟨_,rfl,t,_,0,_,rfl,rfl,aH ht,rfl,rfl,_,rfl,nW (by decide) ?_⟩
   refine⟨_,rfl,t,_,0,_,rfl,rfl,aH ht,rfl,rfl,_,rfl,yW ?_⟩;refine⟨_,rfl,W,_,rfl,wl.get (zX _ _),B.me,rfl,.inl ⟨_,.inl wl.me⟩,_,rfl,t,_,3,_,rfl,rfl,aH ht,rfl,_,Ac house,v,wl.me,rfl,hv,?_⟩;have M:=wh.setM (cA S.men (Ac house));exact k own _ (cQ (by simp)) ⟨M.d,M.o,M.ow,M.me,M.ho,M.ic,az,hm1,wl.nd,wl.ol,wl.s1,wl.s2,wl.cn,wl.ne,wl.hv,wl.ks,hh1,wl.so⟩
  | @breach field n1 n2 n3 hf dV dj el ez ei ew=>
   obtain rfl:=mS hrest;obtain⟨_,Z⟩:=stp.fn .breach;subst Z;subst hT;refine⟨_,rfl,W,_,rfl,wl.get (fF _ _),_,rfl,t,_,0,_,rfl,rfl,aH ht,rfl,rfl,_,rfl,nW (by decide) ?_⟩
   iterate 5 refine⟨_,rfl,t,_,0,_,rfl,rfl,aH ht,rfl,rfl,_,rfl,nW (by decide) ?_⟩
   exact k own H (cO.refl H) wl
  | @view field house n1 hf dV dj hh=>
   obtain rfl:=mS hrest;obtain⟨_,Z⟩:=stp.fn .view;subst Z;subst hT;refine⟨_,rfl,W,_,rfl,wl.get (fF _ _),_,rfl,t,_,0,_,rfl,rfl,aH ht,rfl,rfl,_,rfl,nW (by decide) ?_⟩
   iterate 5 refine⟨_,rfl,t,_,0,_,rfl,rfl,aH ht,rfl,rfl,_,rfl,nW (by decide) ?_⟩
   exact k own H (cO.refl H) wl
structure EB(S:Ex)(n:Nat)(ws:List Str):Prop where
 m:S.men.length≤n
 h:S.hs.length≤8 + 6 * n
 i:S.inc.length≤8 + n
 k:nU S.inc ws
theorem aAf:∀(R:List P3) (S:Ex),(R.foldl (fun S p=>oM S p.1 p.2.1 p.2.2) S).hs.length≤S.hs.length + R.length
 | [],S=>Am _
 | p :: R,S=>by
  rw[BG,AK];have h1:=aAf R (oM S p.1 p.2.1 p.2.2);have h2:(oM S p.1 p.2.1 p.2.2).hs.length≤S.hs.length + 1:=cB _ _ _;omega
theorem EB.step{S S':Ex}{n:Nat}{ws:List Str}{r:c3}{z:Str}(h:EB S n ws)(ok:r.Ok ws)(st:jC S r.word r.ds z S'):EB S' (n + 1) ws:=by
 have rs:=ok.rs;have fi:=ok.fi;obtain⟨word,name,day,ds⟩:=r;obtain⟨a1,a2,a3,a4⟩:=h;dsimp only at rs st fi;cases rs with
 | @part land R hl hr h2 h6 ha=>
  obtain⟨_,rfl⟩:=st.fn (.part (land:=land) (R:=R));split
  ·refine⟨by rw[t6];omega,?_,by rw[mV];omega,by rw[mV];exact a4⟩;have h1:=aAf R { S with hs:=cA S.hs (Ac land) };have F:=nF S.hs (Ac land);have h4:(jO S land R).hs.length≤(cA S.hs (Ac land)).length + R.length:=h1;omega
  ·exact⟨by omega,by omega,by omega,a4⟩
 | @join land R hl hr h2 h6 ha=>
  obtain⟨_,rfl⟩:=st.fn (.join (land:=land) (R:=R));split
  ·refine⟨CM a1,?_,CM a3,a4⟩;have h1:=qE R S.hs;have F:=cB (R.foldl (fun d z=>cA d (Ac z)) S.hs) (Ac land) ((bS S.hs (Ac (R.headD ""))).getD .non);exact AI F (by omega)
  ·exact⟨by omega,by omega,by omega,a4⟩
 | @forfeit land house hl Y=>
  obtain⟨_,rfl⟩:=st.fn (.forfeit (land:=land) (house:=house));split
  ·have F:=cB S.hs (Ac land) (.str house);exact⟨CM a1,by show(bT _ _ _).length≤_;omega,CM a3,a4⟩
  ·exact⟨by omega,by omega,by omega,a4⟩
 | @measure field J Z h0 h1=>
  obtain⟨_,rfl⟩:=st.fn (.measure (field:=field) (n:=J));have F:=cB S.inc (Ac field) (.int J);refine⟨CM a1,by show S.hs.length≤_;omega,by show(bT _ _ _).length≤_;omega,fun y hy=>?_⟩;show∃ n,bS (bT _ _ _) _=_;rw[eB];by_cases e:(Ac y:Key)=Ac field
  ·rw[Ib e];exact⟨_,rfl⟩
  ·rw[Ia e];exact a4 y hy
 | @mend house q Y ho ae=>
  obtain⟨_,rfl⟩:=st.fn (.mend (a:=house) (b:=q));have F:=cB S.men (Ac house) (.str q);refine⟨?_,by show S.hs.length≤_;omega,by show S.inc.length≤_;omega,a4⟩;show(mJ _ _ _).length≤_;unfold mJ;split <;> omega
 | @alone house Y=>
  obtain⟨_,rfl⟩:=st.fn (.alone (a:=house));have F:=nF S.men (Ac house);refine⟨?_,by show S.hs.length≤_;omega,by show S.inc.length≤_;omega,a4⟩;show(mK _ _).length≤_;unfold mK;split <;> omega
 | @breach field n1 n2 n3 Z O M ai ab ad ag=>
  obtain⟨_,rfl⟩:=st.fn .breach;exact⟨by omega,by omega,by omega,a4⟩
 | @view field house n1 Z O M Y=>
  obtain⟨_,rfl⟩:=st.fn .view;exact⟨by omega,by omega,by omega,a4⟩
theorem EB.zero{Ls:List L4}(h:Ls.length≤8):EB (ex0 Ls) 0 (Ls.map (·.1)):=by
 refine⟨by rw[rJ];exact Am _,?_,?_,fun y z=>?_⟩
 ·unfold ex0;rw[lJ];have:=kC (Ls.map fun l=>((Ac l.1:Key),V.str l.2.1)) [];rw[Aa]at this;exact AI this (by simp;omega)
 ·unfold ex0;rw[iG];have:=kC (Ls.map fun l=>((Ac l.1:Key),V.int l.2.2.2)) [];rw[Aa]at this;exact AI this (by simp;omega)
 ·unfold ex0;rw[iG];obtain⟨l,hl,rfl⟩:=AR.mp z;obtain⟨v,hv⟩:=A2.mp (mU (fun l:L4=>l.1) (fun l:L4=>V.int l.2.2.2) (Ac l.1) Ls [] (.inr ⟨l,hl,rfl⟩));rcases iT _ _ _ _ _ _ hv with h | ⟨F,_,_,q⟩
  ·cases h
  ·exact⟨_,by rw[hv,q]⟩
theorem jC.idle{S S':Ex}{word:Str}{ds:List Bb}{z:Str}(h:jC S word ds z S')(n:z≠"done"):S'=S:=by
 cases h with
 | part=>exact Ia n
 | join=>exact Ia n
 | forfeit=>exact Ia n
 | measure=>exact absurd rfl n
 | @mend a b=>
  have:a∈rd S.men b:=by
   by_cases e:a∈rd S.men b
   ·exact e
   ·exact absurd (Ia e) n
  unfold mJ;rw[Ib this]
 | @alone a=>
  have:¬ (bS S.men (Ac a)).isSome=true:=fun e=>n (Ib e);unfold mK;rw[Ia this]
 | breach=>rfl
 | view=>rfl
theorem e9.lst{H:Hp}{W L:Ae}{B:WA}{sc:Int}{os:List UK}{own:UK→Str}{S:Ex}{xs ys:List V}(h:e9 H W B sc os own S)(e:H L=some (.lst xs))(n:L≠B.o):e9 (upd H L (.lst ys)) W B sc os own S:=by
 obtain⟨qs,o1,o2⟩:=h.o;have k:∀{b:Ae} {o:HO},H b=some o→(∀ xs,o≠.lst xs)→upd H L (.lst ys) b=some o:=fun{b o} e' n=>by
  rw[aG (bU e' e (n _))];exact e'
 exact⟨k h.d (fun _ z=>nomatch z),⟨qs,by rw[aG n.symm];exact o1,Paired.mapP o2 fun q u e=>k e (fun _ z=>nomatch z)⟩,k h.ow (fun _ z=>nomatch z),k h.me (fun _ z=>nomatch z),k h.ho (fun _ z=>nomatch z),k h.ic (fun _ z=>nomatch z),h.ac,h.ml,h.nd,h.ol,h.s1,h.s2,h.cn,h.ne,h.hv,h.ks,h.hl,h.so⟩
theorem e9.kept{H H':Hp}{W:Ae}{B:WA}{sc:Int}{os:List UK}{own:UK→Str}{S:Ex}(h:e9 H W B sc os own S)(k:cO [B.ow,B.me,B.ho,B.ic] H H'){b:Ae}{o:HO}(e:H b=some o)(n1:∀ xs,o≠.dT xs)(q:∀ xs,o≠.dK xs):H' b=some o:=k b o (fun z=>by
 simp only[Ak,Ao,or_false]at z;rcases z with z | z | z | z <;> rw[z]at e
 ·rw[h.ow]at e;cases e;exact n1 _ rfl
 ·rw[h.me]at e;cases e;exact q _ rfl
 ·rw[h.ho]at e;cases e;exact q _ rfl
 ·rw[h.ic]at e;cases e;exact q _ rfl) e
structure RSB(K:Ah)(H:Hp)(p c:Ae)(ns:List Int)(W:Ae)(B:WA)(sc:Int)(os:List UK)(own:UK→Str)(S:Ex)(fl lp:Ae)(ps:List Str):Prop where
 ce:(Rd H c (.lst (ns.map V.int))∧c≠fl)∨∀ H',SqL K H' c (ns.map V.int)
 sm:ns.length≤63
 wl:e9 H W B sc os own S
 ep:H lp=some (.lst (ps.map V.str))
 np:Nms ps
 p1:1≤ps.length
 p3:ps.length≤300
 pw:p ∉ [W,B.me,B.ho,B.ic]
 fo:fl≠B.o
 fp:fl≠lp
 pk:∃ iz,H p=some (.dK iz)
 fk:∃ xs,H fl=some (.lst xs)
structure Cur(H0 H:Hp)(p c:Ae)(a:Int)(fl:Ae)(fr:List Str):Prop where
 kx:cO [p,fl] H0 H
 ob:∃ l,0≤l∧H p=some (.dK (f6 c a l))
 ge:0≤a
 ef:H fl=some (.lst (fr.map V.str))
section
variable{K:Ah}{H0 H H':Hp}{p c:Ae}{ns:List Int}{a a':Int}{W:Ae}{B:WA}{sc:Int}{os:List UK}{own:UK→Str}{S:Ex}{fl lp:Ae}{fr:List Str}{ps:List Str}
theorem Cur.keep(b:RSB K H0 p c ns W B sc os own S fl lp ps)(h:Cur H0 H p c a fl fr){q:Ae}{o:HO}(e:H0 q=some o)(n1:q≠p)(z:q≠fl):H q=some o:=h.kx q o (by simp[n1,z]) e
theorem Cur.rd(b:RSB K H0 p c ns W B sc os own S fl lp ps)(h:Cur H0 H p c a fl fr):(Rd H c (.lst (ns.map V.int))∧c≠fl)∨∀ H',SqL K H' c (ns.map V.int):=by
 obtain⟨iz,hp⟩:=b.pk;rcases b.ce with⟨e | ⟨o',e⟩,n⟩ | e
 ·exact .inl ⟨.inl (Cur.keep b h e (bU e hp (fun z=>nomatch z)) n),n⟩
 ·exact .inl ⟨.inr ⟨o',Cur.keep b h e (bU e hp (fun z=>nomatch z)) n⟩,n⟩
 ·exact .inr e
theorem Cur.pen(b:RSB K H0 p c ns W B sc os own S fl lp ps)(h:Cur H0 H p c a fl fr):dD K H p c ns a:=
 ⟨h.ob,(h.rd b).elim (fun z=>.inl z.1) (fun z=>z H),h.ge,b.sm⟩
theorem Cur.tups(b:RSB K H0 p c ns W B sc os own S fl lp ps)(h:Cur H0 H p c a fl fr):d6 H0 H:=fun q xs e=>by
 obtain⟨iz,hp⟩:=b.pk;obtain⟨ys,hf⟩:=b.fk;exact Cur.keep b h e (bU e hp (fun z=>nomatch z)) (bU e hf (fun z=>nomatch z))
theorem Cur.wl(b:RSB K H0 p c ns W B sc os own S fl lp ps)(h:Cur H0 H p c a fl fr):e9 H W B sc os own S:=by
 have w:=b.wl;obtain⟨iz,hp⟩:=b.pk;obtain⟨ys,hf⟩:=b.fk;have F:=b.pw;simp only[Ak,Ao,or_false,not_or]at F;obtain⟨n1,n2,n3,n4⟩:=F;obtain⟨qs,o1,o2⟩:=w.o;have J:∀{q:Ae} {iz:List (Key×V)},H0 q=some (.dK iz)→p≠q→H q=some (.dK iz):=fun{q _} e n=>Cur.keep b h e n.symm (bU e hf (fun z=>nomatch z));exact⟨J w.d n1,⟨qs,Cur.keep b h o1 (bU o1 hp (fun z=>nomatch z)) b.fo.symm,UAt.on o2 (h.tups b)⟩,Cur.keep b h w.ow (bU w.ow hp (fun z=>nomatch z)) (bU w.ow hf (fun z=>nomatch z)),J w.me n2,J w.ho n3,J w.ic n4,w.ac,w.ml,w.nd,w.ol,w.s1,w.s2,w.cn,w.ne,w.hv,w.ks,w.hl,w.so⟩
theorem Cur.ep(b:RSB K H0 p c ns W B sc os own S fl lp ps)(h:Cur H0 H p c a fl fr):H lp=some (.lst (ps.map V.str)):=by
 obtain⟨iz,hp⟩:=b.pk;exact Cur.keep b h b.ep (bU b.ep hp (fun z=>nomatch z)) b.fp.symm
theorem Cur.draw(h:Cur H0 H p c a fl fr)(k:bA p H H')(J:dD K H' p c ns a'):Cur H0 H' p c a' fl fr:=by
 obtain⟨l,_,e⟩:=h.ob;have F:fl≠p:=bU h.ef e (fun z=>nomatch z);exact⟨fun q o n e=>k q o (h.kx q o n e) (fun z=>n (by simp[z])),J.ob,J.ge,k _ _ h.ef F⟩
theorem Cur.same(h:Cur H0 H p c a fl fr)(s:b9 H H'):Cur H0 H' p c a fl fr:=by
 obtain⟨l,hl,e⟩:=h.ob;exact⟨fun q o n e=>s _ _ (h.kx q o n e),⟨l,hl,s _ _ e⟩,h.ge,s _ _ h.ef⟩
theorem Cur.upd(b:RSB K H0 p c ns W B sc os own S fl lp ps)(h:Cur H0 H p c a fl fr){L:Ae}{o:HO}(n:H0 L=none):Cur H0 (L2.upd H L o) p c a fl fr:=by
 obtain⟨l,hl,e⟩:=h.ob;obtain⟨iz,hp⟩:=b.pk;obtain⟨ys,hf⟩:=b.fk;refine⟨fun q o z e=>?_,⟨l,hl,?_⟩,h.ge,?_⟩
 ·rw[aG (aJ e n)];exact h.kx q o z e
 ·rw[aG (aJ hp n)];exact e
 ·rw[aG (aJ hf n)];exact h.ef
theorem Cur.setF(h:Cur H0 H p c a fl fr)(ji:List Str):Cur H0 (L2.upd H fl (.lst (ji.map V.str))) p c a fl ji:=by
 obtain⟨l,hl,e⟩:=h.ob;have F:fl≠p:=bU h.ef e (fun z=>nomatch z);refine⟨fun q o J e=>?_,⟨l,hl,?_⟩,h.ge,aA⟩
 ·rw[aG (fun z=>J (by simp[z]))];exact h.kx q o J e
 ·rw[aG F.symm];exact e
theorem Cur.back(b:RSB K H0 p c ns W B sc os own S fl lp ps)(h:Cur H0 H p c a fl fr){L:Ae}(n:H L=none):H0 L=none:=by
 obtain⟨l,hl,e⟩:=h.ob;cases q:H0 L with
 | none=>rfl
 | some o=>
  rw[h.kx L o (by
   simp only[Ak,Ao,or_false,not_or];refine⟨fun z=>?_,fun z=>?_⟩
   ·rw[z,e]at n;cases n
   ·rw[z,h.ef]at n;cases n) q]at n
  cases n
theorem Cur.lst(h:Cur H0 H p c a fl fr){L:Ae}{xs:List V}(e:H L=some (.lst xs))(k:bA p H H'):H' L=some (.lst xs):=by
 obtain⟨l,hl,e2⟩:=h.ob;exact k _ _ e (bU e e2 (fun z=>nomatch z))
theorem Cur.tup(h:Cur H0 H p c a fl fr)(k:bA p H H'):d6 H H':=fun q xs e=>by
 obtain⟨l,hl,e2⟩:=h.ob;exact k _ _ e (bU e e2 (fun z=>nomatch z))
end
theorem t7{hs:List (Key×V)}(h:oO hs)(nd:(hs.map (·.1)).Nodup):∃ ks:List Str,hs.map (·.1)=ks.map Ac∧(∀ z∈ks,(bS hs (Ac z)).isSome=true)∧ks.Nodup:=by
 have q:∀ k∈hs.map (·.1),∃ z:Str,k=Ac z:=fun k F=>by
  have:(bS hs k).isSome=true:=by
   rw[← dX,Bu];obtain⟨kv,h1,h2⟩:=AR.mp F;exact⟨kv,h1,Ic h2⟩
  obtain⟨v,hv⟩:=A2.mp this;obtain⟨_,z,_,e⟩:=h k v hv;exact⟨z,e⟩
 have conv:∀ l:List Key,(∀ k∈l,∃ z:Str,k=Ac z)→∃ ks:List Str,l=ks.map Ac:=by
  intro l
  induction l with
  | nil=>intro _;exact⟨[],rfl⟩
  | cons k l O=>
   intro hl;obtain⟨z,rfl⟩:=hl k Al;obtain⟨ks,rfl⟩:=O fun j J=>hl j (Ap _ J);exact⟨z :: ks,rfl⟩
 obtain⟨ks,hks⟩:=conv _ q
 refine⟨ks,hks,fun z M=>?_,?_⟩
 ·rw[← dX,tT,hks,Bu];exact⟨Ac z,Ba M,Ic rfl⟩
 ·rw[hks]at nd;exact List.Pairwise.of_map Ac (fun a b h e=>h (by rw[e])) nd
theorem aE2(k:Nat):(Bl k [V.int 1]).flatten=(Bl k (1:Int)).map V.int:=by
 induction k with
 | zero=>rfl
 | succ k q=>rw[Cu,DG,q,Cu];rfl
structure xQ(sc:Int)(ws:List Str)(word:Str)(ds:List Bb)(fr:List Str):Prop where
 rs:kT word ds
 fi:FIn word ds ws
 sc:∀ name day,RSc sc ⟨word,name,day,ds⟩
 np:∀(land:Str) (R:List P3),word="part"→ds=[.str land,.tuple (R.map pD)]→∀ x∈R,x.1 ∉ fr
 nj:∀(land:Str) (R:List Str),word="join"→ds=[.tuple (R.map BK),.str land]→land ∉ fr∨∃ z∈R,z∈fr
def t8(S:Ex)(fr:List Str):Prop:=∀ z,aS S z=true→cJ z=true∧z ∉ fr
theorem aAg{l:List Str}{M:Nat}{y:Str}(h:l.length=M):(l.set (M - 1) y).dropLast=l.dropLast:=by
 rw[E5,E5,Cs,h,List.take_set_of_le (Am _)]
theorem aE3{l:List Str}{M:Nat}{y:Str}(h:l.length=M)(h1:1≤M):l.set (M - 1) y=l.dropLast ++ [y]:=by
 have e:(l.set (M - 1) y).dropLast ++ [y]=l.set (M - 1) y:=by
  have q:l.set (M - 1) y≠[]:=fun e=>by
   have:=congrArg Ca e;rw[Cs,h]at this;simp at this;omega
  have z:(l.set (M - 1) y).getLast q=y:=by
   rw[List.getLast_eq_getElem];simp[h]
  have:=D5 q;rw[z]at this;exact this
 rw[← e,aAg h]
theorem xR{l:List Str}(q:l≠[]):atI (l.map V.str) (-1)=some (.str (l.getLast q)):=by
 have e:l.map V.str=l.dropLast.map V.str ++ [V.str (l.getLast q)]:=by
  have:=congrArg (List.map V.str) (D5 q);rw[Az]at this;exact this.symm
 rw[e];exact jV _ _
theorem aCf{sc:Int}:∀{l:List Int},(∀ y∈l,sc ∣ y)→sc ∣ l.sum
 | [],_=>⟨0,by simp⟩
 | x :: r,h=>by
  rw[Cf];exact Int.dvd_add (h x (by simp)) (aCf fun y q=>h y (by simp[q]))
theorem _root_.List.Perm.sum_int{l m:List Int}(h:l.Perm m):l.sum=m.sum:=by
 induction h with
 | nil=>rfl
 | cons x _ q=>rw[Cf,Cf,q]
 | swap x y l=>simp only[Cf];omega
 | trans _ _ h1 h2=>rw[h1,h2]
theorem aAh{H:Hp}:∀{rs:List Ae}{R:List P3},By (aCS H) rs R→(∀ x∈R,cJ x.1=true∧cJ x.2.1=true)→cD false H (rs.map V.ref) (R.map pD)
 | _,_,.nil,_=>.nil
 | _,_,.cons (b:=x) h t,hn=>.cons (.tup h (by show 3≤_;decide) (.cons (gC (hn x (by simp)).1) (.cons (gC (hn x (by simp)).2) (.cons (.int _) .nil)))) (aAh t fun y q=>hn y (by simp[q]))
inductive v9(K:Ah)(vs:List V)(H:Hp)(Q:VK)(u3_:XK):Prop
 | mk (p c:Ae) (ns:List Int) (W:Ae) (B:WA) (sc:Int) (os:List UK) (own:UK→Str) (S:Ex) (fl lp:Ae) (ps fr:List Str) (a:Int) (q0:vs=[.ref p,.ref W,.ref fl,.ref lp]) (q1:RSB K H p c ns W B sc os own S fl lp ps) (q2:Cur H H p c a fl fr) (q3:a≤800000) (q4:Nms fr) (q5:8≤fr.length) (q6:fr.length≤300) (q7:t8 S fr) (q8:1≤S.hs.length) (q9:∀(t:Ae) (bZ:List V) (ds:List Bb) (a':Int) (ji:List Str) (H':Hp),Cur H H' p c a' fl ji→a≤a'→a'≤a + 200→(∀ z∈ji,z∈fr)→ji.Nodup→fr.length≤ji.length + 7→H' t=some (.tup bZ)→cD false H' bZ ds→(∀ ws,xQ sc ws "part" ds ji)→Q (.ref t) H'):v9 K vs H Q u3_
def aCg(K:Ah):Sp:=fun vs H Q u3_=>v9 K vs H Q u3_
theorem aCh:bY ["_law_pen_here","_law_world_here","_law_fresh","_law_pool","_law_stand","_law_land","_law_size","_law_many","_law_sizes","_law_k","_law_at","_law_names_here","_law_way","_law_acres","_law_parts"] ["_law_pen_here","_law_world_here","_law_fresh","_law_pool"] (aO vQ):=⟨rfl,rfl,rfl,by decide,rfl,by decide,by decide⟩
theorem tl{A B:TS}{σ:St}{H:Hp}{E:L2.Ends}(h:∀ R,R=B→aGY A R E σ H):aGY A B E σ H:=h B rfl
theorem aE4{f:Ae}{fd:A3}(F:Fun K "_law_part" "_law_part" vQ f fd)(ar:mg "len"=none)(cx:mg "sorted"=none)(eR:mg "min"=none)(eP:mg "max"=none)(br:mg "range"=none)(bP:mg "set"=none)(ea:mg "tuple"=none)
  (GD:Cl P w K mg base 1 "_law_draw" ["_law_pen_here","_law_many"] (oG K))
  (GU:Cl P w K mg base 1 "_law_units" ["_law_world_here","_law_land"] rK)
  :cP P w K mg base CX0 2 f fd ["_law_pen_here","_law_world_here","_law_fresh","_law_pool"] (aCg K):=by
 refine F.ok aCh (fun vs H Q E h=>?_) (fun hT A outer s H vs Q E hr h=>?_)
 ·obtain⟨p,c,ns,W,B,sc,os,own,S,fl,lp,ps,fr,a,rfl,_⟩:=h;rfl
 ·obtain⟨p,c,ns,W,B,sc,os,own,S,fl,lp,ps,fr,a,rfl,rb,cu,ha,hfr,hf8,hf3,hso,hh1,k⟩:=h;have hu:=d7 hr;have aI:dG 1 _:=hr.mono (by decide);have nd:=aCh.nd;refine⟨_,(aB (aX (i:=4) nd rfl (Ar rfl) (aW (iQ rfl) (by rfl) cx (by kernel_rfl) (aF (bJ hu (pv 1) aN Ig) aE)))
   (aB (aX (i:=5) nd rfl (Ar rfl) (aQ b8 (pv 4) (cM GD aI (aF (pv 0) (aF (aW bK (by rfl) ar AW (aF (pv 4) aE)) aE))) Ig))
   (aB (aX (i:=6) nd rfl (Ar rfl) (aW bK (by rfl) ar AW (aF (cM GU aI (aF (pv 1) (aF (pv 5) aE))) aE)))
   (aB (aX (i:=7) nd rfl (Ar rfl) (bC cX aD (cM GD aI (aF (pv 0) (aF (aW (mZ rfl) (by rfl) eR (by kernel_rfl) (aF aD (aF (aW (uT rfl) (by rfl) eP (by kernel_rfl) (aF aD (aF (bC kX (pv 6) aD) aE))) aE))) aE)))))
   (aB (aX (i:=8) nd rfl (Ar rfl) (bC aHb (c6 (aF aD aE)) (pv 7)))
   (aB (d8 A7 rfl (eJ rfl br (aF (bC kX (pv 6) (pv 7)) aE)) (g:=aU 9) (aR (i:=9) nd rfl (Ar rfl))
   (aB (aX (i:=10) nd rfl (Ar rfl) (cM GD aI (aF (pv 0) (aF (pv 7) aE))))
    (aM (iV (bC cX (aQ b8 (pv 8) (pv 10) Ig) aD) (pV (pv 8) (pv 10) jW)))))
   (aB (aX (i:=11) nd rfl (Dq rfl) (c5 (N:=["_law_k","_law_fresh"]) (src:=[none,some 2]) (osc:=aO vQ) (oN:=["_law_pen_here","_law_world_here","_law_fresh","_law_pool","_law_stand","_law_land","_law_size","_law_many","_law_sizes","_law_k","_law_at","_law_names_here","_law_way","_law_acres","_law_parts"]) ⟨by rfl,by decide,by decide,by decide,rfl,by rfl⟩ (eJ rfl br (aF (pv 7) aE)) (fun cl s H fp gz C=>⟨aR (i:=0) (show(["_law_k","_law_fresh"]:List Str).Nodup by decide) rfl (Ar rfl),c8,aFO (K:=K) A8 DD DC aDE (pv 1)⟩)))
   (aB (aX (i:=12) nd rfl (Ar rfl) (cM GD aI (aF (pv 0) (aF aD aE))))
   (aB (fP (cC (aZ oR (pv 12) aD (bG _)) (aM (iV (pv 5) (pV (pv 11) aD jW))) bB))
   (aB (fP (cC (wS (PW.pt (xW (aZ cT (pv 12) aD (bG _)) (wJ (aZ cT (pv 12) aD (bG _)))))) (aM (iV (aQ b8 (pv 4) (cM GD aI (aF (pv 0) (aF (aW bK (by rfl) ar AW (aF (pv 4) aE)) aE))) Ig) (pV (pv 11) (jU gL aD) jW))) bB))
   (aB (fP (cC (aZ oR (aW vO (by rfl) ar AW (aF (dL (vN rfl) (by rfl) bP (by kernel_rfl) (aF (pv 11) aE)) aE)) (pv 7) (bG _)) (aM (iV (aDC A8 DD DC aDE (pv 2)) (pV (pv 11) (jU gL aD) jW))) bB))
   (aB (aX (i:=13) nd rfl (Dq rfl) (c5 (N:=["_law_one","_law_world_here"]) (src:=[none,some 1]) (osc:=aO vQ) (oN:=["_law_pen_here","_law_world_here","_law_fresh","_law_pool","_law_stand","_law_land","_law_size","_law_many","_law_sizes","_law_k","_law_at","_law_names_here","_law_way","_law_acres","_law_parts"]) ⟨by rfl,by decide,by decide,by decide,rfl,by rfl⟩ (iP (pv 8)) (fun cl s H fp gz C=>⟨aR (i:=0) (show(["_law_one","_law_world_here"]:List Str).Nodup by decide) rfl (Ar rfl),c8,bC fX (pv 0) (bJ hu (pv 1) aN Ig)⟩)))
   (aB (fP (cC (aZ cT (pv 12) aD (bG _)) (aM (iV (bC cX (aQ b8 (pv 13) aD Ig) aD) (pV (pv 13) aD jW))) bB))
   (aB (fP (cC (aZ cT (pv 12) aD (bG _)) (aM (aX (i:=5) nd rfl (Ar rfl) (aQ b8 (pv 2) (jU gL aD) Ig))) bB))
   (aB (i0 (i:=14) (N:=["_law_k","_law_pen_here","_law_pool","_law_names_here","_law_acres"]) (src:=[none,some 0,some 3,some 11,some 13]) (osc:=aO vQ) (oN:=["_law_pen_here","_law_world_here","_law_fresh","_law_pool","_law_stand","_law_land","_law_size","_law_many","_law_sizes","_law_k","_law_at","_law_names_here","_law_way","_law_acres","_law_parts"]) ⟨by rfl,by decide,by decide,by decide,rfl,by rfl⟩ nd rfl (eJ rfl br (aF (pv 7) aE)) (fun cl s H fp gz C=>⟨aR (i:=0) (show(["_law_k","_law_pen_here","_law_pool","_law_names_here","_law_acres"]:List Str).Nodup by decide) rfl (Ar rfl),c8,cH (aF (aQ (r:=aDw K) b8 (pv 3) (pv 0) Ig) (aF (aQ (r:=aDw K) b8 (pv 2) (cM GD aI (aF (pv 1) (aF (aW (r:=lX K) bK (by rfl) ar AW (aF (pv 2) aE)) aE))) Ig) (aF (aQ (r:=aDw K) b8 (pv 4) (pv 0) Ig) aE)))⟩))
   (aM (bF (cH (aF (pv 5) (aF (dL eO (by rfl) ea (by kernel_rfl) (aF (aW uO (by rfl) cx (by kernel_rfl) (aF (pv 14) aE)) aE)) aE)))))))))))))))))))),?_⟩
  refine tl fun R hR=>?_;obtain⟨ks,hks,bW,hkn⟩:=t7 rb.wl.hv rb.wl.ks;have fR:ks.length=S.hs.length:=by
   have:=congrArg Ca hks;rw[Aa,Aa]at this;exact this.symm
  have hS:=rb.wl.hl;refine⟨_,rfl,W,_,rfl,(cu.wl rb).get (fF _ _),B.ho,S.hs,ks,rfl,(cu.wl rb).ho,hks,fun LS ms eK pm=>?_⟩;have sS:=aK (o:=.lst (ms.map V.str)) eK;have cf:=cu.same sS;have eS:upd H LS (.lst (ms.map V.str)) LS=some (.lst (ms.map V.str)):=aA;have fa:=cu.back rb eK;generalize upd H LS _=HS at cf eS ⊢;have hC:ms.length=S.hs.length:=by rw[pm.length_eq,fR]
  have ew:∀ z∈ms,aS S z=true:=fun z hz=>bW z (pm.mem_iff.mp hz);dsimp only[aU];subst hR;refine tl fun R hR=>?_;refine⟨_,rfl,_,rfl,_,rfl,LS,_,rfl,.inl (aY eS),p,c,ns,_,_,rfl,cf.pen rb,by omega,by rw[Aa];omega,gJ (by rw[Aa];omega),fun r1 a1 H1 fE ee l1 u1 fC q1=>?_⟩;have fc:=cf.draw q1 fC;have eN:=cf.lst eS q1;obtain⟨land,hland,hat1⟩:=fV fE ee;refine⟨LS,_,_,_,rfl,rfl,aY eN,hat1,?_⟩;have f2:=ew land hland;obtain⟨hlnm,hlfr⟩:=hso land f2;dsimp only[aU];subst hR;refine tl fun R hR=>?_;refine⟨_,rfl,_,rfl,W,B,sc,os,own,S,land,rfl,fc.wl rb,fun LU rs H2 h0 S2 fe hU=>?_⟩;have dd:=fc.same S2;have fy:=S2 _ _ eN;have fz:=hU.length;have fI:rs.length≤80:=by
   rw[fz];exact AI (BS _ _) rb.wl.ol
  refine⟨LU,_,rfl,.inl (aY fe),?_⟩;rw[Aa];generalize rs.length=z at fI ⊢;dsimp only[aU];subst hR;refine tl fun R hR=>?_;refine⟨_,rfl,_,rfl,_,_,rfl,rfl,_,_,rfl,_,_,rfl,p,c,ns,_,_,rfl,dd.pen rb,by omega,by split <;> split <;> omega,gJ (by split <;> split <;> omega),fun r3 a3 H3 hE e7 l3 u3 fw q3=>?_⟩;have g2:r3 < 5:=by
   split at e7 <;> split at e7 <;> omega
  have eb:=dd.draw q3 fw;have eX:=dd.lst fy q3;refine⟨_,_,rfl,rfl,?_⟩;obtain⟨M,hM⟩:∃ M:Nat,2 + r3=M:=⟨(2 + r3).toNat,by omega⟩
  rw[show V.int (2 + r3)=V.int (M:Int) from congrArg V.int hM];have hI:2≤M:=by omega
  have h7:M≤6:=by omega
  dsimp only[aU];subst hR;refine tl fun R hR=>?_;refine⟨zZ1,fun q hq=>⟨_,rfl,q,_,_,rfl,rfl,aA,by omega,by omega,aP (by show 1 * _≤1000000;omega),fun LZ dk=>?_⟩⟩;have sZ:=(aK (o:=.lst [V.int 1]) hq).trans (aK (o:=.lst (Bl (M:Int).toNat [V.int 1]).flatten) dk);have d4:=eb.same sZ;have ez:=sZ _ _ eX;have fZ:H LZ=none:=eb.back rb (dZ (aK (o:=.lst [V.int 1]) hq) dk);have e5:upd (upd H3 q (.lst [V.int 1])) LZ (.lst (Bl (M:Int).toNat [V.int 1]).flatten) LZ=some (.lst ((Bl M (1:Int)).map V.int)):=by rw[aA,B2,aE2]
  generalize upd (upd H3 q (.lst [V.int 1])) LZ _=H4 at sZ d4 ez e5 ⊢;dsimp only[aU];subst hR;refine tl fun R hR=>?_;have f5:LS≠LZ:=aJ eX (dZ (aK (o:=.lst [V.int 1]) hq) dk);refine⟨_,rfl,_,rfl,_,_,rfl,rfl,_,rfl,by omega,by omega,?_⟩;have gB:((z:Int) - (M:Int)).toNat≤78:=by omega
  refine mX (n:=((z:Int) - (M:Int)).toNat) (fun i σ H'=>Ex3 fun(o9 an:Option V) (a':Int)=>∃(zs:List Int),Aw6 (σ=[some (.ref p),some (.ref W),some (.ref fl),some (.ref lp),some (.ref LS),some (.str land),some (.int z),some (.int M),some (.ref LZ),o9,an,none,none,none,none]) (Cur H H' p c a' fl fr) (a3≤a') (a'≤a3 + i) (H' LS=some (.lst (ms.map V.str))) (Aw3 (H' LZ=some (.lst (zs.map V.int))) (zs.length=M) (∀ x∈zs,1≤x∧x≤1 + i))) ⟨none,none,a3,Bl M 1,rfl,d4,by omega,by omega,ez,e5,by simp,fun x J=>by rw[(List.mem_replicate.mp J).2];omega⟩ ?_ ?_
  ·rintro i σ H5 hi ⟨o9,an,a5,zs,rfl,aT,l5,u5,ca,cc,dn,bN⟩;dsimp only[aU];refine⟨_,rfl,_,rfl,p,c,ns,_,_,rfl,aT.pen rb,by omega,by omega,gJ (by omega),fun r6 a6 H6 hh hY l6 u6 fK q6=>?_⟩;have ai:=aT.draw q6 fK;have az:=aT.lst ca q6;have ax:=aT.lst cc q6;obtain⟨j,rfl⟩:∃ j:Nat,r6=j:=⟨r6.toNat,by omega⟩
   have hj:j < zs.length:=by omega
   have c9:atI (zs.map V.int) (j:Int)=some (.int zs[j]):=fU (by rw[An,Ai hj];rfl);have gi:ixN (zs.map V.int).length (j:Int)=some j:=by
    unfold ixN;rw[Ib (by omega),Ib (by rw[Aa];omega)];rfl
   dsimp only[aU];refine⟨_,rfl,_,rfl,LZ,_,_,_,rfl,rfl,aY ax,c9,_,_,rfl,rfl,_,rfl,_,rfl,LZ,_,_,j,rfl,rfl,ax,gi,?_⟩;have es:(zs.map V.int).set j (.int (zs[j] + 1))=(zs.set j (zs[j] + 1)).map V.int:=by rw[FC]
   rw[es];refine⟨_,_,a6,zs.set j (zs[j] + 1),rfl,ai.upd rb fZ,by omega,by omega,by rw[aG f5];exact az,aA,by rw[Cs];exact dn,fun x J=>?_⟩;rcases Do J with h | h
   ·have:=bN x h;omega
   ·have:=bN zs[j] (BI hj);omega
  ·rintro σ H5 ⟨o9,an,a5,zs,rfl,aT,l5,u5,ca,cc,dn,bN⟩;have eg:∀ x∈zs,1≤x∧x≤79:=fun x J=>by
    have:=bN x J;omega
   clear bN;have bi:(fr.reverse.take M).length=M:=by rw[AJ,List.length_reverse];omega
   subst hR;refine⟨_,rfl,_,rfl,by omega,by omega,?_⟩;refine gM (fun i ys σ' H'=>∃(o:Option V),Aw3 (σ'=[o,some (.ref fl)]) (Cur H H' p c a5 fl (fr.take (fr.length - i))) (Aw3 (H' LS=some (.lst (ms.map V.str))) (H' LZ=some (.lst (zs.map V.int))) (ys=(fr.reverse.take i).map V.str)))
    ⟨none,rfl,by rw[Gv,AM];exact aT,ca,cc,rfl⟩ (aP (by omega)) (fun i ys σ H p=>by obtain⟨_,_,_,_,_,rfl⟩:=p;rw[Aa,AJ];omega) ?_ ?_
   ·rintro i ys σ' H6 hi ⟨o,rfl,ai,az,ax,rfl⟩;have ii:i < 6:=by omega
    dsimp only[aU];refine eZ ?_;have eT:fr.length - i - 1 < fr.length:=by omega
    have hy:((fr.take (fr.length - i)).map V.str)[((fr.take (fr.length - i)).map V.str).length - 1]?=some (.str fr[fr.length - i - 1]):=by
     rw[Aa,AJ,C4 (by omega),An,Cm,Ib (by omega),Ai eT];rfl
    refine⟨_,rfl,.inl ⟨rfl,_,aY ai.ef⟩,fl,_,_,rfl,rfl,ai.ef,hy,?_⟩;have ed:((fr.take (fr.length - i)).map V.str).dropLast=(fr.take (fr.length - (i + 1))).map V.str:=by
     rw[← List.map_dropLast,E5,AJ,List.take_take,C4 (by omega:fr.length - i≤fr.length)];congr 2;omega
    rw[ed];have f3:LS≠fl:=fun e=>by rw[e,cu.ef]at fa;cases fa
    have dt:LZ≠fl:=fun e=>by rw[e,cu.ef]at fZ;cases fZ
    refine⟨_,rfl,ai.setF _,by rw[aG f3];exact az,by rw[aG dt];exact ax,?_⟩;rw[AE,Az];congr 1;rw[List.getElem?_reverse (by omega),show fr.length - 1 - i=fr.length - i - 1 by omega,Ai eT];rfl
   rintro ys σ' H6 ⟨o,rfl,ai,az,ax,rfl⟩ LN bR;rw[B2]at ai ⊢;have bM:=ai.back rb bR;have sN:=aK (o:=.lst ((fr.reverse.take M).map V.str)) bR;have gl:LS≠LN:=aJ az bR;have db:LZ≠LN:=aJ ax bR;have av:=ai.same sN;have df:=sN _ _ az;have c0:=sN _ _ ax;have b2:upd H6 LN (.lst ((fr.reverse.take M).map V.str)) LN=some (.lst ((fr.reverse.take M).map V.str)):=aA;generalize upd H6 LN _=H7 at av df c0 b2 ⊢;have b1:fr.reverse.take M=(fr.drop (fr.length - M)).reverse:=List.take_reverse;have du:fr.take (fr.length - M) ++ fr.drop (fr.length - M)=fr:=BR _ _;have bL:(fr.take (fr.length - M) ++ fr.drop (fr.length - M)).Nodup:=by rw[du];exact hfr.nd
   obtain⟨hndA,hndD,hdis⟩:=Bn.mp bL;have aq:∀ x∈fr.reverse.take M,cJ x=true∧x∈fr∧x ∉ fr.take (fr.length - M):=fun x J=>by
    rw[b1,List.mem_reverse]at J;have fg:=Di J;exact⟨hfr.ok x fg,fg,fun h=>hdis x h x J rfl⟩
   have cb:(fr.reverse.take M).Nodup:=by rw[b1];exact(DE _).nodup_iff.mpr hndD
   generalize fr.reverse.take M=nA at bi b1 aq cb b2 ⊢;have bj:∀ x∈fr.take (fr.length - M),x∈fr:=fun x J=>B8 J;have f1:(fr.take (fr.length - M)).length=fr.length - M:=by rw[AJ];omega
   generalize fr.take (fr.length - M)=O at av hndA hdis aq bj f1 du bL;clear b1 du bL hdis;dsimp only[aU];refine⟨_,rfl,p,c,ns,_,_,rfl,av.pen rb,by omega,by decide,by decide,fun r8 a8 H8 hB hG l8 u8 gg q8=>?_⟩;have da:=av.draw q8 gg;have dq:=av.lst df q8;have dl:=av.lst c0 q8;have dg:=av.lst b2 q8;have el:land ∉ O:=fun h=>hlfr (bj _ h);dsimp only[aU];have eq:∀{l:List Str},l.length=M→ixN (l.map V.str).length (-1)=some (M - 1):=fun{l} e=>by
    unfold ixN;rw[Ia (by decide),Ib (by rw[Aa];omega),Aa,e];congr 1;omega
   have eD:∀{α:Type} {l:List α},l.length=M→ixN l.length 0=some 0:=fun{α l} e=>by
    unfold ixN;rw[Ib (by decide),Ib (by omega)];rfl
   refine⟨fun σ' H'=>∃(nm:List Str),σ'=[some (.ref p),some (.ref W),some (.ref fl),some (.ref lp),some (.ref LS),some (.str land),some (.int z),some (.int M),some (.ref LZ),o9,an,some (.ref LN),some (.int r8),none,none]∧Cur H H' p c a8 fl O∧H' LS=some (.lst (ms.map V.str))∧H' LZ=some (.lst (zs.map V.int))∧H' LN=some (.lst (nm.map V.str))∧nm.length=M∧nm.Nodup∧∀ x∈nm,cJ x=true∧x ∉ O,?_,?_⟩
   ·refine⟨_,rfl,_,_,rfl,rfl,_,rfl,cR (fun g=>?_) fun g=>?_⟩
    ·refine⟨_,rfl,_,rfl,LN,_,_,0,rfl,rfl,dg,eD (by rw[Aa];exact bi),?_⟩;rw[show(nA.map V.str).set 0 (.str land)=(nA.set 0 land).map V.str by rw[FC]];have bP:nA.set 0 land=land :: nA.tail:=by
      cases nA with
      | nil=>simp at bi;omega
      | cons x r=>rfl
     refine⟨nA.set 0 land,rfl,da.upd rb bM,by rw[aG gl];exact dq,by rw[aG db];exact dl,aA,by rw[Cs];exact bi,?_,fun x J=>?_⟩
     ·rw[bP];exact AZ.mpr ⟨fun h=>hlfr (aq _ (List.mem_of_mem_tail h)).2.1,Dk (List.tail_sublist _) cb⟩
     ·rcases Do J with h | h
      ·exact⟨(aq x h).1,(aq x h).2.2⟩
      ·rw[h];exact⟨hlnm,el⟩
    ·exact⟨nA,rfl,da,dq,dl,dg,bi,cb,fun x J=>⟨(aq x J).1,(aq x J).2.2⟩⟩
   rintro σ' H9 ⟨nm,rfl,aL,dj,dr,di,aw,bD,bu⟩;clear dq dl dg df c0 b2 av da bi cb aq az ax ai ca cc aT;refine⟨fun σ' H'=>∃(nm:List Str) (a':Int),σ'=[some (.ref p),some (.ref W),some (.ref fl),some (.ref lp),some (.ref LS),some (.str land),some (.int z),some (.int M),some (.ref LZ),o9,an,some (.ref LN),some (.int r8),none,none]∧Cur H H' p c a' fl O∧a8≤a'∧a'≤a8 + 2∧H' LZ=some (.lst (zs.map V.int))∧H' LN=some (.lst (nm.map V.str))∧nm.length=M∧nm.dropLast.Nodup∧∀ x∈nm,cJ x=true∧x ∉ O,?_,?_⟩
   ·refine⟨fun b G=>G=H9,?_,?_⟩
    ·exact⟨_,rfl,rfl,_,rfl,cR (fun _=>rfl) fun _=>⟨_,rfl,rfl,_,rfl,rfl⟩⟩
    rintro b G rfl;refine cR (fun g=>?_) fun g=>?_
    ·refine⟨_,rfl,_,rfl,_,rfl,LS,_,rfl,.inl (aY dj),p,c,ns,_,_,rfl,aL.pen rb,by omega,by rw[Aa];omega,gJ (by rw[Aa];omega),fun ee fN ik dy et hA hO ei b6=>?_⟩;have eo:=aL.draw b6 ei;have dV:=aL.lst dj b6;have eH:=aL.lst dr b6;have ey:=aL.lst di b6;obtain⟨y,hy,haty⟩:=fV dy et;obtain⟨hynm,hyfr⟩:=hso y (ew y hy);refine⟨LS,_,_,_,rfl,rfl,aY dV,haty,_,rfl,_,rfl,LN,_,_,M - 1,rfl,rfl,ey,eq aw,?_⟩;rw[show(nm.map V.str).set (M - 1) (.str y)=(nm.set (M - 1) y).map V.str by rw[FC]];refine⟨nm.set (M - 1) y,fN,rfl,eo.upd rb bM,by omega,by omega,by rw[aG db];exact eH,aA,by rw[Cs];exact aw,?_,fun x J=>?_⟩
     ·rw[aAg aw];exact Dk (List.dropLast_sublist _) bD
     ·rcases Do J with h | h
      ·exact bu x h
      ·rw[h];exact⟨hynm,fun h=>hyfr (bj _ h)⟩
    ·exact⟨nm,a8,rfl,aL,by omega,by omega,dr,di,aw,Dk (List.dropLast_sublist _) bD,bu⟩
   rintro σ' ev ⟨Y,bh,rfl,cj,hF,hP,cI,bO,ah,bw,ag⟩;clear dj dr di aL aw bD bu;refine⟨fun σ' H'=>∃(nm:List Str) (fB:List Str),σ'=[some (.ref p),some (.ref W),some (.ref fl),some (.ref lp),some (.ref LS),some (.str land),some (.int z),some (.int M),some (.ref LZ),o9,an,some (.ref LN),some (.int r8),none,none]∧Cur H H' p c bh fl fB∧(∀ x∈fB,x∈O)∧fB.Nodup∧O.length≤fB.length + 1∧H' LZ=some (.lst (zs.map V.int))∧H' LN=some (.lst (nm.map V.str))∧nm.length=M∧nm.Nodup∧∀ x∈nm,cJ x=true∧x ∉ fB,?_,?_⟩
   ·refine⟨_,rfl,LN,Y,rfl,aY bO,by omega,fun u eu=>?_⟩;have su:=aK (o:=yQ P w u Y) eu;have be:=cj.same su;have cv:=su _ _ cI;have ci:=su _ _ bO;refine⟨u,Y,rfl,aA,by omega,_,rfl,_,_,rfl,rfl,_,rfl,cR (fun g=>?_) fun g=>?_⟩
    ·have b3:O.length - 1 < O.length:=by omega
     have hy:(O.map V.str)[(O.map V.str).length - 1]?=some (.str O[O.length - 1]):=by
      rw[Aa,An,Ai b3];rfl
     refine⟨_,rfl,.inl ⟨rfl,_,aY be.ef⟩,fl,_,_,rfl,rfl,be.ef,hy,?_⟩;rw[← List.map_dropLast];have ec:=be.setF O.dropLast;have gu:LN≠fl:=fun e=>by rw[e,cu.ef]at bM;cases bM
     have dt:LZ≠fl:=fun e=>by rw[e,cu.ef]at fZ;cases fZ
     have eh:upd (upd ev u (yQ P w u Y)) fl (.lst (O.dropLast.map V.str)) LN=some (.lst (Y.map V.str)):=by rw[aG gu];exact ci
     have eW:upd (upd ev u (yQ P w u Y)) fl (.lst (O.dropLast.map V.str)) LZ=some (.lst (zs.map V.int)):=by rw[aG dt];exact cv
     refine⟨_,rfl,_,rfl,LN,_,_,M - 1,rfl,rfl,eh,eq ah,?_⟩;have cs:O.dropLast ++ [O[O.length - 1]]=O:=by
      have bv:O≠[]:=fun e=>by rw[e]at b3;simp at b3
      rw[← List.getLast_eq_getElem bv];exact D5 bv
     have cq:(O.dropLast ++ [O[O.length - 1]]).Nodup:=by rw[cs];exact hndA
     obtain⟨hd1,_,hd3⟩:=Bn.mp cq;have bo:O[O.length - 1]∈O:=BI b3;generalize O[O.length - 1]=f0 at cs cq hd3 bo;rw[show(Y.map V.str).set (M - 1) (.str f0)=(Y.set (M - 1) f0).map V.str by rw[FC]];have cL:∀ x∈O.dropLast,x∈O:=fun x J=>List.dropLast_subset _ J;refine⟨Y.set (M - 1) f0,O.dropLast,rfl,ec.upd rb bM,cL,hd1,by rw[List.length_dropLast];omega,by rw[aG db];exact eW,aA,by rw[Cs];exact ah,?_,fun x J=>?_⟩
     ·rw[aE3 ah (by omega)];refine Bn.mpr ⟨bw,by simp,fun x J y hy e=>?_⟩;rw[AF.mp hy]at e;exact(ag x (List.dropLast_subset _ J)).2 (by rw[e];exact bo)
     ·rcases Do J with h | h
      ·exact⟨(ag x h).1,fun h'=>(ag x h).2 (cL _ h')⟩
      ·rw[h];exact⟨hfr.ok _ (bj _ bo),fun h'=>hd3 f0 h' f0 (by simp) rfl⟩
    ·refine⟨Y,O,rfl,be,fun x J=>J,hndA,by omega,cv,ci,ah,?_,ag⟩;have h6:¬ (((hV (fun i=>Y.getD i "") Y.length).length:Nat):Int) < (M:Int):=fun h=>g (Ic h);have io:=pB (fun i=>Y.getD i "") Y.length;have:=aCI Y;rw[Ic (by omega)]at this;exact Ie this.symm
   rintro σ' fx ⟨Z,fB,rfl,bc,e4,fO,e3,bd,bE,fW,c1,bn⟩;clear cI bO cj ah bw ag;refine⟨_,rfl,LZ,rfl,⟨_,aY bd⟩,?_⟩;have s1:=rb.wl.s1;have s2:=rb.wl.s2;refine m6 (K:=K) (xs:=zs.map V.int) (fun i ys σ' H'=>∃(o:Option V),σ'=[o,some (.ref W)]∧H'=fx∧ys=((zs.take i).map fun x=>x * sc).map V.int) ⟨none,rfl,rfl,rfl⟩ (aP (by rw[Aa];omega)) (fun i ys σ H p=>by obtain⟨_,_,_,rfl⟩:=p;rw[Aa,Aa,AJ];omega) (fun i ys σ H p=>by obtain⟨_,_,rfl,_⟩:=p;exact aY bd) ?_ ?_
   ·rintro i v ys σ' c2 hv ⟨o,rfl,rfl,rfl⟩;rw[An]at hv;obtain⟨x,J,rfl⟩:=AG.mp hv;dsimp only[aU];refine eZ ?_;refine⟨_,rfl,_,rfl,W,_,rfl,(bc.wl rb).get (aB3 _ _),_,_,rfl,rfl,.inr ⟨by omega,by omega⟩,_,rfl,rfl,?_⟩;rw[AE,J,Az,Az];rfl
   rintro ys σ' c2 ⟨o,rfl,rfl,rfl⟩ LA b5;rw[Aa,AM];have gr:=bc.back rb b5;have hw:LZ≠LA:=aJ bd b5;have fD:LN≠LA:=aJ bE b5;have sA:=aK (o:=.lst ((zs.map fun x=>x * sc).map V.int)) b5;have bI:=bc.same sA;have bq:=sA _ _ bE;have a0:upd c2 LA (.lst ((zs.map fun x=>x * sc).map V.int)) LA=some (.lst ((zs.map fun x=>x * sc).map V.int)):=aA;generalize upd c2 LA _=ih at bI bq a0 ⊢;have ay:∀ y∈zs.map (fun x=>x * sc),1≤y∧y≤9000000∧sc ∣ y:=fun y hy=>by
    obtain⟨x,J,rfl⟩:=AR.mp hy;have hb:=eg x J;have h1:1 * sc≤x * sc:=CV hb.1 (by omega);have h2:x * sc≤79 * sc:=CV hb.2 (by omega);exact⟨by omega,by omega,Int.dvd_mul_left _ _⟩
   have ak:(zs.map fun x=>x * sc).length=M:=by rw[Aa];exact dn
   generalize zs.map (fun x=>x * sc)=as at ay ak a0;dsimp only[aU];refine⟨fun σ' H'=>∃(bs:List Int),σ'=[some (.ref p),some (.ref W),some (.ref fl),some (.ref lp),some (.ref LS),some (.str land),some (.int z),some (.int M),some (.ref LZ),o9,an,some (.ref LN),some (.int r8),some (.ref LA),none]∧Cur H H' p c bh fl fB∧H' LN=some (.lst (Z.map V.str))∧H' LA=some (.lst (bs.map V.int))∧bs.length=M∧(∀ y∈bs,1≤y∧y≤10000000)∧((∀ y∈bs,sc ∣ y)∨¬ sc ∣ bs.sum),?_,?_⟩
   ·refine⟨_,rfl,rfl,_,rfl,?_⟩;have au:=bI;have ap:=bq;have aj:=a0;refine cR (fun g=>?_) fun g=>?_
    ·cases as with
     | nil=>simp at ak;omega
     | cons x r=>
     have gb:=ay x Al;refine⟨_,rfl,LA,_,_,_,rfl,rfl,aY aj,fU (j:=0) rfl,_,_,rfl,rfl,_,rfl,LA,_,_,0,rfl,rfl,aj,eD (by rw[Aa];exact ak),(x + 1) :: r,rfl,au.upd rb gr,by rw[aG fD];exact ap,aA,ak,fun y hy=>?_,?_⟩
     ·rcases Ak.mp hy with rfl | hy
      ·omega
      ·have:=ay y (Ap _ hy);omega
     ·by_cases e1:sc=1
      ·exact .inl fun y _=>by rw[e1];exact Int.one_dvd _
      ·refine .inr fun hd=>?_;rw[Cf]at hd;have h1:sc ∣ r.sum:=aCf fun y hy=>(ay y (Ap _ hy)).2.2;have h2:sc ∣ x + r.sum:=Int.dvd_add gb.2.2 h1;have h3:sc ∣ 1:=by
        have:=Int.dvd_sub hd h2
        rwa [show x + 1 + r.sum - (x + r.sum)=1 by omega]at this
       have:=Int.le_of_dvd (by decide) h3;omega
    ·exact⟨as,rfl,au,ap,aj,ak,fun y hy=>⟨(ay y hy).1,by have:=(ay y hy).2.1;omega⟩,.inl fun y hy=>(ay y hy).2.2⟩
   rintro σ' hZ ⟨bs,rfl,au,ap,aj,hk,ff,gw⟩;clear bq a0 bI ay ak bd bE bc;refine⟨fun σ' H'=>∃(aa:Str),σ'=[some (.ref p),some (.ref W),some (.ref fl),some (.ref lp),some (.ref LS),some (.str aa),some (.int z),some (.int M),some (.ref LZ),o9,an,some (.ref LN),some (.int r8),some (.ref LA),none]∧Cur H H' p c bh fl fB∧H' LN=some (.lst (Z.map V.str))∧H' LA=some (.lst (bs.map V.int))∧cJ aa=true,?_,?_⟩
   ·refine⟨_,rfl,rfl,_,rfl,?_⟩;have ao:=au;have bb:=ap;have ba:=aj;refine cR (fun g=>?_) fun g=>?_
    ·have bv:fB≠[]:=fun e=>by rw[e]at e3;simp at e3;omega
     have c9:=xR bv;exact⟨_,rfl,_,rfl,fl,_,_,_,rfl,rfl,aY ao.ef,c9,_,rfl,ao,bb,ba,hfr.ok _ (bj _ (e4 _ (EL bv)))⟩
    ·exact⟨land,rfl,ao,bb,ba,hlnm⟩
   rintro σ' ie ⟨aa,rfl,ao,bb,ba,d3⟩;clear ap aj au;refine⟨_,rfl,_,rfl,by omega,by omega,?_⟩;refine gM (fun i ys σ' H'=>Ex3 fun(o:Option V) (a':Int) (rs:List Ae)=>∃(T:List P3),Aw6 (σ'=[o,some (.ref p),some (.ref lp),some (.ref LN),some (.ref LA)]) (Cur H H' p c a' fl fB) (bh≤a') (a'≤bh + i) (H' LN=some (.lst (Z.map V.str))) (Aw6 (H' LA=some (.lst (bs.map V.int))) (ys=rs.map V.ref) (By (aCS H') rs T) (T.length=i) (T.map (·.1)=Z.take i) ((T.map fun x=>x.2.2)=bs.take i∧∀ x∈T,cJ x.2.1=true)))
    ⟨none,bh,[],[],rfl,ao,by omega,by omega,bb,ba,rfl,.nil,rfl,rfl,rfl,fun x J=>by simp at J⟩ (aP (by omega)) (fun i ys σ H p=>by
     obtain⟨_,_,rs,T,_,_,_,_,_,_,rfl,pr,e,_⟩:=p;have:=pr.length;rw[Aa];omega) ?_ ?_
   ·rintro i ys σ' dc hi ⟨o,d5,rs,T,rfl,ab,gm,eE,bp,cy,rfl,pr,b4,bg,aC,de⟩;have bW:i < Z.length:=by omega
    have fb:i < bs.length:=by omega
    have eA:atI (Z.map V.str) (0 + (i:Int))=some (.str Z[i]):=by
     rw[DO];exact fU (by rw[An,Ai bW];rfl)
    have eL:atI (bs.map V.int) (0 + (i:Int))=some (.int bs[i]):=by
     rw[DO];exact fU (by rw[An,Ai fb];rfl)
    have gk:=ab.ep rb;have gA:=rb.p1;have g5:=rb.p3;dsimp only[aU];refine eZ ?_;refine⟨_,rfl,_,rfl,LN,_,_,_,rfl,rfl,aY bp,eA,_,rfl,_,rfl,_,rfl,lp,_,rfl,.inl (aY gk),p,c,ns,_,_,rfl,ab.pen rb,by omega,by rw[Aa];omega,gJ (by rw[Aa];omega),fun il gx em fj d2 h5 h9 en b7=>?_⟩;have cz:=ab.draw b7 en;have dz:=ab.lst bp b7;have cw:=ab.lst cy b7;obtain⟨hz,hhz,hatz⟩:=fV fj d2;refine⟨lp,_,_,_,rfl,rfl,aY (cz.ep rb),hatz,_,rfl,_,rfl,LA,_,_,_,rfl,rfl,aY cw,eL,zZ3,fun u gj=>?_⟩;have su:=aK (o:=.tup [V.str Z[i],.str hz,.int bs[i]]) gj;refine⟨_,gx,rs ++ [u],T ++ [(Z[i],hz,bs[i])],rfl,cz.same su,by omega,by omega,su _ _ dz,su _ _ cw,by rw[Az];rfl,?_,by rw[AD,b4];rfl,?_,?_,fun x J=>?_⟩
    ·exact BY (R:=aCS (upd em u (.tup [V.str Z[i],.str hz,.int bs[i]]))) (a:=u) (b:=(Z[i],hz,bs[i])) (show upd em u (.tup [V.str Z[i],.str hz,.int bs[i]]) u=some (.tup [V.str Z[i],.str hz,.int bs[i]]) from aA) (Paired.mapP pr fun r x e=>su _ _ (ab.tup b7 _ _ e))
    ·rw[Az,bg,AE,Ai bW];rfl
    ·rw[Az,aC,AE,Ai fb];rfl
    ·rcases AS.mp J with J | J
     ·exact de x J
     ·rw[AF.mp J];exact rb.np.ok _ hhz
   rintro ys σ' dc ⟨o,d5,rs,T,rfl,ab,gm,eE,bp,cy,rfl,pr,b4,bg,aC,de⟩ LP fu;rw[B2]at b4 bg aC eE;rw[Bg (by omega)]at bg aC;have sP:=aK (o:=.lst (rs.map V.ref)) fu;have gv:By (aCS (upd dc LP (.lst (rs.map V.ref)))) rs T:=Paired.mapP pr fun r x e=>sP _ _ e;refine⟨_,rfl,_,rfl,LP,rs,T,rfl,aA,gv,by omega,fun l bt R hl perm ej=>?_⟩;have sl:=aK (o:=.lst (bt.map V.ref)) hl;refine⟨l,_,rfl,.inl ⟨aY aA,fun tp gp=>?_⟩⟩;have e6:=aK (o:=.tup (bt.map V.ref)) gp;refine⟨zZ2,fun t ht=>?_⟩;have dm:=aK (o:=.tup [V.str aa,.ref tp]) ht;have e0:=((sP.trans sl).trans e6).trans dm;have hD:R.length=M:=by rw[perm.length_eq,b4]
   have b0:∀ x∈R,cJ x.1=true∧cJ x.2.1=true∧1≤x.2.2∧x.2.2≤10000000∧x.1 ∉ fB:=fun x J=>by
    have dh:=perm.mem_iff.mp J;have h1:x.1∈Z:=by rw[← bg];exact Ba dh
    have h2:x.2.2∈bs:=by rw[← aC];exact Ba (f:=fun x:P3=>x.2.2) dh
    exact⟨(bn _ h1).1,de x dh,(ff _ h2).1,(ff _ h2).2,(bn _ h1).2⟩
   have ek:(R.map pD).all qP=true:=by
    rw[A5];intro d hd;obtain⟨x,J,rfl⟩:=AR.mp hd;obtain⟨h1,h2,h3,h4,_⟩:=b0 x J;show(cJ x.1 && cJ x.2.1 && decide (1≤x.2.2∧x.2.2≤10000000))=true;rw[h1,h2,Ic ⟨h3,h4⟩];rfl
   have gc:cD false _ (bt.map V.ref) (R.map pD):=aAh (H:=upd (upd (upd (upd dc LP (.lst (rs.map V.ref))) l (.lst (bt.map V.ref))) tp (.tup (bt.map V.ref))) t (.tup [V.str aa,.ref tp])) (Paired.mapP ej fun r x e=>dm _ _ (e6 _ _ (sl _ _ e))) fun x J=>⟨(b0 x J).1,(b0 x J).2.1⟩
   have fh:(R.map fun x=>x.2.2).sum=bs.sum:=by
    rw[← aC];exact(perm.map _).sum_int
   have hN:=ej.length;refine k t _ [.str aa,.tuple (R.map pD)] d5 fB _ (ab.same e0) (by omega) (by omega) (fun x J=>bj _ (e4 _ J)) fO (by omega) aA (.cons (gC d3) (.cons (.tup (dm _ _ aA) (by rw[Aa];omega) gc) .nil)) fun ws=>⟨.part d3 ((perm.map (·.1)).nodup_iff.mpr (by rw[bg];exact c1)) (by omega) (by omega) ek,fun h=>absurd h (by decide),fun name day bx R' _ e=>?_,fun bx R' _ e x J=>?_,fun bx R' e=>absurd e (by decide)⟩
   ·injection e with e1 e2;injection e2 with e2;injection e2 with e2;have:=nE aBj e2;subst this;rcases gw with h | h
    ·refine .inl fun x J=>h _ ?_;rw[← aC];exact Ba (f:=fun x:P3=>x.2.2) (perm.mem_iff.mp J)
    ·refine .inr ?_;rw[fh];exact h
   ·injection e with e1 e2;injection e2 with e2;injection e2 with e2;have:=nE aBj e2;subst this;exact(b0 x J).2.2.2.2
theorem wA:∀(l:List Str) (j:Nat),(l.map V.str).eraseIdx j=(l.eraseIdx j).map V.str
 | [],_=>rfl
 | x :: r,0=>rfl
 | x :: r,j + 1=>by
  show V.str x :: (r.map V.str).eraseIdx j=V.str x :: (r.eraseIdx j).map V.str;rw[wA r j]
inductive wB(K:Ah)(vs:List V)(H:Hp)(Q:VK)(u3_:XK):Prop
 | mk (p c:Ae) (ns:List Int) (W:Ae) (B:WA) (sc:Int) (os:List UK) (own:UK→Str) (S:Ex) (fl lp:Ae) (ps fr:List Str) (a:Int) (q0:vs=[.ref p,.ref W,.ref fl]) (q1:RSB K H p c ns W B sc os own S fl lp ps) (q2:Cur H H p c a fl fr) (q3:a≤800000) (q4:Nms fr) (q5:8≤fr.length) (q6:fr.length≤300) (q7:t8 S fr) (q8:1≤S.hs.length) (q9:S.hs.length≤300) (q10:∀(t:Ae) (bZ:List V) (ds:List Bb) (a':Int) (ji:List Str) (H':Hp),Cur H H' p c a' fl ji→a≤a'→a'≤a + 400→(∀ z∈ji,z∈fr)→ji.Nodup→fr.length≤ji.length + 7→H' t=some (.tup bZ)→cD false H' bZ ds→(∀ ws,xQ sc ws "join" ds ji)→Q (.ref t) H'):wB K vs H Q u3_
def aCi(K:Ah):Sp:=fun vs H Q u3_=>wB K vs H Q u3_
theorem aCj:bY ["_law_pen_here","_law_world_here","_law_fresh","_law_stand","_law_way","_law_house","_law_some","_law_new"] ["_law_pen_here","_law_world_here","_law_fresh"] (aO aBR):=⟨rfl,rfl,rfl,by decide,rfl,by decide,by decide⟩
theorem aE5{f:Ae}{fd:A3}(F:Fun K "_law_join" "_law_join" aBR f fd)(ad:mg "len"=none)(bp:mg "sorted"=none)(eN:mg "set"=none)(db:mg "tuple"=none)
  (GD:Cl P w K mg base 1 "_law_draw" ["_law_pen_here","_law_many"] (oG K))
  :cP P w K mg base CX0 2 f fd ["_law_pen_here","_law_world_here","_law_fresh"] (aCi K):=by
 refine F.ok aCj (fun vs H Q E h=>?_) (fun fq A outer s H vs Q E hr h=>?_)
 ·obtain⟨p,c,ns,W,B,sc,os,own,S,fl,lp,ps,fr,a,rfl,_⟩:=h;rfl
 ·obtain⟨p,c,ns,W,B,sc,os,own,S,fl,lp,ps,fr,a,rfl,rb,cu,ha,hfr,hf8,hf3,hso,hh1,hh3,k⟩:=h;have hu:=d7 hr;have nd:=aCj.nd;refine⟨_,(aB (aX (i:=3) nd rfl (Ar rfl) (aW (iQ rfl) (by rfl) bp (by kernel_rfl) (aF (bJ hu (pv 1) aN Ig) aE)))
   (aB (aX (i:=4) nd rfl (Dq rfl) (cM GD hr (aF (pv 0) (aF aD aE))))
   (aB (aX (i:=5) nd rfl (Dq rfl) (bJ hu (bJ hu (pv 1) aN Ig) (aQ b8 (pv 3) (cM GD hr (aF (pv 0) (aF (aW bK (by rfl) ad AW (aF (pv 3) aE)) aE))) Ig) Ig))
   (aB (i0 (i:=6) (N:=["_law_land","_law_world_here","_law_way","_law_house"]) (src:=[none,some 1,some 4,some 5]) (osc:=aO aBR) (oN:=["_law_pen_here","_law_world_here","_law_fresh","_law_stand","_law_way","_law_house","_law_some","_law_new"]) ⟨by rfl,by decide,by decide,by decide,rfl,by rfl⟩ nd rfl (iP (pv 3)) (fun cl s H fp gz C=>⟨aR (i:=0) (show(["_law_land","_law_world_here","_law_way","_law_house"]:List Str).Nodup by decide) rfl (Ar rfl),m5 (PW.pt (xW (aZ cT (bJ hu (bJ hu (pv 1) aN Ig) (pv 0) Ig) (pv 3) (bG _)) (wJ (aZ cT (pv 2) aD (bG _))))),pv 0⟩))
   (aB (fP (rM A7 (aZ aBs (aW bK (by rfl) ad AW (aF (pv 6) aE)) (bC cX aD (bC eV (pv 4) aD)) (bG _))
   (aM (dP (j0 A8 DD DC yC (pv 6) (aF (cM GD hr (aF (pv 0) (aF (aW bK (by rfl) ad AW (aF (pv 6) aE)) aE))) aE))))))
   (aB (fP (cC (wS (PW.pt (xW (aZ oR (aW bK (by rfl) ad AW (aF (pv 6) aE)) aD (bG _)) (wJ (aZ cT (pv 4) aD (bG _)))))) (aM (aX (i:=6) nd rfl (Ar rfl) (bC aAK (g8 wO (pv 6) jE (jF aD)) (c6 (aF (aQ b8 (pv 2) (jU gL aD) Ig) aE))))) bB))
   (aB (aX (i:=7) nd rfl (Ar rfl) (j0 A8 DD DC yC (pv 2) (aF aD aE)))
   (aB (fP (cC (aZ jX (pv 4) (cH (aF aD (aF aD (aF aD aE)))) (by with_unfolding_all rfl)) (aM (aX (i:=7) nd rfl (Ar rfl) (aQ b8 (pv 6) (cM GD hr (aF (pv 0) (aF (aW bK (by rfl) ad AW (aF (pv 6) aE)) aE))) Ig))) bB))
   (aB (fP (cC (aZ cT (pv 4) aD (bG _)) (aM (aX (i:=7) nd rfl (Ar rfl) (aQ b8 (pv 3) (cM GD hr (aF (pv 0) (aF (aW bK (by rfl) ad AW (aF (pv 3) aE)) aE))) Ig))) bB))
   (aM (bF (cH (aF (dL eO (by rfl) db (by kernel_rfl) (aF (aW uN (by rfl) bp (by kernel_rfl) (aF (pv 6) aE)) aE)) (aF (pv 7) aE)))))))))))))),?_⟩
  refine K09.tl fun R hR=>?_;obtain⟨ks,hks,hin,hkn⟩:=t7 rb.wl.hv rb.wl.ks;have dm:ks.length=S.hs.length:=by
   have:=congrArg Ca hks;rw[Aa,Aa]at this;exact this.symm
  refine⟨_,rfl,W,_,rfl,(cu.wl rb).get (fF _ _),B.ho,S.hs,ks,rfl,(cu.wl rb).ho,hks,fun M q cj pm=>?_⟩;have sS:=aK (o:=.lst (q.map V.str)) cj;have bh:=cu.same sS;have eS:upd H M (.lst (q.map V.str)) M=some (.lst (q.map V.str)):=aA;have c9:=cu.back rb cj;generalize upd H M _=HS at bh eS ⊢;have fe:q.length=S.hs.length:=by rw[pm.length_eq,dm]
  have am:∀ z∈q,aS S z=true:=fun z hz=>hin z (pm.mem_iff.mp hz);have ed:q.Nodup:=pm.nodup_iff.mpr hkn;dsimp only[aU];subst hR;refine K09.tl fun R hR=>?_;refine⟨_,rfl,p,c,ns,_,_,rfl,bh.pen rb,by omega,by decide,by decide,fun r1 a1 H1 fb eT l1 u1 dw q1=>?_⟩;have bg:=bh.draw q1 dw;have cx:=bh.lst eS q1;dsimp only[aU];subst hR;refine K09.tl fun R hR=>?_;refine⟨_,rfl,W,_,rfl,(bg.wl rb).get (fF _ _),_,rfl,_,rfl,_,rfl,M,_,rfl,.inl (aY cx),p,c,ns,_,_,rfl,bg.pen rb,by omega,by rw[Aa];omega,gJ (by rw[Aa];omega),fun r2 a2 H2 eb em l2 u2 dz q2=>?_⟩;have aT:=bg.draw q2 dz;have ay:=bg.lst cx q2;obtain⟨y,hy,haty⟩:=fV eb em;obtain⟨vy,hvy⟩:=A2.mp (show(bS S.hs (Ac y)).isSome=true from am y hy);obtain⟨hou,_,rfl,_⟩:=rb.wl.hv _ _ hvy;refine⟨M,_,_,_,rfl,rfl,aY ay,haty,B.ho,_,rfl,.inl ⟨S.hs,Ac y,.inl (aT.wl rb).ho,rfl,hvy.symm⟩,?_⟩;dsimp only[aU];subst hR;obtain⟨ff,hff⟩:∃ ff:Str→Bool,ff=fun z=>decide (bS S.hs (Ac z)=some (.str hou)) || decide (r1=0):=⟨_,rfl⟩
  refine⟨_,rfl,M,rfl,⟨_,aY ay⟩,?_⟩;refine m6 (K:=K) (xs:=q.map V.str) (fun i ys σ' H'=>∃(o:Option V),σ'=[o,some (.ref W),some (.int r1),some (.str hou)]∧H'=H2∧ys=((q.take i).filter ff).map V.str) ⟨none,rfl,rfl,rfl⟩ (aP (by rw[Aa];omega)) (fun i ys σ H p=>by obtain⟨_,_,_,rfl⟩:=p;rw[Aa];exact AI (BS _ _) (by rw[AJ];exact D6 _ _)) (fun i ys σ H p=>by obtain⟨_,_,rfl,_⟩:=p;exact aY ay) ?_ ?_
  ·rintro i v ys σ' H3 hv ⟨o,rfl,rfl,rfl⟩;rw[An]at hv;obtain⟨z,hz,rfl⟩:=AG.mp hv;obtain⟨vz,hvz⟩:=A2.mp (show(bS S.hs (Ac z)).isSome=true from am z (AH hz));obtain⟨hz2,_,rfl,_⟩:=rb.wl.hv _ _ hvz;have et:(q.take (i + 1)).filter ff=(q.take i).filter ff ++ if ff z=true then[z] else[]:=by
    rw[AE,hz,Cy];congr 1;show Ez _ [z]=_;rw[BP,D0]
   dsimp only[aU];refine⟨_,rfl,W,_,rfl,(aT.wl rb).get (fF _ _),_,rfl,B.ho,_,rfl,.inl ⟨S.hs,Ac z,.inl (aT.wl rb).ho,rfl,hvz.symm⟩,_,rfl,rfl,_,rfl,cR (fun g=>?_) fun g=>?_⟩
   ·have g':hz2=hou:=V.str.inj (Ie g);have ef:ff z=true:=by rw[hff];dsimp only;rw[hvz,g',Ic rfl];rfl
    refine eZ ⟨_,rfl,_,rfl,rfl,?_⟩;rw[et,Ib ef,Az];rfl
   ·have g':hz2≠hou:=fun e=>g (Ic (by rw[e]));refine⟨_,rfl,rfl,_,rfl,cR (fun g2=>?_) fun g2=>?_⟩
    ·have bE:r1=0:=V.int.inj (Ie g2);have ef:ff z=true:=by rw[hff];dsimp only;rw[bE,Ic rfl,Bool.or_true]
     refine⟨_,rfl,_,rfl,rfl,?_⟩;rw[et,Ib ef,Az];rfl
    ·have bE:r1≠0:=fun e=>g2 (Ic (by rw[e]));have ef:¬ ff z=true:=by
      rw[hff];dsimp only;rw[hvz,decide_eq_false (show¬ some (V.str hz2)=some (V.str hou) from fun e=>g' (V.str.inj (Ch.inj e))),decide_eq_false bE];decide
     refine⟨_,rfl,rfl,?_⟩;rw[et,Ia ef,BN]
  rintro ys σ' H3 ⟨o,rfl,rfl,rfl⟩ Z bP;rw[Aa,AM];have bI:=aT.back rb bP;have dr:M≠Z:=aJ ay bP;have sL:=aK (o:=.lst ((q.filter ff).map V.str)) bP;have bO:=aT.same sL;have bx:=sL _ _ ay;have bf:upd H3 Z (.lst ((q.filter ff).map V.str)) Z=some (.lst ((q.filter ff).map V.str)):=aA;generalize upd H3 Z _=H4 at bO bx bf ⊢;have bL:(q.filter ff).Nodup:=ed.filter _;have bM:∀ z∈q.filter ff,z∈q:=fun z hz=>(Bz.mp hz).1;have bN:1≤(q.filter ff).length:=List.length_pos_of_mem (Bz.mpr ⟨hy,by rw[hff];dsimp only;rw[hvy,Ic rfl];rfl⟩);have b6:(q.filter ff).length≤300:=AI (BS _ _) (by omega);generalize q.filter ff=dl at bL bM bN b6 bf;have ey:0≤r1 % 3∧r1 % 3 < 3:=by omega
  dsimp only[aU];refine⟨fun σ' H'=>∃(sm:List Str) (a':Int),σ'=[some (.ref p),some (.ref W),some (.ref fl),some (.ref M),some (.int r1),some (.str hou),some (.ref Z),none]∧Cur H H' p c a' fl fr∧a2≤a'∧a'≤a2 + 300∧H' M=some (.lst (q.map V.str))∧H' Z=some (.lst (sm.map V.str))∧sm.Nodup∧(∀ z∈sm,z∈q)∧1≤sm.length∧sm.length≤4,?_,?_⟩
  ·refine⟨fun n σ H'=>∃(sm:List Str) (a':Int),σ=[some (.ref p),some (.ref W),some (.ref fl),some (.ref M),some (.int r1),some (.str hou),some (.ref Z),none]∧Cur H H' p c a' fl fr∧a2≤a'∧a' + sm.length≤a2 + 300∧H' M=some (.lst (q.map V.str))∧H' Z=some (.lst (sm.map V.str))∧sm.Nodup∧(∀ z∈sm,z∈q)∧1≤sm.length∧sm.length=n,⟨_,dl,a2,rfl,bO,by omega,by omega,bx,bf,bL,bM,bN,rfl⟩,?_⟩;rintro n σ H5 ⟨sm,a5,rfl,af,l5,u5,aq,aa,av,ak,cm,rfl⟩;refine⟨_,rfl,Z,_,rfl,.inl (aY aa),_,rfl,_,_,rfl,rfl,(by show(0:Int) < 3;decide),_,_,rfl,rfl,_,_,rfl,rfl,_,rfl,cR (fun g=>?_) fun g=>?_⟩
   ·have g':=Ie g;rw[Aa]at g';have g2:2 < sm.length:=by omega
    refine⟨fun σ' H'=>∃(au:List Str) (a':Int),σ'=[some (.ref p),some (.ref W),some (.ref fl),some (.ref M),some (.int r1),some (.str hou),some (.ref Z),none]∧Cur H H' p c a' fl fr∧a2≤a'∧a' + au.length≤a2 + 300∧H' M=some (.lst (q.map V.str))∧H' Z=some (.lst (au.map V.str))∧au.Nodup∧(∀ z∈au,z∈q)∧1≤au.length∧au.length=sm.length - 1,fun σ' H' z=>⟨sm.length - 1,by omega,z⟩,_,rfl,.inl ⟨rfl,_,aY aa⟩,_,rfl,_,rfl,Z,_,rfl,.inl (aY aa),p,c,ns,_,_,rfl,af.pen rb,by omega,by rw[Aa];omega,gJ (by rw[Aa];omega),fun r6 a6 H6 eR eu l6 u6 d5 q6=>?_⟩;have ea:=af.draw q6 d5;have dy:=af.lst aq q6;have eq:=af.lst aa q6;rw[Aa]at eu;obtain⟨j,rfl⟩:∃ j:Nat,r6=j:=⟨r6.toNat,by omega⟩
    have hj:j < sm.length:=by omega
    have dV:ixN (sm.map V.str).length (j:Int)=some j:=by
     unfold ixN;rw[Ib (by omega),Ib (by rw[Aa];omega)];rfl
    refine⟨Z,_,_,j,.str sm[j],rfl,rfl,eq,by omega,by omega,(rC dV).1,by rw[An,Ai hj];rfl,?_⟩;rw[show(sm.map V.str).eraseIdx j=(sm.eraseIdx j).map V.str from wA _ _];have en:=List.length_eraseIdx_of_lt hj;exact⟨sm.eraseIdx j,a6,rfl,ea.upd rb bI,by omega,by omega,by rw[aG dr];exact dy,aA,Dk (List.eraseIdx_sublist _ _) av,fun z hz=>ak z (List.mem_of_mem_eraseIdx hz),by omega,en⟩
   ·have g':¬ (2 + r1 % 3 < ((sm.map V.str).length:Nat)):=fun h=>g (Ic h);rw[Aa]at g';exact⟨sm,a5,rfl,af,by omega,by omega,aq,aa,av,ak,cm,by omega⟩
  rintro σ' H5 ⟨sm,a5,rfl,af,l5,u5,aq,aa,av,ak,cm,eL⟩;clear bx bf bO bL bM bN b6;have dj:Z≠fl:=fun e=>by rw[e,cu.ef]at bI;cases bI
  have b7:sm.length≤6:=by omega
  have ae:fr≠[]:=fun e=>by rw[e]at hf8;simp at hf8
  obtain⟨f0,J,hf0⟩:∃ f0 J,fr=f0 :: J:=by
   cases fr with
   | nil=>exact absurd rfl ae
   | cons f0 J=>exact⟨f0,J,rfl⟩
  have a0:fr.getLast ae∈J:=by
   have bo:J≠[]:=fun e=>by rw[hf0,e]at hf8;simp at hf8
   have:fr.getLast ae=J.getLast bo:=by
    subst hf0;exact List.getLast_cons bo
   rw[this];exact EL _
  have az:fr.getLast ae∈fr:=EL _;have bv:=xR ae;generalize fr.getLast ae=fz at a0 az bv;refine⟨fun σ' H'=>∃(Z:Ae) (sm:List Str),σ'=[some (.ref p),some (.ref W),some (.ref fl),some (.ref M),some (.int r1),some (.str hou),some (.ref Z),none]∧Cur H H' p c a5 fl fr∧H' M=some (.lst (q.map V.str))∧H' Z=some (.lst (sm.map V.str))∧Z≠fl∧sm.Nodup∧(∀ z∈sm,cJ z=true∧(z ∉ fr∨z∈J))∧2≤sm.length∧sm.length≤6,?_,?_⟩
  ·refine⟨fun b G=>Cur H G p c a5 fl fr∧G M=some (.lst (q.map V.str))∧G Z=some (.lst (sm.map V.str))∧(b=false→2≤sm.length),?_,?_⟩
   ·refine⟨_,rfl,Z,_,rfl,.inl (aY aa),_,_,rfl,rfl,_,rfl,cR (fun g=>?_) fun g=>?_⟩
    ·exact⟨af,aq,aa,fun e=>by cases e⟩
    ·have g':¬ (((sm.map V.str).length:Nat):Int) < 2:=fun h=>g (Ic h);rw[Aa]at g';exact⟨_,rfl,rfl,_,rfl,af,aq,aa,fun _=>by omega⟩
   rintro b G ⟨cb,ci,cf,hb⟩;refine cR (fun g=>?_) fun g=>?_
   ·refine⟨_,rfl,_,rfl,Z,_,rfl,aY cf,fun D1 d4=>?_⟩;rw[show(some (1:Int))=some ((1:Nat):Int) from rfl,wT (α:=Unit),← Ge];have s1:=aK (o:=.lst ((sm.take 1).map V.str)) d4;have Y:=cb.same s1;have ap:=s1 _ _ ci;have bD:upd G D1 (.lst ((sm.take 1).map V.str)) D1=some (.lst ((sm.take 1).map V.str)):=aA;generalize upd G D1 _=G1 at Y ap bD ⊢;refine⟨_,rfl,_,rfl,fl,_,_,_,rfl,rfl,aY Y.ef,bv,zZ1,fun D2 b0=>?_⟩;have s2:=aK (o:=.lst [V.str fz]) b0;have fx:D1≠D2:=aJ bD b0;refine⟨D1,D2,_,_,rfl,rfl,s2 _ _ bD,aA,aP (by rw[Aa,AJ];show _ + 1≤_;omega),fun D3 ck=>?_⟩;have s3:=s2.trans (aK (o:=.lst ((sm.take 1).map V.str ++ [V.str fz])) ck);have b1:=(Y.same s2).back rb ck;refine⟨D3,sm.take 1 ++ [fz],rfl,Y.same s3,s3 _ _ ap,by rw[aA,Az];rfl,(fun e=>by rw[e,cu.ef]at b1;cases b1),?_,fun z hz=>?_,?_,?_⟩
    ·refine Bn.mpr ⟨Dk (List.take_sublist _ _) av,by simp,fun x hx y hy e=>?_⟩;rw[AF.mp hy]at e;exact(hso x (am x (ak x (B8 hx)))).2 (by rw[e];exact az)
    ·rcases AS.mp hz with h | h
     ·have:=hso z (am z (ak z (B8 h)));exact⟨this.1,.inl this.2⟩
     ·rw[AF.mp h];exact⟨hfr.ok _ az,.inr a0⟩
    ·rw[AD,AJ];show 2≤_ + 1;omega
    ·rw[AD,AJ];show _ + 1≤6;omega
   ·exact⟨Z,sm,rfl,cb,ci,cf,dj,av,fun z hz=>⟨(hso z (am z (ak z hz))).1,.inl (hso z (am z (ak z hz))).2⟩,hb (by simpa using g),b7⟩
  rintro σ' aC ⟨LQ,aj,rfl,Y,ap,b2,ee,c1,ax,eM,dn⟩;clear aq aa af av ak b7;have dk:J.Nodup:=by have:=hfr.nd;rw[hf0]at this;exact(AZ.mp this).2
  have df:f0 ∉ J:=by have:=hfr.nd;rw[hf0]at this;exact(AZ.mp this).1
  have aI:∀ z∈J,z∈fr:=fun z hz=>by rw[hf0];exact Ap _ hz
  have bu:aC fl=some (.lst (V.str f0 :: J.map V.str)):=by have:=Y.ef;rw[hf0]at this;exact this
  refine⟨_,rfl,.inl ⟨rfl,_,aY bu⟩,fl,_,_,0,.str f0,rfl,rfl,bu,by decide,by decide,(rC (j:=0) (by unfold ixN;rw[Ib (by decide),Ib (by show(0:Int) < ((_ + 1:Nat):Int);omega)];rfl)).1,rfl,?_⟩;have ei:M≠fl:=fun e=>by rw[e,cu.ef]at c9;cases c9
  have bt:=Y.setF J;have bj:upd aC fl (.lst (J.map V.str)) M=some (.lst (q.map V.str)):=by rw[aG ei];exact ap
  have bi:upd aC fl (.lst (J.map V.str)) LQ=some (.lst (aj.map V.str)):=by rw[aG ee];exact b2
  show(aU 7) (V.str f0) _ (upd aC fl (.lst (J.map V.str))) _;generalize upd aC fl _=eh at bt bj bi ⊢;dsimp only[aU];have an:cJ f0=true∧(f0 ∉ J∨∃ z∈aj,z∈J):=⟨hfr.ok _ (by rw[hf0];exact Al),.inl df⟩
  refine⟨fun σ' H'=>∃(nw:Str) (a':Int),σ'=[some (.ref p),some (.ref W),some (.ref fl),some (.ref M),some (.int r1),some (.str hou),some (.ref LQ),some (.str nw)]∧Cur H H' p c a' fl J∧a5≤a'∧a'≤a5 + 1∧H' M=some (.lst (q.map V.str))∧H' LQ=some (.lst (aj.map V.str))∧cJ nw=true∧(nw ∉ J∨∃ z∈aj,z∈J),?_,?_⟩
  ·refine⟨_,rfl,zZ3,fun u d3=>?_⟩;have su:=aK (o:=.tup [V.int 2,.int 3,.int 4]) d3;refine⟨u,_,rfl,.inr (aH aA),rfl,rfl,_,rfl,?_⟩;have O:=bt.same su;have ba:=su _ _ bj;have al:=su _ _ bi;generalize upd eh u _=eP at O ba al ⊢;refine cR (fun g=>?_) fun g=>?_
   ·refine⟨_,rfl,_,rfl,_,rfl,LQ,_,rfl,.inl (aY al),p,c,ns,_,_,rfl,O.pen rb,by omega,by rw[Aa];omega,gJ (by rw[Aa];omega),fun fg eo e4 cy c0 fv fh cv be=>?_⟩;have c2:=O.draw be cv;obtain⟨nw,hnw,hatn⟩:=fV cy c0;refine⟨LQ,_,_,_,rfl,rfl,aY (O.lst al be),hatn,nw,eo,rfl,c2,by omega,by omega,O.lst ba be,O.lst al be,(ax nw hnw).1,?_⟩;rcases(ax nw hnw).2 with h | h
    ·exact .inl fun h'=>h (aI _ h')
    ·exact .inr ⟨nw,hnw,h⟩
   ·exact⟨f0,a5,rfl,O,by omega,by omega,ba,al,an.1,an.2⟩
  rintro σ' fu ⟨nw,bR,rfl,ah,fD,e0,br,bm,dc,cq⟩;refine⟨fun σ' H'=>∃(nw:Str) (a':Int),σ'=[some (.ref p),some (.ref W),some (.ref fl),some (.ref M),some (.int r1),some (.str hou),some (.ref LQ),some (.str nw)]∧Cur H H' p c a' fl J∧bR≤a'∧a'≤bR + 1∧H' LQ=some (.lst (aj.map V.str))∧cJ nw=true∧(nw ∉ J∨∃ z∈aj,z∈J),?_,?_⟩
  ·refine⟨_,rfl,rfl,_,rfl,cR (fun g=>?_) fun g=>?_⟩
   ·refine⟨_,rfl,_,rfl,_,rfl,M,_,rfl,.inl (aY br),p,c,ns,_,_,rfl,ah.pen rb,by omega,by rw[Aa];omega,gJ (by rw[Aa];omega),fun eX ej e5 cw b3 fE fC b5 bz=>?_⟩;have cr:=ah.draw bz b5;obtain⟨n2,hn2,hatn⟩:=fV cw b3;have:=hso n2 (am n2 hn2);exact⟨M,_,_,_,rfl,rfl,aY (ah.lst br bz),hatn,n2,ej,rfl,cr,by omega,by omega,ah.lst bm bz,this.1,.inl fun h'=>this.2 (aI _ h')⟩
   ·exact⟨nw,bR,rfl,ah,by omega,by omega,bm,dc,cq⟩
  rintro σ' cg ⟨n3,eg,rfl,de,fa,e7,ca,bn,da⟩;refine⟨_,rfl,LQ,aj,rfl,aY ca,aP (by omega),fun l m3 hl bd=>?_⟩;have sl:=aK (o:=.lst (m3.map V.str)) hl;refine⟨l,_,rfl,.inl ⟨aY aA,fun tp ec=>?_⟩⟩;have cI:=sl.trans (aK (o:=.tup (m3.map V.str)) ec);have cz:upd (upd cg l (.lst (m3.map V.str))) tp (.tup (m3.map V.str)) tp=some (.tup (m3.map V.str)):=aA;generalize upd (upd cg l (.lst (m3.map V.str))) tp _=fc at cI cz ⊢;refine⟨_,rfl,zZ2,fun t ht=>?_⟩;have cc:=aK (o:=.tup [V.ref tp,.str n3]) ht;have fw:m3.length=aj.length:=bd.length_eq;have bw:∀ z∈m3,cJ z=true:=fun z hz=>(ax z (bd.mem_iff.mp hz)).1;have b4:(m3.map BK).all zK=true:=by
   rw[A5];intro d hd;obtain⟨z,hz,rfl⟩:=AR.mp hd;exact bw z hz
  refine k t _ [.tuple (m3.map BK),.str n3] eg J _ (de.same (cI.trans cc)) (by omega) (by omega) aI dk (by rw[hf0,AK];omega) aA (.cons (.tup (cc _ _ cz) (by rw[Aa];omega) (vW fun z hz=>by have:=(qB (bw z hz)).2;omega)) (.cons (gC bn) .nil)) fun ws=>⟨.join bn (bd.nodup_iff.mpr c1) (by omega) (by omega) b4,fun h=>absurd h (by decide),fun name day aw R' e=>absurd (show("join":Str)="part" from e) (by decide),fun aw R' e=>absurd e (by decide),fun aw R' _ e=>?_⟩
  injection e with e1 e2;injection e2 with e2;injection e1 with e1;injection e2 with e2;have:=nE (fun{a b} (e:BK a=BK b)=>by injection e) e1;subst this e2;rcases da with h | ⟨z,h1,h2⟩
  ·exact .inl h
  ·exact .inr ⟨z,bd.mem_iff.mpr h1,h2⟩
section
variable{K:Ah}{H0 H H':Hp}{p c:Ae}{ns:List Int}{a a':Int}{W:Ae}{B:WA}{sc:Int}{os:List UK}{own:UK→Str}{S:Ex}{fl lp:Ae}{fr ji:List Str}{ps:List Str}
theorem RSB.at(b:RSB K H0 p c ns W B sc os own S fl lp ps)(h:Cur H0 H p c a fl fr):RSB K H p c ns W B sc os own S fl lp ps:=by
 obtain⟨l,_,e⟩:=h.ob;exact⟨h.rd b,b.sm,h.wl b,h.ep b,b.np,b.p1,b.p3,b.pw,b.fo,b.fp,⟨_,e⟩,⟨_,h.ef⟩⟩
theorem Cur.here(h:Cur H0 H p c a fl fr):Cur H H p c a fl fr:=⟨cO.refl H,h.ob,h.ge,h.ef⟩
theorem Cur.trans(h:Cur H0 H p c a fl fr)(h':Cur H H' p c a' fl ji):Cur H0 H' p c a' fl ji:=⟨h.kx.trans h'.kx,h'.ob,h'.ge,h'.ef⟩
end
structure uA(S:Ex)(ws:List Str):Prop where
 ks:S.inc.map (·.1)=ws.map Ac
 v:∀ f∈ws,cJ f=true∧∃ n:Int,bS S.inc (Ac f)=some (.int n)∧0≤n∧n≤10000000
 n1:1≤ws.length
 n8:ws.length≤8
theorem uB{l:List Int}{r:Int}(q:0≤r)(h1:r < (l.length:Nat)):∃ z,z∈l∧atI (l.map V.int) r=some (.int z):=by
 obtain⟨j,rfl⟩:∃ j:Nat,r=j:=⟨r.toNat,by omega⟩
 obtain⟨z,hz⟩:∃ z,l[j]?=some z:=⟨_,Ai (by omega)⟩
 exact⟨z,AH hz,fU (by rw[An,hz];rfl)⟩
def jT(word:Str)(bZ:List V):Str:=if word="mend"∧bZ.length=1 then "alone" else word
inductive aAi(K:Ah)(vs:List V)(H:Hp)(Q:VK)(u3_:XK):Prop
 | mk (p c:Ae) (ns:List Int) (W:Ae) (B:WA) (sc:Int) (os:List UK) (own:UK→Str) (S:Ex) (fl lp:Ae) (ps fr ws:List Str) (a:Int) (word:Str) (q0:vs=[.ref p,.ref W,.ref fl,.ref lp,.str word]) (q1:RSB K H p c ns W B sc os own S fl lp ps) (q2:Cur H H p c a fl fr) (q3:a≤700000) (q4:Nms fr) (q5:8≤fr.length) (q6:fr.length≤300) (q7:t8 S fr) (q8:1≤S.hs.length) (q9:S.hs.length≤300) (q10:uA S ws) (q11:word∈f7) (q12:∀(t:Ae) (bZ:List V) (ds:List Bb) (a':Int) (ji:List Str) (H':Hp),Cur H H' p c a' fl ji→a≤a'→a'≤a + 500→(∀ z∈ji,z∈fr)→ji.Nodup→fr.length≤ji.length + 7→H' t=some (.tup bZ)→cD false H' bZ ds→bZ.length≤4→xQ sc ws (jT word bZ) ds ji→Q (.ref t) H'):aAi K vs H Q u3_
def aE6(K:Ah):Sp:=fun vs H Q u3_=>aAi K vs H Q u3_
theorem aE7:bY ["_law_pen_here","_law_world_here","_law_fresh","_law_pool","_law_word_here","_law_stand","_law_fields","_law_house","_law_other","_law_field","_law_inches","_law_inch"] ["_law_pen_here","_law_world_here","_law_fresh","_law_pool","_law_word_here"] (aO aEo):=⟨rfl,rfl,rfl,by decide,rfl,by decide,by decide⟩
theorem aGg{f:Ae}{fd:A3}(F:Fun K "_law_made" "_law_made" aEo f fd)(ab:mg "len"=none)(ay:mg "sorted"=none)(bq:mg "min"=none)
  (GD:Cl P w K mg base 1 "_law_draw" ["_law_pen_here","_law_many"] (oG K))
  (GP:Cl P w K mg base 2 "_law_part" ["_law_pen_here","_law_world_here","_law_fresh","_law_pool"] (aCg K))
  (GJ:Cl P w K mg base 2 "_law_join" ["_law_pen_here","_law_world_here","_law_fresh"] (aCi K))
  :cP P w K mg base CX0 3 f fd ["_law_pen_here","_law_world_here","_law_fresh","_law_pool","_law_word_here"] (aE6 K):=by
 refine F.ok aE7 (fun vs H Q E h=>?_) (fun ec A outer s H vs Q E hr h=>?_)
 ·obtain⟨p,c,ns,W,B,sc,os,own,S,fl,lp,ps,fr,ws,a,word,rfl,_⟩:=h;rfl
 ·obtain⟨p,c,ns,W,B,sc,os,own,S,fl,lp,ps,fr,ws,a,word,rfl,rb,cu,ha,hfr,hf8,hf3,hso,hh1,hh3,hic,hwd,k⟩:=h;have hu:=d7 hr;have Z:dG 1 _:=hr.mono (by decide);have nd:=aE7.nd;refine⟨_,(aB (aX (i:=5) nd rfl (Ar rfl) (aW (iQ rfl) (by rfl) ay (by kernel_rfl) (aF (bJ hu (pv 1) aN Ig) aE)))
   (aB (aX (i:=6) nd rfl (Ar rfl) (aW (iQ rfl) (by rfl) ay (by kernel_rfl) (aF (bJ hu (pv 1) aN Ig) aE)))
   (aB (aX (i:=7) nd rfl (Ar rfl) (aQ b8 (pv 3) (cM GD Z (aF (pv 0) (aF (aW bK (by rfl) ab AW (aF (pv 3) aE)) aE))) Ig))
   (aB (aX (i:=8) nd rfl (Ar rfl) (aQ b8 (pv 3) (cM GD Z (aF (pv 0) (aF (aW bK (by rfl) ab AW (aF (pv 3) aE)) aE))) Ig))
   (aB (aX (i:=9) nd rfl (Ar rfl) (aQ b8 (pv 6) (cM GD Z (aF (pv 0) (aF (aW bK (by rfl) ab AW (aF (pv 6) aE)) aE))) Ig))
   (aB (aX (i:=10) nd rfl (Ar rfl) (bJ hu (bJ hu (pv 1) aN Ig) (pv 9) Ig))
   (aB (aX (i:=11) nd rfl (Ar rfl) (aW (mZ rfl) (by rfl) bq (by kernel_rfl) (aF (bC kX (bC nY aD aD) aD) (aF (cM GD Z (aF (pv 0) (aF (bC cX (bC cX (pv 10) aD) (bC mY (pv 10) aD)) aE))) aE))))
   (aB (cC (aZ cT (pv 4) aN (bG _)) (aM (bF (cM GP hr (aF (pv 0) (aF (pv 1) (aF (pv 2) (aF (pv 3) aE))))))) bB)
   (aB (cC (aZ cT (pv 4) aN (bG _)) (aM (bF (cM GJ hr (aF (pv 0) (aF (pv 1) (aF (pv 2) aE)))))) bB)
   (aB (cC (aZ cT (pv 4) aN (bG _)) (aM (bF (cH (aF (aQ b8 (bC aAK (pv 5) (c6 (aF (aQ b8 (pv 2) (jU gL aD) Ig) aE))) (cM GD Z (aF (pv 0) (aF (bC cX (aW bK (by rfl) ab AW (aF (pv 5) aE)) aD) aE))) Ig) (aF (pv 7) aE))))) bB)
   (aB (cC (aZ cT (pv 4) aN (bG _)) (aM (bF (cH (aF (pv 9) (aF (aQ b8 (c6 (aF aD (aF (bC nY aD aD) (aF (cM GD Z (aF (pv 0) (aF aD aE))) (aF (cM GD Z (aF (pv 0) (aF aD aE))) (aF (pv 10) aE)))))) (cM GD Z (aF (pv 0) (aF aD aE))) Ig) aE))))) bB)
   (aB (cC (aZ cT (pv 4) aN (bG _)) (aM (bF (cH (aF (pv 9) (aF (pv 11) (aF (aQ b8 (c6 (aF aD (aF (bC nY aD aD) (aF (cM GD Z (aF (pv 0) (aF aD aE))) aE)))) (cM GD Z (aF (pv 0) (aF aD aE))) Ig) (aF (cM GD Z (aF (pv 0) (aF aD aE))) aE))))))) bB)
   (aB (cC (aZ cT (pv 4) aN (bG _)) (aM (bF (cH (aF (pv 9) (aF (pv 11) (aF (pv 7) aE)))))) bB)
   (aB (cC (PW.pt (iH (aZ cT (pv 4) aN (bG _)) (gF (aZ oQ (pv 7) (pv 8) (bG _))))) (aM (bF (cH (aF (pv 7) (aF (pv 8) aE))))) bB)
   (aM (bF (cH (aF (pv 7) aE)))))))))))))))))),?_⟩
  refine K09.tl fun R hR=>?_;obtain⟨ks,hks,hin,hkn⟩:=t7 rb.wl.hv rb.wl.ks;have bN:ks.length=S.hs.length:=by
   have:=congrArg Ca hks;rw[Aa,Aa]at this;exact this.symm
  have dd:=rb.p1;have c0:=rb.p3;have ei:=hic.n1;have d5:=hic.n8;refine⟨_,rfl,W,_,rfl,(cu.wl rb).get (fF _ _),B.ho,S.hs,ks,rfl,(cu.wl rb).ho,hks,fun LS ms ci pm=>?_⟩;have sS:=aK (o:=.lst (ms.map V.str)) ci;have aw:=cu.same sS;have eS:upd H LS (.lst (ms.map V.str)) LS=some (.lst (ms.map V.str)):=aA;generalize upd H LS _=HS at aw eS ⊢;have eb:ms.length=S.hs.length:=by rw[pm.length_eq,bN]
  have bM:∀ z∈ms,aS S z=true:=fun z hz=>hin z (pm.mem_iff.mp hz);dsimp only[aU];subst hR;refine K09.tl fun R hR=>?_;refine⟨_,rfl,W,_,rfl,(aw.wl rb).get (zY _ _),B.ic,S.inc,ws,rfl,(aw.wl rb).ic,hic.ks,fun LF fs cw pf=>?_⟩;have sF:=aK (o:=.lst (fs.map V.str)) cw;have ae:=aw.same sF;have bc:=sF _ _ eS;have eF:upd HS LF (.lst (fs.map V.str)) LF=some (.lst (fs.map V.str)):=aA;generalize upd HS LF _=HF at ae bc eF ⊢;have eg:fs.length=ws.length:=pf.length_eq;dsimp only[aU];subst hR;refine K09.tl fun R hR=>?_;refine⟨_,rfl,_,rfl,_,rfl,lp,_,rfl,.inl (aY (ae.ep rb)),p,c,ns,_,_,rfl,ae.pen rb,by omega,by rw[Aa];omega,gJ (by rw[Aa];omega),fun r1 a1 H1 ar bL l1 u1 b2 q1=>?_⟩;have ag:=ae.draw q1 b2;have cs:=ae.lst bc q1;have cm:=ae.lst eF q1;obtain⟨house,hhou,hat1⟩:=fV ar bL;have aa:=rb.np.ok _ hhou;refine⟨lp,_,_,_,rfl,rfl,aY (ag.ep rb),hat1,?_⟩;dsimp only[aU];subst hR;refine K09.tl fun R hR=>?_;refine⟨_,rfl,_,rfl,_,rfl,lp,_,rfl,.inl (aY (ag.ep rb)),p,c,ns,_,_,rfl,ag.pen rb,by omega,by rw[Aa];omega,gJ (by rw[Aa];omega),fun r2 a2 H2 cj cz l2 u2 b3 q2=>?_⟩;have an:=ag.draw q2 b3;have b0:=ag.lst cs q2;have bu:=ag.lst cm q2;obtain⟨other,hoth,hat2⟩:=fV cj cz;have bm:=rb.np.ok _ hoth;refine⟨lp,_,_,_,rfl,rfl,aY (an.ep rb),hat2,?_⟩;dsimp only[aU];subst hR;refine K09.tl fun R hR=>?_;refine⟨_,rfl,_,rfl,_,rfl,LF,_,rfl,.inl (aY bu),p,c,ns,_,_,rfl,an.pen rb,by omega,by rw[Aa];omega,gJ (by rw[Aa];omega),fun r3 a3 H3 cy cx l3 u3 bR q3=>?_⟩;have ai:=an.draw q3 bR;have bO:=an.lst b0 q3;have bE:=an.lst bu q3;obtain⟨field,hfie,hat3⟩:=fV cy cx
  have bo:field∈ws:=pf.mem_iff.mp hfie;obtain⟨hfn,inc,hinc,hi0,hi1⟩:=hic.v field bo;refine⟨LF,_,_,_,rfl,rfl,aY bE,hat3,?_⟩;dsimp only[aU];subst hR;refine K09.tl fun R hR=>?_;refine⟨_,rfl,W,_,rfl,(ai.wl rb).get (zY _ _),_,rfl,B.ic,_,rfl,.inl ⟨S.inc,Ac field,.inl (ai.wl rb).ic,rfl,hinc.symm⟩,?_⟩;dsimp only[aU];subst hR;refine K09.tl fun R hR=>?_;have df:0≤inc / 4:=Dw hi0 (by decide);have dk:inc / 4≤10000000:=by omega
  refine⟨_,_,rfl,rfl,⟨by decide,by decide,by decide⟩,_,_,rfl,rfl,_,rfl,_,rfl,_,_,rfl,rfl,_,rfl,_,_,rfl,rfl,⟨by decide,by decide⟩,_,_,rfl,rfl,p,c,ns,_,_,rfl,ai.pen rb,by omega,by omega,gJ (by omega),fun r4 a4 H4 dw ed l4 u4 cr q4=>?_⟩;have J:=ai.draw q4 cr;have bd:=ai.lst bO q4;refine⟨_,_,rfl,?_⟩;obtain⟨M,heq,hin0,hin1⟩:∃ M:Int,(if r4 < 10 ^ (7:Int).toNat - 1 then r4 else 10 ^ (7:Int).toNat - 1)=M∧0≤M∧M≤9999999:=⟨_,rfl,by
   have e7:(10:Int) ^ (7:Int).toNat=10000000:=by decide
   rw[e7];split <;> omega,by
   have e7:(10:Int) ^ (7:Int).toNat=10000000:=by decide
   rw[e7];split <;> omega⟩
  rw[heq];dsimp only[aU];subst hR;have Y:fr≠[]:=fun e=>by rw[e]at hf8;simp at hf8
  have fin:∀(q:Str) (t:Ae) (bZ:List V) (ds:List Bb) (a':Int) (G:Hp),Cur H G p c a' fl fr→a≤a'→a'≤a + 500→G t=some (.tup bZ)→cD false G bZ ds→kT q ds→FIn q ds ws→jT word bZ=q→(q≠"part")→(q≠"join")→Q (.ref t) G:=fun q t bZ ds a' G b6 l u et rd rs fi ew n1 n2=>by
   have hl:=rd.len;have du:=rs.len;refine k t bZ ds a' fr G b6 l u (fun z hz=>hz) hfr.nd (by omega) et rd (by omega) ?_;rw[ew];exact⟨rs,fi,fun name day O R e=>absurd e n1,fun O R e=>absurd e n1,fun O R e=>absurd e n2⟩
  have ap:∀{q:Str} {ds:List Bb},inV (.str q) [V.str "measure",.str "breach",.str "view"]=false→FIn q ds ws:=fun e h=>by rw[e]at h;cases h
  have aI:∀{q:Str} {ds:List Bb},FIn q (.str field :: ds) ws:=fun _ z bZ e=>by
   injection e with e1 e2;injection e1 with e1;rw[← e1];exact bo
  unfold f7 at hwd;simp only[Ak,Ao,or_false]at hwd;rcases hwd with rfl | rfl | rfl | rfl | rfl | rfl | rfl | rfl
  ·refine⟨_,rfl,rfl,_,rfl,yW ?_⟩;exact⟨_,rfl,_,rfl,_,rfl,_,rfl,p,c,ns,W,B,sc,os,own,S,fl,lp,ps,fr,a4,rfl,rb.at J,J.here,by omega,hfr,hf8,hf3,hso,hh1,fun t bZ ds a' ji H' aL l u al aT ab et rd mo=>k t bZ ds a' ji H' (J.trans aL) (by omega) (by omega) al aT (by omega) et rd (by have h1:=rd.len;have h2:=(mo ws).rs.len;omega) (by rw[show jT "part" bZ="part" from Ia (fun z=>absurd z.1 (by decide))];exact mo ws)⟩
  ·refine⟨_,rfl,rfl,_,rfl,nW (by decide) ?_⟩;refine⟨_,rfl,rfl,_,rfl,yW ?_⟩;exact⟨_,rfl,_,rfl,_,rfl,p,c,ns,W,B,sc,os,own,S,fl,lp,ps,fr,a4,rfl,rb.at J,J.here,by omega,hfr,hf8,hf3,hso,hh1,hh3,fun t bZ ds a' ji H' aL l u al aT ab et rd mo=>k t bZ ds a' ji H' (J.trans aL) (by omega) (by omega) al aT (by omega) et rd (by have h1:=rd.len;have h2:=(mo ws).rs.len;omega) (by rw[show jT "join" bZ="join" from Ia (fun z=>absurd z.1 (by decide))];exact mo ws)⟩
  ·refine⟨_,rfl,rfl,_,rfl,nW (by decide) ?_⟩;refine⟨_,rfl,rfl,_,rfl,nW (by decide) ?_⟩;refine⟨_,rfl,rfl,_,rfl,yW ?_⟩;refine⟨_,rfl,_,rfl,_,rfl,fl,_,_,_,rfl,rfl,aY J.ef,xR Y,zZ1,fun D1 cb=>?_⟩;have s1:=aK (o:=.lst [V.str (fr.getLast Y)]) cb;refine⟨LS,D1,_,_,rfl,rfl,s1 _ _ bd,aA,aP (by rw[Aa];show _ + 1≤_;omega),fun D2 bI=>?_⟩;have s2:=s1.trans (aK (o:=.lst (ms.map V.str ++ [V.str (fr.getLast Y)])) bI);have e2:upd (upd H4 D1 (.lst [V.str (fr.getLast Y)])) D2 (.lst (ms.map V.str ++ [V.str (fr.getLast Y)])) D2=some (.lst ((ms ++ [fr.getLast Y]).map V.str)):=by rw[aA,Az];rfl
   have au:=J.same s2;have bj:=s2 _ _ bd;generalize upd (upd H4 D1 (.lst [V.str (fr.getLast Y)])) D2 _=H5 at au bj e2 ⊢;refine⟨_,rfl,_,rfl,LS,_,rfl,.inl (aY bj),_,_,rfl,rfl,p,c,ns,_,_,rfl,au.pen rb,by omega,by rw[Aa];omega,gJ (by rw[Aa];omega),fun r6 a6 H6 aC ax l6 u6 ak q6=>?_⟩;have af:=au.draw q6 ak;obtain⟨O,hland,hat6⟩:=fV (ps:=ms ++ [fr.getLast Y]) aC (by rw[Aa,AD];rw[Aa]at ax;exact ax);have bv:cJ O=true:=by
    rcases AS.mp hland with h | h
    ·exact(hso O (bM O h)).1
    ·rw[AF.mp h];exact hfr.ok _ (EL _)
   refine⟨D2,_,_,_,rfl,rfl,aY (au.lst e2 q6),hat6,_,rfl,zZ2,fun t ht=>?_⟩;have st:=aK (o:=.tup [V.str O,.str house]) ht;exact fin "forfeit" t _ [.str O,.str house] a6 _ (af.same st) (by omega) (by omega) aA (.cons (gC bv) (.cons (gC aa) .nil)) (.forfeit bv aa) (ap (by decide)) (Ia (fun z=>absurd z.1 (by decide))) (by decide) (by decide)
  ·refine⟨_,rfl,rfl,_,rfl,nW (by decide) ?_⟩
   iterate 2 refine⟨_,rfl,rfl,_,rfl,nW (by decide) ?_⟩
   refine⟨_,rfl,rfl,_,rfl,yW ?_⟩;refine⟨_,rfl,_,_,rfl,rfl,⟨by decide,by decide,by decide⟩,_,rfl,p,c,ns,_,_,rfl,J.pen rb,by omega,by decide,by decide,fun r6 a6 H6 aC ax l6 u6 ak q6=>?_⟩;have af:=J.draw q6 ak;refine⟨_,rfl,p,c,ns,_,_,rfl,af.pen rb,by omega,by decide,by decide,fun r7 a7 H7 dn d4 l7 u7 b4 q7=>?_⟩;have cg:=af.draw q7 b4;refine⟨_,rfl,zZ5,fun L hL=>?_⟩;have sL:=aK (o:=.lst [V.int 0,.int (10 ^ (7:Int).toNat),.int r6,.int r7,.int inc]) hL;have ad:=cg.same sL;have eL:upd H7 L (.lst [V.int 0,.int (10 ^ (7:Int).toNat),.int r6,.int r7,.int inc]) L=some (.lst ([(0:Int),10000000,r6,r7,inc].map V.int)):=aA;generalize upd H7 L _=H8 at ad eL ⊢;refine⟨_,rfl,p,c,ns,_,_,rfl,ad.pen rb,by omega,by decide,by decide,fun r9 a9 H9 az a0 l9 u9 ba q9=>?_⟩;have av:=ad.draw q9 ba;obtain⟨num,hnum,hat9⟩:=uB (l:=[(0:Int),10000000,r6,r7,inc]) az (by show r9 < 5;exact a0);have aj:0≤num∧num≤10000000:=by
    simp only[Ak,Ao,or_false]at hnum;rcases hnum with rfl | rfl | rfl | rfl | rfl <;> omega
   refine⟨L,_,_,_,rfl,rfl,aY (ad.lst eL q9),hat9,zZ2,fun t ht=>?_⟩;have st:=aK (o:=.tup [V.str field,.int num]) ht;exact fin "measure" t _ [.str field,.int num] a9 _ (av.same st) (by omega) (by omega) aA (.cons (gC hfn) (.cons (.int _) .nil)) (.measure hfn aj.1 aj.2) aI (Ia (fun z=>absurd z.1 (by decide))) (by decide) (by decide)
  ·refine⟨_,rfl,rfl,_,rfl,nW (by decide) ?_⟩
   iterate 5 refine⟨_,rfl,rfl,_,rfl,nW (by decide) ?_⟩
   refine⟨_,rfl,rfl,_,rfl,yW ?_⟩;refine⟨_,rfl,_,rfl,rfl,_,rfl,cR (fun g=>?_) fun g=>?_⟩
   ·have b7:house≠other:=fun e=>by rw[e]at g;simp at g
    refine⟨_,rfl,_,rfl,zZ2,fun t ht=>?_⟩;have st:=aK (o:=.tup [V.str house,.str other]) ht;exact fin "mend" t _ [.str house,.str other] a4 _ (J.same st) (by omega) (by omega) aA (.cons (gC aa) (.cons (gC bm) .nil)) (.mend aa bm b7) (ap (by decide)) (Ia (fun z=>absurd (show(2:Nat)=1 from z.2) (by decide))) (by decide) (by decide)
   ·refine⟨_,rfl,zZ1,fun t ht=>?_⟩;have st:=aK (o:=.tup [V.str house]) ht;exact fin "alone" t _ [.str house] a4 _ (J.same st) (by omega) (by omega) aA (.cons (gC aa) .nil) (.alone aa) (ap (by decide)) (Ib ⟨rfl,rfl⟩) (by decide) (by decide)
  ·refine⟨_,rfl,rfl,_,rfl,nW (by decide) ?_⟩
   iterate 6 refine⟨_,rfl,rfl,_,rfl,nW (by decide) ?_⟩
   refine dS ?_;refine⟨_,rfl,zZ1,fun t ht=>?_⟩;have st:=aK (o:=.tup [V.str house]) ht;exact fin "alone" t _ [.str house] a4 _ (J.same st) (by omega) (by omega) aA (.cons (gC aa) .nil) (.alone aa) (ap (by decide)) (Ia (fun z=>absurd z.1 (by decide))) (by decide) (by decide)
  ·refine⟨_,rfl,rfl,_,rfl,nW (by decide) ?_⟩
   iterate 3 refine⟨_,rfl,rfl,_,rfl,nW (by decide) ?_⟩
   refine⟨_,rfl,rfl,_,rfl,yW ?_⟩;refine⟨_,rfl,_,rfl,_,_,rfl,rfl,⟨by decide,by decide,by decide⟩,_,rfl,p,c,ns,_,_,rfl,J.pen rb,by omega,by decide,by decide,fun r6 a6 H6 aC ax l6 u6 ak q6=>?_⟩;have af:=J.draw q6 ak;refine⟨zZ3,fun L hL=>?_⟩;have sL:=aK (o:=.lst [V.int 0,.int (10 ^ (9:Int).toNat),.int r6]) hL;have ad:=af.same sL;have eL:upd H6 L (.lst [V.int 0,.int (10 ^ (9:Int).toNat),.int r6]) L=some (.lst ([(0:Int),1000000000,r6].map V.int)):=aA;generalize upd H6 L _=H8 at ad eL ⊢;refine⟨_,rfl,p,c,ns,_,_,rfl,ad.pen rb,by omega,by decide,by decide,fun r9 a9 H9 az a0 l9 u9 ba q9=>?_⟩;have av:=ad.draw q9 ba;obtain⟨num,hnum,hat9⟩:=uB (l:=[(0:Int),1000000000,r6]) az (by show r9 < 3;exact a0);have aj:0≤num∧num≤1000000000:=by
    simp only[Ak,Ao,or_false]at hnum;rcases hnum with rfl | rfl | rfl <;> omega
   refine⟨L,_,_,_,rfl,rfl,aY (ad.lst eL q9),hat9,_,rfl,p,c,ns,_,_,rfl,av.pen rb,by omega,by decide,by decide,fun ar a10 d3 br db ej dV bh ck=>?_⟩;have bt:=av.draw ck bh;refine⟨zZ4,fun t ht=>?_⟩;have st:=aK (o:=.tup [V.str field,.int M,.int num,.int ar]) ht;exact fin "breach" t _ [.str field,.int M,.int num,.int ar] a10 _ (bt.same st) (by omega) (by omega) aA (.cons (gC hfn) (.cons (.int _) (.cons (.int _) (.cons (.int _) .nil)))) (.breach hfn hin0 hin1 aj.1 aj.2 br (by omega)) aI (Ia (fun z=>absurd z.1 (by decide))) (by decide) (by decide)
  ·refine⟨_,rfl,rfl,_,rfl,nW (by decide) ?_⟩
   iterate 4 refine⟨_,rfl,rfl,_,rfl,nW (by decide) ?_⟩
   refine⟨_,rfl,rfl,_,rfl,yW ?_⟩;refine⟨_,rfl,_,rfl,_,rfl,zZ3,fun t ht=>?_⟩;have st:=aK (o:=.tup [V.str field,.int M,.str house]) ht;exact fin "view" t _ [.str field,.int M,.str house] a4 _ (J.same st) (by omega) (by omega) aA (.cons (gC hfn) (.cons (.int _) (.cons (gC aa) .nil))) (.view hfn hin0 hin1 aa) aI (Ia (fun z=>absurd z.1 (by decide))) (by decide) (by decide)
theorem xS{S:Ex}{z:Str}(h:aS S z=true):1≤S.hs.length:=by
 unfold aS at h;cases e:S.hs with
 | nil=>rw[e]at h;cases h
 | cons _ _=>simp
theorem aDb{R:List P3}(h:(R.map pD).all qP=true){p:P3}(q:p∈R):cJ p.1=true:=by
 have:=A5.mp h (pD p) (Ba q);have e:(cJ p.1 && cJ p.2.1 && decide (1≤p.2.2∧p.2.2≤10000000))=true:=this;rw[Bv,Bv]at e;exact e.1.1
theorem aGh{S S':Ex}{sc:Int}{ws fr:List Str}{word z:Str}{ds:List Bb}(st:jC S word ds z S')(mo:xQ sc ws word ds fr)(so:t8 S fr)(h1:1≤S.hs.length)(ic:uA S ws):t8 S' fr∧1≤S'.hs.length∧uA S' ws:=by
 by_cases hz:z="done"
 ·subst hz;have rs:=mo.rs;have fi:=mo.fi;have np:=mo.np;have nj:=mo.nj;clear mo;cases rs with
  | @part land R hl hr h2 h6 ha=>
   obtain⟨e1,e2⟩:=st.fn (.part (land:=land) (R:=R));rw[← e1,Ib rfl]at e2;subst e2;have O:t8 (jO S land R) fr:=fun y J=>by
    rcases xP.mp J with h | ⟨_,h⟩
    ·obtain⟨q,hq,rfl⟩:=AR.mp h;exact⟨aDb ha hq,np land R rfl rfl q hq⟩
    ·exact so y h
   obtain⟨q,hq⟩:=List.exists_mem_of_length_pos (show 0 < R.length by omega);exact⟨O,xS (xP.mpr (.inl (Ba hq))),⟨by rw[mV];exact ic.ks,by rw[mV];exact ic.v,ic.n1,ic.n8⟩⟩
  | @join land R hl hr h2 h6 ha=>
   obtain⟨e1,e2⟩:=st.fn (.join (land:=land) (R:=R));rw[← e1,Ib rfl]at e2;subst e2;obtain⟨hall,_⟩:=v8 e1.symm;have ag:land ∉ fr:=by
    rcases nj land R rfl rfl with h | ⟨y,h3,h4⟩
    ·exact h
    ·exact absurd h4 (so y (hall y h3)).2
   have O:t8 (gW S R land) fr:=fun y J=>by
    rcases pP.mp J with rfl | ⟨_,h⟩
    ·exact⟨hl,ag⟩
    ·exact so y h
   exact⟨O,xS (pP.mpr (.inl rfl)),⟨ic.ks,ic.v,ic.n1,ic.n8⟩⟩
  | @forfeit land house hl hh=>
   obtain⟨e1,e2⟩:=st.fn (.forfeit (land:=land) (house:=house));rw[← e1,Ib rfl]at e2;subst e2;have Y:aS S land=true:=by
    unfold iD at e1;by_cases q:aS S land=false
    ·rw[Ib q]at e1;exact absurd e1 (by decide)
    ·simpa using q
   have Z:∀ y,aS { S with hs:=bT S.hs (Ac land) (.str house) } y=true↔aS S y=true:=fun y=>by
    refine Hg aCc ⟨fun q=>?_,.inr⟩;rcases q with rfl | q
    ·exact Y
    ·exact q
   exact⟨fun y J=>so y ((Z y).mp J),xS ((Z land).mpr Y),⟨ic.ks,ic.v,ic.n1,ic.n8⟩⟩
  | @measure field F hf h0 ae=>
   obtain⟨_,e2⟩:=st.fn (.measure (field:=field) (n:=F));subst e2;have ad:field∈ws:=fi (by decide) _ _ rfl;refine⟨so,h1,⟨?_,fun y J=>⟨(ic.v y J).1,?_⟩,ic.n1,ic.n8⟩⟩
   ·show(bT S.inc (Ac field) (.int F)).map (·.1)=_
    obtain⟨_,n,hn,_⟩:=ic.v field ad;rw[aHJ,Ib (by rw[hn];rfl)];exact ic.ks
   ·show∃ n:Int,bS (bT S.inc (Ac field) (.int F)) (Ac y)=some (.int n)∧_;rw[eB];by_cases e:(Ac y:Key)=Ac field
    ·rw[Ib e];exact⟨F,rfl,h0,ae⟩
    ·rw[Ia e];exact(ic.v y J).2
  | @mend house M hh ho ap=>
   obtain⟨_,e2⟩:=st.fn (.mend (a:=house) (b:=M));subst e2;exact⟨so,h1,⟨ic.ks,ic.v,ic.n1,ic.n8⟩⟩
  | @alone house hh=>
   obtain⟨_,e2⟩:=st.fn (.alone (a:=house));subst e2;exact⟨so,h1,⟨ic.ks,ic.v,ic.n1,ic.n8⟩⟩
  | @breach field n1 n2 n3 hf af ab av am ao au=>
   obtain⟨_,e2⟩:=st.fn .breach;subst e2;exact⟨so,h1,ic⟩
  | @view field house n1 hf af ab hh=>
   obtain⟨_,e2⟩:=st.fn .view;subst e2;exact⟨so,h1,ic⟩
 ·have e:=st.idle hz;subst e;exact⟨so,h1,ic⟩
theorem wC:∀(iz d:List (Key×V)),(iz.map (·.1)).Nodup→(∀ k∈iz.map (·.1),bS d k=none)→cZ d iz=d ++ iz
 | [],d,_,_=>by rw[BN];rfl
 | kv :: iz,d,hn,h=>by
  rw[Av,AZ]at hn;show cZ (bT d kv.1 kv.2) iz=_;rw[iY _ (h kv.1 (by simp)),wC iz _ hn.2,AY]
  ·rfl
  ·intro k q;rw[← iY kv.2 (h kv.1 (by simp)),eB,Ia (fun e=>hn.1 (by rw[← e];exact q))];exact h k (by rw[Av];exact Ap _ q)
theorem aJu{Ls:List L4}(hn:(Ls.map (·.1)).Nodup)(ho:∀ l∈Ls,LOk l)(h1:1≤Ls.length)(Y:Ls.length≤8):uA (ex0 Ls) (Ls.map (·.1)):=by
 have J:(Ls.map fun l=>((Ac l.1:Key),V.int l.2.2.2)).map (·.1)=(Ls.map (·.1)).map Ac:=by
  rw[EV,EV];rfl
 have e:(ex0 Ls).inc=Ls.map fun l=>((Ac l.1:Key),V.int l.2.2.2):=by
  unfold ex0;rw[iG,wC _ _ ?_ fun _ _=>rfl]
  ·rfl
  ·rw[J];refine List.Pairwise.map _ (fun a b h e=>h ?_) hn;injection e
 refine⟨by rw[e,J],fun f O=>?_,by rw[Aa];exact h1,by rw[Aa];exact Y⟩;obtain⟨l,hl,rfl⟩:=AR.mp O;refine⟨(ho l hl).f,?_⟩;obtain⟨v,hv⟩:=A2.mp (mU (fun l:L4=>l.1) (fun l:L4=>V.int l.2.2.2) (Ac l.1) Ls [] (.inr ⟨l,hl,rfl⟩));have z:bS (ex0 Ls).inc (Ac l.1)=some v:=by unfold ex0;rw[iG];exact hv
 rcases iT _ _ _ _ _ _ hv with h | ⟨F,q,_,M⟩
 ·cases h
 ·exact⟨_,by rw[z,M],(ho F q).i1,(ho F q).i2⟩
theorem pQ(f:Str→Bool):∀ l:List Str,(l.filter f).length + (l.filter fun z=>!f z).length=l.length
 | []=>rfl
 | x :: r=>by
  have q:=pQ f r;simp only[BP];cases h:f x
  ·simp only[B7,if_false,Bool.not_false,if_true,AK];omega
  ·simp only[if_true,Bool.not_true,B7,if_false,AK];omega
theorem aE8{K:Ah}{H H':Hp}{p c fl:Ae}{ns:List Int}{iz:List (Key×V)}(ce:SqL K H c (ns.map V.int))(q:H fl=none)(F:H p=some (.dK iz))(k:bA p H H'):(Rd H' c (.lst (ns.map V.int))∧c≠fl)∨∀ H',SqL K H' c (ns.map V.int):=by
 rcases ce with(e | ⟨o',e⟩) | e
 ·exact .inl ⟨.inl (k _ _ e (bU e F (fun z=>nomatch z))),aJ e q⟩
 ·exact .inl ⟨.inr ⟨o',k _ _ e (bU e F (fun z=>nomatch z))⟩,aJ e q⟩
 ·exact .inr fun H'=>.inr e
theorem aDc{H:Hp}{xs:List V}{F:List c3}{fs:List Str}{x:V}{u:c3}(h:mQ H xs F fs)(rd:RdV false H x u.d)(ok:u.Ok fs):mQ H (xs ++ [x]) (F ++ [u]) fs:=by
 refine⟨by rw[AD,AD,h.len];rfl,fun i y q=>?_⟩;have hl:=h.len;rcases Nat.lt_trichotomy i xs.length with z | z | z
 ·rw[CI z]at q;obtain⟨v,h1,h2⟩:=h.at' i y q;exact⟨v,by rw[CI (by omega)];exact h1,h2⟩
 ·rw[z,Cw (Am _),Nat.sub_self]at q;cases q;exact⟨u,by rw[z,hl,Cw (Am _),Nat.sub_self];rfl,rd,ok⟩
 ·rw[CC (by rw[AD];show xs.length + 1≤i;omega)]at q;cases q
section
variable{K:Ah}{H H':Hp}{p c:Ae}{ns:List Int}{a:Int}{W:Ae}{B:WA}{sc:Int}{os:List UK}{own jg:UK→Str}{S S':Ex}{fl lp:Ae}{fr:List Str}{ps:List Str}
theorem RSB.done(b:RSB K H p c ns W B sc os own S fl lp ps)(h:Cur H H p c a fl fr)(kx:cO [B.ow,B.me,B.ho,B.ic] H H')(wl:e9 H' W B sc os jg S')(ce:(Rd H' c (.lst (ns.map V.int))∧c≠fl)∨∀ H',SqL K H' c (ns.map V.int)):RSB K H' p c ns W B sc os jg S' fl lp ps∧Cur H' H' p c a fl fr:=by
 obtain⟨l,hl,e⟩:=h.ob;have q:=b.pw;simp only[Ak,Ao,or_false,not_or]at q;have ep:H' p=some (.dK (f6 c a l)):=kx p _ (by
  simp only[Ak,Ao,or_false,not_or];exact⟨bU e b.wl.ow (fun z=>nomatch z),q.2⟩) e
 have ef:=b.wl.kept kx h.ef (fun _ z=>nomatch z) (fun _ z=>nomatch z);exact⟨⟨ce,b.sm,wl,b.wl.kept kx b.ep (fun _ z=>nomatch z) (fun _ z=>nomatch z),b.np,b.p1,b.p3,b.pw,b.fo,b.fp,⟨_,ep⟩,⟨_,ef⟩⟩,⟨cO.refl _,⟨l,hl,ep⟩,h.ge,ef⟩⟩
theorem RSB.app{q:Ae}{xs ys:List V}(b:RSB K H p c ns W B sc os own S fl lp ps)(h:Cur H H p c a fl fr)(e:H q=some (.lst xs))(n1:q≠fl)(O:q≠lp)(M:q≠B.o)(ce:(Rd (upd H q (.lst ys)) c (.lst (ns.map V.int))∧c≠fl)∨∀ H',SqL K H' c (ns.map V.int)):RSB K (upd H q (.lst ys)) p c ns W B sc os own S fl lp ps∧Cur (upd H q (.lst ys)) (upd H q (.lst ys)) p c a fl fr:=by
 obtain⟨l,hl,ep⟩:=h.ob;have J:upd H q (.lst ys) p=some (.dK (f6 c a l)):=by rw[aG (bU ep e (fun z=>nomatch z))];exact ep
 have F:upd H q (.lst ys) fl=some (.lst (fr.map V.str)):=by rw[aG n1.symm];exact h.ef
 exact⟨⟨ce,b.sm,b.wl.lst e M,by rw[aG O.symm];exact b.ep,b.np,b.p1,b.p3,b.pw,b.fo,b.fp,⟨_,J⟩,⟨_,F⟩⟩,⟨cO.refl _,⟨l,hl,J⟩,h.ge,F⟩⟩
end
inductive aAj(K:Ah)(vs:List V)(H:Hp)(Q:VK)(u3_:XK):Prop
 | mk (p c:Ae) (ns:List Int) (a:Int) (most:Nat) (lt:Ae) (tw:List Str) (q0:vs=[.ref p,.int most,.ref lt]) (q1:dD K H p c ns a) (q2:a≤100000) (q3:most≤40) (q4:H lt=some (.lst (tw.map V.str))) (q5:(∀ z∈tw,z∈f7)) (q6:1≤tw.length) (q7:tw.length≤20) (q8:∀(t2 t:Ae) (Ls:List L4) (us:List c3) (sc a':Int) (H':Hp),H' t2=some (.tup [.ref t,.int sc])→fS H' t Ls us→(∀ l∈Ls,LOk l∧sc ∣ l.2.2.1∧l.2.2.1≤10 * sc)→(Ls.map (·.1)).Nodup→1≤Ls.length→1≤sc→sc≤100000→(∀ u∈us,RSc sc u)→us.length≤most→a≤a'→a'≤a + 30000→dD K H' p c ns a'→bA p H H'→Q (.ref t2) H'):aAj K vs H Q u3_
def aE9(K:Ah):Sp:=fun vs H Q u3_=>aAj K vs H Q u3_
theorem aFa:bY ["_law_pen_here","_law_most","_law_terms","_law_scale","_law_pool","_law_laying_here","_law_fields","_law_fresh","_law_world_here","_law_day","_law_last","_law_rows","_law_name","_law_word_here","_law_behind","_law_row"] ["_law_pen_here","_law_most","_law_terms"] (aO y9):=⟨rfl,rfl,rfl,by decide,rfl,by decide,by decide⟩
theorem aGi{f fN fL fW fD fM fR fO fE:Ae}{fd hE gg gD hy fe fx gK gi:A3}(F:Fun K "_law_roll" "_law_roll" y9 f fd)(c9:mg "len"=none)(fK:mg "tuple"=none)
  (GN:cP P w K mg base CX0 2 fN hE ["_law_pen_here","_law_many"] (xE K)) (mN:mg "_law_names"=some (.ref fN)) (kN:AO K (.ref fN)=true) (bN:d9 K hE ["_law_pen_here","_law_many"] [])
  (GL:cP P w K mg base CX0 3 fL gg ["_law_pen_here","_law_pool","_law_scale","_law_most"] (z7 K)) (mL:mg "_law_laying"=some (.ref fL)) (kL:AO K (.ref fL)=true) (bL:d9 K gg ["_law_pen_here","_law_pool","_law_scale","_law_most"] [])
  (GW:cP P w K mg base CX0 2 fW gD ["_law_laying_here","_law_scale"] aB8) (mW:mg "_law_world"=some (.ref fW)) (kW:AO K (.ref fW)=true) (bW:d9 K gD ["_law_laying_here","_law_scale"] [])
  (GD:cP P w K mg base CX0 1 fD hy ["_law_pen_here","_law_many"] (oG K)) (mD:mg "_law_draw"=some (.ref fD)) (kD:AO K (.ref fD)=true) (bD:d9 K hy ["_law_pen_here","_law_many"] [])
  (GM:cP P w K mg base CX0 3 fM fe ["_law_pen_here","_law_world_here","_law_fresh","_law_pool","_law_word_here"] (aE6 K)) (mM:mg "_law_made"=some (.ref fM)) (kM:AO K (.ref fM)=true) (bM:d9 K fe ["_law_pen_here","_law_world_here","_law_fresh","_law_pool","_law_word_here"] [])
  (GR:cP P w K mg base CX0 1 fR fx ["_law_word_here"] aEV) (mR:mg "_law_rank"=some (.ref fR)) (kR:AO K (.ref fR)=true) (bR:d9 K fx ["_law_word_here"] [])
  (GO:cP P w K mg base CX0 3 fO gK ["_law_world_here","_law_row"] aET) (mO:mg "_law_word"=some (.ref fO)) (kO:AO K (.ref fO)=true) (bO:d9 K gK ["_law_world_here","_law_row"] [])
  (GE:cP P w K mg base CX0 2 fE gi ["_law_world_here","_law_row"] aIO) (mE:mg "_law_do"=some (.ref fE)) (kE:AO K (.ref fE)=true) (bE:d9 K gi ["_law_world_here","_law_row"] [])
  :cP P w K mg base CX0 4 f fd ["_law_pen_here","_law_most","_law_terms"] (aE9 K):=by
 refine F.ok aFa (fun vs H Q E h=>?_) (fun lv A outer s H vs Q E hr h=>?_)
 ·obtain⟨p,c,ns,a,most,lt,tw,rfl,_⟩:=h;rfl
 ·obtain⟨p,c,ns,a,most,lt,tw,rfl,hp,ha,hmost,elt,htw,ht1,ht20,k⟩:=h;have hu:=d7 hr;have ae:dG 1 _:=hr.mono (by decide);have bn:dG 2 _:=hr.mono (by decide);have ec:dG 3 _:=hr.mono (by decide);have nd:=aFa.nd;refine⟨_,(aB (aX (i:=3) nd rfl (Ar rfl) (aQ b8 (c6 (aF aD (aF aD (aF (bC nY aD aD) aE)))) (cN GD ae rfl mD kD bD .nil dJ (aF (pv 0) (aF aD aE))) Ig))
   (aB (aX (i:=4) nd rfl (Ar rfl) (cN GN bn rfl mN kN bN .nil dJ (aF (pv 0) (aF (bC cX aD (cN GD ae rfl mD kD bD .nil dJ (aF (pv 0) (aF aD aE)))) aE))))
   (aB (aX (i:=5) nd rfl (Ar rfl) (cN GL ec rfl mL kL bL .nil dJ (aF (pv 0) (aF (pv 4) (aF (pv 3) (aF aD aE))))))
   (aB (aX (i:=6) nd rfl (Dq rfl) (c5 (N:=["_law_row"]) (src:=[none]) (osc:=aO y9) (oN:=["_law_pen_here","_law_most","_law_terms","_law_scale","_law_pool","_law_laying_here","_law_fields","_law_fresh","_law_world_here","_law_day","_law_last","_law_rows","_law_name","_law_word_here","_law_behind","_law_row"]) ⟨by rfl,by decide,by decide,by decide,rfl,by rfl⟩ (dE (pv 5)) (fun cl s H fp gz C=>⟨aR (i:=0) (show(["_law_row"]:List Str).Nodup by decide) rfl (Ar rfl),c8,aQ (r:=kZ K) aV (pv 0) aD Ig⟩)))
   (aB (i0 (i:=7) (N:=["_law_name","_law_fields"]) (src:=[none,some 6]) (osc:=aO y9) (oN:=["_law_pen_here","_law_most","_law_terms","_law_scale","_law_pool","_law_laying_here","_law_fields","_law_fresh","_law_world_here","_law_day","_law_last","_law_rows","_law_name","_law_word_here","_law_behind","_law_row"]) ⟨by rfl,by decide,by decide,by decide,rfl,by rfl⟩ nd rfl (iP (cN GN bn rfl mN kN bN .nil dJ (aF (pv 0) (aF aD aE)))) (fun cl s H fp gz C=>⟨aR (i:=0) (show(["_law_name","_law_fields"]:List Str).Nodup by decide) rfl (Ar rfl),m5 (aZ (r:=rIn K true) lA (pv 0) (pv 1) (by with_unfolding_all rfl)),pv 0⟩))
   (aB (aX (i:=8) nd rfl (Ar rfl) (cN GW bn rfl mW kW bW .nil dJ (aF (pv 5) (aF (pv 3) aE))))
   (aB (aX (i:=9) nd rfl (Ar rfl) (aQ b8 (c6 (aF aD (aF (cN GD ae rfl mD kD bD .nil dJ (aF (pv 0) (aF aD aE))) aE))) (cN GD ae rfl mD kD bD .nil dJ (aF (pv 0) (aF aD aE))) Ig))
   (aB (aX (i:=10) nd rfl (Ar rfl) (cH (aF aD (aF aD (aF aN aE)))))
   (aB (aX (i:=11) nd rfl (Ar rfl) (c6 aE))
   (aB (d8 A7 rfl (iP (cN GN bn rfl mN kN bN .nil dJ (aF (pv 0) (aF (cN GD ae rfl mD kD bD .nil dJ (aF (pv 0) (aF (bC cX (pv 1) aD) aE))) aE)))) (g:=aU 12) (aR (i:=12) nd rfl (Ar rfl))
   (aB (aX (i:=9) nd rfl (Ar rfl) (bC cX (pv 9) (aQ b8 (c6 (aF aD (aF aD (aF aD (aF aD aE))))) (cN GD ae rfl mD kD bD .nil dJ (aF (pv 0) (aF aD aE))) Ig)))
    (aB (aX (i:=13) nd rfl (Ar rfl) (aQ b8 (pv 2) (cN GD ae rfl mD kD bD .nil dJ (aF (pv 0) (aF (aW bK (by rfl) c9 AW (aF (pv 2) aE)) aE))) Ig))
    (aB (aX (i:=14) nd rfl (Ar rfl) (cN GM ec rfl mM kM bM .nil dJ (aF (pv 0) (aF (pv 8) (aF (pv 7) (aF (pv 4) (aF (pv 13) aE)))))))
    (aB (fP (cC (PW.pt (iH (aZ cT (pv 13) aN (bG _)) (gF (aZ cT (aW bK (by rfl) c9 AW (aF (pv 14) aE)) aD (bG _))))) (aM (aX (i:=13) nd rfl (Ar rfl) aN)) bB))
    (aB (fP (cC (aZ (aHs (ED hu)) (cH (aF (pv 9) (aF (cN GR ae rfl mR kR bR .nil dJ (aF (pv 13) aE)) (aF (pv 12) aE)))) (pv 10) (bG _)) (aM (aX (i:=9) nd rfl (Ar rfl) (bC cX (pv 9) aD))) bB))
    (aB (aX (i:=10) nd rfl (Ar rfl) (cH (aF (pv 9) (aF (cN GR ae rfl mR kR bR .nil dJ (aF (pv 13) aE)) (aF (pv 12) aE)))))
    (aB (aX (i:=15) nd rfl (Ar rfl) (bC aFF (cH (aF (pv 13) (aF (pv 12) (aF (pv 9) aE)))) (pv 14)))
    (aB (fP (cC (aZ cT (cN GO ec rfl mO kO bO .nil dJ (aF (pv 8) (aF (pv 15) aE))) aN (bG _)) (aM (dP (cN GE bn rfl mE kE bE .nil dJ (aF (pv 8) (aF (pv 15) aE))))) bB))
    (aM (dP (j0 A8 BC BB fG (pv 11) (aF (pv 15) aE)))))))))))))
   (aM (bF (cH (aF (cH (aF (pv 5) (aF (dL eO (by rfl) fK (by kernel_rfl) (aF (pv 11) aE)) aE))) (aF (pv 3) aE))))))))))))))),?_⟩
  refine K09.tl fun R hR=>?_;refine⟨_,_,rfl,rfl,⟨by decide,by decide,by decide⟩,zZ3,fun L hL=>?_⟩;have sL:=aK (o:=.lst [V.int 1,.int 1,.int (10 ^ (5:Int).toNat)]) hL;have eL:upd H L (.lst [V.int 1,.int 1,.int (10 ^ (5:Int).toNat)]) L=some (.lst ([(1:Int),1,100000].map V.int)):=aA;have eS:=hp.same sL;have kL:bA p H _:=(bA.refl p H).same sL;generalize upd H L _=H0 at sL eL eS kL ⊢;refine⟨_,rfl,p,c,ns,a,_,rfl,eS,by omega,by decide,by decide,fun r1 a1 H1 hW dV l1 u1 hT q1=>?_⟩;obtain⟨sc,hsc,hat1⟩:=uB (l:=[(1:Int),1,100000]) hW (by show r1 < 3;exact dV);have Z:1≤sc∧sc≤100000:=by
   simp only[Ak,Ao,or_false]at hsc;rcases hsc with rfl | rfl | rfl <;> omega
  refine⟨L,_,_,_,rfl,rfl,aY (cW eL eS q1),hat1,?_⟩;have k1:=kL.trans q1;dsimp only[aU];subst hR;refine K09.tl fun R hR=>?_;refine⟨_,rfl,_,rfl,p,c,ns,a1,_,rfl,hT,by omega,by decide,by decide,fun r2 a2 H2 mj hB l2 u2 hb q2=>?_⟩;refine⟨_,_,rfl,rfl,?_⟩;obtain⟨M,hM⟩:∃ M:Nat,2 + r2=M:=⟨(2 + r2).toNat,by omega⟩
  rw[show V.int (2 + r2)=V.int (M:Int) from congrArg V.int hM];have k2:=k1.trans q2;refine⟨p,c,ns,a2,M,rfl,hb,by omega,by omega,fun lp ps a3 H3 gc f1 lj fz l3 u3 fa q3=>?_⟩;have k3:=k2.trans q3;have mr:H lp=none:=lF hb k2 gc;dsimp only[aU];subst hR;refine K09.tl fun R hR=>?_;refine⟨_,rfl,_,rfl,_,rfl,p,c,ns,a3,lp,ps,sc,10,rfl,fa,by omega,f1,fz,by omega,by omega,Z.1,Z.2,rfl,fun ai xs O a4 H4 bt ez hok b6 d5 b7 l4 u4 io q4=>?_⟩;have k4:=k3.trans q4;have gj:=cW f1 fa q4;have fy:=ez.len;rw[Aa]at fy;dsimp only[aU];subst hR;refine K09.tl fun R hR=>?_;refine⟨_,rfl,ai,rfl,⟨_,aH bt⟩,?_⟩;refine dN (K:=K) (xs:=xs) (fun i ys σ' H'=>∃(o1:Option V),σ'=[o1]∧H'=H4∧ys=((O.take i).map (·.1)).map V.str) ⟨none,rfl,rfl,rfl⟩ (aP (by omega)) (fun i ys σ H' p=>by obtain⟨_,_,_,rfl⟩:=p;rw[Aa,Aa,AJ];omega) (fun i ys σ H' p=>by obtain⟨_,_,rfl,_⟩:=p;exact aH bt) ?_ ?_
  ·rintro i v ys σ' H' hv ⟨o1,rfl,rfl,rfl⟩;obtain⟨dd,hdd,rd'⟩:=ez.at hv;rw[An]at hdd;obtain⟨l,hl,rfl⟩:=AG.mp hdd;obtain⟨q,rfl,hq⟩:=iF rd';dsimp only[aU];refine eZ ?_;refine⟨_,rfl,q,_,0,_,rfl,rfl,aH hq,rfl,_,rfl,rfl,?_⟩;rw[AE,hl,Az,Az];rfl
  rintro ys σ' H' ⟨o1,rfl,rfl,rfl⟩ af gT;rw[fy,AM];obtain⟨J,hws⟩:∃ J,J=O.map (·.1):=⟨_,rfl⟩
  rw[← hws]at b6 ⊢;have m4:J.length=O.length:=by rw[hws,Aa]
  have ba:=aK (o:=.lst (J.map V.str)) gT;have f5:upd H' af (.lst (J.map V.str)) af=some (.lst (J.map V.str)):=aA;have a0:=io.same ba;have k5:=k4.same ba;have di:=ba _ _ gj;have bm:=ba _ _ bt;have cz:=cD.onT (bV ba) ez (fQ O);generalize upd H' af _=H5 at ba f5 a0 k5 di bm cz ⊢;dsimp only[aU];subst hR;refine K09.tl fun R hR=>?_;refine⟨_,rfl,p,c,ns,a4,300,rfl,a0,by omega,by decide,fun LA nA a6 H6 mm f2 kt eW l6 u6 fv q6=>?_⟩;have k6:=k5.trans q6;have de:=cW di a0 q6;have g0:=cW f5 a0 q6;have dm:=jA a0 q6 _ _ bm;have fq:=cD.onT (jA a0 q6) cz (fQ O);refine⟨LA,rfl,⟨_,aY f2⟩,?_⟩;refine m6 (K:=K) (xs:=nA.map V.str) (fun i ys σ' H'=>∃(o1:Option V),σ'=[o1,some (.ref af)]∧H'=H6∧ys=((nA.take i).filter fun z=>decide (z ∉ J)).map V.str) ⟨none,rfl,rfl,rfl⟩ (aP (by rw[Aa];omega)) (fun i ys σ H' p=>by obtain⟨_,_,_,rfl⟩:=p;rw[Aa];exact AI (BS _ _) (by rw[AJ];exact D6 _ _)) (fun i ys σ H' p=>by obtain⟨_,_,rfl,_⟩:=p;exact aY f2) ?_ ?_
  ·rintro i v ys σ' H' hv ⟨o1,rfl,rfl,rfl⟩;rw[An]at hv;obtain⟨z,hz,rfl⟩:=AG.mp hv;have et:(nA.take (i + 1)).filter (fun z=>decide (z ∉ J))=(nA.take i).filter (fun z=>decide (z ∉ J)) ++ if decide (z ∉ J)=true then[z] else[]:=by
    rw[AE,hz,Cy];congr 1;show Ez _ [z]=_;rw[BP,D0]
   dsimp only[aU];refine⟨_,rfl,_,rfl,af,_,rfl,.inl (aY g0),rfl,gU _,_,rfl,?_⟩;show if (if true=true then !inV (V.str z) (J.map V.str) else inV (V.str z) (J.map V.str))=true then _ else _
   rw[Ib rfl,nB];by_cases g:z∈J
   ·rw[Ic g];refine dS ⟨_,rfl,rfl,?_⟩;rw[et,Ia (by simpa using g),BN]
   ·rw[decide_eq_false g];refine eZ ⟨_,rfl,_,rfl,rfl,?_⟩;rw[et,Ib (by simpa using g),Az];rfl
  rintro ys σ' H' ⟨o1,rfl,rfl,rfl⟩ fl eh;rw[Aa,AM];have c0:Nms (nA.filter fun z=>decide (z ∉ J)):=⟨eW.nd.filter _,fun z hz=>eW.ok z (Bz.mp hz).1⟩
  have c2:∀ z∈nA.filter (fun z=>decide (z ∉ J)),z ∉ J:=fun z hz=>Ie (Bz.mp hz).2;have fZ:292≤(nA.filter fun z=>decide (z ∉ J)).length:=by
   have h1:=pQ (fun z=>decide (z ∉ J)) nA;have h2:(nA.filter fun z=>!decide (z ∉ J)).length≤J.length:=DB (eW.nd.filter _) fun z hz=>by simpa using(Bz.mp hz).2
   omega
  have da:(nA.filter fun z=>decide (z ∉ J)).length≤300:=AI (BS _ _) (by omega);generalize nA.filter (fun z=>decide (z ∉ J))=aT at c0 c2 fZ da ⊢;have cg:H fl=none:=lF fv k6 eh;have sF:=aK (o:=.lst (aT.map V.str)) eh;have eK:lp≠fl:=aJ de eh;have b5:=fv.same sF;have k7:=k6.same sF;have df:=sF _ _ de;have au:=sF _ _ dm;have bI:=cD.onT (bV sF) fq (fQ O);have an:upd H' fl (.lst (aT.map V.str)) fl=some (.lst (aT.map V.str)):=aA;generalize upd H' fl _=H7 at sF b5 k7 df au bI an ⊢;dsimp only[aU];subst hR;refine K09.tl fun R hR=>?_;refine⟨_,rfl,_,rfl,ai,xs,O,sc,rfl,au,bI,hok,by rw[← hws];exact b6,d5,b7,Z.1,Z.2,fun W B os own H8 S8 bu je=>?_⟩;have k8:=k7.same S8;have g6:=b5.same S8;dsimp only[aU];subst hR;refine K09.tl fun R hR=>?_;obtain⟨l0,hl0,ep0⟩:=hp.ob;obtain⟨l7,hl7,ea⟩:=b5.ob;have ag:RSB K H8 p c ns W B sc os own (ex0 O) fl lp ps:=⟨aE8 hp.ce cg ep0 k8,hp.sm,je,S8 _ _ df,fz,by omega,by omega,(fun z=>by
    have hn:=bu p;simp only[Ak,Ao,or_false]at z hn;rw[hn (by rcases z with z | z | z | z <;> simp[z])]at ea;cases ea),(fun e=>by rw[e,bu B.o (by simp)]at an;cases an),eK.symm,⟨_,S8 _ _ ea⟩,⟨_,S8 _ _ an⟩⟩
  have fC:Cur H8 H8 p c a6 fl aT:=⟨cO.refl _,g6.ob,g6.ge,S8 _ _ an⟩
  have ir:∀ x∈[W,B.o,B.ow,B.me,B.ho,B.ic],H x=none:=fun x hx=>lF b5 k7 (bu x hx);refine⟨_,rfl,p,c,ns,a6,_,rfl,(fC.pen ag),by omega,by decide,by decide,fun r9 a9 H9 ku kF l9 u9 jh q9=>?_⟩;have i3:=fC.draw q9 jh;refine⟨zZ2,fun L2 iB=>?_⟩;have s2:=aK (o:=.lst [V.int 0,.int r9]) iB;have aI:=i3.same s2;have fI:upd H9 L2 (.lst [V.int 0,.int r9]) L2=some (.lst ([(0:Int),r9].map V.int)):=aA;have hg:bA p H _:=(k8.trans q9).same s2;generalize upd H9 L2 _=ln at s2 aI fI hg ⊢;refine⟨_,rfl,p,c,ns,a9,_,rfl,(aI.pen ag),by omega,by decide,by decide,fun dV h7 hA e6 gq ky ll f3 ev=>?_⟩;have gp:=aI.draw ev f3;have jm:=hg.trans ev;obtain⟨day0,hday,hat11⟩:=uB (l:=[(0:Int),r9]) e6 (by show dV < 2;exact gq);have ik:0≤day0∧day0≤7899:=by
   simp only[Ak,Ao,or_false]at hday;rcases hday with rfl | rfl <;> omega
  refine⟨L2,_,_,_,rfl,rfl,aY (aI.lst fI ev),hat11,?_⟩;dsimp only[aU];subst hR;refine K09.tl fun R hR=>?_;refine⟨zZ3,fun tl h3=>?_⟩;have eM:=aK (o:=.tup [V.int 0,.int 0,.str ""]) h3;have Y:=gp.same eM;have en:=jm.same eM;have hw:upd hA tl (.tup [V.int 0,.int 0,.str ""]) tl=some (.tup [V.int 0,.int 0,.str ""]):=aA;generalize upd hA tl _=gr at eM Y en hw ⊢;dsimp only[aU];subst hR;refine K09.tl fun R hR=>?_;refine⟨A0 _,fun LR bf=>?_⟩;have sR:=aK (o:=.lst []) bf;have ij:H LR=none:=lF (Y.pen ag) en bf;have cI:LR≠fl:=(aJ Y.ef bf).symm;have gB:LR≠lp:=(aJ (Y.ep ag) bf).symm;obtain⟨qo,ho1,_⟩:=(Y.wl ag).o;have ig:LR≠B.o:=(aJ ho1 bf).symm;have ao:=Y.same sR;have gf:=en.same sR;have b3:=sR _ _ hw;have gx:upd gr LR (.lst []) LR=some (.lst []):=aA;generalize upd gr LR (.lst [])=l5 at sR ao gf b3 gx ⊢;dsimp only[aU];subst hR;refine K09.tl fun R hR=>?_;refine⟨_,rfl,_,rfl,_,rfl,_,_,rfl,rfl,p,c,ns,h7,_,rfl,(ao.pen ag),by omega,by omega,gJ (by omega),fun gA iu lw ki jy ms lh c1 b4=>?_⟩;have az:=ao.draw b4 c1;have jj:=gf.trans b4;have ei:=ao.tup b4 _ _ b3;have bg:=ao.lst gx b4;obtain⟨nn,rfl⟩:∃ n:Nat,gA=n:=⟨gA.toNat,by omega⟩
  refine⟨p,c,ns,iu,nn,rfl,c1,by omega,by omega,fun LN ek eg kv ff hj jd iA nf lf g7 cr=>?_⟩;have aC:=az.draw cr g7;have ja:=jj.trans cr;have dq:=az.tup cr _ _ ei;have em:=az.lst bg cr;have ft:LN≠fl:=(aJ az.ef ff).symm;have hS:LN≠LR:=(aJ bg ff).symm;have cw:=(aC.tups ag) _ _ (S8 _ _ au);have ey:=cD.onT (aC.tups ag) (cD.onT (bV S8) bI (fQ O)) (fQ O);have hO:t8 (ex0 O) aT:=fun z hz=>by
   have hf:=st0.mp hz;obtain⟨l,hl,rfl⟩:=AR.mp hf;exact⟨(hok l hl).1.f,fun h=>c2 _ h (by rw[hws];exact hf)⟩
  have il:1≤(ex0 O).hs.length:=by
   obtain⟨l,hl⟩:=List.exists_mem_of_length_pos (show 0 < O.length by omega);exact xS (st0.mpr (Ba hl))
  have ip:uA (ex0 O) J:=by
   rw[hws];exact aJu (by rw[← hws];exact b6) (fun l hl=>(hok l hl).1) d5 b7
  have iw:EB (ex0 O) 0 J:=by
   rw[hws];exact EB.zero b7
  refine⟨LN,rfl,⟨_,aY hj⟩,?_⟩;refine lU (K:=K) (xs:=ek.map V.str) (fun i σ H'=>Ex3 fun(eR eN eC:Option V)=>Ex3 fun(br:Option V) (day:Int) (tl:Ae)=>Ex3 fun(d1 d2:Int) (zl:Str)=>Ex3 fun(a':Int) (fr:List Str) (jg:UK→Str)=>Ex3 fun(S':Ex) (qs:List Ae) (us:List c3)=>Aw6 (σ=[some (.ref p),some (.int most),some (.ref lt),some (.int sc),some (.ref lp),some (.ref ai),some (.ref af),some (.ref fl),some (.ref W),some (.int day),some (.ref tl),some (.ref LR),eR,eN,eC,br]) (RSB K H' p c ns W B sc os jg S' fl lp ps) (Cur H' H' p c a' fl fr) (bA p H H') (eg≤a') (Aw6 (a'≤eg + 600 * i) (H' ai=some (.tup xs)) (cD false H' xs (O.map lQ)) (H' tl=some (.tup [.int d1,.int d2,.str zl])) (H' LR=some (.lst (qs.map V.ref))) (Aw6 (H' LN=some (.lst (ek.map V.str))) (mQ H' (qs.map V.ref) us J) (us.length=i) ((∀ u∈us,RSc sc u)) (0≤day) (Aw6 (day≤7899 + 51 * i) (Nms fr) (292≤fr.length + 7 * i) (fr.length≤300) (t8 S' fr) (Aw3 (1≤S'.hs.length) (EB S' i J) (uA S' J))))))
   ⟨none,none,none,none,day0,tl,0,0,"",eg,aT,own,ex0 O,[],[],rfl,ag.at aC,aC.here,ja,by omega,by omega,cw,ey,dq,em,hj,⟨rfl,fun i x hx=>by simp at hx⟩,rfl,fun u hu=>by simp at hu,ik.1,by omega,c0,by omega,da,hO,il,iw,ip⟩ (fun i σ H' _ p=>by obtain⟨_,_,_,_,_,_,_,_,_,_,_,_,_,_,_,_,_,_,_,_,_,_,_,_,_,e,_⟩:=p;exact aY e) ?_ ?_
  ·rintro i v σ G hv ⟨eR,eN,eC,br,day,cm,d1,d2,zl,a',fr,jg,S',qs,us,rfl,rb,cu,kb,la,ua,dr,gl,gw,f0,g5,ab,du,bx,lI,ls,fw,lq,g4,d4,gk,eb,ic⟩;rw[An]at hv;obtain⟨name,hname,rfl⟩:=AG.mp hv;have hh:=iA.ok name (AH hname);have kl:i < 40:=by have:=(At.mp hname).1;omega
   have mI:(i:Int) < 40:=by omega
   dsimp only[aU];refine K09.tl fun R2 ar=>?_;refine⟨_,rfl,zZ4,fun q hq=>?_⟩;have sq:=aK (o:=.lst [V.int 0,.int 0,.int 1,.int 50]) hq;have cc:=cu.same sq;have eq:upd G q (.lst [V.int 0,.int 0,.int 1,.int 50]) q=some (.lst ([(0:Int),0,1,50].map V.int)):=aA;generalize upd G q _=Gq at sq cc eq ⊢;refine⟨_,rfl,p,c,ns,_,_,rfl,cc.pen rb,by omega,by decide,by decide,fun hB nc gh hD fg md my gm eF=>?_⟩;have bz:=cc.draw eF gm;obtain⟨st4,hst4,hat21⟩:=uB (l:=[(0:Int),0,1,50]) hD (by show hB < 4;exact fg);have j1:0≤st4∧st4≤50:=by
    simp only[Ak,Ao,or_false]at hst4;rcases hst4 with rfl | rfl | rfl | rfl <;> omega
   refine⟨q,_,_,_,rfl,rfl,aY (cc.lst eq eF),hat21,_,_,rfl,rfl,?_⟩;obtain⟨dy,hdy⟩:∃ dy,day + st4=dy:=⟨_,rfl⟩
   rw[show V.int (day + st4)=V.int dy from congrArg V.int hdy];dsimp only[aU];subst ar;refine K09.tl fun R2 ar=>?_;have g1:bA p H gh:=(kb.same sq).trans eF;have bq:gh lt=some (.lst (tw.map V.str)):=cW elt hp g1;refine⟨_,rfl,_,rfl,_,rfl,lt,_,rfl,.inl (aY bq),p,c,ns,_,_,rfl,bz.pen rb,by omega,by rw[Aa];omega,gJ (by rw[Aa];omega),fun kA ix mx gv gy lK m1 fj eA=>?_⟩;have bi:=bz.draw eA fj;have iy:=g1.trans eA;obtain⟨word,hword,hat22⟩:=fV gv gy;refine⟨lt,_,_,_,rfl,rfl,aY (bz.lst bq eA),hat22,?_⟩;dsimp only[aU];subst ar;refine K09.tl fun R2 ar=>?_;have hZ:=htw word hword;refine⟨_,rfl,_,rfl,_,rfl,_,rfl,_,rfl,p,c,ns,W,B,sc,os,jg,S',fl,lp,ps,fr,J,ix,word,rfl,rb.at bi,bi.here,by omega,fw,by omega,g4,d4,gk,AI eb.h (by omega),ic,hZ,fun t bZ ds fb cf bb bo lc kz bP cy ju et iq l8 mo=>?_⟩;have ax:=bi.trans bo;have kL:∀{b:Ae} {o:HO},G b=some o→(∀ xs,o≠.dK xs)→b≠fl→bb b=some o:=fun{b o} e n n2=>ax.kx b o (by
    obtain⟨iz,hpk⟩:=rb.pk;simp only[Ak,Ao,or_false,not_or];exact⟨bU e hpk (n _),n2⟩) e
   have jk:bA p H bb:=fun b o e n=>bo.kx b o (by
    simp only[Ak,Ao,or_false,not_or];exact⟨n,aJ e cg⟩) (iy b o e n)
   have tG:d6 G bb:=ax.tups rb;have e2:=kL f0 (fun _ z=>nomatch z) cI;have eu:=kL g5 (fun _ z=>nomatch z) ft;have fh:=rb.at ax;have hk:=ax.here;have d3:=tG _ _ gw;have cb:=tG _ _ dr;have dk:=cD.onT tG gl (fQ O);have cs:=ab.on tG;dsimp only[aU];subst ar;have cv:jT word bZ∈f7:=mo.rs.word;refine⟨fun σ' H'=>σ'=[some (.ref p),some (.int most),some (.ref lt),some (.int sc),some (.ref lp),some (.ref ai),some (.ref af),some (.ref fl),some (.ref W),some (.int dy),some (.ref cm),some (.ref LR),some (.str name),some (.str (jT word bZ)),some (.ref t),br]∧H'=bb,?_,?_⟩
   ·refine⟨_,rfl,rfl,_,rfl,cR (fun g=>?_) fun g=>?_⟩
    ·have g':word="mend":=V.str.inj (Ie g);refine⟨_,rfl,t,_,rfl,.inr (aH et),rfl,_,rfl,cR (fun g2=>?_) fun g2=>?_⟩
     ·have dn:bZ.length=1:=by have:=V.int.inj (Ie g2);omega
      exact⟨by rw[show jT word bZ="alone" from Ib ⟨g',dn⟩];rfl,rfl⟩
     ·have dn:bZ.length≠1:=fun e=>g2 (Ic (by rw[e];rfl));exact⟨by rw[show jT word bZ=word from Ia (fun z=>dn z.2)];rfl,rfl⟩
    ·have g':word≠"mend":=fun e=>g (Ic (by rw[e]));refine dS ?_;exact⟨by rw[show jT word bZ=word from Ia (fun z=>g' z.1)];rfl,rfl⟩
   rintro σ' Hy ⟨rfl,eH⟩;rw[eH];clear eH;generalize jT word bZ=wd at mo cv ⊢;refine⟨fun σ' H'=>∃ dz:Int,σ'=[some (.ref p),some (.int most),some (.ref lt),some (.int sc),some (.ref lp),some (.ref ai),some (.ref af),some (.ref fl),some (.ref W),some (.int dz),some (.ref cm),some (.ref LR),some (.str name),some (.str wd),some (.ref t),br]∧b9 bb H'∧dy≤dz∧dz≤dy + 1,?_,?_⟩
   ·refine⟨_,rfl,_,rfl,wd,rfl,cv,fun Ha sa=>?_⟩;refine⟨_,rfl,zZ3,fun u eP=>?_⟩;have su:=sa.trans (aK (o:=.tup [V.int dy,.int (rk wd),.str name]) eP);refine⟨_,rfl,u,cm,_,_,_,_,_,_,rfl,rfl,aA,su _ _ d3,_,rfl,cR (fun g=>?_) fun g=>?_⟩
    ·exact⟨_,rfl,_,_,rfl,rfl,dy + 1,rfl,su,by omega,by omega⟩
    ·exact⟨dy,rfl,su,by omega,by omega⟩
   rintro σ' lg ⟨dz,rfl,jf,j2,kc⟩;refine⟨_,rfl,_,rfl,wd,rfl,cv,fun Ha sa=>?_⟩;refine⟨_,rfl,zZ3,fun b2 fm=>?_⟩;have fc:=(jf.trans sa).trans (aK (o:=.tup [V.int dz,.int (rk wd),.str name]) fm);have bh:upd Ha b2 (.tup [V.int dz,.int (rk wd),.str name]) b2=some (.tup [V.int dz,.int (rk wd),.str name]):=aA;generalize upd Ha b2 _=mt at fc bh ⊢;dsimp only[aU];refine K09.tl fun R2 ar=>?_;refine⟨_,rfl,_,rfl,_,rfl,zZ3,fun u eP=>?_⟩;have su:=aK (o:=.tup [V.str wd,.str name,.int dz]) eP;have hC:=fc.trans su;refine⟨_,rfl,u,t,_,_,rfl,rfl,aA,hC _ _ et,(by show 3 + bZ.length≤_;omega),fun r el dg er=>?_⟩;have aw:=hC.trans dg;have eD:=dg _ _ (su _ _ bh);dsimp only[aU];subst ar;have bc:c3.Ok ⟨wd,name,dz,ds⟩ J:=⟨mo.rs,hh,by dsimp only;omega,by dsimp only;omega,mo.fi⟩
   have av:RdV false el (.ref r) (c3.d ⟨wd,name,dz,ds⟩):=.tup er (by simp;omega) (.cons (.str wd (aEG cv)) (.cons (gC hh) (.cons (.int _) (cD.onT (bV aw) iq mo.rs.nodict))));have dj:=(hk.same aw).here;have dc:RSB K el p c ns W B sc os jg S' fl lp ps:=fh.at (hk.same aw);have h6:=jk.same aw;have cx:=mo.sc name dz;have g3:t8 S' cf:=fun z hz=>⟨(d4 z hz).1,fun h=>(d4 z hz).2 (bP _ h)⟩
   refine⟨fun σ' H'=>∃(ak:UK→Str) (S5:Ex),σ'=[some (.ref p),some (.int most),some (.ref lt),some (.int sc),some (.ref lp),some (.ref ai),some (.ref af),some (.ref fl),some (.ref W),some (.int dz),some (.ref b2),some (.ref LR),some (.str name),some (.str wd),some (.ref t),some (.ref r)]∧RSB K H' p c ns W B sc os ak S5 fl lp ps∧Cur H' H' p c fb fl cf∧bA p H H'∧d6 el H'∧H' LR=some (.lst (qs.map V.ref))∧H' LN=some (.lst (ek.map V.str))∧t8 S5 cf∧1≤S5.hs.length∧EB S5 (i + 1) J∧uA S5 J,?_,?_⟩
   ·refine⟨_,rfl,_,rfl,W,B,sc,os,jg,S',.ref r,⟨wd,name,dz,ds⟩,J,rfl,dc.wl,eb.k,av,bc,fun z S5 m3 st am=>?_⟩;have aL:=eb.step bc st;obtain⟨cq,ci,ca⟩:=aGh st mo g3 gk ic;have dh:=(dj.same am).here;have aa:=dc.at (dj.same am);have fu:=h6.same am;have bp:=am _ _ (aw _ _ e2);have bv:=am _ _ (aw _ _ eu);refine⟨rfl,_,rfl,cR (fun g=>?_) fun g=>?_⟩
    ·have g':z="done":=V.str.inj (Ie g);subst g';refine⟨_,rfl,_,rfl,W,B,sc,os,jg,S',S5,.ref r,⟨wd,name,dz,ds⟩,J,rfl,aa.wl,bc.on av (bV am),bc,cx,st,AI aL.m (by omega),AI aL.h (by omega),AI eb.i (by omega),fun ak bd kx fA=>?_⟩;have ck:bA p H bd:=fun b o e n=>kx b o (fun z=>by
      have hn:=ir b;simp only[Ak,Ao,or_false]at z hn;rw[hn (by rcases z with z | z | z | z <;> simp[z])]at e;cases e) (fu b o e n)
     obtain⟨b1,bw⟩:=aa.done dh kx fA (aE8 hp.ce cg ep0 ck);exact⟨ak,S5,rfl,b1,bw,ck,fun b us e=>aa.wl.kept kx (am _ _ e) (fun _ z=>nomatch z) (fun _ z=>nomatch z),aa.wl.kept kx bp (fun _ z=>nomatch z) (fun _ z=>nomatch z),aa.wl.kept kx bv (fun _ z=>nomatch z) (fun _ z=>nomatch z),cq,ci,aL,ca⟩
    ·have g':z≠"done":=fun e=>g (Ic (by rw[e]));have e5:=st.idle g';subst e5;exact⟨jg,S5,rfl,aa,dh,fu,bV am,bp,bv,cq,ci,aL,ca⟩
   rintro σ' bd ⟨ak,S5,rfl,b1,bw,ck,dt,ad,ew,cq,ci,aL,ca⟩;have jt:=ab.len;rw[Aa]at jt;refine⟨_,rfl,.inl ⟨rfl,_,aY ad⟩,_,rfl,LR,_,_,rfl,rfl,ad,by rw[Aa];exact cV (by omega),?_⟩;have gt:bA p H (upd bd LR (.lst (qs.map V.ref ++ [V.ref r]))):=fun b o e n=>by
    rw[aG (aJ e ij)];exact ck b o e n
   obtain⟨rb30,cu30⟩:=b1.app (ys:=qs.map V.ref ++ [V.ref r]) bw ad cI gB ig (aE8 hp.ce cg ep0 gt);have eT:d6 bd (upd bd LR (.lst (qs.map V.ref ++ [V.ref r]))):=fun b us e=>by rw[aG (bU e ad (fun z=>nomatch z))];exact e
   have tA:d6 bb (upd bd LR (.lst (qs.map V.ref ++ [V.ref r]))):=fun b us e=>eT _ _ (dt _ _ (aw _ _ e));refine⟨_,_,_,_,dz,b2,dz,rk wd,name,fb,cf,ak,S5,qs ++ [r],us ++ [⟨wd,name,dz,ds⟩],rfl,rb30,cu30,gt,by omega,by omega,tA _ _ cb,cD.onT tA dk (fQ O),eT _ _ (dt _ _ eD),by rw[aA,Az];rfl,by rw[aG hS];exact ew,?_,by rw[AD,du];rfl,fun x hx=>?_,by omega,by omega,⟨cy,fun z hz=>fw.ok z (bP z hz)⟩,by omega,?_,cq,ci,aL,ca⟩
   ·rw[Az];exact aDc (cs.on tA) (bc.on av fun b us e=>eT _ _ (dt _ _ e)) bc
   ·rcases AS.mp hx with h | h
    ·exact bx x h
    ·rw[AF.mp h];exact cx
   ·exact AI (DB cy bP) g4
  ·rintro σ H' ⟨eR,eN,eC,br,day,cm,d1,d2,zl,a',fr,jg,S',qs,us,rfl,rb,cu,kb,la,ua,eE,gu,jw,he,kn,ab,du,bx,_⟩;rw[Aa,jd]at ua du;subst hR;refine⟨_,rfl,_,rfl,LR,_,rfl,.inl ⟨aY he,fun rw jq=>?_⟩⟩;have hP:=aK (o:=.tup (qs.map V.ref)) jq;refine⟨zZ2,fun t ht=>?_⟩;have st:=aK (o:=.tup [V.ref ai,.ref rw]) ht;refine⟨_,rfl,zZ2,fun t2 hU=>?_⟩;have eo:=aK (o:=.tup [V.ref t,.int sc]) hU;have sA:=(hP.trans st).trans eo;refine k t2 t O us sc a' _ aA ⟨ai,rw,xs,qs.map V.ref,eo _ _ aA,sA _ _ eE,cD.onT (bV sA) gu (fQ O),fun l hl=>(hok l hl).1,b7,eo _ _ (st _ _ aA),by rw[← hws];exact ab.on (bV sA),by omega⟩ hok (by rw[← hws];exact b6) d5 Z.1 Z.2 bx (by omega) (by omega) (by omega) ((cu.pen rb).same sA) (kb.same sA)
structure OkD(b k:Nat)(d:Bb):Prop where
 sh:d.showable=true
 dp:d.depth≤k
 len:d.shown.length≤b
theorem OkD.mono{b z k q:Nat}{d:Bb}(h:OkD b k d)(J:b≤z)(F:k≤q):OkD z q d:=⟨h.sh,AI h.dp F,AI h.len J⟩
theorem aFb{b k:Nat}:∀{ds:List Bb},(∀ d∈ds,OkD b k d)→PyData.showableAll ds=true∧PyData.depthAll ds≤k∧((ds.map Dh).map (·.length)).sum≤ds.length * b
 | [],_=>⟨rfl,A0 _,by simp⟩
 | d :: r,h=>by
  obtain⟨h1,h2,h3⟩:=aFb (ds:=r) fun x q=>h x (Ap _ q);obtain⟨g1,g2,g3⟩:=h d Al;refine⟨?_,?_,?_⟩
  ·unfold PyData.showableAll;rw[g1,h1];rfl
  ·unfold PyData.depthAll;exact Nat.max_le.mpr ⟨g2,h2⟩
  ·rw[Av,Av,Cf,AK,Nat.succ_mul];omega
theorem OkD.tuple{b k n:Nat}{ds:List Bb}(h:∀ d∈ds,OkD b k d)(hn:ds.length≤n):OkD (n * (b + 2) + 3) (k + 1) (.tuple ds):=by
 obtain⟨h1,h2,h3⟩:=aFb h;refine⟨?_,?_,?_⟩
 ·unfold EN;exact h1
 ·unfold EK;omega
 ·unfold Dh;rw[PyProof.Rows.shownAll_eq_map];unfold tupleText;have q:=StrLaws.join_length_le (BF ", ") (ds.map Dh);have J:(BF ", ").length=2:=by decide
  have z:(BF "(").length=1:=by decide
  have F:∀ c:Bool,(BF (if c=true then ",)" else ")")).length≤2:=by decide
  have M:=F ((ds.map Dh).length == 1);rw[J,Aa]at q;rw[DK,DK,z];have:ds.length * b + ds.length * 2≤n * (b + 2):=by
   rw[← Nat.mul_add];exact Nat.mul_le_mul_right _ hn
  omega
theorem OkD.list{b k n:Nat}{ds:List Bb}(h:∀ d∈ds,OkD b k d)(hn:ds.length≤n):OkD (n * (b + 2) + 3) (k + 1) (.list ds):=by
 obtain⟨h1,h2,h3⟩:=aFb h;refine⟨?_,?_,?_⟩
 ·unfold EN;exact h1
 ·unfold EK;omega
 ·unfold Dh;rw[PyProof.Rows.shownAll_eq_map,listText_eq_join];have q:=StrLaws.join_length_le (BF ", ") (ds.map Dh);have J:(BF ", ").length=2:=by decide
  have z:(BF "[").length=1:=by decide
  have F:(BF "]").length=1:=by decide
  rw[J,Aa]at q;rw[DK,DK,z,F];have:ds.length * b + ds.length * 2≤n * (b + 2):=by
   rw[← Nat.mul_add];exact Nat.mul_le_mul_right _ hn
  omega
theorem OkD.str{z:Str}(h:EJ z=true)(hl:z.length≤100):OkD 1002 0 (.str z):=by
 refine⟨by unfold EN;rfl,by unfold EK;exact Am _,?_⟩;have F:z.cps.size≤100:=hl;have q:(BK z).layable0=true:=by
  unfold PyData.layable0 PyData.canLay0 EK PyData.weight;rw[h,Ic (show(0:Nat)≤64 by decide),Ic (show z.cps.size≤2 ^ 20 by omega)];rfl
 have:=PyProof.Rows.len_repr_of_layable q;unfold Dh;omega
theorem aGj{i:Int}(q:0≤i)(h1:i < 10 ^ 60):(BF (toString i)).length≤60:=by
 obtain⟨n,rfl⟩:∃ n:Nat,i=n:=⟨i.toNat,by omega⟩
 rw[PySem.ofString_length];show(Int.repr (n:Int)).length≤60;have e:Int.repr (n:Int)=Nat.repr n:=rfl;rw[e];exact(Nat.length_repr_le_iff (by decide)).mpr (by omega)
theorem OkD.int{i:Int}(z:0≤i)(h1:i < 10 ^ 60):OkD 1002 0 (.int i):=by
 refine⟨?_,by unfold EK;exact Am _,?_⟩
 ·unfold EN;refine Ic ?_;have h2:i.natAbs < 2 ^ 200:=by
   have:(10:Int) ^ 60 < ((2 ^ 200:Nat):Int):=by decide
   omega
  by_cases q:i.natAbs=0
  ·rw[q];decide
  ·have:=(GV q).mpr h2;omega
 ·unfold Dh;have:=aGj z h1;omega
theorem OkD.name{z:Str}(h:cJ z=true):OkD 1002 0 (.str z):=OkD.str (aEF h) (by have:=qB h;omega)
theorem aGk{R:List Str}(h:(R.map BK).all zK=true)(q:R.length≤6):OkD 7000 1 (.tuple (R.map BK)):=by
 refine(OkD.tuple (n:=6) (b:=1002) (k:=0) (fun d hd=>?_) (by rw[Aa];exact q)).mono (by decide) (by decide);obtain⟨z,hz,rfl⟩:=AR.mp hd;exact OkD.name (A5.mp h _ hd)
theorem aFc{x:P3}(h:qP (pD x)=true):OkD 4000 1 (pD x):=by
 have e:(cJ x.1 && cJ x.2.1 && decide (1≤x.2.2∧x.2.2≤10000000))=true:=h;rw[Bv,Bv]at e;obtain⟨⟨h1,h2⟩,q⟩:=e;have q:=Ie q;unfold pD;refine(OkD.tuple (n:=3) (b:=1002) (k:=0) (fun d hd=>?_) (by show 3≤3;decide)).mono (by decide) (by decide);simp only[Ak,Ao,or_false]at hd;rcases hd with rfl | rfl | rfl
 ·exact OkD.name h1
 ·exact OkD.name h2
 ·exact OkD.int (by omega) (CD q.2 (by decide))
theorem kT.okd{word:Str}{ds:List Bb}(h:kT word ds):∀ d∈ds,OkD 25000 2 d:=by
 have nm:∀{z:Str},cJ z=true→OkD 25000 2 (.str z):=fun h=>(OkD.name h).mono (by decide) (by decide);have Y:∀{i:Int},0≤i→i≤1000000000→OkD 25000 2 (.int i):=fun h0 h1=>(OkD.int h0 (CD h1 (by decide))).mono (by decide) (by decide);intro d hd;cases h with
 | @part J R hl hr h2 h6 ha=>
  simp only[Ak,Ao,or_false]at hd;rcases hd with rfl | rfl
  ·exact nm hl
  ·refine(OkD.tuple (n:=6) (b:=4000) (k:=1) (fun d hd=>?_) (by rw[Aa];exact h6)).mono (by decide) (by decide);obtain⟨x,hx,rfl⟩:=AR.mp hd;exact aFc (A5.mp ha _ hd)
 | @join J R hl hr h2 h6 ha=>
  simp only[Ak,Ao,or_false]at hd;rcases hd with rfl | rfl
  ·exact(aGk ha h6).mono (by decide) (by decide)
  ·exact nm hl
 | @forfeit J q hl O=>
  simp only[Ak,Ao,or_false]at hd;rcases hd with rfl | rfl
  ·exact nm hl
  ·exact nm O
 | @measure F n Z h0 h1=>
  simp only[Ak,Ao,or_false]at hd;rcases hd with rfl | rfl
  ·exact nm Z
  ·exact Y h0 (by omega)
 | @mend q ae O ho ai=>
  simp only[Ak,Ao,or_false]at hd;rcases hd with rfl | rfl
  ·exact nm O
  ·exact nm ho
 | @alone q O=>
  simp only[Ak,Ao,or_false]at hd;subst hd;exact nm O
 | @breach F n1 n2 n3 Z M aa ag ah af ak=>
  simp only[Ak,Ao,or_false]at hd;rcases hd with rfl | rfl | rfl | rfl
  ·exact nm Z
  ·exact Y M (by omega)
  ·exact Y ag (by omega)
  ·exact Y af (by omega)
 | @view F q n1 Z M aa O=>
  simp only[Ak,Ao,or_false]at hd;rcases hd with rfl | rfl | rfl
  ·exact nm Z
  ·exact Y M (by omega)
  ·exact nm O
theorem aCk{w:Str}(h:w∈f7):EJ w=true∧w.length≤100:=by
 have:∀ w∈f7,EJ w=true∧w.length≤100:=by decide
 exact this w h
theorem c3.Ok.okd{r:c3}{fs:List Str}(h:r.Ok fs):OkD 176000 3 r.d:=by
 unfold c3.d xG;have hl:=h.rs.len;refine(OkD.tuple (n:=7) (b:=25000) (k:=2) (fun d hd=>?_) (by simp only[AK];omega)).mono (by decide) (by decide);simp only[Ak]at hd;rcases hd with rfl | rfl | rfl | hd
 ·exact(OkD.str (aCk h.rs.word).1 (aCk h.rs.word).2).mono (by decide) (by decide)
 ·exact(OkD.name h.nm).mono (by decide) (by decide)
 ·exact(OkD.int h.d0 (CD h.d1 (by decide))).mono (by decide) (by decide)
 ·exact h.rs.okd d hd
theorem LOk.okd{l:L4}(h:LOk l):OkD 5000 1 (lQ l):=by
 unfold lQ;refine(OkD.tuple (n:=4) (b:=1002) (k:=0) (fun d hd=>?_) (by show 4≤4;decide)).mono (by decide) (by decide);simp only[Ak,Ao,or_false]at hd;have a1:=h.a1;rcases hd with rfl | rfl | rfl | rfl
 ·exact OkD.name h.f
 ·exact OkD.name h.h
 ·exact OkD.int (by omega) (CD h.a2 (by decide))
 ·exact OkD.int h.i1 (CD h.i2 (by decide))
def pR(Ls:List L4)(us:List c3):Bb:=.tuple [.tuple (Ls.map lQ),.tuple (us.map c3.d)]
theorem aCl{H:Hp}{fs:List Str}:∀{ys:List V}{q:List c3},mQ H ys q fs→cD false H ys (q.map c3.d)
 | [],[],_=>.nil
 | [],_ :: _,h=>by have:=h.len;simp at this
 | _ :: _,[],h=>by have:=h.len;simp at this
 | y :: ys,u :: q,h=>by
  obtain⟨u',h1,h2,_⟩:=h.at' 0 y rfl;cases h1;exact .cons h2 (aCl ⟨by have:=h.len;simpa using this,fun i x z=>h.at' (i + 1) x z⟩)
theorem fS.rd{H:Hp}{t:Ae}{Ls:List L4}{q:List c3}(h:fS H t Ls q):RdV false H (.ref t) (pR Ls q):=by
 obtain⟨lay,rw,xs,ys,h1,h2,h3,h4,h6,h7,h8,h9⟩:=h.ex;have z:=h3.len;have F:=h8.len;rw[Aa]at z;exact .tup h1 (by show 2≤1000;decide) (.cons (.tup h2 (by omega) h3) (.cons (.tup h7 (by omega) (aCl h8)) .nil))
theorem fS.ok{H:Hp}{t:Ae}{Ls:List L4}{q:List c3}(h:fS H t Ls q):OkD 16000000 20 (pR Ls q):=by
 obtain⟨lay,rw,xs,ys,h1,h2,h3,h4,h6,h7,h8,h9⟩:=h.ex;have z:∀ u∈q,OkD 176000 3 u.d:=fun u hu=>by
  obtain⟨i,hi⟩:=Cq hu;obtain⟨hl,_⟩:=At.mp hi;obtain⟨u',e1,_,e3⟩:=h8.at' i _ (Ai (by have:=h8.len;omega));rw[hi]at e1;cases e1;exact e3.okd
 have J:OkD 7100000 4 (.tuple (Ls.map lQ)):=(OkD.tuple (n:=8) (b:=5000) (k:=1) (fun d hd=>by
  obtain⟨l,hl,rfl⟩:=AR.mp hd;exact(h4 l hl).okd) (by rw[Aa];exact h6)).mono (by decide) (by decide)
 have F:OkD 7100000 4 (.tuple (q.map c3.d)):=(OkD.tuple (n:=40) (b:=176000) (k:=3) (fun d hd=>by
  obtain⟨u,hu,rfl⟩:=AR.mp hd;exact z u hu) (by rw[Aa];exact h9)).mono (by decide) (by decide)
 refine(OkD.tuple (n:=2) (b:=7100000) (k:=4) (fun d hd=>?_) (by show 2≤2;decide)).mono (by decide) (by decide);simp only[Ak,Ao,or_false]at hd;rcases hd with rfl | rfl
 ·exact J
 ·exact F
theorem aFd{H:Hp}{m:Bool}{a:Ae}{d:Bb}(r:RdV m H (.ref a) d)(o:OkD 16000000 20 d):RpV H (.ref a) d.shown:=.ref r o.sh o.dp (AI o.len (by rw[BT];omega))
def jB(Ls:List L4)(us:List c3):List (Key×V):=us.foldl lN (ex0 Ls).inc
inductive uC(C T:Ae)(vs:List V)(H:Hp)(Q:VK)(u3_:XK):Prop
 | mk (t:Ae) (Ls:List L4) (us:List c3) (n:Nat) (q0:vs=[.ref t,.int n]) (q1:fS H t Ls us) (q2:Tb T H) (q3:∀ M (A:MA) (m:Mnd) H',dH T H H'→Tb T H'→Mom H' C M A (Ls.map (·.1)) 248 m (jB Ls (us.take n))→H A.h=none→(n=0→aBh H' A.h Ls)→Q (.ref M) H'):uC C T vs H Q u3_
def uD(C T:Ae):Sp:=fun vs H Q u3_=>uC C T vs H Q u3_
inductive uE(T:Ae)(vs:List V)(H:Hp)(Q:VK)(u3_:XK):Prop
 | mk (t:Ae) (Ls:List L4) (us:List c3) (n:Nat) (f:Str) (v:V) (q0:vs=[.ref t,.int n,.str f]) (q1:fS H t Ls us) (q2:Tb T H) (q3:bS (jB Ls (us.take n)) (Ac f)=some v) (q4:∀ H',dH T H H'→Tb T H'→Q v H'):uE T vs H Q u3_
def uF(T:Ae):Sp:=fun vs H Q u3_=>uE T vs H Q u3_
inductive aAk(H:Hp)(r:Ae)(l:L4):Prop
 | mk (u p:Ae) (q0:H r=some (.tup [.str l.1,.str l.2.1,.ref u])) (q1:H u=some (.tup [.ref p])) (q2:H p=some (.tup [.str l.1,.int 0,.int l.2.2.1])):aAk H r l
def gH(H:Hp)(r:Ae)(l:L4):Prop:=aAk H r l
theorem gH.on{H H':Hp}{r:Ae}{l:L4}(h:gH H r l)(t:d6 H H'):gH H' r l:=by
 obtain⟨u,p,h1,h2,h3⟩:=h;exact⟨u,p,t _ _ h1,t _ _ h2,t _ _ h3⟩
def l0:L4:=("","",0,0)
def uG(Ls:List L4):List L4:=(fT (Ls.map (·.1))).map fun i=>Ls.getD i l0
theorem wD{R:Ae→L4→Prop}{rs:List Ae}{Ls:List L4}(h:By R rs Ls):∀{q:List Nat},(∀ i∈q,i < Ls.length)→By R (q.map fun i=>rs.getD i 0) (q.map fun i=>Ls.getD i l0)
 | [],_=>.nil
 | i :: q,z=>by
  have hi:=z i (by simp);have hl:=h.length;refine .cons ?_ (wD h fun j F=>z j (by simp[F]));show R (rs.getD i 0) (Ls.getD i l0);rw[A1,A1,Ai hi,Ai (by omega:i < rs.length)];exact Paired.at h (Ai _) (Ai _)
theorem aAm{R:Ae→L4→Prop}{rs:List Ae}{Ls:List L4}(h:By R rs Ls)(h1:1≤Ls.length):By R ((fT (Ls.map (·.1))).map fun i=>rs.getD i 0) (uG Ls):=wD h fun i hi=>by
 have:=(gQ (Ls.map (·.1)) (by rw[Aa];omega)).mem_iff.mp hi
 rw[BU,Aa]at this;exact this
inductive wE(T:Ae)(vs:List V)(H:Hp)(Q:VK)(u3_:XK):Prop
 | mk (t:Ae) (Ls:List L4) (us:List c3) (q0:vs=[.ref t,.int 0]) (q1:fS H t Ls us) (q2:Tb T H) (q3:(Ls.map (·.1)).Nodup) (q4:1≤Ls.length) (q5:∀(l:Ae) (rs:List Ae) (H':Hp),H l=none→dH T H H'→Tb T H'→H' l=some (.lst (rs.map V.ref))→By (gH H') rs (uG Ls)→Q (.ref l) H'):wE T vs H Q u3_
def aCm(T:Ae):Sp:=fun vs H Q u3_=>wE T vs H Q u3_
theorem aFe{T d:Ae}{od:Obj}{iz:List (Key×V)}{H:Hp}(g:Tb T H)(e:H d=some (.dK iz)):Tb T (upd H d (.frz od (.dK iz))):=by
 obtain⟨ps,h1,h2,q⟩:=g.ex;refine⟨ps,by rw[aG (bU h1 e (fun z=>nomatch z))];exact h1,h2,?_⟩;rcases q with q | ⟨c,q,F⟩
 ·exact .inl q
 ·exact .inr ⟨c,q,by rw[aG (bU F e (fun z=>nomatch z))];exact F⟩
theorem aAn:bY ["roll","at","laying","rows","moment","row"] ["roll","at"] (aO w6):=⟨rfl,rfl,rfl,by decide,rfl,by decide,by decide⟩
theorem aDd{f fI fC C T:Ae}{fd ab aa:A3}(F:Fun K "moment_behind" "moment_behind" w6 f fd)(mk:Mk K C fI)
  (GI:cP P w K mg base CX0 1 fI ab ["self","laying"] (aBi C)) (mC:mg "Moment"=some (.ref C)) (bI:d9 K ab ["self","laying"] [])
  (GC:cP P w K mg base CX0 6 fC aa ["moment","row"] (iM C T f7)) (mD:mg "carry_out"=some (.ref fC)) (kD:AO K (.ref fC)=true) (bD:d9 K aa ["moment","row"] []):
  cP P w K mg base CX0 7 f fd ["roll","at"] (uD C T):=by
 refine F.ok aAn (fun vs H Q E h=>?_) (fun bn A outer s H vs Q E hr h=>?_)
 ·obtain⟨t,Ls,us,n,rfl,_⟩:=h;rfl
 ·obtain⟨t,Ls,us,n,rfl,roll,tb,k⟩:=h;have nd:=aAn.nd;have ap:dG 2 _:=hr.mono (by decide);refine⟨_,aB (iV (pv 0) (fJ rfl (bH (aR (i:=2) nd rfl (Ar rfl)) (bH (aR (i:=3) nd rfl (Ar rfl)) dU))))
   (aB (aX (i:=4) nd rfl (Ar rfl) (aBv mk GI ap rfl mC bI .nil dJ (aF (pv 2) aE)))
   (aB (d8 A7 rfl (dE (g8 aBF (pv 3) jE (jF (pv 1)))) (g:=aU 5) (aR (i:=5) nd rfl (Ar rfl))
    (aM (dP (cN GC hr rfl mD kD bD .nil dJ (aF (pv 4) (aF (pv 5) aE))))))
   (aM (bF (pv 4))))),?_⟩
  obtain⟨lay,rw,xs,ys,h1,h2,h3,h4,h6,h7,h8,h9⟩:=roll.ex;refine⟨_,rfl,t,_,rfl,aH h1,rfl,_,_,rfl,_,_,rfl,rfl,_,rfl,fun x dx hx ai ne=>?_⟩;have s1:=aK (o:=.own x) ai;have s2:=aK (H:=upd H dx (.own x)) (o:=.ins C dx []) (p:=x) (by rw[aG (BX ne)];exact hx);have M:=s1.trans s2;have ex:upd (upd H dx (.own x)) x (.ins C dx []) x=some (.ins C dx []):=aA;generalize upd (upd H dx (.own x)) x (.ins C dx [])=H0 at M ex ⊢;clear s2;refine⟨x,dx,lay,xs,Ls,rfl,ex,M _ _ h2,h3.same M,h4,h6,fun MA H1 k1 n1 n2 n3 ag hz=>⟨rfl,?_⟩⟩;have f:∀{a:Ae},H0 a=none→H a=none:=fun{a} z=>by
   cases q:H a with
   | none=>rfl
   | some o=>rw[M _ _ q]at z;cases z
  have f1:=f n1;have f2:=f n2;have f3:=f n3;have S1:dH T H H1:=fun b o _ e=>k1 b o (M _ _ e) (aJ e hx);have am:Tb T H1:=aEN (tb.same M) ex k1;have ah:=cE S1 tb _ _ h7;refine⟨_,rfl,_,rfl,_,rfl,rw,_,rfl,ah,fun t2 H2 s2 Y=>?_⟩;rw[wT (α:=Unit)]at Y;have S2:dH T H H2:=S1.trans s2.butT;refine⟨t2,rfl,⟨_,aH Y⟩,?_⟩;refine gZ (K:=K) (xs:=ys.take n) (fun i σ H'=>∃(o5:Option V),Aw6 (σ=[some (.ref t),some (.int n),some (.ref lay),some (.ref rw),some (.ref x),o5]) (dH T H H') (Tb T H') (H' t2=some (.tup (ys.take n))) ((∃ m,Mom H' C x MA (Ls.map (·.1)) (8 + 6 * i) m (jB Ls (us.take i)))) ((i=0→aBh H' MA.h Ls))) ⟨none,rfl,S2,am.same s2,Y,⟨_,ag.same s2⟩,fun _ hn=>by obtain⟨hol,q1,q2⟩:=hz hn;exact⟨hol,s2 _ _ q1,Paired.mapP q2 fun _ _ z=>z.on (bV s2)⟩⟩ (fun i σ H' _ p=>by obtain⟨_,_,_,_,e,_⟩:=p;exact aH e) ?_ ?_
  ·rintro i v σ H3 hv ⟨o5,rfl,S3,O,e3,⟨m,J⟩,_⟩;have ad:ys[i]?=some v:=by
    rw[Cm]at hv;split at hv
    ·exact hv
    ·cases hv
   have hi:i < ys.length:=(At.mp ad).1;have hl:=h8.len;obtain⟨u,hu,rdu,oku⟩:=h8.at' i v ad;have T3:=cE S3 tb;refine⟨_,rfl,_,rfl,x,MA,_,8 + 6 * i,m,_,v,u,rfl,J,by omega,O,oku.on rdu T3,oku,oku.rs.word,fun z m' H4 k4 al Z=>?_⟩;refine⟨_,rfl,fun b o nb e=>k4 b o (fun z=>?_) (S3 b o nb e),al,J.tups O k4 _ _ e3,⟨m',?_⟩,fun q=>absurd q (Nat.succ_ne_zero i)⟩
   ·simp only[Ak,Ao,or_false]at z;rcases z with z | z | z | z
    ·exact nb z
    ·rw[z,f1]at e;cases e
    ·rw[z,f2]at e;cases e
    ·rw[z,f3]at e;cases e
   ·have e1:jB Ls (us.take (i + 1))=lN (jB Ls (us.take i)) u:=by
     unfold jB;rw[AE,hu,Da];rfl
    rw[e1];exact Z
  ·rintro σ H3 ⟨o5,rfl,S3,O,e3,⟨m,J⟩,ao⟩;have hl:=h8.len;have e1:us.take (ys.take n).length=us.take n:=by
    rw[AJ,hl];by_cases z:n≤us.length
    ·rw[C4 z]
    ·rw[EQ (by omega),AM,Bg (by omega)]
   rw[e1]at J;exact⟨_,rfl,k x MA m H3 S3 O (J.mono (by rw[AJ];omega)) f1 fun ak=>ao (by rw[ak];rfl)⟩
theorem aBl:bY ["roll","at","field"] ["roll","at","field"] (aO qA):=⟨rfl,rfl,rfl,by decide,rfl,by decide,by decide⟩
theorem aAo{f:Ae}{fd:A3}(F:Fun K "inches_of" "inches_of" qA f fd){C T:Ae}(hc:MC K C)
  (Z:Cl P w K mg base 7 "moment_behind" ["roll","at"] (uD C T))
  :cP P w K mg base CX0 8 f fd ["roll","at","field"] (uF T):=by
 refine F.ok aBl (fun vs H Q E h=>?_) (fun O A outer s H vs Q E J h=>?_)
 ·obtain⟨t,Ls,us,n,f,v,rfl,_⟩:=h;rfl
 ·obtain⟨t,Ls,us,n,f,v,rfl,roll,tb,hv,k⟩:=h;have hu:=d7 J;refine⟨_,(aM (bF (bJ hu (dB (cM Z J (aF (pv 0) (aF (pv 1) aE))) rfl) (pv 2) Ig))),_,rfl,_,rfl,t,Ls,us,n,rfl,roll,tb,fun M A m H1 Y z q _ _=>⟨M,C,_,_,_,rfl,q.ins,hc.cl,hc.i,rfl,_,rfl,A.i,v,rfl,.inl ⟨_,Ac f,.inl q.i.1,rfl,hv.symm⟩,k H1 Y z⟩⟩
theorem aCn:bY ["roll","at","moment"] ["roll","at"] (aO w9):=⟨rfl,rfl,rfl,by decide,rfl,by decide,by decide⟩
theorem aFf{f:Ae}{fd:A3}(F:Fun K "lands" "lands" w9 f fd){C T:Ae}(hc:MC K C)(ab:mg "sorted"=none)
  (GB:Cl P w K mg base 7 "moment_behind" ["roll","at"] (uD C T))
  :cP P w K mg base CX0 8 f fd ["roll","at"] (aCm T):=by
 refine F.ok aCn (fun vs H Q E h=>?_) (fun bh A outer s H vs Q E hr h=>?_)
 ·obtain⟨t,Ls,Z,rfl,_⟩:=h;rfl
 ·obtain⟨t,Ls,Z,rfl,roll,tb,hnd,hl1,k⟩:=h;have nd:=aCn.nd;refine⟨_,(aB (aX (i:=2) nd rfl (Ar rfl) (cM GB hr (aF (pv 0) (aF (pv 1) aE))))
   (aM (bF (aW pG (by rfl) ab (by kernel_rfl) (aF (c5 (N:=["land","house","pieces"]) (src:=[none,none,none]) (osc:=aO w9) (oN:=["roll","at","moment"]) (g:=qU K 2 (c7 (aU 0) (c7 (qU K 2 (c7 (aU 1) (c7 (aU 2) qS))) qS))) ⟨by rfl,by decide,by decide,by decide,rfl,by rfl⟩ (aEj (dB (pv 2) rfl)) (fun cl s H fp gz C=>⟨fJ rfl (bH (aR (i:=0) (show(["land","house","pieces"]:List Str).Nodup by decide) rfl (Ar rfl)) (bH (fJ rfl (bH (aR (i:=1) (show(["land","house","pieces"]:List Str).Nodup by decide) rfl (Ar rfl)) (bH (aR (i:=2) (show(["land","house","pieces"]:List Str).Nodup by decide) rfl (Ar rfl)) dU))) dU)),c8,cH (aF (pv 0) (aF (pv 1) (aF (pv 2) aE)))⟩)) aE))))),?_⟩
  refine⟨_,rfl,_,rfl,t,Ls,Z,0,rfl,roll,tb,fun M A m H1 S1 av an az hz=>?_⟩;obtain⟨hol,hh,hp⟩:=hz rfl hnd;have am:=hp.length;have bc:Ls.length≤8:=by obtain⟨_,_,_,_,_,_,_,_,h,_⟩:=roll.ex;exact h
  dsimp only[aU];refine⟨_,rfl,M,C,_,_,_,rfl,an.ins,hc.cl,hc.h,rfl,A.h,hol,rfl,hh,fun od=>?_⟩;have eF:upd H1 A.h (.frz od (.dK hol)) A.h=some (.frz od (.dK hol)):=aA;have tF:d6 H1 (upd H1 A.h (.frz od (.dK hol))):=fun b Z e=>by rw[aG (bU e hh (fun z=>nomatch z))];exact e
  have SF:dH T H (upd H1 A.h (.frz od (.dK hol))):=fun b o nb e=>by rw[aG (aJ e az)];exact S1 b o nb e
  have ad:=aFe (od:=od) av hh;generalize upd H1 A.h (.frz od (.dK hol))=H2 at eF tF SF ad ⊢;refine aA7 (fun i ys σ' H'=>Ex3 fun(o1 o2 o3:Option V)=>∃(rs:List Ae),Aw3 (σ'=[o1,o2,o3]) (b9 H2 H') (Aw3 (ys=rs.map V.ref) (rs.length=i) (By (gH H') rs (Ls.take i)))) ⟨none,none,none,[],rfl,fun _ _ e=>e,rfl,rfl,.nil⟩
   (aP (by omega)) (fun i ys σ H' p=>by obtain⟨_,_,_,_,_,_,rfl,e,_⟩:=p;rw[Aa];omega) (fun i ys σ H' p=>by obtain⟨_,_,_,_,_,q,_⟩:=p;exact q _ _ eF) ?_ ?_
  ·rintro i k' x t' ys σ' Y hk ht ⟨o1,o2,o3,rs,rfl,S3,rfl,aa,pr⟩;have hi:i < hol.length:=(At.mp hk).1;obtain⟨l,hl⟩:∃ l,Ls[i]?=some l:=⟨_,Ai (by omega)⟩
   obtain⟨hk0,a1,a2,a3,hx,e1,e2,e3⟩:=Paired.at hp hk hl;have ae:k'=Ac l.1:=hk0;have aq:x=.ref a1:=hx;subst ae aq;have sT:=aK (o:=.tup [kV (Ac l.1),.ref a1]) ht;have sA:∀ b Z,H1 b=some (.tup Z)→upd Y t' (.tup [kV (Ac l.1),.ref a1]) b=some (.tup Z):=fun b Z e=>sT _ _ (S3 _ _ (tF _ _ e));have eT:upd Y t' (.tup [kV (Ac l.1),.ref a1]) t'=some (.tup [.str l.1,.ref a1]):=aA;generalize upd Y t' _=H4 at sT sA eT ⊢;dsimp only[aU];refine⟨t',_,rfl,aH eT,rfl,_,_,rfl,_,_,rfl,⟨a1,_,rfl,aH (sA _ _ e1),rfl,_,_,rfl,_,_,rfl,rfl,rfl,?_⟩⟩;refine eZ ?_;refine⟨_,rfl,_,rfl,_,rfl,zZ3,fun r hr=>?_⟩;have sr:=aK (o:=.tup [V.str l.1,.str l.2.1,.ref a2]) hr;refine⟨_,_,_,rs ++ [r],rfl,(S3.trans sT).trans sr,by rw[Az];rfl,by rw[AD,aa];rfl,?_⟩;rw[AE,hl];exact BY (R:=gH _) ⟨a2,a3,aA,sr _ _ (sA _ _ e2),sr _ _ (sA _ _ e3)⟩ (Paired.mapP pr fun _ _ z=>z.on (bV (sT.trans sr)))
  ·rintro ys σ' Y ⟨o1,o2,o3,rs,rfl,S3,rfl,aa,pr⟩ D hD;have sD:=aK (o:=.lst (rs.map V.ref)) hD;rw[am,AM]at pr;have O:=Paired.mapP pr fun _ _ z=>z.on (bV sD);have eD:upd Y D (.lst (rs.map V.ref)) D=some (.lst (rs.map V.ref)):=aA;have S5:dH T H (upd Y D (.lst (rs.map V.ref))):=SF.trans (S3.trans sD).butT;have J:=ad.same (S3.trans sD);generalize upd Y D (.lst (rs.map V.ref))=H5 at O eD S5 J ⊢;have ap:By (NmH H5) rs (Ls.map (·.1)):=gY (f:=fun l:L4=>l.1) (R:=gH H5) (S:=NmH H5) (fun r l z=>by
    obtain⟨u,p,h1,_⟩:=z;exact⟨_,_,h1⟩) O
   refine⟨D,rs,Ls.map (·.1),rfl,eD,ap,hnd,by rw[Aa];exact hl1,by rw[Aa];omega,fun l hl=>?_⟩
   have sl:=aK (o:=.lst (((fT (Ls.map (·.1))).map fun i=>rs.getD i 0).map V.ref)) hl
   exact k l _ _ (aF5 J S5 hl) (S5.trans sl.butT) (J.same sl) aA (Paired.mapP (aAm O hl1) fun _ _ z=>z.on (bV sl))
def uH(l:L4):Bb:=.tuple [.str l.1,.str l.2.1,.tuple [.tuple [.str l.1,.int 0,.int l.2.2.1]]]
theorem aGl{H:Hp}{r:Ae}{l:L4}(h:gH H r l)(ok:LOk l):RdV true H (.ref r) (uH l):=by
 obtain⟨u,p,h1,h2,h3⟩:=h;exact .tup h1 (by show 3≤1000;decide) (.cons (gC ok.f) (.cons (gC ok.h) (.cons (.tup h2 (by show 1≤1000;decide) (.cons (.tup h3 (by show 3≤1000;decide) (.cons (gC ok.f) (.cons (.int _) (.cons (.int _) .nil)))) .nil)) .nil)))
theorem aGm{l:L4}(ok:LOk l):OkD 10000 3 (uH l):=by
 have a1:=ok.a1;have z:OkD 3100 1 (.tuple [.str l.1,.int 0,.int l.2.2.1]):=(OkD.tuple (n:=3) (b:=1002) (k:=0) (fun d hd=>by
  simp only[Ak,Ao,or_false]at hd;rcases hd with rfl | rfl | rfl
  ·exact OkD.name ok.f
  ·exact OkD.int (by decide) (by decide)
  ·exact OkD.int (by omega) (CD ok.a2 (by decide))) (by show 3≤3;decide)).mono (by decide) (by decide)
 have q:OkD 3200 2 (.tuple [.tuple [.str l.1,.int 0,.int l.2.2.1]]):=(OkD.tuple (n:=1) (b:=3100) (k:=1) (fun d hd=>by rw[AF.mp hd];exact z) (by show 1≤1;decide)).mono (by decide) (by decide);unfold uH;refine(OkD.tuple (n:=3) (b:=3200) (k:=2) (fun d hd=>?_) (by show 3≤3;decide)).mono (by decide) (by decide);simp only[Ak,Ao,or_false]at hd;rcases hd with rfl | rfl | rfl
 ·exact(OkD.name ok.f).mono (by decide) (by decide)
 ·exact(OkD.name ok.h).mono (by decide) (by decide)
 ·exact q
theorem aAp{H:Hp}:∀{rs:List Ae}{Ls:List L4},By (gH H) rs Ls→(∀ l∈Ls,LOk l)→cD true H (rs.map V.ref) (Ls.map uH)
 | _,_,.nil,_=>.nil
 | _,_,.cons h t,ok=>.cons (aGl h (ok _ Al)) (aAp t fun l hl=>ok l (Ap _ hl))
theorem pS{H:Hp}{l:Ae}{rs:List Ae}{Ls:List L4}(e:H l=some (.lst (rs.map V.ref)))(p:By (gH H) rs Ls)(ok:∀ l∈Ls,LOk l)(q:Ls.length≤8):RpV H (.ref l) (Gn (Ls.map uH)).shown:=by
 have hl:=p.length;refine aFd (.lst rfl e (by rw[Aa];omega) (aAp p ok)) ((OkD.list (n:=8) (b:=10000) (k:=3) (fun d hd=>?_) (by rw[Aa];exact q)).mono (by decide) (by decide));obtain⟨x,hx,rfl⟩:=AR.mp hd;exact aGm (ok x hx)
theorem aGn{Ls:List L4}(h1:1≤Ls.length):(uG Ls).length=Ls.length:=by
 unfold uG;rw[Aa,(gQ (Ls.map (·.1)) (by rw[Aa];omega)).length_eq,C9,Aa]
theorem aGo{Ls:List L4}(h1:1≤Ls.length){l:L4}(h:l∈uG Ls):l∈Ls:=by
 unfold uG at h;obtain⟨i,hi,rfl⟩:=AR.mp h;have:=(gQ (Ls.map (·.1)) (by rw[Aa];omega)).mem_iff.mp hi
 rw[BU,Aa]at this;rw[A1,Ai this];exact BI _
theorem aGO{α β:Type}{f:α→β}:∀{l:List α},(l.map f).Nodup→∀{a b:α},a∈l→b∈l→f a=f b→a=b
 | [],_,_,_,h,_,_=>by simp at h
 | x :: r,hn,a,b,ha,F,e=>by
  rw[Av,AZ]at hn;rcases Ak.mp ha with z | z
  ·rcases Ak.mp F with q | q
   ·rw[z,q]
   ·exact absurd (by rw[← z,e];exact Ba q) hn.1
  ·rcases Ak.mp F with q | q
   ·exact absurd (by rw[← q,← e];exact Ba z) hn.1
   ·exact aGO hn.2 z q e
theorem aJv{Ls:List L4}(hn:(Ls.map (·.1)).Nodup){l:L4}(hl:l∈Ls):bS (jB Ls []) (Ac l.1)=some (.int l.2.2.2):=by
 show bS (ex0 Ls).inc (Ac l.1)=_;unfold ex0;rw[iG];have h1:=mU (fun l:L4=>l.1) (fun l=>V.int l.2.2.2) (Ac l.1) Ls [] (.inr ⟨l,hl,rfl⟩);obtain⟨v,hv⟩:=A2.mp h1;rcases iT (fun l:L4=>l.1) (fun l=>V.int l.2.2.2) (Ac l.1) v Ls [] hv with h | ⟨F,h2,q,z⟩
 ·cases h
 ·have:=aGO hn hl h2 (Ac.inj q);subst this;rw[← z];exact hv
theorem aFg{i:Int}(z:0≤i)(h1:i≤10000000):i.natAbs.log2 < 1920:=by
 by_cases q:i.natAbs=0
 ·rw[q];decide
 ·exact AX ((GV q).mpr (show i.natAbs < 2 ^ 24 by omega)) (by decide)
def InO(inc:List (Key×V)):Prop:=∀ kv∈inc,∃ z n,kv=(Ac z,V.int n)∧0≤n∧n≤10000000
theorem InO.put{inc:List (Key×V)}(h:InO inc){z:Str}{n:Int}(F:0≤n)(h1:n≤10000000):InO (bT inc (Ac z) (.int n)):=fun J q=>by
 unfold bT at q;split at q
 ·obtain⟨kv',h2,rfl⟩:=AR.mp q;split
  ·next e=>exact⟨z,n,by rw[e],F,h1⟩
  ·exact h kv' h2
 ·rcases AS.mp q with q | q
  ·exact h J q
  ·exact⟨z,n,AF.mp q,F,h1⟩
theorem aGp{Ls:List L4}(ok:∀ l∈Ls,LOk l):InO (ex0 Ls).inc:=by
 have:∀(Ls:List L4) (S:Ex),(∀ l∈Ls,LOk l)→InO S.inc→InO (Ls.foldl i8 S).inc:=by
  intro Ls
  induction Ls with
  | nil=>intro S _ h;exact h
  | cons l Ls q=>intro S ok h;exact q _ (fun l hl=>ok l (Ap _ hl)) (h.put (ok l Al).i1 (ok l Al).i2)
 exact this Ls _ ok fun z h=>by simp at h
theorem aFh{inc:List (Key×V)}(h:InO inc){r:c3}{fs:List Str}(ok:r.Ok fs):InO (lN inc r):=by
 have rs:=ok.rs;obtain⟨word,name,day,ds⟩:=r;unfold lN;dsimp only at rs ⊢;split
 ·split
  ·next e f n e2=>
   subst e2;cases rs with
   | measure z q h1=>exact h.put q h1
  ·exact h
 ·exact h
theorem aAq{k:Key}{v:V}:∀{l:List (Key×V)},bS l k=some v→(k,v)∈l
 | [],h=>by cases h
 | p :: l,h=>by
  by_cases e:p.1=k
  ·rw[cU e]at h;cases h;rw[← e];exact Al
  ·rw[cK e]at h;exact Ap _ (aAq h)
theorem aFi{word:Str}{ds:List Bb}(h:kT word ds)(e:word="measure"):∃ f n,ds=[.str f,.int n]:=by
 cases h <;> first | exact⟨_,_,rfl⟩ | exact absurd e (by decide)
inductive wF(T:Ae)(vs:List V)(H:Hp)(Q:VK)(u3_:XK):Prop
 | mk (t:Ae) (Ls:List L4) (us:List c3) (lay:Ae) (xs:List V) (q0:vs=[.ref t,.ref lay]) (q1:fS H t Ls us) (q2:Tb T H) (q3:H lay=some (.tup xs)) (q4:cD false H xs (Ls.map lQ)) (q5:(∀ l∈Ls,LOk l)) (q6:(Ls.map (·.1)).Nodup) (q7:1≤Ls.length) (q8:Ls.length≤8) (q9:∀ H',dH T H H'→Tb T H'→Q (.bl true) H'):wF T vs H Q u3_
def aCo(T:Ae):Sp:=fun vs H Q u3_=>wF T vs H Q u3_
inductive aCp(T:Ae)(vs:List V)(H:Hp)(Q:VK)(u3_:XK):Prop
 | mk (t:Ae) (Ls:List L4) (us:List c3) (n:Nat) (q0:vs=[.ref t,.int n]) (q1:fS H t Ls us) (q2:Tb T H) (q3:∀ H',dH T H H'→Tb T H'→Q (.bl true) H'):aCp T vs H Q u3_
def aGP(T:Ae):Sp:=fun vs H Q u3_=>aCp T vs H Q u3_
theorem aHP{T a:Ae}{xs ys:List V}{H:Hp}(g:Tb T H)(e:H a=some (.lst xs)):Tb T (upd H a (.lst ys)):=by
 obtain⟨ps,h1,h2,q⟩:=g.ex;refine⟨ps,by rw[aG (bU h1 e (fun z=>nomatch z))];exact h1,h2,?_⟩;rcases q with q | ⟨c,q,F⟩
 ·exact .inl q
 ·exact .inr ⟨c,q,by rw[aG (bU F e (fun z=>nomatch z))];exact F⟩
theorem qF{T L:Ae}{H H':Hp}{xs:List V}(s:dH T H H')(g:Tb T H)(e:H L=some (.lst xs)):H' L=some (.lst xs):=s _ _ (fun z=>by
 obtain⟨ps,h1,_⟩:=g.ex;rw[z,h1]at e;cases e) e
theorem pT:bY ["_law_roll_here","_law_laying_here","_law_must_be","_law_found","_law_field","_law_house","_law_acres","_law_inches","_law_told"] ["_law_roll_here","_law_laying_here"] (aO jL):=⟨rfl,rfl,rfl,by decide,rfl,by decide,by decide⟩
theorem uQ{f fL fI:Ae}{fd az ba:A3}(F:Fun K "_law_first_right" "_law_first_right" jL f fd){T:Ae}(aa:mg "sorted"=none)(J:mg "repr"=none)
  (GL:cP P w K mg base CX0 8 fL az ["roll","at"] (aCm T)) (mL:mg "lands"=some (.ref fL)) (kL:AO K (.ref fL)=true) (bL:d9 K az ["roll","at"] [])
  (GI:cP P w K mg base CX0 8 fI ba ["roll","at","field"] (uF T)) (mI:mg "inches_of"=some (.ref fI)) (kI:AO K (.ref fI)=true) (bI:d9 K ba ["roll","at","field"] [])
  :cP P w K mg base CX0 9 f fd ["_law_roll_here","_law_laying_here"] (aCo T):=by
 refine F.ok pT (fun vs H Q E h=>?_) (fun cs A outer s H vs Q E hr h=>?_)
 ·obtain⟨t,Ls,us,lay,xs,rfl,_⟩:=h;rfl
 ·obtain⟨t,Ls,us,lay,xs,rfl,roll,tb,hlay,rdl,hok,hnd,hl1,h8,k⟩:=h;have nd:=pT.nd;have ak:dG 8 _:=hr;have ae:dG 1 _:=hr.mono (by decide);refine⟨_,(aB (aX (i:=2) nd rfl (Ar rfl) (aW pG (by rfl) aa (by kernel_rfl) (aF (c5 (N:=["_law_field","_law_house","_law_acres","_law_inches"]) (src:=[none,none,none,none]) (osc:=aO jL) (oN:=["_law_roll_here","_law_laying_here","_law_must_be","_law_found","_law_field","_law_house","_law_acres","_law_inches","_law_told"]) (g:=qU K 4 (c7 (aU 0) (c7 (aU 1) (c7 (aU 2) (c7 (aU 3) qS))))) ⟨by rfl,by decide,by decide,by decide,rfl,by rfl⟩ (dE (pv 1)) (fun cl s H fp gz C=>⟨fJ rfl (bH (aR (i:=0) (show(["_law_field","_law_house","_law_acres","_law_inches"]:List Str).Nodup by decide) rfl (Ar rfl)) (bH (aR (i:=1) (show(["_law_field","_law_house","_law_acres","_law_inches"]:List Str).Nodup by decide) rfl (Ar rfl)) (bH (aR (i:=2) (show(["_law_field","_law_house","_law_acres","_law_inches"]:List Str).Nodup by decide) rfl (Ar rfl)) (bH (aR (i:=3) (show(["_law_field","_law_house","_law_acres","_law_inches"]:List Str).Nodup by decide) rfl (Ar rfl)) dU)))),c8,cH (aF (pv 0) (aF (pv 1) (aF (cH (aF (cH (aF (pv 0) (aF aD (aF (pv 2) aE)))) aE)) aE)))⟩)) aE)))
   (aB (aX (i:=3) nd rfl (Ar rfl) (cN GL ak rfl mL kL bL .nil dJ (aF (pv 0) (aF aD aE))))
   (aB (cC (aZ oQ (aW (gP ae) (by rfl) J (by kernel_rfl) (aF (pv 3) aE)) (aW (gP ae) (by rfl) J (by kernel_rfl) (aF (pv 2) aE)) (bG _)) (aM (bF aBm)) bB)
   (aB (dP (j0 A8 BC BB fG (pv 3) (aF aGX aE)))
   (aB (d8 A7 rfl (dE (pv 1)) (g:=qU K 4 (c7 (aU 4) (c7 (aU 5) (c7 (aU 6) (c7 (aU 7) qS))))) (fJ rfl (bH (aR (i:=4) nd rfl (Ar rfl)) (bH (aR (i:=5) nd rfl (Ar rfl)) (bH (aR (i:=6) nd rfl (Ar rfl)) (bH (aR (i:=7) nd rfl (Ar rfl)) dU)))))
   (aB (aX (i:=8) nd rfl (Ar rfl) (cN GI ak rfl mI kI bI .nil dJ (aF (pv 0) (aF aD (aF (pv 4) aE)))))
    (aM (cC (aZ oQ (aW lE (by rfl) J (by kernel_rfl) (aF (pv 8) aE)) (aW lE (by rfl) J (by kernel_rfl) (aF (pv 7) aE)) (bG _)) (aM (bF aBm)) bB))))
   (aM (bF (kY cT (aW (gP ae) (by rfl) J (by kernel_rfl) (aF (cN GL ak rfl mL kL bL .nil dJ (aF (pv 0) (aF aD aE))) aE)) (aW (gP ae) (by rfl) J (by kernel_rfl) (aF (pv 2) aE)) (bG _))))))))),?_⟩
  have a0:=rdl.len;rw[Aa]at a0;have O:∀{z:Str},¬ ((!decide (V.str z=V.str z))=true):=fun{z} h=>by simp at h
  refine⟨_,rfl,lay,rfl,⟨_,aH hlay⟩,?_⟩;refine dN (K:=K) (xs:=xs) (fun i ys σ' H'=>Ex3 fun(o1 o2 o3:Option V)=>∃(o4:Option V) (rs:List Ae),Aw3 (σ'=[o1,o2,o3,o4]) (b9 H H') (Aw3 (ys=rs.map V.ref) (rs.length=i) (By (gH H') rs (Ls.take i)))) ⟨none,none,none,none,[],rfl,b9.refl _,rfl,rfl,.nil⟩
   (aP (by omega)) (fun i ys σ H' p=>by obtain⟨_,_,_,_,_,_,_,rfl,e,_⟩:=p;rw[Aa];omega) (fun i ys σ H' p=>by obtain⟨_,_,_,_,_,_,S,_⟩:=p;exact aH (S _ _ hlay)) ?_ ?_
  ·rintro i v ys σ' H1 hv ⟨o1,o2,o3,o4,rs,rfl,S1,rfl,ay,pr⟩;obtain⟨dd,hdd,rd'⟩:=rdl.at hv;rw[An]at hdd;obtain⟨l,hl,rfl⟩:=AG.mp hdd;obtain⟨q,rfl,hq0⟩:=iF rd';have hq:=S1 _ _ hq0;dsimp only[aU];refine⟨q,_,rfl,aH hq,rfl,_,_,rfl,_,_,rfl,_,_,rfl,_,_,rfl,rfl,eZ ?_⟩;refine⟨_,rfl,_,rfl,_,rfl,_,rfl,zZ3,fun u1 b2=>?_⟩;have s1:=aK (o:=.tup [V.str l.1,.int 0,.int l.2.2.1]) b2;refine⟨zZ1,fun u2 b1=>?_⟩;have s2:=aK (o:=.tup [V.ref u1]) b1;refine⟨zZ3,fun u3 bm=>?_⟩;have s3:=aK (o:=.tup [V.str l.1,.str l.2.1,.ref u2]) bm;have sA:=(s1.trans s2).trans s3;refine⟨_,_,_,_,rs ++ [u3],rfl,S1.trans sA,by rw[Az];rfl,by rw[AD,ay];rfl,?_⟩;rw[AE,hl];exact BY (R:=gH _) ⟨u2,u1,aA,s3 _ _ aA,s3 _ _ (s2 _ _ aA)⟩ (Paired.mapP pr fun _ _ z=>z.on (bV sA))
  rintro ys σ' H1 ⟨o1,o2,o3,o4,rs,rfl,S1,rfl,ay,pr⟩ D hD;have sD:=aK (o:=.lst (rs.map V.ref)) hD;rw[a0,AM]at pr;have ab:=Paired.mapP pr fun _ _ z=>z.on (bV sD);have eD:upd H1 D (.lst (rs.map V.ref)) D=some (.lst (rs.map V.ref)):=aA;have S2:=S1.trans sD;generalize upd H1 D _=H2 at ab eD S2 ⊢;clear sD hD pr S1;refine⟨D,rs,Ls.map (·.1),rfl,eD,gY (f:=fun l:L4=>l.1) (R:=gH H2) (S:=NmH H2) (fun r l z=>by
    obtain⟨u,p,h1,_⟩:=z;exact⟨_,_,h1⟩) ab,hnd,by rw[Aa];exact hl1,by rw[Aa];omega,fun M hM=>?_⟩
  have sM:=aK (o:=.lst (((fT (Ls.map (·.1))).map fun i=>rs.getD i 0).map V.ref)) hM
  have eM:upd H2 M (.lst (((fT (Ls.map (·.1))).map fun i=>rs.getD i 0).map V.ref)) M=some (.lst (((fT (Ls.map (·.1))).map fun i=>rs.getD i 0).map V.ref)):=aA
  have pM:=Paired.mapP (aAm ab hl1) fun _ _ z=>z.on (bV sM);have S3:=S2.trans sM;generalize upd H2 M _=H3 at sM eM pM S3 ⊢;generalize ((fT (Ls.map (·.1))).map fun i=>rs.getD i 0)=ms at eM pM
  clear sM hM ab eD S2;have ad:∀ l∈uG Ls,LOk l:=fun l hl=>hok l (aGo hl1 hl);have af:(uG Ls).length≤8:=by rw[aGn hl1];exact h8
  have am:=tb.same S3;have ai:=roll.on (bV S3);dsimp only[aU];refine⟨_,rfl,t,Ls,us,rfl,ai,am,hnd,hl1,fun L as H4 hL S4 aL eL pL=>?_⟩;have ar:=qF S4 am eM;have al:=Paired.mapP pM fun _ _ z=>z.on (cE S4 am);have bb:dH T H H4:=S3.butT.trans S4;dsimp only[aU];refine⟨_,rfl,.ref L,_,rfl,pS eL pL ad af,_,rfl,.ref M,_,rfl,pS ar al ad af,rfl,_,rfl,cR (fun g=>absurd g O) fun _=>?_⟩;have ck:=pL.length;refine⟨_,rfl,.inl ⟨rfl,_,aY eL⟩,L,_,_,rfl,rfl,eL,by rw[Aa];exact cV (by omega),?_⟩;have bi:M≠L:=aJ eM hL;have fL:H L=none:=dZ S3 hL;have aC:upd H4 L (.lst (as.map V.ref ++ [V.non])) M=some (.lst (ms.map V.ref)):=by rw[aG bi];exact ar
  have av:=aHP (ys:=as.map V.ref ++ [V.non]) aL eL;have ao:dH T H (upd H4 L (.lst (as.map V.ref ++ [V.non]))):=fun b o nb e=>by rw[aG (aJ e fL)];exact bb b o nb e
  have aw:=Paired.mapP al fun _ _ z=>z.on (H':=upd H4 L (.lst (as.map V.ref ++ [V.non]))) fun b us e=>by rw[aG (bU e eL (fun z=>nomatch z))];exact e
  generalize upd H4 L _=H5 at aC av ao aw ⊢;clear ar al bb aL eL pL hL;refine⟨_,rfl,lay,rfl,⟨_,aH (cE ao tb _ _ hlay)⟩,?_⟩;refine gZ (K:=K) (xs:=xs) (fun i σ H'=>Ex3 fun(o4 o5 o6:Option V)=>∃(o7 o8:Option V),Aw3 (σ=[some (.ref t),some (.ref lay),some (.ref M),some (.ref L),o4,o5,o6,o7,o8]) (dH T H H') (Aw3 (Tb T H') (H' M=some (.lst (ms.map V.ref))) (By (gH H') ms (uG Ls)))) ⟨none,none,none,none,none,rfl,ao,av,aC,aw⟩ (fun i σ H' _ p=>by obtain⟨_,_,_,_,_,_,S,_⟩:=p;exact aH (cE S tb _ _ hlay)) ?_ ?_
  ·rintro i v σ H6 hv ⟨o4,o5,o6,o7,o8,rfl,Z,Y,ah,an⟩;obtain⟨dd,hdd,rd'⟩:=rdl.at hv;rw[An]at hdd;obtain⟨l,hl,rfl⟩:=AG.mp hdd;have bd:=AH hl;obtain⟨q,rfl,hq0⟩:=iF rd';have hq:=cE Z tb _ _ hq0;refine⟨q,_,rfl,aH hq,rfl,_,_,rfl,_,_,rfl,_,_,rfl,_,_,rfl,rfl,_,rfl,_,rfl,t,Ls,us,0,l.1,.int l.2.2.2,rfl,roll.on (cE Z tb),Y,aJv hnd bd,fun H7 S7 ap=>?_⟩;have lo:=hok l bd;have ag:=aFg lo.i1 lo.i2;dsimp only[aU];refine⟨_,rfl,_,rfl,ag,_,rfl,_,rfl,ag,rfl,_,rfl,cR (fun g=>absurd g O) fun _=>?_⟩;exact⟨_,_,_,_,_,rfl,Z.trans S7,ap,qF S7 Y ah,Paired.mapP an fun _ _ z=>z.on (cE S7 Y)⟩
  ·rintro σ H6 ⟨o4,o5,o6,o7,o8,rfl,Z,Y,ah,an⟩;refine⟨_,rfl,t,Ls,us,rfl,roll.on (cE Z tb),Y,hnd,hl1,fun L2 cj H7 cr S7 ap bR bj=>?_⟩;refine⟨.ref L2,_,rfl,pS bR bj ad af,_,rfl,.ref M,_,rfl,pS (qF S7 Y ah) (Paired.mapP an fun _ _ z=>z.on (cE S7 Y)) ad af,rfl,?_⟩;have:V.bl (decide (V.str (Gn ((uG Ls).map uH)).shown=V.str (Gn ((uG Ls).map uH)).shown))=V.bl true:=by simp
   rw[this];exact k H7 (Z.trans S7) ap
theorem nV:bY ["_law_roll_here","_law_at","_law_must_be","_law_row"] ["_law_roll_here","_law_at"] (aO gG):=⟨rfl,rfl,rfl,by decide,rfl,by decide,by decide⟩
theorem uI{f:Ae}{fd:A3}(F:Fun K "_law_inches_right" "_law_inches_right" gG f fd){T:Ae}(ag:mg "dict"=none)(M:mg "repr"=none)
  (GI:Cl P w K mg base 8 "inches_of" ["roll","at","field"] (uF T))
  :cP P w K mg base CX0 9 f fd ["_law_roll_here","_law_at"] (aGP T):=by
 refine F.ok nV (fun vs H Q E h=>?_) (fun bE A outer s H vs Q E hr h=>?_)
 ·obtain⟨t,Ls,us,n,rfl,_⟩:=h;rfl
 ·obtain⟨t,Ls,us,n,rfl,roll,tb,k⟩:=h;have nd:=nV.nd;have hu:=d7 hr;have a0:dG 8 _:=hr;have bx:dG 1 _:=hr.mono (by decide);refine⟨_,(aB (aX (i:=2) nd rfl (Dq rfl) (dL (oE rfl) (by rfl) ag (by kernel_rfl) (aF (c5 (N:=["_law_row"]) (src:=[none]) (osc:=aO gG) (oN:=["_law_roll_here","_law_at","_law_must_be","_law_row"]) ⟨by rfl,by decide,by decide,by decide,rfl,by rfl⟩ (dE (aQ aV (pv 0) aD Ig)) (fun cl s H fp gz C=>⟨aR (i:=0) (show(["_law_row"]:List Str).Nodup by decide) rfl (Ar rfl),c8,cH (aF (aQ (r:=kZ K) aV (pv 0) aD Ig) (aF (aQ (r:=kZ K) aV (pv 0) aD Ig) aE))⟩)) aE)))
   (aB (d8 A7 rfl (dE (g8 aBF (aQ aV (pv 0) aD Ig) jE (jF (pv 1)))) (g:=aU 3) (aR (i:=3) nd rfl (Ar rfl))
   (aM (cC (aZ cT (aQ aV (pv 3) aD Ig) aN (bG _)) (aM (c4 hu (pv 2) (aQ aV (pv 3) aD Ig) (aQ aV (pv 3) aD Ig) rfl)) bB)))
   (aM (bF (kY (aHj (ED hu)) (c5 (N:=["_law_field","_law_roll_here","_law_at","_law_must_be"]) (src:=[none,some 0,some 1,some 2]) (osc:=aO gG) (oN:=["_law_roll_here","_law_at","_law_must_be","_law_row"]) ⟨by rfl,by decide,by decide,by decide,rfl,by rfl⟩ (aFP (pv 2)) (fun cl s H fp gz C=>⟨aR (i:=0) (show(["_law_field","_law_roll_here","_law_at","_law_must_be"]:List Str).Nodup by decide) rfl (Ar rfl),m5 (aZ oQ (aW lE (by rfl) M (by kernel_rfl) (aF (cM GI a0 (aF (pv 1) (aF (pv 2) (aF (pv 0) aE)))) aE)) (aW lE (by rfl) M (by kernel_rfl) (aF (bJ hu (pv 3) (pv 0) Ig) aE)) (bG _)),pv 0⟩)) (c6 aE) (bG _)))))),?_⟩
  obtain⟨lay,rw,xs,ys0,h1,h2,h3,h4,h6,h7,h8,h9⟩:=roll.ex;have au:=h3.len;rw[Aa]at au;have bg:=h8.len;have O:∀{z:Str},¬ ((!decide (V.str z=V.str z))=true):=fun{z} h=>by simp at h
  refine⟨_,rfl,t,_,0,_,rfl,rfl,aH h1,rfl,lay,rfl,⟨_,aH h2⟩,?_⟩;refine dN (K:=K) (xs:=xs) (fun i ys σ' H'=>∃(o1:Option V) (rs:List Ae),Aw3 (σ'=[o1]) (b9 H H') (ys=rs.map V.ref∧By (LP (fun l=>V.int l.2.2.2) H') rs (Ls.take i))) ⟨none,[],rfl,b9.refl _,rfl,.nil⟩
   (aP (by omega)) (fun i ys σ H' p=>by
    obtain⟨_,rs,_,_,rfl,pr⟩:=p;have:=pr.length;rw[AJ]at this;rw[Aa];omega) (fun i ys σ H' p=>by obtain⟨_,_,_,S,_⟩:=p;exact aH (S _ _ h2)) ?_ ?_
  ·rintro i v ys σ' H' hv ⟨o1,rs,rfl,S',rfl,pr⟩;obtain⟨dd,hdd,rd'⟩:=h3.at hv;rw[An]at hdd;obtain⟨l,hl,rfl⟩:=AG.mp hdd;obtain⟨q,rfl,hq0⟩:=iF rd';have hq:=S' _ _ hq0;dsimp only[aU];refine eZ ?_;refine⟨_,rfl,q,_,0,_,rfl,rfl,aH hq,rfl,_,rfl,q,_,3,_,rfl,rfl,aH hq,rfl,zZ2,fun u al=>?_⟩;have su:=aK (o:=.tup [V.str l.1,V.int l.2.2.2]) al;refine⟨_,rs ++ [u],rfl,S'.trans su,by rw[Az];rfl,?_⟩;rw[AE,hl];exact BY (R:=LP (fun l=>V.int l.2.2.2) _) aA (Paired.mapP pr fun r l e=>su _ _ e)
  rintro ys σ' H1 ⟨o1,rs,rfl,S1,rfl,pr⟩ D hD;rw[au,AM]at pr;have sD:=aK (o:=.lst (rs.map V.ref)) hD;refine⟨D,rs,Ls.map fun l=>(Ac l.1,V.int l.2.2.2),rfl,aA,gY (f:=fun l=>(Ac l.1,V.int l.2.2.2)) (fun r l e=>sD _ _ e) pr,fun d hd=>?_⟩;have e0:cZ [] (Ls.map fun l=>(Ac l.1,V.int l.2.2.2))=(ex0 Ls).inc:=by unfold ex0;rw[iG]
  rw[e0];have S2:=(S1.trans sD).trans (aK (o:=.dK (ex0 Ls).inc) hd);have ed:upd (upd H1 D (.lst (rs.map V.ref))) d (.dK (ex0 Ls).inc) d=some (.dK (ex0 Ls).inc):=aA;have fd:H d=none:=dZ (S1.trans sD) hd;have bc:(ex0 Ls).inc.length≤8:=by
   rw[← e0];have:=kC (Ls.map fun l=>(Ac l.1,V.int l.2.2.2)) [];rw[Aa]at this;simp at this;omega
  generalize upd (upd H1 D (.lst (rs.map V.ref))) d _=H2 at S2 ed ⊢;clear sD S1 hD pr hd;dsimp only[aU];refine⟨_,rfl,t,_,1,_,rfl,rfl,aH (S2 _ _ h1),rfl,_,rfl,_,rfl,rw,_,rfl,S2 _ _ h7,fun t2 H3 s3 ai=>?_⟩;rw[wT (α:=Unit)]at ai;refine⟨t2,rfl,⟨_,aH ai⟩,?_⟩;refine gZ (K:=K) (xs:=ys0.take n) (fun i σ H'=>∃(o3:Option V),Aw6 (σ=[some (.ref t),some (.int n),some (.ref d),o3]) (b9 H H') (H' t2=some (.tup (ys0.take n))) (H' d=some (.dK (jB Ls (us.take i)))) (InO (jB Ls (us.take i))) ((jB Ls (us.take i)).length≤8 + i)) ⟨none,rfl,S2.trans s3,ai,s3 _ _ ed,aGp h4,bc⟩ (fun i σ H' _ p=>by obtain⟨_,_,_,e,_⟩:=p;exact aH e) ?_ ?_
  ·rintro i v σ H4 hv ⟨o3,rfl,S4,e4,J,Y,ah⟩;have aq:ys0[i]?=some v:=by
    rw[Cm]at hv;split at hv
    ·exact hv
    ·cases hv
   have hi:i < ys0.length:=(At.mp aq).1;obtain⟨u,al,rdu,oku⟩:=h8.at' i v aq;have ap:=oku.on rdu (bV S4);obtain⟨q,bZ,rfl,hq,hrest⟩:=c3.Ok.tup (fs:=Ls.map (·.1)) ap
   have en:jB Ls (us.take (i + 1))=lN (jB Ls (us.take i)) u:=by
    unfold jB;rw[AE,al,Da];rfl
   have ad:=aFh Y oku;rw[← en]at ad;dsimp only[aU];refine⟨_,rfl,q,_,0,_,rfl,rfl,aH hq,(aEH (word:=u.word) (name:=u.name) (day:=u.day) (bZ:=bZ)).1,rfl,_,rfl,cR (fun g=>?_) fun g=>?_⟩
   ·have gw:u.word="measure":=V.str.inj (Ie g);obtain⟨f,m,hds⟩:=aFi oku.rs gw;rw[hds]at hrest;have:=mS hrest;subst this;refine⟨_,rfl,q,_,4,_,rfl,rfl,aH hq,rfl,_,rfl,_,rfl,q,_,3,_,rfl,rfl,aH hq,rfl,d,_,rfl,gE.k (k:=Ac f) J (cV (by omega)),?_⟩;have es:lN (jB Ls (us.take i)) u=bT (jB Ls (us.take i)) (Ac f) (.int m):=by
     unfold lN;rw[hds];dsimp only;rw[Ib gw]
    have L1:=cB (jB Ls (us.take i)) (Ac f) (V.int m);refine⟨_,rfl,fun b o e=>?_,?_,?_,ad,?_⟩
    ·rw[aG (aJ e fd)];exact S4 _ _ e
    ·rw[aG (bU e4 J (fun z=>nomatch z))];exact e4
    ·rw[en,es];exact aA
    ·rw[en,es];omega
   ·have gw:u.word≠"measure":=fun e=>g (Ic (by rw[e]));rw[i6 gw]at en;rw[en]at ad;exact⟨_,rfl,S4,e4,by rw[en];exact J,by rw[en];exact ad,by rw[en];omega⟩
  ·rintro σ H4 ⟨o3,rfl,S4,e4,J,Y,ah⟩;have e1:us.take (ys0.take n).length=us.take n:=by
    rw[AJ,bg];by_cases z:n≤us.length
    ·rw[C4 z]
    ·rw[EQ (by omega),AM,Bg (by omega)]
   rw[e1]at J Y ah;have bz:(jB Ls (us.take n)).length≤1000:=by
    rw[AJ]at ah;omega
   have bd:=tb.same S4;refine⟨_,rfl,d,_,rfl,J,fun od=>?_⟩;have ao:=aFe (od:=od) bd J;have S5:b9 H (upd H4 d (.frz od (.dK (jB Ls (us.take n))))):=fun b o e=>by rw[aG (aJ e fd)];exact S4 _ _ e
   have ar:upd H4 d (.frz od (.dK (jB Ls (us.take n)))) d=some (.frz od (.dK (jB Ls (us.take n)))):=aA;generalize upd H4 d _=H5 at ao S5 ar ⊢;refine aCV (fun i ys σ' H'=>∃(o:Option V),Aw3 (σ'=[o,some (.ref t),some (.int n),some (.ref d)]) (ys=[]) (Aw3 (dH T H H') (Tb T H') (H' d=some (.frz od (.dK (jB Ls (us.take n))))))) ⟨none,rfl,rfl,S5.butT,ao,ar⟩ (aP (by omega)) (fun i ys σ H' p=>by obtain⟨_,_,rfl,_⟩:=p;exact A0 _) (fun i ys σ H' p=>by obtain⟨_,_,_,_,_,e⟩:=p;exact e) ?_ ?_
   ·rintro i k' x ys σ' H6 hk ⟨o,rfl,rfl,ab,Z,aa⟩;obtain⟨z,m,he,hm0,hm1⟩:=Y _ (AH hk);cases he;have ak:(bS (jB Ls (us.take n)) (Ac z)).isSome=true:=by
     rw[← dX,Bu];exact⟨_,AH hk,Ic rfl⟩
    obtain⟨v,hv⟩:=A2.mp ak;obtain⟨z',m',he,hm0',hm1'⟩:=Y _ (aAq hv);cases he;have af:=aFg hm0' hm1';dsimp only[aU];refine⟨_,rfl,_,rfl,_,rfl,t,Ls,us,n,z,_,rfl,roll.on (cE ab tb),Z,hv,fun H7 S7 bf=>?_⟩;have av:H7 d=some (.frz od (.dK (jB Ls (us.take n)))):=S7 _ _ (fun e=>by
     obtain⟨ps,g1,_⟩:=Z.ex;rw[e,g1]at aa;cases aa) aa
    refine⟨_,rfl,af,_,rfl,_,rfl,d,_,rfl,.inl ⟨_,Ac z,.inr ⟨od,av⟩,rfl,hv.symm⟩,_,rfl,af,rfl,_,rfl,cR (fun g=>absurd g O) fun _=>?_⟩;exact⟨_,rfl,rfl,ab.trans S7,bf,av⟩
   ·rintro ys σ' H6 ⟨o,rfl,rfl,ab,Z,aa⟩ D1 ba;have s1:=aK (o:=.lst []) ba;refine⟨A0 _,fun D2 aI=>?_⟩;have s2:=aK (o:=.lst []) aI;exact⟨D1,D2,[],[],rfl,rfl,aY (s2 _ _ aA),aY aA,rfl,rfl,k _ (ab.trans (s1.trans s2).butT) (Z.same (s1.trans s2))⟩
inductive aCq(K:Ah)(T:Ae)(vs:List V)(H:Hp)(Q:VK)(u3_:XK):Prop
 | mk (a:Ae) (ns:List Int) (q0:vs=[.ref a]) (q1:SqL K H a (ns.map V.int)) (q2:ns.length≤63) (q3:Tb T H) (q4:∀ H',Q (.bl true) H'):aCq K T vs H Q u3_
def aCr(K:Ah)(T:Ae):Sp:=fun vs H Q u3_=>aCq K T vs H Q u3_
theorem aHQ{K:Ah}{T p c:Ae}{ns:List Int}{a:Int}{H H':Hp}(g:Tb T H)(J:dD K H p c ns a)(k:bA p H H'):Tb T H':=by
 obtain⟨z,_,e⟩:=J.ob;obtain⟨ps,h1,h2,q⟩:=g.ex;refine⟨ps,k _ _ h1 (bU h1 e (fun z=>nomatch z)),h2,?_⟩;rcases q with q | ⟨c,q,F⟩
 ·exact .inl q
 ·exact .inr ⟨c,q,k _ _ F (bU F e (fun z=>nomatch z))⟩
theorem aGQ:bY ["_law_script","_law_pen_here","_law_roll_here","_law_scale","_law_kept","_law_bare","_law_at"] ["_law_script"] (aO xC):=⟨rfl,rfl,rfl,by decide,rfl,by decide,by decide⟩
theorem aHR{f:Ae}{fd:A3}(F:Fun K "law" "law" xC f fd){T:Ae}(am:mg "len"=none)(ay:mg "range"=none)(Y:mg "repr"=none)
  (GP:Cl P w K mg base 1 "_law_pen" ["_law_script"] (aGG K))
  (GR:Cl P w K mg base 4 "_law_roll" ["_law_pen_here","_law_most","_law_terms"] (aE9 K))
  (GF:Cl P w K mg base 9 "_law_first_right" ["_law_roll_here","_law_laying_here"] (aCo T))
  (GO:Cl P w K mg base 7 "words" ["roll"] (aB1 T))
  (GI:Cl P w K mg base 9 "_law_inches_right" ["_law_roll_here","_law_at"] (aGP T))
  :cP P w K mg base CX0 10 f fd ["_law_script"] (aCr K T):=by
 refine F.ok aGQ (fun vs H Q E h=>?_) (fun b2 A outer s H vs Q E hr h=>?_)
 ·obtain⟨c,ns,rfl,_⟩:=h;rfl
 ·obtain⟨c,ns,rfl,hS,hln,tb,k⟩:=h;have nd:=aGQ.nd;have hu:=d7 hr;have ai:dG 1 _:=hr.mono (by decide);have bb:dG 4 _:=hr.mono (by decide);have bf:dG 7 _:=hr.mono (by decide);have al:dG 9 _:=hr;refine⟨_,(aB (aX (i:=1) nd rfl (Ar rfl) (cM GP ai (aF (pv 0) aE)))
   (aB (iV (cM GR bb (aF (pv 1) (aF aD (aF (c6 (aF aN (aF aN (aF aN (aF aN (aF aN (aF aN (aF aN (aF aN aE))))))))) aE)))) (fJ rfl (bH (aR (i:=2) nd rfl (Ar rfl)) (bH (aR (i:=3) nd rfl (Ar rfl)) dU))))
   (aB (aX (i:=4) nd rfl (Ar rfl) (aW (gP ai) (by rfl) Y (by kernel_rfl) (aF (pv 2) aE)))
   (aB (aX (i:=5) nd rfl (Ar rfl) (cH (aF (aQ aV (pv 2) aD Ig) (aF (cH aE) aE))))
   (aB (cC (PW.pt (xW (wK (pU (cM GF al (aF (pv 2) (aF (aQ aV (pv 2) aD Ig) aE))))) (xW (wK (pU (cM GF al (aF (pv 5) (aF (aQ aV (pv 2) aD Ig) aE))))) (wJ (aZ (aDQ (ED hu)) (cM GO bf (aF (pv 5) aE)) (c6 aE) (bG _)))))) (aM (bF aBm)) bB)
   (aB (d8 A7 rfl (eJ rfl ay (aF (bC cX (aW bK (by rfl) am AW (aF (aQ aV (pv 2) aD Ig) aE)) aD) aE)) (g:=aU 6) (aR (i:=6) nd rfl (Ar rfl))
   (aM (cC (wK (pU (cM GI al (aF (pv 2) (aF (pv 6) aE))))) (aM (bF aBm)) bB)))
   (aM (bF (kY cT (aW (gP ai) (by rfl) Y (by kernel_rfl) (aF (pv 2) aE)) (pv 4) (bG _)))))))))),?_⟩
  refine⟨_,rfl,c,ns,rfl,hS,hln,fun p H1 be S1 fp=>?_⟩;have bj:Tb T H1:=tb.same S1;dsimp only[aU];refine⟨_,rfl,zZ8,fun LT bh=>?_⟩;have sT:=aK (o:=.lst [V.str "measure",.str "measure",.str "part",.str "join",.str "forfeit",.str "mend",.str "view",.str "breach"]) bh;have eT:upd H1 LT (.lst [V.str "measure",.str "measure",.str "part",.str "join",.str "forfeit",.str "mend",.str "view",.str "breach"]) LT=some (.lst ((["measure","measure","part","join","forfeit","mend","view","breach"]:List Str).map V.str)):=aA;have ag:=be.same sT;have av:=bj.same sT;generalize upd H1 LT _=H3 at sT eT ag av ⊢;refine⟨p,c,ns,0,14,LT,_,rfl,ag,by omega,by decide,eT,by decide,by decide,by decide,fun t2 t O us sc a6 H6 bi M hok ar aq s1 s2 br bE l6 u6 bM q6=>?_⟩;have a0:=aHQ av ag q6;refine⟨t2,_,rfl,aH bi,rfl,_,_,rfl,_,_,rfl,rfl,_,rfl,.ref t,_,rfl,aFd M.rd M.ok,?_⟩;dsimp only[aU];obtain⟨lay,rw,xs,ys,h1,h2,h3,h4,h6,h7,h8,h9⟩:=M.ex;have b3:=h8.len;refine⟨_,rfl,t,_,0,_,rfl,rfl,aH h1,rfl,A0 _,fun e he=>?_⟩;have se:=aK (o:=.tup []) he;refine⟨zZ2,fun z aC=>?_⟩;have sb:=se.trans (aK (o:=.tup [V.ref lay,.ref e]) aC);have eb:upd (upd H6 e (.tup [])) z (.tup [V.ref lay,.ref e]) z=some (.tup [V.ref lay,.ref e]):=aA;have ee:upd (upd H6 e (.tup [])) z (.tup [V.ref lay,.ref e]) e=some (.tup []):=(aK (o:=.tup [V.ref lay,.ref e]) aC) _ _ aA;have ak:=a0.same sb;have J:=M.on (bV sb);generalize upd (upd H6 e (.tup [])) z _=H7 at sb eb ee ak J ⊢;have ah:=sb _ _ h2;have aj:=cD.onT (bV sb) h3 (fQ O);have bare:fS H7 z O []:=⟨lay,e,xs,[],eb,ah,aj,h4,h6,ee,⟨rfl,fun i x hx=>by simp at hx⟩,A0 _⟩
  dsimp only[aU];refine⟨_,rfl,_,rfl,t,_,0,_,rfl,rfl,aH (sb _ _ h1),rfl,t,O,us,lay,xs,rfl,J,ak,ah,aj,h4,ar,aq,h6,fun H8 S8 az=>?_⟩;have T8:=cE S8 ak;refine⟨_,rfl,cR (fun g=>absurd g (by decide)) fun _=>?_⟩;refine⟨_,rfl,_,rfl,t,_,0,_,rfl,rfl,aH (T8 _ _ (sb _ _ h1)),rfl,z,O,[],lay,xs,rfl,bare.on T8,az,T8 _ _ ah,cD.onT T8 aj (fQ O),h4,ar,aq,h6,fun H9 S9 aw=>?_⟩;have T9:d6 H7 H9:=fun b us e=>cE S9 az _ _ (T8 _ _ e);refine⟨_,rfl,cR (fun g=>absurd g (by decide)) fun _=>?_⟩;refine⟨_,rfl,z,O,rfl,bare.on T9,aw,fun l au an aL ap=>?_⟩;refine⟨A0 _,fun D hD=>?_⟩;have sD:=aK (o:=.lst []) hD;refine⟨l,D,[],[],rfl,rfl,aY (sD _ _ ap),aY aA,rfl,rfl,_,rfl,cR (fun g=>absurd g (by decide)) fun _=>?_⟩;have ab:d6 H7 (upd au D (.lst [])):=fun b us e=>sD _ _ (cE an aw _ _ (T9 _ _ e));have af:=aL.same sD;generalize upd au D (.lst [])=b0 at ab af ⊢;have ad:=J.on ab;refine⟨_,rfl,t,_,1,_,rfl,rfl,aH (ab _ _ (sb _ _ h1)),rfl,rw,_,rfl,.inr (aH (ab _ _ (sb _ _ h7))),_,_,rfl,rfl,_,rfl,by omega,by omega,?_⟩;refine mX (n:=_) (fun i σ H'=>∃(o:Option V),σ=[some (.ref c),some (.ref p),some (.ref t),some (.int sc),some (.str (pR O us).shown),some (.ref z),o]∧Tb T H'∧fS H' t O us) ⟨none,rfl,af,ad⟩ ?_ ?_
  ·rintro i σ ba hi ⟨o,rfl,Z,q⟩;dsimp only[aU];refine⟨_,rfl,_,rfl,t,O,us,i,(by show[V.ref t,V.int (0 + (i:Int))]=[V.ref t,V.int (i:Int)];rw[DO]),q,Z,fun bz bd ax=>?_⟩;refine⟨_,rfl,cR (fun g=>absurd g (by decide)) fun _=>?_⟩;exact⟨_,rfl,ax,q.on (cE bd Z)⟩
  ·rintro σ ba ⟨o,rfl,Z,q⟩;refine⟨_,rfl,.ref t,_,rfl,aFd q.rd q.ok,_,rfl,rfl,?_⟩;have:V.bl (decide (V.str (pR O us).shown=V.str (pR O us).shown))=V.bl true:=by simp
   rw[this];exact k _
inductive aIR(K:Ah)(n:Str)(st:Cc):Prop
 | mk (f:_) (q0:Bf K mainGlobals n=some (some (.ref f))) (q1:(∃ oc od kV dc pm an cd ct sl,K.lookup f=some ⟨oc,od,.func (BE n n (dW st) (dQ st) (aO st) .none kV dc pm an cd ct),sl⟩∧BL K cd n=true)) (q2:AO K (.ref f)=true):aIR K n st
def Dx(K:Ah)(n:Str)(st:Cc):Prop:=aIR K n st
theorem dC{K:Ah}{h:Bi}{mg:Str→Option Ad}{n:Str}{st:Cc}(d:Dx K n st)(X:K.In h)(G:h.Ns mainGlobals mg):∃ f fd,Fun K n n st f fd∧mg n=some (.ref f)∧AO K (.ref f)=true:=by
 obtain⟨f,a,⟨_,_,_,_,_,_,_,_,_,l,c⟩,k⟩:=d;exact⟨f,_,iZ l c k,B1 X G a,k⟩
theorem all_mk{l:FH}{w:AT}{K:Ah}{h:Bi}{mg:Str→Option Ad}{fa:Ae}(X:K.In h)(G:h.Ns mainGlobals mg)(hfa:mg "law"=some (.ref fa))
  {fIn:Ae} {odIn anIn:Option Ae} {slIn:Array (Option Ad)} {ocIn kVIn dcIn pmIn ctIn:Ad} {fPa:Ae} {odPa anPa:Option Ae} {slPa:Array (Option Ad)} {ocPa kVPa dcPa pmPa cdPa ctPa:Ad} {fJo:Ae} {odJo anJo:Option Ae} {slJo:Array (Option Ad)} {ocJo kVJo dcJo pmJo cdJo ctJo:Ad} {fFo:Ae} {odFo anFo:Option Ae} {slFo:Array (Option Ad)} {ocFo kVFo dcFo pmFo cdFo ctFo:Ad} {fMe:Ae} {odMe anMe:Option Ae} {slMe:Array (Option Ad)} {ocMe kVMe dcMe pmMe cdMe ctMe:Ad} {fMn:Ae} {odMn anMn:Option Ae} {slMn:Array (Option Ad)} {ocMn kVMn dcMn pmMn cdMn ctMn:Ad} {fAl:Ae} {odAl anAl:Option Ae} {slAl:Array (Option Ad)} {ocAl kVAl dcAl pmAl cdAl ctAl:Ad} {fLo:Ae} {odLo anLo:Option Ae} {slLo:Array (Option Ad)} {ocLo kVLo dcLo pmLo cdLo ctLo:Ad} {fL:Ae} {odL anL:Option Ae} {slL:Array (Option Ad)} {ocL kVL dcL pmL cdL ctL:Ad}
  {t_DEEDS:Ae} {eF:Nat} {xk0 xk1 xk2 xk3 xk4 xk5 xk6 xk7:Tok}
  {C fI:Ae} {odI anI:Option Ae} {slI:Array (Option Ad)} {ocI kVI dcI pmI cdI ctI:Ad} {TT qIn:Ae}
  (aC:Bf K mainGlobals "Moment"=some (some (.ref C)))
  (aI:Bw K (.ref C) "__init__"=some (some (.ref fI))) (iI:Gc K (.ref fI)=true) (lI:K.lookup fI=some ⟨ocI,odI,.func (BE "__init__" "Moment.__init__" (dW v3) (dQ v3) (aO v3) .none kVI dcI pmI anI cdI ctI),slI⟩) (cI:BL K cdI "Moment.__init__"=true) (kI:AO K (.ref fI)=true)
  (pg:Eu K C Str.empty=true) (hd:Ei K C=true) (po:Fr K C=true) (sa:Bw K (.ref C) "__setattr__"=some (some (.builtin "object.__setattr__"))) (mk:FG K C=true) (kc:AO K (.ref C)=true)
  (nR:Bw K (.ref C) "ranks"=some none) (nH:Bw K (.ref C) "holdings"=some none) (nA:Bw K (.ref C) "acres"=some none) (nI:Bw K (.ref C) "inches"=some none) (nM:Bw K (.ref C) "menders"=some none)
  (aIn:Bf K mainGlobals "in_one"=some (some (.ref fIn))) (lIn:K.lookup fIn=some ⟨ocIn,odIn,.func (BE "in_one" "in_one" (dW p8) (dQ p8) (aO p8) .none kVIn dcIn pmIn anIn (.ref qIn) ctIn),slIn⟩) (cIn:BL K (.ref qIn) "in_one"=true) (kIn:AO K (.ref fIn)=true)
  (aPa:Bf K mainGlobals "do_part"=some (some (.ref fPa))) (lPa:K.lookup fPa=some ⟨ocPa,odPa,.func (BE "do_part" "do_part" (dW jJ) (dQ jJ) (aO jJ) .none kVPa dcPa pmPa anPa cdPa ctPa),slPa⟩) (cPa:BL K cdPa "do_part"=true) (kPa:AO K (.ref fPa)=true)
  (aJo:Bf K mainGlobals "do_join"=some (some (.ref fJo))) (lJo:K.lookup fJo=some ⟨ocJo,odJo,.func (BE "do_join" "do_join" (dW jK) (dQ jK) (aO jK) .none kVJo dcJo pmJo anJo cdJo ctJo),slJo⟩) (cJo:BL K cdJo "do_join"=true) (kJo:AO K (.ref fJo)=true)
  (aFo:Bf K mainGlobals "do_forfeit"=some (some (.ref fFo))) (lFo:K.lookup fFo=some ⟨ocFo,odFo,.func (BE "do_forfeit" "do_forfeit" (dW gR) (dQ gR) (aO gR) .none kVFo dcFo pmFo anFo cdFo ctFo),slFo⟩) (cFo:BL K cdFo "do_forfeit"=true) (kFo:AO K (.ref fFo)=true)
  (aMe:Bf K mainGlobals "do_measure"=some (some (.ref fMe))) (lMe:K.lookup fMe=some ⟨ocMe,odMe,.func (BE "do_measure" "do_measure" (dW gS) (dQ gS) (aO gS) .none kVMe dcMe pmMe anMe cdMe ctMe),slMe⟩) (cMe:BL K cdMe "do_measure"=true) (kMe:AO K (.ref fMe)=true)
  (aMn:Bf K mainGlobals "do_mend"=some (some (.ref fMn))) (lMn:K.lookup fMn=some ⟨ocMn,odMn,.func (BE "do_mend" "do_mend" (dW m8) (dQ m8) (aO m8) .none kVMn dcMn pmMn anMn cdMn ctMn),slMn⟩) (cMn:BL K cdMn "do_mend"=true) (kMn:AO K (.ref fMn)=true)
  (aAl:Bf K mainGlobals "do_alone"=some (some (.ref fAl))) (lAl:K.lookup fAl=some ⟨ocAl,odAl,.func (BE "do_alone" "do_alone" (dW kJ) (dQ kJ) (aO kJ) .none kVAl dcAl pmAl anAl cdAl ctAl),slAl⟩) (cAl:BL K cdAl "do_alone"=true) (kAl:AO K (.ref fAl)=true)
  (aLo:Bf K mainGlobals "do_look"=some (some (.ref fLo))) (lLo:K.lookup fLo=some ⟨ocLo,odLo,.func (BE "do_look" "do_look" (dW m9) (dQ m9) (aO m9) .none kVLo dcLo pmLo anLo cdLo ctLo),slLo⟩) (cLo:BL K cdLo "do_look"=true) (kLo:AO K (.ref fLo)=true)
  (aL:Bf K mainGlobals "law"=some (some (.ref fL))) (lL:K.lookup fL=some ⟨ocL,odL,.func (BE "law" "law" (dW xC) (dQ xC) (aO xC) .none kVL dcL pmL anL cdL ctL),slL⟩) (cL:BL K cdL "law"=true) (kL:AO K (.ref fL)=true)
  (z_len:Bf K mainGlobals "len"=some none)
  (z_sum:Bf K mainGlobals "sum"=some none)
  (z_max:Bf K mainGlobals "max"=some none)
  (z_min:Bf K mainGlobals "min"=some none)
  (z_tuple:Bf K mainGlobals "tuple"=some none)
  (z_sorted:Bf K mainGlobals "sorted"=some none)
  (z_any:Bf K mainGlobals "any"=some none)
  (z_all:Bf K mainGlobals "all"=some none)
  (z_abs:Bf K mainGlobals "abs"=some none)
  (z_range:Bf K mainGlobals "range"=some none)
  (z_int:Bf K mainGlobals "int"=some none)
  (z_set:Bf K mainGlobals "set"=some none)
  (z_dict:Bf K mainGlobals "dict"=some none)
  (z_repr:Bf K mainGlobals "repr"=some none)
  (q_DEEDS:Bf K mainGlobals "DEEDS"=some (some (.ref t_DEEDS)))
  (lFm:K.lookup t_DEEDS=some { cls:=.type "dict",data:=.dict #[⟨Bp w.params "part",.str "part" xk0,.ref fPa⟩,⟨Bp w.params "join",.str "join" xk1,.ref fJo⟩,⟨Bp w.params "forfeit",.str "forfeit" xk2,.ref fFo⟩,⟨Bp w.params "measure",.str "measure" xk3,.ref fMe⟩,⟨Bp w.params "mend",.str "mend" xk4,.ref fMn⟩,⟨Bp w.params "alone",.str "alone" xk5,.ref fAl⟩,⟨Bp w.params "breach",.str "breach" xk6,.ref fLo⟩,⟨Bp w.params "view",.str "view" xk7,.ref fLo⟩] eF }) (hcI:Fy K qIn TT=true)
  (zAc:Dx K "acres_in" wZ)
  (zCu:Dx K "cut" aHu)
  (zRf:Dx K "road_from" p9)
  (zCa:Dx K "carry_out" aA9)
  (zBh:Dx K "moment_behind" w6)
  (zWd:Dx K "words" w8)
  (zLd:Dx K "lands" w9)
  (zIo:Dx K "inches_of" qA)
  (zP:Dx K "_law_pen" aHv)
  (zD:Dx K "_law_draw" aEm)
  (zN:Dx K "_law_names" oF)
  (zWo:Dx K "_law_world" tO)
  (zUn:Dx K "_law_units" xA)
  (zLr:Dx K "_law_road" aBa)
  (zPw:Dx K "_law_part_word" kK)
  (zJw:Dx K "_law_join_word" kQ)
  (zO:Dx K "_law_word" aEn)
  (zE:Dx K "_law_do" sDo)
  (zLP:Dx K "_law_part" vQ)
  (zLJ:Dx K "_law_join" aBR)
  (zM:Dx K "_law_made" aEo)
  (zR:Dx K "_law_rank" aEp)
  (zLa:Dx K "_law_laying" xB)
  (zRo:Dx K "_law_roll" y9)
  (zFR:Dx K "_law_first_right" jL)
  (zIR:Dx K "_law_inches_right" gG)
  :∃ fd:A3,(∀(s:Ag) (v:Ad),F9 s fd ⟨[v],[]⟩ [("_law_script",v)])∧∀ base:Bi,K.In base→base.Ns mainGlobals mg→uM mg base→cP l.prog w K mg base CX0 10 fa fd ["_law_script"] (aCr K TT):=by
 have e:=hfa.symm.trans (B1 X G aL);cases e;have FIn:=iZ (st:=p8) lIn cIn kIn;have mIn:=B1 X G aIn;have bIn:=FIn.binds (ps:=["ranks","pieces"]) fun _ _ _ _ _ _ us hl=>by obtain⟨_,_,rfl⟩:=iO hl;rfl
 have FPa:=iZ (st:=jJ) lPa cPa kPa;have mPa:=B1 X G aPa;have bPa:=FPa.binds (ps:=["moment","row"]) fun _ _ _ _ _ _ us hl=>by obtain⟨_,_,rfl⟩:=iO hl;rfl
 have FJo:=iZ (st:=jK) lJo cJo kJo;have mJo:=B1 X G aJo;have bJo:=FJo.binds (ps:=["moment","row"]) fun _ _ _ _ _ _ us hl=>by obtain⟨_,_,rfl⟩:=iO hl;rfl
 have FFo:=iZ (st:=gR) lFo cFo kFo;have mFo:=B1 X G aFo;have bFo:=FFo.binds (ps:=["moment","row"]) fun _ _ _ _ _ _ us hl=>by obtain⟨_,_,rfl⟩:=iO hl;rfl
 have FMe:=iZ (st:=gS) lMe cMe kMe;have mMe:=B1 X G aMe;have bMe:=FMe.binds (ps:=["moment","row"]) fun _ _ _ _ _ _ us hl=>by obtain⟨_,_,rfl⟩:=iO hl;rfl
 have FMn:=iZ (st:=m8) lMn cMn kMn;have mMn:=B1 X G aMn;have bMn:=FMn.binds (ps:=["moment","row"]) fun _ _ _ _ _ _ us hl=>by obtain⟨_,_,rfl⟩:=iO hl;rfl
 have FAl:=iZ (st:=kJ) lAl cAl kAl;have mAl:=B1 X G aAl;have bAl:=FAl.binds (ps:=["moment","row"]) fun _ _ _ _ _ _ us hl=>by obtain⟨_,_,rfl⟩:=iO hl;rfl
 have FLo:=iZ (st:=m9) lLo cLo kLo;have mLo:=B1 X G aLo;have bLo:=FLo.binds (ps:=["moment","row"]) fun _ _ _ _ _ _ us hl=>by obtain⟨_,_,rfl⟩:=iO hl;rfl
 have FL:=iZ (st:=xC) lL cL kL;have mL:=B1 X G aL;have bL:=FL.binds (ps:=["_law_script"]) fun _ _ _ _ _ _ us hl=>by obtain⟨_,rfl⟩:=aDe hl;rfl
 have n_len:=Bm X G z_len;have n_sum:=Bm X G z_sum;have n_max:=Bm X G z_max;have n_min:=Bm X G z_min;have n_tuple:=Bm X G z_tuple;have n_sorted:=Bm X G z_sorted;have n_any:=Bm X G z_any;have n_all:=Bm X G z_all;have n_abs:=Bm X G z_abs;have n_range:=Bm X G z_range;have n_int:=Bm X G z_int;have n_set:=Bm X G z_set;have n_dict:=Bm X G z_dict;have n_repr:=Bm X G z_repr;have g_DEEDS:=B1 X G q_DEEDS;refine⟨BE "law" "law" (dW xC) (dQ xC) (aO xC) .none kVL dcL pmL anL cdL ctL,fun s v=>.of_eq rfl,fun base _ _ hB=>?_⟩;obtain⟨_,_,FAc,mAc,kAc⟩:=dC zAc X G;have bAc:=FAc.binds (ps:=["pieces"]) fun _ _ _ _ _ _ us hl=>by obtain⟨_,rfl⟩:=aDe hl;rfl
 obtain⟨_,_,FCu,mCu,kCu⟩:=dC zCu X G;have bCu:=FCu.binds (ps:=["pieces","low","high"]) fun _ _ _ _ _ _ us hl=>by obtain⟨_,_,_,rfl⟩:=aFj hl;rfl
 obtain⟨_,_,FRf,mRf,kRf⟩:=dC zRf X G;have bRf:=FRf.binds (ps:=["menders","house"]) fun _ _ _ _ _ _ us hl=>by obtain⟨_,_,rfl⟩:=iO hl;rfl
 obtain⟨_,_,FCa,mCa,kCa⟩:=dC zCa X G;have bCa:=FCa.binds (ps:=["moment","row"]) fun _ _ _ _ _ _ us hl=>by obtain⟨_,_,rfl⟩:=iO hl;rfl
 obtain⟨_,_,FBh,mBh,kBh⟩:=dC zBh X G;have bBh:=FBh.binds (ps:=["roll","at"]) fun _ _ _ _ _ _ us hl=>by obtain⟨_,_,rfl⟩:=iO hl;rfl
 obtain⟨_,_,FWd,mWd,kWd⟩:=dC zWd X G;have bWd:=FWd.binds (ps:=["roll"]) fun _ _ _ _ _ _ us hl=>by obtain⟨_,rfl⟩:=aDe hl;rfl
 obtain⟨_,_,FLd,mLd,kLd⟩:=dC zLd X G;have bLd:=FLd.binds (ps:=["roll","at"]) fun _ _ _ _ _ _ us hl=>by obtain⟨_,_,rfl⟩:=iO hl;rfl
 obtain⟨_,_,FIo,mIo,kIo⟩:=dC zIo X G;have bIo:=FIo.binds (ps:=["roll","at","field"]) fun _ _ _ _ _ _ us hl=>by obtain⟨_,_,_,rfl⟩:=aFj hl;rfl
 obtain⟨_,_,FP,mP,kP⟩:=dC zP X G;have bP:=FP.binds (ps:=["_law_script"]) fun _ _ _ _ _ _ us hl=>by obtain⟨_,rfl⟩:=aDe hl;rfl
 obtain⟨_,_,FD,mD,kD⟩:=dC zD X G;have bD:=FD.binds (ps:=["_law_pen_here","_law_many"]) fun _ _ _ _ _ _ us hl=>by obtain⟨_,_,rfl⟩:=iO hl;rfl
 obtain⟨_,_,FN,mN,kN⟩:=dC zN X G;have bN:=FN.binds (ps:=["_law_pen_here","_law_many"]) fun _ _ _ _ _ _ us hl=>by obtain⟨_,_,rfl⟩:=iO hl;rfl
 obtain⟨_,_,FWo,mWo,kWo⟩:=dC zWo X G;have bWo:=FWo.binds (ps:=["_law_laying_here","_law_scale"]) fun _ _ _ _ _ _ us hl=>by obtain⟨_,_,rfl⟩:=iO hl;rfl
 obtain⟨_,_,FUn,mUn,kUn⟩:=dC zUn X G;have bUn:=FUn.binds (ps:=["_law_world_here","_law_land"]) fun _ _ _ _ _ _ us hl=>by obtain⟨_,_,rfl⟩:=iO hl;rfl
 obtain⟨_,_,FLr,mLr,kLr⟩:=dC zLr X G;have bLr:=FLr.binds (ps:=["_law_world_here","_law_house"]) fun _ _ _ _ _ _ us hl=>by obtain⟨_,_,rfl⟩:=iO hl;rfl
 obtain⟨_,_,FPw,mPw,kPw⟩:=dC zPw X G;have bPw:=FPw.binds (ps:=["_law_world_here","_law_row"]) fun _ _ _ _ _ _ us hl=>by obtain⟨_,_,rfl⟩:=iO hl;rfl
 obtain⟨_,_,FJw,mJw,kJw⟩:=dC zJw X G;have bJw:=FJw.binds (ps:=["_law_world_here","_law_row"]) fun _ _ _ _ _ _ us hl=>by obtain⟨_,_,rfl⟩:=iO hl;rfl
 obtain⟨_,_,FO,mO,kO⟩:=dC zO X G;have bO:=FO.binds (ps:=["_law_world_here","_law_row"]) fun _ _ _ _ _ _ us hl=>by obtain⟨_,_,rfl⟩:=iO hl;rfl
 obtain⟨_,_,FE,mE,kE⟩:=dC zE X G;have bE:=FE.binds (ps:=["_law_world_here","_law_row"]) fun _ _ _ _ _ _ us hl=>by obtain⟨_,_,rfl⟩:=iO hl;rfl
 obtain⟨_,_,FLP,mLP,kLP⟩:=dC zLP X G;have bLP:=FLP.binds (ps:=["_law_pen_here","_law_world_here","_law_fresh","_law_pool"]) fun _ _ _ _ _ _ us hl=>by obtain⟨_,_,_,_,rfl⟩:=aHS hl;rfl
 obtain⟨_,_,FLJ,mLJ,kLJ⟩:=dC zLJ X G;have bLJ:=FLJ.binds (ps:=["_law_pen_here","_law_world_here","_law_fresh"]) fun _ _ _ _ _ _ us hl=>by obtain⟨_,_,_,rfl⟩:=aFj hl;rfl
 obtain⟨_,_,FM,mM,kM⟩:=dC zM X G;have bM:=FM.binds (ps:=["_law_pen_here","_law_world_here","_law_fresh","_law_pool","_law_word_here"]) fun _ _ _ _ _ _ us hl=>by obtain⟨_,_,_,_,_,rfl⟩:=aIS hl;rfl
 obtain⟨_,_,FR,mR,kR⟩:=dC zR X G;have bR:=FR.binds (ps:=["_law_word_here"]) fun _ _ _ _ _ _ us hl=>by obtain⟨_,rfl⟩:=aDe hl;rfl
 obtain⟨_,_,FLa,mLa,kLa⟩:=dC zLa X G;have bLa:=FLa.binds (ps:=["_law_pen_here","_law_pool","_law_scale","_law_most"]) fun _ _ _ _ _ _ us hl=>by obtain⟨_,_,_,_,rfl⟩:=aHS hl;rfl
 obtain⟨_,_,FRo,mRo,kRo⟩:=dC zRo X G;have bRo:=FRo.binds (ps:=["_law_pen_here","_law_most","_law_terms"]) fun _ _ _ _ _ _ us hl=>by obtain⟨_,_,_,rfl⟩:=aFj hl;rfl
 obtain⟨_,_,FFR,mFR,kFR⟩:=dC zFR X G;have bFR:=FFR.binds (ps:=["_law_roll_here","_law_laying_here"]) fun _ _ _ _ _ _ us hl=>by obtain⟨_,_,rfl⟩:=iO hl;rfl
 obtain⟨_,_,FIR,mIR,kIR⟩:=dC zIR X G;have bIR:=FIR.binds (ps:=["_law_roll_here","_law_at"]) fun _ _ _ _ _ _ us hl=>by obtain⟨_,_,rfl⟩:=iO hl;rfl
 have hc:MC K C:=⟨⟨pg,hd,po,sa⟩,nR,nH,nA,nI,nM⟩
 have mC:=B1 X G aC;have FI:=iZ (st:=v3) lI cI kI;have bI:=FI.binds (ps:=["self","laying"]) fun _ _ _ _ _ _ us hl=>by obtain⟨_,_,rfl⟩:=iO hl;rfl
 have GI:=aF4 (P:=l.prog) (w:=w) (base:=base) FI hc n_len;have GAc:=aEz (P:=l.prog) (w:=w) (base:=base) FAc n_sum;have GCu:=aHH (P:=l.prog) (w:=w) (base:=base) FCu n_max n_min n_tuple;have GIn:=aED (P:=l.prog) (w:=w) FIn rfl hcI hB n_sorted n_tuple;have GRf:=zJ (P:=l.prog) (w:=w) (mg:=mg) (base:=base) FRf;have GPa:=aC5 (T:=TT) FPa hc n_sum n_any ⟨_,_,GAc,mAc,kAc,bAc⟩ ⟨_,_,GCu,mCu,kCu,bCu⟩;have GJo:=aC6 FJo hc n_all n_any ⟨_,_,GIn,mIn,kIn,bIn⟩;have GFo:=xH (P:=l.prog) (w:=w) (mg:=mg) (base:=base) (T:=TT) FFo hc;have GMe:=xI (P:=l.prog) (w:=w) (mg:=mg) (base:=base) (T:=TT) FMe hc;have GMn:=aC4 (T:=TT) FMn hc ⟨_,_,GRf,mRf,kRf,bRf⟩;have GAl:=aBf (P:=l.prog) (w:=w) (mg:=mg) (base:=base) (T:=TT) FAl hc;have GLo:=aC3 (P:=l.prog) (w:=w) (mg:=mg) (base:=base) (T:=TT) FLo hc;have GCa:=aEL FCa (aF1 lFm) g_DEEDS ⟨⟨_,GPa.mono (by decide),kPa,bPa⟩⟩ ⟨⟨_,GJo.mono (by decide),kJo,bJo⟩⟩ ⟨⟨_,GFo.mono (by decide),kFo,bFo⟩⟩ ⟨⟨_,GMe.mono (by decide),kMe,bMe⟩⟩ ⟨⟨_,GMn.mono (by decide),kMn,bMn⟩⟩ ⟨⟨_,GAl.mono (by decide),kAl,bAl⟩⟩ ⟨⟨_,GLo.mono (by decide),kLo,bLo⟩⟩;have GBh:=aDd FBh ⟨mk,aI,iI,kc⟩ GI mC bI GCa mCa kCa bCa;have GWd:=aEO FWd ⟨mk,aI,iI,kc⟩ GI mC bI ⟨_,_,GCa,mCa,kCa,bCa⟩;have GLd:=aFf FLd hc n_sorted ⟨_,_,GBh,mBh,kBh,bBh⟩;have GIo:=aAo FIo hc ⟨_,_,GBh,mBh,kBh,bBh⟩;have GD:=aFU (P:=l.prog) (w:=w) (base:=base) FD n_len n_abs;have GN:=aEx FN n_len n_range n_min GD mD kD bD;have GWo:=aEX (P:=l.prog) (w:=w) (base:=base) FWo n_dict n_range;have GUn:=aER (P:=l.prog) (w:=w) (mg:=mg) (base:=base) FUn
 have GLr:=aEQ (P:=l.prog) (w:=w) (mg:=mg) (base:=base) FLr;have GPw:=zZ FPw n_len n_sum n_int ⟨_,_,GUn,mUn,kUn,bUn⟩;have GJw:=z4 (P:=l.prog) (w:=w) (base:=base) FJw n_len n_set n_int;have GO:=aF7 FO ⟨_,_,GPw,mPw,kPw,bPw⟩ ⟨_,_,GJw,mJw,kJw,bJw⟩ ⟨_,_,GLr,mLr,kLr,bLr⟩;have GE:=aIQ FE ⟨_,_,GUn,mUn,kUn,bUn⟩;have GLP:=aE4 FLP n_len n_sorted n_min n_max n_range n_set n_tuple ⟨_,_,GD,mD,kD,bD⟩ ⟨_,_,GUn,mUn,kUn,bUn⟩;have GLJ:=aE5 FLJ n_len n_sorted n_set n_tuple ⟨_,_,GD,mD,kD,bD⟩;have GM:=aGg FM n_len n_sorted n_min ⟨_,_,GD,mD,kD,bD⟩ ⟨_,_,GLP,mLP,kLP,bLP⟩ ⟨_,_,GLJ,mLJ,kLJ,bLJ⟩;have GR:=aF8 (P:=l.prog) (w:=w) (mg:=mg) (base:=base) FR;have GLa:=aC8 FLa n_len n_tuple ⟨_,_,GN,mN,kN,bN⟩ ⟨_,_,GD,mD,kD,bD⟩;have GRo:=aGi FRo n_len n_tuple GN mN kN bN GLa mLa kLa bLa GWo mWo kWo bWo GD mD kD bD GM mM kM bM GR mR kR bR GO mO kO bO GE mE kE bE;have GFR:=uQ FFR n_sorted n_repr GLd mLd kLd bLd GIo mIo kIo bIo;have GIR:=uI FIR n_dict n_repr ⟨_,_,GIo,mIo,kIo,bIo⟩;exact aHR FL n_len n_range n_repr ⟨_,_,(aHD FP),mP,kP,bP⟩ ⟨_,_,GRo,mRo,kRo,bRo⟩ ⟨_,_,GFR,mFR,kFR,bFR⟩ ⟨_,_,GWd,mWd,kWd,bWd⟩ ⟨_,_,GIR,mIR,kIR,bIR⟩
theorem walk{l:FH}{q:AC}{loose:List Str}{XP:(Str→Option Ad)→Bi→Prop}{YP:AT→Bi→Prop}{d:DefRec}{K:Params→Ah}{c T:Ae}(hn:l.most=some 63)(hdf:d.params.defaults=[])
  (hY:∀(w:AT) (h:Bi),YP w h→(K w.params).In h∧∀ P∈[T],h.get? P=some (PySem.W.tabObj #[]))
  (F:∀(w:AT) (mg:Str→Option Ad) (fa:Ae) (h:Bi),(K w.params).In h→h.Ns mainGlobals mg→mg d.name=some (.ref fa)→
   ∃ fd:A3,(∀(s:Ag) (u:Ad),F9 s fd ⟨[u],[]⟩ [("_law_script",u)])∧∀ base:Bi,(K w.params).In base→base.Ns mainGlobals mg→uM mg base→cP l.prog w (K w.params) mg base CX0 10 fa fd ["_law_script"] (aCr (K w.params) T))
  (hC:∀(w:AT),Fy (K w.params) c T=true) (hN:∀(w:AT),(K w.params).lookup T=none):
  PySem.W.WalkO q loose XP YP l.row.toRowW d [] (fun f vs=>GQ f vs):=
 L2.walk_ofT (n:=63) (k:=10) (x:="_law_script") (cts:=[(c,T)]) (sp:=fun w=>aCr (K w.params) T) hn (by decide) hdf ⟨rfl,by decide,by decide,rfl⟩ hY (fun w p hp=>by
  rw[AF.mp hp];exact⟨hC w,hN w⟩) F fun w H a ns hl hT hS=>⟨a,ns,rfl,hS,hl,lM.start (hT T (AF.mpr rfl)),fun _=>rfl⟩
end K09
end
namespace PySem.W.Fast
def tw15487785282342187956:=0
def tw13550392624274229105:=0
def tw13719774432283665247:=0
def tw4143554505065019858:=0
def tw1411110278869226896:=0
def tw2371644409720588503:=0
def tw9689513544168767406:=0
def tw17910914058736923272:=0
def tw9255479517869730483:=0
def tw18007907677153776603:=0
def tw14063027176992468023:=0
def tw5342140442785756590:=0
def tw5821619202484103994:=0
def tw18259438756089601222:=0
def tw17262179701527770982:=0
def tw8239325009928401548:=0
def tw5558825621771461683:=0
def tw10199809487692147972:=0
def tw17018020924485565787:=0
def tw17568702377583441860:=0
def tw4998405192961934925:=0
def tw9390089213652921626:=0
def tw3123657615535845649:=0
def tw5346104135421969818:=0
def tw8767542160831098361:=0
def tw14370007572191999144:=0
def tw11740905804381701077:=0
def tw158159753776059606:=0
def tw16917197181029509211:=0
def tw10935976302875047543:=0
def tw497055929961310976:=0
def tw1142700027101368924:=0
def tw2492966916280976098:=0
def tw7538301294674090819:=0
def tw17813399879260271118:=0
def tw12116056964477763115:=0
def tw18237514702177925203:=0
def tw16391911603872227603:=0
def tw14238005733351377339:=0
def tw7517723286172204502:=0
def tw4927593251532445531:=0
def tw12309143479223000911:=0
def tw15976397272317033137:=0
def tw7837891141057936538:=0
def tw9453406983440010518:=0
def tw1844881989414286968:=0
def tw3128788025823770961:=0
def tw2485282736522435370:=0
def tw3691727090315673820:=0
def tw7822504391153297872:=0
def tw8477165882631744191:=0
def tw4338085673935260489:=0
def tw5765500513520695160:=0
def tw4523542662880452906:=0
def tw3794774369381915145:=0
def tw2908665051839385540:=0
def tw12360611613159440050:=0
def tw1412966520159005189:=0
def tw12471131215922293271:=0
def tw13268000905543061304:=0
def tw11170518830977382560:=0
def tw2160616537072120200:=0
def tw14418999412567827281:=0
def tw11336641402217592328:=0
def tw6111676636470967161:=0
def tw12358382113586469671:=0
def tw16522336750613580735:=0
def tw3935094115341959748:=0
def tw1758861585991883600:=0
def tw12097032596666447517:=0
def tw4988441447480431609:=0
def tw3674472918896312013:=0
def tw10631807979075032709:=0
def tw9236164357031057280:=0
def tw14347779372869168647:=0
def tw12311224849602911298:=0
def tw15005552637319071093:=0
def tw11297913916498630001:=0
def tw10512101452285328317:=0
def tw17353093961356547477:=0
def tw2248327596100999842:=0
def tw13169491194458178860:=0
def tw18184440072167677070:=0
def tw10409304803419154613:=0
def tw12540134006008796158:=0
def tw7322532713906186003:=0
def tw17754632501600486371:=0
def tw9087541438119661948:=0
def tw13246148920422488954:=0
def tw9574784465582542083:=0
def tw7114795615088994106:=0
def tw11954454036833980789:=0
def tw6371058493773835312:=0
def tw10854115820641008922:=0
def tw15506063191666080821:=0
def tw13073361045699080458:=0
def tw8214152744398574475:=0
def tw3251967756770588960:=0
def tw17209316315532399004:=0
def tw9018018248400203177:=0
def tw9898849690402865392:=0
def tw254784455835686473:=0
def tw6080467473485038070:=0
def tw2109759062497474780:=0
def tw6244925189690283862:=0
def tw12946957634897359978:=0
def tw4454306393408009691:=0
def tw5464010700431673705:=0
def tw14460594305377299256:=0
def tw10066716819587984808:=0
def tw1347084333575590958:=0
def tw15292922415885380929:=0
def tw1581982958142358958:=0
def tw8990163529748975577:=0
def tw2456082483591132397:=0
def tw12830535332174626931:=0
def tw9789956705616604193:=0
def tw13129750454925354931:=0
def tw10028680043559292781:=0
def tw880642698570121805:=0
def tw8675652078027779372:=0
def tw4022076667518053982:=0
def tw15693462380309598260:=0
def tw17119328952636735919:=0
def tw17460903577314455190:=0
def tw17504341565905418072:=0
def tw10000156490991167776:=0
def tw16049201386746586043:=0
def tw14062062818137526669:=0
def tw3467928081549794505:=0
def tw2414163658006924223:=0
def tw4128067878858726502:=0
def tw8578002580544332817:=0
def tw13527960623253066621:=0
def tw14012658015036582027:=0
def tw125343556584230685:=0
def tw13349042001908113389:=0
def tw4110200300651406594:=0
def tw9718042264286432333:=0
def tw5149022582174685563:=0
def tw1709519823749885232:=0
def tw10177568529448095626:=0
def tw3378381497605589512:=0
def tw4775428072652042639:=0
def tw2169605798916336805:=0
def tw16408167960279925286:=0
def tw3501011713094069110:=0
def tw10595060983587495197:=0
def tw18100765152791737897:=0
def tw6738019862861790576:=0
def tw12127525604778946553:=0
def tw5713128799090910242:=0
def tw17167065490381500481:=0
def tw485910838494100288:=0
def tw5759319548490229418:=0
def tw3828328071764703292:=0
def tw3152537936293371993:=0
def tw8258437172164080486:=0
def tw8441759647526965491:=0
def tw6115299778664034449:=0
def tw17443027082508327159:=0
def tw2606651755009684386:=0
def tw166844841495788572:=0
def tw8155069926609101940:=0
def tw18413367173324135996:=0
def tw9498210105350230888:=0
def tw16329536427349746595:=0
def tw1844804896850979906:=0
def tw17848520896935583285:=0
def tw1423588514991077845:=0
def tw13442918338132364751:=0
def tw5559814831775687883:=0
def tw3797839801258873768:=0
def tw4887146864857920010:=0
def tw15700578370480686716:=0
def tw9267109319286092420:=0
def tw9367842731133448005:=0
def tw15039573418596542373:=0
def tw7390752310343409799:=0
def tw14251755378351265512:=0
def tw2138570420555655369:=0
def tw13773591889537564806:=0
def tw12177725839105109591:=0
def tw18280789929973629991:=0
def tw15615548451500789406:=0
def tw8952697770844916470:=0
def tw5030795523991636058:=0
def tw4138164225982273580:=0
def tw14335439550362041597:=0
def tw12508386565300553615:=0
def tw8324870176710141247:=0
def tw1429620733833089033:=0
def tw7131622436740657501:=0
def tw5028100911384224773:=0
def tw3889821982972965766:=0
def tw7665680801557246541:=0
def tw13140660039198454834:=0
def tw7610169686397108584:=0
def tw11140917957172768157:=0
def tw7181198217886326172:=0
def tw6720728111171021201:=0
def tw15150136499906521576:=0
def tw4981773614340398870:=0
def tw1420070086839286583:=0
def tw11163219228279891930:=0
def tw9852000061835805982:=0
def tw9608827721084116233:=0
def tw17783488892399936469:=0
def tw10074110569902949337:=0
def tw10024788399918678926:=0
def tw11809532551243389024:=0
def tw3342190218765041115:=0
def tw1346984430647832687:=0
def tw10379585723202242073:=0
def tw13493080628774202017:=0
def tw6570898069670766471:=0
def tw16541426219269434632:=0
def tw6750749285185662844:=0
def tw10632130852614400464:=0
def tw1796389142785593366:=0
def tw12388893881449254223:=0
def tw4898123430161422976:=0
def tw14615917644803686216:=0
def tw12357546108545994127:=0
def tw9722140680059780986:=0
def tw1862858272774406957:=0
def tw15520752497120554247:=0
def tw8317801579235554459:=0
def tw17108045064850807554:=0
def tw10692103129044447583:=0
def tw7837400338029907585:=0
def tw1300081053312156567:=0
def tw16589085258079742523:=0
def tw14698795996163671067:=0
def tw13089535123046415938:=0
def tw5503812038185211304:=0
def tw15161100022442706663:=0
def tw9791459960188058112:=0
def tw3597065083592111222:=0
def tw10523805807732930424:=0
def tw14997035763001932879:=0
def tw17142725981916485645:=0
def tw15610382087020904553:=0
def tw674321098555439027:=0
def tw17666055533764553082:=0
def tw4622194489035749163:=0
def tw17391857960572513917:=0
def tw15922209211312924057:=0
def tw15231744890069754128:=0
def tw3028295779194191064:=0
def tw8519433305571036841:=0
def tw13116109771491125896:=0
def tw5133354728422346982:=0
def tw15592135923815329574:=0
def tw15474577387835490856:=0
def tw2187018966310811222:=0
def tw11257549355513223921:=0
def tw1401844681786299969:=0
def tw3974385532676149139:=0
def tw10120037833358232672:=0
def tw6445253922312823546:=0
def tw974316796054910707:=0
def tw11022123123404974644:=0
def tw14276973832461064169:=0
def tw3764253337535743442:=0
def tw7863364583340291816:=0
def tw2943979544433441643:=0
def tw4944818158337431276:=0
def tw17388843089930991715:=0
def tw2289188445645963414:=0
def tw16590486816702741534:=0
def tw12545261895105330299:=0
end PySem.W.Fast
open PySem PySem.W PyProof.Rows
set_option maxRecDepth 100000 in
set_option maxHeartbeats 0 in
theorem PySem.Challenge.cw_dykelengths_k09_the_first_laying_holds : PySem.Challenge.rw_dykelengths_k09_the_first_laying.Holds := by
 w_on;o_law;k_head;(case hw=>w_witness2)
 k_fill
 refine K09.walk (l:=PySem.Challenge.rw_dykelengths_k09_the_first_laying) (c:=53) (T:=49) rfl rfl (fun w h Y=>⟨PySem.W.km_in_of Y,PySem.W.km_tabs_of Y⟩) ?F ?hC ?hN
 case F=>
  intro w mg fa h KX G hmg
  refine' K09.all_mk KX G hmg ?aC ?aI ?iI ?lI ?cI ?kI ?pg ?hd ?po ?sa ?mk ?kc ?nR ?nH ?nA ?nI ?nM ?aIn ?lIn ?cIn ?kIn ?aPa ?lPa ?cPa ?kPa ?aJo ?lJo ?cJo ?kJo ?aFo ?lFo ?cFo ?kFo ?aMe ?lMe ?cMe ?kMe ?aMn ?lMn ?cMn ?kMn ?aAl ?lAl ?cAl ?kAl ?aLo ?lLo ?cLo ?kLo ?aL ?lL ?cL ?kL ?z_len ?z_sum ?z_max ?z_min ?z_tuple ?z_sorted ?z_any ?z_all ?z_abs ?z_range ?z_int ?z_set ?z_dict ?z_repr ?q_DEEDS ?lFm ?hcI ?zAc ?zCu ?zRf ?zCa ?zBh ?zWd ?zLd ?zIo ?zP ?zD ?zN ?zWo ?zUn ?zLr ?zPw ?zJw ?zO ?zE ?zLP ?zLJ ?zM ?zR ?zLa ?zRo ?zFR ?zIR
  case aC|aI|iI|lI|cI|kI|pg|hd|po|sa|mk|kc|nR|nH|nA|nI|nM|aIn|lIn|cIn|kIn|aPa|lPa|cPa|kPa|aJo|lJo|cJo|kJo|aFo|lFo|cFo|kFo|aMe|lMe|cMe|kMe|aMn|lMn|cMn|kMn|aAl|lAl|cAl|kAl|aLo|lLo|cLo|kLo|aL|lL|cL|kL|z_len|z_sum|z_max|z_min|z_tuple|z_sorted|z_any|z_all|z_abs|z_range|z_int|z_set|z_dict|z_repr|q_DEEDS|lFm=>k_is
  case hcI=>kernel_rfl
  case zAc|zCu|zRf|zCa|zBh|zWd|zLd|zIo|zP|zD|zN|zWo|zUn|zLr|zPw|zJw|zO|zE|zLP|zLJ|zM|zR|zLa|zRo|zFR|zIR=>exact ⟨_,by k_is,⟨_,_,_,_,_,_,_,_,_,by k_is,by k_is⟩,by k_is⟩
 case hC=>exact fun w=>by kernel_rfl
 case hN=>exact fun w=>by kernel_rfl
