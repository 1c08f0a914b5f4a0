import PyProof.Rows.All
import Wide.All
import OpenK.AllK
import Wide.FinOn
import Lean
import PyProof.EqAt
import PyProof.EqKinds
import PyProof.TupleCall
import KE.KIntText
import KE.KDictList
import PyProof.StationsW
import PyProof.ExcClass2
import OpenK.KRaise
import OpenK.KOwn
import KE.KTryMore
import PyProof.NsDelKeeps
import PyProof.Rows.Catch
import PyProof.ExcArgs
import PyProof.AttrMissHeap
import KE.KDictOf
import KE.KPairComp
import PyProof.P3In
import KE.KSortTup
import PyProof.EnumFor
import PyProof.EnumMake
import PyProof.EnumStmt
import PyProof.Rows.EnumRows
import PyProof.StrCalls
import PyProof.NeData
import PyProof.ExcInit
import PyProof.InstStoreFacts
import PyProof.StrOps2
import PyProof.Rows.StrNews2
import PySem.Challenge.RW_dykelengths_k72_rows_and_deeds_written
set_option linter.all false
set_option maxRecDepth 100000
set_option Elab.async false
set_option maxHeartbeats 16000000
noncomputable section
local macro_rules
|`(tactic|omega)=>`(tactic|lia)
local macro_rules
|`(tactic|decide)=>`(tactic|decide +kernel)
open PySem renaming wpAny_bind→Aa,Value→Ab,Shared→Ad,Addr→Af,wpAny_pure→Ag,PyData→Aj,Program→Al,boot_len→Aq,FuncData→Ax,Around→AB,World→AH,wpAny_ite_false→AO,Heap→A1,Expr→A5,wpAny_holding→A7,wpAny_mono→Bd,strKind→Bq,Stmt→Br,wpAny_newObj_type→BB,wpAny_truthy_bool→BK,mem_of_lookup→BM,wpAny_isInstance→BW,wpAny_call_entry→BX,wpAny_callSpecial?_slot→B4,wpAny_setField→Cc,wpAny_call→Cd,codeAny_builtin→Ck,codeAny_call_builtin→Cm,Scope→Cq,SetTable→Cu,wpAny_of_eq→CC,wpAny_typeOf→CF,codeAny_mono→CG,wpAny_passesOwn→CK,wpAny_setState_of→CQ,wpAny_askSetting→CY,wpAny_setEntries_of→C4,wpAny_attempt→Da,wpAny_execs_nil→Dc,wpAny_Call_Name_kw→Dm,wpAny_getItem_str_slice→Dp,wpAny_loadPart_at→Dt,NameKind→Dv,Model→Dw,call_meets→DG,wpAny_standAt→DN,wpAny_field→DO,sizeLine_eq→DP,Keyword→D7,wpAny_ite_true→Eb,typeIs_str→Ec,fits_of_scanBound→Eo,IsPart→EF,wpAny_specialOf→EG,post_val_or_str→EH,codeAny_of_tree→EI,wpAny_fieldsOf→EY,GenState→EZ,Str→E7,Ctx→E8,plainId_quiet→Fc,tupleKind_room_in1→Fg,wpAny_pyIter_list→Fn,ExcBaseFacts→Ft,BindsTo→Fu,wpAny_execs_cons→Fw,noFill_tuple_add→Fx,Paired→Fy,IsRangeIter→FE,wpAny_runValue→FK,CmpOp→FU,seq_tuple_add→FW,evalPart_none→FX,Drawn→F1,concat_meets→F2,Result→F7,seqIndex_of→Gb
open List renaming length_map→Ac,getElem?_eq_getElem→Ai,length_cons→Ak,size_toArray→Ao,mem_cons→Ap,map_append→Ar,length_append→Av,length_take→AC,not_mem_nil→AF,range→AJ,mem_of_getElem?→AN,mem_cons_self→AV,getElem?_map→AW,all_eq_true→AX,mem_cons_of_mem→AY,getElem?_eq_some_iff→AZ,map_cons→A0,take_add_one→A2,take_of_length_le→A3,mem_append_right→A6,take_length→Bc,getElem?_eq_none→Bh,length_drop→Bk,mem_filterMap→Bl,mem_append→Bo,lookup_cons→Bp,mem_singleton→BC,eq_nil_of_length_eq_zero→BG,mem_map→BO,range'→BQ,getElem_mem→BR,mem_append_left→BV,sum_cons→B5,drop_eq_getElem_cons→Cb,append_nil→Ce,map_map→Cg,length_reverse→Cn,replicate→Co,drop_eq_nil_of_le→Ct,nodup_cons→Cy,map_take→CA,all_cons→CB,append_assoc→CH,mem_range→CM,mem_of_mem_take→CN,filterMap_cons→CW,find?_cons→CZ,length→C8,nodup_append→Df,map_nil→Dg,length_range→Dh,ext_getElem?→Di,drop_zero→Dj,all_map→Dk,take→Dq,mapIdx_cons→Dr,any_eq_true→Ds,not_lt→DC,range_succ→DD,length_nil→DE,getElem?_range→DK,cons→DQ,pairwise_cons→DR,length_eraseIdx_of_lt→DS,filter_append→DT,take_sublist→D6,any_cons→D9,length_eq_one_iff→Ep,getElem?_set_self→Er,reverse_reverse→Ey,lookup→Ez,getElem?_set_ne→EA,getElem?_of_mem→EB,map_eq_nil_iff→EL,map_congr_left→EM,take_nil→ES,map_drop→ET,reverse_cons→E1,pairwise_map→E2,flatMap_cons→E3,le_antisymm→Fe,of_mem_zip→Fk,foldl_cons→Fl
open PySem.W renaming Frag→Ae,keepIn→Az,kitOne→A9,fnOf→Bm,codeIn→Bt,findIn→BE,kia_one→BH,looks_findIn→D4,callWith_K→EE,specialIn→EN,methodObj→EO,isFn→ER,instObj→E6,lookIn→Fh,mroIn→Fp,looks_mroIn→FC,hideAll_get→Gc,Looks→Gd
open PySem.Heap renaming get?_push_of_some→Ah,lt_size→Au,get?_push_size→AA,get?_update_self→Bi,get?_update_other→BP,size_push→B6,SameBut→Dl,get?_update_ne→DL,FlyingW→E4
open Sum renaming inr→Am,inl→EK
open Nat renaming le_refl→An,le_trans→AM,ne_of_lt→AQ,lt_of_lt_of_le→AR,zero_le→Bs,toDigits→By,lt_succ_of_lt→Bz,lt_irrefl→BN,lt_succ_self→Cp,le_succ→Cs,ne_of_gt→CT,le_of_eq→CU,min_eq_left→C2,min_eq_right→Du,toDigits_append_toDigits→DJ,lt_of_le_of_lt→D0,le_of_lt→Et,sub_zero→E9,add_assoc→FF,pow_succ→FQ,log2_lt→FZ,mod_lt→F9
open Or renaming inl→Aw,inr→FV
open Bool renaming and_eq_true→Ay,true_and→AE,false_ne_true→AG,and_false→AI,false_and→Bg,eq_iff_iff→Bv,and_true→EV,not_eq_true'→E5,not_eq_true→Ff
open PySem.Txt renaming split→AD,slice→A8,partition→BJ,join→DU,slice_le→Es
open PySem.Value renaming ref→AK,type→Bb,str→BZ,none→B0,builtin→Cv,int→Ed,isStrOf_shape→EC,isStrOf→EJ,bool→Fo,float→FM
open PySem.Str renaming length_append→AL,ofString→A4,join→CO,empty→Ek
open Array renaming length_toList→AS,toList_inj→CP
open PySem.PyData renaming keyHash→AU,str→Ba,tuple→Ca,shown→C9,depth→EW,showable→Fd,strOk→FD
open PySem.NameKind renaming free→Be,cell→Do
open PySem.SetTable renaming fresh→Bf,grown→CD,below→C1
open PySem.F renaming plainAttrs_str→Bj,plainAttrs_list→Bn,called_set→BY,type_str_split→C5,slot_str_split→C6,type_str_join→Dd,slot_str_join→De,excBase_ValueError→DI,excAttr_ValueError→DM,type_list_extend→DV,type_list_append→DW,slot_list_extend→DX,slot_list_append→DY,args_tuple_add_2→DZ,entry_tuple_add→D5,slot_tuple_add→Eg,slot_dict_get→El,args_str_split_2→Fb,entry_str_split→Fi,slot_str_split→Fs
open PySem.Obj renaming data_mapFields→Bu,isFreed_of_fields→B8,mapSeq→C7,mapFields→Eh,putSet→F8
open PyProof.Rows renaming slot_tuple_getitem→Bw,callWith_type1→BU,envOfC→Dn,AllBare→D8,SortKind→Ef,Keyed→Ei,IsTup→Fq,Subscript_→FO,Constant_none→F0,StrsAre→F4,IntsAre→Ga
open False renaming elim→Bx
open Int renaming toNat_natCast→BA,emod_lt_of_pos→B7,emod_nonneg→Ci,toNat→CV,le_refl→Ea,mul_nonneg→Fz,ediv_one→FS
open Option renaming some→BD,map_eq_some_iff→Cr
open PySem.PassesOwn renaming never→BF
open PySem.Builtin.Str renaming strSliceIndices→BI,strSub→Dz,glued→Ex
open PySem.Heap.SameBut renaming update→BL
open PySem.Sem renaming wp→BS
open True renaming intro→B1
open PySem.W.KIN renaming signs_num→B2
open PySem.Data renaming set→B3,fields→Fj
open PySem.Builtin.Range renaming rangeSize→B9,small→Ej
open PySem.Builtin.Frozenset renaming updateFrom→Cf
open Char renaming toNat→Cj
open PyProof.Rows.F renaming plain_set_update_loop→Cw
open PySem.Builtin.Slice renaming slicePlaces→Cz,sliceAdjust→DB
open PySem.Builtin.Tuple renaming tupleExact→CI
open PySem.Around renaming under_plainId→CJ,under→EX
open Ne renaming symm→CL
open ForInStep renaming yield→CS
open PySem.Code renaming quiet_builtin→C3,isFrame→FJ
open PySem.Builtin renaming divisionGoesByPylong→Dy
open PySem.Builtin.List renaming listTooLong→DF
open PySem.StrLaws renaming split_free→DH,join_length_le→Ee,join_split→ED
open PySem.Shared renaming TypeIs→D3
open List.Perm renaming refl→Em
open PySem.Calls renaming callWith_builtin→En,evalArgs_plain→Ew,spliced_cons→EU
open List.Pairwise renaming nil→Eu
open PySem.Paired renaming length→Fv
open Eq renaming symm→FA
open PySem.SeqAt renaming EqAt→FY
open PySem.Walks renaming toS→F3
theorem Ia{c:Prop}{h:Decidable c}(n:¬c){α:Sort u}{t e:α}:ite c t e=e:=if_neg n
theorem Ib{c:Prop}{h:Decidable c}(n:c){α:Sort u}{t e:α}:ite c t e=t:=if_pos n
theorem Ic{p:Prop}[s:Decidable p](h:p):decide p=true:=decide_eq_true h
theorem Ie{p:Prop}[s:Decidable p](h:decide p=true):p:=of_decide_eq_true h
theorem Ig{α:Sort u}{β:Sort v}{γ:Sort w}{f:α→β→γ}:∀a b,f a b=f a b:=fun _ _=>rfl
abbrev Ih:=List (PySem.Addr×PySem.Obj)
namespace L2
open PySem PySem.Spec PyProof.Rows
inductive Ex3{α β γ:Type}(p:α→β→γ→Prop):Prop
 | mk (a:α) (b:β) (c:γ) (h:p a b c):Ex3 p
inductive Aw3(a b c:Prop):Prop
 | mk (h:a) (i:b) (j:c):Aw3 a b c
inductive Aw6(a b c d e f:Prop):Prop
 | mk (h:a) (i:b) (j:c) (k:d) (l:e) (m:f):Aw6 a b c d e f
theorem eY{α:Type}{G:List α}(h:G.length=1):∃ a0,G=[a0]:=by
 cases G with
 | nil=>simp at h
 | cons a0 J=>
  cases J with
  | nil=>exact⟨a0,rfl⟩
  | cons _ _=>simp at h
theorem aAB{α:Type}{G:List α}(h:G.length=2):∃ a0 a1,G=[a0,a1]:=by
 cases G with
 | nil=>simp at h
 | cons a0 O=>
  cases O with
  | nil=>simp at h
  | cons a1 J=>
   cases J with
   | nil=>exact⟨a0,a1,rfl⟩
   | cons _ _=>simp at h
theorem aAC{α:Type}{G:List α}(h:G.length=3):∃ a0 a1 a2,G=[a0,a1,a2]:=by
 cases G with
 | nil=>simp at h
 | cons a0 U=>
  cases U with
  | nil=>simp at h
  | cons a1 O=>
   cases O with
   | nil=>simp at h
   | cons a2 J=>
    cases J with
    | nil=>exact⟨a0,a1,a2,rfl⟩
    | cons _ _=>simp at h
theorem aKm{α:Type}{G:List α}(h:G.length=4):∃ a0 a1 a2 a3,G=[a0,a1,a2,a3]:=by
 cases G with
 | nil=>simp at h
 | cons a0 W=>
  cases W with
  | nil=>simp at h
  | cons a1 U=>
   cases U with
   | nil=>simp at h
   | cons a2 O=>
    cases O with
    | nil=>simp at h
    | cons a3 J=>
     cases J with
     | nil=>exact⟨a0,a1,a2,a3,rfl⟩
     | cons _ _=>simp at h
theorem aJD{α:Type}{G:List α}(h:G.length=5):∃ a0 a1 a2 a3 a4,G=[a0,a1,a2,a3,a4]:=by
 cases G with
 | nil=>simp at h
 | cons a0 Y=>
  cases Y with
  | nil=>simp at h
  | cons a1 W=>
   cases W with
   | nil=>simp at h
   | cons a2 O=>
    cases O with
    | nil=>simp at h
    | cons a3 J=>
     cases J with
     | nil=>simp at h
     | cons a4 U=>
      cases U with
      | nil=>exact⟨a0,a1,a2,a3,a4,rfl⟩
      | cons _ _=>simp at h
abbrev Key:=Sum Int Str
def rA:Key→Ab→Bool
 | .inl k,v=>Value.isInt k v
 | .inr x,v=>EJ x v
def aHy(w:AH):Key→Int
 | .inl k=>hashInt k
 | .inr x=>hashStr w x
theorem dS:∀{k:Key}{v:Ab},rA k v=true→(∃ i t,k=EK i∧v=Ed i t)∨(∃ x t,k=Am x∧v=BZ x t)
 | .inl i,v,h=>by
  obtain⟨t,e⟩:=Value.isInt_shape (k:=i) (v:=v) h;exact .inl ⟨i,t,rfl,e⟩
 | .inr x,v,h=>by
  obtain⟨t,e⟩:=EC (x:=x) (v:=v) h;exact .inr ⟨x,t,rfl,e⟩
theorem aCI(i:Int)(t:Tok):rA (.inl i) (.int i t)=true:=by simp[rA,Value.isInt]
theorem aCJ(x:Str)(t:Tok):rA (.inr x) (.str x t)=true:=by simp[rA,EJ]
theorem aHz(a b:Int):decide ((EK a:Key)=EK b)=(a == b):=by
 by_cases e:a=b
 ·subst e;simp
 ·have h:¬ (EK a:Key)=EK b:=fun q=>e (EK.inj q);rw[decide_eq_false h];exact(beq_eq_false_iff_ne.mpr e).symm
theorem aHA(a b:Str):decide ((Am a:Key)=Am b)=decide (a=b):=by
 by_cases e:a=b
 ·subst e;simp
 ·have h:¬ (Am a:Key)=Am b:=fun q=>e (Am.inj q);rw[decide_eq_false h,decide_eq_false e]
theorem aHB(a:Int)(b:Str):decide ((EK a:Key)=Am b)=false:=decide_eq_false (fun q=>nomatch q)
theorem aHC(a:Str)(b:Int):decide ((Am a:Key)=EK b)=false:=decide_eq_false (fun q=>nomatch q)
def cY(prog:Al)(w:AH):PySem.KeyKind prog w Key where
 is:=rA
 hash:=aHy w
 inj:=fun v a b ha hb=>by
  rcases dS ha with⟨i,t,rfl,rfl⟩ | ⟨x,t,rfl,rfl⟩
  ·rcases dS hb with⟨j,u,rfl,e⟩ | ⟨y,u,rfl,e⟩
   ·injection e with e1 _;rw[e1]
   ·exact nomatch e
  ·rcases dS hb with⟨j,u,rfl,e⟩ | ⟨y,u,rfl,e⟩
   ·exact nomatch e
   ·injection e with e1 _;rw[e1]
 byValue:=fun k v h=>by
  rcases dS h with⟨i,t,rfl,rfl⟩ | ⟨x,t,rfl,rfl⟩ <;> rfl
 pyHash:=fun hv h=>by
  rcases dS hv with⟨i,t,rfl,rfl⟩ | ⟨x,t,rfl,rfl⟩
  ·exact wpAny_pyHash_int h
  ·exact wpAny_pyHash_str h
 eqBool:=fun hu hv h=>by
  rcases dS hu with⟨i,t,rfl,rfl⟩ | ⟨x,t,rfl,rfl⟩
  ·rcases dS hv with⟨j,u,rfl,rfl⟩ | ⟨y,u,rfl,rfl⟩
   ·rw[aHz]at h;exact wpAny_eqBool_int h
   ·rw[aHB]at h;exact SeqAt.EqAt.int_str i t y u _ _ _ _ h
  ·rcases dS hv with⟨j,u,rfl,rfl⟩ | ⟨y,u,rfl,rfl⟩
   ·rw[aHC]at h;exact SeqAt.EqAt.str_int x t j u _ _ _ _ h
   ·rw[aHA]at h;exact wpAny_eqBool_str h
 «strs»:=fun k x t v h=>by
  rcases dS h with⟨i,u,rfl,e⟩ | ⟨y,u,rfl,e⟩
  ·exact nomatch e
  ·injection e with e1 _;subst e1;cases v <;> rfl
theorem x8(prog:Al)(w:AH)(i:Int)(t:Tok):(cY prog w).is (.inl i) (.int i t)=true:=aCI i t
theorem x9(prog:Al)(w:AH)(x:Str)(t:Tok):(cY prog w).is (.inr x) (.str x t)=true:=aCJ x t
inductive V where
 | non | bl (b:Bool) | int (i:Int) | str (x:Str) | byt (b:Array UInt8) | flt (b:UInt64) | ref (a:Af) | ty (n:String)
 deriving DecidableEq
def cR:V→Ab→Prop
 | .non,u=>u=B0
 | .bl b,u=>u=Fo b
 | .int i,u=>∃ t,u=Ed i t
 | .str x,u=>∃ t,u=BZ x t
 | .byt b,u=>∃ t,u=Value.bytes b t
 | .flt b,u=>∃ t,u=FM b t
 | .ref a,u=>u=AK a
 | .ty n,u=>u=Bb n
abbrev cF:List V→List Ab→Prop:=Fy cR
theorem cF.length{xs:List V}{G:List Ab}(r:cF xs G):xs.length=G.length:=Fv r
theorem cF.get:∀{xs:List V}{G:List Ab}{i:Nat}{x:V},cF xs G→xs[i]?=some x→∃ u,G[i]?=some u∧cR x u
 | _,_,_,_,.nil,e=>by simp at e
 | _,_,0,_,.cons r _,e=>by simp at e;subst e;exact⟨_,rfl,r⟩
 | _,_,i + 1,x,.cons _ t,e=>by
  obtain⟨u,h1,h2⟩:=cF.get (i:=i) (x:=x) t (by simpa using e);exact⟨u,by simpa using h1,h2⟩
theorem cF.set{x:V}{u:Ab}(r:cR x u):∀{xs:List V}{G:List Ab} (i:Nat),cF xs G→cF (xs.set i x) (G.set i u)
 | _,_,_,.nil=>.nil
 | _,_,0,.cons _ t=>.cons r t
 | _,_,i + 1,.cons q t=>.cons q (cF.set r i t)
theorem cF.append:∀{xs ys:List V}{G ws:List Ab},cF xs G→cF ys ws→cF (xs ++ ys) (G ++ ws)
 | _,_,_,_,.nil,s=>s
 | _,_,_,_,.cons r t,s=>.cons r (cF.append t s)
theorem cF.take:∀{xs:List V}{G:List Ab} (n:Nat),cF xs G→cF (xs.take n) (G.take n)
 | _,_,0,_=>.nil
 | _,_,_ + 1,.nil=>.nil
 | _,_,n + 1,.cons r t=>.cons r (cF.take n t)
theorem cF.drop:∀{xs:List V}{G:List Ab} (n:Nat),cF xs G→cF (xs.drop n) (G.drop n)
 | _,_,0,r=>r
 | _,_,_ + 1,.nil=>.nil
 | _,_,n + 1,.cons _ t=>cF.drop n t
def lX:Option V→Option Ab→Prop
 | some v,some u=>cR v u
 | none,none=>True
 | _,_=>False
def KV{κ:Type}:List (κ×V)→List (κ×Ab)→Prop:=Fy fun(p:κ×V) (q:κ×Ab)=>p.1=q.1∧cR p.2 q.2
def kV:Key→V
 | .inl i=>.int i
 | .inr x=>.str x
inductive HO where
  | lst (xs:List V)
  | tup (xs:List V)
  | dK (fg:List (Key×V)) | dT (fg:List (List Key×V))
  | set (S:Int→Bool) (n:Nat)
  | ins (C dx:Af) (fs:List (Str×V))
  | own (x:Af)
  | xd (fs:List (Str×V))
  | met (f x:Af)
  | rng (lo hi:Int)
  | frz (o:Obj) (u:HO)
  | tbl (ps:Array Ab)
  | ext (φ:A1→Prop)
abbrev Hp:=Af→Option HO
def upd(H:Hp)(a:Af)(o:HO):Hp:=fun b=>if b=a then some o else H b
theorem aD{H:Hp}{a:Af}{o:HO}:upd H a o a=some o:=by unfold upd;rw[Ib rfl]
theorem bD{H:Hp}{a b:Af}{o:HO}(h:b≠a):upd H a o b=H b:=by unfold upd;rw[Ia h]
theorem aBv{H:Hp}{a:Af}{o u:HO}:upd (upd H a o) a u=upd H a u:=by
 funext b;unfold upd;split <;> rfl
theorem aDD{H:Hp}{a b:Af}{o u:HO}(h:H a=some o)(h':H b=some u)(d:o≠u):a≠b:=by
 intro e;subst e;rw[h]at h';exact d (BD.inj h')
theorem bX{H:Hp}{a b:Af}{o:HO}(h:H a=some o)(h':H b=none):a≠b:=by
 intro e;subst e;rw[h]at h';cases h'
section
variable(P:Al)(w:AH)
def kB(h:A1)(a:Af)(items:Array Ab):Prop:=∃ o,h.get? a=some o∧(o.cls=.type "tuple"∧∃ n,o.data=.seq items n)∧o.dict=none
theorem kB.tup{h:A1}{a:Af}{G:Array Ab}(x:kB h a G):Fq h a G:=by
 obtain⟨o,e,c,_⟩:=x;exact⟨o,e,c⟩
instance kB.coe{h:A1}{a:Af}{items:Array Ab}:Coe (kB h a items) (Fq h a items):=⟨kB.tup⟩
theorem kB.lt{h:A1}{a:Af}{G:Array Ab}(x:kB h a G):a < h.objs.size:=x.tup.lt
def cX(H:Hp)(h:A1)(a:Af):HO→Prop
 | .lst xs=>xs.length≤sizeLine∧∃(its:List Ab) (n:Nat),cF xs its∧h.get? a=some { cls:=.type "list",data:=.seq its.toArray n }
 | .tup xs=>xs.length≤sizeLine∧∃ its:List Ab,cF xs its∧kB h a its.toArray
 | .dK fg=>fg.length≤sizeLine∧(a == sysModules)=false∧∃ vs,KV fg vs∧h.DictOf (cY P w) a vs
 | .dT fg=>fg.length≤sizeLine∧(a == sysModules)=false∧∃ xs:List (List Key×Af×Ab),
   Fy (fun(p:List Key×V) (q:List Key×Af×Ab)=>p.1=q.1∧H q.2.1=some (.tup (p.1.map kV))∧cR p.2 q.2.2) fg xs∧
   ∃ o es ep,h.get? a=some o∧o.ExactDict∧o.data=.dict es ep∧es.toList=xs.map (entryOfKey (tupleKind (cY P w)))∧(xs.map (·.1)).Nodup
 | .set S n=>h.SetOf (intKind P w) a S n
 | .ins C dx fs=>H dx=some (.own a)∧fs.length≤1000∧dx≠a∧h.get? a=some (E6 C dx)∧
   ∃ mA,h.Ns1 dx mA∧(∀ f,lX (fs.lookup f) (mA f))∧PySem.Within mA (fs.map (·.1))
 | .own _=>∃ o,h.get? a=some o
 | .xd fs=>∃ mA,h.Ns1 a mA∧∀ f,lX (fs.lookup f) (mA f)
 | .rng lo hi=>∃ t u v,h.get? a=some { cls:=.type "range",data:=.fields #[.int lo t,.int hi u,.int 1 v] }
 | .frz o u=>h.get? a=some o∧cX H h a u
 | .tbl ps=>h.get? a=some { cls:=.none,data:=.fields ps }
 | .met f x=>h.get? a=some (EO (.ref f) (.ref x))
 | .ext φ=>φ h∧(∃ o,h.get? a=some o)∧∀ h1 h2:A1,φ h1→(∀ o,h1.get? a=some o→h2.get? a=some o)→φ h2
def HOk(H:Hp)(h:A1):Prop:=∀ a o,H a=some o→cX P w H h a o
end
section
variable{P:Al}{w:AH}{H H':Hp}{h h':A1}{a:Af}{o:HO}
theorem cX.lt(x:cX P w H h a o):a < h.objs.size:=by
 cases o with
 | lst xs=>obtain⟨_,_,_,_,e⟩:=x;exact Au e
 | tup xs=>obtain⟨_,_,_,p⟩:=x;exact p.lt
 | dK fg=>obtain⟨_,_,_,_,o,_,_,e,_⟩:=x;exact Au e
 | dT fg=>obtain⟨_,_,_,_,o,_,_,e,_⟩:=x;exact Au e
 | set S n=>obtain⟨o,_,_,_,e,_⟩:=x;exact Au e
 | ins C dx fs=>obtain⟨_,_,_,e,_⟩:=x;exact Au e
 | own y=>obtain⟨_,e⟩:=x;exact Au e
 | xd fs=>obtain⟨_,⟨_,_,_,e,_⟩,_⟩:=x;exact Au e
 | rng lo hi=>obtain⟨_,_,_,e⟩:=x;exact Au e
 | frz ob u=>obtain⟨e,_⟩:=x;exact Au e
 | tbl ps=>exact Au (show h.get? a=some _ from x)
 | met f y=>exact Au (show h.get? a=some _ from x)
 | ext φ=>obtain⟨_,⟨_,e⟩,_⟩:=x;exact Au e
theorem Paired.mapP{α β:Type}{F G:α→β→Prop}:∀{J:List α}{O:List β},Fy F J O→(∀ a b,F a b→G a b)→Fy G J O
 | _,_,.nil,_=>.nil
 | _,_,.cons r t,f=>.cons (f _ _ r) (Paired.mapP t f)
theorem cX.stay(x:cX P w H h a o)(k:∀ b u,(b=a∨H b=some (.own a))→h.get? b=some u→h'.get? b=some u)
  (J:∀ b,H b=some (.own a)→H' b=some (.own a)) (ht:∀ b xs,H b=some (.tup xs)→H' b=some (.tup xs)):cX P w H' h' a o:=by
 induction o with
 | lst xs=>obtain⟨z,its,n,r,e⟩:=x;exact⟨z,its,n,r,k _ _ (.inl rfl) e⟩
 | tup xs=>obtain⟨z,its,r,ob,e,c⟩:=x;exact⟨z,its,r,ob,k _ _ (.inl rfl) e,c⟩
 | dK fg=>obtain⟨z,y,vs,r,ob,es,ep,e,c⟩:=x;exact⟨z,y,vs,r,ob,es,ep,k _ _ (.inl rfl) e,c⟩
 | dT fg=>
  obtain⟨z,y,xs,r,ob,es,ep,e,c⟩:=x;exact⟨z,y,xs,Paired.mapP r fun p q z=>⟨z.1,ht _ _ z.2.1,z.2.2⟩,ob,es,ep,k _ _ (.inl rfl) e,c⟩
 | set S n=>obtain⟨ob,es,ep,t,e,c⟩:=x;exact⟨ob,es,ep,t,k _ _ (.inl rfl) e,c⟩
 | ins C dx fs=>
  obtain⟨d,z,ne,e,mA,⟨od,es,ep,e2,c⟩,r⟩:=x;exact⟨J _ d,z,ne,k _ _ (.inl rfl) e,mA,⟨od,es,ep,k _ _ (.inr d) e2,c⟩,r⟩
 | own y=>obtain⟨ob,e⟩:=x;exact⟨ob,k _ _ (.inl rfl) e⟩
 | xd fs=>obtain⟨mA,⟨od,es,ep,e,c⟩,r⟩:=x;exact⟨mA,⟨od,es,ep,k _ _ (.inl rfl) e,c⟩,r⟩
 | rng lo hi=>obtain⟨t,u,v,e⟩:=x;exact⟨t,u,v,k _ _ (.inl rfl) e⟩
 | frz ob u G=>obtain⟨e,q⟩:=x;exact⟨k _ _ (.inl rfl) e,G q⟩
 | tbl ps=>
  have e:h.get? a=some { cls:=.none,data:=.fields ps }:=x;show h'.get? a=some { cls:=.none,data:=.fields ps };exact k a _ (.inl rfl) e
 | met f y=>
  have e:h.get? a=some (EO (.ref f) (.ref y)):=x;show h'.get? a=some (EO (.ref f) (.ref y));exact k a _ (.inl rfl) e
 | ext φ=>obtain⟨p,⟨o,e⟩,st⟩:=x;exact⟨st _ _ p fun o q=>k _ _ (.inl rfl) q,⟨o,k _ _ (.inl rfl) e⟩,st⟩
theorem HOk.lt(x:HOk P w H h)(e:H a=some o):a < h.objs.size:=(x a o e).lt
theorem HOk.fresh(x:HOk P w H h)(e:h.objs.size≤a):H a=none:=by
 cases q:H a with
 | none=>rfl
 | some u=>exact absurd (AR (x.lt q) e) (BN _)
theorem HOk.kept(x:HOk P w H h)(k:∀ b u,h.get? b=some u→h'.get? b=some u):HOk P w H h':=fun a o e=>
 (x a o e).stay (fun b u _ q=>k b u q) (fun _ q=>q) fun _ _ q=>q
theorem HOk.laid(x:HOk P w H h)(k:∀ b u,h.get? b=some u→h'.get? b=some u)(J:h.objs.size≤a)(new:cX P w (upd H a o) h' a o):HOk P w (upd H a o) h':=fun b u e=>by
 have hn:=x.fresh J;by_cases G:b=a
 ·subst G;rw[aD]at e;cases e;exact new
 ·rw[bD G]at e;exact(x b u e).stay (fun c v _ q=>k c v q) (fun c q=>by rw[bD (bX q hn)];exact q) fun c xs q=>by rw[bD (bX q hn)];exact q
end
def Rd(H:Hp)(a:Af)(u:HO):Prop:=H a=some u∨∃ o,H a=some (.frz o u)
theorem Rd.ok{P:Al}{w:AH}{H:Hp}{h:A1}{a:Af}{u:HO}(r:Rd H a u)(x:HOk P w H h):cX P w H h a u:=by
 rcases r with r | ⟨o,r⟩
 ·exact x a u r
 ·obtain⟨_,q⟩:=x a _ r;exact q
def Mut:Option HO→Prop
 | some (.lst _)=>True
 | some (.dK _)=>True
 | some (.dT _)=>True
 | some (.set _ _)=>True
 | some (.ins _ _ _)=>True
 | some (.ext _)=>True
 | _=>False
section
variable{P:Al}{w:AH}{H:Hp}{h h':A1}{x e:Af}{o':HO}
theorem HOk.write(ok:HOk P w H h)(W:Mut (H x))(Z:e=x∨H e=some (.own x))(k:∀ b u,b≠e→h.get? b=some u→h'.get? b=some u)(Y:∃ u,h'.get? e=some u)
  (new:cX P w (upd H x o') h' x o'):HOk P w (upd H x o') h':=fun b u q=>by
 have J:∀ c y,H c=some (.own y)→c≠x:=fun c y r z=>by subst z;rw[r]at W;exact W
 have O:∀ c xs,H c=some (.tup xs)→c≠x:=fun c xs r z=>by subst z;rw[r]at W;exact W
 by_cases U:b=x
 ·subst U;rw[aD]at q;cases q;exact new
 ·rw[bD U]at q;by_cases G:b=e
  ·have q':H b=some (.own x):=by
    rcases Z with z | z
    ·exact absurd (G.trans z) U
    ·rw[G];exact z
   rw[q]at q';cases q';obtain⟨v,hv⟩:=Y;exact⟨v,by rw[G];exact hv⟩
  ·refine(ok b u q).stay (fun c v hc r=>k c v ?_ r) (fun c r=>by rw[bD (J c b r)];exact r) fun c xs r=>by rw[bD (O c xs r)];exact r
   rcases hc with rfl | hc
   ·exact G
   ·rintro rfl;rcases Z with z | z
    ·exact J c b hc z
    ·rw[hc]at z;cases z;exact U rfl
end
structure Un(fs ex:List Af)(H H':Hp)(h h':A1):Prop where
 keep:∀ b o,h.get? b=some o→H b=none→b ∉ fs→b ∉ ex→h'.get? b=some o
 slot:∀ b o,h.get? b=some o→H b=none→b∈fs→b ∉ ex→∃ sl,h'.get? b=some { o with slots:=sl }
 free:∀ b o,h.get? b=some o→H b=none→b ∉ ex→H' b=none
 there:∀ b o,h.get? b=some o→b ∉ ex→∃ o',h'.get? b=some o'
 tups:∀ b xs,H b=some (.tup xs)→H' b=some (.tup xs)
 frzs:∀ b o u,H b=some (.frz o u)→H' b=some (.frz o u)
 tbls:∀ b ps,H b=some (.tbl ps)→∃ more,H' b=some (.tbl (ps ++ more))
section
variable{fs fs' ex ex':List Af}{H H1 H2:Hp}{h h1 h2 h':A1}{a x e:Af}{o:HO}
theorem Un.any(u:Un fs ex H H1 h h1){b:Af}{ob:Obj}(q:h.get? b=some ob)(n:H b=none)(G:b ∉ ex):∃ O,h1.get? b=some { ob with slots:=O }:=by
 by_cases J:b∈fs
 ·exact u.slot b ob q n J G
 ·exact⟨ob.slots,u.keep b ob q n J G⟩
theorem Un.kept(k:∀ b u,h.get? b=some u→h'.get? b=some u):Un fs ex H H h h':=
 ⟨fun b ob q _ _ _=>k b ob q,fun b ob q _ _ _=>⟨ob.slots,k b ob q⟩,fun _ _ _ n _=>n,fun b ob q _=>⟨ob,k b ob q⟩,fun _ _ q=>q,fun _ _ _ q=>q,fun _ ps q=>⟨#[],by rw[q];simp⟩⟩
theorem Un.refl:Un fs ex H H h h:=Un.kept fun _ _ q=>q
theorem Un.laid(k:∀ b u,h.get? b=some u→h'.get? b=some u)(G:h.objs.size≤a)(hn:H a=none):Un fs ex H (upd H a o) h h' where
 keep:=fun b u q _ _ _=>k b u q
 slot:=fun b u q _ _ _=>⟨u.slots,k b u q⟩
 free:=fun b u q n _=>by rw[bD (AQ (AR (Au q) G))];exact n
 there:=fun b u q _=>⟨u,k b u q⟩
 tups:=fun b xs q=>by rw[bD (bX q hn)];exact q
 frzs:=fun b u xs q=>by rw[bD (bX q hn)];exact q
 tbls:=fun b ps q=>⟨#[],by rw[bD (bX q hn),q];simp⟩
theorem Un.write(J:Mut (H x))(Y:e=x∨H e=some (.own x))(k:∀ b u,b≠e→h.get? b=some u→h'.get? b=some u)(O:∃ u,h'.get? e=some u):Un fs ex H (upd H x o) h h':=by
 have U:∀ b,H b=none→b≠x:=fun b n z=>by subst z;rw[n]at J;exact J
 have W:∀ b,H b=none→b≠e:=fun b n z=>by
  subst z;rcases Y with r | r
  ·exact U b n r
  ·rw[n]at r;cases r
 have hm:∀ b u,H b=some u→¬ Mut (some u)→b≠x:=fun b u q nm z=>by subst z;rw[q]at J;exact nm J
 refine⟨fun b u q n _ _=>k b u (W b n) q,fun b u q n _ _=>⟨u.slots,k b u (W b n) q⟩,fun b u q n _=>by rw[bD (U b n)];exact n,fun b u q _=>?_,
  fun b xs q=>by rw[bD (hm b _ q fun z=>z)];exact q,fun b u xs q=>by rw[bD (hm b _ q fun z=>z)];exact q,fun b ps q=>⟨#[],by rw[bD (hm b _ q fun z=>z),q];simp⟩⟩
 by_cases G:b=e
 ·subst G;exact O
 ·exact⟨u,k b u G q⟩
end
def trk(h:A1)(H:Hp):List Af:=(AJ h.objs.size).filter fun a=>(H a).isSome
def v6(h:A1)(H:Hp):A1:=PySem.W.hideAll h (trk h H)
theorem aCK(h:A1)(H:Hp):(v6 h H).objs.size=h.objs.size:=PySem.W.hideAll_size _ _
theorem aDE{h:A1}{H:Hp}{b:Af}{o:Obj}(e:h.get? b=some o)(n:H b=none):(v6 h H).get? b=some o:=
 PySem.W.hideAll_get _ e fun hm=>by
  have q:(H b).isSome=true:=(List.mem_filter.mp hm).2;rw[n]at q;simp at q
theorem aFS{h:A1}{H:Hp}{b:Af}{o:Obj}(e:(v6 h H).get? b=some o):h.get? b=some o∧H b=none:=by
 have G:h.get? b=some o:=PySem.W.of_hideAll (trk h H) e;refine⟨G,?_⟩;cases q:H b with
 | none=>rfl
 | some x=>
  have hm:b∈trk h H:=List.mem_filter.mpr ⟨CM.mpr (Au G),by simp[q]⟩;have z:(v6 h H).get? b=none:=PySem.W.hideAll_none (trk h H) hm;rw[z]at e;cases e
def aFT(g h:A1)(L:Af):List (Af×Obj):=(AJ h.objs.size).filterMap fun a=>if a=L∨(g.get? a).isSome=true then none else(h.get? a).map fun o=>(a,o)
def bF(g h:A1)(L d:Af):List (Af×Obj):=(aFT g h L).filter fun p=>decide (p.1≠d)
structure Mod(K:Ae)(mg:Str→Option Ab)(base:A1):Prop where
 kin:K.In base
 glob:base.Ns mainGlobals mg
 blt:∃ mb,base.Ns builtinsNs mb∧∀ x:Str,x≠"__name__"→mb x=bootBuiltins x
 nolimit:base.NoLimit
structure Cx where
 prog:Al
 w:AH
 K:Ae
 mg:Str→Option Ab
 base:A1
 A:AB
 N:List Str
 s₀:Ad
 H₀:Hp
 env:Env
 outer:List Env
 stack:List Env
 ex:List Af
 fn:Str→Bool
 calm:Bool
 pn:List (Af×Obj)
 xe:Ab→Ad→Prop
def frs(l:List Env):List Af:=l.filterMap (·.frame)
abbrev Cx.fs(X:Cx):List Af:=frs X.outer
def Vis(sc:Cq)(x:Str):Prop:=sc.names.lookup x=some .local∨sc.names.lookup x=some .cell∨sc.names.lookup x=some .free
def Loc(sc:Cq)(x:Str):Prop:=sc.names.lookup x=some .local∨sc.names.lookup x=some .cell
def aJE(env:Env)(h:A1)(m:Str→Option Ab)(x:Str)(u:Ab):Prop:=
 (env.kindOf x=some .local∧m x=some u)∨((env.kindOf x=some .cell∨env.kindOf x=some .free)∧∃ c,env.cells.lookup x=some c∧h.IsCell c (some u))
structure Cx.Ok(X:Cx):Prop where
 mod:Mod X.K X.mg X.base
 kind:X.env.scope.kind=.function
 glob:X.env.globals=mainGlobals
 blt:X.env.builtins=builtinsNs
 above:X.s₀.heap.objs.size≤X.env.locals
 inj:∀ x y c,X.env.cells.lookup x=some c→X.env.cells.lookup y=some c→x=y
 has:∀ x,(X.env.kindOf x=some .cell∨X.env.kindOf x=some .free)→∃ c,X.env.cells.lookup x=some c
 cab:∀ x c,X.fn x=true→X.env.cells.lookup x=some c→X.s₀.heap.objs.size≤c
 hd:X.calm=true→X.A.handled=none
 frames:X.A.frames=some X.stack
 stk:X.stack=X.outer∨(X.stack=X.env :: X.outer∧X.env.frame=some X.env.locals)
 exf:∀ b∈X.ex,b≠X.env.locals∧∀ x c,X.env.cells.lookup x=some c→c≠b
 bs:∀ b o,X.base.get? b=some o→X.s₀.heap.get? b=some o∧X.H₀ b=none
 bsz:X.base.objs.size≤X.s₀.heap.objs.size
 noex:∀ b o,X.base.get? b=some o→b ∉ X.ex
 exfs:∀ b∈X.ex,b ∉ X.fs
 funs:X.s₀.heap.FunFrames X.base X.outer
 frf:∀ b∈X.fs,X.H₀ b=none
structure Inv(X:Cx)(fe:List (Af×Obj))(σ:List (Option V))(H:Hp)(s:Ad):Prop where
 ok:X.Ok
 os:s.os=X.s₀.os
 bare:D8 s.gens
 base:Un X.fs X.ex X.H₀ H X.s₀.heap s.heap
 loc:∃ m,s.heap.Ns X.env.locals m∧∀(i:Nat) (x:Str) (v:V),X.N[i]?=some x→σ[i]?=some (some v)→Vis X.env.scope x→∃ u,cR v u∧aJE X.env s.heap m x u
 cell:∀ x c,X.env.cells.lookup x=some c→∃ v,s.heap.IsCell c v
 free:H X.env.locals=none
 freeC:∀ x c,X.env.cells.lookup x=some c→H c=none
 pin:∀ p∈X.pn ++ fe,s.heap.get? p.1=some p.2∧H p.1=none∧p.1≠X.env.locals∧p.1 ∉ X.fs∧∀ v,p.2.data≠.cell v
 hok:HOk X.prog X.w H s.heap
 len:σ.length=X.N.length
section
variable{X:Cx}{fe:List (Af×Obj)}{σ:List (Option V)}{H H':Hp}{s:Ad}{h':A1}
theorem Cx.Ok.nofr(ok:X.Ok){b:Af}{o:Obj}(e:X.base.get? b=some o):b ∉ X.fs:=fun G=>by
 have:=(ok.funs.mem G).1;rw[e]at this;cases this
theorem Inv.bs(I:Inv X fe σ H s):∀ b o,X.base.get? b=some o→s.heap.get? b=some o∧H b=none:=fun b o e=>
 ⟨I.base.keep b o (I.ok.bs b o e).1 (I.ok.bs b o e).2 (I.ok.nofr e) (I.ok.noex b o e),I.base.free b o (I.ok.bs b o e).1 (I.ok.bs b o e).2 (I.ok.noex b o e)⟩
theorem Inv.bk(I:Inv X fe σ H s):∀ b o,X.base.get? b=some o→s.heap.get? b=some o:=fun b o e=>(I.bs b o e).1
theorem Inv.mod(I:Inv X fe σ H s):Mod X.K X.mg X.base:=I.ok.mod
theorem Inv.kIn(I:Inv X fe σ H s):X.K.In s.heap:=I.ok.mod.kin.keeps I.bk
theorem Inv.lt(I:Inv X fe σ H s):X.env.locals < s.heap.objs.size:=let ⟨_,hn,_⟩:=I.loc;hn.lt
theorem Inv.sz(I:Inv X fe σ H s):X.s₀.heap.objs.size≤s.heap.objs.size:=AM I.ok.above (Et I.lt)
theorem Inv.nofs(I:Inv X fe σ H s){a:Af}(h:s.heap.objs.size≤a):a ∉ X.fs:=fun G=>by
 obtain⟨_,o,ho,_⟩:=I.ok.funs.mem G;exact absurd (AR (Au ho) (AM I.sz h)) (BN _)
theorem Inv.cne(I:Inv X fe σ H s):∀ x c,X.env.cells.lookup x=some c→c≠X.env.locals:=fun x c e z=>by
 obtain⟨v,o,ho,hd⟩:=I.cell x c e;obtain⟨m,⟨o',es,ep,ho',hd',_⟩,_⟩:=I.loc;rw[z,ho']at ho;cases ho;rw[hd']at hd;cases hd
theorem Inv.funs(I:Inv X fe σ H s):s.heap.FunFrames X.base X.outer:=by
 have all:∀(l:List Env),(∀ b∈frs l,b∈X.fs)→X.s₀.heap.FunFrames X.base l→s.heap.FunFrames X.base l:=by
  intro l
  induction l with
  | nil=>intro _ _;trivial
  | cons env r W=>
   intro O U;obtain⟨hk,⟨L,o,hf,hn,ho,hd⟩,hr⟩:=U;have J:L∈X.fs:=O L (by unfold frs;rw[CW,hf];exact AV);obtain⟨sl,e⟩:=I.base.slot L o ho (I.ok.frf L J) J fun z=>I.ok.exfs L z J;exact⟨hk,⟨L,_,hf,hn,e,hd⟩,W (fun b G=>O b (by unfold frs;rw[CW,hf];exact AY _ G)) hr⟩
 exact all X.outer (fun _ G=>G) I.ok.funs
theorem Inv.stack(I:Inv X fe σ H s):s.heap.FunFrames X.base X.stack:=by
 rcases I.ok.stk with e | ⟨e,G⟩
 ·rw[e];exact I.funs
 ·rw[e];obtain⟨m,hn,_⟩:=I.loc;refine .cons (by rw[I.ok.kind];decide) G hn ?_ I.funs;exact Heap.get?_none_of_le (AM I.ok.bsz I.ok.above)
theorem Inv.stkSub(I:Inv X fe σ H s):∀ b∈frs X.stack,b∈X.env.locals :: X.fs:=fun b G=>by
 rcases I.ok.stk with e | ⟨e,J⟩
 ·rw[e]at G;exact AY _ G
 ·rw[e]at G;unfold frs at G;rw[CW,J]at G;exact G
theorem Inv.stkFree(I:Inv X fe σ H s):∀ b∈frs X.stack,H b=none:=fun b G=>by
 rcases Ap.mp (I.stkSub b G)with e | G
 ·rw[e];exact I.free
 ·obtain⟨_,o,ho,_⟩:=I.ok.funs.mem G;exact I.base.free b o ho (I.ok.frf b G) fun z=>I.ok.exfs b z G
theorem Inv.step{g':Array EZ}{t':Nat}{d':F1}{ch:List Af}(I:Inv X fe σ H s)
  (O:∀ b∈ch,(b∈X.ex∨X.s₀.heap.objs.size≤b)∧b≠X.env.locals∧(∀ x c,X.env.cells.lookup x=some c→c≠b)∧∀ p∈X.pn ++ fe,p.1≠b)
  (keep:∀ b o,b≠X.env.locals→b ∉ X.fs→b ∉ ch→s.heap.get? b=some o→H b=none→h'.get? b=some o)
  (slot:∀ b o,b≠X.env.locals→b∈X.fs→b ∉ ch→s.heap.get? b=some o→H b=none→∃ sl,h'.get? b=some { o with slots:=sl }) (free:∀ b o,b ∉ ch→s.heap.get? b=some o→H b=none→H' b=none)
  (there:∀ b o,b ∉ ch→s.heap.get? b=some o→∃ o',h'.get? b=some o')
  (tups:∀ b xs,H b=some (.tup xs)→H' b=some (.tup xs)) (frzs:∀ b o u,H b=some (.frz o u)→H' b=some (.frz o u)) (tbls:∀ b ps,H b=some (.tbl ps)→∃ ae,H' b=some (.tbl (ps ++ ae)))
  (ns:∀ m,s.heap.Ns X.env.locals m→h'.Ns X.env.locals m) (hok:HOk X.prog X.w H' h') (hg:D8 g'):
  Inv X fe σ H' { s with heap:=h',gens:=g',drawn:=d',toks:=t' }:=by
 have ad:∀ b o,X.s₀.heap.get? b=some o→b≠X.env.locals:=fun b o e=>AQ (AR (Au e) I.ok.above);have W:∀ b o,X.s₀.heap.get? b=some o→b ∉ X.ex→b ∉ ch:=fun b o e G Z=>by
  rcases(O b Z).1 with z | z
  ·exact G z
  ·exact absurd (AR (Au e) z) (BN _)
 have J:∀ x c,X.env.cells.lookup x=some c→∀ v,s.heap.IsCell c v→h'.IsCell c v:=fun x c e v ⟨o,ho,hd⟩=>by
  have U:c ∉ ch:=fun z=>(O c z).2.2.1 x c e rfl;by_cases hc:c∈X.fs
  ·obtain⟨sl,q⟩:=slot c o (I.cne x c e) hc U ho (I.freeC x c e);exact⟨_,q,hd⟩
  ·exact⟨o,keep c o (I.cne x c e) hc U ho (I.freeC x c e),hd⟩
 refine⟨I.ok,I.os,hg,⟨fun b o e n Z G=>?_,fun b o e n Z G=>?_,fun b o e n G=>?_,fun b o e G=>?_,fun b xs e=>tups b xs (I.base.tups b xs e),fun b o xs e=>frzs b o xs (I.base.frzs b o xs e),fun b ps e=>?_⟩,?_,fun x c e=>?_,?_,fun x c e=>?_,fun p hp=>?_,hok,I.len⟩
 ·exact keep b o (ad b o e) Z (W b o e G) (I.base.keep b o e n Z G) (I.base.free b o e n G)
 ·obtain⟨sl,Y⟩:=I.base.slot b o e n Z G;obtain⟨sl',e2⟩:=slot b _ (ad b o e) Z (W b o e G) Y (I.base.free b o e n G);exact⟨sl',e2⟩
 ·obtain⟨o',Y⟩:=I.base.there b o e G;exact free b o' (W b o e G) Y (I.base.free b o e n G)
 ·obtain⟨o',Y⟩:=I.base.there b o e G;exact there b o' (W b o e G) Y
 ·obtain⟨m1,Y⟩:=I.base.tbls b ps e;obtain⟨m2,e2⟩:=tbls b _ Y;exact⟨m1 ++ m2,by rw[e2,Array.append_assoc]⟩
 ·obtain⟨m,hn,hl⟩:=I.loc;refine⟨m,ns m hn,fun i x v Y e2 e3=>?_⟩;obtain⟨u,r,l⟩:=hl i x v Y e2 e3;refine⟨u,r,?_⟩;rcases l with l | ⟨k,c,e,z⟩
  ·exact .inl l
  ·exact .inr ⟨k,c,e,J x c e _ z⟩
 ·obtain⟨v,z⟩:=I.cell x c e;exact⟨v,J x c e v z⟩
 ·obtain⟨m,⟨o,_,_,ho,_⟩,_⟩:=I.loc;exact free _ o (fun z=>(O _ z).2.1 rfl) ho I.free
 ·obtain⟨v,o,ho,hd⟩:=I.cell x c e;exact free c o (fun z=>(O c z).2.2.1 x c e rfl) ho (I.freeC x c e)
 ·obtain⟨e,n,ne,nf,d⟩:=I.pin p hp;have U:p.1 ∉ ch:=fun z=>(O p.1 z).2.2.2 p hp rfl;exact⟨keep p.1 p.2 ne nf U e n,free p.1 p.2 U e n,ne,nf,d⟩
theorem Inv.un{t':Nat}(I:Inv X fe σ H s)(u:Un X.fs [] H H' s.heap h')(hok:HOk X.prog X.w H' h'):Inv X fe σ H' { s with heap:=h',toks:=t' }:=by
 obtain⟨m,⟨o,es,ep,ho,r⟩,_⟩:=id I.loc;obtain⟨sl,hL⟩:=u.any ho I.free (by simp);exact I.step (g':=s.gens) (d':=s.drawn) (ch:=[]) (fun _ z=>nomatch z) (fun b o _ G _ e n=>u.keep b o e n G (by simp)) (fun b o _ G _ e n=>u.slot b o e n G (by simp)) (fun b o _ e n=>u.free b o e n (by simp)) (fun b o _ e=>u.there b o e (by simp)) u.tups u.frzs u.tbls (fun J hm=>by
  obtain⟨o',es',ep',ho',r'⟩:=hm;rw[ho]at ho';cases ho';exact⟨_,es',ep',hL,r'⟩) hok I.bare
theorem Inv.call{g':Array EZ}{t':Nat}{d':F1}{ch:List Af}(I:Inv X fe σ H s)(u:Un (frs X.stack) ch H H' s.heap h')(hok:HOk X.prog X.w H' h')(O:D8 g')
  (G:∀ b∈ch,(b∈X.ex∨X.s₀.heap.objs.size≤b)∧b≠X.env.locals∧(∀ x c,X.env.cells.lookup x=some c→c≠b)∧∀ p∈X.pn ++ fe,p.1≠b):
  Inv X fe σ H' { s with heap:=h',gens:=g',drawn:=d',toks:=t' }:=by
 obtain⟨m,⟨o,es,ep,ho,r⟩,_⟩:=id I.loc;obtain⟨sl,J⟩:=u.any ho I.free fun z=>(G _ z).2.1 rfl;exact I.step (ch:=ch) G (fun b o J U hc e n=>u.keep b o e n (fun z=>(Ap.mp (I.stkSub b z)).elim J U) hc) (fun b o _ _ hc e n=>u.any e n hc) (fun b o hc e n=>u.free b o e n hc) (fun b o hc e=>u.there b o e hc) u.tups u.frzs u.tbls (fun W hm=>by
  obtain⟨o',es',ep',ho',r'⟩:=hm;rw[ho]at ho';cases ho';exact⟨_,es',ep',J,r'⟩) hok O
theorem Inv.turned{t':Nat}{it:Af}(I:Inv X fe σ H s)(k:∀ b o,b≠it→s.heap.get? b=some o→h'.get? b=some o)(hn:H it=none)(J:it≠X.env.locals)
  (h1:it∈X.ex∨X.s₀.heap.objs.size≤it) (h2:∀ x c,X.env.cells.lookup x=some c→c≠it) (O:∀ p∈X.pn ++ fe,p.1≠it):Inv X fe σ H { s with heap:=h',toks:=t' }:=by
 have G:∀ b u,H b=some u→b≠it:=fun b u e z=>by rw[z,hn]at e;cases e
 refine I.step (g':=s.gens) (d':=s.drawn) (ch:=[it]) (fun b U=>?_) (fun b o _ _ hc e _=>k b o (fun z=>hc (by simp[z])) e) (fun b o _ _ hc e _=>⟨o.slots,k b o (fun z=>hc (by simp[z])) e⟩) (fun _ _ _ _ n=>n)
  (fun b o hc e=>⟨o,k b o (fun z=>hc (by simp[z])) e⟩) (fun _ _ e=>e) (fun _ _ _ e=>e) (fun b ps e=>⟨#[],by rw[e];simp⟩) (fun m hm=>?_) (fun b u e=>?_) I.bare
 ·have e:b=it:=by simpa using U
  subst e;exact⟨h1,J,h2,O⟩
 ·obtain⟨o,es,ep,ho,r⟩:=hm;exact⟨o,es,ep,k _ o (CL J) ho,r⟩
 ·refine(I.hok b u e).stay (fun c v hc q=>k c v ?_ q) (fun _ q=>q) fun _ _ q=>q;rcases hc with z | z
  ·rw[z];exact G b u e
  ·exact G c _ z
theorem Inv.tok(I:Inv X fe σ H s)(t:Nat):Inv X fe σ H { s with toks:=t }:=I.un (h':=s.heap) (t':=t) Un.refl I.hok
theorem Inv.kept{t':Nat}(I:Inv X fe σ H s)(k:∀ b u,s.heap.get? b=some u→h'.get? b=some u):Inv X fe σ H { s with heap:=h',toks:=t' }:=I.un (Un.kept k) (I.hok.kept k)
theorem Inv.laid{a:Af}{o:HO}{t':Nat}(I:Inv X fe σ H s)(k:∀ b u,s.heap.get? b=some u→h'.get? b=some u)(G:s.heap.objs.size≤a)(new:cX X.prog X.w (upd H a o) h' a o):
  Inv X fe σ (upd H a o) { s with heap:=h',toks:=t' }:=I.un (Un.laid k G (I.hok.fresh G)) (I.hok.laid k G new)
theorem Inv.write{x e:Af}{o:HO}{t':Nat}(I:Inv X fe σ H s)(J:Mut (H x))(O:e=x∨H e=some (.own x))(k:∀ b u,b≠e→s.heap.get? b=some u→h'.get? b=some u)(G:∃ u,h'.get? e=some u)
  (new:cX X.prog X.w (upd H x o) h' x o):Inv X fe σ (upd H x o) { s with heap:=h',toks:=t' }:=I.un (Un.write J O k G) (I.hok.write J O k G new)
theorem Inv.pins_of{G:List (Af×Obj)}(I:Inv X fe σ H s)(h:∀ p∈G,s.heap.get? p.1=some p.2∧H p.1=none∧p.1≠X.env.locals∧p.1 ∉ X.fs∧∀ v,p.2.data≠.cell v):Inv X G σ H s:=
 ⟨I.ok,I.os,I.bare,I.base,I.loc,I.cell,I.free,I.freeC,fun p J=>(Bo.mp J).elim (fun z=>I.pin p (BV _ z)) (h p),I.hok,I.len⟩
theorem rB{N:List Str}(hN:N.Nodup){i j:Nat}{x:Str}(a:N[i]?=some x)(b:N[j]?=some x):i=j:=by
 obtain⟨h1,e1⟩:=AZ.mp a;obtain⟨h2,e2⟩:=AZ.mp b;exact(List.getElem_inj hN).mp (e1.trans e2.symm)
theorem uR{M:Dw}{A:AB}{E:Ab→Ad→Prop}{i:Nat}{x:Str}{v:V}{u:Ab}{Q:Unit→Ad→Prop}(I:Inv X fe σ H s)(hN:X.N.Nodup)(hi:X.N[i]?=some x)(U:Loc X.env.scope x)(r:cR v u)
  (h:∀ s',Inv X fe (σ.set i (some v)) H s'→(∃ a,Dl a s.heap s'.heap∧(a=X.env.locals∨X.env.cells.lookup x=some a))→Q () s') (hf:X.fn x=true∨X.env.scope.names.lookup x=some .local:=by first | exact .inl rfl | exact .inr rfl | assumption):wpAny M A (storeName X.env x u) Q E s:=by
 obtain⟨m,hn,hl⟩:=id I.loc;have ae:(X.env.scope.kind == .class || (X.env.scope.kind == .module && X.env.locals != X.env.globals))=false:=by rw[I.ok.kind];rfl
 have ag:i < σ.length:=by rw[I.len];exact(AZ.mp hi).1
 have cne:=I.cne;have J:∀{a:Af} {h':A1},(∃ o,s.heap.get? a=some o∧H a=none)→Dl a s.heap h'→HOk X.prog X.w H h':=fun{a h'} ha G b ob e=>by
  obtain⟨_,_,hfree⟩:=ha;refine(I.hok b ob e).stay (fun c w' hc q=>(G.2 c ?_).trans q) (fun _ q=>q) fun _ _ q=>q;rintro rfl;rcases hc with rfl | hc
  ·rw[hfree]at e;cases e
  ·rw[hfree]at hc;cases hc
 rcases U with Y | Y
 ·refine wpAny_storeName_local Y hn (fun h' ak G=>?_) ae;obtain⟨oL,_,_,hoL,_⟩:=id hn;refine h _ ⟨I.ok,I.os,I.bare,⟨fun b o e n hb U=>?_,fun b o e n hb U=>?_,I.base.free,fun b o e U=>?_,I.base.tups,I.base.frzs,I.base.tbls⟩,⟨_,ak,fun j y v' O W e3=>?_⟩,fun y c e=>?_,I.free,I.freeC,fun p hp=>?_,J ⟨oL,hoL,I.free⟩ G,by simpa using I.len⟩ ⟨_,G,.inl rfl⟩
  ·exact(G.2 b (AQ (AR (Au e) I.ok.above))).trans (I.base.keep b o e n hb U)
  ·obtain⟨sl,O⟩:=I.base.slot b o e n hb U;exact⟨sl,(G.2 b (AQ (AR (Au e) I.ok.above))).trans O⟩
  ·obtain⟨o',O⟩:=I.base.there b o e U;exact⟨o',(G.2 b (AQ (AR (Au e) I.ok.above))).trans O⟩
  ·by_cases Z:j=i
   ·subst Z;rw[hi]at O;cases O;rw[Er ag]at W;cases W;exact⟨u,r,.inl ⟨Y,by simp⟩⟩
   ·rw[EA (CL Z)]at W;obtain⟨u',r',q⟩:=hl j y v' O W e3;refine⟨u',r',?_⟩;rcases q with⟨k,e⟩ | ⟨k,c,e,z⟩
    ·refine .inl ⟨k,?_⟩;have:y≠x:=fun e=>Z (rB hN O (e ▸ hi));simp[this,e]
    ·exact .inr ⟨k,c,e,z.sameBut G (cne y c e)⟩
  ·obtain⟨w',z⟩:=I.cell y c e;exact⟨w',z.sameBut G (cne y c e)⟩
  ·obtain⟨e,n,ne,nf,d⟩:=I.pin p hp;exact⟨(G.2 p.1 ne).trans e,n,ne,nf,d⟩
 ·have aa:X.fn x=true:=by
   rcases hf with z | z
   ·exact z
   ·rw[z]at Y;cases Y
  obtain⟨c,hc⟩:=I.ok.has x (.inl Y);obtain⟨w',z⟩:=I.cell x c hc;refine wpAny_storeName_cell I.ok.kind Y hc z (fun h' ad G=>?_);obtain⟨oc,hoc,hocd⟩:=id z;refine h { s with heap:=h' } ⟨I.ok,I.os,I.bare,⟨fun b o e n hb U=>?_,fun b o e n hb U=>?_,I.base.free,fun b o e U=>?_,I.base.tups,I.base.frzs,I.base.tbls⟩,⟨m,hn.sameBut G (CL (cne x c hc)),fun j y v' O W e3=>?_⟩,fun y c' e=>?_,I.free,I.freeC,fun p hp=>?_,J ⟨oc,hoc,I.freeC x c hc⟩ G,by simpa using I.len⟩ ⟨c,G,.inr hc⟩
  ·exact(G.2 b (AQ (AR (Au e) (I.ok.cab x c aa hc)))).trans (I.base.keep b o e n hb U)
  ·obtain⟨sl,O⟩:=I.base.slot b o e n hb U;exact⟨sl,(G.2 b (AQ (AR (Au e) (I.ok.cab x c aa hc)))).trans O⟩
  ·obtain⟨o',O⟩:=I.base.there b o e U;exact⟨o',(G.2 b (AQ (AR (Au e) (I.ok.cab x c aa hc)))).trans O⟩
  ·by_cases Z:j=i
   ·subst Z;rw[hi]at O;cases O;rw[Er ag]at W;cases W;exact⟨u,r,.inr ⟨.inl Y,c,hc,ad⟩⟩
   ·rw[EA (CL Z)]at W;obtain⟨u',r',q⟩:=hl j y v' O W e3;refine⟨u',r',?_⟩;rcases q with q | ⟨k,c',e,z'⟩
    ·exact .inl q
    ·refine .inr ⟨k,c',e,z'.sameBut G ?_⟩;rintro rfl;exact Z (rB hN O (I.ok.inj _ _ _ e hc ▸ hi))
  ·by_cases af:c'=c
   ·subst af;exact⟨_,ad⟩
   ·obtain⟨w2,z2⟩:=I.cell y c' e;exact⟨w2,z2.sameBut G af⟩
  ·obtain⟨e,n,ne,nf,d⟩:=I.pin p hp;refine⟨(G.2 p.1 ?_).trans e,n,ne,nf,d⟩;intro q;rw[q,hoc]at e;have q':oc=p.2:=BD.inj e;exact d w' (by rw[← q'];exact hocd)
theorem m9{M:Dw}{A:AB}{E:Ab→Ad→Prop}{i:Nat}{x:Str}{v:V}{u:Ab}{Q:Unit→Ad→Prop}(I:Inv X fe σ H s)(hN:X.N.Nodup)(hi:X.N[i]?=some x)(J:Loc X.env.scope x)(r:cR v u)
  (h:∀ s',Inv X fe (σ.set i (some v)) H s'→Q () s') (G:X.fn x=true∨X.env.scope.names.lookup x=some .local:=by first | exact .inl rfl | exact .inr rfl | assumption):wpAny M A (storeName X.env x u) Q E s:=
 uR I hN hi J r (fun s' O _=>h s' O) G
theorem Inv.call'{s':Ad}{ch:List Af}(I:Inv X fe σ H s)(J:s'.os=s.os)(u:Un (frs X.stack) ch H H' s.heap s'.heap)(hok:HOk X.prog X.w H' s'.heap)(O:D8 s'.gens)
  (G:∀ b∈ch,(b∈X.ex∨X.s₀.heap.objs.size≤b)∧b≠X.env.locals∧(∀ x c,X.env.cells.lookup x=some c→c≠b)∧∀ p∈X.pn ++ fe,p.1≠b):Inv X fe σ H' s':=by
 obtain⟨h',g',d',t',o'⟩:=s';have e:o'=s.os:=J;subst e;exact I.call (g':=g') (t':=t') (d':=d') u hok O G
end
abbrev XK:=Ab→Option Af→Hp→Prop
abbrev St:=List (Option V)
abbrev VK:=V→Hp→Prop
abbrev TE:=St→Hp→VK→Prop
abbrev TT:=St→Hp→(Bool→Hp→Prop)→Prop
abbrev TA:=St→Hp→(List V→Hp→Prop)→Prop
structure kC where
 nx:St→Hp→Prop
 rt:VK
 bk:St→Hp→Prop:=fun _ _=>False
 ct:St→Hp→Prop:=fun _ _=>False
abbrev TS:=kC→St→Hp→Prop
inductive aIH(X:Cx)(fe:List (Af×Obj))(σ:St)(Q:VK)(u:Ab)(s':Ad):Prop
 | mk (v:_) (H':_) (q0:Inv X fe σ H' s') (q1:cR v u) (q2:Q v H'):aIH X fe σ Q u s'
def EP(X:Cx)(fe:List (Af×Obj))(σ:St)(Q:VK)(u:Ab)(s':Ad):Prop:=aIH X fe σ Q u s'
def TP(X:Cx)(fe:List (Af×Obj))(σ:St)(Q:Bool→Hp→Prop)(b:Bool)(s':Ad):Prop:=∃ H',Inv X fe σ H' s'∧Q b H'
inductive aII(X:Cx)(fe:List (Af×Obj))(σ:St)(Q:List V→Hp→Prop)(us:List Ab)(s':Ad):Prop
 | mk (vs:_) (H':_) (q0:Inv X fe σ H' s') (q1:cF vs us) (q2:Q vs H'):aII X fe σ Q us s'
def AP(X:Cx)(fe:List (Af×Obj))(σ:St)(Q:List V→Hp→Prop)(us:List Ab)(s':Ad):Prop:=aII X fe σ Q us s'
def SP(X:Cx)(fe:List (Af×Obj))(D:kC)(f:Flow)(s':Ad):Prop:=
 match f with
 | .next=>∃ σ' H',Inv X fe σ' H' s'∧D.nx σ' H'
 | .brk=>∃ σ' H',Inv X fe σ' H' s'∧D.bk σ' H'
 | .cont=>∃ σ' H',Inv X fe σ' H' s'∧D.ct σ' H'
 | .ret u=>∃ v σ' H',Inv X fe σ' H' s'∧cR v u∧D.rt v H'
structure PE(X:Cx)(e:A5)(t:TE):Prop where
 run:
  ∀(fe:List (Af×Obj)) (s:Ad) (σ:St) (H:Hp) (Q:VK),Inv X fe σ H s→t σ H Q→wpAny (model X.prog X.w) X.A (eval e X.env) (EP X fe σ Q) X.xe s
instance{X:Cx}{e:A5}{t:TE}:CoeFun (PE X e t) (fun _=>
 ∀(fe:List (Af×Obj)) (s:Ad) (σ:St) (H:Hp) (Q:VK),Inv X fe σ H s→t σ H Q→wpAny (model X.prog X.w) X.A (eval e X.env) (EP X fe σ Q) X.xe s):=⟨fun h=>h.run⟩
structure PT(X:Cx)(e:A5)(t:TT):Prop where
 run:
  ∀(fe:List (Af×Obj)) (s:Ad) (σ:St) (H:Hp) (Q:Bool→Hp→Prop),Inv X fe σ H s→t σ H Q→wpAny (model X.prog X.w) X.A (isTrue e X.env (eval e X.env)) (TP X fe σ Q) X.xe s
instance{X:Cx}{e:A5}{t:TT}:CoeFun (PT X e t) (fun _=>
 ∀(fe:List (Af×Obj)) (s:Ad) (σ:St) (H:Hp) (Q:Bool→Hp→Prop),Inv X fe σ H s→t σ H Q→wpAny (model X.prog X.w) X.A (isTrue e X.env (eval e X.env)) (TP X fe σ Q) X.xe s):=⟨fun h=>h.run⟩
structure PW(X:Cx)(e:A5)(t:TT):Prop where
 run:
  ∀(whole:Sem Ab) (fe:List (Af×Obj)) (s:Ad) (σ:St) (H:Hp) (Q:Bool→Hp→Prop),Inv X fe σ H s→t σ H Q→wpAny (model X.prog X.w) X.A (isTrue e X.env whole) (TP X fe σ Q) X.xe s
instance{X:Cx}{e:A5}{t:TT}:CoeFun (PW X e t) (fun _=>
 ∀(whole:Sem Ab) (fe:List (Af×Obj)) (s:Ad) (σ:St) (H:Hp) (Q:Bool→Hp→Prop),Inv X fe σ H s→t σ H Q→wpAny (model X.prog X.w) X.A (isTrue e X.env whole) (TP X fe σ Q) X.xe s):=⟨fun h=>h.run⟩
theorem PW.pt{X:Cx}{e:A5}{t:TT}(h:PW X e t):PT X e t:=⟨h.run _⟩
structure PA(X:Cx)(es:List A5)(t:TA):Prop where
 run:
  ∀(pos:Pos) (fe:List (Af×Obj)) (s:Ad) (σ:St) (H:Hp) (Q:List V→Hp→Prop),Inv X fe σ H s→t σ H Q→wpAny (model X.prog X.w) X.A (spliced (backTo pos (starEach es X.env))) (AP X fe σ Q) X.xe s
instance{X:Cx}{es:List A5}{t:TA}:CoeFun (PA X es t) (fun _=>
 ∀(pos:Pos) (fe:List (Af×Obj)) (s:Ad) (σ:St) (H:Hp) (Q:List V→Hp→Prop),Inv X fe σ H s→t σ H Q→wpAny (model X.prog X.w) X.A (spliced (backTo pos (starEach es X.env))) (AP X fe σ Q) X.xe s):=⟨fun h=>h.run⟩
structure PS(X:Cx)(st:Br)(t:TS):Prop where
 run:
  ∀(fe:List (Af×Obj)) (s:Ad) (σ:St) (H:Hp) (D:kC),Inv X fe σ H s→t D σ H→wpAny (model X.prog X.w) X.A (exec st X.env) (SP X fe D) X.xe s
instance{X:Cx}{st:Br}{t:TS}:CoeFun (PS X st t) (fun _=>
 ∀(fe:List (Af×Obj)) (s:Ad) (σ:St) (H:Hp) (D:kC),Inv X fe σ H s→t D σ H→wpAny (model X.prog X.w) X.A (exec st X.env) (SP X fe D) X.xe s):=⟨fun h=>h.run⟩
structure PSs(X:Cx)(st:List Br)(t:TS):Prop where
 run:
  ∀(fe:List (Af×Obj)) (s:Ad) (σ:St) (H:Hp) (D:kC),Inv X fe σ H s→t D σ H→wpAny (model X.prog X.w) X.A (execs st X.env) (SP X fe D) X.xe s
instance{X:Cx}{st:List Br}{t:TS}:CoeFun (PSs X st t) (fun _=>
 ∀(fe:List (Af×Obj)) (s:Ad) (σ:St) (H:Hp) (D:kC),Inv X fe σ H s→t D σ H→wpAny (model X.prog X.w) X.A (execs st X.env) (SP X fe D) X.xe s):=⟨fun h=>h.run⟩
theorem thn{α:Type}{t:Sem α}{Q G:α→Ad→Prop}{M:Dw}{A:AB}{E:Ab→Ad→Prop}{s:Ad}(h:wpAny M A t Q E s)(J:∀ a s,Q a s→G a s):wpAny M A t G E s:=Bd h J fun _ _ x=>x
section
variable{X:Cx}
inductive aDF(i:Nat)(σ:St)(H:Hp)(Q:VK):Prop
 | mk (v:_) (q0:σ[i]?=some (some v)) (q1:Q v H):aDF i σ H Q
def aAD(i:Nat):TE:=fun σ H Q=>aDF i σ H Q
def tC(v:V):TE:=fun _ H Q=>Q v H
theorem aHD{i:Nat}{x:Str}{pos:Pos}(hN:X.N[i]?=some x)(U:Vis X.env.scope x)(hd:(x == ("__debug__":Str))=false:=by decide)(O:(x == ("__classdict__":Str))=false:=by decide):PE X (.Name x pos) (aAD i):=by
 constructor;intro fe s σ H Q I h;obtain⟨v,e,h⟩:=h;obtain⟨m,hn,hl⟩:=I.loc;obtain⟨u,r,l⟩:=hl i x v hN e U;have G:EP X fe σ Q u s:=⟨v,H,I,r,h⟩
 rcases l with⟨J,hm⟩ | ⟨J,c,hc,hcell⟩
 ·exact wpAny_Name (wpAny_loadName_local I.ok.kind J hn hm G) hd
 ·rcases J with J | J
  ·exact wpAny_Name (wpAny_loadName_cell I.ok.kind J hc hcell G) hd
  ·exact wpAny_Name (wpAny_loadName_free I.ok.kind J hc hcell G O) hd
theorem aC{i j pos}:PE X (.Constant (.int i) j pos) (tC (.int i)):=⟨fun _ _ _ H _ I h=>wpAny_Constant_int ⟨.int i,H,I.tok _,⟨_,rfl⟩,h⟩⟩
theorem eV{b j pos}:PE X (.Constant (.bool b) j pos) (tC (.bl b)):=⟨fun _ _ _ H _ I h=>Constant_bool ⟨.bl b,H,I,rfl,h⟩⟩
theorem fM{j pos}:PE X (.Constant .none j pos) (tC .non):=⟨fun _ _ _ H _ I h=>F0 ⟨.non,H,I,rfl,h⟩⟩
theorem aJ{x j pos}:PE X (.Constant (.str x) j pos) (tC (.str x)):=⟨fun _ _ _ H _ I h=>Calls.Constant_str ⟨.str x,H,I.tok _,⟨_,rfl⟩,h⟩⟩
def Gl(X:Cx)(x:Str):Prop:=X.env.kindOf x=some .globalImplicit
theorem v7{E:Ab→Ad→Prop}{fe:List (Af×Obj)}{s:Ad}{σ:St}{H:Hp}{x:Str}{u:Ab}{pos:Pos}{Q:Ab→Ad→Prop}(I:Inv X fe σ H s)(G:Gl X x)(hm:X.mg x=some u)(h:Q u s)
  (hd:(x == ("__debug__":Str))=false:=by decide):wpAny (model X.prog X.w) X.A (eval (.Name x pos) X.env) Q E s:=
 Calls.Name_function_global I.ok.kind G (Calls.loadGlobal_global (by rw[I.ok.glob];exact I.mod.glob.keeps I.bk) hm h) hd
theorem mJ{E:Ab→Ad→Prop}{fe:List (Af×Obj)}{s:Ad}{σ:St}{H:Hp}{x:Str}{u:Ab}{pos:Pos}{Q:Ab→Ad→Prop}(I:Inv X fe σ H s)(G:Gl X x)(hm:X.mg x=none)(J:bootBuiltins x=some u)(h:Q u s)
  (hn:x≠"__name__":=by decide) (hd:(x == ("__debug__":Str))=false:=by decide):wpAny (model X.prog X.w) X.A (eval (.Name x pos) X.env) Q E s:=by
 obtain⟨mb,h1,h2⟩:=I.mod.blt;exact Calls.Name_function_global I.ok.kind G (Calls.loadGlobal_builtin (by rw[I.ok.glob];exact I.mod.glob.keeps I.bk) hm (by rw[I.ok.blt];exact h1.keeps I.bk) ((h2 x hn).trans J) h) hd
theorem bZ{x:Str}{v:V}{u:Ab}{pos:Pos}(G:Gl X x)(hm:X.mg x=some u)(r:cR v u)(hd:(x == ("__debug__":Str))=false:=by decide):PE X (.Name x pos) (tC v):=
 ⟨fun _ _ _ H _ I h=>v7 I G hm ⟨v,H,I,r,h⟩ hd⟩
theorem dI{x:Str}{v:V}{u:Ab}{pos:Pos}(G:Gl X x)(hm:X.mg x=none)(J:bootBuiltins x=some u)(r:cR v u)(hn:x≠"__name__":=by decide)(hd:(x == ("__debug__":Str))=false:=by decide):PE X (.Name x pos) (tC v):=
 ⟨fun _ _ _ H _ I h=>mJ I G hm J ⟨v,H,I,r,h⟩ hn hd⟩
variable{a b:A5}{ta tb:TE}{pos:Pos}
structure PC(X:Cx)(op:FU)(a b:A5)(t:TE):Prop where
 run:
  ∀(fe:List (Af×Obj)) (s:Ad) (σ:St) (H:Hp) (Q:VK),Inv X fe σ H s→t σ H Q→
   wpAny (model X.prog X.w) X.A (eval a X.env) (fun v s₁=>wpAny (model X.prog X.w) X.A (eval b X.env) (fun u s₂=>wpAny (model X.prog X.w) X.A (compareOp op v u) (EP X fe σ Q) X.xe s₂) X.xe s₁) X.xe s
instance{X:Cx}{op:FU}{a b:A5}{t:TE}:CoeFun (PC X op a b t) (fun _=>
 ∀(fe:List (Af×Obj)) (s:Ad) (σ:St) (H:Hp) (Q:VK),Inv X fe σ H s→t σ H Q→
  wpAny (model X.prog X.w) X.A (eval a X.env) (fun v s₁=>wpAny (model X.prog X.w) X.A (eval b X.env) (fun u s₂=>wpAny (model X.prog X.w) X.A (compareOp op v u) (EP X fe σ Q) X.xe s₂) X.xe s₁) X.xe s):=⟨fun h=>h.run⟩
theorem aDG(b:A5){G:FU}(h:G≠.In)(h2:G≠.NotIn):behindInMarks G b=false:=by
 have J:(G == CmpOp.In)=false:=by cases G <;> first | rfl | exact absurd rfl h
 have O:(G == CmpOp.NotIn)=false:=by cases G <;> first | rfl | exact absurd rfl h2
 cases b <;> simp[behindInMarks,J,O]
def aJF(ta:TE):TE:=fun σ H Q=>ta σ H fun x H1=>Q (.bl (decide (x=.non))) H1
def aIJ(ta:TE):TE:=fun σ H Q=>ta σ H fun x H1=>Q (.bl (!decide (x=.non))) H1
theorem cR.none_iff{x:V}{v:Ab}(r:cR x v):(v == B0)=decide (x=.non):=by
 cases x with
 | non=>cases r;rfl
 | bl _=>cases r;rfl
 | int _=>obtain⟨t,rfl⟩:=r;rfl
 | str _=>obtain⟨t,rfl⟩:=r;rfl
 | byt _=>obtain⟨t,rfl⟩:=r;rfl
 | flt _=>obtain⟨t,rfl⟩:=r;rfl
 | ref _=>cases r;rfl
 | ty _=>cases r;rfl
theorem aAE{j ft}(ha:PE X a ta):PC X .Is a (.Constant .none j ft) (aJF ta):=by
 constructor;intro fe s σ H Q I h;refine thn (ha fe s σ H _ I h) fun v s1 ⟨x,H1,G,O,J⟩=>?_;exact F0 (is_none_gen ⟨.bl _,H1,G,by rw[O.none_iff];rfl,J⟩)
theorem aFU{j ft}(ha:PE X a ta):PC X .IsNot a (.Constant .none j ft) (aIJ ta):=by
 constructor;intro fe s σ H Q I h;refine thn (ha fe s σ H _ I h) fun v s1 ⟨x,H1,G,O,J⟩=>?_;exact F0 (isnot_none_gen ⟨.bl _,H1,G,by rw[O.none_iff];rfl,J⟩)
inductive As{α:Type}(f:α→V)(x:V)(Q:α→Prop):Prop
 | mk (c:α) (h:x=f c) (q:Q c):As f x Q
def tB(t:TE):TT:=fun σ H Q=>t σ H fun x H1=>As V.bl x fun c=>Q c H1
theorem v8{G:FU}{t:TE}(h:PC X G a b t)(h1:behindInMarks G b=false:=by first | exact aDG _ (by decide) (by decide) | rfl):PT X (.Compare a [G] [b] pos) (tB t):=by
 constructor;intro fe s σ H Q I hw;refine wpAny_isTrue_Compare1 (thn (h fe s σ H _ I hw) fun v s1 h1=>thn h1 fun u W h2=>thn h2 fun c Y ⟨x,H1,J,U,O⟩=>?_) h1;obtain⟨d,rfl,q⟩:=O;cases U;exact BK ⟨H1,J,q⟩
theorem cN{e:A5}{t:TE}(h:PE X e t)(U:∀ G,isTrue e X.env G=(do let v ← G;standAt e.pos;holding [v] (truthy v)):=by intro _;rfl):PT X e (tB t):=by
 constructor;intro fe s σ H Q I hw;refine isTrue_plain (thn (h fe s σ H _ I hw) fun v s1 ⟨x,H1,J,W,O⟩=>?_) (U _);obtain⟨d,rfl,q⟩:=O;cases W;exact BK ⟨H1,J,q⟩
variable{tA gi:TT}{bF:List A5}
def aJG(t u:TT):TT:=fun σ H Q=>t σ H fun c H1=>if c=true then u σ H1 Q else Q false H1
def tOr(t u:TT):TT:=fun σ H Q=>t σ H fun c H1=>if c=true then Q true H1 else u σ H1 Q
def aJH(t:TT):TT:=fun σ H Q=>t σ H fun c H1=>Q (!c) H1
theorem gT(ha:PT X a tA):PW X (.BoolOp .And [a] pos) tA:=by
 constructor;intro G fe s σ H Q I h;refine isTrue_and (thn (ha fe s σ H Q I h) fun c s1 e=>?_);cases c with
 | true=>exact isTrue_and_nil e
 | false=>exact e
theorem dP(ha:PT X a tA):PW X (.BoolOp .Or [a] pos) tA:=by
 constructor;intro G fe s σ H Q I h;refine isTrue_or (thn (ha fe s σ H Q I h) fun c s1 e=>?_);cases c with
 | false=>exact isTrue_or_nil e
 | true=>exact e
theorem gO(ha:PT X a tA)(U:PW X (.BoolOp .And (b :: bF) pos) gi):PW X (.BoolOp .And (a :: b :: bF) pos) (aJG tA gi):=by
 constructor;intro O fe s σ H Q I h;refine isTrue_and (thn (ha fe s σ H _ I h) fun c s1 ⟨H1,G,J⟩=>?_);cases c with
 | true=>exact U O fe s1 σ H1 Q G J
 | false=>exact⟨H1,G,J⟩
theorem dU(ha:PT X a tA)(U:PW X (.BoolOp .Or (b :: bF) pos) gi):PW X (.BoolOp .Or (a :: b :: bF) pos) (tOr tA gi):=by
 constructor;intro O fe s σ H Q I h;refine isTrue_or (thn (ha fe s σ H _ I h) fun c s1 ⟨H1,G,J⟩=>?_);cases c with
 | true=>exact⟨H1,G,J⟩
 | false=>exact U O fe s1 σ H1 Q G J
theorem cS(ha:PT X a tA):PT X (.UnaryOp .Not a pos) (aJH tA):=by
 constructor;intro fe s σ H Q I h;exact isTrue_not (ha fe s σ H (fun c H1=>Q (!c) H1) I h)
def aIK(ta tb:TE):TE:=fun σ H Q=>ta σ H fun x H1=>As V.bl x fun c=>if c=true then tb σ H1 Q else Q (.bl false) H1
def aJI(ta tb:TE):TE:=fun σ H Q=>ta σ H fun x H1=>∃ c,x=.bl c∧if c=true then Q (.bl true) H1 else tb σ H1 Q
def aIL(ta:TE):TE:=fun σ H Q=>ta σ H fun x H1=>As V.bl x fun c=>Q (.bl (!c)) H1
theorem dG{op}{t:TE}(h:PE X a t):PE X (.BoolOp op [a] pos) t:=⟨fun fe s σ H Q I hw=>BoolOp_one (h fe s σ H Q I hw)⟩
theorem cT(ha:PE X a ta)(U:PE X (.BoolOp .And (b :: bF) pos) tb):PE X (.BoolOp .And (a :: b :: bF) pos) (aIK ta tb):=by
 constructor;intro fe s σ H Q I h;refine BoolOp_and (thn (ha fe s σ H _ I h) fun v s1 ⟨x,H1,J,O,G⟩=>?_);obtain⟨c,rfl,G⟩:=G;cases O;refine BK ?_;cases c with
 | true=>exact U fe s1 σ H1 Q J G
 | false=>exact⟨.bl false,H1,J,rfl,G⟩
theorem aIM(ha:PE X a ta)(U:PE X (.BoolOp .Or (b :: bF) pos) tb):PE X (.BoolOp .Or (a :: b :: bF) pos) (aJI ta tb):=by
 constructor;intro fe s σ H Q I h;refine BoolOp_or (thn (ha fe s σ H _ I h) fun v s1 ⟨x,H1,J,O,G⟩=>?_);obtain⟨c,rfl,G⟩:=G;cases O;refine BK ?_;cases c with
 | false=>exact U fe s1 σ H1 Q J G
 | true=>exact⟨.bl true,H1,J,rfl,G⟩
theorem aDH(ha:PE X a ta):PE X (.UnaryOp .Not a pos) (aIL ta):=by
 constructor;intro fe s σ H Q I h;refine UnaryOp_ (thn (ha fe s σ H _ I h) fun v s1 ⟨x,H1,J,O,G⟩=>?_);obtain⟨c,rfl,G⟩:=G;cases O;exact not_of (BK ⟨.bl (!c),H1,J,rfl,G⟩)
def tIf(t:TT)(ta tb:TE):TE:=fun σ H Q=>t σ H fun c H1=>if c=true then ta σ H1 Q else tb σ H1 Q
theorem nA{c:A5}(hc:PT X c tA)(ha:PE X a ta)(O:PE X b tb):PE X (.IfExp c a b pos) (tIf tA ta tb):=by
 constructor;intro fe s σ H Q I h;refine wpAny_IfExp (thn (hc fe s σ H _ I h) fun d s1 ⟨H1,G,J⟩=>?_);cases d with
 | true=>exact ha fe s1 σ H1 Q G J
 | false=>exact O fe s1 σ H1 Q G J
end
def SqL(K:Ae)(H:Hp)(a:Af)(xs:List V):Prop:=
 Rd H a (.lst xs)∨
  ∃(o:Obj) (its:Array Ab) (n:Nat),K.lookup a=some o∧o.cls=.type "list"∧o.dict=none∧o.data=.seq its n∧its.size≤sizeLine∧cF xs its.toList
def SqT(K:Ae)(H:Hp)(a:Af)(xs:List V):Prop:=
 Rd H a (.tup xs)∨
  ∃(o:Obj) (its:Array Ab) (n:Nat),K.lookup a=some o∧o.cls=.type "tuple"∧o.data=.seq its n∧its.size≤sizeLine∧cF xs its.toList
def aJJ:Ab→Option V
 | .none=>some .non
 | .bool b=>some (.bl b)
 | .int i _=>some (.int i)
 | .str x _=>some (.str x)
 | .bytes b _=>some (.byt b)
 | .float b _=>some (.flt b)
 | .ref a=>some (.ref a)
 | .type n=>some (.ty n)
 | _=>none
theorem cR.abs{x:V}{u:Ab}(r:cR x u):aJJ u=some x:=by
 cases x with
 | non=>cases r;rfl
 | bl _=>cases r;rfl
 | int _=>obtain⟨t,rfl⟩:=r;rfl
 | str _=>obtain⟨t,rfl⟩:=r;rfl
 | byt _=>obtain⟨t,rfl⟩:=r;rfl
 | flt _=>obtain⟨t,rfl⟩:=r;rfl
 | ref _=>cases r;rfl
 | ty _=>cases r;rfl
theorem cR.inj{x y:V}{u:Ab}(r:cR x u)(q:cR y u):x=y:=BD.inj (r.abs.symm.trans q.abs)
theorem cF.inj:∀{xs ys:List V}{G:List Ab},cF xs G→cF ys G→xs=ys
 | _,_,_,.nil,.nil=>rfl
 | _,_,_,.cons r t,.cons J t'=>by rw[r.inj J,cF.inj t t']
section
variable{X:Cx}{fe:List (Af×Obj)}{σ:St}{H:Hp}{s:Ad}{a:Af}{xs ys:List V}
theorem aQ{K:Ae}(h:H a=some (.lst xs)):SqL K H a xs:=.inl (.inl h)
theorem aS{K:Ae}(h:H a=some (.tup xs)):SqT K H a xs:=.inl (.inl h)
theorem Inv.list(I:Inv X fe σ H s)(h:SqL X.K H a xs):∃ its:List Ab,cF xs its∧PlainL s.heap a its.toArray∧xs.length≤sizeLine:=by
 rcases h with h | ⟨o,its,n,J,hc,hd,G,hz,r⟩
 ·obtain⟨z,its,n,r,e⟩:=h.ok I.hok;exact⟨its,r,⟨_,n,e,rfl,rfl,rfl⟩,z⟩
 ·refine⟨its.toList,r,⟨o,n,I.kIn a o J,hc,hd,by simpa using G⟩,?_⟩;have e:=r.length;simp only[AS]at e;omega
theorem Inv.tuple(I:Inv X fe σ H s)(h:SqT X.K H a xs):∃ its:List Ab,cF xs its∧Fq s.heap a its.toArray∧xs.length≤sizeLine:=by
 rcases h with h | ⟨o,its,n,J,hc,G,hz,r⟩
 ·obtain⟨z,its,r,p⟩:=h.ok I.hok;exact⟨its,r,p.tup,z⟩
 ·refine⟨its.toList,r,⟨o,I.kIn a o J,hc,n,by simpa using G⟩,?_⟩;have e:=r.length;simp only[AS]at e;omega
theorem Inv.list_inj(I:Inv X fe σ H s)(h:SqL X.K H a xs)(h':SqL X.K H a ys):xs=ys:=by
 obtain⟨its,r,⟨o,n,e,_,_,d⟩,_⟩:=I.list h;obtain⟨its',r',⟨o',n',e',_,_,d'⟩,_⟩:=I.list h';rw[e]at e';cases e';rw[d]at d';injection d' with d1 _;have:its=its':=by simpa using congrArg Array.toList d1
 subst this;exact r.inj r'
theorem Inv.tuple_inj(I:Inv X fe σ H s)(h:SqT X.K H a xs)(h':SqT X.K H a ys):xs=ys:=by
 obtain⟨its,r,⟨o,e,_,n,d⟩,_⟩:=I.tuple h;obtain⟨its',r',⟨o',e',_,n',d'⟩,_⟩:=I.tuple h';rw[e]at e';cases e';rw[d]at d';injection d' with d1 _;have:its=its':=by simpa using congrArg Array.toList d1
 subst this;exact r.inj r'
end
abbrev Cx.wish(X:Cx)(E:Ab→Ad→Prop):Cx:={ X with xe:=E }
abbrev Cx.nox(X:Cx):Cx:=X.wish fun _ _=>False
theorem Cx.Ok.wish{X:Cx}(ok:X.Ok)(E:Ab→Ad→Prop):(X.wish E).Ok:=
 ⟨ok.mod,ok.kind,ok.glob,ok.blt,ok.above,ok.inj,ok.has,ok.cab,ok.hd,ok.frames,ok.stk,ok.exf,ok.bs,ok.bsz,ok.noex,ok.exfs,ok.funs,ok.frf⟩
theorem Cx.Ok.unwish{X:Cx}{E:Ab→Ad→Prop}(ok:(X.wish E).Ok):X.Ok:=
 ⟨ok.mod,ok.kind,ok.glob,ok.blt,ok.above,ok.inj,ok.has,ok.cab,ok.hd,ok.frames,ok.stk,ok.exf,ok.bs,ok.bsz,ok.noex,ok.exfs,ok.funs,ok.frf⟩
section
variable{X:Cx}{fe:List (Af×Obj)}{σ:St}{H:Hp}{s:Ad}{E:Ab→Ad→Prop}
theorem Inv.wish(I:Inv X fe σ H s)(E:Ab→Ad→Prop):Inv (X.wish E) fe σ H s:=⟨I.ok.wish E,I.os,I.bare,I.base,I.loc,I.cell,I.free,I.freeC,I.pin,I.hok,I.len⟩
theorem Inv.unwish(I:Inv (X.wish E) fe σ H s):Inv X fe σ H s:=⟨I.ok.unwish,I.os,I.bare,I.base,I.loc,I.cell,I.free,I.freeC,I.pin,I.hok,I.len⟩
theorem SP.unwish{D:kC}{f:Flow}{s':Ad}(h:SP (X.wish E) fe D f s'):SP X fe D f s':=by
 cases f with
 | next=>obtain⟨σ',H',I,q⟩:=h;exact⟨σ',H',I.unwish,q⟩
 | brk=>obtain⟨σ',H',I,q⟩:=h;exact⟨σ',H',I.unwish,q⟩
 | cont=>obtain⟨σ',H',I,q⟩:=h;exact⟨σ',H',I.unwish,q⟩
 | ret u=>obtain⟨v,σ',H',I,r,q⟩:=h;exact⟨v,σ',H',I.unwish,r,q⟩
theorem PSs.nox{st:List Br}{t:TS}(h:PSs X.nox st t):PSs X st t:=⟨fun fe s σ H D I hw=>
 Bd (h fe s σ H D (I.wish _) hw) (fun _ _ q=>q.unwish) fun _ _ z=>Bx z⟩
end
section
variable{X:Cx}{st:Br}{bF:List Br}{t u:TS}{e:A5}{te:TE}{pos:Pos}
def aG8:TS:=fun D σ H=>D.nx σ H
def aIN(t u:TS):TS:=fun D σ H=>t { D with nx:=u D } σ H
theorem aV:PSs X [] aG8:=⟨fun _ _ σ H _ I h=>Dc ⟨σ,H,I,h⟩⟩
theorem aE(h1:PS X st t)(h2:PSs X bF u):PSs X (st :: bF) (aIN t u):=by
 constructor;intro fe s σ H D I h;refine Fw (thn (h1 fe s σ H { D with nx:=u D } I h) fun f s1 q=>?_);cases f with
 | next=>
  obtain⟨σ',H',I',q⟩:=q;exact h2 fe s1 σ' H' D I' q
 | ret v=>exact q
 | brk=>exact q
 | cont=>exact q
theorem aG(h1:PS X st t):PSs X [st] t:=by
 constructor;intro fe s σ H D I h;refine Fw (thn (h1 fe s σ H D I h) fun f s1 q=>?_);cases f with
 | next=>exact Dc q
 | ret v=>exact q
 | brk=>exact q
 | cont=>exact q
theorem Inv.quiet{fe:List (Af×Obj)}{σ:St}{H:Hp}{s:Ad}(I:Inv X fe σ H s):interactive X.env=false:=by simp[interactive,I.ok.kind]
def aIO(te:TE):TS:=fun D σ H=>te σ H fun _ H1=>D.nx σ H1
theorem iH(U:PE X e te)(G:swapsWith e none pos.line X.env=pure false:=by rfl):PS X (.Expr e pos) (aIO te):=by
 constructor;intro fe s σ H D I h;exact wpAny_Expr_any (thn (U fe s σ H _ I h) fun v s1 ⟨x,H1,J,W,O⟩=>⟨σ,H1,J,O⟩) I.quiet G
def aFV(te:TE):TS:=fun D σ H=>te σ H D.rt
theorem aN(O:PE X e te):PS X (.Return (some e) pos) (aFV te):=by
 constructor;intro fe s σ H D I h;exact wpAny_Return_some (thn (O fe s σ H _ I h) fun v s1 ⟨x,H1,G,U,J⟩=>⟨x,σ,H1,G,U,J⟩)
def aIP(c:TT)(t u:TS):TS:=fun D σ H=>c σ H fun b H1=>if b=true then t D σ H1 else u D σ H1
theorem bM{c:A5}{a b:List Br}{tc:TT}(hc:PT X c tc)(ha:PSs X a t)(O:PSs X b u):PS X (.If c a b pos) (aIP tc t u):=by
 constructor;intro fe s σ H D I h;refine wpAny_If (thn (hc fe s σ H _ I h) fun d s1 ⟨H1,G,J⟩=>?_);cases d with
 | true=>exact ha fe s1 σ H1 D G J
 | false=>exact O fe s1 σ H1 D G J
end
abbrev TG:=V→St→Hp→(St→Hp→Prop)→Prop
abbrev TGs:=List V→St→Hp→(St→Hp→Prop)→Prop
structure PG(X:Cx)(target:A5)(t:TG):Prop where
 run:
  ∀(fe:List (Af×Obj)) (s:Ad) (σ:St) (H:Hp) (v:V) (u:Ab) (Q:St→Hp→Prop),Inv X fe σ H s→cR v u→t v σ H Q→
   wpAny (model X.prog X.w) X.A (assign target X.env u) (fun _ s'=>∃ σ' H',Inv X fe σ' H' s'∧Q σ' H') X.xe s
instance{X:Cx}{target:A5}{t:TG}:CoeFun (PG X target t) (fun _=>
 ∀(fe:List (Af×Obj)) (s:Ad) (σ:St) (H:Hp) (v:V) (u:Ab) (Q:St→Hp→Prop),Inv X fe σ H s→cR v u→t v σ H Q→
  wpAny (model X.prog X.w) X.A (assign target X.env u) (fun _ s'=>∃ σ' H',Inv X fe σ' H' s'∧Q σ' H') X.xe s):=⟨fun h=>h.run⟩
structure PGs(X:Cx)(ts:List A5)(t:TGs):Prop where
 run:
  ∀(fe:List (Af×Obj)) (s:Ad) (σ:St) (H:Hp) (vs:List V) (us:List Ab) (Q:St→Hp→Prop),Inv X fe σ H s→cF vs us→t vs σ H Q→
   wpAny (model X.prog X.w) X.A (assignInOrder ((assignEach ts X.env).map (·.2)) us) (fun _ s'=>∃ σ' H',Inv X fe σ' H' s'∧Q σ' H') X.xe s
instance{X:Cx}{ts:List A5}{t:TGs}:CoeFun (PGs X ts t) (fun _=>
 ∀(fe:List (Af×Obj)) (s:Ad) (σ:St) (H:Hp) (vs:List V) (us:List Ab) (Q:St→Hp→Prop),Inv X fe σ H s→cF vs us→t vs σ H Q→
  wpAny (model X.prog X.w) X.A (assignInOrder ((assignEach ts X.env).map (·.2)) us) (fun _ s'=>∃ σ' H',Inv X fe σ' H' s'∧Q σ' H') X.xe s):=⟨fun h=>h.run⟩
abbrev aHE:=V→V→V→Hp→(Hp→Prop)→Prop
def aIQ(X:Cx)(t:aHE):Prop:=
 ∀(fe:List (Af×Obj)) (s:Ad) (σ:St) (H:Hp) (o i v:V) (ov iv u:Ab) (Q:Hp→Prop),Inv X fe σ H s→cR o ov→cR i iv→cR v u→t o i v H Q→
  wpAny (model X.prog X.w) X.A (setItem ov iv u) (fun _ s'=>∃ H',Inv X fe σ H' s'∧Q H') X.xe s
section
variable{X:Cx}{pos:Pos}
def cE(i:Nat):TG:=fun v σ H Q=>Q (σ.set i (some v)) H
theorem bJ{i:Nat}{x:Str}(hN:X.N.Nodup)(hi:X.N[i]?=some x)(J:Loc X.env.scope x)(G:X.fn x=true∨X.env.scope.names.lookup x=some .local:=by first | exact .inl rfl | exact .inr rfl | assumption):PG X (.Name x pos) (cE i):=by
 constructor;intro fe s σ H v u Q I r h;exact wpAny_assign_Name (m9 I hN hi J r (fun s' O=>⟨_,H,O,h⟩) G)
def aHF:TGs:=fun vs σ H Q=>vs=[]∧Q σ H
inductive aBw(t:TG)(u:TGs)(vs:List V)(σ:St)(H:Hp)(Q:(St→Hp→Prop)):Prop
 | mk (v:_) (r:_) (q0:vs=v :: r) (q1:t v σ H fun σ' H'=>u r σ' H' Q):aBw t u vs σ H Q
def uS(t:TG)(u:TGs):TGs:=fun vs σ H Q=>aBw t u vs σ H Q
theorem gU:PGs X [] aHF:=by
 constructor;intro fe s σ H vs G Q I r h;obtain⟨e,h⟩:=h;subst e;cases r;exact assignInOrder_nil ⟨σ,H,I,h⟩
theorem cO{e:A5}{es:List A5}{t:TG}{u:TGs}(h1:PG X e t)(h2:PGs X es u)
  (U:(assignEach (e :: es) X.env).map (·.2)=assign e X.env :: (assignEach es X.env).map (·.2):=by rfl):PGs X (e :: es) (uS t u):=by
 constructor;intro fe s σ H vs W Q I r h;obtain⟨v,vr,e1,h⟩:=h;subst e1;cases r with
 | cons r J=>
  rw[U];refine assignInOrder_cons (thn (h1 fe s σ H _ _ _ I r h) fun _ s1 ⟨σ1,H1,G,O⟩=>?_);exact h2 fe s1 σ1 H1 _ _ Q G J O
inductive aDI(K:Ae)(n:Nat)(t:TGs)(v:V)(σ:St)(H:Hp)(Q:(St→Hp→Prop)):Prop
 | mk (a:_) (xs:_) (q0:v=.ref a) (q1:SqT K H a xs) (q2:xs.length=n) (q3:t xs σ H Q):aDI K n t v σ H Q
def aHG(K:Ae)(n:Nat)(t:TGs):TG:=fun v σ H Q=>aDI K n t v σ H Q
theorem jI{es:List A5}{k:Nat}{t:TGs}{n:Nat}(hc:X.calm=true)(h:PGs X es t)
  (hn:(assignEach es X.env).length=n:=by rfl) (G:(assignEach es X.env).findIdx? (·.1)=none:=by rfl):PG X (.Tuple es k pos) (aHG X.K n t):=by
 constructor;intro fe s σ H v u Q I r hw;obtain⟨a,xs,e1,hq,hl,hw⟩:=hw;subst e1;cases r;obtain⟨its,rv,ht,hz⟩:=I.tuple hq;refine assign_Tuple_tuple (I.ok.hd hc) ht (by simp[hn,← hl,rv.length]) G fun h' O=>?_;have J:Inv X fe σ H { s with heap:=h' }:=I.kept (t':=s.toks) fun b o e=>O b o (AQ (Au e)) e;exact h fe _ σ H xs _ Q J (by simpa using rv) hw
def aJK(to ti:TE)(t:aHE):TG:=fun v σ H Q=>to σ H fun o H1=>ti σ H1 fun i H2=>t o i v H2 fun H3=>Q σ H3
theorem aAF{o i:A5}{to J:TE}{t:aHE}(ho:PE X o to)(hi:PE X i J)(hs:aIQ X t)
  (ha:∀ v,assign (.Subscript o i pos) X.env v=(do
   let ov ← holding [v] (eval o X.env)
   let G ← holding [v,ov] (eval i X.env)
   standAt pos
   holding [v,ov,G] (setItem ov G v)
   release [v,ov,G] []):=by intro _;rfl):PG X (.Subscript o i pos) (aJK to J t):=by
 constructor;intro fe s σ H v u Q I r h;rw[ha];refine Aa (A7 (thn (ho fe s σ H _ I h) fun ov s1 ⟨x,H1,W,r1,Y⟩=>?_));refine Aa (A7 (thn (hi fe s1 σ H1 _ W Y) fun G U ⟨y,H2,I2,O,q2⟩=>?_));refine Aa (DN (Aa (A7 (thn (hs fe U σ H2 x y v ov G u _ I2 r1 O r q2) fun _ s3 ⟨Z,I3,q3⟩=>?_))));exact wpAny_release ⟨σ,Z,I3,q3⟩
def aHH(te:TE)(g:TG):TS:=fun D σ H=>te σ H fun x H1=>g x σ H1 D.nx
theorem iS{tg e:A5}{te:TE}{g:TG}(W:PE X e te)(G:PG X tg g)(U:swapsWithSole [tg] e pos.line X.env=pure false:=by rfl)(hw:swappedStores [tg] e X.env=pure none:=by rfl)
  (h1:(assignEach [tg] X.env).map (·.2)=[assign tg X.env]:=by rfl):PS X (.Assign [tg] e pos) (aHH te g):=by
 constructor;intro fe s σ H D I h;refine wpAny_Assign_stores (thn (W fe s σ H _ I h) fun v s1 ⟨x,H1,J,Y,O⟩=>?_) U hw;rw[h1];exact thn (G fe s1 σ H1 x v _ J Y O) fun _ Z q=>q
theorem aY{i:Nat}{x:Str}{e:A5}{te:TE}{ft:Pos}(hN:X.N.Nodup)(hi:X.N[i]?=some x)(J:Loc X.env.scope x)(Z:PE X e te)(U:swapsWith e (some (.Name x ft)) pos.line X.env=pure false:=by rfl)(W:X.fn x=true∨X.env.scope.names.lookup x=some .local:=by first | exact .inl rfl | exact .inr rfl | assumption):
  PS X (.Assign [.Name x ft] e pos) (aHH te (cE i)):=by
 constructor;intro fe s σ H D I h;refine wpAny_Assign_Name (thn (Z fe s σ H _ I h) fun v s1 ⟨y,H1,G,r1,O⟩=>?_) U;exact m9 G hN hi J r1 (fun s2 Y=>⟨_,H1,Y,O⟩) W
end
section
variable{X:Cx}{pos:Pos}
inductive yA(c:TT)(tb:TS)(D:kC)(σ:St)(H:Hp):Prop
 | mk (W:Nat→St→Hp→Prop) (q0:(∃ m,W m σ H)) (q1:∀ m σ H,W m σ H→
 c σ H fun b H1=>if b=true then∃ N:St→Hp→Prop,(∀ σ' H',N σ' H'→∃ m',m' < m∧W m' σ' H')∧tb { D with nx:=N,ct:=N,bk:=D.nx } σ H1 else D.nx σ H1):yA c tb D σ H
def aHI(c:TT)(tb:TS):TS:=fun D σ H=>yA c tb D σ H
theorem aDJ{c:A5}{G:List Br}{tc:TT}{tb:TS}(Y:PassesOwn (model X.prog X.w) X.A X.env X.xe)(hc:PT X c tc)(hb:PSs X G tb):PS X (.While c G [] pos) (aHI tc tb):=by
 constructor;intro fe s σ H D I h;obtain⟨W,⟨m0,w0⟩,turn⟩:=h;refine wpAny_While (codeAny_whileLoop (fun n s'=>∃ U H',Inv X fe U H' s'∧W n U H') ?_ m0 ⟨σ,H,I,w0⟩);rintro n s1 ⟨σ1,H1,I1,w1⟩;refine CK Y (thn (hc fe s1 σ1 H1 _ I1 (turn n σ1 H1 w1)) fun b s2 ⟨H2,Z,O⟩=>?_);cases b with
 | true=>
  obtain⟨N,hN,O⟩:=O;rw[Ib rfl];refine CK Y (thn (hb fe s2 σ1 H2 _ Z O) fun f s3 J=>?_);cases f with
  | next=>
   obtain⟨σ3,H3,I3,n3⟩:=J;obtain⟨m',hm,w3⟩:=hN σ3 H3 n3;exact⟨m',hm,σ3,H3,I3,w3⟩
  | cont=>
   obtain⟨σ3,H3,I3,n3⟩:=J;obtain⟨m',hm,w3⟩:=hN σ3 H3 n3;exact⟨m',hm,σ3,H3,I3,w3⟩
  | brk=>exact J
  | ret v=>exact J
 | false=>
  rw[Ia AG];exact Dc ⟨σ1,H2,Z,O⟩
end
structure It where
 go:Nat→Hp→Prop
 yld:Nat→Hp→V→Hp→Prop
 stop:Nat→Hp→Prop
def nB(X:Cx)(fe:List (Af×Obj))(H:Hp)(b:Af):Prop:=
 H b=none∧b≠X.env.locals∧b ∉ X.fs∧(b∈X.ex∨X.s₀.heap.objs.size≤b)∧(∀ x c,X.env.cells.lookup x=some c→c≠b)∧∀ p∈X.pn ++ fe,p.1≠b
theorem Inv.fpOk{X:Cx}{fe:List (Af×Obj)}{σ:St}{H H':Hp}{s:Ad}{b:Af}(I:Inv X fe σ H s)(G:s.heap.objs.size≤b)(hn:H' b=none):nB X fe H' b:=by
 refine⟨hn,CT (AR I.lt G),I.nofs G,.inr (AM I.sz G),fun x c e z=>?_,fun p J z=>?_⟩
 ·obtain⟨v,q⟩:=I.cell x c e;exact absurd (AR q.lt (by rw[z];exact G)) (BN _)
 ·exact absurd (AR (Au (I.pin p J).1) (by rw[z];exact G)) (BN _)
structure yB(P:Al)(w:AH)(K:Ae)(tg:A5)(J:It)(fp:List Af)(it:Af)(tn:Nat→A1→Prop):Prop where
 mem:it∈fp
 obj:∀ i h,tn i h→∀ b∈fp,∃ o,h.get? b=some o∧∀ v,o.data≠.cell v
 keep:∀ i h h',tn i h→(∀ b∈fp,∀ o,h.get? b=some o→h'.get? b=some o)→tn i h'
 item:∀(X:Cx),X.prog=P→X.w=w→X.K=K→X.calm=true→∀(i:Nat) (fe:List (Af×Obj)) (s:Ad) (σ:St) (H:Hp) (E:Ab→Ad→Prop),Inv X fe σ H s→(∀ b∈fp,nB X fe H b)→tn i s.heap→J.go i H→
  wpAny (model P w) X.A (pyNext (.ref it)) (fun r s1=>∃ u,r=some u∧
   wpAny (model P w) X.A (letOwnedTupleGo tg (.ref it) u) (fun _ s2=>∃ x H',Inv X fe σ H' s2∧cR x u∧J.yld i H x H'∧tn (i + 1) s2.heap∧∀ b∈fp,H' b=none) E s1) E s
 done:∀(X:Cx),X.prog=P→X.w=w→X.K=K→X.calm=true→∀(i:Nat) (fe:List (Af×Obj)) (s:Ad) (σ:St) (H:Hp) (E:Ab→Ad→Prop),Inv X fe σ H s→(∀ b∈fp,nB X fe H b)→tn i s.heap→J.stop i H→
  wpAny (model P w) X.A (pyNext (.ref it)) (fun r s1=>r=none∧Inv X fe σ H s1) E s
 self:∀(A:AB) (i:Nat) (s:Ad) (Q:Ab→Ad→Prop) (E:Ab→Ad→Prop),tn i s.heap→Q (.ref it) s→wpAny (model P w) A (pyIter (.ref it)) Q E s
abbrev TI:=St→Hp→(It→Hp→Prop)→Prop
inductive aG9(X:Cx)(fe:List (Af×Obj))(σ:St)(tg:A5)(R:It→Hp→Prop)(itv:Ab)(s2:Ad):Prop
 | mk (it:Af) (fp:List Af) (tn:Nat→A1→Prop) (J:It) (H':Hp) (q0:itv=.ref it) (q1:Inv X fe σ H' s2) (q2:yB X.prog X.w X.K tg J fp it tn) (q3:tn 0 s2.heap) (q4:(∀ b∈fp,nB X fe H' b)) (q5:R J H'):aG9 X fe σ tg R itv s2
def PIE(X:Cx)(fe:List (Af×Obj))(σ:St)(tg:A5)(R:It→Hp→Prop)(itv:Ab)(s2:Ad):Prop:=aG9 X fe σ tg R itv s2
structure PI(X:Cx)(tg iter:A5)(wi:TI):Prop where
 run:
  ∀(fe:List (Af×Obj)) (s:Ad) (σ:St) (H:Hp) (R:It→Hp→Prop),Inv X fe σ H s→wi σ H R→
   wpAny (model X.prog X.w) X.A (eval iter X.env) (fun v s1=>wpAny (model X.prog X.w) X.A (pyIter v) (PIE X fe σ tg R) X.xe s1) X.xe s
instance{X:Cx}{tg iter:A5}{wi:TI}:CoeFun (PI X tg iter wi) (fun _=>
 ∀(fe:List (Af×Obj)) (s:Ad) (σ:St) (H:Hp) (R:It→Hp→Prop),Inv X fe σ H s→wi σ H R→
  wpAny (model X.prog X.w) X.A (eval iter X.env) (fun v s1=>wpAny (model X.prog X.w) X.A (pyIter v) (PIE X fe σ tg R) X.xe s1) X.xe s):=⟨fun h=>h.run⟩
theorem yC{M : Dw}{A : AB}{E : Ab → Ad → Prop}{s : Ad}{tg : A5}{it : Af}{u : Ab}{o : Obj}{n : String}{vs : Array Ab}{Q : Unit → Ad → Prop}(J : s.heap.get? it = some o)(hc : o.cls = .type n)(hd : o.data = .fields vs)
    (hn : ["enumerate", "zip", "dict_itemiterator", "dict_reverseitemiterator", "odict_iterator", "itertools.zip_longest", "itertools.pairwise"].contains n = false) (G : Q () s) : wpAny M A (letOwnedTupleGo tg (.ref it) u) Q E s := by
  unfold letOwnedTupleGo;cases tg <;> first
    | exact Ag G
    | (cases u <;> first
        | exact Ag G
        | (refine Aa (wpAny_load J ?_)
           rw[hc, hd];show wpAny M A (if (["enumerate", "zip", "dict_itemiterator", "dict_reverseitemiterator", "odict_iterator", "itertools.zip_longest", "itertools.pairwise"].contains n && vs[0]? == some (rawInt _)) = true then _ else _) Q E s;rw[Ia (by intro h;rw[hn, Bg]at h;cases h)];exact Ag G))
def Itl(K:Ae)(a:Af):It:=
 ⟨fun i H=>∃ xs x,SqL K H a xs∧xs[i]?=some x,fun i H x H'=>H'=H∧∀ xs,SqL K H a xs→xs[i]?=some x,fun i H=>∃ xs,SqL K H a xs∧xs.length≤i⟩
def Itt(K:Ae)(a:Af):It:=
 ⟨fun i H=>∃ xs x,SqT K H a xs∧xs[i]?=some x,fun i H x H'=>H'=H∧∀ xs,SqT K H a xs→xs[i]?=some x,fun i H=>∃ xs,SqT K H a xs∧xs.length≤i⟩
def Itr(lo:Int)(n:Nat):It:=⟨fun i _=>i < n,fun i H x H'=>H'=H∧x=.int (lo + i),fun i _=>n≤i⟩
theorem aCL{P:Al}{w:AH}{K:Ae}{tg:A5}(a it:Af):yB P w K tg (Itl K a) [it] it (fun i h=>h.IsListIter it a i) where
 mem:=by simp
 obj:=fun i h st b G=>by
  have e:b=it:=by simpa using G
  subst e;obtain⟨o,e,c,d⟩:=st;exact⟨o,e,fun v z=>by rw[d]at z;cases z⟩
 keep:=fun i h h' st k=>st.at fun o e=>k it (by simp) o e
 item:=by
  intro X U hw Y hc i fe s σ H E I O st W;subst U hw Y;obtain⟨xs,x,hq,hx⟩:=W;obtain⟨its,rv,p,hz⟩:=I.list hq;obtain⟨u,hu,ru⟩:=rv.get hx;obtain⟨f0,f1,f2,f3,f4,f5⟩:=O it (by simp);refine wpAny_pyNext_list_item st p.isList (x:=u) (by simpa using hu) fun h' J Z=>?_;have I1:Inv X fe σ H { s with heap:=h' }:=I.turned (t':=s.toks) (fun b o G e=>(Z.2 b G).trans e) f0 f1 f3 f4 f5;obtain⟨o,e,c,d⟩:=id J;exact⟨u,rfl,yC (s:={ s with heap:=h' }) e c d (by decide) ⟨x,H,I1,ru,⟨rfl,fun ys hy=>by rw[I.list_inj hy hq];exact hx⟩,J,fun b G=>(O b G).1⟩⟩
 done:=by
  intro X U hw Y hc i fe s σ H E I O st W;subst U hw Y;obtain⟨xs,hq,hx⟩:=W;obtain⟨its,rv,p,hz⟩:=I.list hq;obtain⟨f0,f1,f2,f3,f4,f5⟩:=O it (by simp);have hl:=rv.length;exact wpAny_pyNext_list_end (I.ok.hd hc) st p.isList (by simp;omega) fun h' eb=>⟨rfl,I.turned (t':=s.toks) (fun b o G e=>eb b o G e) f0 f1 f3 f4 f5⟩
 self:=fun _ _ _ _ _ st h=>wpAny_pyIter_listiter st h
theorem aAG{P:Al}{w:AH}{K:Ae}{tg:A5}(a it:Af):yB P w K tg (Itt K a) [it] it (fun i h=>h.IsTupleIter it a i) where
 mem:=by simp
 obj:=fun i h st b G=>by
  have e:b=it:=by simpa using G
  subst e;obtain⟨o,e,c,d⟩:=st;exact⟨o,e,fun v z=>by rw[d]at z;cases z⟩
 keep:=fun i h h' st k=>st.at fun o e=>k it (by simp) o e
 item:=by
  intro X U hw Y hc i fe s σ H E I O st W;subst U hw Y;obtain⟨xs,x,hq,hx⟩:=W;obtain⟨its,rv,p,hz⟩:=I.tuple hq;obtain⟨u,hu,ru⟩:=rv.get hx;obtain⟨f0,f1,f2,f3,f4,f5⟩:=O it (by simp);refine wpAny_pyNext_tuple_item st (show s.heap.IsTuple a its.toArray from p) (x:=u) (by simpa using hu) fun h' J Z=>?_;have I1:Inv X fe σ H { s with heap:=h' }:=I.turned (t':=s.toks) (fun b o G e=>(Z.2 b G).trans e) f0 f1 f3 f4 f5;obtain⟨o,e,c,d⟩:=id J;exact⟨u,rfl,yC (s:={ s with heap:=h' }) e c d (by decide) ⟨x,H,I1,ru,⟨rfl,fun ys hy=>by rw[I.tuple_inj hy hq];exact hx⟩,J,fun b G=>(O b G).1⟩⟩
 done:=by
  intro X U hw Y hc i fe s σ H E I O st W;subst U hw Y;obtain⟨xs,hq,hx⟩:=W;obtain⟨its,rv,p,hz⟩:=I.tuple hq;obtain⟨f0,f1,f2,f3,f4,f5⟩:=O it (by simp);have hl:=rv.length;exact wpAny_pyNext_tuple_end (I.ok.hd hc) st (show s.heap.IsTuple a its.toArray from p) (by simp;omega) fun h' eb=>⟨rfl,I.turned (t':=s.toks) (fun b o G e=>eb b o G e) f0 f1 f3 f4 f5⟩
 self:=fun _ _ _ _ _ st h=>wpAny_pyIter_tupleiter st h
theorem aAH{P:Al}{w:AH}{K:Ae}{tg:A5}(it:Af)(lo:Int)(n:Nat):yB P w K tg (Itr lo n) [it] it (fun i h=>FE h it (lo + (i:Nat) * 1) ((n:Int) - (i:Nat)) 1) where
 mem:=by simp
 obj:=fun i h st b G=>by
  have e:b=it:=by simpa using G
  subst e;exact⟨_,st,fun v z=>by
   have z':Fj _=Data.cell v:=z;cases z'⟩
 keep:=fun i h h' st k=>k it (by simp) _ st
 item:=by
  intro X U hw Z hc i fe s σ H E I O st Y;subst U hw Z;obtain⟨f0,f1,f2,f3,f4,f5⟩:=O it (by simp);have W:=Walks.range (prog:=X.prog) (w:=X.w) (I.ok.hd hc) it lo 1 n;refine W.item i s _ _ Y st fun v h' tk hv J kk=>?_;obtain⟨t,rfl⟩:=hv;have I1:Inv X fe σ H { s with heap:=h',toks:=tk }:=I.turned (fun b o G e=>kk b o (by simpa using G) e) f0 f1 f3 f4 f5;refine⟨_,rfl,yC (s:={ s with heap:=h',toks:=tk }) (n:="range_iterator") J rfl rfl (by decide) ⟨.int (lo + i),H,I1,⟨t,?_⟩,⟨rfl,rfl⟩,J,fun b G=>(O b G).1⟩⟩;rw[Int.mul_one]
 done:=by
  intro X U hw Z hc i fe s σ H E I O st Y;subst U hw Z;obtain⟨f0,f1,f2,f3,f4,f5⟩:=O it (by simp);exact wpAny_pyNext_range_end (I.ok.hd hc) st (by have:n≤i:=Y;omega) fun h' eb=>⟨rfl,I.turned (t':=s.toks) (fun b o G e=>eb b o G e) f0 f1 f3 f4 f5⟩
 self:=fun _ _ _ _ _ st h=>wpAny_pyIter_rangeiter st h
section
variable{X:Cx}{tg:A5}
def aIR(K:Ae)(tl:TE):TI:=fun σ H R=>tl σ H fun x H1=>As V.ref x fun a=>(∃ xs,SqL K H1 a xs)∧R (Itl K a) H1
def aJL(K:Ae)(tl:TE):TI:=fun σ H R=>tl σ H fun x H1=>As V.ref x fun a=>(∃ xs,SqT K H1 a xs)∧R (Itt K a) H1
theorem aBx{l:A5}{tl:TE}(J:PE X l tl):PI X tg l (aIR X.K tl):=by
 constructor;intro fe s σ H R I h;refine thn (J fe s σ H _ I h) fun v s1 ⟨x,H1,G,U,O⟩=>?_;obtain⟨a,e,⟨xs,hq⟩,q⟩:=O;subst e;cases U;obtain⟨its,rv,p,hz⟩:=G.list hq;refine Fn p.isList ?_;refine⟨s1.heap.objs.size,[s1.heap.objs.size],_,_,H1,rfl,G.kept (t':=s1.toks) fun b o e=>Ah _ e,aCL a _,⟨_,AA _ rfl,rfl,rfl⟩,fun b W=>?_,q⟩;have e:b=s1.heap.objs.size:=by simpa using W
 subst e;exact G.fpOk (An _) (G.hok.fresh (An _))
theorem jJ{l:A5}{tl:TE}(J:PE X l tl):PI X tg l (aJL X.K tl):=by
 constructor;intro fe s σ H R I h;refine thn (J fe s σ H _ I h) fun v s1 ⟨x,H1,G,U,O⟩=>?_;obtain⟨a,e,⟨xs,hq⟩,q⟩:=O;subst e;cases U;obtain⟨its,rv,p,hz⟩:=G.tuple hq;refine wpAny_pyIter_tuple (show s1.heap.IsTuple a its.toArray from p) ?_;refine⟨s1.heap.objs.size,[s1.heap.objs.size],_,_,H1,rfl,G.kept (t':=s1.toks) fun b o e=>Ah _ e,aAG a _,⟨_,AA _ rfl,rfl,rfl⟩,fun b W=>?_,q⟩;have e:b=s1.heap.objs.size:=by simpa using W
 subst e;exact G.fpOk (An _) (G.hok.fresh (An _))
theorem yD{fe:List (Af×Obj)}{σ:St}{H:Hp}{s:Ad}{R:It→Hp→Prop}{E:Ab→Ad→Prop}{lo hi:Int}{t u v:Tok}{tk:Nat}(I:Inv X fe σ H s)(h1:-(2 ^ 62)≤lo)(h2:lo < 2 ^ 62)(O:-(2 ^ 62)≤hi)(W:hi < 2 ^ 62)
  (q:R (Itr lo (hi - lo).toNat) H):wpAny (model X.prog X.w) X.A (pyIter (.ref s.heap.objs.size)) (PIE X fe σ tg R) E { s with heap:=s.heap.push { cls:=.type "range",data:=.fields #[.int lo t,.int hi u,.int 1 v] },toks:=tk }:=by
 refine wpAny_pyIter_range (IsRange.new ..) (small_one h1 h2 O W) ?_;have G:Inv X fe σ H { s with heap:=s.heap.push { cls:=.type "range",data:=.fields #[.int lo t,.int hi u,.int 1 v] },toks:=tk }:=I.kept fun b o e=>Ah _ e;refine⟨(s.heap.push { cls:=.type "range",data:=.fields #[.int lo t,.int hi u,.int 1 v] }).objs.size,[(s.heap.push { cls:=.type "range",data:=.fields #[.int lo t,.int hi u,.int 1 v] }).objs.size],_,_,H,rfl,
  G.kept (t':=tk) fun b o e=>Ah _ e,aAH _ lo (hi - lo).toNat,?_,fun b Y=>?_,q⟩
 ·have U:lo + ((0:Nat):Int) * 1=lo:=by simp
  have J:(((hi - lo).toNat:Nat):Int) - ((0:Nat):Int)=B9 lo hi 1:=by rw[rangeSize_one];split <;> omega
  show FE _ _ (lo + ((0:Nat):Int) * 1) ((((hi - lo).toNat:Nat):Int) - ((0:Nat):Int)) 1;rw[U,J];exact AA _ rfl
 ·have e:b=(s.heap.push { cls:=.type "range",data:=.fields #[.int lo t,.int hi u,.int 1 v] }).objs.size:=by simpa using Y
  subst e;exact G.fpOk (An _) (G.hok.fresh (An _))
def aIS(ta:TA):TI:=fun σ H R=>ta σ H fun vs H1=>∃ j:Int,vs=[.int j]∧-(2 ^ 62)≤j∧j < 2 ^ 62∧R (Itr 0 j.toNat) H1
def aIT(ta:TA):TI:=fun σ H R=>ta σ H fun vs H1=>∃ i j:Int,vs=[.int i,.int j]∧(-(2 ^ 62)≤i∧i < 2 ^ 62∧-(2 ^ 62)≤j∧j < 2 ^ 62)∧R (Itr i (j - i).toNat) H1
theorem hJ{a:A5}{ta:TA}{p pos:Pos}(J:Gl X "range")(hm:X.mg "range"=none)(ha:PA X [a] ta)(W:starEach [a] X.env=[(false,eval a X.env)]:=by rfl):PI X tg (.Call (.Name "range" p) [a] [] pos) (aIS ta):=by
 constructor;intro fe s σ H R I h;refine Call_ (mJ I J hm boot_range (BU (thn (ha pos fe s σ H _ I h) fun Z s1 ⟨vs,H1,O,Y,G⟩=>?_) W rfl));obtain⟨j,e,G,q2,q⟩:=G;subst e;cases Y with
 | cons r U=>
  cases U;obtain⟨t,rfl⟩:=r;exact call_range_1 (yD O (by omega) (by omega) G q2 (by simpa using q))
theorem aCM{a b:A5}{ta:TA}{p pos:Pos}(U:Gl X "range")(hm:X.mg "range"=none)(ha:PA X [a,b] ta)(Z:starEach [a,b] X.env=[(false,eval a X.env),(false,eval b X.env)]:=by rfl)(G:starEach [b] X.env=[(false,eval b X.env)]:=by rfl):
  PI X tg (.Call (.Name "range" p) [a,b] [] pos) (aIT ta):=by
 constructor;intro fe s σ H R I h;refine Call_ (mJ I U hm boot_range (BU (thn (ha pos fe s σ H _ I h) fun us s1 ⟨vs,H1,W,r1,O⟩=>?_) (by rw[Z,G]) (by rw[G];rfl)));obtain⟨i,j,e,⟨O,q2,q3,q4⟩,q⟩:=O;subst e;cases r1 with
 | cons r J=>
  cases J with
  | cons Y J=>
   cases J;obtain⟨t,rfl⟩:=r;obtain⟨t',rfl⟩:=Y;exact call_range_2 (yD W O q2 q3 q4 q)
def aJM(wi:TI)(g:TG)(tb:TS):TS:=fun D σ H=>wi σ H fun J H1=>∃ W:Nat→Nat→St→Hp→Prop,(∃ m,W 0 m σ H1)∧∀ i m σ H,W i m σ H→
 (J.stop i H∧D.nx σ H)∨(J.go i H∧∃ N:St→Hp→Prop,(∀ σ' H',N σ' H'→∃ m',m' < m∧W (i + 1) m' σ' H')∧∀ x H',J.yld i H x H'→g x σ H' fun σ2 H2=>tb { D with nx:=N,ct:=N,bk:=D.nx } σ2 H2)
def mK(fp:List Af)(h:A1):List (Af×Obj):=fp.filterMap fun b=>(h.get? b).map fun o=>(b,o)
theorem jK{G:List Af}{h:A1}{b:Af}{o:Obj}(J:b∈G)(e:h.get? b=some o):(b,o)∈mK G h:=Bl.mpr ⟨b,J,by rw[e];rfl⟩
theorem uT{G:List Af}{h:A1}{p:Af×Obj}(J:p∈mK G h):p.1∈G∧h.get? p.1=some p.2:=by
 obtain⟨b,hb,e⟩:=Bl.mp J;cases q:h.get? b with
 | none=>rw[q]at e;cases e
 | some o=>
  rw[q]at e;have O:(b,o)=p:=BD.inj e;subst O;exact⟨hb,q⟩
theorem Inv.pinned{fe:List (Af×Obj)}{σ:St}{H:Hp}{s:Ad}{G:List Af}(I:Inv X fe σ H s)(O:∀ b∈G,nB X fe H b)(U:∀ b∈G,∃ o,s.heap.get? b=some o∧∀ v,o.data≠.cell v):Inv X (fe ++ mK G s.heap) σ H s:=
 I.pins_of fun p J=>(Bo.mp J).elim (fun z=>I.pin p (A6 _ z)) fun z=>by
  obtain⟨hb,e⟩:=uT z;obtain⟨f0,f1,f2,_⟩:=O p.1 hb;obtain⟨o,e',d⟩:=U p.1 hb;rw[e]at e';cases e';exact⟨e,f0,f1,f2,d⟩
theorem Inv.unpinned{fe pl:List (Af×Obj)}{σ:St}{H:Hp}{s:Ad}(I:Inv X (fe ++ pl) σ H s):Inv X fe σ H s:=I.pins_of fun p G=>I.pin p (A6 _ (BV _ G))
theorem iT{Y:A5}{aa:List Br}{wi:TI}{g:TG}{tb:TS}{pos:Pos}(hp:PassesOwn (model X.prog X.w) X.A X.env X.xe)(hc:X.calm=true)(hi:PI X tg Y wi)(hg:PG X tg g)(Z:PSs X aa tb)
  (hs:∀ x,foldedSetIterable Y X.env x=pure x:=by intro _;rfl):PS X (.For tg Y aa [] pos) (aJM wi g tb):=by
 constructor;intro fe s σ H D I h;refine wpAny_For (thn (hi fe s σ H _ I h) fun v s1 h1=>thn h1 fun bd s2 h2=>?_) hs;obtain⟨it,fp,tn,J,H2,e,I2,T,st2,f2,W,⟨m0,w0⟩,turn⟩:=h2;subst e;have U:∀{H':Hp},(∀ b∈fp,H' b=none)→∀ b∈fp,nB X fe H' b:=fun hn b Z=>⟨hn b Z,(f2 b Z).2⟩
 refine codeAny_forLoop_any (fun n s'=>∃ i σ' H',Inv X fe σ' H' s'∧tn i s'.heap∧(∀ b∈fp,H' b=none)∧W i n σ' H') ?_ m0 ⟨0,σ,H2,I2,st2,fun b Z=>(f2 b Z).1,w0⟩;rintro n s3 ⟨i,σ3,H3,I3,ah,ag,w3⟩;rcases turn i n σ3 H3 w3 with⟨stop,qn⟩ | ⟨go,N,hN,step⟩
 ·refine CK hp (thn (T.done X rfl rfl rfl hc i fe s3 σ3 H3 X.xe I3 (U ag) ah stop) fun r s4 ⟨hr,I4⟩=>?_);subst hr;exact Dc ⟨σ3,H3,I4,qn⟩
 ·refine CK hp (thn (T.item X rfl rfl rfl hc i fe s3 σ3 H3 X.xe I3 (U ag) ah go) fun r s4 ⟨u,hr,h4⟩=>?_);subst hr;refine CK hp (thn h4 fun _ s5 ⟨x,H5,I5,r5,y5,ad,ao⟩=>?_);have ak:=I5.pinned (U ao) (T.obj _ _ ad);refine CK hp (thn (hg _ s5 σ3 H5 x u _ ak r5 (step x H5 y5)) fun _ s6 ⟨σ6,H6,I6,q6⟩=>?_);refine CK hp (thn (Z _ s6 σ6 H6 _ I6 q6) fun f s7 q7=>?_);have again:∀{G:St} {O:Hp},Inv X (fe ++ mK fp s5.heap) G O s7→N G O→∃ m,m < n∧∃ i σ' H',Inv X fe σ' H' s7∧tn i s7.heap∧(∀ b∈fp,H' b=none)∧W i m σ' H':=fun{G O} I7 n7=>by
   obtain⟨m',hm,w7⟩:=hN G O n7;refine⟨m',hm,i + 1,G,O,I7.unpinned,T.keep _ _ _ ad fun b Z o e=>(I7.pin (b,o) (A6 _ (A6 _ (jK Z e)))).1,fun b Z=>?_,w7⟩;obtain⟨o,e,d⟩:=T.obj _ _ ad b Z;exact(I7.pin (b,o) (A6 _ (A6 _ (jK Z e)))).2.1
  cases f with
  | next=>obtain⟨G,O,I7,n7⟩:=q7;exact again I7 n7
  | cont=>obtain⟨G,O,I7,n7⟩:=q7;exact again I7 n7
  | brk=>obtain⟨G,O,I7,q7⟩:=q7;exact⟨G,O,I7.unpinned,q7⟩
  | ret v=>obtain⟨x7,G,O,I7,r7,q7⟩:=q7;exact⟨x7,G,O,I7.unpinned,r7,q7⟩
end
theorem qL{K:Ae}{a:Af}{xs:List V}{g:TG}{tb:TS}{D:kC}{σ:St}{H:Hp}(G:Nat→St→Hp→Prop)(Z:G 0 σ H)(hl:∀ i σ H,i≤xs.length→G i σ H→SqT K H a xs)
  (hs:∀ i x σ H,xs[i]?=some x→G i σ H→g x σ H fun U H2=>tb { D with nx:=G (i + 1),ct:=G (i + 1),bk:=D.nx } U H2) (hd:∀ σ H,G xs.length σ H→D.nx σ H):
  ∃ W:Nat→Nat→St→Hp→Prop,(∃ m,W 0 m σ H)∧∀ i m σ H,W i m σ H→
   ((Itt K a).stop i H∧D.nx σ H)∨((Itt K a).go i H∧∃ N:St→Hp→Prop,(∀ O H',N O H'→∃ Y,Y < m∧W (i + 1) Y O H')∧∀ x H',(Itt K a).yld i H x H'→g x σ H' fun U H2=>tb { D with nx:=N,ct:=N,bk:=D.nx } U H2):=by
 refine⟨fun i m σ H=>m=xs.length - i∧i≤xs.length∧G i σ H,⟨xs.length,by simp,Bs _,Z⟩,?_⟩;rintro i m σ H ⟨rfl,hi,p⟩;have q:=hl i σ H hi p;by_cases J:i < xs.length
 ·refine .inr ⟨⟨xs,xs[i],q,by simp[J]⟩,G (i + 1),fun O H' p'=>⟨xs.length - (i + 1),by omega,rfl,J,p'⟩,fun x H' y=>?_⟩;obtain⟨e,y⟩:=y;subst e;exact hs i x σ _ (y xs q) p
 ·have e:i=xs.length:=by omega
  subst e;exact .inl ⟨⟨xs,q,An _⟩,hd σ H p⟩
theorem iX{lo:Int}{n:Nat}{g:TG}{tb:TS}{D:kC}{σ:St}{H:Hp}(J:Nat→St→Hp→Prop)(Z:J 0 σ H)
  (hs:∀ i σ H,i < n→J i σ H→g (.int (lo + i)) σ H fun U H2=>tb { D with nx:=J (i + 1),ct:=J (i + 1),bk:=D.nx } U H2) (hd:∀ σ H,J n σ H→D.nx σ H):
  ∃ W:Nat→Nat→St→Hp→Prop,(∃ m,W 0 m σ H)∧∀ i m σ H,W i m σ H→
   ((Itr lo n).stop i H∧D.nx σ H)∨((Itr lo n).go i H∧∃ N:St→Hp→Prop,(∀ O H',N O H'→∃ Y,Y < m∧W (i + 1) Y O H')∧∀ x H',(Itr lo n).yld i H x H'→g x σ H' fun U H2=>tb { D with nx:=N,ct:=N,bk:=D.nx } U H2):=by
 refine⟨fun i m σ H=>m=n - i∧i≤n∧J i σ H,⟨n,by simp,Bs _,Z⟩,?_⟩;rintro i m σ H ⟨rfl,hi,p⟩;by_cases G:i < n
 ·refine .inr ⟨G,J (i + 1),fun O H' p'=>⟨n - (i + 1),by omega,rfl,G,p'⟩,fun x H' y=>?_⟩;obtain⟨e,y⟩:=y;subst e y;exact hs i σ _ G p
 ·have e:i=n:=by omega
  subst e;exact .inl ⟨An _,hd σ H p⟩
abbrev R2:=V→V→Hp→VK→Prop
def OpR(X:Cx)(f:Ab→Ab→Sem Ab)(r:R2):Prop:=
 ∀(fe:List (Af×Obj)) (s:Ad) (σ:St) (H:Hp) (x y:V) (v u:Ab) (Q:VK),Inv X fe σ H s→cR x v→cR y u→r x y H Q→
  wpAny (model X.prog X.w) X.A (f v u) (EP X fe σ Q) X.xe s
def UnR(X:Cx)(f:Ab→Sem Ab)(r:V→Hp→VK→Prop):Prop:=
 ∀(fe:List (Af×Obj)) (s:Ad) (σ:St) (H:Hp) (x:V) (v:Ab) (Q:VK),Inv X fe σ H s→cR x v→r x H Q→
  wpAny (model X.prog X.w) X.A (f v) (EP X fe σ Q) X.xe s
def fT(X:Cx)(f:Ab)(r:List V→Hp→VK→Prop):Prop:=
 ∀(fe:List (Af×Obj)) (s:Ad) (σ:St) (H:Hp) (xs:List V) (us:List Ab) (Q:VK),Inv X fe σ H s→cF xs us→r xs H Q→
  wpAny (model X.prog X.w) X.A (call f us) (EP X fe σ Q) X.xe s
def tOp(r:R2)(ta tb:TE):TE:=fun σ H Q=>ta σ H fun x H1=>tb σ H1 fun y H2=>r x y H2 Q
def tUn(r:V→Hp→VK→Prop)(ta:TE):TE:=fun σ H Q=>ta σ H fun x H1=>r x H1 Q
inductive aIU(C:Int→Int→Prop)(g:Int→Int→V)(x:V)(y:V)(H:Hp)(Q:VK):Prop
 | mk (i:_) (j:_) (q0:x=.int i) (q1:y=.int j) (q2:C i j) (q3:Q (g i j) H):aIU C g x y H Q
def rI(C:Int→Int→Prop)(g:Int→Int→V):R2:=fun x y H Q=>aIU C g x y H Q
inductive aHa(g:Int→Int→V)(x:V)(y:V)(H:Hp)(Q:VK):Prop
 | mk (i:_) (j:_) (q0:x=.int i) (q1:y=.int j) (q2:Q (g i j) H):aHa g x y H Q
def rI0(g:Int→Int→V):R2:=fun x y H Q=>aHa g x y H Q
inductive aIV(g:Int→V)(x:V)(H:Hp)(Q:VK):Prop
 | mk (i:_) (q0:x=.int i) (q1:Q (g i) H):aIV g x H Q
def rU(g:Int→V):V→Hp→VK→Prop:=fun x H Q=>aIV g x H Q
section
variable{X:Cx}{a b c:A5}{ta tb tc:TE}{pos:Pos}
theorem aHJ(ha:PE X a ta)(hb:PE X b tb){fe:List (Af×Obj)}{s:Ad}{σ:St}{H:Hp}{R:V→V→Hp→Prop}(I:Inv X fe σ H s)
  (h:ta σ H fun x H1=>tb σ H1 fun y H2=>R x y H2) {Q:Ab→Ad→Prop} {f:Ab→Ab→Sem Ab}
  (Y:∀ v u G x y H2,Inv X fe σ H2 G→cR x v→cR y u→R x y H2→wpAny (model X.prog X.w) X.A (f v u) Q X.xe G):
  wpAny (model X.prog X.w) X.A (eval a X.env) (fun v s₁=>wpAny (model X.prog X.w) X.A (eval b X.env) (fun u Z=>wpAny (model X.prog X.w) X.A (f v u) Q X.xe Z) X.xe s₁) X.xe s:=by
 refine thn (ha fe s σ H _ I h) fun v s1 ⟨x,H1,O,r1,U⟩=>?_;refine thn (hb fe s1 σ H1 _ O U) fun u G ⟨y,H2,I2,J,W⟩=>?_;exact Y v u G x y H2 I2 r1 J W
theorem aX{G:Operator}{r:R2}(W:OpR X (binaryOp G) r)(ha:PE X a ta)(Z:PE X b tb):PE X (.BinOp a G b pos) (tOp r ta tb):=by
 constructor;intro fe s σ H Q I h;exact wpAny_BinOp (aHJ ha Z I h fun v u O x y H2 Y J U q=>W fe O σ H2 x y v u Q Y J U q)
theorem rC{G:UnaryOp}{r:V→Hp→VK→Prop}(O:UnR X (unaryOp G) r)(ha:PE X a ta):PE X (.UnaryOp G a pos) (tUn r ta):=by
 constructor;intro fe s σ H Q I h;exact UnaryOp_ (thn (ha fe s σ H _ I h) fun v s1 ⟨x,H1,J,W,U⟩=>O fe s1 σ H1 x v Q J W U)
theorem opI{f:Ab→Ab→Sem Ab}{C:Int→Int→Prop}{g:Int→Int→Int}
  (G:∀(i j:Int) (t u:Tok) (s:Ad) (Q:Ab→Ad→Prop) (E:Ab→Ad→Prop),C i j→Q (.int (g i j) s.toks) { s with toks:=s.toks + 1 }→wpAny (model X.prog X.w) X.A (f (.int i t) (.int j u)) Q E s):
  OpR X f (rI C fun i j=>.int (g i j)):=by
 intro fe s σ H x y v u Q I J O h;obtain⟨i,j,rfl,rfl,hc,q⟩:=h;obtain⟨t,rfl⟩:=J;obtain⟨t',rfl⟩:=O;exact G i j t t' s _ _ hc ⟨.int (g i j),H,I.tok _,⟨_,rfl⟩,q⟩
theorem aIW{f:Ab→Ab→Sem Ab}{g:Int→Int→Int}
  (G:∀(i j:Int) (t u:Tok) (s:Ad) (Q:Ab→Ad→Prop) (E:Ab→Ad→Prop),Q (.int (g i j) s.toks) { s with toks:=s.toks + 1 }→wpAny (model X.prog X.w) X.A (f (.int i t) (.int j u)) Q E s):
  OpR X f (rI0 fun i j=>.int (g i j)):=by
 intro fe s σ H x y v u Q I J O h;obtain⟨i,j,rfl,rfl,q⟩:=h;obtain⟨t,rfl⟩:=J;obtain⟨t',rfl⟩:=O;exact G i j t t' s _ _ ⟨.int (g i j),H,I.tok _,⟨_,rfl⟩,q⟩
theorem aFW{f:Ab→Ab→Sem Ab}{g:Int→Int→Bool}
  (G:∀(i j:Int) (t u:Tok) (s:Ad) (Q:Ab→Ad→Prop) (E:Ab→Ad→Prop),Q (.bool (g i j)) s→wpAny (model X.prog X.w) X.A (f (.int i t) (.int j u)) Q E s):
  OpR X f (rI0 fun i j=>.bl (g i j)):=by
 intro fe s σ H x y v u Q I J O h;obtain⟨i,j,rfl,rfl,q⟩:=h;obtain⟨t,rfl⟩:=J;obtain⟨t',rfl⟩:=O;exact G i j t t' s _ _ ⟨.bl (g i j),H,I,rfl,q⟩
def aJN(i j:Int):Prop:=0 < j∧j < 1073741824
def aFX(i j:Int):Prop:=0≤j∧j≤1000000∧i.natAbs < 2 ^ 64
def aHK(i j:Int):Prop:=(-(2 ^ 64) < i∧i < 2 ^ 64)∨(-(2 ^ 64) < j∧j < 2 ^ 64)
theorem aHK.ok{i j:Int}(h:aHK i j):IntMulOk i j:=by
 rcases h with⟨h1,h2⟩ | ⟨h1,h2⟩
 ·exact .of_left (intBits_le_64 h1 h2)
 ·exact .of_right (intBits_le_64 h1 h2)
theorem c8:OpR X (binaryOp .Add) (rI0 fun i j=>.int (i + j)):=aIW fun _ _ _ _ _ _ _ q=>add_int q
theorem mM:OpR X (binaryOp .Sub) (rI0 fun i j=>.int (i - j)):=aIW fun _ _ _ _ _ _ _ q=>sub_int q
theorem jL:OpR X (binaryOp .Mult) (rI aHK fun i j=>.int (i * j)):=opI fun _ _ _ _ _ _ _ hc q=>mul_int q hc.ok
theorem aBy:OpR X (binaryOp .FloorDiv) (rI aJN fun i j=>.int (i / j)):=opI fun i j _ _ _ _ _ hc q=>by
 have h1:(0:Int) < j:=hc.1;have h2:j < 1073741824:=hc.2;exact floordiv_int (by omega) (by rw[Int.fdiv_eq_ediv_of_nonneg i (by omega)];exact q) (.inl (PyProof.noPylong_small (by omega)))
theorem fK:OpR X (binaryOp .Mod) (rI (fun _ j=>0 < j) fun i j=>.int (i % j)):=opI fun i j _ _ _ _ _ hc q=>by
 have h1:(0:Int) < j:=hc;exact mod_int' (by omega) (by rw[Int.fmod_eq_emod_of_nonneg i (by omega)];exact q)
theorem gG:OpR X (binaryOp .Pow) (rI aFX fun i j=>.int (i ^ j.toNat)):=opI fun _ _ _ _ _ _ _ hc q=>pow_int_small hc.1 hc.2.1 hc.2.2 q
theorem unI{f:Ab→Sem Ab}{g:Int→Int}
  (G:∀(i:Int) (t:Tok) (s:Ad) (Q:Ab→Ad→Prop) (E:Ab→Ad→Prop),Q (.int (g i) s.toks) { s with toks:=s.toks + 1 }→wpAny (model X.prog X.w) X.A (f (.int i t)) Q E s):
  UnR X f (rU fun i=>.int (g i)):=by
 intro fe s σ H x v Q I J h;obtain⟨i,rfl,q⟩:=h;obtain⟨t,rfl⟩:=J;exact G i t s _ _ ⟨.int (g i),H,I.tok _,⟨_,rfl⟩,q⟩
theorem mO:UnR X (unaryOp .USub) (rU fun i=>.int (-i)):=unI fun _ _ _ _ _ q=>neg_int q
end
def aIX:V→V→Bool
 | .non,.non=>true | .non,.int _=>true | .int _,.non=>true | .non,.bl _=>true | .bl _,.non=>true | .non,.str _=>true | .str _,.non=>true
 | .int _,.int _=>true | .bl _,.bl _=>true | .str _,.str _=>true | .byt _,.byt _=>true
 | .int _,.str _=>true | .str _,.int _=>true | .bl _,.str _=>true | .str _,.bl _=>true
 | _,_=>false
def rEq:R2:=fun x y H Q=>aIX x y=true∧Q (.bl (decide (x=y))) H
def rNe:R2:=fun x y H Q=>aIX x y=true∧Q (.bl (!decide (x=y))) H
theorem aBz{i j:Int}:decide (V.int i=V.int j)=(i == j):=by
 rw[Bv];simp
theorem aDK{i j:Bool}:decide (V.bl i=V.bl j)=(i == j):=by
 rw[Bv];simp
theorem aBA{i j:Str}:decide (V.str i=V.str j)=(i == j):=by
 rw[Bv];simp
theorem aBB{i j:Array UInt8}:decide (V.byt i=V.byt j)=(i.toList == j.toList):=by
 rw[Bv];cases i;cases j;simp
section
variable{X:Cx}{a b c:A5}{ta tb tc:TE}{pos:Pos}
theorem cZ{fe:List (Af×Obj)}{σ:St}{H:Hp}{s:Ad}{Q:VK}{k G:Bool}(I:Inv X fe σ H s)(q:Q (.bl k) H)(e:k=G):EP X fe σ Q (.bool G) s:=by
 subst e;exact⟨.bl k,H,I,rfl,q⟩
theorem cH:OpR X (compareOp .Eq) rEq:=by
 intro fe s σ H x y v u Q I J G h;obtain⟨hs,q⟩:=h;cases x with
 | non=>
  cases J;cases y with
  | non=>cases G;exact PySem.EqNone.eq_none_none (cZ I q (by simp))
  | bl j=>cases G;exact PySem.EqNone.eq_none_bool (cZ I q (by simp))
  | int j=>obtain⟨t',rfl⟩:=G;exact PySem.EqNone.eq_none_int (cZ I q (by simp))
  | str j=>obtain⟨t',rfl⟩:=G;exact PySem.EqNone.eq_none_str (cZ I q (by simp))
  | _=>exact absurd (show false=true from hs) AG
 | bl i=>
  cases J;cases y with
  | non=>cases G;exact PySem.EqNone.eq_bool_none (cZ I q (by simp))
  | bl j=>cases G;exact eq_bool (cZ I q aDK)
  | str j=>obtain⟨t',rfl⟩:=G;exact PySem.EqMixed.eq_bool_str (cZ I q (by simp))
  | _=>exact absurd (show false=true from hs) AG
 | int i=>
  obtain⟨t,rfl⟩:=J;cases y with
  | non=>cases G;exact PySem.EqNone.eq_int_none (cZ I q (by simp))
  | int j=>obtain⟨t',rfl⟩:=G;exact eq_int (cZ I q aBz)
  | str j=>obtain⟨t',rfl⟩:=G;exact PySem.EqMixed.eq_int_str (cZ I q (by simp))
  | _=>exact absurd (show false=true from hs) AG
 | str i=>
  obtain⟨t,rfl⟩:=J;cases y with
  | non=>cases G;exact PySem.EqNone.eq_str_none (cZ I q (by simp))
  | bl j=>cases G;exact PySem.EqMixed.eq_str_bool (cZ I q (by simp))
  | int j=>obtain⟨t',rfl⟩:=G;exact PySem.EqMixed.eq_str_int (cZ I q (by simp))
  | str j=>obtain⟨t',rfl⟩:=G;exact eq_str (cZ I q aBA)
  | _=>exact absurd (show false=true from hs) AG
 | byt i=>
  obtain⟨t,rfl⟩:=J;cases y with
  | byt j=>obtain⟨t',rfl⟩:=G;exact PySem.W.eq_bytes (cZ I q aBB)
  | _=>exact absurd (show false=true from hs) AG
 | _=>cases y <;> exact absurd (show false=true from hs) AG
theorem kD:OpR X (compareOp .NotEq) rNe:=by
 intro fe s σ H x y v u Q I J G h;obtain⟨hs,q⟩:=h;cases x with
 | non=>
  cases J;cases y with
  | non=>cases G;exact PySem.EqNone.ne_none_none (cZ I q (by simp))
  | bl j=>cases G;exact PySem.EqNone.ne_none_bool (cZ I q (by simp))
  | int j=>obtain⟨t',rfl⟩:=G;exact PySem.EqNone.ne_none_int (cZ I q (by simp))
  | str j=>obtain⟨t',rfl⟩:=G;exact PySem.EqNone.ne_none_str (cZ I q (by simp))
  | _=>exact absurd (show false=true from hs) AG
 | bl i=>
  cases J;cases y with
  | non=>cases G;exact PySem.EqNone.ne_bool_none (cZ I q (by simp))
  | bl j=>cases G;exact ne_bool (cZ I q (congrArg not aDK))
  | str j=>obtain⟨t',rfl⟩:=G;exact PySem.EqMixed.ne_bool_str (cZ I q (by simp))
  | _=>exact absurd (show false=true from hs) AG
 | int i=>
  obtain⟨t,rfl⟩:=J;cases y with
  | non=>cases G;exact PySem.EqNone.ne_int_none (cZ I q (by simp))
  | int j=>obtain⟨t',rfl⟩:=G;exact ne_int (cZ I q (congrArg not aBz))
  | str j=>obtain⟨t',rfl⟩:=G;exact PySem.EqMixed.ne_int_str (cZ I q (by simp))
  | _=>exact absurd (show false=true from hs) AG
 | str i=>
  obtain⟨t,rfl⟩:=J;cases y with
  | non=>cases G;exact PySem.EqNone.ne_str_none (cZ I q (by simp))
  | bl j=>cases G;exact PySem.EqMixed.ne_str_bool (cZ I q (by simp))
  | int j=>obtain⟨t',rfl⟩:=G;exact PySem.EqMixed.ne_str_int (cZ I q (by simp))
  | str j=>obtain⟨t',rfl⟩:=G;exact ne_str (cZ I q (congrArg not aBA))
  | _=>exact absurd (show false=true from hs) AG
 | byt i=>
  obtain⟨t,rfl⟩:=J;cases y with
  | byt j=>obtain⟨t',rfl⟩:=G;exact PySem.W.ne_bytes (cZ I q (congrArg not aBB))
  | _=>exact absurd (show false=true from hs) AG
 | _=>cases y <;> exact absurd (show false=true from hs) AG
theorem yE:OpR X (compareOp .Lt) (rI0 fun i j=>.bl (decide (i < j))):=aFW fun _ _ _ _ _ _ _ q=>lt_int q
theorem iJ:OpR X (compareOp .LtE) (rI0 fun i j=>.bl (decide (i≤j))):=aFW fun _ _ _ _ _ _ _ q=>le_int q
theorem nC:OpR X (compareOp .Gt) (rI0 fun i j=>.bl (decide (j < i))):=aFW fun _ _ _ _ _ _ _ q=>gt_int q
theorem aIY:OpR X (compareOp .GtE) (rI0 fun i j=>.bl (decide (j≤i))):=aFW fun _ _ _ _ _ _ _ q=>ge_int q
inductive iY(x:V)(y:V)(H:Hp)(Q:VK):Prop
 | mk (i:_) (j:_) (q0:x=.str i) (q1:y=.str j) (q2:Q (.bl (!(!(Builtin.Str.occurrences j i 0 j.length 1).isEmpty))) H):iY x y H Q
def kE:V→V→Hp→VK→Prop:=fun x y H Q=>iY x y H Q
theorem v9:OpR X (compareOp .NotIn) kE:=by
 intro fe s σ H x y v u Q I J G h;obtain⟨i,j,rfl,rfl,q⟩:=h;obtain⟨t,rfl⟩:=J;obtain⟨t',rfl⟩:=G;exact notIn_str (cZ I q rfl)
theorem aU(b:A5){G:FU}(h:G≠.In:=by decide)(h2:G≠.NotIn:=by decide):behindInMarks G b=false:=by
 have J:(G == CmpOp.In)=false:=by cases G <;> first | rfl | exact absurd rfl h
 have O:(G == CmpOp.NotIn)=false:=by cases G <;> first | rfl | exact absurd rfl h2
 cases b <;> simp[behindInMarks,J,O]
theorem dC{G:FU}{r:R2}(W:OpR X (compareOp G) r)(ha:PE X a ta)(Z:PE X b tb)(hm:behindInMarks G b=false):PE X (.Compare a [G] [b] pos) (tOp r ta tb):=by
 constructor;intro fe s σ H Q I h;exact wpAny_Compare1 (aHJ ha Z I h fun v u O x y H2 Y J U q=>W fe O σ H2 x y v u Q Y J U q) hm
def aBC(t:TE):TT:=fun σ H Q=>t σ H fun x H'=>As V.bl x fun k=>Q k H'
theorem aP{G:FU}{r:R2}(ho:OpR X (compareOp G) r)(ha:PE X a ta)(hb:PE X b tb)(hm:behindInMarks G b=false):PT X (.Compare a [G] [b] pos) (aBC (tOp r ta tb)):=by
 constructor;intro fe s σ H Q I h;refine wpAny_isTrue_Compare1 (thn (ha fe s σ H _ I h) fun v s1 ⟨x,H1,U,r1,Y⟩=>thn (hb fe s1 σ H1 _ U Y) fun u O ⟨y,H2,I2,J,q2⟩=>
  thn (ho fe O σ H2 x y v u _ I2 r1 J q2) fun c s3 ⟨z,Z,I3,W,k,e,q3⟩=>?_) hm
 subst e;cases W;exact BK ⟨Z,I3,q3⟩
def aDL(r r':R2)(ta tb tc:TE):TE:=fun σ H Q=>ta σ H fun x H1=>tb σ H1 fun y H2=>r x y H2 fun z H3=>As V.bl z fun k=>
 (if k=true then tc σ H3 fun w' H4=>r' y w' H4 Q else Q (.bl false) H3)
theorem kF{O G:FU}{r r':R2}(ho:OpR X (compareOp O) r)(J:OpR X (compareOp G) r')(ha:PE X a ta)(hb:PE X b tb)(hc:PE X c tc)
  (hm:lastMarks [O,G] [b,c]=false:=by with_unfolding_all rfl):PE X (.Compare a [O,G] [b,c] pos) (aDL r r' ta tb tc):=by
 constructor;intro fe s σ H Q I h;refine Compare_chain (thn (ha fe s σ H _ I h) fun v s1 ⟨x,H1,I1,r1,q1⟩=>chain_link (thn (hb fe s1 σ H1 _ I1 q1) fun u s2 ⟨y,H2,I2,U,q2⟩=>
  thn (ho fe s2 σ H2 x y v u _ I2 r1 U q2) fun d s3 ⟨z,W,Y,r3,k,e,Z⟩=>?_)) hm
 subst e;cases r3;refine BK ?_;cases k with
 | false=>exact ite_ff ⟨.bl false,W,Y,rfl,Z⟩
 | true=>exact ite_tt (chain_last (thn (hc fe s3 σ W _ Y Z) fun w' s4 ⟨z',H4,I4,r4,q4⟩=>J fe s4 σ H4 y z' u w' Q I4 U r4 q4))
theorem nF{O G:FU}{r r':R2}(ho:OpR X (compareOp O) r)(J:OpR X (compareOp G) r')(ha:PE X a ta)(hb:PE X b tb)(hc:PE X c tc)
  (hm:lastMarks [O,G] [b,c]=false:=by with_unfolding_all rfl):PT X (.Compare a [O,G] [b,c] pos) (aBC (aDL r r' ta tb tc)):=by
 constructor;intro fe s σ H Q I h;refine isTrue_chain (thn (ha fe s σ H _ I h) fun v s1 ⟨x,H1,I1,r1,q1⟩=>test_link (thn (hb fe s1 σ H1 _ I1 q1) fun u s2 ⟨y,H2,I2,U,q2⟩=>
  thn (ho fe s2 σ H2 x y v u _ I2 r1 U q2) fun d s3 ⟨z,W,Y,r3,k,e,Z⟩=>?_)) hm
 subst e;cases r3;refine BK ?_;cases k with
 | false=>
  obtain⟨k',e',q'⟩:=Z;cases e';exact ite_ff ⟨W,Y,q'⟩
 | true=>
  refine ite_tt (test_last (thn (hc fe s3 σ W _ Y Z) fun w' s4 ⟨z',H4,I4,r4,q4⟩=>thn (J fe s4 σ H4 y z' u w' _ I4 U r4 q4) fun d' s5 ⟨z2,H5,I5,r5,k2,e2,q5⟩=>?_));subst e2;cases r5;exact BK ⟨H5,I5,q5⟩
theorem oW:(sizeLine:Nat) < 2 ^ 63:=by rw[DP];decide
inductive kG(x:V)(y:V)(H:Hp)(Q:VK):Prop
 | mk (i:_) (j:_) (q0:x=.str i) (q1:y=.str j) (q2:i.length + j.length≤sizeLine) (q3:Q (.str (i ++ j)) H):kG x y H Q
def wA:V→V→Hp→VK→Prop:=fun x y H Q=>kG x y H Q
theorem cW:OpR X (binaryOp .Add) wA:=by
 intro fe s σ H x y v u Q I J G h;obtain⟨i,j,rfl,rfl,hz,q⟩:=h;obtain⟨t,rfl⟩:=J;obtain⟨O,rfl⟩:=G;exact add_str (fun O tk=>⟨.str (i ++ j),H,I.tok _,⟨_,rfl⟩,q⟩) hz
theorem gC{x:V}{G:List Ab}(r:cF [x] G):∃ u,G=[u]∧cR x u:=by
 cases r with
 | cons O J=>cases J;exact⟨_,rfl,O⟩
theorem aHb{x y:V}{G:List Ab}(r:cF [x,y] G):∃ u J,G=[u,J]∧cR x u∧cR y J:=by
 cases r with
 | cons Y U=>
  cases U with
  | cons O W=>cases W;exact⟨_,_,rfl,Y,O⟩
inductive nG(xs:List V)(H:Hp)(Q:VK):Prop
 | mk (i:_) (q0:xs=[.int i]) (q1:Q (.int (if i < 0 then -i else i)) H):nG xs H Q
def aAI:List V→Hp→VK→Prop:=fun xs H Q=>nG xs H Q
theorem rD:fT X (.builtin "abs") aAI:=by
 intro fe s σ H xs G Q I r h;obtain⟨i,rfl,q⟩:=h;obtain⟨u,rfl,t,rfl⟩:=gC r;exact call_abs_int fun u tk=>⟨.int (if i < 0 then -i else i),H,I.tok _,⟨_,rfl⟩,q⟩
inductive lY(xs:List V)(H:Hp)(Q:VK):Prop
 | mk (i:_) (j:_) (q0:xs=[.int i,.int j]) (q1:Q (.int (if j < i then j else i)) H):lY xs H Q
def yF:List V→Hp→VK→Prop:=fun xs H Q=>lY xs H Q
theorem uU(hc:X.calm=true):fT X (.builtin "min") yF:=by
 intro fe s σ H xs J Q I r h;obtain⟨i,j,rfl,q⟩:=h;obtain⟨u,w',rfl,⟨t,rfl⟩,⟨t',rfl⟩⟩:=aHb r;refine min_two_ints (I.ok.hd hc) fun h' tk k=>⟨_,H,I.kept k,?_,q⟩
 by_cases G:j < i
 ·rw[Ib G,Ib G];exact⟨_,rfl⟩
 ·rw[Ia G,Ia G];exact⟨_,rfl⟩
theorem uV:fT X (.type "int") (fun xs H Q=>(∃ i,xs=[.int i]∧Q (.int i) H)∨∃ k,xs=[.bl k]∧Q (.int (if k then 1 else 0)) H):=by
 intro fe s σ H xs G Q I r h;rcases h with⟨i,rfl,q⟩ | ⟨k,rfl,q⟩
 ·obtain⟨u,rfl,t,rfl⟩:=gC r;exact call_int_int ⟨.int i,H,I,⟨_,rfl⟩,q⟩
 ·obtain⟨u,rfl,r1⟩:=gC r;cases r1;exact call_int_bool ⟨.int (if k then 1 else 0),H,I.tok _,⟨_,rfl⟩,q⟩
end
structure aHL(h:A1)(x dx C:Af)(mA:Str→Option Ab):Prop where
 obj:h.get? x=some (E6 C dx)
 ns:h.Ns1 dx mA
 ne:dx≠x
theorem uW{h:A1}{dx:Af}{mA:Str→Option Ab}(n:h.Ns1 dx mA):∃ od,h.get? dx=some od∧∀ name,Fh name od=some (mA name):=by
 obtain⟨o,es,ep,ho,hd,hk,_,hm⟩:=n;refine⟨o,ho,fun name=>?_⟩;have e:=hm name;unfold nsFind findBy at e;rw[← Array.find?_toList]at e;unfold Fh;rw[hd];dsimp only;split
 ·rename_i y q;rw[q]at e;exact congrArg some e
 ·rename_i q;rw[q]at e;have a:es.toList.any (·.refKey)=false:=by
   rw[List.any_eq_false];intro y G;obtain⟨z,t,hkey⟩:=hk y (Array.mem_toList_iff.mp G);simp[DictEntry.refKey,hkey]
  have J:¬ es.toList.any (·.refKey)=true:=by rw[a];exact AG
  rw[Ia J];exact congrArg some e
theorem aHL.look{h:A1}{x dx C:Af}{mA:Str→Option Ab}(I:aHL h x dx C mA):∃ od,PySem.W.InstAt h x (E6 C dx) C (some od)∧∀ name,Fh name od=some (mA name):=
 let ⟨od,ho,hl⟩:=uW I.ns
 ⟨od,⟨I.obj,rfl,rfl,ho⟩,hl⟩
section
variable{prog:Al}{w:AH}{A:AB}{E:Ab→Ad→Prop}{s:Ad}{K:Ae}{x dx C f:Af}{mA:Str→Option Ab}{name:Str}{v:Ab}
end
theorem lX.some_of{v:V}{o:Option Ab}(r:lX (some v) o):∃ u,o=some u∧cR v u:=by
 cases o with
 | none=>exact(show False from r).elim
 | some u=>exact⟨u,rfl,r⟩
theorem aCN{v:V}{u:Ab}(r:cR v u):PySem.W.handedIn u=true:=by
 cases v with
 | non=>cases(show u=B0 from r);rfl
 | bl b=>cases(show u=Fo b from r);rfl
 | int i=>obtain⟨t,e⟩:=(show∃ t,u=Ed i t from r);cases e;rfl
 | str x=>obtain⟨t,e⟩:=(show∃ t,u=BZ x t from r);cases e;rfl
 | byt b=>obtain⟨t,e⟩:=(show∃ t,u=Value.bytes b t from r);cases e;rfl
 | flt b=>obtain⟨t,e⟩:=(show∃ t,u=FM b t from r);cases e;rfl
 | ref a=>cases(show u=AK a from r);rfl
 | ty n=>cases(show u=Bb n from r);rfl
section
variable{P:Al}{w:AH}{H H':Hp}{h h':A1}{a C dx:Af}{fs fs':List (Str×V)}
theorem aFY(hok:HOk P w H h)(e:H a=some (.ins C dx fs)):∃ mA,aHL h a dx C mA∧(∀ f,lX (fs.lookup f) (mA f))∧PySem.Within mA (fs.map (·.1))∧fs.length≤1000∧H dx=some (.own a):=by
 obtain⟨d,z,ne,ob,mA,n,r,q⟩:=(show cX P w H h a (.ins C dx fs) from hok a _ e)
 exact⟨mA,⟨ob,n,ne⟩,r,q,z,d⟩
end
structure Cls(K:Ae)(C:Af):Prop where
 pg:PySem.W.plainGet K C Ek=true
 hd:PySem.W.hasDictIn K C=true
 po:PySem.W.plainOver K C=true
 sa:BE K (.ref C) "__setattr__"=some (some (.builtin "object.__setattr__"))
theorem Cls.get{K:Ae}{C:Af}(c:Cls K C)(f:Str):PySem.W.plainGet K C f=true:=c.pg
structure Con(K:Ae)(C:Af)(f:Str)(v:V)(u:Ab):Prop where
 at_:BE K (.ref C) f=some (some u)
 rel:cR v u
 get:EN K u "__get__"=some none
 cp:PySem.W.copiedNames.contains f=false
structure aKn(K:Ae)(C:Af)(m:Str)(f:Af):Prop where
 at_:BE K (.ref C) m=some (some (.ref f))
 fn:ER K (.ref f)=true
 kp:Az K (.ref f)=true
section
variable{X:Cx}{fe:List (Af×Obj)}{σ:St}{H:Hp}{s:Ad}{a C dx:Af}{fs:List (Str×V)}{f:Str}{v:V}{A:AB}{E:Ab→Ad→Prop}
theorem aFZ{prog:Al}{w:AH}{env:Env}{e:A5}{f:Str}{pos:Pos}{s:Ad}{Q:Ab→Ad→Prop}(J:attributeBase e f env (eval e env)=eval e env)
  (h:wpAny (model prog w) A (eval e env) (fun o G=>wpAny (model prog w) A (getAttr o f true) Q E G) E s):wpAny (model prog w) A (eval (.Attribute e f pos) env) Q E s:=
 Attribute_any_ h (by rw[arm_eval_Attribute,J])
end
section
variable{X:Cx}{o e value:A5}{f:Str}{pos ft tpos:Pos}{ta tv:TE}
end
section
variable{X:Cx}{fe:List (Af×Obj)}{σ:St}{H:Hp}{s:Ad}{A:AB}{E:Ab→Ad→Prop}{Q:Ab→Ad→Prop}{c:Ab}{b:Bool}
inductive iF(K:Ae)(H:Hp):V→Ab→Prop where
 | non:iF K H .non (.type "NoneType")
 | bl (x:Bool):iF K H (.bl x) (.type "bool")
 | int (i:Int):iF K H (.int i) (.type "int")
 | str (x:Str):iF K H (.str x) (.type "str")
 | flt (x:UInt64):iF K H (.flt x) (.type "float")
 | lst {a:Af} {xs:List V} (e:H a=some (.lst xs)):iF K H (.ref a) (.type "list")
 | frz {a:Af} {o:Obj} {xs:List V} (e:H a=some (.frz o (.lst xs))):iF K H (.ref a) (.type "list")
 | tup {a:Af} {xs:List V} (e:H a=some (.tup xs)):iF K H (.ref a) (.type "tuple")
 | dK {a:Af} {fg:List (Key×V)} (e:H a=some (.dK fg)):iF K H (.ref a) (.type "dict")
 | dT {a:Af} {fg:List (List Key×V)} (e:H a=some (.dT fg)):iF K H (.ref a) (.type "dict")
 | ins {a C dx:Af} {fs:List (Str×V)} (e:H a=some (.ins C dx fs)) (cl:Cls K C) (ha:BE K (.ref C) "__class__"=some (some (.builtin "object.__class__")))
   (hn:EN K (.builtin "object.__class__") "__get__"=some (some (.builtin "getset_descriptor.__get__"))) (htk:PySem.W.takesIn K (.builtin "object.__class__")=some true)
   (hm:Fp K C (.type "object")=some true):iF K H (.ref a) (.ref C)
theorem aCO{x:V}{u t:Ab}(I:Inv X fe σ H s)(G:cR x u)(ty:iF X.K H x t)(e:A9 X.K t c=some b)(h:∀ tk,Q (.bool b) { s with toks:=tk }):
  wpAny (model X.prog X.w) A (call (.builtin "isinstance") [u,c]) Q E s:=by
 cases ty with
 | non=>cases(show u=B0 from G);exact BH PySem.W.kitx_none I.kIn B1 e (fun z=>nomatch z) h
 | bl y=>cases(show u=Fo y from G);exact BH PySem.W.kitx_bool I.kIn B1 e (fun z=>nomatch z) h
 | int i=>obtain⟨t,q⟩:=(show∃ t,u=Ed i t from G);cases q;exact BH PySem.W.kitx_int I.kIn B1 e (fun z=>nomatch z) h
 | str y=>obtain⟨t,q⟩:=(show∃ t,u=BZ y t from G);cases q;exact BH PySem.W.kitx_str I.kIn B1 e (fun z=>nomatch z) h
 | flt y=>obtain⟨t,q⟩:=(show∃ t,u=FM y t from G);cases q;exact BH PySem.W.kitx_float I.kIn B1 e (fun z=>nomatch z) h
 | @lst a xs U=>
  cases(show u=AK a from G);obtain⟨_,_,n,_,h1⟩:=(show cX X.prog X.w H s.heap a (.lst xs) from I.hok a _ U)
  exact BH PySem.W.kitx_list I.kIn ⟨_,h1,rfl⟩ e (fun z=>nomatch z) h
 | @frz a ob xs U=>
  cases(show u=AK a from G);obtain⟨_,_,_,n,_,h1⟩:=(show cX X.prog X.w H s.heap a (.frz ob (.lst xs)) from I.hok a _ U)
  exact BH PySem.W.kitx_list I.kIn ⟨_,h1,rfl⟩ e (fun z=>nomatch z) h
 | @tup a xs U=>
  cases(show u=AK a from G);obtain⟨_,_,_,p⟩:=(show cX X.prog X.w H s.heap a (.tup xs) from I.hok a _ U)
  obtain⟨o,h1,h2,_⟩:=p;exact BH PySem.W.kitx_tuple I.kIn ⟨o,h1,h2.1⟩ e (fun z=>nomatch z) h
 | @dK a fg U=>
  cases(show u=AK a from G);obtain⟨_,_,vs,_,p⟩:=(show cX X.prog X.w H s.heap a (.dK fg) from I.hok a _ U)
  obtain⟨o,es,ep,h1,h2,_⟩:=p;exact BH PySem.W.kitx_dict I.kIn ⟨o,h1,h2.1⟩ e (fun z=>nomatch z) h
 | @dT a fg U=>
  cases(show u=AK a from G);obtain⟨_,_,xs,_,o,es,ep,h1,h2,_⟩:=(show cX X.prog X.w H s.heap a (.dT fg) from I.hok a _ U)
  exact BH PySem.W.kitx_dict I.kIn ⟨o,h1,h2.1⟩ e (fun z=>nomatch z) h
 | @ins a C dx fs U Z ha hn Y hm=>
  cases(show u=AK a from G);obtain⟨mA,O,_⟩:=aFY I.hok U;obtain⟨od,J,_⟩:=O.look;exact BH (PySem.W.kitx_own (Z.get _) Z.hd ha hn Y hm) I.kIn J e (fun z=>nomatch z) h
end
structure cJ(k:Nat)(A:AB):Prop where
 hd:A.handled=none
 dp:A.depth + 3 * k + 5 < recursionLimit
 un:A.units + 16 * k + 200 < cLine
 gd:A.guards=some []
theorem cJ.mono{j k:Nat}{A:AB}(r:cJ k A)(h:j≤k):cJ j A:=⟨r.hd,by have:=r.dp;omega,by have:=r.un;omega,r.gd⟩
theorem cJ.deeper{k:Nat}{A:AB}(r:cJ (k + 1) A)(env:Env):cJ k (A.deeper env):=
 ⟨r.hd,by have:=r.dp;show A.depth + 1 + 3 * k + 5 < _;omega,by have:=r.un;show A.units + 3 + 16 * k + 200 < _;omega,r.gd⟩
theorem aAJ{A:AB}{C:Af}{J:List Ab}{G:List (Str×Ab)}:(A.under (.builtin "type.__call__" ⟨.ref C :: J,G⟩)).depth=A.depth + 1:=by
 first | rfl | simp[EX,Code.weight,Code.isCreation,Code.isGuard,Code.isCaller,Code.frames,FJ,guardIds]
theorem aAK{A:AB}{C:Af}{J:List Ab}{G:List (Str×Ab)}:(A.under (.builtin "type.__call__" ⟨.ref C :: J,G⟩)).units=A.units + 1:=by
 first | rfl | simp[EX,Code.cUnits,Code.frames,FJ]
theorem yG{A:AB}{C:Af}{G:List Ab}{J:List (Str×Ab)}:(A.under (.builtin "type.__call__" ⟨.ref C :: G,J⟩)).guards=A.guards:=by
 first | rfl | (cases A;rename_i a b c g e;cases g <;> first | rfl | simp[EX,Code.guards,Code.isGuard,guardIds,pushGuards])
theorem cJ.make{k:Nat}{A:AB}(r:cJ (k + 1) A)(C:Af)(G:List Ab)(J:List (Str×Ab)):cJ k (A.under (.builtin "type.__call__" ⟨.ref C :: G,J⟩)):=
 ⟨r.hd,by have:=r.dp;rw[aAJ];omega,by have:=r.un;rw[aAK];omega,yG.trans r.gd⟩
theorem cJ.depth{k:Nat}{A:AB}(r:cJ k A):A.depth < recursionLimit:=by have:=r.dp;omega
theorem cJ.units{k:Nat}{A:AB}(r:cJ k A):A.units + 64 < cLine:=by have:=r.un;omega
theorem cJ.units0{k:Nat}{A:AB}(r:cJ k A):A.units < cLine:=by have:=r.un;omega
def aF8:TA:=fun _ H Q=>Q [] H
def aBD(ta:TE)(tr:TA):TA:=fun σ H Q=>ta σ H fun x H1=>tr σ H1 fun xs H2=>Q (x :: xs) H2
section
variable{X:Cx}{e:A5}{es:List A5}{te:TE}{t:TA}{pos:Pos}
theorem aA:PA X [] aF8:=⟨fun _ _ _ _ H Q I h=>Calls.spliced_nil ⟨[],H,I,.nil,h⟩⟩
theorem fF(ha:PE X e te)(W:PA X es t)(U:starEach (e :: es) X.env=(false,eval e X.env) :: starEach es X.env:=by rfl):PA X (e :: es) (aBD te t):=by
 constructor;intro pos fe s σ H Q I h;rw[U];show wpAny _ _ (spliced ((false,eval e X.env) :: backTo pos (starEach es X.env))) _ _ s;refine EU (thn (ha fe s σ H _ I h) fun u s1 ⟨x,H1,J,r1,O⟩=>?_);exact thn (W pos fe s1 σ H1 _ J O) fun us s2 ⟨xs,H2,Z,G,Y⟩=>⟨x :: xs,H2,Z,.cons r1 G,Y⟩
def aJO(t:TA):TE:=fun σ H Q=>t σ H fun xs H1=>xs.length≤sizeLine∧∀ p,H1 p=none→Q (.ref p) (upd H1 p (.tup xs))
def aIZ(t:TA):TE:=fun σ H Q=>t σ H fun xs H1=>xs.length≤sizeLine∧∀ p,H1 p=none→Q (.ref p) (upd H1 p (.lst xs))
theorem cG{x1}(h:PA X es t):PE X (.Tuple es x1 pos) (aJO t):=by
 constructor;intro fe s σ H Q I O;refine wpAny_Tuple_spliced (thn (h pos fe s σ H _ I O) fun J s1 ⟨xs,H1,G,r,z,q⟩=>⟨by rw[← r.length];exact z,?_⟩);have U:H1 s1.heap.objs.size=none:=G.hok.fresh (An _);refine⟨.ref s1.heap.objs.size,upd H1 s1.heap.objs.size (.tup xs),G.laid (t':=s1.toks) (fun b u e=>Ah _ e) (An _) ?_,rfl,q _ U⟩;exact⟨z,J,r,⟨_,AA _ rfl,⟨rfl,_,rfl⟩,rfl⟩⟩
theorem dB(h:PA X es t):PE X (.List es pos) (aIZ t):=by
 constructor;intro fe s σ H Q I O;refine wpAny_List_spliced (thn (h pos fe s σ H _ I O) fun J s1 ⟨xs,H1,G,r,z,q⟩=>⟨by rw[← r.length];exact z,?_⟩);have U:H1 s1.heap.objs.size=none:=G.hok.fresh (An _);refine⟨.ref s1.heap.objs.size,upd H1 s1.heap.objs.size (.lst xs),G.laid (t':=s1.toks) (fun b u e=>Ah _ e) (An _) ?_,rfl,q _ U⟩;exact⟨z,J,0,r,AA _ rfl⟩
end
abbrev Sp:=List V→Hp→VK→XK→Prop
abbrev CXT:=List Env→Hp→Ad→XK→Ab→Ad→Prop
structure aAL(P:Al)(w:AH)(K:Ae)(mg:Str→Option Ab)(base:A1)(A:AB)(outer:List Env)(s:Ad)(H:Hp):Prop where
 frames:A.frames=some outer
 mod:Mod K mg base
 bs:∀ b o,base.get? b=some o→s.heap.get? b=some o∧H b=none
 bsz:base.objs.size≤s.heap.objs.size
 funs:s.heap.FunFrames base outer
 frf:∀ b∈frs outer,H b=none
 hok:HOk P w H s.heap
 bare:D8 s.gens
inductive aI0(outer:List Env)(P:Al)(w:AH)(H:Hp)(s:Ad)(Q:VK)(u:Ab)(s':Ad):Prop
 | mk (v:_) (H':_) (q0:s'.os=s.os) (q1:D8 s'.gens) (q2:Un (frs outer) [] H H' s.heap s'.heap) (q3:HOk P w H' s'.heap) (q4:cR v u) (q5:Q v H'):aI0 outer P w H s Q u s'
def CE(outer:List Env)(P:Al)(w:AH)(H:Hp)(s:Ad)(Q:VK)(u:Ab)(s':Ad):Prop:=aI0 outer P w H s Q u s'
def CR(CX:CXT)(outer:List Env)(P:Al)(w:AH)(H:Hp)(s:Ad)(Q:VK)(E:XK)(r:F7)(s':Ad):Prop:=
 match r with
 | .ok (.ret u)=>CE outer P w H s Q u s'
 | .ok _=>False
 | .error e=>CX outer H s E e s'
structure b8(P:Al)(w:AH)(K:Ae)(mg:Str→Option Ab)(base:A1)(CX:CXT)(k:Nat)(f:Af)(fd:Ax)(ps:List Str)(sp:Sp):Prop where
 len:∀ vs H Q E,sp vs H Q E→vs.length=ps.length
 run:∀(A:AB) (outer:List Env) (s:Ad) (H:Hp) (args:Args) (us:List Ab) (vs:List V) (Q:VK) (E:XK),cJ k A→aAL P w K mg base A outer s H→Fu s fd args (ps.zip us)→cF vs us→sp vs H Q E→
  codeAny (model P w) A (.call (.ref f) args) (CR CX outer P w H s Q E) s
theorem b8.mono{P:Al}{w:AH}{K:Ae}{mg:Str→Option Ab}{base:A1}{CX:CXT}{j k:Nat}{f:Af}{fd:Ax}{ps:List Str}{sp:Sp}(F:b8 P w K mg base CX j f fd ps sp)(h:j≤k):
  b8 P w K mg base CX k f fd ps sp:=⟨F.len,fun A outer s H G J vs Q E O=>F.run A outer s H G J vs Q E (O.mono h)⟩
theorem aAL.make{P:Al}{w:AH}{K:Ae}{mg:Str→Option Ab}{base:A1}{A:AB}{outer:List Env}{s:Ad}{H:Hp}(e:aAL P w K mg base A outer s H)(C:Af)(G:List Ab)(J:List (Str×Ab)):
  aAL P w K mg base (A.under (.builtin "type.__call__" ⟨.ref C :: G,J⟩)) outer s H:=⟨by first | exact e.frames | (simpa[EX,Code.envs,FJ,pushEnvs]using e.frames),e.mod,e.bs,e.bsz,e.funs,e.frf,e.hok,e.bare⟩
section
variable{X:Cx}{fe:List (Af×Obj)}{σ:St}{H:Hp}{s s':Ad}
theorem Inv.env0(I:Inv X fe σ H s):aAL X.prog X.w X.K X.mg X.base X.A X.stack s H:=
 ⟨I.ok.frames,I.ok.mod,I.bs,AM I.ok.bsz I.sz,I.stack,I.stkFree,I.hok,I.bare⟩
theorem Inv.after{Q:VK}{u:Ab}(I:Inv X fe σ H s)(h:CE X.stack X.prog X.w H s Q u s'):EP X fe σ Q u s':=by
 obtain⟨v,H',os,bare,un,hok,r,q⟩:=h;obtain⟨hh,g,d,t,os'⟩:=s';obtain rfl:os'=s.os:=os;exact⟨v,H',I.call (h':=hh) (g':=g) (d':=d) (t':=t) (ch:=[]) un hok bare (fun b z=>absurd z (by simp)),r,q⟩
end
def aHc(sp:Sp)(fy:List V)(E:XK)(t:TA):TE:=fun σ H Q=>t σ H fun vs H1=>sp (vs ++ fy) H1 Q E
def dH(K:Ae)(fd:Ax)(ps:List Str)(ds:List Ab):Prop:=
 ∀(s:Ad) (us:List Ab),K.In s.heap→(us ++ ds).length=ps.length→Fu s fd ⟨us,[]⟩ (ps.zip (us ++ ds))
theorem dH.all{K:Ae}{fd:Ax}{ps:List Str}(h:∀ G:List Ab,G.length=ps.length→bindArgs fd ⟨G,[]⟩=pure (ps.zip G)):dH K fd ps []:=fun s G _ J=>by
 rw[Ce]at J ⊢;exact .of_eq (h G J)
def rE(CX:CXT)(X:Cx)(E:XK):Prop:=∀(fe:List (Af×Obj)) (σ:St) (H:Hp) (s:Ad) (e:Ab) (s':Ad),Inv X fe σ H s→CX X.stack H s E e s'→X.xe e s'
section
variable{X:Cx}{CX:CXT}{k:Nat}{f C:Af}{fd:Ax}{ps:List Str}{sp:Sp}{fy:List V}{ds:List Ab}{E:XK}{x m:Str}{p pos fq:Pos}{e o:A5}{es:List A5}{ta:TE}{t:TA}
theorem aDM{fe:List (Af×Obj)}{σ:St}{H:Hp}{s:Ad}{Q:VK}{G:List Ab}{vs:List V}(F:b8 X.prog X.w X.K X.mg X.base CX k f fd ps sp)(Y:cJ k X.A)(hb:dH X.K fd ps ds)(hd:cF fy ds)(W:rE CX X E)
  (I:Inv X fe σ H s) (r:cF vs G) (h:sp (vs ++ fy) H Q E):wpAny (model X.prog X.w) X.A (call (.ref f) G) (EP X fe σ Q) X.xe s:=by
 have O:cF (vs ++ fy) (G ++ ds):=r.append hd;have U:(G ++ ds).length=ps.length:=by rw[← O.length];exact F.len _ _ _ _ h
 refine Cd (CG (F.run X.A X.stack s H ⟨G,[]⟩ (G ++ ds) (vs ++ fy) Q E Y I.env0 (hb s G I.kIn U) O h) fun r s' J=>?_);cases r with
 | error e=>exact W fe σ H s e s' I J
 | ok Z=>
  cases Z with
  | ret u=>exact I.after J
  | next=>exact Bx J
  | brk=>exact Bx J
  | cont=>exact Bx J
theorem d8(F:b8 X.prog X.w X.K X.mg X.base CX k f fd ps sp)(Y:cJ k X.A)(U:Gl X x)(hm:X.mg x=some (.ref f))(hk:Az X.K (.ref f)=true)(hb:dH X.K fd ps ds)(hd:cF fy ds)(W:rE CX X E)
  (ha:PA X (e :: es) t) (G:(x == ("__debug__":Str))=false:=by decide) (Z:starEach (e :: es) X.env=(false,eval e X.env) :: starEach es X.env:=by rfl) (J:(backTo pos (starEach es X.env)).any (·.1)=false:=by rfl):
  PE X (.Call (.Name x p) (e :: es) [] pos) (aHc sp fy E t):=by
 constructor;intro fe s σ H Q I h;refine Dm (v7 I U hm ?_ G);refine EE (h₀:=X.base) I.ok.mod.kin hk (thn (ha pos fe s σ H _ I h) fun us s1 ⟨vs,H1,O,r,q⟩=>⟨O.kIn,?_⟩) Z J;exact aDM F Y hb hd W O r q
structure Mk(K:Ae)(C f:Af):Prop where
 makes:PySem.W.makesIn K C=true
 init:BE K (.ref C) "__init__"=some (some (.ref f))
 fn:ER K (.ref f)=true
 kp:Az K (.ref C)=true
end
structure PK(X:Cx)(gc:List D7)(t:TA):Prop where
 run:
  ∀(pos:Pos) (fe:List (Af×Obj)) (s:Ad) (σ:St) (H:Hp) (Q:List V→Hp→Prop),Inv X fe σ H s→t σ H Q→wpAny (model X.prog X.w) X.A (evalAll ((backToKw pos (keywordEach gc X.env)).map (·.2))) (AP X fe σ Q) X.xe s
instance{X:Cx}{gc:List D7}{t:TA}:CoeFun (PK X gc t) (fun _=>
 ∀(pos:Pos) (fe:List (Af×Obj)) (s:Ad) (σ:St) (H:Hp) (Q:List V→Hp→Prop),Inv X fe σ H s→t σ H Q→wpAny (model X.prog X.w) X.A (evalAll ((backToKw pos (keywordEach gc X.env)).map (·.2))) (AP X fe σ Q) X.xe s):=⟨fun h=>h.run⟩
section
variable{X:Cx}{CX:CXT}{k:Nat}{f C:Af}{fd:Ax}{ps ks:List Str}{sp:Sp}{E:XK}{x m:Str}{p pos fq kpos:Pos}{e o:A5}{es:List A5}{gc:List D7}{te ta:TE}{t tk:TA}{nm:Option Str}
structure aJP(K:Ae)(fd:Ax)(ps ks:List Str)(g:List Ab→List Ab→List Ab)(gV:List V→List V→List V):Prop where
 to:∀(s:Ad) (us ws:List Ab),K.In s.heap→(g us ws).length=ps.length→Fu s fd ⟨us,ks.zip ws⟩ (ps.zip (g us ws))
 rel:∀{vs:List V} {us:List Ab} {zs:List V} {ws:List Ab},cF vs us→cF zs ws→cF (gV vs zs) (g us ws)
variable{g:List Ab→List Ab→List Ab}{gV:List V→List V→List V}
end
structure bB(N P:List Str)(sc:Cq):Prop where
 kind:sc.kind=.function
 co:sc.isCoroutine=false
 gen:sc.isGenerator=false
 nd:N.Nodup
 pre:N.take P.length=P
 par:∀ x∈P,sc.names.lookup x=some .local∨sc.names.lookup x=some .cell
 nofree:∀ y∈sc.names,y.2≠.free
theorem uX{G:Str→Option Dv}{x:Str}:∀{binds:List (Str×Ab)}{m:Str→Option Ab},(∀ v,(x,v) ∉ binds)→bindL G binds m x=m x
 | [],_,_=>rfl
 | (n,v) :: r,m,h=>by
  unfold bindL;rw[uX fun w hw=>h w (AY _ hw)];split
  ·have:x≠n:=by rintro rfl;exact h v AV
   simp[this]
  ·rfl
theorem uY{G:Str→Option Dv}{x:Str}:∀{binds:List (Str×Ab)}{m:Str→Option Ab},(∀ v,(x,v) ∉ binds)→bindC G binds m x=m x
 | [],_,_=>rfl
 | (n,v) :: r,m,h=>by
  unfold bindC;rw[uY fun w hw=>h w (AY _ hw)];split
  ·rfl
  ·have:x≠n:=by rintro rfl;exact h v AV
   simp[this]
theorem uZ{G:Str→Option Dv}{x:Str}{v:Ab}:∀{P:List Str}{vs:List Ab}{i:Nat}{m:Str→Option Ab},P.Nodup→P[i]?=some x→vs[i]?=some v→G x=some .local→
  bindL G (P.zip vs) m x=some v
 | [],_,_,_,_,h,_,_=>by simp at h
 | _ :: _,[],_,_,_,_,h,_=>by simp at h
 | p :: P,w :: vs,0,m,nd,h1,h2,J=>by
  simp at h1 h2;subst h1;subst h2;show bindL G ((p,w) :: P.zip vs) m p=_;unfold bindL;rw[uX fun v O=>(Cy.mp nd).1 (Fk O).1,Ib J];simp
 | p :: P,w :: vs,i + 1,m,nd,h1,h2,J=>by
  show bindL G ((p,w) :: P.zip vs) m x=_;unfold bindL;exact uZ (i:=i) (Cy.mp nd).2 (by simpa using h1) (by simpa using h2) J
theorem u0{G:Str→Option Dv}{x:Str}{v:Ab}:∀{P:List Str}{vs:List Ab}{i:Nat}{m:Str→Option Ab},P.Nodup→P[i]?=some x→vs[i]?=some v→G x≠some .local→
  bindC G (P.zip vs) m x=some v
 | [],_,_,_,_,h,_,_=>by simp at h
 | _ :: _,[],_,_,_,_,h,_=>by simp at h
 | p :: P,w :: vs,0,m,nd,h1,h2,J=>by
  simp at h1 h2;subst h1;subst h2;show bindC G ((p,w) :: P.zip vs) m p=_;unfold bindC;rw[uY fun v O=>(Cy.mp nd).1 (Fk O).1,Ia J];simp
 | p :: P,w :: vs,i + 1,m,nd,h1,h2,J=>by
  show bindC G ((p,w) :: P.zip vs) m x=_;unfold bindC;exact u0 (i:=i) (Cy.mp nd).2 (by simpa using h1) (by simpa using h2) J
def start(N:List Str)(vs:List V):St:=vs.map some ++ Co (N.length - vs.length) none
def fU(CX:CXT)(P:Al)(w:AH)(K:Ae)(mg:Str→Option Ab)(base:A1)(N:List Str)(qual:Str)(scope:Cq)(f:Af)(cd:Ab)(A:AB)(outer:List Env)(s:Ad)(H:Hp)(E:XK):Cx where
 prog:=P
 w:=w
 K:=K
 mg:=mg
 base:=base
 A:=A.deeper (envOfC qual scope s.heap.objs.size f cd)
 N:=N
 s₀:=s
 H₀:=H
 env:=envOfC qual scope s.heap.objs.size f cd
 outer:=outer
 stack:=envOfC qual scope s.heap.objs.size f cd :: outer
 ex:=[]
 calm:=true
 fn:=fun _=>true
 pn:=[]
 xe:=fun e s'=>wpAny (model P w) (A.deeper (envOfC qual scope s.heap.objs.size f cd)) (leaving (envOfC qual scope s.heap.objs.size f cd) e) (fun _ s''=>CX outer H s E e s'') (fun e' s''=>CX outer H s E e' s'') s'
theorem yH{G:Cq}{n:Nat}{x:Str}(h:G.names.lookup x=some .cell):∃ c,(cellsFrom n G.names []).lookup x=some c:=by
 have q:=PySem.W.cellsFrom_some G.names n [] (.inl h);exact Option.isSome_iff_exists.mp q
theorem aCP{CX:CXT}{P:Al}{w:AH}{K:Ae}{mg:Str→Option Ab}{base:A1}{N ps:List Str}{qual:Str}{scope:Cq}{f:Af}{cd:Ab}{A:AB}{outer:List Env}{s s1:Ad}{H:Hp}{E:XK}{Y:List Ab}{vs:List V}
  (S:bB N ps scope) (hd:A.handled=none) (G:aAL P w K mg base A outer s H) (hl:vs.length=ps.length) (r:cF vs Y)
  (x:InCallC s s.heap.objs.size (bindL (envOfC qual scope s.heap.objs.size f cd).kindOf (ps.zip Y) fun _=>none) (cellsFrom (s.heap.objs.size + 1) scope.names []) (bindC (envOfC qual scope s.heap.objs.size f cd).kindOf (ps.zip Y) fun _=>none) s1):
  Inv (fU CX P w K mg base N qual scope f cd A outer s H E) [] (start N vs) H s1:=by
 have Z:ps.length≤N.length:=by have:=congrArg C8 S.pre;rw[AC]at this;omega
 obtain⟨h1,tk,rfl,hk⟩:=x.done;have O:∀ b:Af,b ∉ (fU CX P w K mg base N qual scope f cd A outer s H E).ex:=fun b z=>absurd (show b∈([]:List Af) from z) (by simp);refine⟨⟨G.mod,S.kind,rfl,rfl,An _,fun y z c h1 h2=>?_,fun y J=>?_,fun y c _ h=>?_,fun _=>hd,Around.frames_deeper G.frames,.inr ⟨rfl,rfl⟩,fun b z=>absurd z (O b),G.bs,G.bsz,fun b _ _=>O b,fun b z=>absurd z (O b),G.funs,G.frf⟩,
  rfl,G.bare,Un.kept hk,⟨_,x.toInCall.ns,fun i y v h1 h2 h3=>?_⟩,fun y c h=>⟨_,x.cell y c h⟩,G.hok.fresh (An _),fun y c h=>?_,fun p U=>absurd (show p∈([]:List (Af×Obj)) from U) (by simp),G.hok.kept hk,?_⟩
 ·exact name_of_addr x.apart (BM h1) (BM h2)
 ·have J:scope.names.lookup y=some .cell∨scope.names.lookup y=some .free:=J;rcases J with J | J
  ·exact yH J
  ·exact absurd rfl (S.nofree _ (BM J))
 ·exact Et (x.above y c (BM h))
 ·have hi:i < vs.length:=by
   unfold start at h2;by_cases hi:i < vs.length
   ·exact hi
   ·rw[List.getElem?_append_right (by simpa using hi)]at h2;rw[List.getElem?_replicate]at h2;split at h2 <;> cases h2
  have ha:vs[i]?=some v:=by
   unfold start at h2;rw[List.getElem?_append_left (by simpa using hi),AW]at h2;cases e:vs[i]? with
   | none=>rw[e]at h2;cases h2
   | some a=>rw[e]at h2;cases h2;rfl
  obtain⟨u,hu,rv⟩:=r.get ha;have U:ps[i]?=some y:=by
   rw[← S.pre,List.getElem?_take_of_lt (by omega)];exact h1
  have W:ps.Nodup:=by rw[← S.pre];exact S.nd.sublist (D6 _ _)
  refine⟨u,rv,?_⟩;rcases S.par y (AN U)with k | k
  ·exact .inl ⟨k,uZ W U hu k⟩
  ·obtain⟨c,e⟩:=yH (n:=s.heap.objs.size + 1) k;refine .inr ⟨.inl k,c,e,?_⟩;have q:=x.cell y c e;rw[u0 W U hu (by show scope.names.lookup y≠_;rw[k];decide)]at q;exact q
 ·exact G.hok.fresh (Et (x.above y c (BM h)))
 ·unfold start;show _=N.length;rw[Av,Ac,List.length_replicate];omega
theorem aHd{CX:CXT}{P:Al}{w:AH}{K:Ae}{mg:Str→Option Ab}{base:A1}{k:Nat}{f:Af}{name qual:Str}{O:Arguments}{U:List Br}{scope:Cq}{dV kV af pm G ct oc:Ab}{an od:Option Af}
  {ah:Array (Option Ab)} {N ps:List Str} {sp:Sp} (lk:K.lookup f=some ⟨oc,od,.func (Bm name qual O U scope dV kV af pm an G ct),ah⟩) (ak:Bt K G qual=true) (S:bB N ps scope)
  (len:∀ vs H Q E,sp vs H Q E→vs.length=ps.length)
  (Z:∀(A:AB) (outer:List Env) (s:Ad) (H:Hp) (vs:List V) (Q:VK) (E:XK),cJ k (A.deeper (envOfC qual scope s.heap.objs.size f G))→sp vs H Q E→
   ∃ t,PSs (fU CX P w K mg base N qual scope f G A outer s H E) U t∧t { nx:=fun _ H'=>Q .non H',rt:=Q } (start N vs) H):
  b8 P w K mg base CX (k + 1) f (Bm name qual O U scope dV kV af pm an G ct) ps sp:=by
 refine⟨len,fun A outer s H am us vs Q E hr e0 hb r ac=>?_⟩;have hl:=len _ _ _ _ ac;have KX:K.In s.heap:=e0.mod.kin.keeps fun b o e=>(e0.bs b o e).1;have aj:s.heap.NoLimit:=e0.mod.nolimit.keeps fun b o e=>(e0.bs b o e).1;have Y:∀ y∈ps.zip us,scope.names.lookup y.1=some .local∨(scope.names.lookup y.1=some .cell∧((cellsFrom (s.heap.objs.size + 1) scope.names []).lookup y.1).isSome=true):=fun⟨n,v⟩ hy=>by
  rcases S.par n (Fk hy).1 with q | q
  ·exact .inl q
  ·exact .inr ⟨q,PySem.W.cellsFrom_some _ _ _ (.inl q)⟩
 refine codeAny_call_function hr.depth (KX _ _ lk) rfl S.co S.gen rfl (PySem.W.codeRec_of KX ak) (hb _ _ _ _ ?_);refine wpAny_newFunctionEnv_cells S.kind Y fun env he s1 x=>?_;subst he;refine⟨aj.keeps x.toInCall.keep,codeAny_func ?_⟩;obtain⟨t,ht,hq⟩:=Z A outer s H vs Q E (hr.deeper _) ac;have I:Inv (fU CX P w K mg base N qual scope f G A outer s H E) [] (start N vs) H s1:=aCP S hr.hd e0 hl r x;refine Bd (ht [] s1 (start N vs) H _ I hq) (fun fl s' hs=>?_) fun e s' hs=>hs;have ad:∀{σ':St} {H':Hp} {v:V} {u:Ab},Inv (fU CX P w K mg base N qual scope f G A outer s H E) [] σ' H' s'→cR v u→Q v H'→CE outer P w H s Q u s':=
  fun{σ' H' v u} J rv q=>⟨v,H',J.os,J.bare,J.base,J.hok,rv,q⟩
 cases fl with
 | ret u=>
  obtain⟨v,σ',H',J,rv,q⟩:=hs;exact ad J rv q
 | next=>
  obtain⟨σ',H',J,q⟩:=hs;exact ad (v:=V.non) (u:=B0) J rfl q
 | brk=>
  obtain⟨_,_,_,q⟩:=hs;exact Bx q
 | cont=>
  obtain⟨_,_,_,q⟩:=hs;exact Bx q
section
variable{X:Cx}{x:Str}{p pos:Pos}{e:A5}{es:List A5}{t:TA}{id T:String}{r:List V→Hp→VK→Prop}
def tCB(r:List V→Hp→VK→Prop)(t:TA):TE:=fun σ H Q=>t σ H fun vs H1=>r vs H1 Q
theorem aM(hc:fT X (.builtin id) r)(U:Gl X x)(hm:X.mg x=none)(Z:bootBuiltins x=some (.builtin id))(ha:PA X (e :: es) t)(hn:x≠"__name__":=by decide)(G:(x == ("__debug__":Str))=false:=by decide)
  (he:starEach (e :: es) X.env=(false,eval e X.env) :: starEach es X.env:=by rfl) (J:(backTo pos (starEach es X.env)).any (·.1)=false:=by rfl):PE X (.Call (.Name x p) (e :: es) [] pos) (tCB r t):=by
 constructor;intro fe s σ H Q I h;refine Dm (mJ I U hm Z ?_ hn G);exact PyProof.Rows.callWith_builtin1 (thn (ha pos fe s σ H _ I h) fun O s1 ⟨vs,H1,W,r1,Y⟩=>hc fe s1 σ H1 vs O Q W r1 Y) he J
theorem bV(hc:fT X (.type T) r)(U:Gl X x)(hm:X.mg x=none)(Z:bootBuiltins x=some (.type T))(ha:PA X (e :: es) t)(hn:x≠"__name__":=by decide)(G:(x == ("__debug__":Str))=false:=by decide)
  (he:starEach (e :: es) X.env=(false,eval e X.env) :: starEach es X.env:=by rfl) (J:(backTo pos (starEach es X.env)).any (·.1)=false:=by rfl):PE X (.Call (.Name x p) (e :: es) [] pos) (tCB r t):=by
 constructor;intro fe s σ H Q I h;refine Dm (mJ I U hm Z ?_ hn G);exact BU (thn (ha pos fe s σ H _ I h) fun O s1 ⟨vs,H1,W,r1,Y⟩=>hc fe s1 σ H1 vs O Q W r1 Y) he J
end
end L2
namespace HT
open PySem PyProof.Rows
section
open PySem.SeqAt
open PySem.AutoSeq1 (wpAny_loadPart')
open PySem.MeetsSeq PySem.MeetsSeq2 PySem.MeetsSeq3
end
section
variable{prog:Al}{w:AH}{A:AB}{E:Ab→Ad→Prop}{s:Ad}
theorem cat_tup{t b:Af}{vs ws:List Ab}{Q:Ab→Ad→Prop}(ht:Fq s.heap t vs.toArray)(J:Fq s.heap b ws.toArray)(G:vs≠[])
  (h1:ws=[]→Q (.ref t) s) (h2:ws≠[]→Q (.ref s.heap.objs.size) { s with heap:=s.heap.push { cls:=.type "tuple",data:=.seq (vs ++ ws).toArray } })
  (hsz:vs.length + ws.length≤sizeLine):wpAny (model prog w) A (binaryOp .Add (.ref t) (.ref b)) Q E s:=by
 obtain⟨⟨cls,dd,data,sl⟩,ho,hc,n,hd⟩:=id ht;obtain⟨⟨cls2,dd2,data2,sl2⟩,ho2,hc2,n2,hd2⟩:=id J;simp only at hc hd hc2 hd2;subst hc hd hc2 hd2;have e:vs.toArray ++ ws.toArray=(vs ++ ws).toArray:=by simp
 by_cases hw:ws=[]
 ·exact F2 ⟨_,ho,rfl⟩ ⟨_,ho2,rfl⟩ Fx FW Eg D5 (DZ _ _)
   (tuple_addW1 t b vs.toArray ws.toArray n n2 dd dd2 sl sl2 (by simpa using G) (by simp[hw])) ⟨ho,ho2,h1 hw⟩
 ·refine F2 ⟨_,ho,rfl⟩ ⟨_,ho2,rfl⟩ Fx FW Eg D5 (DZ _ _)
   (tuple_addW2 t b vs.toArray ws.toArray n n2 dd dd2 sl sl2 (by simpa using G) (by simpa using hw) (by rw[Ao,Ao];exact hsz)) ⟨ho,ho2,?_⟩
  rw[e];exact h2 hw
def sIx(n d:Nat):Option Int→Nat
 | none=>d
 | some v=>if v < 0 then(v + (n:Int)).toNat else min v.toNat n
theorem sIx_none(n d:Nat):sIx n d none=d:=rfl
theorem sIx_nat(n d k:Nat):sIx n d (some (k:Int))=min k n:=by
 show(if (k:Int) < 0 then((k:Int) + (n:Int)).toNat else min (k:Int).toNat n)=min k n;rw[Ia (by omega),BA]
theorem aHM(n d:Nat)(hd:d≤n)(o:Option Int):sIx n d o≤n:=by
 cases o with
 | none=>exact hd
 | some v=>
  show(if v < 0 then(v + (n:Int)).toNat else min v.toNat n)≤n;by_cases G:v < 0
  ·rw[Ib G];omega
  ·rw[Ia G];exact Nat.min_le_right _ _
theorem aBE(v:Int)(n d:Nat):(if v < 0 then max (v + (n:Int)) 0 else min v (n:Int))=((sIx n d (some v):Nat):Int):=by
 show(if v < 0 then max (v + (n:Int)) 0 else min v (n:Int))=(((if v < 0 then(v + (n:Int)).toNat else min v.toNat n):Nat):Int)
 by_cases G:v < 0
 ·simp only[Ib G];omega
 ·simp only[Ia G];omega
theorem aAM(lo hi:Option Int)(n:Nat):DB lo hi 1 (n:Int)=(((sIx n 0 lo:Nat):Int),((sIx n n hi:Nat):Int)):=by
 have h1:¬ ((1:Int) < 0):=by omega
 unfold DB;simp only[h1,if_false];refine Prod.ext ?_ ?_
 ·cases lo with
  | none=>rfl
  | some v=>exact aBE v n 0
 ·cases hi with
  | none=>rfl
  | some v=>exact aBE v n n
theorem aAN(i j:Nat):Cz (i:Int) (j:Int) 1=j - i:=by
 unfold Cz;have h1:(1:Int) > 0:=by omega
 simp only[h1,if_true,FS];split <;> omega
theorem rF{v:Ab}{o:Option Int}{Q:Option Int→Ad→Prop}(p:EF v o)(h:Q o s):wpAny (model prog w) A (Builtin.Slice.slicePartIndex v) Q E s:=by
 cases p with
 | none=>exact slicePart_none h
 | int i t=>exact slicePart_int h
theorem sliceApplied_gen{O:Af}{J G:Ab}{lo hi:Option Int}{n:Nat}{Q:Int×Int×Nat→Ad→Prop}(U:s.heap.IsSliceOf O J G .none)(pl:EF J lo)(W:EF G hi)
  (h:Q (((sIx n 0 lo:Nat):Int),1,sIx n n hi - sIx n 0 lo) s):wpAny (model prog w) A (Builtin.Slice.sliceApplied (.ref O) (pure (n:Int))) Q E s:=by
 obtain⟨os,hos,hcs,hds⟩:=id U;unfold Builtin.Slice.sliceApplied Builtin.Slice.sliceFields;refine Aa (Aa (DO hos hds (x:=J) rfl (Aa (DO hos hds (x:=G) rfl (Aa (DO hos hds (x:=.none) rfl (Ag ?_)))))));refine Aa (slicePart_none ?_);show wpAny _ _ (if ((1:Int) == 0)=true then _ else _) _ _ s;rw[Ia (by decide)];refine Aa (rF pl (Aa (rF W (Aa (Ag ?_)))));show wpAny _ _ (match DB lo hi 1 (n:Int)with | (lo,hi)=>pure (lo,(1:Int),Cz lo hi 1)) _ _ s;rw[aAM lo hi n];show wpAny _ _ (pure (((sIx n 0 lo:Nat):Int),(1:Int),Cz ((sIx n 0 lo:Nat):Int) ((sIx n n hi:Nat):Int) 1)) _ _ s;rw[aAN];exact Ag h
theorem aDN(xs:Array Ab)(i k:Nat):((AJ k).filterMap fun(m:Nat)=>xs[((i:Int) + (m:Int) * 1).toNat]?).toArray=((xs.toList.drop i).take k).toArray:=by
 have e:(fun(m:Nat)=>xs[((i:Int) + (m:Int) * 1).toNat]?)=fun m=>xs[i + m]?:=by
  funext m;have:((i:Int) + (m:Int) * 1).toNat=i + m:=by omega
  rw[this]
 rw[e];have:=pick_run xs i k;rw[List.filterMap_map]at this;have G:((fun x=>xs[x]?) ∘ fun x=>i + x)=fun m=>xs[i + m]?:=rfl;rw[G]at this;rw[this]
theorem getItem_tuple_cut{t W:Af}{G:Array Ab}{Z vu:Ab}{lo hi:Option Int}{Q:Ab→Ad→Prop}(ht:Fq s.heap t G)(Y:s.heap.IsSliceOf W Z vu .none)(pl:EF Z lo)(pu:EF vu hi)
  (hw:¬ (sIx G.size 0 lo=0∧sIx G.size G.size hi=G.size))
  (h:Q (.ref s.heap.objs.size) { s with heap:=s.heap.push { cls:=.type "tuple",data:=.seq ((G.toList.drop (sIx G.size 0 lo)).take (sIx G.size G.size hi - sIx G.size 0 lo)).toArray } })
  (hsz:G.size≤sizeLine):wpAny (model prog w) A (getItem (.ref t) (.ref W)) Q E s:=by
 have J:sizeOk (.seq ((G.toList.drop (sIx G.size 0 lo)).take (sIx G.size G.size hi - sIx G.size 0 lo)).toArray):=by
  show((G.toList.drop (sIx G.size 0 lo)).take (sIx G.size G.size hi - sIx G.size 0 lo)).toArray.size≤sizeLine;rw[Ao,AC,Bk,AS];omega
 have hj:sIx G.size G.size hi≤G.size:=aHM _ _ (An _) hi;obtain⟨os,hos,hcs,hds⟩:=id Y;have U:s.TypeIs (.ref W) "slice":=⟨os,hos,hcs⟩
 unfold getItem
 try with_reducible refine A7 ?_
 first | refine Aa (Ag ?_) | skip
 refine Aa (wpAny_sequenceKey ht.typeIs (by decide) ?_);refine Aa (B4 (name:=A4 "__getitem__") ht.typeIs Bw
  (BX Bw ht.typeIs entry_tuple_getitem ?_ (args_tuple_getitem _ _)))
 show wpAny _ _ (Builtin.Tuple.tupleItemsOf (.ref t) >>= _) _ _ s;refine Aa (tupleItemsOf_ ht ?_);refine Aa (CF U ?_);rw[Ib (by decide)];refine Aa (sliceApplied_gen Y pl pu ?_);have O:¬ ((((sIx G.size 0 lo:Nat):Int) == 0 && (1:Int) == 1 && (sIx G.size G.size hi - sIx G.size 0 lo) == G.size)=true):=by
  intro q;rw[Ay,Ay]at q;have q1:((sIx G.size 0 lo:Nat):Int)=0:=eq_of_beq q.1.1;have q2:sIx G.size G.size hi - sIx G.size 0 lo=G.size:=eq_of_beq q.2;exact hw ⟨by omega,by omega⟩
 show wpAny _ _ (if (((sIx G.size 0 lo:Nat):Int) == 0 && (1:Int) == 1 && (sIx G.size G.size hi - sIx G.size 0 lo) == G.size)=true then _ else _) _ _ s;rw[Ia O,aDN]
 first
  | exact Aa (m:=CI _) (BB (Ag ⟨_,rfl,Ag h⟩) J)
  | exact Aa (m:=CI _) (BB (Aa (Ag (Ag ⟨_,rfl,Ag h⟩))) J)
  | exact Aa (Aa (m:=CI _) (BB (Ag (Ag ⟨_,rfl,Ag h⟩)) J))
  | exact Aa (Aa (m:=CI _) (BB (Ag ⟨_,rfl,Ag h⟩) J))
end
end HT
namespace L2
open PySem PySem.Spec PyProof.Rows
abbrev TO:=St→Hp→(Option Int→Hp→Prop)→Prop
structure PO(X:Cx)(e:Option A5)(t:TO):Prop where
 run:
  ∀(fe:List (Af×Obj)) (s:Ad) (σ:St) (H:Hp) (Q:Option Int→Hp→Prop),Inv X fe σ H s→t σ H Q→
   wpAny (model X.prog X.w) X.A (evalPart e X.env) (fun u s'=>∃ o H',Inv X fe σ H' s'∧EF u o∧Q o H') X.xe s
instance{X:Cx}{e:Option A5}{t:TO}:CoeFun (PO X e t) (fun _=>
 ∀(fe:List (Af×Obj)) (s:Ad) (σ:St) (H:Hp) (Q:Option Int→Hp→Prop),Inv X fe σ H s→t σ H Q→
  wpAny (model X.prog X.w) X.A (evalPart e X.env) (fun u s'=>∃ o H',Inv X fe σ H' s'∧EF u o∧Q o H') X.xe s):=⟨fun h=>h.run⟩
def aF9:TO:=fun _ H Q=>Q none H
def aI1(t:TE):TO:=fun σ H Q=>t σ H fun x H1=>As V.int x fun i=>Q (some i) H1
section
variable{X:Cx}{e:A5}{te:TE}{lo hi:Option A5}{tl th:TO}{pos p2:Pos}
theorem cU:PO X none aF9:=by
 constructor;intro fe s σ H Q I h;rw[FX];exact Ag ⟨none,H,I,.none,h⟩
theorem cA(h:PE X e te):PO X (some e) (aI1 te):=by
 constructor;intro fe s σ H Q I hw;rw[evalPart_some];refine thn (h fe s σ H _ I hw) fun u s1 ⟨x,H1,G,O,J⟩=>?_;obtain⟨i,rfl,q⟩:=J;obtain⟨t,rfl⟩:=O;exact⟨some i,H1,G,.int i t,q⟩
def SlR(X:Cx)(r:V→Option Int→Option Int→Hp→VK→Prop):Prop:=
 ∀(fe:List (Af×Obj)) (s:Ad) (σ:St) (H:Hp) (x:V) (v vl vu:Ab) (lo hi:Option Int) (sl:Af) (Q:VK),Inv X fe σ H s→cR x v→s.heap.IsSliceOf sl vl vu .none→EF vl lo→EF vu hi→r x lo hi H Q→
  ∃ T id,typeLookup (.type T) "__getitem__"=pure (some (.builtin id))∧s.TypeIs v T∧wpAny (model X.prog X.w) X.A (getItem v (.ref sl)) (EP X fe σ Q) X.xe s
def tSl(r:V→Option Int→Option Int→Hp→VK→Prop)(te:TE)(tl th:TO):TE:=fun σ H Q=>te σ H fun x H1=>tl σ H1 fun l H2=>th σ H2 fun u H3=>r x l u H3 Q
theorem bY{r:V→Option Int→Option Int→Hp→VK→Prop}(hr:SlR X r)(he:PE X e te)(hl:PO X lo tl)(hu:PO X hi th):PE X (.Subscript e (.Slice lo hi none p2) pos) (tSl r te tl th):=by
 constructor;intro fe s σ H Q I h;refine FO (thn (he fe s σ H _ I h) fun v s1 ⟨x,H1,I1,r1,q1⟩=>?_);refine wpAny_Slice (thn (hl fe s1 σ H1 _ I1 q1) fun J Y ⟨l,H2,I2,pl,q2⟩=>thn (hu fe Y σ H2 _ I2 q2) fun O G ⟨u,U,I3,W,q3⟩=>?_);rw[FX];refine Ag ?_;have Z:Inv X fe σ U { G with heap:=G.heap.push { cls:=.type "slice",data:=.fields #[J,O,.none] } }:=I3.kept (t':=G.toks) fun b ob q=>Ah _ q;obtain⟨T,id,hT,ht,hg⟩:=hr fe { G with heap:=G.heap.push { cls:=.type "slice",data:=.fields #[J,O,.none] } } σ U x v J O l u G.heap.objs.size Q Z r1 (Heap.IsSliceOf.new ..) pl W q3;show wpAny (model X.prog X.w) X.A (subscriptTail e (.Slice lo hi none p2) v (.ref G.heap.objs.size)) (EP X fe σ Q) X.xe { G with heap:=G.heap.push { cls:=.type "slice",data:=.fields #[J,O,.none] } };exact tail_any (ops:=[.ref G.heap.objs.size,v]) ht hT hg (by with_unfolding_all rfl)
def eJ(xs:List V)(lo hi:Option Int):List V:=(xs.drop (HT.sIx xs.length 0 lo)).take (HT.sIx xs.length xs.length hi - HT.sIx xs.length 0 lo)
theorem pX(xs:List V)(lo hi:Option Int):(eJ xs lo hi).length≤xs.length:=by
 unfold eJ;rw[AC,Bk];omega
inductive aDO(K:Ae)(x:V)(lo:Option Int)(hi:Option Int)(H:Hp)(Q:VK):Prop
 | mk (a:_) (xs:_) (q0:x=.ref a) (q1:SqT K H a xs) (q2:¬ (HT.sIx xs.length 0 lo=0∧HT.sIx xs.length xs.length hi=xs.length)) (q3:∀ p,H p=none→Q (.ref p) (upd H p (.tup (eJ xs lo hi)))):aDO K x lo hi H Q
def aJQ(K:Ae):V→Option Int→Option Int→Hp→VK→Prop:=fun x lo hi H Q=>aDO K x lo hi H Q
theorem aHN:SlR X (aJQ X.K):=by
 intro fe s σ H x v W Y lo hi Z Q I J U pl O h;obtain⟨a,xs,rfl,hx,hw,q⟩:=h;cases J;obtain⟨its,r,ht,hz⟩:=I.tuple hx;have G:its.toArray.size=xs.length:=by rw[Ao];exact r.length.symm
 refine⟨"tuple",_,Bw.lookup,ht.typeIs,HT.getItem_tuple_cut ht U pl O (by rw[G];exact hw) ?_ (by rw[G];exact hz)⟩;rw[G];refine⟨.ref s.heap.objs.size,_,I.laid (t':=s.toks) (o:=.tup (eJ xs lo hi)) (fun b ob q=>Ah _ q) (An _) ?_,rfl,q _ (I.hok.fresh (An _))⟩;exact⟨AM (pX xs lo hi) hz,_,(r.drop (HT.sIx xs.length 0 lo)).take (HT.sIx xs.length xs.length hi - HT.sIx xs.length 0 lo),⟨_,AA _ rfl,⟨rfl,_,rfl⟩,rfl⟩⟩
inductive aBF(K:Ae)(x:V)(y:V)(H:Hp)(Q:VK):Prop
 | mk (a:_) (b:_) (xs:_) (ys:_) (q0:x=.ref a) (q1:y=.ref b) (q2:SqT K H a xs) (q3:SqT K H b ys) (q4:xs≠[]) (q5:xs.length + ys.length≤sizeLine) (q6:(ys=[]→Q (.ref a) H)) (q7:(ys≠[]→∀ p,H p=none→Q (.ref p) (upd H p (.tup (xs ++ ys))))):aBF K x y H Q
def aI2(K:Ae):R2:=fun x y H Q=>aBF K x y H Q
theorem cF.nil_iff{xs:List V}{G:List Ab}(r:cF xs G):G=[]↔xs=[]:=by
 cases r with
 | nil=>simp
 | cons _ _=>simp
theorem aBG:OpR X (binaryOp .Add) (aI2 X.K):=by
 intro fe s σ H x y v u Q I J G h;obtain⟨a,b,xs,ys,rfl,rfl,ha,hb,hx,hz,q1,q2⟩:=h;cases J;cases G;obtain⟨its,r1,p1,_⟩:=I.tuple ha;obtain⟨its2,r2,p2,_⟩:=I.tuple hb;refine HT.cat_tup p1 p2 (fun z=>hx (r1.nil_iff.mp z)) (fun z=>⟨.ref a,H,I,rfl,q1 (r2.nil_iff.mp z)⟩) (fun z=>?_) (by rw[← r1.length,← r2.length];exact hz);refine⟨.ref s.heap.objs.size,_,I.laid (t':=s.toks) (o:=.tup (xs ++ ys)) (fun b ob q=>Ah _ q) (An _) ?_,rfl,q2 (fun w=>z (r2.nil_iff.mpr w)) _ (I.hok.fresh (An _))⟩;exact⟨by rw[Av];exact hz,_,r1.append r2,⟨_,AA _ rfl,⟨rfl,_,rfl⟩,rfl⟩⟩
end
def ixN(n:Nat)(i:Int):Option Nat:=if 0≤i then(if i < n then some i.toNat else none) else if -(n:Int)≤i then some (i + n).toNat else none
def atI{α:Type}(xs:List α)(i:Int):Option α:=(ixN xs.length i).bind fun j=>xs[j]?
theorem wC{n:Nat}{i:Int}{j:Nat}(h:ixN n i=some j):seqIndex? i n=some j∧j < n∧-(n:Int)≤i∧i < n:=by
 unfold ixN at h;by_cases G:0≤i
 ·rw[Ib G]at h;by_cases h1:i < n
  ·rw[Ib h1]at h;have e:i.toNat=j:=BD.inj h;exact⟨by rw[Gb G h1,e],by omega,by omega,h1⟩
  ·rw[Ia h1]at h;cases h
 ·rw[Ia G]at h;by_cases h1:-(n:Int)≤i
  ·rw[Ib h1]at h;have e:(i + n).toNat=j:=BD.inj h;exact⟨by rw[seqIndex_neg (by omega) h1,e],by omega,h1,by omega⟩
  ·rw[Ia h1]at h;cases h
theorem wD{α:Type}{xs:List α}{i:Int}{v:α}(h:atI xs i=some v):∃ j,seqIndex? i xs.length=some j∧xs[j]?=some v∧j < xs.length∧-(xs.length:Int)≤i∧i < xs.length:=by
 unfold atI at h;cases e:ixN xs.length i with
 | none=>rw[e]at h;cases h
 | some j=>
  rw[e]at h;obtain⟨h1,h2,h3,h4⟩:=wC e;exact⟨j,h1,h,h2,h3,h4⟩
theorem bO{α:Type}{xs:List α}{j:Nat}{v:α}(h:xs[j]?=some v):atI xs (j:Int)=some v:=by
 have G:j < xs.length:=(AZ.mp h).1;have e:ixN xs.length (j:Int)=some j:=by
  unfold ixN;rw[Ib (by omega),Ib (by omega)];simp
 unfold atI;rw[e];exact h
def aGa(b:A5):Prop:=∀ o i,subscripted b false o i=operate [o,i] (getItem o i)
def IxR(X:Cx)(r:R2):Prop:=
 ∀(value slice:A5) (fe:List (Af×Obj)) (s:Ad) (σ:St) (H:Hp) (x y:V) (v u:Ab) (Q:VK),Inv X fe σ H s→cR x v→cR y u→r x y H Q→
  subscripted slice false v u=operate [v,u] (getItem v u)→wpAny (model X.prog X.w) X.A (subscriptTail value slice v u) (EP X fe σ Q) X.xe s
def MtR(X:Cx)(id:String)(r:V→List V→Hp→VK→Prop):Prop:=
 ∀(fe:List (Af×Obj)) (s:Ad) (σ:St) (H:Hp) (x:V) (xs:List V) (v:Ab) (us:List Ab) (Q:VK),Inv X fe σ H s→cR x v→cF xs us→r x xs H Q→
  wpAny (model X.prog X.w) X.A (call (.builtin id) (v :: us)) (EP X fe σ Q) X.xe s
section
variable{X:Cx}{a b:A5}{ta tb:TE}{pos:Pos}
theorem aZ{r:R2}(W:IxR X r)(ha:PE X a ta)(Z:PE X b tb)(U:aGa b):PE X (.Subscript a b pos) (tOp r ta tb):=by
 constructor;intro fe s σ H Q I h;exact FO (aHJ ha Z I h fun v u J x y H2 Y G O q=>W a b fe J σ H2 x y v u Q Y G O q (U _ _))
inductive aDP(K:Ae)(x:V)(y:V)(H:Hp)(Q:VK):Prop
 | mk (p:_) (xs:_) (i:_) (v:_) (q0:x=.ref p) (q1:y=.int i) (q2:SqL K H p xs) (q3:atI xs i=some v) (q4:Q v H):aDP K x y H Q
def aI3(K:Ae):R2:=fun x y H Q=>aDP K x y H Q
inductive aDQ(K:Ae)(x:V)(y:V)(H:Hp)(Q:VK):Prop
 | mk (p:_) (xs:_) (i:_) (v:_) (q0:x=.ref p) (q1:y=.int i) (q2:SqT K H p xs) (q3:atI xs i=some v) (q4:Q v H):aDQ K x y H Q
def aHO(K:Ae):R2:=fun x y H Q=>aDQ K x y H Q
inductive aDR(x:V)(y:V)(H:Hp)(Q:VK):Prop
 | mk (z:_) (i:_) (c:_) (q0:x=.str z) (q1:y=.int i) (q2:z.length≤sizeLine) (q3:atI z.cps.toList i=some c) (q4:Q (.str ⟨#[c]⟩) H):aDR x y H Q
def aJR:R2:=fun x y H Q=>aDR x y H Q
theorem bS:IxR X (aI3 X.K):=by
 intro value J fe s σ H x y v u Q I Y Z h W;obtain⟨p,xs,i,z,rfl,rfl,hq,he,q⟩:=h;cases Y;obtain⟨t,rfl⟩:=Z;obtain⟨its,r,pl,hz⟩:=I.list hq;obtain⟨j,h1,h2,h3,h4,h5⟩:=wD he;obtain⟨w,ew,rw'⟩:=r.get h2;have hl:=r.length;have hn:=oW;have G:EP X fe σ Q w s:=⟨z,H,I,rw',q⟩
 by_cases U:0≤i
 ·have O:i.toNat=j:=by
   rw[Gb U h5]at h1;exact BD.inj h1
  exact item_listR pl.isList U (by omega) (by rw[O];simpa using ew) G W
 ·have O:(i + (its.toArray.size:Int)).toNat=j:=by
   rw[seqIndex_neg (by omega) h4]at h1;rw[Ao,← hl];exact BD.inj h1
  exact subscriptTail_builtinR (x:=w) pl.isList.typeIs slot_list_getitem.lookup
   (wpAny_getItem_list_neg (Q:=fun r s'=>r=w∧EP X fe σ Q r s') pl.isList (by omega) (by rw[Ao] <;> omega) (by omega) (by rw[O];simpa using ew) ⟨rfl,G⟩) W
theorem bU:IxR X (aHO X.K):=by
 intro value G fe s σ H x y v u Q I O U h Y;obtain⟨p,xs,i,z,rfl,rfl,hq,he,q⟩:=h;cases O;obtain⟨t,rfl⟩:=U;obtain⟨its,r,pl,hz⟩:=I.tuple hq;obtain⟨j,h1,h2,h3,h4,h5⟩:=wD he;obtain⟨w,ew,rw'⟩:=r.get h2;have W:=r.length;have hn:=oW;have J:EP X fe σ Q w s:=⟨z,H,I,rw',q⟩
 exact subscriptTail_builtinR (x:=w) pl.typeIs slot_tuple_getitem.lookup
  (getItem_tuple (j:=j) (Q:=fun r s'=>r=w∧EP X fe σ Q r s') pl (by omega) (by omega) (by rw[Ao,← W];exact h1) (by simpa using ew) ⟨rfl,J⟩) Y
theorem mQ:IxR X aJR:=by
 intro value G fe s σ H x y v u Q I J U h Y;obtain⟨z,i,c,rfl,rfl,hz,he,q⟩:=h;obtain⟨t,rfl⟩:=J;obtain⟨t',rfl⟩:=U;obtain⟨j,h1,h2,h3,h4,h5⟩:=wD he;have W:z.cps.toList.length=z.length:=by simp[Str.length]
 rw[W]at h1 h4 h5;have hn:=oW;exact tail_any (Ec s z t) slot_str_getitem.lookup (getItem_str (c:=c) (by
  have Z:decide (i < -(2 ^ 63:Int))=false:=decide_eq_false (by omega);have O:decide (i ≥ 2 ^ 63)=false:=decide_eq_false (by omega);rw[Z,O,Bool.or_false]) (by rw[h1];simpa using h2) ⟨.str ⟨#[c]⟩,H,I.tok _,⟨_,rfl⟩,q⟩) Y
theorem aAO(its:List Ab)(n j:Nat)(u:Ab):C7 (·.setIfInBounds j u) { cls:=.type "list",data:=.seq its.toArray n }={ cls:=.type "list",data:=.seq (its.set j u).toArray n }:=by
 simp[C7]
theorem Inv.lst{fe:List (Af×Obj)}{σ:St}{H:Hp}{s:Ad}{p:Af}{xs:List V}(I:Inv X fe σ H s)(h:H p=some (.lst xs)):
  ∃(its:List Ab) (n:Nat),cF xs its∧s.heap.get? p=some { cls:=.type "list",data:=.seq its.toArray n }∧xs.length≤sizeLine:=by
 obtain⟨z,its,n,r,e⟩:=I.hok p _ h;exact⟨its,n,r,e,z⟩
theorem Inv.lstUpd{fe:List (Af×Obj)}{σ:St}{H:Hp}{s:Ad}{p:Af}{xs ys:List V}{its its':List Ab}{n G:Nat}{f:Obj→Obj}(I:Inv X fe σ H s)(h:H p=some (.lst xs))
  (O:s.heap.get? p=some { cls:=.type "list",data:=.seq its.toArray n }) (J:f { cls:=.type "list",data:=.seq its.toArray n }={ cls:=.type "list",data:=.seq its'.toArray G }) (r:cF ys its') (hz:ys.length≤sizeLine) (t:Nat):
  Inv X fe σ (upd H p (.lst ys)) { s with heap:=s.heap.update p f,toks:=t }:=by
 have e:(s.heap.update p f).get? p=some { cls:=.type "list",data:=.seq its'.toArray G }:=by
  rw[Bi f O (by rw[J] <;> rfl),J]
 refine I.write (x:=p) (e:=p) (by rw[h];trivial) (.inl rfl) (fun b u U q=>(BP _ _ (CL U)).trans q) ⟨_,e⟩ ?_;exact⟨hz,its',G,r,e⟩
inductive aBH(o:V)(i:V)(v:V)(H:Hp)(Q:(Hp→Prop)):Prop
 | mk (p:_) (xs:_) (k:_) (j:_) (q0:o=.ref p) (q1:i=.int k) (q2:H p=some (.lst xs)) (q3:ixN xs.length k=some j) (q4:Q (upd H p (.lst (xs.set j v)))):aBH o i v H Q
def aI4:V→V→V→Hp→(Hp→Prop)→Prop:=fun o i v H Q=>aBH o i v H Q
theorem rG:aIQ X aI4:=by
 intro fe s σ H o i v ov iv u Q I Z ri Y h;obtain⟨p,xs,k,j,rfl,rfl,hp,hj,q⟩:=h;cases Z;obtain⟨t,rfl⟩:=ri;obtain⟨its,n,r,ho,hz⟩:=I.lst hp;obtain⟨h1,h2,h3,h4⟩:=wC hj;have G:=r.length;have hn:=oW;have U:Inv X fe σ (upd H p (.lst (xs.set j v))) { s with heap:=s.heap.update p (C7 (·.setIfInBounds j u)) }:=
  I.lstUpd hp ho (aAO its n j u) (r.set Y j) (by rw[List.length_set];exact hz) s.toks
 by_cases O:0≤k
 ·have J:k.toNat=j:=by
   rw[Gb O h4]at h1;exact BD.inj h1
  exact PySem.W.ki_setAt ho O (by omega) (by rw[Ao,← G];exact h4) (by rw[J];exact⟨_,U,q⟩)
 ·have J:(k + (its.toArray.size:Int)).toNat=j:=by
   rw[seqIndex_neg (by omega) h3]at h1;rw[Ao,← G];exact BD.inj h1
  exact PySem.W.ki_setBack ho (by omega) (by rw[Ao,← G];exact h3) (by omega) (by rw[J];exact⟨_,U,q⟩)
theorem wE(lo hi:Option Int)(n:Nat):(sliceBounds lo hi none n).1=((HT.sIx n 0 lo:Nat):Int)∧(sliceBounds lo hi none n).2.1=((HT.sIx n n hi:Nat):Int)∧(sliceBounds lo hi none n).2.2=1:=by
 refine⟨?_,?_,rfl⟩
 ·cases lo with
  | none=>simp[sliceBounds,HT.sIx]
  | some i=>
   simp only[sliceBounds,HT.sIx,Option.getD_none,show(1:Int) > 0 by decide,if_true];by_cases h:i < 0
   ·simp only[h,if_true] <;> omega
   ·simp only[h,if_false] <;> omega
 ·cases hi with
  | none=>simp[sliceBounds,HT.sIx]
  | some i=>
   simp only[sliceBounds,HT.sIx,Option.getD_none,show(1:Int) > 0 by decide,if_true];by_cases h:i < 0
   ·simp only[h,if_true] <;> omega
   ·simp only[h,if_false] <;> omega
theorem uL(its:List Ab)(lo hi:Option Int):slicePick its.toArray lo hi none=((its.drop (HT.sIx its.length 0 lo)).take (HT.sIx its.length its.length hi - HT.sIx its.length 0 lo)).toArray:=by
 obtain⟨h1,h2,h3⟩:=wE lo hi its.toArray.size;unfold slicePick;rw[h1,h2,h3];simp only[sliceRange_one,pick_run,Ao] <;> rfl
inductive aDS(K:Ae)(x:V)(lo:Option Int)(hi:Option Int)(H:Hp)(Q:VK):Prop
 | mk (a:_) (xs:_) (q0:x=.ref a) (q1:SqL K H a xs) (q2:∀ p,H p=none→Q (.ref p) (upd H p (.lst (eJ xs lo hi)))):aDS K x lo hi H Q
def aI5(K:Ae):V→Option Int→Option Int→Hp→VK→Prop:=fun x lo hi H Q=>aDS K x lo hi H Q
theorem d9:SlR X (aI5 X.K):=by
 intro fe s σ H x v W Y lo hi Z Q I J U pl O h;obtain⟨a,xs,rfl,hx,q⟩:=h;cases J;obtain⟨its,r,ht,hz⟩:=I.list hx;have G:=r.length;refine⟨"list",_,slot_list_getitem.lookup,ht.isList.typeIs,wpAny_getItem_list_slice ht.isList U pl O .none (by simp) ?_ (by rw[Ao] <;> omega)⟩;rw[uL,← G];refine⟨.ref s.heap.objs.size,_,I.laid (t':=s.toks) (o:=.lst (eJ xs lo hi)) (fun b ob q=>Ah _ q) (An _) ?_,rfl,q _ (I.hok.fresh (An _))⟩;exact⟨AM (pX xs lo hi) hz,_,0,(r.drop (HT.sIx xs.length 0 lo)).take (HT.sIx xs.length xs.length hi - HT.sIx xs.length 0 lo),AA _ rfl⟩
def gD:V→Bool
 | .non=>true
 | .bl _=>true
 | .int _=>true
 | .str _=>true
 | _=>false
def eqV:V→V→Bool
 | .non,.non=>true
 | .bl a,.bl b=>a == b
 | .bl a,.int b=>(if a then 1 else 0) == b
 | .int a,.bl b=>a == (if b then 1 else 0)
 | .int a,.int b=>a == b
 | .str a,.str b=>a == b
 | _,_=>false
theorem aDT{A:AB}{s:Ad}{y x:V}{u v:Ab}(J:cR y u)(G:cR x v)(U:gD y=true)(O:gD x=true):FY A s u v (eqV y x):=by
 cases y with
 | non=>
  cases J;cases x with
  | non=>cases G;exact SeqAt.EqAt.same _
  | bl b=>cases G;exact SeqAt.EqAt.none_bool b
  | int b=>obtain⟨t,rfl⟩:=G;exact SeqAt.EqAt.none_int b t
  | str b=>obtain⟨t,rfl⟩:=G;exact SeqAt.EqAt.none_str b t
  | _=>exact absurd (show false=true from O) AG
 | bl a=>
  cases J;cases x with
  | non=>cases G;exact SeqAt.EqAt.bool_none a
  | bl b=>cases G;exact SeqAt.EqAt.bool_bool a b
  | int b=>obtain⟨t,rfl⟩:=G;exact SeqAt.EqAt.bool_int a b t
  | str b=>obtain⟨t,rfl⟩:=G;exact SeqAt.EqAt.bool_str a b t
  | _=>exact absurd (show false=true from O) AG
 | int a=>
  obtain⟨t',rfl⟩:=J;cases x with
  | non=>cases G;exact SeqAt.EqAt.int_none a t'
  | bl b=>cases G;exact SeqAt.EqAt.int_bool a t' b
  | int b=>obtain⟨t,rfl⟩:=G;exact SeqAt.EqAt.int_int a t' b t
  | str b=>obtain⟨t,rfl⟩:=G;exact SeqAt.EqAt.int_str a t' b t
  | _=>exact absurd (show false=true from O) AG
 | str a=>
  obtain⟨t',rfl⟩:=J;cases x with
  | non=>cases G;exact SeqAt.EqAt.str_none a t'
  | bl b=>cases G;exact SeqAt.EqAt.str_bool a t' b
  | int b=>obtain⟨t,rfl⟩:=G;exact SeqAt.EqAt.str_int a t' b t
  | str b=>obtain⟨t,rfl⟩:=G;exact SeqAt.EqAt.str_str a t' b t
  | _=>exact absurd (show false=true from O) AG
 | _=>exact absurd (show false=true from U) AG
def eqU(x:V)(u:Ab):Bool:=match u with
 | .none=>eqV .non x
 | .bool b=>eqV (.bl b) x
 | .int i _=>eqV (.int i) x
 | .str z _=>eqV (.str z) x
 | _=>false
theorem aDU{x y:V}{u:Ab}(r:cR y u)(f:gD y=true):eqU x u=eqV y x:=by
 cases y with
 | non=>cases r;rfl
 | bl b=>cases r;rfl
 | int i=>obtain⟨t,rfl⟩:=r;rfl
 | str z=>obtain⟨t,rfl⟩:=r;rfl
 | _=>exact absurd (show false=true from f) AG
theorem nH{x:V}:∀{xs:List V}{G:List Ab},cF xs G→xs.all gD=true→G.any (eqU x)=xs.any fun y=>eqV y x
 | _,_,.nil,_=>rfl
 | y :: xs,u :: G,.cons r t,f=>by
  rw[CB,Ay]at f;rw[D9,D9,aDU r f.1,nH t f.2]
theorem kJ{A:AB}{s:Ad}{x:V}{v:Ab}(O:cR x v)(U:gD x=true):∀{xs:List V}{J:List Ab},cF xs J→xs.all gD=true→∀ u∈J,FY A s u v (eqU x u)
 | _,_,.nil,_=>fun u G=>by cases G
 | y :: xs,u :: J,.cons r t,f=>fun W G=>by
  rw[CB,Ay]at f;rcases Ap.mp G with rfl | G
  ·rw[aDU r f.1];exact aDT r O f.1 U
  ·exact kJ O U t f.2 W G
def inV(x:V)(xs:List V):Bool:=xs.any fun y=>eqV y x
inductive aHe(K:Ae)(neg:Bool)(x:V)(y:V)(H:Hp)(Q:VK):Prop
 | mk (p:_) (xs:_) (q0:y=.ref p) (q1:(SqL K H p xs∨SqT K H p xs)) (q2:gD x=true) (q3:xs.all gD=true) (q4:Q (.bl (if neg then !inV x xs else inV x xs)) H):aHe K neg x y H Q
def rIn(K:Ae)(neg:Bool):R2:=fun x y H Q=>aHe K neg x y H Q
theorem lE:OpR X (compareOp .In) (rIn X.K false):=by
 intro fe s σ H x y v u Q I J O h;obtain⟨p,xs,rfl,G,fx,fs,q⟩:=h;cases O;rcases G with G | G
 ·obtain⟨its,r,pl,hz⟩:=I.list G;refine SeqAt.in_listAt (eqU x) pl.isList (fun w hw=>kJ J fx r fs w (by simpa using hw)) ⟨.bl _,H,I,rfl,?_⟩;rw[show its.toArray.any (eqU x)=its.any (eqU x) by simp,nH r fs];exact q
 ·obtain⟨its,r,pl,hz⟩:=I.tuple G;refine SeqAt.in_tupleAt (eqU x) pl (fun w hw=>kJ J fx r fs w (by simpa using hw)) ⟨.bl _,H,I,rfl,?_⟩;rw[show its.toArray.any (eqU x)=its.any (eqU x) by simp,nH r fs];exact q
theorem gW:OpR X (compareOp .NotIn) (rIn X.K true):=by
 intro fe s σ H x y v u Q I J O h;obtain⟨p,xs,rfl,G,fx,fs,q⟩:=h;cases O;rcases G with G | G
 ·obtain⟨its,r,pl,hz⟩:=I.list G;refine SeqAt.notIn_listAt (eqU x) pl.isList (fun w hw=>kJ J fx r fs w (by simpa using hw)) ⟨.bl _,H,I,rfl,?_⟩;rw[show its.toArray.any (eqU x)=its.any (eqU x) by simp,nH r fs];exact q
 ·obtain⟨its,r,pl,hz⟩:=I.tuple G;refine SeqAt.notIn_tupleAt (eqU x) pl (fun w hw=>kJ J fx r fs w (by simpa using hw)) ⟨.bl _,H,I,rfl,?_⟩;rw[show its.toArray.any (eqU x)=its.any (eqU x) by simp,nH r fs];exact q
inductive iZ(x:V)(y:V)(H:Hp)(Q:VK):Prop
 | mk (i:_) (j:_) (q0:x=.str i) (q1:y=.str j) (q2:Q (.bl (!(!(Builtin.Str.occurrences j i 0 j.length 1).isEmpty))) H):iZ x y H Q
def rH:V→V→Hp→VK→Prop:=fun x y H Q=>iZ x y H Q
theorem wF:OpR X (compareOp .NotIn) rH:=by
 intro fe s σ H x y v u Q I J G h;obtain⟨i,j,rfl,rfl,q⟩:=h;obtain⟨t,rfl⟩:=J;obtain⟨t',rfl⟩:=G;exact notIn_str ⟨.bl _,H,I,rfl,q⟩
inductive i0(K:Ae)(xs:List V)(H:Hp)(Q:VK):Prop
 | mk (p:_) (ys:_) (q0:xs=[.ref p]) (q1:(SqL K H p ys∨SqT K H p ys)) (q2:Q (.int ys.length) H):i0 K xs H Q
def hZ(K:Ae):List V→Hp→VK→Prop:=fun xs H Q=>i0 K xs H Q
theorem aO:fT X (.builtin "len") (hZ X.K):=by
 intro fe s σ H xs O Q I r h;obtain⟨p,ys,rfl,J,q⟩:=h;obtain⟨u,rfl,rx⟩:=gC r;cases rx;have hn:=oW;rcases J with J | J
 ·obtain⟨its,r',pl,hz⟩:=I.list J;have G:=r'.length;exact Calls.call_len_list pl.isList (by simp only[Ao] <;> omega) ⟨.int ys.length,H,I.tok _,⟨s.toks + 1,by rw[Ao,G]⟩,q⟩
 ·obtain⟨its,r',pl,hz⟩:=I.tuple J;have G:=r'.length;exact len_tuple pl (by simp only[Ao] <;> omega) ⟨.int ys.length,H,I.tok _,⟨s.toks + 1,by rw[Ao,G]⟩,q⟩
inductive i3(xs:List V)(H:Hp)(Q:VK):Prop
 | mk (z:_) (q0:xs=[.str z]) (q1:z.length≤sizeLine) (q2:Q (.int z.length) H):i3 xs H Q
def rJ:List V→Hp→VK→Prop:=fun xs H Q=>i3 xs H Q
theorem dJ:fT X (.builtin "len") rJ:=by
 intro fe s σ H xs G Q I r h;obtain⟨z,rfl,hz,q⟩:=h;obtain⟨u,rfl,t,rfl⟩:=gC r;have hn:=oW;exact len_str (by omega) ⟨.int z.length,H,I.tok _,⟨_,rfl⟩,q⟩
inductive i4(K:Ae)(xs:List V)(H:Hp)(Q:VK):Prop
 | mk (p:_) (ys:_) (q0:xs=[.ref p]) (q1:(SqL K H p ys∨SqT K H p ys)) (q2:∀ l,H l=none→Q (.ref l) (upd H l (.lst ys))):i4 K xs H Q
def rK(K:Ae):List V→Hp→VK→Prop:=fun xs H Q=>i4 K xs H Q
theorem dL:fT X (.type "list") (rK X.K):=by
 intro fe s σ H xs Z Q I r h;obtain⟨p,ys,rfl,Y,q⟩:=h;obtain⟨u,rfl,rx⟩:=gC r;cases rx;have W:∀(G:List Ab),cF ys G→ys.length≤sizeLine→∀(h':A1) (J:Nat),(∀ b o',s.heap.get? b=some o'→h'.get? b=some o')→
   h'.get? s.heap.objs.size=some { cls:=.type "list",dict:=none,data:=.seq G.toArray J,slots:=#[] }→EP X fe σ Q (.ref s.heap.objs.size) { s with heap:=h' }:=fun G O hz h' J kp e=>
  ⟨.ref s.heap.objs.size,_,I.laid (t':=s.toks) kp (An _) (show cX X.prog X.w _ h' _ (.lst ys) from⟨hz,G,J,O,e⟩),rfl,q _ (I.hok.fresh (An _))⟩
 rcases Y with Y | Y
 ·obtain⟨G,O,pl,hz⟩:=I.list Y;have U:=O.length;obtain⟨o,ho,hc,n,hd⟩:=pl.isList;exact call_list_seq p (.inl rfl) ho hc hd (fun h' J kp e=>W G O hz h' J kp e) (by simp only[Ao] <;> omega)
 ·obtain⟨G,O,pl,hz⟩:=I.tuple Y;have U:=O.length;obtain⟨o,ho,hc,n,hd⟩:=pl;exact call_list_seq p (.inr rfl) ho hc hd (fun h' J kp e=>W G O hz h' J kp e) (by simp only[Ao] <;> omega)
inductive iK(K:Ae)(xs:List V)(H:Hp)(Q:VK):Prop
 | mk (p:_) (ys:_) (q0:xs=[.ref p]) (q1:((SqL K H p ys∧∀ l,H l=none→Q (.ref l) (upd H l (.tup ys)))∨(SqT K H p ys∧Q (.ref p) H))):iK K xs H Q
def qF(K:Ae):List V→Hp→VK→Prop:=fun xs H Q=>iK K xs H Q
theorem dE:fT X (.type "tuple") (qF X.K):=by
 intro fe s σ H xs U Q I r h;obtain⟨p,ys,rfl,h⟩:=h;obtain⟨u,rfl,rx⟩:=gC r;cases rx;rcases h with⟨hq,q⟩ | ⟨hq,q⟩
 ·obtain⟨its,r',pl,hz⟩:=I.list hq;have G:=r'.length;refine call_tuple_list pl.isList (fun h' kp=>?_) (by simp only[Ao] <;> omega);have J:Inv X fe σ H { s with heap:=h' }:=I.kept (t':=s.toks) kp;have O:Inv X fe σ (upd H h'.objs.size (.tup ys)) { s with heap:=h'.push { cls:=.type "tuple",data:=.seq its.toArray } }:=
   J.laid (t':=s.toks) (fun b o e=>Ah _ e) (An _) (show cX X.prog X.w _ _ _ (.tup ys) from⟨hz,its,r',⟨_,AA _ rfl,⟨rfl,_,rfl⟩,rfl⟩⟩)
  exact⟨.ref h'.objs.size,_,O,rfl,q _ (J.hok.fresh (An _))⟩
 ·obtain⟨its,r',pl,hz⟩:=I.tuple hq;exact call_tuple_same pl ⟨.ref p,H,I,rfl,q⟩
def tyV(K:Ae)(T:String)(x:V)(H:Hp):Prop:=match x with
 | .str _=>T="str"
 | .int _=>T="int"
 | .ref p=>(T="list"∧∃ xs,SqL K H p xs)∨(T="tuple"∧∃ o,K.lookup p=some o∧o.cls=.type "tuple"∧o.dict=none)∨
   (T="dict"∧((∃ fg,H p=some (.dK fg))∨∃ fg,H p=some (.dT fg)))∨(T="set"∧∃ S n,H p=some (.set S n))∨(T="tuple"∧∃ xs,H p=some (.tup xs))
 | _=>False
theorem aDV{fe:List (Af×Obj)}{σ:St}{H:Hp}{s:Ad}{T:String}{x:V}{v:Ab}(I:Inv X fe σ H s)(r:cR x v)(ty:tyV X.K T x H):
  s.TypeIs v T∧∀ a,v=.ref a→∃ ob,s.heap.get? a=some ob∧ob.dict=none:=by
 cases x with
 | str z=>
  obtain⟨t,rfl⟩:=r;cases(show T="str" from ty);exact⟨Ec s z t,fun _ e=>nomatch e⟩
 | int i=>
  obtain⟨t,rfl⟩:=r;cases(show T="int" from ty);exact⟨typeIs_int s i t,fun _ e=>nomatch e⟩
 | ref p=>
  cases r;rcases ty with⟨rfl,xs,hq⟩ | ⟨rfl,o,hk,hc,hd⟩ | ⟨rfl,hk⟩ | ⟨rfl,S,n,hk⟩ | ⟨rfl,xs,hq⟩
  ·obtain⟨its,_,pl,_⟩:=I.list hq;refine⟨pl.isList.typeIs,fun a e=>?_⟩;cases e;obtain⟨o,n,e,c,hd,_⟩:=pl;exact⟨o,e,hd⟩
  ·refine⟨⟨o,I.kIn p o hk,hc⟩,fun a e=>?_⟩;cases e;exact⟨o,I.kIn _ o hk,hd⟩
  ·have z:∃ o,s.heap.get? p=some o∧o.ExactDict:=by
    rcases hk with⟨fg,hk⟩ | ⟨fg,hk⟩
    ·obtain⟨_,_,_,_,o,_,_,e,ex,_⟩:=I.hok p _ hk;exact⟨o,e,ex⟩
    ·obtain⟨_,_,_,_,o,_,_,e,ex,_⟩:=I.hok p _ hk;exact⟨o,e,ex⟩
   obtain⟨o,e,ex⟩:=z;refine⟨⟨o,e,ex.1⟩,fun a G=>?_⟩;cases G;exact⟨o,e,ex.2.1⟩
  ·obtain⟨o,_,_,_,e,ex,_⟩:=I.hok p _ hk;refine⟨⟨o,e,ex.1⟩,fun a G=>?_⟩;cases G;exact⟨o,e,ex.2.1⟩
  ·obtain⟨_,_,_,o,e,⟨c,_⟩,hd⟩:=(show cX X.prog X.w H s.heap p (.tup xs) from I.hok p _ hq)
   refine⟨⟨o,e,c⟩,fun a G=>?_⟩;cases G;exact⟨o,e,hd⟩
 | _=>exact Bx ty
def aJS(K:Ae)(T:String)(r:V→List V→Hp→VK→Prop)(to:TE):TE:=fun σ H Q=>to σ H fun x H1=>tyV K T x H1∧r x [] H1 Q
def tBM(K:Ae)(T:String)(r:V→List V→Hp→VK→Prop)(to:TE)(t:TA):TE:=fun σ H Q=>to σ H fun x H1=>tyV K T x H1∧t σ H1 fun xs H2=>r x xs H2 Q
variable{o e:A5}{es:List A5}{to:TE}{t:TA}{name:Str}{fq fh:Pos}{T id:String}{r:V→List V→Hp→VK→Prop}
theorem aHP(pa:PlainAttrs T)(slot:Slot T name id)(O:typeOf (.builtin id)=pure (.type "method_descriptor"))(hm:MtR X id r)(Z:PE X o to)
  (G:attributeBase o name X.env (eval o X.env)=eval o X.env:=by rfl) (J:(fq.endLine == fh.line)=true:=by rfl):PE X (.Call (.Attribute o name fq) [] [] fh) (aJS X.K T r to):=by
 constructor;intro fe s σ H Q I h;refine wpAny_Call_method0_late G J (thn (Z fe s σ H _ I h) fun v s1 ⟨x,H1,U,W,ty,Y⟩=>?_);obtain⟨h1,h2⟩:=aDV U W ty;exact⟨T,id,pa,slot,O,h1,h2,En rfl (PySem.evalArgs_none (hm fe s1 σ H1 x [] v [] Q U W .nil Y))⟩
theorem gE(pa:PlainAttrs T)(slot:Slot T name id)(W:typeOf (.builtin id)=pure (.type "method_descriptor"))(hm:MtR X id r)(ho:PE X o to)(ha:PA X (e :: es) t)
  (J:attributeBase o name X.env (eval o X.env)=eval o X.env:=by rfl)
  (U:((backTo fh (starEach (e :: es) X.env)).all (fun x=>!x.1) && (backToKw fh (keywordEach [] X.env)).all (fun x=>x.1.isSome)
   && decide ((e :: es).length + ([]:List D7).length + (if ([]:List D7).isEmpty then 0 else 1) < 30))=true:=by rfl)
  (O:(fq.endLine == fh.line)=true:=by rfl) (hs:starEach (e :: es) X.env=(false,eval e X.env) :: starEach es X.env:=by rfl) (G:(backTo fh (starEach es X.env)).any (·.1)=false:=by rfl):
  PE X (.Call (.Attribute o name fq) (e :: es) [] fh) (tBM X.K T r to t):=by
 constructor;intro fe s σ H Q I h;refine wpAny_Call_method_late J U O rfl (thn (ho fe s σ H _ I h) fun v s1 ⟨x,H1,Y,r1,ty,q1⟩=>?_);obtain⟨h1,h2⟩:=aDV Y r1 ty;refine⟨T,id,pa,slot,W,h1,h2,?_⟩;have Z:=ha fh fe s1 σ H1 _ Y q1;rw[hs]at Z ⊢;refine En (by show(false || (backTo fh (starEach es X.env)).any (·.1))=false;rw[G] <;> rfl) (Ew ?_)
 exact thn Z fun us s2 ⟨vs,H2,I2,r2,q2⟩=>hm fe s2 σ H2 x vs v us Q I2 r1 r2 q2
end
def MtM(X:Cx)(id:String)(r:V→List V→Hp→VK→Prop):Prop:=
 ∀(fe:List (Af×Obj)) (s:Ad) (σ:St) (H:Hp) (x:V) (xs:List V) (v:Ab) (us:List Ab) (Q:VK),Inv X fe σ H s→cR x v→cF xs us→r x xs H Q→
  wpAny (model X.prog X.w) X.A (call (.builtin id) (v :: us)) (EP X fe σ Q) X.xe s
theorem cF.one:∀{x:V}{G:List Ab},cF [x] G→∃ u,G=[u]∧cR x u
 | _,_,.cons r .nil=>⟨_,rfl,r⟩
theorem cF.two:∀{x y:V}{G:List Ab},cF [x,y] G→∃ u v,G=[u,v]∧cR x u∧cR y v
 | _,_,_,.cons r (.cons q .nil)=>⟨_,_,rfl,r,q⟩
theorem cF.eraseIdx:∀{xs:List V}{G:List Ab} (i:Nat),cF xs G→cF (xs.eraseIdx i) (G.eraseIdx i)
 | _,_,_,.nil=>.nil
 | _,_,0,.cons _ t=>t
 | _,_,i + 1,.cons r t=>.cons r (cF.eraseIdx i t)
theorem cF.reverse{xs:List V}{G:List Ab}(h:cF xs G):cF xs.reverse G.reverse:=by
 induction h with
 | nil=>exact .nil
 | cons r t J=>rw[E1,E1];exact cF.append J (.cons r .nil)
theorem u7{α:Type}:∀(l:List α) (i:Nat),(l.eraseIdx i).length≤l.length
 | [],_=>An _
 | _ :: _,0=>Cs _
 | _ :: r,i + 1=>Nat.succ_le_succ (u7 r i)
section
variable{X:Cx}{fe:List (Af×Obj)}{σ:St}{H:Hp}{s:Ad}{l b:Af}{xs ys zs:List V}
theorem Inv.lset{its its':List Ab}{n:Nat}{f:Array Ab→Array Ab}{t':Nat}(I:Inv X fe σ H s)(J:H l=some (.lst xs))
  (e:s.heap.get? l=some { cls:=.type "list",data:=.seq its.toArray n }) (G:f its.toArray=its'.toArray) (O:cF ys its') (hz:ys.length≤sizeLine):
  Inv X fe σ (upd H l (.lst ys)) { s with heap:=s.heap.update l (C7 f),toks:=t' }:=by
 have q:=PySem.IsL.update e f;rw[G]at q;refine I.write (x:=l) (e:=l) (by rw[J];exact trivial) (.inl rfl) (fun Y u U W=>(BP s.heap (C7 f) (CL U)).trans W) ⟨_,q⟩ ?_;exact⟨hz,its',_,O,q⟩
theorem Inv.lnew{its:List Ab}{t':Nat}(I:Inv X fe σ H s)(G:cF ys its)(hz:ys.length≤sizeLine):
  Inv X fe σ (upd H s.heap.objs.size (.lst ys)) { s with heap:=s.heap.push { cls:=.type "list",data:=.seq its.toArray },toks:=t' }:=
 I.laid (fun _ _ q=>Ah _ q) (An _) ⟨hz,its,0,G,AA _ rfl⟩
theorem Inv.fresh(I:Inv X fe σ H s):H s.heap.objs.size=none:=I.hok.fresh (An _)
theorem Inv.lstM(I:Inv X fe σ H s)(G:H l=some (.lst xs)):xs.length≤sizeLine∧∃(its:List Ab) (n:Nat),cF xs its∧xs.length=its.length∧s.heap.get? l=some { cls:=.type "list",data:=.seq its.toArray n }:=by
 obtain⟨z,its,n,r,e⟩:=I.hok l _ G;exact⟨z,its,n,r,r.length,e⟩
theorem aDW{n:Nat}(h:n≤sizeLine):DF n=false:=by
 unfold DF;exact decide_eq_false (by omega)
end
section
variable{X:Cx}
inductive u9(x:V)(vs:List V)(H:Hp)(Q:VK):Prop
 | mk (l:_) (xs:_) (y:_) (q0:x=.ref l) (q1:vs=[y]) (q2:H l=some (.lst xs)) (q3:xs.length < sizeLine) (q4:Q .non (upd H l (.lst (xs ++ [y])))):u9 x vs H Q
def aGb:V→List V→Hp→VK→Prop:=fun x vs H Q=>u9 x vs H Q
theorem oX:MtM X "list.append" aGb:=by
 intro fe s σ H x vs v O Q I G J h;obtain⟨l,xs,y,rfl,rfl,hH,hz,q⟩:=h;cases G;obtain⟨u,rfl,ru⟩:=J.one;obtain⟨z,its,n,r,hl,e⟩:=I.lstM hH;refine DG F.slot_list_append ⟨_,e,rfl⟩ F.entry_list_append (F.args_list_append_2 _ _) (PySem.list_append l its.toArray n u (by rw[Ao];omega)) ⟨e,?_⟩;refine⟨.non,_,I.lset (its':=its ++ [u]) hH e (by simp) (r.append (.cons ru .nil)) ?_,rfl,q⟩;rw[Av,List.length_singleton];omega
inductive vA(x:V)(vs:List V)(H:Hp)(Q:VK):Prop
 | mk (l:_) (b:_) (xs:_) (zs:_) (q0:x=.ref l) (q1:vs=[.ref b]) (q2:H l=some (.lst xs)) (q3:H b=some (.lst zs)) (q4:xs.length + zs.length≤sizeLine) (q5:Q .non (upd H l (.lst (xs ++ zs)))):vA x vs H Q
def aGc:V→List V→Hp→VK→Prop:=fun x vs H Q=>vA x vs H Q
theorem oY:MtM X "list.extend" aGc:=by
 intro fe s σ H x vs v W Q I O U h;obtain⟨l,b,xs,zs,rfl,rfl,hH,hB,hz,q⟩:=h;cases O;obtain⟨u,rfl,ru⟩:=U.one;cases ru;obtain⟨z,its,n,r,hl,e⟩:=I.lstM hH;obtain⟨z2,its2,n2,r2,hl2,e2⟩:=I.lstM hB;have J:its.toArray.size + its2.toArray.size≤sizeLine:=by rw[Ao,Ao];omega
 have G:¬ (!its.toArray.isEmpty && DF (its.toArray.size + its2.toArray.size))=true:=by
  rw[aDW J,AI];exact AG
 refine DG F.slot_list_extend ⟨_,e,rfl⟩ F.entry_list_extend (F.args_list_extend_2 _ _)
  (AutoSeq1.list_extend_list_list_0 l its.toArray n b its2.toArray n2 G (by rw[Ao];omega) (by omega)) ⟨e,e2,?_⟩
 refine⟨.non,_,I.lset (its':=its ++ its2) hH e (by simp) (r.append r2) ?_,rfl,q⟩;rw[Av];omega
inductive yI(x:V)(vs:List V)(H:Hp)(Q:VK):Prop
 | mk (l:_) (xs:_) (i:_) (k:_) (y:_) (q0:x=.ref l) (q1:vs=[.int i]) (q2:H l=some (.lst xs)) (q3:-(2 ^ 63)≤i) (q4:i < 2 ^ 63) (q5:seqIndex? i xs.length=some k) (q6:xs[k]?=some y) (q7:Q y (upd H l (.lst (xs.eraseIdx k)))):yI x vs H Q
def aHQ:V→List V→Hp→VK→Prop:=fun x vs H Q=>yI x vs H Q
theorem yJ:MtM X "list.pop" aHQ:=by
 intro fe s σ H x vs v O Q I G J h;obtain⟨l,xs,i,k,y,rfl,rfl,hH,h1,h2,hk,hy,q⟩:=h;cases G;obtain⟨u,rfl,ru⟩:=J.one;obtain⟨t,rfl⟩:=ru;obtain⟨z,its,n,r,hl,e⟩:=I.lstM hH;obtain⟨w,hw,rw'⟩:=r.get hy;refine DG F.slot_list_pop ⟨_,e,rfl⟩ F.entry_list_pop (F.args_list_pop_2 _ _)
  (MeetsSeq.list_pop_at l its.toArray n i t k w (fitsIndex_both h1 h2) (by rw[Ao,← hl];exact hk) (by rw[← Array.getElem?_toList];exact hw) (by rw[Ao];omega)) ⟨e,?_⟩
 refine⟨y,_,I.lset (its':=its.eraseIdx k) hH e ?_ (r.eraseIdx k) ?_,rw',q⟩
 ·show its.toArray.eraseIdxIfInBounds k=(its.eraseIdx k).toArray;rw[List.eraseIdxIfInBounds_toArray]
 ·have:=u7 xs k;omega
inductive aDX(x:V)(y:V)(H:Hp)(Q:VK):Prop
 | mk (l:_) (b:_) (xs:_) (zs:_) (q0:x=.ref l) (q1:y=.ref b) (q2:H l=some (.lst xs)) (q3:H b=some (.lst zs)) (q4:xs.length + zs.length≤sizeLine) (q5:∀ p,H p=none→Q (.ref p) (upd H p (.lst (xs ++ zs)))):aDX x y H Q
def aJT:R2:=fun x y H Q=>aDX x y H Q
theorem jM:OpR X (binaryOp .Add) aJT:=by
 intro fe s σ H x y v u Q I J G h;obtain⟨l,b,xs,zs,rfl,rfl,hH,hB,hz,q⟩:=h;cases J;cases G;obtain⟨z,its,n,r,hl,e⟩:=I.lstM hH;obtain⟨z2,its2,n2,r2,hl2,e2⟩:=I.lstM hB;refine PySem.P.add_list e e2 ?_ (by rw[Ao,Ao];omega);have O:its.toArray ++ its2.toArray=(its ++ its2).toArray:=by simp
 rw[O];exact⟨.ref _,_,I.lnew (t':=s.toks) (r.append r2) (by rw[Av];omega),rfl,q _ I.fresh⟩
end
section
variable{prog:Al}{w:AH}{A:AB}{E:Ab→Ad→Prop}{s:Ad}
end
section
variable{X:Cx}
end
section
variable{κ:Type}[DecidableEq κ]
def fS(fg:List (κ×V))(k:κ):Option V:=(fg.find? fun kv=>decide (kv.1=k)).map (·.2)
def gH(fg:List (κ×V))(k:κ)(v:V):List (κ×V):=
 if (fg.any fun kv=>decide (kv.1=k))=true then fg.map (fun kv=>if kv.1=k then(kv.1,v) else kv) else fg ++ [(k,v)]
def aKa(fg:List (κ×V))(k:κ):List (κ×V):=fg.filter fun kv=>decide (kv.1≠k)
theorem rL{k:κ}:fS ([]:List (κ×V)) k=none:=rfl
theorem i5{p:κ×V}{r:List (κ×V)}{k:κ}(e:p.1=k):fS (p :: r) k=some p.2:=by simp[fS,CZ,e]
theorem cP{p:κ×V}{r:List (κ×V)}{k:κ}(e:¬ p.1=k):fS (p :: r) k=fS r k:=by simp[fS,CZ,e]
theorem rM(k:κ):∀ fg:List (κ×V),(fg.any fun G=>decide (G.1=k))=(fS fg k).isSome
 | []=>rfl
 | p :: r=>by
  rw[D9];by_cases e:p.1=k
  ·simp only[i5 e,Ic e,Bool.true_or,Option.isSome_some]
  ·rw[cP e,decide_eq_false e,Bool.false_or];exact rM k r
theorem kK(fg:List (κ×V))(k:κ)(v:V):(gH fg k v).length≤fg.length + 1:=by
 unfold gH;split
 ·rw[Ac];omega
 ·rw[Av,Ak,DE];omega
theorem rN{fg:List (κ×V)}{k:κ}(v:V)(h:fS fg k=none):gH fg k v=fg ++ [(k,v)]:=by
 unfold gH;rw[rM,h];exact Ia (by decide)
theorem lX.isSome_eq{o:Option V}{u:Option Ab}(r:lX o u):o.isSome=u.isSome:=by
 cases o with
 | none=>cases u with
  | none=>rfl
  | some _=>exact(show False from r).elim
 | some _=>cases u with
  | none=>exact(show False from r).elim
  | some _=>rfl
theorem lX.getD{o:Option V}{u:Option Ab}{d:V}{d':Ab}(r:lX o u)(rd:cR d d'):cR (o.getD d) (u.getD d'):=by
 cases o with
 | none=>cases u with
  | none=>exact rd
  | some _=>exact(show False from r).elim
 | some _=>cases u with
  | none=>exact(show False from r).elim
  | some _=>exact r
theorem KV.val{fg:List (κ×V)}{vs:List (κ×Ab)}(r:KV fg vs)(k:κ):lX (fS fg k) (valueAt vs k):=by
 unfold KV at r
 induction r with
 | nil=>exact B1
 | @cons p q ps J h t O=>
  obtain⟨h1,h2⟩:=h;by_cases e:p.1=k
  ·have G:q.1=k:=h1.symm.trans e;have b:valueAt (q :: J) k=some q.2:=by simp[valueAt,CZ,G]
   rw[i5 e,b];exact h2
  ·have G:¬ q.1=k:=fun z=>e (h1.trans z);have b:valueAt (q :: J) k=valueAt J k:=by simp[valueAt,CZ,G]
   rw[cP e,b];exact O
theorem KV.any{fg:List (κ×V)}{vs:List (κ×Ab)}(r:KV fg vs)(k:κ):(fg.any fun G=>decide (G.1=k))=vs.any fun G=>decide (G.1=k):=by
 unfold KV at r
 induction r with
 | nil=>rfl
 | cons h t J=>rw[D9,D9,J,h.1]
theorem KV.repl{fg:List (κ×V)}{vs:List (κ×Ab)}(r:KV fg vs)(k:κ){y:V}{u:Ab}(J:cR y u):
  KV (fg.map fun G=>if G.1=k then(G.1,y) else G) (vs.map fun G=>if G.1=k then(G.1,u) else G):=by
 unfold KV at r ⊢
 induction r with
 | nil=>exact .nil
 | @cons p q ps U h t O=>
  rw[A0,A0];refine .cons ?_ O;obtain⟨h1,h2⟩:=h;by_cases e:p.1=k
  ·rw[Ib e,Ib (h1.symm.trans e)];exact⟨h1,J⟩
  ·rw[Ia e,Ia (fun z=>e (h1.trans z))];exact⟨h1,h2⟩
theorem KV.put{fg:List (κ×V)}{vs:List (κ×Ab)}(r:KV fg vs)(k:κ){y:V}{u:Ab}(G:cR y u):KV (gH fg k y) (stored vs k u):=by
 unfold gH stored;rw[r.any k];by_cases e:(vs.any fun J=>decide (J.1=k))=true
 ·rw[Ib e,Ib e];exact r.repl k G
 ·rw[Ia e,Ia e];exact Paired.snoc r ⟨rfl,G⟩
theorem KV.length{fg:List (κ×V)}{vs:List (κ×Ab)}(r:KV fg vs):fg.length=vs.length:=Fv r
end
theorem pY{P:Al}{w:AH}{k:Key}{u:Ab}(r:cR (kV k) u):(cY P w).is k u=true:=by
 cases k with
 | inl i=>obtain⟨t,e⟩:=(show∃ t,u=Ed i t from r);subst e;exact x8 P w i t
 | inr x=>obtain⟨t,e⟩:=(show∃ t,u=BZ x t from r);subst e;exact x9 P w x t
theorem vB{P:Al}{w:AH}:∀{ks:List Key}{G:List Ab},cF (ks.map kV) G→ItemsAre (cY P w) ks G
 | [],_,r=>by rw[Dg]at r;cases r;exact .nil
 | k :: ks,_,r=>by
  rw[A0]at r;cases r with
  | cons h t=>exact .cons (pY h) (vB t)
abbrev KT(H:Hp):List (List Key×V)→List (List Key×Af×Ab)→Prop:=Fy fun p q=>p.1=q.1∧H q.2.1=some (.tup (p.1.map kV))∧cR p.2 q.2.2
theorem KT.val{H:Hp}{fg:List (List Key×V)}{xs:List (List Key×Af×Ab)}(r:KT H fg xs)(k:List Key):lX (fS fg k) ((atKey xs k).map (·.2)):=by
 induction r with
 | nil=>exact B1
 | @cons p q ps J h t O=>
  obtain⟨h1,_,h2⟩:=h;by_cases e:p.1=k
  ·have G:q.1=k:=h1.symm.trans e;have b:atKey (q :: J) k=some q.2:=by simp[atKey,CZ,G]
   rw[i5 e,b];exact h2
  ·have G:¬ q.1=k:=fun z=>e (h1.trans z);have b:atKey (q :: J) k=atKey J k:=by simp[atKey,CZ,G]
   rw[cP e,b];exact O
theorem KT.repl{H:Hp}{fg:List (List Key×V)}{xs:List (List Key×Af×Ab)}(r:KT H fg xs)(k:List Key){y:V}{u:Ab}(J:cR y u):
  KT H (fg.map fun G=>if G.1=k then(G.1,y) else G) (xs.map (putAt k u)):=by
 induction r with
 | nil=>exact .nil
 | @cons p q ps U h t O=>
  rw[A0,A0];refine .cons ?_ O;obtain⟨h1,h2,h3⟩:=h;unfold putAt;by_cases e:p.1=k
  ·rw[Ib e,Ib (h1.symm.trans e)];exact⟨h1,h2,J⟩
  ·rw[Ia e,Ia (fun z=>e (h1.trans z))];exact⟨h1,h2,h3⟩
theorem KT.put{H:Hp}{fg:List (List Key×V)}{xs:List (List Key×Af×Ab)}(r:KT H fg xs)(k:List Key){b:Af}{y:V}{u:Ab}(O:H b=some (.tup (k.map kV)))(G:cR y u):
  KT H (gH fg k y) (storedH xs k b u):=by
 have e:(fg.any fun J=>decide (J.1=k))=(atKey xs k).isSome:=by
  rw[rM,(r.val k).isSome_eq,Option.isSome_map]
 unfold gH storedH;rw[e];by_cases q:(atKey xs k).isSome=true
 ·rw[Ib q,Ib q];exact r.repl k G
 ·rw[Ia q,Ia q];exact Paired.snoc r ⟨rfl,O,G⟩
theorem KT.keeps{H H':Hp}{fg:List (List Key×V)}{xs:List (List Key×Af×Ab)}(r:KT H fg xs)(ht:∀ b ys,H b=some (.tup ys)→H' b=some (.tup ys)):KT H' fg xs:=
 Paired.mapP r fun _ _ z=>⟨z.1,ht _ _ z.2.1,z.2.2⟩
section
variable{P:Al}{w:AH}{H:Hp}{h:A1}{a:Af}
theorem aHf{u:HO}(ok:HOk P w H h)(e:Rd H a u):cX P w H h a u:=e.ok ok
theorem yK{fg:List (Key×V)}(ok:HOk P w H h)(e:Rd H a (.dK fg)):fg.length≤sizeLine∧(a == sysModules)=false∧∃ vs,KV fg vs∧h.DictOf (cY P w) a vs:=
 show cX P w H h a (.dK fg) from aHf ok e
theorem aHg{fg:List (Key×V)}(ok:HOk P w H h)(e:H a=some (.dK fg)):fg.length≤sizeLine∧(a == sysModules)=false∧∃ vs,KV fg vs∧h.DictOf (cY P w) a vs:=yK ok (.inl e)
theorem wG{ks:List Key}(ok:HOk P w H h)(e:H a=some (.tup (ks.map kV))):(tupleKind (cY P w)).is h ks a:=by
 obtain⟨_,its,r,o,h1,⟨h2,n,h3⟩,_⟩:=(show cX P w H h a (.tup (ks.map kV)) from ok a _ e)
 exact⟨o,its.toArray,n,h1,h2,h3,by simpa using vB r⟩
theorem yL{fg:List (List Key×V)}(ok:HOk P w H h)(e:Rd H a (.dT fg)):fg.length≤sizeLine∧(a == sysModules)=false∧
  ∃ xs,KT H fg xs∧h.DictOfH (tupleKind (cY P w)) a xs:=by
 obtain⟨z,y,xs,r,o,es,ep,h1,h2,h3,h4,h5⟩:=(show cX P w H h a (.dT fg) from aHf ok e)
 refine⟨z,y,xs,r,o,es,ep,h1,h2,h3,h4,fun x G=>?_,h5⟩;have all:∀{l:List (List Key×V)} {m:List (List Key×Af×Ab)},KT H l m→∀ x∈m,(tupleKind (cY P w)).is h x.1 x.2.1:=by
  intro l m q
  induction q with
  | nil=>intro x G;exact nomatch G
  | @cons p q ps U J t O=>
   intro x G;rcases Ap.mp G with e | G
   ·subst e;exact wG ok (by rw[← J.1];exact J.2.1)
   ·exact O x G
 exact all r x G
theorem aI6{fg:List (List Key×V)}(ok:HOk P w H h)(e:H a=some (.dT fg)):fg.length≤sizeLine∧(a == sysModules)=false∧
  ∃ xs,KT H fg xs∧h.DictOfH (tupleKind (cY P w)) a xs:=yL ok (.inl e)
end
def oZ(H:Hp)(a:Af)(y:V)(r:Option V):Prop:=
 (∃ fg k,Rd H a (.dK fg)∧y=kV k∧r=fS fg k)∨∃ fg k b,Rd H a (.dT fg)∧y=.ref b∧H b=some (.tup (k.map kV))∧r=fS fg k
def yM(H:Hp)(a:Af)(y v:V)(H':Hp):Prop:=
 (∃ fg k,H a=some (.dK fg)∧y=kV k∧fg.length < sizeLine∧H'=upd H a (.dK (gH fg k v)))∨
 ∃ fg k b,H a=some (.dT fg)∧y=.ref b∧H b=some (.tup (k.map kV))∧fg.length < sizeLine∧H'=upd H a (.dT (gH fg k v))
theorem oZ.k{H:Hp}{a:Af}{fg:List (Key×V)}{k:Key}(e:H a=some (.dK fg)):oZ H a (kV k) (fS fg k):=.inl ⟨fg,k,.inl e,rfl,rfl⟩
theorem yM.k{H:Hp}{a:Af}{fg:List (Key×V)}{k:Key}{v:V}(e:H a=some (.dK fg))(G:fg.length < sizeLine):yM H a (kV k) v (upd H a (.dK (gH fg k v))):=.inl ⟨fg,k,e,rfl,G,rfl⟩
section
variable{X:Cx}{fe:List (Af×Obj)}{σ:St}{H:Hp}{s:Ad}{a:Af}{y v:V}{u r:Ab}{o:Option V}{A:AB}{E:Ab→Ad→Prop}
theorem Inv.big(I:Inv X fe σ H s):sysModules < s.heap.objs.size:=by
 have h:mainGlobals < s.heap.objs.size:=(I.mod.glob.keeps I.bk).lt;exact Nat.lt_trans (by decide) h
theorem aCQ{Q:Ab→Ad→Prop}(O:A.units + 1 < cLine)(I:Inv X fe σ H s)(g:oZ H a y (some v))(J:cR y u)(h:∀ G s',Inv X fe σ H s'→cR v G→Q G s'):
  wpAny (model X.prog X.w) A (getItem (.ref a) u) Q E s:=by
 rcases g with⟨fg,k,e,ey,l⟩ | ⟨fg,k,b,e,ey,eb,l⟩
 ·subst ey;obtain⟨z,hd,vs,rel,dd⟩:=yK I.hok e;obtain⟨G,hw,rw'⟩:=lX.some_of (v:=v) (o:=valueAt vs k) (by rw[l];exact rel.val k);exact wpAny_getItem_of (pY J) dd.mapOf hw (h G _ (I.tok _) rw')
 ·subst ey;cases(show u=AK b from J);obtain⟨z,hd,xs,rel,dd⟩:=yL I.hok e;obtain⟨G,hw,rw'⟩:=lX.some_of (v:=v) (o:=(atKey xs k).map (·.2)) (by rw[l];exact rel.val k)
  obtain⟨p,hp,hp2⟩:=Cr.mp hw;refine wpAny_getItem_heap (Fg O) (wG I.hok eb) dd hp ?_;rw[hp2];exact h G _ (I.tok _) rw'
theorem wH{h':A1}{t':Nat}{ob:HO}(I:Inv X fe σ H s)(J:Mut (H a))(G:Dl a s.heap h')(O:∃ q,h'.get? a=some q)(new:cX X.prog X.w (upd H a ob) h' a ob):
  Inv X fe σ (upd H a ob) { s with heap:=h',toks:=t' }:=
 I.write (x:=a) (e:=a) J (.inl rfl) (fun b q U z=>(G.2 b U).trans z) O new
theorem aDY{P:Al}{w:AH}{H':Hp}{h':A1}{fg:List (Key×V)}{vs:List (Key×Ab)}(z:fg.length≤sizeLine)(hd:(a == sysModules)=false)(rel:KV fg vs)(dd:h'.DictOf (cY P w) a vs):
  cX P w H' h' a (.dK fg):=⟨z,hd,vs,rel,dd⟩
theorem aCR{H':Hp}{Q:Unit→Ad→Prop}(hu:A.units + 1 < cLine)(I:Inv X fe σ H s)(g:yM H a y v H')(Y:cR y u)(W:cR v r)(h:∀ s',Inv X fe σ H' s'→Q () s'):
  wpAny (model X.prog X.w) A (setItem (.ref a) u r) Q E s:=by
 rcases g with⟨fg,k,e,ey,l,eH⟩ | ⟨fg,k,b,e,ey,eb,l,eH⟩
 ·subst ey eH;obtain⟨z,hd,vs,rel,dd⟩:=aHg I.hok e;have hz:vs.length≤sizeLine:=by rw[← rel.length];exact z
  have J:(gH fg k v).length≤sizeLine:=by have:=kK fg k v;omega
  refine wpAny_setItem_pairs (hsz:=hz) (pY Y) dd fun h' G O=>h _ ?_;have Z:∃ q,h'.get? a=some q:=let ⟨q,_,_,hq,_⟩:=G;⟨q,hq⟩
  exact wH I (by rw[e];exact B1) O Z (aDY J hd (rel.put k W) G)
 ·subst ey eH;cases(show u=AK b from Y);obtain⟨z,hd,xs,rel,dd⟩:=aI6 I.hok e;have hz:xs.length≤sizeLine:=by rw[← Fv rel];exact z
  have J:(gH fg k v).length≤sizeLine:=by have:=kK fg k v;omega
  refine wpAny_setItem_heap (hsz:=hz) (Fg hu) (wG I.hok eb) dd fun h' G O=>h _ ?_;obtain⟨q,es,ep,hq,h2,h3,h4,_,h5⟩:=G;refine wH I (by rw[e];exact B1) O ⟨q,hq⟩ ⟨J,hd,_,(rel.put k eb W).keeps fun c ys U=>?_,q,es,ep,hq,h2,h3,h4,h5⟩;rw[bD (aDD U e (fun z=>nomatch z))];exact U
end
section
variable{X:Cx}{fe:List (Af×Obj)}{σ:St}{H:Hp}{s:Ad}{a:Af}{fg:List (Key×V)}{k:Key}{u:Ab}{A:AB}{E:Ab→Ad→Prop}
end
def aHR(i:A5):Prop:=∀ ov iv,subscripted i false ov iv=operate [ov,iv] (getItem ov iv)
theorem aBI{prog:Al}{w:AH}{A:AB}{E:Ab→Ad→Prop}{s:Ad}{env:Env}{value G:A5}{pos:Pos}{T id:String}{Q:Ab→Ad→Prop}
  (hl:typeLookup (.type T) "__getitem__"=pure (some (.builtin id))) (hs:aHR G)
  (h:wpAny (model prog w) A (eval value env) (fun o Y=>wpAny (model prog w) A (eval G env) (fun i O=>O.TypeIs o T∧wpAny (model prog w) A (getItem o i) Q E O) E Y) E s):
  wpAny (model prog w) A (eval (.Subscript value G pos) env) Q E s:=by
 refine FO (Bd h (fun o Y Z=>Bd Z (fun i O U=>?_) fun _ _ x=>x) fun _ _ x=>x);obtain⟨hT,U⟩:=U;unfold subscriptTail;refine Aa ?_;rw[getitemInPython_of_ne hT.not_modules];refine Aa (EG hT hl ?_);have J:wpAny (model prog w) A (subscripted G false o i) (fun r W=>wpAny (model prog w) A (letTemporaryGo value o r >>= fun _=>pure r) Q E W) E O:=by
  rw[hs o i];exact wpAny_operating (Bd U (fun r W h₃=>Aa (wpAny_letTemporaryGo (Ag h₃))) fun _ _ x=>x)
 first
  | exact Ag (Aa J)
  | exact Aa (Ag (Aa J))
  | exact Aa J
theorem yN{X:Cx}{fe:List (Af×Obj)}{σ:St}{H:Hp}{s:Ad}{a:Af}{y:V}{o:Option V}(I:Inv X fe σ H s)(g:oZ H a y o):s.TypeIs (.ref a) "dict":=by
 rcases g with⟨fg,k,e,_,_⟩ | ⟨fg,k,b,e,_,_,_⟩
 ·obtain⟨_,_,vs,_,dd⟩:=yK I.hok e;exact dd.typeIs
 ·obtain⟨_,_,xs,_,dd⟩:=yL I.hok e;exact dd.typeIs
def aI7(td ty:TE):TE:=fun σ H Q=>td σ H fun x H1=>ty σ H1 fun y H2=>∃ a v,x=.ref a∧oZ H2 a y (some v)∧Q v H2
def aI8(td ty tv:TE):TS:=fun D σ H=>tv σ H fun v H1=>td σ H1 fun x H2=>ty σ H2 fun y H3=>∃ a H4,x=.ref a∧yM H3 a y v H4∧D.nx σ H4
section
variable{X:Cx}{o i e value:A5}{pos ft tpos:Pos}{td ty tv:TE}
theorem nJ(hu:X.A.units + 1 < cLine)(ho:PE X o td)(hi:PE X i ty)(hs:aHR i):PE X (.Subscript o i pos) (aI7 td ty):=by
 constructor;intro fe s σ H Q I h;refine aBI PySem.F.slot_dict_getitem.lookup hs (thn (ho fe s σ H _ I h) fun u s1 ⟨x,H1,W,O,Y⟩=>thn (hi fe s1 σ H1 _ W Y) fun iv s2 ⟨y,H2,J,U,a,v,ex,g,q2⟩=>?_);subst ex;obtain rfl:u=AK a:=O;exact⟨yN J g,aCQ hu J g U fun w' s3 Z G=>⟨v,H2,Z,G,q2⟩⟩
theorem wI(hu:X.A.units + 1 < cLine)(ho:PE X o td)(hi:PE X i ty)(hv:PE X value tv)(hs:swapsWith value (some (.Subscript o i ft)) pos.line X.env=pure false):
  PS X (.Assign [.Subscript o i ft] value pos) (aI8 td ty tv):=by
 constructor;intro fe s σ H D I h;refine wpAny_Assign_Subscript (thn (hv fe s σ H _ I h) fun r s1 ⟨v,H1,Y,O,Z⟩=>thn (ho fe s1 σ H1 _ Y Z) fun u J ⟨x,H2,I2,G,q2⟩=>thn (hi fe J σ H2 _ I2 q2) fun iv s3 ⟨y,H3,I3,W,a,H4,ex,g,q3⟩=>?_) hs;subst ex;obtain rfl:u=AK a:=G;exact aCR hu I3 g W O fun s4 U=>⟨σ,H4,U,q3⟩
end
theorem yO{P:Al}{w:AH}{H:Hp}(h:A1)(G:sysModules < h.objs.size):cX P w H (h.push { cls:=.type "dict",data:=.dict #[] }) h.objs.size (.dK []):=
 ⟨Bs _,beq_eq_false_iff_ne.mpr (CL (AQ G)),[],.nil,Heap.DictOf.new h⟩
def aHS:TE:=fun _ H Q=>∀ p,H p=none→Q (.ref p) (upd H p (.dK []))
section
variable{X:Cx}{pos:Pos}
theorem aDZ:PE X (.Dict [] [] pos) aHS:=⟨fun fe s σ H Q I h=>
 wpAny_Dict_empty ⟨.ref s.heap.objs.size,_,I.laid (a:=s.heap.objs.size) (o:=.dK []) (t':=s.toks) (fun _ _ q=>Ah _ q) (An _) (yO s.heap I.big),rfl,h _ (I.hok.fresh (An _))⟩⟩
end
def aAP:List (TE×TE)→St→Hp→(List (V×V)→Hp→Prop)→Prop
 | [],_,H,Q=>Q [] H
 | (tk,tv) :: r,σ,H,Q=>tk σ H fun x H1=>tv σ H1 fun y H2=>aAP r σ H2 fun ps H3=>Q ((x,y) :: ps) H3
abbrev VV:List (V×V)→List (Ab×Ab)→Prop:=Fy fun p q=>cR p.1 q.1∧cR p.2 q.2
def PPs(X:Cx)(pos:Pos)(keys:List (Option A5))(values:List A5)(trs:List (TE×TE)):Prop:=
 ∀(fe:List (Af×Obj)) (s:Ad) (σ:St) (H:Hp) (Q:List (V×V)→Hp→Prop),Inv X fe σ H s→aAP trs σ H Q→
  wpAny (model X.prog X.w) X.A (evalPairs (pairTrees keys values X.env pos)) (fun vs s'=>∃ ps H',Inv X fe σ H' s'∧VV ps vs∧Q ps H') X.xe s
theorem aBJ{X:Cx}{pos:Pos}:PPs X pos [] [] []:=fun fe s σ H Q I h=>pairTrees_nil_walk ⟨[],H,I,.nil,h⟩
theorem i6{X:Cx}{pos:Pos}{k v:A5}{ks:List (Option A5)}{vs:List A5}{tk tv:TE}{G:List (TE×TE)}(hk:PE X k tk)(hv:PE X v tv)(hr:PPs X pos ks vs G):
  PPs X pos (some k :: ks) (v :: vs) ((tk,tv) :: G):=fun fe s σ H Q I h=>
 pairTrees_cons_walk (thn (hk fe s σ H _ I h) fun u s1 ⟨x,H1,W,J,Y⟩=>thn (hv fe s1 σ H1 _ W Y) fun w2 O ⟨y,H2,I2,U,q2⟩=>
  thn (hr fe O σ H2 _ I2 q2) fun ws s3 ⟨ps,Z,I3,rel,q3⟩=>⟨(x,y) :: ps,Z,I3,.cons ⟨J,U⟩ rel,q3⟩)
def mS(fg more:List (Key×V)):List (Key×V):=more.foldl (fun acc kv=>gH acc kv.1 kv.2) fg
theorem KV.merge:∀{G:List (Key×V)}{rs:List (Key×Ab)}{fg:List (Key×V)}{vs:List (Key×Ab)},KV G rs→KV fg vs→KV (mS fg G) (merged vs rs):=by
 intro G rs fg vs r;unfold KV at r
 induction r generalizing fg vs with
 | nil=>intro q;exact q
 | @cons p q ps U h t J=>
  intro O;have e:KV (gH fg p.1 p.2) (stored vs q.1 q.2):=by
   have:=O.put p.1 h.2;rw[← h.1];exact this
  exact J e
theorem lZ:∀(G fg:List (Key×V)),(mS fg G).length≤fg.length + G.length
 | [],fg=>by show fg.length≤fg.length + 0;omega
 | p :: r,fg=>by
  have h1:=lZ r (gH fg p.1 p.2);have h2:=kK fg p.1 p.2;show(mS (gH fg p.1 p.2) r).length≤_;rw[Ak];omega
theorem rO{P:Al}{w:AH}:∀{fg:List (Key×V)}{ws:List (Ab×Ab)},VV (fg.map fun G=>(kV G.1,G.2)) ws→∃ rs,Carries (cY P w) ws rs∧KV fg rs
 | [],_,r=>by rw[Dg]at r;cases r;exact⟨[],B1,.nil⟩
 | p :: fg,_,r=>by
  rw[A0]at r;cases r with
  | @cons a b as bs h t=>
   obtain⟨rs,c,q⟩:=rO (P:=P) (w:=w) t;obtain⟨b1,b2⟩:=b;exact⟨(p.1,b2) :: rs,⟨pY h.1,rfl,c⟩,.cons ⟨rfl,h.2⟩ q⟩
def aI9(trs:List (TE×TE)):TE:=fun σ H Q=>∀ p,H p=none→aAP trs σ (upd H p (.dK [])) fun ps H2=>H2 p=some (.dK [])∧∃ fg:List (Key×V),ps=fg.map (fun kv=>(kV kv.1,kv.2))∧fg.length≤15∧Q (.ref p) (upd H2 p (.dK (mS [] fg)))
theorem aBK{X:Cx}{pos:Pos}{G:List (Option A5)}{J:List A5}{W:List (TE×TE)}(h:PPs X pos G J W)(O:G.all (·.isSome)=true)(hl:G.length=J.length)(h0:G≠[])
  (Y:G.length≤15):PE X (.Dict G J pos) (aI9 W):=by
 constructor;intro fe s σ H Q I q;have hn:=I.hok.fresh (An s.heap.objs.size);have I1:=I.laid (a:=s.heap.objs.size) (o:=.dK []) (h':=s.heap.push { cls:=.type "dict",data:=.dict #[] }) (t':=s.toks) (fun _ _ q=>Ah _ q) (An _) (yO s.heap I.big);refine wpAny_Dict_walk (knd:=cY X.prog X.w) O hl h0 Y (thn (h fe _ σ _ _ I1 (q _ hn)) fun ws s2 ⟨ps,H2,Z,rel,e,fg,ep,lk,q2⟩=>?_);subst ep;obtain⟨rs,c,rk⟩:=rO (P:=X.prog) (w:=X.w) rel;obtain⟨z,hd,vs0,r0,dd⟩:=aHg Z.hok e;cases r0;refine⟨rs,c,dd,fun h' U hs=>⟨.ref s.heap.objs.size,_,?_,rfl,q2⟩⟩;have hz:(mS [] fg).length≤sizeLine:=by
  have h1:=lZ fg [];rw[DE]at h1;rw[DP];omega
 have he:∃ q,h'.get? s.heap.objs.size=some q:=let ⟨q,_,_,hq,_⟩:=U;⟨q,hq⟩
 exact wH Z (by rw[e];exact B1) hs he (aDY hz hd (rk.merge .nil) U)
structure M1(X:Cx)(o:A5)(m:Str)(fq:Pos)(e:A5)(fh:Pos):Prop where
 base:attributeBase o m X.env (eval o X.env)=eval o X.env
 few:((backTo fh (starEach [e] X.env)).all (fun x=>!x.1) && (backToKw fh (keywordEach [] X.env)).all (fun x=>x.1.isSome)
  && decide (([e]:List A5).length + ([]:List D7).length + (if ([]:List D7).isEmpty then 0 else 1) < 30))=true
 line:(fq.endLine == fh.line)=true
 trees:backTo fh (starEach [e] X.env)=[(false,eval e X.env)]
structure M2(X:Cx)(o:A5)(m:Str)(fq:Pos)(e f:A5)(fh:Pos):Prop where
 base:attributeBase o m X.env (eval o X.env)=eval o X.env
 few:((backTo fh (starEach [e,f] X.env)).all (fun x=>!x.1) && (backToKw fh (keywordEach [] X.env)).all (fun x=>x.1.isSome)
  && decide (([e,f]:List A5).length + ([]:List D7).length + (if ([]:List D7).isEmpty then 0 else 1) < 30))=true
 line:(fq.endLine == fh.line)=true
 trees:backTo fh (starEach [e,f] X.env)=[(false,eval e X.env),(false,eval f X.env)]
def IsD(H:Hp)(a:Af):Prop:=(∃ fg,Rd H a (.dK fg))∨∃ fg,Rd H a (.dT fg)
theorem aHT{X:Cx}{fe:List (Af×Obj)}{σ:St}{H:Hp}{s:Ad}{a:Af}(I:Inv X fe σ H s)(d:IsD H a):
  s.TypeIs (.ref a) "dict"∧(∀ b,AK a=.ref b→∃ ob,s.heap.get? b=some ob∧ob.dict=none)∧(a == sysModules)=false:=by
 rcases d with⟨fg,e⟩ | ⟨fg,e⟩
 ·obtain⟨_,hd,vs,_,dd⟩:=yK I.hok e;refine⟨dd.typeIs,fun b q=>?_,hd⟩;cases q;obtain⟨ob,_,_,h1,h2,_⟩:=dd;exact⟨ob,h1,h2.2.1⟩
 ·obtain⟨_,hd,xs,_,dd⟩:=yL I.hok e;refine⟨dd.typeIs,fun b q=>?_,hd⟩;cases q;obtain⟨ob,_,_,h1,h2,_⟩:=dd;exact⟨ob,h1,h2.2.1⟩
section
variable{X:Cx}{fe:List (Af×Obj)}{σ:St}{H:Hp}{s:Ad}{a:Af}{y d:V}{u r:Ab}{o:Option V}{A:AB}{E:Ab→Ad→Prop}
theorem aHU{Q:Ab→Ad→Prop}(O:A.units + 1 < cLine)(I:Inv X fe σ H s)(g:oZ H a y o)(G:cR y u)(rd:cR d r)(h:∀ J s',Inv X fe σ H s'→cR (o.getD d) J→Q J s'):
  wpAny (model X.prog X.w) A (call (.builtin "dict.get") [.ref a,u,r]) Q E s:=by
 rcases g with⟨fg,k,e,ey,l⟩ | ⟨fg,k,b,e,ey,eb,l⟩
 ·subst ey;obtain⟨z,hd,vs,rel,dd⟩:=yK I.hok e;refine call_meetsIn El dd.typeIs PySem.F.entry_dict_get (PySem.F.args_dict_get_3 _ _ _) (meets_dict_get_default (cY X.prog X.w) a (pY G) hd r) ⟨_,dd.mapOf,h _ _ (I.tok _) ?_⟩;rw[l];exact(rel.val k).getD rd
 ·subst ey;cases(show u=AK b from G);obtain⟨z,hd,xs,rel,dd⟩:=yL I.hok e;refine call_meetsIn El dd.typeIs PySem.F.entry_dict_get (PySem.F.args_dict_get_3 _ _ _) (meetsH_dict_get_default (tupleKind (cY X.prog X.w)) a b hd r) ⟨Fg O,k,xs,wG I.hok eb,dd,h _ _ (I.tok _) ?_⟩;rw[l];exact(rel.val k).getD rd
end
def aHV(td ty tx:TE):TE:=fun σ H Q=>td σ H fun x H1=>∃ a,x=.ref a∧IsD H1 a∧ty σ H1 fun y H2=>tx σ H2 fun z H3=>∃ o,oZ H3 a y o∧Q (o.getD z) H3
section
variable{X:Cx}{o e f:A5}{fq fh:Pos}{td ty tx:TE}
theorem aD0(hu:X.A.units + 1 < cLine)(ho:PE X o td)(he:PE X e ty)(hf:PE X f tx)(m:M2 X o "get" fq e f fh):PE X (.Call (.Attribute o "get" fq) [e,f] [] fh) (aHV td ty tx):=by
 constructor;intro fe s σ H Q I h;refine wpAny_Call_method m.base m.few m.line PySem.F.plainAttrs_dict El PySem.F.type_dict_get (thn (ho fe s σ H _ I h) fun u s1 ⟨x,H1,J,U,a,ex,d,q1⟩=>?_);subst ex;obtain rfl:u=AK a:=U;obtain⟨t1,t2,_⟩:=aHT J d;refine⟨t1,t2,?_⟩;rw[m.trees];refine En rfl (Ew (EU (thn (he fe s1 σ H1 _ J q1) fun iv W ⟨y,H2,I2,Z,q2⟩=>
  EU (thn (hf fe W σ H2 _ I2 q2) fun fv s3 ⟨z,H3,I3,O,ov,g,q3⟩=>Calls.spliced_nil ?_))))
 exact aHU hu I3 g Z O fun w' s4 Y G=>⟨_,H3,Y,G,q3⟩
end
section
variable{X:Cx}{fe:List (Af×Obj)}{σ:St}{H:Hp}{s:Ad}{a:Af}{fg:List (Key×V)}{A:AB}{E:Ab→Ad→Prop}
end
section
variable{X:Cx}{fe:List (Af×Obj)}{σ:St}{H:Hp}{s:Ad}{a:Af}{y:V}{u:Ab}{A:AB}{E:Ab→Ad→Prop}
end
end L2
namespace Att
open PySem PySem.W PySem.Calls PyProof.Rows
theorem qG{P:Params}{h:A1}:∀(ns:List Int) (vs:List Ab),WellAll P h vs (ns.map WData.int)→Ga vs ns:=by
 intro ns
 induction ns with
 | nil=>
  intro vs w;rw[Dg]at w;cases w;exact .nil
 | cons n ns G=>
  intro vs w;rw[A0]at w;cases w with
  | cons a b=>
   cases a;exact .cons _ _ (G _ b)
theorem aCS{l:OpenLaw}{n:Nat}(hn:l.most=some n){P:Params}{h:A1}{args:List WData}{G:List Ab}
  (J:l.row.toRowW.claim.pre args=true) (Z:WellAll P h G args):
  ∃ a vs ns,G=[AK a]∧args=[WData.list (ns.map WData.int)]∧h.get? a=some { cls:=.type "list",data:=.seq vs.toArray }∧Ga vs ns∧ns.length≤n:=by
 have aa:WShape.hasAll [] args [.list .int]=true:=(pre_splitW J).1;have hc:l.pre.holds [] { args:=args }=true:=(pre_splitW J).2;obtain⟨d,r,rfl,h1,h2⟩:=hasAllW_cons aa;obtain rfl:=hasAllW_nil h2;obtain⟨xs,rfl,h3⟩:=hasW_list h1;obtain⟨ns,rfl⟩:=items_int h3;have O:ns.length≤n:=by
  unfold OpenLaw.pre at hc;have Y:(WTm.not (.lt (.lit (.int (n:Int))) (.len (.arg 0)))).holds [] { args:=[.list (ns.map .int)] }=true:=by
   have Y:=(holds_andW hc).1;rw[hn]at Y;exact Y
  have W:=condW_of Y (w_not (w_lt w_lit (w_len_list (w_arg rfl))));rw[Ac]at W;refine Nat.le_of_not_lt fun q=>?_;have q':(n:Int) < ((ns.length:Nat):Int):=by omega
  first
   | (rw[Ic q']at W;exact absurd W (by decide))
   | (simp at W;omega)
 cases Z with
 | cons w1 w2=>
  cases w2;cases w1 with
  | list ho U=>exact⟨_,_,ns,rfl,rfl,ho,qG ns _ U,O⟩
theorem aCT(l:OpenLaw)(args:List WData):l.row.toRowW.claim.post args (.bool true) args=true:=
 postW_of (r:=l.row.toRowW) (X:=(true == true))
  (show WShape.has [] (.bool true) .bool=true by first | rfl | decide | simp[WShape.has,WShape.arms,WShape.armsAll])
  (show(WTm.eq .res (.lit (.bool true))).value [] { args:=args,res:=some (.bool true),after:=args }=some (.bool (true == true)) from w_eq_bool (w_res rfl) w_lit) rfl
theorem attach_call{l:OpenLaw}{n:Nat}{q:Al}{J:List Str}{XP:(Str→Option Ab)→A1→Prop}{YP:AH→A1→Prop}{d:DefRec}
  (hn:l.most=some n) (aa:d.params.defaults=[])
  (call:∀(w:AH) (s₀ O:Ad) (mg mb:Str→Option Ab) (Z:Af) (o:Obj) (pm cd U:Ab) (a:Af) (vs:List Ab) (ns:List Int),
   Ground q J [] XP w s₀ mg mb O.heap→YP w O.heap→
   O.heap.get? Z=some o→o.data=.func (docDef d.name d.params d.body d.scope pm cd U)→O.heap.CodeRec cd d.name→mg d.name=some (.ref Z)→
   O.heap.get? a=some { cls:=.type "list",data:=.seq vs.toArray }→Ga vs ns→ns.length≤n→O.gens=#[]→
   codeAny (model l.prog w) callerA (.call (.ref Z) ⟨[.ref a],[]⟩) (fun r s'=>r=.ok (.ret (.bool true))∧OldK O.heap s'.heap∧s'.os=O.os∧D8 s'.gens) O):
  WalkO q J XP YP l.row.toRowW d [] (fun f vs=>PySem.call f vs):=by
 intro w s₀ O mg mb G Y Z o pm cd U dV kV ho hd ae hD af hg ag ai as W ak ao ad am;obtain rfl:dV=.none:=Dflts.none hD aa;obtain rfl:kV=.none:=Dflts.noKw hD;obtain⟨a,vs,ns,rfl,rfl,hobj,hints,hlen⟩:=aCS hn W ad;refine enter_call (CG (call w s₀ O mg mb Z o pm cd U a vs ns G Y ho (fd_plain hd) ae af hobj hints hlen hg) fun r s' hq=>?_);obtain⟨rfl,h2,h3,h4⟩:=hq;exact⟨.inl ⟨.bool true,.bool true,[],rfl,fun _=>rfl,.bool true,aCT l _,fun _=>⟨Eu,fun _ hm=>(nomatch hm)⟩⟩,h2,h3,h4⟩
section
variable{prog:Al}{w:AH}{A:AB}{E:Ab→Ad→Prop}{s:Ad}{K:Frag}
end
end Att
namespace L2
open PySem PySem.Spec PyProof.Rows
theorem vC:∀{vs:List Ab}{ns:List Int},Ga vs ns→cF (ns.map V.int) vs
 | _,_,.nil=>.nil
 | _,_,.cons n t h=>.cons ⟨t,rfl⟩ (vC h)
def aHW(H:Hp):Prop:=∀ b,H b=none∨∃ o xs,H b=some (.frz o (.lst xs))
theorem aD1{P:Al}{w:AH}{K:Ae}{mg mb:Str→Option Ab}{CX:CXT}{k:Nat}{fa a:Af}{fd:Ax}{x:Str}{sp:Sp}{G:Ad}{vs:List Ab}{ns:List Int}
  (KX:K.In G.heap) (Z:G.heap.Ns mainGlobals mg) (O:G.heap.Ns builtinsNs mb) (aj:∀ x:Str,x≠"__name__"→mb x=bootBuiltins x) (aa:G.heap.NoLimit) (hg:G.gens=#[])
  (ha:G.heap.get? a=some { cls:=.type "list",data:=.seq vs.toArray }) (hi:Ga vs ns) (hl:ns.length≤sizeLine) (hr:cJ k callerA)
  (F:∀ base:A1,K.In base→base.Ns mainGlobals mg→b8 P w K mg base CX k fa fd [x] sp) (Y:∀(s:Ad) (u:Ab),Fu s fd ⟨[u],[]⟩ [(x,u)])
  (af:∀ H:Hp,aHW H→SqL K H a (ns.map V.int)→sp [.ref a] H (fun v _=>v=.bl true) fun _ _ _=>False)
  (ai:∀ H e s',CX [] H G (fun _ _ _=>False) e s'→False):
  codeAny (model P w) callerA (.call (.ref fa) ⟨[.ref a],[]⟩) (fun r s'=>r=.ok (.ret (.bool true))∧OldK G.heap s'.heap∧s'.os=G.os∧D8 s'.gens) G:=by
 have rv:=vC hi;have ad:=hi.length;have W:∀ H:Hp,aHW H→SqL K H a (ns.map V.int)→HOk P w H G.heap→(∀ b,H b≠none→b=a)→(H a≠none→K.lookup a=none)→
   codeAny (model P w) callerA (.call (.ref fa) ⟨[.ref a],[]⟩) (fun r s'=>r=.ok (.ret (.bool true))∧OldK G.heap s'.heap∧s'.os=G.os∧D8 s'.gens) G:=by
  intro H hO hS hok hA hK;have J:∀{b:Af} {o:Obj},G.heap.get? b=some o→H b=none→(v6 G.heap H).get? b=some o:=fun e n=>aDE e n;have ah:∀{b:Af} {o:Obj} {es:Array DictEntry} {ep:Nat},G.heap.get? b=some o→o.data=.dict es ep→H b=none:=fun{b o es ep} e d=>by
   cases q:H b with
   | none=>rfl
   | some u=>
    have e':b=a:=hA b (by rw[q];simp);subst e';rw[ha]at e;cases e;have d':Data.seq vs.toArray _=Data.dict es ep:=d;cases d'
  have U:∀{b:Af} {m:Str→Option Ab},G.heap.Ns b m→(v6 G.heap H).Ns b m:=fun{b m} ⟨o,es,ep,e,d,r⟩=>⟨o,es,ep,J e (ah e d),d,r⟩
  have ac:K.In (v6 G.heap H):=fun b o e=>J (KX b o e) (by
   cases q:H b with
   | none=>rfl
   | some u=>
    have e':b=a:=hA b (by rw[q];simp);subst e';rw[hK (by rw[q];simp)]at e;cases e)
  have hM:Mod K mg (v6 G.heap H):=⟨ac,U Z,⟨mb,U O,aj⟩,let ⟨mc,h1,h2⟩:=aa;⟨mc,U h1,h2⟩⟩
  have e0:aAL P w K mg (v6 G.heap H) callerA [] G H:=⟨rfl,hM,fun b o e=>aFS e,CU (aCK _ _),trivial,fun b O=>absurd (show b∈([]:List Af) from O) (by simp),hok,.of_eq hg⟩
  refine CG ((F _ ac (U Z)).run callerA [] G H ⟨[.ref a],[]⟩ [.ref a] [.ref a] _ _ hr e0 (Y G (.ref a)) (.cons rfl .nil) (af H hO hS)) fun r s' h=>?_;cases r with
  | error e=>exact(ai H e s' h).elim
  | ok fl=>
   cases fl with
   | next=>exact Bx h
   | brk=>exact Bx h
   | cont=>exact Bx h
   | ret u=>
    obtain⟨v,H',os,bare,un,hok',r',q⟩:=h;have q':v=.bl true:=q;subst q';obtain rfl:u=Fo true:=r';refine⟨rfl,OldK.of_keep fun b o e=>?_,os,bare⟩;cases q:H b with
    | none=>exact un.keep b o e q (by intro z;exact absurd (show b∈([]:List Af) from z) (by simp)) (by simp)
    | some u=>
     rcases hO b with z | ⟨ob,xs,z⟩
     ·rw[q]at z;cases z
     ·have z2:=un.frzs b ob _ z;obtain⟨e1,_⟩:=hok b _ z;obtain⟨e2,_⟩:=hok' b _ z2;rw[e]at e1;cases e1;exact e2
 cases hk:K.lookup a with
 | some o=>
  have e:=KX a o hk;rw[ha]at e;cases e;refine W (fun _=>none) (fun _=>.inl rfl) (.inr ⟨_,vs.toArray,_,hk,rfl,rfl,rfl,by rw[Ao,ad];exact hl,by simpa using rv⟩) (fun b u z=>by have z':(none:Option HO)=some u:=z;cases z') (fun b z=>absurd rfl z) fun z=>absurd rfl z
 | none=>
  refine W (fun b=>if b=a then some (.frz { cls:=.type "list",data:=.seq vs.toArray } (.lst (ns.map V.int))) else none) (fun b=>?_) (.inl (.inr ⟨{ cls:=.type "list",data:=.seq vs.toArray },Ib rfl⟩)) (fun b u z=>?_) (fun b z=>?_) fun _=>hk
  ·by_cases O:b=a
   ·exact .inr ⟨_,_,Ib O⟩
   ·exact .inl (Ia O)
  ·by_cases O:b=a
   ·have z':=(Ib O).symm.trans z;cases z';subst O;exact⟨ha,by rw[Ac];exact hl,vs,_,rv,ha⟩
   ·have z':=(Ia O).symm.trans z;cases z'
  ·by_cases O:b=a
   ·exact O
   ·exact absurd (Ia O) z
abbrev KOf{K:Ae}{h:A1}(_:K.In h):Ae:=K
theorem walk_of{l:PySem.W.OpenLaw}{n k:Nat}{q:Al}{O:List Str}{XP:(Str→Option Ab)→A1→Prop}{YP:AH→A1→Prop}{d:DefRec}{K:Params→Ae}{CX:AH→CXT}{sp:AH→Sp}{x:Str}
  (hn:l.most=some n) (ae:n≤sizeLine) (ad:d.params.defaults=[]) (hr:cJ k callerA)
  (hY:∀(w:AH) (h:A1),YP w h→(K w.params).In h)
  (F:∀(w:AH) (mg:Str→Option Ab) (fa:Af) (h:A1),(K w.params).In h→h.Ns mainGlobals mg→mg d.name=some (.ref fa)→
   ∃ fd:Ax,(∀(s:Ad) (u:Ab),Fu s fd ⟨[u],[]⟩ [(x,u)])∧
    ∀ base:A1,(K w.params).In base→base.Ns mainGlobals mg→b8 l.prog w (K w.params) mg base (CX w) k fa fd [x] (sp w))
  (ac:∀(w:AH) (H:Hp) (a:Af) (ns:List Int),ns.length≤n→aHW H→SqL (K w.params) H a (ns.map V.int)→sp w [.ref a] H (fun v _=>v=.bl true) fun _ _ _=>False)
  (af:∀(w:AH) (H:Hp) (s:Ad) (e:Ab) (s':Ad),CX w [] H s (fun _ _ _=>False) e s'→False):
  PySem.W.WalkO q O XP YP l.row.toRowW d [] (fun f vs=>PySem.call f vs):=by
 refine Att.attach_call hn ad fun w s₀ s₁ mg mb fa o pm cd ao a vs ns G Y ho hd aq ag Z U J hg=>?_;have KX:=hY w _ Y;obtain⟨fd,hb,hF⟩:=F w mg fa _ KX G.T.g ag;exact aD1 KX G.T.g G.T.b G.T.builtins G.T.nolimit hg Z U (AM J ae) hr hF hb (fun H hO hS=>ac w H a ns J hO hS) fun H e s'=>af w H s₁ e s'
def aGd(s:Br)(j:Nat):Br:=match s with
 | .ClassDef _ _ _ body _ _ _ _ _ _ _=>body.getD j (.Pass ⟨0,0,0,0⟩)
 | _=>.Pass ⟨0,0,0,0⟩
def eB(s:Br):Arguments:=match s with
 | .FunctionDef _ a _ _ _ _ _ _ _ _=>a
 | _=>{ posonlyargs:=[],args:=[],vararg:=none,kwonlyargs:=[],kw_defaults:=[],kwarg:=none,defaults:=[] }
def dN(s:Br):List Br:=match s with
 | .FunctionDef _ _ b _ _ _ _ _ _ _=>b
 | _=>[]
def aK(s:Br):Cq:=match s with
 | .FunctionDef _ _ _ _ _ _ sc _ _ _=>sc
 | _=>{ kind:=.function,names:=[],isGenerator:=false,isCoroutine:=false }
abbrev CX0:CXT:=fun _ _ _ _ _ _=>False
abbrev E0:XK:=fun _ _ _=>False
theorem gR{X:Cx}:rE CX0 X E0:=fun _ _ _ _ _ _ _ h=>h.elim
structure Fun(K:Ae)(x qual:Str)(st:Br)(f:Af)(fd:Ax):Prop where
 ex:∃(oc:Ab) (od:Option Af) (kV doc pm:Ab) (an:Option Af) (cdv ct:Ab) (osl:Array (Option Ab)),
  fd=Bm x qual (eB st) (dN st) (aK st) .none kV doc pm an cdv ct∧K.lookup f=some ⟨oc,od,.func fd,osl⟩∧Bt K cdv qual=true
 kp:Az K (.ref f)=true
section
variable{P:Al}{w:AH}{K:Ae}{mg:Str→Option Ab}{base:A1}
theorem Fun.ok{x qual:Str}{st:Br}{f:Af}{fd:Ax}{N ps:List Str}{k:Nat}{sp:Sp}(F:Fun K x qual st f fd)(S:bB N ps (aK st))(len:∀ vs H Q E,sp vs H Q E→vs.length=ps.length)
  (J:∀(G:Ab) (A:AB) (outer:List Env) (s:Ad) (H:Hp) (vs:List V) (Q:VK) (E:XK),cJ k (A.deeper (envOfC qual (aK st) s.heap.objs.size f G))→sp vs H Q E→
   ∃ t,PSs (fU CX0 P w K mg base N qual (aK st) f G A outer s H E).nox (dN st) t∧t { nx:=fun _ H'=>Q .non H',rt:=Q } (start N vs) H):b8 P w K mg base CX0 (k + 1) f fd ps sp:=by
 obtain⟨oc,od,kV,doc,pm,an,G,ct,osl,rfl,lk,hcd⟩:=F.ex;refine aHd lk hcd S len fun A outer s H vs Q E U O=>?_;obtain⟨t,h,q⟩:=J G A outer s H vs Q E U O;exact⟨t,h.nox,q⟩
theorem Fun.binds{x qual:Str}{st:Br}{f:Af}{fd:Ax}{ps:List Str}(F:Fun K x qual st f fd)
  (h:∀(kV J W:Ab) (O:Option Af) (G ct:Ab) (U:List Ab),U.length=ps.length→bindArgs (Bm x qual (eB st) (dN st) (aK st) .none kV J W O G ct) ⟨U,[]⟩=pure (ps.zip U)):dH K fd ps []:=by
 obtain⟨oc,od,kV,J,W,O,G,ct,osl,rfl,lk,hcd⟩:=F.ex;exact .all (h kV J W O G ct)
theorem iA{x qual:Str}{st:Br}{f:Af}{Y:Ab}{od U:Option Af}{O:Array (Option Ab)}{kV J W G ct:Ab}(l:K.lookup f=some ⟨Y,od,.func (Bm x qual (eB st) (dN st) (aK st) .none kV J W U G ct),O⟩)
  (c:Bt K G qual=true) (k:Az K (.ref f)=true):Fun K x qual st f (Bm x qual (eB st) (dN st) (aK st) .none kV J W U G ct):=⟨⟨Y,od,kV,J,W,U,G,ct,O,rfl,l,c⟩,k⟩
end
theorem yP{A:AB}{k:Nat}(G:cJ k A):A.units + 1 < cLine:=D0 (Nat.add_le_add_left (by decide:1≤64) _) G.units
theorem i7{n:Nat}(h:n≤1000):n < sizeLine:=D0 h (by decide)
section
variable{X:Cx}
theorem pv(i:Nat){x:Str}{pos:Pos}(hN:X.N[i]?=some x:=by rfl)(J:Vis X.env.scope x:=by first | exact Aw rfl | exact FV (Aw rfl) | exact FV (FV rfl))(hd:(x == ("__debug__":Str))=false:=by decide)
  (G:(x == ("__classdict__":Str))=false:=by decide):PE X (.Name x pos) (aAD i):=aHD hN J hd G
end
theorem bG{A B:Prop}(h:B):if false=true then A else B:=by
 rw[Ia AG];exact h
theorem bQ{A B:Prop}(h:A):if true=true then A else B:=by
 rw[Ib rfl];exact h
theorem c9{c A B:Prop}[Decidable c](h1:c→A)(h2:¬ c→B):if c then A else B:=by
 by_cases h:c
 ·rw[Ib h];exact h1 h
 ·rw[Ia h];exact h2 h
def aT(H H':Hp):Prop:=∀ b o,H b=some o→H' b=some o
theorem aT.refl(H:Hp):aT H H:=fun _ _ h=>h
theorem aT.trans{H H1 H2:Hp}(a:aT H H1)(b:aT H1 H2):aT H H2:=fun c o h=>b c o (a c o h)
theorem aT.seq{K:Ae}{H H':Hp}{a:Af}{xs:List V}(e:aT H H')(h:SqL K H a xs):SqL K H' a xs:=by
 rcases h with(h | ⟨o,h⟩) | h
 ·exact .inl (.inl (e _ _ h))
 ·exact .inl (.inr ⟨o,e _ _ h⟩)
 ·exact .inr h
section
variable{X:Cx}
end
section
variable{κ:Type}[DecidableEq κ]
end
section
variable{X:Cx}{fe:List (Af×Obj)}{σ:St}{H:Hp}{s:Ad}
theorem Inv.track{D:Af}{ob:HO}(I:Inv X fe σ H s)(O:nB X fe H D)(new:cX X.prog X.w (upd H D ob) s.heap D ob):Inv X fe σ (upd H D ob) s:=by
 obtain⟨hn,hL,hfs,hex,hce,hpi⟩:=O;have G:∀ b u,H b=some u→b≠D:=fun b u e=>bX e hn;refine I.step (g':=s.gens) (t':=s.toks) (d':=s.drawn) (h':=s.heap) (H':=upd H D ob) (ch:=[D]) (fun b J=>?_) (fun b o _ _ _ e _=>e) (fun b o _ _ _ e _=>⟨o.slots,e⟩) (fun b o hc e n=>?_)
  (fun b o _ e=>⟨o,e⟩) (fun b xs e=>by rw[bD (G b _ e)];exact e) (fun b o u e=>by rw[bD (G b _ e)];exact e) (fun b ps e=>⟨#[],by rw[bD (G b _ e),e];simp⟩) (fun m hm=>hm) (fun b u e=>?_) I.bare
 ·have e:b=D:=by simpa using J
  subst e;exact⟨hex,hL,hce,hpi⟩
 ·rw[bD (fun z=>hc (by simp[z]))];exact n
 ·by_cases J:b=D
  ·subst J;rw[aD]at e;cases e;exact new
  ·rw[bD J]at e;exact(I.hok b u e).stay (fun c v _ q=>q) (fun c q=>by rw[bD (G c _ q)];exact q) fun c xs q=>by rw[bD (G c _ q)];exact q
end
def gS(env:Env):List (Str×Dv)→List (Str×Af)→List (Str×Af)
 | [],cs=>cs
 | (n,k) :: r,cs=>gS env r (if k=.free then(match env.cells.lookup n with | some c=>(n,c) :: cs | none=>cs) else cs)
theorem rP{α β:Type}(f:α→β→Sem (ForInStep β))(g:α→β→β):∀(l:List α) (b:β),(∀ y∈l,∀ b,f y b=pure (.yield (g y b)))→(forIn l b f:Sem β)=pure (l.foldl (fun b y=>g y b) b)
 | [],b,_=>rfl
 | a :: r,b,h=>by
  rw[List.forIn_cons,h a AV b];exact rP f g r (g a b) fun y G=>h y (AY _ G)
def vD(env:Env)(y:Str×Dv)(cs:List (Str×Af)):List (Str×Af):=if y.2=.free then(match env.cells.lookup y.1 with | some c=>(y.1,c) :: cs | none=>cs) else cs
theorem rQ(env:Env):∀(l:List (Str×Dv)) (G:List (Str×Af)),l.foldl (fun b y=>vD env y b) G=gS env l G
 | [],G=>rfl
 | (n,k) :: r,G=>by
  rw[Fl,rQ env r];rfl
theorem nK{scope:Cq}{env:Env}(h:∀ y∈scope.names,y.2=.free→∃ c,env.cells.lookup y.1=some c):closureFor scope env=pure (gS env scope.names []):=by
 simp only[closureFor];rw[rP _ (vD env) scope.names [] (fun y O b=>?_)]
 ·rw[rQ];rfl
 ·obtain⟨n,k⟩:=y;by_cases G:k=.free
  ·obtain⟨c,hc⟩:=h (n,k) O G;subst G;have e:cellOf env n=pure c:=by unfold cellOf;rw[hc]
   have J:vD env (n,Be) b=(n,c) :: b:=by unfold vD;rw[Ib rfl,hc]
   simp only[e,J];rfl
  ·have e:(k == Be)=false:=by simpa using G
   have J:vD env (n,k) b=b:=by unfold vD;rw[Ia G]
   simp only[e,J,Bool.false_eq_true,if_false]
theorem o0{env:Env}:∀(l:List (Str×Dv)) (G:List (Str×Af)),(∀ x c,G.lookup x=some c→env.cells.lookup x=some c)→∀ x c,(gS env l G).lookup x=some c→env.cells.lookup x=some c
 | [],G,h,x,c,e=>h x c e
 | (n,k) :: r,G,h,x,c,e=>by
  unfold gS at e;refine o0 r _ (fun x c e=>?_) x c e;by_cases O:k=.free
  ·rw[Ib O]at e;cases hc:env.cells.lookup n with
   | none=>rw[hc]at e;exact h x c e
   | some d=>
    rw[hc]at e;by_cases J:x=n
    ·subst J;simp at e;rw[← e];exact hc
    ·have:(x == n)=false:=by simpa using J
     rw[Bp,this]at e;exact h x c e
  ·rw[Ia O]at e;exact h x c e
theorem o4{env:Env}:∀(l:List (Str×Dv)) (G:List (Str×Af)) (x:Str),(∀ y∈l,y.2=.free→∃ c,env.cells.lookup y.1=some c)→((∃ c,G.lookup x=some c)∨(x,Be)∈l)→∃ c,(gS env l G).lookup x=some c
 | [],G,x,_,h=>by
  rcases h with h | h
  ·exact h
  ·simp at h
 | (n,k) :: r,G,x,hc,h=>by
  unfold gS;refine o4 r _ x (fun y U=>hc y (AY _ U)) ?_;rcases h with⟨c,h⟩ | h
  ·refine .inl ?_;split
   ·split
    ·rename_i d _;by_cases O:x=n
     ·subst O;exact⟨d,by simp⟩
     ·have:(x == n)=false:=by simpa using O
      exact⟨c,by rw[Bp,this];exact h⟩
    ·exact⟨c,h⟩
   ·exact⟨c,h⟩
  ·rcases Ap.mp h with h | h
   ·cases h;obtain⟨d,hd⟩:=hc (n,Be) AV rfl;refine .inl ⟨d,?_⟩;rw[Ib rfl];have J:env.cells.lookup n=some d:=hd;rw[J];simp
   ·exact .inr h
theorem rS{env : Env} : ∀{names : List (Str × Dv)}{x : Str}, (∀ y ∈ names, y.2 ≠ .cell) →
    ((names.map fun(n, k) => if (k == Be && env.scope.kind == .function && env.kindOf n == some .cell) then(n, Do) else(n, k)).lookup x = some .cell ∨
     (names.map fun(n, k) => if (k == Be && env.scope.kind == .function && env.kindOf n == some .cell) then(n, Do) else(n, k)).lookup x = some .free) → names.lookup x = some .free
  | [], x, _, h => by simp at h
  | (n, k) :: r, x, hc, h => by
    have O := @rS env r x fun y U => hc y (AY _ U);have W := hc (n, k) AV;rw[A0]at h;by_cases J : x = n
    · subst J
      rw[Bp, beq_self_eq_true];simp only;by_cases G : (k == Be && env.scope.kind == .function && env.kindOf x == some .cell) = true
      · have : (k == Be) = true := by
          rw[Ay, Ay]at G;exact G.1.1
        simpa using this
      · simp only[Ia G, Bp, beq_self_eq_true]at h
        rcases h with h | h
        · exact absurd (BD.inj h) W
        · exact h
    · have e : (x == n) = false := by simpa using J
      rw[Bp, e];refine O ?_;by_cases G : (k == Be && env.scope.kind == .function && env.kindOf n == some .cell) = true
      · simp only[Ib G, Bp, e]at h
        exact h
      · simp only[Ia G, Bp, e]at h
        exact h
theorem nO{env : Env} : ∀{names : List (Str × Dv)}{x : Str}, names.lookup x = some .free →
    ((names.map fun(n, k) => if (k == Be && env.scope.kind == .function && env.kindOf n == some .cell) then(n, Do) else(n, k)).lookup x = some .cell ∨
     (names.map fun(n, k) => if (k == Be && env.scope.kind == .function && env.kindOf n == some .cell) then(n, Do) else(n, k)).lookup x = some .free)
  | [], x, h => by simp at h
  | (n, k) :: r, x, h => by
    have O := @nO env r x;rw[A0];by_cases J : x = n
    · subst J
      rw[Bp, beq_self_eq_true]at h;simp only at h;cases h;by_cases G : (Be == Be && env.scope.kind == .function && env.kindOf x == some .cell) = true
      · refine .inl ?_
        show Ez x ((if (Be == Be && env.scope.kind == .function && env.kindOf x == some .cell) = true then(x, Do) else(x, Be)) :: _) = _;rw[Ib G, Bp, beq_self_eq_true]
      · refine .inr ?_
        show Ez x ((if (Be == Be && env.scope.kind == .function && env.kindOf x == some .cell) = true then(x, Do) else(x, Be)) :: _) = _;rw[Ia G, Bp, beq_self_eq_true]
    · have e : (x == n) = false := by simpa using J
      rw[Bp, e]at h;have := O h;by_cases G : (k == Be && env.scope.kind == .function && env.kindOf n == some .cell) = true
      · simp only[Ib G, Bp, e]
        exact this
      · simp only[Ia G, Bp, e]
        exact this
def blk(X:Cx)(N:List Str)(scope:Cq)(cl:List (Str×Af))(s:Ad)(H:Hp)(fp:List Af)(fe:List (Af×Obj))(C:Af):Cx where
 prog:=X.prog
 w:=X.w
 K:=X.K
 mg:=X.mg
 base:=X.base
 A:=X.A
 N:=N
 s₀:=s
 H₀:=H
 env:=compEnvC scope cl C X.env
 outer:=X.stack
 stack:=X.stack
 ex:=fp
 fn:=fun _=>false
 calm:=X.calm
 pn:=X.pn ++ fe
 xe:=fun _ _=>False
def aD2(N:List Str)(src:List (Option Nat))(scope:Cq)(oN:List Str):Bool:=
 (N.zip src).all fun p=>match p.2 with | none=>true | some j=>(oN[j]? == some p.1) && (scope.names.lookup p.1 == some .free)
structure BlkOk(N:List Str)(src:List (Option Nat))(scope osc:Cq)(oN:List Str):Prop where
 kind:scope.kind=.function
 nocell:∀ y∈scope.names,y.2≠.cell
 names:∀ y∈scope.names,y.2=.local→scope.names.lookup y.1=some .local
 fr:∀ y∈scope.names,y.2=.free→osc.names.lookup y.1=some .cell∨osc.names.lookup y.1=some .free
 len:src.length=N.length
 srcs:aD2 N src scope oN=true
def sub(src:List (Option Nat))(σ:St):St:=src.map fun o=>match o with | none=>none | some j=>(σ[j]?).getD none
theorem aD3{N:List Str}{src:List (Option Nat)}{scope:Cq}{oN:List Str}(h:aD2 N src scope oN=true){i j:Nat}{x:Str}(h1:N[i]?=some x)(h2:src[i]?=some (some j)):oN[j]?=some x∧scope.names.lookup x=some .free:=by
 have hm:(x,some j)∈N.zip src:=by
  refine AN (i:=i) ?_;rw[List.getElem?_zip_eq_some];exact⟨h1,h2⟩
 have:=AX.mp h _ hm;simp only[Ay,beq_iff_eq]at this;exact this
theorem aHX{src:List (Option Nat)}{σ:St}{i:Nat}{v:V}(h:(sub src σ)[i]?=some (some v)):∃ j,src[i]?=some (some j)∧σ[j]?=some (some v):=by
 unfold sub at h;rw[AW]at h;cases e:src[i]? with
 | none=>rw[e]at h;simp at h
 | some o=>
  rw[e]at h;cases o with
  | none=>simp at h
  | some j=>
   refine⟨j,rfl,?_⟩;cases G:σ[j]? with
   | none=>simp[G]at h
   | some J=>
    simp[G]at h;rw[h]
structure PTs(X:Cx)(ifs:List A5)(t:TT):Prop where
 run:
  ∀(fe:List (Af×Obj)) (s:Ad) (σ:St) (H:Hp) (Q:Bool→Hp→Prop),Inv X fe σ H s→t σ H Q→
   wpAny (model X.prog X.w) X.A (forIn ifs true fun c r=>if r=true then do let ok ← isTrue c X.env (eval c X.env);pure (CS ok) else pure (CS r)) (TP X fe σ Q) X.xe s
instance{X:Cx}{ifs:List A5}{t:TT}:CoeFun (PTs X ifs t) (fun _=>
 ∀(fe:List (Af×Obj)) (s:Ad) (σ:St) (H:Hp) (Q:Bool→Hp→Prop),Inv X fe σ H s→t σ H Q→
  wpAny (model X.prog X.w) X.A (forIn ifs true fun c r=>if r=true then do let ok ← isTrue c X.env (eval c X.env);pure (CS ok) else pure (CS r)) (TP X fe σ Q) X.xe s):=⟨fun h=>h.run⟩
theorem fG{X:Cx}:PTs X [] (fun _ H Q=>Q true H):=⟨fun _ _ _ H _ I h=>wpAny_tests_nil ⟨H,I,h⟩⟩
theorem aBL{X:Cx}{c:A5}{t:TT}(h:PT X c t):PTs X [c] t:=⟨fun fe s σ H Q I q=>wpAny_tests_one (h fe s σ H Q I q)⟩
section
variable{X:Cx}{fe:List (Af×Obj)}{σ:St}{H:Hp}{s:Ad}
theorem Inv.clos{N:List Str}{src:List (Option Nat)}{scope:Cq}(B:BlkOk N src scope X.env.scope X.N)(I:Inv X fe σ H s):∀ y∈scope.names,y.2=.free→∃ c,X.env.cells.lookup y.1=some c:=
 fun y G J=>I.ok.has y.1 (B.fr y G J)
theorem Inv.block{N:List Str}{src:List (Option Nat)}{scope:Cq}{fp:List Af}{s1:Ad}{C:Af}{m:Str→Option Ab}(B:BlkOk N src scope X.env.scope X.N)(I:Inv X fe σ H s)
  (hf:∀ b∈fp,nB X fe H b) (ae:∀ b∈fp,b < s.heap.objs.size) (Z:s.heap.objs.size≤C) (W:s1.os=s.os) (O:D8 s1.gens) (Y:∀ b o,s.heap.get? b=some o→s1.heap.get? b=some o) (hn:s1.heap.Ns C m):
  Inv (blk X N scope (gS X.env scope.names []) s H fp fe C) [] (sub src σ) H s1:=by
 have J:=I.clos B;have G:∀ x c,(gS X.env scope.names []).lookup x=some c→X.env.cells.lookup x=some c:=o0 _ _ (fun x c e=>by simp at e);have aj:∀ b∈frs X.stack,b < s.heap.objs.size:=fun b O=>by
  obtain⟨_,o,W,_⟩:=I.stack.mem O;exact Au W
 refine⟨⟨I.ok.mod,B.kind,I.ok.glob,I.ok.blt,Z,fun x y c e1 e2=>I.ok.inj x y c (G x c e1) (G y c e2),fun x hx=>?_,fun x c hx=>absurd hx AG,I.ok.hd,I.ok.frames,.inl rfl,fun b O=>⟨?_,fun x c e=>?_⟩,fun b o e=>?_,AM I.ok.bsz I.sz,fun b o e O=>?_,fun b O hz=>?_,I.stack,I.stkFree⟩,
  W,O,Un.kept Y,⟨m,hn,fun i x v e1 e2 e3=>?_⟩,fun x c e=>?_,?_,fun x c e=>I.freeC x c (G x c e),fun p hp=>?_,I.hok.kept Y,?_⟩
 ·have ag:=rS (env:=X.env) B.nocell hx;exact o4 _ _ x J (.inr (BM ag))
 ·exact AQ (AR (ae b O) Z)
 ·exact(hf b O).2.2.2.2.1 x c (G x c e)
 ·exact I.bs b o e
 ·rcases(hf b O).2.2.2.1 with z | z
  ·exact I.ok.noex b o e z
  ·exact absurd (AR (Au e) (AM I.ok.bsz z)) (BN _)
 ·rcases Ap.mp (I.stkSub b hz)with e | z
  ·exact(hf b O).2.1 e
  ·exact(hf b O).2.2.1 z
 ·obtain⟨j,ej,ev⟩:=aHX e2;obtain⟨oj,fj⟩:=aD3 B.srcs e1 ej;have U:=B.fr _ (BM fj) rfl;obtain⟨m0,hn0,hl0⟩:=id I.loc;obtain⟨u,ru,lk⟩:=hl0 j x v oj ev (.inr U);refine⟨u,ru,.inr ⟨nO fj,?_⟩⟩;rcases lk with⟨k,_⟩ | ⟨k,c,hc,hcell⟩
  ·have k':X.env.scope.names.lookup x=some .local:=k;rcases U with z | z <;> (rw[k']at z;cases z)
  ·obtain⟨c',hc'⟩:=o4 (env:=X.env) scope.names [] x J (.inr (BM fj));have e:=G x c' hc';rw[hc]at e;cases e;obtain⟨o,W,hd⟩:=hcell;exact⟨c,hc',o,Y _ _ W,hd⟩
 ·obtain⟨v,o,W,hd⟩:=I.cell x c (G x c e);exact⟨v,o,Y _ _ W,hd⟩
 ·exact I.hok.fresh Z
 ·have ai:p∈X.pn ++ fe:=by
   rcases Bo.mp hp with z | z
   ·exact z
   ·simp at z
  obtain⟨q1,q2,q3,q4,q5⟩:=I.pin p ai;refine⟨Y _ _ q1,q2,AQ (AR (Au q1) Z),fun z=>?_,q5⟩;rcases Ap.mp (I.stkSub _ z)with e | z
  ·exact q3 e
  ·exact q4 z
 ·show(sub src σ).length=N.length;unfold sub;rw[Ac];exact B.len
end
section
variable{prog:Al}{w:AH}{A:AB}{R:F7→Ad→Prop}{s:Ad}
theorem yQ{W G J:A5}{O:List A5}{scope:Cq}{pos:Pos}{it U:Ab}{env:Env}(I:Nat→Ad→Prop)
  (Z:∀ n s,I n s→wpAny (model prog w) A (pyNext it) (fun r s₁=>match r with
   | none=>R (.ok .next) s₁
   | some v=>wpAny (model prog w) A (letOwnedTupleGo G it v) (fun _ Y=>wpAny (model prog w) A (assign G env v) (fun _ s₂=>
     wpAny (model prog w) A (forIn O true fun c r=>if r=true then do let ok ← isTrue c env (eval c env);pure (CS ok) else pure (CS r)) (fun ok s₃=>
      if ok=true then wpAny (model prog w) A (eval W env) (fun x s₄=>
       wpAny (model prog w) A (call (.builtin "list.append") [U,x]) (fun _ s₅=>∃ m,m < n∧I m s₅) (fun _ _=>False) s₄) (fun _ _=>False) s₃
      else∃ m,m < n∧I m s₃) (fun _ _=>False) s₂) (fun _ _=>False) Y) (fun _ _=>False) s₁) (fun _ _=>False) s)
  (n:Nat) (h:I n s):
  codeAny (model prog w) A (.compLoop (.ListComp W [⟨G,J,O,0⟩] scope pos) 0 it U env) R s:=by
 have nv:∀{α:Type} {t:Sem α} {Q:α→Ad→Prop} {E:Ab→Ad→Prop} {s:Ad},wpAny (model prog w) A t Q (fun _ _=>False) s→wpAny (model prog w) A t Q E s:=fun h=>Bd h (fun _ _ x=>x) fun _ _ x=>x.elim;refine codeAny_loop rfl I (fun n s hI=>?_) n h;show wpAny _ A ((compTurn (.ListComp W [⟨G,J,O,0⟩] scope pos) 0 it U env).onRaise (fun x=>do noteFrame x env;theTreesLotGoes x)) _ _ s;refine wpAny_noted ?_;rw[compTurn_list];refine Aa (DN (Aa (nv (thn (Z n s hI) (fun r s₁ h₁=>?_)))));cases r with
 | none=>exact Ag h₁
 | some v=>
  refine Aa (Bd h₁ (fun _ Y aa=>?_) fun _ _ x=>x.elim);refine Aa (Bd aa (fun _ s₂ h₂=>Aa (Bd h₂ (fun ok s₃ h₃=>?_) fun _ _ h'=>h'.elim)) fun _ _ h'=>h'.elim);cases ok with
  | false=>exact Ag ⟨rfl,h₃⟩
  | true=>
   exact Aa (Aa (Bd h₃ (fun x s₄ h₄=>Aa (Bd h₄ (fun _ s₅ h₅=>Ag (Ag ⟨rfl,h₅⟩)) fun _ _ h'=>h'.elim)) fun _ _ h'=>h'.elim))
end
inductive aBM(J : It)(g : TG)(tt : TT)(te : TE)(σ₀ : St)(H₀ : Hp)(Q : VK) : Prop
  | mk (W : Nat → Nat → List V → St → Hp → Prop) (q0 : (∃ m, W 0 m [] σ₀ H₀)) (q1 : ∀ i m ys σ H, W i m ys σ H → ys.length ≤ sizeLine ∧
    ((J.stop i H ∧ ∀ D, H D = none → Q (.ref D) (upd H D (.lst ys))) ∨
     (J.go i H ∧ ∃ N : List V → St → Hp → Prop, (∀ zs σ' H', N zs σ' H' → ∃ m', m' < m ∧ W (i + 1) m' zs σ' H') ∧
       ∀ x H', J.yld i H x H' → g x σ H' fun σ2 H2 => tt σ2 H2 fun b H3 => if b = true then te σ2 H3 fun v H4 => N (ys ++ [v]) σ2 H4 else N ys σ2 H3))) : aBM J g tt te σ₀ H₀ Q
def nQ(J:It)(g:TG)(tt:TT)(te:TE)(σ₀:St)(H₀:Hp)(Q:VK):Prop:=aBM J g tt te σ₀ H₀ Q
section
variable{X:Cx}{fe:List (Af×Obj)}{σ:St}
theorem vE{tg ay bf:A5}{bg:List A5}{scope:Cq}{pos:Pos}{N:List Str}{src:List (Option Nat)}{g:TG}{tt:TT}{te:TE}{J:It}{Z:List Af}{it:Af}{tn:Nat→A1→Prop}{H2:Hp}{Y:Ad}{Q:VK}{E:Ab→Ad→Prop}
  {RR:Ab→Af→F7→Ad→Prop} (B:BlkOk N src scope X.env.scope X.N) (hc:X.calm=true)
  (O:∀ cl s H Z fe C,PG (blk X N scope cl s H Z fe C) tg g∧PTs (blk X N scope cl s H Z fe C) bg tt∧PE (blk X N scope cl s H Z fe C) bf te)
  (I2:Inv X fe σ H2 Y) (T:yB X.prog X.w X.K tg J Z it tn) (bt:tn 0 Y.heap) (f2:∀ b∈Z,nB X fe H2 b) (cw:nQ J g tt te (sub src σ) H2 Q)
  (cs:∀ D C H' m s',Inv X fe σ H' s'→s'.heap.Ns C m→nB X fe H' C→D≠C→Q (.ref D) H'→RR (.ref D) C (.ok .next) s'):
  wpAny (model X.prog X.w) X.A (newList []) (fun b0 s₃=>wpAny (model X.prog X.w) X.A (newFunctionEnv scope X.env.globals (gS X.env scope.names []) [] X.env.qual none .none (some X.env)) (fun aw s₄=>
   codeAny (model X.prog X.w) X.A (.compStart (.ListComp bf [⟨tg,ay,bg,0⟩] scope pos) 0 (.ref it) b0 { aw with scope:=relabel scope X.env }) (RR b0 aw.locals) s₄) E s₃) E Y:=by
 refine BB (wpAny_newFunctionEnv B.nocell (by intro y hy;simp at hy) (fun h₁ am ae=>?_) B.kind);dsimp only at am ae ⊢;generalize bb:Y.heap.push { cls:=.type "list",dict:=none,data:=.seq ([]:List Ab).toArray }=HH at am ae ⊢;have aR:HH.objs.size=Y.heap.objs.size + 1:=by rw[← bb,B6]
 have ak:Y.heap.objs.size≠HH.objs.size:=by rw[aR];exact AQ (Cp _)
 have ah:Y.heap.objs.size≤HH.objs.size:=by rw[aR];exact Cs _
 have au:∀ b∈Z,b < Y.heap.objs.size:=fun b O=>by
  obtain⟨o,e,_⟩:=T.obj _ _ bt b O;exact Au e
 have bo:∀ b o,Y.heap.get? b=some o→h₁.get? b=some o:=fun b o e=>
  ae.extBut b o (by rw[aR];exact AQ (Bz (Au e))) (Ah _ (bb ▸ Ah _ e))
 have bq:h₁.PlainList Y.heap.objs.size #[]:=⟨_,ae.extBut _ _ ak (Ah _ (bb ▸ AA _ rfl))⟩
 have b1:tn 0 h₁:=T.keep _ _ _ bt fun b _ o e=>bo b o e;obtain⟨W,⟨m0,w0⟩,turn⟩:=cw;have bW:∀ b∈frs X.stack,b < Y.heap.objs.size:=fun b O=>by
  obtain⟨_,o,ho,_⟩:=I2.stack.mem O;exact Au ho
 generalize G:blk X N scope (gS X.env scope.names []) Y H2 Z fe HH.objs.size=U;have bw:=O (gS X.env scope.names []) Y H2 Z fe HH.objs.size;rw[G]at bw;have eP:U.prog=X.prog:=by rw[← G];rfl
 have eW:U.w=X.w:=by rw[← G];rfl
 have eK:U.K=X.K:=by rw[← G];rfl
 have eA:U.A=X.A:=by rw[← G];rfl
 have eE:U.env=compEnvC scope (gS X.env scope.names []) HH.objs.size X.env:=by rw[← G];rfl
 have eL:U.env.locals=HH.objs.size:=by rw[eE];rfl
 have eF:U.fs=frs X.stack:=by rw[← G];rfl
 have eX:U.ex=Z:=by rw[← G];rfl
 have eS:U.s₀=Y:=by rw[← G];rfl
 have eH:U.H₀=H2:=by rw[← G];rfl
 have eC:U.calm=true:=by rw[← G];exact hc
 have bz:U.pn=X.pn ++ fe:=by rw[← G];rfl
 have be:U.xe=fun _ _=>False:=by rw[← G];rfl
 have af:∀ x c,U.env.cells.lookup x=some c→X.env.cells.lookup x=some c:=fun x c e=>by
  rw[eE]at e;exact o0 scope.names [] (fun x c e=>by simp at e) x c e
 have ag:∀ x c,U.env.cells.lookup x=some c→c < Y.heap.objs.size:=fun x c e=>by
  obtain⟨v,o,ho,_⟩:=I2.cell x c (af x c e);exact Au ho
 have ao:∀ p∈X.pn ++ fe,p.1 < Y.heap.objs.size:=fun p hp=>Au (I2.pin p hp).1;generalize hD:Y.heap.objs.size=D at *;generalize dr:HH.objs.size=C at *;have az:∀ s₃:Ad,s₃={ Y with heap:=h₁,toks:=Y.toks + ([]:List (Str×Ab)).length }→
   codeAny (model X.prog X.w) X.A (.compLoop (.ListComp bf [⟨tg,ay,bg,0⟩] scope pos) 0 (.ref it) (.ref D) (compEnvC scope (gS X.env scope.names []) C X.env)) (RR (.ref D) C) s₃:=by
  rintro s₃ rfl;have I3:Inv U [] (sub src σ) H2 { Y with heap:=h₁,toks:=Y.toks + ([]:List (Str×Ab)).length }:=by
   rw[← G];exact I2.block B f2 (by rw[hD];exact au) (by rw[hD];exact ah) rfl I2.bare bo am
  have cv:H2 D=none:=I2.hok.fresh (CU hD);have ck:D ∉ U.fs:=fun z=>by rw[eF]at z;exact absurd (bW D z) (BN _)
  have av:∀{σ':St} {H':Hp} {s':Ad} {pl:List (Af×Obj)} {its:List Ab} {n:Nat},Inv U pl σ' H' s'→H' D=none→s'.heap.get? D=some { cls:=.type "list",data:=.seq its.toArray n }→
    Inv U ((D,{ cls:=.type "list",data:=.seq its.toArray n }) :: pl) σ' H' s':=fun{σ' H' s' pl its n} I' hn hg=>
   I'.pins_of fun p hp=>by
    rcases Ap.mp hp with e | hp
    ·subst e;exact⟨hg,hn,by rw[eL];exact ak,ck,fun v z=>by cases z⟩
    ·exact I'.pin p (A6 _ hp)
  obtain⟨n0,hg0⟩:=bq;have cf:=av (its:=[]) I3 cv hg0;have bd:∀{H':Hp} {pl:List (Af×Obj)},(∀ p∈pl,p.1=D)→(∀ b∈Z,H' b=none)→∀ b∈Z,nB U pl H' b:=fun{H' pl} hpl hn b O=>by
   refine⟨hn b O,by rw[eL];exact AQ (AR (au b O) ah),fun z=>?_,.inl (by rw[eX];exact O),fun x c e=>(f2 b O).2.2.2.2.1 x c (af x c e),fun p hp=>?_⟩
   ·rw[eF]at z;rcases Ap.mp (I2.stkSub b z)with e | z
    ·exact(f2 b O).2.1 e
    ·exact(f2 b O).2.2.1 z
   ·rw[bz]at hp;rcases Bo.mp hp with z | z
    ·exact(f2 b O).2.2.2.2.2 p z
    ·rw[hpl p z];exact CT (au b O)
  refine yQ (fun n s'=>∃ i ys its nn σ' H',Inv U [(D,{ cls:=.type "list",data:=.seq its.toArray nn })] σ' H' s'∧tn i s'.heap∧(∀ b∈Z,H' b=none)∧cF ys its∧W i n ys σ' H') ?_ m0
   ⟨0,[],[],n0,sub src σ,H2,cf,b1,fun b O=>(f2 b O).1,.nil,w0⟩
  rintro n s4 ⟨i,ys,its,nn,σ4,H4,I4,bL,bx,ar,w4⟩;obtain⟨hsz,hcase⟩:=turn i n ys σ4 H4 w4;have one:∀{o:Obj},∀ p∈[(D,o)],p.1=D:=fun{o} p hp=>by
   have:=BC.mp hp;rw[this]
  rcases hcase with⟨stop,qn⟩ | ⟨go,Nx,hN,step⟩
  ·have an:=T.done U eP eW eK eC i _ s4 σ4 H4 (fun _ _=>False) I4 (bd one bx) bL stop;rw[eA]at an;refine thn an fun r s5 ⟨hr,I5⟩=>?_;subst hr;have pd:=I5.pin _ (A6 _ AV);have cu:Un (frs X.stack) Z H2 H4 Y.heap s5.heap:=by
    have:=I5.base;rw[eF,eX,eS,eH]at this;exact this
   have bu:HOk X.prog X.w H4 s5.heap:=by
    have:=I5.hok;rw[eP,eW]at this;exact this
   have cr:s5.os=Y.os:=by
    have:=I5.os;rw[eS]at this;exact this
   have J5:Inv X fe σ H4 s5:=I2.call' cr cu bu I5.bare fun b O=>⟨(f2 b O).2.2.2.1,(f2 b O).2.1,(f2 b O).2.2.2.2.1,(f2 b O).2.2.2.2.2⟩
   have fD:nB X fe H4 D:=I2.fpOk (CU hD) pd.2.1;have J6:Inv X fe σ (upd H4 D (.lst ys)) s5:=J5.track fD ⟨hsz,its,nn,ar,pd.1⟩;obtain⟨mm,nsC,_⟩:=I5.loc;rw[eL]at nsC;have b7:H4 C=none:=by
    have:=I5.free;rw[eL]at this;exact this
   have fC:nB X fe (upd H4 D (.lst ys)) C:=I2.fpOk (by rw[hD];exact ah) (by rw[bD (CL ak)];exact b7);exact cs D C _ mm s5 J6 nsC fC ak (qn D pd.2.1)
  ·have ai:=T.item U eP eW eK eC i _ s4 σ4 H4 (fun _ _=>False) I4 (bd one bx) bL go;rw[eA]at ai;refine thn ai fun r s5 ⟨u,hr,h5⟩=>?_;subst hr;refine thn h5 fun _ s6 ⟨x,H6,I6,r6,y6,aI,cg⟩=>?_;have cq:=I6.pinned (bd one cg) (T.obj _ _ aI);obtain⟨hg,ht,he⟩:=bw;have e1:=hg _ s6 σ4 H6 x u _ cq r6 (step x H6 y6);rw[eP,eW,eA,eE,be]at e1;refine thn e1 fun _ s7 ⟨σ7,H7,I7,q7⟩=>?_;have e2:=ht _ s7 σ7 H7 _ I7 q7;rw[eP,eW,eA,eE,be]at e2;refine thn e2 fun ok s8 ⟨H8,I8,q8⟩=>?_;have bI:∀{σ':St} {H':Hp} {s':Ad} {ad:List Ab} {aj:Nat} {zs:List V},Inv U ([(D,{ cls:=.type "list",data:=.seq ad.toArray aj })] ++ mK Z s6.heap) σ' H' s'→cF zs ad→Nx zs σ' H'→
     ∃ m,m < n∧∃ i ys its nn σ' H',Inv U [(D,{ cls:=.type "list",data:=.seq its.toArray nn })] σ' H' s'∧tn i s'.heap∧(∀ b∈Z,H' b=none)∧cF ys its∧W i m ys σ' H':=fun{σ' H' s' ad aj zs} I' vs' n'=>by
    obtain⟨m',hm,w'⟩:=hN zs σ' H' n';refine⟨m',hm,i + 1,zs,ad,aj,σ',H',I'.unpinned,T.keep _ _ _ aI fun b O o e=>(I'.pin (b,o) (A6 _ (A6 _ (jK O e)))).1,fun b O=>?_,vs',w'⟩;obtain⟨o,e,d⟩:=T.obj _ _ aI b O;exact(I'.pin (b,o) (A6 _ (A6 _ (jK O e)))).2.1
   cases ok with
   | false=>
    simp only[Bool.false_eq_true,if_false]at q8 ⊢;exact bI I8 ar q8
   | true=>
    simp only[if_true]at q8 ⊢;have e3:=he _ s8 σ7 H8 _ I8 q8;rw[eP,eW,eA,eE,be]at e3;refine thn e3 fun v s9 ⟨y,H9,I9,r9,q9⟩=>?_;have pd:=I9.pin _ (A6 _ (BV _ AV));have c0:=ar.length;refine wpAny_list_append_plain (hsz:=by simp only[Ao];omega) (⟨nn,pd.1⟩:s9.heap.PlainList D its.toArray) fun h' ⟨aj,cj⟩ cb=>?_;have b9:Inv U (mK Z s6.heap) σ7 H9 s9:=I9.pins_of fun p hp=>I9.pin p (A6 _ (A6 _ hp));have b6:Inv U (mK Z s6.heap) σ7 H9 { s9 with heap:=h' }:=b9.turned (t':=s9.toks) (it:=D) (fun b o O e=>(cb.2 b O).trans e) pd.2.1 (by rw[eL];exact ak) (.inr (by rw[eS];exact CU hD))
     (fun x c e=>AQ (ag x c e)) fun p hp=>by
      rw[bz]at hp;rcases Bo.mp hp with z | z
      ·exact AQ (ao p z)
      ·exact AQ (au _ (uT z).1)
    have bv:h'.get? D=some { cls:=.type "list",data:=.seq (its ++ [v]).toArray aj }:=by
     rw[cj];simp
    exact bI (av (s':={ s9 with heap:=h' }) b6 pd.2.1 bv) (ar.append (.cons r9 .nil)) q9
 exact codeAny_compStart_list (az _ rfl) (T.self X.A 0 _ _ _ b1 (az _ rfl))
end
def aD4(src:List (Option Nat))(wi:TI)(g:TG)(tt:TT)(te:TE):TE:=fun σ H Q=>wi σ H fun J H1=>nQ J g tt te (sub src σ) H1 Q
section
variable{X:Cx}
theorem fV{tg G U:A5}{O:List A5}{scope osc:Cq}{pos:Pos}{N oN:List Str}{src:List (Option Nat)}{wi:TI}{g:TG}{tt:TT}{te:TE}(B:BlkOk N src scope osc oN)(hi:PI X tg G wi)
  (Z:∀ cl s H W fe C,PG (blk X N scope cl s H W fe C) tg g∧PTs (blk X N scope cl s H W fe C) O tt∧PE (blk X N scope cl s H W fe C) U te)
  (hc:X.calm=true:=by rfl) (eo:X.env.scope=osc:=by rfl) (eN:X.N=oN:=by rfl)
  (hs:∀ x,foldedSetIterable G X.env x=pure x:=by intro _;rfl):PE X (.ListComp U [⟨tg,G,O,0⟩] scope pos) (aD4 src wi g tt te):=by
 subst eo eN;constructor;intro fe s σ H Q I h;rw[eval_ListComp];refine wpAny_comprehension_free (use:=none) (cl:=gS X.env scope.names []) rfl hs (nK (I.clos B)) B.kind B.names (thn (hi fe s σ H _ I h) fun xv s1 h1=>thn h1 fun aj s2 h2=>?_);obtain⟨it,W,tn,J,H2,e,I2,T,st2,f2,cw⟩:=h2;subst e;refine vE B hc Z I2 T st2 f2 cw fun D C H' m s' J' Y fC ad q=>?_;refine⟨m,Y,fun h' sb=>⟨.ref D,H',?_,rfl,q⟩⟩;obtain⟨f0,f1,_,f3,f4,f5⟩:=fC;exact J'.turned (t':=s'.toks) (fun b o Z e=>(sb.2 b Z).trans e) f0 f1 f3 f4 f5
theorem jN{tg G U:A5}{O:List A5}{scope osc:Cq}{pos ps Y:Pos}{y:Str}{i:Nat}{N oN:List Str}{src:List (Option Nat)}{wi:TI}{g:TG}{tt:TT}{te:TE}(B:BlkOk N src scope osc oN)(hN:X.N.Nodup)(hy:X.N[i]?=some y)(hi:PI X tg G wi)
  (hb:∀ cl s H Z fe C,PG (blk X N scope cl s H Z fe C) tg g∧PTs (blk X N scope cl s H Z fe C) O tt∧PE (blk X N scope cl s H Z fe C) U te)
  (W:X.env.scope.names.lookup y=some .local:=by rfl)
  (aa:swapsWith (.ListComp U [⟨tg,G,O,0⟩] scope pos) (some (.Name y Y)) ps.line X.env=pure true:=by rfl)
  (hc:X.calm=true:=by rfl) (eo:X.env.scope=osc:=by rfl) (eN:X.N=oN:=by rfl)
  (hs:∀ x,foldedSetIterable G X.env x=pure x:=by intro _;rfl):PS X (.Assign [.Name y Y] (.ListComp U [⟨tg,G,O,0⟩] scope pos) ps) (aHH (aD4 src wi g tt te) (cE i)):=by
 subst eo eN;constructor;intro fe s σ H D I h;rw[exec_Assign_Name_used _ _ _ _ aa];refine Aa (DN (Aa ?_));show wpAny _ _ (evalThenUse (.ListComp U [⟨tg,G,O,0⟩] scope pos) X.env (assign (.Name y Y) X.env)) _ _ s;have e:evalThenUse (.ListComp U [⟨tg,G,O,0⟩] scope pos) X.env (assign (.Name y Y) X.env)=(do
   let _ ← comprehension (.ListComp U [⟨tg,G,O,0⟩] scope pos) scope X.env (firstIterPos [⟨tg,G,O,0⟩] pos) (newList []) (firstAsync [⟨tg,G,O,0⟩]) (firstIter [⟨tg,G,O,0⟩] X.env) (some (assign (.Name y Y) X.env))):=rfl
 rw[e];refine Aa ?_;refine wpAny_comprehension_free (use:=some (assign (.Name y Y) X.env)) (cl:=gS X.env scope.names []) rfl hs (nK (I.clos B)) B.kind B.names (thn (hi fe s σ H _ I h) fun xv s1 h1=>thn h1 fun av s2 h2=>?_);obtain⟨it,Z,tn,J,H2,e,I2,T,st2,f2,cw⟩:=h2;subst e;refine vE B hc hb I2 T st2 f2 cw fun D' C H' m s' J' ae fC ak q=>?_;obtain⟨f0,f1,_,f3,f4,f5⟩:=fC;refine wpAny_assign_Name (uR J' hN hy (.inl W) (v:=.ref D') rfl (fun af ag ⟨a,sb,ha⟩=>?_) (.inr W));have ad:C≠a:=by
  rcases ha with rfl | ha
  ·exact f1
  ·exact fun z=>f4 y a ha z.symm
 refine⟨m,ae.sameBut sb ad,fun h' ac=>Ag (Ag ⟨_,H',ag.turned (t':=af.toks) (fun b o hb e=>(ac.2 b hb).trans e) f0 f1 f3 f4 f5,q⟩)⟩
end
section
variable{X:Cx}
inductive j8(K:Ae)(xs:List V)(H:Hp)(Q:VK):Prop
 | mk (x:_) (n:_) (t:_) (b:_) (q0:xs=[x,.ty n]) (q1:iF K H x t) (q2:A9 K t (.type n)=some b) (q3:Q (.bl b) H):j8 K xs H Q
def uM(K:Ae):List V→Hp→VK→Prop:=fun xs H Q=>j8 K xs H Q
theorem cM:fT X (.builtin "isinstance") (uM X.K):=by
 intro fe s σ H xs G Q I r h;obtain⟨x,n,t,b,rfl,ty,e,q⟩:=h;obtain⟨u,w',rfl,r1,r2⟩:=aHb r;cases r2;exact aCO I r1 ty e fun tk=>⟨.bl b,H,I.tok _,rfl,q⟩
inductive l7(x:V)(y:V)(H:Hp)(Q:VK):Prop
 | mk (i:_) (j:_) (q0:x=.str i) (q1:y=.str j) (q2:Q (.bl (!decide (j.cps.toList < i.cps.toList))) H):l7 x y H Q
def yR:V→V→Hp→VK→Prop:=fun x y H Q=>l7 x y H Q
theorem lF:OpR X (compareOp .LtE) yR:=by
 intro fe s σ H x y v u Q I J G h;obtain⟨i,j,rfl,rfl,q⟩:=h;obtain⟨t,rfl⟩:=J;obtain⟨t',rfl⟩:=G;exact PySem.P.le_str ⟨.bl _,H,I,rfl,q⟩
def vF(i j:Int):Prop:=0 < j∧j.natAbs.log2 < 9000
theorem vF.of{i j:Int}(h:0 < j)(h2:j < 2 ^ 512):vF i j:=by
 refine⟨h,?_⟩;have G:j.natAbs≠0:=by omega
 have:j.natAbs.log2 < 512:=(FZ G).mpr (by
  have e:((2:Int) ^ 512)=((2 ^ 512:Nat):Int):=by decide
  rw[e]at h2;omega)
 omega
theorem rV:OpR X (binaryOp .FloorDiv) (rI vF fun i j=>.int (i / j)):=opI fun i j _ _ _ _ _ hc q=>by
 have h1:(0:Int) < j:=hc.1;refine floordiv_int (by omega) ?_ (Aw (PyProof.noPylong_of_log2 hc.2));rw[Int.fdiv_eq_ediv_of_nonneg i (by omega)];exact q
def Its(x:Str):It:=⟨fun i _=>i < x.cps.size,fun i H v H'=>H'=H∧∃ c,x.cps[i]?=some c∧v=.str ⟨#[c]⟩,fun i _=>x.cps.size≤i⟩
theorem aD5{P:Al}{w:AH}{K:Ae}{tg:A5}(it:Af)(x:Str)(t:Tok)(nm:String)(aa:nm="str_ascii_iterator"∨nm="str_iterator")
  (W:∀ A':AB,A'.handled=none→Walks P w A' it [it] [it] x.cps.size (SignAt x) (fun i h=>h.IsStrIter it nm x t i))
  (G:∀(A:AB) (i:Nat) (s:Ad) (Q:Ab→Ad→Prop) (E:Ab→Ad→Prop),s.heap.IsStrIter it nm x t i→Q (.ref it) s→wpAny (model P w) A (pyIter (.ref it)) Q E s):
  yB P w K tg (Its x) [it] it (fun i h=>i≤x.cps.size∧h.IsStrIter it nm x t i) where
 mem:=by simp
 obj:=fun i h st b J=>by
  have e:b=it:=by simpa using J
  subst e;obtain⟨_,o,e,c,d⟩:=st;exact⟨o,e,fun v z=>by rw[d]at z;cases z⟩
 keep:=fun i h h' st k=>⟨st.1,by obtain⟨_,o,e,c,d⟩:=st;exact⟨o,k it (by simp) o e,c,d⟩⟩
 item:=by
  intro X Z hw hK hc i fe s σ H E I Y st U;subst Z hw hK;obtain⟨f0,f1,f2,f3,f4,f5⟩:=Y it (by simp);refine(W X.A (I.ok.hd hc)).item i s _ _ U st.2 fun v h' tk hv O kk=>?_;obtain⟨c,u,ec,rfl⟩:=hv;have I1:Inv X fe σ H { s with heap:=h',toks:=tk }:=I.turned (fun b o J e=>kk b o (by simpa using J) e) f0 f1 f3 f4 f5;obtain⟨o,e,c',d⟩:=id O;refine⟨_,rfl,yC (s:={ s with heap:=h',toks:=tk }) e c' d (by rcases aa with rfl | rfl <;> decide) ⟨.str ⟨#[c]⟩,H,I1,⟨u,rfl⟩,⟨rfl,c,ec,rfl⟩,⟨U,O⟩,fun b J=>(Y b J).1⟩⟩
 done:=by
  intro X Z hw hK hc i fe s σ H E I Y st U;subst Z hw hK;obtain⟨f0,f1,f2,f3,f4,f5⟩:=Y it (by simp);have e:i=x.cps.size:=Nat.le_antisymm st.1 U;subst e;exact(W X.A (I.ok.hd hc)).done s _ _ st.2 fun h' tk kk=>⟨rfl,I.turned (fun b o J e=>kk b o (by simpa using J) e) f0 f1 f3 f4 f5⟩
 self:=fun A i s Q E st h=>G A i s Q E st.2 h
def aJa(tl:TE):TI:=fun σ H R=>tl σ H fun x H1=>As V.str x fun z=>R (Its z) H1
theorem wJ{tg l:A5}{tl:TE}(hl:PE X l tl):PI X tg l (aJa tl):=by
 constructor;intro fe s σ H R I h;refine thn (hl fe s σ H _ I h) fun v s1 ⟨x,H1,Y,r1,q1⟩=>?_;obtain⟨z,rfl,q⟩:=q1;obtain⟨t,rfl⟩:=r1;have J:∀(nm:String) (O:nm="str_ascii_iterator"∨nm="str_iterator")
   (W:∀ U:AB,U.handled=none→Walks X.prog X.w U s1.heap.objs.size [s1.heap.objs.size] [s1.heap.objs.size] z.cps.size (SignAt z) (fun i h=>h.IsStrIter s1.heap.objs.size nm z t i))
   (G:∀(A:AB) (i:Nat) (s:Ad) (Q:Ab→Ad→Prop) (E:Ab→Ad→Prop),s.heap.IsStrIter s1.heap.objs.size nm z t i→Q (.ref s1.heap.objs.size) s→wpAny (model X.prog X.w) A (pyIter (.ref s1.heap.objs.size)) Q E s),
   PIE X fe σ tg R (.ref s1.heap.objs.size) { s1 with heap:=s1.heap.push { cls:=.type nm,data:=.fields #[.str z t,.int 0 0] } }:=fun nm O W G=>by
  refine⟨s1.heap.objs.size,[s1.heap.objs.size],_,_,H1,rfl,Y.kept (t':=s1.toks) fun b o e=>Ah _ e,aD5 s1.heap.objs.size z t nm O W G,⟨Bs _,_,AA _ rfl,rfl,rfl⟩,fun b hb=>?_,q⟩;have e:b=s1.heap.objs.size:=by simpa using hb
  subst e;exact Y.fpOk (An _) (Y.hok.fresh (An _))
 cases ha:z.cps.all (· < 128)
 ·exact wpAny_pyIter_wide ha (J "str_iterator" (.inr rfl) (fun U Z=>Walks.strWide Z _ z t) fun A i s Q E st h=>wpAny_pyIter_striter_wide st h)
 ·exact wpAny_pyIter_ascii ha (J "str_ascii_iterator" (.inl rfl) (fun U Z=>Walks.strAscii Z _ z t) fun A i s Q E st h=>wpAny_pyIter_striter_ascii st h)
inductive rW(x:V)(lo:Option Int)(hi:Option Int)(H:Hp)(Q:VK):Prop
 | mk (z:_) (q0:x=.str z) (q1:z.length≤sizeLine) (q2:Q (.str (A8 z lo hi)) H):rW x lo hi H Q
def aD6:V→Option Int→Option Int→Hp→VK→Prop:=fun x lo hi H Q=>rW x lo hi H Q
theorem iU:SlR X aD6:=by
 intro fe s σ H x v vl vu lo hi sl Q I Y Z pl W h;obtain⟨z,rfl,hz,q⟩:=h;obtain⟨t,rfl⟩:=Y;refine⟨"str",_,F.slot_str_getitem.lookup,Ec _ _ _,?_⟩;have G:∀ O k,EP X fe σ Q (.str (A8 z lo hi) O) { s with toks:=k }:=fun O k=>⟨.str _,H,I.tok _,⟨_,rfl⟩,q⟩
 obtain⟨o,ho,hc,hd⟩:=Z;cases pl with
 | none=>
  cases W with
  | none=>exact Dp (l:=none) (u:=none) (st:=none) ⟨o,ho,hc,hd⟩ rfl (EH ⟨AM (Es z _ _) hz,G⟩)
  | int j J=>exact Dp (l:=none) (u:=some (j,J)) (st:=none) ⟨o,ho,hc,hd⟩ rfl (EH ⟨AM (Es z _ _) hz,G⟩)
 | int i U=>
  cases W with
  | none=>exact Dp (l:=some (i,U)) (u:=none) (st:=none) ⟨o,ho,hc,hd⟩ rfl (EH ⟨AM (Es z _ _) hz,G⟩)
  | int j J=>exact Dp (l:=some (i,U)) (u:=some (j,J)) (st:=none) ⟨o,ho,hc,hd⟩ rfl (EH ⟨AM (Es z _ _) hz,G⟩)
theorem aBN:∀{ys:List Str}{G:List Ab},cF (ys.map V.str) G→F4 G ys
 | [],_,.nil=>.nil
 | y :: ys,_,.cons ⟨t,rfl⟩ r=>.cons y t (aBN r)
inductive pZ(K:Ae)(x:V)(xs:List V)(H:Hp)(Q:VK):Prop
 | mk (z:_) (p:_) (ys:_) (q0:x=.str z) (q1:xs=[.ref p]) (q2:SqL K H p (ys.map V.str)) (q3:(ys.map (·.length)).sum + ys.length * z.length≤16777216) (q4:Q (.str (DU z ys)) H):pZ K x xs H Q
def aCU(K:Ae):V→List V→Hp→VK→Prop:=fun x xs H Q=>pZ K x xs H Q
theorem qM:MtR X "str.join" (aCU X.K):=by
 intro fe s σ H x xs v O Q I G r h;obtain⟨z,p,ys,rfl,rfl,hx,hz,q⟩:=h;obtain⟨t,rfl⟩:=G;obtain⟨u,rfl,ru⟩:=gC r;cases ru;obtain⟨its,rv,pl,_⟩:=I.list hx;exact join_list pl.isList (by simpa using aBN rv) hz fun J k=>⟨.str _,H,I.tok _,⟨_,rfl⟩,q⟩
theorem yS:∀{bs:List Bool}{G:List Ab},cF (bs.map V.bl) G→∀(i:Nat) v,G[i]?=some v→∃ b,bs[i]?=some b∧v=.bool b
 | [],_,.nil,i,v,e=>by simp at e
 | b :: bs,_,.cons rfl r,0,v,e=>by simp at e;exact⟨b,rfl,e.symm⟩
 | b :: bs,_,.cons rfl r,i + 1,v,e=>by
  obtain⟨c,h1,h2⟩:=yS r i v (by simpa using e);exact⟨c,by simpa using h1,h2⟩
theorem aAQ(bs:List Bool):((AJ bs.length).all fun i=>(bs[i]?).getD true)=bs.all id:=by
 rw[Bv,AX,AX];constructor
 ·intro h b J;obtain⟨i,hi,e⟩:=List.mem_iff_getElem.mp J;have:=h i (CM.mpr hi);rw[Ai hi]at this;simpa[e]using this
 ·intro h i hi;have G:=CM.mp hi;rw[Ai G];exact h _ (BR G)
inductive nR(K:Ae)(xs:List V)(H:Hp)(Q:VK):Prop
 | mk (p:Af) (bs:List Bool) (q0:xs=[.ref p]) (q1:SqL K H p (bs.map V.bl)) (q2:Q (.bl (bs.all id)) H):nR K xs H Q
def aAR(K:Ae):List V→Hp→VK→Prop:=fun xs H Q=>nR K xs H Q
theorem nS(hc:X.calm=true):fT X (.builtin "all") (aAR X.K):=by
 intro fe s σ H xs Z Q I r h;obtain⟨p,bs,rfl,hx,q⟩:=h;obtain⟨u,rfl,ru⟩:=gC r;cases ru;obtain⟨its,rv,pl,_⟩:=I.list hx;have O:=pl.isList;have G:its.length=bs.length:=by have:=rv.length;simpa using this.symm
 have J:p < s.heap.objs.size:=by obtain⟨_,e,_⟩:=O;exact Au e
 refine call_all_walk (Fn O ?_);refine⟨s.heap.objs.size,[s.heap.objs.size,p],[s.heap.objs.size],its.toArray.size,_,_,fun i=>(bs[i]?).getD true,rfl,Walks.list (A:=X.A.in1) (I.ok.hd hc) _ p (AQ J) its.toArray,
  ⟨⟨_,AA _ rfl,rfl,rfl⟩,O.push _⟩,fun i v s' Q' E' W U=>?_,fun h' tk Y=>?_⟩
 ·obtain⟨b,e,rfl⟩:=yS rv i v (by simpa using W);simp only[e,Option.getD_some]at U;exact BK U
 ·rw[Ao,G,aAQ];exact⟨.bl _,H,I.kept fun b x e=>Y b x (fun hm=>by rw[BC.mp hm]at e;exact BN _ (Au e)) (Ah _ e),rfl,q⟩
def rX:List V→List V→Bool
 | [],[]=>true
 | x :: xs,y :: ys=>eqV x y && rX xs ys
 | _,_=>false
theorem nU:∀{xs ys:List V},xs.length≠ys.length→rX xs ys=false
 | [],[],h=>absurd rfl h
 | [],_ :: _,_=>rfl
 | _ :: _,[],_=>rfl
 | x :: xs,y :: ys,h=>by
  show(eqV x y && rX xs ys)=false;rw[nU (fun e=>h (by simp[e])),AI]
theorem rY:∀{xs ys:List V},xs.length=ys.length→((AJ xs.length).all fun i=>eqV (xs[i]?.getD .non) (ys[i]?.getD .non))=rX xs ys
 | [],[],_=>rfl
 | x :: xs,y :: ys,h=>by
  have G:=rY (xs:=xs) (ys:=ys) (by simpa using h);rw[Ak,List.range_succ_eq_map,CB,Dk];show(eqV x y && _)=(eqV x y && rX xs ys)
  rw[← G];rfl
theorem yT{A:AB}{s:Ad}{xs ys:List V}{O ws:List Ab}(W:cF xs O)(U:cF ys ws)(f1:xs.all gD=true)(f2:ys.all gD=true)(j:Nat)(h1:j < O.toArray.size)(h2:j < ws.toArray.size):
  FY A s O.toArray[j] ws.toArray[j] (eqV (xs[j]?.getD .non) (ys[j]?.getD .non)):=by
 have l1:=W.length;have Y:=U.length;have G:j < xs.length:=by simpa[l1]using h1
 have J:j < ys.length:=by simpa[Y]using h2
 obtain⟨u,eu,ru⟩:=W.get (Ai G);obtain⟨w',ew,rw'⟩:=U.get (Ai J);have e1:O.toArray[j]=u:=by
  rw[Ai (by simpa using h1)]at eu;simpa using eu
 have Z:ws.toArray[j]=w':=by
  rw[Ai (by simpa using h2)]at ew;simpa using ew
 rw[e1,Z,Ai G,Ai J];exact aDT ru rw' (AX.mp f1 _ (BR G)) (AX.mp f2 _ (BR J))
inductive rZ(K:Ae)(x:V)(y:V)(H:Hp)(Q:VK):Prop
 | mk (p:_) (q:_) (xs:_) (ys:_) (q0:x=.ref p) (q1:y=.ref q) (q2:SqL K H p xs) (q3:SqL K H q ys) (q4:xs.all gD=true) (q5:ys.all gD=true) (q6:Q (.bl (rX xs ys)) H):rZ K x y H Q
def aD7(K:Ae):V→V→Hp→VK→Prop:=fun x y H Q=>rZ K x y H Q
theorem aAS(G:X.A.units < cLine):OpR X (compareOp .Eq) (aD7 X.K):=by
 intro fe s σ H x y v u Q I O J h;obtain⟨p,q,xs,ys,rfl,rfl,h1,h2,f1,f2,hq⟩:=h;cases O;cases J;obtain⟨us,r1,p1,_⟩:=I.list h1;obtain⟨ws,r2,p2,_⟩:=I.list h2;have U:=r1.length;have W:=r2.length;by_cases e:xs.length=ys.length
 ·refine SeqAt.eq_listAt p1.isList p2.isList (by simp;omega) G (yT r1 r2 f1 f2) ?_;rw[Ao,← U,rY e];exact⟨.bl _,H,I,rfl,hq⟩
 ·refine SeqAt.eq_list_lengthsAt p1.isList p2.isList (by simp;omega) G ?_;rw[nU e]at hq;exact⟨.bl _,H,I,rfl,hq⟩
inductive sE(K:Ae)(x:V)(y:V)(H:Hp)(Q:VK):Prop
 | mk (p:_) (q:_) (xs:_) (ys:_) (q0:x=.ref p) (q1:y=.ref q) (q2:SqL K H p xs) (q3:SqL K H q ys) (q4:xs.all gD=true) (q5:ys.all gD=true) (q6:Q (.bl (!rX xs ys)) H):sE K x y H Q
def aD8(K:Ae):V→V→Hp→VK→Prop:=fun x y H Q=>sE K x y H Q
theorem aD9(G:X.A.units < cLine):OpR X (compareOp .NotEq) (aD8 X.K):=by
 intro fe s σ H x y v u Q I O J h;obtain⟨p,q,xs,ys,rfl,rfl,h1,h2,f1,f2,hq⟩:=h;cases O;cases J;obtain⟨us,r1,p1,_⟩:=I.list h1;obtain⟨ws,r2,p2,_⟩:=I.list h2;have U:=r1.length;have W:=r2.length;by_cases e:xs.length=ys.length
 ·refine SeqAt.RcNeAt.lists p1.isList p2.isList (by simp;omega) G (yT r1 r2 f1 f2) X.prog X.w _ _ ?_;rw[Ao,← U,rY e];exact⟨.bl _,H,I,rfl,hq⟩
 ·refine SeqAt.RcNeAt.lists_lengths p1.isList p2.isList (by simp;omega) G X.prog X.w _ _ ?_;rw[nU e]at hq;exact⟨.bl _,H,I,rfl,hq⟩
end
theorem aF{n:Nat}(h:n≤1000000):n≤sizeLine:=by
 have:sizeLine=16777216:=DP;omega
theorem lG{J:It}{g:TG}{tt:TT}{te:TE}{σ₀:St}{H₀:Hp}{Q:VK}(n:Nat)(G:Nat→List V→St→Hp→Prop)(h0:G 0 [] σ₀ H₀)(hn:n≤sizeLine)(W:∀ i ys σ H,G i ys σ H→ys.length≤i)
  (Z:∀ i ys σ H,i < n→G i ys σ H→J.go i H) (U:∀ ys σ H,G n ys σ H→J.stop n H)
  (hs:∀ i ys σ H x H',i < n→G i ys σ H→J.yld i H x H'→g x σ H' fun Y H2=>tt Y H2 fun b H3=>if b=true then te Y H3 fun v H4=>G (i + 1) (ys ++ [v]) Y H4 else G (i + 1) ys Y H3)
  (hd:∀ ys σ H,G n ys σ H→∀ D,H D=none→Q (.ref D) (upd H D (.lst ys))):nQ J g tt te σ₀ H₀ Q:=by
 refine⟨fun i m ys σ H=>m=n - i∧i≤n∧G i ys σ H,⟨n,by simp,Bs _,h0⟩,?_⟩;rintro i m ys σ H ⟨rfl,hi,p⟩;refine⟨AM (W i ys σ H p) (AM hi hn),?_⟩;by_cases O:i < n
 ·exact .inr ⟨Z i ys σ H O p,G (i + 1),fun zs σ' H' p'=>⟨n - (i + 1),by omega,rfl,O,p'⟩,fun x H' y=>hs i ys σ H x H' O p y⟩
 ·have e:i=n:=by omega
  subst e;exact .inl ⟨U ys σ H p,hd ys σ H p⟩
theorem nV{x:Str}{g:TG}{Y:TT}{te:TE}{W:St}{H₀:Hp}{Q:VK}(G:Nat→List V→St→Hp→Prop)(Z:G 0 [] W H₀)(hn:x.cps.size≤sizeLine)(J:∀ i ys σ H,G i ys σ H→ys.length≤i)
  (hs:∀ i c ys σ H,x.cps[i]?=some c→G i ys σ H→g (.str ⟨#[c]⟩) σ H fun O H2=>Y O H2 fun b U=>if b=true then te O U fun v H4=>G (i + 1) (ys ++ [v]) O H4 else G (i + 1) ys O U)
  (hd:∀ ys σ H,G x.cps.size ys σ H→∀ D,H D=none→Q (.ref D) (upd H D (.lst ys))):nQ (Its x) g Y te W H₀ Q:=
 lG x.cps.size G Z hn J (fun i _ _ _ h _=>h) (fun _ _ _ _=>An _) (fun i ys σ H v H' hi p y=>by
  obtain⟨e,c,ec,rfl⟩:=y;subst e;exact hs i c ys σ _ ec p) hd
theorem sF{lo:Int}{n:Nat}{g:TG}{Y:TT}{te:TE}{W:St}{H₀:Hp}{Q:VK}(G:Nat→List V→St→Hp→Prop)(Z:G 0 [] W H₀)(hn:n≤sizeLine)(J:∀ i ys σ H,G i ys σ H→ys.length≤i)
  (hs:∀ i ys σ H,i < n→G i ys σ H→g (.int (lo + i)) σ H fun O H2=>Y O H2 fun b U=>if b=true then te O U fun v H4=>G (i + 1) (ys ++ [v]) O H4 else G (i + 1) ys O U)
  (hd:∀ ys σ H,G n ys σ H→∀ D,H D=none→Q (.ref D) (upd H D (.lst ys))):nQ (Itr lo n) g Y te W H₀ Q:=
 lG n G Z hn J (fun i _ _ _ h _=>h) (fun _ _ _ _=>An _) (fun i ys σ H v H' hi p y=>by
  obtain⟨e,rfl⟩:=y;subst e;exact hs i ys σ _ hi p) hd
theorem vG{K:Ae}{a:Af}{xs:List V}{g:TG}{Z:TT}{te:TE}{Y:St}{H₀:Hp}{Q:VK}(G:Nat→List V→St→Hp→Prop)(h0:G 0 [] Y H₀)(hn:xs.length≤sizeLine)(J:∀ i ys σ H,G i ys σ H→ys.length≤i)
  (U:∀ i ys σ H,G i ys σ H→SqL K H a xs)
  (hs:∀ i x ys σ H,xs[i]?=some x→G i ys σ H→g x σ H fun O H2=>Z O H2 fun b W=>if b=true then te O W fun v H4=>G (i + 1) (ys ++ [v]) O H4 else G (i + 1) ys O W)
  (hd:∀ ys σ H,G xs.length ys σ H→∀ D,H D=none→Q (.ref D) (upd H D (.lst ys))):nQ (Itl K a) g Z te Y H₀ Q:=
 lG xs.length G h0 hn J (fun i ys σ H h p=>⟨xs,xs[i],U i ys σ H p,by simp[h]⟩) (fun ys σ H p=>⟨xs,U _ ys σ H p,An _⟩) (fun i ys σ H v H' hi p y=>by
  obtain⟨e,y⟩:=y;subst e;exact hs i v ys σ _ (y xs (U i ys σ _ p)) p) hd
theorem kM{K:Ae}{a:Af}{xs:List V}{g:TG}{Z:TT}{te:TE}{Y:St}{H₀:Hp}{Q:VK}(G:Nat→List V→St→Hp→Prop)(h0:G 0 [] Y H₀)(hn:xs.length≤sizeLine)(J:∀ i ys σ H,G i ys σ H→ys.length≤i)
  (U:∀ i ys σ H,G i ys σ H→SqT K H a xs)
  (hs:∀ i x ys σ H,xs[i]?=some x→G i ys σ H→g x σ H fun O H2=>Z O H2 fun b W=>if b=true then te O W fun v H4=>G (i + 1) (ys ++ [v]) O H4 else G (i + 1) ys O W)
  (hd:∀ ys σ H,G xs.length ys σ H→∀ D,H D=none→Q (.ref D) (upd H D (.lst ys))):nQ (Itt K a) g Z te Y H₀ Q:=
 lG xs.length G h0 hn J (fun i ys σ H h p=>⟨xs,xs[i],U i ys σ H p,by simp[h]⟩) (fun ys σ H p=>⟨xs,U _ ys σ H p,An _⟩) (fun i ys σ H v H' hi p y=>by
  obtain⟨e,y⟩:=y;subst e;exact hs i v ys σ _ (y xs (U i ys σ _ p)) p) hd
def bK(p:Af)(H H':Hp):Prop:=∀ b o,H b=some o→b≠p→H' b=some o
theorem bK.refl(p:Af)(H:Hp):bK p H H:=fun _ _ e _=>e
theorem bK.trans{p:Af}{H H1 H2:Hp}(a:bK p H H1)(b:bK p H1 H2):bK p H H2:=fun c o e h=>b c o (a c o e h) h
theorem bK.same{p:Af}{H H1 H2:Hp}(a:bK p H H1)(b:aT H1 H2):bK p H H2:=fun c o e h=>b c o (a c o e h)
theorem aT.but{p:Af}{H H1:Hp}(a:aT H H1):bK p H H1:=fun c o e _=>a c o e
theorem bK.upd{p:Af}{o:HO}{H H1:Hp}(a:bK p H H1):bK p H (upd H1 p o):=fun c u e h=>by rw[bD h];exact a c u e h
theorem aH{p:Af}{o:HO}{H:Hp}(h:H p=none):aT H (upd H p o):=fun c u e=>by rw[bD (bX e h)];exact e
section
variable{X:Cx}
inductive nX(x:V)(xs:List V)(H:Hp)(Q:VK):Prop
 | mk (z:_) (q0:x=.str z) (q1:xs=[]) (q2:z.length≤100000) (q3:Q (.str (Txt.upper z)) H):nX x xs H Q
def aAT:V→List V→Hp→VK→Prop:=fun x xs H Q=>nX x xs H Q
theorem aEa:MtR X "str.upper" aAT:=by
 intro fe s σ H x xs v J Q I G r h;obtain⟨z,rfl,rfl,hz,q⟩:=h;obtain⟨t,rfl⟩:=G;cases r;exact PySem.SC.upper (PyProof.Rows.fit_upper (by omega)) ⟨.str _,H,I.tok _,⟨_,rfl⟩,q⟩
end
section
variable{X:Cx}
inductive aEb(t:TS)(D:kC)(σ:St)(H:Hp):Prop
 | mk (R:St→Hp→Prop) (q0:t { D with nx:=R } σ H) (q1:∀ σ' H',R σ' H'→D.nx σ' H'):aEb t D σ H
def aJU(t:TS):TS:=fun D σ H=>aEb t D σ H
theorem fO{st:Br}{t:TS}(h:PS X st t):PS X st (aJU t):=by
 constructor;intro fe s σ H D I q;obtain⟨R,q1,q2⟩:=q;refine thn (h fe s σ H _ I q1) fun f s' z=>?_;cases f with
 | next=>obtain⟨σ',H',I',r⟩:=z;exact⟨σ',H',I',q2 _ _ r⟩
 | brk=>exact z
 | cont=>exact z
 | ret u=>exact z
end
theorem i8:∀ ns:List Int,(ns.map V.int).all gD=true
 | []=>rfl
 | _ :: r=>i8 r
theorem wK{K:Ae}{T U:String}{b:Bool}(hn:(Bb T == Bb U)=false)(hm:PySem.W.kitMeta U=true)(G:(PySem.fastBuiltinMro T).map (·.contains (Bb U))=some b):A9 K (.type T) (.type U)=some b:=by
 unfold A9;rw[Ia (by rw[hn];exact AG)];show(if PySem.W.kitMeta U=true then PySem.W.subIn K (Bb T) (Bb U) else none)=_;rw[Ib hm];exact G
theorem nY{K:Ae}{T:String}:A9 K (.type T) (.type T)=some true:=by
 unfold A9;rw[Ib (by rw[beq_self_eq_true])]
theorem iB{xs:List V}{i:Int}(J:0≤i)(h1:i < xs.length):∃ v,v∈xs∧atI xs i=some v:=by
 have G:i.toNat < xs.length:=by omega
 refine⟨xs[i.toNat],BR G,?_⟩;have e:=bO (xs:=xs) (j:=i.toNat) (v:=xs[i.toNat]) (Ai G);rw[Int.toNat_of_nonneg J]at e;exact e
def aEc:A5→Bool
 | .Starred ..=>false
 | _=>true
theorem aCV{e:A5}{es:List A5}{env:Env}(h:aEc e=true):starEach (e :: es) env=(false,eval e env) :: starEach es env:=by
 cases e <;> first | rfl | cases h
theorem aB{X:Cx}{e:A5}{es:List A5}{te:TE}{t:TA}(ha:PE X e te)(J:PA X es t)(G:aEc e=true:=by rfl):PA X (e :: es) (aBD te t):=fF ha J (aCV G)
section
variable{X:Cx}
theorem Inv.turnedL{fe:List (Af×Obj)}{σ:St}{H:Hp}{s:Ad}{h':A1}{t':Nat}{J:List Af}(I:Inv X fe σ H s)(k:∀ b o,b ∉ J→s.heap.get? b=some o→h'.get? b=some o)(O:∀ b∈J,nB X fe H b):
  Inv X fe σ H { s with heap:=h',toks:=t' }:=by
 have G:∀ b u,H b=some u→b ∉ J:=fun b u e z=>by rw[(O b z).1]at e;cases e
 refine I.step (g':=s.gens) (d':=s.drawn) (ch:=J) (fun b U=>?_) (fun b o _ _ hc e _=>k b o hc e) (fun b o _ _ hc e _=>⟨o.slots,k b o hc e⟩) (fun _ _ _ _ n=>n)
  (fun b o hc e=>⟨o,k b o hc e⟩) (fun _ _ e=>e) (fun _ _ _ e=>e) (fun b ps e=>⟨#[],by rw[e];simp⟩) (fun m hm=>?_) (fun b u e=>?_) I.bare
 ·obtain⟨_,h1,_,h3,h4,h5⟩:=O b U;exact⟨h3,h1,h4,h5⟩
 ·obtain⟨o,es,ep,ho,r⟩:=hm;exact⟨o,es,ep,k _ o (fun z=>(O _ z).2.1 rfl) ho,r⟩
 ·refine(I.hok b u e).stay (fun c v hc q=>k c v ?_ q) (fun _ q=>q) fun _ _ q=>q;rcases hc with z | z
  ·rw[z];exact G b u e
  ·exact G c _ z
structure ZA(z TI TO i1 i2:Af):Prop where
 a1:TI≠z
 a2:TO≠z
 a3:i1≠z
 a4:i2≠z
 a5:TI≠TO
 a6:TI≠i1
 a7:TI≠i2
 a8:TO≠i1
 a9:TO≠i2
 a10:i1≠i2
end
def i9(σ:List Str)(v:Str):List Str:=if v∈σ then σ else σ ++ [v]
def gI(val:Nat→Str):Nat→List Str
 | 0=>[]
 | i + 1=>i9 (gI val i) (val i)
theorem nZ(σ:List Str)(k:Str):(σ.any fun x=>x == k)=decide (k∈σ):=by
 rw[Bv,Ds,decide_eq_true_iff];constructor
 ·rintro⟨x,hx,e⟩;rw[beq_iff_eq]at e;exact e ▸ hx
 ·intro h;exact⟨k,h,beq_self_eq_true k⟩
theorem aCW(σ:List Str)(v k:Str):((i9 σ v).any fun x=>x == k)=((σ.any fun x=>x == k) || decide (k=v)):=by
 rw[nZ,nZ];unfold i9;split
 ·next h=>
  rw[Bv];simp only[decide_eq_true_eq,Bool.or_eq_true];constructor
  ·intro z;exact .inl z
  ·rintro(z | z)
   ·exact z
   ·exact z ▸ h
 ·rw[Bv];simp
theorem jO(σ:List Str)(v:Str):(i9 σ v).length=if (σ.any fun x=>x == v)=true then σ.length else σ.length + 1:=by
 rw[nZ];unfold i9;by_cases h:v∈σ
 ·rw[Ib h,Ib (Ic h)]
 ·rw[Ia h,Ia (by simpa using h),Av];rfl
theorem qN(val:Nat→Str):∀ i,(gI val i).length≤i
 | 0=>An _
 | i + 1=>by
  have G:=qN val i;show(i9 _ _).length≤_;rw[jO];split <;> omega
section
variable{X:Cx}
theorem sG(val:Nat→Str):∀ i k,k∈gI val i↔∃ j,j < i∧val j=k
 | 0,k=>by
  show k∈[]↔_;simp
 | i + 1,k=>by
  show k∈i9 (gI val i) (val i)↔_;have G:=sG val i;unfold i9;by_cases h:val i∈gI val i
  ·rw[Ib h,G k];constructor
   ·rintro⟨j,hj,e⟩;exact⟨j,by omega,e⟩
   ·rintro⟨j,hj,e⟩;by_cases z:j=i
    ·subst z;obtain⟨j',hj',e'⟩:=(G _).mp h;exact⟨j',hj',e'.trans e⟩
    ·exact⟨j,by omega,e⟩
  ·rw[Ia h,Bo,G k,BC];constructor
   ·rintro(⟨j,hj,e⟩ | e)
    ·exact⟨j,by omega,e⟩
    ·exact⟨i,by omega,e.symm⟩
   ·rintro⟨j,hj,e⟩;by_cases z:j=i
    ·subst z;exact .inr e.symm
    ·exact .inl ⟨j,by omega,e⟩
theorem vH(val:Nat→Str):∀ i,(gI val i).length=i↔((AJ i).map val).Nodup
 | 0=>by simp[gI]
 | i + 1=>by
  have J:=vH val i;have U:=qN val i;show(i9 (gI val i) (val i)).length=_↔_;rw[jO,nZ,DD,Ar,Df];have hm:val i∈gI val i↔val i∈(AJ i).map val:=by
   rw[sG,BO];constructor
   ·rintro⟨j,hj,e⟩;exact⟨j,CM.mpr hj,e⟩
   ·rintro⟨j,hj,e⟩;exact⟨j,CM.mp hj,e⟩
  by_cases h:val i∈gI val i
  ·rw[Ib (Ic h)];constructor
   ·intro z;omega
   ·rintro⟨_,_,z⟩;exact absurd rfl (z _ (hm.mp h) _ (by simp))
  ·rw[Ia (by simpa using h)];constructor
   ·intro z;refine⟨J.mp (by omega),by simp,fun a ha b O e=>?_⟩;have G:b=val i:=by simpa using O
    subst G;exact h (hm.mpr (e ▸ ha))
   ·rintro⟨z,_,_⟩;rw[J.mpr z]
theorem aCX(G:List Str):decide (((gI (fun i=>G.getD i "") G.length).length:Int)=(G.length:Int))=decide G.Nodup:=by
 have e:(AJ G.length).map (fun i=>G.getD i "")=G:=by
  apply Di;intro j;rw[AW];by_cases h:j < G.length
  ·rw[DK h,Ai h];simp[h]
  ·rw[Bh (by rw[Dh];omega),Bh (by omega)];rfl
 have:=vH (fun i=>G.getD i "") G.length;rw[e]at this;rw[decide_eq_decide,← this];omega
inductive yU(K:Ae)(x:V)(y:V)(H:Hp)(Q:VK):Prop
 | mk (a:_) (b:_) (ys:_) (q0:x=.ref a) (q1:y=.ref b) (q2:SqT K H a []) (q3:SqT K H b ys) (q4:Q (.ref b) H):yU K x y H Q
def aHY(K:Ae):R2:=fun x y H Q=>yU K x y H Q
theorem aEd:OpR X (binaryOp .Add) (aHY X.K):=by
 intro fe s σ H x y v u Q I J G h;obtain⟨a,b,ys,rfl,rfl,ha,hb,q⟩:=h;cases J;cases G;obtain⟨its,r1,p1,_⟩:=I.tuple ha;obtain⟨its2,r2,p2,_⟩:=I.tuple hb;cases r1;obtain⟨⟨cls,dd,data,sl⟩,ho,hc,n,hd⟩:=id p1;obtain⟨⟨cls2,dd2,data2,sl2⟩,ho2,hc2,n2,hd2⟩:=id p2;simp only at hc hd hc2 hd2;subst hc hd hc2 hd2;exact F2 ⟨_,ho,rfl⟩ ⟨_,ho2,rfl⟩ Fx FW Eg D5 (DZ _ _)
   (tuple_addW0 a b _ _ n n2 dd dd2 sl sl2 (by simp)) ⟨ho,ho2,⟨.ref b,H,I,rfl,q⟩⟩
end
section
variable{prog:Al}{w:AH}{A:AB}{E:Ab→Ad→Prop}{s:Ad}
theorem aEe(l:List Ab):((AJ l.length).filterMap fun(m:Nat)=>l.toArray[((l.length:Int) - 1 + (m:Int) * (-1)).toNat]?).toArray=l.reverse.toArray:=by
 congr 1;have e:∀ k,k≤l.length→((AJ k).filterMap fun(m:Nat)=>l.toArray[((l.length:Int) - 1 + (m:Int) * (-1)).toNat]?)=l.reverse.take k:=by
  intro k
  induction k with
  | zero=>intro _;simp
  | succ k J=>
   intro W;rw[DD,List.filterMap_append,J (by omega),A2];congr 1;have O:((l.length:Int) - 1 + (k:Int) * (-1)).toNat=l.length - 1 - k:=by omega
   have h1:l.length - 1 - k < l.length:=by omega
   rw[CW,O];have U:l.toArray[l.length - 1 - k]?=some (l[l.length - 1 - k]):=by simp[h1]
   have G:l.reverse[k]?=some (l[l.length - 1 - k]):=by
    rw[List.getElem?_reverse (by omega),Ai h1]
   rw[U,G];rfl
 rw[e l.length (An _)];rw[← Cn,Bc]
end
section
variable{X:Cx}{e st:A5}{te ts:TE}{pos p2:Pos}
end
section
variable{X:Cx}
end
mutual
inductive RdV(m:Bool)(H:Hp):V→Aj→Prop
 | non:RdV m H .non .none
 | bl (b:Bool):RdV m H (.bl b) (.bool b)
 | int (i:Int):RdV m H (.int i) (.int i)
 | str (z:Str) (h:z.length≤1000):RdV m H (.str z) (.str z)
 | lst {a:Af} {xs:List V} {ds:List Aj} (hm:m=true) (e:H a=some (.lst xs)) (hl:xs.length≤1000) (r:c7 m H xs ds):RdV m H (.ref a) (.list ds)
 | tup {a:Af} {xs:List V} {ds:List Aj} (e:H a=some (.tup xs)) (hl:xs.length≤1000) (r:c7 m H xs ds):RdV m H (.ref a) (.tuple ds)
 | dct {a:Af} (hm:m=false) (e:H a=some (.dK [])):RdV m H (.ref a) (.dict [])
inductive c7(m:Bool)(H:Hp):List V→List Aj→Prop
 | nil:c7 m H [] []
 | cons {x:V} {d:Aj} {xs:List V} {ds:List Aj} (a:RdV m H x d) (r:c7 m H xs ds):c7 m H (x :: xs) (d :: ds)
end
mutual
theorem RdV.keep{m:Bool}{H H':Hp}(k:∀ a o,H a=some o→(∀ J r,o≠.dK (J :: r))→H' a=some o):∀{x:V}{d:Aj},RdV m H x d→RdV m H' x d
 | _,_,.non=>.non
 | _,_,.bl b=>.bl b
 | _,_,.int i=>.int i
 | _,_,.str z h=>.str z h
 | _,_,.lst hm e G r=>.lst hm (k _ _ e (fun _ _ z=>nomatch z)) G (c7.keep k r)
 | _,_,.tup e G r=>.tup (k _ _ e (fun _ _ z=>nomatch z)) G (c7.keep k r)
 | _,_,.dct hm e=>.dct hm (k _ _ e (fun _ _ z=>nomatch z))
theorem c7.keep{m:Bool}{H H':Hp}(k:∀ a o,H a=some o→(∀ G r,o≠.dK (G :: r))→H' a=some o):∀{xs:List V}{ds:List Aj},c7 m H xs ds→c7 m H' xs ds
 | _,_,.nil=>.nil
 | _,_,.cons a r=>.cons (RdV.keep k a) (c7.keep k r)
end
theorem RdV.same{m:Bool}{H H':Hp}{x:V}{d:Aj}(h:RdV m H x d)(s:aT H H'):RdV m H' x d:=h.keep fun a o e _=>s a o e
theorem c7.same{m:Bool}{H H':Hp}{x:List V}{d:List Aj}(h:c7 m H x d)(s:aT H H'):c7 m H' x d:=h.keep fun a o e _=>s a o e
theorem c7.len{m:Bool}{H:Hp}:∀{xs:List V}{ds:List Aj},c7 m H xs ds→xs.length=ds.length
 | _,_,.nil=>rfl
 | _,_,.cons _ r=>by rw[Ak,Ak,c7.len r]
theorem c7.app{m:Bool}{H:Hp}:∀{xs:List V}{ds:List Aj}{ys:List V}{es:List Aj},c7 m H xs ds→c7 m H ys es→c7 m H (xs ++ ys) (ds ++ es)
 | _,_,_,_,.nil,h=>h
 | _,_,_,_,.cons a r,h=>.cons a (c7.app r h)
theorem c7.at{m:Bool}{H:Hp}:∀{xs:List V}{ds:List Aj}{i:Nat}{x:V},c7 m H xs ds→xs[i]?=some x→∃ d,ds[i]?=some d∧RdV m H x d
 | _,_,0,_,.cons a r,e=>by simp at e;subst e;exact⟨_,rfl,a⟩
 | _,_,i + 1,_,.cons a r,e=>by simp at e;simpa using c7.at r e
section
variable{X:Cx}
mutual
theorem RdV.reads{fe:List (Af×Obj)}{σ:St}{m:Bool}{H:Hp}{s:Ad}(I:Inv X fe σ H s):∀{x:V}{d:Aj}{v:Ab},RdV m H x d→cR x v→∃ as,Reads s.heap v d as∧(m=true→d.hasDict=false)∧(m=false→¬ sysModules∈as)
 | _,_,_,.non,r=>by cases r;exact⟨[],.none,fun _=>rfl,fun _=>by simp⟩
 | _,_,_,.bl b,r=>by cases r;exact⟨[],.bool b,fun _=>rfl,fun _=>by simp⟩
 | _,_,_,.int i,r=>by obtain⟨t,rfl⟩:=r;exact⟨[],.int i t,fun _=>rfl,fun _=>by simp⟩
 | _,_,_,.str z _,r=>by obtain⟨t,rfl⟩:=r;exact⟨[],.str z t,fun _=>rfl,fun _=>by simp⟩
 | _,_,_,.lst hm e _ rs,r=>by
  cases r;obtain⟨_,its,n,rv,eo⟩:cX X.prog X.w H s.heap _ (.lst _):=I.hok _ _ e;obtain⟨as,ra,h1,h2⟩:=c7.reads I rs rv;exact⟨_,.list eo rfl rfl (by simpa using ra),fun _=>h1 hm,fun z=>by rw[hm]at z;cases z⟩
 | _,_,_,.tup e _ rs,r=>by
  cases r;obtain⟨_,its,rv,pt⟩:cX X.prog X.w H s.heap _ (.tup _):=I.hok _ _ e;obtain⟨as,ra,h1,h2⟩:=c7.reads I rs rv;obtain⟨o,eo,⟨hc,n,hd⟩,_⟩:=pt;exact⟨as,.tuple eo hc hd (by simpa using ra),h1,h2⟩
 | _,_,_,.dct hm e,r=>by
  cases r;obtain⟨_,hs,vs,kv,o,es,ep,eo,hx,hd,hk,hp,_⟩:cX X.prog X.w H s.heap _ (.dK []):=I.hok _ _ e;cases kv;have G:es.toList=[]:=by
   cases h:es.toList with
   | nil=>rfl
   | cons y r=>rw[h]at hp;cases hp
  refine⟨_,Reads.dict (kvs:=[]) (as:=[]) (bs:=[]) eo hx.1 hd (by rw[G];exact .nil) (by rw[G];exact .nil),(fun z=>by rw[hm]at z;cases z),fun _=>?_⟩;intro z;simp at z;rw[z]at hs;simp at hs
theorem c7.reads{fe:List (Af×Obj)}{σ:St}{m:Bool}{H:Hp}{s:Ad}(I:Inv X fe σ H s):∀{xs:List V}{ds:List Aj}{vs:List Ab},c7 m H xs ds→cF xs vs→∃ as,ReadsAll s.heap vs ds as∧(m=true→PyData.hasDictAll ds=false)∧(m=false→¬ sysModules∈as)
 | _,_,_,.nil,.nil=>⟨[],.nil,fun _=>rfl,fun _=>by simp⟩
 | _,_,_,.cons a r,.cons J G=>by
  obtain⟨as,h1,h2,h3⟩:=RdV.reads I a J;obtain⟨bs,g1,g2,g3⟩:=c7.reads I r G;refine⟨as ++ bs,.cons h1 g1,fun z=>?_,fun z w=>?_⟩
  ·unfold PyData.hasDictAll;rw[h2 z,g2 z];rfl
  ·rcases Bo.mp w with w | w
   ·exact h3 z w
   ·exact g3 z w
end
inductive l9(xs:List V)(H:Hp)(Q:VK):Prop
 | mk (a:Af) (m:Bool) (d:Aj) (q0:xs=[.ref a]) (q1:RdV m H (.ref a) d) (q2:d.showable=true) (q3:d.depth≤20) (q4:d.shown.length≤sizeLine) (q5:Q (.str d.shown) H):l9 xs H Q
def yV:List V→Hp→VK→Prop:=fun xs H Q=>l9 xs H Q
theorem lH{k:Nat}(G:cJ k X.A):fT X (.builtin "repr") yV:=by
 intro fe s σ H xs O Q I r h;obtain⟨a,m,d,rfl,hx,hs,hd,hz,q⟩:=h;obtain⟨u,rfl,ru⟩:=gC r;cases ru;obtain⟨as,hrd,h1,h2⟩:=RdV.reads I hx rfl;refine repr_of_reads' hrd hs (fun z=>?_) G.gd (by have:=G.un;omega) (fun b o e=>e) (fun h' u tk J=>⟨.str d.shown,H,I.kept (t':=tk) J,⟨u,rfl⟩,q⟩) hz;cases m with
 | true=>rw[h1 rfl]at z;cases z
 | false=>exact h2 rfl
end
section
variable{prog:Al}{w:AH}{A:AB}{E:Ab→Ad→Prop}{s:Ad}
theorem n6{t O:Af}{G:Array Ab}{Z Y:Ab}{lo hi:Option Int}{Q:Ab→Ad→Prop}(ht:Fq s.heap t G)(W:s.heap.IsSliceOf O Z Y .none)(pl:EF Z lo)(pu:EF Y hi)
  (hw:HT.sIx G.size 0 lo=0∧HT.sIx G.size G.size hi=G.size) (h:Q (.ref t) s):wpAny (model prog w) A (getItem (.ref t) (.ref O)) Q E s:=by
 obtain⟨os,hos,hcs,hds⟩:=id W;have U:s.TypeIs (.ref O) "slice":=⟨os,hos,hcs⟩
 unfold getItem
 try with_reducible refine A7 ?_
 first | refine Aa (Ag ?_) | skip
 refine Aa (wpAny_sequenceKey ht.typeIs (by decide) ?_);refine Aa (B4 (name:=A4 "__getitem__") ht.typeIs Bw
  (BX Bw ht.typeIs entry_tuple_getitem ?_ (args_tuple_getitem _ _)))
 show wpAny _ _ (Builtin.Tuple.tupleItemsOf (.ref t) >>= _) _ _ s;refine Aa (tupleItemsOf_ ht ?_);refine Aa (CF U ?_);rw[Ib (by decide)];refine Aa (HT.sliceApplied_gen W pl pu ?_);have J:(((HT.sIx G.size 0 lo:Nat):Int) == 0 && (1:Int) == 1 && (HT.sIx G.size G.size hi - HT.sIx G.size 0 lo) == G.size)=true:=by
  rw[hw.1,hw.2];simp
 show wpAny _ _ (if (((HT.sIx G.size 0 lo:Nat):Int) == 0 && (1:Int) == 1 && (HT.sIx G.size G.size hi - HT.sIx G.size 0 lo) == G.size)=true then _ else _) _ _ s;rw[Ib J];obtain⟨⟨cls,dd,data,sl'⟩,ho,hc,n,hd⟩:=id ht;simp only at hc hd;subst hc hd
 wp_walk
 exact⟨_,rfl,Ag h⟩
end
section
variable{X:Cx}
inductive aEf(K:Ae)(x:V)(lo:Option Int)(hi:Option Int)(H:Hp)(Q:VK):Prop
 | mk (a:_) (xs:_) (q0:x=.ref a) (q1:H a=some (.tup xs)) (q2:∀ r H',aT H H'→H' r=some (.tup (eJ xs lo hi))→Q (.ref r) H'):aEf K x lo hi H Q
def aJV(K:Ae):V→Option Int→Option Int→Hp→VK→Prop:=fun x lo hi H Q=>aEf K x lo hi H Q
theorem lJ:SlR X (aJV X.K):=by
 intro fe s σ H x v Y Z lo hi sl Q I J U pl O h;obtain⟨a,xs,rfl,hx,q⟩:=h;by_cases hw:HT.sIx xs.length 0 lo=0∧HT.sIx xs.length xs.length hi=xs.length
 ·cases J;obtain⟨its,r,ht,hz⟩:=I.tuple (aS hx);have G:its.toArray.size=xs.length:=by rw[Ao];exact r.length.symm
  refine⟨"tuple",_,Bw.lookup,ht.typeIs,n6 ht U pl O (by rw[G];exact hw) ⟨.ref a,H,I,rfl,q a H (aT.refl H) ?_⟩⟩;have e:eJ xs lo hi=xs:=by
   unfold eJ;rw[hw.1,hw.2,Dj,E9,Bc]
  rw[e];exact hx
 ·exact aHN fe s σ H _ v Y Z lo hi sl Q I J U pl O ⟨a,xs,rfl,aS hx,hw,fun p W=>q p _ (aH W) aD⟩
inductive aBO(x:V)(y:V)(H:Hp)(Q:VK):Prop
 | mk (a:_) (b:_) (xs:_) (ys:_) (q0:x=.ref a) (q1:y=.ref b) (q2:H a=some (.tup xs)) (q3:H b=some (.tup ys)) (q4:xs.length + ys.length≤1000000) (q5:∀ r H',aT H H'→H' r=some (.tup (xs ++ ys))→Q (.ref r) H'):aBO x y H Q
def aJb:R2:=fun x y H Q=>aBO x y H Q
theorem n8:OpR X (binaryOp .Add) aJb:=by
 intro fe s σ H x y v u Q I J G h;obtain⟨a,b,xs,ys,rfl,rfl,ha,hb,hz,q⟩:=h;by_cases O:xs=[]
 ·subst O;exact aEd fe s σ H _ _ v u Q I J G ⟨a,b,ys,rfl,rfl,aS ha,aS hb,q b H (aT.refl H) hb⟩
 ·refine aBG fe s σ H _ _ v u Q I J G ⟨a,b,xs,ys,rfl,rfl,aS ha,aS hb,O,aF hz,fun h1=>?_,fun h1 p U=>q p _ (aH U) aD⟩;subst h1;exact q a H (aT.refl H) (by rw[Ce];exact ha)
theorem iV{α:Type}(xs:List V)(n:Nat):eJ xs none (some (n:Int))=xs.take n:=by
 unfold eJ;rw[HT.sIx_none,HT.sIx_nat,Dj,E9];by_cases h:n≤xs.length
 ·rw[C2 h]
 ·rw[Du (by omega),Bc,A3 (by omega)]
theorem sH{α:Type}(xs:List V)(n:Nat):eJ xs (some (n:Int)) none=xs.drop n:=by
 unfold eJ;rw[HT.sIx_none,HT.sIx_nat];by_cases h:n≤xs.length
 ·rw[C2 h];exact A3 (by rw[Bk];exact An _)
 ·rw[Du (by omega),Ct (An _),Ct (by omega),ES]
mutual
theorem RdV.keepF{H H':Hp}(k:∀ a o,H a=some o→(∀ J r,o≠.dK (J :: r))→(∀ xs,o≠.lst xs)→H' a=some o):∀{x:V}{d:Aj},RdV false H x d→RdV false H' x d
 | _,_,.non=>.non
 | _,_,.bl b=>.bl b
 | _,_,.int i=>.int i
 | _,_,.str z h=>.str z h
 | _,_,.lst hm _ _ _=>nomatch hm
 | _,_,.tup e G r=>.tup (k _ _ e (fun _ _ z=>nomatch z) (fun _ z=>nomatch z)) G (c7.keepF k r)
 | _,_,.dct hm e=>.dct hm (k _ _ e (fun _ _ z=>nomatch z) (fun _ z=>nomatch z))
theorem c7.keepF{H H':Hp}(k:∀ a o,H a=some o→(∀ G r,o≠.dK (G :: r))→(∀ xs,o≠.lst xs)→H' a=some o):∀{xs:List V}{ds:List Aj},c7 false H xs ds→c7 false H' xs ds
 | _,_,.nil=>.nil
 | _,_,.cons a r=>.cons (RdV.keepF k a) (c7.keepF k r)
end
end
open PySem PySem.Spec PyProof.Rows PySem.W
def aJW{α:Type}(n:Nat)(P:α→Prop):KasT α→Prop
 | .ret a=>P a
 | .ask i j k=>i < n∧j < n∧∀ b,aJW n P (k b)
def Pm(n:Nat)(p:Array Nat):Prop:=p.Perm (AJ n).toArray
section
variable{n:Nat}(hn:0 < n)
include hn
end
section
variable{prog:Al}{w:AH}{A:AB}{E:Ab→Ad→Prop}{s:Ad}
end
section
variable{prog:Al}{w:AH}{A:AB}{E:Ab→Ad→Prop}{s:Ad}
end
section
variable{prog:Al}{w:AH}{A:AB}{E:Ab→Ad→Prop}{s:Ad}
end
section
variable{X:Cx}{fe:List (Af×Obj)}{σ:St}
inductive aEg(H:Hp)(v:Ab):Prop
 | mk (t:_) (a:_) (b:_) (c:_) (q0:v=.ref t) (q1:H t=some (.tup [.int a,.int b,.str c])):aEg H v
def aKo(H:Hp)(v:Ab):Prop:=aEg H v
end
section
variable{X:Cx}{fe:List (Af×Obj)}{σ:St}{H:Hp}{s:Ad}
end
section
variable{X:Cx}{e:A5}{ta:TA}
end
open PySem.SeqAt
open PySem.AutoSeq1 (wpAny_loadPart')
open PySem.MeetsSeq PySem.MeetsSeq2 PySem.MeetsSeq3
inductive aHh(X:Cx)(k:Nat)(ps:List Str)(f:Af)(sp:Sp):Prop
 | mk (fd:Ax) (q0:b8 X.prog X.w X.K X.mg X.base CX0 k f fd ps sp) (q1:Az X.K (.ref f)=true) (q2:dH X.K fd ps []):aHh X k ps f sp
def FnV(X:Cx)(k:Nat)(ps:List Str)(f:Af)(sp:Sp):Prop:=aHh X k ps f sp
def aHZ(X:Cx)(k:Nat)(ps:List Str)(tv:TE)(t:TA):TE:=fun σ H Q=>tv σ H fun v H1=>∃(f:Af) (sp:Sp),v=.ref f∧FnV X k ps f sp∧t σ H1 fun vs H2=>sp vs H2 Q E0
theorem yX{X:Cx}{k:Nat}{ps:List Str}{x:Str}{p pos:Pos}{e:A5}{es:List A5}{tv:TE}{t:TA}(Z:PE X (.Name x p) tv)(Y:cJ k X.A)(ha:PA X (e :: es) t)
  (he:starEach (e :: es) X.env=(false,eval e X.env) :: starEach es X.env:=by rfl) (G:(backTo pos (starEach es X.env)).any (·.1)=false:=by rfl):
  PE X (.Call (.Name x p) (e :: es) [] pos) (aHZ X k ps tv t):=by
 constructor;intro fe s σ H Q I h;refine Dm (thn (Z fe s σ H _ I h) fun u s1 ⟨y,H1,J,U,f,sp,W,⟨fd,F,hk,hb⟩,h2⟩=>?_);subst W;cases U;refine EE (h₀:=X.base) J.ok.mod.kin hk (thn (ha pos fe s1 σ H1 _ J h2) fun us s2 ⟨vs,H2,O,r,q⟩=>⟨O.kIn,?_⟩) he G;exact aDM F Y hb .nil gR O r (by rw[Ce];exact q)
def aJc(fg:List (Key×V))(ty:TE):TE:=fun σ H Q=>ty σ H fun y H2=>∃ k v,y=kV k∧fS fg k=some v∧Q v H2
theorem aBP{X:Cx}{i:A5}{x:Str}{ty:TE}{a:Af}{vs:List (Key×Ab)}{fg:List (Key×V)}{p pos:Pos}(hd:∀ h:A1,X.K.In h→h.DictOf (cY X.prog X.w) a vs)(rel:KV fg vs)(W:Gl X x)(hm:X.mg x=some (.ref a))(hi:PE X i ty)(hs:aHR i)(G:(x == ("__debug__":Str))=false:=by decide):
  PE X (.Subscript (.Name x p) i pos) (aJc fg ty):=by
 constructor;intro fe s σ H Q I h;have ho:PE X (.Name x p) (tC (.ref a)):=bZ W hm rfl G;refine aBI PySem.F.slot_dict_getitem.lookup hs (thn (ho fe s σ H (fun v H1=>v=.ref a∧ty σ H1 fun y H2=>∃ k v,y=kV k∧fS fg k=some v∧Q v H2) I ⟨rfl,h⟩) fun u s1 ⟨x,H1,Z,O,ex,q1⟩=>thn (hi fe s1 σ H1 _ Z q1) fun iv U ⟨y,H2,J,Y,k,v,ey,l,q2⟩=>?_);subst ex ey;obtain rfl:u=AK a:=O;have dd:=hd U.heap J.kIn;refine⟨?_,?_⟩
 ·obtain⟨o,es,ep,e,hx,_⟩:=dd;exact⟨o,e,hx.1⟩
 ·obtain⟨w',hw,rw'⟩:=lX.some_of (v:=v) (o:=valueAt vs k) (by rw[← l];exact rel.val k);exact wpAny_getItem_of (pY Y) dd.mapOf hw ⟨v,H2,J.tok _,rw',q2⟩
theorem aCY{X:Cx}{a:Af}{vs:List (Key×Ab)}{fg:List (Key×V)}(hd:∀ h:A1,X.K.In h→h.DictOf (cY X.prog X.w) a vs)(rel:KV fg vs)(hz:(a == sysModules)=false):OpR X (compareOp .NotIn) (fun x y H Q=>∃ k,x=kV k∧y=.ref a∧Q (.bl (!(fS fg k).isSome)) H):=by
 intro fe s σ H x y v u Q I G J h;obtain⟨k,rfl,rfl,q⟩:=h;cases J;refine wpAny_notIn_of (pY G) hz (hd _ I.kIn).mapOf ?_;rw[← (rel.val k).isSome_eq];exact⟨.bl _,H,I.tok _,rfl,q⟩
section
variable{X:Cx}{fe:List (Af×Obj)}{σ:St}{H:Hp}{s:Ad}{A:AB}{E:Ab→Ad→Prop}{Q:Ab→Ad→Prop}{b:Bool}
end
theorem aH0{X:Cx}{K:Ae}{o e:A5}{es:List A5}{to:TE}{t:TA}{name:Str}{fq fh:Pos}{T id:String}{r:V→List V→Hp→VK→Prop}(pa:PlainAttrs T)(slot:Slot T name id)(W:typeOf (.builtin id)=pure (.type "method_descriptor"))(hm:MtR X id r)(Y:PE X o to)(ha:PA X (e :: es) t)(hK:X.K=K:=by rfl)
  (J:attributeBase o name X.env (eval o X.env)=eval o X.env:=by rfl)
  (U:((backTo fh (starEach (e :: es) X.env)).all (fun x=>!x.1) && (backToKw fh (keywordEach [] X.env)).all (fun x=>x.1.isSome)
   && decide ((e :: es).length + ([]:List D7).length + (if ([]:List D7).isEmpty then 0 else 1) < 30))=true:=by rfl)
  (O:(fq.endLine == fh.line)=true:=by rfl) (Z:starEach (e :: es) X.env=(false,eval e X.env) :: starEach es X.env:=by rfl) (G:(backTo fh (starEach es X.env)).any (·.1)=false:=by rfl):
  PE X (.Call (.Attribute o name fq) (e :: es) [] fh) (tBM K T r to t):=by
 subst hK;exact gE pa slot W hm Y ha J U O Z G
theorem sJ:∀{G:List Str}{J:List Ab},cF (G.map V.str) J→F4 J G
 | [],_,r=>by rw[Dg]at r;cases r;exact .nil
 | s :: G,_,r=>by
  rw[A0]at r;cases r with
  | cons U O=>
   obtain⟨t,e⟩:=U;subst e;exact .cons s t (sJ O)
theorem jP:∀{G:List Ab}{ns:List Str},F4 G ns→cF (ns.map V.str) G
 | _,_,.nil=>.nil
 | _,_,.cons i t r=>.cons ⟨t,rfl⟩ (jP r)
inductive jA(K:Ae)(xs:List V)(H:Hp)(Q:VK):Prop
 | mk (p:Af) (ns:List Str) (q0:xs=[.ref p]) (q1:SqL K H p (ns.map V.str)) (q2:ns.length < 64) (q3:∀(l:Af) (ms:List Str),H l=none→ms.Perm ns→sortedS ms=true→Q (.ref l) (upd H l (.lst (ms.map V.str)))):jA K xs H Q
def sK(K:Ae):List V→Hp→VK→Prop:=fun xs H Q=>jA K xs H Q
theorem wL{X:Cx}:fT X (.builtin "sorted") (sK X.K):=by
 intro fe s σ H xs us Q I r h;obtain⟨p,ns,rfl,hx,h64,q⟩:=h;obtain⟨u,rfl,ru⟩:=gC r;cases ru;obtain⟨its,rv,pl,_⟩:=I.list hx;have hi:F4 its ns:=sJ rv;have G:=rv.length;rw[Ac]at G;refine sorted_strs pl.isList hi (by omega) fun out J U O W=>?_;have hk:∀ b o,s.heap.get? b=some o→(sortedAll s.heap its out).get? b=some o:=fun b o e=>sortedAll_old e;obtain⟨e,he⟩:=sortedAll_at s.heap its out;have hn:H (s.heap.objs.size + 1)=none:=I.hok.fresh (Cs _);have Y:=O.length_eq;have Z:cF (J.map V.str) out.toList:=jP U;refine⟨.ref (s.heap.objs.size + 1),_,I.laid (t':=s.toks) (o:=.lst (J.map V.str)) hk (Cs _) ⟨aF (by rw[Ac];omega),out.toList,e,Z,by rw[he] <;> rfl⟩,rfl,q _ J hn O W⟩
def sO(w:AH)(es:Array (Int×Ab))(t:Cu):Prop:=t.led=!w.params.followText "set-order"∧(es.size=0∨t.plain=false)
def iW(prog:Al)(w:AH)(h:A1)(a:Af)(S:Str→Bool)(n:Nat):Prop:=
 ∃ o es ep t,h.get? a=some o∧o.ExactSet∧o.data=.set es ep t∧ElemsOf (Bq prog w) es.toList∧(∀ k,S k=true↔∃ e∈es.toList,(Bq prog w).is k e.2=true)
  ∧es.size < scanBound∧t.fits es.size=true∧es.size=n∧sO w es t
theorem iW.at{prog:Al}{w:AH}{h h':A1}{a:Af}{S:Str→Bool}{n:Nat}(x:iW prog w h a S n)(e:∀ o,h.get? a=some o→h'.get? a=some o):iW prog w h' a S n:=by
 obtain⟨o,es,ep,t,h1,r⟩:=x;exact⟨o,es,ep,t,e o h1,r⟩
theorem iW.congr{prog:Al}{w:AH}{h:A1}{a:Af}{S S':Str→Bool}{n G:Nat}(x:iW prog w h a S n)(e:∀ k,S k=S' k)(O:n=G):iW prog w h a S' G:=by
 have J:S=S':=funext e;subst J O;exact x
theorem uN(t:Cu)(n:Nat):(t.orStandIn n).led=t.led:=by
 unfold SetTable.orStandIn;split <;> rfl
theorem aAU(t:Cu)(es:Array (Int×Ab))(h:Int)(x:Ab):(layNew t es h x).2.1.led=t.led:=by
 unfold layNew;split
 ·exact uN _ _
 ·rfl
theorem uO(t:Cu)(es:Array (Int×Ab))(n:Nat)(J:t.plain=false):(relayAll t es n).2.1.led=t.led∧(relayAll t es n).2.1.plain=false:=by
 unfold relayAll;split
 ·next t' ord e=>
  dsimp only;split
  ·dsimp only;unfold SetTable.relaid SetTable.laid at e;cases G:SetTable.layClean (SetTable.sizeAbove n - 1) (es.map (·.1))with
   | none=>rw[G]at e;cases e
   | some O=>
    rw[G]at e;cases e;exact⟨rfl,J⟩
  ·exact⟨rfl,rfl⟩
 ·exact⟨rfl,rfl⟩
theorem iW.stored{prog:Al}{w:AH}{h:A1}{a:Af}{o:Obj}{es:Array (Int×Ab)}{ep:Nat}{t:Cu}(Z:h.get? a=some o)(O:o.ExactSet)(hd:o.data=.set es ep t)
  {G:Array (Int×Ab)} {t':Cu} {S':Str→Bool} (U:ElemsOf (Bq prog w) G.toList) (J:∀ k,S' k=true↔∃ e∈G.toList,(Bq prog w).is k e.2=true) (Y:G.size < scanBound) (W:t'.fits G.size=true) (hT:sO w G t'):
  (h.update a (F8 G t')).get? a=some { o with data:=.set G (ep + 1) t' }∧iW prog w (h.update a (F8 G t')) a S' G.size:=by
 obtain⟨hg,_⟩:=SetOf_store (knd:=Bq prog w) (S':=S') Z O hd U J Y W;exact⟨hg,_,G,ep + 1,t',hg,O,rfl,U,J,Y,W,rfl,hT⟩
theorem aJd{prog:Al}{w:AH}{A:AB}{E:Ab→Ad→Prop}{s:Ad}{a:Af}{S:Str→Bool}{n:Nat}{k:Str}{tk:Tok}{Q:Bool→Ad→Prop}(hS:iW prog w s.heap a S n)(Y:n + 1 < scanBound)
  (h:∀ h',Dl a s.heap h'→iW prog w h' a (fun k'=>S k' || decide (k'=k)) (if S k then n else n + 1)→Q (!S k) { s with heap:=h' }):
  wpAny (model prog w) A (setAddHashed a (.str k tk) ((Bq prog w).hash k)) Q E s:=by
 have aa:=strKind_is prog w k tk;obtain⟨o,es,ep,t,ho,hex,hd,hel,hmem,hb,hf,hn,hTab⟩:=hS;have az:es.size + 1 < scanBound:=by rw[hn];exact Y
 unfold setAddHashed setAddHashedIn;refine A7 (Aa (CQ ho hd hf ?_));dsimp only;rw[byScan_of (x:=BZ k tk) rfl hb hel,Ib rfl];unfold setAddByScan;refine Aa (Aa (wpAny_rule (Aa (wpAny_setScan_of aa ho hd hf hel ?_))));cases hr:List.findIdx? (fun e=>(Bq prog w).is k e.2) es.toList with
 | some j=>
  dsimp only;obtain⟨hj,hpj,_⟩:=List.findIdx?_eq_some_iff_getElem.mp hr;have Z:S k=true:=(hmem k).mpr ⟨es.toList[j],BR hj,hpj⟩;refine Ag (Ag ?_);have q:=h s.heap (Heap.SameBut.refl a s.heap) ⟨o,es,ep,t,ho,hex,hd,hel,fun z=>by
   rw[Bool.or_eq_true,decide_eq_true_eq,← hmem z];exact⟨fun hz=>hz.elim id (fun e=>e ▸ Z),.inl⟩,hb,hf,by rw[Z];exact hn,hTab⟩
  rw[Z]at q;exact q
 | none=>
  dsimp only;have Z:S k=false:=by
   cases hz:S k with
   | false=>rfl
   | true=>
    obtain⟨e,he,hp⟩:=(hmem k).mp hz;have z:=List.findIdx?_eq_none_iff.mp hr e he;rw[hp]at z;exact Bool.noConfusion z
  have G:=layNew_perm t es ((Bq prog w).hash k) (BZ k tk);have J:=layNew_fits t es ((Bq prog w).hash k) (BZ k tk);have U:=aAU t es ((Bq prog w).hash k) (BZ k tk);generalize hL:layNew t es ((Bq prog w).hash k) (BZ k tk)=L at G J U ⊢;obtain⟨es1,t1,wasD,gave⟩:=L;dsimp only at G J U ⊢;rw[Array.toList_push]at G;have ae:ElemsOf (Bq prog w) es1.toList:=(hel.push aa rfl).perm G;have W:=mem_push_iff aa hmem G;have ag:es1.size=n + 1:=by rw[← AS,G.length_eq,Av,AS,hn];rfl
  have ak:es1.size < scanBound:=by rw[ag];exact Y
  have gw:∀(b:Bool) {s₁:Ad} {Q':Unit→Ad→Prop},Q' () s₁→wpAny (model prog w) A (match b with | true=>rule "set.scan.the-table-gave-way" | false=>pure ()) Q' E s₁:=fun b s₁ Q' hq=>by cases b <;> first | exact Ag hq | exact wpAny_rule hq
  have af:∀ h',Dl a s.heap h'→iW prog w h' a (fun k'=>S k' || decide (k'=k)) es1.size→Q true { s with heap:=h' }:=fun h' x1 x2=>by
   have q:=h h' x1;rw[Z]at q;rw[ag]at x2;exact q x2
  have ad:∀ O:Cu,O.led=t.led→O.plain=false→O.fits es1.size=true→
    wpAny (model prog w) A (do
     storeSet a es1 O
     if (!wasD && O.tooFull)=true then do
       (match (relayAll O es1 (CD es1.size)).2.2 with | true=>rule "set.scan.the-table-gave-way" | false=>pure ())
       storeSet a (relayAll O es1 (CD es1.size)).1 (relayAll O es1 (CD es1.size)).2.1
       pure (some true)
      else pure (some true)) (fun r s'=>wpAny (model prog w) A (match r with | some added=>pure added | none=>setAddHashedIn a (.str k tk) ((Bq prog w).hash k) 99999) Q E s') E s:=by
   intro O l2 p2 f2;refine Aa (wpAny_storeSet_of ho hd ?_ (Eo ak));obtain⟨ho1,hS1⟩:=iW.stored (prog:=prog) (w:=w) ho hex hd ae W ak f2 ⟨by rw[l2];exact hTab.1,.inr p2⟩;have an:=BL s.heap a (F8 es1 O);split
   ·have hp:=relayAll_perm O es1 (CD es1.size);have ai:=relayAll_fits O es1 (CD es1.size);obtain⟨rl,rp⟩:=uO O es1 (CD es1.size) p2;generalize relayAll O es1 (CD es1.size)=R at hp ai rl rp ⊢;obtain⟨es2,t3,g2⟩:=R;dsimp only at hp ai rl rp ⊢;have ap:ElemsOf (Bq prog w) es2.toList:=ae.perm hp;have aj:∀ z,(S z || decide (z=k))=true↔∃ e∈es2.toList,(Bq prog w).is z e.2=true:=fun z=>(W z).trans ⟨fun⟨e,he,q⟩=>⟨e,hp.mem_iff.mpr he,q⟩,fun⟨e,he,q⟩=>⟨e,hp.mem_iff.mp he,q⟩⟩;have ah:es2.size=es1.size:=by rw[← AS,hp.length_eq,AS]
    have ao:es2.size < scanBound:=by rw[ah];exact ak
    refine Aa (gw _ (Aa (wpAny_storeSet_of ho1 rfl ?_ (Eo ao))));obtain⟨_,hS2⟩:=iW.stored (prog:=prog) (w:=w) ho1 hex rfl ap aj ao ai ⟨by rw[rl,l2];exact hTab.1,.inr rp⟩;rw[ah]at hS2;exact Ag (Ag (af _ (an.trans (BL _ a _)) hS2))
   ·exact Ag (Ag (af _ an hS1))
  refine Aa (gw _ ?_);split
  ·next hpl=>
   rw[hashByValue_scannable 8 (x:=BZ k tk) rfl];refine Aa (Ag ?_);exact ad { t1 with plain:=false } U rfl (SetTable.fits_plain_off J)
  ·next hpl=>
   refine Aa (Ag ?_);exact ad t1 U (by simpa using hpl) J
theorem aAV{h:A1}{a:Af}{G:Array Ab}(x:h.IsTuple a G)(o:Obj):(h.push o).IsTuple a G:=by
 obtain⟨u,hu,r⟩:=x;exact⟨u,Ah o hu,r⟩
theorem aEh{prog:Al}{w:AH}{A:AB}{R:F7→Ad→Prop}{I:Af}{fp wr:List Af}{G:Array EZ→Array EZ→Prop}{n:Nat}{P:Nat→Ab→Prop}{St:Nat→Ad→Prop}
  (W:WalksS prog w A.in1 I fp wr G n P St) (S:Af) (ad:¬ S∈fp) (val:Nat→Str) (ah:∀(i:Nat) (v:Ab),P i v→∃ t,v=BZ (val i) t) (Z:n + 1 < scanBound):
  ∀(k i:Nat) (s:Ad),n - i=k→i≤n→St i s→iW prog w s.heap S (fun Y=>(gI val i).any fun x=>x == Y) (gI val i).length→
   (∀ s':Ad,Moved (S :: wr) G s s'→iW prog w s'.heap S (fun Y=>(gI val n).any fun x=>x == Y) (gI val n).length→R (Except.ok (Flow.ret B0)) s')→
   codeAny (model prog w) A (Code.builtin "set.update.loop" { pos:=[AK S,AK I] }) R s:=by
 have ag:¬ S∈wr:=fun h=>ad (W.sub S h);have J:∀ b,b∈wr→b∈S :: wr:=fun b Z=>AY S Z;intro k
 induction k with
 | zero=>
  intro i s hk hi U hS hR;have ak:i=n:=by omega
  subst ak;refine Ck PyProof.Rows.F.entry_set_update_loop ?_;rw[CJ Cw];refine Aa (W.done s _ _ U fun s' hm=>?_);refine Ag (hR s' (Moved.mono hm J) ?_);exact hS.at fun o ho=>hm.heap S o ag ho
 | succ k ih=>
  intro i s hk hi U hS hR;have ac:i < n:=by omega
  refine Ck PyProof.Rows.F.entry_set_update_loop ?_;rw[CJ Cw];refine Aa (W.item i s _ _ ac U fun v s' hP ai hm=>?_);obtain⟨t,rfl⟩:=ah i v hP;have ao:iW prog w s'.heap S (fun Y=>(gI val i).any fun x=>x == Y) (gI val i).length:=by
   exact hS.at fun o ho=>hm.heap S o ag ho
  have O:(gI val i).length + 1 < scanBound:=by
   have:=qN val i;omega
  refine Aa (A7 (A7 (Aa ((Bq prog w).pyHash (strKind_is prog w (val i) t) ?_))));refine aJd ao O fun h' af ap=>?_;refine Ag ⟨Fc Cw _,?_⟩;refine ih (i + 1) _ (by omega) ac (W.frame (i + 1) s' h' _ ai (Cs s'.toks) fun b Z o e=>?_) ?_ fun an ae aa=>?_
  ·rw[af.right b fun h=>ad (h ▸ Z)];exact e
  ·refine ap.congr (fun Y=>?_) ?_
   ·show _=((i9 _ _).any _)
    rw[aCW]
   ·show _=(i9 _ _).length;rw[jO]
  ·refine hR an (Moved.trans W.gtrans (Moved.then_heap (Moved.mono hm J) (Cs s'.toks) fun b o Z e=>?_) ae) aa;rw[af.right b fun h=>Z (h ▸ AV)];exact e
theorem aHi{prog:Al}{w:AH}{A:AB}{E:Ab→Ad→Prop}{s:Ad}(a:Ab){Q₁:Ab→Ad→Prop}
  (h:Q₁ (.ref s.heap.objs.size) { s with heap:=s.heap.push { cls:=.type "set",dict:=none,data:=.set #[] 0 (.fresh 0 0 (!w.params.followText "set-order")) } }):
  codeAny (model prog w) A (.call (.builtin "set.__new__") ⟨[.type "set",a],[]⟩) (wants Q₁ E) s:=by
 apply EI;show wpAny (model prog w) A.in1 (checkBuiltinCall "set.__new__" ⟨[.type "set",a],[]⟩ >>= fun _=>again (.builtin "set.__new__" ⟨[.type "set",a],[]⟩)) _ _ s;apply Aa;refine CC (F.newCall_set_1 a) (Ag ⟨Fc F.plain_set_new _,?_⟩);apply Ck F.entry_set_new;rw[CJ F.plain_set_new];unfold Builtin.«set.__new__» Builtin.Frozenset.newClass;have G:=sub_set_self;obtain⟨hp,gs,dr,tk,os⟩:=s;dsimp only
 wp_walk
 apply CY;apply Ag;dsimp only;simp only[newObj];apply Aa;apply wpAny_alloc;exact Ag (Ag h)
theorem yY{prog:Al}{w:AH}{A:AB}{E:Ab→Ad→Prop}{s:Ad}{l:Af}{G:Array Ab}{val:Nat→Str}{Q:Ab→Ad→Prop}(hh:A.handled=none)(hl:s.heap.IsList l G)
  (hi:∀(i:Nat) (v:Ab),G[i]?=some v→∃ t,v=BZ (val i) t) (hb:G.size + 1 < scanBound)
  (h:∀(h':A1) (tk:Nat),iW prog w h' s.heap.objs.size (fun k'=>(gI val G.size).any fun x=>x == k') (gI val G.size).length→
   (∀(b:Nat) (o:Obj),b < s.heap.objs.size→s.heap.get? b=some o→h'.get? b=some o)→Q (AK s.heap.objs.size) { s with heap:=h',toks:=tk }):
  wpAny (model prog w) A (call (Bb "set") [AK l]) Q E s:=by
 obtain⟨c,tl,hmro⟩:=BY.mro;have Y:=BY.made;have ae:=BY.sub;have am:=F.typeCall_set_1 (AK l);refine Cd (EI (Ag ⟨C3 _ (by decide),Ck F.entry_type_call ?_⟩));rw[Around.under_plain (weight_type_call_type "set" [AK l] []) rfl];unfold Builtin.«type.__call__»;dsimp only
 iterate 2 refine AO (by first | rfl | decide) ?_
 refine Aa (CC am ?_);refine Aa (CC hmro ?_);refine AO (by first | rfl | decide) ?_;refine Aa (CC Y ?_);refine Aa (Ag ?_);refine Aa (A7 (Cd (CG (aHi (Q₁:=fun obj s₁=>∃ led,led=(!w.params.followText "set-order")∧obj=AK s.heap.objs.size∧s₁={ s with heap:=s.heap.push { cls:=Bb "set",data:=B3 #[] 0 (Bf 0 0 led) } }) (E:=E) (AK l) ⟨_,rfl,rfl,rfl⟩) fun r s₁ J=>?_)));cases r with
 | error e=>exact J
 | ok fl=>
  cases fl with
  | next=>exact J.elim
  | brk=>exact J.elim
  | cont=>exact J.elim
  | ret v=>
   obtain⟨led,hled,rfl,rfl⟩:=J;have hS:=AA s.heap (o:={ cls:=Bb "set",data:=B3 #[] 0 (Bf 0 0 led) }) rfl;have hT:D3 { s with heap:=s.heap.push { cls:=Bb "set",data:=B3 #[] 0 (Bf 0 0 led) } } (AK s.heap.objs.size) "set":=⟨_,hS,rfl⟩
   have ai:=BY.init.lookup;have aj:=BY.init.bind (AK s.heap.objs.size);obtain⟨ol,hol,hcl,nl,hdl⟩:=hl;have O:=Ah { cls:=Bb "set",data:=B3 #[] 0 (Bf 0 0 led) } hol;have Z:Heap.IsList (s.heap.push { cls:=Bb "set",data:=B3 #[] 0 (Bf 0 0 led) }) l G:=⟨ol,O,hcl,nl,hdl⟩
   refine Aa (BW hT ae ?_);refine AO (by first | rfl | decide) ?_;refine Aa (A7 ?_);unfold callSpecial?;refine Aa (EG hT ai ?_);dsimp only;refine A7 ?_;refine Aa (CC aj ?_);refine Aa (Cd (CG (Cm BY.init.plain F.entry_set_init (R:=fun r s'=>match r with | .ok (.ret v)=>v=.none∧Q (.ref s.heap.objs.size) s' | _=>False) (check_set_init_1 hT ?_)) fun r s₁ J=>?_))
   ·unfold Builtin.«set.__init__»;refine Aa (Eb (by first | rfl | decide) (Ag ?_));refine Aa (Aa (Aa (CF hT (AO (by first | rfl | decide) (Ag ?_)))));refine Ag ?_;refine Aa ?_;unfold checkCount
    iterate 2 refine AO (by first | rfl | decide) ?_
    refine AO (by first | rfl | decide) (Ag ?_);refine Aa (Ag ?_);refine Aa ?_;unfold setUsed setState;refine Aa (Aa (wpAny_load' hS ?_));dsimp only;refine AO (by first | rfl | decide) (Ag ?_);refine Ag ?_;refine AO (by first | rfl | decide) ?_;show wpAny _ _ (do let ay ← Cf "set.__init__" s.heap.objs.size (AK l);ret B0) _ _ _;refine Aa ?_;unfold Cf;refine Aa ?_;have U:D3 { s with heap:=s.heap.push { cls:=Bb "set",data:=B3 #[] 0 (Bf 0 0 led) } } (AK l) "list":=⟨ol,O,hcl⟩
    unfold Builtin.Frozenset.isAnySet;refine Aa (BW U F.sub_list_set ?_);refine BW U F.sub_list_frozenset ?_;refine AO (by first | rfl | decide) ?_;refine Aa (CF U ?_);refine AO (by first | rfl | decide) ?_;refine Aa (Fn Z ?_);refine Aa (FK ?_);have aa:l < s.heap.objs.size:=Au hol;have W:(s.heap.push { cls:=Bb "set",data:=B3 #[] 0 (Bf 0 0 led) }).objs.size=s.heap.objs.size + 1:=B6 _ _;have ac:l≠(s.heap.push { cls:=Bb "set",data:=B3 #[] 0 (Bf 0 0 led) }).objs.size:=by rw[W];exact AQ (Bz aa)
    have ah:¬ s.heap.objs.size∈[(s.heap.push { cls:=Bb "set",data:=B3 #[] 0 (Bf 0 0 led) }).objs.size,l]:=by
     rw[W];simp only[Ap,AF,or_false,not_or];exact⟨AQ (Cp _),CT aa⟩
    have ak:A.in1.in1.in1.handled=none:=hh;refine aEh (F3 (Walks.list ak _ l ac G)) s.heap.objs.size ah val hi hb (G.size - 0) 0 _ rfl (Bs _) ⟨⟨_,AA _ rfl,rfl,rfl⟩,Heap.IsList.push Z _⟩ ?_ ?_
    ·have ad:=Ah { cls:=Bb "list_iterator",data:=Fj #[AK l,Ed 0 0] } hS;exact⟨_,#[],0,_,ad,⟨rfl,rfl,rfl⟩,rfl,(fun e he=>by simp at he),(fun k=>by show(false=true)↔_;simp),(by decide),rfl,rfl,hled,.inl rfl⟩
    ·rintro⟨h',g',d',tk',os'⟩ hm hS';refine Ag (Ag ⟨rfl,?_⟩);have e1:=hm.gens;have e2:=hm.drawn;have e3:=hm.os;dsimp only at e1 e2 e3;subst e1 e2 e3;refine h h' tk' hS' fun b o hb e=>hm.heap b o ?_ ?_
     ·simp only[Ap,AF,or_false,not_or];rw[W];exact⟨AQ hb,AQ (Bz hb)⟩
     ·exact Ah _ (Ah _ e)
   ·cases r with
    | error e=>exact J.elim
    | ok fl=>
     cases fl with
     | next=>exact J.elim
     | brk=>exact J.elim
     | cont=>exact J.elim
     | ret v=>
      obtain⟨rfl,q⟩:=J;refine Ag ?_;refine AO (by first | rfl | decide) ?_;exact Ag q
theorem yZ{prog:Al}{w:AH}{A:AB}{E:Ab→Ad→Prop}{s:Ad}{l:Af}{G:Array Ab}{val:Nat→Str}{Q:Ab→Ad→Prop}(hh:A.handled=none)(hl:s.heap.IsTuple l G)
  (hi:∀(i:Nat) (v:Ab),G[i]?=some v→∃ t,v=BZ (val i) t) (hb:G.size + 1 < scanBound)
  (h:∀(h':A1) (tk:Nat),iW prog w h' s.heap.objs.size (fun k'=>(gI val G.size).any fun x=>x == k') (gI val G.size).length→
   (∀(b:Nat) (o:Obj),b < s.heap.objs.size→s.heap.get? b=some o→h'.get? b=some o)→Q (AK s.heap.objs.size) { s with heap:=h',toks:=tk }):
  wpAny (model prog w) A (call (Bb "set") [AK l]) Q E s:=by
 obtain⟨c,tl,hmro⟩:=BY.mro;have Y:=BY.made;have ae:=BY.sub;have am:=F.typeCall_set_1 (AK l);refine Cd (EI (Ag ⟨C3 _ (by decide),Ck F.entry_type_call ?_⟩));rw[Around.under_plain (weight_type_call_type "set" [AK l] []) rfl];unfold Builtin.«type.__call__»;dsimp only
 iterate 2 refine AO (by first | rfl | decide) ?_
 refine Aa (CC am ?_);refine Aa (CC hmro ?_);refine AO (by first | rfl | decide) ?_;refine Aa (CC Y ?_);refine Aa (Ag ?_);refine Aa (A7 (Cd (CG (aHi (Q₁:=fun obj s₁=>∃ led,led=(!w.params.followText "set-order")∧obj=AK s.heap.objs.size∧s₁={ s with heap:=s.heap.push { cls:=Bb "set",data:=B3 #[] 0 (Bf 0 0 led) } }) (E:=E) (AK l) ⟨_,rfl,rfl,rfl⟩) fun r s₁ J=>?_)));cases r with
 | error e=>exact J
 | ok fl=>
  cases fl with
  | next=>exact J.elim
  | brk=>exact J.elim
  | cont=>exact J.elim
  | ret v=>
   obtain⟨led,hled,rfl,rfl⟩:=J;have hS:=AA s.heap (o:={ cls:=Bb "set",data:=B3 #[] 0 (Bf 0 0 led) }) rfl;have hT:D3 { s with heap:=s.heap.push { cls:=Bb "set",data:=B3 #[] 0 (Bf 0 0 led) } } (AK s.heap.objs.size) "set":=⟨_,hS,rfl⟩
   have ai:=BY.init.lookup;have aj:=BY.init.bind (AK s.heap.objs.size);obtain⟨ol,hol,hcl,nl,hdl⟩:=hl;have O:=Ah { cls:=Bb "set",data:=B3 #[] 0 (Bf 0 0 led) } hol;have Z:Heap.IsTuple (s.heap.push { cls:=Bb "set",data:=B3 #[] 0 (Bf 0 0 led) }) l G:=⟨ol,O,hcl,nl,hdl⟩
   refine Aa (BW hT ae ?_);refine AO (by first | rfl | decide) ?_;refine Aa (A7 ?_);unfold callSpecial?;refine Aa (EG hT ai ?_);dsimp only;refine A7 ?_;refine Aa (CC aj ?_);refine Aa (Cd (CG (Cm BY.init.plain F.entry_set_init (R:=fun r s'=>match r with | .ok (.ret v)=>v=.none∧Q (.ref s.heap.objs.size) s' | _=>False) (check_set_init_1 hT ?_)) fun r s₁ J=>?_))
   ·unfold Builtin.«set.__init__»;refine Aa (Eb (by first | rfl | decide) (Ag ?_));refine Aa (Aa (Aa (CF hT (AO (by first | rfl | decide) (Ag ?_)))));refine Ag ?_;refine Aa ?_;unfold checkCount
    iterate 2 refine AO (by first | rfl | decide) ?_
    refine AO (by first | rfl | decide) (Ag ?_);refine Aa (Ag ?_);refine Aa ?_;unfold setUsed setState;refine Aa (Aa (wpAny_load' hS ?_));dsimp only;refine AO (by first | rfl | decide) (Ag ?_);refine Ag ?_;refine AO (by first | rfl | decide) ?_;show wpAny _ _ (do let ay ← Cf "set.__init__" s.heap.objs.size (AK l);ret B0) _ _ _;refine Aa ?_;unfold Cf;refine Aa ?_;have U:D3 { s with heap:=s.heap.push { cls:=Bb "set",data:=B3 #[] 0 (Bf 0 0 led) } } (AK l) "tuple":=⟨ol,O,hcl⟩
    unfold Builtin.Frozenset.isAnySet;refine Aa (BW U F.sub_tuple_set ?_);refine BW U F.sub_tuple_frozenset ?_;refine AO (by first | rfl | decide) ?_;refine Aa (CF U ?_);refine AO (by first | rfl | decide) ?_;refine Aa (wpAny_pyIter_tuple Z ?_);refine Aa (FK ?_);have aa:l < s.heap.objs.size:=Au hol;have W:(s.heap.push { cls:=Bb "set",data:=B3 #[] 0 (Bf 0 0 led) }).objs.size=s.heap.objs.size + 1:=B6 _ _;have ac:l≠(s.heap.push { cls:=Bb "set",data:=B3 #[] 0 (Bf 0 0 led) }).objs.size:=by rw[W];exact AQ (Bz aa)
    have ah:¬ s.heap.objs.size∈[(s.heap.push { cls:=Bb "set",data:=B3 #[] 0 (Bf 0 0 led) }).objs.size,l]:=by
     rw[W];simp only[Ap,AF,or_false,not_or];exact⟨AQ (Cp _),CT aa⟩
    have ak:A.in1.in1.in1.handled=none:=hh;refine aEh (F3 (Walks.tuple ak _ l ac G)) s.heap.objs.size ah val hi hb (G.size - 0) 0 _ rfl (Bs _) ⟨⟨_,AA _ rfl,rfl,rfl⟩,aAV Z _⟩ ?_ ?_
    ·have ad:=Ah { cls:=Bb "tuple_iterator",data:=Fj #[AK l,Ed 0 0] } hS;exact⟨_,#[],0,_,ad,⟨rfl,rfl,rfl⟩,rfl,(fun e he=>by simp at he),(fun k=>by show(false=true)↔_;simp),(by decide),rfl,rfl,hled,.inl rfl⟩
    ·rintro⟨h',g',d',tk',os'⟩ hm hS';refine Ag (Ag ⟨rfl,?_⟩);have e1:=hm.gens;have e2:=hm.drawn;have e3:=hm.os;dsimp only at e1 e2 e3;subst e1 e2 e3;refine h h' tk' hS' fun b o hb e=>hm.heap b o ?_ ?_
     ·simp only[Ap,AF,or_false,not_or];rw[W];exact⟨AQ hb,AQ (Bz hb)⟩
     ·exact Ah _ (Ah _ e)
   ·cases r with
    | error e=>exact J.elim
    | ok fl=>
     cases fl with
     | next=>exact J.elim
     | brk=>exact J.elim
     | cont=>exact J.elim
     | ret v=>
      obtain⟨rfl,q⟩:=J;refine Ag ?_;refine AO (by first | rfl | decide) ?_;exact Ag q
theorem kO{α:Type}:∀(l:List α) (j:Nat) (y:α),l[j]?=some y→(y :: l.eraseIdx j).Perm l
 | [],j,y,h=>by simp at h
 | x :: r,0,y,h=>by
  simp at h;subst h;simp
 | x :: r,j + 1,y,h=>by
  simp at h;rw[List.eraseIdx_cons_succ];exact(List.Perm.swap x y _).trans ((kO r j y h).cons x)
theorem aGe{M:Dw}{A:AB}{Q:Nat→Ad→Prop}{E:Ab→Ad→Prop}{s:Ad}{src:Source}{n:Nat}(hn:n≠0)(h:∀ i d,i < n→Q i { s with drawn:=d }):wpAny M A (choose src n) Q E s:=
 fun _ _ _=>⟨hn,h _ _ (F9 _ (Nat.pos_of_ne_zero hn))⟩
theorem aAW{α:Type}{M:Dw}{A:AB}{E:Ab→Ad→Prop}:∀(n:Nat) (xs:List α) (s:Ad) (Q:List α→Ad→Prop),xs.length=n→(∀ ys d,ys.Perm xs→Q ys { s with drawn:=d })→wpAny M A (drawOrder n xs) Q E s:=by
 intro n
 induction n with
 | zero=>
  intro xs s Q G h;obtain rfl:xs=[]:=BG G;exact Ag (h [] s.drawn (Em _))
 | succ n O=>
  intro xs s Q G h;cases xs with
  | nil=>simp at G
  | cons x r=>
   unfold drawOrder;refine Aa (aGe (by simp) fun i d hi=>?_);obtain⟨y,hy⟩:∃ y,(x :: r)[i]?=some y:=⟨_,Ai hi⟩
   rw[hy];dsimp only;refine Aa (O _ _ _ (by rw[DS hi];simp at G ⊢;exact G) fun ys U J=>Ag (h _ _ ((J.cons y).trans (kO _ i y hy))))
theorem dA:Slot "set_iterator" "__next__" "set_iterator.__next__":=
 .of (owner:="set_iterator") (n:="__next__") (by rw[typeLookup_type,builtinLookup_eq_fast];kernel_rfl) (by decide) (by decide) (by decide) (by first | exact .inl (by decide) | exact .inr (by decide)) (by rw[isSubtype_type];kernel_rfl)
theorem oA:Slot "set_iterator" "__iter__" "set_iterator.__iter__":=
 .of (owner:="set_iterator") (n:="__iter__") (by rw[typeLookup_type,builtinLookup_eq_fast];kernel_rfl) (by decide) (by decide) (by decide) (by first | exact .inl (by decide) | exact .inr (by decide)) (by rw[isSubtype_type];kernel_rfl)
theorem gM:entryFor table "set_iterator.__next__"=some Builtin.«set_iterator.__next__»:=entryFor_of_tree (by kernel_rfl)
theorem uP:entryFor table "set_iterator.__iter__"=some Builtin.«dict_keyiterator.__iter__»:=entryFor_alias (id':="dict_keyiterator.__iter__") (by kernel_rfl) rfl (by decide) (by kernel_rfl)
theorem qH:entryFor table "set.__iter__"=some Builtin.«frozenset.__iter__»:=entryFor_alias (id':="frozenset.__iter__") (by kernel_rfl) rfl (by decide) (by kernel_rfl)
theorem y0:Manifest.owners.lookup (String.ofList ("set_iterator".toList.reverse).reverse)=some Manifest.sig_set_iterator:=by kernel_rfl
theorem gX(a:Ab):argsOk "set_iterator.__next__" ⟨[a],[]⟩:=by
 unfold argsOk;rw[signature?_of (id:="set_iterator.__next__") (n:="__next__".toList.reverse) (o:="set_iterator".toList.reverse) (by kernel_rfl) y0]
 kernel_rfl
theorem wM(a:Ab):argsOk "set_iterator.__iter__" ⟨[a],[]⟩:=by
 unfold argsOk;rw[signature?_of (id:="set_iterator.__iter__") (n:="__iter__".toList.reverse) (o:="set_iterator".toList.reverse) (by kernel_rfl) y0]
 kernel_rfl
def iC(first:Ab)(i:Nat)(S:Af)(n ep:Nat):Obj:={ cls:=.type "set_iterator",dict:=none,data:=.fields #[first,.int i 0,.ref S,.int n 0,.int ep 0],slots:=#[] }
section
variable{prog:Al}{w:AH}{A:AB}{E:Ab→Ad→Prop}{s:Ad}{I S T:Af}{i m ep:Nat}{o ot:Obj}{es:Array (Int×Ab)}{t:Cu}{bE:Array Ab}{x:Ab}
theorem sQ{M:Dw}{B:AB}{E':Ab→Ad→Prop}{Q:Fin→Ad→Prop}{s:Ad}(G:B.handled=none)(h:∀(e:Ab) (h':A1),(∀ b u,s.heap.get? b=some u→h'.get? b=some u)→D3 { s with heap:=h' } e "StopIteration"→E' e { s with heap:=h' }):
  wpAny M B (newExc (.type "StopIteration") [] >>= fun e=>raiseNew e) Q E' s:=by
 refine Aa ?_;simp only[newExc,newTuple];apply Aa;refine BB ?_ (by size_fits);apply Aa (m:=firstArgMember _ _);refine CC (a:=B0) (by first | rfl | (simp only[firstArgMember];rfl)) ?_;refine BB (h:=?_) (by size_fits);simp only[raiseNew];refine Aa (wpAny_handled ?_);rw[G];refine Aa (Ag (wpAny_throw (h (.ref _) _ (fun b u e=>Ah _ (Ah _ e)) ⟨_,AA _ rfl,rfl⟩)))
theorem aCZ(J:s.heap.get? I=some (iC (.ref T) i S es.size ep))(U:s.heap.get? S=some o)(hd:o.data=.set es ep t)(W:t.fits es.size=true)(hT:s.heap.get? T=some ot)(O:ot.data=.seq bE m){p:Nat}{tk:Tok}{Y:Int}(Z:bE[i]?=some (.int p tk))(hx:es[p]?=some (Y,x)){Q:Option Ab→Ad→Prop}
  (hQ:∀ h',h'.get? I=some (iC (.ref T) (i + 1) S es.size ep)→Dl I s.heap h'→Q (some x) { s with heap:=h' }):wpAny (model prog w) A (pyNext (.ref I)) Q E s:=by
 have G:s.TypeIs (.ref I) "set_iterator":=⟨_,J,rfl⟩
 unfold pyNext;apply Aa;apply Da;refine B4 (name:=A4 "__next__") G dA (BX dA G gM ?_ (gX _));unfold Builtin.«set_iterator.__next__»;refine Aa (Ag ?_);refine Aa (EY J rfl ?_);dsimp only;refine Aa (C4 U hd W ?_);rw[Ia (show¬ ((((es.size:Nat):Int) != ((es.size:Nat):Int))=true) by simp)];refine Aa (wpAny_seqItems hT O ?_);dsimp only;rw[show((i:Nat):Int).toNat=i from BA i,Z];dsimp only;unfold setNextDrawn;refine Aa (Aa (CQ U hd W ?_));dsimp only;rw[Ia (show¬ ((ep != ((ep:Nat):Int).toNat)=true) by simp)];rw[show((p:Nat):Int).toNat=p from BA p,hx];refine Ag ?_;refine Aa (Cc J rfl (by simp[iC]) (Ag ⟨x,rfl,Ag (hQ _ ?_ (BL ..))⟩));rw[Bi _ J (B8 (Bu rfl _))];rfl
theorem aEi(Y:A.handled=none)(J:s.heap.get? I=some (iC (.ref T) i S es.size ep))(hS:s.heap.get? S=some o)(hd:o.data=.set es ep t)(hf:t.fits es.size=true)(hT:s.heap.get? T=some ot)(U:ot.data=.seq bE m)(Z:bE[i]?=none){Q:Option Ab→Ad→Prop}
  (hQ:∀ h',(∀ b u,b≠I→s.heap.get? b=some u→h'.get? b=some u)→Q none { s with heap:=h' }):wpAny (model prog w) A (pyNext (.ref I)) Q E s:=by
 have G:s.TypeIs (.ref I) "set_iterator":=⟨_,J,rfl⟩
 unfold pyNext;apply Aa;apply Da;refine B4 (name:=A4 "__next__") G dA (BX dA G gM ?_ (gX _));unfold Builtin.«set_iterator.__next__»;refine Aa (Ag ?_);refine Aa (EY J rfl ?_);dsimp only;refine Aa (C4 hS hd hf ?_);rw[Ia (show¬ ((((es.size:Nat):Int) != ((es.size:Nat):Int))=true) by simp)];refine Aa (wpAny_seqItems hT U ?_);dsimp only;rw[show((i:Nat):Int).toNat=i from BA i,Z];dsimp only;refine Aa (Cc J rfl (by simp[iC]) ?_);have O:=Bi (Eh (·.setIfInBounds 0 (rawInt 0))) J (B8 (Bu rfl _))
 refine Aa (Cc O (Bu rfl _) (by simp[iC]) ?_);refine sQ (show A.in1.handled=none from Y) fun e h' k W=>?_;refine Aa (BW (T:="StopIteration") (b:=true) W isSubtype_stop ?_);refine Ag (hQ h' fun b u nb hb=>k b u ?_);exact(BL _ I _).extBut b u nb ((BL _ I _).extBut b u nb hb)
theorem aC0{G nx:Nat}(U:s.heap.get? I=some (iC (rawInt G) i S es.size ep))(Z:s.heap.get? S=some o)(hd:o.data=.set es ep t)(hf:t.fits es.size=true)
  (hN:∀(B:AB) (E':Ab→Ad→Prop) (W:Option (Ab×Nat)→Ad→Prop),W (some (x,nx)) s→wpAny (model prog w) B (setNext S G i ep) W E' s) {Q:Option Ab→Ad→Prop}
  (Y:∀ h',h'.get? I=some (iC (rawInt nx) (i + 1) S es.size ep)→Dl I s.heap h'→Q (some x) { s with heap:=h' }):wpAny (model prog w) A (pyNext (.ref I)) Q E s:=by
 have J:s.TypeIs (.ref I) "set_iterator":=⟨_,U,rfl⟩
 unfold pyNext;apply Aa;apply Da;refine B4 (name:=A4 "__next__") J dA (BX dA J gM ?_ (gX _));unfold Builtin.«set_iterator.__next__»;refine Aa (Ag ?_);refine Aa (EY U rfl ?_);dsimp only;refine Aa (C4 Z hd hf ?_);rw[Ia (show¬ ((((es.size:Nat):Int) != ((es.size:Nat):Int))=true) by simp)];dsimp only[rawInt];refine Aa ?_;rw[show((i:Nat):Int).toNat=i from BA i,show((G:Nat):Int).toNat=G from BA G,show((ep:Nat):Int).toNat=ep from BA ep];refine hN _ _ _ ?_;dsimp only;refine Aa (Cc U rfl (by simp[iC]) ?_);have O:=Bi (Eh (·.setIfInBounds 0 (rawInt nx))) U (B8 (Bu rfl _))
 refine Aa (Cc O (Bu rfl _) (by simp[iC]) (Ag ⟨x,rfl,Ag (Y _ ?_ ((BL ..).trans (BL ..)))⟩));exact(Bi _ O (B8 (Bu (Bu rfl _) _))).trans rfl
theorem aEj{G:Nat}(Y:A.handled=none)(O:s.heap.get? I=some (iC (rawInt G) i S es.size ep))(hS:s.heap.get? S=some o)(hd:o.data=.set es ep t)(hf:t.fits es.size=true)
  (hN:∀(B:AB) (E':Ab→Ad→Prop) (U:Option (Ab×Nat)→Ad→Prop),U none s→wpAny (model prog w) B (setNext S G i ep) U E' s) {Q:Option Ab→Ad→Prop}
  (Z:∀ h',(∀ b u,b≠I→s.heap.get? b=some u→h'.get? b=some u)→Q none { s with heap:=h' }):wpAny (model prog w) A (pyNext (.ref I)) Q E s:=by
 have J:s.TypeIs (.ref I) "set_iterator":=⟨_,O,rfl⟩
 unfold pyNext;apply Aa;apply Da;refine B4 (name:=A4 "__next__") J dA (BX dA J gM ?_ (gX _));unfold Builtin.«set_iterator.__next__»;refine Aa (Ag ?_);refine Aa (EY O rfl ?_);dsimp only;refine Aa (C4 hS hd hf ?_);rw[Ia (show¬ ((((es.size:Nat):Int) != ((es.size:Nat):Int))=true) by simp)];dsimp only[rawInt];refine Aa ?_;rw[show((i:Nat):Int).toNat=i from BA i,show((G:Nat):Int).toNat=G from BA G,show((ep:Nat):Int).toNat=ep from BA ep];refine hN _ _ _ ?_;dsimp only;refine Aa (Cc O rfl (by simp[iC]) ?_);refine sQ (show A.in1.handled=none from Y) fun e h' k W=>?_;refine Aa (BW (T:="StopIteration") (b:=true) W isSubtype_stop ?_);refine Ag (Z h' fun b u nb hb=>k b u ?_);exact(BL _ I _).extBut b u nb hb
theorem aBQ{first:Ab}(J:s.heap.get? I=some (iC first i S es.size ep)){Q:Ab→Ad→Prop}(h:Q (.ref I) s):wpAny (model prog w) A (pyIter (.ref I)) Q E s:=by
 have G:s.TypeIs (.ref I) "set_iterator":=⟨_,J,rfl⟩
 refine wpAny_pyIter_slot G oA (BX oA G uP ?_ (wM _));exact Ag ⟨_,rfl,"set_iterator",_,G,dA.lookup,h⟩
end
theorem vI{α:Type}(next:Nat→Nat):∀(G k:Nat) (left:List α) (out:Array α),left.length=G→(pickOrder.go next G k left out).toList.Perm (out.toList ++ left)
 | 0,k,[],out,_=>by
  unfold pickOrder.go;rw[Ce]
 | G + 1,k,x :: r,out,J=>by
  unfold pickOrder.go;have hi:next k % (x :: r).length < (x :: r).length:=F9 _ (by simp)
  obtain⟨y,hy⟩:∃ y,(x :: r)[next k % (x :: r).length]?=some y:=⟨_,Ai hi⟩
  rw[hy];dsimp only;refine(vI next G (k + 1) _ _ (by rw[DS hi];simp at J ⊢;exact J)).trans ?_;rw[Array.toList_push,CH];exact List.Perm.append_left _ (kO _ _ y hy)
theorem sR{α:Type}(next:Nat→Nat)(xs:Array α):(pickOrder next xs).toList.Perm xs.toList:=by
 unfold pickOrder;have h:=vI next xs.size 0 xs.toList #[] (by simp)
 simpa using h
section
variable{prog:Al}{w:AH}{A:AB}{I S T:Af}{m ep:Nat}{o ot:Obj}{es:Array (Int×Ab)}{t:Cu}{bE:Array Ab}
theorem aH1(hh:A.handled=none)(hS:S≠I)(hT:T≠I)(hd:o.data=.set es ep t)(W:t.fits es.size=true)(J:ot.data=.seq bE m)(hp:∀ i,i < bE.size→∃(p:Nat) (tk:Tok) (z:Int×Ab),bE[i]?=some (.int p tk)∧es[p]?=some z):
  Walks prog w A I [I,S,T] [I] bE.size (fun i v=>∃(p:Nat) (tk:Tok) (z:Int),bE[i]?=some (.int p tk)∧es[p]?=some (z,v)) (fun i h=>h.get? I=some (iC (.ref T) i S es.size ep)∧h.get? S=some o∧h.get? T=some ot) where
 sub:=fun b Y=>by simp at Y;simp[Y]
 frame:=fun _ _ _ st U=>⟨U I (by simp) _ st.1,U S (by simp) _ st.2.1,U T (by simp) _ st.2.2⟩
 item:=fun i s Q E hi st G=>by
  obtain⟨p,tk,⟨z,v⟩,h1,h2⟩:=hp i hi;refine aCZ st.1 st.2.1 hd W st.2.2 J h1 h2 fun h' Z O=>?_;exact G v h' s.toks ⟨p,tk,z,h1,h2⟩ ⟨Z,O.extBut S _ hS st.2.1,O.extBut T _ hT st.2.2⟩ fun b u nb e=>O.extBut b u (by simpa using nb) e
 done:=fun s Q E st G=>aEi hh st.1 st.2.1 hd W st.2.2 J (by simp) fun h' k=>G h' s.toks fun b u nb e=>k b u (by simpa using nb) e
 self:=fun i s Q E st G=>aBQ st.1 G
theorem aH2(hh:A.handled=none)(hS:S≠I)(hd:o.data=.set es ep t)(W:t.fits es.size=true)(O:Nat→Nat)(ord:List Ab)
  (hN:∀(i:Nat) (s:Ad),s.heap.get? S=some o→i≤ord.length→∀(B:AB) (E':Ab→Ad→Prop) (G:Option (Ab×Nat)→Ad→Prop),G ((ord[i]?).map fun v=>(v,O (i + 1))) s→wpAny (model prog w) B (setNext S (O i) i ep) G E' s):
  Walks prog w A I [I,S] [I] ord.length (fun i v=>ord[i]?=some v) (fun i h=>h.get? I=some (iC (rawInt (O i)) i S es.size ep)∧h.get? S=some o) where
 sub:=fun b Y=>by simp at Y;simp[Y]
 frame:=fun _ _ _ st Z=>⟨Z I (by simp) _ st.1,Z S (by simp) _ st.2⟩
 item:=fun i s Q E hi st J=>by
  obtain⟨v,hv⟩:∃ v,ord[i]?=some v:=⟨_,Ai hi⟩
  refine aC0 (x:=v) (nx:=O (i + 1)) st.1 st.2 hd W (fun B E' G q=>hN i s st.2 (Et hi) B E' G (by rw[hv];exact q)) fun h' hI U=>?_;exact J v h' s.toks hv ⟨hI,U.extBut S _ hS st.2⟩ fun b u nb e=>U.extBut b u (by simpa using nb) e
 done:=fun s Q E st J=>aEj hh st.1 st.2 hd W (fun B E' G q=>hN _ s st.2 (An _) B E' G (by rw[Bh (An _)];exact q)) fun h' k=>J h' s.toks fun b u nb e=>k b u (by simpa using nb) e
 self:=fun i s Q E st J=>aBQ st.1 J
structure aJX(prog:Al)(w:AH)(A:AB)(S:Af)(el:List Ab)(s s2:Ad)(I:Af):Prop where
 w:∃(fp:List Af) (P:Nat→Ab→Prop) (St:Nat→A1→Prop),Walks prog w A I fp [I] el.length P St∧St 0 s2.heap∧I∈fp∧(∀ b∈fp,b < s2.heap.objs.size∧(b=S∨s.heap.objs.size≤b))∧∀ acc,ItemsOf P acc el.length→acc.toList.Perm el
 keep:∀ b u,s.heap.get? b=some u→s2.heap.get? b=some u
 new:s.heap.objs.size≤I
 gens:s2.gens=s.gens
 os:s2.os=s.os
 toks:s2.toks=s.toks
theorem aEk{ord:List Ab}{G:Array Ab}(h:ItemsOf (fun i v=>ord[i]?=some v) G ord.length):G.toList=ord:=by
 obtain⟨hl,h⟩:=h;apply Di;intro j;by_cases J:j < G.size
 ·have:=h j G[j] (by simp[J]);rw[this];simp[J]
 ·rw[Bh (by simpa using J),Bh (by omega)]
end
section
variable{prog:Al}{w:AH}{A:AB}{S:Af}{ep:Nat}{o:Obj}{es:Array (Int×Ab)}{t:Cu}
theorem y4{ys:List Nat}{n:Nat}(O:ys.Perm (AJ n))(hn:n=es.size):∀ i,i < (ys.map fun(i:Nat)=>rawInt i).toArray.size→∃(p:Nat) (tk:Tok) (z:Int×Ab),(ys.map fun(i:Nat)=>rawInt i).toArray[i]?=some (.int p tk)∧es[p]?=some z:=by
 intro i hi;have G:i < ys.length:=by simpa using hi
 have hm:ys[i]∈AJ n:=O.mem_iff.mp (BR G);have J:ys[i] < es.size:=by rw[← hn];exact CM.mp hm
 exact⟨ys[i],0,es[ys[i]],by simp[G,rawInt],by simp[J]⟩
theorem wN{ys:List Nat}{n:Nat}(Y:ys.Perm (AJ n))(hn:n=es.size){G:Array Ab}(h:ItemsOf (fun i v=>∃(p:Nat) (tk:Tok) (z:Int),(ys.map fun(i:Nat)=>rawInt i).toArray[i]?=some (.int p tk)∧es[p]?=some (z,v)) G ys.length):G.toList.Perm (es.toList.map (·.2)):=by
 have e:G.toList=ys.map fun p=>(es.toList.getD p (0,.none)).2:=by
  apply Di;intro j;by_cases O:j < ys.length
  ·have J:j < G.size:=by rw[h.1];exact O
   obtain⟨p,tk,z,h1,h2⟩:=h.2 j G[j] (by simp[J]);simp[O,rawInt]at h1;obtain⟨h1,_⟩:=h1;have W:ys[j]=p:=by exact_mod_cast h1
   rw[AW,Ai O,W];have U:es.toList[p]?=some (z,G[j]):=by simpa using h2
   simp[List.getD,h2,U,J]
  ·rw[Bh (by have:=h.1;simp;omega),Bh (by simpa using O)]
 rw[e];refine(Y.map _).trans (List.Perm.of_eq ?_);apply Di;intro j;rw[AW,AW];by_cases O:j < n
 ·rw[DK O];have J:j < es.size:=by omega
  simp[List.getD,J]
 ·rw[Bh (by simpa using O),Bh (by simp;omega)];rfl
theorem aEl(hh:A.handled=none)(ai:o.cls=.type "set")(hd:o.data=.set es ep t)(O:t.fits es.size=true)(hb:es.size < scanBound)(ac:sO w es t){E:Ab→Ad→Prop}{s:Ad}{R:Ab→Ad→Prop}(hS:s.heap.get? S=some o)
  (h:∀(I:Af) (s2:Ad),aJX prog w A S (es.toList.map (·.2)) s s2 I→R (.ref I) s2):wpAny (model prog w) A (pyIter (.ref S)) R E s:=by
 have an:s.TypeIs (.ref S) "set":=⟨_,hS,ai⟩
 have Y:=Au hS;refine wpAny_pyIter_slot an F.slot_set_iter (BX F.slot_set_iter an qH ?_ (F.args_set_iter_1 _));unfold Builtin.«frozenset.__iter__» Builtin.Frozenset.slot0 Builtin.Frozenset.sizeOf;refine Aa (Aa (Ag (Ag ?_)));refine Aa (Aa (C4 hS hd O (Ag ?_)));refine Aa ?_;unfold setDrawn setsByText;refine Aa (CQ hS hd O (Aa (Aa (CY (Ag (Ag ?_))))));have ay:(es.toList.map (·.2)).length=es.size:=by simp
 have Z:(∀(i:Nat) (s:Ad),s.heap.get? S=some o→i≤es.size→True)→∀(sl:Nat→Nat) (ord:List Ab),sl 0=0→ord.Perm (es.toList.map (·.2))→
   (∀(i:Nat) (s:Ad),s.heap.get? S=some o→i≤ord.length→∀(B:AB) (E':Ab→Ad→Prop) (Q':Option (Ab×Nat)→Ad→Prop),Q' ((ord[i]?).map fun v=>(v,sl (i + 1))) s→wpAny (model prog w) B (setNext S (sl i) i ep) Q' E' s)→
   wpAny (model prog w) A.in1 (do ret (← newFields "set_iterator" [rawInt 0,rawInt 0,.ref S,rawInt es.size,rawInt (← setEpoch S)])) (fun Z s'=>∃ v,Z=.done (.ret v)∧∃ T' r,s'.TypeIs v T'∧typeLookup (.type T') "__next__"=pure (some r)∧R v s') E s:=by
  intro _ sl ord h0 G hN;refine Aa (wpAny_setEpoch_of hS hd O ?_);refine Aa (BB (Ag ⟨_,rfl,"set_iterator",_,⟨_,AA _ rfl,rfl⟩,dA.lookup,h _ _ ?_⟩));have am:ord.length=(es.toList.map (·.2)).length:=G.length_eq
  refine⟨⟨[s.heap.objs.size,S],_,_,am ▸ aH2 hh (AQ Y) hd O sl ord hN,⟨by rw[h0];exact AA _ rfl,Ah _ hS⟩,by simp,?_,fun av ha=>?_⟩,fun b u e=>Ah _ e,An _,rfl,rfl,rfl⟩
  ·intro b hb;rw[B6];simp at hb;rcases hb with rfl | rfl
   ·exact⟨Cp _,.inr (An _)⟩
   ·exact⟨Bz Y,.inl rfl⟩
  ·rw[← am]at ha;rw[aEk ha];exact G
 dsimp only;cases aa:(model prog w).w.params.followText "set-order" with
 | true=>
  rw[Ia (by simp)];refine Aa (Ag ?_);refine Z (fun _ _ _ _=>trivial) (fun _=>0) ((pickOrder ((model prog w).w.params.setOrder S ep) es).toList.map (·.2)) rfl ((sR _ es).map _) fun i s1 J hi B E' Q' q=>?_
  unfold setNext setsByText setWalk setsByText;refine Aa (CQ J hd O ?_);refine Aa (Aa (CY (Ag ?_)));dsimp only;rw[aa,Ib rfl];rw[Ia (show¬ ((ep != ep)=true) by simp)];refine Aa (Aa (CQ J hd O ?_));refine Aa (Aa (CY (Ag ?_)));dsimp only;rw[aa,Ib rfl];refine Aa (CY (Ag (Ag ?_)));simpa[Function.comp_def]using q
 | false=>
  by_cases h1:es.size > 1
  ·have W:t.plain=false:=ac.2.resolve_left (by omega);refine Eb (Ic (show((!false) && (!t.plain && decide (es.size > 1)))=true by rw[W];simp[h1])) ?_;refine Aa (aAW es.size (AJ es.size) s _ (by simp) fun ys d G=>?_);have aj:ys.length=es.size:=by rw[G.length_eq];simp
   refine Aa (wpAny_newTuple ?_ (by rw[Ac,aj];exact Eo hb));have J:(s.heap.push { cls:=.type "tuple",data:=.seq (ys.map fun(i:Nat)=>rawInt i).toArray }).get? S=some o:=Ah _ hS;refine Aa (wpAny_setEpoch_of J hd O ?_);refine Aa (BB (Ag ⟨_,rfl,"set_iterator",_,⟨_,AA _ rfl,rfl⟩,dA.lookup,h _ _ ?_⟩));have U:(s.heap.push { cls:=.type "tuple",data:=.seq (ys.map fun(i:Nat)=>rawInt i).toArray }).objs.size=s.heap.objs.size + 1:=B6 _ _;have ao:(ys.map fun(i:Nat)=>rawInt i).toArray.size=(es.toList.map (·.2)).length:=by simp[aj]
   have hw:=aH1 (prog:=prog) (w:=w) (A:=A) (I:=(s.heap.push { cls:=.type "tuple",data:=.seq (ys.map fun(i:Nat)=>rawInt i).toArray }).objs.size) (S:=S) (T:=s.heap.objs.size) (o:=o) (ot:={ cls:=.type "tuple",data:=.seq (ys.map fun(i:Nat)=>rawInt i).toArray }) hh (by rw[U];exact AQ (Bz Y)) (by rw[U];exact AQ (Cp _)) hd O rfl (y4 G rfl);rw[ao]at hw;refine⟨⟨_,_,_,hw,⟨AA _ rfl,Ah _ J,Ah _ (AA _ rfl)⟩,by simp,?_,fun av ha=>?_⟩,fun b u e=>Ah _ (Ah _ e),by dsimp only;rw[U];exact Cs _,rfl,rfl,rfl⟩
   ·intro b hb;have h3:b=s.heap.objs.size + 1∨b=S∨b=s.heap.objs.size:=by
     rw[U]at hb;simpa using hb
    dsimp only;rw[B6,U];rcases h3 with rfl | rfl | rfl
    ·exact⟨Cp _,.inr (Cs _)⟩
    ·exact⟨Bz (Bz Y),.inl rfl⟩
    ·exact⟨Bz (Cp _),.inr (An _)⟩
   ·rw[← ao,Ao,Ac]at ha;exact wN G rfl ha
  ·refine AO (decide_eq_false (show¬ (((!false) && (!t.plain && decide (es.size > 1)))=true) by simp[h1])) ?_;refine Aa (Ag ?_);have aw:(!t.plain && decide (es.size > 1))=false:=by simp[h1]
   have ah:t.led=true:=by
    have z:=ac.1;rw[show w.params.followText "set-order"=false from aa]at z;exact z
   have aq:t.place.size=es.size:=by
    unfold SetTable.fits at O;simp at O;exact O.1
   refine Z (fun _ _ _ _=>trivial) (fun i=>if i=0 then 0 else t.place.getD 0 0 + 1) (es.toList.map (·.2)) rfl (Em _) fun i s1 J hi B E' Q' q=>?_
   unfold setNext setsByText;refine Aa (CQ J hd O ?_);refine Aa (Aa (CY (Ag ?_)));dsimp only;rw[aa,Ia (by simp)];refine AO (decide_eq_false (show¬ ((!t.plain && decide (es.size > 1))=true) by rw[aw];simp)) ?_;refine Aa (AO (decide_eq_false (show¬ ((!t.led && !es.isEmpty)=true) by rw[ah];simp)) (Ag (Ag ?_)));have ad:es.size=0∨es.size=1:=by omega
   rcases ad with hz | hz
   ·have ae:es=#[]:=Array.eq_empty_of_size_eq_zero hz;have W:t.place=#[]:=Array.eq_empty_of_size_eq_zero (by omega);subst ae;have ax:i=0:=by simpa using hi
    subst ax;rw[W];simpa[C1,C1.go]using q
   ·obtain⟨e,ae⟩:=Array.size_eq_one_iff.mp hz;obtain⟨j,W⟩:=Array.size_eq_one_iff.mp (aq.trans hz);subst ae;have ar:i=0∨i=1:=by
     have:i≤1:=by simpa using hi
     omega
    rw[W]at q ⊢;rcases ar with rfl | rfl
    ·simpa[C1,C1.go]using q
    ·simpa[C1,C1.go]using q
end
section
variable{prog:Al}{w:AH}{A:AB}{S:Af}{ep:Nat}{o:Obj}{es:Array (Int×Ab)}{t:Cu}
theorem y7(hh:A.handled=none)(G:o.cls=.type "set")(hd:o.data=.set es ep t)(hf:t.fits es.size=true)(hb:es.size < scanBound)(ag:sO w es t){E:Ab→Ad→Prop}{s:Ad}{Q:List Ab→Ad→Prop}(hS:s.heap.get? S=some o)
  (h:∀(ah:List Ab) (h':A1) (d:F1) (tk:Nat),ah.Perm (es.toList.map (·.2))→(∀ b u,s.heap.get? b=some u→h'.get? b=some u)→s.heap.objs.size < h'.objs.size→Q ah { s with heap:=h',drawn:=d,toks:=tk }):wpAny (model prog w) A (collect (.ref S)) Q E s:=by
 have Z:=Au hS;unfold collect;apply Aa;apply FK;apply Ck F.entry_proto_collect;rw[CJ F.plain_proto_collect];show wpAny _ A.in1 (newList [] >>= fun l=>again (.builtin "list.__iadd__" ⟨[l,.ref S],[]⟩)) _ _ s;apply Aa;refine BB (Ag ⟨Fc F.plain_list_iadd _,Ck F.entry_list_iadd ?_⟩);rw[CJ F.plain_list_iadd];have O:(s.heap.push { cls:=.type "list",data:=.seq ([]:List Ab).toArray }).get? S=some o:=Ah _ hS;have au:(s.heap.push { cls:=.type "list",data:=.seq ([]:List Ab).toArray }).get? s.heap.objs.size=some { cls:=.type "list",data:=.seq ([]:List Ab).toArray }:=AA _ rfl;have e1:Builtin.List.listSameRef (.ref s.heap.objs.size) (.ref S)=false:=by
  show(s.heap.objs.size == S)=false;simpa using CT Z
 show wpAny _ A.in1 (Builtin.List.listExtendWith (.ref s.heap.objs.size) (.ref S) (.ref s.heap.objs.size)) _ _ _;unfold Builtin.List.listExtendWith;refine Aa (CF (T:="set") ⟨o,O,G⟩ ?_);rw[Ia (by rw[e1];decide)];refine Aa (aEl (A:=A.in1) hh G hd hf hb ag O fun I s2 it=>?_);have U:=it.keep S o O;have ac:=it.keep _ _ au;refine Aa (A7 ?_);unfold Builtin.List.listLengthHint;refine Aa (EG (T:="set") ⟨o,U,G⟩ F.slot_set_len.lookup ?_);generalize hid:("set.__len__":String)=ao
 wp_delta
 rw[show splitId ao=some ("set","__len__") from by subst hid;decide];subst hid;refine Aa (BW (b:=true) (T:="set") ⟨o,U,G⟩ sub_set_self ?_);refine AO (by rfl) ?_;refine Eb (by decide) ?_;refine Aa (CF (T:="set") ⟨o,U,G⟩ ?_);refine Ag ?_;refine Eb (by decide) ?_;refine Aa (wpAny_rule ?_);obtain⟨fp,P,St,W,st0,hI,hfp,hit⟩:=it.w;have Y:(s.heap.push { cls:=.type "list",data:=.seq ([]:List Ab).toArray }).objs.size=s.heap.objs.size + 1:=B6 _ _;have ai:s.heap.objs.size ∉ fp:=fun hm=>by
  rcases(hfp _ hm).2 with z | z
  ·exact absurd z (CT Z)
  ·dsimp only at z;rw[Y]at z;exact absurd z (Nat.not_succ_le_self _)
 apply Aa;show wpAny _ A.in1 (updateSeq s.heap.objs.size (·.push .none) >>= fun _=>updateSeq s.heap.objs.size (·.pop)) _ _ _
 apply Aa;refine wpAny_updateSeq ac rfl ?_;have ae:=Bi (C7 (·.push B0)) ac rfl
 refine wpAny_updateSeq ae rfl ?_;have aq:=Bi (C7 (·.pop)) ae rfl
 have aj:∀ b u,b≠s.heap.objs.size→s2.heap.get? b=some u→((s2.heap.update s.heap.objs.size (C7 (·.push B0))).update s.heap.objs.size (C7 (·.pop))).get? b=some u:=
  fun b u nb e=>(BP _ _ (CL nb)).trans ((BP _ _ (CL nb)).trans e)
 have ap:(es.toList.map (·.2)).length≤sizeLine:=by
  rw[Ac,AS];exact Eo hb
 refine Ag ⟨Fc F.plain_extend_loop _,codeAny_extend_loopS (F3 W) ap s.heap.objs.size ai _ _ 0 _ _ _ rfl (Bs _) (W.frame 0 _ _ st0 fun b hb u e=>aj b u (fun z=>ai (z ▸ hb)) e) aq (ItemsOf.nil P) fun s' J c' hm af ad=>?_⟩;show wpAny _ A (load s.heap.objs.size >>= _) _ _ s';apply Aa;refine wpAny_load af (Ag ?_);obtain⟨h',g',d',tk',os'⟩:=s';have g1:=hm.gens;have g2:=hm.os;dsimp only at g1 g2;have g3:=it.gens;have g4:=it.os;rw[g3]at g1;rw[g4]at g2;dsimp only at g1 g2;subst g1 g2;refine h J.toList h' d' tk' (hit J ad) (fun b u e=>?_) (Au af);have aa:=Au e;have nb:b≠s.heap.objs.size:=AQ aa;have nI:b≠I:=fun z=>by
  have z2:=it.new;dsimp only at z2;rw[Y,← z]at z2;exact absurd (Nat.lt_trans aa z2) (BN _)
 refine hm.heap b u (by simp[nb,nI]) (aj b u nb (it.keep b u (Ah _ e)))
end
theorem gY{α:Type}[DecidableEq α]:∀(L M:List α),L.Nodup→(∀ x∈L,x∈M)→M.length=L.length→M.Perm L
 | [],M,_,_,J=>by
  have:M=[]:=BG J;rw[this]
 | x :: r,M,hn,hm,J=>by
  obtain⟨hx,hr⟩:=Cy.mp hn;have G:=hm x (by simp);have U:=gY r (M.erase x) hr (fun y O=>(List.mem_erase_of_ne (show y≠x from fun z=>hx (by rw[← z];exact O))).mpr (hm y (by simp[O]))) (by rw[List.length_erase_of_mem G,J];simp);exact(List.perm_cons_erase G).trans (U.cons x)
section
variable{prog:Al}{w:AH}{A:AB}{S:Af}{E:Ab→Ad→Prop}{s:Ad}
theorem y8(hh:A.handled=none){f:Str→Bool}{n:Nat}(hS:iW prog w s.heap S f n){O:List Str}(af:O.Nodup)(aa:∀ k,f k=true↔k∈O)(hn:n=O.length)(am:n < 64){Q:Ab→Ad→Prop}
  (h:∀(l:Af) (h':A1) (d:F1) (tk e:Nat) (out:Array Ab) (W:List Str),s.heap.objs.size≤l→(∀ b u,s.heap.get? b=some u→h'.get? b=some u)→h'.get? l=some (seqObj "list" out e)→F4 out.toList W→W.Perm O→sortedS W=true→Q (.ref l) { s with heap:=h',drawn:=d,toks:=tk }):
  wpAny (model prog w) A (call (.builtin "sorted") [.ref S]) Q E s:=by
 obtain⟨o,es,ep,t,ho,hex,hd,hel,hm,hb,hf,hsz,hTab⟩:=hS;refine Calls.call_function_entry kind_sorted plain_sorted entry_sorted (args_sorted1 _) ?_;unfold Builtin.«sorted»;apply Aa (m:=checkCount "sorted" 1 1 _);apply Ag;refine Aa (y7 (A:=A.in1) hh hex.1 hd hf hb hTab ho fun G h1 d tk hp U ag=>?_);have ac:∀ v,v∈G→∃ x t,v=.str x t:=fun v hv=>by
  obtain⟨e,he,rfl⟩:=BO.mp (hp.mem_iff.mp hv);obtain⟨⟨k,U,_⟩,_⟩:=hel e he;obtain⟨t,ht⟩:=EC U;exact⟨k,t,ht⟩
 have hA:=strsAre_map G ac;have aj:G.length=n:=by rw[hp.length_eq,Ac,AS];exact hsz
 have hM:(G.map strOf).Perm O:=by
  refine((hp.map strOf)).trans (gY O _ af (fun x hx=>?_) (by rw[Ac,Ac,AS,hsz,hn]));obtain⟨e,he,U⟩:=(hm x).mp ((aa x).mpr hx);obtain⟨t,ht⟩:=EC U;exact BO.mpr ⟨e.2,BO.mpr ⟨e,he,rfl⟩,by rw[ht];rfl⟩
 have ae:G.length≤sizeLine:=by rw[DP];omega
 apply Aa;refine wpAny_newList ?_ ae;have J:(h1.push (seqObj "list" G.toArray 0)).get? h1.objs.size=some (seqObj "list" G.toArray 0):=AA _ rfl;refine Aa (A7 (BX slot_list_sort ⟨_,J,rfl⟩ entry_list_sort (list_sort_treeK strKind_oneLt J hA.keysOf (fun v₁ v₂ bF e=>keyKind_strs (by rw[← e];exact hA)) (by omega) fun ah a1 a2=>⟨_,rfl,?_⟩) (args_list_sort _)));obtain⟨W,b1,b2,b3⟩:=sorted_out_str hA a1 a2;refine Ag ⟨_,rfl,?_⟩;obtain⟨e,he⟩:=sortedHeap_at (vs:=G) (out:=(arrOf ah).map (·.2)) J
 have Y:s.heap.objs.size≤h1.objs.size:=Et ag;refine h _ _ d tk e _ W Y (fun b u eb=>?_) he b1 (b2.trans hM) b3;have Z:=Au (U b u eb);rw[sortedHeap_old (AQ Z) (by rw[B6];exact Bz Z)];exact Ah _ (U b u eb)
end
section
variable{X:Cx}{fe:List (Af×Obj)}{σ:St}{H H':Hp}{s:Ad}{h':A1}
theorem Inv.laidD{a:Af}{o:HO}{t':Nat}{d':F1}(I:Inv X fe σ H s)(k:∀ b u,s.heap.get? b=some u→h'.get? b=some u)(G:s.heap.objs.size≤a)(new:cX X.prog X.w (upd H a o) h' a o):
  Inv X fe σ (upd H a o) { s with heap:=h',drawn:=d',toks:=t' }:=by
 have u:Un (frs X.stack) [] H (upd H a o) s.heap h':=Un.laid k G (I.hok.fresh G);exact I.call (g':=s.gens) (d':=d') u (I.hok.laid k G new) I.bare (fun _ z=>nomatch z)
theorem sU(val:Nat→Str):∀ i,(gI val i).Nodup
 | 0=>List.nodup_nil
 | i + 1=>by
  show(i9 (gI val i) (val i)).Nodup;have G:=sU val i;unfold i9;split
  ·exact G
  ·next hne=>
   rw[Df];exact⟨G,by simp,fun x O y J e=>hne (by rw[← (show y=val i from by simpa using J),← e];exact O)⟩
def qI(ss:List Str):List Str:=gI (fun i=>ss.getD i "") ss.length
theorem y9(G:List Str)(k:Str):k∈qI G↔k∈G:=by
 unfold qI;rw[sG];constructor
 ·rintro⟨j,hj,e⟩;rw[← e,List.getD_eq_getElem?_getD,Ai hj];exact BR hj
 ·intro J;obtain⟨j,hj,e⟩:=List.mem_iff_getElem.mp J;exact⟨j,hj,by rw[List.getD_eq_getElem?_getD,Ai hj];exact e⟩
theorem mU(G:List Str):(qI G).Nodup:=sU _ _
def aC1(P:Al)(w:AH)(a:Af)(ss:List Str):HO:=.ext fun h=>iW P w h a (fun k=>(qI ss).any fun x=>x == k) (qI ss).length
theorem zC{J:List Str}{its:List Ab}(U:cF (J.map V.str) its){i:Nat}{v:Ab}(W:its.toArray[i]?=some v):∃ t,v=BZ (J.getD i "") t:=by
 have G:=U.length;rw[Ac]at G;have O:its[i]?=some v:=by simpa using W
 have hi:i < J.length:=by
  rw[G];exact(AZ.mp O).1
 have e:(J.map V.str)[i]?=some (V.str (J.getD i "")):=by
  rw[AW,Ai hi];simp[hi]
 obtain⟨u,hu,ru⟩:=U.get e;rw[O]at hu;cases hu;exact ru
theorem vJ(hc:X.calm=true):fT X (.type "set") (fun xs H Q=>∃(p:Af) (O:List Str),xs=[.ref p]∧(H p=some (.lst (O.map V.str))∨H p=some (.tup (O.map V.str)))∧O.length≤1000∧∀ a,H a=none→Q (.ref a) (upd H a (aC1 X.prog X.w a O))):=by
 intro fe s σ H xs us Q I r h;obtain⟨p,O,rfl,U,h1000,q⟩:=h;obtain⟨u,rfl,ru⟩:=gC r;cases ru;have W:∀(J:List Ab),J.length=O.length→∀(h':A1) (tk:Nat),iW X.prog X.w h' s.heap.objs.size (fun k'=>(gI (fun i=>O.getD i "") J.toArray.size).any fun x=>x == k') (gI (fun i=>O.getD i "") J.toArray.size).length→
   (∀(b:Nat) (o:Obj),b < s.heap.objs.size→s.heap.get? b=some o→h'.get? b=some o)→EP X fe σ Q (AK s.heap.objs.size) { s with heap:=h',toks:=tk }:=by
  intro J hl h' tk hS hk;have Y:J.toArray.size=O.length:=by rw[Ao,hl]
  rw[Y]at hS;have Z:∀ b u,s.heap.get? b=some u→h'.get? b=some u:=fun b u e=>hk b u (Au e) e;have hn:H s.heap.objs.size=none:=I.hok.fresh (An _);refine⟨.ref s.heap.objs.size,_,I.laid (t':=tk) (o:=aC1 X.prog X.w s.heap.objs.size O) Z (An _) ⟨hS,?_,fun h1 h2 f g=>?_⟩,rfl,q _ hn⟩
  ·obtain⟨o,_,_,_,e,_⟩:=hS;exact⟨o,e⟩
  ·exact f.at g
 rcases U with U | U
 ·obtain⟨J,rv,pl,_⟩:=I.list (aQ U);have G:=rv.length;rw[Ac]at G;exact yY (val:=fun i=>O.getD i "") (I.ok.hd hc) pl.isList (fun i v hv=>zC rv hv) (by rw[Ao,← G];show _ < 4096;omega) (W J G.symm)
 ·obtain⟨J,rv,pl,_⟩:=I.tuple (aS U);have G:=rv.length;rw[Ac]at G;exact yZ (val:=fun i=>O.getD i "") (I.ok.hd hc) pl (fun i v hv=>zC rv hv) (by rw[Ao,← G];show _ < 4096;omega) (W J G.symm)
theorem oB(hc:X.calm=true):fT X (.builtin "sorted") (fun xs H Q=>∃(p:Af) (G:List Str),xs=[.ref p]∧H p=some (aC1 X.prog X.w p G)∧G.length < 64∧∀(l:Af) (J:List Str),H l=none→J.Perm (qI G)→sortedS J=true→Q (.ref l) (upd H l (.lst (J.map V.str)))):=by
 intro fe s σ H xs us Q I r h;obtain⟨p,G,rfl,hx,h64,q⟩:=h;obtain⟨u,rfl,ru⟩:=gC r;cases ru;obtain⟨hS,_,_⟩:cX X.prog X.w H s.heap p (aC1 X.prog X.w p G):=I.hok p _ hx;have Z:(qI G).length≤G.length:=qN (fun i=>G.getD i "") G.length;refine y8 (I.ok.hd hc) hS (mU G) (fun k=>by rw[nZ];simp) rfl (by omega) fun l h' d tk e out J U hk Y ha O hs=>?_;have hv:cF (J.map V.str) out.toList:=jP ha;have W:=O.length_eq;exact⟨.ref l,_,I.laidD (t':=tk) (d':=d) (o:=.lst (J.map V.str)) hk U ⟨aF (by rw[Ac];omega),out.toList,e,hv,by rw[Y] <;> rfl⟩,rfl,q l J (I.hok.fresh U) O hs⟩
theorem oC:∀(p:Str) (l:List Str),risingS p l=true→(∀ x∈l,¬ x.cps.toList < p.cps.toList)∧l.Pairwise fun a b=>¬ b.cps.toList < a.cps.toList
 | p,[],_=>⟨fun x G=>by simp at G,Eu⟩
 | p,x :: r,h=>by
  have h':(!ltCps x.cps.toList p.cps.toList && risingS x r)=true:=h;rw[Ay,ltCps_eq]at h';have G:¬ x.cps.toList < p.cps.toList:=by simpa using h'.1
  obtain⟨i1,i2⟩:=oC x r h'.2;refine⟨fun y J=>?_,DR.mpr ⟨i1,i2⟩⟩;rcases Ap.mp J with rfl | J
  ·exact G
  ·intro z;have h1:=i1 y J;exact G (List.lt_of_le_of_lt (DC.mp h1) z)
theorem oE:∀(l:List Str),sortedS l=true→l.Pairwise fun a b=>¬ b.cps.toList < a.cps.toList
 | [],_=>Eu
 | x :: r,h=>DR.mpr (oC x r h)
theorem dX{a b:Str}(h:a.cps.toList=b.cps.toList):a=b:=by
 cases a;cases b;congr;exact CP.mp h
theorem p0:∀{l m:List Str},l.Perm m→(l.Pairwise fun a b=>¬ b.cps.toList < a.cps.toList)→(m.Pairwise fun a b=>¬ b.cps.toList < a.cps.toList)→l=m
 | [],m,h,_,_=>(List.Perm.eq_nil h.symm).symm
 | x :: r,[],h,_,_=>by simpa using h.length_eq
 | x :: r,y :: q,h,h1,h2=>by
  obtain⟨a1,a2⟩:=DR.mp h1;obtain⟨b1,b2⟩:=DR.mp h2;have e:x=y:=by
   rcases Ap.mp (h.mem_iff.mp (AV (a:=x) (l:=r)))with e | hx
   ·exact e
   ·rcases Ap.mp (h.mem_iff.mpr (AV (a:=y) (l:=q)))with e | hy
    ·exact e.symm
    ·exact dX (Fe (DC.mp (a1 y hy)) (DC.mp (b1 x hx)))
  subst e;rw[p0 ((List.perm_cons x).mp h) a2 b2]
end
def aJY{α:Type}(o:Nat→Nat→Bool):KasT α→α
 | .ret a=>a
 | .ask i j k=>aJY o (k (o i j))
abbrev P3:=Str×Str×Int
inductive aBR(h:A1)(v:Ab)(x:P3):Prop
 | mk (t:_) (u1:_) (u2:_) (u3:_) (q0:v=.ref t) (q1:Fq h t #[.str x.1 u1,.str x.2.1 u2,.int x.2.2 u3]):aBR h v x
def aKb(h:A1)(v:Ab)(x:P3):Prop:=aBR h v x
section
variable{prog:Al}{w:AH}{A:AB}{E:Ab→Ad→Prop}{s:Ad}
end
section
variable{prog:Al}{w:AH}{A:AB}{E:Ab→Ad→Prop}{s:Ad}
end
section
variable{prog:Al}{w:AH}{A:AB}{E:Ab→Ad→Prop}{s:Ad}
end
section
variable{X:Cx}
end
def aEm(R:List P3):Prop:=R.Pairwise fun a b=>a.1.cps.toList < b.1.cps.toList
section
variable{n:Nat}{π:Nat→Nat}
abbrev Kp(π:Nat→Nat)(p:Array Nat)(j:Nat):Nat:=π (p.getD j 0)
abbrev ord(π:Nat→Nat):Nat→Nat→Bool:=fun i j=>decide (π i < π j)
variable(hn:0 < n)(hπ:∀ i j,i < n→j < n→π i=π j→i=j)
include hn hπ
def KF(π:Nat→Nat)(p:Array Nat)(k:Nat):Prop:=∀ j,1≤j→j < k→Kp π p j < Kp π p (j - 1)
omit hn hπ in
omit hn hπ in
end
abbrev K3:=Int×Int×Str
abbrev k0:K3:=(0,0,"")
section
variable{prog:Al}{w:AH}{A:AB}{E:Ab→Ad→Prop}{s:Ad}
end
section
variable{prog:Al}{w:AH}{A:AB}{E:Ab→Ad→Prop}{s:Ad}
end
section
variable{X:Cx}{fe:List (Af×Obj)}{σ:St}
inductive aBS(H:Hp)(v:Ab)(k:K3):Prop
 | mk (t:_) (q0:v=.ref t) (q1:H t=some (.tup [.int k.1,.int k.2.1,.str k.2.2])):aBS H v k
def aJe(H:Hp)(v:Ab)(k:K3):Prop:=aBS H v k
structure KsX(KR:V→K3→Prop)(H:Hp)(xd:List V)(ks:List Ab)(kk:List K3):Prop where
 len:ks.length=xd.length∧kk.length=xd.length
 key:∀ i,i < xd.length→aJe H (ks.getD i .none) (kk.getD i k0)
 kr:∀ i,i < xd.length→KR (xd.getD i .non) (kk.getD i k0)
end
section
variable{X:Cx}{fe:List (Af×Obj)}{σ:St}{H:Hp}{s:Ad}
end
section
variable{X:Cx}{fe:List (Af×Obj)}{σ:St}{H:Hp}{s:Ad}{a:Af}{fg:List (Key×V)}{k:Key}{u r:Ab}{A:AB}{E:Ab→Ad→Prop}
end
section
variable{X:Cx}{o e f:A5}{fq fh:Pos}{td ty tx:TE}
end
section
variable{X:Cx}{o:A5}{fq fh:Pos}{td:TE}
end
section
variable{prog:Al}{w:AH}{A:AB}{v d:Af}{vs:List (Key×Ab)}
end
section
variable{X:Cx}{e:A5}{ta:TA}
end
inductive Fm:V→Str→Prop
 | str (z:Str) (h:z.length≤sizeLine):Fm (.str z) z
 | int (i:Int) (h:i.natAbs.log2 < 1920):Fm (.int i) (toString i)
abbrev TJ:=Str→St→Hp→VK→Prop
structure PJ(X:Cx)(es:List A5)(t:TJ):Prop where
 run:∀(fe:List (Af×Obj)) (s:Ad) (σ:St) (H:Hp) (Q:VK) (acc:Str),Inv X fe σ H s→t acc σ H Q→wpAny (model X.prog X.w) X.A (joinParts acc (evalEach es X.env)) (EP X fe σ Q) X.xe s
inductive J0(acc:Str)(σ:St)(H:Hp)(Q:VK):Prop
 | mk (h:acc.length≤sizeLine) (q:Q (.str acc) H):J0 acc σ H Q
def tJ0:TJ:=fun acc σ H Q=>J0 acc σ H Q
inductive JC(z:Str)(t:TJ)(acc:Str)(σ:St)(H:Hp)(Q:VK):Prop
 | mk (h:(acc ++ z).length≤sizeLine) (q:t (acc ++ z) σ H Q):JC z t acc σ H Q
def tJC(z:Str)(t:TJ):TJ:=fun acc σ H Q=>JC z t acc σ H Q
inductive JF(t:TJ)(acc:Str)(σ:St)(x:V)(H:Hp)(Q:VK):Prop
 | mk (z:Str) (f:Fm x z) (h:(acc ++ z).length≤sizeLine) (q:t (acc ++ z) σ H Q):JF t acc σ x H Q
def tJF(te:TE)(t:TJ):TJ:=fun acc σ H Q=>te σ H fun x H1=>JF t acc σ x H1 Q
def tFs(t:TJ):TE:=fun σ H Q=>t Ek σ H Q
section
variable{X:Cx}{es:List A5}{t:TJ}{te:TE}
theorem aEn:PJ X [] tJ0:=by
 constructor;intro fe s σ H Q G I h;obtain⟨h,q⟩:=h;exact joinParts_nil ⟨.str G,H,I.tok _,⟨_,rfl⟩,q⟩ h
theorem aEo{z:Str}{k pos}(h:PJ X es t):PJ X (.Constant (.str z) k pos :: es) (tJC z t):=by
 constructor;intro fe s σ H Q G I J;obtain⟨hl,q⟩:=J;exact joinParts_cons (Calls.Constant_str ⟨hl,h.run fe _ σ H Q _ (I.tok _) q⟩)
theorem aEp{e:A5}{pos:Pos}(Y:PE X e te)(h:PJ X es t):PJ X (.FormattedValue e (-1) none pos :: es) (tJF te t):=by
 constructor;intro fe s σ H Q W I U;refine joinParts_cons (FormattedValue_plain (thn (Y fe s σ H _ I U) fun v s1 ⟨x,H1,G,J,O⟩=>?_));obtain⟨z,f,hl,q⟩:=O;cases f with
 | str z hz=>
  obtain⟨u,rfl⟩:=J;exact formatField_str (fun Z tk=>⟨hl,h.run fe _ σ H1 Q _ (G.tok _) q⟩) hz
 | int i hi=>
  obtain⟨u,rfl⟩:=J;exact formatField_int_small hi ⟨hl,h.run fe _ σ H1 Q _ (G.tok _) q⟩
theorem aBT{a b:A5}{pos:Pos}(h:PJ X (a :: b :: es) t):PE X (.JoinedStr (a :: b :: es) pos) (tFs t):=
 ⟨fun fe s σ H Q I G=>JoinedStr_many (h.run fe s σ H Q _ I G)⟩
end
open PySem PySem.Spec PyProof.Rows PySem.Builtin PySem.Builtin.Str
theorem aC2(l:List (E7×Tok)):cF ((l.map (·.1)).map V.str) (strValues l):=by
 induction l with
 | nil=>exact .nil
 | cons p l G=>exact .cons ⟨p.2,rfl⟩ G
inductive aBU(x:V)(xs:List V)(H:Hp)(Q:VK):Prop
 | mk (z y:E7) (h0:x=.str z) (h1:xs=[.str y]) (hy:(y.length == 0)=false) (hz:z.length + 2≤sizeLine) (q:∀ L,H L=none→Q (.ref L) (upd H L (.lst ((AD z y).map V.str)))):aBU x xs H Q
def aH3:V→List V→Hp→VK→Prop:=fun x xs H Q=>aBU x xs H Q
theorem oF{X:Cx}:MtR X "str.split" aH3:=by
 intro fe s σ H x xs v Z Q I W r h;obtain⟨z,y,rfl,rfl,hy,hz,q⟩:=h;obtain⟨t,rfl⟩:=W;obtain⟨u,rfl,ru⟩:=gC r;obtain⟨u',rfl⟩:=ru;have G:∀(l:List (E7×Tok)) (U:Nat),l.map (·.1)=AD z y→l.length≤sizeLine→EP X fe σ Q (.ref s.heap.objs.size) { s with heap:=s.heap.push { cls:=.type "list",data:=.seq (strValues l).toArray },toks:=U }:=fun l U e Y=>
  ⟨.ref _,_,I.lnew (ys:=(AD z y).map V.str) (by rw[← e];exact aC2 l) (by rw[← e,Ac,Ac];exact Y),rfl,q _ I.fresh⟩
 have hn:(partsBetween z (occurrences z y 0 z.length (z.length + 1)) y.length).length≤sizeLine:=by
  have e1:=StrLaws.occ_length_le z y 0 z.length (z.length + 1);rw[length_partsBetween];omega
 have J:(1:Nat)≤sizeLine:=by decide
 cases h1:(decide (z.length < y.length) || decide (strKind z < strKind y))
 ·cases O:(occurrences z y 0 z.length (z.length + 1)).isEmpty
  ·refine DG Fs (Ec _ _ _) Fi (Fb _ _) (meets_str_split_sep z y t u' h1 hy O (by omega) hn) ?_;show wants (EP X fe σ Q) X.xe _ { s with toks:=_,heap:=s.heap.push { cls:=.type "list",data:=.seq (strsFrom s.toks (partsBetween z (occurrences z y 0 z.length (z.length + 1)) y.length)).toArray } };rw[strsFrom_eq];refine G (numbered s.toks _) _ ((numbered_texts _ _).trans ((Ia (ne_true_of_eq_false h1)).trans (Ia (ne_true_of_eq_false O))).symm) ?_;have:=congrArg C8 (numbered_texts s.toks (partsBetween z (occurrences z y 0 z.length (z.length + 1)) y.length));rw[Ac]at this;rw[this];exact hn
  ·exact DG Fs (Ec _ _ _) Fi (Fb _ _) (meets_str_split_not_found z y t u' h1 hy O)
    (G [(z,t)] s.toks ((Ia (ne_true_of_eq_false h1)).trans (Ib O)).symm J)
 ·exact DG Fs (Ec _ _ _) Fi (Fb _ _) (meets_str_split_cannot_occur z y t u' h1)
   (G [(z,t)] s.toks (Ib h1).symm J)
theorem zD{c:Nat}{u v X Y:List Nat}(J:c ∉ u)(G:c ∉ v)(h:u ++ c :: X=v ++ c :: Y):u=v∧X=Y:=by
 induction u generalizing v with
 | nil=>
  cases v with
  | nil=>simp at h;exact⟨rfl,h⟩
  | cons b v=>simp at h;exact absurd (by simp[h.1]) G
 | cons a u O=>
  cases v with
  | nil=>simp at h;exact absurd (by simp[h.1]) J
  | cons b v=>
   simp at h J G;obtain⟨rfl,h⟩:=h;obtain⟨e,f⟩:=O J.2 G.2 h;exact⟨by rw[e],f⟩
theorem gZ(a b:Str):(a ++ b).cps.toList=a.cps.toList ++ b.cps.toList:=by
 show(a.cps ++ b.cps).toList=_;simp
theorem aEq{c:Nat}:∀(as bs:List Str),as≠[]→bs≠[]→(∀ a∈as,c ∉ a.cps.toList)→(∀ b∈bs,c ∉ b.cps.toList)→(CO ⟨#[c]⟩ as).cps.toList=(CO ⟨#[c]⟩ bs).cps.toList→as=bs:=by
 have one:∀(a b:Str) (q:Str) (r:List Str),(CO ⟨#[c]⟩ (b :: q :: r)).cps.toList=b.cps.toList ++ c :: (CO ⟨#[c]⟩ (q :: r)).cps.toList:=fun a b q r=>by
  show(b ++ (⟨#[c]⟩:Str) ++ CO ⟨#[c]⟩ (q :: r)).cps.toList=_;rw[gZ,gZ];simp
 intro as
 induction as with
 | nil=>intro bs h;exact absurd rfl h
 | cons a as U=>
  intro bs _ W O J e;cases bs with
  | nil=>exact absurd rfl W
  | cons b bs=>
   cases as with
   | nil=>
    cases bs with
    | nil=>
     have G:a.cps.toList=b.cps.toList:=e;have:a=b:=Str.ext' (CP.mp G);rw[this]
    | cons q r=>
     rw[one a]at e;have G:a.cps.toList=b.cps.toList ++ c :: (CO ⟨#[c]⟩ (q :: r)).cps.toList:=e;exact absurd (by rw[G];simp) (O a (by simp))
   | cons p as=>
    cases bs with
    | nil=>
     rw[one a]at e;have G:a.cps.toList ++ c :: (CO ⟨#[c]⟩ (p :: as)).cps.toList=b.cps.toList:=e;exact absurd (by rw[← G];simp) (J b (by simp))
    | cons q r=>
     rw[one a,one a]at e;obtain⟨e1,e2⟩:=zD (O a (by simp)) (J b (by simp)) e;have:a=b:=Str.ext' (CP.mp e1);rw[this,U (q :: r) (by simp) (by simp) (fun z hz=>O z (by simp at hz ⊢;exact .inr hz)) (fun z hz=>J z (by simp at hz ⊢;exact .inr hz)) e2]
theorem sV{c:Nat}{ws:List Str}(hn:ws≠[])(hw:∀ z∈ws,c ∉ z.cps.toList):AD (CO ⟨#[c]⟩ ws) ⟨#[c]⟩=ws:=by
 refine aEq (c:=c) _ _ ?_ hn (DH _ c) hw ?_
 ·intro z;have:=split_pos (CO ⟨#[c]⟩ ws) ⟨#[c]⟩;rw[z]at this;simp at this
 ·rw[ED]
open PySem PySem.Spec PyProof.Rows PySem.NumText
inductive aHj(xs:List V)(H:Hp)(Q:VK):Prop
 | mk (x:V) (z:Str) (h0:xs=[x]) (f:Fm x z) (q:Q (.str z) H):aHj xs H Q
def aH4:List V→Hp→VK→Prop:=fun xs H Q=>aHj xs H Q
theorem lK{X:Cx}:fT X (.type "str") aH4:=by
 intro fe s σ H xs G Q I r h;obtain⟨x,z,rfl,f,q⟩:=h;obtain⟨u,rfl,ru⟩:=gC r;cases f with
 | str z hz=>
  obtain⟨t,rfl⟩:=ru;exact P.str_of_str ⟨.str z,H,I,⟨_,rfl⟩,q⟩
 | int i hi=>
  obtain⟨t,rfl⟩:=ru;exact P.str_of_int hi ⟨.str _,H,I.tok _,⟨_,rfl⟩,q⟩
inductive aHk(xs:List V)(H:Hp)(Q:VK):Prop
 | mk (z:Str) (n:Int) (h0:xs=[.str z]) (hn:PySem.intText? z=some n) (hl:z.length≤640) (q:Q (.int n) H):aHk xs H Q
def aH5:List V→Hp→VK→Prop:=fun xs H Q=>aHk xs H Q
theorem vK{X:Cx}:fT X (.type "int") aH5:=by
 intro fe s σ H xs G Q I r h;obtain⟨z,n,rfl,hn,hl,q⟩:=h;obtain⟨u,rfl,ru⟩:=gC r;obtain⟨t,rfl⟩:=ru;exact PySem.W.KIN.call_text hn hl ⟨.int n,H,I.tok _,⟨_,rfl⟩,q⟩
theorem aAX{m k:Nat}(h:m < 10 ^ k)(U:0 < k):(By 10 m).length≤k:=by
 induction k generalizing m with
 | zero=>cases U
 | succ k O=>
  by_cases hm:m < 10
  ·rw[Nat.toDigits_of_lt_base hm];simp
  ·have G:m % 10 < 10:=F9 m (by decide);have t:By 10 (m / 10) ++ By 10 (m % 10)=By 10 (10 * (m / 10) + m % 10):=DJ (by decide) (by omega) G;rw[Nat.div_add_mod]at t;rw[← t,Av,Nat.toDigits_of_lt_base G];have J:0 < k:=by
    cases k with
    | zero=>simp at h;omega
    | succ k=>omega
   have:=O (m:=m / 10) (by rw[FQ]at h;omega) J;simp;exact this
theorem sW(m:Nat):∀ c∈(A4 (toString ((m:Nat):Int))).cps.toList,48≤c∧c≤57:=by
 intro c hc;rw[B2]at hc;obtain⟨ch,hch,e⟩:=BO.mp hc;have r:=digit_range (Nat.isDigit_of_mem_toDigits (by decide) (by decide) hch);rw[← e];exact r
theorem aBV{m k:Nat}(h:m < 10 ^ k)(G:0 < k):(A4 (toString ((m:Nat):Int))).length≤k:=by
 show(A4 (toString ((m:Nat):Int))).cps.size≤k;rw[← AS,B2,Ac];exact aAX h G
theorem aH6(m:Nat):(A4 (toString ((m:Nat):Int))).cps.toList≠[]:=by
 rw[B2];intro e;have h:=toDigits_len_ge 10 m;rw[EL.mp e]at h;exact absurd h (by decide)
theorem sX{m k:Nat}(h:m < 10 ^ k)(G:0 < k)(J:k≤640):PySem.intText? (A4 (toString ((m:Nat):Int)))=some (m:Int):=by
 have e:=intText_digits (sW m) (aH6 m) (AM (aBV h G) (AM J (by decide)));rw[B2,PySem.W.KIN.val_back]at e;exact e
section
variable{prog:Al}{w:AH}{K:Type}[DecidableEq K]{knd:HeapKind prog w K}{A:AB}{E:Ab→Ad→Prop}{s:Ad}
end
open PySem PySem.SetTable
inductive aEr(t:Cu):Probe→Nat→Prop
 | here {p:Probe} {n:Nat}:t.slot p.j=.empty→aEr t p n
 | step {p:Probe} {n:Nat}:aEr t (t.advance p) n→aEr t p (n + 1)
def aKc(t:Cu)(i perturb:Nat):Probe:={ j:=i,more:=runEnd t.mask i - i,i:=i,perturb:=perturb,dummy:=none }
def orb(m:Nat):Nat→Nat→Nat
 | 0,i=>i
 | k + 1,i=>orb m k ((i * 5 + 1) % m)
structure aJf(t:Cu)(n:Nat):Prop where
 size:t.place.size=n
 nod:t.dummies=#[]
 mask:(t.mask=7∧n≤4)∨(t.mask=31∧n≤18)
inductive aEs(owner:Array (Option Nat)):Nat→Nat→Nat→Prop
 | here {i p n:Nat}:(owner.getD i (some 0)).isNone=true→aEs owner i p (n + 1)
 | step {i p n:Nat}:aEs owner (SetTable.leap 31 i p).1 (SetTable.leap 31 i p).2 n→aEs owner i p (n + 1)
structure aKp(owner:Array (Option Nat))(k:Nat):Prop where
 size:owner.size=32
 perm:((AJ 32).filterMap fun j=>owner.getD j none).Perm (AJ k)
section
variable{prog:Al}{w:AH}{A:AB}{E:Ab→Ad→Prop}{s:Ad}
inductive aHl(prog:Al)(w:AH)(h:A1)(ks:List (List Str))(v:Ab):Prop
 | mk (b:_) (k:_) (q0:v=.ref b) (q1:IsTupleKey (strKind prog w) h k b) (q2:k∈ks):aHl prog w h ks v
def ElT(prog:Al)(w:AH)(h:A1)(ks:List (List Str))(v:Ab):Prop:=aHl prog w h ks v
end
section
variable{prog:Al}{w:AH}{A:AB}{E:Ab→Ad→Prop}{s:Ad}
structure aKq(prog:Al)(w:AH)(h:A1)(a:Af)(rs:List Af)(ks:List (List Str))(o:Obj)(es:Array (Int×Ab))(ep:Nat)(t:Cu):Prop where
 at_:h.get? a=some o
 ex:o.ExactSet
 data:o.data=.set es ep t
 perm:(es.toList.map (·.2)).Perm (rs.map AK)
 els:∀ e∈es.toList,ElT prog w h ks e.2
 tab:aJf t es.size
 led:sO w es t
end
abbrev P2:=Str×Str
inductive aBW(h:A1)(v:Ab)(x:P2):Prop
 | mk (t:_) (u1:_) (u2:_) (q0:v=.ref t) (q1:Fq h t #[.str x.1 u1,.str x.2 u2]):aBW h v x
def aKd(h:A1)(v:Ab)(x:P2):Prop:=aBW h v x
section
variable{prog:Al}{w:AH}{A:AB}{E:Ab→Ad→Prop}{s:Ad}
end
section
variable{prog:Al}{w:AH}{A:AB}{E:Ab→Ad→Prop}{s:Ad}
end
def aEt(H:Hp)(r:Af):P2:=match H r with
 | some (.tup [.str x,.str y])=>(x,y)
 | _=>("","")
def aKe(H:Hp)(rs:List Af):Prop:=∀ r∈rs,H r=some (.tup [.str (aEt H r).1,.str (aEt H r).2])
section
variable{P:Al}{w:AH}{H:Hp}{h:A1}{a:Af}
end
theorem aBX:∀{rs:List Af}{its:List Ab},cF (rs.map V.ref) its→its=rs.map AK
 | [],_,.nil=>rfl
 | r :: rs,_,.cons e q=>by
  rw[aBX q];cases e;rfl
section
variable{X:Cx}{fe:List (Af×Obj)}{σ:St}{H:Hp}{s:Ad}
end
section
variable{prog:Al}{w:AH}{A:AB}{E:Ab→Ad→Prop}{s:Ad}{d I:Af}{od:Obj}{es:Array DictEntry}{ep i:Nat}
end
section
variable{X:Cx}
end
theorem aC3(l:List Ab):slicePick l.toArray none none (some (-1))=l.reverse.toArray:=by
 rw[← aEe l];unfold slicePick;have e:sliceRange (sliceBounds none none (some (-1)) l.toArray.size).1 (sliceBounds none none (some (-1)) l.toArray.size).2.1 (sliceBounds none none (some (-1)) l.toArray.size).2.2=(AJ l.length).map fun(m:Nat)=>((l.length:Int) - 1 + (m:Int) * (-1)).toNat:=by
  have J:sliceBounds none none (some (-1)) l.toArray.size=((l.length:Int) - 1,-1,-1):=by
   unfold sliceBounds;simp
  rw[J];unfold sliceRange;have h1:¬ ((-1:Int) > 0):=by omega
  simp only[h1,if_false];have G:(if (l.length:Int) - 1 > -1 then((l.length:Int) - 1 - -1 - -1 - 1) / (- -1) else 0).toNat=l.length:=by
   rw[Int.neg_neg,FS];split <;> omega
  rw[G];exact EM fun m _=>by congr 1;omega
 rw[e,List.filterMap_map];rfl
section
variable{X:Cx}{e st:A5}{te ts:TE}{pos p2:Pos}
def aJg(K:Ae)(te ts:TE):TE:=fun σ H Q=>te σ H fun x H1=>ts σ H1 fun y H2=>∃ a xs,y=.int (-1)∧x=.ref a∧SqL K H2 a xs∧∀ p,H2 p=none→Q (.ref p) (upd H2 p (.lst xs.reverse))
theorem aGf(he:PE X e te)(Y:PE X st ts):PE X (.Subscript e (.Slice none none (some st) p2) pos) (aJg X.K te ts):=by
 constructor;intro fe s σ H Q I h;refine FO (thn (he fe s σ H _ I h) fun v s1 ⟨x,H1,U,r1,W⟩=>?_);refine wpAny_Slice ?_;rw[FX];refine Ag (Ag ?_);rw[evalPart_some];refine thn (Y fe s1 σ H1 _ U W) fun u G ⟨y,H2,I2,O,Z⟩=>?_;obtain⟨a,xs,rfl,rfl,hx,q⟩:=Z;obtain⟨t,rfl⟩:=O;cases r1;have J:Inv X fe σ H2 { G with heap:=G.heap.push { cls:=.type "slice",data:=.fields #[.none,.none,.int (-1) t] } }:=I2.kept (t':=G.toks) fun b ob q=>Ah _ q;obtain⟨its,r,ht,hz⟩:=J.list hx;have hl:=r.length;refine tail_any (ops:=[.ref a,.ref G.heap.objs.size]) ht.isList.typeIs slot_list_getitem.lookup ?_ (by with_unfolding_all rfl);refine wpAny_getItem_list_slice ht.isList (Heap.IsSliceOf.new ..) .none .none (.int (-1) t) (by decide) ?_ (by rw[Ao];omega);rw[aC3];refine⟨.ref _,_,J.laid (t':=G.toks) (o:=.lst xs.reverse) (fun b ob q=>Ah _ q) (An _) ?_,rfl,q _ (J.hok.fresh (An _))⟩;exact⟨by rw[Cn];exact hz,_,0,r.reverse,AA _ rfl⟩
end
structure Fly(P:Al)(w:AH)(outer:List Env)(H H':Hp)(s:Ad)(x:Af)(C:Ab)(s':Ad):Prop where
 os:s'.os=s.os
 bare:D8 s'.gens
 ex:∃(B:A1) (a0:Ab),E4 B outer x C a0 s'.heap∧HOk P w H' B∧(∀ b o,s.heap.get? b=some o→H b=none→b ∉ frs outer→B.get? b=some o)∧∀ b o,s.heap.get? b=some o→b ∉ frs outer→∃ o',B.get? b=some o'
 frf:∀ b∈frs outer,H b=none
 slot:∀ b o,s.heap.get? b=some o→H b=none→b∈frs outer→∃ sl,s'.heap.get? b=some { o with slots:=sl }
 free:∀ b o,s.heap.get? b=some o→H b=none→H' b=none
 tups:∀ b xs,H b=some (.tup xs)→H' b=some (.tup xs)
 frzs:∀ b o u,H b=some (.frz o u)→H' b=some (.frz o u)
 tbls:∀ b ps,H b=some (.tbl ps)→∃ more,H' b=some (.tbl (ps ++ more))
def CXr(P:Al)(w:AH):CXT:=fun outer H s E e s'=>∃(x:Af) (C:Ab) (H':Hp),e=.ref x∧Fly P w outer H H' s x C s'∧E C none H'
theorem Fly.un{P:Al}{w:AH}{outer:List Env}{H H':Hp}{s s':Ad}{x:Af}{C:Ab}(h:Fly P w outer H H' s x C s'):Un (frs outer) [] H H' s.heap s'.heap:=by
 obtain⟨B,a0,fl,hok,hk,ht⟩:=h.ex;refine⟨fun b o e n G _=>fl.1 b o (hk b o e n G),fun b o e n G _=>h.slot b o e n G,fun b o e n _=>h.free b o e n,fun b o e _=>?_,h.tups,h.frzs,h.tbls⟩;by_cases hm:b∈frs outer
 ·obtain⟨sl,e1⟩:=h.slot b o e (h.frf b hm) hm;exact⟨_,e1⟩
 ·obtain⟨o1,e1⟩:=ht b o e hm;exact⟨o1,fl.1 b o1 e1⟩
theorem Fly.hok{P:Al}{w:AH}{outer:List Env}{H H':Hp}{s s':Ad}{x:Af}{C:Ab}(h:Fly P w outer H H' s x C s'):HOk P w H' s'.heap:=by
 obtain⟨B,a0,fl,hok,hk,ht⟩:=h.ex;exact hok.kept fl.1
section
variable{P:Al}{w:AH}{K:Ae}{mg:Str→Option Ab}{base:A1}{N:List Str}{qual:Str}{scope:Cq}{f:Af}{cd:Ab}{A:AB}{outer:List Env}{s:Ad}{H:Hp}{E:XK}
theorem aEu{E':XK}(hE:∀ C dx H',E' C dx H'→E C dx H'):rE (CXr P w) (fU (CXr P w) P w K mg base N qual scope f cd A outer s H E) E':=by
 rintro fe σ H1 s1 e s2 I ⟨x,C,H2,rfl,F,U⟩;have W:s1.heap.FunFrames base (envOfC qual scope s.heap.objs.size f cd :: outer):=I.stack;have ag:∀ b∈frs (envOfC qual scope s.heap.objs.size f cd :: outer),H1 b=none:=I.stkFree;obtain⟨B,a0,fl,hokB,hkB,htB⟩:=F.ex;have fl:E4 B (envOfC qual scope s.heap.objs.size f cd :: outer) x C a0 s2.heap:=fl;show wpAny _ _ (leaving _ _) _ _ _;refine wpAny_leaves_onW (base:=B) (L:=s.heap.objs.size) I.ok.frames rfl fl fun Y y1 y2=>?_;have hL:∀ b,b∈frs (envOfC qual scope s.heap.objs.size f cd :: outer)→b=s.heap.objs.size∨b∈frs outer:=fun b hb=>by
  obtain⟨env,O,G⟩:=Bl.mp hb;rcases Ap.mp O with rfl | O
  ·exact .inl (BD.inj G).symm
  ·exact .inr (Bl.mpr ⟨env,O,G⟩)
 have up:∀ b,b∈frs outer→b∈frs (envOfC qual scope s.heap.objs.size f cd :: outer):=fun b G=>by
  obtain⟨env,O,G⟩:=Bl.mp G;exact Bl.mpr ⟨env,.tail _ O,G⟩
 have nox:∀ b:Af,b ∉ (fU (CXr P w) P w K mg base N qual scope f cd A outer s H E).ex:=fun b=>by simp[fU]
 have J:∀ b o,s1.heap.get? b=some o→H1 b=none→b∈frs (envOfC qual scope s.heap.objs.size f cd :: outer)→∃ Z,Y.get? b=some { o with slots:=Z }:=fun b o q n hm=>by
  obtain⟨Z,e1⟩:=F.slot b o q n hm;obtain⟨_,o2,e2,hd⟩:=W.mem hm;rw[q]at e2;cases e2;obtain⟨sl2,e3⟩:=y2 b _ e1 hd;exact⟨sl2,e3⟩
 refine⟨x,C,H2,rfl,⟨F.os.trans I.os,F.bare,⟨B,a0,y1,hokB,fun b o q n nf=>hkB b o (I.base.keep b o q n nf (nox b)) (I.base.free b o q n (nox b)) fun hm=>?_,fun b o q nf=>?_⟩,I.ok.frf,fun b o q n G=>?_,fun b o q n=>?_,fun b xs q=>F.tups b xs (I.base.tups b xs q),fun b o u q=>F.frzs b o u (I.base.frzs b o u q),fun b ps q=>?_⟩,hE _ _ _ U⟩
 ·rcases hL b hm with z | z
  ·rw[z]at q;exact absurd (Au q) (BN _)
  ·exact nf z
 ·obtain⟨o1,e1⟩:=I.base.there b o q (nox b);refine htB b o1 e1 fun hm=>?_;rcases hL b hm with z | z
  ·rw[z]at q;exact absurd (Au q) (BN _)
  ·exact nf z
 ·obtain⟨Z,e1⟩:=I.base.slot b o q n G (nox b);obtain⟨sl2,e2⟩:=J b _ e1 (I.base.free b o q n (nox b)) (up b G);exact⟨sl2,e2⟩
 ·obtain⟨o1,e1⟩:=I.base.there b o q (nox b);exact F.free b o1 e1 (I.base.free b o q n (nox b))
 ·obtain⟨m1,e1⟩:=I.base.tbls b ps q;obtain⟨m2,e2⟩:=F.tbls b _ e1;exact⟨m1 ++ m2,by rw[← Array.append_assoc];exact e2⟩
end
structure aKf(h:A1)(C:Af)(fw:List Ab)(newId:String)(tl:List Ab)(N':Af)(nm q:Str)(bs:List Ab)(hdct:Bool)(sn:List Str)(sub:List Ab)(ab:Bool)(col:Option Bool)(dd:Option Af)(k0 k1 k2 k3 k5:Option Ab)(mN:Str→Option Ab):Prop where
 ob:h.get? C=some (excClassObj nm q C N' bs tl hdct sn sub ab col dd k0 k1 k2 k3 k5 newId)
 ns:h.Ns N' mN
 ni:mN "__init__"=none
 tl:OwnTail h fw tl
section
variable{P:Al}{w:AH}{K:Ae}{mg:Str→Option Ab}{base:A1}{N:List Str}{qual:Str}{scope:Cq}{f:Af}{cd:Ab}{A:AB}{outer:List Env}{s:Ad}{H:Hp}{E:XK}
end
theorem Fly.lands{P:Al}{w:AH}{M:Dw}{A:AB}{env:Env}{outer:List Env}{L:Af}{base:A1}{H H':Hp}{s G:Ad}{x:Af}{C:Ab}{Q E:Ab→Ad→Prop}{R:Ad→Prop}(F:Fly P w (env :: outer) H H' s x C G)
  (W:s.heap.FunFrames base (env :: outer)) (U:A.frames=some (env :: outer)) (hf:env.frame=some L) (k:∀ O,Fly P w (env :: outer) H H' s x C { G with heap:=O }→R { G with heap:=O }):
  wpAny M A (noteFrame (.ref x) env) (fun _ s3=>wpAny M A (setFlight (.ref x) none) (fun _ s4=>R s4) E s3) E G:=by
 obtain⟨B,a0,fl,hokB,hkB,htB⟩:=F.ex;refine wpAny_looks_onW U hf fl fun h4 J u4=>?_;refine wpAny_landsW (s:={ G with heap:=h4 }) J fun O Y Z=>k O ?_;refine⟨F.os,F.bare,⟨B,a0,Y,hokB,hkB,htB⟩,F.frf,fun b o q n hm=>?_,F.free,F.tups,F.frzs,F.tbls⟩;obtain⟨sl,e1⟩:=F.slot b o q n hm;obtain⟨_,o2,e2,hd⟩:=W.mem hm;rw[q]at e2;cases e2;obtain⟨sl2,e3⟩:=(u4.trans Z) b _ e1 hd;exact⟨sl2,e3⟩
theorem Inv.caught{X:Cx}{fe:List (Af×Obj)}{σ:St}{H H':Hp}{s s':Ad}{x:Af}{C:Ab}(I:Inv X fe σ H s)(F:Fly X.prog X.w X.stack H H' s x C s'):Inv X fe σ H' s':=
 I.call' (ch:=[]) F.os F.un F.hok F.bare (fun b z=>absurd z (by simp))
theorem Fly.obj{P:Al}{w:AH}{outer:List Env}{H H':Hp}{s s':Ad}{x:Af}{C:Ab}(F:Fly P w outer H H' s x C s'):∃ ob vs,s'.heap.get? x=some ob∧ob.cls=C∧ob.data=.fields vs:=by
 obtain⟨B,a0,fl,_⟩:=F.ex;obtain⟨_,_,_,oe,vs,_,_,_,he,hc,hd,_⟩:=fl;exact⟨oe,vs,he,hc.1,hd⟩
section
variable{prog:Al}{w:AH}{A:AB}{E:Ab→Ad→Prop}{s:Ad}{κ:Ef}{it:Array Ei}
def pA(prog:Al)(w:AH)(A:AB)(s:Ad)(κ:Ef)(it:Array Ei):Prop:=
 ∀ x y,x∈it.toList→y∈it.toList→∀ C:Bool→Ad→Prop,(∀ b,C b s)→wpAny (model prog w) A (keyLt' κ x.1 y.1) C (fun _ _=>False) s
variable(hc:pA prog w A s κ it)
include hc
end
def Pl(a b out:Array Ei)(ia ib:Nat):Prop:=(out.toList ++ (a.toList.drop ia ++ b.toList.drop ib)).Perm (a.toList ++ b.toList)
section
variable{a b out:Array Ei}{ia ib k:Nat}
end
structure Sg(st st':SortSt):Prop where
 kind:kindOf st'=kindOf st
 arr:arrOf st'=arrOf st
 pend:pendingOf st'=pendingOf st
 fail:failedOf st'=failedOf st
structure GL(a b:Array Ei)(x:Nat)(out:Array Ei)(ia ib:Nat):Prop where
 pl:Pl a b out ia ib
 la:ia + 1 < a.size
 lb:ib < b.size
 on:x≤ia + ib
section
variable{prog:Al}{w:AH}{A:AB}{E:Ab→Ad→Prop}{s:Ad}{κ:Ef}{it:Array Ei}(hc:pA prog w A s κ it)
include hc
end
def Ph(a b out:Array Ei)(na nb:Nat):Prop:=(out.toList ++ (a.toList.take na ++ b.toList.take nb)).Perm (a.toList ++ b.toList)
section
variable{a b out:Array Ei}{na nb k:Nat}
end
structure GH(a b:Array Ei)(x:Nat)(out:Array Ei)(na nb:Nat):Prop where
 pl:Ph a b out na nb
 la:1≤na
 lb:2≤nb
 ua:na≤a.size
 ub:nb≤b.size
 on:x + na + nb≤a.size + b.size
section
variable{prog:Al}{w:AH}{A:AB}{E:Ab→Ad→Prop}{s:Ad}{κ:Ef}{it:Array Ei}(hc:pA prog w A s κ it)
include hc
end
structure Sm(st st':SortSt):Prop where
 kind:kindOf st'=kindOf st
 arr:(arrOf st').Perm (arrOf st)
 pend:pendingOf st'=pendingOf st
 fail:failedOf st'=failedOf st
structure GS(κ:Ef)(it:Array Ei)(st:SortSt):Prop where
 kind:kindOf st=κ
 perm:(arrOf st).Perm it
 fail:failedOf st=none
section
variable{prog:Al}{w:AH}{A:AB}{E:Ab→Ad→Prop}{s:Ad}{κ:Ef}{it:Array Ei}
variable(hc:pA prog w A s κ it)
include hc
end
def aJh:List (Nat×Nat×Nat)→Nat→Nat→Prop
 | [],a,b=>a=b
 | r :: l,a,b=>r.1=a∧1≤r.2.1∧aJh l (a + r.2.1) b
section
variable{prog:Al}{w:AH}{A:AB}{E:Ab→Ad→Prop}{s:Ad}{κ:Ef}{it:Array Ei}
variable(hc:pA prog w A s κ it)
include hc
end
section
variable{prog:Al}{w:AH}{A:AB}{E:Ab→Ad→Prop}{s:Ad}{κ:Ef}{it:Array Ei}
structure SR(κ:Ef)(it:Array Ei)(lo:Nat)(st:SortSt):Prop where
 gs:GS κ it st
 le:lo≤it.size
 sg:aJh (pendingOf st).toList 0 lo
variable(hc:pA prog w A s κ it)
include hc
end
def aEv(c:Af)(qual:Str):HO:=.ext fun h=>h.CodeRec (.ref c) qual
structure aKg(T:Af)(pos:Pos)(qual:Str)(H:Hp):Prop where
 ex:∃ ps,H T=some (.tbl ps)∧TriplesOk ps.toList∧(codeAmong pos ps.toList=none∨∃ c,codeAmong pos ps.toList=some (.ref c)∧H c=some (aEv c qual))
def aKh(T:Af)(H H':Hp):Prop:=∀ b o,b≠T→H b=some o→H' b=some o
section
variable{X:Cx}{fe:List (Af×Obj)}{σ:St}{H:Hp}{s:Ad}
end
structure aJi(ps fs:List Str)(sc:Cq):Prop where
 kind:sc.kind=.function
 co:sc.isCoroutine=false
 gen:sc.isGenerator=false
 nd:ps.Nodup
 par:∀ x∈ps,sc.names.lookup x=some .local
 fr:∀ x∈fs,sc.names.lookup x=some .free
 nocell:∀ y∈sc.names,y.2≠.cell
section
variable{X:Cx}{fe:List (Af×Obj)}{σ:St}{H:Hp}{s:Ad}
end
section
variable{prog:Al}{w:AH}{A:AB}{E:Ab→Ad→Prop}{s:Ad}
end
section
variable{X:Cx}{fe:List (Af×Obj)}{σ:St}
inductive aBY(H:Hp)(v:Ab):Prop
 | mk (t:_) (a:_) (b:_) (q0:v=.ref t) (q1:H t=some (.tup [.int a,.int b])):aBY H v
def aKi(H:Hp)(v:Ab):Prop:=aBY H v
end
section
variable{X:Cx}{fe:List (Af×Obj)}{σ:St}{H:Hp}{s:Ad}
end
section
variable{X:Cx}{e:A5}{ta:TA}
end
section
variable{X:Cx}
end
def aC4(lo st:Int)(n:Nat):It:=⟨fun i _=>i < n,fun i H x H'=>H'=H∧x=.int (lo + i * st),fun i _=>n≤i⟩
theorem zE{P:Al}{w:AH}{K:Ae}{tg:A5}(it:Af)(lo st:Int)(n:Nat):yB P w K tg (aC4 lo st n) [it] it (fun i h=>FE h it (lo + (i:Nat) * st) ((n:Int) - (i:Nat)) st) where
 mem:=by simp
 obj:=fun i h st b J=>by
  have e:b=it:=by simpa using J
  subst e;exact⟨_,st,fun v z=>by
   have z':Fj _=Data.cell v:=z;cases z'⟩
 keep:=fun i h h' st k=>k it (by simp) _ st
 item:=by
  intro X U hw Z hc i fe s σ H E I O G Y;subst U hw Z;obtain⟨f0,f1,f2,f3,f4,f5⟩:=O it (by simp);have W:=Walks.range (prog:=X.prog) (w:=X.w) (I.ok.hd hc) it lo st n;refine W.item i s _ _ Y G fun v h' tk hv G kk=>?_;obtain⟨t,rfl⟩:=hv;have I1:Inv X fe σ H { s with heap:=h',toks:=tk }:=I.turned (fun b o J e=>kk b o (by simpa using J) e) f0 f1 f3 f4 f5;exact⟨_,rfl,yC (s:={ s with heap:=h',toks:=tk }) (n:="range_iterator") G rfl rfl (by decide) ⟨.int (lo + i * st),H,I1,⟨t,rfl⟩,⟨rfl,rfl⟩,G,fun b J=>(O b J).1⟩⟩
 done:=by
  intro X U hw Z hc i fe s σ H E I O G Y;subst U hw Z;obtain⟨f0,f1,f2,f3,f4,f5⟩:=O it (by simp);exact wpAny_pyNext_range_end (I.ok.hd hc) G (by have:n≤i:=Y;omega) fun h' eb=>⟨rfl,I.turned (t':=s.toks) (fun b o J e=>eb b o J e) f0 f1 f3 f4 f5⟩
 self:=fun _ _ _ _ _ st h=>wpAny_pyIter_rangeiter st h
section
variable{X:Cx}{tg:A5}
def aJj(lo hi st:Int)(n:Nat)(ta:TA):TI:=fun σ H R=>ta σ H fun vs H1=>vs=[.int lo,.int hi,.int st]∧R (aC4 lo st n) H1
theorem vL{a b c:A5}{ta:TA}{p pos:Pos}{lo hi st:Int}{n:Nat}(W:st≠0)(O:Ej lo hi st=true)(hn:(n:Int)=B9 lo hi st)(Y:Dy (hi - lo) st=false)(hg:Gl X "range")(hm:X.mg "range"=none)(ha:PA X [a,b,c] ta)(hs:starEach [a,b,c] X.env=[(false,eval a X.env),(false,eval b X.env),(false,eval c X.env)]:=by rfl)(J:starEach [b,c] X.env=[(false,eval b X.env),(false,eval c X.env)]:=by rfl):
  PI X tg (.Call (.Name "range" p) [a,b,c] [] pos) (aJj lo hi st n ta):=by
 constructor;intro fe s σ H R I h;refine Call_ (mJ I hg hm boot_range (BU (thn (ha pos fe s σ H _ I h) fun us s1 ⟨vs,H1,I1,r1,q1⟩=>?_) (by rw[hs,J]) (by rw[J];rfl)));obtain⟨e,q⟩:=q1;subst e;cases r1 with
 | cons r G=>
  cases G with
  | cons r' G=>
   cases G with
   | cons U G=>
    cases G;obtain⟨t,rfl⟩:=r;obtain⟨t',rfl⟩:=r';obtain⟨t'',rfl⟩:=U;refine call_range_3 W ?_ (.inl Y);refine wpAny_pyIter_range (IsRange.new ..) O ?_;have Z:Inv X fe σ H1 { s1 with heap:=s1.heap.push { cls:=.type "range",data:=.fields #[.int lo t,.int hi t',.int st t''] },toks:=s1.toks }:=I1.kept fun b o e=>Ah _ e;refine⟨(s1.heap.push { cls:=.type "range",data:=.fields #[.int lo t,.int hi t',.int st t''] }).objs.size,[(s1.heap.push { cls:=.type "range",data:=.fields #[.int lo t,.int hi t',.int st t''] }).objs.size],_,_,H1,rfl,
     Z.kept (t':=s1.toks) fun b o e=>Ah _ e,zE _ lo st n,?_,fun b hb=>?_,q⟩
    ·have e1:lo + ((0:Nat):Int) * st=lo:=by simp
     have e2:((n:Nat):Int) - ((0:Nat):Int)=B9 lo hi st:=by rw[← hn];simp
     show FE _ _ (lo + ((0:Nat):Int) * st) (((n:Nat):Int) - ((0:Nat):Int)) st;rw[e1,e2];exact AA _ rfl
    ·have e:b=(s1.heap.push { cls:=.type "range",data:=.fields #[.int lo t,.int hi t',.int st t''] }).objs.size:=by simpa using hb
     subst e;exact Z.fpOk (An _) (Z.hok.fresh (An _))
theorem zF{lo st:Int}{n:Nat}{g:TG}{Y:TT}{te:TE}{W:St}{H₀:Hp}{Q:VK}(G:Nat→List V→St→Hp→Prop)(Z:G 0 [] W H₀)(hn:n≤sizeLine)(J:∀ i ys σ H,G i ys σ H→ys.length≤i)
  (hs:∀ i ys σ H,i < n→G i ys σ H→g (.int (lo + i * st)) σ H fun O H2=>Y O H2 fun b U=>if b=true then te O U fun v H4=>G (i + 1) (ys ++ [v]) O H4 else G (i + 1) ys O U)
  (hd:∀ ys σ H,G n ys σ H→∀ D,H D=none→Q (.ref D) (upd H D (.lst ys))):nQ (aC4 lo st n) g Y te W H₀ Q:=
 lG n G Z hn J (fun i _ _ _ h _=>h) (fun _ _ _ _=>An _) (fun i ys σ H v H' hi p y=>by
  obtain⟨e,rfl⟩:=y;subst e;exact hs i ys σ _ hi p) hd
end
section
variable{X:Cx}
inductive aAY(H:Hp):V→Prop
 | str (z:Str):aAY H (.str z)
 | non:aAY H .non
 | int (i:Int):aAY H (.int i)
 | bl (b:Bool):aAY H (.bl b)
 | lst {a:Af} {xs:List V} (e:H a=some (.lst xs)):aAY H (.ref a)
 | tup {a:Af} {xs:List V} (e:H a=some (.tup xs)):aAY H (.ref a)
inductive Thg(H:Hp):V→Option (List V)→Prop
 | lst {a:Af} {xs:List V} (e:H a=some (.lst xs)) (h:∀ v∈xs,aAY H v):Thg H (.ref a) (some xs)
 | tup {a:Af} {xs:List V} (e:H a=some (.tup xs)):Thg H (.ref a) none
 | dct {a:Af} {fg:List (Key×V)} (e:H a=some (.dK fg)):Thg H (.ref a) none
 | non:Thg H .non none
 | str (z:Str):Thg H (.str z) none
 | bl (b:Bool):Thg H (.bl b) none
end
section
variable{X:Cx}
inductive RpV(H:Hp):V→Str→Prop
 | non:RpV H .non "None"
 | bl (b:Bool):RpV H (.bl b) (if b then "True" else "False")
 | str (z:Str) (h:(reprText z).length≤sizeLine):RpV H (.str z) (reprText z)
 | ref {a:Af} {m:Bool} {d:Aj} (r:RdV m H (.ref a) d) (h1:d.showable=true) (h2:d.depth≤20) (h3:d.shown.length≤sizeLine):RpV H (.ref a) d.shown
end
def OkS:Nat→Aj→Prop
 | 0,d=>(∃ z,d=.str z)∨∃ i,d=.int i
 | n + 1,d=>(∃ z,d=.str z)∨(∃ i,d=.int i)∨∃ ds,d=.tuple ds∧∀ e∈ds,OkS n e
open Classical in
section
variable{X:Cx}{fe:List (Af×Obj)}{σ:St}{H:Hp}{s:Ad}
open Classical in
end
section
variable{X:Cx}
open Classical in
end
section
variable{X:Cx}
end
inductive aJk(X:Cx)(fe:List (Af×Obj))(σ:St)(E':XK)(x:Ab)(s':Ad):Prop
 | mk (H1:_) (s1:_) (q0:Inv X fe σ H1 s1) (q1:CXr X.prog X.w X.stack H1 s1 E' x s'):aJk X fe σ E' x s'
def XP(X:Cx)(fe:List (Af×Obj))(σ:St)(E':XK)(x:Ab)(s':Ad):Prop:=aJk X fe σ E' x s'
structure PX(X:Cx)(e:A5)(te:XK→TE):Prop where
 run:∀(E':XK) (fe:List (Af×Obj)) (s:Ad) (σ:St) (H:Hp) (Q:VK),Inv X fe σ H s→te E' σ H Q→wpAny (model X.prog X.w) X.A (eval e X.env) (EP X fe σ Q) (XP X fe σ E') s
structure PXs(X:Cx)(b:List Br)(tb:XK→TS):Prop where
 run:∀(E':XK) (fe:List (Af×Obj)) (s:Ad) (σ:St) (H:Hp) (D:kC),Inv X fe σ H s→tb E' D σ H→wpAny (model X.prog X.w) X.A (execs b X.env) (SP X fe D) (XP X fe σ E') s
section
variable{X:Cx}{k:Nat}{f:Af}{fd:Ax}{ps:List Str}{sp:Sp}{x:Str}{p pos:Pos}{e:A5}{es:List A5}{t:TA}{te:XK→TE}
end
abbrev Cx.hand(X:Cx)(v:Ab):Cx:={ X with A:=X.A.mark (some v),calm:=false,xe:=fun _ _=>False }
section
variable{X:Cx}{fe:List (Af×Obj)}{σ:St}{H:Hp}{s:Ad}{v:Ab}
theorem Inv.hand(I:Inv X fe σ H s)(v:Ab):Inv (X.hand v) fe σ H s:=
 have ok:=I.ok
 ⟨⟨ok.mod,ok.kind,ok.glob,ok.blt,ok.above,ok.inj,ok.has,ok.cab,(fun z=>by cases z),ok.frames,ok.stk,ok.exf,ok.bs,ok.bsz,ok.noex,ok.exfs,ok.funs,ok.frf⟩,I.os,I.bare,I.base,I.loc,I.cell,I.free,I.freeC,I.pin,I.hok,I.len⟩
theorem Inv.unhand(I:Inv (X.hand v) fe σ H s)(ok:X.Ok):Inv X fe σ H s:=⟨ok,I.os,I.bare,I.base,I.loc,I.cell,I.free,I.freeC,I.pin,I.hok,I.len⟩
theorem lM{M:Dw}{A:AB}{E:Ab→Ad→Prop}{i:Nat}{x:Str}{pos:Pos}{Q:Unit→Ad→Prop}(I:Inv X fe σ H s)(hN:X.N.Nodup)(hi:X.N[i]?=some x)(hk:X.env.scope.names.lookup x=some .local)
  (h:∀ s',Inv X fe (σ.set i none) H s'→Q () s'):wpAny M A (do bindName X.env x .none;unbindBehindTheSuite X.env x pos) Q E s:=by
 obtain⟨m,hn,hl⟩:=id I.loc;have U:(X.env.scope.kind == .class || (X.env.scope.kind == .module && X.env.locals != X.env.globals))=false:=by rw[I.ok.kind];rfl
 have aa:i < σ.length:=by rw[I.len];exact(AZ.mp hi).1
 have cne:=I.cne;refine wpAny_nameGoes_keeps hk hn U fun h' v Z G=>?_;obtain⟨oL,_,_,hoL,_⟩:=id hn;refine h _ ⟨I.ok,I.os,I.bare,⟨fun b o e n hb O=>?_,fun b o e n hb O=>?_,I.base.free,fun b o e O=>?_,I.base.tups,I.base.frzs,I.base.tbls⟩,⟨_,Z,fun j y v' J W e3=>?_⟩,fun y c e=>?_,I.free,I.freeC,fun p hp=>?_,fun b ob e=>?_,by simpa using I.len⟩
 ·exact(G.2 b (AQ (AR (Au e) I.ok.above))).trans (I.base.keep b o e n hb O)
 ·obtain⟨sl,J⟩:=I.base.slot b o e n hb O;exact⟨sl,(G.2 b (AQ (AR (Au e) I.ok.above))).trans J⟩
 ·obtain⟨o',J⟩:=I.base.there b o e O;exact⟨o',(G.2 b (AQ (AR (Au e) I.ok.above))).trans J⟩
 ·by_cases Y:j=i
  ·subst Y;rw[Er aa]at W;cases W
  ·rw[EA (CL Y)]at W;obtain⟨u',r',q⟩:=hl j y v' J W e3;refine⟨u',r',?_⟩;rcases q with⟨k,e⟩ | ⟨k,c,e,z⟩
   ·refine .inl ⟨k,?_⟩;have:y≠x:=fun e=>Y (rB hN J (e ▸ hi));simp[this,e]
   ·exact .inr ⟨k,c,e,z.sameBut G (cne y c e)⟩
 ·obtain⟨w',z⟩:=I.cell y c e;exact⟨w',z.sameBut G (cne y c e)⟩
 ·obtain⟨e,n,ne,nf,d⟩:=I.pin p hp;exact⟨(G.2 p.1 ne).trans e,n,ne,nf,d⟩
 ·refine(I.hok b ob e).stay (fun c w' hc q=>(G.2 c ?_).trans q) (fun _ q=>q) fun _ _ q=>q;rintro rfl;rcases hc with rfl | hc
  ·rw[I.free]at e;cases e
  ·rw[I.free]at hc;cases hc
end
def aKj(y:Af)(C:Ab):HO:=.ext fun h=>∃ ob vs,h.get? y=some ob∧ob.cls=C∧ob.data=.fields vs
theorem Fly.again{P:Al}{w:AH}{M:Dw}{A:AB}{env:Env}{outer:List Env}{base:A1}{H H':Hp}{s G:Ad}{x:Af}{C:Ab}{E:Ab→Ad→Prop}{R:Ad→Prop}(F:Fly P w (env :: outer) H H' s x C G)
  (O:s.heap.FunFrames base (env :: outer)) (k:∀ J,Fly P w (env :: outer) H H' s x C { G with heap:=J }→R { G with heap:=J }):
  wpAny M A (setFlight (.ref x) none) (fun _ Y=>R Y) E G:=by
 obtain⟨B,a0,fl,hokB,hkB,htB⟩:=F.ex;refine lands_againW fl fun J U W=>k J ?_;refine⟨F.os,F.bare,⟨B,a0,U,hokB,hkB,htB⟩,F.frf,fun b o q n hm=>?_,F.free,F.tups,F.frzs,F.tbls⟩;obtain⟨sl,e1⟩:=F.slot b o q n hm;obtain⟨_,o2,e2,hd⟩:=O.mem hm;rw[q]at e2;cases e2;obtain⟨sl2,e3⟩:=W b _ e1 hd;exact⟨sl2,e3⟩
theorem aAZ{P:Al}{w:AH}{H:Hp}{h:A1}{a:Af}{o:HO}(x:cX P w H h a o):∃ ob,h.get? a=some ob:=by
 cases o with
 | lst xs=>obtain⟨_,_,_,_,e⟩:=x;exact⟨_,e⟩
 | tup xs=>obtain⟨_,_,_,_,e,_⟩:=x;exact⟨_,e⟩
 | dK fg=>obtain⟨_,_,_,_,o,_,_,e,_⟩:=x;exact⟨_,e⟩
 | dT fg=>obtain⟨_,_,_,_,o,_,_,e,_⟩:=x;exact⟨_,e⟩
 | set S n=>obtain⟨o,_,_,_,e,_⟩:=x;exact⟨_,e⟩
 | ins C dx fs=>obtain⟨_,_,_,e,_⟩:=x;exact⟨_,e⟩
 | own y=>exact x
 | xd fs=>obtain⟨_,⟨_,_,_,e,_⟩,_⟩:=x;exact⟨_,e⟩
 | rng lo hi=>obtain⟨_,_,_,e⟩:=x;exact⟨_,e⟩
 | frz ob u=>exact⟨_,x.1⟩
 | tbl ps=>exact⟨_,x⟩
 | met f y=>exact⟨_,x⟩
 | ext φ=>exact x.2.1
def unE(ie:Nat)(D:kC):kC:={ nx:=fun σ H=>D.nx (σ.set ie none) H,rt:=D.rt,bk:=fun σ H=>D.bk (σ.set ie none) H,ct:=fun σ H=>D.ct (σ.set ie none) H }
open PySem PySem.Spec PyProof.Rows PySem.W Builtin Builtin.ObjectAttr PySem.Calls Builtin.Getset_descriptor
structure sY(K:Ae)(D:Af):Prop where
 ga:findIn K (.ref D) "__getattribute__"=some (some (.builtin "BaseException.__getattribute__"))
 gn:findIn K (.ref D) "__getattr__"=some none
 mb:mroIn K D (.type "BaseException")=some true
 hd:hasDictIn K D=true
 ha:findIn K (.ref D) "__class__"=some (some (.builtin "object.__class__"))
 hm:mroIn K D (.type "object")=some true
 hn:specialIn K (.builtin "object.__class__") "__get__"=some (some (.builtin "getset_descriptor.__get__"))
 ht:takesIn K (.builtin "object.__class__")=some true
def p5(y:Af)(C:Ab)(h:A1):Prop:=∃ ob vs,h.get? y=some ob∧ob.cls=C∧ob.data=.fields vs
theorem p5.ty{y:Af}{C:Ab}{h:A1}{M:Dw}(x:p5 y C h):Gd M h (typeOf (.ref y)) C:=by
 obtain⟨ob,vs,ho,hc,_⟩:=x;rw[← hc];unfold typeOf;exact(Looks.ld ho).andThen .now
theorem aEw{K:Ae}{M:Dw}{h:A1}{D y:Af}(k:sY K D)(X:K.In h):Gd M h (Builtin.ObjectAttr.find (.ref y) (.ref D) "__class__") (.bind (.builtin "getset_descriptor.__get__") (.builtin "object.__class__")):=by
 have a1:=D4 (M:=M) X k.ha;have a2:Gd M h (Builtin.ObjectAttr.getOf (some (.builtin "object.__class__"))) (some (.builtin "getset_descriptor.__get__")):=looks_specialIn X k.hn;have a3:=looks_takesIn (M:=M) X k.ht;exact a1.andThen (a2.andThen (Looks.andThen (a:=some (.builtin "getset_descriptor.__get__",.builtin "object.__class__")) (a3.andThen .now) (Looks.tag .now)))
theorem aGg{prog:Al}{w:AH}{A:AB}{s:Ad}{K:Ae}{D y:Af}{G:Ab}{R:F7→Ad→Prop}(k:sY K D)(X:K.In s.heap)(p:p5 y (.ref D) s.heap)(q:R (.ok (.ret (.ref D))) s):
  codeAny (model prog w) A (.call (.builtin "getset_descriptor.__get__") ⟨[.builtin "object.__class__",.ref y,G],[]⟩) R s:=by
 obtain⟨hp,g,d,t,os⟩:=s;have J:=p.ty (M:=model prog w);have O:=FC (M:=model prog w) X k.hm;refine Cm KF.slot_gs.plain KF.entry_gs (KF.slot_gs.check _ _ _ _ _ _ _ _ KF.type_class (KF.args_gs _ _ _) (?_));unfold Builtin.«getset_descriptor.__get__» descrGet;rw[dga_obj];refine Aa (Ag ?_);unfold descrGetter descrCheckInstance descrNameAndClass isInstance;simp only[KF.owner_class]
 repeat lk
 refine⟨C3 _ (by decide),Ck KF.entry_class (?_)⟩;unfold Builtin.«object.__class__» shownTypeOf
 repeat lk
 exact q
theorem aC5{prog:Al}{w:AH}{A:AB}{E:Ab→Ad→Prop}{G:A1}{g:Array EZ}{d:F1}{t:Nat}{os:OsState}{K:Ae}{D y:Af}{tk:Tok}{Q:Fin→Ad→Prop}(k:sY K D)(X:K.In G)(p:p5 y (.ref D) G)(q:Q (.done (.ret (.ref D))) ⟨G,g,d,t,os⟩):
  wpAny (model prog w) A (Builtin.«object.__getattribute__» ⟨[.ref y,.str "__class__" tk],[]⟩) Q E ⟨G,g,d,t,os⟩:=by
 have J:=p.ty (M:=model prog w);have O:=aEw (M:=model prog w) (y:=y) k X;unfold Builtin.«object.__getattribute__»;refine Aa (Ag (Aa (Ag (Aa (J.at (Aa (O.at ?_)))))));show wpAny _ _ (holding [.builtin "object.__class__"] (call (.builtin "getset_descriptor.__get__") [.builtin "object.__class__",.ref y,.ref D]) >>= ret) _ _ _;exact Aa (A7 (Cd (aGg (s:=⟨G,g,d,t,os⟩) k X p (Ag q))))
theorem vM{M:Dw}{A:AB}{E:Ab→Ad→Prop}{J:A1}{g:Array EZ}{d:F1}{t:Nat}{os:OsState}{K:Ae}{D y:Af}{G:Ab}{Q:Unit→Ad→Prop}(k:sY K D)(X:K.In J)(p:p5 y (.ref D) J)(q:Q () ⟨J,g,d,t,os⟩):
  wpAny M A (checkBuiltinCall "BaseException.__getattribute__" ⟨[.ref y,G],[]⟩) Q E ⟨J,g,d,t,os⟩:=by
 have Y:=p.ty (M:=M);have O:=FC (M:=M) X k.mb;have U:builtinKind "BaseException.__getattribute__"=some .slot:=by decide
 have W:splitId "BaseException.__getattribute__"=some ("BaseException","__getattribute__"):=by decide
 have Z:=F.args_bexc_ga (.ref y) G;simp only[checkBuiltinCall,U,W];refine Aa (Aa (Y.at (O.at ?_)))
 repeat wp_step
 exact q
theorem aC6{prog:Al}{w:AH}{A:AB}{E:Ab→Ad→Prop}{s:Ad}{K:Ae}{D y:Af}{Q:Option Ab→Ad→Prop}(k:sY K D)(X:K.In s.heap)(p:p5 y (.ref D) s.heap)(q:Q (some (.ref D)) { s with toks:=s.toks + 1 }):
  wpAny (model prog w) A (getAttr? (.ref y) "__class__") Q E s:=by
 obtain⟨hp,g,d,t,os⟩:=s;have O:=p.ty (M:=model prog w);have U:=D4 (M:=model prog w) X k.ga;have W:=D4 (M:=model prog w) X k.gn;have Y:=FC (M:=model prog w) X k.mb;have J:=DM.ga.bind (.ref y);unfold getAttr? getAttrBy? getAttrBy;refine Aa (wpAny_mkText (Aa (Da (A7 (Aa (O.at (Aa (U.at ?_))))))));show wpAny _ _ (if (onTheHeap (.ref D) && Cv "BaseException.__getattribute__" == Cv "object.__getattribute__")=true then _ else getAttrByItsOwn _ _ _ _ _ _) _ _ _;have G:(Cv "BaseException.__getattribute__" == Cv "object.__getattribute__")=false:=by decide
 rw[Ia (by rw[G,AI];exact AG)];unfold getAttrByItsOwn hookBefore;refine Aa ?_;show wpAny _ _ (typeLookup (.ref D) "__getattr__") _ _ _;refine W.at ?_;refine Aa (Da (A7 ?_));show wpAny _ _ (boundAndCalled _ _ _) _ _ _;unfold boundAndCalled;rw[J];refine Aa (Ag ?_);refine Cd (Cm DM.ga.plain F.entry_bexc_ga (vM k X p (aC5 k X p ?_)));exact Ag (Ag q)
theorem zG{K:Ae}{y D:Af}(k:sY K D):KitX K (.ref y) (.ref D) (p5 y (.ref D)):=by
 have hc:∃ o cd,K.lookup D=some o∧o.data=.cls cd:=by
  obtain⟨cdD,hcD,_⟩:=any_some k.hd;unfold clsIn at hcD;split at hcD
  ·rename_i Z d' J Y G;exact⟨_,J,G,rfl⟩
  ·cases hcD
 obtain⟨o,cd,G,hd⟩:=hc;refine⟨fun M h _ p=>p.ty,fun M h X _ A Q E s kp q=>?_,fun h U dd W n sl X O=>Bool.eq_false_iff.mpr fun q=>?_,fun X p q=>aC6 k X p q⟩
 ·have e:=kp _ _ (X _ _ G);obtain⟨oc,od,oda,osl⟩:=o;dsimp only at hd;subst hd;unfold isType loadHead;exact Aa (wpAny_loadPart e (Ag q))
 ·have e:D=U:=AK.inj (beq_iff_eq.mp q);subst e;have z:=(X _ _ G).symm.trans O;cases z;cases hd
section
variable{X:Cx}
end
section
variable{H H':Hp}{L:List (Af×Obj)}{b:Af}{o:Obj}
variable{P:Al}{w:AH}{h h':A1}{fs:List Af}
end
section
variable{P:Al}{w:AH}{K:Ae}{mg:Str→Option Ab}{base:A1}{N:List Str}{qual:Str}{scope:Cq}{f:Af}{cd:Ab}{A:AB}{outer:List Env}{s:Ad}{H:Hp}{E:XK}
structure aKk(cl:List (Str×Af))(L:List (Af×Obj))(fs:List Str)(zs:List V):Prop where
 pr:Fy (fun(x:Str) (v:V)=>∃ b o u,cl.lookup x=some b∧L.lookup b=some o∧o.data=.cell (some u)∧cR v u) fs zs
 all:∀ x b,cl.lookup x=some b→∃ o u,L.lookup b=some o∧o.data=.cell u
 inj:∀ x y b,cl.lookup x=some b→cl.lookup y=some b→x=y
end
section
variable{X:Cx}{k:Nat}{x:Str}{p pos:Pos}
end
inductive Thn(H:Hp):V→Prop
 | non:Thn H .non
 | bl (b:Bool):Thn H (.bl b)
 | int (i:Int):Thn H (.int i)
 | str (z:Str):Thn H (.str z)
 | lst {a:Af} {xs:List V} (e:H a=some (.lst xs)):Thn H (.ref a)
 | tup {a:Af} {xs:List V} (e:H a=some (.tup xs)):Thn H (.ref a)
 | dct {a:Af} {fg:List (Key×V)} (e:H a=some (.dK fg)):Thn H (.ref a)
section
variable{X:Cx}
end
section
variable{prog:Al}{w:AH}{A:AB}{E:Ab→Ad→Prop}{s:Ad}
end
section
variable{X:Cx}
end
section
variable{prog:Al}{w:AH}{A:AB}{E:Ab→Ad→Prop}{s:Ad}{T:String}{r d:Af}{n:Nat}{P:Nat→Ab→Prop}{OK:A1→Prop}
end
section
variable{X:Cx}
end
section
variable{prog:Al}{w:AH}{A:AB}{E:Ab→Ad→Prop}{s:Ad}
def aJZ(P:Al)(w:AH)(h:A1)(q:Af)(kv:Key×Ab):Prop:=∃ o key n,h.get? q=some o∧o.cls=.type "tuple"∧o.data=.seq #[key,kv.2] n∧(cY P w).is kv.1 key=true
end
section
variable{X:Cx}
end
open PySem.W in
section
variable{X:Cx}
end
section
variable{X:Cx}{fe:List (Af×Obj)}{σ:St}{H:Hp}{s:Ad}{d:Af}{fg:List (Key×V)}
end
section
variable{X:Cx}{tg:A5}
end
inductive aHm(h:A1)(v:Ab)(z:Str):Prop
 | mk (t:_) (u:_) (a:_) (b:_) (q0:v=.ref t) (q1:Fq h t #[.str z u,a,b]):aHm h v z
def NmT(h:A1)(v:Ab)(z:Str):Prop:=aHm h v z
section
variable{prog:Al}{w:AH}{A:AB}{E:Ab→Ad→Prop}{s:Ad}
end
section
variable{X:Cx}
end
section
variable{X:Cx}
end
mutual
def ltD:Aj→Aj→Bool
 | .str x,.str y=>decide (x.cps.toList < y.cps.toList)
 | .int i,.int j=>decide (i < j)
 | .tuple xs,.tuple ys=>ltL xs ys
 | _,_=>false
def ltL:List Aj→List Aj→Bool
 | [],[]=>false
 | [],_ :: _=>true
 | _ :: _,[]=>false
 | x :: xs,y :: ys=>if PyData.eqv x y=true then ltL xs ys else ltD x y
end
mutual
def okD:Aj→Aj→Bool
 | .str _,.str _=>true
 | .int _,.int _=>true
 | .tuple xs,.tuple ys=>okL xs ys
 | _,_=>false
def okL:List Aj→List Aj→Bool
 | x :: xs,y :: ys=>if PyData.eqv x y=true then okL xs ys else okD x y
 | _,_=>true
end
section
end
mutual
def plD:Aj→Bool
 | .str _=>true
 | .int _=>true
 | .tuple xs=>plL xs
 | _=>false
def plL:List Aj→Bool
 | []=>true
 | x :: xs=>plD x && plL xs
end
structure aKr(d:Aj):Prop where
 fm:∃ k xs,d=.tuple (.str k :: xs)
 pl:plD d=true
 ly:d.canLay0=true
 dp:d.depth≤6
inductive aHn(h:A1)(v:Ab)(d:Aj):Prop
 | mk (as:_) (q0:Reads h v d as):aHn h v d
def RdT(h:A1)(v:Ab)(d:Aj):Prop:=aHn h v d
inductive aHo(h:A1)(v:Ab):Prop
 | mk (t:_) (z:_) (u:_) (bF:_) (q0:v=.ref t) (q1:Fq h t (BZ z u :: bF).toArray):aHo h v
def FsT(h:A1)(v:Ab):Prop:=aHo h v
section
variable{prog:Al}{w:AH}{A:AB}{E:Ab→Ad→Prop}{s:Ad}
end
section
variable{X:Cx}
end
section
variable{X:Cx}
end
section
variable{X:Cx}
inductive oG(K:Ae)(x:V)(y:V)(H:Hp)(Q:VK):Prop
 | mk (p:_) (q:_) (xs:_) (q0:x=.ref p) (q1:y=.ref q) (q2:SqL K H p xs) (q3:SqL K H q []) (q4:Q (.bl (decide (0 < xs.length))) H):oG K x y H Q
def sZ(K:Ae):V→V→Hp→VK→Prop:=fun x y H Q=>oG K x y H Q
theorem aEx(O:X.A.units < cLine):OpR X (compareOp .NotEq) (sZ X.K):=by
 intro fe s σ H x y v u Q I J G h;obtain⟨p,q,xs,rfl,rfl,h1,h2,hq⟩:=h;cases xs with
 | nil=>exact aD9 O fe s σ H _ _ v u Q I J G ⟨p,q,[],[],rfl,rfl,h1,h2,rfl,rfl,hq⟩
 | cons z r=>
  cases J;cases G;obtain⟨us,r1,p1,_⟩:=I.list h1;obtain⟨ws,r2,p2,_⟩:=I.list h2;have U:=r1.length;have W:=r2.length;refine SeqAt.RcNeAt.lists_lengths p1.isList p2.isList (by simp at U W ⊢;omega) O X.prog X.w _ _ ?_;rw[Ic (show 0 < (z :: r).length by simp)]at hq;exact⟨.bl _,H,I,rfl,hq⟩
end
section
variable{X:Cx}
def Ite(a : Af) : It :=
  ⟨fun i H => ∃ xs x, H a = some (.lst xs) ∧ xs[i]? = some x,
   fun i H v H' => ∃ t x, v = .ref t ∧ H t = none ∧ H' = upd H t (.tup [.int i, x]) ∧ ∀ xs, H a = some (.lst xs) → xs[i]? = some x,
   fun i H => ∃ xs, H a = some (.lst xs) ∧ xs.length ≤ i⟩
theorem aC7{P:Al}{w:AH}{K:Ae}{es:List A5}{kk:Nat}{tp:Pos}(a e it:Af)(ne:e≠it):
  yB P w K (.Tuple es kk tp) (Ite a) [e,it] e (fun i h=>(∃ G,IsEnum h e it (i:Int) G)∧h.IsListIter it a i) where
 mem:=by simp
 obj:=fun i h st c hc=>by
  obtain⟨⟨G,he⟩,⟨o1,e1,_,d1⟩⟩:=st;simp only[Ap,AF,or_false]at hc;rcases hc with rfl | rfl
  ·exact⟨_,he,fun v q=>by cases q⟩
  ·exact⟨_,e1,fun v q=>by rw[d1]at q;cases q⟩
 keep:=fun i h h' st k=>by
  obtain⟨⟨G,he⟩,h1⟩:=st;exact⟨⟨G,k e (by simp) _ he⟩,h1.at fun o z=>k it (by simp) o z⟩
 item:=by
  intro X W hw hK hc i fe s σ H E I U st Z;subst W hw hK;obtain⟨xs,x,hxa,hx⟩:=Z;obtain⟨us,r1,p1,z1⟩:=I.list (aQ hxa);obtain⟨u,hu,ru⟩:=r1.get hx;obtain⟨⟨G,he⟩,h1⟩:=st;refine wpAny_pyNext_enum_item he h1 p1.isList (x:=u) (by simpa using hu) ne fun h' q1 q2 q3 q4 q5=>⟨_,rfl,?_⟩
  refine wpAny_letOwnedTupleGo_enum q1 fun J ac Y=>?_;have lt:∀{c o},s.heap.get? c=some o→s.heap.objs.size≠c:=fun z=>CT (Au z);have kk:∀ c o,c ∉ [e,it]→s.heap.get? c=some o→J.get? c=some o:=fun c o hc z=>by
   simp only[Ap,AF,or_false,not_or]at hc;exact Y.extBut _ _ hc.1 (q5 c o hc.1 hc.2 z)
  have I1:Inv X fe σ H { s with heap:=J,toks:=s.toks + 1 }:=I.turnedL kk U;have nT:H s.heap.objs.size=none:=I.hok.fresh (An _);have ad:J.get? s.heap.objs.size=some { cls:=.type "tuple",data:=.seq #[.int i s.toks,u] }:=Y.extBut _ _ (lt he) q3;have I2:Inv X fe σ (upd H s.heap.objs.size (.tup [.int i,x])) { s with heap:=J,toks:=s.toks + 1 }:=by
   refine I1.track (I.fpOk (An _) nT) ⟨aF (show 2≤1000000 by decide),[.int i s.toks,u],.cons ⟨_,rfl⟩ (.cons ru .nil),_,ad,⟨rfl,_,rfl⟩,rfl⟩
  have O:((i + 1:Nat):Int)=(i:Int) + 1:=by push_cast;rfl
  have aa:IsEnum J e it ((i + 1:Nat):Int) u:=by rw[O];exact ac
  refine⟨.ref s.heap.objs.size,_,I2,rfl,⟨_,x,rfl,nT,rfl,fun ak z=>?_⟩,?_,fun c hc=>?_⟩
  ·rw[hxa]at z;cases z;exact hx
  ·exact⟨⟨u,aa⟩,q2.at fun o z=>Y.extBut _ _ ne.symm z⟩
  ·have ag:c≠s.heap.objs.size:=by
    simp only[Ap,AF,or_false]at hc;rcases hc with rfl | rfl
    ·exact(lt he).symm
    ·obtain⟨_,z,_⟩:=h1;exact(lt z).symm
   rw[bD ag];exact(U c hc).1
 done:=by
  intro X W hw hK hc i fe s σ H E I U st Z;subst W hw hK;obtain⟨xs,hxa,hend⟩:=Z;obtain⟨us,r1,p1,z1⟩:=I.list (aQ hxa);have l1:=r1.length;obtain⟨⟨G,he⟩,h1⟩:=st;refine wpAny_pyNext_enum_end (I.ok.hd hc) he h1 p1.isList (Array.getElem?_eq_none (by simp;omega)) fun h' q7=>⟨rfl,I.turnedL (t':=s.toks) (fun c o hc z=>?_) U⟩
  simp only[Ap,AF,or_false,not_or]at hc;exact q7 c o hc.2 z
 self:=fun _ _ _ _ _ st h=>by
  obtain⟨⟨G,he⟩,_⟩:=st;exact wpAny_pyIter_enum he h
def aJl(ta:TA):TI:=fun σ H R=>ta σ H fun vs H1=>∃ a xs,vs=[.ref a]∧H1 a=some (.lst xs)∧R (Ite a) H1
theorem aGh{x:A5}{ta:TA}{p pos:Pos}{es:List A5}{kk:Nat}{W:Pos}(Z:Gl X "enumerate")(hm:X.mg "enumerate"=none)(ha:PA X [x] ta)(hs:starEach [x] X.env=[(false,eval x X.env)]:=by rfl):
  PI X (.Tuple es kk W) (.Call (.Name "enumerate" p) [x] [] pos) (aJl ta):=by
 constructor;intro fe s σ H R I h;refine Call_ (mJ I Z hm boot_enumerate (BU (thn (ha pos fe s σ H _ I h) fun Y s1 ⟨vs,H1,J,U,O⟩=>?_) (by rw[hs];rfl) (by rfl)));obtain⟨a,xs,e,hxa,q⟩:=O;subst e;obtain⟨u,rfl,ru⟩:=gC U;cases ru;obtain⟨Y,U,p1,z1⟩:=J.list (aQ hxa);refine call_enumerate_list p1.isList fun h' O q2 q3 q4=>?_;refine wpAny_pyIter_enum O ?_;refine⟨_,[s1.heap.objs.size + 1,s1.heap.objs.size],_,_,H1,rfl,J.kept (t':=s1.toks) q4,aC7 a (s1.heap.objs.size + 1) s1.heap.objs.size (Nat.succ_ne_self _),⟨⟨_,O⟩,q2⟩,fun c hc=>?_,q⟩;have G:s1.heap.objs.size≤c:=by
  simp only[Ap,AF,or_false]at hc;rcases hc with rfl | rfl
  ·exact Nat.le_add_right _ 1
  ·exact An _
 exact J.fpOk G (J.hok.fresh G)
theorem aC8{a:Af}{xs:List V}{g:TG}{Z:TT}{te:TE}{Y:St}{H₀:Hp}{Q:VK}(G:Nat→List V→St→Hp→Prop)(h0:G 0 [] Y H₀)(hn:xs.length≤sizeLine)(J:∀ i ys σ H,G i ys σ H→ys.length≤i)
  (U:∀ i ys σ H,G i ys σ H→H a=some (.lst xs))
  (hs:∀ i x t ys σ H,xs[i]?=some x→H t=none→G i ys σ H→g (.ref t) σ (upd H t (.tup [.int i,x])) fun O H2=>Z O H2 fun b W=>if b=true then te O W fun v H4=>G (i + 1) (ys ++ [v]) O H4 else G (i + 1) ys O W)
  (hd:∀ ys σ H,G xs.length ys σ H→∀ D,H D=none→Q (.ref D) (upd H D (.lst ys))):nQ (Ite a) g Z te Y H₀ Q:=
 lG xs.length G h0 hn J (fun i ys σ H h p=>⟨xs,xs[i],U i ys σ H p,by simp[h]⟩) (fun ys σ H p=>⟨xs,U _ ys σ H p,An _⟩) (fun i ys σ H v H' hi p y=>by
  obtain⟨t,x,e,ht,e2,hx⟩:=y;subst e e2;exact hs i x t ys σ _ (hx xs (U i ys σ _ p)) ht p) hd
end
theorem aH7{X:Cx}{a:Af}{vs:List (Key×Ab)}{fg:List (Key×V)}(hd:∀ h:A1,X.K.In h→h.DictOf (cY X.prog X.w) a vs)(rel:KV fg vs)(hz:(a == sysModules)=false):OpR X (compareOp .In) (fun x y H Q=>∃ k,x=kV k∧y=.ref a∧Q (.bl ((fS fg k).isSome)) H):=by
 intro fe s σ H x y v u Q I G J h;obtain⟨k,rfl,rfl,q⟩:=h;cases J;refine wpAny_in_of (pY G) hz (hd _ I.kIn).mapOf ?_;rw[← (rel.val k).isSome_eq];exact⟨.bl _,H,I.tok _,rfl,q⟩
section
variable{X:Cx}
end
section
variable{X:Cx}{es:List A5}{t:TA}{pos:Pos}
end
section
variable{X:Cx}
end
structure aKl(T:Af)(Ps:List Pos)(qual:Str)(H:Hp):Prop where
 ex:∃ ps,H T=some (.tbl ps)∧TriplesOk ps.toList∧∀ pos∈Ps,codeAmong pos ps.toList=none∨∃ c,codeAmong pos ps.toList=some (.ref c)∧H c=some (aEv c qual)
section
variable{X:Cx}{fe:List (Af×Obj)}{σ:St}{H:Hp}{s:Ad}
end
section
variable{X:Cx}{k:Nat}{x:Str}{p pos:Pos}
end
section
variable{X:Cx}{e:A5}{ta:TA}
end
abbrev Kq(H H':Hp):Prop:=∀ b o,H b=some o→(∀ kv r,o≠.dK (kv :: r))→(∀ ps,o≠.tbl ps)→H' b=some o
def aGi(M:Dw)(Γ:E8)(p:Pos)(s:Ad):Sem Fin→Option (Pos×Sem Fin×Ad)
 | .rule _ k=>some (p,k (),s)
 | .at p' k=>some (p',k (),s)
 | .loadIfAlive a k=>some (p,k (s.heap.get? a),s)
 | .point _ k=>some (p,k (),s)
 | .alloc o k=>some (p,k s.heap.objs.size,{ s with heap:=s.heap.push o })
 | .fresh k=>some (p,k s.toks,{ s with toks:=s.toks + 1 })
 | .ask k=>some (p,k ⟨M.prog,M.w.params⟩,s)
 | .os q _ k=>some (p,k (Os.step s.os q).2,{ s with os:=(Os.step s.os q).1 })
 | .handled own k=>some (p,k (if own then Γ.own else Γ.handled),s)
 | .stack k=>some (p,k ((Γ.code,p) :: Γ.below),s)
 | .thread k=>some (p,k 0,s)
 | .newGen c k=>some (p,k s.gens.size,{ s with gens:=s.gens.push (.fresh c) })
 | .update a _ f k=>some (p,k (),{ s with heap:=s.heap.update a f })
 | .choose src n k=>some (p,k (M.w.draws src (s.drawn.get src) % n),{ s with drawn:=s.drawn.bump src })
 | _=>none
theorem fA{M:Dw}{Γ:E8}{p G:Pos}{t t':Sem Fin}{s s1:Ad}{e:End}{s':Ad}(h:Runs M Γ p t [] s e s')(q:aGi M Γ p s t=some (G,t',s1)):Runs M Γ G t' [] s1 e s':=by
 cases h <;> cases q <;> assumption
theorem tD{M:Dw}{Γ:E8}{p:Pos}{t:Sem Fin}{fs:List Frame}{s:Ad}{e:End}{s':Ad}(h:Runs M Γ p t fs s e s'):∀{Y:End}{Z:Ad},Runs M Γ p t fs s Y Z→e=Y∧s'=Z:=by
 induction h with
 | done=>intro Y Z J;cases J;exact⟨rfl,rfl⟩
 | raise=>intro Y Z J;cases J;exact⟨rfl,rfl⟩
 | yield=>intro Y Z J;cases J;exact⟨rfl,rfl⟩
 | again _ _ U=>intro Y Z J;cases J with | again _ r=>exact U r
 | rule _ U=>exact fun J=>U (fA J rfl)
 | «at» _ U=>exact fun J=>U (fA J rfl)
 | load q _ U=>intro Y Z J;cases J with | load G r=>rw[q]at G;cases G;exact U r
 | update _ _ U=>exact fun J=>U (fA J rfl)
 | loadIfAlive _ U=>exact fun J=>U (fA J rfl)
 | point _ U=>exact fun J=>U (fA J rfl)
 | alloc _ U=>exact fun J=>U (fA J rfl)
 | fresh _ U=>exact fun J=>U (fA J rfl)
 | ask _ U=>exact fun J=>U (fA J rfl)
 | choose _ _ U=>exact fun J=>U (fA J rfl)
 | os _ U=>exact fun J=>U (fA J rfl)
 | handled _ U=>exact fun J=>U (fA J rfl)
 | genState q _ U=>intro Y Z J;cases J with | genState G r=>rw[q]at G;cases G;exact U r
 | stack _ U=>exact fun J=>U (fA J rfl)
 | thread _ U=>exact fun J=>U (fA J rfl)
 | newGen _ U=>exact fun J=>U (fA J rfl)
 | call _ _ O W=>
  intro Y Z J;cases J with
  | call a b=>
   obtain⟨x,y⟩:=O a;cases x;cases y;exact W b
  | callSusp a=>
   obtain⟨x,_⟩:=O a;cases x
 | callSusp _ O=>
  intro Y Z J;cases J with
  | call a b=>
   obtain⟨x,_⟩:=O a;cases x
  | callSusp a=>
   obtain⟨x,y⟩:=O a;cases x;exact⟨rfl,y⟩
 | resumeFresh q a c b O W=>
  intro Y Z J;cases J with
  | resumeFresh G a2 c2 b2=>
   rw[q]at G;cases G;obtain⟨x,y⟩:=O a2;cases x;cases y;exact W b2
  | resumeSuspended G=>rw[q]at G;cases G
  | resumeJustStarted G n=>exact absurd rfl n
  | resumeRunning G=>rw[q]at G;cases G
  | resumeFinished G=>rw[q]at G;cases G
 | resumeSuspended q a c b O W=>
  intro Y Z J;cases J with
  | resumeFresh G=>rw[q]at G;cases G
  | resumeSuspended G a2 c2 b2=>
   rw[q]at G;cases G;obtain⟨x,y⟩:=O a2;cases x;cases y;exact W b2
  | resumeJustStarted G=>rw[q]at G;cases G
  | resumeThrowFresh G=>rw[q]at G;cases G
  | resumeRunning G=>rw[q]at G;cases G
  | resumeFinished G=>rw[q]at G;cases G
 | resumeJustStarted q n _ U=>
  intro Y Z J;cases J with
  | resumeFresh=>exact absurd rfl n
  | resumeSuspended G=>rw[q]at G;cases G
  | resumeJustStarted _ _ r=>exact U r
  | resumeRunning G=>rw[q]at G;cases G
  | resumeFinished G=>rw[q]at G;cases G
 | resumeThrowFresh q _ U=>
  intro Y Z J;cases J with
  | resumeSuspended G=>rw[q]at G;cases G
  | resumeThrowFresh _ r=>exact U r
  | resumeRunning G=>rw[q]at G;cases G
  | resumeFinished G=>rw[q]at G;cases G
 | resumeRunning q _ U=>
  intro Y Z J;cases J with
  | resumeFresh G=>rw[q]at G;cases G
  | resumeSuspended G=>rw[q]at G;cases G
  | resumeJustStarted G=>rw[q]at G;cases G
  | resumeThrowFresh G=>rw[q]at G;cases G
  | resumeRunning _ r=>exact U r
  | resumeFinished G=>rw[q]at G;cases G
 | resumeFinished q _ U=>
  intro Y Z J;cases J with
  | resumeFresh G=>rw[q]at G;cases G
  | resumeSuspended G=>rw[q]at G;cases G
  | resumeJustStarted G=>rw[q]at G;cases G
  | resumeThrowFresh G=>rw[q]at G;cases G
  | resumeRunning G=>rw[q]at G;cases G
  | resumeFinished _ r=>exact U r
 | segRet _ _ O W=>
  intro Y Z J;cases J with
  | segRet a b=>
   obtain⟨x,y⟩:=O a;cases x;cases y;exact W b
  | segSuspOut _ a=>obtain⟨x,_⟩:=O a;cases x
  | segSuspGen _ a=>obtain⟨x,_⟩:=O a;cases x
 | segGen _ _ O W=>
  intro Y Z J;cases J with
  | segGen a b=>
   obtain⟨x,y⟩:=O a;cases x;cases y;exact W b
  | segSuspOut _ a=>obtain⟨x,_⟩:=O a;cases x
  | segSuspGen _ a=>obtain⟨x,_⟩:=O a;cases x
 | segSuspOut q _ O=>
  intro Y Z J;cases J with
  | segRet a b=>obtain⟨x,_⟩:=O a;cases x
  | segGen a b=>obtain⟨x,_⟩:=O a;cases x
  | segSuspOut _ a=>
   obtain⟨x,y⟩:=O a;cases x;exact⟨rfl,y⟩
  | segSuspGen G=>rw[q]at G;cases G
 | segSuspGen q _ _ _ O W=>
  intro Y Z J;cases J with
  | segRet a b=>obtain⟨x,_⟩:=O a;cases x
  | segGen a b=>obtain⟨x,_⟩:=O a;cases x
  | segSuspOut G=>rw[q]at G;cases G
  | segSuspGen G a _ b=>
   rw[q]at G;cases G;obtain⟨x,y⟩:=O a;cases x;cases y;exact W b
theorem aC9{M:Dw}{Γ:E8}{p:Pos}{g:Nat}{r:Resume}{s:Ad}{O J:GenResult}{s' U:Ad}(h:Wakes M Γ p g r s O s')(G:Wakes M Γ p g r s J U):O=J∧s'=U:=by
 unfold Wakes at h G;split at h
 ·exact h.elim
 ·rename_i c e;rw[e]at G;split at h
  ·dsimp only at G;obtain⟨e₁,s₁,a,_,rfl,rfl⟩:=h;obtain⟨e₂,s₂',a₂,_,rfl,rfl⟩:=G;obtain⟨x,y⟩:=tD a a₂;cases x;cases y;exact⟨rfl,rfl⟩
  ·rename_i W;dsimp only at G;split at G
   ·rename_i hz;injection hz with hz;exact absurd hz W
   ·obtain⟨rfl,rfl⟩:=h;obtain⟨rfl,rfl⟩:=G;exact⟨rfl,rfl⟩
   ·rename_i hz;cases hz
  ·dsimp only at G;obtain⟨rfl,rfl⟩:=h;obtain⟨rfl,rfl⟩:=G;exact⟨rfl,rfl⟩
 ·rename_i e;rw[e]at G;dsimp only at G;obtain⟨e₁,s₁,a,_,rfl,rfl⟩:=h;obtain⟨e₂,s₂',a₂,_,rfl,rfl⟩:=G;obtain⟨x,y⟩:=tD a a₂;cases x;cases y;exact⟨rfl,rfl⟩
 all_goals
  rename_i e;rw[e]at G;dsimp only at G;obtain⟨rfl,rfl⟩:=h;obtain⟨rfl,rfl⟩:=G;exact⟨rfl,rfl⟩
theorem aGj{α:Type}{M:Dw}{Γ:E8}:∀(t:Sem α) {Q J:α→Pos→Ad→Prop}{E E':Ab→Pos→Ad→Prop}{p:Pos}{s:Ad},BS M Γ t Q E p s→BS M Γ t J E' p s→BS M Γ t (fun a p s=>Q a p s∧J a p s) (fun e p s=>E e p s∧E' e p s) p s:=by
 intro t
 induction t with
 | pure a=>intro Q J E E' p s h h';rw[BS]at *;exact⟨h,h'⟩
 | raise e=>intro Q J E E' p s h h';rw[BS]at *;exact⟨h,h'⟩
 | unsupported w=>intro Q J E E' p s h h';rw[BS]at h;exact h.elim
 | finish w=>intro Q J E E' p s h h';rw[BS]at h;exact h.elim
 | register w k=>intro Q J E E' p s h h';rw[BS]at h;exact h.elim
 | yield v g l k=>intro Q J E E' p s h h';rw[BS]at h;exact h.elim
 | fork c k=>intro Q J E E' p s h h';rw[BS]at h;exact h.elim
 | await a f d l k=>intro Q J E E' p s h h';rw[BS]at h;exact h.elim
 | rule U k G=>intro Q J E E' p s h h';rw[BS]at *;exact G _ h h'
 | «at» q k G=>intro Q J E E' p s h h';rw[BS]at *;exact G _ h h'
 | load a q k G=>
  intro Q J E E' p s h h';rw[BS]at *;obtain⟨o,x,y⟩:=h;obtain⟨o',x',y'⟩:=h';rw[x]at x';cases x';exact⟨o,x,G _ y y'⟩
 | update a q f k G=>intro Q J E E' p s h h';rw[BS]at *;exact⟨h.1,G _ h.2 h'.2⟩
 | loadIfAlive a k G=>intro Q J E E' p s h h';rw[BS]at *;exact G _ h h'
 | point l k G=>intro Q J E E' p s h h';rw[BS]at *;exact G _ h h'
 | alloc o k G=>intro Q J E E' p s h h';rw[BS]at *;exact G _ h h'
 | fresh k G=>intro Q J E E' p s h h';rw[BS]at *;exact G _ h h'
 | ask k G=>intro Q J E E' p s h h';rw[BS]at *;exact G _ h h'
 | choose O n k G=>intro Q J E E' p s h h';rw[BS]at *;exact⟨h.1,G _ h.2 h'.2⟩
 | os q l k G=>intro Q J E E' p s h h';rw[BS]at *;exact G _ h h'
 | call c hd g l k G=>
  intro Q J E E' p s h h';rw[BS]at *;obtain⟨r,s1,a,b⟩:=h;obtain⟨r',s1',a',b'⟩:=h';obtain⟨x,y⟩:=tD a a';cases x;cases y;exact⟨r,s1,a,G _ b b'⟩
 | handled own k G=>intro Q J E E' p s h h';rw[BS]at *;exact G _ h h'
 | genState g k G=>
  intro Q J E E' p s h h';rw[BS]at *;obtain⟨o,x,y⟩:=h;obtain⟨o',x',y'⟩:=h';rw[x]at x';cases x';exact⟨o,x,G _ y y'⟩
 | newGen c k G=>intro Q J E E' p s h h';rw[BS]at *;exact G _ h h'
 | resume g r l k G=>
  intro Q J E E' p s h h';rw[BS]at *;obtain⟨res,s1,a,b⟩:=h;obtain⟨res',s1',a',b'⟩:=h';obtain⟨x,y⟩:=aC9 a a';cases x;cases y;exact⟨res,s1,a,G _ b b'⟩
 | stack k G=>intro Q J E E' p s h h';rw[BS]at *;exact G _ h h'
 | thread k G=>intro Q J E E' p s h h';rw[BS]at *;exact G _ h h'
theorem kQ{α:Type}{M:Dw}{A:AB}{t:Sem α}{Q G:α→Ad→Prop}{E E':Ab→Ad→Prop}{s:Ad}(h:wpAny M A t Q E s)(h':wpAny M A t G E' s):wpAny M A t (fun a s=>Q a s∧G a s) (fun e s=>E e s∧E' e s) s:=
 fun Γ p i=>aGj t (h Γ p i) (h' Γ p i)
inductive aEy(h:A1)(x:Af):Prop
 | mk (ob:_) (vs:_) (T:_) (oT:_) (ts:_) (q0:h.get? x=some ob) (q1:ob.data=.fields vs) (q2:vs[2]?=some .none) (q3:vs[1]?=some (.ref T)) (q4:T≠x) (q5:h.get? T=some oT) (q6:oT.data=.fields ts) (q7:3 < ts.size):aEy h x
def aJ0(h:A1)(x:Af):Prop:=aEy h x
section
variable{M:Dw}{A:AB}{E:Ab→Ad→Prop}{s:Ad}
end
def CXc(P:Al)(w:AH):CXT:=fun outer H s E e s'=>CXr P w outer H s E e s'∧∃ x,e=.ref x∧aJ0 s'.heap x
section
variable{P:Al}{w:AH}{K:Ae}{mg:Str→Option Ab}{base:A1}{N:List Str}{qual:Str}{scope:Cq}{f:Af}{cd:Ab}{A:AB}{outer:List Env}{s:Ad}{H:Hp}{E:XK}
end
section
variable{prog:Al}{w:AH}{A:AB}{E:Ab→Ad→Prop}{env:Env}{nm q:Str}{C N:Af}{bs bm:List Ab}{hdct:Bool}{sn:List Str}{sub:List Ab}{ab:Bool}{col:Option Bool}{dd:Option Af}{k0 k1 k2 k3 k5:Option Ab}{newId:String}
end
section
variable{prog:Al}{w:AH}{A:AB}{E:Ab→Ad→Prop}{s:Ad}{env:Env}
variable{nm q:Str}{C N:Af}{bs bm fw:List Ab}{hdct:Bool}{sn:List Str}{sub:List Ab}{ab:Bool}{col:Option Bool}{dd:Option Af}{k0 k1 k2 k3 k5:Option Ab}{B newId fu:String}
end
section
variable{P:Al}{w:AH}{K:Ae}{mg:Str→Option Ab}{base:A1}{N:List Str}{qual:Str}{scope:Cq}{f:Af}{cd:Ab}{A:AB}{outer:List Env}{s:Ad}{H:Hp}{E:XK}
end
inductive aHp(X:Cx)(fe:List (Af×Obj))(σ:St)(E':XK)(x:Ab)(s':Ad):Prop
 | mk (H1:_) (s1:_) (q0:Inv X fe σ H1 s1) (q1:CXc X.prog X.w X.stack H1 s1 E' x s'):aHp X fe σ E' x s'
def XPc(X:Cx)(fe:List (Af×Obj))(σ:St)(E':XK)(x:Ab)(s':Ad):Prop:=aHp X fe σ E' x s'
structure PXc(X:Cx)(e:A5)(te:XK→TE):Prop where
 run:∀(E':XK) (fe:List (Af×Obj)) (s:Ad) (σ:St) (H:Hp) (Q:VK),Inv X fe σ H s→te E' σ H Q→wpAny (model X.prog X.w) X.A (eval e X.env) (EP X fe σ Q) (XPc X fe σ E') s
structure aKs(X:Cx)(b:List Br)(tb:XK→TS):Prop where
 run:∀(E':XK) (fe:List (Af×Obj)) (s:Ad) (σ:St) (H:Hp) (D:kC),Inv X fe σ H s→tb E' D σ H→wpAny (model X.prog X.w) X.A (execs b X.env) (SP X fe D) (XPc X fe σ E') s
section
variable{X:Cx}{k:Nat}{f:Af}{fd:Ax}{ps:List Str}{sp:Sp}{x:Str}{p pos:Pos}{e:A5}{es:List A5}{t:TA}{te:XK→TE}
end
section
variable{P:Al}{w:AH}{K:Ae}{mg:Str→Option Ab}{base:A1}{N:List Str}{qual:Str}{scope:Cq}{f:Af}{cd:Ab}{A:AB}{outer:List Env}{s:Ad}{H:Hp}{E:XK}
end
mutual
inductive RdL(H:Hp):V→Aj→Prop
 | non:RdL H .non .none
 | bl (b:Bool):RdL H (.bl b) (.bool b)
 | int (i:Int):RdL H (.int i) (.int i)
 | str (z:Str):RdL H (.str z) (.str z)
 | lst {a:Af} {xs:List V} {ds:List Aj} (e:H a=some (.lst xs)) (n:a≠sysModules) (r:aEz H xs ds):RdL H (.ref a) (.list ds)
 | tup {a:Af} {xs:List V} {ds:List Aj} (e:H a=some (.tup xs)) (r:aEz H xs ds):RdL H (.ref a) (.tuple ds)
 | dc0 {a:Af} (e:H a=some (.dK [])):RdL H (.ref a) (.dict [])
 | dc1 {a:Af} {k:Str} {v:V} {d:Aj} (e:H a=some (.dK [(Am k,v)])) (r:RdL H v d):RdL H (.ref a) (.dict [(.str k,d)])
inductive aEz(H:Hp):List V→List Aj→Prop
 | nil:aEz H [] []
 | cons {x:V} {d:Aj} {xs:List V} {ds:List Aj} (a:RdL H x d) (r:aEz H xs ds):aEz H (x :: xs) (d :: ds)
end
section
variable{X:Cx}
end
def hid(H:Hp)(h:Af):Hp:=fun b=>if b=h then none else H b
theorem aEA{H:Hp}{h:Af}:hid H h h=none:=Ib rfl
theorem pB{H:Hp}{h b:Af}(n:b≠h):hid H h b=H b:=Ia n
section
variable{X:Cx}{fe:List (Af×Obj)}{σ σ1:St}{H H1:Hp}{s s1:Ad}{h:Af}{xs:List V}
end
inductive aEB(h:A1)(x D:Af):Prop
 | mk (ob:_) (vs:_) (T:_) (oT:_) (ts:_) (q0:h.get? x=some ob) (q1:ob.data=.fields vs) (q2:ob.dict=some D) (q3:vs[1]?=some (.ref T)) (q4:T≠x) (q5:h.get? T=some oT) (q6:oT.data=.fields ts) (q7:3 < ts.size):aEB h x D
def tE(h:A1)(x D:Af):Prop:=aEB h x D
theorem tF{o:Obj}{f:Array Ab→Array Ab}:(Eh f o).dict=o.dict:=by
 unfold Eh;split <;> rfl
section
variable{M:Dw}{A:AB}{E:Ab→Ad→Prop}{s:Ad}{D:Af}
theorem aBZ{base:A1}{env:Env}{outer:List Env}{L e:Af}{U:Obj}{vs:Array Ab}{J:Ab}{G:Bool}
  (Y:A.frames=some (env :: outer)) (hl:s.heap.FunFrames base (env :: outer)) (hf:env.frame=some L) (he:s.heap.get? e=some U) (hd:U.data=.fields vs) (W:1 < vs.size) (h2:U.dict=some D):
  wpAny M A (do let a ← frameOf env;let pl ← entryPlaceOf L G;let b ← EntryCells.newEntry J a .none (rawInt L) .none pl;setField (.ref e) 1 b) (fun _ s'=>tE s'.heap e D) E s:=by
 have O:e ∉ (env :: outer).filterMap (·.frame):=fun hm=>by
  obtain⟨_,o,ho,hnf⟩:=hl.mem hm;rw[he]at ho;cases ho;exact hnf vs hd
 refine Aa (wpAny_frameOf_fun Y hl hf fun h1 q1=>Aa (wpAny_entryPlaceOf fun pl aa=>?_));unfold EntryCells.newEntry newFields;refine Aa (BB ?_ (aa.sizeOk5 _ _ _ _ _));have Z:h1.get? e=some U:=(q1.2.1 e O).trans he;refine Cc (Ah _ Z) hd (by omega) ?_;have ne:h1.objs.size≠e:=CT (Au Z);refine⟨_,_,h1.objs.size,_,_,Bi _ (Ah _ Z) (B8 (Bu hd _)),Bu hd _,tF.trans h2,?_,ne,(BP _ _ ne.symm).trans (AA _ rfl),rfl,?_⟩
 ·simp[W]
 ·simp only[Ao,Av,Ak,DE];omega
theorem oH{e:Af}(h:tE s.heap e D):wpAny M A (setFlight (.ref e) none) (fun _ s'=>tE s'.heap e D) E s:=by
 obtain⟨ob,vs,T,oT,ts,h1,h2,h3,h4,h5,h6,h7,h8⟩:=h;unfold setFlight;refine Aa (DO h1 h2 h4 ?_);rw[Ib (show(AK T != B0)=true from by simp)];refine Cc h6 h7 h8 ⟨ob,vs,T,_,_,(BP _ _ h5).trans h1,h2,h3,h4,h5,Bi _ h6 (B8 (Bu h7 _)),Bu h7 _,?_⟩;rw[Array.size_setIfInBounds];exact h8
theorem zI{base:A1}{env:Env}{outer:List Env}{L e:Af}{G:Obj}{vs:Array Ab}
  (J:A.frames=some (env :: outer)) (W:s.heap.FunFrames base (env :: outer)) (U:env.frame=some L) (O:s.heap.get? e=some G) (hd:G.data=.fields vs) (h1:vs[1]?=some .none) (h2:G.dict=some D):
  wpAny M A (noteFrame (.ref e) env) (fun _ s'=>tE s'.heap e D) E s:=by
 unfold noteFrame;simp only[U];refine Aa (DO O hd h1 ?_);rw[Ia (by decide)];exact aBZ J W U O hd (Array.getElem?_eq_some_iff.mp h1).1 h2
theorem tG{base:A1}{env:Env}{outer:List Env}{L e:Af}(O:A.frames=some (env :: outer))(W:s.heap.FunFrames base (env :: outer))(U:env.frame=some L)(h:tE s.heap e D):
  wpAny M A (noteFrame (.ref e) env) (fun _ s'=>tE s'.heap e D) E s:=by
 obtain⟨ob,vs,T,oT,ts,h1,h2,h3,h4,h5,h6,h7,h8⟩:=id h;unfold noteFrame;simp only[U];refine Aa (DO h1 h2 h4 ?_);rw[Ib (show(AK T != B0)=true from by simp)];refine Aa (DO h6 h7 (Array.getElem?_eq_getElem h8) ?_);split
 ·exact Ag h
 ·refine Aa (Cc h6 h7 h8 ?_);have other:∀ b,b≠T→(s.heap.update T (Eh (·.setIfInBounds 3 B0))).get? b=s.heap.get? b:=fun b G=>BP _ _ (CL G)
  refine aBZ (base:=base) O (W.of_keeps fun b o G J=>⟨o,(other b fun z=>?_).trans G,rfl⟩) U ((other e h5.symm).trans h1) h2 (Array.getElem?_eq_some_iff.mp h4).1 h3;rw[z,h6]at G;cases G;exact J ts h7
theorem zJ{base:A1}{env:Env}{outer:List Env}{L e:Af}(G:A.frames=some (env :: outer))(O:s.heap.FunFrames base (env :: outer))(J:env.frame=some L)(h:tE s.heap e D):
  wpAny M A (leaving env (.ref e)) (fun _ s'=>tE s'.heap e D) E s:=by
 unfold leaving;exact Aa (Bd (tG G O J h) (fun _ s' h'=>oH h') fun _ _ z=>z)
theorem wP{base:A1}{env:Env}{outer:List Env}{L e:Af}{G:Obj}{vs:Array Ab}
  (J:A.frames=some (env :: outer)) (U:s.heap.FunFrames base (env :: outer)) (O:env.frame=some L) (W:s.heap.get? e=some G) (hd:G.data=.fields vs) (h1:vs[1]?=some .none) (h2:G.dict=some D):
  wpAny M A (leaving env (.ref e)) (fun _ s'=>tE s'.heap e D) E s:=by
 unfold leaving;exact Aa (Bd (zI J U O W hd h1 h2) (fun _ s' h'=>oH h') fun _ _ z=>z)
end
section
variable{prog:Al}{w:AH}{A:AB}{E:Ab→Ad→Prop}{h:A1}{g:Array EZ}{d:F1}{t:Nat}{os:OsState}
variable{nm q:Str}{C N:Af}{bs bm fw:List Ab}{hdct:Bool}{sn:List Str}{sub:List Ab}{ab:Bool}{col:Option Bool}{dd:Option Af}{k0 k1 k2 k3 k5:Option Ab}{B newId fu:String}
abbrev aA0(C:Af)(t:Af):Obj:={ cls:=.ref C,data:=.fields #[.ref t,.none,.none,.none,.bool false,.none] }
abbrev iL(h:A1)(C:Af)(bF:List Ab):A1:=(h.push { cls:=.type "tuple",data:=.seq bF.toArray }).push (aA0 C h.objs.size)
theorem qJ(F:Ft B newId fu fw)(T:OwnTail h fw bm){mN:Str→Option Ab}{bF:List Ab}{Z:Af}{oI:Obj}{Q:Fin→Ad→Prop}
  (J:h.get? C=some (excClassObj nm q C N bs bm hdct sn sub ab col dd k0 k1 k2 k3 k5 newId)) (hn:h.Ns N mN) (hi:mN "__init__"=some (.ref Z))
  (Y:h.get? Z=some oI) (aa:oI.cls=.type "function")
  (hq:wpAny (model prog w) A (call (.ref Z) (.ref (h.objs.size + 1) :: bF)) (fun r s'=>r=.none∧Q (.done (.ret (.ref (h.objs.size + 1)))) s') E ⟨iL h C bF,g,d,t,os⟩) (G:bF.length≤sizeLine):
  wpAny (model prog w) A (Builtin.«type.__call__» ⟨.ref C :: bF,[]⟩) Q E ⟨h,g,d,t,os⟩:=by
 repeat (first | with_reducible refine Dt J ?_ | with_reducible refine wpAny_madeBy_exc J ?_ | wp_step)
 refine codeAny_call_builtin_code (C3 _ F.quiet) (wpAny_check_new_subT F T J ?_);refine codeAny_exc_new_subT F T J ?_ G;show wpAny _ _ _ _ _ _;have kp:∀ b o,h.get? b=some o→(iL h C bF).get? b=some o:=fun b o e=>Ah _ (Ah _ e);have W:=kp _ _ J;have U:=kp _ _ Y;have ac:(iL h C bF).Ns N mN:=let ⟨o,es,ep,e,r⟩:=hn;⟨o,es,ep,kp _ _ e,r⟩
 have O:(iL h C bF).get? (h.objs.size + 1)=some (aA0 C h.objs.size):=by heap_get
 have ae:(AK C :: bm).contains (.ref C)=true:=by simp
 have T₁:=T.keeps (h':=iL h C bF) kp;unfold isInstance
 repeat (first | with_reducible refine Dt O ?_ | (with_reducible refine wpAny_isSubtype_exc W ?_;rw[ae]) | wp_step)
 show wpAny _ _ (typeLookup (.ref C) _) _ _ _;refine wpAny_typeLookup_tail W ac T₁ F.mroIs F.init.lookup ?_;rw[hi];refine A7 (Aa ?_);unfold bindSpecial;refine Aa (CF (T:="function") ⟨_,U,aa⟩ ?_);rw[Ib (by decide)];refine Ag (Aa (Bd hq (fun r s' hr=>?_) fun _ _ x=>x));obtain⟨rfl,hQ⟩:=hr
 wp_walk
 exact hQ
theorem aA1(F:Ft B newId fu fw)(T:OwnTail h fw bm){Z:Str→Option Ab}{bF:List Ab}{U:Af}{Y:Obj}{Q:Ab→Ad→Prop}
  (J:h.get? C=some (excClassObj nm q C N bs bm hdct sn sub ab col dd k0 k1 k2 k3 k5 newId)) (hn:h.Ns N Z) (hi:Z "__init__"=some (.ref U))
  (O:h.get? U=some Y) (W:Y.cls=.type "function")
  (hq:wpAny (model prog w) (A.under (.builtin "type.__call__" ⟨.ref C :: bF,[]⟩)) (call (.ref U) (.ref (h.objs.size + 1) :: bF)) (fun r s'=>r=.none∧Q (.ref (h.objs.size + 1)) s') E ⟨iL h C bF,g,d,t,os⟩) (G:bF.length≤sizeLine):
  wpAny (model prog w) A (call (.ref C) bF) Q E ⟨h,g,d,t,os⟩:=by
 have f1:=tc_lookup;have f2:=tc_bind (.ref C);have hT:(⟨h,g,d,t,os⟩:Ad).TypeIs (.ref C) "type":=⟨_,J,rfl⟩
 refine Cd (EI ?_);show wpAny _ _ (callAny (.ref C) _) _ _ _
 repeat (any_goals (first | assumption | with_reducible refine Dt J ?_ | wp_step))
 exact⟨rfl,codeAny_call_builtin_at (C3 _ (by decide)) entry_typeCall (wpAny_check_type_call_sub J (qJ F T J hn hi O W hq G))⟩
end
def CXd(P:Al)(w:AH):CXT:=fun outer H s E e s'=>∃ D,CXr P w outer H s (fun C _ H'=>E C (some D) H') e s'∧∃ x,e=.ref x∧tE s'.heap x D
def gF(y:Af)(C:Af)(dx:Option Af):HO:=.ext fun h=>∃ t sl,h.get? y=some ⟨.ref C,dx,.fields #[.ref t,.none,.none,.none,.bool false,.none],sl⟩
section
variable{P:Al}{w:AH}{K:Ae}{mg:Str→Option Ab}{base:A1}{N:List Str}{qual:Str}{scope:Cq}{f:Af}{cd:Ab}{A:AB}{outer:List Env}{s:Ad}{H:Hp}{E:XK}
theorem aGk{fe:List (Af×Obj)}{σ:St}{H1:Hp}{s1:Ad}{e C:Af}{dx:Option Af}(I:Inv (fU (CXr P w) P w K mg base N qual scope f cd A outer s H E) fe σ H1 s1)
  (hx:H1 e=some (gF e C dx)) (U:s.heap.get? e=none) (hE:E (.ref C) none (hid H1 e)):(fU (CXr P w) P w K mg base N qual scope f cd A outer s H E).xe (.ref e) s1:=by
 have ad:∀ env∈(envOfC qual scope s.heap.objs.size f cd :: outer),∀ b,env.frame=some b→b∈e :: frs (envOfC qual scope s.heap.objs.size f cd :: outer):=fun env J b G=>.tail _ (Bl.mpr ⟨env,J,G⟩);have Y:s1.heap.FunFrames base (envOfC qual scope s.heap.objs.size f cd :: outer):=I.stack;have ae:∀ b∈frs (envOfC qual scope s.heap.objs.size f cd :: outer),H1 b=none:=I.stkFree;obtain⟨⟨t,sl,J⟩,_⟩:cX P w H1 s1.heap e (gF e C dx):=I.hok _ _ hx;show wpAny _ _ (leaving _ _) _ _ _;have hB:∀ b o,(hideAll s1.heap (e :: frs (envOfC qual scope s.heap.objs.size f cd :: outer))).get? b=some o→s1.heap.get? b=some o:=fun b o q=>of_hideAll _ q;have ac:(hideAll s1.heap (e :: frs (envOfC qual scope s.heap.objs.size f cd :: outer))).get? e=none:=hideAll_none _ AV;refine wpAny_leaving_firstW (base:=hideAll s1.heap (e :: frs (envOfC qual scope s.heap.objs.size f cd :: outer))) (a0:=.ref t) (L:=s.heap.objs.size) I.ok.frames (funFrames_hide Y ad) rfl J hB ac rfl rfl rfl fun aa ag=>?_;obtain⟨y1,⟨_,_,y2⟩,y3,x4⟩:=ag;have x1:E4 (hideAll s1.heap (e :: frs (envOfC qual scope s.heap.objs.size f cd :: outer))) outer e (.ref C) (.ref t) aa:=⟨y1,ac,y2,y3⟩
 have hL:∀ b,b∈frs (envOfC qual scope s.heap.objs.size f cd :: outer)→b=s.heap.objs.size∨b∈frs outer:=fun b G=>by
  obtain⟨env,J,O⟩:=Bl.mp G;rcases Ap.mp J with rfl | J
  ·exact .inl (BD.inj O).symm
  ·exact .inr (Bl.mpr ⟨env,J,O⟩)
 have Z:∀ b o,s.heap.get? b=some o→b ∉ frs outer→b ∉ e :: frs (envOfC qual scope s.heap.objs.size f cd :: outer):=fun b o q nf hm=>by
  rcases Ap.mp hm with z | hm
  ·rw[z,U]at q;cases q
  ·rcases hL b hm with z | z
   ·rw[z]at q;exact absurd (Au q) (BN _)
   ·exact nf z
 have slot:∀ b o,s.heap.get? b=some o→H b=none→b∈frs outer→∃ sl,aa.get? b=some { o with slots:=sl }:=fun b o q n O=>by
  obtain⟨sl,e1⟩:=I.base.slot b o q n O (by simp[fU]);have hm:b∈frs (envOfC qual scope s.heap.objs.size f cd :: outer):=by
   obtain⟨env,J,O⟩:=Bl.mp O;exact Bl.mpr ⟨env,.tail _ J,O⟩
  obtain⟨_,o2,e2,hd⟩:=Y.mem hm;rw[e1]at e2;cases e2;obtain⟨sl2,e3⟩:=x4 b _ e1 hd;exact⟨sl2,e3⟩
 have W:∀ b o,H1 b=some o→o≠gF e C dx→b≠e:=fun b o q n z=>by
  rw[z,hx]at q;cases q;exact n rfl
 refine⟨e,.ref C,hid H1 e,rfl,⟨I.os,I.bare,⟨_,_,x1,fun a o q=>?_,fun b o q n nf=>Gc _ (I.base.keep b o q n nf (by simp[fU])) (Z b o q nf),fun b o q nf=>?_⟩,I.ok.frf,slot,fun b o q n=>?_,fun b xs q=>?_,fun b o u q=>?_,fun b ps q=>?_⟩,hE⟩
 ·have ne:a≠e:=fun z=>by rw[z,aEA]at q;cases q
  rw[pB ne]at q;refine(I.hok a o q).stay (fun b u G e'=>Gc _ e' fun hm=>?_) (fun b q=>?_) fun b xs q=>?_
  ·rcases Ap.mp hm with z | hm
   ·rcases G with G | G
    ·exact ne (G.symm.trans z)
    ·rw[z,hx]at G;cases G
   ·have hn:=ae b hm;rcases G with rfl | G
    ·rw[q]at hn;cases hn
    ·rw[G]at hn;cases hn
  ·rw[pB (W b _ q (fun z=>nomatch z))];exact q
  ·rw[pB (W b _ q (fun z=>nomatch z))];exact q
 ·obtain⟨o1,e1⟩:=I.base.there b o q (by simp[fU]);exact⟨o1,Gc _ e1 (Z b o q nf)⟩
 ·have:=I.base.free b o q n (by simp[fU]);unfold hid;split
  ·rfl
  ·exact this
 ·have q:=I.base.tups b xs q;rw[pB (W b _ q (fun z=>nomatch z))];exact q
 ·have q:=I.base.frzs b o u q;rw[pB (W b _ q (fun z=>nomatch z))];exact q
 ·obtain⟨more,q⟩:=I.base.tbls b ps q;exact⟨more,by rw[pB (W b _ q (fun z=>nomatch z))];exact q⟩
theorem aEC{fe:List (Af×Obj)}{σ:St}{H1:Hp}{s1:Ad}{e C D:Af}(I:Inv (fU (CXd P w) P w K mg base N qual scope f cd A outer s H E) fe σ H1 s1)
  (O:H1 e=some (gF e C (some D))) (G:s.heap.get? e=none) (U:E (.ref C) (some D) (hid H1 e)):(fU (CXd P w) P w K mg base N qual scope f cd A outer s H E).xe (.ref e) s1:=by
 have W:Inv (fU (CXr P w) P w K mg base N qual scope f cd A outer s H (fun C _ H'=>E C (some D) H')) fe σ H1 s1:=I.wish (fU (CXr P w) P w K mg base N qual scope f cd A outer s H (fun C _ H'=>E C (some D) H')).xe;have a:=aGk W O G U;have J:s1.heap.FunFrames base (envOfC qual scope s.heap.objs.size f cd :: outer):=I.stack;obtain⟨⟨t,sl,he⟩,_⟩:cX P w H1 s1.heap e (gF e C (some D)):=I.hok _ _ O;have b:=wP (M:=model P w) (A:=A.deeper (envOfC qual scope s.heap.objs.size f cd)) (E:=fun _ _=>False) (s:=s1) (base:=base) (e:=e) I.ok.frames J rfl he rfl rfl rfl;exact Bd (kQ a b) (fun _ s2 ⟨Y,Z⟩=>⟨D,Y,e,rfl,Z⟩) fun _ _ z=>z.2.elim
theorem aED{E':XK}(O:∀ C dx H',E' C dx H'→E C dx H'):rE (CXd P w) (fU (CXd P w) P w K mg base N qual scope f cd A outer s H E) E':=by
 rintro fe σ H1 s1 e G I ⟨D,q,x,rfl,hc⟩;have U:Inv (fU (CXr P w) P w K mg base N qual scope f cd A outer s H (fun C _ H'=>E C (some D) H')) fe σ H1 s1:=I.wish (fU (CXr P w) P w K mg base N qual scope f cd A outer s H (fun C _ H'=>E C (some D) H')).xe;have a:=aEu (P:=P) (w:=w) (E:=fun C _ H'=>E C (some D) H') (E':=fun C _ H'=>E' C (some D) H') (fun C dx H' h=>O _ _ _ h) fe σ H1 s1 (.ref x) G U q;obtain⟨x',C,H2,e',F,_⟩:=q;cases e';obtain⟨B,a0,J,_⟩:=F.ex;have J:E4 B (envOfC qual scope s.heap.objs.size f cd :: outer) x C a0 G.heap:=J;have b:=zJ (M:=model P w) (A:=A.deeper (envOfC qual scope s.heap.objs.size f cd)) (E:=fun _ _=>False) (s:=G) (e:=x) I.ok.frames J.2.2.1 rfl hc;exact Bd (kQ a b) (fun _ G ⟨W,Y⟩=>⟨D,W,x,rfl,Y⟩) fun _ _ z=>z.2.elim
theorem Fun.okRd{x qual:Str}{st:Br}{f:Af}{fd:Ax}{N ps:List Str}{k:Nat}{sp:Sp}(F:Fun K x qual st f fd)(S:bB N ps (aK st))(len:∀ vs H Q E,sp vs H Q E→vs.length=ps.length)
  (J:∀(G:Ab) (A:AB) (outer:List Env) (s:Ad) (H:Hp) (vs:List V) (Q:VK) (E:XK),cJ k (A.deeper (envOfC qual (aK st) s.heap.objs.size f G))→sp vs H Q E→
   ∃ t,PSs (fU (CXd P w) P w K mg base N qual (aK st) f G A outer s H E) (dN st) t∧t { nx:=fun _ H'=>Q .non H',rt:=Q } (start N vs) H):b8 P w K mg base (CXd P w) (k + 1) f fd ps sp:=by
 obtain⟨oc,od,kV,doc,pm,an,G,ct,osl,rfl,lk,hcd⟩:=F.ex;exact aHd lk hcd S len fun A outer s H vs Q E U O=>J G A outer s H vs Q E U O
end
def mV:List Ab→Bool
 | .ref _ :: r=>mV r
 | l=>l == [.type "ValueError",.type "Exception",.type "BaseException",.type "object"]
theorem aDa(self:Ab)(l:List Ab):mV l=true→refuseLoop self "__setattr__" l=pure ():=by
 induction l with
 | nil=>intro e;cases e
 | cons v r G=>
  intro e;cases v with
  | ref c=>rw[refuseLoop_ref];exact G e
  | _=>rw[beq_iff_eq.mp e];exact PySem.F.store_ValueError.passes self
theorem aH8(l:List Ab):mV l=true→l.contains (.type "object")=true:=by
 induction l with
 | nil=>intro e;cases e
 | cons v r G=>
  intro e;cases v with
  | ref c=>rw[List.contains_cons,G e,Bool.or_true]
  | _=>rw[beq_iff_eq.mp e];decide
section
variable{prog:Al}{w:AH}{A:AB}{K:Frag}{C x:Af}{s:Ad}{R:F7→Ad→Prop}
theorem aDb{W:Obj}{od:Option Obj}{name:Str}{tk:Tok}{v:Ab}{r:Option Ab}(X:K.In s.heap)(I:InstAt s.heap x W C od)(U:(clsIn K C).any (fun cd=>mV cd.mro)=true)(ht:takerIn K C name=some r)
  (h:∀ b,wpAny (model prog w) A.in1 (match r with | some a=>Builtin.ObjectAttr.setByDescriptor a (.ref x) v | none=>Builtin.ObjectAttr.storeInOwnDict (.ref x) (.ref C) (.str name tk) name v b)
   (fun J s'=>match J with | .done f=>R (.ok f) s' | .again c'=>c'.quiet=true∧codeAny (model prog w) A c' R s') (fun e s'=>R (.error e) s') s):
  codeAny (model prog w) A (.call (.builtin "object.__setattr__") ⟨[.ref x,.str name tk,v],[]⟩) R s:=by
 have G:=PySem.F.store_object;obtain⟨cd,hc,ho⟩:=any_some U;have ne:cd.mro.isEmpty=false:=by cases q:cd.mro with | nil=>rw[q]at ho;cases ho | cons _ _=>rfl
 have sub:Gd (model prog w) s.heap (isInstance (.ref x) (.type "object")) true:=I.type.andThen (FC X (by unfold mroIn;rw[hc,Option.bind_some,Ia (by rw[ne];decide),aH8 _ ho]));refine Cm G.slot.plain G.entry (@check_slot (model prog w) _ _ s "object.__setattr__" "object" "__setattr__" (.ref x) [.str name tk,v] [] _ G.kind G.split sub (G.args (.ref x) (.str name tk) v) ?_);obtain⟨attr,ha,hr⟩:=Option.bind_eq_some_iff.mp ht;have hm:Gd (model prog w) s.heap (mroOf (.ref C)) cd.mro:=(looks_clsIn X hc).andThen .now;have O:Gd (model prog w) s.heap (Builtin.ObjectAttr.storeTaker? attr) r:=by
  cases attr with
  | none=>cases hr;exact .now
  | some a=>
   obtain⟨b,hb,rfl⟩:=Cr.mp hr;refine(looks_takesIn X hb).andThen ?_;cases b <;> exact .now
 rw[osa_eq,refuse_eq];refine Aa (Aa (I.type.here (Aa (hm.here ?_))));rw[aDa _ _ ho];refine Ag (Aa (I.type.here (Aa ((D4 X ha).here (Aa (O.here ?_))))));exact h _
theorem aGl{E:Ab→Ad→Prop}{name:Str}{v:Ab}{vs sl}{Q:Unit→Ad→Prop}(X:K.In s.heap)(O:s.heap.get? x=some ⟨.ref C,none,.fields vs,sl⟩)
  (Z:findIn K (.ref C) "__setattr__"=some (some (.builtin "object.__setattr__"))) (G:(clsIn K C).any (fun cd=>mV cd.mro)=true) (ht:takerIn K C name=some none) (hh:hasDictIn K C=true)
  (h:∀ h' tk,h'.get? x=some ⟨.ref C,some s.heap.objs.size,.fields vs,sl⟩→(∀ b o,b≠x→s.heap.get? b=some o→h'.get? b=some o)→h'.Ns1 s.heap.objs.size (fun y=>if y=name then some v else none)→Q () { s with heap:=h',toks:=tk }):
  wpAny (model prog w) A (setAttr (.ref x) name v) Q E s:=by
 have J:InstAt s.heap x ⟨.ref C,none,.fields vs,sl⟩ C none:=⟨O,rfl,rfl,B1⟩
 refine set_plain X J Z (aDb (s:={ s with toks:=s.toks + 1 }) (r:=none) X J G ht fun b=>?_);obtain⟨cd,hc,hd'⟩:=any_some hh;refine Aa (Ag (Aa (Aa (wpAny_loadPart O (Aa (Looks.here (s:={ s with toks:=s.toks + 1 }) (looks_clsIn X hc) ?_))))));rw[hd'];obtain⟨G,g,d,t,os⟩:=s;rw[Ia (by decide)];dsimp only at O h ⊢;rw[Ia (by simp[typeHasDict])];have W:(G.push { cls:=.type "dict",data:=.dict #[] }).get? x=some ⟨.ref C,none,.fields vs,sl⟩:=Ah _ O;have Y:x≠G.objs.size:=AQ (Au O);refine Aa (wpAny_alloc' ?_);refine Aa (wpAny_update' W ?_);refine Ag ?_;have aa:((G.push { cls:=.type "dict",data:=.dict #[] }).update x fun o=>{ cls:=o.cls,dict:=some G.objs.size,data:=o.data,slots:=o.slots }).get? G.objs.size
   =some { cls:=.type "dict",data:=.dict #[] }:=
  (DL _ _ _ _ Y.symm).trans (Heap.get?_push_at rfl rfl)
 have ae:((G.push { cls:=.type "dict",data:=.dict #[] }).update x fun o=>{ cls:=o.cls,dict:=some G.objs.size,data:=o.data,slots:=o.slots }).Ns G.objs.size (fun _=>none):=
  ⟨_,#[],_,aa,rfl,fun e he=>absurd he (by simp),fun _=>rfl⟩
 have ac:((G.push { cls:=.type "dict",data:=.dict #[] }).update x fun o=>{ cls:=o.cls,dict:=some G.objs.size,data:=o.data,slots:=o.slots }).get? x=some ⟨.ref C,some G.objs.size,.fields vs,sl⟩:=Bi _ W rfl;have ad:∀ b o,b≠x→G.get? b=some o→((G.push { cls:=.type "dict",data:=.dict #[] }).update x fun o=>{ cls:=o.cls,dict:=some G.objs.size,data:=o.data,slots:=o.slots }).get? b=some o:=fun b o hb e=>(DL _ _ _ _ hb).trans (Ah _ e);show wpAny _ _ (Builtin.ObjectAttr.storeInDict G.objs.size (.str name t) name v) _ _ _;unfold Builtin.ObjectAttr.storeInDict Builtin.ObjectAttr.newKeyGuard;refine Aa (Ag (Aa (wpAny_nsSet1 (Heap.Ns1.of_empty ae) fun h' U Z=>?_)));obtain⟨oD,esD,epD,hoD,hdD,hcD⟩:=U.count (Within.cons name v Within.nil);refine Aa (wpAny_lookBehind hoD (by rw[hdD];exact pastItsLine_dict (AM hcD (by rw[Ak,DE,DP];omega))) ?_);refine Ag (h h' _ ((Z.2 x Y).trans ac) (fun b o hb e=>(Z.2 b (AQ (Au e))).trans (ad b o hb e)) U)
end
structure aH9(K:Frag)(C:Af)(f:Str):Prop where
 sa:findIn K (.ref C) "__setattr__"=some (some (.builtin "object.__setattr__"))
 ov:(clsIn K C).any (fun cd=>mV cd.mro)=true
 na:takerIn K C f=some none
 hd:hasDictIn K C=true
section
variable{X:Cx}{fe:List (Af×Obj)}{σ:St}{H:Hp}{s:Ad}{a C:Af}{f:Str}{v:V}{A:AB}{E:Ab→Ad→Prop}
theorem aDc{y:V}{u:Ab}{Q:Unit→Ad→Prop}(I:Inv X fe σ H s)(e:H a=some (gF a C none))(c:aH9 X.K C f)(W:cR y u)
  (h:∀ D s',H D=none→Inv X fe σ (upd (upd H a (gF a C (some D))) D (.xd [(f,y)])) s'→Q () s'):wpAny (model X.prog X.w) A (setAttr (.ref a) f u) Q E s:=by
 obtain⟨⟨t0,osl,ho⟩,_,st⟩:cX X.prog X.w H s.heap a (gF a C none):=I.hok _ _ e;refine aGl I.kIn ho c.sa c.ov c.na c.hd fun h' tk Z hk hn=>h s.heap.objs.size _ I.fresh ?_;have O:a≠s.heap.objs.size:=AQ (Au ho);have ne:=O.symm;have G:(s.heap.update a fun o=>{ o with dict:=some s.heap.objs.size }).get? a=some ⟨.ref C,some s.heap.objs.size,.fields #[.ref t0,.none,.none,.none,.bool false,.none],osl⟩:=Bi _ ho rfl;have Y:=I.write (x:=a) (e:=a) (o:=gF a C (some s.heap.objs.size)) (h':=s.heap.update a fun o=>{ o with dict:=some s.heap.objs.size }) (t':=s.toks) (by rw[e];exact B1) (.inl rfl)
  (fun b q J z=>(DL _ _ _ _ J).trans z) ⟨_,G⟩ ⟨⟨t0,osl,G⟩,⟨_,G⟩,fun g1 g2 ⟨t,sl,p1⟩ k=>⟨t,sl,k _ p1⟩⟩
 have U:(s.heap.update a fun o=>{ o with dict:=some s.heap.objs.size }).objs.size=s.heap.objs.size:=Heap.size_update _ _ _;refine Y.laid (a:=s.heap.objs.size) (o:=.xd [(f,y)]) (t':=tk) (fun b q z=>?_) (CU U) ⟨_,hn,fun g=>?_⟩
 ·by_cases J:b=a
  ·rw[J]at z ⊢;dsimp only at z;rw[G]at z;cases z;exact Z
  ·exact hk b q J ((DL _ _ _ _ J).symm.trans z)
 ·show lX (Ez g [(f,y)]) _;by_cases q:g=f
  ·rw[Ib q,q];simp only[Ez,beq_self_eq_true];exact W
  ·rw[Ia q];have:(g == f)=false:=beq_false_of_ne q;simp only[Ez,this];exact B1
end
def aJm(K:Frag)(ta tv:TE)(f:Str):TS:=fun D σ H=>tv σ H fun y H1=>ta σ H1 fun x H2=>∃ a C,x=.ref a∧H2 a=some (gF a C none)∧aH9 K C f∧∀ d,H2 d=none→D.nx σ (upd (upd H2 a (gF a C (some d))) d (.xd [(f,y)]))
theorem aGm{X:Cx}{o value:A5}{f:Str}{pos ft:Pos}{ta tv:TE}(ha:PE X o ta)(hv:PE X value tv)(Y:swapsWith value (some (.Attribute o f ft)) pos.line X.env=pure false):PS X (.Assign [.Attribute o f ft] value pos) (aJm X.K ta tv f):=by
 constructor;intro fe s σ H D I h;refine plainObj_wpAny_Assign_Attribute (thn (hv fe s σ H _ I h) fun u s1 ⟨y,H1,O,J,q⟩=>thn (ha fe s1 σ H1 _ O q) fun ov s2 ⟨x,H2,I2,G,a,C,ex,U,c,Z⟩=>?_) Y;subst ex;obtain rfl:ov=AK a:=G;exact aDc I2 U c J fun d s3 nd W=>⟨σ,_,W,Z d nd⟩
inductive aEE(C:Af)(f:Str)(vs:List V)(H:Hp)(Q:VK)(u3_:XK):Prop
 | mk (x:_) (v:_) (q0:vs=[.ref x,v]) (q1:H x=some (gF x C none)) (q2:∀ D,H D=none→Q .non (upd (upd H x (gF x C (some D))) D (.xd [(f,v)]))):aEE C f vs H Q u3_
def aGn(C:Af)(f:Str):Sp:=fun vs H Q u3_=>aEE C f vs H Q u3_
def pC(K:Frag)(C fI:Af)(fw:List Ab)(newId:String):Bool:=match K.lookup C with
 | some ⟨.type "type",_,.cls cd,sl⟩=>(match cd.mro,sl.toList with
  | .ref C' :: bm,[_,_,_,_,some (.builtin n),_]=>C' == C && n == newId && !cd.hasDel && tailIn K fw bm && nsOkIn K cd.ns && nsIn K cd.ns "__init__" == some (some (.ref fI))
  | _,_=>false)
 | _=>false
structure wQ(h:A1)(C fI:Af)(fw:List Ab)(newId:String)(tl:List Ab)(N':Af)(nm q:Str)(bs:List Ab)(hdct:Bool)(sn:List Str)(sub:List Ab)(ab:Bool)(col:Option Bool)(dd:Option Af)(k0 k1 k2 k3 k5:Option Ab)(mN:Str→Option Ab):Prop where
 ob:h.get? C=some (excClassObj nm q C N' bs tl hdct sn sub ab col dd k0 k1 k2 k3 k5 newId)
 ns:h.Ns N' mN
 ni:mN "__init__"=some (.ref fI)
 tl:OwnTail h fw tl
theorem wQ.keeps{h h':A1}{C G:Af}{fw:List Ab}{newId:String}{tl:List Ab}{O:Af}{nm q:Str}{bs:List Ab}{hdct:Bool}{sn:List Str}{sub:List Ab}{ab:Bool}{col:Option Bool}{dd:Option Af}{k0 k1 k2 k3 k5:Option Ab}{J:Str→Option Ab}
  (x:wQ h C G fw newId tl O nm q bs hdct sn sub ab col dd k0 k1 k2 k3 k5 J) (k:∀ b o,h.get? b=some o→h'.get? b=some o):wQ h' C G fw newId tl O nm q bs hdct sn sub ab col dd k0 k1 k2 k3 k5 J:=⟨k _ _ x.ob,x.ns.keeps k,x.ni,x.tl.keeps k⟩
theorem aA2{K:Frag}{h:A1}{N:Af}{mg:Str→Option Ab}{n:Str}{v:Ab}(X:K.In h)(G:h.Ns N mg)(e:nsIn K N n=some (some v)):mg n=some v:=by
 obtain⟨o,es,ep,ho,hd,_,hf⟩:=G;unfold nsIn at e;split at e
 ·rename_i q;have z:=X _ _ q;rw[ho]at z;cases z;cases hd;split at e
  ·rename_i J;cases e;rw[← hf];unfold nsFind findBy;rw[← Array.find?_toList,J];rfl
  ·split at e <;> cases e
 ·cases e
theorem aB0{K:Ae}{h:A1}{C Y:Af}{fw:List Ab}{newId:String}(X:K.In h)(G:pC K C Y fw newId=true):
  ∃ tl N' nm q bs hdct sn sub ab col dd k0 k1 k2 k3 k5 mN,wQ h C Y fw newId tl N' nm q bs hdct sn sub ab col dd k0 k1 k2 k3 k5 mN:=by
 unfold pC at G;split at G
 ·rename_i d1 cl J Z;split at G
  ·rename_i c1 af j0 j1 j2 j3 O j5 W es;simp only[Ay,beq_iff_eq,E5]at G;obtain⟨⟨⟨⟨⟨z1,z2⟩,z3⟩,z4⟩,z5⟩,z6⟩:=G;subst z1 z2;have U:J=#[j0,j1,j2,j3,some (.builtin O),j5]:=CP.mp es;cases cl;simp only at W z3 z5 z6;subst W z3 U;exact⟨_,_,_,_,_,_,_,_,_,_,_,_,_,_,_,_,_,X _ _ Z,.of_isNs (isNs_of_in X z5),aA2 X (.of_isNs (isNs_of_in X z5)) z6,tail_of_in X z4⟩
  ·cases G
 ·cases G
section
variable{P:Al}{w:AH}{K:Ae}{mg:Str→Option Ab}{base:A1}{N:List Str}{qual:Str}{scope:Cq}{f:Af}{cd:Ab}{A:AB}{outer:List Env}{s:Ad}{H:Hp}{E:XK}
theorem aGo{X:Cx}{C W:Af}{U:Ax}{kI:Nat}{fn n1 n2:Str}{B newId fu:String}{fw:List Ab}{fe:List (Af×Obj)}{σ:St}{H:Hp}{s:Ad}{v:V}{u:Ab}{Q:Ab→Ad→Prop}(FB:Ft B newId fu fw)(hq:pC X.K C W fw newId=true)
  (F:b8 X.prog X.w X.K X.mg X.base CX0 kI W U [n1,n2] (aGn C fn)) (hr:cJ (kI + 1) X.A) (hb:dH X.K U [n1,n2] []) (hf:isFn X.K (.ref W)=true) (I:Inv X fe σ H s) (r:cR v u)
  (h:∀ e D H' s',X.s₀.heap.get? e=none→H e=none→H D=none→D≠e→H'=upd (upd H e (gF e C (some D))) D (.xd [(fn,v)])→Inv X fe σ H' s'→Q (.ref e) s'):wpAny (model X.prog X.w) X.A (call (.ref C) [u]) Q X.xe s:=by
 obtain⟨hp,g,d,t,os⟩:=s;obtain⟨tl,N',nm,q,bs,hdct,sn,sub,ab,col,dd,k0,k1,k2,k3,k5,mN,hO⟩:=aB0 (C:=C) I.kIn hq;obtain⟨Y,hoI,hcI⟩:∃ Y,hp.get? W=some Y∧Y.cls=.type "function":=by
  have e:=beq_iff_eq.mp hf;obtain⟨o,ho,hc⟩:=Cr.mp e;exact⟨o,I.kIn _ _ ho,hc⟩
 have aa:∀ b o,hp.get? b=some o→(hp.push { cls:=.type "tuple",data:=.seq [u].toArray }).get? b=some o:=fun b o e=>Ah _ e;have I1:Inv X fe σ H { heap:=hp.push { cls:=.type "tuple",data:=.seq [u].toArray },gens:=g,drawn:=d,toks:=t,os:=os }:=I.kept (t':=t) aa;have sz:(hp.push { cls:=.type "tuple",data:=.seq [u].toArray }).objs.size=hp.objs.size + 1:=B6 _ _;have J:(iL hp C [u]).get? (hp.objs.size + 1)=some (aA0 C hp.objs.size):=by heap_get
 have I2:=I1.laid (a:=hp.objs.size + 1) (o:=gF (hp.objs.size + 1) C none) (h':=iL hp C [u]) (t':=t) (fun b o e=>Ah _ e) (CU sz)
  ⟨⟨_,_,J⟩,⟨_,J⟩,fun g1 g2 ⟨t,sl,p1⟩ k=>⟨t,sl,k _ p1⟩⟩
 have Z:H (hp.objs.size + 1)=none:=I.hok.fresh (Cs _);refine aA1 FB hO.tl hO.ob hO.ns hO.ni hoI hcI ?_ (by rw[DP];show 1≤_;decide);have ad:cJ kI _:=hr.make C [u] [];refine Cd (CG (F.run _ X.stack _ _ ⟨[.ref (hp.objs.size + 1),u],[]⟩ [.ref (hp.objs.size + 1),u] [.ref (hp.objs.size + 1),v] (fun w H'=>w=.non∧∃ D,H D=none∧D≠hp.objs.size + 1∧H'=upd (upd H (hp.objs.size + 1) (gF (hp.objs.size + 1) C (some D))) D (.xd [(fn,v)])) E0 ad
  (I2.env0.make C [u] []) (hb _ [.ref (hp.objs.size + 1),u] I2.kIn rfl) (.cons rfl (.cons r .nil)) ⟨_,_,rfl,aD,fun D O=>⟨rfl,D,?_,?_,?_⟩⟩) fun r s' G=>?_)
 ·rw[bD (fun z=>by rw[z,aD]at O;cases O)]at O;exact O
 ·exact fun z=>by rw[z,aD]at O;cases O
 ·rw[aBv]
 ·cases r with
  | error e=>exact Bx G
  | ok fl=>
   cases fl with
   | ret w'=>
    obtain⟨v',H',I3,rv,ev,D,q1,q2,q3⟩:=I2.after G;subst ev;refine⟨rv,h _ D H' s' ?_ Z q1 q2 q3 I3⟩;cases z:X.s₀.heap.get? (hp.objs.size + 1)with
    | none=>rfl
    | some o=>
     have l1:=Au z;have l2:X.s₀.heap.objs.size≤hp.objs.size:=I.sz;exact absurd (AR l1 l2) (Nat.not_lt.mpr (Cs _))
   | next=>exact Bx G
   | brk=>exact Bx G
   | cont=>exact Bx G
end
section
variable{prog:Al}{w:AH}{A:AB}{E:Ab→Ad→Prop}{env:Env}{nm q:Str}{C N:Af}{bs bm:List Ab}{hdct:Bool}{sn:List Str}{sub:List Ab}{ab:Bool}{col:Option Bool}{dd:Option Af}{k0 k1 k2 k3 k5:Option Ab}{newId:String}
theorem aDd{s:Ad}{U:Sem Ab}{Q:Flow→Ad→Prop}(G:bm.contains (.type "BaseException")=true)(Y:A.handled=none)
  (h:wpAny (model prog w) A U (fun v J=>∃ e t dx W,v=.ref e∧J.heap.get? C=some (excClassObj nm q C N bs bm hdct sn sub ab col dd k0 k1 k2 k3 k5 newId)∧J.heap.get? e=some ⟨.ref C,dx,.fields #[.ref t,.none,.none,.none,.bool false,.none],W⟩∧E (.ref e) J) E s):
  wpAny (model prog w) A (raiseStmt env (some U) none) Q E s:=by
 have O:(AK C :: bm).contains (.type "BaseException")=true:=by rw[List.contains_cons,G,Bool.or_true]
 unfold raiseStmt;refine Aa (Bd h (fun v J Z=>?_) fun _ _ x=>x);obtain⟨e,t,dx,W,rfl,hC,he,hE⟩:=Z;obtain⟨hp,g,d,tk,os⟩:=J;dsimp only at hC he
 repeat (first | with_reducible refine Dt he ?_ | with_reducible refine Dt hC ?_ | (with_reducible refine wpAny_isSubtype_exc hC ?_;rw[O]) | wp_step)
 exact wpAny_raiseNew_none Y hE
end
section
variable{P:Al}{w:AH}{K:Ae}{mg:Str→Option Ab}{base:A1}{N:List Str}{qual:Str}{scope:Cq}{f:Af}{cd:Ab}{A:AB}{outer:List Env}{s:Ad}{H:Hp}{E:XK}
theorem pE{x:Str}{C fI:Af}{O:Ax}{kI:Nat}{fn n1 n2:Str}{B newId fu:String}{fw:List Ab}{np fh pos:Pos}{Y:A5}{t:TA}(FB:Ft B newId fu fw)(hg:Gl (fU (CXd P w) P w K mg base N qual scope f cd A outer s H E) x)(hm:mg x=some (.ref C))(hq:pC K C fI fw newId=true)
  (FI:b8 P w K mg base CX0 kI fI O [n1,n2] (aGn C fn)) (hr:cJ (kI + 1) (A.deeper (envOfC qual scope s.heap.objs.size f cd))) (hb:dH K O [n1,n2] []) (hf:isFn K (.ref fI)=true) (ha:PA (fU (CXd P w) P w K mg base N qual scope f cd A outer s H E) [Y] t)
  (he:starEach [Y] (fU (CXd P w) P w K mg base N qual scope f cd A outer s H E).env=[(false,eval Y (fU (CXd P w) P w K mg base N qual scope f cd A outer s H E).env)]:=by rfl) (hd:(x == ("__debug__":Str))=false:=by decide):
  PS (fU (CXd P w) P w K mg base N qual scope f cd A outer s H E) (.Raise (some (.Call (.Name x np) [Y] [] fh)) none pos) (fun D σ H1=>t σ H1 fun vs H2=>∃ v,vs=[v]∧∀ D,H2 D=none→E (.ref C) (some D) (upd H2 D (.xd [(fn,v)]))):=by
 constructor;intro fe s1 σ H1 D I h;obtain⟨tl,N',nm,q,bs,hdct,sn,sub,ab,col,dd,k0,k1,k2,k3,k5,mN,hO⟩:=aB0 (C:=C) I.ok.mod.kin hq;have o1:=hO.keeps I.bk;rw[arm_exec_Raise];refine Aa (DN (aDd (C:=C) (nm:=nm) (q:=q) (N:=N') (bs:=bs) (bm:=tl) (hdct:=hdct) (sn:=sn) (sub:=sub) (ab:=ab) (col:=col) (dd:=dd) (k0:=k0) (k1:=k1) (k2:=k2) (k3:=k3) (k5:=k5) (newId:=newId) (o1.tl.hasType FB.hasBase) (I.ok.hd rfl) ?_));refine Aa (Bd (wpAny_Call_ofName (Bd ((bZ (v:=.ref C) hg hm rfl hd).run fe s1 σ H1 (fun v H'=>v=.ref C∧H'=H1) I ⟨rfl,rfl⟩) (fun u s2 hu=>?_) fun _ _ y=>y)) (fun v s₃ h₃=>Aa (DN (Ag h₃))) fun _ _ x=>x);obtain⟨v,H2,I2,rv,rfl,rfl⟩:=hu;cases rv;have G:=ha fh fe s2 σ H2 _ I2 h;unfold callWith;refine Aa (A7 (Bd (Q:=fun a Z=>∃ v u J,a=⟨[u],[]⟩∧Inv (fU (CXd P w) P w K mg base N qual scope f cd A outer s H E) fe σ J Z∧cR v u∧∀ D,J D=none→E (.ref C) (some D) (upd J D (.xd [(fn,v)]))) ?_ (fun a Z h3=>Aa (DN ?_)) fun _ _ x=>x))
 ·rw[he]at G ⊢;refine Ew (Bd G (fun us Z hu=>?_) fun _ _ y=>y);obtain⟨vs,J,I3,U,v,rfl,hE⟩:=hu;cases U with
  | cons r U=>cases U;exact⟨_,_,J,rfl,I3,r,hE⟩
 ·obtain⟨v,u,J,rfl,I3,U,hE⟩:=h3;have o3:=hO.keeps I3.bk;obtain⟨hp,g,d,tk,os⟩:=Z;rw[he];simp only[backTo];refine Aa (wpAny_keeperOf_exc o3.ob ?_);refine Aa (aGo FB hq FI hr hb hf I3 U fun e D H' s' n0 ne nD W eH I4=>Aa (A7 (wpAny_point (Ag ?_))));have hx:H' e=some (gF e C (some D)):=by rw[eH,bD (CL W),aD]
  obtain⟨⟨t0,sl,ho⟩,_⟩:cX P w H' s'.heap e (gF e C (some D)):=I4.hok _ _ hx;refine⟨e,t0,some D,sl,rfl,(hO.keeps I4.bk).ob,ho,aEC I4 hx n0 ?_⟩;have eh:hid H' e=upd J D (.xd [(fn,v)]):=by
   rw[eH];funext b;unfold hid;by_cases z:b=e
   ·rw[Ib z,z,bD (CL W),ne]
   ·rw[Ia z];unfold upd;simp only[Ia z]
  rw[eh];exact hE D nD
end
def j9(y:Af)(C:Ab)(D:Af):HO:=.ext fun h=>∃ ob vs,h.get? y=some ob∧ob.cls=C∧ob.data=.fields vs∧ob.dict=some D
theorem aEF{prog:Al}{w:AH}{A:AB}{E:Ab→Ad→Prop}{s:Ad}{K:Ae}{C y D:Af}{name:Str}{v:Ab}{ob:Obj}{vs:Array Ab}{mA:Str→Option Ab}{ex:Bool}{Q:Ab→Ad→Prop}(k:sY K C)(X:K.In s.heap)
  (O:s.heap.get? y=some ob) (hc:ob.cls=.ref C) (hd:ob.data=.fields vs) (Z:ob.dict=some D) (hn:s.heap.Ns1 D mA) (ha:findIn K (.ref C) name=some none) (hv:mA name=some v) (Y:handedIn v=true) (q:Q v { s with toks:=s.toks + 1 }):
  wpAny (model prog w) A (getAttr (.ref y) name ex) Q E s:=by
 obtain⟨od,hod,hl⟩:=uW hn;have J:W.InstAt s.heap y ob C (some od):=⟨O,hc,by unfold notCls;rw[hd],by rw[Z];exact hod⟩
 obtain⟨hp,g,d,t,os⟩:=s;have p:p5 y (.ref C) hp:=⟨ob,vs,O,hc,hd⟩
 have U:=p.ty (M:=model prog w);have b1:=D4 (M:=model prog w) X k.ga;have b2:=D4 (M:=model prog w) X k.gn;have b3:=looks_find (M:=model prog w) X J (findObj_own k.hd ha rfl (by rw[hl,hv]));have f3:=DM.ga.bind (.ref y);unfold getAttr getAttrBy;refine Aa (wpAny_mkText (A7 (Aa (U.at (Aa (b1.at ?_))))));show wpAny _ _ (if (onTheHeap (.ref C) && Cv "BaseException.__getattribute__" == Cv "object.__getattribute__")=true then _ else getAttrByItsOwn _ _ _ _ _ _) _ _ _;have G:(Cv "BaseException.__getattribute__" == Cv "object.__getattribute__")=false:=by decide
 rw[Ia (by rw[G,AI];exact AG)];unfold getAttrByItsOwn hookBefore;refine Aa ?_;show wpAny _ _ (typeLookup (.ref C) "__getattr__") _ _ _;refine b2.at ?_;refine Aa (Da (A7 ?_));unfold callGetattribute;rw[Ia (by show¬ ((ex && false)=true);rw[AI];exact AG)];unfold boundAndCalled;rw[f3];refine Aa (Ag ?_);refine Cd (Cm DM.ga.plain F.entry_bexc_ga (vM k X p ?_));unfold Builtin.«object.__getattribute__»;refine Aa (Ag (Aa (Ag (Aa (U.at (Aa (b3.at ?_)))))));refine Ag ?_;show wpAny _ _ (handedOut v) _ _ _;rw[handedOut_of Y];exact Ag q
section
variable{X:Cx}{e:A5}{f:Str}{pos:Pos}{ta:TE}
def aJn(K:Frag)(ta:TE)(f:Str):TE:=fun σ H Q=>ta σ H fun x H1=>∃ y C D fs v,x=.ref y∧H1 y=some (j9 y (.ref C) D)∧H1 D=some (.xd fs)∧sY K C∧findIn K (.ref C) f=some none∧fs.lookup f=some v∧Q v H1
theorem aGp(W:PE X e ta)(Y:attributeBase e f X.env (eval e X.env)=eval e X.env):PE X (.Attribute e f pos) (aJn X.K ta f):=by
 constructor;intro fe s σ H Q I h;refine aFZ Y (thn (W fe s σ H _ I h) fun u s1 ⟨x,H1,G,J,y,C,D,fs,v,ex,O,U,c,n,l,q⟩=>?_);subst ex;obtain rfl:u=AK y:=J;obtain⟨⟨ob,vs,ho,hc,hd,hD⟩,_⟩:cX X.prog X.w H1 s1.heap y (j9 y (.ref C) D):=G.hok _ _ O;obtain⟨mA,hn,r⟩:cX X.prog X.w H1 s1.heap D (.xd fs):=G.hok _ _ U;obtain⟨u,hu,ru⟩:=lX.some_of (v:=v) (o:=mA f) (by rw[← l];exact r f);exact aEF c G.kIn ho hc hd hD hn n hu (aCN ru) ⟨v,H1,G.tok _,ru,q⟩
inductive jB(K:Ae)(xs:List V)(H:Hp)(Q:VK):Prop
 | mk (y C D:Af) (v:V) (c:Ab) (b:Bool) (q0:xs=[.ref y,v]) (q1:(∀ u,cR v u→u=c)) (q2:H y=some (j9 y (.ref C) D)) (q3:sY K C) (q4:kitOne K (.ref C) c=some b) (q5:Q (.bl b) H):jB K xs H Q
def tH(K:Ae):List V→Hp→VK→Prop:=fun xs H Q=>jB K xs H Q
theorem oJ:fT X (.builtin "isinstance") (tH X.K):=by
 intro fe s σ H xs O Q I r h;obtain⟨y,C,D,v,c,b,rfl,hv,hy,k,e,q⟩:=h;cases r with
 | cons J r=>
 cases r with
 | cons G r=>
 cases r;cases(show _=AK y from J);cases hv _ G;obtain⟨⟨ob,vs,ho,hc,hd,_⟩,_⟩:cX X.prog X.w H s.heap y (j9 y (.ref C) D):=I.hok _ _ hy;exact kia_one (zG k) I.kIn ⟨ob,vs,ho,hc,hd⟩ e (fun z=>nomatch z) fun tk=>⟨.bl b,H,I.tok tk,rfl,q⟩
inductive iM(K:Ae)(xs:List V)(H:Hp)(Q:VK):Prop
 | mk (y C D tp:Af) (cs:List Af) (b:Bool) (q0:xs=[.ref y,.ref tp]) (q1:H tp=some (.tup (cs.map V.ref))) (q2:H y=some (j9 y (.ref C) D)) (q3:sY K C) (q4:kitAny K (.ref C) (cs.map AK)=some b) (q5:Q (.bl b) H):iM K xs H Q
def qK(K:Ae):List V→Hp→VK→Prop:=fun xs H Q=>iM K xs H Q
theorem mB:fT X (.builtin "isinstance") (qK X.K):=by
 intro fe s σ H xs O Q I r h;obtain⟨y,C,D,tp,cs,b,rfl,ht,hy,k,e,q⟩:=h;cases r with
 | cons J r=>
 cases r with
 | cons G r=>
 cases r;cases(show _=AK y from J);cases(show _=AK tp from G);obtain⟨⟨ob,vs,ho',hc',hd',_⟩,_⟩:cX X.prog X.w H s.heap y (j9 y (.ref C) D):=I.hok _ _ hy;obtain⟨_,its,rv,hT⟩:cX X.prog X.w H s.heap tp (.tup (cs.map V.ref)):=I.hok _ _ ht;obtain⟨⟨cls,dd,data,sl⟩,ho,hc,n,hd⟩:=hT.tup;simp only at hc hd;subst hc hd;obtain rfl:=aBX rv;exact kia_tup (zG k) I.kIn ⟨ob,vs,ho',hc',hd'⟩ ho e (fun z=>nomatch z) fun tk=>⟨.bl b,H,I.tok tk,rfl,q⟩
end
inductive aHq(X:Cx)(fe:List (Af×Obj))(σ:St)(E':XK)(x:Ab)(s':Ad):Prop
 | mk (H1:_) (s1:_) (q0:Inv X fe σ H1 s1) (q1:CXd X.prog X.w X.stack H1 s1 E' x s'):aHq X fe σ E' x s'
def XPd(X:Cx)(fe:List (Af×Obj))(σ:St)(E':XK)(x:Ab)(s':Ad):Prop:=aHq X fe σ E' x s'
structure PXd(X:Cx)(e:A5)(te:XK→TE):Prop where
 run:∀(E':XK) (fe:List (Af×Obj)) (s:Ad) (σ:St) (H:Hp) (Q:VK),Inv X fe σ H s→te E' σ H Q→wpAny (model X.prog X.w) X.A (eval e X.env) (EP X fe σ Q) (XPd X fe σ E') s
structure aJo(X:Cx)(b:List Br)(tb:XK→TS):Prop where
 run:∀(E':XK) (fe:List (Af×Obj)) (s:Ad) (σ:St) (H:Hp) (D:kC),Inv X fe σ H s→tb E' D σ H→wpAny (model X.prog X.w) X.A (execs b X.env) (SP X fe D) (XPd X fe σ E') s
section
variable{X:Cx}{k:Nat}{f:Af}{fd:Ax}{ps:List Str}{sp:Sp}{x:Str}{p pos:Pos}{e:A5}{es:List A5}{t:TA}{te:XK→TE}
theorem aGq{fe:List (Af×Obj)}{σ:St}{H:Hp}{s:Ad}{Q:VK}{E':XK}{G:List Ab}{vs:List V}(F:b8 X.prog X.w X.K X.mg X.base (CXd X.prog X.w) k f fd ps sp)(W:cJ k X.A)(Z:dH X.K fd ps [])
  (I:Inv X fe σ H s) (r:cF vs G) (h:sp vs H Q E'):wpAny (model X.prog X.w) X.A (call (.ref f) G) (EP X fe σ Q) (XPd X fe σ E') s:=by
 have U:G.length=ps.length:=by rw[← r.length];exact F.len _ _ _ _ h
 have J:=Z s G I.kIn (by rw[Ce];exact U);rw[Ce]at J;refine Cd (CG (F.run X.A X.stack s H ⟨G,[]⟩ G vs Q E' W I.env0 J r h) fun r s' O=>?_);cases r with
 | error e=>exact⟨H,s,I,O⟩
 | ok Y=>
  cases Y with
  | ret u=>exact I.after O
  | next=>exact Bx O
  | brk=>exact Bx O
  | cont=>exact Bx O
inductive aEG(X:Cx)(k:Nat)(ps:List Str)(f:Af)(sp:Sp):Prop
 | mk (fd:Ax) (q0:b8 X.prog X.w X.K X.mg X.base (CXd X.prog X.w) k f fd ps sp) (q1:Az X.K (.ref f)=true) (q2:dH X.K fd ps []):aEG X k ps f sp
def aJ1(X:Cx)(k:Nat)(ps:List Str)(f:Af)(sp:Sp):Prop:=aEG X k ps f sp
theorem aDe{tv:TE}(Z:PE X.nox (.Name x p) tv)(Y:cJ k X.A)(ha:PA X.nox (e :: es) t)
  (he:starEach (e :: es) X.env=(false,eval e X.env) :: starEach es X.env:=by rfl) (G:(backTo pos (starEach es X.env)).any (·.1)=false:=by rfl):
  PXd X (.Call (.Name x p) (e :: es) [] pos) (fun E'=>fun σ H Q=>tv σ H fun v H1=>∃(f:Af) (sp:Sp),v=.ref f∧aJ1 X k ps f sp∧t σ H1 fun vs H2=>sp vs H2 Q E'):=by
 constructor;intro E' fe s σ H Q I h;refine Dm (Bd (Z fe s σ H _ (I.wish _) h) (fun u s1 ⟨y,H1,U,O,f,sp,W,⟨fd,F,hk,hb⟩,h2⟩=>?_) fun _ _ z=>Bx z);subst W;cases O;refine EE (h₀:=X.base) I.ok.mod.kin hk (Bd (ha pos fe s1 σ H1 _ U h2) (fun us s2 ⟨vs,H2,J,r,q⟩=>⟨J.kIn,?_⟩) fun _ _ z=>Bx z) he G;exact aGq F Y hb J.unwish r q
theorem aEH{i:Nat}{ft:Pos}(hN:X.N.Nodup)(hi:X.N[i]?=some x)(J:Loc X.env.scope x)(Z:PXd X e te)(U:swapsWith e (some (.Name x ft)) pos.line X.env=pure false:=by rfl)(W:X.fn x=true∨X.env.scope.names.lookup x=some .local:=by first | exact .inl rfl | exact .inr rfl | assumption):
  aJo X [.Assign [.Name x ft] e pos] (fun E' D σ H=>te E' σ H fun v H1=>D.nx (σ.set i (some v)) H1):=by
 constructor;intro E' fe s σ H D I h;refine Fw (wpAny_Assign_Name (thn (Z.run E' fe s σ H _ I h) fun v s1 ⟨y,H1,G,r1,O⟩=>?_) U);exact m9 G hN hi J r1 (fun s2 Y=>Dc ⟨_,H1,Y,O⟩) W
end
theorem Fly.trackE{X:Cx}{fe:List (Af×Obj)}{σ:St}{H H':Hp}{s s':Ad}{x D:Af}{C:Ab}(I:Inv X fe σ H s)(ae:X.stack=X.env :: X.outer)(ad:X.env.frame=some X.env.locals)(aa:X.ex=[])(F:Fly X.prog X.w X.stack H H' s x C s')(dt:tE s'.heap x D):
  H' x=none∧Inv X fe σ (upd H' x (j9 x C D)) s':=by
 have G:=I.caught F;obtain⟨ob,vs,ho,hc,hd⟩:=F.obj;have ac:ob.dict=some D:=by
  obtain⟨ob',_,_,_,_,z1,_,z3,_⟩:=dt;rw[ho]at z1;cases z1;exact z3
 obtain⟨B,a0,fl,hokB,hkB,htB⟩:=F.ex;have hB:B.get? x=none:=fl.2.1;have hn:H' x=none:=by
  cases q:H' x with
  | none=>rfl
  | some o=>
   obtain⟨o',e⟩:=aAZ (hokB x o q);rw[hB]at e;cases e
 have Y:∀ b∈frs X.stack,b≠x:=fun b J z=>by
  obtain⟨_,o,e,h⟩:=fl.2.2.1.mem J;rw[z,ho]at e;cases e;exact h vs hd
 have Z:X.env.locals∈frs X.stack:=by rw[ae];exact Bl.mpr ⟨_,AV,ad⟩
 have O:∀ b o,s.heap.get? b=some o→b≠x:=fun b o e z=>by
  by_cases J:b∈frs X.stack
  ·exact Y b J z
  ·obtain⟨o',e'⟩:=htB b o e J;rw[z,hB]at e';cases e'
 have W:∀ b o,X.s₀.heap.get? b=some o→b≠x:=fun b o e=>by
  obtain⟨o',e'⟩:=I.base.there b o e (by rw[aa];simp);exact O b o' e'
 have U:∀ b u,H' b=some u→b≠x:=fun b u e=>bX e hn;refine⟨hn,⟨G.ok,G.os,G.bare,⟨G.base.keep,G.base.slot,fun b o e n hx=>?_,G.base.there,fun b xs e=>?_,fun b o u e=>?_,fun b ps e=>?_⟩,G.loc,G.cell,?_,fun y c e=>?_,fun p hp=>?_,fun b o e=>?_,G.len⟩⟩
 ·rw[bD (W b o e)];exact G.base.free b o e n hx
 ·have q:=G.base.tups b xs e;rw[bD (U b _ q)];exact q
 ·have q:=G.base.frzs b o u e;rw[bD (U b _ q)];exact q
 ·obtain⟨more,q⟩:=G.base.tbls b ps e;exact⟨more,by rw[bD (U b _ q)];exact q⟩
 ·rw[bD (Y _ Z)];exact G.free
 ·obtain⟨v,o,e2,h2⟩:=G.cell y c e;rw[bD fun z=>by rw[z,ho]at e2;cases e2;rw[hd]at h2;cases h2];exact G.freeC y c e
 ·obtain⟨e,n,ne,nf,d⟩:=G.pin p hp;refine⟨e,?_,ne,nf,d⟩;rw[bD (O _ _ (I.pin p hp).1)];exact n
 ·by_cases J:b=x
  ·subst J;rw[aD]at e;cases e;exact⟨⟨ob,vs,ho,hc,hd,ac⟩,⟨ob,ho⟩,fun h1 h2 ⟨o1,v1,e1,c1,d1,g1⟩ k=>⟨o1,v1,k _ e1,c1,d1,g1⟩⟩
  ·rw[bD J]at e;exact(G.hok b o e).stay (fun c v _ q=>q) (fun c q=>by rw[bD (U c _ q)];exact q) fun c xs q=>by rw[bD (U c _ q)];exact q
theorem aDf{X:Cx}{U:List Br}{tb:XK→TS}{ie:Nat}{dn n:Str}{C0:Af}{b₀:Br}{O:List Br}{th:TS}{np ad pos:Pos}
  (G:X.stack=X.env :: X.outer) (Y:X.env.frame=some X.env.locals) (ag:X.ex=[]) (hb:aJo X U tb) (hg:Gl X dn) (hm:X.mg dn=some (.ref C0)) (hN:X.N.Nodup) (J:X.N[ie]?=some n) (hn:X.env.scope.names.lookup n=some .local)
  (hh:∀ v,PSs (X.hand v) (b₀ :: O) th) (hd:(dn == ("__debug__":Str))=false:=by decide):
  PS X (.Try U [.ExceptHandler (some (.Name dn np)) (some n) (b₀ :: O) ad] [] [] pos) (fun D σ H=>tb (fun C dx H'=>exmOne X.K C (.ref C0)=some true∧∀ y d,dx=some d→H' y=none→th (unE ie D) (σ.set ie (some (.ref y))) (upd H' y (j9 y C d))) D σ H):=by
 constructor;intro fe s σ H D I h;refine wpAny_Try_except (Bd (hb.run _ fe s σ H D I h) (fun f s1 r=>?_) fun e s1 z=>?_)
 ·cases f with
  | next=>exact Dc r
  | _=>exact r
 ·obtain⟨H1,s0,I1,dD,⟨x,C,H',rfl,F,hx,hy⟩,x',ex,hc⟩:=z;cases ex;have aa:s0.heap.FunFrames X.base (X.env :: X.outer):=G ▸ I1.stack;have F':Fly X.prog X.w (X.env :: X.outer) H1 H' s0 x C s1:=G ▸ F;have a:=F'.lands (M:=model X.prog X.w) (A:=X.A) (Q:=fun _ _=>False) (E:=fun _ _=>False) (R:=fun s4=>∃ Z,s4={ s1 with heap:=Z }∧Fly X.prog X.w (X.env :: X.outer) H1 H' s0 x C s4) aa (G ▸ I1.ok.frames) Y fun Z F5=>⟨Z,rfl,F5⟩
  obtain⟨B',a0,fl,_⟩:=F'.ex;have b:=tG (M:=model X.prog X.w) (A:=X.A) (E:=fun _ _=>False) (s:=s1) (e:=x) (G ▸ I1.ok.frames) fl.2.2.1 Y hc;refine Bd (kQ a b) (fun _ s3 ⟨q1,q2⟩=>?_) fun _ _ z=>z.2.elim;refine Bd (kQ q1 (oH (E:=fun _ _=>False) q2)) (fun _ s4 ⟨⟨Z,e5,F5⟩,ah⟩=>?_) fun _ _ z=>z.2.elim;subst e5;have I5:=I1.caught (s':={ s1 with heap:=Z }) (by rw[G];exact F5);refine wpAny_handleBy_cons (codeAny_handlers_test ?_) (by intro q;cases q);refine v7 (X:=X.hand (.ref x)) (I5.hand _) hg hm ?_ hd;obtain⟨ob,vs,ho,hc,hd5⟩:=F5.obj;have LT:Gd (model X.prog X.w) Z (typeOf (.ref x)) C:=by
   rw[← hc];unfold typeOf;exact(Looks.ld ho).andThen .now
  refine(exm_one (M:=model X.prog X.w) I5.kIn LT hx).at ?_;refine codeAny_handlers_suite_as ?_;refine Bd (kQ (F5.again (M:=model X.prog X.w) (E:=fun _ _=>False) (R:=fun s6=>∃ h6,s6={ s1 with heap:=h6 }∧Fly X.prog X.w (X.env :: X.outer) H1 H' s0 x C s6) aa fun h6 F6=>⟨h6,rfl,F6⟩) (oH (E:=fun _ _=>False) ah)) (fun _ s6 ⟨⟨h6,e6,F6⟩,aj⟩=>?_) fun _ _ z=>z.2.elim;subst e6;obtain⟨hnx,I6⟩:=Fly.trackE (s':={ s1 with heap:=h6 }) I1 G Y ag (by rw[G];exact F6) aj;refine m9 (X:=X.hand (.ref x)) (I6.hand _) hN J (.inl hn) (v:=.ref x) rfl (fun s7 I7=>?_) (.inr hn);refine Bd ((hh (.ref x)).run fe s7 _ _ (unE ie D) I7 (hy x dD rfl hnx)) (fun f s8 r=>?_) fun _ _ z=>Bx z;cases f with
  | next=>
   obtain⟨σ',H'',I8,q⟩:=r;exact lM (I8.unhand I.ok) hN J hn fun s9 W=>⟨_,_,W,q⟩
  | brk=>
   obtain⟨σ',H'',I8,q⟩:=r;exact lM (I8.unhand I.ok) hN J hn fun s9 W=>⟨_,_,W,q⟩
  | cont=>
   obtain⟨σ',H'',I8,q⟩:=r;exact lM (I8.unhand I.ok) hN J hn fun s9 W=>⟨_,_,W,q⟩
  | ret u=>
   obtain⟨v,σ',H'',I8,rr,q⟩:=r;exact lM (I8.unhand I.ok) hN J hn fun s9 W=>⟨v,_,_,W,rr,q⟩
def oK(c n:Nat):Str:=⟨(Co n c).toArray⟩
theorem zK(c:Nat):∀(n:Nat) (a:Array Nat),(Co n (#[c]:Array Nat)).foldl (· ++ ·) a=a ++ (Co n c).toArray
 | 0,a=>by simp
 | n + 1,a=>by
  rw[List.replicate_succ,Fl,zK c n,List.replicate_succ];apply CP.mp;simp
inductive p8(x:V)(y:V)(H:Hp)(Q:VK):Prop
 | mk (c:_) (k:_) (q0:x=.str ⟨#[c]⟩) (q1:y=.int k) (q2:1 < k) (q3:k < 1000) (q4:Q (.str (oK c k.toNat)) H):p8 x y H Q
def aDg:V→V→Hp→VK→Prop:=fun x y H Q=>p8 x y H Q
theorem aB1{X:Cx}:OpR X (binaryOp .Mult) aDg:=by
 intro fe s σ H x y v u Q I O J h;obtain⟨c,k,rfl,rfl,h1,h2,q⟩:=h;obtain⟨t,rfl⟩:=O;obtain⟨t',rfl⟩:=J;have G:(⟨#[c]⟩:Str).length=1:=rfl;refine PySem.P.mul_str (by rw[decide_eq_false (by omega),decide_eq_false (by omega)];rfl) (fun _ _=>by
  rw[G];have:(1:Int)≤(2 ^ 63 - 1) / k:=Int.le_ediv_of_mul_le (by omega) (by omega);omega) (fun _ _=>by
  rw[G];exact decide_eq_false (by rw[Nat.one_mul,DP];omega)) ?_
 rw[Ia (by omega),Ia (by
  rw[G];have:(k == 1)=false:=beq_false_of_ne (by omega);rw[this];decide)]
 have e:(⟨(Co k.toNat (⟨#[c]⟩:Str).cps).foldl (· ++ ·) #[]⟩:Str)=oK c k.toNat:=by
  unfold oK;show(⟨(Co k.toNat (#[c]:Array Nat)).foldl (· ++ ·) #[]⟩:Str)=_
  rw[zK];simp
 rw[e];refine⟨?_,.str (oK c k.toNat),H,I.tok _,⟨_,rfl⟩,q⟩;refine aF ?_;show(Co k.toNat c).toArray.size≤1000000;rw[Ao,List.length_replicate];omega
inductive aEI(x:V)(xs:List V)(H:Hp)(Q:VK):Prop
 | mk (z y:E7) (h0:x=.str z) (h1:xs=[.str y]) (hy:(y.length == 0)=false) (hz:z.length≤sizeLine) (q:∀ t,H t=none→Q (.ref t) (upd H t (.tup [.str (BJ z y).1,.str (BJ z y).2.1,.str (BJ z y).2.2]))):aEI x xs H Q
def aJp:V→List V→Hp→VK→Prop:=fun x xs H Q=>aEI x xs H Q
theorem wR{X:Cx}:MtR X "str.partition" aJp:=by
 intro fe s σ H x xs v Y Q I W r h;obtain⟨z,y,rfl,rfl,hy,hz,q⟩:=h;obtain⟨t,rfl⟩:=W;obtain⟨u,rfl,ru⟩:=gC r;obtain⟨u',rfl⟩:=ru;refine DG F.slot_str_partition (Ec _ _ _) F.entry_str_partition (F.args_str_partition_2 _ _) (meets_str_partition z y t u' hy hz) ?_;unfold BJ at q;have G:∀(a b c:E7) (U O J:Tok) (k:Nat),(∀ t,H t=none→Q (.ref t) (upd H t (.tup [.str a,.str b,.str c])))→EP X fe σ Q (.ref s.heap.objs.size) { s with toks:=k,heap:=s.heap.push { cls:=.type "tuple",data:=.seq [.str a U,.str b O,.str c J].toArray } }:=fun a b c U O J k q=>
  ⟨.ref s.heap.objs.size,_,I.laid (t':=k) (o:=.tup [.str a,.str b,.str c]) (fun b ob q=>Ah _ q) (An _) ⟨by show 3≤sizeLine;decide,[.str a U,.str b O,.str c J],.cons ⟨_,rfl⟩ (.cons ⟨_,rfl⟩ (.cons ⟨_,rfl⟩ .nil)),⟨_,AA _ rfl,⟨rfl,_,rfl⟩,rfl⟩⟩,rfl,q _ (I.hok.fresh (An _))⟩
 revert q;cases occurrences z y 0 z.length 1 with
 | nil=>intro q;exact G _ _ _ _ _ _ _ q
 | cons i r=>intro q;exact G _ _ _ _ _ _ _ q
inductive aHr(x:V)(vs:List V)(H:Hp)(Q:VK):Prop
 | mk (l:Af) (xs:List V) (i:Nat) (y:V) (h0:x=.ref l) (h1:vs=[.int i,y]) (hH:H l=some (.lst xs)) (hi:i≤xs.length) (hz:xs.length < sizeLine) (q:Q .non (upd H l (.lst (xs.take i ++ y :: xs.drop i)))):aHr x vs H Q
def aGr:V→List V→Hp→VK→Prop:=fun x vs H Q=>aHr x vs H Q
theorem aDh{X:Cx}:MtM X "list.insert" aGr:=by
 intro fe s σ H x vs v us Q I O U h;obtain⟨l,xs,i,y,rfl,rfl,hH,hi,hz,q⟩:=h;cases O;obtain⟨u,u2,rfl,ru,ru2⟩:=U.two;obtain⟨t,rfl⟩:=ru;obtain⟨z,its,n,r,hl,e⟩:=I.lstM hH;have Y:((sizeLine:Nat):Int) < 2 ^ 63:=by decide
 have h1:-(2 ^ 63)≤(i:Int):=Int.le_trans (by decide:-(2 ^ 63)≤(0:Int)) (Int.natCast_nonneg i);have h2:(i:Int) < 2 ^ 63:=Int.lt_trans (by omega:(i:Int) < ((sizeLine:Nat):Int)) Y;have G:¬ (!Builtin.List.listFitsIndex (i:Int))=true:=by
  rw[fitsIndex_both h1 h2];exact AG
 have J:its.toArray.size≤sizeLine:=by rw[Ao];omega
 generalize W:(i:Int)=j at G;have hm:=AutoSeq1.list_insert_list_int_val_1 l its.toArray n j t u2 G J;refine DG F.slot_list_insert ⟨_,e,rfl⟩ F.entry_list_insert (F.args_list_insert_3 _ _ _) hm ⟨e,?_⟩;subst W;refine⟨.non,_,I.lset (its':=its.take i ++ u2 :: its.drop i) hH e ?_ ((r.take i).append (.cons ru2 (r.drop i))) ?_,rfl,q⟩
 ·have Z:(if (i:Int) < 0 then((i:Int) + (its.toArray.size:Int)).toNat else min (i:Int).toNat its.toArray.size)=i:=by
   rw[Ia (by omega),Ao];omega
  show(its.toArray.extract 0 (if (i:Int) < 0 then((i:Int) + (its.toArray.size:Int)).toNat else min (i:Int).toNat its.toArray.size)).push u2 ++ its.toArray.extract (if (i:Int) < 0 then((i:Int) + (its.toArray.size:Int)).toNat else min (i:Int).toNat its.toArray.size)=_;rw[Z];apply CP.mp;simp;exact A3 (by rw[Bk];exact An _)
 ·rw[Av,Ak,AC,Bk];omega
end L2
namespace K72
open PySem L2
theorem nW{a b:Str}{X Y:Prop}(n:a≠b)(h:Y):if decide (V.str a=V.str b)=true then X else Y:=c9 (fun g=>absurd (V.str.inj (Ie g)) n) fun _=>h
theorem yW{a:Str}{X Y:Prop}(h:X):if decide (V.str a=V.str a)=true then X else Y:=c9 (fun _=>h) fun g=>absurd (Ic rfl) g
theorem zZ0:([]:List V).length≤sizeLine:=aF (show 0≤1000000 by decide)
theorem zZ1{a0:V}:[a0].length≤sizeLine:=aF (show 1≤1000000 by decide)
theorem zZ2{a0 a1:V}:[a0,a1].length≤sizeLine:=aF (show 2≤1000000 by decide)
theorem zZ3{a0 a1 a2:V}:[a0,a1,a2].length≤sizeLine:=aF (show 3≤1000000 by decide)
theorem zZ4{a0 a1 a2 a3:V}:[a0,a1,a2,a3].length≤sizeLine:=aF (show 4≤1000000 by decide)
theorem zZ5{a0 a1 a2 a3 a4:V}:[a0,a1,a2,a3,a4].length≤sizeLine:=aF (show 5≤1000000 by decide)
theorem zZ6{a0 a1 a2 a3 a4 a5:V}:[a0,a1,a2,a3,a4,a5].length≤sizeLine:=aF (show 6≤1000000 by decide)
theorem zZ8{a0 a1 a2 a3 a4 a5 a6 a7:V}:[a0,a1,a2,a3,a4,a5,a6,a7].length≤sizeLine:=aF (show 8≤1000000 by decide)
theorem zZ9{a0 a1 a2 a3 a4 a5 a6 a7 a8:V}:[a0,a1,a2,a3,a4,a5,a6,a7,a8].length≤sizeLine:=aF (show 9≤1000000 by decide)
theorem aIa{a0 a1 a2 a3 a4 a5 a6 a7 a8 a9:V}:[a0,a1,a2,a3,a4,a5,a6,a7,a8,a9].length≤sizeLine:=aF (show 10≤1000000 by decide)
theorem aJ2{a0 a1 a2 a3 a4 a5 a6 a7 a8 a9 a10 J G:V}:[a0,a1,a2,a3,a4,a5,a6,a7,a8,a9,a10,J,G].length≤sizeLine:=aF (show 13≤1000000 by decide)
def Cl(P:Al)(w:AH)(K:Ae)(mg:Str→Option Ab)(base:A1)(k:Nat)(n:Str)(ps:List Str)(sp:Sp):Prop:=∃ f fd,b8 P w K mg base CX0 k f fd ps sp∧mg n=some (.ref f)∧Az K (.ref f)=true∧dH K fd ps []
theorem aW{X:Cx}{k:Nat}{ps:List Str}{sp:Sp}{x:Str}{p pos:Pos}{e:A5}{es:List A5}{t:TA}(c:Cl X.prog X.w X.K X.mg X.base k x ps sp)(O:cJ k X.A)(ha:PA X (e::es) t)(W:Gl X x:=by rfl)(J:(x==("__debug__":Str))=false:=by decide)(U:starEach (e::es) X.env=(false,eval e X.env)::starEach es X.env:=by rfl)(G:(backTo pos (starEach es X.env)).any (·.1)=false:=by rfl):PE X (.Call (.Name x p) (e::es) [] pos) (aHc sp [] E0 t):=by
 obtain⟨f,fd,F,hm,hk,hb⟩:=c;exact d8 F O W hm hk hb .nil gR ha J U G
def top(i:Nat):Br:=PySem.Challenge.pw_dykelengths_k72_rows_and_deeds_written.main.body.getD i (.Pass ⟨0,0,0,0⟩)
abbrev lN:Br:=top 1
abbrev tI:Br:=top 2
abbrev qO:Br:=top 21
abbrev pF:Br:=top 30
abbrev tJ:Br:=top 31
abbrev qP:Br:=top 32
abbrev wS:Br:=top 33
abbrev lO:Br:=top 34
abbrev lP:Br:=top 35
abbrev lQ:Br:=top 36
abbrev pG:Br:=top 37
abbrev wT:Br:=top 38
abbrev pH:Br:=top 39
abbrev pI:Br:=top 40
abbrev hU:Br:=top 41
abbrev hW:Br:=top 42
abbrev pJ:Br:=top 43
abbrev lR:Br:=top 44
abbrev jC:Br:=top 45
abbrev pK:Br:=top 46
abbrev aA3:Br:=top 48
abbrev lS:Br:=top 52
abbrev wU:Br:=top 53
abbrev qQ:Br:=top 54
abbrev wV:Br:=top 55
abbrev aA4:Br:=top 56
abbrev aIb:Br:=top 60
abbrev aB2:Br:=top 61
abbrev wW:Br:=top 62
abbrev aA5:Br:=top 63
abbrev wX:Br:=top 64
abbrev aB3:Br:=top 66
abbrev wY:Br:=top 67
abbrev lT:Br:=top 75
abbrev aGs:Br:=top 18
abbrev pL:Br:=top 3
abbrev tK:Br:=top 57
abbrev pM:Br:=top 58
abbrev kS:Br:=top 69
abbrev wZ:Br:=top 70
abbrev tL:Br:=top 71
abbrev tM:Br:=top 72
abbrev tN:Br:=top 73
abbrev w5:Br:=top 74
abbrev w6:Br:=top 76
abbrev xA:Br:=top 77
abbrev aA6:Br:=top 78
abbrev aA7:Br:=top 79
abbrev xB:Br:=top 80
abbrev aA8:Br:=top 81
abbrev aA9:Br:=top 82
abbrev xC:Br:=top 83
def bA(z:Str):Bool:=decide (1≤z.length∧z.length≤8) && z.cps.toList.all fun c=>decide (97≤c∧c≤122)
def isL(c:Nat):Bool:=decide (97≤c∧c≤122)
def gP(i:Nat):Nat:=97 + i % 26
theorem xD(i:Nat):isL (gP i)=true:=by
 unfold isL gP;exact Ic (by omega)
abbrev abc:Str:=A4 "abcdefghijklmnopqrstuvwxyz"
theorem aEJ:abc.cps.toList=BQ 97 26:=by decide
theorem aEK{i:Int}(G:0≤i)(h1:i < 26):atI abc.cps.toList i=some (gP i.toNat):=by
 obtain⟨j,rfl⟩:∃ j:Nat,i=j:=⟨i.toNat,by omega⟩
 unfold atI ixN;rw[aEJ,Ib G,Ib (by simpa using h1)];simp only[BA,Option.bind_some];rw[List.getElem?_range' (by omega)];unfold gP;congr 1;omega
theorem aGt:abc.length=26:=by decide
def mk(l:List Nat):Str:=⟨l.toArray⟩
theorem aIc{a b:List Nat}(h:mk a=mk b):a=b:=by
 have:=congrArg (fun z:Str=>z.cps.toList) h;simpa[mk]using this
theorem jQ(l:List Nat):(mk l).length=l.length:=by
 show l.toArray.size=_;simp
theorem aBa(a b:List Nat):mk a ++ mk b=mk (a ++ b):=by
 show(⟨a.toArray ++ b.toArray⟩:Str)=_;simp[mk]
def zL(t k:Nat):List Nat:=[gP (t + 7 * k),gP (t + k / 26)]
def bij:Nat→Nat→List Nat
 | 0,_=>[]
 | f + 1,n=>if n=0 then[] else bij f ((n - 1) / 2) ++ [n % 2]
def bin(t n:Nat):List Nat:=(bij 6 n).map fun d=>gP (t + 9 * d)
theorem aGu:∀ t < 26,((AJ 44).map (zL t)).Nodup:=by decide
theorem aId:∀ t < 26,((AJ 44).map fun k=>bin t (k + 1)).Nodup:=by decide
theorem aGv:∀ k < 44,1≤(bij 6 (k + 1)).length∧(bij 6 (k + 1)).length≤8:=by decide
def word(one:Bool)(b:List Nat)(sp t k:Nat):List Nat:=if one then bin t (k + 1) else b.take sp ++ zL t k ++ b.drop sp
theorem aIe{α:Type}{f:Nat→α}{n m:Nat}(h:((AJ n).map f).Nodup)(hm:m≤n):((AJ m).map f).Nodup:=by
 obtain⟨d,rfl⟩:∃ d,n=m + d:=⟨n - m,by omega⟩
 rw[List.range_add,Ar]at h;exact(Df.mp h).1
theorem aEL{α β:Type}{f:α→β}(J:∀ a b,f a=f b→a=b){l:List α}(h:l.Nodup):(l.map f).Nodup:=by
 rw[List.nodup_iff_pairwise_ne]at h ⊢;exact E2.mpr (h.imp fun G e=>G (J _ _ e))
theorem aGw{one:Bool}{b:List Nat}{sp t m:Nat}(ht:t < 26)(hm:m≤44):((AJ m).map fun k=>mk (word one b sp t k)).Nodup:=by
 refine aIe (n:=44) ?_ hm;have e:((AJ 44).map fun k=>mk (word one b sp t k))=((AJ 44).map (word one b sp t)).map mk:=by rw[Cg];rfl
 rw[e];refine aEL (fun _ _ h=>aIc h) ?_;cases one with
 | true=>exact aId t ht
 | false=>
  have G:(AJ 44).map (word false b sp t)=((AJ 44).map (zL t)).map fun q=>b.take sp ++ q ++ b.drop sp:=by rw[Cg];rfl
  rw[G];refine aEL (fun x y h=>?_) (aGu t ht);exact List.append_cancel_left (List.append_cancel_right h)
theorem zM{l:List Nat}(h1:1≤l.length)(G:l.length≤8)(ha:∀ c∈l,isL c=true):bA (mk l)=true:=by
 unfold bA;rw[jQ,Ic ⟨h1,G⟩,AE];have e:(mk l).cps.toList=l:=by simp[mk]
 rw[e,AX];exact ha
theorem fH{z:Str}(h:bA z=true):1≤z.length∧z.length≤8:=by
 unfold bA at h;rw[Ay]at h;exact Ie h.1
theorem aDi{one:Bool}{b:List Nat}{sp t k:Nat}(J:k < 44)(U:b.length≤6)(ha:∀ c∈b,isL c=true):bA (mk (word one b sp t k))=true:=by
 cases one with
 | true=>
  have h:=aGv k J;refine zM (by show 1≤(bin t (k + 1)).length;unfold bin;rw[Ac];omega) (by show(bin t (k + 1)).length≤8;unfold bin;rw[Ac];omega) (fun c hc=>?_);have G:c∈bin t (k + 1):=hc;unfold bin at G;obtain⟨d,_,rfl⟩:=BO.mp G;exact xD _
 | false=>
  have O:(word false b sp t k).length=b.length + 2:=by
   show(b.take sp ++ zL t k ++ b.drop sp).length=_;rw[Av,Av,AC,Bk];show min sp b.length + 2 + (b.length - sp)=_;omega
  refine zM (by omega) (by omega) (fun c hc=>?_);have G:c∈b.take sp ++ zL t k ++ b.drop sp:=hc;rcases Bo.mp G with h | h
  ·rcases Bo.mp h with h | h
   ·exact ha c (CN h)
   ·unfold zL at h;simp only[Ap,AF,or_false]at h;rcases h with rfl | rfl
    ·exact xD _
    ·exact xD _
  ·exact ha c (List.mem_of_mem_drop h)
theorem aEM{α:Type}{x:α}:∀{l:List α}{j:Nat},l.Nodup→x ∉ l→(l.set j x).Nodup
 | [],_,_,_=>by simp
 | y :: r,0,h,G=>by
  rw[List.set_cons_zero,Cy]at *;exact⟨fun z=>G (AY _ z),h.2⟩
 | y :: r,j + 1,h,G=>by
  rw[List.set_cons_succ];rw[Cy]at *;refine⟨fun z=>?_,aEM h.2 fun z=>G (AY _ z)⟩;rcases List.mem_or_eq_of_mem_set z with z | z
  ·exact h.1 z
  ·exact G (z ▸ AV)
def mC:List Str:=["as","with","part","field","none","done","write","back","join"]
theorem aBb:∀ z∈mC,bA z=true:=by decide
theorem gJ:∀ ns:List Str,(ns.map V.str).all gD=true
 | []=>rfl
 | _ :: r=>by simpa[gD]using gJ r
theorem aB4(z:Str):∀ ns:List Str,inV (.str z) (ns.map V.str)=decide (z∈ns):=by
 intro ns;unfold inV;rw[List.any_map];rw[Bv,Ds,decide_eq_true_iff];constructor
 ·rintro⟨y,hy,e⟩;have:y=z:=by simpa[eqV]using e
  exact this ▸ hy
 ·intro h;exact⟨z,h,by simp[eqV]⟩
abbrev fY:Key:=Am ("cells":Str)
abbrev kAt:Key:=Am ("at":Str)
abbrev iN:Key:=Am ("left":Str)
def gQ(c:Af)(a l:Int):List (Key×V):=[(fY,.ref c),(kAt,.int a),(iN,.int l)]
theorem aIf:¬ (fY=kAt):=by decide
theorem aIg:¬ (fY=iN):=by decide
theorem aGx:¬ (kAt=iN):=by decide
theorem aJ3:¬ (iN=kAt):=fun e=>aGx e.symm
theorem aDj(c:Af)(a l:Int):fS (gQ c a l) fY=some (.ref c):=by
 unfold gQ;rw[i5 rfl]
theorem aIh(c:Af)(a l:Int):fS (gQ c a l) kAt=some (.int a):=by
 unfold gQ;rw[cP aIf,i5 rfl]
theorem aEN(c:Af)(a l:Int):fS (gQ c a l) iN=some (.int l):=by
 unfold gQ;rw[cP aIg,cP aGx,i5 rfl]
theorem aIi(c:Af)(a l G:Int):gH (gQ c a l) kAt (.int G)=gQ c G l:=by
 unfold gH gQ;rw[Ib (by rw[Ds];exact⟨(kAt,.int a),by simp,Ic rfl⟩)];simp only[A0,Dg,Ia aIf,Ia aJ3,Ib]
theorem aEO(c:Af)(a l G:Int):gH (gQ c a l) iN (.int G)=gQ c a G:=by
 unfold gH gQ;rw[Ib (by rw[Ds];exact⟨(iN,.int l),by simp,Ic rfl⟩)];simp only[A0,Dg,Ia aIg,Ia aGx,Ib]
theorem aIj{H:Hp}{p c:Af}{a l:Int}(h:H p=some (.dK (gQ c a l))):oZ H p (.str "left") (some (.int l)):=by
 have:=oZ.k (k:=iN) h;rw[aEN]at this;exact this
theorem aJ4{H:Hp}{p c:Af}{a l:Int}(h:H p=some (.dK (gQ c a l))):oZ H p (.str "at") (some (.int a)):=by
 have:=oZ.k (k:=kAt) h;rw[aIh]at this;exact this
theorem aJ5{H:Hp}{p c:Af}{a l:Int}(h:H p=some (.dK (gQ c a l))):oZ H p (.str "cells") (some (.ref c)):=by
 have:=oZ.k (k:=fY) h;rw[aDj]at this;exact this
theorem aJq{H:Hp}{p c:Af}{a l:Int}(G:Int)(h:H p=some (.dK (gQ c a l))):yM H p (.str "left") (.int G) (upd H p (.dK (gQ c a G))):=by
 have:=yM.k (k:=iN) (v:=.int G) h (i7 (by show 3≤1000;decide));rw[aEO]at this;exact this
theorem aJ6{H:Hp}{p c:Af}{a l:Int}(G:Int)(h:H p=some (.dK (gQ c a l))):yM H p (.str "at") (.int G) (upd H p (.dK (gQ c G l))):=by
 have:=yM.k (k:=kAt) (v:=.int G) h (i7 (by show 3≤1000;decide));rw[aIi]at this;exact this
structure c4(H:Hp)(p c:Af)(ns:List Int)(a:Int):Prop where
 ob:∃ l,0≤l∧H p=some (.dK (gQ c a l))
 ce:H c=some (.lst (ns.map V.int))
 ge:0≤a
 sm:ns.length≤63
theorem c4.same{H H':Hp}{p c:Af}{ns:List Int}{a:Int}(x:c4 H p c ns a)(h:aT H H'):c4 H' p c ns a:=by
 obtain⟨⟨l,hl,e⟩,ce,ge,sm⟩:=x;exact⟨⟨l,hl,h _ _ e⟩,h _ _ ce,ge,sm⟩
theorem c4.ne{H:Hp}{p c:Af}{ns:List Int}{a:Int}(x:c4 H p c ns a):c≠p:=by
 obtain⟨⟨l,hl,e⟩,ce,_,_⟩:=x;exact aDD ce e (by intro z;cases z)
inductive aB5(K:Ae)(vs:List V)(H:Hp)(Q:VK)(u3_:XK):Prop
 | mk (a:Af) (ns:List Int) (q0:vs=[.ref a]) (q1:SqL K H a (ns.map V.int)) (q2:ns.length≤63) (q3:∀ p c H',c4 H' p c ns 0→aT H H'→H p=none→Q (.ref p) H'):aB5 K vs H Q u3_
def aHs(K:Ae):Sp:=fun vs H Q u3_=>aB5 K vs H Q u3_
inductive zO(vs:List V)(H:Hp)(Q:VK)(u3_:XK):Prop
 | mk (p c:Af) (ns:List Int) (a m:Int) (q0:vs=[.ref p,.int m]) (q1:c4 H p c ns a) (q2:a≤1000000) (q3:0 < m) (q4:m < 2 ^ 512) (q5:∀ r a' H',0≤r→r < m→a≤a'→a'≤a + 1→c4 H' p c ns a'→bK p H H'→Q (.int r) H'):zO vs H Q u3_
def jR:Sp:=fun vs H Q u3_=>zO vs H Q u3_
variable{P:Al}{w:AH}{K:Ae}{mg:Str→Option Ab}{base:A1}
theorem aJr:bB ["_law_script"] ["_law_script"] (aK aIb):=⟨rfl,rfl,rfl,by decide,rfl,by decide,by decide⟩
theorem aJs(ns:List Int)(h:ns.length≤63):eJ (ns.map V.int) none (some 63)=ns.map V.int:=by
 have e:HT.sIx (ns.map V.int).length (ns.map V.int).length (some 63)=(ns.map V.int).length:=by
  have:=HT.sIx_nat (ns.map V.int).length (ns.map V.int).length 63;rw[Ac]at this ⊢;refine Eq.trans this ?_;omega
 unfold eJ;rw[e,HT.sIx_none,Dj,E9,Bc]
theorem aIk{f:Af}{fd:Ax}(F:Fun K "_law_pen" "_law_pen" aIb f fd)(J:mg "list"=none):b8 P w K mg base CX0 1 f fd ["_law_script"] (aHs K):=by
 refine F.ok aJr (fun vs H Q E h=>?_) (fun af A outer s H vs Q E hr h=>?_)
 ·obtain⟨a,ns,rfl,_⟩:=h;rfl
 ·obtain⟨a,ns,rfl,hS,hn,k⟩:=h;refine⟨_,aG (aN (aBK (i6 aJ (bV dL (by rfl) J (by kernel_rfl) (fF (bY d9 (pv 0) cU (cA aC)) aA)) (i6 aJ aC (i6 aJ aC aBJ))) rfl rfl (by simp) (by decide))),?_⟩;intro p Y;refine⟨_,rfl,_,rfl,_,_,rfl,(aH Y).seq hS,fun q hq=>?_⟩;rw[aJs ns hn];refine⟨q,_,rfl,.inl (aQ aD),fun c hc=>?_⟩;have W:q≠p:=(bX aD hq).symm;have O:c≠p:=(bX (show upd (upd H p (HO.dK [])) q (.lst (ns.map V.int)) p=some (HO.dK []) by rw[bD W.symm,aD]) hc).symm;refine⟨by rw[bD O.symm,bD W.symm,aD],[(fY,.ref c),(kAt,.int 0),(iN,.int 0)],rfl,by show 3≤15;decide,?_⟩;have em:mS [] [(fY,V.ref c),(kAt,.int 0),(iN,.int 0)]=gQ c 0 0:=by
   have e1:gH ([]:List (Key×V)) fY (.ref c)=[(fY,.ref c)]:=by rw[rN _ rL];rfl
   have e2:gH [(fY,V.ref c)] kAt (.int 0)=[(fY,.ref c),(kAt,.int 0)]:=by rw[rN _ (by rw[cP aIf,rL])];rfl
   have e3:gH [(fY,V.ref c),(kAt,.int 0)] iN (.int 0)=[(fY,.ref c),(kAt,.int 0),(iN,.int 0)]:=by rw[rN _ (by rw[cP aIg,cP aGx,rL])];rfl
   show gH (gH (gH [] fY (.ref c)) kAt (.int 0)) iN (.int 0)=_;rw[e1,e2,e3];rfl
  rw[em];refine k p c _ ⟨⟨0,Ea _,aD⟩,by rw[bD O,aD],Ea _,hn⟩ (fun b o e=>?_) Y;have G:b≠p:=bX e Y;have U:b≠q:=bX (show upd H p (HO.dK []) b=some o by rw[bD G];exact e) hq;have Z:b≠c:=bX (show upd (upd H p (HO.dK [])) q (.lst (ns.map V.int)) b=some o by rw[bD U,bD G];exact e) hc;rw[bD G,bD Z,bD U,bD G];exact e
theorem kX:bB ["_law_pen_here","_law_many","_law_found","_law_at","_law_cells","_law_cell","_law_one","_law_two"] ["_law_pen_here","_law_many"] (aK aB2):=⟨rfl,rfl,rfl,by decide,rfl,by decide,by decide⟩
theorem aJt{c a b:Int}(hc:0≤c)(h:0≤a)(h2:a≤b):0≤c * a * a∧c * a * a≤c * b * b:=by
 have h1:0≤c * a:=Fz hc h;have G:c * a≤c * b:=Int.mul_le_mul_of_nonneg_left h2 hc;exact⟨Fz h1 h,Int.mul_le_mul G h2 h (Fz hc (Int.le_trans h h2))⟩
theorem aJ7(x:Int){a:Int}(h:0≤a)(h2:a≤1000000):Int.natAbs (x % (2147483629:Int) + (1213:Int) * a * a + (3:Int)) < 2 ^ 64:=by
 obtain⟨b1,b2⟩:=aJt (c:=(1213:Int)) (a:=a) (b:=1000000) (by decide) h h2;have G:=Ci x (show(2147483629:Int)≠0 by decide);have J:=B7 x (show 0 < (2147483629:Int) by decide);omega
theorem aJ8{x:Int}:-(2 ^ 64) < x % (2147483543:Int)∧x % (2147483543:Int) < 2 ^ 64:=by
 have J:=Ci x (show(2147483543:Int)≠0 by decide);have G:=B7 x (show 0 < (2147483543:Int) by decide);omega
theorem aGy{f:Af}{fd:Ax}(F:Fun K "_law_take" "_law_take" aB2 f fd)(aa:mg "len"=none)(O:mg "abs"=none):b8 P w K mg base CX0 1 f fd ["_law_pen_here","_law_many"] jR:=by
 refine F.ok kX (fun vs H Q E h=>?_) (fun ak A outer s H vs Q E hr h=>?_)
 ·obtain⟨p,c,ns,a,m,rfl,_⟩:=h;rfl
 ·obtain⟨p,c,ns,a,m,rfl,hp,ha,hm,hm2,k⟩:=h;have hu:=yP hr;have am:(A.deeper (Dn "_law_take" (aK aB2) s.heap.objs.size f ak)).units < cLine:=by omega
  refine⟨_,aE (bM (aP nC (nJ hu (pv 0) aJ Ig) aC (aU _))
    (aE (aY (i:=2) kX.nd rfl (Aw rfl) (aX fK (nJ hu (pv 0) aJ Ig) (pv 1)))
    (aE (wI hu (pv 0) aJ (aX rV (nJ hu (pv 0) aJ Ig) (pv 1)) rfl)
    (aG (aN (pv 2))))) aV)
   (aE (aY (i:=3) kX.nd rfl (Aw rfl) (nJ hu (pv 0) aJ Ig))
   (aE (wI hu (pv 0) aJ (aX c8 (pv 3) aC) rfl)
   (aE (aY (i:=4) kX.nd rfl (Aw rfl) (nJ hu (pv 0) aJ Ig))
   (aE (aY (i:=5) kX.nd rfl (Aw rfl) (aX c8 (aX c8 (aX jL (aX jL aC (pv 3)) (pv 3)) (aX jL aC (pv 3))) aC))
   (aE (fO <| bM (aP (aD9 am) (pv 4) (dB aA) (aU _))
    (aG (aY (i:=5) kX.nd rfl (Aw rfl) (aZ bS (pv 4) (aX fK (pv 3) (aM aO (by rfl) aa Aq (fF (pv 4) aA))) Ig))) aV)
   (aE (fO <| bM (gO (aP yE (pv 3) (aM aO (by rfl) aa Aq (fF (pv 4) aA)) (aU _))
     (gT (aP aIY (aM rD (by rfl) O (by kernel_rfl) (fF (pv 5) aA)) (aX gG aC aC) (aU _)))).pt
    (aE (wI hu (pv 0) aJ (aX rV (aM rD (by rfl) O (by kernel_rfl) (fF (pv 5) aA)) (pv 1)) rfl)
    (aG (aN (aX fK (aM rD (by rfl) O (by kernel_rfl) (fF (pv 5) aA)) (pv 1))))) aV)
   (aE (aY (i:=6) kX.nd rfl (Aw rfl) (aX fK (aX gG (aX c8 (aX c8 (aX fK (pv 5) aC) (aX jL aC (pv 3))) aC) aC) aC))
   (aE (aY (i:=7) kX.nd rfl (Aw rfl) (aX fK (aX gG (aX c8 (aX c8 (pv 6) (aX jL (aX jL aC (pv 3)) (pv 3))) aC) aC) aC))
   (aG (aN (aX fK (aX rV (aX fK (aX jL (pv 7) (aX c8 (aX fK (pv 6) aC) aC)) aC) aC) (pv 1)))))))))))),?_⟩
  obtain⟨⟨l,hl0,hob⟩,hce,hge,hsm⟩:=id hp;have ad:=hp.ne;refine⟨_,rfl,p,_,rfl,aIj hob,_,_,rfl,rfl,_,rfl,c9 (fun h0=>?_) (fun h0=>?_)⟩
  ·exact⟨_,rfl,p,_,rfl,aIj hob,_,rfl,_,_,rfl,rfl,hm,_,rfl,p,_,rfl,aIj hob,_,rfl,_,_,rfl,rfl,vF.of hm hm2,_,rfl,p,_,rfl,aJq _ hob,_,rfl,k (l % m) a _ (Ci _ (by omega)) (B7 _ hm) (Ea _) (by omega) ⟨⟨l / m,Int.ediv_nonneg hl0 (by omega),aD⟩,by rw[bD ad];exact hce,hge,hsm⟩ (bK.refl p H).upd⟩
  ·refine⟨_,rfl,p,_,rfl,aJ4 hob,_,rfl,_,_,rfl,rfl,_,rfl,p,_,rfl,aJ6 _ hob,_,rfl,p,_,rfl,aJ5 aD,_,rfl,_,_,rfl,rfl,.inl (by decide),_,rfl,_,_,rfl,rfl,.inr (by omega),_,rfl,_,_,rfl,rfl,.inl (by decide),_,_,rfl,rfl,_,_,rfl,rfl,?_⟩;have Y:bK p H (upd H p (.dK (gQ c (a + 1) l))):=(bK.refl p H).upd;have U:(upd H p (.dK (gQ c (a + 1) l))) c=some (.lst (ns.map V.int)):=by rw[bD ad];exact hce
   refine⟨fun σ' H'=>∃ G:Int,σ'=[some (.ref p),some (.int m),none,some (.int a),some (.ref c),some (.int G),none,none]∧bK p H H'∧H' p=some (.dK (gQ c (a + 1) l))∧H' c=some (.lst (ns.map V.int)),?_,?_⟩
   ·refine⟨_,rfl,Bs _,fun q hq=>?_⟩;have Z:=aH (o:=.lst []) hq;refine⟨c,q,ns.map V.int,[],rfl,rfl,aQ (Z _ _ U),aQ aD,i8 ns,rfl,_,rfl,c9 (fun ah=>?_) (fun ah=>?_)⟩
    ·have an:0 < ns.length:=by
      cases ns with
      | nil=>exact absurd ah (by simp[rX])
      | cons x r=>simp
     have ai:(a % (ns.length:Int)).toNat < ns.length:=by
      have h1:=B7 a (show(0:Int) < ns.length by omega);have h2:=Ci a (show(ns.length:Int)≠0 by omega);omega
     have aj:atI (ns.map V.int) (a % (ns.length:Int))=some (.int (ns[(a % (ns.length:Int)).toNat])):=by
      have h2:=Ci a (show(ns.length:Int)≠0 by omega);have e:=bO (xs:=ns.map V.int) (j:=(a % (ns.length:Int)).toNat) (v:=.int (ns[(a % (ns.length:Int)).toNat])) (by rw[AW,Ai ai];rfl);rw[Int.toNat_of_nonneg h2]at e;exact e
     have ag:atI (ns.map V.int) (a % ((ns.map V.int).length:Int))=some (.int (ns[(a % (ns.length:Int)).toNat])):=by
      rw[Ac];exact aj
     exact⟨_,rfl,_,rfl,_,rfl,c,_,rfl,.inl (aQ (Z _ _ U)),_,_,rfl,rfl,(by rw[Ac];omega),c,_,_,_,rfl,rfl,aQ (Z _ _ U),ag,_,rfl,Y.same Z,Z _ _ aD,Z _ _ U⟩
    ·exact⟨_,rfl,Y.same Z,Z _ _ aD,Z _ _ U⟩
   ·rintro σ' H' ⟨G,rfl,kp,W,J⟩;refine⟨fun σ' H'=>∃ G:Int,σ'=[some (.ref p),some (.int m),none,some (.int a),some (.ref c),some (.int G),none,none]∧bK p H H'∧H' p=some (.dK (gQ c (a + 1) l))∧H' c=some (.lst (ns.map V.int)),?_,?_⟩
    ·refine⟨_,rfl,_,rfl,c,_,rfl,.inl (aQ J),_,_,rfl,rfl,_,rfl,c9 (fun h1=>?_) (fun h1=>?_)⟩
     ·refine⟨_,rfl,_,rfl,_,_,rfl,rfl,⟨by decide,by decide,by decide⟩,_,_,rfl,rfl,_,rfl,c9 (fun h2=>?_) (fun h2=>?_)⟩
      ·refine⟨_,rfl,_,rfl,_,rfl,_,_,rfl,rfl,vF.of hm hm2,_,rfl,p,_,rfl,aJq _ W,_,rfl,_,rfl,_,rfl,_,_,rfl,rfl,hm,?_⟩;have ae:0≤(if G < 0 then -G else G):=by split <;> omega
       exact k _ (a + 1) _ (Ci _ (by omega)) (B7 _ hm) (by omega) (Ea _) ⟨⟨_,Int.ediv_nonneg ae (by omega),aD⟩,by rw[bD ad];exact J,by omega,hsm⟩ kp.upd
      ·exact⟨G,rfl,kp,W,J⟩
     ·exact bG ⟨G,rfl,kp,W,J⟩
    ·rintro σ' H' ⟨G,rfl,kp,W,J⟩;refine⟨_,rfl,_,_,rfl,rfl,(by show(0:Int) < _;decide),_,rfl,_,_,rfl,rfl,.inl (by decide),_,_,rfl,rfl,_,_,rfl,rfl,_,_,rfl,rfl,⟨by decide,by decide,?_⟩,_,_,rfl,rfl,(by show(0:Int) < _;decide),?_⟩
     ·have e1:=Ci G (show(2147483587:Int)≠0 by decide);have e2:=B7 G (show 0 < (2147483587:Int) by decide);show Int.natAbs (G % (2147483587:Int) + (45007:Int) * a + (11:Int)) < 2 ^ 64;omega
     ·exact⟨_,rfl,_,rfl,_,_,rfl,rfl,.inl (by decide),_,rfl,_,_,rfl,rfl,.inr (by omega),_,_,rfl,rfl,_,_,rfl,rfl,_,_,rfl,rfl,⟨by decide,by decide,aJ7 _ hge ha⟩,_,_,rfl,rfl,(by show(0:Int) < _;decide),_,rfl,_,rfl,_,_,rfl,rfl,(by show(0:Int) < _;decide),_,_,rfl,rfl,_,_,rfl,rfl,.inl aJ8,_,_,rfl,rfl,(by show(0:Int) < _;decide),_,_,rfl,rfl,vF.of (by decide) (by decide),_,rfl,_,_,rfl,rfl,hm,k _ (a + 1) _ (Ci _ (by omega)) (B7 _ hm) (by omega) (Ea _) ⟨⟨l,hl0,W⟩,J,by omega,hsm⟩ kp⟩
structure Nms(ws:List Str):Prop where
 nd:ws.Nodup
 ok:∀ w∈ws,bA w=true
theorem Nms.take{ws:List Str}(h:Nms ws)(n:Nat):Nms (ws.take n):=⟨h.nd.sublist (D6 n ws),fun w hw=>h.ok w (CN hw)⟩
inductive vN(vs:List V)(H:Hp)(Q:VK)(u3_:XK):Prop
 | mk (p c:Af) (ns:List Int) (a:Int) (m:Nat) (q0:vs=[.ref p,.int m]) (q1:c4 H p c ns a) (q2:a≤900000) (q3:m≤44) (q4:∀ l ws a' H',H l=none→H' l=some (.lst (ws.map V.str))→ws.length=m→Nms ws→a≤a'→a'≤a + 30→c4 H' p c ns a'→bK p H H'→Q (.ref l) H'):vN vs H Q u3_
def aB6:Sp:=fun vs H Q u3_=>vN vs H Q u3_
theorem gK(l:List Nat):∀(m s:Nat),(BQ s m).filterMap (fun j=>l.toArray[j]?)=(l.drop s).take m
 | 0,s=>by simp
 | m + 1,s=>by
  rw[List.range'_succ,CW];have G:=gK l m (s + 1);by_cases h:s < l.length
  ·have e:l.toArray[s]?=some l[s]:=by simp[h]
   rw[e];dsimp only;rw[G,Cb h,List.take_succ_cons]
  ·have e:l.toArray[s]?=none:=by simp;omega
   rw[e];dsimp only;rw[G,Ct (by omega),Ct (by omega)];simp
theorem aGz:∀ n:Nat,n < 7→∀ s:Nat,s < 7→s≤n→BI none (some (s:Int)) 1 n=BQ 0 s:=by decide
theorem aDk:∀ n:Nat,n < 7→∀ s:Nat,s < 7→s≤n→BI (some (s:Int)) none 1 n=BQ s (n - s):=by decide
theorem aJu{b:List Nat}{s:Nat}(J:b.length≤6)(G:s≤b.length):A8 (mk b) none (some (s:Int))=mk (b.take s):=by
 unfold A8;rw[jQ,aGz _ (by omega) _ (by omega) G];split
 ·next h=>
  simp at h;rw[h,Bc]
 ·have e:=gK b s 0;rw[Dj]at e;exact congrArg mk e
theorem aGA{b:List Nat}{s:Nat}(O:b.length≤6)(G:s≤b.length):A8 (mk b) (some (s:Int)) none=mk (b.drop s):=by
 unfold A8;rw[jQ,aDk _ (by omega) _ (by omega) G];split
 ·next h=>
  simp at h;have:s=0∨b.length=0:=by omega
  rcases this with rfl | J
  ·rfl
  ·rw[List.length_eq_zero_iff.mp J];simp
 ·have e:=gK b (b.length - s) s;rw[show(b.drop s).take (b.length - s)=b.drop s from A3 (by rw[Bk];exact An _)]at e;exact congrArg mk e
theorem aDl(bs:List Nat):∀ G:Array Nat,(bs.map fun c=>mk [c]).foldl (fun(G:Array Nat) (p:Str)=>G ++ (A4 "").cps ++ p.cps) G=G ++ bs.toArray:=by
 have J:(A4 "").cps=#[]:=by decide
 induction bs with
 | nil=>intro G;simp
 | cons x r O=>
  intro G;rw[A0,Fl,O,J];simp[mk]
theorem aGB(bs:List Nat):DU "" (bs.map fun c=>mk [c])=mk bs:=by
 show Ex _ _=_;unfold Ex;cases bs with
 | nil=>rfl
 | cons x r=>
  have:=aDl r #[x];simp only[A0,List.headD_cons,List.drop_succ_cons,Dj];show(⟨List.foldl _ _ _⟩:Str)=_;rw[show(mk [x]).cps=#[x] from rfl];rw[this];simp[mk]
theorem xE(x:Nat){j:Int}(J:j=(x:Int) % 26):atI abc.cps.toList j=some (gP x):=by
 have G:0≤j:=by omega
 have h1:j < 26:=by omega
 rw[aEK G h1];unfold gP;congr 1;omega
theorem aEP(f n:Nat)(h:n≠0):bij (f + 1) n=bij f ((n - 1) / 2) ++ [n % 2]:=by
 show(if n=0 then[] else _)=_;rw[Ia h]
theorem eG:bB ["_law_pen_here","_law_many","_law_letters","_law_way","_law_turn","_law_k","_law_base","_law_spot","_law_found","_law_word","_law_rest","_law_terms"] ["_law_pen_here","_law_many"] (aK wW):=⟨rfl,rfl,rfl,by decide,rfl,by decide,by decide⟩
theorem aGC{ws:List Str}(h:∀ w∈ws,w.length=1):(ws.map (·.length)).sum=ws.length:=by
 induction ws with
 | nil=>rfl
 | cons x r G=>
  rw[A0,B5,G fun w hw=>h w (AY _ hw),h x AV,Ak];omega
theorem aEQ{f:Af}{fd:Ax}(F:Fun K "_law_names" "_law_names" wW f fd)(bx:mg "len"=none)(ae:mg "range"=none)(bz:mg "min"=none)
  (GT:Cl P w K mg base 1 "_law_take" ["_law_pen_here","_law_many"] jR):
  b8 P w K mg base CX0 2 f fd ["_law_pen_here","_law_many"] aB6:=by
 refine F.ok eG (fun vs H Q E h=>?_) (fun dh A outer s H vs Q E hr h=>?_)
 ·obtain⟨p,c,ns,a,m,rfl,_⟩:=h;rfl
 ·obtain⟨p,c,ns,a,m,rfl,hp,ha,hm,k⟩:=h;refine⟨_,aE (aY (i:=2) eG.nd rfl (FV rfl) aJ)
   (aE (aY (i:=3) eG.nd rfl (Aw rfl) (aW GT hr (aB (pv 0) (aB aC aA))))
   (aE (aY (i:=4) eG.nd rfl (Aw rfl) (aW GT hr (aB (pv 0) (aB aC aA))))
   (aE (aY (i:=6) eG.nd rfl (Aw rfl) (gE Bj De Dd qM aJ (aB (fV (N:=["_law_k","_law_letters","_law_pen_here"]) (src:=[none,some 2,some 0]) (osc:=aK wW) (oN:=["_law_pen_here","_law_many","_law_letters","_law_way","_law_turn","_law_k","_law_base","_law_spot","_law_found","_law_word","_law_rest","_law_terms"]) ⟨by rfl,by decide,by decide,by decide,rfl,by rfl⟩
      (hJ rfl ae (aB (aZ bS (dB (aB (aW GT hr (aB (pv 0) (aB aC aA))) (aB aC (aB aC aA)))) (pv 3) Ig) aA))
      fun cl s H fp fe C=>⟨bJ (i:=0) (show(["_law_k","_law_letters","_law_pen_here"]:List Str).Nodup by decide) rfl (Aw rfl),fG,aZ mQ (pv 1) (aW GT hr (aB (pv 2) (aB aC aA))) Ig⟩) aA)))
   (aE (aY (i:=7) eG.nd rfl (Aw rfl) (aW GT hr (aB (pv 0) (aB (aX c8 (aM dJ (by rfl) bx Aq (aB (pv 6) aA)) aC) aA))))
   (aE (aY (i:=8) eG.nd rfl (Aw rfl) (dB aA))
   (aE (iT BF rfl (hJ rfl ae (aB (pv 1) aA)) (bJ (i:=5) eG.nd rfl (Aw rfl))
    (aE (aY (i:=9) eG.nd rfl (Aw rfl) (aX cW (aZ mQ (pv 2) (aX fK (aX c8 (pv 4) (aX jL aC (pv 5))) aC) Ig) (aZ mQ (pv 2) (aX fK (aX c8 (pv 4) (aX aBy (pv 5) aC)) aC) Ig)))
    (aE (aY (i:=9) eG.nd rfl (Aw rfl) (aX cW (aX cW (bY iU (pv 6) cU (cA (pv 7))) (pv 9)) (bY iU (pv 6) (cA (pv 7)) cU)))
    (aE (fO <| bM (aP cH (pv 3) aC (aU _))
     (aE (aY (i:=9) eG.nd rfl (Aw rfl) aJ)
     (aE (aY (i:=10) eG.nd rfl (Aw rfl) (aX c8 (pv 5) aC))
     (aG (aDJ BF (aP nC (pv 10) aC (aU _))
      (aE (aY (i:=9) eG.nd rfl (Aw rfl) (aX cW (aZ mQ (pv 2) (aX fK (aX c8 (pv 4) (aX jL aC (aX fK (pv 10) aC))) aC) Ig) (pv 9)))
      (aG (aY (i:=10) eG.nd rfl (Aw rfl) (aX aBy (aX mM (pv 10) aC) aC)))))))) aV)
    (aG (iH (gE Bn DY DW oX (pv 8) (aB (pv 9) aA))))))))
   (aE (aY (i:=11) eG.nd rfl (Aw rfl) (dB (aB aJ (aB aJ (aB aJ (aB aJ (aB aJ (aB aJ (aB aJ (aB aJ (aB aJ aA)))))))))))
   (aE (fO <| bM (aP cH (aW GT hr (aB (pv 0) (aB aC aA))) aC (aU _))
    (aG (iT BF rfl (hJ rfl ae (aB (aM (uU rfl) (by rfl) bz (by kernel_rfl) (aB (pv 1) (aB aC aA))) aA)) (bJ (i:=5) eG.nd rfl (Aw rfl))
     (aG (bM (PW.pt (gO (aP cH (aW GT hr (aB (pv 0) (aB aC aA))) aC (aU _)) (gT (aP gW (aZ bS (pv 11) (pv 5) Ig) (pv 8) (by with_unfolding_all rfl)))))
      (aG (iS (aZ bS (pv 11) (pv 5) Ig) (aAF (pv 8) (pv 5) rG))) aV)))) aV)
   (aG (aN (pv 8))))))))))),?_⟩
  have e0:(A4 "").length=0:=by decide
  have zA:abc.length≤sizeLine:=aF (by rw[aGt];decide);refine⟨_,rfl,p,c,ns,a,_,rfl,hp,by omega,by decide,by decide,fun U a1 H1 w0 w1 l1 u1 cc ck=>?_⟩;refine⟨_,rfl,p,c,ns,a1,_,rfl,cc,by omega,by decide,by decide,fun tt a2 H2 t0 t1 l2 u2 cn b4=>?_⟩;obtain⟨t,rfl⟩:∃ t:Nat,tt=t:=⟨tt.toNat,by omega⟩
  refine⟨rfl,_,rfl,p,c,ns,a2,_,rfl,cn,by omega,by decide,by decide,fun r3 a3 H3 d5 dz l3 u3 cm cg=>?_⟩;refine⟨zZ3,fun q hq=>?_⟩;have sq:=aH (o:=.lst [V.int r3,.int 0,.int 6]) hq;obtain⟨v,hv,am⟩:=iB (xs:=[V.int r3,.int 0,.int 6]) (i:=U) w0 (by show U < 3;omega);obtain⟨n,rfl,hn0,hn6⟩:∃ n:Int,v=.int n∧0≤n∧n≤6:=by
   simp only[Ap,AF,or_false]at hv;rcases hv with rfl | rfl | rfl
   ·exact⟨_,rfl,by omega,by omega⟩
   ·exact⟨_,rfl,by omega,by omega⟩
   ·exact⟨_,rfl,by omega,by omega⟩
  refine⟨_,rfl,q,_,U,_,rfl,rfl,aQ aD,am,n,rfl,by omega,by omega,?_⟩;have kq:bK p H (upd H3 q (.lst [V.int r3,.int 0,.int 6])):=((ck.trans b4).trans cg).same sq;have bI:=cm.same sq;generalize upd H3 q (.lst [V.int r3,.int 0,.int 6])=H4 at kq bI ⊢;refine sF (fun i ys σ' H'=>∃(a':Int) (bs:List Nat) (o:Option V),σ'=[o,some (.str abc),some (.ref p)]∧c4 H' p c ns a'∧bK p H H'∧a3≤a'∧a'≤a3 + i∧ys=(bs.map fun c=>mk [c]).map V.str∧bs.length=i∧(∀ c∈bs,isL c=true))
   ⟨a3,[],none,rfl,bI,kq,by omega,by omega,rfl,rfl,fun w hw=>by simp at hw⟩ (aF (by omega)) (fun i ys σ H p=>by obtain⟨_,bs,_,_,_,_,_,_,rfl,e,_⟩:=p;rw[Ac,Ac,e];exact An _) ?_ ?_
  ·rintro i' ys σ' H5 di ⟨a',bs,o,rfl,be,az,d3,dk,rfl,hl,hb⟩;dsimp only[cE];refine bQ ?_;refine⟨_,rfl,_,rfl,p,c,ns,a',_,rfl,be,by omega,by decide,by decide,fun r6 a6 H6 bq bi l6 u6 aq ak=>?_⟩;refine⟨_,r6,gP r6.toNat,rfl,rfl,zA,aEK bq bi,a6,bs ++ [gP r6.toNat],_,rfl,aq,az.trans ak,by omega,by omega,by rw[Ar,Ar];rfl,by rw[Av,hl];rfl,fun c hc=>?_⟩;rcases Bo.mp hc with z | z
   ·exact hb c z
   ·rw[BC.mp z];exact xD _
  ·rintro ys σ' H5 ⟨a4,b,o,rfl,be,az,l4,u4,rfl,dm,hb⟩ D hD;have ax:b.length≤6:=by omega
   refine⟨_,D,b.map (fun c=>mk [c]),rfl,rfl,aQ aD,by
    rw[aGC (fun w hw=>by obtain⟨x,_,rfl⟩:=BO.mp hw;rfl),Ac,e0];omega,?_⟩
   rw[aGB];have aq:=be.same (aH (o:=.lst ((b.map fun c=>mk [c]).map V.str)) hD);have ak:bK p H _:=az.same (aH (o:=.lst ((b.map fun c=>mk [c]).map V.str)) hD);generalize upd H5 D (.lst ((b.map fun c=>mk [c]).map V.str))=H6 at aq ak ⊢;refine⟨_,rfl,_,rfl,mk b,rfl,aF (by rw[jQ];omega),_,_,rfl,rfl,p,c,ns,a4,_,rfl,aq,by omega,by omega,by rw[jQ];omega,fun ss a5 H7 s0 s1 l5 u5 bb cf=>?_⟩;rw[jQ]at s1;obtain⟨sp,rfl⟩:∃ sp:Nat,ss=sp:=⟨ss.toNat,by omega⟩
   refine⟨Bs _,fun L hL=>?_⟩;have bw:=ak.trans cf;have an:L≠p:=by
    obtain⟨l,_,z⟩:=bb.ob;exact(bX z hL).symm
   have ci:L≠c:=(bX bb.ce hL).symm;have bP:H L=none:=by
    cases e:H L with
    | none=>rfl
    | some x=>exact absurd (bw L x e an) (by rw[hL];simp)
   refine⟨_,rfl,m,rfl,by omega,by omega,iX (n:=(m:Int).toNat) (fun i σ H'=>Ex3 fun o5 o9 G=>σ=[some (.ref p),some (.int m),some (.str abc),some (.int U),some (.int t),o5,some (.str (mk b)),some (.int sp),some (.ref L),o9,G,none]∧H'=upd H7 L (.lst (((AJ i).map fun k=>mk (word (decide (U=1)) b sp t k)).map V.str))) ⟨_,_,_,rfl,rfl⟩ ?_ ?_⟩
   ·rintro i σ H' hi ⟨o5,o9,G,rfl,rfl⟩;dsimp only[cE];have cI:i < 44:=by omega
    refine⟨_,rfl,_,rfl,_,rfl,_,_,rfl,rfl,.inl ⟨by decide,by decide⟩,_,_,rfl,rfl,_,_,rfl,rfl,(by show(0:Int) < 26;decide),_,_,gP (t + 7 * i),rfl,rfl,zA,xE _ (by omega),_,rfl,_,rfl,_,rfl,_,_,rfl,rfl,⟨by decide,by decide⟩,_,_,rfl,rfl,_,_,rfl,rfl,(by show(0:Int) < 26;decide),_,_,gP (t + i / 26),rfl,rfl,zA,xE _ (by omega),_,_,rfl,rfl,aF (by show 1 + 1≤1000000;decide),?_⟩;have zB:(mk b).length≤sizeLine:=aF (by rw[jQ];omega);have bd:∀{x y},(A8 (mk b) x y).length≤6:=fun{x y}=>AM (Es _ x y) (by rw[jQ];omega);have h2:((⟨#[gP (t + 7 * i)]⟩:Str) ++ ⟨#[gP (t + i / 26)]⟩).length=2:=rfl;refine⟨_,rfl,_,rfl,_,rfl,mk b,rfl,zB,_,rfl,_,_,rfl,rfl,aF (by have:=bd (x:=none) (y:=some (sp:Int));omega),_,rfl,_,rfl,_,rfl,mk b,rfl,zB,_,_,rfl,rfl,aF (by have:=bd (x:=none) (y:=some (sp:Int));have:=bd (x:=some (sp:Int)) (y:=none);rw[AL];omega),?_⟩;have ew:(A8 (mk b) none (some (sp:Int)) ++ ((⟨#[gP (t + 7 * i)]⟩:Str) ++ ⟨#[gP (t + i / 26)]⟩)) ++ A8 (mk b) (some (sp:Int)) none=mk (b.take sp ++ zL t i ++ b.drop sp):=by
     rw[aJu ax (by omega),aGA ax (by omega)];rw[show((⟨#[gP (t + 7 * i)]⟩:Str) ++ ⟨#[gP (t + i / 26)]⟩)=mk (zL t i) from rfl,aBa,aBa]
    rw[ew];refine⟨fun σ' H'=>∃ G,σ'=[some (.ref p),some (.int m),some (.str abc),some (.int U),some (.int t),some (.int (0 + i)),some (.str (mk b)),some (.int sp),some (.ref L),some (.str (mk (word (decide (U=1)) b sp t i))),G,none]∧H'=upd H7 L (.lst (((AJ i).map fun k=>mk (word (decide (U=1)) b sp t k)).map V.str)),?_,?_⟩
    ·refine⟨_,rfl,rfl,_,rfl,c9 (fun g=>?_) (fun g=>?_)⟩
     ·have g':U=1:=V.int.inj (Ie g);subst g';refine⟨_,rfl,_,_,rfl,rfl,fun mm σ' H'=>∃(r f:Nat) (O:List Nat) (rv:Int) (wv:Str),mm=r∧rv=(r:Int)∧wv=mk (O.map fun d=>gP (t + 9 * d))∧σ'=[some (.ref p),some (.int m),some (.str abc),some (.int 1),some (.int t),some (.int (0 + i)),some (.str (mk b)),some (.int sp),some (.ref L),some (.str wv),some (.int rv),none]∧H'=upd H7 L (.lst (((AJ i).map fun k=>mk (word (decide ((1:Int)=1)) b sp t k)).map V.str))∧bij f r ++ O=bij 6 (i + 1)∧r < 2 ^ f∧O.length + f≤6,⟨i + 1,i + 1,6,[],_,_,rfl,(by show 0 + (i:Int) + 1=((i + 1:Nat):Int);omega),(by show A4 ""=mk [];decide),rfl,rfl,by simp,by omega,by simp⟩,?_⟩;rintro mm σ' H' ⟨r,f,O,rv,wv,rfl,rfl,rfl,rfl,rfl,aj,bR,dn⟩;refine⟨_,rfl,_,_,rfl,rfl,_,rfl,c9 (fun g2=>?_) (fun g2=>?_)⟩
      ·have cx:(0:Int) < mm:=Ie g2;refine⟨_,fun df dq h=>h,?_⟩;obtain⟨f',rfl⟩:∃ f',f=f' + 1:=by
        cases f with
        | zero=>exact absurd bR (by omega)
        | succ x=>exact⟨x,rfl⟩
       have e2:mk [gP (t + 9 * (mm % 2))] ++ mk (O.map fun d=>gP (t + 9 * d))=mk (((mm % 2) :: O).map fun d=>gP (t + 9 * d)):=by rw[aBa];rfl
       refine⟨_,rfl,_,rfl,_,rfl,_,_,rfl,rfl,(by show(0:Int) < 2;decide),_,_,rfl,rfl,.inl ⟨by decide,by decide⟩,_,_,rfl,rfl,_,_,rfl,rfl,(by show(0:Int) < 26;decide),_,_,gP (t + 9 * (mm % 2)),rfl,rfl,zA,xE _ (by omega),_,rfl,_,_,rfl,rfl,aF (by rw[jQ,Ac];show 1 + _≤_;omega),_,rfl,_,_,rfl,rfl,_,_,rfl,rfl,⟨by decide,by decide⟩,(mm - 1) / 2,by omega,(mm - 1) / 2,f',(mm % 2) :: O,_,_,rfl,?_,e2,rfl,rfl,?_,?_,?_⟩
       ·show((mm:Int) - 1) / 2=_;omega
       ·rw[← aj,aEP f' mm (by omega)];simp
       ·rw[FQ]at bR;omega
       ·rw[Ak];omega
      ·have cx:¬ (0:Int) < mm:=fun z=>g2 (Ic z);have hz:mm=0:=by omega
       subst hz;have e3:bij f 0=[]:=by cases f <;> rfl
       rw[e3,List.nil_append]at aj;have e4:word (decide ((1:Int)=1)) b sp t i=O.map fun d=>gP (t + 9 * d):=by
        rw[aj];rfl
       exact⟨some (V.int ((0:Nat):Int)),by rw[e4],rfl⟩
     ·have g':¬ U=1:=fun z=>g (Ic (by rw[z]));rw[decide_eq_false g'];exact⟨_,rfl,rfl⟩
    ·rintro σ' H' ⟨G,rfl,rfl⟩;refine⟨_,rfl,.inl ⟨rfl,_,aQ aD⟩,_,rfl,L,_,_,rfl,rfl,aD,by rw[Ac,Ac,Dh];exact i7 (by omega),_,_,_,rfl,?_⟩;rw[aBv,DD,Ar,Ar];rfl
   ·rintro σ H' ⟨o5,o9,G,rfl,rfl⟩;have S8:=aH (o:=.lst (((AJ (m:Int).toNat).map fun k=>mk (word (decide (U=1)) b sp t k)).map V.str)) hL;have ap:=bb.same S8;have ay:=bw.same S8;have ao:upd H7 L (.lst (((AJ (m:Int).toNat).map fun k=>mk (word (decide (U=1)) b sp t k)).map V.str)) L=_:=aD;have hN:Nms ((AJ (m:Int).toNat).map fun k=>mk (word (decide (U=1)) b sp t k)):=by
     refine⟨aGw (by omega) (by omega),fun w hw=>?_⟩;obtain⟨k',hk',rfl⟩:=BO.mp hw;have:=CM.mp hk';exact aDi (by omega) ax hb
    have aR:((AJ (m:Int).toNat).map fun k=>mk (word (decide (U=1)) b sp t k)).length=m:=by rw[Ac,Dh];omega
    generalize ((AJ (m:Int).toNat).map fun k=>mk (word (decide (U=1)) b sp t k))=ws at ap ay ao hN aR ⊢;generalize upd H7 L (.lst (ws.map V.str))=H8 at ap ay ao ⊢;refine⟨zZ9,fun T hT=>?_⟩;have S9:=aH (o:=.lst (mC.map V.str)) hT;have bj:upd H8 T (.lst (mC.map V.str)) T=some (.lst (mC.map V.str)):=aD;have bo:=ap.same S9;have av:=ay.same S9;have br:=S9 _ _ ao;have b6:T≠L:=(bX ao hT).symm;have bp:T≠p:=by
     obtain⟨l,_,z⟩:=ap.ob;exact(bX z hT).symm
    have eT:upd H8 T (.lst [V.str "as",.str "with",.str "part",.str "field",.str "none",.str "done",.str "write",.str "back",.str "join"])=upd H8 T (.lst (mC.map V.str)):=rfl;rw[eT];generalize upd H8 T (.lst (mC.map V.str))=H9 at bo av br bj ⊢;refine⟨fun σ' H'=>∃(o5:Option V) (vs:List Str) (a6:Int),σ'=[some (.ref p),some (.int m),some (.str abc),some (.int U),some (.int t),o5,some (.str (mk b)),some (.int sp),some (.ref L),o9,G,some (.ref T)]∧H' L=some (.lst (vs.map V.str))∧vs.length=m∧Nms vs∧c4 H' p c ns a6∧a≤a6∧a6≤a + 30∧bK p H H',?_,?_⟩
    ·refine⟨_,rfl,p,c,ns,a5,_,rfl,bo,by omega,by decide,by decide,fun r6 a6 d2 bq bi l6 u6 au af=>?_⟩;have ar:=af _ _ br an;have bu:=af _ _ bj bp;have aw:=av.trans af;refine⟨rfl,_,rfl,c9 (fun g=>?_) (fun g=>?_)⟩
     ·refine⟨_,rfl,_,_,rfl,?_⟩;obtain⟨n9,hn9,n90,n91,n92⟩:∃ n9:Int,(if (9:Int) < m then(9:Int) else m)=n9∧0≤n9∧n9≤9∧n9≤m:=by
       refine⟨_,rfl,?_⟩;split <;> omega
      rw[hn9];refine⟨n9,rfl,by omega,by omega,iX (n:=n9.toNat) (fun i σ H'=>Ex3 fun(o5:Option V) (vs:List Str) (a7:Int)=>Aw6 (σ=[some (.ref p),some (.int m),some (.str abc),some (.int U),some (.int t),o5,some (.str (mk b)),some (.int sp),some (.ref L),o9,G,some (.ref T)]) (H' L=some (.lst (vs.map V.str))) (H' T=some (.lst (mC.map V.str))) (vs.length=m) (Nms vs) (Aw3 (c4 H' p c ns a7) (a6≤a7) (a7≤a6 + i∧bK p H H'))) ⟨_,ws,a6,rfl,ar,bu,aR,hN,au,by omega,by simp,aw⟩ ?_ ?_⟩
      ·rintro i σ H' hi ⟨bN,vs,a7,rfl,ag,bh,Y,W,ai,cb,ca,kv⟩;dsimp only[cE];refine⟨_,rfl,p,c,ns,a7,_,rfl,ai,by omega,by decide,by decide,fun r8 a8 dv dj dg l8 u8 ah ad=>?_⟩;have Z:=ad _ _ ag an;have J:=ad _ _ bh bp;have aL:=kv.trans ad;refine⟨rfl,_,rfl,c9 (fun g2=>?_) (fun g2=>?_)⟩
       ·obtain⟨term,hterm⟩:∃ x,mC[i]?=some x:=⟨_,Ai (show i < 9 by omega)⟩
        have cu:ixN (mC.map V.str).length (0 + (i:Int))=some i:=by
         unfold ixN;rw[Ac,Ib (by omega),Ib (by show 0 + (i:Int) < 9;omega)];congr 1;omega
        have am:atI (mC.map V.str) (0 + (i:Int))=some (V.str term):=by
         unfold atI;rw[cu];simp[hterm]
        have bg:ixN (vs.map V.str).length (0 + (i:Int))=some i:=by
         unfold ixN;rw[Ac,Ib (by omega),Ib (by omega)];congr 1;omega
        refine⟨_,rfl,_,rfl,T,_,_,_,rfl,rfl,aQ J,am,_,rfl,L,_,rfl,.inl (aQ Z),rfl,gJ vs,_,rfl,?_⟩;rw[Ib rfl,aB4];refine c9 (fun g3=>?_) (fun g3=>?_)
        ·have cs:term ∉ vs:=by simpa using g3
         refine⟨_,rfl,_,rfl,T,_,_,_,rfl,rfl,aQ J,am,_,rfl,_,rfl,L,_,_,i,rfl,rfl,Z,bg,_,vs.set i term,a8,rfl,by rw[aD,← List.map_set],by rw[bD b6];exact J,by rw[List.length_set,Y],⟨aEM W.nd cs,fun w hw=>?_⟩,?_,by omega,by omega,?_⟩
         ·rcases List.mem_or_eq_of_mem_set hw with z | z
          ·exact W.ok w z
          ·rw[z];exact aBb term (AN hterm)
         ·obtain⟨⟨l,hl,e⟩,ce,ge,sm⟩:=ah;exact⟨⟨l,hl,by rw[bD an.symm];exact e⟩,by rw[bD ci.symm];exact ce,ge,sm⟩
         ·intro x o e ne;have nx:x≠L:=bX e bP;rw[bD nx];exact aL x o e ne
        ·exact⟨_,vs,a8,rfl,Z,J,Y,W,ah,by omega,by omega,aL⟩
       ·exact⟨_,vs,a8,rfl,Z,J,Y,W,ah,by omega,by omega,aL⟩
      ·rintro σ H' ⟨bN,vs,a7,rfl,ag,bh,Y,W,ai,cb,ca,kv⟩;exact⟨_,vs,a7,rfl,ag,Y,W,ai,by omega,by omega,kv⟩
     ·exact⟨_,ws,a6,rfl,ar,aR,hN,au,by omega,by omega,aw⟩
    ·rintro σ' H' ⟨bN,vs,a6,rfl,ag,Y,W,ai,cv,b7,kv⟩;exact⟨_,rfl,k L vs a6 H' bP ag Y W cv b7 ai kv⟩
structure OkD(b k:Nat)(d:Aj):Prop where
 sh:d.showable=true
 dp:d.depth≤k
 len:d.shown.length≤b
theorem OkD.mono{b J k G:Nat}{d:Aj}(h:OkD b k d)(O:b≤J)(U:k≤G):OkD J G d:=⟨h.sh,AM h.dp U,AM h.len O⟩
theorem aHt{b k:Nat}:∀{ds:List Aj},(∀ d∈ds,OkD b k d)→PyData.showableAll ds=true∧PyData.depthAll ds≤k∧((ds.map C9).map (·.length)).sum≤ds.length * b
 | [],_=>⟨rfl,Bs _,by simp⟩
 | d :: r,h=>by
  obtain⟨h1,h2,h3⟩:=aHt (ds:=r) fun x G=>h x (AY _ G);obtain⟨g1,g2,g3⟩:=h d AV;refine⟨?_,?_,?_⟩
  ·unfold PyData.showableAll;rw[g1,h1];rfl
  ·unfold PyData.depthAll;exact Nat.max_le.mpr ⟨g2,h2⟩
  ·rw[A0,A0,B5,Ak,Nat.succ_mul];omega
theorem OkD.tuple{b k n:Nat}{ds:List Aj}(h:∀ d∈ds,OkD b k d)(hn:ds.length≤n):OkD (n * (b + 2) + 3) (k + 1) (.tuple ds):=by
 obtain⟨h1,h2,h3⟩:=aHt h;refine⟨?_,?_,?_⟩
 ·unfold Fd;exact h1
 ·unfold EW;omega
 ·unfold C9;rw[PyProof.Rows.shownAll_eq_map];unfold tupleText;have J:=Ee (A4 ", ") (ds.map C9);have G:(A4 ", ").length=2:=by decide
  have U:(A4 "(").length=1:=by decide
  have O:∀ c:Bool,(A4 (if c=true then ",)" else ")")).length≤2:=by decide
  have W:=O ((ds.map C9).length == 1);rw[G,Ac]at J;rw[AL,AL,U];have:ds.length * b + ds.length * 2≤n * (b + 2):=by
   rw[← Nat.mul_add];exact Nat.mul_le_mul_right _ hn
  omega
theorem OkD.str{z:Str}(h:FD z=true)(J:z.length≤10):OkD 102 0 (.str z):=by
 refine⟨by unfold Fd;rfl,by unfold EW;exact An _,?_⟩;have hz:z.cps.size≤10:=J;have G:(Ba z).layable0=true:=by
  unfold PyData.layable0 PyData.canLay0 EW PyData.weight;rw[h,Ic (show(0:Nat)≤64 by decide),Ic (show z.cps.size≤2 ^ 20 by omega)];rfl
 have:=PyProof.Rows.len_repr_of_layable G;unfold C9;omega
theorem aGD{i:Int}(G:0≤i)(h1:i < 10 ^ 60):(A4 (toString i)).length≤60:=by
 obtain⟨n,rfl⟩:∃ n:Nat,i=n:=⟨i.toNat,by omega⟩
 rw[PySem.ofString_length];show(Int.repr (n:Int)).length≤60;have e:Int.repr (n:Int)=Nat.repr n:=rfl;rw[e];exact(Nat.length_repr_le_iff (by decide)).mpr (by omega)
theorem OkD.int{i:Int}(G:0≤i)(h1:i < 10 ^ 60):OkD 102 0 (.int i):=by
 refine⟨?_,by unfold EW;exact An _,?_⟩
 ·unfold Fd;refine Ic ?_;have h2:i.natAbs < 2 ^ 200:=by
   have:(10:Int) ^ 60 < ((2 ^ 200:Nat):Int):=by decide
   omega
  by_cases hz:i.natAbs=0
  ·rw[hz];decide
  ·have:=(FZ hz).mpr h2;omega
 ·unfold C9;have:=aGD G h1;omega
theorem aER{z:Str}(h:bA z=true):FD z=true:=by
 unfold bA at h;rw[Ay,AX]at h;unfold FD;rw[Array.all_eq_true_iff_forall_mem];intro c hc;have:=Ie (h.2 c (by simpa using hc));exact Ic (by omega)
theorem OkD.name{z:Str}(h:bA z=true):OkD 102 0 (.str z):=OkD.str (aER h) (by have:=fH h;omega)
def tyN:Aj→String
 | .none=>"NoneType"
 | .bool _=>"bool"
 | .int _=>"int"
 | .str _=>"str"
 | .list _=>"list"
 | .tuple _=>"tuple"
 | .dict _=>"dict"
def kY:Aj→Bool | .str _=>true | _=>false
def fB:Aj→Bool | .tuple _=>true | _=>false
def isInt:Aj→Bool | .int _=>true | .bool _=>true | _=>false
def xF:Aj→Bool | .bool _=>true | _=>false
def bC:Aj→Bool | .str z=>bA z | _=>false
def cB(lo hi:Int):Aj→Bool | .int i=>decide (lo≤i∧i≤hi) | _=>false
def dM:Aj→Bool
 | .tuple [l,h,a]=>bC l && bC h && cB 1 10000000 a
 | _=>false
theorem fZ{K:Ae}(d:Aj):A9 K (.type (tyN d)) (.type "str")=some (kY d):=by
 cases d <;> dsimp only[tyN,kY] <;> first | exact nY | exact wK (by decide) (by decide) (by decide)
theorem jS{K:Ae}(d:Aj):A9 K (.type (tyN d)) (.type "tuple")=some (fB d):=by
 cases d <;> dsimp only[tyN,fB] <;> first | exact nY | exact wK (by decide) (by decide) (by decide)
theorem aB7{K:Ae}(d:Aj):A9 K (.type (tyN d)) (.type "int")=some (isInt d):=by
 cases d <;> dsimp only[tyN,isInt] <;> first | exact nY | exact wK (by decide) (by decide) (by decide)
theorem aES{K:Ae}(d:Aj):A9 K (.type (tyN d)) (.type "bool")=some (xF d):=by
 cases d <;> dsimp only[tyN,xF] <;> first | exact nY | exact wK (by decide) (by decide) (by decide)
theorem iD{K:Ae}{m:Bool}{H:Hp}{x:V}{d:Aj}(h:RdV m H x d):iF K H x (.type (tyN d)):=by
 cases h with
 | non=>exact .non
 | bl b=>exact .bl b
 | int i=>exact .int i
 | str z _=>exact .str z
 | lst _ e _ _=>exact .lst e
 | tup e _ _=>exact .tup e
 | dct _ e=>exact .dK e
inductive tO(K:Ae)(vs:List V)(H:Hp)(Q:VK)(u3_:XK):Prop
 | mk (x:_) (q0:vs=[x]) (q1:((∃ z,x=V.str z∧z.length≤1000000∧∀ H',aT H H'→Q (.bl (bA z)) H')∨(∃ t,iF K H x t∧A9 K t (.type "str")=some false∧Q (.bl false) H))):tO K vs H Q u3_
def zQ(K:Ae):Sp:=fun vs H Q u3_=>tO K vs H Q u3_
inductive zS(vs:List V)(H:Hp)(Q:VK)(u3_:XK):Prop
 | mk (m:Bool) (x:V) (d:Aj) (q0:vs=[x]) (q1:RdV m H x d) (q2:∀ H',aT H H'→Q (.bl (bC d)) H'):zS vs H Q u3_
def eZ:Sp:=fun vs H Q u3_=>zS vs H Q u3_
inductive zU(vs:List V)(H:Hp)(Q:VK)(u3_:XK):Prop
 | mk (m:Bool) (x:V) (d:Aj) (q0:vs=[x]) (q1:RdV m H x d) (q2:Q (.bl (isInt d && !xF d)) H):zU vs H Q u3_
def aET:Sp:=fun vs H Q u3_=>zU vs H Q u3_
inductive vO(vs:List V)(H:Hp)(Q:VK)(u3_:XK):Prop
 | mk (m:Bool) (x:V) (d:Aj) (lo hi:Int) (q0:vs=[x,.int lo,.int hi]) (q1:RdV m H x d) (q2:Q (.bl (cB lo hi d)) H):vO vs H Q u3_
def gN:Sp:=fun vs H Q u3_=>vO vs H Q u3_
inductive zV(vs:List V)(H:Hp)(Q:VK)(u3_:XK):Prop
 | mk (m:Bool) (x:V) (d:Aj) (q0:vs=[x]) (q1:RdV m H x d) (q2:∀ H',aT H H'→Q (.bl (dM d)) H'):zV vs H Q u3_
def tP:Sp:=fun vs H Q u3_=>zV vs H Q u3_
structure Txt(K:Ae)(mg:Str→Option Ab):Prop where
 isi:mg "isinstance"=none
 str:mg "str"=none
 len:mg "len"=none
 al:mg "all"=none
 int:mg "int"=none
 bool:mg "bool"=none
 tuple:mg "tuple"=none
 set:mg "set"=none
 longest:∃ t,mg "LONGEST"=some (.int 8 t)
 lastDay:∃ t,mg "LAST_DAY"=some (.int 9999 t)
 fewest:∃ t,mg "FEWEST_LANDS"=some (.int 2 t)
 most:∃ t,mg "MOST_LANDS"=some (.int 6 t)
 acres:∃ t,mg "MOST_PART_ACRES"=some (.int 10000000 t)
 inches:∃ t,mg "MOST_INCHES"=some (.int 10000000 t)
 pence:∃ t,mg "MOST_PENCE"=some (.int 1000000000 t)
 spades:∃ t,mg "MOST_SPADES"=some (.int 1000000 t)
theorem aBc(K:Ae):A9 K (.type "str") (.type "str")=some true:=by
 unfold A9;rw[Ib (by rfl)]
theorem scN:bB ["thing"] ["thing"] (aK qO):=⟨rfl,rfl,rfl,by decide,rfl,by decide,by decide⟩
theorem xG(a b:Nat):(!decide (([b]:List Nat) < [a]))=decide (a≤b):=by
 have:([b]:List Nat) < [a]↔b < a:=by
  constructor
  ·intro h;cases h with
   | rel h=>exact h
   | cons h=>cases h
  ·intro h;exact List.Lex.rel h
 by_cases h:b < a
 ·rw[Ic (this.mpr h),decide_eq_false (by omega)];rfl
 ·rw[decide_eq_false (fun z=>h (this.mp z)),Ic (by omega)];rfl
theorem aDm{f:Af}{fd:Ax}(F:Fun K "is_name" "is_name" qO f fd)(T:Txt K mg):b8 P w K mg base CX0 1 f fd ["thing"] (zQ K):=by
 refine F.ok scN (fun vs H Q E h=>?_) (fun ae A outer s H vs Q E hr h=>?_)
 ·obtain⟨x,rfl,_⟩:=h;rfl
 ·obtain⟨x,rfl,hx⟩:=h;obtain⟨tl,hlong⟩:=T.longest;refine⟨_,aE (bM (dU (cS (cN (aM cM (by rfl) T.isi (by kernel_rfl) (fF (pv 0) (fF (dI (v:=.ty "str") (by rfl) T.str (by kernel_rfl) rfl) aA)))))
    (dP (cS (nF iJ iJ aC (aM dJ (by rfl) T.len Aq (fF (pv 0) aA)) (bZ (v:=.int 8) (by rfl) hlong ⟨_,rfl⟩))))).pt (aG (aN eV)) aV)
   (aG (aN (aM (nS rfl) (by rfl) T.al (by kernel_rfl) (fF (fV (N:=["sign"]) (src:=[none]) (osc:=aK qO) (oN:=["thing"]) ⟨by rfl,by decide,by decide,by decide,rfl,by rfl⟩ (wJ (pv 0))
    fun cl s H fp fe C=>⟨bJ (i:=0) (show(["sign"]:List Str).Nodup by decide) rfl (Aw rfl),fG,kF lF lF aJ (pv 0) aJ⟩) aA)))),?_⟩
  rcases hx with⟨z,rfl,hz,k⟩ | ⟨t,ty,e,k⟩
  ·refine⟨_,rfl,_,"str",_,true,rfl,iF.str z,aBc K,true,rfl,bG ?_⟩;refine⟨_,rfl,z,rfl,aF hz,_,_,rfl,rfl,_,rfl,?_⟩;have J:¬ (1≤z.length∧z.length≤8)→Q (.bl false) H:=fun h=>by
    have:=k H (aT.refl H);unfold bA at this;rw[decide_eq_false h]at this;exact this
   refine c9 (fun h1=>?_) (fun h1=>?_)
   ·have U:=Ie h1;refine⟨_,_,rfl,rfl,_,rfl,?_⟩;by_cases h8:(z.length:Int)≤8
    ·rw[Ic h8];refine bG ?_;refine⟨_,rfl,z,rfl,?_⟩;refine nV (fun i ys σ H'=>H'=H∧ys=((z.cps.toList.take i).map fun c=>V.bl (decide (97≤c∧c≤122)))∧σ.length=1) ⟨rfl,rfl,rfl⟩ (aF hz) (fun i ys σ H' p=>by rw[p.2.1,Ac,AC];omega) ?_ ?_
     ·rintro i c ys σ H' hc ⟨rfl,rfl,Z⟩;obtain⟨o,rfl⟩:∃ o,σ=[o]:=by
       match σ,Z with
       | [o],_=>exact⟨o,rfl⟩
      dsimp only[cE];refine bQ ?_;refine⟨_,rfl,_,_,rfl,rfl,_,rfl,?_⟩;have G:∀ b:Bool,b=decide (97≤c∧c≤122)→(H'=H'∧(List.map (fun c=>V.bl (decide (97≤c∧c≤122))) (Dq i z.cps.toList)) ++ [V.bl b]=(z.cps.toList.take (i + 1)).map (fun c=>V.bl (decide (97≤c∧c≤122)))∧([o].set 0 (some (V.str ⟨#[c]⟩))).length=1):=fun b hb=>by
       refine⟨rfl,?_,rfl⟩;rw[A2,Ar,hb];have:z.cps.toList[i]?=some c:=by simpa using hc
       rw[this];rfl
      have e1:(!decide ((⟨#[c]⟩:Str).cps.toList < ("a":Str).cps.toList))=decide (97≤c):=xG 97 c;have e2:(!decide (("z":Str).cps.toList < (⟨#[c]⟩:Str).cps.toList))=decide (c≤122):=xG c 122;rw[e1];refine c9 (fun Y=>?_) (fun Y=>?_)
      ·have W:=Ie Y;refine⟨_,_,rfl,rfl,?_⟩;rw[e2];refine G _ ?_;rw[decide_eq_decide];omega
      ·have W:¬ 97≤c:=fun z=>Y (Ic z);refine G false ?_;rw[decide_eq_false (by omega)]
     ·rintro ys σ H' ⟨rfl,rfl,Z⟩ D hD;have O:Dq z.cps.size z.cps.toList=z.cps.toList:=by rw[← AS];exact Bc
      rw[O];refine⟨D,z.cps.toList.map fun c=>decide (97≤c∧c≤122),rfl,aQ (by rw[aD,Cg];rfl),?_⟩;have:=k _ (aH (o:=.lst (List.map (fun c=>V.bl (decide (97≤c∧c≤122))) z.cps.toList)) hD);unfold bA at this;rw[Ic (by omega),AE]at this;rw[Dk];exact this
    ·rw[decide_eq_false h8];exact bQ (J (by omega))
   ·have U:¬ (1:Int)≤z.length:=fun z=>h1 (Ic z);exact⟨false,rfl,bQ (J (by omega))⟩
  ·refine⟨_,rfl,_,"str",t,false,rfl,ty,e,false,rfl,bQ ?_⟩;refine bQ ?_;exact k
theorem aGE{f:Af}{fd:Ax}{k:Nat}{ps:List Str}{sp O:Sp}(G:b8 P w K mg base CX0 k f fd ps sp)(h:∀ vs H Q E,O vs H Q E→sp vs H Q E):b8 P w K mg base CX0 k f fd ps O:=
 ⟨fun vs H Q E z=>G.len vs H Q E (h vs H Q E z),fun A outer s H J U vs Q E Y W Z r z=>G.run A outer s H J U vs Q E Y W Z r (h vs H Q E z)⟩
theorem aDn(vs:List V)(H:Hp)(Q:VK)(E:XK)(h:eZ vs H Q E):zQ K vs H Q E:=by
 obtain⟨m,x,d,rfl,hx,k⟩:=h;refine⟨x,rfl,?_⟩;have ty:=iD (K:=K) hx;have G:=fZ (K:=K) d;cases hx with
 | str z hz=>exact .inl ⟨z,rfl,by omega,k⟩
 | non=>exact .inr ⟨_,ty,G,k H (aT.refl H)⟩
 | bl b=>exact .inr ⟨_,ty,G,k H (aT.refl H)⟩
 | int i=>exact .inr ⟨_,ty,G,k H (aT.refl H)⟩
 | lst _ _ _ _=>exact .inr ⟨_,ty,G,k H (aT.refl H)⟩
 | tup _ _ _=>exact .inr ⟨_,ty,G,k H (aT.refl H)⟩
 | dct _ _=>exact .inr ⟨_,ty,G,k H (aT.refl H)⟩
theorem aIl:bB ["thing"] ["thing"] (aK pF):=⟨rfl,rfl,rfl,by decide,rfl,by decide,by decide⟩
theorem aGF{f:Af}{fd:Ax}(F:Fun K "is_number" "is_number" pF f fd)(T:Txt K mg):b8 P w K mg base CX0 1 f fd ["thing"] aET:=by
 refine F.ok aIl (fun vs H Q E h=>?_) (fun G A outer s H vs Q E O h=>?_)
 ·obtain⟨m,x,d,rfl,_⟩:=h;rfl
 ·obtain⟨m,x,d,rfl,hx,k⟩:=h;refine⟨_,aG (aN (cT (aM cM (by rfl) T.isi (by kernel_rfl) (aB (pv 0) (aB (dI (v:=.ty "int") (by rfl) T.int (by kernel_rfl) rfl) aA)))
   (dG (aDH (aM cM (by rfl) T.isi (by kernel_rfl) (aB (pv 0) (aB (dI (v:=.ty "bool") (by rfl) T.bool (by kernel_rfl) rfl) aA))))))),?_⟩
  refine⟨_,rfl,_,"int",_,_,rfl,iD hx,aB7 d,_,rfl,c9 (fun g=>?_) (fun g=>?_)⟩
  ·rw[g,AE]at k;exact⟨_,rfl,_,"bool",_,_,rfl,iD hx,aES d,_,rfl,k⟩
  ·have J:isInt d=false:=by simpa using g
   rw[J]at k;exact k
theorem aDo:bB ["thing","least","most"] ["thing","least","most"] (aK tJ):=⟨rfl,rfl,rfl,by decide,rfl,by decide,by decide⟩
theorem aBd{f:Af}{fd:Ax}(F:Fun K "is_whole" "is_whole" tJ f fd)(U:Cl P w K mg base 1 "is_number" ["thing"] aET):b8 P w K mg base CX0 2 f fd ["thing","least","most"] gN:=by
 refine F.ok aDo (fun vs H Q E h=>?_) (fun Y A outer s H vs Q E W h=>?_)
 ·obtain⟨m,x,d,lo,hi,rfl,_⟩:=h;rfl
 ·obtain⟨m,x,d,lo,hi,rfl,hx,k⟩:=h;refine⟨_,aG (aN (cT (aW U W (aB (pv 0) aA)) (dG (kF iJ iJ (pv 1) (pv 0) (pv 2))))),_,rfl,m,x,d,rfl,hx,_,rfl,c9 (fun g=>?_) (fun g=>?_)⟩
  ·obtain⟨i,rfl⟩:∃ i,d=.int i:=by
    cases d with
    | int i=>exact⟨i,rfl⟩
    | _=>simp[isInt,xF]at g
   cases hx;refine⟨_,rfl,_,rfl,_,_,rfl,rfl,?_⟩;have J:Q (.bl (decide (lo≤i∧i≤hi))) H:=k;refine⟨_,rfl,c9 (fun O=>?_) (fun O=>?_)⟩
   ·have G:lo≤i:=Ie O;refine⟨_,rfl,_,_,rfl,rfl,?_⟩;show Q (.bl (decide (i≤hi))) H;rw[decide_eq_decide.mpr (show i≤hi↔lo≤i∧i≤hi from⟨fun z=>⟨G,z⟩,fun z=>z.2⟩)];exact J
   ·have G:¬ lo≤i:=fun z=>O (Ic z);rw[decide_eq_false (fun z=>G z.1)]at J;exact J
  ·have Z:(isInt d && !xF d)=false:=by simpa using g
   have e:cB lo hi d=false:=by
    cases d with
    | int i=>simp[isInt,xF]at Z
    | _=>rfl
   rw[e]at k;exact k
inductive zW(vs:List V)(H:Hp)(Q:VK)(u3_:XK):Prop
 | mk (m:Bool) (x:V) (d:Aj) (q0:vs=[x]) (q1:RdV m H x d) (q2:Q (.bl (cB 0 9999999 d)) H):zW vs H Q u3_
def aBe:Sp:=fun vs H Q u3_=>zW vs H Q u3_
theorem xH:bB ["thing","land","house","acres"] ["thing"] (aK wS):=⟨rfl,rfl,rfl,by decide,rfl,by decide,by decide⟩
theorem aGG{f:Af}{fd:Ax}(F:Fun K "is_part" "is_part" wS f fd)(T:Txt K mg)
  (Z:Cl P w K mg base 1 "is_name" ["thing"] eZ)
  (GW:Cl P w K mg base 2 "is_whole" ["thing","least","most"] gN):
  b8 P w K mg base CX0 3 f fd ["thing"] tP:=by
 refine F.ok xH (fun vs H Q E h=>?_) (fun ae A outer s H vs Q E hr h=>?_)
 ·obtain⟨m,x,d,rfl,_⟩:=h;rfl
 ·obtain⟨m,x,d,rfl,hx,k⟩:=h;have G:cJ 1 _:=hr.mono (by decide);obtain⟨ta,hacres⟩:=T.acres;refine⟨_,aE (bM (PW.pt (dU (cS (cN (aM cM (by rfl) T.isi (by kernel_rfl) (aB (pv 0) (aB (dI (v:=.ty "tuple") (by rfl) T.tuple (by kernel_rfl) rfl) aA)))))
    (dP (aP kD (aM aO (by rfl) T.len Aq (aB (pv 0) aA)) aC (aU _))))) (aG (aN eV)) aV)
   (aE (iS (pv 0) (jI rfl (cO (bJ (i:=1) xH.nd rfl (Aw rfl)) (cO (bJ (i:=2) xH.nd rfl (Aw rfl)) (cO (bJ (i:=3) xH.nd rfl (Aw rfl)) gU)))))
   (aG (aN (cT (aW Z G (aB (pv 1) aA)) (cT (aW Z G (aB (pv 2) aA)) (dG (aW GW hr (aB (pv 3) (aB aC (aB (bZ (v:=.int 10000000) (by rfl) hacres ⟨_,rfl⟩) aA)))))))))),?_⟩
  refine⟨_,rfl,_,"tuple",_,_,rfl,iD hx,jS d,_,rfl,?_⟩;cases hd:fB d with
  | false=>
   have e:dM d=false:=by
    cases d with
    | tuple ds=>simp[fB]at hd
    | _=>rfl
   rw[e]at k;exact k H (aT.refl H)
  | true=>
   obtain⟨ds,rfl⟩:∃ ds,d=.tuple ds:=by
    cases d with
    | tuple z=>exact⟨z,rfl⟩
    | _=>simp[fB]at hd
   cases hx with
   | @tup a xs _ e hl r=>
    have W:=r.len;refine bG ?_;refine⟨_,rfl,a,xs,rfl,.inr (aS e),rfl,_,rfl,?_⟩;by_cases J:xs.length=3
    ·rw[Ic (show V.int (xs.length:Int)=V.int 3 by rw[J];rfl)];refine bG ?_
     match xs,ds,J,r with
     | [x1,x2,x3],[d1,d2,d3],_,.cons r1 (.cons r2 (.cons r3 .nil))=>
      refine⟨_,rfl,a,_,rfl,aS e,rfl,_,_,rfl,_,_,rfl,_,_,rfl,rfl,?_⟩;have U:∀ H',aT H H'→Q (.bl (bC d1 && bC d2 && cB 1 10000000 d3)) H':=k;refine⟨_,rfl,m,x1,d1,rfl,r1,fun H1 s1=>⟨_,rfl,?_⟩⟩;have k1:=U H1 s1;refine c9 (fun g=>?_) (fun g=>?_)
      ·refine⟨_,rfl,m,x2,d2,rfl,r2.same s1,fun H2 Y=>⟨_,rfl,?_⟩⟩;have k2:=U H2 (s1.trans Y);rw[g,AE]at k2;refine c9 (fun O=>?_) (fun O=>?_)
       ·rw[O,AE]at k2;exact⟨_,rfl,m,x3,d3,1,10000000,rfl,(r3.same s1).same Y,k2⟩
       ·rw[(by simpa using O:bC d2=false)]at k2;exact k2
      ·rw[(by simpa using g:bC d1=false)]at k1;exact k1
    ·rw[decide_eq_false (show¬ V.int (xs.length:Int)=V.int 3 from fun z=>J (by injection z with z;omega))];refine bQ ?_;have e2:dM (.tuple ds)=false:=by
      match ds,(show ds.length≠3 by omega)with
      | [],_=>rfl
      | [_],_=>rfl
      | [_,_],_=>rfl
      | [_,_,_],z=>exact absurd rfl z
      | _ :: _ :: _ :: _ :: _,_=>rfl
     rw[e2]at k;exact k H (aT.refl H)
theorem aIm:bB ["thing"] ["thing"] (aK wT):=⟨rfl,rfl,rfl,by decide,rfl,by decide,by decide⟩
theorem aGH{f:Af}{fd:Ax}(F:Fun K "is_inch" "is_inch" wT f fd)(T:Txt K mg)
  (O:Cl P w K mg base 2 "is_whole" ["thing","least","most"] gN):
  b8 P w K mg base CX0 3 f fd ["thing"] aBe:=by
 refine F.ok aIm (fun vs H Q E h=>?_) (fun G A outer s H vs Q E J h=>?_)
 ·obtain⟨m,x,d,rfl,_⟩:=h;rfl
 ·obtain⟨m,x,d,rfl,hx,k⟩:=h;obtain⟨ti,hin⟩:=T.inches;exact⟨_,aG (aN (aW O J (aB (pv 0) (aB aC (aB (aX mM (bZ (v:=.int 10000000) (by rfl) hin ⟨_,rfl⟩) aC) aA))))),_,rfl,_,_,rfl,rfl,m,x,d,0,9999999,rfl,hx,k⟩
def xI:Aj→Bool
 | .tuple ds=>ds.all bC
 | _=>false
def xJ:Aj→Bool
 | .tuple ds=>ds.all dM
 | _=>false
inductive zX(vs:List V)(H:Hp)(Q:VK)(u3_:XK):Prop
 | mk (m:Bool) (x:V) (d:Aj) (q0:vs=[x]) (q1:RdV m H x d) (q2:∀ H',aT H H'→Q (.bl (xI d)) H'):zX vs H Q u3_
def xK:Sp:=fun vs H Q u3_=>zX vs H Q u3_
inductive zY(vs:List V)(H:Hp)(Q:VK)(u3_:XK):Prop
 | mk (m:Bool) (x:V) (d:Aj) (q0:vs=[x]) (q1:RdV m H x d) (q2:∀ H',aT H H'→Q (.bl (xJ d)) H'):zY vs H Q u3_
def aEU:Sp:=fun vs H Q u3_=>zY vs H Q u3_
theorem aIn:bB ["thing"] ["thing"] (aK lP):=⟨rfl,rfl,rfl,by decide,rfl,by decide,by decide⟩
theorem aGI{f:Af}{fd:Ax}(F:Fun K "all_names" "all_names" lP f fd)(T:Txt K mg)
  (GN:Cl P w K mg base 1 "is_name" ["thing"] eZ):
  b8 P w K mg base CX0 2 f fd ["thing"] xK:=by
 refine F.ok aIn (fun vs H Q E h=>?_) (fun ad A outer s H vs Q E hr h=>?_)
 ·obtain⟨m,x,d,rfl,_⟩:=h;rfl
 ·obtain⟨m,x,d,rfl,hx,k⟩:=h;refine⟨_,aG (aN (cT (aM cM (by rfl) T.isi (by kernel_rfl) (aB (pv 0) (aB (dI (v:=.ty "tuple") (by rfl) T.tuple (by kernel_rfl) rfl) aA)))
   (dG (aM (nS rfl) (by rfl) T.al (by kernel_rfl) (aB (fV (N:=["name"]) (src:=[none]) (osc:=aK lP) (oN:=["thing"]) ⟨by rfl,by decide,by decide,by decide,rfl,by rfl⟩ (jJ (pv 0))
     fun cl s H fp fe C=>⟨bJ (i:=0) (show(["name"]:List Str).Nodup by decide) rfl (Aw rfl),fG,aW GN hr (aB (pv 0) aA)⟩) aA))))),?_⟩
  refine⟨_,rfl,_,"tuple",_,_,rfl,iD hx,jS d,_,rfl,?_⟩;cases hd:fB d with
  | false=>
   have e:xI d=false:=by
    cases d with
    | tuple ds=>simp[fB]at hd
    | _=>rfl
   rw[e]at k;exact k H (aT.refl H)
  | true=>
   obtain⟨ds,rfl⟩:∃ ds,d=.tuple ds:=by
    cases d with
    | tuple z=>exact⟨z,rfl⟩
    | _=>simp[fB]at hd
   cases hx with
   | @tup a xs _ e hl r=>
    have J:=r.len;have O:∀ H',aT H H'→Q (.bl (ds.all bC)) H':=k;refine bQ ?_;refine⟨_,rfl,a,rfl,⟨xs,aS e⟩,?_⟩;refine kM (xs:=xs) (fun i ys σ H'=>aT H H'∧ys=((ds.take i).map fun d=>V.bl (bC d))∧∃ o,σ=[o]) ⟨aT.refl H,rfl,none,rfl⟩ (aF (by omega)) (fun i ys σ H' p=>by rw[p.2.1,Ac,AC];omega) (fun i ys σ H' p=>aS (p.1 _ _ e)) ?_ ?_
    ·rintro i y ys σ H' U ⟨S,rfl,o,rfl⟩;dsimp only[cE];obtain⟨d',hd',r'⟩:=r.at U;refine bQ ?_;refine⟨_,rfl,m,y,d',rfl,r'.same S,fun H2 W=>⟨S.trans W,?_,_,rfl⟩⟩;rw[A2,hd',Ar];rfl
    ·rintro ys σ H1 ⟨S,rfl,o,rfl⟩ D Z;have G:Dq xs.length ds=ds:=A3 (by omega);rw[G];have Y:=S.trans (aH (o:=.lst (ds.map fun d=>V.bl (bC d))) Z);refine⟨D,ds.map bC,rfl,aQ (by rw[aD,Cg];rfl),?_⟩;rw[Dk];exact O _ Y
theorem aIo:bB ["thing"] ["thing"] (aK lO):=⟨rfl,rfl,rfl,by decide,rfl,by decide,by decide⟩
theorem aGJ{f:Af}{fd:Ax}(F:Fun K "all_parts" "all_parts" lO f fd)(T:Txt K mg)
  (GN:Cl P w K mg base 3 "is_part" ["thing"] tP):
  b8 P w K mg base CX0 4 f fd ["thing"] aEU:=by
 refine F.ok aIo (fun vs H Q E h=>?_) (fun ad A outer s H vs Q E hr h=>?_)
 ·obtain⟨m,x,d,rfl,_⟩:=h;rfl
 ·obtain⟨m,x,d,rfl,hx,k⟩:=h;refine⟨_,aG (aN (cT (aM cM (by rfl) T.isi (by kernel_rfl) (aB (pv 0) (aB (dI (v:=.ty "tuple") (by rfl) T.tuple (by kernel_rfl) rfl) aA)))
   (dG (aM (nS rfl) (by rfl) T.al (by kernel_rfl) (aB (fV (N:=["part"]) (src:=[none]) (osc:=aK lO) (oN:=["thing"]) ⟨by rfl,by decide,by decide,by decide,rfl,by rfl⟩ (jJ (pv 0))
     fun cl s H fp fe C=>⟨bJ (i:=0) (show(["part"]:List Str).Nodup by decide) rfl (Aw rfl),fG,aW GN hr (aB (pv 0) aA)⟩) aA))))),?_⟩
  refine⟨_,rfl,_,"tuple",_,_,rfl,iD hx,jS d,_,rfl,?_⟩;cases hd:fB d with
  | false=>
   have e:xJ d=false:=by
    cases d with
    | tuple ds=>simp[fB]at hd
    | _=>rfl
   rw[e]at k;exact k H (aT.refl H)
  | true=>
   obtain⟨ds,rfl⟩:∃ ds,d=.tuple ds:=by
    cases d with
    | tuple z=>exact⟨z,rfl⟩
    | _=>simp[fB]at hd
   cases hx with
   | @tup a xs _ e hl r=>
    have J:=r.len;have O:∀ H',aT H H'→Q (.bl (ds.all dM)) H':=k;refine bQ ?_;refine⟨_,rfl,a,rfl,⟨xs,aS e⟩,?_⟩;refine kM (xs:=xs) (fun i ys σ H'=>aT H H'∧ys=((ds.take i).map fun d=>V.bl (dM d))∧∃ o,σ=[o]) ⟨aT.refl H,rfl,none,rfl⟩ (aF (by omega)) (fun i ys σ H' p=>by rw[p.2.1,Ac,AC];omega) (fun i ys σ H' p=>aS (p.1 _ _ e)) ?_ ?_
    ·rintro i y ys σ H' U ⟨S,rfl,o,rfl⟩;dsimp only[cE];obtain⟨d',hd',r'⟩:=r.at U;refine bQ ?_;refine⟨_,rfl,m,y,d',rfl,r'.same S,fun H2 W=>⟨S.trans W,?_,_,rfl⟩⟩;rw[A2,hd',Ar];rfl
    ·rintro ys σ H1 ⟨S,rfl,o,rfl⟩ D Z;have G:Dq xs.length ds=ds:=A3 (by omega);rw[G];have Y:=S.trans (aH (o:=.lst (ds.map fun d=>V.bl (dM d))) Z);refine⟨D,ds.map dM,rfl,aQ (by rw[aD,Cg];rfl),?_⟩;rw[Dk];exact O _ Y
inductive zZ(D:List Aj→Bool)(vs:List V)(H:Hp)(Q:VK)(u3_:XK):Prop
 | mk (m:Bool) (x:V) (ds:List Aj) (q0:vs=[x]) (q1:RdV m H x (.tuple ds)) (q2:∀ H',aT H H'→Q (.bl (D ds)) H'):zZ D vs H Q u3_
def eU(D:List Aj→Bool):Sp:=fun vs H Q u3_=>zZ D vs H Q u3_
def iE:List Aj→Bool
 | [d1,d2]=>bC d1 && cB 0 10000000 d2
 | _=>false
theorem qA{ds:List Aj}(h:ds.length≠2):iE ds=false:=by
 match ds,h with
 | [],_=>rfl
 | [_],_=>rfl
 | [_,_],z=>exact absurd rfl z
 | _ :: _ :: _ :: _,_=>rfl
def kZ:List Aj→Bool
 | [d1,d2,d3]=>bC d1 && cB 0 9999999 d2 && bC d3
 | _=>false
theorem z0{ds:List Aj}(h:ds.length≠3):kZ ds=false:=by
 match ds,h with
 | [],_=>rfl
 | [_],_=>rfl
 | [_,_],_=>rfl
 | [_,_,_],z=>exact absurd rfl z
 | _ :: _ :: _ :: _ :: _,_=>rfl
def lA:List Aj→Bool
 | [d1]=>bC d1
 | _=>false
theorem aDp{ds:List Aj}(h:ds.length≠1):lA ds=false:=by
 match ds,h with
 | [],_=>rfl
 | [_],z=>exact absurd rfl z
 | _ :: _ :: _,_=>rfl
def f6:List Aj→Bool
 | [d1,d2,d3,d4]=>bC d1 && cB 0 9999999 d2 && cB 0 1000000000 d3 && cB 0 1000000 d4
 | _=>false
theorem tQ{ds:List Aj}(h:ds.length≠4):f6 ds=false:=by
 match ds,h with
 | [],_=>rfl
 | [_],_=>rfl
 | [_,_],_=>rfl
 | [_,_,_],_=>rfl
 | [_,_,_,_],z=>exact absurd rfl z
 | _ :: _ :: _ :: _ :: _ :: _,_=>rfl
theorem aBf:bB ["rest"] ["rest"] (aK hW):=⟨rfl,rfl,rfl,by decide,rfl,by decide,by decide⟩
theorem z8{f:Af}{fd:Ax}(F:Fun K "fits_measure" "fits_measure" hW f fd)(T:Txt K mg)
  (GN:Cl P w K mg base 1 "is_name" ["thing"] eZ)
  (GW:Cl P w K mg base 2 "is_whole" ["thing","least","most"] gN):
  b8 P w K mg base CX0 6 f fd ["rest"] (eU iE):=by
 refine F.ok aBf (fun vs H Q E h=>?_) (fun ae A outer s H vs Q E G h=>?_)
 ·obtain⟨m,x,d,rfl,_⟩:=h;rfl
 ·obtain⟨m,x,ds,rfl,hx,k⟩:=h;have U:cJ 1 _:=G.mono (by decide);have O:cJ 2 _:=G.mono (by decide);have af:cJ 3 _:=G.mono (by decide);obtain⟨tinches,hinches⟩:=T.inches;refine⟨_,aG (aN (cT (dC cH (aM aO (by rfl) T.len Aq (aB (pv 0) aA)) aC (aU _)) (cT (aW GN U (aB (aZ bU (pv 0) aC Ig) aA)) (dG (aW GW O (aB (aZ bU (pv 0) aC Ig) (aB aC (aB (bZ (v:=.int 10000000) (by rfl) hinches ⟨_,rfl⟩) aA)))))))),?_⟩;cases hx with
  | @tup a xs _ e hl r=>
   have Y:=r.len;refine⟨_,rfl,a,xs,rfl,.inr (aS e),rfl,_,rfl,?_⟩;by_cases hn:xs.length=2
   ·rw[Ic (show V.int (xs.length:Int)=V.int 2 by rw[hn];rfl)];refine bQ ?_
    match xs,ds,hn,r with
    | [x1,x2],[d1,d2],_,.cons r1 (.cons r2 (.nil))=>
     have W:∀ H',aT H H'→Q (.bl (bC d1 && cB 0 10000000 d2)) H':=k;have J:=aT.refl H;refine⟨_,rfl,a,_,0,_,rfl,rfl,aS (J _ _ e),rfl,m,x1,d1,rfl,(r1.same J),fun H1 z1=>⟨_,rfl,?_⟩⟩;have s1:=J.trans z1;cases Z:(bC d1)with
     | false=>
      have q:=W H1 s1;rw[Z]at q;simp only[Bg]at q;refine bG ?_;exact q
     | true=>
      refine bQ ?_;have q:=W H1 s1;rw[Z,AE]at q;exact⟨_,rfl,a,_,1,_,rfl,rfl,aS (s1 _ _ e),rfl,m,x2,d2,0,10000000,rfl,(r2.same s1),q⟩
   ·rw[decide_eq_false (show¬ V.int (xs.length:Int)=V.int 2 from fun z=>hn (by injection z with z;omega))];refine bG ?_;rw[qA (by omega)]at k;exact k H (aT.refl H)
theorem aGK:bB ["rest"] ["rest"] (aK pK):=⟨rfl,rfl,rfl,by decide,rfl,by decide,by decide⟩
theorem aEV{f:Af}{fd:Ax}(F:Fun K "fits_view" "fits_view" pK f fd)(T:Txt K mg)
  (GN:Cl P w K mg base 1 "is_name" ["thing"] eZ)
  (GI:Cl P w K mg base 3 "is_inch" ["thing"] aBe):
  b8 P w K mg base CX0 6 f fd ["rest"] (eU kZ):=by
 refine F.ok aGK (fun vs H Q E h=>?_) (fun ai A outer s H vs Q E U h=>?_)
 ·obtain⟨m,x,d,rfl,_⟩:=h;rfl
 ·obtain⟨m,x,ds,rfl,hx,k⟩:=h;have G:cJ 1 _:=U.mono (by decide);have ah:cJ 2 _:=U.mono (by decide);have Y:cJ 3 _:=U.mono (by decide);refine⟨_,aG (aN (cT (dC cH (aM aO (by rfl) T.len Aq (aB (pv 0) aA)) aC (aU _)) (cT (aW GN G (aB (aZ bU (pv 0) aC Ig) aA)) (cT (aW GI Y (aB (aZ bU (pv 0) aC Ig) aA)) (dG (aW GN G (aB (aZ bU (pv 0) aC Ig) aA))))))),?_⟩;cases hx with
  | @tup a xs _ e hl r=>
   have Z:=r.len;refine⟨_,rfl,a,xs,rfl,.inr (aS e),rfl,_,rfl,?_⟩;by_cases hn:xs.length=3
   ·rw[Ic (show V.int (xs.length:Int)=V.int 3 by rw[hn];rfl)];refine bQ ?_
    match xs,ds,hn,r with
    | [x1,x2,x3],[d1,d2,d3],_,.cons r1 (.cons r2 (.cons r3 (.nil)))=>
     have J:∀ H',aT H H'→Q (.bl (bC d1 && cB 0 9999999 d2 && bC d3)) H':=k;have W:=aT.refl H;refine⟨_,rfl,a,_,0,_,rfl,rfl,aS (W _ _ e),rfl,m,x1,d1,rfl,(r1.same W),fun H1 z1=>⟨_,rfl,?_⟩⟩;have s1:=W.trans z1;cases O:(bC d1)with
     | false=>
      have q:=J H1 s1;rw[O]at q;simp only[Bg]at q;refine bG ?_;exact q
     | true=>
      refine bQ ?_;refine⟨_,rfl,a,_,1,_,rfl,rfl,aS (s1 _ _ e),rfl,m,x2,d2,rfl,(r2.same s1),_,rfl,?_⟩;cases g1:(cB 0 9999999 d2)with
      | false=>
       have q:=J H1 s1;rw[O,AE,g1]at q;simp only[Bg]at q;refine bG ?_;exact q
      | true=>
       refine bQ ?_;refine⟨_,rfl,a,_,2,_,rfl,rfl,aS (s1 _ _ e),rfl,m,x3,d3,rfl,(r3.same s1),fun H3 z3=>?_⟩;have q:=J H3 (s1.trans z3);rw[O,AE,g1,AE]at q;exact q
   ·rw[decide_eq_false (show¬ V.int (xs.length:Int)=V.int 3 from fun z=>hn (by injection z with z;omega))];refine bG ?_;rw[z0 (by omega)]at k;exact k H (aT.refl H)
theorem aEW:bB ["rest"] ["rest"] (aK lR):=⟨rfl,rfl,rfl,by decide,rfl,by decide,by decide⟩
theorem aDq{f:Af}{fd:Ax}(F:Fun K "fits_alone" "fits_alone" lR f fd)(T:Txt K mg)
  (Y:Cl P w K mg base 1 "is_name" ["thing"] eZ):
  b8 P w K mg base CX0 6 f fd ["rest"] (eU lA):=by
 refine F.ok aEW (fun vs H Q E h=>?_) (fun ac A outer s H vs Q E G h=>?_)
 ·obtain⟨m,x,d,rfl,_⟩:=h;rfl
 ·obtain⟨m,x,ds,rfl,hx,k⟩:=h;have O:cJ 1 _:=G.mono (by decide);have aa:cJ 2 _:=G.mono (by decide);have ad:cJ 3 _:=G.mono (by decide);refine⟨_,aG (aN (cT (dC cH (aM aO (by rfl) T.len Aq (aB (pv 0) aA)) aC (aU _)) (dG (aW Y O (aB (aZ bU (pv 0) aC Ig) aA))))),?_⟩;cases hx with
  | @tup a xs _ e hl r=>
   have U:=r.len;refine⟨_,rfl,a,xs,rfl,.inr (aS e),rfl,_,rfl,?_⟩;by_cases hn:xs.length=1
   ·rw[Ic (show V.int (xs.length:Int)=V.int 1 by rw[hn];rfl)];refine bQ ?_
    match xs,ds,hn,r with
    | [x1],[d1],_,.cons r1 (.nil)=>
     have W:∀ H',aT H H'→Q (.bl (bC d1)) H':=k;have J:=aT.refl H;refine⟨_,rfl,a,_,0,_,rfl,rfl,aS (J _ _ e),rfl,m,x1,d1,rfl,(r1.same J),fun H1 Z=>?_⟩;have q:=W H1 (J.trans Z);exact q
   ·rw[decide_eq_false (show¬ V.int (xs.length:Int)=V.int 1 from fun z=>hn (by injection z with z;omega))];refine bG ?_;rw[aDp (by omega)]at k;exact k H (aT.refl H)
theorem aDr:bB ["rest"] ["rest"] (aK jC):=⟨rfl,rfl,rfl,by decide,rfl,by decide,by decide⟩
theorem aBg{f:Af}{fd:Ax}(F:Fun K "fits_breach" "fits_breach" jC f fd)(T:Txt K mg)
  (GN:Cl P w K mg base 1 "is_name" ["thing"] eZ)
  (GW:Cl P w K mg base 2 "is_whole" ["thing","least","most"] gN)
  (GI:Cl P w K mg base 3 "is_inch" ["thing"] aBe):
  b8 P w K mg base CX0 6 f fd ["rest"] (eU f6):=by
 refine F.ok aDr (fun vs H Q E h=>?_) (fun ai A outer s H vs Q E U h=>?_)
 ·obtain⟨m,x,d,rfl,_⟩:=h;rfl
 ·obtain⟨m,x,ds,rfl,hx,k⟩:=h;have Z:cJ 1 _:=U.mono (by decide);have G:cJ 2 _:=U.mono (by decide);have Y:cJ 3 _:=U.mono (by decide);obtain⟨tpence,hpence⟩:=T.pence;obtain⟨tspades,hspades⟩:=T.spades;refine⟨_,aE (bM (PW.pt (dU (aP kD (aM aO (by rfl) T.len Aq (aB (pv 0) aA)) aC (aU _)) (dU (cS (cN (aW GN Z (aB (aZ bU (pv 0) aC Ig) aA)))) (dP (cS (cN (aW GI Y (aB (aZ bU (pv 0) aC Ig) aA)))))))) (aG (aN eV)) aV) (aG (aN (cT (aW GW G (aB (aZ bU (pv 0) aC Ig) (aB aC (aB (bZ (v:=.int 1000000000) (by rfl) hpence ⟨_,rfl⟩) aA)))) (dG (aW GW G (aB (aZ bU (pv 0) aC Ig) (aB aC (aB (bZ (v:=.int 1000000) (by rfl) hspades ⟨_,rfl⟩) aA)))))))),?_⟩;cases hx with
  | @tup a xs _ e hl r=>
   have ac:=r.len;refine⟨_,rfl,a,xs,rfl,.inr (aS e),rfl,_,rfl,?_⟩;by_cases hn:xs.length=4
   ·rw[Ic (show V.int (xs.length:Int)=V.int 4 by rw[hn];rfl)];refine bG ?_
    match xs,ds,hn,r with
    | [x1,x2,x3,x4],[d1,d2,d3,d4],_,.cons r1 (.cons r2 (.cons r3 (.cons r4 (.nil))))=>
     have J:∀ H',aT H H'→Q (.bl (bC d1 && cB 0 9999999 d2 && cB 0 1000000000 d3 && cB 0 1000000 d4)) H':=k;have W:=aT.refl H;refine⟨_,rfl,a,_,0,_,rfl,rfl,aS (W _ _ e),rfl,m,x1,d1,rfl,(r1.same W),fun H1 z1=>⟨_,rfl,?_⟩⟩;have s1:=W.trans z1;cases O:(bC d1)with
     | false=>
      have q:=J H1 s1;rw[O]at q;simp only[Bg]at q;refine bQ ?_;exact q
     | true=>
      refine bG ?_;refine⟨_,rfl,a,_,1,_,rfl,rfl,aS (s1 _ _ e),rfl,m,x2,d2,rfl,(r2.same s1),_,rfl,?_⟩;cases g1:(cB 0 9999999 d2)with
      | false=>
       have q:=J H1 s1;rw[O,AE,g1]at q;simp only[Bg]at q;refine bQ ?_;exact q
      | true=>
       refine bG ?_;refine⟨_,rfl,a,_,2,_,rfl,rfl,aS (s1 _ _ e),rfl,m,x3,d3,0,1000000000,rfl,(r3.same s1),_,rfl,?_⟩;cases g2:(cB 0 1000000000 d3)with
       | false=>
        have q:=J H1 s1;rw[O,AE,g1,AE,g2]at q;simp only[Bg]at q;refine bG ?_;exact q
       | true=>
        refine bQ ?_;have q:=J H1 s1;rw[O,AE,g1,AE,g2,AE]at q;exact⟨_,rfl,a,_,3,_,rfl,rfl,aS (s1 _ _ e),rfl,m,x4,d4,0,1000000,rfl,(r4.same s1),q⟩
   ·rw[decide_eq_false (show¬ V.int (xs.length:Int)=V.int 4 from fun z=>hn (by injection z with z;omega))];refine bQ ?_;rw[tQ (by omega)]at k;exact k H (aT.refl H)
def fE(ds:List Aj):Bool:=decide (ds.length=2) && ds.all bC
def lB:List Aj→Bool
 | [.str a,.str b]=>bA a && bA b && !decide (a=b)
 | _=>false
theorem oM{ds:List Aj}(h:¬ (ds.length=2∧ds.all bC=true)):lB ds=false:=by
 unfold lB;split
 ·rename_i a b;have:¬ (bA a=true∧bA b=true):=fun z=>h ⟨rfl,by simp[bC,z.1,z.2]⟩;cases ha:bA a <;> cases G:bA b <;> simp_all
 ·rfl
theorem aIp{ds:List Aj}(h:ds.length=2)(g:ds.all bC=true):∃ a b,ds=[.str a,.str b]∧bA a=true∧bA b=true:=by
 match ds,h with
 | [d1,d2],_=>
  simp only[CB,List.all_nil,EV,Ay]at g;obtain⟨g1,g2⟩:=g;obtain⟨a,rfl,ha⟩:∃ a,d1=.str a∧bA a=true:=by
   cases d1 with
   | str a=>exact⟨a,rfl,g1⟩
   | _=>simp[bC]at g1
  obtain⟨b,rfl,hb⟩:∃ b,d2=.str b∧bA b=true:=by
   cases d2 with
   | str a=>exact⟨a,rfl,g2⟩
   | _=>simp[bC]at g2
  exact⟨a,b,rfl,ha,hb⟩
theorem aBh:bB ["rest"] ["rest"] (aK hU):=⟨rfl,rfl,rfl,by decide,rfl,by decide,by decide⟩
theorem z9{f:Af}{fd:Ax}(F:Fun K "fits_forfeit" "fits_forfeit" hU f fd)(T:Txt K mg)
  (U:Cl P w K mg base 2 "all_names" ["thing"] xK):
  b8 P w K mg base CX0 6 f fd ["rest"] (eU fE):=by
 refine F.ok aBh (fun vs H Q E h=>?_) (fun Y A outer s H vs Q E W h=>?_)
 ·obtain⟨m,x,d,rfl,_⟩:=h;rfl
 ·obtain⟨m,x,ds,rfl,hx,k⟩:=h;have J:cJ 2 _:=W.mono (by decide);refine⟨_,aG (aN (cT (dC cH (aM aO (by rfl) T.len Aq (aB (pv 0) aA)) aC (aU _)) (dG (aW U J (aB (pv 0) aA))))),?_⟩;have G:=hx;cases hx with
  | @tup a xs _ e Z r=>
   have O:=r.len;refine⟨_,rfl,a,xs,rfl,.inr (aS e),rfl,_,rfl,?_⟩;unfold fE at k;by_cases hn:xs.length=2
   ·rw[Ic (show V.int (xs.length:Int)=V.int 2 by rw[hn];rfl)];refine bQ ?_;rw[Ic (show ds.length=2 by omega),AE]at k;exact⟨_,rfl,m,_,_,rfl,G,k⟩
   ·rw[decide_eq_false (show¬ V.int (xs.length:Int)=V.int 2 from fun z=>hn (by injection z with z;omega))];refine bG ?_;rw[decide_eq_false (show¬ ds.length=2 by omega)]at k;exact k H (aT.refl H)
theorem aGL:bB ["rest"] ["rest"] (aK pJ):=⟨rfl,rfl,rfl,by decide,rfl,by decide,by decide⟩
theorem aEX{f:Af}{fd:Ax}(F:Fun K "fits_mend" "fits_mend" pJ f fd)(T:Txt K mg)
  (W:Cl P w K mg base 2 "all_names" ["thing"] xK):
  b8 P w K mg base CX0 6 f fd ["rest"] (eU lB):=by
 refine F.ok aGL (fun vs H Q E h=>?_) (fun aa A outer s H vs Q E Y h=>?_)
 ·obtain⟨m,x,d,rfl,_⟩:=h;rfl
 ·obtain⟨m,x,ds,rfl,hx,k⟩:=h;have J:cJ 2 _:=Y.mono (by decide);refine⟨_,aG (aN (cT (dC cH (aM aO (by rfl) T.len Aq (aB (pv 0) aA)) aC (aU _)) (cT (aW W J (aB (pv 0) aA)) (dG (dC kD (aZ bU (pv 0) aC Ig) (aZ bU (pv 0) aC Ig) (aU _)))))),?_⟩;have G:=hx;cases hx with
  | @tup a xs _ e hl r=>
   have O:=r.len;refine⟨_,rfl,a,xs,rfl,.inr (aS e),rfl,_,rfl,?_⟩;by_cases hn:xs.length=2
   ·rw[Ic (show V.int (xs.length:Int)=V.int 2 by rw[hn];rfl)];refine bQ ?_;refine⟨_,rfl,m,_,_,rfl,G,fun H1 s1=>⟨_,rfl,?_⟩⟩;show if ds.all bC=true then _ else _
    refine c9 (fun g=>?_) (fun g=>?_)
    ·obtain⟨z1,z2,rfl,h1,h2⟩:=aIp (by omega) g;cases r with
     | cons r1 r=>
      cases r with
      | cons U r=>
       cases r;cases r1;cases U;refine⟨_,rfl,a,_,0,_,rfl,rfl,aS (s1 _ _ e),rfl,_,rfl,a,_,1,_,rfl,rfl,aS (s1 _ _ e),rfl,rfl,?_⟩;have q:=k H1 s1;have Z:lB [.str z1,.str z2]=!decide (V.str z1=V.str z2):=by
        show(bA z1 && bA z2 && !decide (z1=z2))=_;rw[h1,h2];by_cases hz:z1=z2
        ·subst hz;simp
        ·rw[decide_eq_false hz,decide_eq_false (fun e=>hz (by injection e))];rfl
       rw[Z]at q;exact q
    ·rw[oM fun z=>g z.2]at k;exact k H1 s1
   ·rw[decide_eq_false (show¬ V.int (xs.length:Int)=V.int 2 from fun z=>hn (by injection z with z;omega))];refine bG ?_;rw[oM fun z=>hn (by omega)]at k;exact k H (aT.refl H)
def dO(ss:List Str):Bool:=decide (ss.Pairwise fun a b=>a.cps.toList < b.cps.toList)
def xL:Aj→Str | .str z=>z | _=>A4 ""
def lC:Aj→Str
 | .tuple (.str z :: _)=>z
 | _=>A4 ""
def qB:Aj→Bool
 | .tuple ds=>ds.all dM && decide (2≤ds.length∧ds.length≤6) && dO (ds.map lC)
 | _=>false
def lD:Aj→Bool
 | .tuple ds=>ds.all bC && decide (2≤ds.length∧ds.length≤6) && dO (ds.map xL)
 | _=>false
inductive tR(vs:List V)(H:Hp)(Q:VK)(u3_:XK):Prop
 | mk (a:Af) (ss:List Str) (q0:vs=[.ref a]) (q1:(H a=some (.lst (ss.map V.str))∨H a=some (.tup (ss.map V.str)))) (q2:ss.length≤6) (q3:∀ H',aT H H'→Q (.bl (dO ss)) H'):tR vs H Q u3_
def tT:Sp:=fun vs H Q u3_=>tR vs H Q u3_
inductive aAa(vs:List V)(H:Hp)(Q:VK)(u3_:XK):Prop
 | mk (m:Bool) (x:V) (d:Aj) (q0:vs=[x]) (q1:RdV m H x d) (q2:∀ H',aT H H'→Q (.bl (qB d)) H'):aAa vs H Q u3_
def aEY:Sp:=fun vs H Q u3_=>aAa vs H Q u3_
inductive aAb(vs:List V)(H:Hp)(Q:VK)(u3_:XK):Prop
 | mk (m:Bool) (x:V) (d:Aj) (q0:vs=[x]) (q1:RdV m H x d) (q2:∀ H',aT H H'→Q (.bl (lD d)) H'):aAb vs H Q u3_
def aEZ:Sp:=fun vs H Q u3_=>aAb vs H Q u3_
theorem tU{m:Bool}{H:Hp}:∀{xs:List V}{ds:List Aj},c7 m H xs ds→ds.all bC=true→xs=(ds.map xL).map V.str
 | _,_,.nil,_=>rfl
 | _,_,.cons (d:=d) r rs,h=>by
  rw[CB,Ay]at h;have G:=tU rs h.2;cases d with
  | str z=>
   cases r;rw[G];rfl
  | _=>simp[bC]at h
theorem aIq:bB ["thing"] ["thing"] (aK pG):=⟨rfl,rfl,rfl,by decide,rfl,by decide,by decide⟩
theorem aGM{f:Af}{fd:Ax}(F:Fun K "are_lands" "are_lands" pG f fd)(T:Txt K mg)
  (GA:Cl P w K mg base 2 "all_names" ["thing"] xK)
  (GR:Cl P w K mg base 1 "is_rising" ["things"] tT):
  b8 P w K mg base CX0 5 f fd ["thing"] aEZ:=by
 refine F.ok aIq (fun vs H Q E h=>?_) (fun ai A outer s H vs Q E hr h=>?_)
 ·obtain⟨m,x,d,rfl,_⟩:=h;rfl
 ·obtain⟨m,x,d,rfl,hx,k⟩:=h;have Z:cJ 1 _:=hr.mono (by decide);have W:cJ 2 _:=hr.mono (by decide);obtain⟨tf,hfew⟩:=T.fewest;obtain⟨tm,hmost⟩:=T.most;refine⟨_,aG (aN (cT (aW GA W (aB (pv 0) aA)) (cT (kF iJ iJ (bZ (v:=.int 2) (by rfl) hfew ⟨_,rfl⟩) (aM aO (by rfl) T.len Aq (aB (pv 0) aA)) (bZ (v:=.int 6) (by rfl) hmost ⟨_,rfl⟩)) (dG (aW GR Z (aB (pv 0) aA)))))),_,rfl,m,x,d,rfl,hx,fun H1 s1=>⟨_,rfl,?_⟩⟩;refine c9 (fun g=>?_) (fun g=>?_)
  ·obtain⟨ds,rfl⟩:∃ ds,d=.tuple ds:=by
    cases d with
    | tuple z=>exact⟨z,rfl⟩
    | _=>simp[xI]at g
   have J:ds.all bC=true:=g;cases hx with
   | @tup a xs _ e hl r=>
    have ad:=r.len;have k':∀ H',aT H H'→Q (.bl (decide (2≤ds.length∧ds.length≤6) && dO (ds.map xL))) H':=fun H' s'=>by
     have q:Q (.bl (ds.all bC && decide (2≤ds.length∧ds.length≤6) && dO (ds.map xL))) H':=k H' s';rw[J,AE]at q;exact q
    have G:¬ (2≤ds.length∧ds.length≤6)→Q (.bl false) H1:=fun h=>by
     have q:=k' H1 s1;rw[decide_eq_false h]at q;exact q
    refine⟨_,rfl,a,xs,rfl,.inr (aS (s1 _ _ e)),_,_,rfl,rfl,_,rfl,c9 (fun g1=>?_) (fun g1=>?_)⟩
    ·have Y:(2:Int)≤xs.length:=Ie g1;refine⟨_,_,rfl,rfl,_,rfl,c9 (fun U=>?_) (fun U=>?_)⟩
     ·have O:(xs.length:Int)≤6:=Ie U;refine⟨_,rfl,a,ds.map xL,rfl,.inr ?_,by rw[Ac];omega,fun H2 s2=>?_⟩
      ·rw[← tU r J];exact s1 _ _ e
      ·have q:=k' H2 (s1.trans s2);rw[Ic (by omega),AE]at q;exact q
     ·have O:¬ (xs.length:Int)≤6:=fun z=>U (Ic z);exact G (by omega)
    ·have Y:¬ (2:Int)≤xs.length:=fun z=>g1 (Ic z);refine⟨_,rfl,bG ?_⟩;exact G (by omega)
  ·have J:xI d=false:=by simpa using g
   have e:lD d=false:=by
    cases d with
    | tuple ds=>
     have z:ds.all bC=false:=J;show(ds.all bC && decide (2≤ds.length∧ds.length≤6) && dO (ds.map xL))=false;rw[z];rfl
    | _=>rfl
   rw[e]at k;exact k H1 s1
theorem aIr:bB ["thing"] ["thing"] (aK lQ):=⟨rfl,rfl,rfl,by decide,rfl,by decide,by decide⟩
theorem vP{m:Bool}{H:Hp}{x:V}{d:Aj}(r:RdV m H x d)(h:dM d=true):∃ a xs,x=.ref a∧H a=some (.tup xs)∧atI xs 0=some (V.str (lC d)):=by
 cases d with
 | tuple ds=>
  cases r with
  | @tup a xs _ e _ r=>
   cases r with
   | nil=>simp[dM]at h
   | @cons O d1 _ _ J rs=>
    have hn:bC d1=true:=by
     unfold dM at h;split at h
     ·rename_i G;cases G;simp only[Ay]at h;exact h.1.1
     ·cases h
    cases d1 with
    | str z=>
     cases J;refine⟨a,_,rfl,e,?_⟩;unfold atI ixN;rw[Ib (by decide),Ib (by rw[Ak];omega)];rfl
    | _=>simp[bC]at hn
 | _=>simp[dM]at h
theorem aGN{f:Af}{fd:Ax}(F:Fun K "are_parts" "are_parts" lQ f fd)(T:Txt K mg)
  (GA:Cl P w K mg base 4 "all_parts" ["thing"] aEU)
  (GR:Cl P w K mg base 1 "is_rising" ["things"] tT):
  b8 P w K mg base CX0 5 f fd ["thing"] aEY:=by
 refine F.ok aIr (fun vs H Q E h=>?_) (fun am A outer s H vs Q E hr h=>?_)
 ·obtain⟨m,x,d,rfl,_⟩:=h;rfl
 ·obtain⟨m,x,d,rfl,hx,k⟩:=h;have U:cJ 1 _:=hr.mono (by decide);obtain⟨tf,hfew⟩:=T.fewest;obtain⟨tm,hmost⟩:=T.most;refine⟨_,aE (bM (PW.pt (dU (cS (cN (aW GA hr (aB (pv 0) aA)))) (dP (cS (nF iJ iJ (bZ (v:=.int 2) (by rfl) hfew ⟨_,rfl⟩) (aM aO (by rfl) T.len Aq (aB (pv 0) aA)) (bZ (v:=.int 6) (by rfl) hmost ⟨_,rfl⟩)))))) (aG (aN eV)) aV)
   (aG (aN (aW GR U (aB (fV (N:=["part"]) (src:=[none]) (osc:=aK lQ) (oN:=["thing"]) ⟨by rfl,by decide,by decide,by decide,rfl,by rfl⟩ (jJ (pv 0))
     fun cl s H fp fe C=>⟨bJ (i:=0) (show(["part"]:List Str).Nodup by decide) rfl (Aw rfl),fG,aZ (r:=aHO K) bU (pv 0) aC Ig⟩) aA)))),?_⟩
  refine⟨_,rfl,m,x,d,rfl,hx,fun H1 s1=>⟨_,rfl,?_⟩⟩;cases g:xJ d with
  | false=>
   refine bQ ?_;have e:qB d=false:=by
    cases d with
    | tuple ds=>
     have z:ds.all dM=false:=g;show(ds.all dM && decide (2≤ds.length∧ds.length≤6) && dO (ds.map lC))=false;rw[z];rfl
    | _=>rfl
   rw[e]at k;exact k H1 s1
  | true=>
   refine bG ?_;obtain⟨ds,rfl⟩:∃ ds,d=.tuple ds:=by
    cases d with
    | tuple z=>exact⟨z,rfl⟩
    | _=>simp[xJ]at g
   have g':ds.all dM=true:=g;cases hx with
   | @tup a xs _ e hl r=>
    have Z:=r.len;have Y:∀ H',aT H H'→Q (.bl (decide (2≤ds.length∧ds.length≤6) && dO (ds.map lC))) H':=fun H' s'=>by
     have q:Q (.bl (ds.all dM && decide (2≤ds.length∧ds.length≤6) && dO (ds.map lC))) H':=k H' s';rw[g',AE]at q;exact q
    have G:¬ (2≤ds.length∧ds.length≤6)→Q (.bl false) H1:=fun h=>by
     have q:=Y H1 s1;rw[decide_eq_false h]at q;exact q
    refine⟨_,rfl,a,xs,rfl,.inr (aS (s1 _ _ e)),_,_,rfl,rfl,_,rfl,c9 (fun W=>?_) (fun W=>?_)⟩
    ·have O:(2:Int)≤xs.length:=Ie W;refine⟨_,_,rfl,rfl,_,rfl,?_⟩;by_cases g2:(xs.length:Int)≤6
     ·rw[Ic g2];refine bG ?_;refine⟨_,rfl,a,rfl,⟨xs,aS (s1 _ _ e)⟩,?_⟩;refine kM (xs:=xs) (fun i ys σ H'=>aT H1 H'∧ys=((ds.take i).map fun d=>V.str (lC d))∧∃ o,σ=[o]) ⟨aT.refl H1,rfl,none,rfl⟩ (aF (by omega)) (fun i ys σ H' p=>by rw[p.2.1,Ac,AC];omega) (fun i ys σ H' p=>aS (p.1 _ _ (s1 _ _ e))) ?_ ?_
      ·rintro i y ys σ H' hy ⟨S,rfl,o,rfl⟩;dsimp only[cE];obtain⟨d',hd',r'⟩:=r.at hy;obtain⟨b,zs,rfl,hb,hat⟩:=vP ((r'.same s1).same S) (AX.mp g' d' (AN hd'));refine bQ ?_;refine⟨_,rfl,b,zs,0,_,rfl,rfl,aS hb,hat,S,?_,_,rfl⟩;rw[A2,hd',Ar];rfl
      ·rintro ys σ H2 ⟨S,rfl,o,rfl⟩ D hD;have J:Dq xs.length ds=ds:=A3 (by omega);rw[J];have S1:=S.trans (aH (o:=.lst (ds.map fun d=>V.str (lC d))) hD);refine⟨D,ds.map lC,rfl,.inl (by rw[aD,Cg];rfl),by rw[Ac];omega,fun H3 s3=>?_⟩;have q:=Y H3 ((s1.trans S1).trans s3);rw[Ic (by omega),AE]at q;exact q
     ·rw[decide_eq_false g2];refine bQ ?_;exact G (by omega)
    ·have O:¬ (2:Int)≤xs.length:=fun z=>W (Ic z);refine⟨_,rfl,bQ ?_⟩;exact G (by omega)
def qC:List Aj→Bool
 | [d1,d2]=>bC d1 && qB d2
 | _=>false
def tV:List Aj→Bool
 | [d1,d2]=>lD d1 && bC d2
 | _=>false
theorem aAc{ds:List Aj}(h:ds.length≠2):qC ds=false:=by
 match ds,h with
 | [],_=>rfl
 | [_],_=>rfl
 | [_,_],z=>exact absurd rfl z
 | _ :: _ :: _ :: _,_=>rfl
theorem aAd{ds:List Aj}(h:ds.length≠2):tV ds=false:=by
 match ds,h with
 | [],_=>rfl
 | [_],_=>rfl
 | [_,_],z=>exact absurd rfl z
 | _ :: _ :: _ :: _,_=>rfl
theorem aGO:bB ["rest"] ["rest"] (aK pH):=⟨rfl,rfl,rfl,by decide,rfl,by decide,by decide⟩
theorem aE0{f:Af}{fd:Ax}(F:Fun K "fits_part" "fits_part" pH f fd)(T:Txt K mg)
  (Z:Cl P w K mg base 1 "is_name" ["thing"] eZ)
  (W:Cl P w K mg base 5 "are_parts" ["thing"] aEY):
  b8 P w K mg base CX0 6 f fd ["rest"] (eU qC):=by
 refine F.ok aGO (fun vs H Q E h=>?_) (fun aa A outer s H vs Q E U h=>?_)
 ·obtain⟨m,x,d,rfl,_⟩:=h;rfl
 ·obtain⟨m,x,ds,rfl,hx,k⟩:=h;have G:cJ 1 _:=U.mono (by decide);refine⟨_,aG (aN (cT (dC cH (aM aO (by rfl) T.len Aq (aB (pv 0) aA)) aC (aU _)) (cT (aW Z G (aB (aZ bU (pv 0) aC Ig) aA)) (dG (aW W U (aB (aZ bU (pv 0) aC Ig) aA)))))),?_⟩;cases hx with
  | @tup a xs _ e hl r=>
   have O:=r.len;refine⟨_,rfl,a,xs,rfl,.inr (aS e),rfl,_,rfl,?_⟩;by_cases hn:xs.length=2
   ·rw[Ic (show V.int (xs.length:Int)=V.int 2 by rw[hn];rfl)];refine bQ ?_
    match xs,ds,hn,r with
    | [x1,x2],[d1,d2],_,.cons r1 (.cons r2 .nil)=>
     have J:∀ H',aT H H'→Q (.bl (bC d1 && qB d2)) H':=k;refine⟨_,rfl,a,_,0,_,rfl,rfl,aS e,rfl,m,x1,d1,rfl,r1,fun H1 s1=>⟨_,rfl,?_⟩⟩;refine c9 (fun g=>?_) (fun g=>?_)
     ·refine⟨_,rfl,a,_,1,_,rfl,rfl,aS (s1 _ _ e),rfl,m,x2,d2,rfl,r2.same s1,fun H2 Y=>?_⟩;have q:=J H2 (s1.trans Y);rw[g,AE]at q;exact q
     ·have q:=J H1 s1;rw[(by simpa using g:bC d1=false)]at q;exact q
   ·rw[decide_eq_false (show¬ V.int (xs.length:Int)=V.int 2 from fun z=>hn (by injection z with z;omega))];refine bG ?_;rw[aAc (by omega)]at k;exact k H (aT.refl H)
theorem aGP:bB ["rest"] ["rest"] (aK pI):=⟨rfl,rfl,rfl,by decide,rfl,by decide,by decide⟩
theorem aE1{f:Af}{fd:Ax}(F:Fun K "fits_join" "fits_join" pI f fd)(T:Txt K mg)
  (Z:Cl P w K mg base 1 "is_name" ["thing"] eZ)
  (W:Cl P w K mg base 5 "are_lands" ["thing"] aEZ):
  b8 P w K mg base CX0 6 f fd ["rest"] (eU tV):=by
 refine F.ok aGP (fun vs H Q E h=>?_) (fun aa A outer s H vs Q E U h=>?_)
 ·obtain⟨m,x,d,rfl,_⟩:=h;rfl
 ·obtain⟨m,x,ds,rfl,hx,k⟩:=h;have G:cJ 1 _:=U.mono (by decide);refine⟨_,aG (aN (cT (dC cH (aM aO (by rfl) T.len Aq (aB (pv 0) aA)) aC (aU _)) (cT (aW W U (aB (aZ bU (pv 0) aC Ig) aA)) (dG (aW Z G (aB (aZ bU (pv 0) aC Ig) aA)))))),?_⟩;cases hx with
  | @tup a xs _ e hl r=>
   have O:=r.len;refine⟨_,rfl,a,xs,rfl,.inr (aS e),rfl,_,rfl,?_⟩;by_cases hn:xs.length=2
   ·rw[Ic (show V.int (xs.length:Int)=V.int 2 by rw[hn];rfl)];refine bQ ?_
    match xs,ds,hn,r with
    | [x1,x2],[d1,d2],_,.cons r1 (.cons r2 .nil)=>
     have J:∀ H',aT H H'→Q (.bl (lD d1 && bC d2)) H':=k;refine⟨_,rfl,a,_,0,_,rfl,rfl,aS e,rfl,m,x1,d1,rfl,r1,fun H1 s1=>⟨_,rfl,?_⟩⟩;refine c9 (fun g=>?_) (fun g=>?_)
     ·refine⟨_,rfl,a,_,1,_,rfl,rfl,aS (s1 _ _ e),rfl,m,x2,d2,rfl,r2.same s1,fun H2 Y=>?_⟩;have q:=J H2 (s1.trans Y);rw[g,AE]at q;exact q
     ·have q:=J H1 s1;rw[(by simpa using g:lD d1=false)]at q;exact q
   ·rw[decide_eq_false (show¬ V.int (xs.length:Int)=V.int 2 from fun z=>hn (by injection z with z;omega))];refine bG ?_;rw[aAd (by omega)]at k;exact k H (aT.refl H)
def cC:List Str:=["part","join","forfeit","measure","mend","alone","breach","view"]
def dF(kind:Str)(ds:List Aj):Bool:=
 if kind="part" then qC ds else if kind="join" then tV ds else if kind="forfeit" then fE ds else if kind="measure" then iE ds else if kind="mend" then lB ds else if kind="alone" then lA ds else if kind="breach" then f6 ds else kZ ds
def fQ:Aj→Bool
 | .tuple (.str kind :: name :: day :: bF)=>decide (kind∈cC) && (bC name && (cB 0 9999 day && dF kind bF))
 | _=>false
inductive vQ(vs:List V)(H:Hp)(Q:VK)(u3_:XK):Prop
 | mk (m:Bool) (x:V) (d:Aj) (q0:vs=[x]) (q1:RdV m H x d) (q2:∀ H',aT H H'→Q (.bl (fQ d)) H'):vQ vs H Q u3_
def qR:Sp:=fun vs H Q u3_=>vQ vs H Q u3_
theorem aBi{ds:List Aj}(h:ds.length < 3):fQ (.tuple ds)=false:=by
 match ds,h with
 | [],_=>rfl
 | [d],_=>cases d <;> rfl
 | [d,_],_=>cases d <;> rfl
theorem vR{d1 G J:Aj}{ds:List Aj}(h:kY d1=false):fQ (.tuple (d1 :: G :: J :: ds))=false:=by
 cases d1 with
 | str z=>simp[kY]at h
 | _=>rfl
theorem oO:bB ["thing","kind","name","day","fits"] ["thing"] (aK aA3):=⟨rfl,rfl,rfl,by decide,rfl,by decide,by decide⟩
theorem aE2{f ra:Af}{fd:Ax}{Y:List (Key×Ab)}{fg:List (Key×V)}(F:Fun K "is_row" "is_row" aA3 f fd)(T:Txt K mg)
  (ad:∀ h:A1,K.In h→h.DictOf (cY P w) ra Y) (rel:KV fg Y) (hz:(ra == sysModules)=false) (mF:mg "FORMS"=some (.ref ra))
  (Z:∀ kind:Str,(fS fg (Am kind)).isSome=decide (kind∈cC))
  (ak:∀(kind:Str) (v:V),fS fg (Am kind)=some v→∃(a:Af) (fd:Ax),v=.ref a∧b8 P w K mg base CX0 6 a fd ["rest"] (eU (dF kind))∧Az K (.ref a)=true∧dH K fd ["rest"] [])
  (GN:Cl P w K mg base 1 "is_name" ["thing"] eZ)
  (GW:Cl P w K mg base 2 "is_whole" ["thing","least","most"] gN):
  b8 P w K mg base CX0 7 f fd ["thing"] qR:=by
 refine F.ok oO (fun vs H Q E h=>?_) (fun bc A outer s H vs Q E hr h=>?_)
 ·obtain⟨m,x,d,rfl,_⟩:=h;rfl
 ·obtain⟨m,x,d,rfl,hx,k⟩:=h;have am:cJ 1 _:=hr.mono (by decide);have aj:cJ 2 _:=hr.mono (by decide);obtain⟨tl,hlast⟩:=T.lastDay;refine⟨_,aE (bM (PW.pt (dU (cS (cN (aM cM (by rfl) T.isi (by kernel_rfl) (aB (pv 0) (aB (dI (v:=.ty "tuple") (by rfl) T.tuple (by kernel_rfl) rfl) aA)))))
    (dP (aP yE (aM aO (by rfl) T.len Aq (aB (pv 0) aA)) aC (aU _))))) (aG (aN eV)) aV)
   (aE (iS (bY lJ (pv 0) cU (cA aC)) (jI rfl (cO (bJ (i:=1) oO.nd rfl (Aw rfl)) (cO (bJ (i:=2) oO.nd rfl (Aw rfl)) (cO (bJ (i:=3) oO.nd rfl (Aw rfl)) gU)))))
   (aE (bM (PW.pt (dU (cS (cN (aM cM (by rfl) T.isi (by kernel_rfl) (aB (pv 1) (aB (dI (v:=.ty "str") (by rfl) T.str (by kernel_rfl) rfl) aA)))))
    (dP (aP (aCY ad rel hz) (pv 1) (bZ (v:=.ref ra) (by rfl) mF rfl) (by with_unfolding_all rfl))))) (aG (aN eV)) aV)
   (aE (bM (PW.pt (dU (cS (cN (aW GN am (aB (pv 2) aA)))) (dP (cS (cN (aW GW aj (aB (pv 3) (aB aC (aB (bZ (v:=.int 9999) (by rfl) hlast ⟨_,rfl⟩) aA))))))))) (aG (aN eV)) aV)
   (aE (aY (i:=4) oO.nd rfl (Aw rfl) (aBP ad rel (by rfl) mF (pv 1) Ig))
   (aG (aN (yX (k:=6) (ps:=["rest"]) (pv 4) hr (aB (bY lJ (pv 0) (cA aC) cU) aA)))))))),?_⟩
  refine⟨_,rfl,_,"tuple",_,_,rfl,iD hx,jS d,_,rfl,?_⟩;cases hd:fB d with
  | false=>
   have e:fQ d=false:=by
    cases d with
    | tuple ds=>simp[fB]at hd
    | _=>rfl
   rw[e]at k;exact k H (aT.refl H)
  | true=>
   obtain⟨ds,rfl⟩:∃ ds,d=.tuple ds:=by
    cases d with
    | tuple z=>exact⟨z,rfl⟩
    | _=>simp[fB]at hd
   cases hx with
   | @tup a xs _ e hl r=>
    have an:=r.len;refine bG ?_;refine⟨_,rfl,a,xs,rfl,.inr (aS e),_,_,rfl,rfl,_,rfl,?_⟩;by_cases hn:(xs.length:Int) < 3
    ·rw[Ic hn];refine bQ ?_;rw[aBi (by omega)]at k;exact k H (aT.refl H)
    ·rw[decide_eq_false hn];refine bG ?_;obtain⟨x1,O,U,G,rfl⟩:∃ x1 O U G,xs=x1 :: O :: U :: G:=by
      match xs,hn with
      | [],z=>exact absurd (by decide) z
      | [_],z=>exact absurd (show(1:Int) < 3 by decide) z
      | [_,_],z=>exact absurd (show(2:Int) < 3 by decide) z
      | a :: b :: c :: r,_=>exact⟨a,b,c,r,rfl⟩
     cases r with
     | @cons _ d1 _ _ r1 r=>
     cases r with
     | @cons _ d2 _ _ r2 r=>
     cases r with
     | @cons _ d3 _ ds af rr=>
     refine⟨_,rfl,_,rfl,a,_,rfl,e,fun t H1 s1 ht=>?_⟩;have ec:eJ (x1 :: O :: U :: G) none (some 3)=[x1,O,U]:=iV (α:=Nat) (x1 :: O :: U :: G) 3;rw[ec]at ht;refine⟨t,_,rfl,aS ht,rfl,_,_,rfl,_,_,rfl,_,_,rfl,rfl,_,rfl,_,"str",_,_,rfl,iD (r1.same s1),fZ d1,_,rfl,?_⟩;cases hk:kY d1 with
     | false=>
      rw[vR hk]at k;exact k H1 s1
     | true=>
      obtain⟨kind,rfl⟩:∃ z,d1=.str z:=by
       cases d1 with
       | str z=>exact⟨z,rfl⟩
       | _=>simp[kY]at hk
      cases r1;refine bG ?_;refine⟨_,rfl,Am kind,rfl,rfl,_,rfl,?_⟩;rw[Z kind];have W:∀ H',aT H H'→Q (.bl (decide (kind∈cC) && (bC d2 && (cB 0 9999 d3 && dF kind ds)))) H':=k;by_cases hw:kind∈cC
      ·rw[Ic hw];refine bG ?_;rw[Ic hw,AE]at W;refine⟨_,rfl,m,O,d2,rfl,r2.same s1,fun H2 s2=>⟨_,rfl,?_⟩⟩;have J:=s1.trans s2;cases g:bC d2 with
       | false=>
        refine bQ ?_;have q:=W H2 J;rw[g]at q;exact q
       | true=>
        refine bG ?_;refine⟨_,rfl,m,U,d3,0,9999,rfl,af.same J,_,rfl,?_⟩;cases g2:cB 0 9999 d3 with
        | false=>
         refine bQ ?_;have q:=W H2 J;rw[g,g2]at q;exact q
        | true=>
         refine bG ?_;have hs:=Z kind;rw[Ic hw]at hs;obtain⟨v,hv⟩:=Option.isSome_iff_exists.mp hs;obtain⟨fa,fda,rfl,FG,fk,fb⟩:=ak kind v hv;refine⟨_,rfl,Am kind,_,rfl,hv,_,rfl,fa,eU (dF kind),rfl,⟨fda,FG,fk,fb⟩,_,rfl,_,rfl,a,_,rfl,J _ _ e,fun t2 H3 s3 ac=>?_⟩;have ed:eJ (V.str kind :: O :: U :: G) (some 3) none=G:=sH (α:=Nat) (V.str kind :: O :: U :: G) 3;rw[ed]at ac;refine⟨m,_,ds,rfl,.tup ac (by simp only[Ak]at hl;omega) ((rr.same J).same s3),fun H4 s4=>?_⟩;have q:=W H4 ((J.trans s3).trans s4);rw[g,g2,AE,AE]at q;exact q
      ·rw[decide_eq_false hw];refine bQ ?_;have q:=W H1 s1;rw[decide_eq_false hw]at q;exact q
theorem xM{H:Hp}{p c a:Af}{ns:List Int}{t:Int}{o:HO}(G:c4 H p c ns t)(e:H a=some o)(h:∀ J r,o≠.dK (J :: r)):a≠p:=by
 obtain⟨l,_,e2⟩:=G.ob;exact aDD e e2 (h _ _)
theorem aIs{m:Bool}{H H':Hp}{p c:Af}{ns:List Int}{t:Int}{x:V}{d:Aj}(r:RdV m H x d)(G:c4 H p c ns t)(k:bK p H H'):RdV m H' x d:=r.keep fun a o e h=>k a o e (xM G e h)
theorem aB8{m:Bool}{H H':Hp}{p c:Af}{ns:List Int}{t:Int}{x:List V}{d:List Aj}(r:c7 m H x d)(G:c4 H p c ns t)(k:bK p H H'):c7 m H' x d:=r.keep fun a o e h=>k a o e (xM G e h)
theorem cQ{H H':Hp}{p c a:Af}{ns:List Int}{t:Int}{xs:List V}(e:H a=some (.lst xs))(G:c4 H p c ns t)(k:bK p H H'):H' a=some (.lst xs):=k a _ e (xM G e (fun _ _ z=>nomatch z))
theorem xN{H H':Hp}{p c a:Af}{ns:List Int}{t:Int}{xs:List V}(e:H a=some (.tup xs))(G:c4 H p c ns t)(k:bK p H H'):H' a=some (.tup xs):=k a _ e (xM G e (fun _ _ z=>nomatch z))
inductive aB9(vs:List V)(H:Hp)(Q:VK)(u3_:XK):Prop
 | mk (p c:Af) (ns:List Int) (a lo hi:Int) (q0:vs=[.ref p,.int lo,.int hi]) (q1:c4 H p c ns a) (q2:a≤900000) (q3:0≤lo) (q4:lo≤hi) (q5:hi≤10 ^ 9) (q6:∀ n a' H',lo≤n→n≤hi→a≤a'→a'≤a + 3→c4 H' p c ns a'→bK p H H'→Q (.int n) H'):aB9 vs H Q u3_
def aE3:Sp:=fun vs H Q u3_=>aB9 vs H Q u3_
theorem aE4:bB ["_law_pen_here","_law_bottom","_law_most","_law_way","_law_near"] ["_law_pen_here","_law_bottom","_law_most"] (aK wX):=⟨rfl,rfl,rfl,by decide,rfl,by decide,by decide⟩
theorem aIt{f:Af}{fd:Ax}(F:Fun K "_law_number" "_law_number" wX f fd)(G:mg "min"=none)(GT:Cl P w K mg base 1 "_law_take" ["_law_pen_here","_law_many"] jR):
  b8 P w K mg base CX0 2 f fd ["_law_pen_here","_law_bottom","_law_most"] aE3:=by
 refine F.ok aE4 (fun vs H Q E h=>?_) (fun ao A outer s H vs Q E Y h=>?_)
 ·obtain⟨p,c,ns,a,lo,hi,rfl,_⟩:=h;rfl
 ·obtain⟨p,c,ns,a,lo,hi,rfl,hp,ha,h0,h1,h2,k⟩:=h;refine⟨_,aE (aY (i:=3) aE4.nd rfl (Aw rfl) (aW GT Y (aB (pv 0) (aB aC aA))))
   (aE (aY (i:=4) aE4.nd rfl (Aw rfl) (aX c8 (pv 1) (aW GT Y (aB (pv 0) (aB (aM (uU rfl) (by rfl) G (by kernel_rfl) (aB aC (aB (aX c8 (aX mM (pv 2) (pv 1)) aC) aA))) aA)))))
   (aG (aN (aZ bS (dB (aB (pv 1) (aB (pv 2) (aB (pv 4) (aB (aX c8 (pv 1) (aW GT Y (aB (pv 0) (aB (aX c8 (aX mM (pv 2) (pv 1)) aC) aA)))) aA))))) (pv 3) Ig)))),?_⟩
  have b9:(10:Int) ^ 9 + 1 < 2 ^ 512:=by decide
  have e9:(10:Int) ^ 9=1000000000:=by decide
  refine⟨_,rfl,p,c,ns,a,_,rfl,hp,by omega,by decide,by decide,fun r1 a1 H1 Z am l1 u1 ac W=>?_⟩;refine⟨_,rfl,_,rfl,_,rfl,_,rfl,_,_,rfl,rfl,_,_,rfl,rfl,_,_,rfl,?_⟩;obtain⟨J,hmm,m0,m1⟩:∃ J:Int,(if hi - lo + 1 < 12 then hi - lo + 1 else 12)=J∧0 < J∧J≤hi - lo + 1:=by
   refine⟨_,rfl,?_⟩;split <;> omega
  rw[hmm];refine⟨p,c,ns,a1,_,rfl,ac,by omega,m0,by omega,fun r2 a2 H2 aq aj l2 u2 ae U=>?_⟩;refine⟨_,_,rfl,rfl,_,rfl,_,rfl,_,rfl,_,rfl,_,rfl,_,rfl,_,rfl,_,_,rfl,rfl,_,_,rfl,rfl,p,c,ns,a2,_,rfl,ae,by omega,by omega,by omega,fun r3 a3 H3 ap ak l3 u3 ad O=>?_⟩;refine⟨_,_,rfl,rfl,zZ4,fun q hq=>?_⟩;have sq:=aH (o:=.lst [V.int lo,.int hi,.int (lo + r2),.int (lo + r3)]) hq;obtain⟨v,hv,hat⟩:=iB (xs:=[V.int lo,.int hi,.int (lo + r2),.int (lo + r3)]) (i:=r1) Z (by show r1 < 4;omega);obtain⟨n,rfl,hn0,hn1⟩:∃ n:Int,v=.int n∧lo≤n∧n≤hi:=by
   simp only[Ap,AF,or_false]at hv;rcases hv with rfl | rfl | rfl | rfl
   ·exact⟨_,rfl,by omega,by omega⟩
   ·exact⟨_,rfl,by omega,by omega⟩
   ·exact⟨_,rfl,by omega,by omega⟩
   ·exact⟨_,rfl,by omega,by omega⟩
  exact⟨_,rfl,q,_,r1,_,rfl,rfl,aQ aD,hat,k n a3 _ hn0 hn1 (by omega) (by omega) (ad.same sq) (((W.trans U).trans O).same sq)⟩
open PySem L2 PyProof.Rows
theorem tW{α:Type}:∀(l:List α) (j:Nat) (y:α),l[j]?=some y→(y :: l.eraseIdx j).Perm l
 | [],j,y,h=>by simp at h
 | x :: r,0,y,h=>by
  simp at h;subst h;simp
 | x :: r,j + 1,y,h=>by
  simp at h;have G:=tW r j y h;rw[List.eraseIdx_cons_succ];exact(List.Perm.swap x y _).trans (G.cons x)
theorem pN{α β:Type}(f:α→β):∀(l:List α) (j:Nat),(l.map f).eraseIdx j=(l.eraseIdx j).map f
 | [],j=>by simp
 | x :: r,0=>by simp
 | x :: r,j + 1=>by simp[pN f r j]
inductive vS(vs:List V)(H:Hp)(Q:VK)(u3_:XK):Prop
 | mk (p c:Af) (ns:List Int) (a:Int) (nf nr:Nat) (q0:vs=[.ref p,.int nf,.int nr]) (q1:c4 H p c ns a) (q2:a≤800000) (q3:nf≤44) (q4:nr≤44) (q5:∀(t l1 l2 l3 l4:Af) (ws ps hs rs:List Str) (a':Int) (H':Hp),H' t=some (.tup [.ref l1,.ref l2,.ref l3,.ref l4])→H' l1=some (.lst (ws.map V.str))→ws.length=nf→Nms ws→H' l2=some (.lst (ps.map V.str))→ps.length=10→Nms ps→H' l3=some (.lst (hs.map V.str))→hs.length=5→Nms hs→H' l4=some (.lst (rs.map V.str))→rs.length=nr→Nms rs→a≤a'→a'≤a + 200→c4 H' p c ns a'→bK p H H'→Q (.ref t) H'):vS vs H Q u3_
def aCa:Sp:=fun vs H Q u3_=>vS vs H Q u3_
inductive aAe(vs:List V)(H:Hp)(Q:VK)(u3_:XK):Prop
 | mk (p c:Af) (ns:List Int) (a:Int) (l:Af) (ws:List Str) (m:Nat) (q0:vs=[.ref p,.ref l,.int m]) (q1:c4 H p c ns a) (q2:a≤800000) (q3:H l=some (.lst (ws.map V.str))) (q4:ws.length=10) (q5:m≤6) (q6:∀(q:Af) (ms:List Str) (a':Int) (H':Hp),H' q=some (.lst (ms.map V.str))→ms.length=m→sortedS ms=true→(∃ us vs:List Str,ms.Perm us∧(us ++ vs).Perm ws)→a≤a'→a'≤a + 10→c4 H' p c ns a'→bK p H H'→Q (.ref q) H'):aAe vs H Q u3_
def aE5:Sp:=fun vs H Q u3_=>aAe vs H Q u3_
theorem qS:bB ["_law_pen_here","_law_fields","_law_rows","_law_some_here","_law_plots","_law_houses"] ["_law_pen_here","_law_fields","_law_rows"] (aK aA5):=⟨rfl,rfl,rfl,by decide,rfl,by decide,by decide⟩
theorem aE6{f:Af}{fd:Ax}(F:Fun K "_law_sorts" "_law_sorts" aA5 f fd)
  (GT:Cl P w K mg base 1 "_law_take" ["_law_pen_here","_law_many"] jR)
  (GN:Cl P w K mg base 2 "_law_names" ["_law_pen_here","_law_many"] aB6):
  b8 P w K mg base CX0 3 f fd ["_law_pen_here","_law_fields","_law_rows"] aCa:=by
 refine F.ok qS (fun vs H Q E h=>?_) (fun bH A outer s H vs Q E hr h=>?_)
 ·obtain⟨p,c,ns,a,nf,nr,rfl,_⟩:=h;rfl
 ·obtain⟨p,c,ns,a,nf,nr,rfl,hp,ha,hf,hrr,k⟩:=h;have bg:cJ 1 _:=hr.mono (by decide);refine⟨_,aE (bM (aP cH (aW GT bg (aB (pv 0) (aB aC aA))) aC (aU _))
    (aE (aY (i:=3) qS.nd rfl (Aw rfl) (aW GN hr (aB (pv 0) (aB aC aA))))
    (aG (aN (cG (aB (bY d9 (pv 3) cU (cA (pv 1))) (aB (bY d9 (pv 3) cU (cA aC)) (aB (bY d9 (pv 3) cU (cA aC)) (aB (bY d9 (pv 3) cU (cA (pv 2))) aA)))))))) aV)
   (aE (aY (i:=4) qS.nd rfl (Aw rfl) (aW GN hr (aB (pv 0) (aB aC aA))))
   (aE (aY (i:=5) qS.nd rfl (Aw rfl) (aW GN hr (aB (pv 0) (aB aC aA))))
   (aG (aN (cG (aB (aW GN hr (aB (pv 0) (aB (pv 1) aA))) (aB (pv 4) (aB (pv 5) (aB (aW GN hr (aB (pv 0) (aB (pv 2) aA))) aA))))))))),?_⟩
  refine⟨_,rfl,p,c,ns,a,_,rfl,hp,by omega,by decide,by decide,fun r1 a1 H1 bT bR l1 u1 ag am=>?_⟩;refine⟨rfl,_,rfl,?_⟩;have z4:(4:Nat)≤sizeLine:=aF (by decide);refine c9 (fun g=>?_) (fun g=>?_)
  ·refine⟨_,rfl,p,c,ns,a1,44,rfl,ag,by omega,by omega,fun L ws a2 H2 nL hL bP hN l2 u2 U Y=>?_⟩;have ec:∀ n:Nat,eJ (ws.map V.str) none (some (n:Int))=(ws.take n).map V.str:=fun n=>by rw[iV (α:=Nat),CA]
   have ao:eJ (ws.map V.str) none (some 10)=(ws.take 10).map V.str:=ec 10;have be:eJ (ws.map V.str) none (some 5)=(ws.take 5).map V.str:=ec 5;refine⟨_,rfl,_,rfl,_,rfl,L,_,rfl,aQ hL,fun q1 aI=>?_⟩;rw[ec nf];have s1:=aH (o:=.lst ((ws.take nf).map V.str)) aI;refine⟨_,rfl,_,rfl,L,_,rfl,aQ (s1 _ _ hL),fun q2 ba=>?_⟩;rw[ao];have ai:=aH (o:=.lst ((ws.take 10).map V.str)) ba;have s2:=s1.trans ai;refine⟨_,rfl,_,rfl,L,_,rfl,aQ (s2 _ _ hL),fun q3 ay=>?_⟩;rw[be];have Z:=aH (o:=.lst ((ws.take 5).map V.str)) ay;have s3:=s2.trans Z;refine⟨_,rfl,_,rfl,_,rfl,L,_,rfl,aQ (s3 _ _ hL),fun q4 aL=>?_⟩;rw[ec nr];have W:=aH (o:=.lst ((ws.take nr).map V.str)) aL;have s4:=s3.trans W;refine⟨z4,fun t ht=>?_⟩;have G:=aH (o:=.tup [V.ref q1,.ref q2,.ref q3,.ref q4]) ht;have s5:=s4.trans G;refine k t q1 q2 q3 q4 (ws.take nf) (ws.take 10) (ws.take 5) (ws.take nr) a2 _ aD (G _ _ (W _ _ (Z _ _ (ai _ _ aD)))) (by rw[AC];omega) (hN.take nf) (G _ _ (W _ _ (Z _ _ aD))) (by rw[AC];omega) (hN.take 10) (G _ _ (W _ _ aD)) (by rw[AC];omega) (hN.take 5) (G _ _ aD) (by rw[AC];omega) (hN.take nr) (by omega) (by omega) (U.same s5) ((am.trans Y).same s5)
  ·refine⟨_,rfl,p,c,ns,a1,10,rfl,ag,by omega,by omega,fun L1 aR a2 H2 b2 bh ae ar l2 u2 U Y=>?_⟩;refine⟨_,rfl,p,c,ns,a2,5,rfl,U,by omega,by omega,fun L2 az a3 H3 bN av af bi l3 u3 aa ah=>?_⟩;refine⟨_,rfl,_,rfl,p,c,ns,a3,nf,rfl,aa,by omega,by omega,fun L3 au a4 H4 b1 aw aj bf l4 u4 O ac=>?_⟩;refine⟨_,rfl,_,rfl,_,rfl,_,rfl,p,c,ns,a4,nr,rfl,O,by omega,by omega,fun L4 bc a5 H5 bI bd an ax l5 u5 bb J=>?_⟩;refine⟨z4,fun t ht=>?_⟩;have G:=aH (o:=.tup [V.ref L3,.ref L1,.ref L2,.ref L4]) ht;exact k t L3 L1 L2 L4 au aR az bc a5 _ aD (G _ _ (cQ aw O J)) aj bf (G _ _ (cQ (cQ (cQ bh U ah) aa ac) O J)) ae ar (G _ _ (cQ (cQ av aa ac) O J)) af bi (G _ _ bd) an ax (by omega) (by omega) (bb.same G) (((((am.trans Y).trans ah).trans ac).trans J).same G)
theorem aBj:bB ["_law_pen_here","_law_names_here","_law_many","_law_left","_law_found"] ["_law_pen_here","_law_names_here","_law_many"] (aK aB3):=⟨rfl,rfl,rfl,by decide,rfl,by decide,by decide⟩
theorem aGQ{f:Af}{fd:Ax}(F:Fun K "_law_some" "_law_some" aB3 f fd)(U:mg "list"=none)(af:mg "range"=none)(ae:mg "sorted"=none)(aa:mg "len"=none)
  (GT:Cl P w K mg base 1 "_law_take" ["_law_pen_here","_law_many"] jR):
  b8 P w K mg base CX0 2 f fd ["_law_pen_here","_law_names_here","_law_many"] aE5:=by
 refine F.ok aBj (fun vs H Q E h=>?_) (fun be A outer s H vs Q E hr h=>?_)
 ·obtain⟨p,c,ns,a,l,ws,m,rfl,_⟩:=h;rfl
 ·obtain⟨p,c,ns,a,l,ws,m,rfl,hp,ha,hl,hwl,hm,k⟩:=h;refine⟨_,aE (aY (i:=3) aBj.nd rfl (FV rfl) (bV dL (by rfl) U (by kernel_rfl) (aB (pv 1) aA)))
   (aE (jN (i:=4) (N:=["_law_k","_law_left","_law_pen_here"]) (src:=[none,some 3,some 0]) (osc:=aK aB3) (oN:=["_law_pen_here","_law_names_here","_law_many","_law_left","_law_found"]) ⟨by rfl,by decide,by decide,by decide,rfl,by rfl⟩ aBj.nd rfl
     (hJ rfl af (aB (pv 2) aA))
     fun cl s H fp fe C=>⟨bJ (i:=0) (show(["_law_k","_law_left","_law_pen_here"]:List Str).Nodup by decide) rfl (Aw rfl),fG,aH0 (K:=K) Bn PySem.F.slot_list_pop PySem.F.type_list_pop yJ (pv 1) (aB (aW GT hr (aB (pv 2) (aB (aM (r:=hZ K) aO (by rfl) aa Aq (aB (pv 1) aA)) aA))) aA)⟩)
   (aG (aN (aM wL (by rfl) ae (by kernel_rfl) (aB (pv 4) aA))))),?_⟩
  refine⟨_,rfl,l,_,rfl,.inl (aQ hl),fun L hL=>?_⟩;have s0:=aH (o:=.lst (ws.map V.str)) hL;have an:L≠p:=by
   obtain⟨z,_,e⟩:=hp.ob;exact(bX e hL).symm
  have aj:L≠c:=(bX hp.ce hL).symm;refine⟨_,rfl,m,rfl,by omega,by omega,?_⟩;refine sF (fun i ys σ' H'=>Ex3 fun(a':Int) (G vs:List Str)=>∃(o:Option V),Aw6 (σ'=[o,some (.ref L),some (.ref p)]) (c4 H' p c ns a') (bK p H H') (a≤a') (a'≤a + i) (Aw3 (ys=G.map V.str) (G.length=i) (Aw3 (H' L=some (.lst (vs.map V.str))) (vs.length + i=10) ((G ++ vs).Perm ws))))
   ⟨a,[],ws,none,rfl,hp.same s0,aT.but s0,by omega,by omega,rfl,rfl,aD,by omega,Em _⟩ (aF (by omega)) (fun i ys σ H p=>by obtain⟨_,G,_,_,_,_,_,_,_,rfl,e,_⟩:=p;rw[Ac,e];exact An _) ?_ ?_
  ·rintro i ys σ' H1 hi ⟨a1,G,vs,o,rfl,J,Z,ar,ap,rfl,Y,O,au,W⟩;dsimp only[cE];refine bQ ?_;refine⟨_,rfl,.inl ⟨rfl,_,aQ O⟩,_,rfl,_,rfl,L,_,rfl,.inl (aQ O),p,c,ns,a1,_,rfl,J,by omega,by rw[Ac];omega,by rw[Ac];omega,fun r1 a2 H2 bd ao aL ba av ac=>?_⟩;rw[Ac]at ao;obtain⟨j,rfl⟩:∃ j:Nat,r1=j:=⟨r1.toNat,by omega⟩
   have ak:=cQ O J ac;obtain⟨y,hy⟩:∃ y,vs[j]?=some y:=⟨_,Ai (by omega)⟩
   have am:seqIndex? (j:Int) (vs.map V.str).length=some j:=by
    rw[Ac];unfold seqIndex?;simp;omega
   refine⟨L,_,_,j,V.str y,rfl,rfl,ak,by omega,by omega,am,by rw[AW,hy];rfl,?_⟩;refine⟨a2,G ++ [y],vs.eraseIdx j,_,rfl,?_,?_,by omega,by omega,by rw[Ar];rfl,by rw[Av,Y];rfl,?_,?_,?_⟩
   ·obtain⟨⟨z,hz,e⟩,ce,ge,sm⟩:=av;exact⟨⟨z,hz,by rw[bD an.symm];exact e⟩,by rw[bD aj.symm];exact ce,ge,sm⟩
   ·intro b o e ne;rw[bD (bX e hL)];exact(Z.trans ac) b o e ne
   ·rw[aD];congr 2;exact pN V.str vs j
   ·rw[DS (by omega)];omega
   ·rw[CH];exact(List.Perm.append_left G (tW vs j y hy)).trans W
  ·rintro ys σ' H1 ⟨a1,G,vs,o,rfl,J,Z,ar,ap,rfl,Y,O,au,W⟩ D hD;have sD:=aH (o:=.lst (G.map V.str)) hD;refine⟨_,rfl,D,G,rfl,aQ aD,by omega,fun q ms hq ad ah=>?_⟩;have s2:=aH (o:=.lst (ms.map V.str)) hq;exact k q ms a1 _ aD (by rw[ad.length_eq,Y];omega) ah ⟨G,vs,ad,W⟩ (by omega) (by omega) ((J.same sD).same s2) ((Z.same sD).same s2)
theorem tX{G O:List Str}(Y:O.Perm (qI G))(Z:sortedS O=true):decide (G=O)=dO G:=by
 unfold dO;rw[decide_eq_decide];have J:=oE O Z;constructor
 ·rintro rfl;have hn:G.Nodup:=Y.nodup_iff.mpr (mU G);have h2:=J.and hn;refine h2.imp fun{a b} h=>?_;rcases Decidable.em (a.cps.toList < b.cps.toList)with z | z
  ·exact z
  ·exact absurd (dX (Fe (DC.mp h.1) (DC.mp z))) h.2
 ·intro h;have hn:G.Nodup:=h.imp fun{a b} z e=>by
   subst e;exact List.lt_irrefl _ z
  have h2:G.Pairwise fun a b=>¬ b.cps.toList < a.cps.toList:=h.imp fun{a b} z y=>List.lt_irrefl _ (List.lt_trans z y);have W:(qI G).Perm G:=by
   refine gY G (qI G) hn (fun x U=>(y9 G x).mpr U) ?_;have:=gY (qI G) G (mU G) (fun x U=>(y9 G x).mp U);have h1:=(aCX G)
   rw[Ic hn]at h1;have h3:=Ie h1;unfold qI;omega
  exact p0 (W.symm.trans Y.symm) h2 J
theorem pO:∀(G J:List Str),rX (G.map V.str) (J.map V.str)=decide (G=J)
 | [],[]=>rfl
 | [],_ :: _=>rfl
 | _ :: _,[]=>rfl
 | a :: r,b :: q=>by
  show(eqV (.str a) (.str b) && rX (r.map V.str) (q.map V.str))=_;rw[pO r q];show((a == b) && decide (r=q))=_;rw[Bv];simp
theorem aE7:bB ["things"] ["things"] (aK qP):=⟨rfl,rfl,rfl,by decide,rfl,by decide,by decide⟩
theorem aDs{f:Af}{fd:Ax}(F:Fun K "is_rising" "is_rising" qP f fd)(T:Txt K mg)(G:mg "list"=none)(J:mg "sorted"=none):b8 P w K mg base CX0 1 f fd ["things"] tT:=by
 refine F.ok aE7 (fun vs H Q E h=>?_) (fun W A outer s H vs Q E hr h=>?_)
 ·obtain⟨a,ss,rfl,_⟩:=h;rfl
 ·obtain⟨a,ss,rfl,ha,hl,k⟩:=h;have hu:=yP hr;have Y:(A.deeper (Dn "is_rising" (aK qP) s.heap.objs.size f W)).units < cLine:=by omega
  refine⟨_,aG (aN (dC (aAS Y) (bV dL (by rfl) G (by kernel_rfl) (aB (pv 0) aA)) (aM (oB rfl) (by rfl) J (by kernel_rfl) (aB (bV (vJ rfl) (by rfl) T.set (by kernel_rfl) (aB (pv 0) aA)) aA)) (aU _))),_,rfl,a,ss.map V.str,rfl,ha.imp aQ aS,fun L hL=>?_⟩;have O:=aH (o:=.lst (ss.map V.str)) hL;refine⟨_,rfl,a,ss,rfl,ha.imp (O _ _) (O _ _),by omega,fun S hS=>?_⟩;have sS:=aH (o:=aC1 P w S ss) hS;refine⟨S,ss,rfl,aD,by omega,fun l Z U hp hs=>?_⟩;have sl:=aH (o:=.lst (Z.map V.str)) U;refine⟨L,l,_,_,rfl,rfl,aQ (sl _ _ (sS _ _ aD)),aQ aD,gJ ss,gJ Z,?_⟩;rw[pO,tX hp hs];exact k _ ((O.trans sS).trans sl)
def pD(x:P3):Aj:=.tuple [.str x.1,.str x.2.1,.int x.2.2]
inductive aCb:Aj→Aj→Prop
 | short {ds:List Aj} (h:ds.length≠5):aCb (.tuple ds) (.tuple ds)
 | other {kind:Str} {n dy f l:Aj} (h1:kind≠"part") (h2:kind≠"join"):aCb (.tuple [.str kind,n,dy,f,l]) (.tuple [.str kind,n,dy,f,l])
 | part {n dy f:Aj} {T R:List P3} (hp:T.Perm R) (hr:aEm R) (h2:2≤T.length) (h6:T.length≤6) (ha:(T.map pD).all dM=true):aCb (.tuple [.str "part",n,dy,f,.tuple (T.map pD)]) (.tuple [.str "part",n,dy,f,.tuple (R.map pD)])
 | join {n dy l:Aj} {T R:List Str} (hp:T.Perm R) (hr:dO R=true) (h6:T.length≤6) (ha:(T.map Ba).all bC=true):aCb (.tuple [.str "join",n,dy,.tuple (T.map Ba),l]) (.tuple [.str "join",n,dy,.tuple (R.map Ba),l])
theorem vT{m:Bool}{H:Hp}:∀{T:List Str},(∀ z∈T,z.length≤1000)→c7 m H (T.map V.str) (T.map Ba)
 | [],_=>.nil
 | t :: T,h=>.cons (.str t (h t (by simp))) (vT fun z hz=>h z (by simp[hz]))
structure S3(H:Hp)(lf lp lh:Af)(fs ps hs:List Str):Prop where
 f:H lf=some (.lst (fs.map V.str))
 p:H lp=some (.lst (ps.map V.str))
 h:H lh=some (.lst (hs.map V.str))
 f1:1≤fs.length
 f2:fs.length≤44
 p1:ps.length=10
 h1:hs.length=5
 nf:Nms fs
 np:Nms ps
 nh:Nms hs
theorem S3.but{H H':Hp}{U W O:Af}{fs ps J:List Str}{p c:Af}{ns:List Int}{t:Int}(x:S3 H U W O fs ps J)(G:c4 H p c ns t)(k:bK p H H'):S3 H' U W O fs ps J:=⟨cQ x.f G k,cQ x.p G k,cQ x.h G k,x.f1,x.f2,x.p1,x.h1,x.nf,x.np,x.nh⟩
theorem S3.same{H H':Hp}{O U J:Af}{fs ps G:List Str}(x:S3 H O U J fs ps G)(k:aT H H'):S3 H' O U J fs ps G:=⟨k _ _ x.f,k _ _ x.p,k _ _ x.h,x.f1,x.f2,x.p1,x.h1,x.nf,x.np,x.nh⟩
inductive iG:Str→List Aj→Prop
 | part {land:Str} {R:List P3} (hl:bA land=true) (hr:aEm R) (h2:2≤R.length) (h6:R.length≤6) (ha:(R.map pD).all dM=true):iG "part" [.str land,.tuple (R.map pD)]
 | join {land:Str} {R:List Str} (hl:bA land=true) (hr:dO R=true) (h2:2≤R.length) (h6:R.length≤6) (ha:(R.map Ba).all bC=true):iG "join" [.tuple (R.map Ba),.str land]
 | forfeit {land house:Str} (hl:bA land=true) (hh:bA house=true):iG "forfeit" [.str land,.str house]
 | measure {field:Str} {n:Int} (hf:bA field=true) (h0:0≤n) (h1:n≤10000000):iG "measure" [.str field,.int n]
 | mend {house other:Str} (hh:bA house=true) (ho:bA other=true) (hne:house≠other):iG "mend" [.str house,.str other]
 | alone {house:Str} (hh:bA house=true):iG "alone" [.str house]
 | breach {field:Str} {n1 n2 n3:Int} (hf:bA field=true) (h10:0≤n1) (h11:n1≤9999999) (h20:0≤n2) (h21:n2≤1000000000) (h30:0≤n3) (h31:n3≤1000000):iG "breach" [.str field,.int n1,.int n2,.int n3]
 | view {field house:Str} {n1:Int} (hf:bA field=true) (h10:0≤n1) (h11:n1≤9999999) (hh:bA house=true):iG "view" [.str field,.int n1,.str house]
def aBk(word name:Str)(day:Int)(ds:List Aj):Aj:=.tuple (.str word :: .str name :: .int day :: ds)
theorem aE8{word name:Str}{day:Int}{ds:List Aj}(h:iG word ds)(hn:bA name=true)(h0:0≤day)(h1:day≤9999):fQ (aBk word name day ds)=true:=by
 have go:decide (word∈cC)=true→dF word ds=true→fQ (aBk word name day ds)=true:=fun a b=>by
  show(decide (word∈cC) && (bA name && (decide (0≤day∧day≤9999) && dF word ds)))=true;rw[a,hn,b,Ic (show 0≤day∧day≤9999 from⟨h0,h1⟩)];rfl
 cases h with
 | @part O R hl hr h2 h6 ha=>
  refine go (by decide) ?_;show(bA O && ((R.map pD).all dM && decide (2≤(R.map pD).length∧(R.map pD).length≤6) && dO ((R.map pD).map lC)))=true;have e:(R.map pD).map lC=R.map (·.1):=by rw[Cg];rfl
  rw[hl,ha,e,Ac,Ic (show 2≤R.length∧R.length≤6 from⟨h2,h6⟩)];exact Ic (E2.mpr hr)
 | @join O R hl hr h2 h6 ha=>
  refine go (by decide) ?_;rw[show dF "join" [.tuple (R.map Ba),.str O]=tV [.tuple (R.map Ba),.str O] from by unfold dF;rw[Ia (by decide),Ib rfl]];show(((R.map Ba).all bC && decide (2≤(R.map Ba).length∧(R.map Ba).length≤6) && dO ((R.map Ba).map xL)) && bA O)=true;have e:(R.map Ba).map xL=R:=by rw[Cg];exact List.map_id R
  rw[hl,ha,e,Ac,Ic (show 2≤R.length∧R.length≤6 from⟨h2,h6⟩),hr];rfl
 | @forfeit O G hl W=>
  refine go (by decide) ?_;rw[show dF "forfeit" [.str O,.str G]=fE [.str O,.str G] from by unfold dF;rw[Ia (by decide),Ia (by decide),Ib rfl]];show(true && (bA O && (bA G && true)))=true;rw[hl,W];rfl
 | @measure J n hf h0 h1=>
  refine go (by decide) ?_;rw[show dF "measure" [.str J,.int n]=iE [.str J,.int n] from by unfold dF;rw[Ia (by decide),Ia (by decide),Ia (by decide),Ib rfl]];show(bA J && decide (0≤n∧n≤10000000))=true;rw[hf,Ic (show 0≤n∧n≤10000000 from⟨h0,h1⟩)];rfl
 | @mend G other W ho am=>
  refine go (by decide) ?_;rw[show dF "mend" [.str G,.str other]=lB [.str G,.str other] from by unfold dF;rw[Ia (by decide),Ia (by decide),Ia (by decide),Ia (by decide),Ib rfl]];show(bA G && bA other && !decide (G=other))=true;rw[W,ho,decide_eq_false am];rfl
 | @alone G W=>
  refine go (by decide) ?_;rw[show dF "alone" [.str G]=lA [.str G] from by unfold dF;rw[Ia (by decide),Ia (by decide),Ia (by decide),Ia (by decide),Ia (by decide),Ib rfl]];exact W
 | @breach J U n2 n3 hf Z Y ah ai ag aj=>
  refine go (by decide) ?_;rw[show dF "breach" [.str J,.int U,.int n2,.int n3]=f6 [.str J,.int U,.int n2,.int n3] from by unfold dF;rw[Ia (by decide),Ia (by decide),Ia (by decide),Ia (by decide),Ia (by decide),Ia (by decide),Ib rfl]];show(bA J && decide (0≤U∧U≤9999999) && decide (0≤n2∧n2≤1000000000) && decide (0≤n3∧n3≤1000000))=true;rw[hf,Ic (show 0≤U∧U≤9999999 from⟨Z,Y⟩),Ic (show 0≤n2∧n2≤1000000000 from⟨ah,ai⟩),Ic (show 0≤n3∧n3≤1000000 from⟨ag,aj⟩)];rfl
 | @view J G U hf Z Y W=>
  refine go (by decide) ?_;rw[show dF "view" [.str J,.int U,.str G]=kZ [.str J,.int U,.str G] from by unfold dF;rw[Ia (by decide),Ia (by decide),Ia (by decide),Ia (by decide),Ia (by decide),Ia (by decide),Ia (by decide)]];show(bA J && decide (0≤U∧U≤9999999) && bA G)=true;rw[hf,Ic (show 0≤U∧U≤9999999 from⟨Z,Y⟩),W];rfl
theorem iO{m:Bool}{H:Hp}{z:Str}(h:bA z=true):RdV m H (.str z) (.str z):=.str z (by have:=(fH h).2;omega)
theorem aE9{w:Str}(h:w∈cC):w.length≤1000:=by
 have:∀ w∈cC,w.length≤1000:=by decide
 exact this w h
theorem aBl{G O vs ws:List Str}(Z:PyProof.Rows.sortedS G=true)(W:G.Perm O)(Y:(O ++ vs).Perm ws)(hn:Nms ws):dO G=true∧∀ z∈G,bA z=true:=by
 have J:O.Nodup:=(Df.mp (Y.nodup_iff.mpr hn.nd)).1;have U:G.Nodup:=W.nodup_iff.mpr J;refine⟨Ic (((oE G Z).and U).imp fun{a b} h=>?_),fun z hz=>hn.ok z (Y.mem_iff.mp (BV _ (W.mem_iff.mp hz)))⟩;rcases Decidable.em (a.cps.toList < b.cps.toList)with z | z
 ·exact z
 ·exact absurd (dX (Fe (DC.mp h.1) (DC.mp z))) h.2
def FIn(word:Str)(ds:List Aj)(fs:List Str):Prop:=inV (.str word) [V.str "measure",.str "breach",.str "view"]=true→∀ z bF,ds=.str z :: bF→z∈fs
inductive vU(vs:List V)(H:Hp)(Q:VK)(u3_:XK):Prop
 | mk (p c:Af) (ns:List Int) (a:Int) (word name:Str) (day:Int) (tS lf lp lh:Af) (fs ps hs:List Str) (q0:vs=[.ref p,.str word,.str name,.int day,.ref tS]) (q1:c4 H p c ns a) (q2:a≤700000) (q3:H tS=some (.tup [.ref lf,.ref lp,.ref lh])) (q4:S3 H lf lp lh fs ps hs) (q5:word∈cC) (q6:bA name=true) (q7:∀(t:Af) (ds:List Aj) (bF:List V) (a':Int) (H':Hp),H' t=some (.tup (.str word :: .str name :: .int day :: bF))→c7 false H' bF ds→iG word ds→FIn word ds fs→a≤a'→a'≤a + 80→c4 H' p c ns a'→bK p H H'→Q (.ref t) H'):vU vs H Q u3_
def aCc:Sp:=fun vs H Q u3_=>vU vs H Q u3_
theorem f7:bB ["_law_pen_here","_law_word","_law_name","_law_day","_law_sorts_here","_law_fields","_law_plots","_law_houses","_law_land","_law_at","_law_house","_law_field","_law_some_here","_law_parts","_law_inch"] ["_law_pen_here","_law_word","_law_name","_law_day","_law_sorts_here"] (aK wY):=⟨rfl,rfl,rfl,by decide,rfl,by decide,by decide⟩
theorem aFa{f:Af}{fd:Ax}(F:Fun K "_law_row_of" "_law_row_of" wY f fd)(Y:mg "len"=none)(aq:mg "tuple"=none)
  (GT:Cl P w K mg base 1 "_law_take" ["_law_pen_here","_law_many"] jR)
  (GN:Cl P w K mg base 2 "_law_number" ["_law_pen_here","_law_bottom","_law_most"] aE3)
  (GS:Cl P w K mg base 2 "_law_some" ["_law_pen_here","_law_names_here","_law_many"] aE5):
  b8 P w K mg base CX0 3 f fd ["_law_pen_here","_law_word","_law_name","_law_day","_law_sorts_here"] aCc:=by
 refine F.ok f7 (fun vs H Q E h=>?_) (fun eg A outer s H vs Q E hr h=>?_)
 ·obtain⟨p,c,ns,a,word,name,day,tS,lf,lp,lh,fs,ps,hs,rfl,_⟩:=h;rfl
 ·obtain⟨p,c,ns,a,word,name,day,tS,lf,lp,lh,fs,ps,hs,rfl,hp,ha,htS,h3,hwd,hnm,k⟩:=h;have af:cJ 1 _:=hr.mono (by decide);refine⟨_,aE (iS (pv 4) (jI rfl (cO (bJ (i:=5) f7.nd rfl (Aw rfl)) (cO (bJ (i:=6) f7.nd rfl (Aw rfl)) (cO (bJ (i:=7) f7.nd rfl (FV rfl)) gU)))))
   (aE (aY (i:=8) f7.nd rfl (Aw rfl) (aZ bS (pv 6) (aW GT af (aB (pv 0) (aB (aM aO (by rfl) Y Aq (aB (pv 6) aA)) aA))) Ig))
   (aE (aY (i:=9) f7.nd rfl (Aw rfl) (aW GT af (aB (pv 0) (aB (aM aO (by rfl) Y Aq (aB (pv 7) aA)) aA))))
   (aE (aY (i:=10) f7.nd rfl (Aw rfl) (aZ bS (pv 7) (pv 9) Ig))
   (aE (aY (i:=11) f7.nd rfl (Aw rfl) (aZ bS (pv 5) (aW GT af (aB (pv 0) (aB (aM aO (by rfl) Y Aq (aB (pv 5) aA)) aA))) Ig))
   (aE (bM (aP lE (pv 1) (cG (aB aJ (aB aJ aA))) (by with_unfolding_all rfl))
    (aE (aY (i:=12) f7.nd rfl (Aw rfl) (aW GS hr (aB (pv 0) (aB (pv 6) (aB (aZ bS (dB (aB aC (aB aC (aB (aX c8 aC (aW GT af (aB (pv 0) (aB aC aA)))) aA)))) (aW GT af (aB (pv 0) (aB aC aA))) Ig) aA)))))
    (aE (bM (aP cH (pv 1) aJ (aU _)) (aG (aN (cG (aB (pv 1) (aB (pv 2) (aB (pv 3) (aB (bV dE (by rfl) aq (by kernel_rfl) (aB (pv 12) aA)) (aB (pv 8) aA)))))))) aV)
    (aE (jN (i:=13) (N:=["_law_one","_law_houses","_law_pen_here"]) (src:=[none,some 7,some 0]) (osc:=aK wY) (oN:=["_law_pen_here","_law_word","_law_name","_law_day","_law_sorts_here","_law_fields","_law_plots","_law_houses","_law_land","_law_at","_law_house","_law_field","_law_some_here","_law_parts","_law_inch"]) ⟨by rfl,by decide,by decide,by decide,rfl,by rfl⟩ f7.nd rfl
      (aBx (pv 12))
      fun cl s H fp fe C=>⟨bJ (i:=0) (show(["_law_one","_law_houses","_law_pen_here"]:List Str).Nodup by decide) rfl (Aw rfl),fG,cG (aB (pv 0) (aB (aZ (r:=aI3 K) bS (pv 1) (aW GT af (aB (pv 2) (aB (aM (r:=hZ K) aO (by rfl) Y Aq (aB (pv 1) aA)) aA))) Ig) (aB (aW GN hr (aB (pv 2) (aB aC (aB (aX gG aC aC) aA)))) aA)))⟩)
    (aG (aN (cG (aB (pv 1) (aB (pv 2) (aB (pv 3) (aB (pv 8) (aB (bV dE (by rfl) aq (by kernel_rfl) (aB (pv 13) aA)) aA)))))))))))
    aV)
   (aE (bM (aP cH (pv 1) aJ (aU _)) (aG (aN (cG (aB (pv 1) (aB (pv 2) (aB (pv 3) (aB (pv 8) (aB (pv 10) aA)))))))) aV)
   (aE (bM (aP cH (pv 1) aJ (aU _)) (aG (aN (cG (aB (pv 1) (aB (pv 2) (aB (pv 3) (aB (pv 11) (aB (aW GN hr (aB (pv 0) (aB aC (aB (aX gG aC aC) aA)))) aA)))))))) aV)
   (aE (bM (aP cH (pv 1) aJ (aU _)) (aG (aN (cG (aB (pv 1) (aB (pv 2) (aB (pv 3) (aB (pv 10) (aB (aZ bS (pv 7) (aX fK (aX c8 (aX c8 (pv 9) aC) (aW GT af (aB (pv 0) (aB (aX mM (aM aO (by rfl) Y Aq (aB (pv 7) aA)) aC) aA)))) (aM aO (by rfl) Y Aq (aB (pv 7) aA))) Ig) aA)))))))) aV)
   (aE (bM (aP cH (pv 1) aJ (aU _)) (aG (aN (cG (aB (pv 1) (aB (pv 2) (aB (pv 3) (aB (pv 10) aA))))))) aV)
   (aE (aY (i:=14) f7.nd rfl (Aw rfl) (aW GN hr (aB (pv 0) (aB aC (aB (aX mM (aX gG aC aC) aC) aA)))))
   (aE (bM (aP cH (pv 1) aJ (aU _)) (aG (aN (cG (aB (pv 1) (aB (pv 2) (aB (pv 3) (aB (pv 11) (aB (pv 14) (aB (pv 10) aA))))))))) aV)
   (aG (aN (cG (aB (pv 1) (aB (pv 2) (aB (pv 3) (aB (pv 11) (aB (pv 14) (aB (aW GN hr (aB (pv 0) (aB aC (aB (aX gG aC aC) aA)))) (aB (aW GN hr (aB (pv 0) (aB aC (aB (aX gG aC aC) aA)))) aA))))))))))))))))))))),?_⟩
  have ac:∀(bF:List V) (ds:List Aj) (H':Hp) (a':Int),c7 false H' bF ds→iG word ds→FIn word ds fs→c4 H' p c ns a'→bK p H H'→a≤a'→a'≤a + 80→∀ t,H' t=none→Q (.ref t) (upd H' t (.tup (.str word :: .str name :: .int day :: bF))):=fun bF ds H' a' hR hS c2 h1 h2 h4 h5 t ht=>k t ds bF a' _ aD (hR.same (aH ht)) hS c2 h4 h5 (h1.same (aH ht)) (h2.same (aH ht));have cp:∀ j:Int,0≤j→j≤1000000→aFX 10 j:=fun j h1 h2=>⟨h1,h2,by decide⟩
  have p6:((10:Int) ^ CV 6)=1000000:=by decide
  have p7:((10:Int) ^ CV 7)=10000000:=by decide
  have p9:((10:Int) ^ CV 9)=1000000000:=by decide
  have e9:(10:Int) ^ 9=1000000000:=by decide
  have z2:(2:Nat)≤sizeLine:=aF (by decide);have z3:(3:Nat)≤sizeLine:=aF (by decide);have z4:(4:Nat)≤sizeLine:=aF (by decide);have z5:(5:Nat)≤sizeLine:=aF (by decide);have z6:(6:Nat)≤sizeLine:=aF (by decide);have z7:(7:Nat)≤sizeLine:=aF (by decide);have cm:=h3.p1;have b5:=h3.h1;have eo:=h3.f1;have e0:=h3.f2;refine⟨_,rfl,tS,_,rfl,aS htS,rfl,_,_,rfl,_,_,rfl,_,_,rfl,rfl,_,rfl,_,rfl,_,rfl,lp,_,rfl,.inl (aQ h3.p),p,c,ns,a,_,rfl,hp,by omega,by rw[Ac];omega,by rw[Ac];omega,fun r1 a1 H1 c6 c3 ev e6 bw bW=>?_⟩;have bd:=h3.but hp bW;obtain⟨v,hv,Z⟩:=iB (xs:=ps.map V.str) (i:=r1) c6 c3;obtain⟨land,hland,rfl⟩:=BO.mp hv;have O:=h3.np.ok land hland;refine⟨lp,_,r1,_,rfl,rfl,aQ bd.p,Z,_,rfl,_,rfl,lh,_,rfl,.inl (aQ bd.h),p,c,ns,a1,_,rfl,bw,by omega,by rw[Ac];omega,by rw[Ac];omega,fun r2 a2 H2 ej dl eW eM ca bn=>?_⟩;have ax:=bd.but bw bn;rw[Ac]at dl;obtain⟨j2,rfl⟩:∃ j2:Nat,r2=j2:=⟨r2.toNat,by omega⟩
  obtain⟨house,hj2⟩:∃ y,hs[j2]?=some y:=⟨_,Ai (by omega)⟩
  have G:=h3.nh.ok house (AN hj2);have Z:atI (hs.map V.str) ((j2:Nat):Int)=some (V.str house):=bO (by rw[AW,hj2];rfl);refine⟨_,rfl,_,rfl,lh,_,(j2:Int),_,rfl,rfl,aQ ax.h,Z,_,rfl,_,rfl,_,rfl,lf,_,rfl,.inl (aQ ax.f),p,c,ns,a2,_,rfl,ca,by omega,by rw[Ac];omega,by rw[Ac];omega,fun r3 a3 H3 du dm ed eP db bL=>?_⟩;have b7:=ax.but ca bL;obtain⟨v,hv,Z⟩:=iB (xs:=fs.map V.str) (i:=r3) du dm;obtain⟨field,hfield,rfl⟩:=BO.mp hv;have J:=h3.nf.ok field hfield;refine⟨lf,_,r3,_,rfl,rfl,aQ b7.f,Z,?_⟩;have k3:=(bW.trans bn).trans bL;refine⟨_,rfl,z2,fun q hq=>?_⟩;have sq:=aH (o:=.tup [V.str "part",.str "join"]) hq;have aa:=db.same sq;have am:=b7.same sq;have k4:=k3.same sq;have b9:upd H3 q (.tup [V.str "part",.str "join"]) q=_:=aD;refine⟨q,_,rfl,.inr (aS b9),rfl,rfl,_,rfl,?_⟩;generalize upd H3 q (.tup [V.str "part",.str "join"])=H4 at aa am k4 b9 ⊢;refine c9 (fun g1=>?_) (fun g1=>?_)
  ·refine⟨_,rfl,_,rfl,_,rfl,p,c,ns,a3,_,rfl,aa,by omega,by decide,by decide,fun x1 a5 H5 e7 ey eS e2 cc ck=>?_⟩;refine⟨_,_,rfl,rfl,z3,fun u hu=>?_⟩;have su:=aH (o:=.lst [V.int 2,.int 6,.int (2 + x1)]) hu;refine⟨_,rfl,p,c,ns,a5,_,rfl,cc.same su,by omega,by decide,by decide,fun x2 a6 H6 c0 eC e3 ei cb bj=>?_⟩;obtain⟨v,hv,Z⟩:=iB (xs:=[V.int 2,.int 6,.int (2 + x1)]) (i:=x2) c0 (by show x2 < 3;omega);obtain⟨n,rfl,hn,hn2⟩:∃ n:Nat,v=.int n∧n≤6∧2≤n:=by
    simp only[Ap,AF,or_false]at hv;rcases hv with rfl | rfl | rfl
    ·exact⟨2,rfl,by omega,by omega⟩
    ·exact⟨6,rfl,by omega,by omega⟩
    ·exact⟨(2 + x1).toNat,by congr 1;omega,by omega,by omega⟩
   have bo:bK p H4 H6:=(ck.same su).trans bj;refine⟨u,_,x2,_,rfl,rfl,aQ (cQ aD (cc.same su) bj),Z,?_⟩;have bp:=am.but aa bo;refine⟨p,c,ns,a6,lp,ps,n,rfl,cb,by omega,bp.p,cm,hn,fun L ms a7 H7 hL eE df bv et em ap bz=>?_⟩;obtain⟨us,vv,hpu,hpw⟩:=bv;obtain⟨hris,hnms⟩:=aBl df hpu hpw h3.np;have cx:=bp.but cb bz;have k7:=(k4.trans bo).trans bz;refine⟨_,rfl,rfl,_,rfl,c9 (fun g2=>?_) (fun g2=>?_)⟩
   ·refine⟨_,rfl,_,rfl,_,rfl,_,rfl,L,_,rfl,.inl ⟨aQ hL,fun tt bg=>?_⟩⟩;have st:=aH (o:=.tup (ms.map V.str)) bg;have W:word="join":=by
     have:=Ie g2;injection this
    have ay:(ms.map Ba).all bC=true:=by
     rw[Dk,AX];exact fun z hz=>hnms z hz
    exact⟨_,rfl,z5,fun t ht=>ac _ [.tuple (ms.map Ba),.str land] _ a7 (.cons (.tup aD (by rw[Ac];omega) (vT fun z hz=>by have:=(fH (hnms z hz)).2;omega)) (.cons (iO O) .nil)) (by rw[W];exact .join O hris (by omega) (by omega) ay) (by rw[W];exact fun z=>absurd z (by decide)) (ap.same st) (k7.same st) (by omega) (by omega) t ht⟩
   ·refine⟨_,rfl,L,rfl,⟨_,aQ hL⟩,?_⟩;refine vG (K:=K) (xs:=ms.map V.str) (fun i ys σ' H'=>∃(a':Int) (o:Option V),σ'=[o,some (.ref lh),some (.ref p)]∧c4 H' p c ns a'∧bK p H7 H'∧a7≤a'∧a'≤a7 + 4 * i∧ys.length=i∧∃ R:List P3,c7 false H' ys (R.map pD)∧R.map (·.1)=ms.take i∧(R.map pD).all dM=true)
     ⟨a7,none,rfl,ap,bK.refl p H7,by omega,by omega,rfl,[],.nil,by simp,rfl⟩ (aF (by rw[Ac];omega)) (fun i ys σ H p=>by obtain⟨_,_,_,_,_,_,_,e,_⟩:=p;omega) (fun i ys σ H p=>by obtain⟨_,_,_,_,kk,_⟩:=p;exact aQ (cQ hL ap kk)) ?_ ?_
    ·rintro i x ys σ' H8 hx ⟨a8,o,rfl,ak,k8,dt,bT,aI,R,rR,eR,aR⟩;have hi:i < ms.length:=by
      have:=(AZ.mp hx).1;simpa using this
     have ex:x=V.str ms[i]:=by
      rw[AW,Ai hi]at hx;cases hx;rfl
     subst ex;have bN:=hnms _ (BR hi);dsimp only[cE];have b0:=cQ cx.h ap k8;refine bQ ?_;refine⟨_,rfl,_,rfl,_,rfl,_,rfl,lh,_,rfl,.inl (aQ b0),p,c,ns,a8,_,rfl,ak,by omega,by rw[Ac];omega,by rw[Ac];omega,fun r4 a9 H9 bu ba eX eI bq az=>?_⟩;obtain⟨v,hv,Z⟩:=iB (xs:=hs.map V.str) (i:=r4) bu ba;obtain⟨hse,hhse,rfl⟩:=BO.mp hv;have au:=h3.nh.ok hse hhse;refine⟨lh,_,r4,_,rfl,rfl,aQ (cQ b0 ak az),Z,_,rfl,_,_,rfl,rfl,cp _ (by decide) (by decide),p,c,ns,a9,1,10000000,(by show[V.ref p,V.int 1,V.int ((10:Int) ^ CV 7)] ++ []=_;rw[p7];rfl),bq,by omega,by decide,by decide,by omega,fun n1 b1 G1 ai ah bb bi ad U=>?_⟩;refine⟨z3,fun q1 dc=>?_⟩;have bh:=aH (o:=.tup [V.str ms[i],.str hse,.int n1]) dc;refine⟨b1,_,rfl,ad.same bh,((k8.trans az).trans U).same bh,by omega,by omega,by rw[Av,aI];rfl,R ++ [(ms[i],hse,n1)],?_,?_,?_⟩
     ·rw[Ar];exact c7.app ((aB8 (aB8 rR ak az) bq U).same bh) (.cons (.tup aD (by show 3≤1000;decide) (.cons (iO bN) (.cons (iO au) (.cons (.int n1) .nil)))) .nil)
     ·rw[Ar,eR,A2,Ai hi];rfl
     ·rw[Ar,List.all_append,aR];show(true && ((bA ms[i] && bA hse && decide (1≤n1∧n1≤10000000)) && true))=true;rw[bN,au,Ic (show 1≤n1∧n1≤10000000 from⟨ai,ah⟩)];rfl
    ·rintro ys σ' H8 ⟨a8,o,rfl,ak,k8,dt,bT,aI,R,rR,eR,aR⟩ D hD;rw[Ac]at bT;have sD:=aH (o:=.lst ys) hD;refine⟨_,rfl,_,rfl,_,rfl,_,rfl,_,rfl,D,_,rfl,.inl ⟨aQ aD,fun tt bg=>?_⟩⟩;have st:=aH (o:=.tup ys) bg;have W:word="part":=by
      have h0:"part"=word∨"join"=word:=by simpa[inV,eqV]using g1
      have h1:word="part"∨word="join":=h0.imp FA FA;rcases h1 with h1 | h1
      ·exact h1
      ·exact absurd (Ic (by rw[h1])) g2
     rw[Ac,Bc]at eR;have ek:R.length=ms.length:=by rw[← eR,Ac]
     have dr:aEm R:=by
      have:=Ie hris;rw[← eR]at this;exact(E2 (f:=fun x:P3=>x.1) (R:=fun a b:Str=>a.cps.toList < b.cps.toList)).mp this
     exact⟨z5,fun t ht=>ac _ [.str land,.tuple (R.map pD)] _ a8 (.cons (iO O) (.cons (.tup aD (by rw[aI,Ac];omega) ((rR.same sD).same st)) .nil)) (by rw[W];exact .part O dr (by omega) (by omega) aR) (by rw[W];exact fun z=>absurd z (by decide)) ((ak.same sD).same st) (((k7.trans k8).same sD).same st) (by omega) (by omega) t ht⟩
  ·refine⟨_,rfl,rfl,_,rfl,c9 (fun g2=>?_) (fun g2=>?_)⟩
   ·have W:word="forfeit":=by
     have:=Ie g2;injection this
    exact⟨_,rfl,_,rfl,_,rfl,_,rfl,_,rfl,z5,fun t ht=>ac _ [.str land,.str house] _ a3 (.cons (iO O) (.cons (iO G) .nil)) (by rw[W];exact .forfeit O G) (by rw[W];exact fun z=>absurd z (by decide)) aa k4 (by omega) (by omega) t ht⟩
   ·refine⟨_,rfl,rfl,_,rfl,c9 (fun g3=>?_) (fun g3=>?_)⟩
    ·refine⟨_,rfl,_,rfl,_,rfl,_,rfl,_,rfl,_,_,rfl,rfl,cp _ (by decide) (by decide),p,c,ns,a3,0,10000000,(by show[V.ref p,V.int 0,V.int ((10:Int) ^ CV 7)] ++ []=_;rw[p7];rfl),aa,by omega,by decide,by decide,by omega,fun n1 b1 G1 ai ah bb bi ad U=>?_⟩;have W:word="measure":=by
      have:=Ie g3;injection this
     exact⟨z5,fun t ht=>ac _ [.str field,.int n1] _ b1 (.cons (iO J) (.cons (.int n1) .nil)) (by rw[W];exact .measure J ai ah) (fun _ z bF e=>by cases e;exact hfield) ad (k4.trans U) (by omega) (by omega) t ht⟩
    ·refine⟨_,rfl,rfl,_,rfl,c9 (fun g4=>?_) (fun g4=>?_)⟩
     ·refine⟨_,rfl,_,rfl,_,rfl,_,rfl,_,rfl,_,rfl,_,_,rfl,rfl,_,rfl,_,rfl,lh,_,rfl,.inl (aQ am.h),_,_,rfl,rfl,p,c,ns,a3,_,rfl,aa,by omega,by rw[Ac];omega,by rw[Ac];omega,fun r4 b1 G1 bu ba bb bi ad U=>?_⟩;have hh:=cQ am.h aa U;refine⟨_,_,rfl,rfl,_,rfl,lh,_,rfl,.inl (aQ hh),_,_,rfl,rfl,by rw[Ac];omega,?_⟩;have e5:((hs.map V.str).length:Int)=5:=by rw[Ac,b5];rfl
      rw[e5]at ba;obtain⟨j4,ej4⟩:∃ j4:Nat,((j2:Int) + 1 + r4) % ((hs.map V.str).length:Int)=j4:=⟨(((j2:Int) + 1 + r4) % ((hs.map V.str).length:Int)).toNat,by rw[e5];omega⟩
      have cs:j4 < 5∧j4≠j2:=by
       rw[e5]at ej4;omega
      obtain⟨other,hot⟩:∃ y,hs[j4]?=some y:=⟨_,Ai (by omega)⟩
      have ag:=h3.nh.ok other (AN hot);have dv:house≠other:=fun z=>by
       have dq:j2 < hs.length:=by omega
       have cn:j4 < hs.length:=by omega
       rw[Ai dq]at hj2;rw[Ai cn]at hot;injection hj2 with hj2;injection hot with hot;rw[← hj2,← hot]at z;exact cs.2 ((List.getElem_inj h3.nh.nd).mp z).symm
      have ar:atI (hs.map V.str) ((j4:Nat):Int)=some (V.str other):=bO (by rw[AW,hot];rfl);rw[← ej4]at ar;have W:word="mend":=by
       have:=Ie g4;injection this
      exact⟨lh,_,_,_,rfl,rfl,aQ hh,ar,z5,fun t ht=>ac _ [.str house,.str other] _ b1 (.cons (iO G) (.cons (iO ag) .nil)) (by rw[W];exact .mend G ag dv) (by rw[W];exact fun z=>absurd z (by decide)) ad (k4.trans U) (by omega) (by omega) t ht⟩
     ·refine⟨_,rfl,rfl,_,rfl,c9 (fun g5=>?_) (fun g5=>?_)⟩
      ·have W:word="alone":=by
        have:=Ie g5;injection this
       exact⟨_,rfl,_,rfl,_,rfl,_,rfl,z4,fun t ht=>ac _ [.str house] _ a3 (.cons (iO G) .nil) (by rw[W];exact .alone G) (by rw[W];exact fun z=>absurd z (by decide)) aa k4 (by omega) (by omega) t ht⟩
      ·refine⟨_,rfl,_,_,rfl,rfl,cp _ (by decide) (by decide),_,_,rfl,rfl,p,c,ns,a3,0,9999999,(by show[V.ref p,V.int 0,V.int ((10:Int) ^ CV 7 - 1)] ++ []=_;rw[p7];rfl),aa,by omega,by decide,by decide,by omega,fun n1 b1 G1 ai ah bb bi ad U=>?_⟩;refine⟨_,rfl,rfl,_,rfl,c9 (fun g6=>?_) (fun g6=>?_)⟩
       ·have W:word="view":=by
         have:=Ie g6;injection this
        exact⟨_,rfl,_,rfl,_,rfl,_,rfl,_,rfl,_,rfl,z6,fun t ht=>ac _ [.str field,.int n1,.str house] _ b1 (.cons (iO J) (.cons (.int n1) (.cons (iO G) .nil))) (by rw[W];exact .view J ai ah G) (fun _ z bF e=>by cases e;exact hfield) ad (k4.trans U) (by omega) (by omega) t ht⟩
       ·refine⟨_,rfl,_,rfl,_,rfl,_,rfl,_,rfl,_,rfl,_,_,rfl,rfl,cp _ (by decide) (by decide),p,c,ns,b1,0,1000000000,(by show[V.ref p,V.int 0,V.int ((10:Int) ^ CV 9)] ++ []=_;rw[p9];rfl),ad,by omega,by decide,by decide,by omega,fun n2 b2 G2 cy di eT el b4 bH=>?_⟩;refine⟨_,rfl,_,_,rfl,rfl,cp _ (by decide) (by decide),p,c,ns,b2,0,1000000,(by show[V.ref p,V.int 0,V.int ((10:Int) ^ CV 6)] ++ []=_;rw[p6];rfl),b4,by omega,by decide,by decide,by omega,fun n3 b3 G3 c1 cz e1 eA bx b6=>?_⟩;have W:word="breach":=by
         have ng:∀ z:Str,¬ decide (V.str word=V.str z)=true→word≠z:=fun z hz e=>hz (Ic (by rw[e]));have bP:word≠"part"∧word≠"join":=by
          constructor
          ·intro z;exact g1 (by rw[z];rfl)
          ·intro z;exact g1 (by rw[z];rfl)
         have hm:=hwd;simp only[cC,Ap,AF,or_false]at hm;rcases hm with z | z | z | z | z | z | z | z
         ·exact absurd z bP.1
         ·exact absurd z bP.2
         ·exact absurd z (ng _ g2)
         ·exact absurd z (ng _ g3)
         ·exact absurd z (ng _ g4)
         ·exact absurd z (ng _ g5)
         ·exact z
         ·exact absurd z (ng _ g6)
        exact⟨z7,fun t ht=>ac _ [.str field,.int n1,.int n2,.int n3] _ b3 (.cons (iO J) (.cons (.int n1) (.cons (.int n2) (.cons (.int n3) .nil)))) (by rw[W];exact .breach J ai ah cy di c1 cz) (fun _ z bF e=>by cases e;exact hfield) bx (((k4.trans U).trans bH).trans b6) (by omega) (by omega) t ht⟩
mutual
inductive pP:Aj→Prop
 | non:pP .none
 | bl (b:Bool):pP (.bool b)
 | int (i:Int):pP (.int i)
 | str (z:Str):pP (.str z)
 | tup {ds:List Aj} (h:qT ds):pP (.tuple ds)
inductive qT:List Aj→Prop
 | nil:qT []
 | cons {d:Aj} {ds:List Aj} (a:pP d) (r:qT ds):qT (d :: ds)
end
def fmV(g0 g1 g2 g3 g4 g5 g6 g7:Af):List (Key×V):=[(Am "part",.ref g0),(Am "join",.ref g1),(Am "forfeit",.ref g2),(Am "measure",.ref g3),(Am "mend",.ref g4),(Am "alone",.ref g5),(Am "breach",.ref g6),(Am "view",.ref g7)]
def fmR(g0 g1 g2 g3 g4 g5 g6 g7:Af):List (Key×Ab):=[(Am "part",.ref g0),(Am "join",.ref g1),(Am "forfeit",.ref g2),(Am "measure",.ref g3),(Am "mend",.ref g4),(Am "alone",.ref g5),(Am "breach",.ref g6),(Am "view",.ref g7)]
theorem aIu(g0 Z G U Y J W O:Af):KV (fmV g0 Z G U Y J W O) (fmR g0 Z G U Y J W O):=.cons ⟨rfl,rfl⟩ (.cons ⟨rfl,rfl⟩ (.cons ⟨rfl,rfl⟩ (.cons ⟨rfl,rfl⟩ (.cons ⟨rfl,rfl⟩ (.cons ⟨rfl,rfl⟩ (.cons ⟨rfl,rfl⟩ (.cons ⟨rfl,rfl⟩ (.nil))))))))
theorem dY(w:AH)(s:Str):AU w.params s=aHy w (Am s):=by
 first | rfl | (unfold aHy hashStr AU;rfl)
theorem isS(s:Str)(t:Tok):rA (Am s) (.str s t)=true:=by
 show EJ s (.str s t)=true;simp[EJ]
theorem aGR{P:Al}{w:AH}{K:Ae}{a:Af}{e:Nat}{W O x2 Z G J Y U:Tok}{g0 g1 g2 g3 g4 g5 g6 g7:Af}(l:K.lookup a=some { cls:=.type "dict",data:=.dict #[⟨AU w.params "part",.str "part" W,.ref g0⟩,⟨AU w.params "join",.str "join" O,.ref g1⟩,⟨AU w.params "forfeit",.str "forfeit" x2,.ref g2⟩,⟨AU w.params "measure",.str "measure" Z,.ref g3⟩,⟨AU w.params "mend",.str "mend" G,.ref g4⟩,⟨AU w.params "alone",.str "alone" J,.ref g5⟩,⟨AU w.params "breach",.str "breach" Y,.ref g6⟩,⟨AU w.params "view",.str "view" U,.ref g7⟩] e }):∀ h:A1,K.In h→h.DictOf (cY P w) a (fmR g0 g1 g2 g3 g4 g5 g6 g7):=by
 intro h hK;refine⟨_,_,_,hK _ _ l,⟨rfl,rfl,rfl⟩,rfl,?_,?_,?_⟩
 ·intro en he;simp only[List.mem_toArray,Ap,AF,or_false]at he;rcases he with rfl | rfl | rfl | rfl | rfl | rfl | rfl | rfl
  ·exact⟨Am "part",isS "part" W,dY w "part"⟩
  ·exact⟨Am "join",isS "join" O,dY w "join"⟩
  ·exact⟨Am "forfeit",isS "forfeit" x2,dY w "forfeit"⟩
  ·exact⟨Am "measure",isS "measure" Z,dY w "measure"⟩
  ·exact⟨Am "mend",isS "mend" G,dY w "mend"⟩
  ·exact⟨Am "alone",isS "alone" J,dY w "alone"⟩
  ·exact⟨Am "breach",isS "breach" Y,dY w "breach"⟩
  ·exact⟨Am "view",isS "view" U,dY w "view"⟩
 ·exact .cons (isS "part" W) rfl (.cons (isS "join" O) rfl (.cons (isS "forfeit" x2) rfl (.cons (isS "measure" Z) rfl (.cons (isS "mend" G) rfl (.cons (isS "alone" J) rfl (.cons (isS "breach" Y) rfl (.cons (isS "view" U) rfl (.nil))))))))
 ·show([Am "part",Am "join",Am "forfeit",Am "measure",Am "mend",Am "alone",Am "breach",Am "view"]:List Key).Nodup;decide
theorem aHu(g0 g1 Z g3 g4 g5 g6 g7:Af)(kind:Str):fS (fmV g0 g1 Z g3 g4 g5 g6 g7) (Am kind)=if kind="part" then some (.ref g0) else if kind="join" then some (.ref g1) else if kind="forfeit" then some (.ref Z) else if kind="measure" then some (.ref g3) else if kind="mend" then some (.ref g4) else if kind="alone" then some (.ref g5) else if kind="breach" then some (.ref g6) else if kind="view" then some (.ref g7) else none:=by
 unfold fmV;by_cases U:kind="part"
 ·rw[Ib U];subst U;rfl
 rw[cP (show¬ (Am "part":Key)=Am kind from fun z=>U (by injection z with z;exact z.symm)),Ia U];by_cases h1:kind="join"
 ·rw[Ib h1];subst h1;rfl
 rw[cP (show¬ (Am "join":Key)=Am kind from fun z=>h1 (by injection z with z;exact z.symm)),Ia h1];by_cases h2:kind="forfeit"
 ·rw[Ib h2];subst h2;rfl
 rw[cP (show¬ (Am "forfeit":Key)=Am kind from fun z=>h2 (by injection z with z;exact z.symm)),Ia h2];by_cases O:kind="measure"
 ·rw[Ib O];subst O;rfl
 rw[cP (show¬ (Am "measure":Key)=Am kind from fun z=>O (by injection z with z;exact z.symm)),Ia O];by_cases W:kind="mend"
 ·rw[Ib W];subst W;rfl
 rw[cP (show¬ (Am "mend":Key)=Am kind from fun z=>W (by injection z with z;exact z.symm)),Ia W];by_cases G:kind="alone"
 ·rw[Ib G];subst G;rfl
 rw[cP (show¬ (Am "alone":Key)=Am kind from fun z=>G (by injection z with z;exact z.symm)),Ia G];by_cases Y:kind="breach"
 ·rw[Ib Y];subst Y;rfl
 rw[cP (show¬ (Am "breach":Key)=Am kind from fun z=>Y (by injection z with z;exact z.symm)),Ia Y];by_cases J:kind="view"
 ·rw[Ib J];subst J;rfl
 rw[cP (show¬ (Am "view":Key)=Am kind from fun z=>J (by injection z with z;exact z.symm)),Ia J];rfl
theorem aJv(g0 g1 Z g3 g4 g5 g6 g7:Af)(kind:Str):(fS (fmV g0 g1 Z g3 g4 g5 g6 g7) (Am kind)).isSome=decide (kind∈cC):=by
 rw[aHu];simp only[cC,Ap,AF,or_false];by_cases U:kind="part"
 ·rw[Ib U,Ic (by simp[U])];rfl
 rw[Ia U];by_cases h1:kind="join"
 ·rw[Ib h1,Ic (by simp[h1])];rfl
 rw[Ia h1];by_cases h2:kind="forfeit"
 ·rw[Ib h2,Ic (by simp[h2])];rfl
 rw[Ia h2];by_cases O:kind="measure"
 ·rw[Ib O,Ic (by simp[O])];rfl
 rw[Ia O];by_cases W:kind="mend"
 ·rw[Ib W,Ic (by simp[W])];rfl
 rw[Ia W];by_cases G:kind="alone"
 ·rw[Ib G,Ic (by simp[G])];rfl
 rw[Ia G];by_cases Y:kind="breach"
 ·rw[Ib Y,Ic (by simp[Y])];rfl
 rw[Ia Y];by_cases J:kind="view"
 ·rw[Ib J,Ic (by simp[J])];rfl
 rw[Ia J];rw[decide_eq_false (by simp[U,h1,h2,O,W,G,Y,J])];rfl
theorem aJw{P:Al}{w:AH}{K:Ae}{mg:Str→Option Ab}{base:A1}{O g1 W G J Z U Y:Af}{d0:Ax}(G0:b8 P w K mg base CX0 6 O d0 ["rest"] (eU qC))(k0:Az K (.ref O)=true)(b0:dH K d0 ["rest"] []){d1:Ax}(G1:b8 P w K mg base CX0 6 g1 d1 ["rest"] (eU tV))(k1:Az K (.ref g1)=true)(b1:dH K d1 ["rest"] []){d2:Ax}(G2:b8 P w K mg base CX0 6 W d2 ["rest"] (eU fE))(k2:Az K (.ref W)=true)(b2:dH K d2 ["rest"] []){d3:Ax}(G3:b8 P w K mg base CX0 6 G d3 ["rest"] (eU iE))(k3:Az K (.ref G)=true)(b3:dH K d3 ["rest"] []){d4:Ax}(G4:b8 P w K mg base CX0 6 J d4 ["rest"] (eU lB))(k4:Az K (.ref J)=true)(b4:dH K d4 ["rest"] []){d5:Ax}(G5:b8 P w K mg base CX0 6 Z d5 ["rest"] (eU lA))(k5:Az K (.ref Z)=true)(b5:dH K d5 ["rest"] []){d6:Ax}(G6:b8 P w K mg base CX0 6 U d6 ["rest"] (eU f6))(k6:Az K (.ref U)=true)(b6:dH K d6 ["rest"] []){d7:Ax}(G7:b8 P w K mg base CX0 6 Y d7 ["rest"] (eU kZ))(k7:Az K (.ref Y)=true)(b7:dH K d7 ["rest"] []):
  ∀(kind:Str) (v:V),fS (fmV O g1 W G J Z U Y) (Am kind)=some v→∃(a:Af) (fd:Ax),v=.ref a∧b8 P w K mg base CX0 6 a fd ["rest"] (eU (dF kind))∧Az K (.ref a)=true∧dH K fd ["rest"] []:=by
 intro kind v h;rw[aHu]at h;by_cases h0:kind="part"
 ·rw[Ib h0]at h;cases h;subst h0;have e:dF "part"=qC:=by funext ds;unfold dF;rw[Ib rfl]
  exact⟨O,d0,rfl,by rw[e];exact G0,k0,b0⟩
 rw[Ia h0]at h;by_cases h1:kind="join"
 ·rw[Ib h1]at h;cases h;subst h1;have e:dF "join"=tV:=by funext ds;unfold dF;rw[Ia (by decide),Ib rfl]
  exact⟨g1,d1,rfl,by rw[e];exact G1,k1,b1⟩
 rw[Ia h1]at h;by_cases h2:kind="forfeit"
 ·rw[Ib h2]at h;cases h;subst h2;have e:dF "forfeit"=fE:=by funext ds;unfold dF;rw[Ia (by decide),Ia (by decide),Ib rfl]
  exact⟨W,d2,rfl,by rw[e];exact G2,k2,b2⟩
 rw[Ia h2]at h;by_cases h3:kind="measure"
 ·rw[Ib h3]at h;cases h;subst h3;have e:dF "measure"=iE:=by funext ds;unfold dF;rw[Ia (by decide),Ia (by decide),Ia (by decide),Ib rfl]
  exact⟨G,d3,rfl,by rw[e];exact G3,k3,b3⟩
 rw[Ia h3]at h;by_cases h4:kind="mend"
 ·rw[Ib h4]at h;cases h;subst h4;have e:dF "mend"=lB:=by funext ds;unfold dF;rw[Ia (by decide),Ia (by decide),Ia (by decide),Ia (by decide),Ib rfl]
  exact⟨J,d4,rfl,by rw[e];exact G4,k4,b4⟩
 rw[Ia h4]at h;by_cases h5:kind="alone"
 ·rw[Ib h5]at h;cases h;subst h5;have e:dF "alone"=lA:=by funext ds;unfold dF;rw[Ia (by decide),Ia (by decide),Ia (by decide),Ia (by decide),Ia (by decide),Ib rfl]
  exact⟨Z,d5,rfl,by rw[e];exact G5,k5,b5⟩
 rw[Ia h5]at h;by_cases h6:kind="breach"
 ·rw[Ib h6]at h;cases h;subst h6;have e:dF "breach"=f6:=by funext ds;unfold dF;rw[Ia (by decide),Ia (by decide),Ia (by decide),Ia (by decide),Ia (by decide),Ia (by decide),Ib rfl]
  exact⟨U,d6,rfl,by rw[e];exact G6,k6,b6⟩
 rw[Ia h6]at h;by_cases h7:kind="view"
 ·rw[Ib h7]at h;cases h;subst h7;have e:dF "view"=kZ:=by funext ds;unfold dF;rw[Ia (by decide),Ia (by decide),Ia (by decide),Ia (by decide),Ia (by decide),Ia (by decide),Ia (by decide)]
  exact⟨Y,d7,rfl,by rw[e];exact G7,k7,b7⟩
 rw[Ia h7]at h;cases h
theorem iG.word{word:Str}{ds:List Aj}(h:iG word ds):word∈cC:=by
 cases h <;> decide
theorem iG.len{word:Str}{ds:List Aj}(h:iG word ds):ds.length≤4:=by
 cases h <;> simp
structure g8 where
 word:Str
 name:Str
 day:Int
 ds:List Aj
def g8.d(r:g8):Aj:=aBk r.word r.name r.day r.ds
structure g8.Ok(r:g8)(fs:List Str):Prop where
 rs:iG r.word r.ds
 nm:bA r.name=true
 d0:0≤r.day
 d1:r.day≤9999
 fi:FIn r.word r.ds fs
theorem g8.Ok.row{r:g8}{fs:List Str}(h:r.Ok fs):fQ r.d=true:=aE8 h.rs h.nm h.d0 h.d1
def cV(i:Int):Str:=A4 (toString i)
def tS:Aj→Str | .str z=>z | .int i=>cV i | _=>Ek
def aFb:Aj→List Str
 | .tuple es=>es.flatMap fun e=>match e with | .tuple fs=>fs.map tS | e=>[tS e]
 | e=>[tS e]
def mE(word:Str)(ds:List Aj):List Str:=if word="join" then(ds.take 1).flatMap aFb ++ (("as":Str) :: (ds.drop 1).map tS) else ds.flatMap aFb
def gA(r:g8):List Str:=r.word :: r.name :: cV r.day :: mE r.word r.ds
def f8(x:P3):List Str:=[x.1,x.2.1,cV x.2.2]
theorem jT(G:Str)(R:List P3):mE "part" [.str G,.tuple (R.map pD)]=G :: R.flatMap f8:=by
 unfold mE;rw[Ia (by decide)];show[G] ++ ((R.map pD).flatMap _ ++ [])=_;rw[Ce,List.flatMap_map];rfl
theorem jU(G:Str)(R:List Str):mE "join" [.tuple (R.map Ba),.str G]=R ++ [("as":Str),G]:=by
 unfold mE;rw[Ib rfl];show((R.map Ba).flatMap _ ++ []) ++ _=_;rw[Ce,List.flatMap_map];congr 1
 induction R with
 | nil=>rfl
 | cons z R J=>rw[E3,J];rfl
theorem lU{i:Int}(G:0≤i)(h1:i≤1000000000):i.natAbs.log2 < 1920:=by
 have h:i.natAbs≤1000000000:=by omega
 rcases Nat.eq_zero_or_pos i.natAbs with z | z
 ·rw[z];decide
 ·refine(FZ (by omega)).mpr (D0 h (by decide))
theorem g8.Ok.open{r:g8}{fs:List Str}(h:r.Ok fs){H:Hp}{x:V}(rd:RdV false H x r.d):∃ t ys,x=.ref t∧H t=some (.tup (.str r.word :: .str r.name :: .int r.day :: ys))∧c7 false H ys r.ds:=by
 have G:RdV false H x (.tuple (.str r.word :: .str r.name :: .int r.day :: r.ds)):=rd;cases G with
 | tup e J q=>
  cases q with
  | cons a q=>
   cases a;cases q with
   | cons a q=>
    cases a;cases q with
    | cons a q=>
     cases a;exact⟨_,_,rfl,e,q⟩
theorem rd1{H:Hp}{ys:List V}{d:Aj}(h:c7 false H ys [d]):∃ y,ys=[y]∧RdV false H y d:=by
 cases h with
 | cons a r=>cases r;exact⟨_,rfl,a⟩
theorem rd2{H:Hp}{ys:List V}{d e:Aj}(h:c7 false H ys [d,e]):∃ y z,ys=[y,z]∧RdV false H y d∧RdV false H z e:=by
 cases h with
 | cons a r=>
  obtain⟨z,rfl,b⟩:=rd1 r;exact⟨_,z,rfl,a,b⟩
theorem rdS{m:Bool}{H:Hp}{y:V}{z:Str}(h:RdV m H y (.str z)):y=.str z:=by
 cases h;rfl
theorem rdI{m:Bool}{H:Hp}{y:V}{i:Int}(h:RdV m H y (.int i)):y=.int i:=by
 cases h;rfl
def iP(d:Aj):Prop:=(∃ z,d=.str z∧bA z=true)∨∃ i,d=.int i∧0≤i∧i≤1000000000
theorem iP.fm{d:Aj}(h:iP d){m:Bool}{H:Hp}{y:V}(r:RdV m H y d):Fm y (tS d):=by
 rcases h with⟨z,rfl,hz⟩ | ⟨i,rfl,h0,h1⟩
 ·rw[rdS r];exact .str z (aF (by have:=(fH hz).2;omega))
 ·rw[rdI r];exact .int i (lU h0 h1)
theorem iP.item{d:Aj}(h:iP d):aFb d=[tS d]:=by
 rcases h with⟨z,rfl,hz⟩ | ⟨i,rfl,h0,h1⟩ <;> rfl
theorem iG.flat{word:Str}{ds:List Aj}(h:iG word ds)(h1:word≠"part")(h2:word≠"join"):(∀ d∈ds,iP d)∧mE word ds=ds.map tS∧ds.length≤4:=by
 have W:∀{ds:List Aj},(∀ d∈ds,iP d)→ds.length≤4→(∀ d∈ds,iP d)∧mE word ds=ds.map tS∧ds.length≤4:=fun{ds} h hl=>by
  refine⟨h,?_,hl⟩;unfold mE;rw[Ia h2];clear hl
  induction ds with
  | nil=>rfl
  | cons d r ih=>rw[E3,(h d AV).item,ih fun e he=>h e (AY _ he)];rfl
 have U:∀ e∈([]:List Aj),iP e:=fun e he=>by simp at he
 have G:∀{d:Aj} {ds:List Aj},iP d→(∀ e∈ds,iP e)→∀ e∈d :: ds,iP e:=fun{d ds} hd hs e he=>by
  rcases Ap.mp he with z | z
  ·rw[z];exact hd
  ·exact hs e z
 have J:∀{z:Str},bA z=true→iP (.str z):=fun h=>.inl ⟨_,rfl,h⟩;have ci:∀{i:Int},0≤i→i≤1000000000→iP (.int i):=fun h0 h1=>.inr ⟨_,rfl,h0,by omega⟩;cases h with
 | part=>exact absurd rfl h1
 | join=>exact absurd rfl h2
 | forfeit hl Y=>exact W (G (J hl) (G (J Y) U)) (by simp)
 | measure Z h0 h1=>exact W (G (J Z) (G (ci h0 (by omega)) U)) (by simp)
 | mend Y ho _=>exact W (G (J Y) (G (J ho) U)) (by simp)
 | alone Y=>exact W (G (J Y) U) (by simp)
 | breach Z O ag ah ai af am=>exact W (G (J Z) (G (ci O (by omega)) (G (ci ah ai) (G (ci af (by omega)) U)))) (by simp)
 | view Z O ag hv=>exact W (G (J Z) (G (ci O (by omega)) (G (J hv) U))) (by simp)
theorem iG.isPart{word:Str}{ds:List Aj}(h:iG word ds)(e:word="part"):∃(G:Str) (R:List P3),ds=[.str G,.tuple (R.map pD)]∧bA G=true∧(R.map pD).all dM=true∧R.length≤6:=by
 cases h with
 | part J U h2 O ha=>exact⟨_,_,rfl,J,ha,O⟩
 | _=>exact absurd e (by decide)
theorem iG.isJoin{word:Str}{ds:List Aj}(h:iG word ds)(e:word="join"):∃(G:Str) (R:List Str),ds=[.tuple (R.map Ba),.str G]∧bA G=true∧(∀ z∈R,bA z=true)∧R.length≤6:=by
 cases h with
 | join J U h2 O ha=>exact⟨_,_,rfl,J,fun z hz=>AX.mp ha (.str z) (List.mem_map_of_mem hz),O⟩
 | _=>exact absurd e (by decide)
theorem rdT{m:Bool}{H:Hp}{y:V}{ds:List Aj}(h:RdV m H y (.tuple ds)):∃ b zs,y=.ref b∧H b=some (.tup zs)∧c7 m H zs ds:=by
 cases h with
 | tup e G r=>exact⟨_,_,rfl,e,r⟩
theorem tY{m:Bool}{H:Hp}:∀{zs:List V}{R:List Str},c7 m H zs (R.map Ba)→zs=R.map V.str
 | _,[],h=>by cases h;rfl
 | _,z :: R,h=>by
  cases h with
  | cons a r=>rw[rdS a,tY r];rfl
theorem jD{H X:Hp}{L:Af}{o:HO}(s:aT H X)(n:H L=none):aT H (upd X L o):=fun b u e=>by
 rw[bD (bX e n)];exact s b u e
theorem aDt{H H':Hp}{a:Af}(s:aT H H')(h:H' a=none):H a=none:=by
 cases q:H a with
 | none=>rfl
 | some o=>rw[s _ _ q]at h;cases h
theorem aGS{H:Hp}{a b:Af}{o:HO}{xs:List V}(ha:H a=some o)(G:H b=some (.lst xs))(h:∀ ys,o≠.lst ys):a≠b:=fun e=>by
 rw[e,G]at ha;cases ha;exact h xs rfl
theorem oP{H H':Hp}{L q:Af}{xs ys:List V}(k:bK L H H')(G:H L=some (.lst xs))(e:H q=some (.tup ys)):H' q=some (.tup ys):=k q _ e (aGS e G fun _ z=>nomatch z)
theorem aCd{H:Hp}{zs:List V}{R:List P3}(h:c7 false H zs (R.map pD)){i:Nat}{v:V}(G:zs[i]?=some v):∃ x q,R[i]?=some x∧v=.ref q∧H q=some (.tup [.str x.1,.str x.2.1,.int x.2.2]):=by
 obtain⟨d,hd,rv⟩:=h.at G;rw[AW]at hd;obtain⟨x,hx,rfl⟩:=Cr.mp hd;obtain⟨b,ws,rfl,e,r⟩:=rdT rv;cases r with
 | cons a r=>
  cases a;cases r with
  | cons a r=>
   cases a;obtain⟨y,rfl,c⟩:=rd1 r;cases c;exact⟨x,b,hx,rfl,e⟩
theorem qU{R:List P3}(h:(R.map pD).all dM=true){x:P3}(G:x∈R):bA x.1=true∧bA x.2.1=true∧1≤x.2.2∧x.2.2≤10000000:=by
 have:=AX.mp h (pD x) (List.mem_map_of_mem G);have h2:(bA x.1 && bA x.2.1 && decide (1≤x.2.2∧x.2.2≤10000000))=true:=this;rw[Ay,Ay]at h2;exact⟨h2.1.1,h2.1.2,(Ie h2.2).1,(Ie h2.2).2⟩
theorem iQ(R:List P3):(R.flatMap f8).length=3 * R.length:=by
 induction R with
 | nil=>rfl
 | cons x R G=>rw[E3,Av,G,Ak];show 3 + _=_;omega
structure pQ(z:Str):Prop where
 len:z.length≤11
 free:∀ c,c < 48→c ∉ z.cps.toList
theorem mG{z:Str}(h:bA z=true):pQ z:=by
 refine⟨by have:=(fH h).2;omega,fun c hc hm=>?_⟩;unfold bA at h;rw[Ay,AX]at h;have:=Ie (h.2 c hm);omega
theorem aCe{i:Int}(J:0≤i)(h1:i≤1000000000):pQ (cV i):=by
 obtain⟨m,rfl⟩:∃ m:Nat,i=m:=⟨i.toNat,by omega⟩
 have hm:m≤1000000000:=by omega
 exact⟨AM (aBV (k:=10) (D0 hm (by decide)) (by decide)) (by decide),fun c hc G=>by have:=(sW m c G).1;omega⟩
theorem aJx:pQ "as":=mG (by decide)
theorem g8.Ok.words{r:g8}{fs:List Str}(h:r.Ok fs):(∀ z∈gA r,pQ z)∧(gA r).length≤24:=by
 have O:∀{l:List Str},((∀ z∈l,pQ z)∧l.length≤21)→(∀ z∈r.word :: r.name :: cV r.day :: l,pQ z)∧(r.word :: r.name :: cV r.day :: l).length≤24:=fun{l} hl=>by
  refine⟨fun z hz=>?_,by simp only[Ak];omega⟩;have d1:=h.d1;simp only[Ap]at hz;rcases hz with rfl | rfl | rfl | hz
  ·have:∀ w∈cC,bA w=true:=by decide
   exact mG (this _ h.rs.word)
  ·exact mG h.nm
  ·exact aCe h.d0 (by omega)
  ·exact hl.1 z hz
 refine O ?_;by_cases G:r.word="part"
 ·obtain⟨land,R,eds,hl,ha,h6⟩:=h.rs.isPart G;rw[eds,G,jT];refine⟨fun z hz=>?_,by rw[Ak,iQ];omega⟩;rcases Ap.mp hz with rfl | hz
  ·exact mG hl
  ·obtain⟨x,hx,hz⟩:=List.mem_flatMap.mp hz;obtain⟨p1,p2,p3,p4⟩:=qU ha hx;unfold f8 at hz;simp only[Ap,AF,or_false]at hz;rcases hz with rfl | rfl | rfl
   ·exact mG p1
   ·exact mG p2
   ·exact aCe (by omega) (by omega)
 by_cases J:r.word="join"
 ·obtain⟨land,R,eds,hl,ha,h6⟩:=h.rs.isJoin J;rw[eds,J,jU];refine⟨fun z hz=>?_,by rw[Av];show _ + 2≤_;omega⟩;rcases Bo.mp hz with hz | hz
  ·exact mG (ha z hz)
  ·simp only[Ap,AF,or_false]at hz;rcases hz with rfl | rfl
   ·exact aJx
   ·exact mG hl
 ·obtain⟨hfl,erw,h4⟩:=h.rs.flat G J;rw[erw];refine⟨fun z hz=>?_,by rw[Ac];omega⟩;obtain⟨d,hd,rfl⟩:=BO.mp hz;rcases hfl d hd with⟨z,rfl,hn⟩ | ⟨i,rfl,h0,h1⟩
  ·exact mG hn
  ·exact aCe h0 h1
theorem xO{n:Nat}:∀{ws:List Str},(∀ z∈ws,z.length≤n)→(ws.map (·.length)).sum≤n * ws.length
 | [],_=>by simp
 | z :: ws,h=>by
  have h1:=h z AV;have h2:=xO fun y G=>h y (AY _ G);rw[A0,B5,Ak,Nat.mul_succ];omega
inductive oQ(vs:List V)(H:Hp)(Q:VK)(u3_:XK):Prop
 | mk (x:V) (r:g8) (fs:List Str) (q0:vs=[x]) (q1:RdV false H x r.d) (q2:r.Ok fs) (q3:∀(L:Af) (H':Hp),aT H H'→H' L=some (.lst ((gA r).map V.str))→Q (.ref L) H'):oQ vs H Q u3_
def tZ:Sp:=fun vs H Q u3_=>oQ vs H Q u3_
def jV(r:g8):Str:=PySem.Txt.join " " (gA r)
inductive qD(vs:List V)(H:Hp)(Q:VK)(u3_:XK):Prop
 | mk (x:V) (r:g8) (fs:List Str) (q0:vs=[x]) (q1:RdV false H x r.d) (q2:r.Ok fs) (q3:∀(H':Hp),aT H H'→Q (.str (jV r)) H'):qD vs H Q u3_
def jE:Sp:=fun vs H Q u3_=>qD vs H Q u3_
theorem t7:bB ["row","kind","name","day","words","land","house","acres"] ["row"] (aK lN):=⟨rfl,rfl,rfl,by decide,rfl,by decide,by decide⟩
theorem aAf{f:Af}{fd:Ax}(F:Fun K "row_words" "row_words" lN f fd)(U:mg "str"=none)(ac:mg "list"=none)
  :b8 P w K mg base CX0 1 f fd ["row"] tZ:=by
 refine F.ok t7 (fun vs H Q E h=>?_) (fun bp A outer s H vs Q E hr h=>?_)
 ·obtain⟨x,r,fs,rfl,_⟩:=h;rfl
 ·obtain⟨x,r,fs,rfl,rd,ok,k⟩:=h;have nd:=t7.nd;refine⟨_,(aE (iS (bY lJ (pv 0) cU (cA aC)) (jI rfl (cO (bJ (i:=1) nd rfl (Aw rfl)) (cO (bJ (i:=2) nd rfl (Aw rfl)) (cO (bJ (i:=3) nd rfl (Aw rfl)) gU)))))
   (aE (aY (i:=4) nd rfl (Aw rfl) (dB (aB (pv 1) (aB (pv 2) (aB (bV lK (by rfl) U (by kernel_rfl) (aB (pv 3) aA)) aA)))))
   (aE (fO (bM (aP cH (pv 1) aJ (aU _)) (aE (iH (gE Bn DY DW oX (pv 4) (aB (aZ bU (pv 0) aC Ig) aA)))
    (aG (iT BF rfl (jJ (aZ bU (pv 0) aC Ig)) (g:=aHG K 3 (uS (cE 5) (uS (cE 6) (uS (cE 7) aHF)))) (jI rfl (cO (bJ (i:=5) nd rfl (Aw rfl)) (cO (bJ (i:=6) nd rfl (Aw rfl)) (cO (bJ (i:=7) nd rfl (Aw rfl)) gU))))
    (aG (iH (gE Bn DX DV oY (pv 4) (aB (dB (aB (pv 5) (aB (pv 6) (aB (bV lK (by rfl) U (by kernel_rfl) (aB (pv 7) aA)) aA)))) aA))))))) (aG (bM (aP cH (pv 1) aJ (aU _)) (aG (iH (gE Bn DX DV oY (pv 4) (aB (aX jM (bV dL (by rfl) ac (by kernel_rfl) (aB (aZ bU (pv 0) aC Ig) aA)) (dB (aB aJ (aB (aZ bU (pv 0) aC Ig) aA)))) aA)))) (aG (iH (gE Bn DX DV oY (pv 4) (aB (fV (N:=["thing"]) (src:=[none]) (osc:=aK lN) (oN:=["row","kind","name","day","words","land","house","acres"]) ⟨by rfl,by decide,by decide,by decide,rfl,by rfl⟩ (jJ (bY lJ (pv 0) (cA aC) cU)) (fun cl s H fp fe C=>⟨bJ (i:=0) (show(["thing"]:List Str).Nodup by decide) rfl (Aw rfl),fG,bV (r:=aH4) lK (by rfl) U (by kernel_rfl) (aB (pv 0) aA)⟩)) aA))))))))
   (aG (aN (pv 4)))))),?_⟩
  obtain⟨t,ys,rfl,et,ry⟩:=ok.open rd;refine⟨_,rfl,3,rfl,t,_,rfl,et,fun q H1 s1 e1=>?_⟩;have ec:eJ (V.str r.word :: .str r.name :: .int r.day :: ys) none (some 3)=[.str r.word,.str r.name,.int r.day]:=iV (α:=Nat) (V.str r.word :: .str r.name :: .int r.day :: ys) 3;rw[ec]at e1;refine⟨q,_,rfl,aS e1,rfl,_,_,rfl,_,_,rfl,_,_,rfl,rfl,?_⟩;have d0:=ok.d0;have d1:=ok.d1;refine⟨_,rfl,_,rfl,_,rfl,⟨_,_,rfl,.int r.day (lU d0 (by omega)),zZ3,fun L hL=>?_⟩⟩;have sL:=aH (o:=.lst [V.str r.word,.str r.name,.str (toString r.day)]) hL;have J:upd H1 L (.lst [V.str r.word,.str r.name,.str (toString r.day)]) L=some (.lst (([r.word,r.name,cV r.day]:List Str).map V.str)):=aD;generalize upd H1 L _=H2 at sL J ⊢;have s2:=s1.trans sL;have O:=s2 _ _ et;have G:=ry.same s2;dsimp only[cE];refine⟨fun σ' H'=>∃(o5 o6 o7:Option V),σ'=[some (.ref t),some (.str r.word),some (.str r.name),some (.int r.day),some (.ref L),o5,o6,o7]∧aT H H'∧H' L=some (.lst ((gA r).map V.str)),?_,?_⟩
  ·have W:H L=none:=aDt s1 hL;refine⟨_,rfl,rfl,_,rfl,c9 (fun g=>?_) fun g=>?_⟩
   ·have hw:r.word="part":=V.str.inj (Ie g);obtain⟨land,R,eds,hl,ha,h6⟩:=ok.rs.isPart hw;rw[eds]at G;obtain⟨y,z,rfl,ra,rb⟩:=rd2 G;have ey:=rdS ra;subst ey;obtain⟨b,zs,rfl,eb,rz⟩:=rdT rb;have ba:zs.length=R.length:=by rw[rz.len,Ac]
    refine⟨_,rfl,.inl ⟨rfl,_,aQ J⟩,_,rfl,t,_,3,_,rfl,rfl,aS O,bO (j:=3) rfl,L,_,.str land,rfl,rfl,J,AR (show 3 < 1000000 by decide) (aF (An _)),?_⟩;have eW:gA r=[r.word,r.name,cV r.day,land] ++ R.flatMap f8:=by
     unfold gA;rw[eds,hw,jT];rfl
    have kb:bK L H2 (upd H2 L (.lst (([r.word,r.name,cV r.day]:List Str).map V.str ++ [V.str land]))):=(bK.refl _ _).upd;refine⟨_,rfl,t,_,4,_,rfl,rfl,aS (oP kb J O),bO (j:=4) rfl,b,rfl,⟨_,aS (oP kb J eb)⟩,qL (K:=K) (xs:=zs) (fun i σ H'=>Ex3 fun(o5 o6 o7:Option V)=>Aw3 (σ=[some (.ref t),some (.str r.word),some (.str r.name),some (.int r.day),some (.ref L),o5,o6,o7]) (aT H H') (bK L H2 H'∧H' L=some (.lst (([r.word,r.name,cV r.day,land] ++ (R.take i).flatMap f8).map V.str)))) ⟨none,none,none,rfl,jD s2 W,kb,by rw[aD];rfl⟩ (fun i σ H' _ z=>by obtain⟨_,_,_,_,_,z,_⟩:=z;exact aS (oP z J eb)) ?_ ?_⟩
    ·rintro i v σ HI hv ⟨o5,o6,o7,rfl,sI,kI,eI⟩;obtain⟨x,q,hx,rfl,eq⟩:=aCd rz hv;obtain⟨_,_,a0,a1⟩:=qU ha (AN hx);have bw:=(AZ.mp hv).1;refine⟨q,_,rfl,aS (oP kI J eq),rfl,_,_,rfl,_,_,rfl,_,_,rfl,rfl,⟨_,rfl,.inl ⟨rfl,_,aQ eI⟩,_,rfl,_,rfl,_,rfl,⟨_,_,rfl,.int x.2.2 (lU (by omega) (by omega)),zZ3,fun M hM=>?_⟩⟩⟩;have sM:=aH (o:=.lst [V.str x.1,.str x.2.1,.str (toString x.2.2)]) hM;have Y:=iQ (R.take i);refine⟨L,M,_,_,rfl,rfl,sM _ _ eI,aD,aF (by rw[Ac,Av,Y,AC];show 4 + _ + 3≤_;omega),_,_,_,rfl,jD (sI.trans sM) W,fun c o e hc=>?_,?_⟩
     ·rw[bD hc];exact sM _ _ (kI c o e hc)
     ·have em:([r.word,r.name,cV r.day,land] ++ (R.take (i + 1)).flatMap f8).map V.str=([r.word,r.name,cV r.day,land] ++ (R.take i).flatMap f8).map V.str ++ [V.str x.1,.str x.2.1,.str (toString x.2.2)]:=by
       rw[A2,hx,List.flatMap_append,← CH,Ar];rfl
      rw[aD,em]
    ·rintro σ HI ⟨o5,o6,o7,rfl,sI,kI,eI⟩;refine⟨o5,o6,o7,rfl,sI,?_⟩;rw[eI,ba,Bc,← eW]
   ·have bc:r.word≠"part":=fun e=>g (by rw[e];rfl);refine⟨_,rfl,rfl,_,rfl,c9 (fun g2=>?_) fun g2=>?_⟩
    ·have hw:r.word="join":=V.str.inj (Ie g2);obtain⟨land,R,eds,hl,ha,h6⟩:=ok.rs.isJoin hw;rw[eds]at G;obtain⟨y,z,rfl,ra,rb⟩:=rd2 G;have ez:=rdS rb;subst ez;obtain⟨b,zs,rfl,eb,rz⟩:=rdT ra;have ax:=tY rz;subst ax;have eW:gA r=[r.word,r.name,cV r.day] ++ (R ++ [("as":Str),land]):=by
      unfold gA;rw[eds,hw,jU];rfl
     refine⟨_,rfl,.inl ⟨rfl,_,aQ J⟩,_,rfl,t,_,3,_,rfl,rfl,aS O,bO (j:=3) rfl,b,_,rfl,.inr (aS eb),fun l1 az=>?_⟩;have Z:=aH (o:=.lst (R.map V.str)) az;have ao:upd H2 l1 (.lst (R.map V.str)) l1=some (.lst (R.map V.str)):=aD;generalize upd H2 l1 _=H3 at Z ao ⊢;refine⟨_,rfl,t,_,4,_,rfl,rfl,aS (Z _ _ O),bO (j:=4) rfl,zZ2,fun l2 bd=>?_⟩;have ad:=aH (o:=.lst [V.str "as",.str land]) bd;have am:upd H3 l2 (.lst [V.str "as",.str land]) l2=some (.lst [V.str "as",.str land]):=aD;generalize upd H3 l2 _=H4 at ad am ⊢;refine⟨l1,l2,_,_,rfl,rfl,ad _ _ ao,am,aF (by rw[Ac];show _ + 2≤_;omega),fun l3 bb=>?_⟩;have aR:=aH (o:=.lst (R.map V.str ++ [V.str "as",.str land])) bb;have aj:=Z.trans (ad.trans aR);refine⟨L,l3,_,_,rfl,rfl,aj _ _ J,aD,aF (by rw[Av,Ac,Ac];show 3 + (_ + 2)≤_;omega),_,_,_,rfl,jD (s2.trans aj) W,?_⟩;rw[aD,eW,Ar,Ar];rfl
    ·have bf:r.word≠"join":=fun e=>g2 (by rw[e];rfl);obtain⟨Y,erw,h4⟩:=ok.rs.flat bc bf;have ay:=G.len;have eW:gA r=[r.word,r.name,cV r.day] ++ r.ds.map tS:=by
      unfold gA;rw[erw];rfl
     refine⟨_,rfl,.inl ⟨rfl,_,aQ J⟩,_,rfl,3,rfl,t,_,rfl,O,fun q H3 s3 e3=>?_⟩;have ec:eJ (V.str r.word :: .str r.name :: .int r.day :: ys) (some 3) none=ys:=sH (α:=Nat) (V.str r.word :: .str r.name :: .int r.day :: ys) 3;rw[ec]at e3;refine⟨q,rfl,⟨_,aS e3⟩,?_⟩;refine kM (K:=K) (xs:=ys) (fun i zs σ' H'=>∃(o:Option V),σ'=[o]∧H'=H3∧zs=((r.ds.take i).map tS).map V.str) ⟨none,rfl,rfl,rfl⟩ (aF (by omega)) (fun i zs σ H' p=>by obtain⟨_,_,_,rfl⟩:=p;rw[Ac,Ac,AC];omega) (fun i zs σ H' p=>by obtain⟨_,_,rfl,_⟩:=p;exact aS e3) ?_ ?_
     ·rintro i v zs σ' H' hv ⟨o,rfl,rfl,rfl⟩;obtain⟨d,hd,rv⟩:=(G.same s3).at hv;dsimp only[cE];refine bQ ?_;refine⟨_,rfl,⟨_,_,rfl,(Y d (AN hd)).fm rv,_,rfl,rfl,?_⟩⟩;rw[A2,hd,Ar,Ar];rfl
     rintro zs σ' H' ⟨o,rfl,rfl,rfl⟩ N hN;rw[ay,Bc];have sN:=aH (o:=.lst ((r.ds.map tS).map V.str)) hN;refine⟨L,N,_,_,rfl,rfl,(s3.trans sN) _ _ J,aD,aF (by rw[Ac,Ac,Ac];show 3 + _≤_;omega),_,_,_,rfl,jD (s2.trans (s3.trans sN)) W,?_⟩;rw[aD,eW,Ar]
  ·rintro σ' H' ⟨o5,o6,o7,rfl,s3,e3⟩;exact⟨_,rfl,k L H' s3 e3⟩
theorem vV:bB ["row"] ["row"] (aK tI):=⟨rfl,rfl,rfl,by decide,rfl,by decide,by decide⟩
theorem aBm{f:Af}{fd:Ax}(F:Fun K "row_text" "row_text" tI f fd)
  (W:Cl P w K mg base 1 "row_words" ["row"] tZ)
  :b8 P w K mg base CX0 2 f fd ["row"] jE:=by
 refine F.ok vV (fun vs H Q E h=>?_) (fun Y A outer s H vs Q E U h=>?_)
 ·obtain⟨x,r,fs,rfl,_⟩:=h;rfl
 ·obtain⟨x,r,fs,rfl,rd,ok,k⟩:=h;have nd:=vV.nd;have G:cJ 1 _:=U;refine⟨_,(aG (aN (gE Bj De Dd qM aJ (aB (aW W G (aB (pv 0) aA)) aA)))),rfl,_,rfl,x,r,fs,rfl,rd,ok,fun L H1 s1 J=>?_⟩;obtain⟨hw,hl⟩:=ok.words;have O:=xO fun z hz=>(hw z hz).len;have Z:(" ":Str).length=1:=by decide
  exact⟨" ",L,gA r,rfl,rfl,aQ J,by rw[Z];omega,k _ s1⟩
theorem _root_.L2.BlkOk.own{N:List Str}{src:List (Option Nat)}{scope osc:Cq}{oN:List Str}(h1:scope.kind=.function)(h2:∀ y∈scope.names,y.2≠.cell)(U:∀ y∈scope.names,y.2=.local→scope.names.lookup y.1=some .local)(Y:∀ y∈scope.names,y.2≠.free)(J:src.length=N.length)(O:aD2 N src scope oN=true):BlkOk N src scope osc oN:=
 ⟨h1,h2,U,fun y G W=>absurd W (Y y G),J,O⟩
inductive FmL:List V→List Str→Prop
 | nil:FmL [] []
 | cons {v:V} {z:Str} {vs:List V} {zs:List Str} (h:Fm v z) (r:FmL vs zs):FmL (v :: vs) (z :: zs)
theorem FmL.len{vs:List V}{zs:List Str}(h:FmL vs zs):vs.length=zs.length:=by
 induction h with
 | nil=>rfl
 | cons _ _ G=>rw[Ak,Ak,G]
theorem FmL.at{vs:List V}{zs:List Str}(h:FmL vs zs):∀{i:Nat}{v:V},vs[i]?=some v→∃ z,zs[i]?=some z∧Fm v z:=by
 induction h with
 | nil=>intro i v G;simp at G
 | cons h _ J=>
  intro i v G;cases i with
  | zero=>cases G;exact⟨_,rfl,h⟩
  | succ i=>exact J G
theorem FmL.app{vs ws:List V}{zs ys:List Str}(h:FmL vs zs)(g:FmL ws ys):FmL (vs ++ ws) (zs ++ ys):=by
 induction h with
 | nil=>exact g
 | cons h _ G=>exact .cons h G
theorem iR{z:Str}(h:bA z=true):Fm (.str z) z:=.str z (aF (by have:=(fH h).2;omega))
theorem aFc{i:Int}(G:0≤i)(h1:i≤1000000000):Fm (.int i) (cV i):=.int i (lU G h1)
theorem FmL.strs:∀{R:List Str},(∀ z∈R,bA z=true)→FmL (R.map V.str) R
 | [],_=>.nil
 | z :: R,h=>.cons (iR (h z AV)) (FmL.strs fun y G=>h y (AY _ G))
theorem FmL.flat{H:Hp}:∀{ys:List V}{ds:List Aj},c7 false H ys ds→(∀ d∈ds,iP d)→FmL ys (ds.map tS)
 | _,_,.nil,_=>.nil
 | _,_,.cons a r,h=>.cons ((h _ AV).fm a) (FmL.flat r fun d hd=>h d (AY _ hd))
theorem g8.Ok.three{r:g8}{fs:List Str}(h:r.Ok fs):FmL [.str r.word,.str r.name,.int r.day] [r.word,r.name,cV r.day]:=by
 have hw:bA r.word=true:=by
  have:∀ w∈cC,bA w=true:=by decide
  exact this _ h.rs.word
 have d1:=h.d1;exact .cons (iR hw) (.cons (iR h.nm) (.cons (aFc h.d0 (by omega)) .nil))
theorem t8:bB ["_law_row_here","_law_found","_law_part"] ["_law_row_here"] (aK lT):=⟨rfl,rfl,rfl,by decide,rfl,by decide,by decide⟩
theorem aAg{f:Af}{fd:Ax}(F:Fun K "_law_row_text" "_law_row_text" lT f fd)(ao:mg "str"=none)(G:mg "list"=none)
  :b8 P w K mg base CX0 1 f fd ["_law_row_here"] jE:=by
 refine F.ok t8 (fun vs H Q E h=>?_) (fun bI A outer s H vs Q E hr h=>?_)
 ·obtain⟨x,r,fs,rfl,_⟩:=h;rfl
 ·obtain⟨x,r,fs,rfl,rd,ok,k⟩:=h;have nd:=t8.nd;refine⟨_,(aE (aY (i:=1) nd rfl (Aw rfl) (bV dL (by rfl) G (by kernel_rfl) (aB (pv 0) aA)))
   (aE (fO (bM (aP cH (aZ bU (pv 0) aC Ig) aJ (aU _)) (aE (aY (i:=1) nd rfl (Aw rfl) (bV dL (by rfl) G (by kernel_rfl) (aB (bY lJ (pv 0) cU (cA aC)) aA)))
    (aG (iT BF rfl (jJ (aZ bU (pv 0) aC Ig)) (g:=cE 2) (bJ (i:=2) nd rfl (Aw rfl))
    (aG (aY (i:=1) nd rfl (Aw rfl) (aX jM (pv 1) (bV dL (by rfl) G (by kernel_rfl) (aB (pv 2) aA)))))))) aV))
   (aE (fO (bM (aP cH (aZ bU (pv 0) aC Ig) aJ (aU _)) (aG (aY (i:=1) nd rfl (Aw rfl) (aX jM (aX jM (bV dL (by rfl) G (by kernel_rfl) (aB (bY lJ (pv 0) cU (cA aC)) aA)) (bV dL (by rfl) G (by kernel_rfl) (aB (aZ bU (pv 0) aC Ig) aA))) (dB (aB aJ (aB (aZ bU (pv 0) aC Ig) aA)))))) aV))
   (aG (aN (gE Bj De Dd qM aJ (aB (fV (N:=["_law_word"]) (src:=[none]) (osc:=aK lT) (oN:=["_law_row_here","_law_found","_law_part"]) ⟨by rfl,by decide,by decide,by decide,rfl,by rfl⟩ (aBx (pv 1)) (fun cl s H fp fe C=>⟨bJ (i:=0) (show(["_law_word"]:List Str).Nodup by decide) rfl (Aw rfl),fG,bV (r:=aH4) lK (by rfl) ao (by kernel_rfl) (aB (pv 0) aA)⟩)) aA))))))),?_⟩
  obtain⟨t,ys,rfl,et,ry⟩:=ok.open rd;refine⟨_,rfl,t,_,rfl,.inr (aS et),fun L0 bd=>?_⟩;have s0:=aH (o:=.lst (V.str r.word :: .str r.name :: .int r.day :: ys)) bd;have e0:upd H L0 (.lst (V.str r.word :: .str r.name :: .int r.day :: ys)) L0=some (.lst (V.str r.word :: .str r.name :: .int r.day :: ys)):=aD;generalize upd H L0 _=H0 at s0 e0 ⊢;have aa:=s0 _ _ et;have Y:=ry.same s0;have h3:=ok.three;refine⟨fun U H'=>∃(L:Af) (vs:List V) (o:Option V),U=[some (.ref t),some (.ref L),o]∧aT H H'∧H' L=some (.lst vs)∧(r.word≠"join"→FmL vs (gA r)),?_,?_⟩
  ·refine⟨_,rfl,t,_,0,_,rfl,rfl,aS aa,bO (j:=0) rfl,rfl,_,rfl,c9 (fun g=>?_) fun g=>?_⟩
   ·have hw:r.word="part":=V.str.inj (Ie g);obtain⟨land,R,eds,hl,ha,h6⟩:=ok.rs.isPart hw;rw[eds]at Y;obtain⟨y,z,rfl,ra,rb⟩:=rd2 Y;have ey:=rdS ra;subst ey;obtain⟨b,zs,rfl,eb,rz⟩:=rdT rb;have bg:zs.length=R.length:=by rw[rz.len,Ac]
    refine⟨_,rfl,4,rfl,t,_,rfl,aa,fun q H1 s1 e1=>?_⟩;have ec:eJ [V.str r.word,.str r.name,.int r.day,.str land,.ref b] none (some 4)=[.str r.word,.str r.name,.int r.day,.str land]:=iV (α:=Nat) [V.str r.word,.str r.name,.int r.day,.str land,.ref b] 4;rw[ec]at e1;refine⟨q,_,rfl,.inr (aS e1),fun L hL=>?_⟩;have sL:=aH (o:=.lst [V.str r.word,.str r.name,.int r.day,.str land]) hL;have eL:upd H1 L (.lst [V.str r.word,.str r.name,.int r.day,.str land]) L=some (.lst [V.str r.word,.str r.name,.int r.day,.str land]):=aD;generalize upd H1 L _=H2 at sL eL ⊢;have O:=s1.trans sL;have eW:gA r=[r.word,r.name,cV r.day,land] ++ R.flatMap f8:=by
     unfold gA;rw[eds,hw,jT];rfl
    have f4:FmL [V.str r.word,.str r.name,.int r.day,.str land] [r.word,r.name,cV r.day,land]:=h3.app (.cons (iR hl) .nil);dsimp only[cE];refine⟨_,rfl,t,_,4,_,rfl,rfl,aS (O _ _ aa),bO (j:=4) rfl,b,rfl,⟨_,aS (O _ _ eb)⟩,qL (K:=K) (xs:=zs) (fun i σ H'=>Ex3 fun(L:Af) (vs:List V) (o:Option V)=>Aw3 (σ=[some (.ref t),some (.ref L),o]) (aT H2 H') (H' L=some (.lst vs)∧FmL vs ([r.word,r.name,cV r.day,land] ++ (R.take i).flatMap f8))) ⟨L,_,_,rfl,aT.refl _,eL,by rw[List.take_zero];exact f4⟩ (fun i σ H' _ z=>by obtain⟨_,_,_,_,z,_⟩:=z;exact aS (z _ _ (O _ _ eb))) ?_ ?_⟩
    ·rintro i v σ HI hv ⟨L',vs,o,rfl,sI,eI,fI⟩;obtain⟨x,q',hx,rfl,eq⟩:=aCd rz hv;obtain⟨p1,p2,a0,a1⟩:=qU ha (AN hx);have b3:=(AZ.mp hv).1;have W:=fI.len;rw[Av,iQ,AC]at W;have bw:vs.length=4 + 3 * min i R.length:=W;dsimp only[cE];refine⟨_,rfl,_,rfl,q',_,rfl,.inr (aS (sI _ _ (O _ _ eq))),fun M hM=>?_⟩;have sM:=aH (o:=.lst [V.str x.1,.str x.2.1,.int x.2.2]) hM;refine⟨L',M,_,_,rfl,rfl,sM _ _ eI,aD,aF (by show vs.length + 3≤_;omega),fun N hN=>?_⟩;have sN:=aH (o:=.lst (vs ++ [V.str x.1,.str x.2.1,.int x.2.2])) hN;refine⟨N,_,_,rfl,sI.trans (sM.trans sN),aD,?_⟩;rw[A2,hx,List.flatMap_append,← CH];exact fI.app (.cons (iR p1) (.cons (iR p2) (.cons (aFc (by omega) (by omega)) .nil)))
    ·rintro σ HI ⟨L',vs,o,rfl,sI,eI,fI⟩;rw[bg,Bc,← eW]at fI;exact⟨L',vs,o,rfl,s0.trans (O.trans sI),eI,fun _=>fI⟩
   ·have bj:r.word≠"part":=fun e=>g (by rw[e];rfl);refine⟨L0,_,_,rfl,s0,e0,fun bo=>?_⟩;obtain⟨hfl,erw,h4⟩:=ok.rs.flat bj bo;have eW:gA r=[r.word,r.name,cV r.day] ++ r.ds.map tS:=by
     unfold gA;rw[erw];rfl
    rw[eW];exact h3.app (FmL.flat Y hfl)
  rintro U H1 ⟨L1,bc,o1,rfl,s1,e1,f1⟩;have J:=s1 _ _ et;have aj:=ry.same s1;refine⟨fun U H'=>∃(L:Af) (vs:List V) (o:Option V),U=[some (.ref t),some (.ref L),o]∧aT H H'∧H' L=some (.lst vs)∧FmL vs (gA r),?_,?_⟩
  ·refine⟨_,rfl,t,_,0,_,rfl,rfl,aS J,bO (j:=0) rfl,rfl,_,rfl,c9 (fun g=>?_) fun g=>?_⟩
   ·have hw:r.word="join":=V.str.inj (Ie g);obtain⟨land,R,eds,hl,ha,h6⟩:=ok.rs.isJoin hw;rw[eds]at aj;obtain⟨y,z,rfl,ra,rb⟩:=rd2 aj;have ez:=rdS rb;subst ez;obtain⟨b,zs,rfl,eb,rz⟩:=rdT ra;have aI:=tY rz;subst aI;have eW:gA r=[r.word,r.name,cV r.day] ++ R ++ [("as":Str),land]:=by
     unfold gA;rw[eds,hw,jU,CH];rfl
    refine⟨_,rfl,3,rfl,t,_,rfl,J,fun q H2 O e2=>?_⟩;have ec:eJ [V.str r.word,.str r.name,.int r.day,.ref b,.str land] none (some 3)=[.str r.word,.str r.name,.int r.day]:=iV (α:=Nat) [V.str r.word,.str r.name,.int r.day,.ref b,.str land] 3;rw[ec]at e2;refine⟨q,_,rfl,.inr (aS e2),fun L2 ba=>?_⟩;have ah:=aH (o:=.lst [V.str r.word,.str r.name,.int r.day]) ba;have ap:upd H2 L2 (.lst [V.str r.word,.str r.name,.int r.day]) L2=some (.lst [V.str r.word,.str r.name,.int r.day]):=aD;generalize upd H2 L2 _=H3 at ah ap ⊢;have s3:=O.trans ah;refine⟨_,rfl,t,_,3,_,rfl,rfl,aS (s3 _ _ J),bO (j:=3) rfl,b,_,rfl,.inr (aS (s3 _ _ eb)),fun L3 bb=>?_⟩;have Z:=aH (o:=.lst (R.map V.str)) bb;have af:upd H3 L3 (.lst (R.map V.str)) L3=some (.lst (R.map V.str)):=aD;generalize upd H3 L3 _=H4 at Z af ⊢;refine⟨L2,L3,_,_,rfl,rfl,Z _ _ ap,af,aF (by rw[Ac];show 3 + _≤_;omega),fun L4 bn=>?_⟩;have ae:=aH (o:=.lst ([V.str r.word,.str r.name,.int r.day] ++ R.map V.str)) bn;have ai:upd H4 L4 (.lst ([V.str r.word,.str r.name,.int r.day] ++ R.map V.str)) L4=some (.lst ([V.str r.word,.str r.name,.int r.day] ++ R.map V.str)):=aD;generalize upd H4 L4 _=H5 at ae ai ⊢;have s5:=s3.trans (Z.trans ae);refine⟨_,rfl,t,_,4,_,rfl,rfl,aS (s5 _ _ J),bO (j:=4) rfl,zZ2,fun L5 az=>?_⟩;have am:=aH (o:=.lst [V.str "as",.str land]) az;refine⟨L4,L5,_,_,rfl,rfl,am _ _ ai,aD,aF (by rw[Av,Ac];show 3 + _ + 2≤_;omega),fun L6 bh=>?_⟩;have ax:=aH (o:=.lst ([V.str r.word,.str r.name,.int r.day] ++ R.map V.str ++ [V.str "as",.str land])) bh;refine⟨L6,_,_,rfl,s1.trans (s5.trans (am.trans ax)),aD,?_⟩
    rw[eW];exact(h3.app (FmL.strs ha)).app (.cons (iR (by decide)) (.cons (iR hl) .nil))
   ·exact⟨L1,bc,o1,rfl,s1,e1,f1 fun e=>g (by rw[e];rfl)⟩
  rintro U H2 ⟨L2,ay,o2,rfl,O,e2,f2⟩;obtain⟨hw,hwl⟩:=ok.words;have W:=f2.len;refine⟨rfl,_,rfl,L2,rfl,⟨_,aQ e2⟩,?_⟩;refine vG (K:=K) (xs:=ay) (fun i zs U H'=>∃(o:Option V),U=[o]∧H'=H2∧zs=((gA r).take i).map V.str) ⟨none,rfl,rfl,rfl⟩ (aF (by omega)) (fun i zs σ H' p=>by obtain⟨_,_,_,rfl⟩:=p;rw[Ac,AC];omega) (fun i zs σ H' p=>by obtain⟨_,_,rfl,_⟩:=p;exact aQ e2) ?_ ?_
  ·rintro i v zs U H' hv ⟨o,rfl,rfl,rfl⟩;obtain⟨z,hz,fz⟩:=f2.at hv;dsimp only[cE];refine bQ ?_;refine⟨_,rfl,⟨_,_,rfl,fz,_,rfl,rfl,?_⟩⟩;rw[A2,hz,Ar];rfl
  rintro zs U H' ⟨o,rfl,rfl,rfl⟩ N hN;rw[W,Bc];have sN:=aH (o:=.lst ((gA r).map V.str)) hN;have bx:=xO fun z hz=>(hw z hz).len;have e1:(" ":Str).length=1:=by decide
  exact⟨" ",N,gA r,rfl,rfl,aQ aD,by rw[e1];omega,k _ (O.trans sN)⟩
def gB(c:Nat):Bool:=decide (48≤c) && decide (c≤57)
def val(cs:List Nat):Nat:=cs.foldl (fun a c=>10 * a + (c - 48)) 0
theorem t9(G:List Nat)(d:Nat):val (G ++ [d])=10 * val G + (d - 48):=by
 unfold val;rw[List.foldl_append];rfl
theorem aCf:∀(r:List Nat) (a:Nat),0 < a→0 < r.foldl (fun a c=>10 * a + (c - 48)) a
 | [],a,h=>h
 | c :: r,a,h=>aCf r (10 * a + (c - 48)) (by omega)
theorem aCg{α:Type}{p:List α→Prop}(J:p [])(h1:∀ l x,p l→p (l ++ [x]))(l:List α):p l:=by
 have key:∀ r:List α,p r.reverse:=fun r=>by
  induction r with
  | nil=>exact J
  | cons x r G=>rw[E1];exact h1 _ _ G
 have:=key l.reverse
 rwa [Ey]at this
theorem aIv(G:List Nat)(h:∀ c∈G,gB c=true):val G < 10 ^ G.length:=by
 revert h;refine aCg (p:=fun G=>(∀ c∈G,gB c=true)→val G < 10 ^ G.length) (fun _=>by decide) (fun G d J h=>?_) G
 ·have hd:=h d (by simp);unfold gB at hd;simp only[Ay,decide_eq_true_eq]at hd;have:=J fun c hc=>h c (by simp[hc]);rw[t9,Av,List.length_singleton,FQ];omega
theorem lV:∀ d:Nat,d < 10→(By 10 d).map Cj=[d + 48]:=by decide
theorem aBn(G:List Nat)(h:∀ c∈G,gB c=true)(hn:G≠[])(J:G.head?≠some 48∨G=[48]):(By 10 (val G)).map Cj=G:=by
 revert h hn J;refine aCg (p:=fun G=>(∀ c∈G,gB c=true)→G≠[]→(G.head?≠some 48∨G=[48])→(By 10 (val G)).map Cj=G) (fun _ hn _=>absurd rfl hn) (fun G d W h hn J=>?_) G
 ·have hd:=h d (by simp);unfold gB at hd;simp only[Ay,decide_eq_true_eq]at hd;rw[t9];cases G with
  | nil=>
   show(By 10 (10 * 0 + (d - 48))).map Cj=[d]
   rw[Nat.mul_zero,Nat.zero_add,lV _ (by omega)];congr 1;omega
  | cons c r=>
   have hc:=h c (by simp);unfold gB at hc;simp only[Ay,decide_eq_true_eq]at hc;have O:c≠48:=by
    rcases J with J | J
    ·exact fun e=>J (by rw[e];rfl)
    ·exact absurd (congrArg C8 J) (by simp)
   have U:0 < val (c :: r):=aCf r _ (by show 0 < 10 * 0 + (c - 48);omega);have t:=DJ (b:=10) (n:=val (c :: r)) (d:=d - 48) (by decide) U (by omega);rw[← t,Ar,W (fun x Y=>h x (BV _ Y)) (by simp) (.inl (by show some c≠_;exact fun e=>O (BD.inj e))),lV _ (by omega)];congr 2;omega
def jF(z:Str):Bool:=(decide (1≤z.length) && decide (z.length≤60)) && (z.cps.toList.all gB && !(decide (z.cps.toList.head?=some 48) && decide (z≠"0")))
def xP(z:Str):Nat:=val z.cps.toList
theorem jG:("0":Str).cps.toList=[48]:=by decide
theorem aCh{z:Str}(h:jF z=true):cV ((xP z:Nat):Int)=z∧xP z < 10 ^ 60:=by
 unfold jF at h;simp only[Ay,decide_eq_true_eq,E5,Bool.and_eq_false_iff,decide_eq_false_iff_not]at h;obtain⟨⟨h1,h2⟩,h3,G⟩:=h;have J:z.cps.toList.length=z.length:=AS;have hd:∀ c∈z.cps.toList,gB c=true:=AX.mp h3;refine⟨dX ?_,?_⟩
 ·show(A4 (toString ((xP z:Nat):Int))).cps.toList=_;rw[B2];refine aBn _ hd (fun e=>by rw[e]at J;simp at J;omega) ?_;rcases G with G | G
  ·exact .inl G
  ·refine .inr ?_;rw[Classical.not_not.mp G,jG]
 ·have:=aIv _ hd;rw[J]at this;exact AR this (Nat.pow_le_pow_right (by decide) h2)
def mX(z:Str):V:=if jF z=true then .int (xP z:Nat) else .non
inductive xQ(vs:List V)(H:Hp)(Q:VK)(E:XK):Prop
 | mk (z:Str) (h0:vs=[.str z]) (hz:z.length≤100000) (q:∀ H',aT H H'→Q (mX z) H'):xQ vs H Q E
def aAh:Sp:=fun vs H Q E=>xQ vs H Q E
def aCi:Sp:=fun vs H Q E=>xQ vs H Q E
theorem aGT(c:Nat):decide (c∈(A4 "0123456789").cps.toList)=gB c:=by
 have e:(A4 "0123456789").cps.toList=BQ 48 10:=by decide
 unfold gB;rw[e,← Bool.decide_and,decide_eq_decide,List.mem_range'_1];omega
theorem aFd{p:Nat→Bool}(G:List Nat):((G.filter fun c=>!p c).map fun c=>V.str ⟨#[c]⟩)=[]↔G.all p=true:=by
 rw[EL,List.filter_eq_nil_iff,AX];exact⟨fun h c hc=>by simpa using h c hc,fun h c hc=>by simpa using h c hc⟩
theorem aFe{K:Ae}{H H':Hp}{a:Af}{xs:List V}(h:SqT K H a xs)(s:aT H H'):SqT K H' a xs:=by
 rcases h with(h | ⟨o,h⟩) | h
 ·exact .inl (.inl (s _ _ h))
 ·exact .inl (.inr ⟨o,s _ _ h⟩)
 ·exact .inr h
theorem aAi(i:Int):∀ ns:List Int,inV (.int i) (ns.map V.int)=decide (i∈ns):=by
 intro ns;unfold inV;rw[List.any_map];rw[Bv,Ds,decide_eq_true_iff];constructor
 ·rintro⟨y,hy,e⟩;have:y=i:=by simpa[eqV]using e
  exact this ▸ hy
 ·intro h;exact⟨i,h,by simp[eqV]⟩
theorem i8(ns:List Int):(ns.map V.int).all gD=true:=by
 rw[AX];intro v G;obtain⟨n,_,rfl⟩:=BO.mp G;rfl
def dQ(z:Str):Aj:=if jF z=true then .int (xP z:Nat) else .none
def dV:Aj→V | .str z=>.str z | .int i=>.int i | _=>.non
theorem mY(z:Str):dV (dQ z)=mX z:=by
 unfold dQ mX;split <;> rfl
def wd(ps:List Int)(ws:List Str):List Aj:=ws.mapIdx fun i z=>if (i:Int)∈ps then dQ z else .str z
theorem jW(ps:List Int)(ws:List Str):(wd ps ws).length=ws.length:=by unfold wd;rw[List.length_mapIdx]
theorem aFf{ps:List Int}{ws:List Str}{i:Nat}{z:Str}(h:ws[i]?=some z):(wd ps ws)[i]?=some (if (i:Int)∈ps then dQ z else .str z):=by
 unfold wd;rw[List.getElem?_mapIdx,h];rfl
theorem xR{H:Hp}(z:Str):RdV false H (dV (dQ z)) (dQ z):=by
 unfold dQ;split
 ·exact .int _
 ·exact .non
theorem aFg{H:Hp}:∀{ds:List Aj},(∀ d∈ds,RdV false H (dV d) d)→c7 false H (ds.map dV) ds
 | [],_=>.nil
 | d :: ds,h=>.cons (h d AV) (aFg fun e G=>h e (AY _ G))
theorem aAj{H:Hp}{ps:List Int}{ws:List Str}(h:∀ z∈ws,z.length≤1000):c7 false H ((wd ps ws).map dV) (wd ps ws):=aFg fun d hd=>by
 obtain⟨i,hi⟩:=EB hd;have G:i < ws.length:=by rw[← jW ps];exact(AZ.mp hi).1
 have hw:ws[i]?=some ws[i]:=Ai G;rw[aFf hw]at hi;rw[← BD.inj hi];split
 ·exact xR _
 ·exact .str _ (h _ (BR G))
inductive aFh(K:Ae)(vs:List V)(H:Hp)(Q:VK)(E:XK):Prop
 | mk (L p:Af) (ws:List Str) (ps:List Int) (h0:vs=[.ref L,.ref p]) (eL:H L=some (.lst (ws.map V.str))) (eP:SqT K H p (ps.map V.int)) (hl:ws.length≤60) (hz:∀ z∈ws,z.length≤1000) (q:∀(t:Af) (H':Hp),aT H H'→H' t=some (.tup ((wd ps ws).map dV))→Q (.ref t) H'):aFh K vs H Q E
def oR(K:Ae):Sp:=fun vs H Q E=>aFh K vs H Q E
theorem aGU:bB ["word"] ["word"] (aK lS):=⟨rfl,rfl,rfl,by decide,rfl,by decide,by decide⟩
theorem aDu{f:Af}{fd:Ax}(F:Fun K "number_of" "number_of" lS f fd)(T:Txt K mg)(U:∃ t,mg "MOST_FIGURES"=some (.int 60 t)):b8 P w K mg base CX0 1 f fd ["word"] aAh:=by
 refine F.ok aGU (fun vs H Q E h=>?_) (fun ar A outer s H vs Q E hr h=>?_)
 ·obtain⟨z,rfl,_⟩:=h;rfl
 ·obtain⟨z,rfl,hz,k⟩:=h;obtain⟨tl,hfig⟩:=U;refine⟨_,aE (bM (PW.pt (dU (cS (nF iJ iJ aC (aM dJ (by rfl) T.len Aq (fF (pv 0) aA)) (bZ (v:=.int 60) (by rfl) hfig ⟨_,rfl⟩)))
    (dP (cS (cN (aM (nS rfl) (by rfl) T.al (by kernel_rfl) (fF (fV (N:=["sign"]) (src:=[none]) (osc:=aK lS) (oN:=["word"]) ⟨by rfl,by decide,by decide,by decide,rfl,by rfl⟩ (wJ (pv 0))
     fun cl s H fp fe C=>⟨bJ (i:=0) (show(["sign"]:List Str).Nodup by decide) rfl (Aw rfl),fG,kF lF lF aJ (pv 0) aJ⟩) aA))))))) (aG (aN fM)) aV)
   (aE (bM (PW.pt (gO (aP cH (aZ mQ (pv 0) aC Ig) aJ (aU _)) (gT (aP kD (pv 0) aJ (aU _))))) (aG (aN fM)) aV)
   (aG (aN (bV vK (by rfl) T.int (by kernel_rfl) (aB (pv 0) aA))))),?_⟩
  have W:z.cps.toList.length=z.length:=AS;have G:jF z=false→∀ H',aT H H'→Q .non H':=fun e H' s=>by
   have:=k H' s;unfold mX at this;rw[e]at this;exact this
  refine⟨_,rfl,_,rfl,aF (by omega),_,_,rfl,rfl,_,rfl,?_⟩;by_cases l1:1≤z.length
  case neg=>
   rw[decide_eq_false (show¬ ((1:Int)≤(z.length:Int)) by omega)];refine bG ?_;refine⟨_,rfl,bQ (bQ ?_)⟩;exact G (by unfold jF;rw[decide_eq_false l1];rfl) H (aT.refl H)
  rw[Ic (show(1:Int)≤(z.length:Int) by omega)];refine bQ ?_;refine⟨_,_,rfl,rfl,_,rfl,?_⟩;by_cases l2:z.length≤60
  case neg=>
   rw[decide_eq_false (show¬ ((z.length:Int)≤60) by omega)];refine bQ (bQ ?_);exact G (by unfold jF;rw[decide_eq_false l2,AI];rfl) H (aT.refl H)
  rw[Ic (show(z.length:Int)≤60 by omega)];refine bG ?_;refine⟨_,rfl,z,rfl,?_⟩;refine nV (fun i ys σ H'=>H'=H∧ys=((z.cps.toList.take i).map gB).map V.bl∧σ.length=1) ⟨rfl,rfl,rfl⟩ (aF (show z.length≤1000000 by omega)) (fun i ys σ H' p=>by rw[p.2.1,Ac,Ac,AC];omega) ?_ ?_
  ·rintro i c ys σ H' hc ⟨rfl,rfl,hσ⟩;obtain⟨o,rfl⟩:∃ o,σ=[o]:=by
    match σ,hσ with
    | [o],_=>exact⟨o,rfl⟩
   dsimp only[cE];refine bQ ?_;have Y:z.cps.toList[i]?=some c:=by simpa using hc
   refine⟨_,rfl,_,_,rfl,rfl,_,rfl,?_⟩;have e1:(!decide ((⟨#[c]⟩:Str).cps.toList < ("0":Str).cps.toList))=decide (48≤c):=xG 48 c;have e2:(!decide (("9":Str).cps.toList < (⟨#[c]⟩:Str).cps.toList))=decide (c≤57):=xG c 57;rw[e1];by_cases g1:48≤c
   ·rw[Ic g1];refine bQ ?_;refine⟨_,_,rfl,rfl,?_⟩;rw[e2];refine⟨rfl,?_,rfl⟩;rw[A2,Y,Ar,Ar];show _=_ ++ [V.bl (decide (48≤c) && decide (c≤57))]
    rw[Ic g1,AE]
   ·rw[decide_eq_false g1];refine bG ?_;refine⟨rfl,?_,rfl⟩;rw[A2,Y,Ar,Ar];show _=_ ++ [V.bl (decide (48≤c) && decide (c≤57))]
    rw[decide_eq_false g1,Bg]
  rintro ys σ H' ⟨rfl,rfl,hσ⟩ D hD;have ad:Dq z.cps.size z.cps.toList=z.cps.toList:=by rw[← AS];exact Bc
  rw[ad];have sD:=aH (o:=.lst ((z.cps.toList.map gB).map V.bl)) hD;refine⟨D,z.cps.toList.map gB,rfl,aQ aD,_,rfl,?_⟩;rw[show(z.cps.toList.map gB).all id=z.cps.toList.all gB by rw[Dk];rfl];cases ed:z.cps.toList.all gB with
  | false=>
   refine bQ ?_;exact G (by unfold jF;rw[ed,Bg,AI]) _ sD
  | true=>
  refine bG ?_;obtain⟨J,r0,ec⟩:∃ J r0,z.cps.toList=J :: r0:=by
   cases h:z.cps.toList with
   | nil=>rw[h]at W;simp at W;omega
   | cons a b=>exact⟨a,b,rfl⟩
  have eh:atI z.cps.toList 0=some J:=bO (j:=0) (by rw[ec];rfl);refine⟨_,rfl,z,0,J,rfl,rfl,aF (by omega),eh,rfl,_,rfl,?_⟩;have ef:jF z=!(decide (J=48) && decide (z≠"0")):=by
   unfold jF;rw[Ic l1,Ic l2,ed,ec,AE,AE,AE];congr 2;rw[decide_eq_decide];exact⟨fun h=>by injection h,fun h=>by rw[h];rfl⟩
  have af:decide (V.str ⟨#[J]⟩=V.str "0")=decide (J=48):=by
   rw[decide_eq_decide];constructor
   ·intro h;injection h with h;have:(⟨#[J]⟩:Str).cps.toList=("0":Str).cps.toList:=by rw[h]
    rw[jG]at this;injection this
   ·intro h;rw[h];congr 1
  rw[af];have O:jF z=true→aFV (tCB aH5 (aBD (aAD 0) aF8)) { nx:=fun _ H'=>Q V.non H',rt:=Q } (L2.start ["word"] [V.str z]) (upd H' D (.lst ((z.cps.toList.map gB).map V.bl))):=fun e=>by
   obtain⟨en,e6⟩:=aCh e;have kk:=k _ sD;unfold mX at kk;rw[Ib e]at kk;exact⟨_,rfl,cV ((xP z:Nat):Int),xP z,by rw[en],sX e6 (by decide) (by decide),by rw[en];omega,kk⟩
  by_cases g0:J=48
  ·rw[Ic g0];refine bQ ?_;refine⟨_,rfl,rfl,_,rfl,?_⟩;by_cases Z:z="0"
   ·rw[Ic (show V.str z=V.str "0" by rw[Z])];refine bG ?_;exact O (by rw[ef,decide_eq_false (show¬ z≠"0" from fun h=>h Z),AI];rfl)
   ·rw[decide_eq_false (show¬ V.str z=V.str "0" from fun h=>by injection h with h;exact Z h)];refine bQ ?_;exact G (by rw[ef,Ic g0,Ic Z];rfl) _ sD
  ·rw[decide_eq_false g0]
   iterate 2 refine bG ?_
   exact O (by rw[ef,decide_eq_false g0];rfl)
theorem uB:bB ["_law_word"] ["_law_word"] (aK w6):=⟨rfl,rfl,rfl,by decide,rfl,by decide,by decide⟩
theorem aAk{f:Af}{fd:Ax}(F:Fun K "_law_number_in" "_law_number_in" w6 f fd)(U:mg "len"=none)(Z:mg "int"=none)
  :b8 P w K mg base CX0 1 f fd ["_law_word"] aCi:=by
 refine F.ok uB (fun vs H Q E h=>?_) (fun az A outer s H vs Q E hr h=>?_)
 ·obtain⟨z,rfl,_⟩:=h;rfl
 ·obtain⟨z,rfl,hz,k⟩:=h;have hu:_ < _:=hr.units0;have nd:=uB.nd;refine⟨_,(aE (bM (PW.pt (dU (aP cH (pv 0) aJ (aU _)) (dU (aP nC (aM dJ (by rfl) U Aq (aB (pv 0) aA)) aC (aU _)) (dP (PW.pt (gO (aP nC (aM dJ (by rfl) U Aq (aB (pv 0) aA)) aC (aU _)) (gT (aP cH (aZ mQ (pv 0) aC Ig) aJ (aU _))))))))) (aG (aN fM)) aV)
   (aE (bM (aP (aEx hu) (fV (N:=["_law_sign"]) (src:=[none]) (osc:=aK w6) (oN:=["_law_word"]) ⟨by rfl,by decide,by decide,by decide,rfl,by rfl⟩ (wJ (pv 0)) (fun cl s H fp fe C=>⟨bJ (i:=0) (show(["_law_sign"]:List Str).Nodup by decide) rfl (Aw rfl),aBL (aP v9 (pv 0) aJ (by with_unfolding_all rfl)),pv 0⟩)) (dB aA) (aU _)) (aG (aN fM)) aV)
   (aG (aN (bV vK (by rfl) Z (by kernel_rfl) (aB (pv 0) aA)))))),?_⟩
  have zz:z.length≤sizeLine:=aF (by omega);have G:z.cps.toList.length=z.length:=AS;have O:jF z=false→∀ H',aT H H'→Q .non H':=fun e H' s=>by
   have:=k H' s;unfold mX at this;rw[e]at this;exact this
  refine⟨_,rfl,rfl,_,rfl,?_⟩;by_cases l0:z=""
  ·rw[Ic (show V.str z=V.str "" by rw[l0])];refine bQ ?_;exact O (by rw[l0];decide) H (aT.refl H)
  have l1:1≤z.length:=by
   rcases Nat.lt_or_ge 0 z.length with h | h
   ·exact h
   ·refine absurd (dX ?_) l0;show z.cps.toList=("":Str).cps.toList;rw[BG (by omega:z.cps.toList.length=0)];decide
  obtain⟨J,Y,ec⟩:∃ J Y,z.cps.toList=J :: Y:=by
   cases h:z.cps.toList with
   | nil=>rw[h]at G;simp at G;omega
   | cons a b=>exact⟨a,b,rfl⟩
  have eh:atI z.cps.toList 0=some J:=bO (j:=0) (by rw[ec];rfl);have ag:(1 < z.length)↔(J=48→z≠"0")∧¬ (J≠48∧Y=[])∧(J≠48→1 < z.length):=by
   rw[ec]at G;simp only[Ak]at G;constructor
   ·intro h;refine⟨fun _ e=>?_,fun⟨_,e⟩=>?_,fun _=>h⟩
    ·rw[e]at h;revert h;decide
    ·rw[e]at G;simp at G;omega
   ·rintro⟨h1,_,h3⟩;by_cases g:J=48
    ·refine Nat.lt_of_not_le fun aw=>h1 g (dX ?_);rw[ec,jG,g,BG (by omega:Y.length=0)]
    ·exact h3 g
  rw[decide_eq_false (show¬ V.str z=V.str "" from fun h=>by injection h with h;exact l0 h)];refine bG ?_;refine⟨_,rfl,z,rfl,zz,_,_,rfl,rfl,_,rfl,?_⟩;by_cases l2:z.length≤60
  case neg=>
   rw[Ic (show(60:Int) < (z.length:Int) by omega)];refine bQ ?_;exact O (by unfold jF;rw[decide_eq_false l2,AI];rfl) H (aT.refl H)
  rw[decide_eq_false (show¬ ((60:Int) < (z.length:Int)) by omega)];refine bG ?_;have ef:jF z=(z.cps.toList.all gB && !(decide (J=48) && decide (z≠"0"))):=by
   unfold jF;rw[Ic l1,Ic l2,ec,AE,AE];congr 3;rw[decide_eq_decide];exact⟨fun h=>by injection h,fun h=>by rw[h];rfl⟩
  have aj:decide (V.str ⟨#[J]⟩=V.str "0")=decide (J=48):=by
   rw[decide_eq_decide];constructor
   ·intro h;injection h with h;have:(⟨#[J]⟩:Str).cps.toList=("0":Str).cps.toList:=by rw[h]
    rw[jG]at this;injection this
   ·intro h;rw[h];congr 1
  have bF:(J=48→z="0")→aIN (aIP (aBC (tOp (sZ K) (aD4 [none] (aJa (aAD 0)) (cE 0) (aBC (tOp kE (aAD 0) (tC (V.str "0123456789")))) (aAD 0)) (aIZ aF8))) (aFV (tC V.non)) aG8) (aFV (tCB aH5 (aBD (aAD 0) aF8))) { nx:=fun _ H'=>Q V.non H',rt:=Q } (L2.start ["_law_word"] [V.str z]) H:=fun ai=>by
   have af:jF z=z.cps.toList.all gB:=by
    rw[ef];by_cases g:J=48
    ·rw[decide_eq_false (show¬ z≠"0" from fun h=>h (ai g)),AI];exact EV _
    ·rw[decide_eq_false g,Bg];exact EV _
   refine⟨_,rfl,z,rfl,?_⟩;refine nV (fun i ys σ H'=>H'=H∧ys=(((z.cps.toList.take i).filter fun c=>!gB c).map fun c=>V.str ⟨#[c]⟩)∧∃ o,σ=[o]) ⟨rfl,rfl,none,rfl⟩ zz (fun i ys σ H' p=>by rw[p.2.1,Ac];exact AM (List.length_filter_le _ _) (by rw[AC];omega)) ?_ ?_
   ·rintro i c ys σ H' hc ⟨rfl,rfl,o,rfl⟩;have W:z.cps.toList[i]?=some c:=by simpa using hc
    dsimp only[cE];refine⟨_,rfl,_,_,rfl,rfl,_,rfl,?_⟩;rw[PySem.StrLaws.found_one,aGT];refine c9 (fun h2=>?_) (fun h2=>?_)
    ·refine⟨_,rfl,rfl,?_,_,rfl⟩;rw[A2,W,DT,Ar];have:(!gB c)=true:=h2;simp[this]
    ·refine⟨rfl,?_,_,rfl⟩;rw[A2,W,DT,Ar];have:(!gB c)=false:=by simpa using h2
     simp[this]
   ·rintro ys σ H' ⟨rfl,rfl,o,rfl⟩ D hD;have ad:Dq z.cps.size z.cps.toList=z.cps.toList:=by rw[← AS];exact Bc
    rw[ad];refine⟨Bs _,fun D2 ah=>?_⟩;have S1:=aH (o:=.lst ((z.cps.toList.filter fun c=>!gB c).map fun c=>V.str ⟨#[c]⟩)) hD;have S2:=aH (o:=.lst []) ah;refine⟨D,D2,_,rfl,rfl,aQ (S2 _ _ aD),aQ aD,_,rfl,?_⟩;have e:decide (0 < ((z.cps.toList.filter fun c=>!gB c).map fun c=>V.str ⟨#[c]⟩).length)=!jF z:=by
     rw[af,Bv,decide_eq_true_iff,List.length_pos_iff,E5,← Ff,← aFd]
    rw[e];cases eg:jF z with
    | false=>
     refine bQ ?_;exact O eg _ (S1.trans S2)
    | true=>
     refine bG ?_;obtain⟨en,e6⟩:=aCh eg;have kk:=k _ (S1.trans S2);unfold mX at kk;rw[Ib eg]at kk;exact⟨_,rfl,cV ((xP z:Nat):Int),xP z,by rw[en],sX e6 (by decide) (by decide),by rw[en];omega,kk⟩
  refine⟨_,rfl,z,rfl,zz,_,_,rfl,rfl,_,rfl,?_⟩;by_cases l3:1 < z.length
  ·rw[Ic (show(1:Int) < (z.length:Int) by omega)];refine bQ ?_;refine⟨_,rfl,z,0,J,rfl,rfl,zz,eh,rfl,_,rfl,?_⟩;rw[aj];by_cases g:J=48
   ·rw[Ic g];refine bQ ?_;exact O (by rw[ef,Ic g,Ic ((ag.mp l3).1 g)];exact AI _) H (aT.refl H)
   ·rw[decide_eq_false g];refine bG ?_;exact bF fun h=>absurd h g
  ·rw[decide_eq_false (show¬ ((1:Int) < (z.length:Int)) by omega)]
   iterate 2 refine bG ?_
   refine bF fun h=>dX ?_;rw[ec]at G;simp only[Ak]at G;rw[ec,jG,h,BG (by omega:Y.length=0)]
theorem aCj:bB ["words","places"] ["words","places"] (aK wU):=⟨rfl,rfl,rfl,by decide,rfl,by decide,by decide⟩
theorem aFi{f:Af}{fd:Ax}(F:Fun K "with_numbers" "with_numbers" wU f fd)(U:mg "tuple"=none)(J:mg "enumerate"=none)
  (GN:Cl P w K mg base 1 "number_of" ["word"] aAh)
  :b8 P w K mg base CX0 2 f fd ["words","places"] (oR K):=by
 refine F.ok aCj (fun vs H Q E h=>?_) (fun am A outer s H vs Q E hr h=>?_)
 ·obtain⟨L,p,ws,ps,rfl,_⟩:=h;rfl
 ·obtain⟨L,p,ws,ps,rfl,eL,eP,h60,hz,k⟩:=h;have nd:=aCj.nd;have ac:cJ 1 _:=hr;refine⟨_,(aG (aN (bV dE (by rfl) U (by kernel_rfl) (aB (fV (N:=["at","word","places"]) (src:=[none,none,some 1]) (osc:=aK wU) (oN:=["words","places"]) (g:=aHG K 2 (uS (cE 0) (uS (cE 1) aHF))) ⟨by rfl,by decide,by decide,by decide,rfl,by rfl⟩ (aGh rfl J (aB (pv 0) aA)) (fun cl s H fp fe C=>⟨jI rfl (cO (bJ (i:=0) (show(["at","word","places"]:List Str).Nodup by decide) rfl (Aw rfl)) (cO (bJ (i:=1) (show(["at","word","places"]:List Str).Nodup by decide) rfl (Aw rfl)) gU)),fG,nA (aP (r:=rIn K false) lE (pv 0) (pv 2) (by with_unfolding_all rfl)) (aW GN ac (aB (pv 1) aA)) (pv 1)⟩)) aA)))),?_⟩;have O:=jW ps ws;refine⟨_,rfl,L,_,rfl,eL,?_⟩;refine aC8 (xs:=ws.map V.str) (fun i ys Y H'=>∃(o1 W:Option V),Y=[o1,W,some (.ref p)]∧aT H H'∧ys=((wd ps ws).take i).map dV) ⟨none,none,rfl,aT.refl _,rfl⟩ (aF (by rw[Ac];omega)) (fun i ys σ H' q=>by obtain⟨_,_,_,_,rfl⟩:=q;rw[Ac,AC];omega) (fun i ys σ H' q=>by obtain⟨_,_,_,s,_⟩:=q;exact s _ _ eL) ?_ ?_
  ·rintro i v t ys Y H1 hv ht ⟨o1,W,rfl,s1,rfl⟩;rw[AW]at hv;obtain⟨z,hz1,rfl⟩:=Cr.mp hv;have sT:=aH (o:=.tup [.int i,.str z]) ht;have eT:upd H1 t (.tup [.int i,.str z]) t=some (.tup [.int i,.str z]):=aD;generalize upd H1 t _=H2 at sT eT ⊢;have Z:=s1.trans sT;have tk:((wd ps ws).take (i + 1)).map dV=((wd ps ws).take i).map dV ++ [dV (if (i:Int)∈ps then dQ z else .str z)]:=by
    rw[A2,aFf hz1,Ar];rfl
   refine⟨t,_,rfl,aS eT,rfl,_,_,rfl,_,_,rfl,rfl,bQ ?_⟩;refine⟨_,rfl,_,rfl,p,_,rfl,.inr (aFe eP Z),rfl,i8 _,_,rfl,?_⟩;show if (if false=true then !inV (V.int i) (ps.map V.int) else inV (V.int i) (ps.map V.int))=true then _ else _
   rw[Ia AG,aAi];by_cases G:(i:Int)∈ps
   ·rw[Ic G];refine bQ ⟨_,rfl,.mk z rfl (by have:=hz z (AN hz1);omega) fun H3 s3=>⟨_,_,rfl,Z.trans s3,?_⟩⟩;rw[tk,Ib G,mY]
   ·rw[decide_eq_false G];refine bG ⟨_,rfl,_,_,rfl,Z,?_⟩;rw[tk,Ia G];rfl
  rintro ys Y H1 ⟨o1,W,rfl,s1,rfl⟩ D hD;rw[Ac,← O,Bc];have sD:=aH (o:=.lst ((wd ps ws).map dV)) hD;refine⟨D,_,rfl,.inl ⟨aQ aD,fun t ht=>?_⟩⟩;have st:=aH (o:=.tup ((wd ps ws).map dV)) ht;exact k t _ (s1.trans (sD.trans st)) aD
theorem qV{xs:List V}{v w:V}:atI (xs ++ [v,w]) (-2)=some v∧atI (xs ++ [v,w]) (-1)=some w:=by
 constructor
 ·unfold atI ixN;rw[Ia (by omega),Ib (by simp;omega)];simp;rw[show(-2 + ((xs.length:Int) + 2)).toNat=xs.length by omega];simp
 ·unfold atI ixN;rw[Ia (by omega),Ib (by simp;omega)];simp;rw[show(-1 + ((xs.length:Int) + 2)).toNat=xs.length + 1 by omega];simp
theorem aCk(a b c:V)(ys:List V)(v w:V):eJ ([a,b,c] ++ ys ++ [v,w]) (some 3) (some (-2))=ys:=by
 unfold eJ HT.sIx;simp;rw[show(-2 + ((ys.length:Int) + 2 + 1 + 1 + 1)).toNat - 3=ys.length by omega];simp
def bE(w:Str):List Int:=if w="measure"∨w="view" then[4] else if w="breach" then[4,5,6] else[]
def bks(z:Str):Nat:=z.cps.toList.count 32
theorem aCl(x y:Str):bks (x ++ y)=bks x + bks y:=by
 unfold bks;show(x.cps ++ y.cps).toList.count 32=_;rw[Array.toList_append,List.count_append]
theorem aGV(lo hi:Option Int)(n:Nat):∃ a k,BI lo hi 1 n=BQ a k:=by
 unfold BI sliceRange;have key:∀(st:Int) (c:Int),0≤st→∃ a k,((AJ c.toNat).map fun(k:Nat)=>(st + 1 * (k:Int)).toNat)=BQ a k:=fun st c h=>
  ⟨st.toNat,c.toNat,by rw[List.range'_eq_map_range];exact EM fun x _=>by omega⟩
 refine key _ _ ?_;cases lo with
 | none=>exact Ea _
 | some i=>
  show 0≤max 0 _;omega
theorem aDv(z:Str)(lo hi:Option Int):bks (A8 z lo hi)≤bks z:=by
 unfold A8;split
 ·exact An _
 ·obtain⟨a,k,e⟩:=aGV lo hi z.length;rw[e];obtain⟨⟨l⟩⟩:=z;unfold bks;refine List.Sublist.count_le 32 ?_;show((BQ a k).filterMap (l.toArray[·]?)).Sublist l
  rw[gK l k a];exact(D6 _ _).trans (List.drop_sublist _ _)
theorem xT(s:Str)(ys:List Str):DU s ys=CO s ys:=PySem.StrLaws.glued_eq_join s ys
theorem aAl(s:Str):∀ ys:List Str,bks (DU s ys)≤(ys.map bks).sum + ys.length * bks s
 | []=>Bs _
 | [x]=>by
  show bks x≤bks x + 0 + 1 * bks s;omega
 | x :: y :: r=>by
  have G:=aAl s (y :: r);rw[show DU s (x :: y :: r)=x ++ s ++ DU s (y :: r) from by
   rw[xT,xT];rfl,aCl,aCl]
  rw[A0,B5,Ak,Nat.succ_mul];omega
theorem uC(ws:List Str)(lo hi:Option Int):∃ ys:List Str,eJ (ws.map V.str) lo hi=ys.map V.str∧ys.Sublist ws:=by
 unfold eJ;exact⟨_,by rw[← ET,← CA],(D6 _ _).trans (List.drop_sublist _ _)⟩
theorem aCm{f:Str→Nat}{ys ws:List Str}(h:ys.Sublist ws):(ys.map f).sum≤(ws.map f).sum:=by
 induction h with
 | slnil=>exact An _
 | cons a _ G=>rw[A0,B5];omega
 | cons_cons a _ G=>rw[A0,A0,B5,B5];omega
structure Wg(n b:Nat)(ys:List Str):Prop where
 len:(ys.map (·.length)).sum + ys.length≤n
 bk:(ys.map bks).sum + ys.length≤b
theorem Wg.sub{n b:Nat}{ys ws:List Str}(h:Wg n b ws)(s:ys.Sublist ws):Wg n b ys:=by
 have h1:=aCm (f:=(·.length)) s
 have h2:=aCm (f:=bks) s;have G:=s.length_le;have:=h.len;have:=h.bk;exact⟨by omega,by omega⟩
theorem Wg.app{n b G J:Nat}{ys zs:List Str}(h:Wg n b ys)(h':Wg G J zs):Wg (n + G) (b + J) (ys ++ zs):=by
 have:=h.len;have:=h.bk;have:=h'.len;have:=h'.bk;constructor <;> rw[Ar,List.sum_append,Av] <;> omega
theorem Wg.le{n b G J:Nat}{ys:List Str}(h:Wg n b ys)(h1:n≤G)(h2:b≤J):Wg G J ys:=⟨AM h.len h1,AM h.bk h2⟩
theorem Wg.rev{n b:Nat}{ys:List Str}(h:Wg n b ys):Wg n b ys.reverse:=by
 have e:∀ f:Str→Nat,(ys.reverse.map f).sum=(ys.map f).sum:=fun f=>((List.reverse_perm ys).map f).sum_nat;constructor <;> rw[e,Cn]
 ·exact h.len
 ·exact h.bk
theorem Wg.one{z:Str}{n b:Nat}(h1:z.length≤n)(h2:bks z≤b):Wg (n + 1) (b + 1) [z]:=by
 exact⟨by show z.length + 0 + 1≤_;omega,by show bks z + 0 + 1≤_;omega⟩
theorem Wg.join{n b:Nat}{ys:List Str}(h:Wg n b ys):(DU " " ys).length≤n∧bks (DU " " ys)≤b:=by
 have h1:=Ee " " ys;rw[← xT]at h1;have h2:=aAl " " ys;have J:(" ":Str).length=1:=by decide
 have G:bks " "=1:=by decide
 rw[J,Nat.mul_one]at h1;rw[G,Nat.mul_one]at h2;exact⟨AM h1 h.len,AM h2 h.bk⟩
theorem aAm{z:Str}(h:32 ∉ z.cps.toList):bks z=0:=List.count_eq_zero.mpr h
theorem jX:(" ":Str)=⟨#[32]⟩:=by decide
theorem vW(c:Nat):∀ l:List Nat,PyProof.Rows.cnt c l=((l.count c:Nat):Int)
 | []=>rfl
 | n :: r=>by
  rw[PyProof.Rows.cnt_cons,vW c r,List.count_cons];by_cases h:n=c
  ·rw[Ib h,h,Ib (by simp)];omega
  ·rw[Ia h,Ia (by simpa using h)];omega
theorem fJ(z:Str):(AD z " ").length=bks z + 1:=by
 have h:=PyProof.Rows.split_len z 32;rw[← jX,vW]at h;unfold bks;omega
theorem aFj(z:Str):Wg (z.length + 1) (bks z + 1) (AD z " "):=by
 refine⟨PyProof.Rows.split_weight z " " (by decide),?_⟩;rw[fJ];have:((AD z " ").map bks).sum=0:=by
  have key:∀ l:List Str,(∀ y∈l,bks y=0)→(l.map bks).sum=0:=fun l=>by
   induction l with
   | nil=>exact fun _=>rfl
   | cons a l J=>exact fun h=>by rw[A0,B5,h a (by simp),J fun y G=>h y (by simp[G])]
  refine key _ fun y G=>aAm ?_;rw[jX]at G;exact DH z 32 y G
 omega
theorem aCn(xs:List V)(a b:Nat):eJ xs (some (a:Int)) (some (b:Int))=(xs.drop a).take (b - a):=by
 unfold eJ;rw[HT.sIx_nat,HT.sIx_nat];by_cases h:a≤xs.length
 ·rw[C2 h];by_cases h2:b≤xs.length
  ·rw[C2 h2]
  ·rw[Du (by omega),A3 (by rw[Bk];omega),A3 (by rw[Bk];omega)]
 ·rw[show min a xs.length=xs.length by omega,List.drop_of_length_le (An _),List.drop_of_length_le (by omega),ES,ES]
def nP(ws:List Str):Nat:=(ws.length - 4 + 2) / 3
def chk(ws:List Str)(i:Nat):Aj:=.tuple (wd [2] ((ws.drop (4 + 3 * i)).take 3))
def pR(ws:List Str):Aj:=.tuple (wd [2] (ws.take 4) ++ [.tuple ((AJ (nP ws)).map (chk ws))])
def aCo(a b c:Str)(R:List Str)(w:Str):Aj:=.tuple (wd [2] [a,b,c] ++ [.tuple (R.map Ba),.str w])
def jY:List Str→Aj
 | a :: b :: c :: r=>match r.reverse with
  | w :: v :: R=>if v="as" then aCo a b c R.reverse w else .none
  | _=>.none
 | _=>.none
theorem jH(a b c:Str)(R:List Str)(v w:Str):jY ([a,b,c] ++ R ++ [v,w])=if v="as" then aCo a b c R w else .none:=by
 show(match (R ++ [v,w]).reverse with | w :: v :: R=>_ | _=>_)=_;rw[List.reverse_append];show(if v="as" then aCo a b c R.reverse.reverse w else .none)=_;rw[Ey]
theorem uD{ws:List Str}(h:ws.length < 5):jY ws=.none:=by
 match ws,h with
 | [],_=>rfl
 | [_],_=>rfl
 | [_,_],_=>rfl
 | [_,_,_],_=>rfl
 | [_,_,_,_],_=>rfl
 | _ :: _ :: _ :: _ :: _ :: _,h=>simp at h;omega
theorem aIw{ws:List Str}(h:5≤ws.length):∃ a b c R v w,ws=[a,b,c] ++ R ++ [v,w]:=by
 match ws,h with
 | a :: b :: c :: r,h=>
  have G:2≤r.length:=by simp at h;omega
  obtain⟨w,v,R,e⟩:∃ w v R,r.reverse=w :: v :: R:=by
   match hq:r.reverse with
   | []=>have:=congrArg C8 hq;rw[Cn]at this;exact absurd this (by show r.length≠0;omega)
   | [_]=>have:=congrArg C8 hq;rw[Cn]at this;exact absurd this (by show r.length≠1;omega)
   | w :: v :: R=>exact⟨w,v,R,rfl⟩
  refine⟨a,b,c,R.reverse,v,w,?_⟩;have:=congrArg List.reverse e;rw[Ey]at this;rw[this];simp
def dZ(ws:List Str):Aj:=if ws.headD ""="part" then pR ws else if ws.headD ""="join" then jY ws else if ws.headD ""∈cC then .tuple (wd (2 :: bE (ws.headD "")) ws) else .none
inductive aFk(D:List Str→Aj)(vs:List V)(H:Hp)(Q:VK)(E:XK):Prop
 | mk (L:Af) (ws:List Str) (h0:vs=[.ref L]) (eL:H L=some (.lst (ws.map V.str))) (hl:ws.length≤60) (hz:∀ z∈ws,z.length≤1000) (q:∀(v:V) (H':Hp),aT H H'→RdV false H' v (D ws)→Q v H'):aFk D vs H Q E
def qW(D:List Str→Aj):Sp:=fun vs H Q E=>aFk D vs H Q E
inductive aHv(vs:List V)(H:Hp)(Q:VK)(E:XK):Prop
 | mk (z:Str) (h0:vs=[.str z]) (hz:z.length≤1000) (hl:(AD z " ").length≤60) (qy:fQ (dZ (AD z " "))=true→∀(t:Af) (H':Hp),aT H H'→RdV false H' (.ref t) (dZ (AD z " "))→Q (.ref t) H') (qn:fQ (dZ (AD z " "))=false→∀ H',aT H H'→Q .non H'):aHv vs H Q E
def pS:Sp:=fun vs H Q E=>aHv vs H Q E
theorem aAn{d:Aj}(h:fQ d=true):∃ ds,d=.tuple ds:=by
 cases d with
 | tuple ds=>exact⟨ds,rfl⟩
 | _=>exact absurd h (by simp[fQ])
theorem xU{H:Hp}{R:List Str}(h:∀ z∈R,z.length≤1000):c7 false H (R.map V.str) (R.map Ba):=by
 induction R with
 | nil=>exact .nil
 | cons z R G=>exact .cons (.str z (h z AV)) (G fun y J=>h y (AY _ J))
theorem mZ(z:Str):∀ w∈AD z " ",w.length≤z.length:=fun w hw=>by
 have:=PyProof.Rows.split_weight z " " (by decide);have h2:∀(l:List Str),w∈l→w.length≤(l.map (·.length)).sum:=fun l=>by
  induction l with
  | nil=>exact fun h=>by cases h
  | cons a l G=>
   intro h;rw[A0,B5];rcases Ap.mp h with rfl | h
   ·omega
   ·have:=G h;omega
 have J:=h2 _ hw;have O:1≤(AD z " ").length:=List.length_pos_of_mem hw;omega
def nmV(n0 n1 n2 n3 n4 n5:Af):List (Key×V):=[(Am "forfeit",.ref n0),(Am "measure",.ref n1),(Am "mend",.ref n2),(Am "alone",.ref n3),(Am "breach",.ref n4),(Am "view",.ref n5)]
def nmR(n0 n1 n2 n3 n4 n5:Af):List (Key×Ab):=[(Am "forfeit",.ref n0),(Am "measure",.ref n1),(Am "mend",.ref n2),(Am "alone",.ref n3),(Am "breach",.ref n4),(Am "view",.ref n5)]
theorem aIx(J G Y O U W:Af):KV (nmV J G Y O U W) (nmR J G Y O U W):=.cons ⟨rfl,rfl⟩ (.cons ⟨rfl,rfl⟩ (.cons ⟨rfl,rfl⟩ (.cons ⟨rfl,rfl⟩ (.cons ⟨rfl,rfl⟩ (.cons ⟨rfl,rfl⟩ (.nil))))))
theorem aGW{P:Al}{w:AH}{K:Ae}{a:Af}{e:Nat}{W U O Y G J:Tok}{n0 n1 n2 Z n4 n5:Af}(l:K.lookup a=some { cls:=.type "dict",data:=.dict #[⟨AU w.params "forfeit",.str "forfeit" W,.ref n0⟩,⟨AU w.params "measure",.str "measure" U,.ref n1⟩,⟨AU w.params "mend",.str "mend" O,.ref n2⟩,⟨AU w.params "alone",.str "alone" Y,.ref Z⟩,⟨AU w.params "breach",.str "breach" G,.ref n4⟩,⟨AU w.params "view",.str "view" J,.ref n5⟩] e }):∀ h:A1,K.In h→h.DictOf (cY P w) a (nmR n0 n1 n2 Z n4 n5):=by
 intro h hK;refine⟨_,_,_,hK _ _ l,⟨rfl,rfl,rfl⟩,rfl,?_,?_,?_⟩
 ·intro en he;simp only[List.mem_toArray,Ap,AF,or_false]at he;rcases he with rfl | rfl | rfl | rfl | rfl | rfl
  ·exact⟨Am "forfeit",isS "forfeit" W,dY w "forfeit"⟩
  ·exact⟨Am "measure",isS "measure" U,dY w "measure"⟩
  ·exact⟨Am "mend",isS "mend" O,dY w "mend"⟩
  ·exact⟨Am "alone",isS "alone" Y,dY w "alone"⟩
  ·exact⟨Am "breach",isS "breach" G,dY w "breach"⟩
  ·exact⟨Am "view",isS "view" J,dY w "view"⟩
 ·exact .cons (isS "forfeit" W) rfl (.cons (isS "measure" U) rfl (.cons (isS "mend" O) rfl (.cons (isS "alone" Y) rfl (.cons (isS "breach" G) rfl (.cons (isS "view" J) rfl (.nil))))))
 ·show([Am "forfeit",Am "measure",Am "mend",Am "alone",Am "breach",Am "view"]:List Key).Nodup;decide
theorem hX{K:Ae}{a:Af}{its:Array Ab}{n:Nat}{xs:List V}(l:K.lookup a=some { cls:=.type "tuple",data:=.seq its n })(hz:its.size≤3)(r:cF xs its.toList):∀ H:Hp,SqT K H a xs:=fun _=>.inr ⟨_,its,n,l,rfl,rfl,aF (by omega),r⟩
theorem aJy{K:Ae}{n0 n1 W U Z n5:Af}{e0:Nat}{e1:Nat}{e2:Nat}{e3:Nat}{e4:Nat}{e5:Nat}{G aa Y J O:Tok}(l0:K.lookup n0=some { cls:=.type "tuple",data:=.seq #[] e0 })(l1:K.lookup n1=some { cls:=.type "tuple",data:=.seq #[.int 4 G] e1 })(l2:K.lookup W=some { cls:=.type "tuple",data:=.seq #[] e2 })(l3:K.lookup U=some { cls:=.type "tuple",data:=.seq #[] e3 })(l4:K.lookup Z=some { cls:=.type "tuple",data:=.seq #[.int 4 aa,.int 5 Y,.int 6 J] e4 })(l5:K.lookup n5=some { cls:=.type "tuple",data:=.seq #[.int 4 O] e5 }):∀ kind∈cC,kind≠"part"→kind≠"join"→∃ a:Af,fS (nmV n0 n1 W U Z n5) (Am kind)=some (.ref a)∧∀ H:Hp,SqT K H a ((bE kind).map V.int):=by
 intro kind hk h1 h2;unfold cC at hk;simp only[Ap,AF,or_false]at hk;rcases hk with rfl | rfl | rfl | rfl | rfl | rfl | rfl | rfl
 ·exact absurd rfl h1
 ·exact absurd rfl h2
 ·exact⟨n0,by rfl,by rw[show bE "forfeit"=[] by decide];exact hX l0 (by simp) (.nil)⟩
 ·exact⟨n1,by rfl,by rw[show bE "measure"=[4] by decide];exact hX l1 (by simp) (.cons ⟨_,rfl⟩ (.nil))⟩
 ·exact⟨W,by rfl,by rw[show bE "mend"=[] by decide];exact hX l2 (by simp) (.nil)⟩
 ·exact⟨U,by rfl,by rw[show bE "alone"=[] by decide];exact hX l3 (by simp) (.nil)⟩
 ·exact⟨Z,by rfl,by rw[show bE "breach"=[4,5,6] by decide];exact hX l4 (by simp) (.cons ⟨_,rfl⟩ (.cons ⟨_,rfl⟩ (.cons ⟨_,rfl⟩ (.nil))))⟩
 ·exact⟨n5,by rfl,by rw[show bE "view"=[4] by decide];exact hX l5 (by simp) (.cons ⟨_,rfl⟩ (.nil))⟩
theorem aJz{G W Z U O Y:Af}{kind:Str}(h:kind ∉ cC):fS (nmV G W Z U O Y) (Am kind)=none:=by
 unfold nmV;have ne:∀{x:Str},x∈cC→¬ (Am x:Key)=Am kind:=fun J e=>h (by injection e with e;rw[← e];exact J);rw[cP (ne (by decide)),cP (ne (by decide)),cP (ne (by decide)),cP (ne (by decide)),cP (ne (by decide)),cP (ne (by decide))];rfl
theorem aAo:bB ["words","parts"] ["words"] (aK qQ):=⟨rfl,rfl,rfl,by decide,rfl,by decide,by decide⟩
theorem aFl{f:Af}{fd:Ax}(F:Fun K "part_of" "part_of" qQ f fd)(W:mg "tuple"=none)(af:mg "len"=none)(aa:mg "range"=none)
  (GW:Cl P w K mg base 2 "with_numbers" ["words","places"] (oR K))
  :b8 P w K mg base CX0 3 f fd ["words"] (qW pR):=by
 refine F.ok aAo (fun vs H Q E h=>?_) (fun bf A outer s H vs Q E hr h=>?_)
 ·obtain⟨L,ws,rfl,_⟩:=h;rfl
 ·obtain⟨L,ws,rfl,eL,h60,hz,k⟩:=h;have nd:=aAo.nd;have ai:cJ 2 _:=hr;have hm:∀ n:Nat,n≤60→Ej 4 (n:Int) 3=true∧(((n - 4 + 2) / 3:Nat):Int)=B9 4 (n:Int) 3∧Dy ((n:Int) - 4) 3=false:=by decide
  obtain⟨hsm,hsz,hpl⟩:=hm ws.length h60;refine⟨_,(aE (jN (i:=1) (N:=["at","words"]) (src:=[none,some 0]) (osc:=aK qQ) (oN:=["words","parts"]) ⟨by rfl,by decide,by decide,by decide,rfl,by rfl⟩ nd rfl (vL (lo:=4) (hi:=(ws.length:Int)) (st:=3) (n:=nP ws) (by decide) hsm hsz hpl rfl aa (aB aC (aB (aM aO (by rfl) af Aq (aB (pv 0) aA)) (aB aC aA)))) (fun cl s H fp fe C=>⟨bJ (i:=0) (show(["at","words"]:List Str).Nodup by decide) rfl (Aw rfl),fG,aW GW ai (aB (bY (r:=aI5 K) d9 (pv 1) (cA (pv 0)) (cA (aX c8 (pv 0) aC))) (aB (cG (aB aC aA)) aA))⟩))
   (aG (aN (aX n8 (aW GW ai (aB (bY d9 (pv 0) cU (cA aC)) (aB (cG (aB aC aA)) aA))) (cG (aB (bV dE (by rfl) W (by kernel_rfl) (aB (pv 1) aA)) aA)))))),?_⟩
  have hP:nP ws≤60:=by unfold nP;omega
  refine⟨_,rfl,L,_,rfl,.inl (aQ eL),by rw[Ac],?_⟩;refine zF (n:=nP ws) (fun i ys σ' H'=>∃(o:Option V),Aw3 (σ'=[o,some (.ref L)]) (aT H H') (ys.length=i∧c7 false H' ys ((AJ i).map (chk ws)))) ⟨none,rfl,aT.refl _,rfl,.nil⟩ (aF (by omega)) (fun i ys σ H' q=>by obtain⟨_,_,_,e,_⟩:=q;omega) ?_ ?_
  ·rintro i ys σ' H1 hi ⟨o,rfl,s1,Y,ry⟩;dsimp only[cE];refine bQ ?_;refine⟨_,rfl,_,rfl,_,rfl,_,rfl,_,_,rfl,rfl,_,rfl,L,_,rfl,aQ (s1 _ _ eL),fun C hC=>?_⟩;have ec:eJ (ws.map V.str) (some (4 + (i:Int) * 3)) (some (4 + (i:Int) * 3 + 3))=((ws.drop (4 + 3 * i)).take 3).map V.str:=by
    rw[show(4 + (i:Int) * 3)=((4 + 3 * i:Nat):Int) by omega,show(((4 + 3 * i:Nat):Int) + 3)=((4 + 3 * i + 3:Nat):Int) by omega,aCn,← ET,← CA,show 4 + 3 * i + 3 - (4 + 3 * i)=3 by omega]
   rw[ec]at *;have sC:=aH (o:=.lst (((ws.drop (4 + 3 * i)).take 3).map V.str)) hC;have eC:upd H1 C (.lst (((ws.drop (4 + 3 * i)).take 3).map V.str)) C=some (.lst (((ws.drop (4 + 3 * i)).take 3).map V.str)):=aD;generalize upd H1 C _=H2 at sC eC ⊢;refine⟨zZ1,fun q hq=>?_⟩;have U:=aH (o:=.tup [V.int 2]) hq;have hc:∀ z∈(ws.drop (4 + 3 * i)).take 3,z.length≤1000:=fun z h=>hz z (List.mem_of_mem_drop (CN h));refine .mk C q ((ws.drop (4 + 3 * i)).take 3) [2] rfl (U _ _ eC) (aS aD) (by rw[AC];omega) hc fun t H3 s3 e3=>?_;have ag:=sC.trans (U.trans s3);refine⟨_,rfl,s1.trans ag,by rw[Av,Y];rfl,?_⟩;rw[DD,Ar];exact(ry.same ag).app (.cons (.tup e3 (by rw[Ac,jW,AC];omega) (aAj hc)) .nil)
  rintro ys σ' H1 ⟨o,rfl,s1,Y,ry⟩ D hD;have sD:=aH (o:=.lst ys) hD;have eD:upd H1 D (.lst ys) D=some (.lst ys):=aD;generalize upd H1 D _=H2 at sD eD ⊢;have s2:=s1.trans sD;dsimp only[cE];refine⟨_,rfl,4,rfl,L,_,rfl,aQ (s2 _ _ eL),fun C hC=>?_⟩;have ec:eJ (ws.map V.str) none (some 4)=(ws.take 4).map V.str:=by rw[← CA.symm];exact iV (α:=Nat) (ws.map V.str) 4
  rw[ec];have sC:=aH (o:=.lst ((ws.take 4).map V.str)) hC;have eC:upd H2 C (.lst ((ws.take 4).map V.str)) C=some (.lst ((ws.take 4).map V.str)):=aD;generalize upd H2 C _=H3 at sC eC ⊢;refine⟨zZ1,fun q hq=>?_⟩;have U:=aH (o:=.tup [V.int 2]) hq;have hc:∀ z∈ws.take 4,z.length≤1000:=fun z h=>hz z (CN h);refine .mk C q (ws.take 4) [2] rfl (U _ _ eC) (aS aD) (by rw[AC];omega) hc fun t1 H4 s4 e4=>?_;generalize upd H3 q _=be at U s4;have J:=sC.trans (U.trans s4);refine⟨_,rfl,D,ys,rfl,.inl ⟨aQ (J _ _ eD),fun tp ar=>⟨zZ1,fun t2 aj=>?_⟩⟩⟩;have O:=aH (o:=.tup ys) ar;have ac:upd H4 tp (.tup ys) tp=some (.tup ys):=aD;generalize upd H4 tp _=H5 at O ac aj ⊢;have G:=aH (o:=.tup [V.ref tp]) aj;have l4:((wd [2] (ws.take 4)).map dV).length≤4:=by rw[Ac,jW,AC];omega
  refine⟨t1,t2,_,_,rfl,rfl,(O.trans G) _ _ e4,aD,by show _ + 1≤1000000;omega,fun t H6 s6 e6=>?_⟩;generalize upd H5 t2 _=ba at G s6;have Z:=G.trans s6;have ad:=O.trans Z;refine k (.ref t) _ (s2.trans (J.trans ad)) ?_;exact .tup e6 (by rw[Av];show _ + 1≤1000;omega) ((aAj hc).app (.cons (.tup (Z _ _ ac) (by omega) (ry.same ((sD.trans J).trans ad))) .nil))
theorem aAp:bB ["words"] ["words"] (aK wV):=⟨rfl,rfl,rfl,by decide,rfl,by decide,by decide⟩
theorem aFm{f:Af}{fd:Ax}(F:Fun K "join_of" "join_of" wV f fd)(W:mg "tuple"=none)(U:mg "len"=none)
  (GW:Cl P w K mg base 2 "with_numbers" ["words","places"] (oR K))
  :b8 P w K mg base CX0 3 f fd ["words"] (qW jY):=by
 refine F.ok aAp (fun vs H Q E h=>?_) (fun be A outer s H vs Q E hr h=>?_)
 ·obtain⟨L,ws,rfl,_⟩:=h;rfl
 ·obtain⟨L,ws,rfl,eL,h60,hz,k⟩:=h;have nd:=aAp.nd;have af:cJ 2 _:=hr;refine⟨_,(aE (bM (PW.pt (dU (aP yE (aM aO (by rfl) U Aq (aB (pv 0) aA)) aC (aU _)) (dP (aP kD (aZ bS (pv 0) (rC mO aC) Ig) aJ (aU _))))) (aG (aN fM)) aV)
   (aG (aN (aX n8 (aW GW af (aB (bY d9 (pv 0) cU (cA aC)) (aB (cG (aB aC aA)) aA))) (cG (aB (bV dE (by rfl) W (by kernel_rfl) (aB (bY d9 (pv 0) (cA aC) (cA (rC mO aC))) aA)) (aB (aZ bS (pv 0) (rC mO aC) Ig) aA))))))),?_⟩
  refine⟨_,rfl,L,_,rfl,.inl (aQ eL),_,_,rfl,rfl,_,rfl,?_⟩;by_cases h5:ws.length < 5
  ·rw[Ic (show(((ws.map V.str).length:Nat):Int) < 5 by rw[Ac];omega)]
   iterate 2 refine bQ ?_
   refine k .non H (aT.refl _) ?_;rw[uD h5];exact .non
  rw[decide_eq_false (show¬ (((ws.map V.str).length:Nat):Int) < 5 by rw[Ac];omega)];refine bG ?_;obtain⟨a,b,c,R,v,w',rfl⟩:=aIw (ws:=ws) (by omega);rw[jH]at k;have eW:([a,b,c] ++ R ++ [v,w']).map V.str=[V.str a,.str b,.str c] ++ R.map V.str ++ [.str v,.str w']:=by rw[Ar,Ar];rfl
  rw[eW]at eL;refine⟨_,rfl,2,rfl,L,_,-2,_,rfl,rfl,aQ eL,qV.1,rfl,_,rfl,?_⟩;by_cases hv:v="as"
  case neg=>
   rw[decide_eq_false (show¬ V.str v=V.str "as" from fun e=>by injection e with e;exact hv e)];refine bQ ?_;refine k .non H (aT.refl _) ?_;rw[Ia hv];exact .non
  rw[Ic (show V.str v=V.str "as" by rw[hv])];rw[Ib hv]at k;refine bG ?_;have hR:∀ z∈R,z.length≤1000:=fun z h=>hz z (by simp[h]);have aq:R.length≤60:=by simp at h60;omega
  refine⟨_,rfl,3,rfl,L,_,rfl,aQ eL,fun C hC=>?_⟩;have ec:eJ ([V.str a,.str b,.str c] ++ R.map V.str ++ [.str v,.str w']) none (some 3)=([a,b,c]:List Str).map V.str:=iV (α:=Nat) ([V.str a,.str b,.str c] ++ R.map V.str ++ [.str v,.str w']) 3;rw[ec];have sC:=aH (o:=.lst (([a,b,c]:List Str).map V.str)) hC;have eC:upd H C (.lst (([a,b,c]:List Str).map V.str)) C=some (.lst (([a,b,c]:List Str).map V.str)):=aD;generalize upd H C _=H3 at sC eC ⊢;refine⟨zZ1,fun q hq=>?_⟩;have sq:=aH (o:=.tup [V.int 2]) hq;have hc:∀ z∈[a,b,c],z.length≤1000:=fun z h=>hz z (BV _ (BV _ h));refine .mk C q [a,b,c] [2] rfl (sq _ _ eC) (aS aD) (by show 3≤60;decide) hc fun t1 H4 s4 e4=>?_;generalize upd H3 q _=bd at sq s4;have G:=sC.trans (sq.trans s4);refine⟨_,rfl,3,rfl,2,rfl,-2,rfl,L,_,rfl,aQ (G _ _ eL),fun M hM=>?_⟩;rw[aCk];have sM:=aH (o:=.lst (R.map V.str)) hM;refine⟨M,_,rfl,.inl ⟨aQ aD,fun Z ag=>?_⟩⟩;have ae:=aH (o:=.tup (R.map V.str)) ag;have s5:=sM.trans ae;have O:upd (upd H4 M (.lst (R.map V.str))) Z (.tup (R.map V.str)) Z=some (.tup (R.map V.str)):=aD;generalize upd (upd H4 M (.lst (R.map V.str))) Z _=H5 at s5 O ⊢;refine⟨_,rfl,1,rfl,L,_,-1,_,rfl,rfl,aQ ((G.trans s5) _ _ eL),qV.2,zZ2,fun t2 ah=>?_⟩;have J:=aH (o:=.tup [V.ref Z,.str w']) ah;refine⟨t1,t2,_,_,rfl,rfl,(s5.trans J) _ _ e4,aD,by show 3 + 2≤1000000;decide,fun t H6 s6 e6=>?_⟩;generalize upd H5 t2 _=ar at J s6;have Y:=J.trans s6;refine k (.ref t) _ (G.trans (s5.trans Y)) ?_;exact .tup e6 (by show 5≤1000;decide) ((aAj hc).app (.cons (.tup (Y _ _ O) (by rw[Ac];omega) (xU hR)) (.cons (.str _ (hz w' (by simp))) .nil)))
theorem aCp:bB ["line","words","row"] ["line"] (aK aA4):=⟨rfl,rfl,rfl,by decide,rfl,by decide,by decide⟩
theorem aGX{f:Af}{fd:Ax}(F:Fun K "row_in" "row_in" aA4 f fd){na:Af}{ao:List (Key×Ab)}{O:List (Key×V)}(an:∀ h:A1,K.In h→h.DictOf (cY P w) na ao)(W:KV O ao)(hzN:(na == sysModules)=false)(ap:mg "NUMBERS"=some (.ref na))(ay:∀ kind∈cC,kind≠"part"→kind≠"join"→∃ a:Af,fS O (Am kind)=some (.ref a)∧∀ H:Hp,SqT K H a ((bE kind).map V.int))(az:∀ kind,kind ∉ cC→fS O (Am kind)=none)
  (aL:Cl P w K mg base 3 "part_of" ["words"] (qW pR))
  (GI:Cl P w K mg base 7 "is_row" ["thing"] qR)
  (ax:Cl P w K mg base 3 "join_of" ["words"] (qW jY))
  (GW:Cl P w K mg base 2 "with_numbers" ["words","places"] (oR K))
  :b8 P w K mg base CX0 8 f fd ["line"] pS:=by
 refine F.ok aCp (fun vs H Q E h=>?_) (fun bd A outer s H vs Q E hr h=>?_)
 ·obtain⟨z,rfl,_⟩:=h;rfl
 ·obtain⟨z,rfl,hz,h60,ky,kn⟩:=h;have nd:=aCp.nd;have aw:cJ 7 _:=hr;have ai:cJ 3 _:=hr.mono (by decide);have aR:cJ 2 _:=hr.mono (by decide);refine⟨_,(aE (aY (i:=1) nd rfl (Aw rfl) (gE Bj C6 C5 oF (pv 0) (aB aJ aA)))
   (aE (aY (i:=2) nd rfl (Aw rfl) fM)
   (aE (fO (bM (aP cH (aZ bS (pv 1) aC Ig) aJ (aU _)) (aG (aY (i:=2) nd rfl (Aw rfl) (aW aL ai (aB (pv 1) aA)))) (aG (fO (bM (aP cH (aZ bS (pv 1) aC Ig) aJ (aU _)) (aG (aY (i:=2) nd rfl (Aw rfl) (aW ax ai (aB (pv 1) aA)))) (aG (fO (bM (aP (aH7 an W hzN) (aZ bS (pv 1) aC Ig) (bZ (v:=.ref na) (by rfl) ap rfl) (by with_unfolding_all rfl)) (aG (aY (i:=2) nd rfl (Aw rfl) (aW GW aR (aB (pv 1) (aB (aX aBG (cG (aB aC aA)) (aBP an W (by rfl) ap (aZ bS (pv 1) aC Ig) Ig)) aA))))) aV))))))))
   (aG (aN (nA (cN (aW GI aw (aB (pv 2) aA))) (pv 2) fM)))))),?_⟩
  refine⟨_,rfl,rfl,⟨_,_,rfl,rfl,by decide,aF (n:=z.length + 2) (by omega),fun L hL=>?_⟩⟩;have J:∀ w∈AD z " ",w.length≤1000:=fun w hw=>AM (mZ z w hw) hz;have Y:(AD z " ")≠[]:=fun e=>by have:=fJ z;rw[e]at this;cases this
  generalize AD z " "=ws at J Y h60 ky kn hL ⊢;obtain⟨G,bF,rfl⟩:∃ G bF,ws=G :: bF:=by
   cases ws with
   | nil=>exact absurd rfl Y
   | cons a b=>exact⟨a,b,rfl⟩
  have eD:dZ (G :: bF)=if G="part" then pR (G :: bF) else if G="join" then jY (G :: bF) else if G∈cC then .tuple (wd (2 :: bE G) (G :: bF)) else .none:=rfl
  have sL:=aH (o:=.lst ((G :: bF).map V.str)) hL;have Z:upd H L (.lst ((G :: bF).map V.str)) L=some (.lst ((G :: bF).map V.str)):=aD;generalize upd H L _=H1 at sL Z ⊢;have e0:atI ((G :: bF).map V.str) 0=some (.str G):=bO (j:=0) rfl;dsimp only[cE];refine⟨fun σ' H'=>∃(v:V),σ'=[some (.str z),some (.ref L),some v]∧aT H H'∧RdV false H' v (dZ (G :: bF)),?_,?_⟩
  ·refine⟨_,rfl,L,_,0,_,rfl,rfl,aQ Z,e0,rfl,_,rfl,c9 (fun g=>?_) fun g=>?_⟩
   ·have hp:G="part":=V.str.inj (Ie g);exact⟨_,rfl,.mk L _ rfl Z h60 J fun v H2 s2 rd=>⟨v,rfl,sL.trans s2,by rw[eD,Ib hp];exact rd⟩⟩
   have U:G≠"part":=fun e=>g (by rw[e];rfl);refine⟨_,?_,fun _ _ h=>h⟩;refine⟨_,rfl,L,_,0,_,rfl,rfl,aQ Z,e0,rfl,_,rfl,c9 (fun g=>?_) fun g=>?_⟩
   ·have hp:G="join":=V.str.inj (Ie g);exact⟨_,rfl,.mk L _ rfl Z h60 J fun v H2 s2 rd=>⟨v,rfl,sL.trans s2,by rw[eD,Ia U,Ib hp];exact rd⟩⟩
   have ae:G≠"join":=fun e=>g (by rw[e];rfl);refine⟨_,?_,fun _ _ h=>h⟩;refine⟨_,rfl,L,_,0,_,rfl,rfl,aQ Z,e0,Am G,rfl,rfl,_,rfl,?_⟩;by_cases h8:G∈cC
   case neg=>
    rw[az G h8];refine bG ?_;exact⟨.non,rfl,sL,by rw[eD,Ia U,Ia ae,Ia h8];exact .non⟩
   obtain⟨a,hva,hsq⟩:=ay G h8 U ae;rw[hva];refine bQ ?_;refine⟨_,rfl,zZ1,fun q hq=>?_⟩;have sq:=aH (o:=.tup [V.int 2]) hq;have aa:upd H1 q (.tup [V.int 2]) q=some (.tup [V.int 2]):=aD;generalize upd H1 q _=H2 at sq aa ⊢;have aj:∀(p:Af) (H3:Hp),aT H2 H3→SqT K H3 p ((2 :: bE G).map V.int)→(oR K) [.ref L,.ref p] H3 (fun v H'=>∃(v':V),[some (V.str z),some (.ref L),some v]=[some (.str z),some (.ref L),some v']∧aT H H'∧RdV false H' v' (dZ (G :: bF))) E0:=fun p H3 s3 hp=>by
    refine .mk L p _ _ rfl ((sq.trans s3) _ _ Z) hp h60 J fun t H4 s4 e4=>⟨.ref t,rfl,sL.trans ((sq.trans s3).trans s4),?_⟩
    rw[eD,Ia U,Ia ae,Ib h8];exact .tup e4 (by rw[Ac,jW];omega) (aAj J)
   refine⟨_,rfl,L,_,0,_,rfl,rfl,aQ (sq _ _ Z),e0,Am G,.ref a,rfl,hva,q,a,_,_,rfl,rfl,aS aa,hsq _,by simp,aF (by rw[Ac];unfold bE;split;decide;split <;> decide),fun e=>?_,fun _ p hp=>?_⟩
   ·refine aj q H2 (aT.refl _) ?_;have:(2 :: bE G).map V.int=[V.int 2]:=by rw[A0,e]
    rw[this];exact aS aa
   ·exact aj p _ (aH hp) (aS aD)
  rintro σ' H2 ⟨v,rfl,s2,rd⟩;refine⟨_,rfl,false,v,_,rfl,rd,fun H3 s3=>⟨_,rfl,?_⟩⟩;cases hd:fQ (dZ (G :: bF))with
  | true=>
   refine bQ ⟨_,rfl,?_⟩;obtain⟨ds,e⟩:=aAn hd;have ky:=ky hd;have ah:=rd.same s3;rw[e]at ah ky;cases ah with
   | tup ea hl r=>exact ky _ H3 (s2.trans s3) (.tup ea hl r)
  | false=>exact bG (kn hd H3 (s2.trans s3))
theorem aGY(c:Nat):decide (c∈(A4 "abcdefghijklmnopqrstuvwxyz").cps.toList)=isL c:=by
 have e:(A4 "abcdefghijklmnopqrstuvwxyz").cps.toList=BQ 97 26:=by decide
 unfold isL;rw[e,decide_eq_decide,List.mem_range'_1];omega
theorem aFn(l:List V):rX l []=decide (l=[]):=by
 cases l with
 | nil=>rfl
 | cons x r=>rw[nU (by simp)];rfl
theorem qX{ds:List Aj}(h:ds.length < 4):fQ (.tuple ds)=false:=by
 match ds,h with
 | [],_=>rfl
 | [d],_=>cases d <;> rfl
 | [d,_],_=>cases d <;> rfl
 | [d,a,b],_=>
  cases d with
  | str kind=>
   show(decide (kind∈cC) && (bC a && (cB 0 9999 b && dF kind [])))=false;have:dF kind []=false:=by
    unfold dF
    repeat' split
    all_goals rfl
   rw[this,AI,AI,AI]
  | _=>rfl
theorem aGZ{kind:Str}{ds:List Aj}(h:ds.length≠2)(h1:kind≠"alone")(h2:kind≠"breach")(G:kind≠"view")(hw:kind∈cC):dF kind ds=false:=by
 unfold dF;split
 ·exact aAc h
 split
 ·exact aAd h
 split
 ·unfold fE;rw[decide_eq_false h];rfl
 split
 ·exact qA h
 split
 ·exact oM fun z=>h z.1
 rename_i a b c d e;simp[cC,a,b,c,d,e,h1,h2,G]at hw
def uE(at':Bool)(d:Aj):Bool:=if at'=true then qB d else lD d
inductive aAq(fN fP:Af)(vs:List V)(H:Hp)(Q:VK)(u3_:XK):Prop
 | mk (m:Bool) (x:V) (d:Aj) (at':Bool) (q0:vs=[x,.ref (if at'=true then fP else fN),.bl at']) (q1:RdV m H x d) (q2:∀ H',aT H H'→Q (.bl (uE at' d)) H'):aAq fN fP vs H Q u3_
def aFo(fN fP:Af):Sp:=fun vs H Q u3_=>aAq fN fP vs H Q u3_
inductive aCq(vs:List V)(H:Hp)(Q:VK):Prop
 | mk (m:Bool) (x:V) (kind:Str) (d2 d3 d4 d5 d6:Aj) (r:List Aj) (h0:vs=[x]) (rd:RdV m H x (.tuple (.str kind :: d2 :: d3 :: d4 :: d5 :: d6 :: r))) (q:∀ H',aT H H'→Q (.bl (if kind="view" then kZ (d4 :: d5 :: d6 :: r) else f6 (d4 :: d5 :: d6 :: r))) H'):aCq vs H Q
def aAr:Sp:=fun vs H Q _=>aCq vs H Q
theorem aCr{at':Bool}{ds:List Aj}(h:¬ (2≤ds.length∧ds.length≤6)):uE at' (.tuple ds)=false:=by
 unfold uE;split
 ·show(ds.all dM && decide (2≤ds.length∧ds.length≤6) && _)=false;rw[decide_eq_false h,AI,Bg]
 ·show(ds.all bC && decide (2≤ds.length∧ds.length≤6) && _)=false;rw[decide_eq_false h,AI,Bg]
def aFp(at':Bool)(d:Aj):Bool:=if at'=true then dM d else bC d
def uQ(at':Bool)(d:Aj):Str:=if at'=true then lC d else xL d
theorem xV{at':Bool}{ds:List Aj}:uE at' (.tuple ds)=(ds.all (aFp at') && decide (2≤ds.length∧ds.length≤6) && dO (ds.map (uQ at'))):=by
 cases at' <;> rfl
theorem qY{x:V}{lo j n:Int}(h:(10:Int) ^ j.toNat=n):[x,V.int lo,(fun i j=>V.int (i ^ j.toNat)) 10 j] ++ []=[x,V.int lo,V.int n]:=by
 show[x,V.int lo,V.int ((10:Int) ^ j.toNat)]=_;rw[h]
theorem aFq{x:V}{lo j n:Int}(h:(10:Int) ^ j.toNat - 1=n):[x,V.int lo,V.int ((10:Int) ^ j.toNat - 1)] ++ []=[x,V.int lo,V.int n]:=by
 rw[h];rfl
theorem aFr{p:Aj→Bool}{ds:List Aj}{i:Nat}{d:Aj}(h:ds[i]?=some d)(G:p d=false):ds.all p=false:=by
 cases e:ds.all p with
 | false=>rfl
 | true=>rw[AX.mp e d (AN h)]at G;cases G
theorem aG0:bB ["_law_thing"] ["_law_thing"] (aK kS):=⟨rfl,rfl,rfl,by decide,rfl,by decide,by decide⟩
theorem aFs{f:Af}{fd:Ax}(F:Fun K "_law_is_name" "_law_is_name" kS f fd)(T:Txt K mg):b8 P w K mg base CX0 1 f fd ["_law_thing"] eZ:=by
 refine F.ok aG0 (fun vs H Q E h=>?_) (fun ad A outer s H vs Q E hr h=>?_)
 ·obtain⟨m,x,d,rfl,_⟩:=h;rfl
 ·obtain⟨m,x,d,rfl,hx,k⟩:=h;have hu:=yP hr;have ae:(A.deeper (Dn "_law_is_name" (aK kS) s.heap.objs.size f ad)).units < cLine:=by omega
  refine⟨_,aE (bM (PW.pt (dU (cS (cN (aM cM (by rfl) T.isi (by kernel_rfl) (aB (pv 0) (aB (dI (v:=.ty "str") (by rfl) T.str (by kernel_rfl) rfl) aA)))))
    (dU (aP cH (aM dJ (by rfl) T.len Aq (aB (pv 0) aA)) aC (aU _)) (dP (aP nC (aM dJ (by rfl) T.len Aq (aB (pv 0) aA)) aC (aU _)))))) (aG (aN eV)) aV)
   (aG (aN (dC (aAS ae) (fV (N:=["_law_sign"]) (src:=[none]) (osc:=aK kS) (oN:=["_law_thing"]) ⟨by rfl,by decide,by decide,by decide,rfl,by rfl⟩ (wJ (pv 0))
    fun cl s H fp fe C=>⟨bJ (i:=0) (show(["_law_sign"]:List Str).Nodup by decide) rfl (Aw rfl),aBL (aP wF (pv 0) aJ (by with_unfolding_all rfl)),pv 0⟩) (dB aA) (aU _)))),?_⟩
  refine⟨_,rfl,_,"str",_,_,rfl,iD hx,fZ d,_,rfl,?_⟩;cases hd:kY d with
  | false=>
   have e:bC d=false:=by
    cases d with
    | str z=>simp[kY]at hd
    | _=>rfl
   rw[e]at k;exact k H (aT.refl H)
  | true=>
   obtain⟨z,rfl⟩:∃ z,d=.str z:=by
    cases d with
    | str z=>exact⟨z,rfl⟩
    | _=>simp[kY]at hd
   cases hx with
   | str z hz=>
    have k':∀ H',aT H H'→Q (.bl (bA z)) H':=k;have J:bA z=false→Q (.bl false) H:=fun h=>by
     have:=k' H (aT.refl H);rw[h]at this;exact this
    have zz:z.length≤sizeLine:=aF (by omega);refine bG ?_;refine⟨_,rfl,z,rfl,zz,rfl,_,rfl,c9 (fun Y=>?_) (fun Y=>?_)⟩
    ·have aa:(V.int (z.length:Int))=V.int 0:=Ie Y;have O:(z.length:Int)=0:=by injection aa
     refine J ?_;unfold bA;rw[decide_eq_false (by omega)];rfl
    ·have O:¬ (z.length:Int)=0:=fun e=>Y (Ic (by rw[e]));refine⟨_,rfl,z,rfl,zz,_,_,rfl,rfl,_,rfl,c9 (fun h1=>?_) (fun h1=>?_)⟩
     ·have W:(8:Int) < z.length:=Ie h1;refine J ?_;unfold bA;rw[decide_eq_false (by omega)];rfl
     ·have W:¬ (8:Int) < z.length:=fun e=>h1 (Ic e);refine⟨_,rfl,z,rfl,?_⟩;refine nV (fun i ys σ H'=>H'=H∧ys=(((z.cps.toList.take i).filter fun c=>!isL c).map fun c=>V.str ⟨#[c]⟩)∧∃ o,σ=[o]) ⟨rfl,rfl,none,rfl⟩ zz (fun i ys σ H' p=>by rw[p.2.1,Ac];exact AM (List.length_filter_le _ _) (by rw[AC];omega)) ?_ ?_
      ·rintro i c ys σ H' hc ⟨rfl,rfl,o,rfl⟩;have G:z.cps.toList[i]?=some c:=by simpa using hc
       dsimp only[cE];refine⟨_,rfl,_,_,rfl,rfl,_,rfl,?_⟩;rw[PySem.StrLaws.found_one,aGY];refine c9 (fun h2=>?_) (fun h2=>?_)
       ·refine⟨_,rfl,rfl,?_,_,rfl⟩;rw[A2,G,DT,Ar];have:(!isL c)=true:=h2;simp[this]
       ·refine⟨rfl,?_,_,rfl⟩;rw[A2,G,DT,Ar];have:(!isL c)=false:=by simpa using h2
        simp[this]
      ·rintro ys σ H' ⟨rfl,rfl,o,rfl⟩ D hD;have U:Dq z.cps.size z.cps.toList=z.cps.toList:=by rw[← AS];exact Bc
       rw[U];refine⟨Bs _,fun D2 Z=>?_⟩;have S1:=aH (o:=.lst ((z.cps.toList.filter fun c=>!isL c).map fun c=>V.str ⟨#[c]⟩)) hD;have S2:=aH (o:=.lst []) Z;refine⟨D,D2,_,_,rfl,rfl,aQ (S2 _ _ aD),aQ aD,?_,rfl,?_⟩
       ·rw[Dk,AX];intro c hc;rfl
       ·rw[aFn];have e:decide (((z.cps.toList.filter fun c=>!isL c).map fun c=>V.str ⟨#[c]⟩)=[])=bA z:=by
         unfold bA;rw[Ic (show 1≤z.length∧z.length≤8 by omega),AE,Bv,decide_eq_true_iff,EL,List.filter_eq_nil_iff,AX];constructor
         ·intro h c hc;have:=h c hc;simpa[isL]using this
         ·intro h c hc;have:=h c hc;simpa[isL]using this
        rw[e];exact k' _ (S1.trans S2)
theorem aFt:bB ["_law_thing","_law_bottom","_law_most"] ["_law_thing","_law_bottom","_law_most"] (aK wZ):=⟨rfl,rfl,rfl,by decide,rfl,by decide,by decide⟩
theorem aDw{f:Af}{fd:Ax}(F:Fun K "_law_whole" "_law_whole" wZ f fd)(T:Txt K mg):b8 P w K mg base CX0 1 f fd ["_law_thing","_law_bottom","_law_most"] gN:=by
 refine F.ok aFt (fun vs H Q E h=>?_) (fun Y A outer s H vs Q E Z h=>?_)
 ·obtain⟨m,x,d,lo,hi,rfl,_⟩:=h;rfl
 ·obtain⟨m,x,d,lo,hi,rfl,hx,k⟩:=h;refine⟨_,aG (aN (cT (aM cM (by rfl) T.isi (by kernel_rfl) (aB (pv 0) (aB (dI (v:=.ty "int") (by rfl) T.int (by kernel_rfl) rfl) aA)))
   (cT (aDH (aM cM (by rfl) T.isi (by kernel_rfl) (aB (pv 0) (aB (dI (v:=.ty "bool") (by rfl) T.bool (by kernel_rfl) rfl) aA)))) (dG (kF iJ iJ (pv 1) (pv 0) (pv 2)))))),?_⟩
  refine⟨_,rfl,_,"int",_,_,rfl,iD hx,aB7 d,_,rfl,c9 (fun g=>?_) (fun g=>?_)⟩
  ·refine⟨_,rfl,_,"bool",_,_,rfl,iD hx,aES d,_,rfl,_,rfl,c9 (fun O=>?_) (fun O=>?_)⟩
   ·obtain⟨i,rfl⟩:∃ i,d=.int i:=by
     cases d with
     | int i=>exact⟨i,rfl⟩
     | bool b=>simp[xF]at O
     | _=>simp[isInt]at g
    cases hx;refine⟨_,rfl,_,rfl,_,_,rfl,rfl,?_⟩;have J:Q (.bl (decide (lo≤i∧i≤hi))) H:=k;refine⟨_,rfl,c9 (fun W=>?_) (fun W=>?_)⟩
    ·have G:lo≤i:=Ie W;refine⟨_,rfl,_,_,rfl,rfl,?_⟩;show Q (.bl (decide (i≤hi))) H;rw[decide_eq_decide.mpr (show i≤hi↔lo≤i∧i≤hi from⟨fun z=>⟨G,z⟩,fun z=>z.2⟩)];exact J
    ·have G:¬ lo≤i:=fun z=>W (Ic z);rw[decide_eq_false (fun z=>G z.1)]at J;exact J
   ·have U:xF d=true:=by simpa using O
    have e:cB lo hi d=false:=by
     cases d with
     | bool b=>rfl
     | _=>simp[xF]at U
    rw[e]at k;exact k
  ·have U:isInt d=false:=by simpa using g
   have e:cB lo hi d=false:=by
    cases d with
    | int i=>simp[isInt]at U
    | _=>rfl
   rw[e]at k;exact k
theorem aDx:bB ["_law_thing"] ["_law_thing"] (aK tL):=⟨rfl,rfl,rfl,by decide,rfl,by decide,by decide⟩
theorem aBo{f:Af}{fd:Ax}(F:Fun K "_law_is_part" "_law_is_part" tL f fd)(T:Txt K mg)
  (Y:Cl P w K mg base 1 "_law_is_name" ["_law_thing"] eZ)
  (GW:Cl P w K mg base 1 "_law_whole" ["_law_thing","_law_bottom","_law_most"] gN)
  :b8 P w K mg base CX0 2 f fd ["_law_thing"] tP:=by
 refine F.ok aDx (fun vs H Q E h=>?_) (fun af A outer s H vs Q E hr h=>?_)
 ·obtain⟨m,x,d,rfl,_⟩:=h;rfl
 ·obtain⟨m,x,d,rfl,hx,k⟩:=h;have J:cJ 1 _:=hr;refine⟨_,(aE (bM (PW.pt (dU (cS (cN (aM cM (by rfl) T.isi (by kernel_rfl) (aB (pv 0) (aB (dI (v:=.ty "tuple") (by rfl) T.tuple (by kernel_rfl) rfl) aA))))) (dU (aP kD (aM aO (by rfl) T.len Aq (aB (pv 0) aA)) aC (aU _)) (dP (cS (cN (aW Y J (aB (aZ bU (pv 0) aC Ig) aA)))))))) (aG (aN eV)) aV)
   (aG (aN (cT (aW Y J (aB (aZ bU (pv 0) aC Ig) aA)) (dG (aW GW J (aB (aZ bU (pv 0) aC Ig) (aB aC (aB (aX gG aC aC) aA))))))))),?_⟩
  refine⟨_,rfl,_,"tuple",_,_,rfl,iD hx,jS d,_,rfl,?_⟩;cases hd:fB d with
  | false=>
   have e:dM d=false:=by
    cases d with
    | tuple ds=>simp[fB]at hd
    | _=>rfl
   rw[e]at k;exact k H (aT.refl H)
  | true=>
   obtain⟨ds,rfl⟩:∃ ds,d=.tuple ds:=by
    cases d with
    | tuple z=>exact⟨z,rfl⟩
    | _=>simp[fB]at hd
   cases hx with
   | @tup a xs _ e hl r=>
    have W:=r.len;refine bG ?_;refine⟨_,rfl,a,xs,rfl,.inr (aS e),rfl,_,rfl,?_⟩;by_cases O:xs.length=3
    ·rw[Ic (show V.int (xs.length:Int)=V.int 3 by rw[O];rfl)];refine bG ?_
     match xs,ds,O,r with
     | [x1,x2,x3],[d1,d2,d3],_,.cons r1 (.cons r2 (.cons r3 .nil))=>
      have U:∀ H',aT H H'→Q (.bl (bC d1 && bC d2 && cB 1 10000000 d3)) H':=k;refine⟨_,rfl,a,_,0,_,rfl,rfl,aS e,rfl,m,x1,d1,rfl,r1,fun H1 s1=>⟨_,rfl,?_⟩⟩;cases g:bC d1 with
      | false=>
       have q:=U H1 s1;rw[g]at q;exact bQ q
      | true=>
       refine bG ?_;refine⟨_,rfl,a,_,1,_,rfl,rfl,aS (s1 _ _ e),rfl,m,x2,d2,rfl,r2.same s1,fun H2 s2=>⟨_,rfl,?_⟩⟩;have G:=s1.trans s2;have q:=U H2 G;rw[g,AE]at q;cases Z:bC d2 with
       | false=>
        rw[Z]at q;exact bG q
       | true=>
        rw[Z,AE]at q;refine bQ ?_;exact⟨_,rfl,a,_,2,_,rfl,rfl,aS (G _ _ e),rfl,_,_,rfl,rfl,⟨by decide,by decide,by decide⟩,m,x3,d3,1,10000000,qY (by decide),r3.same G,q⟩
    ·rw[decide_eq_false (show¬ V.int (xs.length:Int)=V.int 3 from fun z=>O (by injection z with z;omega))];refine bQ ?_;have e2:dM (.tuple ds)=false:=by
      match ds,(show ds.length≠3 by omega)with
      | [],_=>rfl
      | [_],_=>rfl
      | [_,_],_=>rfl
      | [_,_,_],z=>exact absurd rfl z
      | _ :: _ :: _ :: _ :: _,_=>rfl
     rw[e2]at k;exact k H (aT.refl H)
theorem aCs:bB ["_law_things","_law_judge","_law_at","_law_thing","_law_names_here"] ["_law_things","_law_judge","_law_at"] (aK tM):=⟨rfl,rfl,rfl,by decide,rfl,by decide,by decide⟩
theorem aFu{f J U:Af}{fd Y O:Ax}(F:Fun K "_law_rise" "_law_rise" tM f fd)(T:Txt K mg)(aa:mg "sorted"=none)
  (GN:b8 P w K mg base CX0 1 J Y ["_law_thing"] eZ) (mN:mg "_law_is_name"=some (.ref J)) (kN:Az K (.ref J)=true) (bN:dH K Y ["_law_thing"] [])
  (GP:b8 P w K mg base CX0 2 U O ["_law_thing"] tP) (mP:mg "_law_is_part"=some (.ref U)) (kP:Az K (.ref U)=true) (bP:dH K O ["_law_thing"] [])
  :b8 P w K mg base CX0 3 f fd ["_law_things","_law_judge","_law_at"] (aFo J U):=by
 refine F.ok aCs (fun vs H Q E h=>?_) (fun ag A outer s H vs Q E hr h=>?_)
 ·obtain⟨m,x,d,at',rfl,_⟩:=h;rfl
 ·obtain⟨m,x,d,at',rfl,hx,k⟩:=h;have nd:=aCs.nd;have hu:=yP hr;have am:(A.deeper (Dn "_law_rise" (aK tM) s.heap.objs.size f ag)).units < cLine:=by omega
  have ap:cJ 2 _:=hr;refine⟨_,(aE (bM (PW.pt (dU (cS (cN (aM cM (by rfl) T.isi (by kernel_rfl) (aB (pv 0) (aB (dI (v:=.ty "tuple") (by rfl) T.tuple (by kernel_rfl) rfl) aA))))) (dP (cS (nF iJ iJ aC (aM aO (by rfl) T.len Aq (aB (pv 0) aA)) aC))))) (aG (aN eV)) aV)
   (aE (iT BF rfl (jJ (pv 0)) (g:=cE 3) (bJ (i:=3) nd rfl (Aw rfl))
   (aG (bM (cS (cN (yX (k:=2) (ps:=["_law_thing"]) (pv 1) ap (aB (pv 3) aA)))) (aG (aN eV)) aV)))
   (aE (jN (i:=4) (N:=["_law_thing","_law_at"]) (src:=[none,some 2]) (osc:=aK tM) (oN:=["_law_things","_law_judge","_law_at","_law_thing","_law_names_here"]) ⟨by rfl,by decide,by decide,by decide,rfl,by rfl⟩ nd rfl (jJ (pv 0)) (fun cl s H fp fe C=>⟨bJ (i:=0) (show(["_law_thing","_law_at"]:List Str).Nodup by decide) rfl (Aw rfl),fG,nA (cN (pv 1)) (aZ (r:=aHO K) bU (pv 0) aC Ig) (pv 0)⟩))
   (aG (aN (dC (aAS am) (pv 4) (aM (oB rfl) (by rfl) aa (by kernel_rfl) (aB (bV (vJ rfl) (by rfl) T.set (by kernel_rfl) (aB (pv 4) aA)) aA)) (aU _))))))),?_⟩
  refine⟨_,rfl,_,"tuple",_,_,rfl,iD hx,jS d,_,rfl,?_⟩;cases hd:fB d with
  | false=>
   have e:uE at' d=false:=by
    cases d with
    | tuple ds=>simp[fB]at hd
    | _=>cases at' <;> rfl
   rw[e]at k;exact bQ (k H (aT.refl H))
  | true=>
   obtain⟨ds,rfl⟩:∃ ds,d=.tuple ds:=by
    cases d with
    | tuple z=>exact⟨z,rfl⟩
    | _=>simp[fB]at hd
   cases hx with
   | @tup a xs _ e hl r=>
    have ac:=r.len;refine bG ?_;have Z:¬ (2≤ds.length∧ds.length≤6)→Q (.bl false) H:=fun h=>by
     have q:=k H (aT.refl H);rw[aCr h]at q;exact q
    refine⟨_,rfl,a,xs,rfl,.inr (aS e),_,_,rfl,rfl,_,rfl,?_⟩;by_cases g1:(2:Int)≤xs.length
    case neg=>
     rw[decide_eq_false g1];refine bG ⟨_,rfl,?_⟩;refine bQ ?_;exact Z (by omega)
    rw[Ic g1];refine bQ ?_;refine⟨_,_,rfl,rfl,_,rfl,?_⟩;by_cases g2:(xs.length:Int)≤6
    case neg=>
     rw[decide_eq_false g2];refine bQ ?_;exact Z (by omega)
    rw[Ic g2];refine bG ?_;obtain⟨sp,G,FG,fk,fb,go⟩:∃(sp:Sp) (G:Ax),b8 P w K mg base CX0 2 (if at'=true then U else J) G ["_law_thing"] sp∧Az K (.ref (if at'=true then U else J))=true∧dH K G ["_law_thing"] []∧∀(m:Bool) (x:V) (d:Aj) (H:Hp) (Q:VK) (E:XK),RdV m H x d→(∀ H',aT H H'→Q (.bl (aFp at' d)) H')→sp [x] H Q E:=by
     cases at' with
     | true=>exact⟨tP,O,GP,kP,bP,fun m x d H Q E r q=>⟨m,x,d,rfl,r,q⟩⟩
     | false=>exact⟨eZ,Y,GN.mono (by decide),kN,bN,fun m x d H Q E r q=>⟨m,x,d,rfl,r,q⟩⟩
    refine⟨_,rfl,a,rfl,⟨xs,aS e⟩,qL (K:=K) (xs:=xs) (fun i σ H'=>∃(o:Option V),σ=[some (.ref a),some (.ref (if at'=true then U else J)),some (.bl at'),o,none]∧aT H H'∧(ds.take i).all (aFp at')=true) ⟨none,rfl,aT.refl _,rfl⟩ (fun i σ H' _ h=>?_) ?_ ?_⟩
    ·obtain⟨_,_,s1,_⟩:=h;exact aS (s1 _ _ e)
    ·rintro i y σ H1 hy ⟨o,rfl,s1,h1⟩;dsimp only[cE];obtain⟨d',hd',r'⟩:=r.at hy;refine⟨_,rfl,_,sp,rfl,⟨G,FG,fk,fb⟩,⟨_,rfl,go m y d' H1 _ _ (r'.same s1) fun H2 s2=>⟨_,rfl,?_⟩⟩⟩;have ae:=s1.trans s2;cases g:aFp at' d' with
     | false=>
      refine bQ ?_;have q:=k H2 ae;rw[xV,aFr hd' g]at q;exact q
     | true=>
      refine bG ⟨_,rfl,ae,?_⟩;rw[A2,hd',List.all_append,h1];show(true && (aFp at' d' && true))=true;rw[g];rfl
    rintro σ H1 ⟨o,rfl,s1,h1⟩;rw[ac,Bc]at h1;refine⟨_,rfl,a,rfl,⟨xs,aS (s1 _ _ e)⟩,?_⟩;refine kM (xs:=xs) (fun i ys σ H'=>aT H H'∧ys=((ds.take i).map fun d=>V.str (uQ at' d))∧∃ o,σ=[o,some (.bl at')]) ⟨s1,rfl,none,rfl⟩ (aF (by omega)) (fun i ys σ H' p=>by rw[p.2.1,Ac,AC];omega) (fun i ys σ H' p=>aS (p.1 _ _ e)) ?_ ?_
    ·rintro i y ys σ H' hy ⟨S,rfl,o,rfl⟩;dsimp only[cE];obtain⟨d',hd',r'⟩:=r.at hy;have hj:=AX.mp h1 d' (AN hd');refine bQ ⟨_,rfl,_,rfl,?_⟩;have ad:∀ v:V,v=V.str (uQ at' d')→(aT H H'∧((ds.take i).map fun d=>V.str (uQ at' d)) ++ [v]=((ds.take (i + 1)).map fun d=>V.str (uQ at' d))∧∃ o,([some y,some (.bl at')]:L2.St)=[o,some (.bl at')]):=fun v hv=>⟨S,by rw[A2,hd',Ar,hv];rfl,_,rfl⟩
     cases at' with
     | true=>
      obtain⟨b,zs,rfl,hb,hat⟩:=vP (r'.same S) hj;exact bQ ⟨_,rfl,b,zs,0,_,rfl,rfl,aS hb,hat,ad _ rfl⟩
     | false=>
      refine bG ⟨_,rfl,ad _ ?_⟩;have hj:bC d'=true:=hj;cases d' with
      | str z=>cases r';rfl
      | _=>simp[bC]at hj
    rintro ys σ H2 ⟨S,rfl,o,rfl⟩ D hD;have ah:Dq xs.length ds=ds:=A3 (by omega);rw[ah];have em:(ds.map fun d=>V.str (uQ at' d))=(ds.map (uQ at')).map V.str:=by rw[Cg];rfl
    rw[em];have aj:(ds.map (uQ at')).length≤6:=by rw[Ac];omega
    have kk:∀ H',aT H H'→Q (.bl (dO (ds.map (uQ at')))) H':=fun H' s'=>by
     have q:=k H' s';rw[xV,h1,Ic (by omega),AE,AE]at q;exact q
    generalize ds.map (uQ at')=W at aj kk ⊢;have sD:=aH (o:=.lst (W.map V.str)) hD;have eD:upd H2 D (.lst (W.map V.str)) D=some (.lst (W.map V.str)):=aD;generalize upd H2 D _=H3 at sD eD ⊢;refine⟨_,rfl,_,rfl,D,W,rfl,.inl eD,by omega,fun S2 ak=>?_⟩;have sS:=aH (o:=aC1 P w S2 W) ak;refine⟨S2,W,rfl,aD,by omega,fun l ms ao hp hs=>?_⟩;have sl:=aH (o:=.lst (ms.map V.str)) ao;refine⟨D,l,_,_,rfl,rfl,aQ (sl _ _ (sS _ _ eD)),aQ aD,gJ W,gJ ms,?_⟩;rw[pO,tX hp hs];exact kk _ ((S.trans sD).trans (sS.trans sl))
theorem vX:bB ["_law_thing"] ["_law_thing"] (aK tN):=⟨rfl,rfl,rfl,by decide,rfl,by decide,by decide⟩
theorem aBp{f:Af}{fd:Ax}(F:Fun K "_law_is_placed" "_law_is_placed" tN f fd)(T:Txt K mg)
  (GN:Cl P w K mg base 1 "_law_is_name" ["_law_thing"] eZ)
  (GW:Cl P w K mg base 1 "_law_whole" ["_law_thing","_law_bottom","_law_most"] gN)
  :b8 P w K mg base CX0 2 f fd ["_law_thing"] aAr:=by
 refine F.ok vX (fun vs H Q E h=>?_) (fun au A outer s H vs Q E hr h=>?_)
 ·obtain⟨m,x,kind,d2,d3,d4,d5,d6,r,rfl,_⟩:=h;rfl
 ·obtain⟨m,x,kind,d2,d3,d4,d5,d6,r,rfl,rd,k⟩:=h;have nd:=vX.nd;have J:cJ 1 _:=hr;refine⟨_,(aE (bM (PW.pt (dU (cS (cN (aW GN J (aB (aZ bU (pv 0) aC Ig) aA)))) (dP (cS (cN (aW GW J (aB (aZ bU (pv 0) aC Ig) (aB aC (aB (aX mM (aX gG aC aC) aC) aA)))))))))  (aG (aN eV)) aV)
   (aE (bM (aP cH (aZ bU (pv 0) aC Ig) aJ (aU _)) (aG (aN (cT (dC cH (aM aO (by rfl) T.len Aq (aB (pv 0) aA)) aC (aU _)) (dG (aW GN J (aB (aZ bU (pv 0) aC Ig) aA)))))) aV)
   (aG (aN (cT (dC cH (aM aO (by rfl) T.len Aq (aB (pv 0) aA)) aC (aU _)) (cT (aW GW J (aB (aZ bU (pv 0) aC Ig) (aB aC (aB (aX gG aC aC) aA)))) (dG (aW GW J (aB (aZ bU (pv 0) aC Ig) (aB aC (aB (aX gG aC aC) aA))))))))))),?_⟩
  have cp:∀ j:Int,0≤j→j≤1000000→aFX 10 j:=fun j h1 h2=>⟨h1,h2,by decide⟩
  have p6:((10:Int) ^ CV 6)=1000000:=by decide
  have p7:((10:Int) ^ CV 7)=10000000:=by decide
  have p9:((10:Int) ^ CV 9)=1000000000:=by decide
  have ev:∀(l:List Aj),(bC d4 && cB 0 9999999 d5)=false→kZ (d4 :: d5 :: l)=false∧f6 (d4 :: d5 :: l)=false:=fun l h=>by
   constructor
   ·match l with
    | []=>rfl
    | [_]=>show(bC d4 && cB 0 9999999 d5 && _)=false;rw[h];rfl
    | _ :: _ :: _=>rfl
   ·match l with
    | []=>rfl
    | [_]=>rfl
    | [_,_]=>show(bC d4 && cB 0 9999999 d5 && _ && _)=false;rw[h];rfl
    | _ :: _ :: _ :: _=>rfl
  have O:(bC d4 && cB 0 9999999 d5)=false→∀ H',aT H H'→Q (.bl false) H':=fun h H' s'=>by
   have q:=k H' s';rw[(ev _ h).1,(ev _ h).2,ite_self]at q;exact q
  cases rd with
  | @tup a xs _ e hl G=>
  cases G with
  | @cons x1 _ _ _ r1 G=>
  cases G with
  | @cons x2 _ _ _ r2 G=>
  cases G with
  | @cons x3 _ _ _ r3 G=>
  cases G with
  | @cons Z _ _ _ r4 G=>
  cases G with
  | @cons x5 _ _ _ r5 G=>
  cases G with
  | @cons W _ xr _ r6 G=>
  have U:=G.len;cases r1;refine⟨_,rfl,a,_,3,_,rfl,rfl,aS e,bO (j:=3) rfl,m,Z,d4,rfl,r4,fun H1 s1=>⟨_,rfl,?_⟩⟩;cases g:bC d4 with
  | false=>exact bQ (O (by rw[g];rfl) H1 s1)
  | true=>
  refine bG ?_;refine⟨_,rfl,a,_,4,_,rfl,rfl,aS (s1 _ _ e),bO (j:=4) rfl,_,_,rfl,rfl,cp _ (by decide) (by decide),_,_,rfl,rfl,m,x5,d5,0,9999999,aFq (by decide),r5.same s1,_,rfl,?_⟩;cases g2:cB 0 9999999 d5 with
  | false=>exact bQ (O (by rw[g,g2];rfl) H1 s1)
  | true=>
  refine bG ?_;refine⟨_,rfl,a,_,0,_,rfl,rfl,aS (s1 _ _ e),bO (j:=0) rfl,rfl,_,rfl,?_⟩;by_cases Y:kind="view"
  ·rw[Ic (show V.str kind=V.str "view" by rw[Y])];rw[Ib Y]at k;refine bQ ?_;refine⟨_,rfl,a,_,rfl,.inr (aS (s1 _ _ e)),rfl,_,rfl,?_⟩
   match xr,r,U with
   | [],[],_=>
    refine bQ ?_;refine⟨_,rfl,a,_,5,_,rfl,rfl,aS (s1 _ _ e),bO (j:=5) rfl,m,W,d6,rfl,r6.same s1,fun H2 s2=>?_⟩;have q:=k H2 (s1.trans s2);rw[show kZ [d4,d5,d6]=(bC d4 && cB 0 9999999 d5 && bC d6) from rfl,g,g2]at q;exact q
   | y :: ys,d :: ds,_=>
    rw[decide_eq_false (show¬ V.int (((V.str kind :: x2 :: x3 :: Z :: x5 :: W :: y :: ys).length:Nat):Int)=V.int 6 from fun z=>by injection z with z;simp only[Ak]at z;omega)];refine bG ?_;exact k H1 s1
  ·rw[decide_eq_false (show¬ V.str kind=V.str "view" from fun h=>by injection h with h;exact Y h)];rw[Ia Y]at k;refine bG ?_;refine⟨_,rfl,a,_,rfl,.inr (aS (s1 _ _ e)),rfl,_,rfl,?_⟩
   match xr,r,U,G with
   | [y],[d],_,.cons r7 .nil=>
    refine bQ ?_;refine⟨_,rfl,a,_,5,_,rfl,rfl,aS (s1 _ _ e),bO (j:=5) rfl,_,_,rfl,rfl,cp _ (by decide) (by decide),m,W,d6,0,1000000000,qY (by decide),r6.same s1,_,rfl,?_⟩;have q:=k H1 s1;rw[show f6 [d4,d5,d6,d]=(bC d4 && cB 0 9999999 d5 && cB 0 1000000000 d6 && cB 0 1000000 d) from rfl,g,g2,AE,AE]at q;cases g3:cB 0 1000000000 d6 with
    | false=>
     rw[g3]at q;exact bG q
    | true=>
     rw[g3]at q;refine bQ ?_;exact⟨_,rfl,a,_,6,_,rfl,rfl,aS (s1 _ _ e),bO (j:=6) rfl,_,_,rfl,rfl,cp _ (by decide) (by decide),m,y,d,0,1000000,qY (by decide),r7.same s1,q⟩
   | [],[],_,_=>
    refine bG ?_;exact k H1 s1
   | y :: y2 :: ys,d :: d' :: ds,_,_=>
    rw[decide_eq_false (show¬ V.int (((V.str kind :: x2 :: x3 :: Z :: x5 :: W :: y :: y2 :: ys).length:Nat):Int)=V.int 7 from fun z=>by injection z with z;simp only[Ak]at z;omega)];refine bG ?_;exact k H1 s1
theorem aAs:bB ["_law_thing","_law_word"] ["_law_thing"] (aK w5):=⟨rfl,rfl,rfl,by decide,rfl,by decide,by decide⟩
theorem aDy{f fN fW fL fR fP:Af}{fd bi bc bh aL:Ax}(F:Fun K "_law_is_row" "_law_is_row" w5 f fd)(T:Txt K mg)(mP:mg "_law_is_part"=some (.ref fP))
  (GN:b8 P w K mg base CX0 1 fN bi ["_law_thing"] eZ) (mN:mg "_law_is_name"=some (.ref fN)) (kN:Az K (.ref fN)=true) (bN:dH K bi ["_law_thing"] [])
  (GW:b8 P w K mg base CX0 1 fW bc ["_law_thing","_law_bottom","_law_most"] gN) (mW:mg "_law_whole"=some (.ref fW)) (kW:Az K (.ref fW)=true) (bW:dH K bc ["_law_thing","_law_bottom","_law_most"] [])
  (GL:b8 P w K mg base CX0 2 fL bh ["_law_thing"] aAr) (mL:mg "_law_is_placed"=some (.ref fL)) (kL:Az K (.ref fL)=true) (bL:dH K bh ["_law_thing"] [])
  (GR:b8 P w K mg base CX0 3 fR aL ["_law_things","_law_judge","_law_at"] (aFo fN fP)) (mR:mg "_law_rise"=some (.ref fR)) (kR:Az K (.ref fR)=true) (bR:dH K aL ["_law_things","_law_judge","_law_at"] [])
  :b8 P w K mg base CX0 4 f fd ["_law_thing"] qR:=by
 refine F.ok aAs (fun vs H Q E h=>?_) (fun ck A outer s H vs Q E hr h=>?_)
 ·obtain⟨m,x,d,rfl,_⟩:=h;rfl
 ·obtain⟨m,x,d,rfl,hx,k⟩:=h;have nd:=aAs.nd;have aI:cJ 3 _:=hr;have b2:cJ 2 _:=hr.mono (by decide);have O:cJ 1 _:=hr.mono (by decide);refine⟨_,(aE (bM (PW.pt (dU (cS (cN (aM cM (by rfl) T.isi (by kernel_rfl) (aB (pv 0) (aB (dI (v:=.ty "tuple") (by rfl) T.tuple (by kernel_rfl) rfl) aA))))) (dU (aP yE (aM aO (by rfl) T.len Aq (aB (pv 0) aA)) aC (aU _)) (dP (cS (cN (aM cM (by rfl) T.isi (by kernel_rfl) (aB (aZ bU (pv 0) aC Ig) (aB (dI (v:=.ty "str") (by rfl) T.str (by kernel_rfl) rfl) aA))))))))) (aG (aN eV)) aV)
   (aE (bM (PW.pt (dU (cS (cN (d8 GN O rfl mN kN bN .nil gR (aB (aZ bU (pv 0) aC Ig) aA)))) (dP (cS (cN (d8 GW O rfl mW kW bW .nil gR (aB (aZ bU (pv 0) aC Ig) (aB aC (aB aC aA))))))))) (aG (aN eV)) aV)
   (aE (aY (i:=1) nd rfl (Aw rfl) (aZ bU (pv 0) aC Ig))
   (aE (bM (aP cH (pv 1) aJ (aU _)) (aG (aN (cT (dC cH (aM aO (by rfl) T.len Aq (aB (pv 0) aA)) aC (aU _)) (dG (d8 GN O rfl mN kN bN .nil gR (aB (aZ bU (pv 0) aC Ig) aA)))))) aV)
   (aE (bM (aP lE (pv 1) (cG (aB aJ (aB aJ aA))) (by with_unfolding_all rfl)) (aG (aN (cT (dC nC (aM aO (by rfl) T.len Aq (aB (pv 0) aA)) aC (aU _)) (dG (d8 GL b2 rfl mL kL bL .nil gR (aB (pv 0) aA)))))) aV)
   (aE (bM (aP kD (aM aO (by rfl) T.len Aq (aB (pv 0) aA)) aC (aU _)) (aG (aN eV)) aV)
   (aE (bM (aP cH (pv 1) aJ (aU _)) (aG (aN (cT (d8 GN O rfl mN kN bN .nil gR (aB (aZ bU (pv 0) aC Ig) aA)) (dG (d8 GR aI rfl mR kR bR .nil gR (aB (aZ bU (pv 0) aC Ig) (aB (bZ (v:=.ref fP) (by rfl) mP rfl) (aB eV aA)))))))) aV)
   (aE (bM (aP cH (pv 1) aJ (aU _)) (aG (aN (cT (d8 GR aI rfl mR kR bR .nil gR (aB (aZ bU (pv 0) aC Ig) (aB (bZ (v:=.ref fN) (by rfl) mN rfl) (aB eV aA)))) (dG (d8 GN O rfl mN kN bN .nil gR (aB (aZ bU (pv 0) aC Ig) aA)))))) aV)
   (aE (bM (aP cH (pv 1) aJ (aU _)) (aG (aN (cT (d8 GN O rfl mN kN bN .nil gR (aB (aZ bU (pv 0) aC Ig) aA)) (dG (d8 GW O rfl mW kW bW .nil gR (aB (aZ bU (pv 0) aC Ig) (aB aC (aB (aX gG aC aC) aA)))))))) aV)
   (aE (bM (PW.pt (dU (aP gW (pv 1) (cG (aB aJ (aB aJ aA))) (by with_unfolding_all rfl)) (dU (cS (cN (d8 GN O rfl mN kN bN .nil gR (aB (aZ bU (pv 0) aC Ig) aA)))) (dP (cS (cN (d8 GN O rfl mN kN bN .nil gR (aB (aZ bU (pv 0) aC Ig) aA)))))))) (aG (aN eV)) aV)
   (aG (aN (aIM (dC cH (pv 1) aJ (aU _)) (dG (dC kD (aZ bU (pv 0) aC Ig) (aZ bU (pv 0) aC Ig) (aU _)))))))))))))))),?_⟩
  have cp:∀ j:Int,0≤j→j≤1000000→aFX 10 j:=fun j h1 h2=>⟨h1,h2,by decide⟩
  refine⟨_,rfl,_,"tuple",_,_,rfl,iD hx,jS d,_,rfl,?_⟩;cases hd:fB d with
  | false=>
   have e:fQ d=false:=by
    cases d with
    | tuple ds=>simp[fB]at hd
    | _=>rfl
   rw[e]at k;exact k H (aT.refl H)
  | true=>
  obtain⟨ds,rfl⟩:∃ ds,d=.tuple ds:=by
   cases d with
   | tuple z=>exact⟨z,rfl⟩
   | _=>simp[fB]at hd
  cases hx with
  | @tup a xs _ e hl r=>
  have ai:=r.len;refine bG ?_;refine⟨_,rfl,a,xs,rfl,.inr (aS e),_,_,rfl,rfl,_,rfl,?_⟩;by_cases hn:(xs.length:Int) < 4
  ·rw[Ic hn];refine bQ ?_;rw[qX (by omega)]at k;exact k H (aT.refl H)
  rw[decide_eq_false hn];refine bG ?_
  match xs,ds,r,ai,hn with
  | [],_,_,_,z=>exact absurd (by decide) z
  | [_],_,_,_,z=>exact absurd (show(1:Int) < 4 by decide) z
  | [_,_],_,_,_,z=>exact absurd (show(2:Int) < 4 by decide) z
  | [_,_,_],_,_,_,z=>exact absurd (show(3:Int) < 4 by decide) z
  | x1 :: x2 :: x3 :: x4 :: xs,d1 :: d2 :: d3 :: G :: ds,.cons r1 (.cons r2 (.cons r3 (.cons W rr))),ai,hn=>
  have bf:=rr.len;refine⟨_,rfl,a,_,0,_,rfl,rfl,aS e,bO (j:=0) rfl,_,"str",_,_,rfl,iD r1,fZ d1,_,rfl,?_⟩;cases hk:kY d1 with
  | false=>
   rw[vR hk]at k;exact k H (aT.refl H)
  | true=>
  obtain⟨kind,rfl⟩:∃ z,d1=.str z:=by
   cases d1 with
   | str z=>exact⟨z,rfl⟩
   | _=>simp[kY]at hk
  have r0:=r1;cases r1;refine bG ?_;have k':∀ H',aT H H'→Q (.bl (decide (kind∈cC) && (bC d2 && (cB 0 9999 d3 && dF kind (G :: ds))))) H':=k;refine⟨_,rfl,a,_,1,_,rfl,rfl,aS e,bO (j:=1) rfl,m,x2,d2,rfl,r2,fun H1 s1=>⟨_,rfl,?_⟩⟩;cases g:bC d2 with
  | false=>
   have q:=k' H1 s1;rw[g,Bg,AI]at q;exact bQ q
  | true=>
  refine bG ?_;refine⟨_,rfl,a,_,2,_,rfl,rfl,aS (s1 _ _ e),bO (j:=2) rfl,m,x3,d3,0,9999,rfl,r3.same s1,_,rfl,?_⟩;cases g2:cB 0 9999 d3 with
  | false=>
   have q:=k' H1 s1;rw[g2,Bg,AI,AI]at q;exact bQ q
  | true=>
  refine bG ?_;rw[g,g2,AE,AE]at k';have k1:∀ H',aT H1 H'→Q (.bl (decide (kind∈cC) && dF kind (G :: ds))) H':=fun H' s'=>k' H' (s1.trans s');have J:=s1 _ _ e;have rf:RdV m H1 (.ref a) (.tuple (.str kind :: d2 :: d3 :: G :: ds)):=(RdV.tup e hl (.cons r0 (.cons r2 (.cons r3 (.cons W rr))))).same s1;have W:=W.same s1;have rr:=rr.same s1;clear k k' r r0 r2 r3;generalize H1=H0 at k1 J W rr rf ⊢;refine⟨_,rfl,a,_,0,_,rfl,rfl,aS J,bO (j:=0) rfl,?_⟩;have ne:∀{u:Str},kind≠u→¬ V.str kind=V.str u:=fun h e=>by injection e with e;exact h e
  refine⟨_,rfl,rfl,_,rfl,?_⟩;by_cases ha:kind="alone"
  ·subst ha;rw[Ic (show V.str "alone"=V.str "alone" from rfl)];refine bQ ?_;have U:∀ H',aT H0 H'→Q (.bl (lA (G :: ds))) H':=k1;refine⟨_,rfl,a,_,rfl,.inr (aS J),rfl,_,rfl,?_⟩
   match xs,ds,bf with
   | [],[],_=>
    refine bQ ?_;exact⟨_,rfl,a,_,3,_,rfl,rfl,aS J,bO (j:=3) rfl,m,x4,G,rfl,W,U⟩
   | y :: ys,d :: ds,_=>
    rw[decide_eq_false (show¬ V.int (((V.str "alone" :: x2 :: x3 :: x4 :: y :: ys).length:Nat):Int)=V.int 4 from fun z=>by injection z with z;simp only[Ak]at z;omega)];exact bG (U H0 (aT.refl _))
  rw[decide_eq_false (ne ha)];refine bG ?_;refine⟨_,rfl,zZ2,fun q hq=>?_⟩;have sq:=aH (o:=.tup [V.str "breach",.str "view"]) hq;refine⟨q,_,rfl,.inr (aS aD),rfl,rfl,_,rfl,?_⟩
  replace J:=sq _ _ J
  replace k1:∀ H',aT (upd H0 q (.tup [V.str "breach",.str "view"])) H'→Q (.bl (decide (kind∈cC) && dF kind (G :: ds))) H':=fun H' s'=>k1 H' (sq.trans s')
  replace W:=W.same sq
  replace rr:=rr.same sq
  replace rf:=rf.same sq
  generalize upd H0 q _=H2 at J k1 W rr rf ⊢;refine c9 (fun gb=>?_) (fun gb=>?_)
  ·have hb:kind="breach"∨kind="view":=by
    have h0:("breach":Str)=kind∨("view":Str)=kind:=by simpa[inV,eqV]using gb
    exact h0.imp FA FA
   have U:∀ H',aT H2 H'→Q (.bl (if kind="view" then kZ (G :: ds) else f6 (G :: ds))) H':=fun H' s'=>by
    have q:=k1 H' s';rcases hb with rfl | rfl
    ·exact q
    ·exact q
   refine⟨_,rfl,a,_,rfl,.inr (aS J),_,_,rfl,rfl,_,rfl,?_⟩;by_cases h5:2≤ds.length
   ·rw[Ic (show(5:Int) < (((V.str kind :: x2 :: x3 :: x4 :: xs).length:Nat):Int) by simp only[Ak];omega)];refine bQ ?_
    match ds,h5,rf,U with
    | d5 :: d6 :: dr,_,rf,U=>exact⟨_,rfl,.mk m _ kind d2 d3 G d5 d6 dr rfl rf U⟩
   ·rw[decide_eq_false (show¬ (5:Int) < (((V.str kind :: x2 :: x3 :: x4 :: xs).length:Nat):Int) by simp only[Ak];omega)];refine bG ?_;have q:=U H2 (aT.refl _);rw[z0 (by simp only[Ak];omega),tQ (by simp only[Ak];omega),ite_self]at q;exact q
  have ad:kind≠"breach"∧kind≠"view":=by
   have h0:¬ (("breach":Str)=kind∨("view":Str)=kind):=by simpa[inV,eqV]using gb
   exact⟨fun h=>h0 (.inl h.symm),fun h=>h0 (.inr h.symm)⟩
  refine⟨_,rfl,a,_,rfl,.inr (aS J),rfl,_,rfl,?_⟩;by_cases h5:ds.length=1
  case neg=>
   rw[decide_eq_false (show¬ V.int (((V.str kind :: x2 :: x3 :: x4 :: xs).length:Nat):Int)=V.int 5 from fun z=>by injection z with z;simp only[Ak]at z;omega)];refine bQ ?_;have q:=k1 H2 (aT.refl _);by_cases hw:kind∈cC
   ·rw[aGZ (by simp only[Ak];omega) ha ad.1 ad.2 hw,AI]at q;exact q
   ·rw[decide_eq_false hw]at q;exact q
  obtain⟨d5,rfl⟩:=Ep.mp h5;obtain⟨x5,rfl⟩:∃ x5,xs=[x5]:=Ep.mp (by rw[bf];rfl);cases rr with
  | cons r5 _=>
  rw[Ic (show V.int ((([V.str kind,x2,x3,x4,x5]:List V).length:Nat):Int)=V.int 5 from rfl)];refine bG ?_;refine⟨_,rfl,rfl,_,rfl,?_⟩;by_cases hp:kind="part"
  ·subst hp;rw[Ic (show V.str "part"=V.str "part" from rfl)];refine bQ ?_;have U:∀ H',aT H2 H'→Q (.bl (bC G && qB d5)) H':=k1;refine⟨_,rfl,a,_,3,_,rfl,rfl,aS J,bO (j:=3) rfl,m,x4,G,rfl,W,fun H3 Y=>⟨_,rfl,?_⟩⟩;cases Z:bC G with
   | false=>
    have q:=U H3 Y;rw[Z]at q;exact bG q
   | true=>
    refine bQ ?_;refine⟨_,rfl,a,_,4,_,rfl,rfl,aS (Y _ _ J),bO (j:=4) rfl,m,x5,d5,true,rfl,r5.same Y,fun H4 s4=>?_⟩;have q:=U H4 (Y.trans s4);rw[Z]at q;exact q
  rw[decide_eq_false (ne hp)];refine bG ?_;refine⟨_,rfl,rfl,_,rfl,?_⟩;by_cases hj:kind="join"
  ·subst hj;rw[Ic (show V.str "join"=V.str "join" from rfl)];refine bQ ?_;have U:∀ H',aT H2 H'→Q (.bl (lD G && bC d5)) H':=k1;refine⟨_,rfl,a,_,3,_,rfl,rfl,aS J,bO (j:=3) rfl,m,x4,G,false,rfl,W,fun H3 Y=>⟨_,rfl,?_⟩⟩;cases Z:uE false G with
   | false=>
    have q:=U H3 Y;rw[show lD G=false from Z]at q;exact bG q
   | true=>
    refine bQ ?_;refine⟨_,rfl,a,_,4,_,rfl,rfl,aS (Y _ _ J),bO (j:=4) rfl,m,x5,d5,rfl,r5.same Y,fun H4 s4=>?_⟩;have q:=U H4 (Y.trans s4);rw[show lD G=true from Z]at q;exact q
  rw[decide_eq_false (ne hj)];refine bG ?_;refine⟨_,rfl,rfl,_,rfl,?_⟩;by_cases hm:kind="measure"
  ·subst hm;rw[Ic (show V.str "measure"=V.str "measure" from rfl)];refine bQ ?_;have U:∀ H',aT H2 H'→Q (.bl (bC G && cB 0 10000000 d5)) H':=k1;refine⟨_,rfl,a,_,3,_,rfl,rfl,aS J,bO (j:=3) rfl,m,x4,G,rfl,W,fun H3 Y=>⟨_,rfl,?_⟩⟩;have q:=U H3 Y;cases Z:bC G with
   | false=>
    rw[Z]at q;exact bG q
   | true=>
    rw[Z]at q;refine bQ ?_;exact⟨_,rfl,a,_,4,_,rfl,rfl,aS (Y _ _ J),bO (j:=4) rfl,_,_,rfl,rfl,cp _ (by decide) (by decide),m,x5,d5,0,10000000,qY (by decide),r5.same Y,q⟩
  rw[decide_eq_false (ne hm)];refine bG ?_;refine⟨_,rfl,zZ2,fun q2 bT=>?_⟩;have ae:=aH (o:=.tup [V.str "forfeit",.str "mend"]) bT;refine⟨q2,_,rfl,.inr (aS aD),rfl,rfl,_,rfl,?_⟩
  replace J:=ae _ _ J
  replace k1:∀ H',aT (upd H2 q2 (.tup [V.str "forfeit",.str "mend"])) H'→Q (.bl (decide (kind∈cC) && dF kind [G,d5])) H':=fun H' s'=>k1 H' (ae.trans s')
  replace W:=W.same ae
  replace r5:=r5.same ae
  generalize upd H2 q2 _=H3 at J k1 W r5 ⊢;by_cases hf:kind="forfeit"∨kind="mend"
  case neg=>
   have gf:(if true=true then !inV (V.str kind) [V.str "forfeit",V.str "mend"] else inV (V.str kind) [V.str "forfeit",V.str "mend"])=true:=by
    have h0:¬ (("forfeit":Str)=kind∨("mend":Str)=kind):=fun h=>hf (h.imp FA FA);simpa[inV,eqV]using h0
   rw[gf];refine bQ ?_;have q:=k1 H3 (aT.refl _);have hw:kind ∉ cC:=fun h=>by
    unfold cC at h;simp only[Ap,AF,or_false]at h;rcases h with h | h | h | h | h | h | h | h
    ·exact hp h
    ·exact hj h
    ·exact hf (.inl h)
    ·exact hm h
    ·exact hf (.inr h)
    ·exact ha h
    ·exact ad.1 h
    ·exact ad.2 h
   rw[decide_eq_false hw]at q;exact q
  have gf:(if true=true then !inV (V.str kind) [V.str "forfeit",V.str "mend"] else inV (V.str kind) [V.str "forfeit",V.str "mend"])=false:=by
   rcases hf with rfl | rfl <;> decide
  rw[gf];refine bG ?_;have U:∀ H',aT H3 H'→Q (.bl (if kind="forfeit" then fE [G,d5] else lB [G,d5])) H':=fun H' s'=>by
   have q:=k1 H' s';rcases hf with rfl | rfl
   ·exact q
   ·exact q
  have ah:¬ (bC G=true∧bC d5=true)→∀ H',aT H3 H'→Q (.bl false) H':=fun h H' s'=>by
   have q:=U H' s';have hb:¬ ([G,d5]:List Aj).all bC=true:=fun z=>by
    simp only[CB,List.all_nil,EV,Ay]at z;exact h z
   rw[show fE [G,d5]=([G,d5]:List Aj).all bC from rfl,Ff _ |>.mp hb,oM fun z=>hb z.2,ite_self]at q;exact q
  refine⟨_,rfl,a,_,3,_,rfl,rfl,aS J,bO (j:=3) rfl,m,x4,G,rfl,W,fun H4 s4=>⟨_,rfl,?_⟩⟩;cases Z:bC G with
  | false=>exact bQ (ah (by rw[Z];exact fun z=>nomatch z.1) H4 s4)
  | true=>
  refine bG ?_;refine⟨_,rfl,a,_,4,_,rfl,rfl,aS (s4 _ _ J),bO (j:=4) rfl,m,x5,d5,rfl,r5.same s4,fun H5 s5=>⟨_,rfl,?_⟩⟩;have ag:=s4.trans s5;cases g5:bC d5 with
  | false=>exact bQ (ah (by rw[g5];exact fun z=>nomatch z.2) H5 ag)
  | true=>
  refine bG ?_;have q:=U H5 ag;refine⟨_,rfl,rfl,_,rfl,?_⟩;by_cases h7:kind="forfeit"
  ·rw[Ic (show V.str kind=V.str "forfeit" by rw[h7])];refine bQ ?_;rw[Ib h7,show fE [G,d5]=([G,d5]:List Aj).all bC from rfl,CB,CB,Z,g5]at q;exact q
  ·rw[decide_eq_false (ne h7)];refine bG ?_;rw[Ia h7]at q;cases G with
   | str z4=>
    cases d5 with
    | str z5=>
     cases W;cases r5;refine⟨_,rfl,a,_,3,_,rfl,rfl,aS (ag _ _ J),bO (j:=3) rfl,_,rfl,a,_,4,_,rfl,rfl,aS (ag _ _ J),bO (j:=4) rfl,rfl,?_⟩;have ef:lB [.str z4,.str z5]=!decide (V.str z4=V.str z5):=by
      show(bA z4 && bA z5 && !decide (z4=z5))=_;rw[show bA z4=true from Z,show bA z5=true from g5];by_cases hz:z4=z5
      ·subst hz;simp
      ·rw[decide_eq_false hz,decide_eq_false (fun e=>hz (by injection e))];rfl
     rw[ef]at q;exact q
    | _=>simp[bC]at g5
   | _=>simp[bC]at Z
theorem aBq{lo st:Int}{n:Nat}{g:TG}{tb:TS}{D:kC}{σ:L2.St}{H:Hp}(J:Nat→L2.St→Hp→Prop)(Z:J 0 σ H)
  (hs:∀ i σ H,i < n→J i σ H→g (.int (lo + i * st)) σ H fun U H2=>tb { D with nx:=J (i + 1),ct:=J (i + 1),bk:=D.nx } U H2) (hd:∀ σ H,J n σ H→D.nx σ H):
  ∃ W:Nat→Nat→L2.St→Hp→Prop,(∃ m,W 0 m σ H)∧∀ i m σ H,W i m σ H→
   ((aC4 lo st n).stop i H∧D.nx σ H)∨((aC4 lo st n).go i H∧∃ N:L2.St→Hp→Prop,(∀ O H',N O H'→∃ Y,Y < m∧W (i + 1) Y O H')∧∀ x H',(aC4 lo st n).yld i H x H'→g x σ H' fun U H2=>tb { D with nx:=N,ct:=N,bk:=D.nx } U H2):=by
 refine⟨fun i m σ H=>m=n - i∧i≤n∧J i σ H,⟨n,by simp,Bs _,Z⟩,?_⟩;rintro i m σ H ⟨rfl,hi,p⟩;by_cases G:i < n
 ·refine .inr ⟨G,J (i + 1),fun O H' p'=>⟨n - (i + 1),by omega,rfl,G,p'⟩,fun x H' y=>?_⟩;obtain⟨e,y⟩:=y;subst e y;exact hs i σ _ G p
 ·have e:i=n:=by omega
  subst e;exact .inl ⟨An _,hd σ H p⟩
def Fit(ws:List Str)(d:Aj):Prop:=fQ d=fQ (dZ ws)∧(fQ d=true→d=dZ ws)
theorem Fit.no{ws:List Str}{d:Aj}(h1:fQ d=false)(h2:fQ (dZ ws)=false):Fit ws d:=⟨by rw[h1,h2],fun h=>by rw[h1]at h;cases h⟩
theorem Fit.eq{ws:List Str}{d:Aj}(h:d=dZ ws):Fit ws d:=⟨by rw[h],fun _=>h⟩
theorem aFv{ds:List Aj}(h:ds.length≠3):dM (.tuple ds)=false:=by
 match ds,h with
 | [],_=>rfl
 | [_],_=>rfl
 | [_,_],_=>rfl
 | [_,_,_],z=>exact absurd rfl z
 | _ :: _ :: _ :: _ :: _,_=>rfl
theorem aJ9(a b c e:Str):wd [2] [a,b,c,e]=[.str a,.str b,dQ c,.str e]:=rfl
theorem aFw{r:List Str}(h:¬ ((("part":Str) :: r).length % 3=1∧9 < (("part":Str) :: r).length)):fQ (pR ("part" :: r))=false:=by
 match r,h with
 | [],_=>rfl
 | [b],_=>exact qX (show 3 < 4 by decide)
 | [b,c],_=>
  have O:∀ X:Aj,qC [X]=false:=fun X=>rfl;show(decide (("part":Str)∈cC) && (bC (.str b) && (cB 0 9999 (dQ c) && qC [.tuple ((AJ (nP [("part":Str),b,c])).map (chk [("part":Str),b,c]))])))=false;rw[O,AI,AI,AI]
 | b :: c :: e :: r,h=>
  generalize hw:(("part":Str) :: b :: c :: e :: r)=ws at h;have G:ws.length=r.length + 4:=by rw[← hw];rfl
  have J:ws.take 4=[("part":Str),b,c,e]:=by rw[← hw];rfl
  show fQ (.tuple (wd [2] (ws.take 4) ++ [.tuple ((AJ (nP ws)).map (chk ws))]))=false;rw[J,aJ9];show(decide (("part":Str)∈cC) && (bC (.str b) && (cB 0 9999 (dQ c) && (bC (.str e) && qB (.tuple ((AJ (nP ws)).map (chk ws)))))))=false;have key:qB (.tuple ((AJ (nP ws)).map (chk ws)))=false:=by
   show(((AJ (nP ws)).map (chk ws)).all dM && decide (2≤((AJ (nP ws)).map (chk ws)).length∧((AJ (nP ws)).map (chk ws)).length≤6) && _)=false;have hn:nP ws=(r.length + 2) / 3:=by unfold nP;rw[G];congr 1
   by_cases U:r.length % 3=0
   ·rw[decide_eq_false (by rw[Ac,Dh,hn];omega),AI,Bg]
   ·have ha:((AJ (nP ws)).map (chk ws)).all dM=false:=by
     refine aFr (i:=r.length / 3) (d:=chk ws (r.length / 3)) ?_ ?_
     ·rw[AW,DK (by rw[hn];omega)];rfl
     ·refine aFv ?_;rw[jW,AC,Bk,G];omega
    rw[ha,Bg,Bg]
  rw[key,AI,AI,AI,AI]
theorem aFx{ws:List Str}{i:Nat}{x y z:Str}(h1:ws[4 + 3 * i]?=some x)(h2:ws[4 + 3 * i + 1]?=some y)(G:ws[4 + 3 * i + 2]?=some z):chk ws i=.tuple [.str x,.str y,dQ z]:=by
 have l:4 + 3 * i + 2 < ws.length:=(AZ.mp G).1;have e:(ws.drop (4 + 3 * i)).take 3=[x,y,z]:=by
  rw[Cb (by omega),Cb (by omega),Cb (by omega)];rw[Ai (by omega)]at h1 h2 G;injection h1 with h1;injection h2 with h2;injection G with G;show[ws[4 + 3 * i],ws[4 + 3 * i + 1],ws[4 + 3 * i + 1 + 1]]=_;rw[h1,h2];congr 3
 unfold chk;rw[e];rfl
theorem aFy{ws:List Str}(h:¬ (6 < ws.length∧∃ a b c R w,ws=[a,b,c] ++ R ++ [("as":Str),w])):fQ (jY ws)=false:=by
 by_cases O:ws.length < 5
 ·rw[uD O];rfl
 obtain⟨a,b,c,R,v,w,rfl⟩:=aIw (ws:=ws) (by omega);rw[jH];split
 ·rename_i G;subst G;have U:R.length < 2:=by
   refine Nat.lt_of_not_le fun h2=>h ⟨?_,a,b,c,R,w,rfl⟩;simp only[Av,Ak,DE];omega
  show(match (Ca [.str a,.str b,dQ c,.tuple (R.map Ba),.str w])with | .tuple (.str kind :: name :: day :: bF)=>decide (kind∈cC) && (bC name && (cB 0 9999 day && dF kind bF)) | _=>false)=false;show(decide (a∈cC) && (bA b && (cB 0 9999 (dQ c) && dF a [.tuple (R.map Ba),.str w])))=false;have key:dF a [.tuple (R.map Ba),.str w]=false:=by
   have J:lD (.tuple (R.map Ba))=false:=aCr (at':=false) (by rw[Ac];omega);unfold dF
   repeat' split
   ·rfl
   ·show(lD (.tuple (R.map Ba)) && _)=false;rw[J];rfl
   all_goals rfl
  rw[key,AI,AI,AI]
 ·rfl
def pT(w0:Str)(r:List Str):List Aj:=if 2≤r.length then wd (2 :: bE w0) (w0 :: r) else(w0 :: r).map Ba ++ [.str ""]
theorem aG1{w0:Str}{r:List Str}(h1:w0≠"part")(h2:w0≠"join"):Fit (w0 :: r) (.tuple (pT w0 r)):=by
 have ep:dZ (w0 :: r)=if w0∈cC then .tuple (wd (2 :: bE w0) (w0 :: r)) else .none:=by
  show(if w0="part" then _ else if w0="join" then _ else _)=_;rw[Ia h1,Ia h2];rfl
 unfold pT;split
 ·rename_i O;by_cases J:w0∈cC
  ·exact Fit.eq (by rw[ep,Ib J])
  ·refine Fit.no ?_ (by rw[ep,Ia J];rfl)
   match r,O with
   | b :: c :: r,_=>
    have U:wd (2 :: bE w0) (w0 :: b :: c :: r)=(if ((0:Nat):Int)∈2 :: bE w0 then dQ w0 else .str w0) :: (wd (2 :: bE w0) (w0 :: b :: c :: r)).tail:=by
     unfold wd;rw[Dr];rfl
    have W:¬ ((0:Nat):Int)∈2 :: bE w0:=by
     unfold bE
     repeat' split
     all_goals decide
    rw[Ia W]at U;have G:(wd (2 :: bE w0) (w0 :: b :: c :: r)).length=r.length + 3:=by rw[jW];rfl
    rw[U]at G ⊢
    match (wd (2 :: bE w0) (w0 :: b :: c :: r)).tail,G with
    | [],z=>simp at z
    | [_],z=>simp at z
    | x :: y :: q,_=>
     show(decide (w0∈cC) && _)=false;rw[decide_eq_false J];rfl
 ·rename_i O;refine Fit.no (qX (by rw[Av,Ac,Ak];show r.length + 1 + 1 < 4;omega)) ?_;rw[ep];split
  ·exact qX (by rw[jW,Ak];omega)
  ·rfl
theorem aG2{w0:Str}{r:List Str}:(pT w0 r).length≤max (r.length + 1) 3:=by
 unfold pT;split
 ·rw[jW,Ak];omega
 ·simp;omega
theorem aIy{H:Hp}{w0:Str}{r:List Str}(h:∀ z∈w0 :: r,z.length≤1000):c7 false H ((pT w0 r).map dV) (pT w0 r):=by
 unfold pT;split
 ·exact aAj h
 ·rw[Ar,Cg];refine c7.app ?_ (.cons (.str _ (by decide)) .nil);exact xU h
theorem aIz{w0:Str}{r:List Str}{i:Nat}{z:Str}(h:(w0 :: r)[i]?=some z)(hi:4≤i):(pT w0 r)[i]?=some (if (i:Int)∈bE w0 then dQ z else .str z):=by
 have G:=(AZ.mp h).1;unfold pT;rw[Ib (by rw[Ak]at G;omega),aFf h];have:((i:Int)∈2 :: bE w0)↔((i:Int)∈bE w0):=by
  rw[Ap];exact⟨fun h=>h.resolve_left (by omega),.inr⟩
 simp only[this]
def aAt:List Str→V
 | _ :: c :: _=>mX c
 | _=>.str ""
theorem aFz{w0:Str}{r:List Str}:((pT w0 r).take 4).map dV=((w0 :: r).take 2).map V.str ++ [aAt r] ++ (((w0 :: r).drop 3).take 1).map V.str:=by
 have G:¬ ((0:Nat):Int)∈2 :: bE w0:=by
  unfold bE
  repeat' split
  all_goals decide
 have J:¬ ((1:Nat):Int)∈2 :: bE w0:=by
  unfold bE
  repeat' split
  all_goals decide
 have O:¬ ((3:Nat):Int)∈2 :: bE w0:=by
  unfold bE
  repeat' split
  all_goals decide
 match r with
 | []=>rfl
 | [b]=>rfl
 | [b,c]=>
  show([if ((0:Nat):Int)∈2 :: bE w0 then dQ w0 else .str w0,if ((1:Nat):Int)∈2 :: bE w0 then dQ b else .str b,if ((2:Nat):Int)∈2 :: bE w0 then dQ c else .str c]:List Aj).map dV=_;rw[Ia G,Ia J,Ib (by simp)];show[V.str w0,V.str b,dV (dQ c)]=_;rw[mY];rfl
 | b :: c :: e :: r=>
  have hw:(wd (2 :: bE w0) (w0 :: b :: c :: e :: r)).take 4=[if ((0:Nat):Int)∈2 :: bE w0 then dQ w0 else .str w0,if ((1:Nat):Int)∈2 :: bE w0 then dQ b else .str b,if ((2:Nat):Int)∈2 :: bE w0 then dQ c else .str c,if ((3:Nat):Int)∈2 :: bE w0 then dQ e else .str e]:=by
   unfold wd;rw[Dr,Dr,Dr,Dr];rfl
  show((wd (2 :: bE w0) (w0 :: b :: c :: e :: r)).take 4).map dV=_;rw[hw,Ia G,Ia J,Ib (by simp),Ia O];show[V.str w0,V.str b,dV (dQ c),V.str e]=_;rw[mY];rfl
theorem aAu:bB ["_law_line","_law_terms","_law_word","_law_day","_law_thing","_law_parts","_law_at","_law_numbers"] ["_law_line"] (aK xA):=⟨rfl,rfl,rfl,by decide,rfl,by decide,by decide⟩
theorem aDz{f:Af}{fd:Ax}(F:Fun K "_law_row_in" "_law_row_in" xA f fd)(Y:mg "len"=none)(ae:mg "tuple"=none)(bW:mg "int"=none)(ay:mg "range"=none)
  (GI:Cl P w K mg base 4 "_law_is_row" ["_law_thing"] qR)
  (GU:Cl P w K mg base 1 "_law_number_in" ["_law_word"] aCi)
  :b8 P w K mg base CX0 5 f fd ["_law_line"] pS:=by
 refine F.ok aAu (fun vs H Q E h=>?_) (fun d6 A outer s H vs Q E hr h=>?_)
 ·obtain⟨z,rfl,_⟩:=h;rfl
 ·obtain⟨z,rfl,hz,h60,ky,kn⟩:=h;have nd:=aAu.nd;have hu:=yP hr;have cz:cJ 4 _:=hr;have bq:cJ 1 _:=hr.mono (by decide);have hm:∀ n:Nat,n≤60→Ej 4 (n:Int) 3=true∧(((n - 4 + 2) / 3:Nat):Int)=B9 4 (n:Int) 3∧Dy ((n:Int) - 4) 3=false:=by decide
  obtain⟨hsm,hsz,hpl⟩:=hm (AD z " ").length h60;refine⟨_,(aE (aY (i:=1) nd rfl (Aw rfl) (gE Bj C6 C5 oF (pv 0) (aB aJ aA)))
   (aE (aY (i:=2) nd rfl (Aw rfl) (aZ bS (pv 1) aC Ig))
   (aE (aY (i:=3) nd rfl (Aw rfl) aJ)
   (aE (fO (bM (aP nC (aM aO (by rfl) Y Aq (aB (pv 1) aA)) aC (aU _)) (aG (aY (i:=3) nd rfl (Aw rfl) (aW GU bq (aB (aZ bS (pv 1) aC Ig) aA)))) aV))
   (aE (aY (i:=4) nd rfl (Aw rfl) (cG aA))
   (aE (fO (bM (PW.pt (gO (aP cH (pv 2) aJ (aU _)) (gO (aP cH (aX fK (aM aO (by rfl) Y Aq (aB (pv 1) aA)) aC) aC (aU _)) (gT (aP nC (aM aO (by rfl) Y Aq (aB (pv 1) aA)) aC (aU _)))))) (aE (aY (i:=5) nd rfl (Aw rfl) (dB aA))
    (aE (iT BF rfl (vL (lo:=4) (hi:=((AD z " ").length:Int)) (st:=3) (n:=nP (AD z " ")) (by decide) hsm hsz hpl rfl ay (aB aC (aB (aM aO (by rfl) Y Aq (aB (pv 1) aA)) (aB aC aA)))) (g:=cE 6) (bJ (i:=6) nd rfl (Aw rfl))
    (aG (iH (gE Bn DY DW oX (pv 5) (aB (cG (aB (aZ bS (pv 1) (pv 6) Ig) (aB (aZ bS (pv 1) (aX c8 (pv 6) aC) Ig) (aB (aW GU bq (aB (aZ bS (pv 1) (aX c8 (pv 6) aC) Ig) aA)) aA)))) aA)))))
    (aG (aY (i:=4) nd rfl (Aw rfl) (cG (aB aJ (aB (aZ bS (pv 1) aC Ig) (aB (pv 3) (aB (aZ bS (pv 1) aC Ig) (aB (bV dE (by rfl) ae (by kernel_rfl) (aB (pv 5) aA)) aA)))))))))) (aG (bM (PW.pt (gO (aP cH (pv 2) aJ (aU _)) (gO (aP nC (aM aO (by rfl) Y Aq (aB (pv 1) aA)) aC (aU _)) (gT (aP cH (aZ bS (pv 1) (rC mO aC) Ig) aJ (aU _)))))) (aG (aY (i:=4) nd rfl (Aw rfl) (cG (aB aJ (aB (aZ bS (pv 1) aC Ig) (aB (pv 3) (aB (bV dE (by rfl) ae (by kernel_rfl) (aB (bY d9 (pv 1) (cA aC) (cA (rC mO aC))) aA)) (aB (aZ bS (pv 1) (rC mO aC) Ig) aA)))))))) (aG (bM (aP gW (pv 2) (cG (aB aJ (aB aJ aA))) (by with_unfolding_all rfl)) (aE (aY (i:=4) nd rfl (Aw rfl) (aX n8 (aX n8 (bV dE (by rfl) ae (by kernel_rfl) (aB (bY d9 (pv 1) cU (cA aC)) aA)) (cG (aB (pv 3) aA))) (bV dE (by rfl) ae (by kernel_rfl) (aB (bY d9 (pv 1) (cA aC) (cA aC)) aA))))
      (aE (aY (i:=7) nd rfl (Aw rfl) (aD0 hu (aBK (i6 aJ (cG (aB aC aA)) (i6 aJ (cG (aB aC (aB aC (aB aC aA)))) (i6 aJ (cG (aB aC aA)) aBJ))) rfl rfl (by simp) (by decide)) (pv 2) (cG aA) ⟨rfl,rfl,rfl,rfl⟩))
      (aG (iT BF rfl (aCM rfl ay (aB aC (aB (aM aO (by rfl) Y Aq (aB (pv 1) aA)) aA))) (g:=cE 6) (bJ (i:=6) nd rfl (Aw rfl))
      (aG (aY (i:=4) nd rfl (Aw rfl) (aX n8 (pv 4) (cG (aB (aZ bS (dB (aB (aZ bS (pv 1) (pv 6) Ig) (aB (aW GU bq (aB (aZ bS (pv 1) (pv 6) Ig) aA)) aA))) (bV uV (by rfl) bW (by kernel_rfl) (aB (dC lE (pv 6) (pv 7) (by with_unfolding_all rfl)) aA)) Ig) aA))))))))) aV))))))
   (aE (bM (cN (aW GI cz (aB (pv 4) aA))) (aG (aN (pv 4))) aV)
   (aG (aN fM))))))))),?_⟩
  refine⟨_,rfl,rfl,⟨_,_,rfl,rfl,by decide,aF (n:=z.length + 2) (by omega),fun L hL=>?_⟩⟩;have J:∀ w∈AD z " ",w.length≤1000:=fun w hw=>AM (mZ z w hw) hz;have az:(AD z " ")≠[]:=fun e=>by have:=fJ z;rw[e]at this;cases this
  generalize AD z " "=ws at J az h60 ky kn hL ⊢;obtain⟨w0,bF,rfl⟩:∃ w0 bF,ws=w0 :: bF:=by
   cases ws with
   | nil=>exact absurd rfl az
   | cons a b=>exact⟨a,b,rfl⟩
  have af:bF.length + 1≤60:=h60;have sL:=aH (o:=.lst ((w0 :: bF).map V.str)) hL;have W:upd H L (.lst ((w0 :: bF).map V.str)) L=some (.lst ((w0 :: bF).map V.str)):=aD;generalize upd H L _=H1 at sL W ⊢;have G:(((w0 :: bF).map V.str).length:Int)=bF.length + 1:=by rw[Ac];rfl
  have U:∀(i:Nat) (z:Str),(w0 :: bF)[i]?=some z→atI ((w0 :: bF).map V.str) (i:Int)=some (.str z):=fun i z h=>bO (by rw[AW,h];rfl);have e0:atI ((w0 :: bF).map V.str) 0=some (.str w0):=U 0 _ rfl;refine⟨_,rfl,L,_,0,_,rfl,rfl,aQ W,e0,?_⟩;dsimp only[cE];refine⟨fun σ' H'=>σ'=[some (.str z),some (.ref L),some (.str w0),some (aAt bF),none,none,none,none]∧aT H1 H',?_,?_⟩
  ·refine⟨_,rfl,L,_,rfl,.inl (aQ W),_,_,rfl,rfl,_,rfl,?_⟩
   match bF,J,U,G with
   | b :: c :: r,J,U,G=>
    rw[Ic (show(2:Int) < (((w0 :: b :: c :: r).map V.str).length:Int) by rw[G];simp only[Ak];omega)];refine bQ ?_;exact⟨_,rfl,L,_,2,_,rfl,rfl,aQ W,U 2 _ rfl,.mk c rfl (by have:=J c (by simp);omega) fun H2 s2=>⟨rfl,s2⟩⟩
   | [b],_,_,_=>exact bG ⟨rfl,aT.refl _⟩
   | [],_,_,_=>exact bG ⟨rfl,aT.refl _⟩
  rintro σ' H2 ⟨rfl,s2⟩
  replace W:=s2 _ _ W
  replace sL:=sL.trans s2
  clear s2;refine⟨zZ0,fun t0 df=>?_⟩;have av:=aH (o:=.tup []) df;have br:upd H2 t0 (.tup []) t0=some (.tup []):=aD;generalize upd H2 t0 _=H3 at av br ⊢
  replace W:=av _ _ W
  replace sL:=sL.trans av
  clear av;dsimp only[cE];refine⟨fun σ' H'=>∃(t:Af) (d:Aj) (o5 o6 o7:Option V),σ'=[some (.str z),some (.ref L),some (.str w0),some (aAt bF),some (.ref t),o5,o6,o7]∧aT H H'∧RdV false H' (.ref t) d∧Fit (w0 :: bF) d,?_,?_⟩
  ·have ne:∀{u:Str},w0≠u→¬ V.str w0=V.str u:=fun h e=>by injection e with e;exact h e
   refine⟨_,rfl,rfl,_,rfl,?_⟩;have O:fQ (dZ (w0 :: bF))=false→∀ H4,aT H3 H4→∃(t:Af) (d:Aj) (o5 o6 o7:Option V),([some (.str z),some (.ref L),some (.str w0),some (aAt bF),some (.ref t0),none,none,none]:L2.St)=[some (.str z),some (.ref L),some (.str w0),some (aAt bF),some (.ref t),o5,o6,o7]∧aT H H4∧RdV false H4 (.ref t) d∧Fit (w0 :: bF) d:=fun h H4 s4=>⟨t0,.tuple [],none,none,none,rfl,sL.trans s4,.tup (s4 _ _ br) (by show 0≤1000;decide) .nil,Fit.no rfl h⟩
   have au:2≤sizeLine:=aF (by decide);by_cases hp:w0="part"
   ·subst hp;rw[Ic (show V.str "part"=V.str "part" from rfl)];refine bQ ?_;refine⟨_,rfl,L,_,rfl,.inl (aQ W),_,_,rfl,rfl,(show(0:Int) < 3 by decide),rfl,_,rfl,c9 (fun g3=>⟨_,rfl,L,_,rfl,.inl (aQ W),_,_,rfl,rfl,_,rfl,c9 (fun g9=>?main) (fun g9=>?_)⟩) (fun g3=>bG ?_)⟩
    case main=>
     have h3:(bF.length + 1) % 3=1:=by
      have:=V.int.inj (Ie g3);rw[G]at this;omega
     have h9:9 < bF.length + 1:=by
      have:=Ie g9;rw[G]at this;omega
     have hn:nP (("part":Str) :: bF)=(bF.length - 3) / 3:=by
      unfold nP;rw[Ak];omega
     refine⟨Bs _,fun Lp bN=>?_⟩;have sP:=aH (o:=.lst []) bN;refine⟨_,rfl,L,_,rfl,.inl (aQ (sP _ _ W)),by rw[Ac],aBq (n:=nP (("part":Str) :: bF)) (fun i σ H'=>∃(o6:Option V) (ys:List V),Aw3 (σ=[some (.str z),some (.ref L),some (.str "part"),some (aAt bF),some (.ref t0),some (.ref Lp),o6,none]) (aT H3 H') (Aw3 (H' Lp=some (.lst ys)) (ys.length=i) (c7 false H' ys ((AJ i).map (chk (("part":Str) :: bF)))))) ⟨none,[],rfl,sP,aD,rfl,.nil⟩ ?_ ?_⟩
     ·rintro i σ H4 hi ⟨o6,ys,rfl,s4,eP,ak,ry⟩;rw[hn]at hi;obtain⟨x,hx⟩:∃ x,(("part":Str) :: bF)[4 + 3 * i]?=some x:=⟨_,Ai (by rw[Ak];omega)⟩
      obtain⟨y,hy⟩:∃ x,(("part":Str) :: bF)[4 + 3 * i + 1]?=some x:=⟨_,Ai (by rw[Ak];omega)⟩
      obtain⟨v,hv⟩:∃ x,(("part":Str) :: bF)[4 + 3 * i + 2]?=some x:=⟨_,Ai (by rw[Ak];omega)⟩
      have ec:=aFx hx hy hv;have lx:=J _ (AN hx);have ly:=J _ (AN hy);have lv:=J _ (AN hv);have ac:=s4 _ _ W;dsimp only[cE];refine⟨_,rfl,.inl ⟨rfl,_,aQ eP⟩,_,rfl,_,rfl,L,_,_,_,rfl,rfl,aQ ac,(by rw[show(4 + (i:Int) * 3)=((4 + 3 * i:Nat):Int) by omega];exact U _ _ hx),_,rfl,_,rfl,_,_,rfl,rfl,L,_,_,_,rfl,rfl,aQ ac,(by rw[show(4 + (i:Int) * 3 + 1)=((4 + 3 * i + 1:Nat):Int) by omega];exact U _ _ hy),_,rfl,_,rfl,_,_,rfl,rfl,L,_,_,_,rfl,rfl,aQ ac,(by rw[show(4 + (i:Int) * 3 + 2)=((4 + 3 * i + 2:Nat):Int) by omega];exact U _ _ hv),.mk v rfl (by omega) fun H5 s5=>?_⟩;refine⟨zZ3,fun q hq=>?_⟩;have sq:=aH (o:=.tup [V.str x,.str y,mX v]) hq;have bf:=s5 _ _ eP;have nq:q≠Lp:=(bX bf hq).symm;refine⟨Lp,ys,_,rfl,rfl,sq _ _ bf,i7 (by omega),_,ys ++ [V.ref q],rfl,jD (s4.trans (s5.trans sq)) bN,aD,by rw[Av,ak];rfl,?_⟩;rw[DD,Ar];refine c7.app (((ry.same s5).same sq).keepF fun b o e _ du=>?_) (.cons ?_ .nil)
      ·rw[bD fun e2=>?_]
       ·exact e
       ·rw[e2,sq _ _ bf]at e;exact du _ (BD.inj e).symm
      ·rw[ec];refine .tup (by rw[bD nq];exact aD) (by show 3≤1000;decide) (.cons (.str _ lx) (.cons (.str _ ly) (.cons ?_ .nil)));rw[← mY];exact xR v
     ·rintro σ H4 ⟨o6,ys,rfl,s4,eP,ak,ry⟩;have ac:=s4 _ _ W
      match bF,h9,J,U,ac,ak,ry,hn,af with
      | b :: c :: e :: r,_,J,U,ac,ak,ry,hn,af=>
      refine⟨_,rfl,L,_,1,_,rfl,rfl,aQ ac,U 1 b rfl,_,rfl,_,rfl,L,_,3,_,rfl,rfl,aQ ac,U 3 e rfl,_,rfl,Lp,ys,rfl,.inl ⟨aQ eP,fun tp bo=>⟨zZ5,fun t ht=>?_⟩⟩⟩;have ax:=aH (o:=.tup ys) bo;have st:=aH (o:=.tup [V.str "part",.str b,mX c,.str e,.ref tp]) ht;refine⟨t,pR (("part":Str) :: b :: c :: e :: r),_,_,_,rfl,sL.trans (s4.trans (ax.trans st)),?_,Fit.eq rfl⟩;refine .tup (xs:=[V.str "part",.str b,mX c,.str e,.ref tp]) aD (by show 5≤1000;decide) ?_;show c7 false _ _ [.str "part",.str b,dQ c,.str e,.tuple ((AJ (nP (("part":Str) :: b :: c :: e :: r))).map (chk (("part":Str) :: b :: c :: e :: r)))];refine .cons (.str _ (J _ (by simp))) (.cons (.str _ (J _ (by simp))) (.cons ?_ (.cons (.str _ (J _ (by simp))) (.cons (.tup (st _ _ aD) (by rw[ak,hn];simp only[Ak]at af ⊢;omega) (ry.same (ax.trans st))) .nil))));rw[← mY];exact xR c
    all_goals
     have hb:fQ (dZ (("part":Str) :: bF))=false:=aFw fun⟨u,v⟩=>by
      rw[Ak]at u v
      first
       | exact g9 (Ic (by rw[G];omega))
       | exact g3 (Ic (congrArg V.int (by rw[G];omega)))
     refine⟨_,rfl,rfl,_,rfl,?_⟩;rw[decide_eq_false (show¬ V.str "part"=V.str "join" by decide)];refine bG (bG ?_);refine⟨_,rfl,au,fun q hq=>⟨q,_,rfl,.inr (aS aD),rfl,rfl,_,rfl,?_⟩⟩;rw[show(if true=true then !inV (V.str "part") [V.str "part",V.str "join"] else inV (V.str "part") [V.str "part",V.str "join"])=false by decide];exact bG (O hb _ (aH hq))
   rw[decide_eq_false (ne hp)];refine bG (bG ?_);refine⟨_,rfl,rfl,_,rfl,?_⟩;by_cases hj:w0="join"
   ·subst hj;rw[Ic (show V.str "join"=V.str "join" from rfl)];refine bQ ?_;refine⟨_,rfl,L,_,rfl,.inl (aQ W),_,_,rfl,rfl,_,rfl,?_⟩;by_cases h6:6 < bF.length + 1
    case neg=>
     rw[decide_eq_false (show¬ (6:Int) < _ by rw[G];omega)];refine bG (bG ?_);have hb:fQ (dZ (("join":Str) :: bF))=false:=aFy fun⟨u,_⟩=>h6 u;refine⟨_,rfl,au,fun q hq=>⟨q,_,rfl,.inr (aS aD),rfl,rfl,_,rfl,?_⟩⟩;rw[show(if true=true then !inV (V.str "join") [V.str "part",V.str "join"] else inV (V.str "join") [V.str "part",V.str "join"])=false by decide];exact bG (O hb _ (aH hq))
    rw[Ic (show(6:Int) < _ by rw[G];omega)];refine bQ ?_;obtain⟨a,b,c,R,v,w',e⟩:=aIw (ws:=("join":Str) :: bF) (by rw[Ak];omega);have e2:("join":Str)=a∧bF=b :: c :: (R ++ [v,w']):=by simpa using e
    obtain⟨rfl,rfl⟩:=e2;have eW:(("join":Str) :: b :: c :: (R ++ [v,w'])).map V.str=[V.str "join",.str b,.str c] ++ R.map V.str ++ [.str v,.str w']:=by simp
    have an:=W;rw[eW]at an;refine⟨_,rfl,2,rfl,L,_,-2,_,rfl,rfl,aQ an,qV.1,rfl,_,rfl,?_⟩;by_cases hv:v="as"
    case neg=>
     rw[decide_eq_false (show¬ V.str v=V.str "as" from fun e=>by injection e with e;exact hv e)];refine bG ?_;have hb:fQ (dZ (("join":Str) :: b :: c :: (R ++ [v,w'])))=false:=by
      have:=jH "join" b c R v w';rw[Ia hv]at this;show fQ (jY (("join":Str) :: b :: c :: (R ++ [v,w'])))=false;rw[show("join":Str) :: b :: c :: (R ++ [v,w'])=[("join":Str),b,c] ++ R ++ [v,w'] by simp,this];rfl
     refine⟨_,rfl,au,fun q hq=>⟨q,_,rfl,.inr (aS aD),rfl,rfl,_,rfl,?_⟩⟩;rw[show(if true=true then !inV (V.str "join") [V.str "part",V.str "join"] else inV (V.str "join") [V.str "part",V.str "join"])=false by decide];exact bG (O hb _ (aH hq))
    rw[Ic (show V.str v=V.str "as" by rw[hv])];refine bQ ?_
    ·subst hv;have hR:∀ z∈R,z.length≤1000:=fun z h=>J z (by simp[h]);have d7:R.length≤60:=by simp at af;omega
     refine⟨_,rfl,L,_,1,_,rfl,rfl,aQ an,bO (j:=1) rfl,_,rfl,_,rfl,3,rfl,2,rfl,-2,rfl,L,_,rfl,aQ an,fun M hM=>?_⟩;rw[aCk];have sM:=aH (o:=.lst (R.map V.str)) hM;refine⟨M,_,rfl,.inl ⟨aQ aD,fun tp bo=>?_⟩⟩;have ax:=aH (o:=.tup (R.map V.str)) bo;have s5:=sM.trans ax;have bH:upd (upd H3 M (.lst (R.map V.str))) tp (.tup (R.map V.str)) tp=some (.tup (R.map V.str)):=aD;generalize upd (upd H3 M (.lst (R.map V.str))) tp _=H5 at s5 bH ⊢;refine⟨_,rfl,1,rfl,L,_,-1,_,rfl,rfl,aQ (s5 _ _ an),qV.2,zZ5,fun t ht=>?_⟩;have st:=aH (o:=.tup [V.str "join",.str b,mX c,.ref tp,.str w']) ht;refine⟨t,aCo "join" b c R w',none,none,none,rfl,sL.trans (s5.trans st),?_,Fit.eq ?_⟩
     ·refine .tup (xs:=[V.str "join",.str b,mX c,.ref tp,.str w']) aD (by show 5≤1000;decide) ?_;show c7 false _ _ [.str "join",.str b,dQ c,.tuple (R.map Ba),.str w'];refine .cons (.str _ (J _ (by simp))) (.cons (.str _ (J _ (by simp))) (.cons ?_ (.cons (.tup (st _ _ bH) (by rw[Ac];omega) (xU hR)) (.cons (.str _ (J _ (by simp))) .nil))));rw[← mY];exact xR c
     ·have:=jH "join" b c R "as" w';rw[Ib rfl]at this;exact this.symm
   rw[decide_eq_false (ne hj)];refine bG (bG ?_);refine⟨_,rfl,au,fun q hq=>⟨q,_,rfl,.inr (aS aD),rfl,rfl,_,rfl,?_⟩⟩;have gf:(if true=true then !inV (V.str w0) [V.str "part",V.str "join"] else inV (V.str w0) [V.str "part",V.str "join"])=true:=by
    have h0:¬ (("part":Str)=w0∨("join":Str)=w0):=fun h=>h.elim (fun e=>hp e.symm) (fun e=>hj e.symm);simpa[inV,eqV]using h0
   rw[gf];refine bQ ?_
   replace sL:=sL.trans (aH (o:=.tup [V.str "part",V.str "join"]) hq)
   replace W:=aH (o:=.tup [V.str "part",V.str "join"]) hq _ _ W
   clear O br gf;generalize upd H3 q _=H4 at sL W ⊢;refine⟨_,rfl,2,rfl,L,_,rfl,aQ W,fun M hM=>?_⟩;have ec:eJ ((w0 :: bF).map V.str) none (some 2)=((w0 :: bF).take 2).map V.str:=by rw[← CA.symm];exact iV (α:=Nat) ((w0 :: bF).map V.str) 2
   rw[ec];have sM:=aH (o:=.lst (((w0 :: bF).take 2).map V.str)) hM;refine⟨M,_,rfl,.inl ⟨aQ aD,fun t1 dh=>?_⟩⟩;have s1:=sM.trans (aH (o:=.tup (((w0 :: bF).take 2).map V.str)) dh);have e1:upd (upd H4 M (.lst (((w0 :: bF).take 2).map V.str))) t1 (.tup (((w0 :: bF).take 2).map V.str)) t1=some (.tup (((w0 :: bF).take 2).map V.str)):=aD;generalize upd (upd H4 M _) t1 _=H5 at s1 e1 ⊢;refine⟨_,rfl,zZ1,fun t2 bt=>?_⟩;have s2:=aH (o:=.tup [aAt bF]) bt;have l2:(((w0 :: bF).take 2).map V.str).length≤2:=by rw[Ac,AC];omega
   refine⟨t1,t2,_,_,rfl,rfl,s2 _ _ e1,aD,by show _ + 1≤1000000;omega,fun t3 H6 s3 e3=>?_⟩;have s6:=s1.trans (s2.trans s3);clear e1 s1 sM;refine⟨_,rfl,3,rfl,4,rfl,L,_,rfl,aQ (s6 _ _ W),fun M2 cw=>?_⟩;have cb:eJ ((w0 :: bF).map V.str) (some 3) (some 4)=(((w0 :: bF).drop 3).take 1).map V.str:=by
    rw[show(3:Int)=((3:Nat):Int) from rfl,show(4:Int)=((4:Nat):Int) from rfl,aCn,← ET,← CA]
   rw[cb];have bR:=aH (o:=.lst ((((w0 :: bF).drop 3).take 1).map V.str)) cw;refine⟨M2,_,rfl,.inl ⟨aQ aD,fun t4 cI=>?_⟩⟩;have s7:=bR.trans (aH (o:=.tup ((((w0 :: bF).drop 3).take 1).map V.str)) cI);have l4:((((w0 :: bF).drop 3).take 1).map V.str).length≤1:=by rw[Ac,AC];omega
   refine⟨t3,t4,_,_,rfl,rfl,s7 _ _ e3,aD,by rw[Av];show _ + 1 + _≤1000000;omega,fun t5 H8 s8 e5=>?_⟩;rw[← aFz]at e5;have bp:=s6.trans (s7.trans s8);clear e3 s6 s7 bR ec cb;clear s8;refine fun dd bI=>⟨zZ1,fun Z dl=>⟨zZ3,fun q2 dq=>⟨zZ1,fun q3 db=>?_⟩⟩⟩
   have a0:aT H8 (upd H8 dd (.dK [])):=aH bI;have a1:=aH (o:=.tup [V.int 4]) dl;have a2:=aH (o:=.tup [V.int 4,.int 5,.int 6]) dq;have a3:=aH (o:=.tup [V.int 4]) db;refine⟨(a1.trans (a2.trans a3)) _ _ aD,[(Am "measure",.ref Z),(Am "breach",.ref q2),(Am "view",.ref q3)],rfl,(by show 3≤15;decide),?_⟩;rw[show mS [] [((Am "measure":Key),V.ref Z),(Am "breach",.ref q2),(Am "view",.ref q3)]=[((Am "measure":Key),V.ref Z),(Am "breach",.ref q2),(Am "view",.ref q3)] from rfl];have b1:upd (upd (upd (upd H8 dd (.dK [])) Z (.tup [V.int 4])) q2 (.tup [V.int 4,.int 5,.int 6])) q3 (.tup [V.int 4]) Z=some (.tup [V.int 4]):=(a2.trans a3) _ _ aD;have b2:upd (upd (upd (upd H8 dd (.dK [])) Z (.tup [V.int 4])) q2 (.tup [V.int 4,.int 5,.int 6])) q3 (.tup [V.int 4]) q2=some (.tup [V.int 4,.int 5,.int 6]):=a3 _ _ aD;have b3:upd (upd (upd (upd H8 dd (.dK [])) Z (.tup [V.int 4])) q2 (.tup [V.int 4,.int 5,.int 6])) q3 (.tup [V.int 4]) q3=some (.tup [V.int 4]):=aD;have bd:=(a1.trans (a2.trans a3)) dd (.dK []) aD;have s9:=a0.trans (a1.trans (a2.trans a3));generalize upd (upd (upd (upd H8 dd (.dK [])) Z (.tup [V.int 4])) q2 (.tup [V.int 4,.int 5,.int 6])) q3 (.tup [V.int 4])=H9 at b1 b2 b3 bd s9 ⊢;have nk:∀{x:Af} {xs:List V},H9 x=some (.tup xs)→x≠dd:=fun h e=>by rw[e,bd]at h;cases h
   have c1:=nk b1;have c2:=nk b2;have c3:=nk b3;have bb:aT H8 (upd H9 dd (.dK [((Am "measure":Key),V.ref Z),(Am "breach",.ref q2),(Am "view",.ref q3)])):=jD s9 bI;have ed:upd H9 dd (.dK [((Am "measure":Key),V.ref Z),(Am "breach",.ref q2),(Am "view",.ref q3)]) dd=some (.dK [((Am "measure":Key),V.ref Z),(Am "breach",.ref q2),(Am "view",.ref q3)]):=aD
   replace b1:upd H9 dd (.dK [((Am "measure":Key),V.ref Z),(Am "breach",.ref q2),(Am "view",.ref q3)]) Z=some (.tup [V.int 4]):=by rw[bD c1];exact b1
   replace b2:upd H9 dd (.dK [((Am "measure":Key),V.ref Z),(Am "breach",.ref q2),(Am "view",.ref q3)]) q2=some (.tup [V.int 4,.int 5,.int 6]):=by rw[bD c2];exact b2
   replace b3:upd H9 dd (.dK [((Am "measure":Key),V.ref Z),(Am "breach",.ref q2),(Am "view",.ref q3)]) q3=some (.tup [V.int 4]):=by rw[bD c3];exact b3
   generalize upd H9 dd _=b9 at bb ed b1 b2 b3 ⊢;refine⟨dd,rfl,.inl ⟨_,.inl ed⟩,_,rfl,zZ0,fun q4 b0=>⟨_,.inl ⟨_,Am w0,.inl (aH b0 _ _ ed),rfl,rfl⟩,?_⟩⟩;have ai:=aH (o:=.tup []) b0;obtain⟨nb,hnb,enb⟩:∃ nb,(fS [((Am "measure":Key),V.ref Z),(Am "breach",.ref q2),(Am "view",.ref q3)] (Am w0)).getD (.ref q4)=.ref nb∧upd b9 q4 (.tup []) nb=some (.tup ((bE w0).map V.int)):=by
    by_cases h1:w0="measure"
    ·subst h1;exact⟨Z,rfl,ai _ _ b1⟩
    by_cases h2:w0="breach"
    ·subst h2;exact⟨q2,rfl,ai _ _ b2⟩
    by_cases h3:w0="view"
    ·subst h3;exact⟨q3,rfl,ai _ _ b3⟩
    have bi:∀{x:Str},w0≠x→¬ (Am x:Key)=Am w0:=fun h e=>h (Am.inj e).symm;refine⟨q4,?_,?_⟩
    ·rw[cP (bi h1),cP (bi h2),cP (bi h3)];rfl
    ·rw[show bE w0=[] from by unfold bE;exact(Ia (not_or.mpr ⟨h1,h3⟩)).trans (Ia h2)];exact aD
   rw[hnb];generalize upd b9 q4 (.tup [])=dk at ai enb ⊢;have ag:=bb.trans ai;have sA:=sL.trans (bp.trans ag)
   replace W:=(bp.trans ag) _ _ W
   replace e5:=ag _ _ e5
   clear b1 b2 b3 bd s9 bb ai ed ag bp;have eb:=aG2 (w0:=w0) (r:=bF);refine⟨_,rfl,L,_,rfl,.inl (aQ W),_,_,rfl,⟨by decide,by decide,by rw[G];omega,by rw[G];omega⟩,iX (lo:=4) (fun i σ H'=>∃(t:Af) (o6:Option V),σ=[some (.str z),some (.ref L),some (.str w0),some (aAt bF),some (.ref t),none,o6,some (.ref nb)]∧aT dk H'∧H' t=some (.tup (((pT w0 bF).take (4 + i)).map dV))) ⟨t5,none,rfl,aT.refl _,e5⟩ ?_ ?_⟩
   ·rintro i σ da hi ⟨t,o6,rfl,ao,et⟩;rw[G]at hi;obtain⟨x,hx⟩:∃ x,(w0 :: bF)[4 + i]?=some x:=⟨_,Ai (by rw[Ak];omega)⟩
    have lx:=J _ (AN hx);have aL:=ao _ _ W;have bx:atI ((w0 :: bF).map V.str) (4 + (i:Int))=some (.str x):=by
     rw[show(4 + (i:Int))=((4 + i:Nat):Int) by omega];exact U _ _ hx
    dsimp only[cE];refine⟨_,rfl,_,rfl,_,rfl,L,_,_,_,rfl,rfl,aQ aL,bx,_,rfl,_,rfl,L,_,_,_,rfl,rfl,aQ aL,bx,.mk x rfl (by omega) fun ev de=>?_⟩;refine⟨zZ2,fun M hM=>?_⟩;have sM:=aH (o:=.lst [V.str x,mX x]) hM;have sB:=de.trans sM;refine⟨_,rfl,_,rfl,nb,_,rfl,.inr (aS (sB _ _ (ao _ _ enb))),rfl,i8 _,.inr ⟨_,rfl,?_⟩⟩;have ei:(if false=true then !inV (V.int (4 + (i:Int))) ((bE w0).map V.int) else inV (V.int (4 + (i:Int))) ((bE w0).map V.int))=decide ((4 + (i:Int))∈bE w0):=aAi _ _;rw[ei];have ca:atI [V.str x,mX x] (if decide ((4 + (i:Int))∈bE w0)=true then 1 else 0)=some (dV (if (((4 + i:Nat)):Int)∈bE w0 then dQ x else .str x)):=by
     rw[show(((4 + i:Nat)):Int)=4 + (i:Int) by omega];by_cases aw:(4 + (i:Int))∈bE w0
     ·rw[Ic aw,Ib aw,mY];rfl
     ·rw[decide_eq_false aw,Ia aw];rfl
    refine⟨M,_,_,_,rfl,rfl,aQ aD,ca,zZ1,fun t2 bt=>?_⟩;have bz:=aH (o:=.tup [dV (if (((4 + i:Nat)):Int)∈bE w0 then dQ x else .str x)]) bt;have lt:(((pT w0 bF).take (4 + i)).map dV).length≤100:=by rw[Ac,AC];omega
    refine⟨t,t2,_,_,rfl,rfl,(sB.trans bz) _ _ et,aD,by show _ + 1≤1000000;omega,fun t3 ez cy dt=>?_⟩;refine⟨t3,_,rfl,ao.trans (sB.trans (bz.trans cy)),?_⟩;rw[dt,← FF,A2,aIz hx (by omega),Ar];rfl
   ·rintro σ da ⟨t,o6,rfl,ao,et⟩;rw[G,A3 (by omega)]at et;exact⟨t,.tuple (pT w0 bF),none,o6,_,rfl,sA.trans ao,.tup et (by rw[Ac];omega) (aIy J),aG1 hp hj⟩
  rintro σ' H4 ⟨t,d,o5,o6,o7,rfl,s4,rd,cc⟩;refine⟨_,rfl,false,_,_,rfl,rd,fun H5 s5=>⟨_,rfl,?_⟩⟩;have bL:=s4.trans s5;cases hd:fQ d with
  | true=>
   refine bQ ⟨_,rfl,?_⟩;have ed:=cc.2 hd;exact ky (by rw[← ed];exact hd) t H5 bL (by rw[← ed];exact rd.same s5)
  | false=>exact bG (kn (by rw[← cc.1];exact hd) H5 bL)
theorem aFA:∀ n:Nat,(∀ c∈(By 10 n).map Cj,gB c=true)∧val ((By 10 n).map Cj)=n∧((By 10 n).map Cj≠[])∧(((By 10 n).map Cj).head?=some 48→(By 10 n).map Cj=[48]):=by
 intro n
 induction n using Nat.strongRecOn with
 | _ n J=>
 by_cases h:n < 10
 ·rw[lV n h];refine⟨fun c hc=>?_,?_,by simp,fun e=>?_⟩
  ·rw[BC.mp hc];unfold gB;rw[Ic (by omega),Ic (by omega)];rfl
  ·show 10 * 0 + (n + 48 - 48)=n;omega
  ·have:n + 48=48:=by simpa using e
   rw[this]
 ·obtain⟨h1,h2,h3,h4⟩:=J (n / 10) (by omega);have t:=DJ (b:=10) (n:=n / 10) (d:=n % 10) (by decide) (by omega) (by omega);rw[show 10 * (n / 10) + n % 10=n by omega]at t;rw[← t,Ar,lV (n % 10) (by omega)];refine⟨fun c hc=>?_,?_,by simp,fun e=>?_⟩
  ·rcases Bo.mp hc with hc | hc
   ·exact h1 c hc
   ·rw[BC.mp hc];unfold gB;rw[Ic (by omega),Ic (by omega)];rfl
  ·rw[t9,h2];omega
  ·cases G:(By 10 (n / 10)).map Cj with
   | nil=>exact absurd G h3
   | cons c r=>
    rw[G]at e h4 h2;have hc:c=48:=by simpa using e
    rw[hc]at h4;have O:=h4 rfl;rw[hc,O]at h2;have:val [48]=0:=rfl;omega
theorem uF{i:Int}(W:0≤i)(h1:i≤1000000000):dQ (cV i)=.int i:=by
 obtain⟨n,rfl⟩:∃ n:Nat,i=n:=⟨i.toNat,by omega⟩
 have e:(cV (n:Int)).cps.toList=(By 10 n).map Cj:=B2 _;obtain⟨a1,a2,a3,a4⟩:=aFA n;have J:(cV (n:Int)).cps.toList.length=(cV (n:Int)).length:=AS;have U:=(aCe W h1).len;have G:jF (cV (n:Int))=true:=by
  unfold jF;rw[Ic (show 1≤(cV (n:Int)).length by rw[← J,e];exact List.length_pos_iff.mpr a3),Ic (show(cV (n:Int)).length≤60 by omega),e,AX.mpr a1,AE,AE];by_cases hz:((By 10 n).map Cj).head?=some 48
  ·have O:cV (n:Int)="0":=dX (by rw[e,a4 hz,jG]);rw[decide_eq_false (show¬ cV (n:Int)≠"0" from fun h=>h O),AI];rfl
  ·rw[decide_eq_false hz];rfl
 unfold dQ;rw[Ib G];show PyData.int ((val (cV (n:Int)).cps.toList:Nat):Int)=_;rw[e,a2]
theorem aCt(G:Str)(ws:List Str):PySem.Txt.join G ws=CO G ws:=by
 show Ex G ws=_;rw[StrLaws.glued_eq_join]
theorem qE{ws:List Str}(hn:ws≠[])(hw:∀ z∈ws,32 ∉ z.cps.toList):AD (DU " " ws) " "=ws:=by
 rw[aCt,jX];exact sV hn hw
theorem gL{r:g8}{fs:List Str}(h:r.Ok fs):AD (jV r) " "=gA r:=qE (by unfold gA;simp) fun z hz=>(h.words.1 z hz).free 32 (by decide)
theorem aG3{a b c e:Str}:∀(R:List P3),(∀ x∈R,0≤x.2.2∧x.2.2≤1000000000)→(AJ (nP (a :: b :: c :: e :: R.flatMap f8))).map (chk (a :: b :: c :: e :: R.flatMap f8))=R.map pD:=by
 intro R U;have hn:nP (a :: b :: c :: e :: R.flatMap f8)=R.length:=by
  unfold nP;simp only[Ak,iQ];omega
 rw[hn];have O:∀(R:List P3) (i:Nat) (x:P3),R[i]?=some x→(R.flatMap f8)[3 * i]?=some x.1∧(R.flatMap f8)[3 * i + 1]?=some x.2.1∧(R.flatMap f8)[3 * i + 2]?=some (cV x.2.2):=by
  intro R
  induction R with
  | nil=>intro i x h;cases h
  | cons y R W=>
   intro i x h;cases i with
   | zero=>cases h;exact⟨rfl,rfl,rfl⟩
   | succ i=>exact W i x h
 refine Di fun i=>?_;rw[AW,AW];by_cases hi:i < R.length
 ·have G:R[i]?=some R[i]:=Ai hi;obtain⟨h1,h2,h3⟩:=O R i _ G;have J:∀ k,(a :: b :: c :: e :: R.flatMap f8)[4 + k]?=(R.flatMap f8)[k]?:=fun k=>by
   rw[Nat.add_comm];rfl
  rw[G,DK hi];show some (chk _ i)=some (pD _);obtain⟨g0,g1⟩:=U _ (AN G);rw[aFx (x:=R[i].1) (y:=R[i].2.1) (z:=cV R[i].2.2) (by rw[J];exact h1) (by rw[FF,J];exact h2) (by rw[FF,J];exact h3),uF g0 g1];rfl
 ·rw[Bh (by omega:R.length≤i),Bh (by rw[Dh];omega)];rfl
theorem oS{r:g8}{fs:List Str}(h:r.Ok fs):dZ (gA r)=r.d:=by
 obtain⟨word,name,day,ds⟩:=r;obtain⟨rs,nm,d0,d1,_⟩:=h;have d1:day≤9999:=d1;have U:dQ (cV day)=.int day:=uF d0 (by omega);have Y:∀{w:Str} {ws:List Str},w∈cC→w≠"part"→w≠"join"→dZ (w :: ws)=.tuple (wd (2 :: bE w) (w :: ws)):=fun{w ws} h8 h1 h2=>by
  show(if w="part" then _ else if w="join" then _ else if w∈cC then Ca (wd (2 :: bE w) (w :: ws)) else .none)=_;rw[Ia h1,Ia h2,Ib h8]
 cases rs with
 | @part J R hl hr h2 h6 ha=>
  show dZ (("part":Str) :: name :: cV day :: mE "part" [.str J,.tuple (R.map pD)])=_;rw[jT];show Ca ([.str "part",.str name,dQ (cV day),.str J] ++ [.tuple ((AJ (nP (("part":Str) :: name :: cV day :: J :: R.flatMap f8))).map (chk (("part":Str) :: name :: cV day :: J :: R.flatMap f8)))])=_;rw[aG3 R fun x hx=>by have:=qU ha hx;omega,U];rfl
 | @join J R hl hr h2 h6 ha=>
  show dZ (("join":Str) :: name :: cV day :: mE "join" [.tuple (R.map Ba),.str J])=_;rw[jU];have:=jH "join" name (cV day) R "as" J;rw[Ib rfl]at this;show jY (("join":Str) :: name :: cV day :: (R ++ [("as":Str),J]))=_;rw[show("join":Str) :: name :: cV day :: (R ++ [("as":Str),J])=[("join":Str),name,cV day] ++ R ++ [("as":Str),J] by simp,this];show Ca [.str "join",.str name,dQ (cV day),.tuple (R.map Ba),.str J]=_;rw[U];rfl
 | @forfeit J G hl hh=>
  show dZ [("forfeit":Str),name,cV day,J,G]=_;rw[Y (by decide) (by decide) (by decide),show bE "forfeit"=[] by decide];show Ca [.str "forfeit",.str name,dQ (cV day),.str J,.str G]=_;rw[U];rfl
 | @measure O n hf h0 h1=>
  show dZ [("measure":Str),name,cV day,O,cV n]=_;rw[Y (by decide) (by decide) (by decide),show bE "measure"=[4] by decide];show Ca [.str "measure",.str name,dQ (cV day),.str O,dQ (cV n)]=_;rw[U,uF h0 (by omega)];rfl
 | @mend G other hh ho ap=>
  show dZ [("mend":Str),name,cV day,G,other]=_;rw[Y (by decide) (by decide) (by decide),show bE "mend"=[] by decide];show Ca [.str "mend",.str name,dQ (cV day),.str G,.str other]=_;rw[U];rfl
 | @alone G hh=>
  show dZ [("alone":Str),name,cV day,G]=_;rw[Y (by decide) (by decide) (by decide),show bE "alone"=[] by decide];show Ca [.str "alone",.str name,dQ (cV day),.str G]=_;rw[U];rfl
 | @breach O Z n2 n3 hf W ad ae am ac an=>
  show dZ [("breach":Str),name,cV day,O,cV Z,cV n2,cV n3]=_;rw[Y (by decide) (by decide) (by decide),show bE "breach"=[4,5,6] by decide];show Ca [.str "breach",.str name,dQ (cV day),.str O,dQ (cV Z),dQ (cV n2),dQ (cV n3)]=_;rw[U,uF W (by omega),uF ae (by omega),uF ac (by omega)];rfl
 | @view O G Z hf W ad hh=>
  show dZ [("view":Str),name,cV day,O,cV Z,G]=_;rw[Y (by decide) (by decide) (by decide),show bE "view"=[4] by decide];show Ca [.str "view",.str name,dQ (cV day),.str O,dQ (cV Z),.str G]=_;rw[U,uF W (by omega)];rfl
theorem okN{d:Aj}(h:bC d=true):OkD 102 0 d:=by
 cases d with
 | str z=>exact OkD.name h
 | _=>simp[bC]at h
theorem okW{lo hi:Int}{d:Aj}(h:cB lo hi d=true)(G:0≤lo)(h1:hi≤1000000000):OkD 102 0 d:=by
 cases d with
 | int i=>
  have:=Ie h;exact OkD.int (by omega) (Int.lt_of_le_of_lt (show i≤1000000000 by omega) (by decide))
 | _=>simp[cB]at h
theorem okP{d:Aj}(h:dM d=true):OkD 315 1 d:=by
 unfold dM at h;split at h
 ·simp only[Ay]at h;refine OkD.tuple (n:=3) (b:=102) (k:=0) (fun d hd=>?_) (by show 3≤3;decide);simp only[Ap,AF,or_false]at hd;rcases hd with rfl | rfl | rfl
  ·exact okN h.1.1
  ·exact okN h.1.2
  ·exact okW h.2 (by decide) (by decide)
 ·cases h
theorem okR{at':Bool}{d:Aj}(h:uE at' d=true):OkD 1905 2 d:=by
 cases d with
 | tuple ds=>
  rw[xV,Ay,Ay,AX]at h;have J:=Ie h.1.2;refine(OkD.tuple (n:=6) (b:=315) (k:=1) (fun d hd=>?_) J.2).mono (by decide) (by decide);have G:=h.1.1 d hd;cases at' with
  | true=>exact okP G
  | false=>exact(okN G).mono (by decide) (by decide)
 | _=>cases at' <;> cases h
theorem aJA{kind:Str}{ds:List Aj}(h:dF kind ds=true):(∀ d∈ds,OkD 1905 2 d)∧ds.length≤4:=by
 have n:∀{d:Aj},bC d=true→OkD 1905 2 d:=fun h=>(okN h).mono (by decide) (by decide);have u:∀{lo hi:Int} {d:Aj},cB lo hi d=true→0≤lo→hi≤1000000000→OkD 1905 2 d:=fun h J h1=>(okW h J h1).mono (by decide) (by decide);have two:∀{a b:Aj},OkD 1905 2 a→OkD 1905 2 b→(∀ d∈[a,b],OkD 1905 2 d)∧([a,b]:List Aj).length≤4:=fun ha G=>⟨fun d hd=>by
  simp only[Ap,AF,or_false]at hd;rcases hd with rfl | rfl
  ·exact ha
  ·exact G,by show 2≤4;decide⟩
 unfold dF at h;split at h
 ·unfold qC at h;split at h
  ·rw[Ay]at h;exact two (n h.1) (okR (at':=true) h.2)
  ·cases h
 split at h
 ·unfold tV at h;split at h
  ·rw[Ay]at h;exact two (okR (at':=false) h.1) (n h.2)
  ·cases h
 split at h
 ·unfold fE at h;rw[Ay,AX]at h;exact⟨fun d hd=>n (h.2 d hd),by have:=Ie h.1;omega⟩
 split at h
 ·unfold iE at h;split at h
  ·rw[Ay]at h;exact two (n h.1) (u h.2 (by decide) (by decide))
  ·cases h
 split at h
 ·unfold lB at h;split at h
  ·rw[Ay,Ay]at h;exact two (n h.1.1) (n h.1.2)
  ·cases h
 split at h
 ·unfold lA at h;split at h
  ·exact⟨fun d hd=>by rw[BC.mp hd];exact n h,by show 1≤4;decide⟩
  ·cases h
 split at h
 ·unfold f6 at h;split at h
  ·simp only[Ay]at h;refine⟨fun d hd=>?_,by show 4≤4;decide⟩;simp only[Ap,AF,or_false]at hd;rcases hd with rfl | rfl | rfl | rfl
   ·exact n h.1.1.1
   ·exact u h.1.1.2 (by decide) (by decide)
   ·exact u h.1.2 (by decide) (by decide)
   ·exact u h.2 (by decide) (by decide)
  ·cases h
 ·unfold kZ at h;split at h
  ·simp only[Ay]at h;refine⟨fun d hd=>?_,by show 3≤4;decide⟩;simp only[Ap,AF,or_false]at hd;rcases hd with rfl | rfl | rfl
   ·exact n h.1.1
   ·exact u h.1.2 (by decide) (by decide)
   ·exact n h.2
  ·cases h
theorem aHw{d:Aj}(h:fQ d=true):OkD 13352 3 d:=by
 unfold fQ at h;split at h
 ·rename_i kind name day bF;simp only[Ay]at h;obtain⟨h1,h2,h3,h4⟩:=h;obtain⟨h5,h6⟩:=aJA h4;refine OkD.tuple (n:=7) (b:=1905) (k:=2) (fun d hd=>?_) (by simp only[Ak];omega);have G:∀ w∈cC,bA w=true:=by decide
  simp only[Ap]at hd;rcases hd with rfl | rfl | rfl | hd
  ·exact(OkD.name (G _ (Ie h1))).mono (by decide) (by decide)
  ·exact(okN h2).mono (by decide) (by decide)
  ·exact(okW h3 (by decide) (by decide)).mono (by decide) (by decide)
  ·exact h5 d hd
 ·cases h
def Rfs(C:Af)(H:Hp)(E:XK):Prop:=∀ D H',aT H H'→H' D=some (.xd [("line",V.int 0)])→E (.ref C) (some D) H'
theorem Rfs.same{C:Af}{H H':Hp}{E:XK}(h:Rfs C H E)(s:aT H H'):Rfs C H' E:=fun D H2 G e=>h D H2 (s.trans G) e
theorem Rfs.at{C:Af}{H:Hp}{E:XK}(h:Rfs C H E):∀ D,H D=none→E (.ref C) (some D) (upd H D (.xd [("line",V.int 0)])):=fun D n=>h D _ (aH n) aD
structure XNo(P:Al)(w:AH)(K:Ae)(mg:Str→Option Ab)(base:A1)(C fI:Af)(fdI:Ax):Prop where
 m:mg "NoText"=some (.ref C)
 q:pC K C fI [.type "ValueError",.type "Exception",.type "BaseException",.type "object"] "ValueError.__new__"=true
 F:b8 P w K mg base CX0 1 fI fdI ["self","line"] (aGn C "line")
 b:dH K fdI ["self","line"] []
 f:ER K (.ref fI)=true
def aDA(K:Ae)(D:Af)(cs:List Af)(bs:List Bool)(ts:List Af):Bool:=
 ((cs.zip bs).all fun p=>A9 K (.ref D) (.ref p.1) == some p.2) && (PySem.W.kitAny K (.ref D) (ts.map AK) == some false) && (A9 K (.ref D) (.type "ValueError") == some true) &&
 (BE K (.ref D) "__getattribute__" == some (some (.builtin "BaseException.__getattribute__"))) && (BE K (.ref D) "__getattr__" == some none) && (Fp K D (.type "BaseException") == some true) && PySem.W.hasDictIn K D && (BE K (.ref D) "__class__" == some (some (.builtin "object.__class__"))) && (Fp K D (.type "object") == some true) &&
 (EN K (.builtin "object.__class__") "__get__" == some (some (.builtin "getset_descriptor.__get__"))) && (PySem.W.takesIn K (.builtin "object.__class__") == some true)
theorem aCu{K:Ae}{D:Af}{G:List Af}{bs:List Bool}{ts:List Af}(h:aDA K D G bs ts=true):sY K D∧(∀(i:Nat) c b,G[i]?=some c→bs[i]?=some b→A9 K (.ref D) (.ref c)=some b)∧PySem.W.kitAny K (.ref D) (ts.map AK)=some false∧A9 K (.ref D) (.type "ValueError")=some true:=by
 unfold aDA at h;simp only[Ay,beq_iff_eq,AX]at h;obtain⟨⟨⟨⟨⟨⟨⟨⟨⟨⟨h1,h2⟩,h3⟩,h4⟩,h5⟩,h5'⟩,h6⟩,h7⟩,h8⟩,h9⟩,h10⟩:=h;refine⟨⟨h4,h5,h5',h6,h7,h8,h9,h10⟩,fun i c b J O=>h1 (c,b) ?_,h2,h3⟩;exact AN (i:=i) (List.getElem?_zip_eq_some.mpr ⟨J,O⟩)
structure Rdr(P:Al)(w:AH)(K:Ae)(mg:Str→Option Ab)(base:A1)(f:Af)(sp:Sp):Prop where
 ex:∃ fd:Ax,b8 P w K mg base (CXd P w) 10 f fd ["text"] sp∧Az K (.ref f)=true∧dH K fd ["text"] []
def Hrd(C:Af)(H:Hp)(x:V)(sp:Sp)(R:V→Hp→Prop)(Z:Prop):Prop:=∀(Q:VK) (E:XK),(∀ v H1,R v H1→Q v H1)→(Z→Rfs C H E)→sp [x] H Q E
inductive vY(P:Al)(w:AH)(K:Ae)(mg:Str→Option Ab)(base:A1)(C:Af)(vs:List V)(H:Hp)(Q:VK)(u3_:XK):Prop
 | mk (f:Af) (sp:Sp) (x:V) (R:V→Hp→Prop) (Z:Prop) (q0:vs=[.ref f,x]) (q1:Rdr P w K mg base f sp) (q2:Hrd C H x sp R Z) (q3:(∀ v H1,R v H1→Q v H1)) (q4:(Z→∀ t H2,aT H H2→H2 t=some (.lst [.str "line",.int 0])→Q (.ref t) H2)):vY P w K mg base C vs H Q u3_
def aCv(P:Al)(w:AH)(K:Ae)(mg:Str→Option Ab)(base:A1)(C:Af):Sp:=fun vs H Q u3_=>vY P w K mg base C vs H Q u3_
inductive xW(P:Al)(w:AH)(K:Ae)(mg:Str→Option Ab)(base:A1)(C:Af)(vs:List V)(H:Hp)(Q:VK)(E:XK):Prop
 | no (f:Af) (sp:Sp) (x:V) (rd:Rdr P w K mg base f sp) (h0:vs=[.ref f,x,.non]) (hR:Hrd C H x sp (fun _ _=>False) True) (q:∀ H',aT H H'→Q (.bl true) H'):xW P w K mg base C vs H Q E
 | yes (f:Af) (sp:Sp) (x:V) (o:Af) (ds:List Aj) (rd:Rdr P w K mg base f sp) (h0:vs=[.ref f,x,.ref o]) (ro:RdV false H (.ref o) (.tuple ds)) (ok:OkD 100000 20 (.tuple ds))
   (hR:Hrd C H x sp (fun v H1=>∃ T,v=.ref T∧aT H H1∧RdV false H1 (.ref T) (.tuple ds)) False) (q:∀ H',aT H H'→Q (.bl true) H'):xW P w K mg base C vs H Q E
def qZ(P:Al)(w:AH)(K:Ae)(mg:Str→Option Ab)(base:A1)(C:Af):Sp:=fun vs H Q E=>xW P w K mg base C vs H Q E
theorem aCw{H:Hp}{t:Af}(e:H t=some (.lst [.str "line",.int 0])):RdV true H (.ref t) (.list [.str "line",.int 0]):=.lst rfl e (by show 2≤1000;decide) (.cons (.str _ (by decide)) (.cons (.int 0) .nil))
abbrev vZ:Br:=aGd aGs 0
theorem aIA:bB ["self","line"] ["self","line"] (aK vZ):=⟨rfl,rfl,rfl,by decide,rfl,by decide,by decide⟩
theorem aG4{f C:Af}{fd:Ax}(F:Fun K "__init__" "NoText.__init__" vZ f fd)(hc:aH9 K C "line"):b8 P w K mg base CX0 1 f fd ["self","line"] (aGn C "line"):=by
 refine F.ok aIA (fun vs H Q E h=>?_) (fun G A outer s H vs Q E J h=>?_)
 ·obtain⟨x,v,rfl,_⟩:=h;rfl
 ·obtain⟨x,v,rfl,hx,k⟩:=h;exact⟨_,aG (aGm (pv 0) (pv 1) rfl),_,rfl,_,rfl,x,C,rfl,hx,hc,k⟩
theorem aCx:bB ["_law_reads","_law_text","_law_caught","_law_found","e"] ["_law_reads","_law_text"] (aK aA8):=⟨rfl,rfl,rfl,by decide,rfl,by decide,by decide⟩
theorem aFB{f cD ah J O ac af aa U ad ai ae Y ag G:Af}{fd:Ax}(F:Fun K "_law_heard" "_law_heard" aA8 f fd)(ak:mg "isinstance"=none)(bh:mg "ValueError"=none)(mD:mg "DykeError"=some (.ref cD))(ay:mg "Clash"=some (.ref ah))(aj:mg "NoBreach"=some (.ref J))(ao:mg "NoField"=some (.ref O))(aq:mg "NoInch"=some (.ref ac))(ap:mg "NoMend"=some (.ref af))(au:mg "NoName"=some (.ref aa))(am:mg "NoOrder"=some (.ref U))(av:mg "NoRoll"=some (.ref ad))(aI:mg "NoRow"=some (.ref ai))(ar:mg "NoThen"=some (.ref ae))(an:mg "TooMany"=some (.ref Y))(az:mg "Twice"=some (.ref ag))(aw:mg "NoText"=some (.ref G))
  (eR:PySem.W.exmOne K (.ref G) (.ref cD)=some true) (kf:aDA K G [G] [true] [ah,J,O,ac,af,aa,U,ad,ai,ae]=true) (kg:aDA K G [G] [true] [Y,ag]=true) (kl:BE K (.ref G) "line"=some none):
  b8 P w K mg base CX0 11 f fd ["_law_reads","_law_text"] (aCv P w K mg base G):=by
 refine F.ok aCx (fun vs H Q E h=>?_) (fun bo A outer s H vs Q E hr h=>?_)
 ·obtain⟨f,sp,x,R,Z,rfl,_⟩:=h;rfl
 ·obtain⟨g,sp,x,R,Z,rfl,⟨fdR,GR,kR,bR⟩,hR,kq,ke⟩:=h;have nd:=aCx.nd;refine⟨_,aE (aY (i:=2) nd rfl (Aw rfl) fM) (aE (aY (i:=3) nd rfl (Aw rfl) fM)
   (aE (aDf (ie:=4) rfl rfl rfl (aEH (i:=3) nd rfl (Aw rfl) (aDe (k:=10) (ps:=["text"]) (pv 0) hr (aB (pv 1) aA))) rfl mD nd rfl rfl (fun v=>aG (aY (i:=2) nd rfl (Aw rfl) (pv 4))))
   (aE (bM (v8 (aAE (pv 2))) (aG (aN (pv 3))) aV)
   (aE (bM (cN (aM mB (by rfl) ak (by kernel_rfl) (aB (pv 2) (aB (cG (aB (bZ (v:=.ref ah) rfl ay rfl) (aB (bZ (v:=.ref J) rfl aj rfl) (aB (bZ (v:=.ref O) rfl ao rfl) (aB (bZ (v:=.ref ac) rfl aq rfl) (aB (bZ (v:=.ref af) rfl ap rfl) (aB (bZ (v:=.ref aa) rfl au rfl) (aB (bZ (v:=.ref U) rfl am rfl) (aB (bZ (v:=.ref ad) rfl av rfl) (aB (bZ (v:=.ref ai) rfl aI rfl) (aB (bZ (v:=.ref ae) rfl ar rfl) aA))))))))))) aA)))) (aG (aN aJ)) aV)
   (aE (bM (PW.pt (dU (cN (aM mB (by rfl) ak (by kernel_rfl) (aB (pv 2) (aB (cG (aB (bZ (v:=.ref Y) rfl an rfl) (aB (bZ (v:=.ref ag) rfl az rfl) aA))) aA))))
    (dU (cS (cN (aM oJ (by rfl) ak (by kernel_rfl) (aB (pv 2) (aB (bZ (v:=.ref G) rfl aw rfl) aA))))) (dP (cS (cN (aM oJ (by rfl) ak (by kernel_rfl) (aB (pv 2) (aB (dI (v:=.ty "ValueError") (by rfl) bh (by kernel_rfl) rfl) aA))))))))) (aG (aN aJ)) aV)
   (aG (aN (dB (aB aJ (aB (aGp (pv 2) rfl) aA)))))))))),?_⟩
  refine⟨_,rfl,g,sp,rfl,⟨fdR,GR,kR,bR⟩,_,rfl,hR _ _ (fun v H1 r=>?_) (fun z D H1 s1 eD=>⟨eR,fun y d ed hy=>?_⟩)⟩
  ·refine⟨_,rfl,_,rfl,bQ ?_⟩;exact⟨_,rfl,kq v H1 r⟩
  ·cases ed;have sy:=aH (o:=j9 y (.ref G) D) hy;have ey:upd H1 y (j9 y (.ref G) D) y=some (j9 y (.ref G) D):=aD;have bb:=sy _ _ eD;have S:=s1.trans sy;generalize upd H1 y (j9 y (.ref G) D)=H2 at sy ey S bb ⊢;obtain⟨ek,h1,h2,h3⟩:=aCu kf;obtain⟨_,_,h4,_⟩:=aCu kg;refine⟨_,rfl,_,rfl,_,rfl,bG ?_⟩;refine⟨_,rfl,aIa,fun q hq=>?_⟩;have sq:=aH (o:=.tup ([ah,J,O,ac,af,aa,U,ad,ai,ae].map V.ref)) hq;refine⟨y,G,D,q,[ah,J,O,ac,af,aa,U,ad,ai,ae],_,rfl,aD,sq _ _ ey,ek,h2,_,rfl,bG ?_⟩;have aL:=sq _ _ ey;have ba:=sq _ _ bb;have S3:=S.trans sq;simp only[A0,Dg]at aL ba S3;generalize upd H2 q _=H3 at aL ba S3 ⊢;refine⟨_,rfl,zZ2,fun q2 bg=>?_⟩;have aR:=aH (o:=.tup ([Y,ag].map V.ref)) bg;have ax:=aR _ _ aL;have bd:=aR _ _ ba;refine⟨y,G,D,q2,[Y,ag],_,rfl,aD,ax,ek,h4,_,rfl,bG ?_⟩;refine⟨_,rfl,y,G,D,_,_,_,rfl,(fun u r=>r),ax,ek,h1 0 _ _ rfl rfl,_,rfl,bG ?_⟩;refine⟨_,rfl,y,G,D,_,_,_,rfl,(fun u r=>r),ax,ek,h3,_,rfl,bG ?_⟩;refine⟨_,rfl,y,G,D,_,_,rfl,ax,bd,ek,kl,rfl,zZ2,fun t ht=>?_⟩;exact ke z t _ ((S3.trans aR).trans (aH ht)) aD
theorem aCy:bB ["_law_reads","_law_text","_law_owed","_law_found"] ["_law_reads","_law_text","_law_owed"] (aK aA9):=⟨rfl,rfl,rfl,by decide,rfl,by decide,by decide⟩
theorem aFC{f C:Af}{fd:Ax}(F:Fun K "_law_right" "_law_right" aA9 f fd)(U:mg "isinstance"=none)(W:mg "tuple"=none)(G:mg "repr"=none)
  (GH:Cl P w K mg base 11 "_law_heard" ["_law_reads","_law_text"] (aCv P w K mg base C))
  :b8 P w K mg base CX0 12 f fd ["_law_reads","_law_text","_law_owed"] (qZ P w K mg base C):=by
 refine F.ok aCy (fun vs H Q E h=>?_) (fun ai A outer s H vs Q E hr h=>?_)
 ·cases h with
  | no _ _ _ _ O=>subst O;rfl
  | yes _ _ _ _ _ _ O=>subst O;rfl
 ·have J:cJ 1 _:=hr.mono (by decide);have nd:=aCy.nd;refine⟨_,(aE (aY (i:=3) nd rfl (Aw rfl) (aW GH hr (aB (pv 0) (aB (pv 1) aA))))
   (aE (bM (v8 (aAE (pv 2))) (aG (aN (dC cH (aM (lH J) (by rfl) G (by kernel_rfl) (aB (pv 3) aA)) (aM (lH J) (by rfl) G (by kernel_rfl) (aB (dB (aB aJ (aB aC aA))) aA)) (aU _)))) aV)
   (aG (aN (cT (aM cM (by rfl) U (by kernel_rfl) (aB (pv 3) (aB (dI (v:=.ty "tuple") (by rfl) W (by kernel_rfl) rfl) aA))) (dG (dC cH (aM (lH J) (by rfl) G (by kernel_rfl) (aB (pv 3) aA)) (aM (lH J) (by rfl) G (by kernel_rfl) (aB (pv 2) aA)) (aU _)))))))),?_⟩
  cases h with
  | no g sp x rd O Y k=>
   subst O;refine⟨_,rfl,_,rfl,g,sp,x,_,_,rfl,rd,Y,(fun v H1 z=>z.elim),fun _ t H2 s2 e2=>?_⟩;refine⟨_,rfl,_,rfl,bQ ?_⟩;refine⟨_,rfl,t,true,_,rfl,aCw e2,by decide,by decide,by rw[PySem.sizeLine_eq];decide,zZ2,fun t2 n2=>?_⟩;refine⟨t2,true,_,rfl,aCw aD,by decide,by decide,by rw[PySem.sizeLine_eq];decide,rfl,?_⟩;rw[Ic rfl];exact k _ (s2.trans (aH n2))
  | yes g sp x o ds rd O ro ok Y k=>
   subst O;refine⟨_,rfl,_,rfl,g,sp,x,_,_,rfl,rd,Y,?_,fun z=>z.elim⟩;rintro v H1 ⟨T,rfl,s1,rT⟩;refine⟨_,rfl,_,rfl,bG ?_⟩;obtain⟨xs,eT⟩:∃ xs,H1 T=some (.tup xs):=by
    cases rT with
    | tup e _ _=>exact⟨_,e⟩
   have Z:(C9 (.tuple ds)).length≤PySem.sizeLine:=aF (AM ok.len (by decide));refine⟨_,rfl,_,"tuple",_,true,rfl,iF.tup eT,(by unfold A9;rw[Ib (by rfl)]),true,rfl,bQ ?_⟩;refine⟨_,rfl,T,false,_,rfl,rT,ok.sh,ok.dp,Z,_,rfl,o,false,_,rfl,ro.same s1,ok.sh,ok.dp,Z,rfl,?_⟩;rw[Ic rfl];exact k _ s1
theorem slr(a b:Nat):sliceRange (a:Int) (b:Int) 1=BQ a (b - a):=by
 unfold sliceRange;have e:(if (1:Int) > 0 then(if (a:Int) < b then((b:Int) - a + 1 - 1) / 1 else 0) else(if (a:Int) > b then((a:Int) - b - 1 - 1) / (-1) else 0)).toNat=b - a:=by
  rw[Ib (by decide)];split
  ·rw[FS];omega
  ·omega
 show(AJ (if (1:Int) > 0 then(if (a:Int) < b then((b:Int) - a + 1 - 1) / 1 else 0) else(if (a:Int) > b then((a:Int) - b - 1 - 1) / (-1) else 0)).toNat).map _=_;rw[e,List.range'_eq_map_range];exact EM fun x _=>by omega
theorem aAv(k n:Nat):max 0 (min (if (k:Int) < 0 then(k:Int) + n else k) (n:Int))=((min k n:Nat):Int):=by
 rw[Ia (by omega)];omega
theorem aIB(k n:Nat):BI none (some (k:Int)) 1 n=BQ 0 (min k n):=by
 show sliceRange ((0:Nat):Int) (max 0 (min (if (k:Int) < 0 then(k:Int) + n else k) (n:Int))) 1=_;rw[aAv,slr,E9]
theorem aFD(k n:Nat):BI (some (k:Int)) none 1 n=BQ (min k n) (n - min k n):=by
 show sliceRange (max 0 (min (if (k:Int) < 0 then(k:Int) + n else k) (n:Int))) (n:Int) 1=_;rw[aAv,slr]
theorem aAw(z:Str)(k:Nat):(A8 z none (some (k:Int))).cps.toList=z.cps.toList.take k:=by
 obtain⟨⟨l⟩⟩:=z;have G:(⟨⟨l⟩⟩:Str).length=l.length:=rfl;unfold A8;rw[aIB,G];split
 ·next h=>
  simp at h;exact(A3 (show l.length≤k by omega)).symm
 ·show(BQ 0 (min k l.length)).filterMap (l.toArray[·]?)=l.take k
  rw[gK l _ 0,Dj];rcases Nat.le_total k l.length with h | h
  ·rw[C2 h]
  ·rw[Du h,Bc,A3 h]
theorem aBr(z:Str)(k:Nat):(A8 z (some (k:Int)) none).cps.toList=z.cps.toList.drop k:=by
 obtain⟨⟨l⟩⟩:=z;have G:(⟨⟨l⟩⟩:Str).length=l.length:=rfl;unfold A8;rw[aFD,G];split
 ·next h=>
  simp only[List.length_range',Ay,beq_iff_eq]at h;have h2:=h.2;show l=l.drop k;have:k=0∨l.length=0:=by omega
  rcases this with rfl | J
  ·rfl
  ·rw[BG J];simp
 ·show(BQ (min k l.length) (l.length - min k l.length)).filterMap (l.toArray[·]?)=l.drop k
  rw[gK l _ _];rcases Nat.le_total k l.length with h | h
  ·rw[C2 h];exact A3 (by rw[Bk];exact An _)
  ·rw[Du h,List.drop_length,Ct h,ES]
theorem jZ(w r:Str):(w ++ (" ":Str) ++ r).cps.toList=w.cps.toList ++ 32 :: r.cps.toList:=by
 rw[gZ,gZ,jX];simp
theorem j6{w r:Str}(h:32 ∉ w.cps.toList):AD (w ++ (" ":Str) ++ r) " "=w :: AD r " ":=by
 have G:=ED r " ";have hn:AD r " "≠[]:=fun e=>by have:=fJ r;rw[e]at this;cases this
 obtain⟨x,xs,e⟩:∃ x xs,AD r " "=x :: xs:=by
  cases J:AD r " " with
  | nil=>exact absurd J hn
  | cons a b=>exact⟨a,b,rfl⟩
 have O:w ++ (" ":Str) ++ r=CO " " (w :: AD r " "):=by
  rw[e]at G ⊢;show _=w ++ (" ":Str) ++ CO " " (x :: xs);rw[G]
 rw[O,jX];refine sV (by simp) fun z hz=>?_;rcases Ap.mp hz with rfl | hz
 ·exact h
 ·exact DH r 32 z hz
theorem j7{z:Str}(h:32 ∉ z.cps.toList):AD z " "=[z]:=by
 have:=qE (ws:=[z]) (by simp) fun y G=>by rw[BC.mp G];exact h
 exact this
def dW(z:Str):Str:=(BJ z " ").1
def dR(z:Str):Str:=(BJ z " ").2.2
theorem m7(z:Str):(32 ∉ z.cps.toList∧dW z=z∧dR z="")∨∃ w r,32 ∉ w.cps.toList∧z=w ++ (" ":Str) ++ r∧dW z=w∧dR z=r:=by
 unfold dW dR BJ;rw[jX];have one:∀ i,StrLaws.At z ⟨#[32]⟩ z.length i↔z.cps.toList[i]?=some 32:=fun i=>StrLaws.subAt_one z 32 i;rcases StrLaws.occ_head z ⟨#[32]⟩ 1 (An _)with⟨e,hn⟩ | ⟨i,r,e,hi,hm⟩
 ·rw[e];refine .inl ⟨fun h=>?_,rfl,show Ek="" by decide⟩;obtain⟨i,hi⟩:=EB h;exact hn i ((one i).mpr hi)
 ·rw[e];have hi:=(one i).mp hi;have O:i < z.cps.toList.length:=(AZ.mp hi).1;have G:(Dz z 0 i).cps.toList=z.cps.toList.take i:=by rw[StrLaws.strSub_toList];rfl
  have hz:z.cps.toList.length=z.length:=AS;have J:(Dz z (i + (⟨#[32]⟩:Str).length) z.length).cps.toList=z.cps.toList.drop (i + 1):=by
   rw[StrLaws.strSub_toList];exact A3 (by rw[Bk,hz];exact An _)
  refine .inr ⟨Dz z 0 i,Dz z (i + (⟨#[32]⟩:Str).length) z.length,fun h=>?_,dX ?_,rfl,rfl⟩
  ·rw[G]at h;obtain⟨j,hj⟩:=EB h;rw[List.getElem?_take]at hj;split at hj
   ·exact hm j ‹_› ((one j).mpr hj)
   ·cases hj
  ·rw[← jX,jZ,G];rw[← jX]at J;rw[J];have:=AZ.mp hi;rw[← this.2,← Cb O,List.take_append_drop]
def oU(z:Str):Bool:=fQ (dZ (AD z " "))
def pU(z:Str):Aj:=dZ (AD z " ")
def eQ(z:Str):Bool:=if dW z="write" then oU (dR z) else(decide (dW z="back") && bA (dR z))
def f9(z:Str):Aj:=if dW z="write" then .tuple [.str "write",pU (dR z)] else .tuple [.str "back",.str (dR z)]
theorem pV:("write ":Str).cps.toList=("write":Str).cps.toList ++ [32]:=by decide
theorem xX{z:Str}:A8 z none (some 6)="write "↔∃ r,z=("write":Str) ++ (" ":Str) ++ r:=by
 constructor
 ·intro h;have h1:(A8 z none (some 6)).cps.toList=z.cps.toList.take 6:=aAw z 6;rw[h,pV]at h1;refine⟨⟨(z.cps.toList.drop 6).toArray⟩,dX ?_⟩;rw[jZ];have:=List.take_append_drop 6 z.cps.toList;rw[← h1]at this;refine this.symm.trans ?_;rw[CH];rfl
 ·rintro⟨r,rfl⟩;refine dX ?_;have h1:(A8 (("write":Str) ++ (" ":Str) ++ r) none (some 6)).cps.toList=(("write":Str) ++ (" ":Str) ++ r).cps.toList.take 6:=aAw _ 6;rw[h1,jZ,pV];have G:("write":Str).cps.toList.length=5:=by decide
  rw[show("write":Str).cps.toList ++ 32 :: r.cps.toList=(("write":Str).cps.toList ++ [32]) ++ r.cps.toList by simp];exact List.take_left' (by rw[Av,G];rfl)
theorem aCz(r:Str):A8 (("write":Str) ++ (" ":Str) ++ r) (some 6) none=r:=by
 refine dX ?_;have h1:(A8 (("write":Str) ++ (" ":Str) ++ r) (some 6) none).cps.toList=(("write":Str) ++ (" ":Str) ++ r).cps.toList.drop 6:=aBr _ 6;have G:("write":Str).cps.toList.length=5:=by decide
 rw[h1,jZ,show("write":Str).cps.toList ++ 32 :: r.cps.toList=(("write":Str).cps.toList ++ [32]) ++ r.cps.toList by simp];exact List.drop_left' (by rw[Av,G];rfl)
theorem uG{w G r J:Str}(h:32 ∉ w.cps.toList)(h':32 ∉ G.cps.toList)(e:w ++ (" ":Str) ++ r=G ++ (" ":Str) ++ J):w=G∧r=J:=by
 have:=congrArg (fun z:Str=>z.cps.toList) e;simp only[jZ]at this;obtain⟨a,b⟩:=zD h h' this;exact⟨dX a,dX b⟩
theorem v0{z:Str}(h:bA z=true):32 ∉ z.cps.toList:=(mG h).free 32 (by decide)
theorem aFE(z:Str):(∃ n,AD z " "=[("back":Str),n]∧bA n=true∧eQ z=true∧f9 z=.tuple [.str "back",.str n])∨
  ((¬ ∃ n,AD z " "=[("back":Str),n]∧bA n=true)∧((A8 z none (some 6)="write "∧eQ z=oU (A8 z (some 6) none)∧f9 z=.tuple [.str "write",pU (A8 z (some 6) none)])∨(A8 z none (some 6)≠"write "∧eQ z=false))):=by
 have W:32 ∉ ("write":Str).cps.toList:=by decide
 have Y:32 ∉ ("back":Str).cps.toList:=by decide
 have J:("back":Str)≠"write":=by decide
 rcases m7 z with⟨h,e1,e2⟩ | ⟨w,r,h,e,e1,e2⟩
 ·refine .inr ⟨?_,.inr ⟨fun G=>?_,?_⟩⟩
  ·rintro⟨n,hn,_⟩;rw[j7 h]at hn;cases hn
  ·obtain⟨r,rfl⟩:=xX.mp G;exact h (by rw[jZ];simp)
  ·unfold eQ;rw[e2];split
   ·decide
   ·rw[show bA ""=false by decide,AI]
 ·have es:AD z " "=w :: AD r " ":=by rw[e,j6 h]
  by_cases O:w="back"
  ·subst O;have hw:¬ A8 z none (some 6)="write ":=fun G=>by
    obtain⟨r',er⟩:=xX.mp G;rw[e]at er;exact J (uG Y W er).1
   by_cases hn:bA r=true
   ·refine .inl ⟨r,by rw[es,j7 (v0 hn)],hn,?_,?_⟩
    ·unfold eQ;rw[e1,e2,Ia J,hn,Ic rfl];rfl
    ·unfold f9;rw[e1,e2,Ia J]
   ·refine .inr ⟨?_,.inr ⟨hw,?_⟩⟩
    ·rintro⟨n,G,hnn⟩;rw[es]at G;have h2:AD r " "=[n]:=(DQ.inj G).2;have U:=ED r " ";rw[h2]at U;exact hn (by rw[← U];exact hnn)
    ·unfold eQ;rw[e1,e2,Ia J,Ff _ |>.mp hn,AI]
  ·refine .inr ⟨?_,?_⟩
   ·rintro⟨n,G,_⟩;rw[es]at G;exact O (DQ.inj G).1
   by_cases hw:w="write"
   ·subst hw;refine .inl ⟨xX.mpr ⟨r,e⟩,?_,?_⟩
    ·unfold eQ;rw[e1,e2,Ib rfl,e,aCz]
    ·unfold f9;rw[e1,e2,Ib rfl,e,aCz]
   ·refine .inr ⟨fun G=>?_,?_⟩
    ·obtain⟨r',er⟩:=xX.mp G;rw[e]at er;exact hw (uG h W er).1
    ·unfold eQ;rw[e1,Ia hw,decide_eq_false O];rfl
theorem aJB(z:Str):(dR z).length≤z.length∧(AD (dR z) " ").length≤(AD z " ").length:=by
 rcases m7 z with⟨h,_,e2⟩ | ⟨w,r,h,e,_,e2⟩
 ·rw[e2,j7 h];exact⟨Bs _,show(AD ("":Str) " ").length≤1 by decide⟩
 ·rw[e2];have es:AD z " "=w :: AD r " ":=by rw[e,j6 h]
  refine⟨?_,by rw[es,Ak];omega⟩;rw[e,AL];omega
theorem aFF{z:Str}(h:eQ z=true):∃ ds,f9 z=.tuple ds∧OkD 100000 20 (.tuple ds):=by
 unfold eQ at h;unfold f9;have go:∀(u:Str) (d:Aj),bA u=true→OkD 13352 3 d→OkD 100000 20 (.tuple [.str u,d]):=fun u d J hd=>by
  refine(OkD.tuple (n:=2) (b:=13352) (k:=3) (fun e G=>?_) (by show 2≤2;decide)).mono (by decide) (by decide);simp only[Ap,AF,or_false]at G;rcases G with rfl | rfl
  ·exact(OkD.name J).mono (by decide) (by decide)
  ·exact hd
 split at h
 ·rename_i hw;rw[Ib hw];exact⟨_,rfl,go _ _ (by decide) (aHw h)⟩
 ·rename_i hw;rw[Ia hw];rw[Ay]at h;exact⟨_,rfl,go _ _ (by decide) ((OkD.name h.2).mono (by decide) (by decide))⟩
theorem aFG{z:Str}(h:oU z=true):∃ ds,pU z=.tuple ds∧OkD 100000 20 (.tuple ds):=by
 obtain⟨ds,e⟩:=aAn h;have:=aHw h;rw[e]at this;exact⟨ds,e,this.mono (by decide) (by decide)⟩
inductive aBs(K:Ae)(C:Af)(ok:Str→Bool)(val:Str→Aj)(vs:List V)(H:Hp)(Q:VK)(E:XK):Prop
 | str (z:Str) (h0:vs=[.str z]) (hz:z.length≤1000) (hl:(AD z " ").length≤60) (qy:ok z=true→∀(t:Af) (H':Hp),aT H H'→RdV false H' (.ref t) (val z)→Q (.ref t) H') (ke:ok z=false→Rfs C H E):aBs K C ok val vs H Q E
 | odd (x:V) (t:Ab) (h0:vs=[x]) (ht:iF K H x t) (hk:A9 K t (.type "str")=some false) (ke:Rfs C H E):aBs K C ok val vs H Q E
def hG(K:Ae)(C:Af)(ok:Str→Bool)(val:Str→Aj):Sp:=fun vs H Q E=>aBs K C ok val vs H Q E
inductive aFH(vs:List V)(H:Hp)(Q:VK)(E:XK):Prop
 | mk (z:Str) (h0:vs=[.str z]) (hz:z.length≤1000) (hl:(AD z " ").length≤60) (qy:eQ z=true→∀(t:Af) (H':Hp),aT H H'→RdV false H' (.ref t) (f9 z)→Q (.ref t) H') (qn:eQ z=false→∀ H',aT H H'→Q .non H'):aFH vs H Q E
def xY:Sp:=fun vs H Q E=>aFH vs H Q E
inductive aBt(vs:List V)(H:Hp)(Q:VK):Prop
 | wr (t:Af) (x:V) (r:g8) (fs:List Str) (h0:vs=[.ref t]) (e:H t=some (.tup [.str "write",x])) (rd:RdV false H x r.d) (ok:r.Ok fs) (q:∀ H',aT H H'→Q (.str (("write ":Str) ++ jV r)) H'):aBt vs H Q
 | bk (t:Af) (n:Str) (h0:vs=[.ref t]) (e:H t=some (.tup [.str "back",.str n])) (hn:bA n=true) (q:∀ H',aT H H'→Q (.str (("back ":Str) ++ n)) H'):aBt vs H Q
def m8:Sp:=fun vs H Q _=>aBt vs H Q
theorem aCA(a b:Str):Ek ++ a ++ b=a ++ b:=by
 refine dX ?_;rw[gZ,gZ,gZ,show Ek.cps.toList=[] by decide];rfl
theorem uH{r:g8}{fs:List Str}(h:r.Ok fs):(jV r).length≤300:=by
 obtain⟨hw,hl⟩:=h.words;unfold jV;rw[aCt];have J:=Ee (" ":Str) (gA r);have O:=xO fun z hz=>(hw z hz).len;have G:(" ":Str).length=1:=by decide
 rw[G]at J;omega
theorem uI:bB ["deed","word","what"] ["deed"] (aK pL):=⟨rfl,rfl,rfl,by decide,rfl,by decide,by decide⟩
theorem aAx{f:Af}{fd:Ax}(F:Fun K "deed_text" "deed_text" pL f fd)
  (O:Cl P w K mg base 2 "row_text" ["row"] jE)
  :b8 P w K mg base CX0 3 f fd ["deed"] m8:=by
 refine F.ok uI (fun vs H Q E h=>?_) (fun W A outer s H vs Q E U h=>?_)
 ·cases h with
  | wr t x r fs G=>subst G;rfl
  | bk t n G=>subst G;rfl
 ·have nd:=uI.nd;refine⟨_,(aE (iS (pv 0) (jI rfl (cO (bJ (i:=1) nd rfl (Aw rfl)) (cO (bJ (i:=2) nd rfl (Aw rfl)) gU))))
   (aE (bM (aP cH (pv 1) aJ (aU _)) (aG (aN (aBT (aEo (aEp (aW O U (aB (pv 2) aA)) aEn))))) aV)
   (aG (aN (aBT (aEo (aEp (pv 2) aEn))))))),?_⟩
  have big:∀ z:Str,z.length≤1000→z.length≤sizeLine:=fun z h=>aF (AM h (by decide));have c0:Ek.length=0:=by decide
  have Y:("write ":Str).length=6:=by decide
  have Z:("back ":Str).length=5:=by decide
  cases h with
  | wr t x r fs G e rd ok k=>
   subst G;refine⟨_,rfl,t,_,rfl,aS e,rfl,_,_,rfl,_,_,rfl,rfl,_,rfl,rfl,_,rfl,bQ ?_⟩;have J:=uH ok;refine⟨big _ (by rw[AL];omega),_,rfl,x,r,fs,rfl,rd,ok,fun H1 s1=>⟨_,.str _ (big _ (by omega)),big _ (by rw[AL,AL];omega),big _ (by rw[AL,AL];omega),?_⟩⟩;rw[aCA];exact k H1 s1
  | bk t n G e hn k=>
   subst G;refine⟨_,rfl,t,_,rfl,aS e,rfl,_,_,rfl,_,_,rfl,rfl,_,rfl,rfl,_,rfl,?_⟩;rw[decide_eq_false (show¬ V.str "back"=V.str "write" by decide)];refine bG ?_;have J:=(fH hn).2;refine⟨big _ (by rw[AL];omega),_,rfl,_,.str _ (big _ (by omega)),big _ (by rw[AL,AL];omega),big _ (by rw[AL,AL];omega),?_⟩;rw[aCA];exact k H (aT.refl H)
theorem v4:bB ["text","row"] ["text"] (aK tK):=⟨rfl,rfl,rfl,by decide,rfl,by decide,by decide⟩
theorem aBu{f U C fX:Af}{fd J O:Ax}(F:Fun K "read_row" "read_row" tK f fd)(T:Txt K mg)(X:XNo P w K mg base C fX O)
  (GI:b8 P w K mg base CX0 8 U J ["line"] pS) (mI:mg "row_in"=some (.ref U)) (kI:Az K (.ref U)=true) (bI:dH K J ["line"] [])
  :b8 P w K mg base (CXd P w) 9 f fd ["text"] (hG K C oU pU):=by
 refine F.okRd v4 (fun vs H Q E h=>?_) (fun ah A outer s H vs Q E Z h=>?_)
 ·cases h with
  | str z G=>subst G;rfl
  | odd x t G=>subst G;rfl
 ·have nd:=v4.nd;have Y:cJ 2 _:=Z.mono (by decide);refine⟨_,(aE (aY (i:=1) nd rfl (Aw rfl) (nA (cN (aM cM (by rfl) T.isi (by kernel_rfl) (aB (pv 0) (aB (dI (v:=.ty "str") (by rfl) T.str (by kernel_rfl) rfl) aA)))) (d8 GI Z rfl mI kI bI .nil gR (aB (pv 0) aA)) fM))
   (aE (bM (v8 (aAE (pv 1))) (aG (pE DI rfl X.m X.q X.F Y X.b X.f (aB aC aA))) aV)
   (aG (aN (pv 1))))),?_⟩
  cases h with
  | odd x t G ht hk W=>
   subst G;refine⟨_,rfl,_,"str",_,false,rfl,ht,hk,false,rfl,bG ?_⟩;refine⟨_,rfl,_,rfl,bQ ?_⟩;exact⟨_,rfl,W.at⟩
  | str z G hz hl k W=>
   subst G;refine⟨_,rfl,_,"str",_,true,rfl,iF.str z,aBc K,true,rfl,bQ ?_⟩;refine⟨_,rfl,.mk z rfl hz hl (fun hy t H' s' rd=>?_) fun hn H' s'=>?_⟩
   ·refine⟨_,rfl,_,rfl,bG ?_⟩;exact⟨_,rfl,k hy t H' s' rd⟩
   ·refine⟨_,rfl,_,rfl,bQ ?_⟩;exact⟨_,rfl,((W hn).same s').at⟩
theorem uJ:bB ["text","word","blank","rest"] ["text"] (aK pM):=⟨rfl,rfl,rfl,by decide,rfl,by decide,by decide⟩
theorem aAy{f fR fN C fX:Af}{fd aa W af:Ax}(F:Fun K "read_deed" "read_deed" pM f fd)(T:Txt K mg)(X:XNo P w K mg base C fX af)
  (GR:b8 P w K mg base (CXd P w) 9 fR aa ["text"] (hG K C oU pU)) (mR:mg "read_row"=some (.ref fR)) (kR:Az K (.ref fR)=true) (bR:dH K aa ["text"] [])
  (GN:b8 P w K mg base CX0 1 fN W ["thing"] eZ) (mN:mg "is_name"=some (.ref fN)) (kN:Az K (.ref fN)=true) (bN:dH K W ["thing"] [])
  :b8 P w K mg base (CXd P w) 10 f fd ["text"] (hG K C eQ f9):=by
 refine F.okRd uJ (fun vs H Q E h=>?_) (fun ay A outer s H vs Q E hr h=>?_)
 ·cases h with
  | str z G=>subst G;rfl
  | odd x t G=>subst G;rfl
 ·have nd:=uJ.nd;have Z:cJ 2 _:=hr.mono (by decide);have ai:cJ 1 _:=hr.mono (by decide);refine⟨_,(aE (bM (cS (cN (aM cM (by rfl) T.isi (by kernel_rfl) (aB (pv 0) (aB (dI (v:=.ty "str") (by rfl) T.str (by kernel_rfl) rfl) aA))))) (aG (pE DI rfl X.m X.q X.F Z X.b X.f (aB aC aA))) aV)
   (aE (iS (gE Bj PySem.F.slot_str_partition PySem.F.type_str_partition wR (pv 0) (aB aJ aA)) (jI rfl (cO (bJ (i:=1) nd rfl (Aw rfl)) (cO (bJ (i:=2) nd rfl (Aw rfl)) (cO (bJ (i:=3) nd rfl (Aw rfl)) gU)))))
   (aE (bM (aP cH (pv 1) aJ (aU _)) (aG (aN (cG (aB aJ (aB (d8 GR hr rfl mR kR bR .nil (aED fun _ _ _ h=>h) (aB (pv 3) aA)) aA))))) aV)
   (aE (bM (PW.pt (dU (aP kD (pv 1) aJ (aU _)) (dP (cS (cN (d8 GN ai rfl mN kN bN .nil gR (aB (pv 3) aA))))))) (aG (pE DI rfl X.m X.q X.F Z X.b X.f (aB aC aA))) aV)
   (aG (aN (cG (aB aJ (aB (pv 3) aA))))))))),?_⟩
  cases h with
  | odd x t G ht hk Y=>
   subst G;refine⟨_,rfl,_,"str",_,false,rfl,ht,hk,false,rfl,bQ ?_⟩;exact⟨_,rfl,Y.at⟩
  | str z G hz hl k Y=>
   subst G;refine⟨_,rfl,_,"str",_,true,rfl,iF.str z,aBc K,true,rfl,bG ?_⟩;obtain⟨d1,d2⟩:=aJB z;refine⟨_,rfl,rfl,.mk z " " rfl rfl (by decide) (aF (by omega)) fun p hp=>?_⟩;have sp:=aH (o:=.tup [V.str (BJ z " ").1,.str (BJ z " ").2.1,.str (BJ z " ").2.2]) hp;have ep:=aD (H:=H) (a:=p) (o:=.tup [V.str (BJ z " ").1,.str (BJ z " ").2.1,.str (BJ z " ").2.2]);generalize upd H p _=H1 at sp ep ⊢;refine⟨p,_,rfl,aS ep,rfl,_,_,rfl,_,_,rfl,_,_,rfl,rfl,_,rfl,rfl,_,rfl,?_⟩;show if decide (V.str (dW z)=V.str "write")=true then _ else _
   by_cases hw:dW z="write"
   ·rw[Ic (show V.str (dW z)=V.str "write" by rw[hw])];refine bQ ?_;have O:eQ z=oU (dR z):=by unfold eQ;rw[Ib hw]
    have ev:f9 z=.tuple [.str "write",pU (dR z)]:=by unfold f9;rw[Ib hw]
    refine⟨_,rfl,.str (dR z) rfl (by omega) (by omega) (fun hy t H' s' rd=>?_) fun hn=>(Y (by rw[O];exact hn)).same sp⟩;refine⟨zZ2,fun t2 J=>?_⟩;have st:=aH (o:=.tup [V.str "write",.ref t]) J;refine k (by rw[O];exact hy) t2 _ (sp.trans (s'.trans st)) ?_;rw[ev];exact .tup aD (by show 2≤1000;decide) (.cons (.str _ (by decide)) (.cons (rd.same st) .nil))
   rw[decide_eq_false (show¬ V.str (dW z)=V.str "write" from fun e=>by injection e with e;exact hw e)];refine bG ?_;have O:eQ z=(decide (dW z="back") && bA (dR z)):=by unfold eQ;rw[Ia hw]
   have ev:f9 z=.tuple [.str "back",.str (dR z)]:=by unfold f9;rw[Ia hw]
   refine⟨_,rfl,rfl,_,rfl,?_⟩;show if (!decide (V.str (dW z)=V.str "back"))=true then _ else _
   by_cases hb:dW z="back"
   case neg=>
    rw[decide_eq_false (show¬ V.str (dW z)=V.str "back" from fun e=>by injection e with e;exact hb e)];refine bQ (bQ ?_);exact⟨_,rfl,((Y (by rw[O,decide_eq_false hb];rfl)).same sp).at⟩
   rw[Ic (show V.str (dW z)=V.str "back" by rw[hb])];refine bG ?_;refine⟨_,rfl,false,.str (dR z),.str (dR z),rfl,.str _ (by omega),fun H2 s2=>⟨_,rfl,?_⟩⟩;have U:=sp.trans s2;show if (!bA (dR z))=true then _ else _
   cases hn:bA (dR z)with
   | false=>
    refine bQ ?_;exact⟨_,rfl,((Y (by rw[O,hn,AI])).same U).at⟩
   | true=>
    refine bG ?_;refine⟨_,rfl,zZ2,fun t2 J=>?_⟩;have st:=aH (o:=.tup [V.str "back",.str (dR z)]) J;refine k (by rw[O,hn,Ic hb];rfl) t2 _ (U.trans st) ?_;rw[ev];exact .tup aD (by show 2≤1000;decide) (.cons (.str _ (by decide)) (.cons (.str _ (show(dR z).length≤1000 by omega)) .nil))
theorem aAz:bB ["_law_text","_law_terms","_law_row_here"] ["_law_text"] (aK xB):=⟨rfl,rfl,rfl,by decide,rfl,by decide,by decide⟩
theorem aDB{f:Af}{fd:Ax}(F:Fun K "_law_deed_in" "_law_deed_in" xB f fd)(aa:mg "len"=none)
  (GI:Cl P w K mg base 5 "_law_row_in" ["_law_line"] pS)
  (GN:Cl P w K mg base 1 "_law_is_name" ["_law_thing"] eZ)
  :b8 P w K mg base CX0 6 f fd ["_law_text"] xY:=by
 refine F.ok aAz (fun vs H Q E h=>?_) (fun aw A outer s H vs Q E hr h=>?_)
 ·obtain⟨z,rfl,_⟩:=h;rfl
 ·obtain⟨z,rfl,hz,hl,ky,kn⟩:=h;have nd:=aAz.nd;have ai:cJ 1 _:=hr.mono (by decide);refine⟨_,(aE (aY (i:=1) nd rfl (Aw rfl) (gE Bj C6 C5 oF (pv 0) (aB aJ aA)))
   (aE (fO (bM (PW.pt (gO (aP cH (aZ bS (pv 1) aC Ig) aJ (aU _)) (gO (aP cH (aM aO (by rfl) aa Aq (aB (pv 1) aA)) aC (aU _)) (gT (cN (aW GN ai (aB (aZ bS (pv 1) aC Ig) aA))))))) (aG (aN (cG (aB aJ (aB (aZ bS (pv 1) aC Ig) aA))))) aV))
   (aE (aY (i:=2) nd rfl (Aw rfl) (aW GI hr (aB (bY iU (pv 0) (cA aC) cU) aA)))
   (aE (bM (PW.pt (gO (aP cH (bY iU (pv 0) cU (cA aC)) aJ (aU _)) (gT (v8 (aFU (pv 2)))))) (aG (aN (cG (aB aJ (aB (pv 2) aA))))) aV)
   (aG (aN fM)))))),?_⟩
  have zz:z.length≤sizeLine:=aF (by omega);refine⟨_,rfl,rfl,⟨_,_,rfl,rfl,by decide,aF (n:=z.length + 2) (by omega),fun L hL=>?_⟩⟩;have sL:=aH (o:=.lst ((AD z " ").map V.str)) hL;have Z:=aD (H:=H) (a:=L) (o:=.lst ((AD z " ").map V.str));generalize upd H L _=H1 at sL Z ⊢;have Y:∀ w∈AD z " ",w.length≤1000:=fun w hw=>AM (mZ z w hw) hz;have U:(AD z " ")≠[]:=fun e=>by have:=fJ z;rw[e]at this;cases this
  have G:=aFE z;have hb:bks (A8 z (some 6) none) + 1≤60:=by
   have h1:=fJ z;have h2:=aDv z (some 6) none;omega
  have hq:(A8 z (some 6) none).length≤1000:=AM (PySem.Txt.slice_le z (some 6) none) hz;generalize AD z " "=ws at Y U G Z;obtain⟨O,bF,rfl⟩:∃ O bF,ws=O :: bF:=by
   cases ws with
   | nil=>exact absurd rfl U
   | cons a b=>exact⟨a,b,rfl⟩
  have e0:atI ((O :: bF).map V.str) 0=some (.str O):=bO (j:=0) rfl;refine⟨fun σ' H'=>σ'=[some (.str z),some (.ref L),none]∧aT H H'∧¬ ∃ n,O :: bF=[("back":Str),n]∧bA n=true,?_,?_⟩
  ·refine⟨_,rfl,L,_,0,_,rfl,rfl,aQ Z,e0,rfl,_,rfl,?_⟩;by_cases h1:O="back"
   case neg=>
    rw[decide_eq_false (show¬ V.str O=V.str "back" from fun e=>by injection e with e;exact h1 e)];refine bG (bG ?_);exact⟨rfl,sL,fun⟨n,e,_⟩=>h1 (DQ.inj e).1⟩
   subst h1;rw[Ic (show V.str "back"=V.str "back" from rfl)];refine bQ ?_;refine⟨_,rfl,L,_,rfl,.inl (aQ Z),rfl,_,rfl,?_⟩;by_cases h2:bF.length=1
   case neg=>
    rw[decide_eq_false (show¬ V.int ((((("back":Str) :: bF).map V.str).length:Nat):Int)=V.int 2 from fun z=>by injection z with z;rw[Ac,Ak]at z;omega)];refine bG (bG ?_);exact⟨rfl,sL,fun⟨n,e,_⟩=>h2 (by rw[(DQ.inj e).2];rfl)⟩
   obtain⟨n,rfl⟩:=Ep.mp h2;refine bQ ?_;refine⟨_,rfl,L,_,1,_,rfl,rfl,aQ Z,bO (j:=1) rfl,false,.str n,.str n,rfl,.str _ (Y n (by simp)),fun H2 s2=>⟨_,rfl,?_⟩⟩;have ac:=sL.trans s2;show if bA n=true then _ else _
   cases hn:bA n with
   | false=>exact bG ⟨rfl,ac,fun⟨m,e,h⟩=>by have:n=m:=(DQ.inj (DQ.inj e).2).1;rw[← this,hn]at h;cases h⟩
   | true=>
    refine bQ ?_;rcases G with⟨m,e,_,hB,hV⟩ | ⟨W,_⟩
    ·have en:n=m:=(DQ.inj (DQ.inj e).2).1;subst en;refine⟨_,rfl,L,_,1,_,rfl,rfl,aQ (s2 _ _ Z),bO (j:=1) rfl,zZ2,fun t ht=>?_⟩;have st:=aH (o:=.tup [V.str "back",.str n]) ht;refine ky hB t _ (ac.trans st) ?_;rw[hV];exact .tup aD (by show 2≤1000;decide) (.cons (.str _ (by decide)) (.cons (.str _ (Y n (by simp))) .nil))
    ·exact absurd ⟨n,rfl,hn⟩ W
  rintro σ' H2 ⟨rfl,s2,W⟩;obtain⟨_,G⟩:(¬ ∃ n,O :: bF=[("back":Str),n]∧bA n=true)∧((A8 z none (some 6)="write "∧eQ z=oU (A8 z (some 6) none)∧f9 z=.tuple [.str "write",pU (A8 z (some 6) none)])∨(A8 z none (some 6)≠"write "∧eQ z=false)):=by
   rcases G with⟨m,e,h,_⟩ | G
   ·exact absurd ⟨m,e,h⟩ W
   ·exact G
  refine⟨_,rfl,6,rfl,z,rfl,zz,.mk (A8 z (some 6) none) rfl hq (by rw[fJ];exact hb) (fun hy t H3 s3 rd=>?_) fun hn H3 s3=>?_⟩
  ·have J:=s2.trans s3;refine⟨_,rfl,6,rfl,z,rfl,zz,rfl,_,rfl,?_⟩;rcases G with⟨h6,hB,hV⟩ | ⟨h6,hB⟩
   ·rw[Ic (show V.str (A8 z none (some 6))=V.str "write " by rw[h6])];refine bQ ?_;refine⟨_,rfl,_,rfl,bQ ?_⟩;refine⟨_,rfl,zZ2,fun t2 aj=>?_⟩;have st:=aH (o:=.tup [V.str "write",.ref t]) aj;refine ky (by rw[hB];exact hy) t2 _ (J.trans st) ?_;rw[hV];exact .tup aD (by show 2≤1000;decide) (.cons (.str _ (by decide)) (.cons (rd.same st) .nil))
   ·rw[decide_eq_false (show¬ V.str (A8 z none (some 6))=V.str "write " from fun e=>by injection e with e;exact h6 e)];refine bG (bG ?_);exact kn hB H3 J
  ·have J:=s2.trans s3;refine⟨_,rfl,6,rfl,z,rfl,zz,rfl,_,rfl,?_⟩;rcases G with⟨h6,hB,hV⟩ | ⟨h6,hB⟩
   ·rw[Ic (show V.str (A8 z none (some 6))=V.str "write " by rw[h6])];refine bQ ?_;refine⟨_,rfl,_,rfl,bG ?_⟩;exact kn (by rw[hB];exact hn) H3 J
   ·rw[decide_eq_false (show¬ V.str (A8 z none (some 6))=V.str "write " from fun e=>by injection e with e;exact h6 e)];refine bG (bG ?_);exact kn hB H3 J
def uK:Str:=" !\"#$&'()*+,-./0123456789:;<=>?@ABCDEFGHIJKLMNOPQRSTUVWXYZ[\\]^_`abcdefghijklmnopqrstuvwxyz{|}~\n"
theorem lW:uK.length=95:=by decide
theorem aFI(c n:Nat):(oK c n).length=n:=by
 unfold oK;show(Co n c).toArray.size=n;rw[Ao,List.length_replicate]
theorem xZ{f:Str→Nat}{y:Str}:∀{ps:List Str}{j:Nat},((ps.set j y).map f).sum≤(ps.map f).sum + f y
 | [],j=>Bs _
 | x :: r,0=>by show f y + (r.map f).sum≤f x + (r.map f).sum + f y;omega
 | x :: r,j + 1=>by
  show f x + ((r.set j y).map f).sum≤f x + (r.map f).sum + f y;have:=xZ (f:=f) (y:=y) (ps:=r) (j:=j);omega
theorem aAA{f:Str→Nat}:∀{l:List Str},(∀ y∈l,f y=0)→(l.map f).sum=0
 | [],_=>rfl
 | a :: l,h=>by rw[A0,B5,h a (by simp),aAA fun y G=>h y (by simp[G])]
theorem Wg.cut{n b q:Nat}{ys ws:List Str}(W:Wg n b ws)(fr:∀ y∈ws,bks y=0)(s:ys.Sublist ws)(J:ys.length≤q):Wg n q ys:=⟨(W.sub s).len,by rw[aAA fun y G=>fr y (s.subset G)];omega⟩
theorem aIC{ws ys:List Str}{m:Nat}(e:eJ (ws.map V.str) none (some (m:Int))=ys.map V.str):ys.length≤m:=by
 have:=congrArg C8 e;rw[iV (α:=Nat),AC,Ac,Ac]at this;omega
theorem aFJ{ws ys:List Str}{m:Nat}(e:eJ (ws.map V.str) (some (m:Int)) none=ys.map V.str):ys.length≤ws.length - m:=by
 have:=congrArg C8 e;rw[sH (α:=Nat),Bk,Ac,Ac]at this;omega
theorem aG5{ws ys:List Str}{a b:Nat}(e:eJ (ws.map V.str) (some (a:Int)) (some (b:Int))=ys.map V.str):ys.length≤b - a:=by
 have:=congrArg C8 e;unfold eJ at this;rw[HT.sIx_nat,HT.sIx_nat,AC,Bk,Ac,Ac]at this;omega
theorem aFK(z:Str):bks z≤z.length:=by
 unfold bks;exact AM List.count_le_length (CU AS)
inductive aFL(vs:List V)(H:Hp)(Q:VK)(E:XK):Prop
 | mk (p c:Af) (ns:List Int) (a:Int) (z:Str) (h0:vs=[.ref p,.str z]) (hp:c4 H p c ns a) (ha:a≤900000) (hz:z.length≤11)
   (q:∀(z':Str) (a':Int) (H':Hp),z'.length≤100→bks z'≤33→a≤a'→a'≤a + 5→c4 H' p c ns a'→bK p H H'→Q (.str z') H'):aFL vs H Q E
def aCB:Sp:=fun vs H Q E=>aFL vs H Q E
inductive aFM(vs:List V)(H:Hp)(Q:VK)(E:XK):Prop
 | mk (p c:Af) (ns:List Int) (a:Int) (z:Str) (h0:vs=[.ref p,.str z]) (hp:c4 H p c ns a) (ha:a≤800000) (hz:z.length≤306) (hw:∀ y∈AD z " ",y.length≤11) (hl:(AD z " ").length≤25)
   (q:∀(z':Str) (a':Int) (H':Hp),z'.length≤1000→(AD z' " ").length≤60→a≤a'→a'≤a + 12→c4 H' p c ns a'→bK p H H'→Q (.str z') H'):aFM vs H Q E
def aCC:Sp:=fun vs H Q E=>aFM vs H Q E
theorem c4.upd{H:Hp}{p c L:Af}{ns:List Int}{a:Int}{o:HO}(h:c4 H p c ns a)(h1:L≠p)(h2:L≠c):c4 (upd H L o) p c ns a:=by
 obtain⟨⟨z,hz,e⟩,ce,ge,sm⟩:=h;exact⟨⟨z,hz,by rw[bD (CL h1)];exact e⟩,by rw[bD (CL h2)];exact ce,ge,sm⟩
theorem aID:("9":Str)=⟨#[57]⟩:=by decide
theorem aIE:("0":Str)=⟨#[48]⟩:=by decide
theorem aCD:bB ["_law_pen_here","_law_word","_law_way","_law_signs","_law_sign","_law_at","_law_some_here"] ["_law_pen_here","_law_word"] (aK aA6):=⟨rfl,rfl,rfl,by decide,rfl,by decide,by decide⟩
theorem aFN{f:Af}{fd:Ax}(F:Fun K "_law_bent_word" "_law_bent_word" aA6 f fd)(U:mg "len"=none)
  (GT:Cl P w K mg base 1 "_law_take" ["_law_pen_here","_law_many"] jR)
  :b8 P w K mg base CX0 2 f fd ["_law_pen_here","_law_word"] aCB:=by
 refine F.ok aCD (fun vs H Q E h=>?_) (fun bf A outer s H vs Q E hr h=>?_)
 ·obtain⟨p,c,ns,a,z,rfl,_⟩:=h;rfl
 ·obtain⟨p,c,ns,a,z,rfl,hp,ha,hz,k⟩:=h;have nd:=aCD.nd;have J:cJ 1 _:=hr;refine⟨_,(aE (aY (i:=2) nd rfl (Aw rfl) (aW GT J (aB (pv 0) (aB aC aA))))
   (aE (aY (i:=3) nd rfl (Aw rfl) aJ)
   (aE (aY (i:=4) nd rfl (Aw rfl) (aZ mQ (pv 3) (aW GT J (aB (pv 0) (aB (aM dJ (by rfl) U Aq (aB (pv 3) aA)) aA))) Ig))
   (aE (aY (i:=5) nd rfl (Aw rfl) (aW GT J (aB (pv 0) (aB (aX c8 (aM dJ (by rfl) U Aq (aB (pv 1) aA)) aC) aA))))
   (aE (bM (aP cH (pv 2) aC (aU _)) (aG (aN (aX cW (aX cW (bY iU (pv 1) cU (cA (pv 5))) (pv 4)) (bY iU (pv 1) (cA (pv 5)) cU)))) aV)
   (aE (bM (aP cH (pv 2) aC (aU _)) (aG (aN (aX cW (aX cW (bY iU (pv 1) cU (cA (pv 5))) (pv 4)) (bY iU (pv 1) (cA (aX c8 (pv 5) aC)) cU)))) aV)
   (aE (bM (aP cH (pv 2) aC (aU _)) (aG (aN (aX cW (bY iU (pv 1) cU (cA (pv 5))) (bY iU (pv 1) (cA (aX c8 (pv 5) aC)) cU)))) aV)
   (aE (bM (aP cH (pv 2) aC (aU _)) (aG (aN (aZ bS (dB (aB (aX cW aJ (pv 1)) (aB (aX cW aJ (pv 1)) (aB (aX cW aJ (pv 1)) (aB (aX cW (pv 1) aJ) (aB (aHP Bj PySem.F.slot_str_upper PySem.F.type_str_upper aEa (pv 1)) (aB (aX cW (aX aB1 aJ aC) aJ) aA))))))) (aW GT J (aB (pv 0) (aB aC aA))) Ig))) aV)
   (aE (aY (i:=6) nd rfl (Aw rfl) (dB (aB aJ (aB aJ (aB aJ (aB aJ (aB aJ (aB aJ (aB aJ (aB aJ (aB aJ (aB aJ aA))))))))))))
   (aE (aY (i:=6) nd rfl (Aw rfl) (aX jM (pv 6) (dB (aB aJ (aB (aX aB1 aJ aC) (aB aJ (aB aJ (aB aJ (aB aJ (aB aJ (aB aJ (aB aJ (aB aJ aA)))))))))))))
   (aG (aN (aZ bS (pv 6) (aW GT J (aB (pv 0) (aB aC aA))) Ig))))))))))))),?_⟩
  have zz:z.length≤sizeLine:=aF (by omega);refine⟨_,rfl,p,c,ns,a,_,rfl,hp,by omega,by decide,by decide,fun r1 a1 H1 bq bo bi bx aw k1=>?_⟩;dsimp only[cE];refine⟨_,rfl,_,rfl,_,rfl,uK,rfl,aF (by rw[lW];decide),p,c,ns,a1,_,rfl,aw,by omega,by rw[lW];decide,by rw[lW];decide,fun r2 a2 H2 bg bv bu bj az k2=>?_⟩;obtain⟨c0,hat⟩:∃ c0,atI uK.cps.toList r2=some c0:=by
   obtain⟨m,rfl⟩:∃ m:Nat,r2=m:=⟨r2.toNat,by omega⟩
   have hm:m < uK.cps.toList.length:=by
    rw[show uK.cps.toList.length=uK.length from AS];omega
   exact⟨_,bO (Ai hm)⟩
  refine⟨uK,r2,c0,rfl,rfl,aF (by rw[lW];decide),hat,_,rfl,_,rfl,z,rfl,zz,_,_,rfl,rfl,p,c,ns,a2,_,rfl,az,by omega,by omega,by have:=hz;omega,fun r3 a3 H3 bz bw be br ac k3=>?_⟩;have Z:=(k1.trans k2).trans k3;have l0:(⟨#[c0]⟩:Str).length=1:=rfl;have sl:=fun lo hi=>PySem.Txt.slice_le z lo hi;have u1:=sl none (some r3);have u2:=sl (some r3) none;have u3:=sl (some (r3 + 1)) none;have aa:∀(G:Str),G.length≤33→Q (.str G) H3:=fun G h=>k G a3 H3 (by omega) (AM (aFK G) h) (by omega) (by omega) ac Z;refine⟨_,rfl,rfl,_,rfl,c9 (fun g=>?_) fun g=>?_⟩
  ·refine⟨_,rfl,_,rfl,_,rfl,z,rfl,zz,_,rfl,_,_,rfl,rfl,aF (by omega),_,rfl,_,rfl,_,rfl,z,rfl,zz,_,_,rfl,rfl,aF (by rw[AL];omega),aa _ (by rw[AL,AL];omega)⟩
  refine⟨_,rfl,rfl,_,rfl,c9 (fun g=>?_) fun g=>?_⟩
  ·refine⟨_,rfl,_,rfl,_,rfl,z,rfl,zz,_,rfl,_,_,rfl,rfl,aF (by omega),_,rfl,_,rfl,_,_,rfl,rfl,_,rfl,z,rfl,zz,_,_,rfl,rfl,aF (by rw[AL];omega),aa _ (by rw[AL,AL];omega)⟩
  refine⟨_,rfl,rfl,_,rfl,c9 (fun g=>?_) fun g=>?_⟩
  ·refine⟨_,rfl,_,rfl,_,rfl,z,rfl,zz,_,rfl,_,rfl,_,_,rfl,rfl,_,rfl,z,rfl,zz,_,_,rfl,rfl,aF (by omega),aa _ (by rw[AL];omega)⟩
  have q1:("0":Str).length=1:=by decide
  have q2:("+":Str).length=1:=by decide
  have q3:("-":Str).length=1:=by decide
  have q4:("1":Str).length=1:=by decide
  refine⟨_,rfl,rfl,_,rfl,c9 (fun g=>?_) fun g=>?_⟩
  ·refine⟨_,rfl,_,_,rfl,rfl,aF (by rw[q1];omega),_,rfl,_,_,rfl,rfl,aF (by rw[q2];omega),_,rfl,_,_,rfl,rfl,aF (by rw[q3];omega),_,rfl,_,_,rfl,rfl,aF (by rw[q1];omega),_,rfl,rfl,z,rfl,rfl,by omega,48,59,by rw[← aIE],rfl,by decide,by decide,_,_,rfl,rfl,aF (by rw[aFI,q4];decide),zZ6,fun L nL=>?_⟩;have sL:=aH (o:=.lst [V.str (("0":Str) ++ z),.str (("+":Str) ++ z),.str (("-":Str) ++ z),.str (z ++ ("0":Str)),.str (Txt.upper z),.str (oK 48 (59:Int).toNat ++ ("1":Str))]) nL;have eL:=aD (H:=H3) (a:=L) (o:=.lst [V.str (("0":Str) ++ z),.str (("+":Str) ++ z),.str (("-":Str) ++ z),.str (z ++ ("0":Str)),.str (Txt.upper z),.str (oK 48 (59:Int).toNat ++ ("1":Str))]);generalize upd H3 L _=H4 at sL eL ⊢;have aj:=ac.same sL;refine⟨_,rfl,p,c,ns,a3,_,rfl,aj,by omega,by decide,by decide,fun r4 a4 H5 Y ao av ay O k5=>?_⟩;obtain⟨v,hv,hat5⟩:=iB (xs:=[V.str (("0":Str) ++ z),.str (("+":Str) ++ z),.str (("-":Str) ++ z),.str (z ++ ("0":Str)),.str (Txt.upper z),.str (oK 48 (59:Int).toNat ++ ("1":Str))]) (i:=r4) Y (by show r4 < 6;omega);obtain⟨G,rfl,h1,h2⟩:∃ G,v=.str G∧G.length≤100∧bks G≤33:=by
    have up:=PyProof.Rows.len_upper z;have go:∀ G:Str,G.length≤33→∃ W,V.str G=.str W∧W.length≤100∧bks W≤33:=fun G h=>⟨G,rfl,by omega,AM (aFK G) h⟩
    simp only[Ap,AF,or_false]at hv;rcases hv with rfl | rfl | rfl | rfl | rfl | rfl
    ·exact go _ (by rw[AL,q1];omega)
    ·exact go _ (by rw[AL,q2];omega)
    ·exact go _ (by rw[AL,q3];omega)
    ·exact go _ (by rw[AL,q1];omega)
    ·exact go _ (by omega)
    ·exact⟨_,rfl,by decide,by decide⟩
   exact⟨L,_,r4,_,rfl,rfl,aQ (cQ eL aj k5),hat5,k G a4 _ h1 h2 (by omega) (by omega) O ((Z.same sL).trans k5)⟩
  refine⟨aIa,fun L nL=>?_⟩;have sL:=aH (o:=.lst [V.str "0",.str "1",.str "9999",.str "10000",.str "1000000",.str "1000001",.str "10000000",.str "10000001",.str "999999999",.str "1000000000"]) nL;have eL:=aD (H:=H3) (a:=L) (o:=.lst [V.str "0",.str "1",.str "9999",.str "10000",.str "1000000",.str "1000001",.str "10000000",.str "10000001",.str "999999999",.str "1000000000"]);generalize upd H3 L _=H4 at sL eL ⊢;dsimp only[cE];refine⟨_,rfl,57,61,by rw[← aID],rfl,by decide,by decide,aIa,fun M nM=>?_⟩;have sM:=aH (o:=.lst [V.str "1000000001",.str (oK 57 (61:Int).toNat),.str "a",.str "abcdefgh",.str "abcdefghi",.str "as",.str "field",.str "",.str "-",.str "none"]) nM;refine⟨L,M,_,_,rfl,rfl,sM _ _ eL,aD,(show 10 + 10≤PySem.sizeLine from aF (by decide)),fun N nN=>?_⟩;have sN:=sL.trans (sM.trans (aH (o:=.lst ([V.str "0",.str "1",.str "9999",.str "10000",.str "1000000",.str "1000001",.str "10000000",.str "10000001",.str "999999999",.str "1000000000"] ++ [V.str "1000000001",.str (oK 57 (61:Int).toNat),.str "a",.str "abcdefgh",.str "abcdefghi",.str "as",.str "field",.str "",.str "-",.str "none"])) nN));have eN:=aD (H:=upd H4 M (.lst [V.str "1000000001",.str (oK 57 (61:Int).toNat),.str "a",.str "abcdefgh",.str "abcdefghi",.str "as",.str "field",.str "",.str "-",.str "none"])) (a:=N) (o:=.lst ([V.str "0",.str "1",.str "9999",.str "10000",.str "1000000",.str "1000001",.str "10000000",.str "10000001",.str "999999999",.str "1000000000"] ++ [V.str "1000000001",.str (oK 57 (61:Int).toNat),.str "a",.str "abcdefgh",.str "abcdefghi",.str "as",.str "field",.str "",.str "-",.str "none"]))
  generalize upd (upd H4 M _) N _=H5 at sN eN ⊢;dsimp only[cE];have O:=ac.same sN;refine⟨_,rfl,_,rfl,p,c,ns,a3,_,rfl,O,by omega,by decide,by decide,fun r4 a4 H6 Y ao av ay aI k6=>?_⟩;obtain⟨v,hv,hat5⟩:=iB (xs:=[V.str "0",.str "1",.str "9999",.str "10000",.str "1000000",.str "1000001",.str "10000000",.str "10000001",.str "999999999",.str "1000000000"] ++ [V.str "1000000001",.str (oK 57 (61:Int).toNat),.str "a",.str "abcdefgh",.str "abcdefghi",.str "as",.str "field",.str "",.str "-",.str "none"]) (i:=r4) Y (by show r4 < 20;omega);obtain⟨G,rfl,h1,h2⟩:∃ G,v=.str G∧G.length≤100∧bks G≤33:=by
   simp only[Bo,Ap,AF,or_false]at hv;rcases hv with(rfl | rfl | rfl | rfl | rfl | rfl | rfl | rfl | rfl | rfl) | (rfl | rfl | rfl | rfl | rfl | rfl | rfl | rfl | rfl | rfl) <;> exact⟨_,rfl,by decide,by decide⟩
  exact⟨N,_,r4,_,rfl,rfl,aQ (cQ eN O k6),hat5,k G a4 _ h1 h2 (by omega) (by omega) aI ((Z.same sN).trans k6)⟩
theorem aCE:bB ["_law_pen_here","_law_line","_law_terms","_law_way","_law_at","_law_other"] ["_law_pen_here","_law_line"] (aK aA7):=⟨rfl,rfl,rfl,by decide,rfl,by decide,by decide⟩
theorem aFO{f:Af}{fd:Ax}(F:Fun K "_law_bent_line" "_law_bent_line" aA7 f fd)(ae:mg "len"=none)
  (GT:Cl P w K mg base 1 "_law_take" ["_law_pen_here","_law_many"] jR)
  (GW:Cl P w K mg base 2 "_law_bent_word" ["_law_pen_here","_law_word"] aCB)
  :b8 P w K mg base CX0 3 f fd ["_law_pen_here","_law_line"] aCC:=by
 refine F.ok aCE (fun vs H Q E h=>?_) (fun b7 A outer s H vs Q E hr h=>?_)
 ·obtain⟨p,c,ns,a,z,rfl,_⟩:=h;rfl
 ·obtain⟨p,c,ns,a,z,rfl,hp,ha,hz,wsh,wl,k⟩:=h;have nd:=aCE.nd;have ac:cJ 1 _:=hr.mono (by decide);have bx:cJ 2 _:=hr;refine⟨_,(aE (aY (i:=2) nd rfl (Aw rfl) (gE Bj C6 C5 oF (pv 1) (aB aJ aA)))
   (aE (aY (i:=3) nd rfl (Aw rfl) (aW GT ac (aB (pv 0) (aB aC aA))))
   (aE (aY (i:=4) nd rfl (Aw rfl) (aW GT ac (aB (pv 0) (aB (aM aO (by rfl) ae Aq (aB (pv 2) aA)) aA))))
   (aE (fO (bM (aP yE (pv 3) aC (aU _)) (aG (iS (aW GW bx (aB (pv 0) (aB (aZ bS (pv 2) (pv 4) Ig) aA))) (aAF (pv 2) (pv 4) rG))) (aG (bM (aP cH (pv 3) aC (aU _)) (aG (iH (gE Bn PySem.F.slot_list_pop PySem.F.type_list_pop yJ (pv 2) (aB (pv 4) aA)))) (aG (bM (aP cH (pv 3) aC (aU _)) (aG (iH (gE Bn PySem.F.slot_list_insert PySem.F.type_list_insert aDh (pv 2) (aB (pv 4) (aB (aZ bS (pv 2) (pv 4) Ig) aA))))) (aG (bM (aP cH (pv 3) aC (aU _)) (aG (aY (i:=2) nd rfl (Aw rfl) (aX jM (aX jM (bY d9 (pv 2) cU (cA (pv 4))) (aGf (bY d9 (pv 2) (cA (pv 4)) (cA (aX c8 (pv 4) aC))) (rC mO aC))) (bY d9 (pv 2) (cA (aX c8 (pv 4) aC)) cU)))) (aG (bM (aP cH (pv 3) aC (aU _)) (aG (aY (i:=2) nd rfl (Aw rfl) (aX jM (pv 2) (dB (aB (aZ bS (dB (aB aJ (aB aJ (aB aJ aA)))) (aW GT ac (aB (pv 0) (aB aC aA))) Ig) aA))))) (aE (aY (i:=5) nd rfl (Aw rfl) (aW GT ac (aB (pv 0) (aB (aM aO (by rfl) ae Aq (aB (pv 2) aA)) aA))))
        (aG (iS (aZ bS (pv 2) (pv 5) Ig) (aAF (pv 2) (pv 4) rG))))))))))))))
   (aG (aN (gE Bj De Dd qM aJ (aB (pv 2) aA)))))))),?_⟩
  refine⟨_,rfl,rfl,z," ",rfl,rfl,by decide,aF (n:=z.length + 2) (by omega),fun L hL=>?_⟩;have W:=aFj z;have eb:=fJ z;have au:=PyProof.Rows.split_pos z " ";have O:∀ y∈AD z " ",bks y=0:=fun y hy=>aAm (by rw[jX]at hy;exact DH z 32 y hy);generalize AD z " "=ws at W au wsh O wl eb ⊢;have s1:=aH (o:=.lst (ws.map V.str)) hL;have e1:=aD (H:=H) (a:=L) (o:=.lst (ws.map V.str));have ah:=hp.same s1;have k1:bK p H (upd H L (.lst (ws.map V.str))):=aT.but s1;generalize upd H L _=H1 at s1 e1 ah k1 ⊢;have Z:L≠p:=fun h=>by
   obtain⟨l',_,e'⟩:=hp.ob;rw[← h,hL]at e';cases e'
  have aa:L≠c:=fun h=>by
   have e':=hp.ce;rw[← h,hL]at e';cases e'
  have kU:∀{X:Hp} {o:HO},bK p H X→bK p H (upd X L o):=fun{X o} kk b u e hb=>by
   rw[bD (bX e hL)];exact kk b u e hb
  have W':Wg 307 25 ws:=⟨by have:=W.len;omega,by have:=W.bk;omega⟩
  dsimp only[cE];refine⟨_,rfl,p,c,ns,a,_,rfl,ah,by omega,by decide,by decide,fun r1 a1 H2 ck ci cf cu aI k2=>?_⟩;have e2:=cQ e1 ah k2;dsimp only[cE];refine⟨_,rfl,_,rfl,L,_,rfl,.inl (aQ e2),p,c,ns,a1,_,rfl,aI,by omega,by rw[Ac];omega,by rw[Ac];omega,fun r2 a2 H3 cb bu cq cg J k3=>?_⟩;have U:=cQ e2 aI k3;have kA:=(k1.trans k2).trans k3;rw[Ac]at bu;obtain⟨m,rfl⟩:∃ m:Nat,r2=m:=⟨r2.toNat,by omega⟩
  have hm:m < ws.length:=by omega
  obtain⟨y,hy⟩:∃ y,ws[m]?=some y:=⟨_,Ai hm⟩
  have ym:=AN hy;have ap:atI (ws.map V.str) (m:Int)=some (.str y):=bO (by rw[AW,hy];rfl);have ej:ixN (ws.map V.str).length (m:Int)=some m:=by
   unfold ixN;rw[Ac,Ib (by omega),Ib (by omega)];simp
  have Y:∀(j:Nat) (y:Str),y.length≤100→bks y≤33→Wg 1000 59 (ws.set j y):=fun j y h1 h2=>by
   have t1:=xZ (f:=(·.length)) (y:=y) (ps:=ws) (j:=j)
   have t2:=xZ (f:=bks) (y:=y) (ps:=ws) (j:=j);have t3:(ws.set j y).length=ws.length:=List.length_set;have:=W'.len;have:=W'.bk;exact⟨by omega,by omega⟩
  dsimp only[cE];refine⟨fun σ' H'=>∃(M:Af) (ys:List Str) (a':Int) (o5:Option V),σ'=[some (.ref p),some (.str z),some (.ref M),some (.int r1),some (.int m),o5]∧H' M=some (.lst (ys.map V.str))∧Wg 1000 59 ys∧c4 H' p c ns a'∧bK p H H'∧a≤a'∧a'≤a + 12,?_,?_⟩
  ·refine⟨_,rfl,_,_,rfl,rfl,_,rfl,c9 (fun g=>?_) fun g=>?_⟩
   ·refine⟨_,rfl,_,rfl,_,rfl,L,_,_,_,rfl,rfl,aQ U,ap,.mk p c ns a2 y rfl J (by omega) (wsh y ym) fun z' a3 H4 h1 h2 aq az G k4=>?_⟩;have e4:=cQ U J k4;refine⟨_,rfl,_,rfl,L,_,m,m,rfl,rfl,e4,ej,?_⟩;rw[show(ws.map V.str).set m (V.str z')=(ws.set m z').map V.str by rw[List.map_set]];exact⟨L,_,a3,none,rfl,aD,Y m z' h1 h2,G.upd Z aa,kU (kA.trans k4),by omega,by omega⟩
   refine⟨_,rfl,rfl,_,rfl,c9 (fun g=>?_) fun g=>?_⟩
   ·have hs:seqIndex? (m:Int) (ws.map V.str).length=some m:=(wC ej).1;refine⟨_,rfl,.inl ⟨rfl,_,aQ U⟩,_,rfl,L,_,m,m,.str y,rfl,rfl,U,by omega,by omega,hs,by rw[AW,hy];rfl,?_⟩;rw[show(ws.map V.str).eraseIdx m=(ws.eraseIdx m).map V.str from pN V.str ws m];exact⟨L,_,a2,none,rfl,aD,(W'.sub (List.eraseIdx_sublist ws m)).le (by decide) (by decide),J.upd Z aa,kU kA,by omega,by omega⟩
   refine⟨_,rfl,rfl,_,rfl,c9 (fun g=>?_) fun g=>?_⟩
   ·refine⟨_,rfl,.inl ⟨rfl,_,aQ U⟩,_,rfl,_,rfl,_,rfl,L,_,_,_,rfl,rfl,aQ U,ap,.mk L _ m (.str y) rfl rfl U (by rw[Ac];omega) (i7 (by rw[Ac];omega)) ?_⟩;have em:(ws.map V.str).take m ++ V.str y :: (ws.map V.str).drop m=(ws.take m ++ y :: ws.drop m).map V.str:=by
     rw[Ar,A0,CA,ET]
    rw[em];refine⟨L,_,a2,none,rfl,aD,?_,J.upd Z aa,kU kA,by omega,by omega⟩;have pm:(ws.take m ++ y :: ws.drop m).Perm ([y] ++ ws):=List.perm_middle.trans (by rw[List.take_append_drop];exact Em _);have w1:Wg (12 + 307) (1 + 25) ([y] ++ ws):=(Wg.one (z:=y) (n:=11) (b:=0) (wsh y ym) (CU (O y ym))).app W';have p1:=(pm.map (·.length)).sum_nat
    have p2:=(pm.map bks).sum_nat;have p3:=pm.length_eq;have:=w1.len;have:=w1.bk;exact⟨by omega,by omega⟩
   refine⟨_,rfl,rfl,_,rfl,c9 (fun g=>?_) fun g=>?_⟩
   ·obtain⟨y1,c1,v1⟩:=uC ws none (some (m:Int));obtain⟨y2,c2,v2⟩:=uC ws (some (m:Int)) (some ((m:Int) + 2));obtain⟨y3,c3,v3⟩:=uC ws (some ((m:Int) + 2)) none;have z1:=v1.length_le;have z2:=v2.length_le;have z3:=v3.length_le;refine⟨_,rfl,_,rfl,_,rfl,L,_,rfl,aQ U,fun S1 m1=>?_⟩;rw[c1];have t1:=aH (o:=.lst (y1.map V.str)) m1;refine⟨_,rfl,_,rfl,_,rfl,_,rfl,_,_,rfl,rfl,_,rfl,L,_,rfl,aQ (t1 _ _ U),fun S2 m2=>?_⟩;rw[c2];have ay:=aH (o:=.lst (y2.map V.str)) m2;have t2:=t1.trans ay;refine⟨1,rfl,S2,y2.map V.str,rfl,rfl,aQ aD,fun S3 m3=>?_⟩;rw[← List.map_reverse];have ba:=aH (o:=.lst (y2.reverse.map V.str)) m3;have t3:=t2.trans ba;have z4:y2.reverse.length=y2.length:=Cn;refine⟨S1,S3,_,_,rfl,rfl,ba _ _ (ay _ _ aD),aD,aF (by rw[Ac,Ac];omega),fun S4 m4=>?_⟩;have t4:=t3.trans (aH (o:=.lst (y1.map V.str ++ y2.reverse.map V.str)) m4);have e4:upd (upd (upd (upd H3 S1 (.lst (y1.map V.str))) S2 (.lst (y2.map V.str))) S3 (.lst (y2.reverse.map V.str))) S4 (.lst (y1.map V.str ++ y2.reverse.map V.str)) S4=some (.lst ((y1 ++ y2.reverse).map V.str)):=by rw[aD,Ar]
    generalize upd (upd (upd (upd H3 S1 (.lst (y1.map V.str))) S2 (.lst (y2.map V.str))) S3 (.lst (y2.reverse.map V.str))) S4 (.lst (y1.map V.str ++ y2.reverse.map V.str))=H7 at t4 e4 ⊢;refine⟨_,rfl,_,rfl,_,_,rfl,rfl,_,rfl,L,_,rfl,aQ (t4 _ _ U),fun S5 m5=>?_⟩;rw[c3];have aR:=aH (o:=.lst (y3.map V.str)) m5;refine⟨S4,S5,_,_,rfl,rfl,aR _ _ e4,aD,aF (by rw[Ac,Ac,Av];omega),fun S6 m6=>?_⟩;have t6:=(t4.trans aR).trans (aH (o:=.lst ((y1 ++ y2.reverse).map V.str ++ y3.map V.str)) m6);have bn:upd (upd H7 S5 (.lst (y3.map V.str))) S6 (.lst ((y1 ++ y2.reverse).map V.str ++ y3.map V.str)) S6=some (.lst ((y1 ++ y2.reverse ++ y3).map V.str)):=by rw[aD,← Ar]
    exact⟨S6,_,a2,none,rfl,bn,(((W'.cut O v1 (aIC c1)).app (W'.cut O v2 (aG5 (a:=m) (b:=m + 2) c2)).rev).app (W'.cut O v3 (aFJ (m:=m + 2) c3))).le (by decide) (by omega),J.same t6,kA.same t6,by omega,by omega⟩
   refine⟨_,rfl,rfl,_,rfl,c9 (fun g=>?_) fun g=>?_⟩
   ·refine⟨_,rfl,zZ3,fun S1 m1=>?_⟩;have t1:=aH (o:=.lst [V.str "",.str "a",.str "1"]) m1;have f1:=aD (H:=H3) (a:=S1) (o:=.lst [V.str "",.str "a",.str "1"]);generalize upd H3 S1 _=H4 at t1 f1 ⊢;have G:=J.same t1;refine⟨_,rfl,p,c,ns,a2,_,rfl,G,by omega,by decide,by decide,fun r3 a3 H5 bb aL aq az bt k5=>?_⟩;obtain⟨v,hv,hat3⟩:=iB (xs:=[V.str "",.str "a",.str "1"]) (i:=r3) bb (by show r3 < 3;omega);obtain⟨u,rfl,hu1,hu2⟩:∃ u,v=.str u∧u.length≤1∧bks u≤0:=by
     simp only[Ap,AF,or_false]at hv;rcases hv with rfl | rfl | rfl <;> exact⟨_,rfl,by decide,by decide⟩
    have e5:=cQ (t1 _ _ U) G k5;refine⟨S1,_,r3,_,rfl,rfl,aQ (cQ f1 G k5),hat3,zZ1,fun S2 m2=>?_⟩;have t2:=aH (o:=.lst [V.str u]) m2;refine⟨L,S2,_,_,rfl,rfl,t2 _ _ e5,aD,aF (by rw[Ac];show _ + 1≤_;omega),fun S3 m3=>?_⟩;have t3:=t2.trans (aH (o:=.lst (ws.map V.str ++ [V.str u])) m3);exact⟨S3,ws ++ [u],a3,none,rfl,by rw[aD,Ar];rfl,(W'.app (Wg.one hu1 hu2)).le (by decide) (by decide),bt.same t3,((kA.same t1).trans k5).same t3,by omega,by omega⟩
   refine⟨_,rfl,_,rfl,L,_,rfl,.inl (aQ U),p,c,ns,a2,_,rfl,J,by omega,by rw[Ac];omega,by rw[Ac];omega,fun r3 a3 H4 bb aL aq az G k4=>?_⟩;have e4:=cQ U J k4;rw[Ac]at aL;obtain⟨j,rfl⟩:∃ j:Nat,r3=j:=⟨r3.toNat,by omega⟩
   obtain⟨x,hx⟩:∃ x,ws[j]?=some x:=⟨_,Ai (by omega)⟩
   have xm:=AN hx;dsimp only[cE];refine⟨_,rfl,_,rfl,L,_,_,.str x,rfl,rfl,aQ e4,bO (by rw[AW,hx];rfl),_,rfl,_,rfl,L,_,m,m,rfl,rfl,e4,ej,?_⟩;rw[show(ws.map V.str).set m (V.str x)=(ws.set m x).map V.str by rw[List.map_set]];exact⟨L,_,a3,_,rfl,aD,Y m x (AM (wsh x xm) (by decide)) (by rw[O x xm];decide),G.upd Z aa,kU (kA.trans k4),by omega,by omega⟩
  rintro σ' H4 ⟨M,ys,a',o5,rfl,eM,wg,G,k4,h1,h2⟩;have q1:(" ":Str).length=1:=by decide
  have j:=wg.join;have jl:=wg.len;exact⟨rfl,_,rfl," ",M,ys,rfl,rfl,aQ eM,by rw[q1];omega,k _ a' H4 j.1 (by rw[fJ];omega) h1 h2 G k4⟩
inductive aCF(K:Ae)(vs:List V)(H:Hp)(Q:VK)(u3_:XK):Prop
 | mk (a:Af) (ns:List Int) (q0:vs=[.ref a]) (q1:SqL K H a (ns.map V.int)) (q2:ns.length≤63) (q3:∀ H',Q (.bl true) H'):aCF K vs H Q u3_
def aCG(K:Ae):Sp:=fun vs H Q u3_=>aCF K vs H Q u3_
def aIF(ok:Str→Bool)(val:Str→Aj)(z:Str)(H:Hp)(v:V):Prop:=(ok z=false∧v=.non)∨(ok z=true∧∃ o,v=.ref o∧RdV false H (.ref o) (val z))
theorem aFP{z:Str}{H:Hp}{Q:VK}{E:XK}(hz:z.length≤1000)(G:(AD z " ").length≤60)(q:∀ v H',aT H H'→aIF oU pU z H' v→Q v H'):pS [.str z] H Q E:=
 .mk z rfl hz G (fun J t H' s rd=>q _ H' s (.inr ⟨J,t,rfl,rd⟩)) fun hn H' s=>q _ H' s (.inl ⟨hn,rfl⟩)
theorem aDC{z:Str}{H:Hp}{Q:VK}{E:XK}(hz:z.length≤1000)(G:(AD z " ").length≤60)(q:∀ v H',aT H H'→aIF eQ f9 z H' v→Q v H'):xY [.str z] H Q E:=
 .mk z rfl hz G (fun J t H' s rd=>q _ H' s (.inr ⟨J,t,rfl,rd⟩)) fun hn H' s=>q _ H' s (.inl ⟨hn,rfl⟩)
theorem oV{P:Al}{w:AH}{K:Ae}{mg:Str→Option Ab}{base:A1}{C f:Af}{ok:Str→Bool}{val:Str→Aj}(rd:Rdr P w K mg base f (hG K C ok val))(G:∀ z,ok z=true→∃ ds,val z=.tuple ds∧OkD 100000 20 (.tuple ds)){z:Str}{v:V}{H:Hp}{Q:VK}{E:XK}(hz:z.length≤1000)(J:(AD z " ").length≤60)(h:aIF ok val z H v)(q:∀ H',aT H H'→Q (.bl true) H'):qZ P w K mg base C [.ref f,.str z,v] H Q E:=by
 rcases h with⟨hn,rfl⟩ | ⟨hy,o,rfl,ro⟩
 ·exact .no f _ _ rd rfl (fun O W _ Y=>.str z rfl hz J (fun h=>by rw[hn]at h;cases h) fun _=>Y trivial) q
 ·obtain⟨ds,e,od⟩:=G z hy;rw[e]at ro;exact .yes f _ _ o ds rd rfl ro od (fun O W U _=>.str z rfl hz J (fun _ t H' s' r=>U _ _ ⟨t,rfl,s',by rw[← e];exact r⟩) fun h=>by rw[hy]at h;cases h) q
def Bad(K:Ae)(H:Hp)(v:V):Prop:=(∃ z,v=.str z∧z.length≤1000∧(AD z " ").length≤60∧oU z=false∧eQ z=false)∨∃ t,iF K H v t∧A9 K t (.type "str")=some false
theorem v5{P:Al}{w:AH}{K:Ae}{mg:Str→Option Ab}{base:A1}{C f:Af}{ok:Str→Bool}{val:Str→Aj}(rd:Rdr P w K mg base f (hG K C ok val)){v:V}{H:Hp}{Q:VK}{E:XK}(h:(∃ z,v=.str z∧z.length≤1000∧(AD z " ").length≤60∧ok z=false)∨∃ t,iF K H v t∧A9 K t (.type "str")=some false)(q:∀ H',aT H H'→Q (.bl true) H'):qZ P w K mg base C [.ref f,v,.non] H Q E:=by
 rcases h with⟨z,rfl,hz,hl,hn⟩ | ⟨t,ty,hk⟩
 ·exact .no f _ _ rd rfl (fun J O _ G=>.str z rfl hz hl (fun h=>by rw[hn]at h;cases h) fun _=>G trivial) q
 ·exact .no f _ _ rd rfl (fun J O _ G=>.odd v t rfl ty hk (G trivial)) q
structure pW(H:Hp)(td:Af)(z:Str):Prop where
 rd:RdV false H (.ref td) (f9 z)
 ok:eQ z=true
 len:z.length≤306
 ws:∀ y∈AD z " ",y.length≤11
 wl:(AD z " ").length≤25
 tx:∀(H1:Hp) (Q:VK) (E:XK),aT H H1→(∀ H',aT H1 H'→Q (.str z) H')→m8 [.ref td] H1 Q E
theorem aCH{w r:Str}(h:32 ∉ w.cps.toList):dW (w ++ (" ":Str) ++ r)=w∧dR (w ++ (" ":Str) ++ r)=r:=by
 rcases m7 (w ++ (" ":Str) ++ r)with⟨h',_⟩ | ⟨w',r',h',e,e1,e2⟩
 ·exact absurd (by rw[jZ];simp) h'
 ·obtain⟨a,b⟩:=uG h h' e;rw[e1,e2];exact⟨a.symm,b.symm⟩
theorem aFQ(z:Str):("write ":Str) ++ z=("write":Str) ++ (" ":Str) ++ z:=dX (by rw[gZ,jZ,pV];simp)
theorem aFR(z:Str):("back ":Str) ++ z=("back":Str) ++ (" ":Str) ++ z:=dX (by
 rw[gZ,jZ,show("back ":Str).cps.toList=("back":Str).cps.toList ++ [32] by decide];simp)
theorem aG6{H:Hp}{td J:Af}{r:g8}{fs:List Str}(e:H td=some (.tup [.str "write",.ref J]))(rd:RdV false H (.ref J) r.d)(ok:r.Ok fs):pW H td (("write ":Str) ++ jV r):=by
 have U:32 ∉ ("write":Str).cps.toList:=by decide
 obtain⟨p1,p2⟩:=aCH (w:="write") (r:=jV r) U;rw[← aFQ]at p1 p2;have es:AD (("write ":Str) ++ jV r) " "=("write":Str) :: gA r:=by rw[aFQ,j6 U,gL ok]
 have O:=ok.words;refine⟨?_,?_,?_,?_,?_,fun H1 Q E s q=>.wr td (.ref J) r fs rfl (s _ _ e) (rd.same s) ok q⟩
 ·unfold f9;rw[p1,p2,Ib rfl];unfold pU;rw[gL ok,oS ok];exact .tup e (by show 2≤1000;decide) (.cons (.str _ (by decide)) (.cons rd .nil))
 ·unfold eQ;rw[p1,p2,Ib rfl];unfold oU;rw[gL ok,oS ok];exact ok.row
 ·rw[AL,show("write ":Str).length=6 by decide];have:=uH ok;omega
 ·rw[es];intro y G;rcases Ap.mp G with rfl | G
  ·decide
  ·exact(O.1 y G).len
 ·rw[es,Ak];have:=O.2;omega
theorem aG7{H:Hp}{td:Af}{n:Str}(e:H td=some (.tup [.str "back",.str n]))(hn:bA n=true):pW H td (("back ":Str) ++ n):=by
 have O:32 ∉ ("back":Str).cps.toList:=by decide
 have G:("back":Str)≠"write":=by decide
 obtain⟨p1,p2⟩:=aCH (w:="back") (r:=n) O;rw[← aFR]at p1 p2;have U:=(fH hn).2;have es:AD (("back ":Str) ++ n) " "=[("back":Str),n]:=by rw[aFR,j6 O,j7 (v0 hn)]
 refine⟨?_,?_,?_,?_,?_,fun H1 Q E s q=>.bk td n rfl (s _ _ e) hn q⟩
 ·unfold f9;rw[p1,p2,Ia G];exact .tup e (by show 2≤1000;decide) (.cons (.str _ (by decide)) (.cons (.str _ (by omega)) .nil))
 ·unfold eQ;rw[p1,p2,Ia G,Ic rfl,hn];rfl
 ·rw[AL,show("back ":Str).length=5 by decide];omega
 ·rw[es];intro y J;simp only[Ap,AF,or_false]at J;rcases J with rfl | rfl
  ·decide
  ·omega
 ·rw[es];show 2≤25;decide
theorem pW.same{H H':Hp}{td:Af}{z:Str}(d:pW H td z)(s:aT H H'):pW H' td z:=⟨d.rd.same s,d.ok,d.len,d.ws,d.wl,fun H1 Q E s1 q=>d.tx H1 Q E (s.trans s1) q⟩
theorem aHx:bB ["_law_script","_law_pen_here","_law_fields","_law_plots","_law_houses","_law_names_here","_law_k","_law_word","_law_row_here","_law_deed","_law_text","_law_other","_law_turn","_law_bent","_law_thing"] ["_law_script"] (aK xC):=⟨rfl,rfl,rfl,by decide,rfl,by decide,by decide⟩
theorem aIG{f:Af}{fd:Ax}(F:Fun K "law" "law" xC f fd)(ba:mg "range"=none)(cu:mg "int"=none){af ak C:Af}(RR:Rdr P w K mg base af (hG K C oU pU))(bL:mg "read_row"=some (.ref af))(RD:Rdr P w K mg base ak (hG K C eQ f9))(bn:mg "read_deed"=some (.ref ak))
  (GP:Cl P w K mg base 1 "_law_pen" ["_law_script"] (aHs K))
  (GS:Cl P w K mg base 3 "_law_sorts" ["_law_pen_here","_law_fields","_law_rows"] aCa)
  (GO:Cl P w K mg base 3 "_law_row_of" ["_law_pen_here","_law_word","_law_name","_law_day","_law_sorts_here"] aCc)
  (fl:Cl P w K mg base 1 "_law_row_text" ["_law_row_here"] jE)
  (GT:Cl P w K mg base 1 "_law_take" ["_law_pen_here","_law_many"] jR)
  (GN:Cl P w K mg base 2 "_law_number" ["_law_pen_here","_law_bottom","_law_most"] aE3)
  (cc:Cl P w K mg base 3 "_law_bent_line" ["_law_pen_here","_law_line"] aCC)
  (ez:Cl P w K mg base 2 "row_text" ["row"] jE)
  (en:Cl P w K mg base 3 "deed_text" ["deed"] m8)
  (GR:Cl P w K mg base 12 "_law_right" ["_law_reads","_law_text","_law_owed"] (qZ P w K mg base C))
  (dt:Cl P w K mg base 5 "_law_row_in" ["_law_line"] pS)
  (eb:Cl P w K mg base 6 "_law_deed_in" ["_law_text"] xY)
  :b8 P w K mg base CX0 13 f fd ["_law_script"] (aCG K):=by
 refine F.ok aHx (fun vs H Q E h=>?_) (fun g0 A outer s H vs Q E hr h=>?_)
 ·obtain⟨a,ns,rfl,_⟩:=h;rfl
 ·obtain⟨sc,ns,rfl,hS,hln,k⟩:=h;have U:cJ 12 _:=hr;have eD:cJ 6 _:=hr.mono (by decide);have eP:cJ 5 _:=hr.mono (by decide);have ai:cJ 3 _:=hr.mono (by decide);have cz:cJ 2 _:=hr.mono (by decide);have ah:cJ 1 _:=hr.mono (by decide);have nd:=aHx.nd;refine⟨_,(aE (aY (i:=1) nd rfl (Aw rfl) (aW GP ah (aB (pv 0) aA)))
   (aE (iS (aW GS ai (aB (pv 1) (aB (aX c8 aC (aW GT ah (aB (pv 1) (aB aC aA)))) (aB aC aA)))) (jI rfl (cO (bJ (i:=2) nd rfl (Aw rfl)) (cO (bJ (i:=3) nd rfl (Aw rfl)) (cO (bJ (i:=4) nd rfl (Aw rfl)) (cO (bJ (i:=5) nd rfl (Aw rfl)) gU))))))
   (aE (fO (bM (PW.pt (gO (aP gW aJ (pv 3) (by with_unfolding_all rfl)) (gT (aP cH (aW GT ah (aB (pv 1) (aB aC aA))) aC (aU _))))) (aG (aY (i:=3) nd rfl (Aw rfl) (aX jM (bY d9 (pv 3) cU (cA aC)) (dB (aB aJ aA))))) aV))
   (aE (iT BF rfl (hJ rfl ba (aB aC aA)) (g:=cE 6) (bJ (i:=6) nd rfl (Aw rfl))
   (aE (aY (i:=7) nd rfl (Aw rfl) (aZ bS (dB (aB aJ (aB aJ (aB aJ (aB aJ (aB aJ (aB aJ (aB aJ (aB aJ aA))))))))) (aX fK (pv 6) aC) Ig))
    (aE (aY (i:=8) nd rfl (Aw rfl) (aW GO ai (aB (pv 1) (aB (pv 7) (aB (aZ bS (pv 5) (pv 6) Ig) (aB (aW GN cz (aB (pv 1) (aB aC (aB aC aA)))) (aB (cG (aB (pv 2) (aB (pv 3) (aB (pv 4) aA)))) aA)))))))
    (aE (aY (i:=9) nd rfl (Aw rfl) (aZ bS (dB (aB (cG (aB aJ (aB (pv 8) aA))) (aB (cG (aB aJ (aB (pv 8) aA))) (aB (cG (aB aJ (aB (aZ bS (pv 5) (pv 6) Ig) aA))) aA)))) (aW GT ah (aB (pv 1) (aB aC aA))) Ig))
    (aE (aY (i:=10) nd rfl (Aw rfl) (aW fl ah (aB (pv 8) aA)))
    (aE (aY (i:=11) nd rfl (Aw rfl) (aZ bS (dB (aB (aX cW aJ (pv 10)) (aB (aX cW aJ (aZ bS (pv 5) (pv 6) Ig)) aA))) (bV uV (by rfl) cu (by kernel_rfl) (aB (dC cH (aZ bU (pv 9) aC Ig) aJ (aU _)) aA)) Ig))
    (aE (bM (PW.pt (dU (aP kD (aW ez cz (aB (pv 8) aA)) (pv 10) (aU _)) (dP (aP kD (aW en ai (aB (pv 9) aA)) (pv 11) (aU _))))) (aG (aN eV)) aV)
    (aE (bM (PW.pt (dU (cS (cN (aW GR U (aB (bZ (v:=.ref af) rfl bL rfl) (aB (pv 10) (aB (pv 8) aA)))))) (dP (cS (cN (aW GR U (aB (bZ (v:=.ref ak) rfl bn rfl) (aB (pv 11) (aB (pv 9) aA))))))))) (aG (aN eV)) aV)
    (aG (iT BF rfl (hJ rfl ba (aB aC aA)) (g:=cE 12) (bJ (i:=12) nd rfl (Aw rfl))
    (aE (aY (i:=13) nd rfl (Aw rfl) (aW cc ai (aB (pv 1) (aB (pv 10) aA))))
     (aE (bM (cS (cN (aW GR U (aB (bZ (v:=.ref af) rfl bL rfl) (aB (pv 13) (aB (aW dt eP (aB (pv 13) aA)) aA)))))) (aG (aN eV)) aV)
     (aE (aY (i:=13) nd rfl (Aw rfl) (aW cc ai (aB (pv 1) (aB (pv 11) aA))))
     (aG (bM (cS (cN (aW GR U (aB (bZ (v:=.ref ak) rfl bn rfl) (aB (pv 13) (aB (aW eb eD (aB (pv 13) aA)) aA)))))) (aG (aN eV)) aV)))))))))))))))
   (aE (iT BF rfl (jJ (cG (aB fM (aB eV (aB aC (aB (dB aA) (aB (cG aA) (aB aDZ (aB (dB (aB aJ aA)) (aB aJ (aB aJ (aB aJ (aB aJ (aB aJ (aB aJ aA))))))))))))))) (g:=cE 14) (bJ (i:=14) nd rfl (Aw rfl))
   (aG (bM (PW.pt (dU (cS (cN (aW GR U (aB (bZ (v:=.ref af) rfl bL rfl) (aB (pv 14) (aB fM aA)))))) (dP (cS (cN (aW GR U (aB (bZ (v:=.ref ak) rfl bn rfl) (aB (pv 14) (aB fM aA))))))))) (aG (aN eV)) aV)))
   (aG (aN eV))))))),?_⟩
  refine⟨_,rfl,sc,ns,rfl,hS,hln,fun p c H1 d2 s1 np=>?_⟩;dsimp only[cE];refine⟨_,rfl,_,rfl,p,c,ns,0,_,rfl,d2,by decide,by decide,by decide,fun r1 a1 H2 hp hI g2 hf eL k2=>?_⟩;obtain⟨m1,rfl⟩:∃ m1:Nat,r1=m1:=⟨r1.toNat,by omega⟩
  refine⟨_,_,rfl,rfl,p,c,ns,a1,1 + m1,16,(by show[V.ref p,V.int (1 + (m1:Int)),V.int 16] ++ []=_;rw[show((1 + m1:Nat):Int)=1 + (m1:Int) by omega];rfl),eL,by omega,by omega,by decide,fun t l1 l2 l3 l4 ws ps hs rs a2 H3 et e1 n1 N1 e2 n2 N2 e3 n3 N3 e4 n4 N4 hu hk ay k3=>?_⟩;refine⟨t,_,rfl,aS et,rfl,_,_,rfl,_,_,rfl,_,_,rfl,_,_,rfl,rfl,?_⟩;have hE:rs.length=16:=n4;refine⟨fun σ' H'=>∃(lp:Af) (ps:List Str) (a':Int),σ'=[some (.ref sc),some (.ref p),some (.ref l1),some (.ref lp),some (.ref l3),some (.ref l4),none,none,none,none,none,none,none,none,none]∧S3 H' l1 lp l3 ws ps hs∧H' l4=some (.lst (rs.map V.str))∧c4 H' p c ns a'∧a'≤300,?_,?_⟩
  ·have s3:S3 H3 l1 l2 l3 ws ps hs:=⟨e1,e2,e3,by omega,by omega,n2,n3,N1,N2,N3⟩
   refine⟨_,rfl,l2,_,rfl,.inl (aQ e2),rfl,gJ ps,_,rfl,?_⟩;show if (if true=true then !inV (V.str "as") (ps.map V.str) else inV (V.str "as") (ps.map V.str))=true then _ else _
   rw[Ib rfl,aB4];by_cases has:("as":Str)∈ps
   ·rw[Ic has];refine bG (bG ?_);exact⟨l2,ps,a2,rfl,s3,e4,ay,by omega⟩
   rw[decide_eq_false has];refine bQ ?_;refine⟨_,rfl,p,c,ns,a2,_,rfl,ay,by omega,by decide,by decide,fun r2 a3 H4 gg hx gb ek az k4=>?_⟩;have s4:=s3.but ay k4;have cj:=cQ e4 ay k4;refine⟨rfl,_,rfl,c9 (fun g=>?_) fun g=>?_⟩
   ·refine⟨_,rfl,9,rfl,l2,_,rfl,aQ s4.p,fun M hM=>?_⟩;have ec:eJ (ps.map V.str) none (some 9)=(ps.take 9).map V.str:=by rw[← CA.symm];exact iV (α:=Nat) (ps.map V.str) 9
    rw[ec];have sM:=aH (o:=.lst ((ps.take 9).map V.str)) hM;refine⟨zZ1,fun M2 eu=>?_⟩;have c3:=aH (o:=.lst [V.str "as"]) eu;refine⟨M,M2,_,_,rfl,rfl,c3 _ _ aD,aD,aF (by rw[Ac,AC];show _ + 1≤_;omega),fun M3 em=>?_⟩;have sA:=sM.trans (c3.trans (aH (o:=.lst ((ps.take 9).map V.str ++ [V.str "as"])) em));refine⟨M3,ps.take 9 ++ [("as":Str)],a3,rfl,?_,sA _ _ cj,az.same sA,by omega⟩;have s5:=s4.same sA;refine⟨s5.f,by rw[aD,Ar];rfl,s5.h,s5.f1,s5.f2,?_,s5.h1,s5.nf,?_,s5.nh⟩
    ·rw[Av,AC,n2];rfl
    ·refine⟨Df.mpr ⟨(N2.take 9).nd,by simp,fun a ha b hb e=>?_⟩,fun z hz=>?_⟩
     ·rw[BC.mp hb]at e;exact has (e ▸ CN ha)
     ·rcases Bo.mp hz with hz | hz
      ·exact(N2.take 9).ok z hz
      ·rw[BC.mp hz];decide
   ·exact⟨l2,ps,a3,rfl,s4,cj,az,by omega⟩
  rintro σ' H4 ⟨lp,ps,a3,rfl,s4,e4,az,ek⟩;clear e1 e2 e3 N2 n2 k3 k2;refine⟨16,rfl,by decide,by decide,iX (n:=16) (fun i σ H'=>Ex3 fun(a':Int) (o6 o7:Option V)=>Ex3 fun(o8 o9 aI:Option V)=>Ex3 fun(av ae ad:Option V)=>Aw3 (σ=[some (.ref sc),some (.ref p),some (.ref l1),some (.ref lp),some (.ref l3),some (.ref l4),o6,o7,o8,o9,aI,av,ae,ad,none]) (S3 H' l1 lp l3 ws ps hs) (Aw3 (H' l4=some (.lst (rs.map V.str))) (c4 H' p c ns a') (a'≤300 + 300 * i))) ⟨a3,none,none,none,none,none,none,none,none,rfl,s4,e4,az,by omega⟩ ?_ ?_⟩
  ·rintro i σ H5 hi ⟨a4,o6,o7,o8,o9,aI,av,ae,ad,rfl,s5,e5,cb,eI⟩;dsimp only[cE];obtain⟨name,hname⟩:∃ name,rs[i]?=some name:=⟨_,Ai (by omega)⟩
   have G:=N4.ok name (AN hname);have au:atI (rs.map V.str) (0 + (i:Int))=some (.str name):=by rw[Int.zero_add];exact bO (by rw[AW,hname];rfl)
   refine⟨zZ8,fun LW ej=>?_⟩;have aL:=aH (o:=.lst [V.str "part",.str "join",.str "forfeit",.str "measure",.str "mend",.str "alone",.str "breach",.str "view"]) ej;have bi:=aD (H:=H5) (a:=LW) (o:=.lst [V.str "part",.str "join",.str "forfeit",.str "measure",.str "mend",.str "alone",.str "breach",.str "view"]);generalize upd H5 LW _=H6 at aL bi ⊢;obtain⟨v,hv,hat8⟩:=iB (xs:=[V.str "part",.str "join",.str "forfeit",.str "measure",.str "mend",.str "alone",.str "breach",.str "view"]) (i:=(0 + (i:Int)) % 8) (by omega) (by show(0 + (i:Int)) % 8 < 8;omega);obtain⟨word,rfl,hword⟩:∃ word,v=.str word∧word∈cC:=by
    simp only[Ap,AF,or_false]at hv;rcases hv with rfl | rfl | rfl | rfl | rfl | rfl | rfl | rfl <;> exact⟨_,rfl,by decide⟩
   refine⟨_,rfl,_,_,rfl,rfl,(show(0:Int) < 8 by decide),LW,_,_,_,rfl,rfl,aQ bi,hat8,?_⟩;have bP:=cb.same aL;have s6:=s5.same aL;have e6:=aL _ _ e5;clear bi hat8 hv;dsimp only[cE];refine⟨_,rfl,_,rfl,_,rfl,_,rfl,l4,_,_,_,rfl,rfl,aQ e6,au,_,rfl,p,c,ns,a4,0,9999,rfl,bP,by omega,by decide,by decide,by decide,fun day a5 H7 d0 d1 g5 hw ci k7=>?_⟩;have s7:=s6.but bP k7;have e7:=cQ e6 bP k7;refine⟨_,rfl,_,rfl,_,rfl,zZ3,fun tS eK=>?_⟩;have sS:=aH (o:=.tup [V.ref l1,.ref lp,.ref l3]) eK;have aw:=ci.same sS;refine⟨p,c,ns,a5,word,name,day,tS,l1,lp,l3,ws,ps,hs,rfl,aw,by omega,aD,s7.same sS,hword,G,fun tr ds bF a6 H8 c6 bq bu b9 hK hB ee k9=>?_⟩;have s8:=(s7.same sS).but aw k9;have e8:=cQ (sS _ _ e7) aw k9;have ok:(g8.mk word name day ds).Ok ws:=⟨bu,G,d0,d1,b9⟩
   have d7:ds.length≤4:=bu.len;have eA:=bq.len;have rd:RdV false H8 (.ref tr) (g8.mk word name day ds).d:=.tup c6 (by simp only[Ak];omega) (.cons (.str _ (aE9 hword)) (.cons (iO G) (.cons (.int _) bq)));generalize g8.mk word name day ds=r at ok rd;clear c6 bq eA d7 bu b9 d0 d1 s6 s7 e6 e7 ci aw sS;dsimp only[cE];refine⟨_,rfl,zZ2,fun t1 ei=>⟨_,rfl,zZ2,fun t2 er=>?_⟩⟩;have u1:=aH (o:=.tup [V.str "write",.ref tr]) ei;have u2:=aH (o:=.tup [V.str "write",.ref tr]) er;refine⟨_,rfl,_,rfl,l4,_,_,_,rfl,rfl,aQ ((u1.trans u2) _ _ e8),au,zZ2,fun t3 fb=>?_⟩;have u3:=aH (o:=.tup [V.str "back",.str name]) fb;refine⟨zZ3,fun LD eM=>?_⟩;have u4:=aH (o:=.lst [V.ref t1,.ref t2,.ref t3]) eM;have uA:=u1.trans (u2.trans (u3.trans u4));have f1:=(u2.trans (u3.trans u4)) _ _ (aD (H:=H8) (a:=t1) (o:=.tup [V.str "write",.ref tr]));have f2:=(u3.trans u4) _ _ (aD (H:=upd H8 t1 (.tup [V.str "write",.ref tr])) (a:=t2) (o:=.tup [V.str "write",.ref tr]));have f3:=u4 _ _ (aD (H:=upd (upd H8 t1 (.tup [V.str "write",.ref tr])) t2 (.tup [V.str "write",.ref tr])) (a:=t3) (o:=.tup [V.str "back",.str name]));have fL:=aD (H:=upd (upd (upd H8 t1 (.tup [V.str "write",.ref tr])) t2 (.tup [V.str "write",.ref tr])) t3 (.tup [V.str "back",.str name])) (a:=LD) (o:=.lst [V.ref t1,.ref t2,.ref t3]);generalize upd (upd (upd (upd H8 t1 _) t2 _) t3 _) LD _=H9 at uA f1 f2 f3 fL ⊢;have J:=ee.same uA;refine⟨_,rfl,p,c,ns,a6,_,rfl,J,by omega,by decide,by decide,fun r3 a7 fk fo gw gj gh c1 Z=>?_⟩;obtain⟨v,hv,hatD⟩:=iB (xs:=[V.ref t1,.ref t2,.ref t3]) (i:=r3) fo (by show r3 < 3;omega)
   have ac:=aIs (rd.same uA) J Z;obtain⟨td,O,x0,rfl,etd,hdd⟩:∃(td:Af) (O:Str) (x0:V),v=.ref td∧fk td=some (.tup [.str O,x0])∧((O="write"∧x0=.ref tr)∨(O="back"∧x0=.str name)):=by
    simp only[Ap,AF,or_false]at hv;rcases hv with rfl | rfl | rfl
    ·exact⟨_,_,_,rfl,xN f1 J Z,.inl ⟨rfl,rfl⟩⟩
    ·exact⟨_,_,_,rfl,xN f2 J Z,.inl ⟨rfl,rfl⟩⟩
    ·exact⟨_,_,_,rfl,xN f3 J Z,.inr ⟨rfl,rfl⟩⟩
   refine⟨LD,_,r3,_,rfl,rfl,aQ (cQ fL J Z),hatD,?_⟩;have cr:=(s8.same uA).but J Z;have cD:=cQ (uA _ _ e8) J Z;clear f1 f2 f3 fL hv hatD rd s8 e8 uA u1 u2 u3 u4;dsimp only[cE];refine⟨_,rfl,.ref tr,r,ws,rfl,ac,ok,fun ck ag=>?_⟩;have hl:=uH ok;have q6:("write ":Str).length=6:=by decide
   have q5:("back ":Str).length=5:=by decide
   have hF:=(fH G).2;have bt:=ag _ _ cD;have W:=ag _ _ etd;dsimp only[cE];refine⟨_,rfl,_,_,rfl,rfl,aF (by rw[q6];omega),_,rfl,_,rfl,l4,_,_,_,rfl,rfl,aQ bt,au,_,_,rfl,rfl,aF (by rw[q5];omega),zZ2,fun LO el=>?_⟩;have wO:=aH (o:=.lst [V.str (("write ":Str) ++ jV r),.str (("back ":Str) ++ name)]) el;have eO:=aD (H:=ck) (a:=LO) (o:=.lst [V.str (("write ":Str) ++ jV r),.str (("back ":Str) ++ name)]);generalize upd ck LO _=e0 at wO eO ⊢;obtain⟨zo,hatO,DA⟩:∃ zo,atI [V.str (("write ":Str) ++ jV r),.str (("back ":Str) ++ name)] (if decide (V.str O=V.str "back")=true then 1 else 0)=some (.str zo)∧pW e0 td zo:=by
    rcases hdd with⟨rfl,rfl⟩ | ⟨rfl,rfl⟩
    ·exact⟨_,rfl,aG6 (wO _ _ W) ((ac.same ag).same wO) ok⟩
    ·exact⟨_,rfl,aG7 (wO _ _ W) G⟩
   refine⟨_,rfl,td,_,0,_,rfl,rfl,aS (wO _ _ W),bO (j:=0) rfl,rfl,.inr ⟨_,rfl,LO,_,_,_,rfl,rfl,aQ eO,hatO,?_⟩⟩;have wB:=ag.trans wO;have cw:=c1.same wB;have cv:=cr.same wB;have cs:=wO _ _ bt;have am:=ac.same wB;clear hdd etd W eO hatO cD bt cr ac wO ag au G;dsimp only[cE];refine⟨_,rfl,.ref tr,r,ws,rfl,am,ok,fun ff cf=>⟨_,rfl,rfl,_,rfl,?_⟩⟩;rw[Ic (show V.str (jV r)=V.str (jV r) from rfl)];refine bG ?_;refine⟨_,rfl,DA.tx ff _ E0 cf fun gy e9=>⟨_,rfl,rfl,_,rfl,?_⟩⟩;rw[Ic (show V.str zo=V.str zo from rfl)];refine bG ?_;have bx:=cf.trans e9;have cg:(AD (jV r) " ").length≤25:=by rw[gL ok];have:=ok.words.2;omega
   have dq:oU (jV r)=true:=by unfold oU;rw[gL ok,oS ok];exact ok.row
   have dr:pU (jV r)=r.d:=by unfold pU;rw[gL ok,oS ok]
   have dw:∀ y∈AD (jV r) " ",y.length≤11:=fun y hy=>by rw[gL ok]at hy;exact(ok.words.1 y hy).len
   have bc:=DA.same bx;refine⟨_,rfl,_,rfl,oV RR (fun z h=>aFG h) (by omega) (by omega) (.inr ⟨dq,tr,rfl,by rw[dr];exact am.same bx⟩) fun g1 c2=>⟨_,rfl,bG ?_⟩⟩;have be:=bc.same c2;refine⟨_,rfl,_,rfl,oV RD (fun z h=>aFF h) (by have:=DA.len;omega) (by have:=DA.wl;omega) (.inr ⟨DA.ok,td,rfl,be.rd⟩) fun hg eR=>⟨_,rfl,bG ?_⟩⟩;have bj:=bx.trans (c2.trans eR);have c0:=cw.same bj;have ed:=cv.same bj;have eh:=bj _ _ cs;have dl:=DA.len;have ew:=DA.ws;have d3:=DA.wl;clear bc be DA am cv cs;refine⟨4,rfl,by decide,by decide,iX (n:=4) (fun j σ H'=>Ex3 fun(a':Int) (ae ad:Option V)=>Aw3 (σ=[some (.ref sc),some (.ref p),some (.ref l1),some (.ref lp),some (.ref l3),some (.ref l4),some (.int (0 + (i:Int))),some (.str word),some (.ref tr),some (.ref td),some (.str (jV r)),some (.str zo),ae,ad,none]) (S3 H' l1 lp l3 ws ps hs) (Aw3 (H' l4=some (.lst (rs.map V.str))) (c4 H' p c ns a') (a'≤a7 + 24 * j))) ⟨a7,_,_,rfl,ed,eh,c0,by omega⟩ ?_ ?_⟩
   ·rintro j σ fj hj ⟨a8,eC,dv,rfl,bN,bv,Y,d6⟩;dsimp only[cE];refine⟨_,rfl,_,rfl,.mk p c ns a8 (jV r) rfl Y (by omega) (by omega) dw cg fun z1 a9 gm cm cL gu hD b7 cq=>?_⟩;have dD:=bN.but Y cq;have ey:=cQ bv Y cq;dsimp only[cE];refine⟨_,rfl,_,rfl,aFP cm cL fun v g9 d4 tv=>oV RR (fun z h=>aFG h) cm cL tv fun gf dy=>⟨_,rfl,bG ?_⟩⟩;have br:=d4.trans dy;have aj:=b7.same br;refine⟨_,rfl,_,rfl,.mk p c ns a9 zo rfl aj (by omega) (by omega) ew d3 fun z2 a10 f0 db cn fp fC cx cy=>?_⟩;have fa:=(dD.same br).but aj cy;have eF:=cQ (br _ _ ey) aj cy;dsimp only[cE];refine⟨_,rfl,_,rfl,aDC db cn fun v he ef tv=>oV RD (fun z h=>aFF h) db cn tv fun gv fc=>⟨_,rfl,bG ?_⟩⟩;have bp:=ef.trans fc;exact⟨a10,_,_,rfl,fa.same bp,bp _ _ eF,cx.same bp,by omega⟩
   ·rintro σ fj ⟨a8,eC,dv,rfl,bN,bv,Y,d6⟩;exact⟨a8,_,_,_,_,_,_,_,_,rfl,bN,bv,Y,by omega⟩
  rintro σ H5 ⟨a4,o6,o7,o8,o9,aI,av,ae,ad,rfl,s5,e5,cb,eI⟩;refine⟨Bs _,fun L1 h1=>⟨zZ0,fun T1 h2=>fun D1 h3=>⟨zZ1,fun L2 h4=>⟨aJ2,fun TT h5=>?_⟩⟩⟩⟩;have u1:=aH (o:=.lst []) h1;have u2:=aH (o:=.tup []) h2;have u3:=aH (o:=.dK []) h3;have u4:=aH (o:=.lst [V.str "alone a 0 b"]) h4;have u5:=aH (o:=.tup [V.non,.bl true,.int 7,.ref L1,.ref T1,.ref D1,.ref L2,.str "",.str " ",.str "write",.str "back",.str "write ",.str "back "]) h5;have f1:=(u2.trans (u3.trans (u4.trans u5))) _ _ aD;have f2:=(u3.trans (u4.trans u5)) _ _ aD;have f3:=(u4.trans u5) _ _ aD;have f4:=u5 _ _ aD;have f5:upd (upd (upd (upd (upd H5 L1 (.lst [])) T1 (.tup [])) D1 (.dK [])) L2 (.lst [V.str "alone a 0 b"])) TT (.tup [V.non,.bl true,.int 7,.ref L1,.ref T1,.ref D1,.ref L2,.str "",.str " ",.str "write",.str "back",.str "write ",.str "back "]) TT=some (.tup [V.non,.bl true,.int 7,.ref L1,.ref T1,.ref D1,.ref L2,.str "",.str " ",.str "write",.str "back",.str "write ",.str "back "]):=aD;generalize upd (upd (upd (upd (upd H5 L1 (.lst [])) T1 (.tup [])) D1 (.dK [])) L2 (.lst [V.str "alone a 0 b"])) TT (.tup [V.non,.bl true,.int 7,.ref L1,.ref T1,.ref D1,.ref L2,.str "",.str " ",.str "write",.str "back",.str "write ",.str "back "])=H6 at f1 f2 f3 f4 f5 ⊢;refine⟨TT,rfl,⟨_,aS f5⟩,qL (K:=K) (xs:=[V.non,.bl true,.int 7,.ref L1,.ref T1,.ref D1,.ref L2,.str "",.str " ",.str "write",.str "back",.str "write ",.str "back "]) (fun i σ H'=>∃(bH:Option V),σ=[some (.ref sc),some (.ref p),some (.ref l1),some (.ref lp),some (.ref l3),some (.ref l4),o6,o7,o8,o9,aI,av,ae,ad,bH]∧aT H6 H') ⟨none,rfl,aT.refl _⟩ (fun i σ H' _ h=>?_) ?_ ?_⟩
  ·obtain⟨_,_,s⟩:=h;exact aS (s _ _ f5)
  ·rintro i v σ H7 hv ⟨bH,rfl,s7⟩;have b5:∀ H',aT H6 H'→Bad K H' v:=fun H' s'=>by
    have hm:=AN hv;simp only[Ap,AF,or_false]at hm;rcases hm with rfl | rfl | rfl | rfl | rfl | rfl | rfl | rfl | rfl | rfl | rfl | rfl | rfl
    ·exact .inr ⟨_,.non,fZ .none⟩
    ·exact .inr ⟨_,.bl _,fZ (.bool true)⟩
    ·exact .inr ⟨_,.int _,fZ (.int 7)⟩
    ·exact .inr ⟨_,.lst (s' _ _ f1),fZ (.list [])⟩
    ·exact .inr ⟨_,.tup (s' _ _ f2),fZ (.tuple [])⟩
    ·exact .inr ⟨_,.dK (s' _ _ f3),fZ (.dict [])⟩
    ·exact .inr ⟨_,.lst (s' _ _ f4),fZ (.list [])⟩
    all_goals exact .inl ⟨_,rfl,by decide,by decide,by decide,by decide⟩
   dsimp only[cE];refine⟨_,rfl,v5 RR ((b5 H7 s7).imp (fun⟨z,a,b,c,d,_⟩=>⟨z,a,b,c,d⟩) id) fun H8 w8=>⟨_,rfl,bG ?_⟩⟩;refine⟨_,rfl,v5 RD ((b5 H8 (s7.trans w8)).imp (fun⟨z,a,b,c,_,d⟩=>⟨z,a,b,c,d⟩) id) fun H9 w9=>⟨_,rfl,bG ?_⟩⟩;exact⟨_,rfl,(s7.trans w8).trans w9⟩
  rintro σ H7 ⟨bH,rfl,s7⟩;exact k H7
inductive aJC(K:Ae)(n:Str)(st:Br):Prop
 | mk (f:_) (q0:PySem.W.nsIn K mainGlobals n=some (some (.ref f))) (q1:(∃ oc od kV dc pm an cd ct sl,K.lookup f=some ⟨oc,od,.func (Bm n n (eB st) (dN st) (aK st) .none kV dc pm an cd ct),sl⟩∧Bt K cd n=true)) (q2:Az K (.ref f)=true):aJC K n st
def Dx(K:Ae)(n:Str)(st:Br):Prop:=aJC K n st
theorem cK{K:Ae}{h:A1}{mg:Str→Option Ab}{n:Str}{st:Br}(d:Dx K n st)(X:K.In h)(G:h.Ns mainGlobals mg):∃ f fd,Fun K n n st f fd∧mg n=some (.ref f)∧Az K (.ref f)=true:=by
 obtain⟨f,a,⟨_,_,_,_,_,_,_,_,_,l,c⟩,k⟩:=d;exact⟨f,_,iA l c k,PySem.W.mg_of X G a,k⟩
theorem all_mk{l:PySem.W.OpenLaw}{w:AH}{K:Ae}{h:A1}{mg:Str→Option Ab}{fa:Af}(X:K.In h)(G:h.Ns mainGlobals mg)(hfa:mg "law"=some (.ref fa))
  {fF0:Af} {odF0 anF0:Option Af} {slF0:Array (Option Ab)} {ocF0 kVF0 dcF0 pmF0 cdF0 ctF0:Ab} {fF1:Af} {odF1 anF1:Option Af} {slF1:Array (Option Ab)} {ocF1 kVF1 dcF1 pmF1 cdF1 ctF1:Ab} {fF2:Af} {odF2 anF2:Option Af} {slF2:Array (Option Ab)} {ocF2 kVF2 dcF2 pmF2 cdF2 ctF2:Ab} {fF3:Af} {odF3 anF3:Option Af} {slF3:Array (Option Ab)} {ocF3 kVF3 dcF3 pmF3 cdF3 ctF3:Ab} {fF4:Af} {odF4 anF4:Option Af} {slF4:Array (Option Ab)} {ocF4 kVF4 dcF4 pmF4 cdF4 ctF4:Ab} {fF5:Af} {odF5 anF5:Option Af} {slF5:Array (Option Ab)} {ocF5 kVF5 dcF5 pmF5 cdF5 ctF5:Ab} {fF6:Af} {odF6 anF6:Option Af} {slF6:Array (Option Ab)} {ocF6 kVF6 dcF6 pmF6 cdF6 ctF6:Ab} {fF7:Af} {odF7 anF7:Option Af} {slF7:Array (Option Ab)} {ocF7 kVF7 dcF7 pmF7 cdF7 ctF7:Ab} {fL:Af} {odL anL:Option Af} {slL:Array (Option Ab)} {ocL kVL dcL pmL cdL ctL:Ab}
  {t_LONGEST:Tok}
  {t_LAST_DAY:Tok}
  {t_FEWEST_LANDS:Tok}
  {t_MOST_LANDS:Tok}
  {t_MOST_PART_ACRES:Tok}
  {t_MOST_INCHES:Tok}
  {t_MOST_PENCE:Tok}
  {t_MOST_SPADES:Tok}
  {t_MOST_FIGURES:Tok}
  {t_NUMBERS:Af} {eN:Nat} {xn0 xn1 xn2 xn3 xn4 xn5:Tok} {n0 n1 n2 n3 n4 n5:Af} {en0 en1 en2 en3 en4 en5:Nat} {y10 y40 y41 y42 y50:Tok}
  {t_FORMS:Af} {eF:Nat} {xk0 xk1 xk2 xk3 xk4 xk5 xk6 xk7:Tok}
  {cDykeError cClash cNoBreach cNoField cNoInch cNoMend cNoName cNoOrder cNoRoll cNoRow cNoThen cTooMany cTwice cNoText fI:Af} {odI anI:Option Af} {slI:Array (Option Ab)} {ocI kVI dcI pmI cdI ctI:Ab}
  (aDykeError:PySem.W.nsIn K mainGlobals "DykeError"=some (some (.ref cDykeError)))
  (aClash:PySem.W.nsIn K mainGlobals "Clash"=some (some (.ref cClash)))
  (aNoBreach:PySem.W.nsIn K mainGlobals "NoBreach"=some (some (.ref cNoBreach)))
  (aNoField:PySem.W.nsIn K mainGlobals "NoField"=some (some (.ref cNoField)))
  (aNoInch:PySem.W.nsIn K mainGlobals "NoInch"=some (some (.ref cNoInch)))
  (aNoMend:PySem.W.nsIn K mainGlobals "NoMend"=some (some (.ref cNoMend)))
  (aNoName:PySem.W.nsIn K mainGlobals "NoName"=some (some (.ref cNoName)))
  (aNoOrder:PySem.W.nsIn K mainGlobals "NoOrder"=some (some (.ref cNoOrder)))
  (aNoRoll:PySem.W.nsIn K mainGlobals "NoRoll"=some (some (.ref cNoRoll)))
  (aNoRow:PySem.W.nsIn K mainGlobals "NoRow"=some (some (.ref cNoRow)))
  (aNoThen:PySem.W.nsIn K mainGlobals "NoThen"=some (some (.ref cNoThen)))
  (aTooMany:PySem.W.nsIn K mainGlobals "TooMany"=some (some (.ref cTooMany)))
  (aTwice:PySem.W.nsIn K mainGlobals "Twice"=some (some (.ref cTwice)))
  (aNoText:PySem.W.nsIn K mainGlobals "NoText"=some (some (.ref cNoText)))
  (aI:BE K (.ref cNoText) "__init__"=some (some (.ref fI))) (iI:ER K (.ref fI)=true) (lI:K.lookup fI=some ⟨ocI,odI,.func (Bm "__init__" "NoText.__init__" (eB vZ) (dN vZ) (aK vZ) .none kVI dcI pmI anI cdI ctI),slI⟩) (cI:Bt K cdI "NoText.__init__"=true) (kI:Az K (.ref fI)=true)
  (sa:BE K (.ref cNoText) "__setattr__"=some (some (.builtin "object.__setattr__"))) (hd:PySem.W.hasDictIn K cNoText=true) (zl:BE K (.ref cNoText) "line"=some none)
  (zq:pC K cNoText fI [.type "ValueError",.type "Exception",.type "BaseException",.type "object"] "ValueError.__new__"=true) (zo:(PySem.W.clsIn K cNoText).any (fun cd=>mV cd.mro)=true) (zn:PySem.W.takerIn K cNoText "line"=some none)
  (ze:PySem.W.exmOne K (.ref cNoText) (.ref cDykeError)=some true) (zf:aDA K cNoText [cNoText] [true] [cClash,cNoBreach,cNoField,cNoInch,cNoMend,cNoName,cNoOrder,cNoRoll,cNoRow,cNoThen]=true) (zg:aDA K cNoText [cNoText] [true] [cTooMany,cTwice]=true)
  (aF0:PySem.W.nsIn K mainGlobals "fits_part"=some (some (.ref fF0))) (lF0:K.lookup fF0=some ⟨ocF0,odF0,.func (Bm "fits_part" "fits_part" (eB pH) (dN pH) (aK pH) .none kVF0 dcF0 pmF0 anF0 cdF0 ctF0),slF0⟩) (cF0:Bt K cdF0 "fits_part"=true) (kF0:Az K (.ref fF0)=true)
  (aF1:PySem.W.nsIn K mainGlobals "fits_join"=some (some (.ref fF1))) (lF1:K.lookup fF1=some ⟨ocF1,odF1,.func (Bm "fits_join" "fits_join" (eB pI) (dN pI) (aK pI) .none kVF1 dcF1 pmF1 anF1 cdF1 ctF1),slF1⟩) (cF1:Bt K cdF1 "fits_join"=true) (kF1:Az K (.ref fF1)=true)
  (aF2:PySem.W.nsIn K mainGlobals "fits_forfeit"=some (some (.ref fF2))) (lF2:K.lookup fF2=some ⟨ocF2,odF2,.func (Bm "fits_forfeit" "fits_forfeit" (eB hU) (dN hU) (aK hU) .none kVF2 dcF2 pmF2 anF2 cdF2 ctF2),slF2⟩) (cF2:Bt K cdF2 "fits_forfeit"=true) (kF2:Az K (.ref fF2)=true)
  (aF3:PySem.W.nsIn K mainGlobals "fits_measure"=some (some (.ref fF3))) (lF3:K.lookup fF3=some ⟨ocF3,odF3,.func (Bm "fits_measure" "fits_measure" (eB hW) (dN hW) (aK hW) .none kVF3 dcF3 pmF3 anF3 cdF3 ctF3),slF3⟩) (cF3:Bt K cdF3 "fits_measure"=true) (kF3:Az K (.ref fF3)=true)
  (aF4:PySem.W.nsIn K mainGlobals "fits_mend"=some (some (.ref fF4))) (lF4:K.lookup fF4=some ⟨ocF4,odF4,.func (Bm "fits_mend" "fits_mend" (eB pJ) (dN pJ) (aK pJ) .none kVF4 dcF4 pmF4 anF4 cdF4 ctF4),slF4⟩) (cF4:Bt K cdF4 "fits_mend"=true) (kF4:Az K (.ref fF4)=true)
  (aF5:PySem.W.nsIn K mainGlobals "fits_alone"=some (some (.ref fF5))) (lF5:K.lookup fF5=some ⟨ocF5,odF5,.func (Bm "fits_alone" "fits_alone" (eB lR) (dN lR) (aK lR) .none kVF5 dcF5 pmF5 anF5 cdF5 ctF5),slF5⟩) (cF5:Bt K cdF5 "fits_alone"=true) (kF5:Az K (.ref fF5)=true)
  (aF6:PySem.W.nsIn K mainGlobals "fits_breach"=some (some (.ref fF6))) (lF6:K.lookup fF6=some ⟨ocF6,odF6,.func (Bm "fits_breach" "fits_breach" (eB jC) (dN jC) (aK jC) .none kVF6 dcF6 pmF6 anF6 cdF6 ctF6),slF6⟩) (cF6:Bt K cdF6 "fits_breach"=true) (kF6:Az K (.ref fF6)=true)
  (aF7:PySem.W.nsIn K mainGlobals "fits_view"=some (some (.ref fF7))) (lF7:K.lookup fF7=some ⟨ocF7,odF7,.func (Bm "fits_view" "fits_view" (eB pK) (dN pK) (aK pK) .none kVF7 dcF7 pmF7 anF7 cdF7 ctF7),slF7⟩) (cF7:Bt K cdF7 "fits_view"=true) (kF7:Az K (.ref fF7)=true)
  (aL:PySem.W.nsIn K mainGlobals "law"=some (some (.ref fL))) (lL:K.lookup fL=some ⟨ocL,odL,.func (Bm "law" "law" (eB xC) (dN xC) (aK xC) .none kVL dcL pmL anL cdL ctL),slL⟩) (cL:Bt K cdL "law"=true) (kL:Az K (.ref fL)=true)
  (z_isinstance:PySem.W.nsIn K mainGlobals "isinstance"=some none)
  (z_str:PySem.W.nsIn K mainGlobals "str"=some none)
  (z_len:PySem.W.nsIn K mainGlobals "len"=some none)
  (z_all:PySem.W.nsIn K mainGlobals "all"=some none)
  (z_int:PySem.W.nsIn K mainGlobals "int"=some none)
  (z_bool:PySem.W.nsIn K mainGlobals "bool"=some none)
  (z_tuple:PySem.W.nsIn K mainGlobals "tuple"=some none)
  (z_set:PySem.W.nsIn K mainGlobals "set"=some none)
  (z_list:PySem.W.nsIn K mainGlobals "list"=some none)
  (z_sorted:PySem.W.nsIn K mainGlobals "sorted"=some none)
  (z_abs:PySem.W.nsIn K mainGlobals "abs"=some none)
  (z_range:PySem.W.nsIn K mainGlobals "range"=some none)
  (z_min:PySem.W.nsIn K mainGlobals "min"=some none)
  (z_repr:PySem.W.nsIn K mainGlobals "repr"=some none)
  (z_enumerate:PySem.W.nsIn K mainGlobals "enumerate"=some none)
  (z_ValueError:PySem.W.nsIn K mainGlobals "ValueError"=some none)
  (q_LONGEST:PySem.W.nsIn K mainGlobals "LONGEST"=some (some (.int 8 t_LONGEST)))
  (q_LAST_DAY:PySem.W.nsIn K mainGlobals "LAST_DAY"=some (some (.int 9999 t_LAST_DAY)))
  (q_FEWEST_LANDS:PySem.W.nsIn K mainGlobals "FEWEST_LANDS"=some (some (.int 2 t_FEWEST_LANDS)))
  (q_MOST_LANDS:PySem.W.nsIn K mainGlobals "MOST_LANDS"=some (some (.int 6 t_MOST_LANDS)))
  (q_MOST_PART_ACRES:PySem.W.nsIn K mainGlobals "MOST_PART_ACRES"=some (some (.int 10000000 t_MOST_PART_ACRES)))
  (q_MOST_INCHES:PySem.W.nsIn K mainGlobals "MOST_INCHES"=some (some (.int 10000000 t_MOST_INCHES)))
  (q_MOST_PENCE:PySem.W.nsIn K mainGlobals "MOST_PENCE"=some (some (.int 1000000000 t_MOST_PENCE)))
  (q_MOST_SPADES:PySem.W.nsIn K mainGlobals "MOST_SPADES"=some (some (.int 1000000 t_MOST_SPADES)))
  (q_MOST_FIGURES:PySem.W.nsIn K mainGlobals "MOST_FIGURES"=some (some (.int 60 t_MOST_FIGURES)))
  (q_NUMBERS:PySem.W.nsIn K mainGlobals "NUMBERS"=some (some (.ref t_NUMBERS)))
  (lNm:K.lookup t_NUMBERS=some { cls:=.type "dict",data:=.dict #[⟨AU w.params "forfeit",.str "forfeit" xn0,.ref n0⟩,⟨AU w.params "measure",.str "measure" xn1,.ref n1⟩,⟨AU w.params "mend",.str "mend" xn2,.ref n2⟩,⟨AU w.params "alone",.str "alone" xn3,.ref n3⟩,⟨AU w.params "breach",.str "breach" xn4,.ref n4⟩,⟨AU w.params "view",.str "view" xn5,.ref n5⟩] eN }) (hzN:(t_NUMBERS == sysModules)=false) (lN0:K.lookup n0=some { cls:=.type "tuple",data:=.seq #[] en0 }) (lN1:K.lookup n1=some { cls:=.type "tuple",data:=.seq #[.int 4 y10] en1 }) (lN2:K.lookup n2=some { cls:=.type "tuple",data:=.seq #[] en2 }) (lN3:K.lookup n3=some { cls:=.type "tuple",data:=.seq #[] en3 }) (lN4:K.lookup n4=some { cls:=.type "tuple",data:=.seq #[.int 4 y40,.int 5 y41,.int 6 y42] en4 }) (lN5:K.lookup n5=some { cls:=.type "tuple",data:=.seq #[.int 4 y50] en5 })
  (q_FORMS:PySem.W.nsIn K mainGlobals "FORMS"=some (some (.ref t_FORMS)))
  (lFm:K.lookup t_FORMS=some { cls:=.type "dict",data:=.dict #[⟨AU w.params "part",.str "part" xk0,.ref fF0⟩,⟨AU w.params "join",.str "join" xk1,.ref fF1⟩,⟨AU w.params "forfeit",.str "forfeit" xk2,.ref fF2⟩,⟨AU w.params "measure",.str "measure" xk3,.ref fF3⟩,⟨AU w.params "mend",.str "mend" xk4,.ref fF4⟩,⟨AU w.params "alone",.str "alone" xk5,.ref fF5⟩,⟨AU w.params "breach",.str "breach" xk6,.ref fF6⟩,⟨AU w.params "view",.str "view" xk7,.ref fF7⟩] eF }) (hzF:(t_FORMS == sysModules)=false)
  (zIN:Dx K "is_name" qO)
  (zNB:Dx K "is_number" pF)
  (zIW:Dx K "is_whole" tJ)
  (zRI:Dx K "is_rising" qP)
  (zPT:Dx K "is_part" wS)
  (zAP:Dx K "all_parts" lO)
  (zAN:Dx K "all_names" lP)
  (zRP:Dx K "are_parts" lQ)
  (zRL:Dx K "are_lands" pG)
  (zIC:Dx K "is_inch" wT)
  (zIR:Dx K "is_row" aA3)
  (zNO:Dx K "number_of" lS)
  (zWN:Dx K "with_numbers" wU)
  (zPO:Dx K "part_of" qQ)
  (zJO:Dx K "join_of" wV)
  (zRIn:Dx K "row_in" aA4)
  (zRR:Dx K "read_row" tK)
  (zRD:Dx K "read_deed" pM)
  (zRW:Dx K "row_words" lN)
  (zRT:Dx K "row_text" tI)
  (zDT:Dx K "deed_text" pL)
  (zP:Dx K "_law_pen" aIb)
  (zT:Dx K "_law_take" aB2)
  (zN:Dx K "_law_names" wW)
  (zSo:Dx K "_law_sorts" aA5)
  (zNu:Dx K "_law_number" wX)
  (zSm:Dx K "_law_some" aB3)
  (zRo:Dx K "_law_row_of" wY)
  (zlN:Dx K "_law_is_name" kS)
  (zlW:Dx K "_law_whole" wZ)
  (zlP:Dx K "_law_is_part" tL)
  (zlR:Dx K "_law_rise" tM)
  (zlL:Dx K "_law_is_placed" tN)
  (zlI:Dx K "_law_is_row" w5)
  (zLRT:Dx K "_law_row_text" lT)
  (zNI:Dx K "_law_number_in" w6)
  (zLRI:Dx K "_law_row_in" xA)
  (zBW:Dx K "_law_bent_word" aA6)
  (zBL:Dx K "_law_bent_line" aA7)
  (zDI:Dx K "_law_deed_in" xB)
  (zH:Dx K "_law_heard" aA8)
  (zR:Dx K "_law_right" aA9)
  :∃ fd:Ax,(∀(s:Ad) (v:Ab),Fu s fd ⟨[v],[]⟩ [("_law_script",v)])∧∀ base:A1,K.In base→base.Ns mainGlobals mg→b8 l.prog w K mg base CX0 13 fa fd ["_law_script"] (aCG K):=by
 have e:=hfa.symm.trans (PySem.W.mg_of X G aL);cases e;have FF0:=iA (st:=pH) lF0 cF0 kF0;have mF0:=PySem.W.mg_of X G aF0;have bF0:=FF0.binds (ps:=["rest"]) fun _ _ _ _ _ _ us hl=>by obtain⟨_,rfl⟩:=eY hl;rfl
 have FF1:=iA (st:=pI) lF1 cF1 kF1;have mF1:=PySem.W.mg_of X G aF1;have bF1:=FF1.binds (ps:=["rest"]) fun _ _ _ _ _ _ us hl=>by obtain⟨_,rfl⟩:=eY hl;rfl
 have FF2:=iA (st:=hU) lF2 cF2 kF2;have mF2:=PySem.W.mg_of X G aF2;have bF2:=FF2.binds (ps:=["rest"]) fun _ _ _ _ _ _ us hl=>by obtain⟨_,rfl⟩:=eY hl;rfl
 have FF3:=iA (st:=hW) lF3 cF3 kF3;have mF3:=PySem.W.mg_of X G aF3;have bF3:=FF3.binds (ps:=["rest"]) fun _ _ _ _ _ _ us hl=>by obtain⟨_,rfl⟩:=eY hl;rfl
 have FF4:=iA (st:=pJ) lF4 cF4 kF4;have mF4:=PySem.W.mg_of X G aF4;have bF4:=FF4.binds (ps:=["rest"]) fun _ _ _ _ _ _ us hl=>by obtain⟨_,rfl⟩:=eY hl;rfl
 have FF5:=iA (st:=lR) lF5 cF5 kF5;have mF5:=PySem.W.mg_of X G aF5;have bF5:=FF5.binds (ps:=["rest"]) fun _ _ _ _ _ _ us hl=>by obtain⟨_,rfl⟩:=eY hl;rfl
 have FF6:=iA (st:=jC) lF6 cF6 kF6;have mF6:=PySem.W.mg_of X G aF6;have bF6:=FF6.binds (ps:=["rest"]) fun _ _ _ _ _ _ us hl=>by obtain⟨_,rfl⟩:=eY hl;rfl
 have FF7:=iA (st:=pK) lF7 cF7 kF7;have mF7:=PySem.W.mg_of X G aF7;have bF7:=FF7.binds (ps:=["rest"]) fun _ _ _ _ _ _ us hl=>by obtain⟨_,rfl⟩:=eY hl;rfl
 have FL:=iA (st:=xC) lL cL kL;have mL:=PySem.W.mg_of X G aL;have bL:=FL.binds (ps:=["_law_script"]) fun _ _ _ _ _ _ us hl=>by obtain⟨_,rfl⟩:=eY hl;rfl
 have n_isinstance:=PySem.W.mg_none_of X G z_isinstance;have n_str:=PySem.W.mg_none_of X G z_str;have n_len:=PySem.W.mg_none_of X G z_len;have n_all:=PySem.W.mg_none_of X G z_all;have n_int:=PySem.W.mg_none_of X G z_int;have n_bool:=PySem.W.mg_none_of X G z_bool;have n_tuple:=PySem.W.mg_none_of X G z_tuple;have n_set:=PySem.W.mg_none_of X G z_set;have n_list:=PySem.W.mg_none_of X G z_list;have n_sorted:=PySem.W.mg_none_of X G z_sorted;have n_abs:=PySem.W.mg_none_of X G z_abs;have n_range:=PySem.W.mg_none_of X G z_range;have n_min:=PySem.W.mg_none_of X G z_min;have n_repr:=PySem.W.mg_none_of X G z_repr;have n_enumerate:=PySem.W.mg_none_of X G z_enumerate;have n_ValueError:=PySem.W.mg_none_of X G z_ValueError;have g_LONGEST:=PySem.W.mg_of X G q_LONGEST;have g_LAST_DAY:=PySem.W.mg_of X G q_LAST_DAY;have g_FEWEST_LANDS:=PySem.W.mg_of X G q_FEWEST_LANDS;have g_MOST_LANDS:=PySem.W.mg_of X G q_MOST_LANDS;have g_MOST_PART_ACRES:=PySem.W.mg_of X G q_MOST_PART_ACRES;have g_MOST_INCHES:=PySem.W.mg_of X G q_MOST_INCHES;have g_MOST_PENCE:=PySem.W.mg_of X G q_MOST_PENCE;have g_MOST_SPADES:=PySem.W.mg_of X G q_MOST_SPADES;have g_MOST_FIGURES:=PySem.W.mg_of X G q_MOST_FIGURES;have g_NUMBERS:=PySem.W.mg_of X G q_NUMBERS;have g_FORMS:=PySem.W.mg_of X G q_FORMS;refine⟨Bm "law" "law" (eB xC) (dN xC) (aK xC) .none kVL dcL pmL anL cdL ctL,fun s v=>.of_eq rfl,fun base _ _=>?_⟩;obtain⟨_,_,FIN,mIN,kIN⟩:=cK zIN X G;have bIN:=FIN.binds (ps:=["thing"]) fun _ _ _ _ _ _ us hl=>by obtain⟨_,rfl⟩:=eY hl;rfl
 obtain⟨_,_,FNB,mNB,kNB⟩:=cK zNB X G;have bNB:=FNB.binds (ps:=["thing"]) fun _ _ _ _ _ _ us hl=>by obtain⟨_,rfl⟩:=eY hl;rfl
 obtain⟨_,_,FIW,mIW,kIW⟩:=cK zIW X G;have bIW:=FIW.binds (ps:=["thing","least","most"]) fun _ _ _ _ _ _ us hl=>by obtain⟨_,_,_,rfl⟩:=aAC hl;rfl
 obtain⟨_,_,FRI,mRI,kRI⟩:=cK zRI X G;have bRI:=FRI.binds (ps:=["things"]) fun _ _ _ _ _ _ us hl=>by obtain⟨_,rfl⟩:=eY hl;rfl
 obtain⟨_,_,FPT,mPT,kPT⟩:=cK zPT X G;have bPT:=FPT.binds (ps:=["thing"]) fun _ _ _ _ _ _ us hl=>by obtain⟨_,rfl⟩:=eY hl;rfl
 obtain⟨_,_,FAP,mAP,kAP⟩:=cK zAP X G;have bAP:=FAP.binds (ps:=["thing"]) fun _ _ _ _ _ _ us hl=>by obtain⟨_,rfl⟩:=eY hl;rfl
 obtain⟨_,_,FAN,mAN,kAN⟩:=cK zAN X G;have bAN:=FAN.binds (ps:=["thing"]) fun _ _ _ _ _ _ us hl=>by obtain⟨_,rfl⟩:=eY hl;rfl
 obtain⟨_,_,FRP,mRP,kRP⟩:=cK zRP X G;have bRP:=FRP.binds (ps:=["thing"]) fun _ _ _ _ _ _ us hl=>by obtain⟨_,rfl⟩:=eY hl;rfl
 obtain⟨_,_,FRL,mRL,kRL⟩:=cK zRL X G;have bRL:=FRL.binds (ps:=["thing"]) fun _ _ _ _ _ _ us hl=>by obtain⟨_,rfl⟩:=eY hl;rfl
 obtain⟨_,_,FIC,mIC,kIC⟩:=cK zIC X G;have bIC:=FIC.binds (ps:=["thing"]) fun _ _ _ _ _ _ us hl=>by obtain⟨_,rfl⟩:=eY hl;rfl
 obtain⟨_,_,FIR,mIR,kIR⟩:=cK zIR X G;have bIR:=FIR.binds (ps:=["thing"]) fun _ _ _ _ _ _ us hl=>by obtain⟨_,rfl⟩:=eY hl;rfl
 obtain⟨_,_,FNO,mNO,kNO⟩:=cK zNO X G;have bNO:=FNO.binds (ps:=["word"]) fun _ _ _ _ _ _ us hl=>by obtain⟨_,rfl⟩:=eY hl;rfl
 obtain⟨_,_,FWN,mWN,kWN⟩:=cK zWN X G;have bWN:=FWN.binds (ps:=["words","places"]) fun _ _ _ _ _ _ us hl=>by obtain⟨_,_,rfl⟩:=aAB hl;rfl
 obtain⟨_,_,FPO,mPO,kPO⟩:=cK zPO X G;have bPO:=FPO.binds (ps:=["words"]) fun _ _ _ _ _ _ us hl=>by obtain⟨_,rfl⟩:=eY hl;rfl
 obtain⟨_,_,FJO,mJO,kJO⟩:=cK zJO X G;have bJO:=FJO.binds (ps:=["words"]) fun _ _ _ _ _ _ us hl=>by obtain⟨_,rfl⟩:=eY hl;rfl
 obtain⟨_,_,FRIn,mRIn,kRIn⟩:=cK zRIn X G;have bRIn:=FRIn.binds (ps:=["line"]) fun _ _ _ _ _ _ us hl=>by obtain⟨_,rfl⟩:=eY hl;rfl
 obtain⟨_,_,FRR,mRR,kRR⟩:=cK zRR X G;have bRR:=FRR.binds (ps:=["text"]) fun _ _ _ _ _ _ us hl=>by obtain⟨_,rfl⟩:=eY hl;rfl
 obtain⟨_,_,FRD,mRD,kRD⟩:=cK zRD X G;have bRD:=FRD.binds (ps:=["text"]) fun _ _ _ _ _ _ us hl=>by obtain⟨_,rfl⟩:=eY hl;rfl
 obtain⟨_,_,FRW,mRW,kRW⟩:=cK zRW X G;have bRW:=FRW.binds (ps:=["row"]) fun _ _ _ _ _ _ us hl=>by obtain⟨_,rfl⟩:=eY hl;rfl
 obtain⟨_,_,FRT,mRT,kRT⟩:=cK zRT X G;have bRT:=FRT.binds (ps:=["row"]) fun _ _ _ _ _ _ us hl=>by obtain⟨_,rfl⟩:=eY hl;rfl
 obtain⟨_,_,FDT,mDT,kDT⟩:=cK zDT X G;have bDT:=FDT.binds (ps:=["deed"]) fun _ _ _ _ _ _ us hl=>by obtain⟨_,rfl⟩:=eY hl;rfl
 obtain⟨_,_,FP,mP,kP⟩:=cK zP X G;have bP:=FP.binds (ps:=["_law_script"]) fun _ _ _ _ _ _ us hl=>by obtain⟨_,rfl⟩:=eY hl;rfl
 obtain⟨_,_,FT,mT,kT⟩:=cK zT X G;have bT:=FT.binds (ps:=["_law_pen_here","_law_many"]) fun _ _ _ _ _ _ us hl=>by obtain⟨_,_,rfl⟩:=aAB hl;rfl
 obtain⟨_,_,FN,mN,kN⟩:=cK zN X G;have bN:=FN.binds (ps:=["_law_pen_here","_law_many"]) fun _ _ _ _ _ _ us hl=>by obtain⟨_,_,rfl⟩:=aAB hl;rfl
 obtain⟨_,_,FSo,mSo,kSo⟩:=cK zSo X G;have bSo:=FSo.binds (ps:=["_law_pen_here","_law_fields","_law_rows"]) fun _ _ _ _ _ _ us hl=>by obtain⟨_,_,_,rfl⟩:=aAC hl;rfl
 obtain⟨_,_,FNu,mNu,kNu⟩:=cK zNu X G;have bNu:=FNu.binds (ps:=["_law_pen_here","_law_bottom","_law_most"]) fun _ _ _ _ _ _ us hl=>by obtain⟨_,_,_,rfl⟩:=aAC hl;rfl
 obtain⟨_,_,FSm,mSm,kSm⟩:=cK zSm X G;have bSm:=FSm.binds (ps:=["_law_pen_here","_law_names_here","_law_many"]) fun _ _ _ _ _ _ us hl=>by obtain⟨_,_,_,rfl⟩:=aAC hl;rfl
 obtain⟨_,_,FRo,mRo,kRo⟩:=cK zRo X G;have bRo:=FRo.binds (ps:=["_law_pen_here","_law_word","_law_name","_law_day","_law_sorts_here"]) fun _ _ _ _ _ _ us hl=>by obtain⟨_,_,_,_,_,rfl⟩:=aJD hl;rfl
 obtain⟨_,_,FlN,mlN,klN⟩:=cK zlN X G;have blN:=FlN.binds (ps:=["_law_thing"]) fun _ _ _ _ _ _ us hl=>by obtain⟨_,rfl⟩:=eY hl;rfl
 obtain⟨_,_,FlW,mlW,klW⟩:=cK zlW X G;have blW:=FlW.binds (ps:=["_law_thing","_law_bottom","_law_most"]) fun _ _ _ _ _ _ us hl=>by obtain⟨_,_,_,rfl⟩:=aAC hl;rfl
 obtain⟨_,_,FlP,mlP,klP⟩:=cK zlP X G;have blP:=FlP.binds (ps:=["_law_thing"]) fun _ _ _ _ _ _ us hl=>by obtain⟨_,rfl⟩:=eY hl;rfl
 obtain⟨_,_,FlR,mlR,klR⟩:=cK zlR X G;have blR:=FlR.binds (ps:=["_law_things","_law_judge","_law_at"]) fun _ _ _ _ _ _ us hl=>by obtain⟨_,_,_,rfl⟩:=aAC hl;rfl
 obtain⟨_,_,FlL,mlL,klL⟩:=cK zlL X G;have blL:=FlL.binds (ps:=["_law_thing"]) fun _ _ _ _ _ _ us hl=>by obtain⟨_,rfl⟩:=eY hl;rfl
 obtain⟨_,_,FlI,mlI,klI⟩:=cK zlI X G;have blI:=FlI.binds (ps:=["_law_thing"]) fun _ _ _ _ _ _ us hl=>by obtain⟨_,rfl⟩:=eY hl;rfl
 obtain⟨_,_,FLRT,mLRT,kLRT⟩:=cK zLRT X G;have bLRT:=FLRT.binds (ps:=["_law_row_here"]) fun _ _ _ _ _ _ us hl=>by obtain⟨_,rfl⟩:=eY hl;rfl
 obtain⟨_,_,FNI,mNI,kNI⟩:=cK zNI X G;have bNI:=FNI.binds (ps:=["_law_word"]) fun _ _ _ _ _ _ us hl=>by obtain⟨_,rfl⟩:=eY hl;rfl
 obtain⟨_,_,FLRI,mLRI,kLRI⟩:=cK zLRI X G;have bLRI:=FLRI.binds (ps:=["_law_line"]) fun _ _ _ _ _ _ us hl=>by obtain⟨_,rfl⟩:=eY hl;rfl
 obtain⟨_,_,FBW,mBW,kBW⟩:=cK zBW X G;have bBW:=FBW.binds (ps:=["_law_pen_here","_law_word"]) fun _ _ _ _ _ _ us hl=>by obtain⟨_,_,rfl⟩:=aAB hl;rfl
 obtain⟨_,_,FBL,mBL,kBL⟩:=cK zBL X G;have bBL:=FBL.binds (ps:=["_law_pen_here","_law_line"]) fun _ _ _ _ _ _ us hl=>by obtain⟨_,_,rfl⟩:=aAB hl;rfl
 obtain⟨_,_,FDI,mDI,kDI⟩:=cK zDI X G;have bDI:=FDI.binds (ps:=["_law_text"]) fun _ _ _ _ _ _ us hl=>by obtain⟨_,rfl⟩:=eY hl;rfl
 obtain⟨_,_,FH,mH,kH⟩:=cK zH X G;have bH:=FH.binds (ps:=["_law_reads","_law_text"]) fun _ _ _ _ _ _ us hl=>by obtain⟨_,_,rfl⟩:=aAB hl;rfl
 obtain⟨_,_,FR,mR,kR⟩:=cK zR X G;have bR:=FR.binds (ps:=["_law_reads","_law_text","_law_owed"]) fun _ _ _ _ _ _ us hl=>by obtain⟨_,_,_,rfl⟩:=aAC hl;rfl
 have mDykeError:=PySem.W.mg_of X G aDykeError;have mClash:=PySem.W.mg_of X G aClash;have mNoBreach:=PySem.W.mg_of X G aNoBreach;have mNoField:=PySem.W.mg_of X G aNoField;have mNoInch:=PySem.W.mg_of X G aNoInch;have mNoMend:=PySem.W.mg_of X G aNoMend;have mNoName:=PySem.W.mg_of X G aNoName;have mNoOrder:=PySem.W.mg_of X G aNoOrder;have mNoRoll:=PySem.W.mg_of X G aNoRoll;have mNoRow:=PySem.W.mg_of X G aNoRow;have mNoThen:=PySem.W.mg_of X G aNoThen;have mTooMany:=PySem.W.mg_of X G aTooMany;have mTwice:=PySem.W.mg_of X G aTwice;have mNoText:=PySem.W.mg_of X G aNoText;have T:Txt K mg:=⟨n_isinstance,n_str,n_len,n_all,n_int,n_bool,n_tuple,n_set,⟨_,g_LONGEST⟩,⟨_,g_LAST_DAY⟩,⟨_,g_FEWEST_LANDS⟩,⟨_,g_MOST_LANDS⟩,⟨_,g_MOST_PART_ACRES⟩,⟨_,g_MOST_INCHES⟩,⟨_,g_MOST_PENCE⟩,⟨_,g_MOST_SPADES⟩⟩
 have FI:=iA (st:=vZ) lI cI kI;have bI:=FI.binds (ps:=["self","line"]) fun _ _ _ _ _ _ us hl=>by obtain⟨_,_,rfl⟩:=aAB hl;rfl
 have XN:XNo l.prog w K mg base cNoText fI _:=⟨mNoText,zq,aG4 FI ⟨sa,zo,zn,hd⟩,bI,iI⟩
 have GT:=aGy (P:=l.prog) (w:=w) (base:=base) FT n_len n_abs;have GIN:=aGE (aDm (P:=l.prog) (w:=w) (base:=base) FIN T) aDn;have GNB:=aGF (P:=l.prog) (w:=w) (base:=base) FNB T;have GIW:=aBd FIW ⟨_,_,GNB,mNB,kNB,bNB⟩;have GRI:=aDs (P:=l.prog) (w:=w) (base:=base) FRI T n_list n_sorted;have GPT:=aGG FPT T ⟨_,_,GIN,mIN,kIN,bIN⟩ ⟨_,_,GIW,mIW,kIW,bIW⟩;have GIC:=aGH FIC T ⟨_,_,GIW,mIW,kIW,bIW⟩;have GAP:=aGJ FAP T ⟨_,_,GPT,mPT,kPT,bPT⟩;have GAN:=aGI FAN T ⟨_,_,GIN,mIN,kIN,bIN⟩;have GRP:=aGN FRP T ⟨_,_,GAP,mAP,kAP,bAP⟩ ⟨_,_,GRI,mRI,kRI,bRI⟩;have GRL:=aGM FRL T ⟨_,_,GAN,mAN,kAN,bAN⟩ ⟨_,_,GRI,mRI,kRI,bRI⟩;have GF0:=aE0 FF0 T ⟨_,_,GIN,mIN,kIN,bIN⟩ ⟨_,_,GRP,mRP,kRP,bRP⟩;have GF1:=aE1 FF1 T ⟨_,_,GIN,mIN,kIN,bIN⟩ ⟨_,_,GRL,mRL,kRL,bRL⟩;have GF2:=z9 FF2 T ⟨_,_,GAN,mAN,kAN,bAN⟩;have GF3:=z8 FF3 T ⟨_,_,GIN,mIN,kIN,bIN⟩ ⟨_,_,GIW,mIW,kIW,bIW⟩;have GF4:=aEX FF4 T ⟨_,_,GAN,mAN,kAN,bAN⟩;have GF5:=aDq FF5 T ⟨_,_,GIN,mIN,kIN,bIN⟩;have GF6:=aBg FF6 T ⟨_,_,GIN,mIN,kIN,bIN⟩ ⟨_,_,GIW,mIW,kIW,bIW⟩ ⟨_,_,GIC,mIC,kIC,bIC⟩;have GF7:=aEV FF7 T ⟨_,_,GIN,mIN,kIN,bIN⟩ ⟨_,_,GIC,mIC,kIC,bIC⟩;have GIR:=aE2 FIR T (aGR lFm) (aIu fF0 fF1 fF2 fF3 fF4 fF5 fF6 fF7) hzF g_FORMS (aJv fF0 fF1 fF2 fF3 fF4 fF5 fF6 fF7) (aJw GF0 kF0 bF0 GF1 kF1 bF1 GF2 kF2 bF2 GF3 kF3 bF3 GF4 kF4 bF4 GF5 kF5 bF5 GF6 kF6 bF6 GF7 kF7 bF7) ⟨_,_,GIN,mIN,kIN,bIN⟩ ⟨_,_,GIW,mIW,kIW,bIW⟩;have GNO:=aDu (P:=l.prog) (w:=w) (base:=base) FNO T ⟨_,g_MOST_FIGURES⟩;have GWN:=aFi FWN n_tuple n_enumerate ⟨_,_,GNO,mNO,kNO,bNO⟩;have GPO:=aFl FPO n_tuple n_len n_range ⟨_,_,GWN,mWN,kWN,bWN⟩
 have GJO:=aFm FJO n_tuple n_len ⟨_,_,GWN,mWN,kWN,bWN⟩;have GRIn:=aGX FRIn (aGW lNm) (aIx n0 n1 n2 n3 n4 n5) hzN g_NUMBERS (aJy lN0 lN1 lN2 lN3 lN4 lN5) (fun _ h=>aJz h) ⟨_,_,GPO,mPO,kPO,bPO⟩ ⟨_,_,GIR,mIR,kIR,bIR⟩ ⟨_,_,GJO,mJO,kJO,bJO⟩ ⟨_,_,GWN,mWN,kWN,bWN⟩;have GRR:=aBu FRR T XN GRIn mRIn kRIn bRIn;have GRD:=aAy FRD T XN GRR mRR kRR bRR GIN mIN kIN bIN;have q1:Rdr l.prog w K mg base _ (hG K cNoText oU pU):=⟨⟨_,GRR.mono (by decide),kRR,bRR⟩⟩
 have q2:Rdr l.prog w K mg base _ (hG K cNoText eQ f9):=⟨⟨_,GRD,kRD,bRD⟩⟩
 have GRW:=aAf (P:=l.prog) (w:=w) (base:=base) FRW n_str n_list;have GRT:=aBm FRT ⟨_,_,GRW,mRW,kRW,bRW⟩;have GDT:=aAx FDT ⟨_,_,GRT,mRT,kRT,bRT⟩;have GN:=aEQ FN n_len n_range n_min ⟨_,_,GT,mT,kT,bT⟩;have GSo:=aE6 FSo ⟨_,_,GT,mT,kT,bT⟩ ⟨_,_,GN,mN,kN,bN⟩;have GNu:=aIt FNu n_min ⟨_,_,GT,mT,kT,bT⟩;have GSm:=aGQ FSm n_list n_range n_sorted n_len ⟨_,_,GT,mT,kT,bT⟩;have GRo:=aFa FRo n_len n_tuple ⟨_,_,GT,mT,kT,bT⟩ ⟨_,_,GNu,mNu,kNu,bNu⟩ ⟨_,_,GSm,mSm,kSm,bSm⟩;have GlN:=aFs (P:=l.prog) (w:=w) (base:=base) FlN T;have GlW:=aDw (P:=l.prog) (w:=w) (base:=base) FlW T;have GlP:=aBo FlP T ⟨_,_,GlN,mlN,klN,blN⟩ ⟨_,_,GlW,mlW,klW,blW⟩;have GlR:=aFu FlR T n_sorted GlN mlN klN blN GlP mlP klP blP;have GlL:=aBp FlL T ⟨_,_,GlN,mlN,klN,blN⟩ ⟨_,_,GlW,mlW,klW,blW⟩;have GlI:=aDy FlI T mlP GlN mlN klN blN GlW mlW klW blW GlL mlL klL blL GlR mlR klR blR;have GLRT:=aAg (P:=l.prog) (w:=w) (base:=base) FLRT n_str n_list;have GNI:=aAk (P:=l.prog) (w:=w) (base:=base) FNI n_len n_int;have GLRI:=aDz FLRI n_len n_tuple n_int n_range ⟨_,_,GlI,mlI,klI,blI⟩ ⟨_,_,GNI,mNI,kNI,bNI⟩;have GBW:=aFN FBW n_len ⟨_,_,GT,mT,kT,bT⟩;have GBL:=aFO FBL n_len ⟨_,_,GT,mT,kT,bT⟩ ⟨_,_,GBW,mBW,kBW,bBW⟩;have GDI:=aDB FDI n_len ⟨_,_,GLRI,mLRI,kLRI,bLRI⟩ ⟨_,_,GlN,mlN,klN,blN⟩;have GH:=aFB (P:=l.prog) (w:=w) (base:=base) FH n_isinstance n_ValueError mDykeError mClash mNoBreach mNoField mNoInch mNoMend mNoName mNoOrder mNoRoll mNoRow mNoThen mTooMany mTwice mNoText ze zf zg zl;have GR:=aFC FR n_isinstance n_tuple n_repr ⟨_,_,GH,mH,kH,bH⟩;exact aIG FL n_range n_int q1 mRR q2 mRD ⟨_,_,(aIk FP n_list),mP,kP,bP⟩ ⟨_,_,GSo,mSo,kSo,bSo⟩ ⟨_,_,GRo,mRo,kRo,bRo⟩ ⟨_,_,GLRT,mLRT,kLRT,bLRT⟩ ⟨_,_,GT,mT,kT,bT⟩ ⟨_,_,GNu,mNu,kNu,bNu⟩ ⟨_,_,GBL,mBL,kBL,bBL⟩ ⟨_,_,GRT,mRT,kRT,bRT⟩ ⟨_,_,GDT,mDT,kDT,bDT⟩ ⟨_,_,GR,mR,kR,bR⟩ ⟨_,_,GLRI,mLRI,kLRI,bLRI⟩ ⟨_,_,GDI,mDI,kDI,bDI⟩
theorem walk{l:PySem.W.OpenLaw}{q:Al}{loose:List Str}{XP:(Str→Option Ab)→A1→Prop}{YP:AH→A1→Prop}{d:DefRec}{K:Params→Ae}(hn:l.most=some 63)(hdf:d.params.defaults=[])
  (hY:∀(w:AH) (h:A1),YP w h→(K w.params).In h)
  (F:∀(w:AH) (mg:Str→Option Ab) (fa:Af) (h:A1),(K w.params).In h→h.Ns mainGlobals mg→mg d.name=some (.ref fa)→
   ∃ fd:Ax,(∀(s:Ad) (u:Ab),Fu s fd ⟨[u],[]⟩ [("_law_script",u)])∧∀ base:A1,(K w.params).In base→base.Ns mainGlobals mg→b8 l.prog w (K w.params) mg base CX0 13 fa fd ["_law_script"] (aCG (K w.params))):
  PySem.W.WalkO q loose XP YP l.row.toRowW d [] (fun f vs=>PySem.call f vs):=
 L2.walk_of (n:=63) (k:=13) (x:="_law_script") (CX:=fun _=>CX0) (sp:=fun w=>aCG (K w.params)) hn (by decide) hdf ⟨rfl,by decide,by decide,rfl⟩ hY F (fun _ _ a ns hl _ hS=>⟨a,ns,rfl,hS,hl,fun _=>rfl⟩) fun _ _ _ _ _ z=>z
end K72
end
namespace PySem.W.Fast
def tw4219448708751751718:=0
def tw3627252406888047103:=0
def tw11416141072588290301:=0
def tw8975029230492805205:=0
def tw2181631005591452199:=0
def tw2589195725499133897:=0
def tw7869315619685523486:=0
def tw17470912675197652153:=0
def tw15663409843921537378:=0
def tw13954698092880293648:=0
def tw9162320880028410261:=0
def tw3571655847517919885:=0
def tw17751338712882202558:=0
def tw2721456021968095278:=0
def tw2171369439603330275:=0
def tw7854970928469592057:=0
def tw15389343599856876092:=0
def tw8477918837097155902:=0
def tw6070480019901395706:=0
def tw9498228419293088587:=0
def tw177846159434627246:=0
def tw7334728293753506956:=0
def tw8106186799003454771:=0
def tw4395794967722341348:=0
def tw17562054703561064283:=0
def tw12782853802933551630:=0
def tw16969289137745001948:=0
def tw1383807715804813767:=0
def tw11338547474498348363:=0
def tw762766688208282222:=0
def tw3278404561862896251:=0
def tw9068137634084874986:=0
def tw2798679076848342773:=0
def tw16196185205769746372:=0
def tw2695805358453594238:=0
def tw13524314704870121209:=0
def tw7982328353941037318:=0
def tw12096888649544836329:=0
def tw12443313294593068805:=0
def tw12618187416596164210:=0
def tw2632335442678508246:=0
def tw12641537845336436778:=0
def tw12794271252491881350:=0
def tw945141134559414526:=0
def tw3044841153951531588:=0
def tw4027936601107082918:=0
def tw13451098802486387459:=0
def tw11263034455396582231:=0
def tw1302759966997520304:=0
def tw9382915688861801631:=0
def tw6727123999033716609:=0
def tw17959227013119764133:=0
def tw2441355931084662160:=0
def tw17679029877119434253:=0
def tw12612679349490093772:=0
def tw294058872917305481:=0
def tw5434361551202215745:=0
def tw279177333335664711:=0
def tw9496705908013497083:=0
def tw6709048530380350495:=0
def tw9129717123172057312:=0
def tw11061630100048678435:=0
def tw6069853038494885695:=0
def tw17234320929270483626:=0
def tw5078060517369298160:=0
def tw6013077964343734739:=0
def tw14069848339902770722:=0
def tw11075963326886489189:=0
def tw13917806582971513502:=0
def tw16369929168757218420:=0
def tw14669654967864556401:=0
def tw16540648387550926335:=0
def tw13734901782029071938:=0
def tw2012435237358810496:=0
def tw11309446124128291833:=0
def tw8629126577868108336:=0
def tw10456585650358495947:=0
def tw14789391168880086552:=0
def tw8586801560398205729:=0
def tw3680980309338346158:=0
def tw17654523917994590854:=0
def tw2752321316722304794:=0
def tw15856324078669618051:=0
def tw8567589282722300615:=0
def tw14562719504296590189:=0
def tw3845865968719219122:=0
def tw6020391564005890015:=0
def tw4983525419465325762:=0
def tw14375139671982346934:=0
def tw6869382521629757027:=0
def tw3350911815323768997:=0
def tw15786670715940947521:=0
def tw9113531666100916279:=0
def tw12209793207015865316:=0
def tw11264498670407171143:=0
def tw10766907754850806067:=0
def tw10615818061667117399:=0
def tw13995326283349846544:=0
def tw15916995300380832984:=0
def tw9815916801700736189:=0
def tw9962746390834479017:=0
def tw9805692949969754760:=0
def tw8303270950997468981:=0
def tw5157585664680115949:=0
def tw14498836221448274084:=0
def tw4967027453754844743:=0
def tw10170003024863248083:=0
def tw3264819037930147805:=0
def tw16602619215336971672:=0
def tw9604404583028714593:=0
def tw8121510151319727543:=0
def tw635087302604616258:=0
def tw14076002352624947471:=0
def tw7054545341531093836:=0
def tw7486532336898116592:=0
def tw3510859201757594455:=0
def tw5852252498303250192:=0
def tw7488603307509186140:=0
def tw8855012765511713190:=0
def tw5429495668541551857:=0
def tw634487163259080424:=0
def tw4566093910822421241:=0
def tw5909470862382300608:=0
def tw6941709918388018472:=0
def tw6244209804762368168:=0
def tw1526150208690947208:=0
def tw9257048304791264826:=0
def tw522226544507761834:=0
def tw12941065879171267665:=0
def tw2459258743808733673:=0
def tw12004677062918260962:=0
def tw4257515155777954776:=0
def tw5765500513520695160:=0
def tw7962480355733210378:=0
def tw3668973320465968488:=0
def tw9511145996407114058:=0
def tw14146745950522933687:=0
def tw1311590952791799949:=0
def tw11992704513603168786:=0
def tw1073945638856185994:=0
def tw16128962246582956453:=0
def tw3564674394004561232:=0
def tw16610275668569604634:=0
def tw7802100122481597618:=0
def tw16963010660834849411:=0
def tw12494267289558892164:=0
def tw6563570230491934847:=0
def tw17254860691647907630:=0
def tw7962430734643458016:=0
def tw2535776251769245319:=0
def tw17386035400222466499:=0
def tw50751511326403113:=0
def tw1636086959958695634:=0
def tw8808407576108318977:=0
def tw6282713352717388796:=0
def tw7373688130703889148:=0
def tw16679148024040969215:=0
def tw16932326813031018797:=0
def tw3019205810037353049:=0
def tw5203324622781331969:=0
def tw13744014566229408613:=0
def tw9393393467268237032:=0
def tw7928445641491927767:=0
def tw6616799627973994275:=0
def tw6574172678837509770:=0
def tw15491155285839912493:=0
def tw12830524590552324803:=0
def tw6711625250087011739:=0
def tw7813082486664713258:=0
def tw4800304699695362121:=0
def tw18441793145458054712:=0
def tw1139320477937558539:=0
def tw3598979341647805464:=0
def tw5218395488740651761:=0
def tw4265078369827868068:=0
def tw4849198675874743158:=0
def tw2708092239274994998:=0
def tw12046701874857718758:=0
def tw2408562488026731553:=0
def tw2841364878682730456:=0
def tw13100230552765528526:=0
def tw13778126298449705319:=0
def tw17156241225133353880:=0
def tw10771786969414660528:=0
def tw12853915084846317681:=0
def tw11275303281516461378:=0
def tw17300909451450391809:=0
def tw8047410299769011350:=0
def tw2768061392279111521:=0
def tw5577579160918910334:=0
def tw10684547508353009495:=0
def tw17919969544354369304:=0
def tw11169433440012271080:=0
def tw17126178437926833561:=0
def tw9130358962140004698:=0
def tw13813271946615373310:=0
def tw12708831261852466816:=0
def tw7028419856498312092:=0
def tw15531147388212125993:=0
def tw6354211197323102399:=0
def tw3622964948147062114:=0
def tw11738138118352475634:=0
def tw13848851839353270425:=0
def tw12786489547498742912:=0
def tw14436286899750497719:=0
def tw3502010622386099182:=0
def tw12959387471414755510:=0
def tw17592859167098411845:=0
def tw4836418660533699472:=0
def tw11560114183859235002:=0
def tw7354890824649813793:=0
def tw10162719392412856761:=0
def tw15724465218178298686:=0
def tw11237426591302989217:=0
def tw16777969797150383332:=0
def tw8151700021120541686:=0
def tw16381629953005098288:=0
def tw10891667630977178692:=0
def tw13638092206247729936:=0
def tw12489750505586176517:=0
def tw14139551182092168706:=0
def tw12004553662367972573:=0
def tw17250770263512270114:=0
def tw17362755700980202854:=0
def tw7851110081692449391:=0
def tw4340224168983009001:=0
def tw13769957356565629744:=0
def tw8709536401396149648:=0
def tw7255828828811206546:=0
def tw7456281223453448768:=0
def tw13172672731859498725:=0
def tw281670729093933401:=0
def tw9544295156463804527:=0
def tw2559386964495378729:=0
def tw1965380045487669215:=0
def tw1008000777292440552:=0
def tw17460274660638829987:=0
def tw3293555271263129046:=0
def tw7569822560887211732:=0
def tw2674830917911395141:=0
def tw14968733240495277390:=0
def tw15990174094194897137:=0
def tw17132979687380874322:=0
def tw11006964926261335130:=0
def tw2255440286199355678:=0
def tw2368854641901628370:=0
def tw3005709038923121576:=0
def tw12425588580631368685:=0
def tw10307640661317835634:=0
def tw17547909185776990395:=0
def tw5992531703691328440:=0
def tw15776470297986828116:=0
def tw11858864010784482670:=0
def tw10520283012446304399:=0
def tw15254412471477601725:=0
def tw16215253881334065556:=0
def tw2281863148598030131:=0
def tw8135027373432657722:=0
def tw3892057919516825550:=0
def tw2091690649595235477:=0
def tw10044838137225560433:=0
def tw10304633273103040187:=0
def tw11199127188108088793:=0
def tw14696787026939528290:=0
def tw1923333130234487805:=0
def tw483495744162149407:=0
def tw3661221157947304434:=0
def tw13782948604976768684:=0
def tw3182089021938758960:=0
def tw3786226518662344919:=0
def tw7787731486029057471:=0
def tw632724239547796644:=0
def tw2306100703828468516:=0
def tw6204496625950444104:=0
def tw14189718875505517138:=0
def tw12713534123878430985:=0
def tw12378530743937131421:=0
def tw10475788483824198700:=0
def tw9076096551902252771:=0
def tw10241388942993488241:=0
def tw6438144732461505350:=0
def tw13242988400080308844:=0
def tw10134241483587187364:=0
def tw15332576071408018138:=0
def tw17870664339319414953:=0
def tw16108089985775842589:=0
def tw10623814950027649824:=0
def tw10226716588952206254:=0
def tw862216419874817919:=0
def tw7386021026279888793:=0
def tw7229384200003257967:=0
def tw13991459062955325220:=0
def tw8301570930523858117:=0
def tw9688336425775378797:=0
def tw11438436114200793772:=0
def tw14971036434945107333:=0
def tw6443794140907634574:=0
def tw8968054242838448365:=0
def tw12752129166892516631:=0
def tw8047143592875807303:=0
def tw249154288669100900:=0
def tw12227407843994702723:=0
def tw12479490930500834062:=0
def tw2221726069783037143:=0
def tw16979070639445893906:=0
def tw4592484686994940960:=0
def tw5758457062988020328:=0
def tw13260548968945184818:=0
def tw2847952112006530051:=0
def tw5103353379207847678:=0
def tw3379813346229679653:=0
def tw11486951304075898013:=0
def tw9295763486265441010:=0
def tw988596176408524965:=0
def tw5735373995858787704:=0
def tw11680388046486034296:=0
def tw3876742350641011674:=0
def tw14716514896829154999:=0
def tw14203776438489902388:=0
def tw14464349339961132468:=0
def tw4349671475769496447:=0
def tw15376531200202737143:=0
def tw2724508481114584628:=0
def tw11855423798851409285:=0
def tw15231827497443984740:=0
def tw12061601772795087246:=0
def tw18289138864295680705:=0
def tw16315394264540955627:=0
def tw8699990281665775894:=0
def tw17318337246994637015:=0
def tw14646881798544930448:=0
def tw10670025831365148549:=0
def tw14536798084126692469:=0
def tw1005069710803937385:=0
def tw6131870610840991126:=0
def tw12407759920222512837:=0
def tw14856993513319718168:=0
def tw14624536394076357774:=0
def tw11177756894913361390:=0
def tw16448502265420309969:=0
def tw10086546161916265359:=0
def tw17720096973702113783:=0
def tw17389967310497720589:=0
def tw6469594590630387846:=0
def tw6960300834133701183:=0
def tw10251598387269266064:=0
def tw13094724636404128445:=0
def tw11803451467554365097:=0
def tw8057912244791798597:=0
def tw16082675171590323507:=0
def tw7274763183101819019:=0
def tw16570082577578421620:=0
def tw11598381822549729872:=0
def tw5110906473052809013:=0
def tw7021643110563037593:=0
def tw16816176974319576697:=0
def tw1393639339274503141:=0
def tw5405696371464990920:=0
def tw5237192040843797396:=0
def tw8416399141354654810:=0
def tw17493352846508571252:=0
def tw10284410049013170662:=0
def tw5742571343886341474:=0
def tw17018330755124893614:=0
def tw18173542347136475856:=0
def tw7985332114173670489:=0
def tw156588533690428102:=0
def tw11170624639477178759:=0
def tw18192000992747930201:=0
def tw11287578631665765567:=0
def tw10694841837973049133:=0
def tw5866154744129062337:=0
def tw12126562013320383387:=0
def tw11123178835445744560:=0
def tw7759969352469375703:=0
def tw9240852786806104178:=0
def tw14306839408292220477:=0
def tw17183621486107423497:=0
def tw4465705133310246078:=0
def tw1922347530275834040:=0
def tw1385203954638973907:=0
def tw1732025335998656170:=0
def tw15723231001717450975:=0
def tw14089469260571739861:=0
def tw3054173522712074459:=0
def tw1344901056402898901:=0
def tw7544655735836552826:=0
def tw15115869340552701466:=0
def tw39323211668845113:=0
def tw9736163577225856254:=0
def tw4616344696230499157:=0
def tw11772837436447334568:=0
def tw8262645205647826981:=0
def tw7975637527452600153:=0
def tw2564578883424034987:=0
def tw13617193791157465563:=0
def tw13473188068628033398:=0
def tw16170058493036562878:=0
def tw6013149458555622743:=0
def tw905758879025794424:=0
def tw12009664761530157957:=0
def tw3811317138672601288:=0
def tw14157741130443971485:=0
def tw16214768209998116705:=0
def tw6844204094201911417:=0
def tw4086822511904751515:=0
def tw17378186265197044579:=0
def tw16394330851566045549:=0
def tw7765880348725426106:=0
def tw4564870263187084286:=0
def tw17548649113073448535:=0
def tw11593276146474717401:=0
def tw12440025561820001781:=0
def tw6535668527942055076:=0
def tw6208333381440350973:=0
def tw2224321512874531580:=0
def tw8681855898306878000:=0
def tw5564724054187338585:=0
def tw1783649871686909251:=0
def tw5232821615754794430:=0
def tw13311512774978234455:=0
def tw1632776953963419955:=0
def tw8899839558956675827:=0
def tw14927758449323812618:=0
def tw17365464841197768779:=0
def tw4129073092324387489:=0
def tw11199887616383450961:=0
def tw6226470679859662228:=0
def tw17701636235020038012:=0
def tw1643130630606472064:=0
def tw15263932485950948160:=0
def tw16938508583771471183:=0
def tw16359592754580144780:=0
def tw18202320624303113621:=0
def tw17406653114993581338:=0
def tw11510769517905450198:=0
def tw9359090592725291523:=0
def tw16122907929325948076:=0
def tw1646280767865702152:=0
def tw11196647532287628837:=0
def tw1582493149771582629:=0
def tw9060683697986226044:=0
def tw18306685557024004587:=0
def tw767070343928458122:=0
def tw3120944630009393451:=0
def tw17257098991351314151:=0
def tw6810839425029774321:=0
def tw15210743677858404444:=0
def tw455766575683830899:=0
def tw14623878199254515215:=0
def tw12165830620493332585:=0
def tw11053853665546457371:=0
def tw395517072716101621:=0
def tw10049002292718968156:=0
def tw10868254164335258727:=0
def tw1986530684631233469:=0
def tw4547517064236691908:=0
def tw3132721579813741837:=0
def tw5551855094579547499:=0
def tw13990409771647966433:=0
def tw6061557434862633740:=0
def tw9766563711372641410:=0
def tw15582786008772371440:=0
def tw1861262705129255716:=0
def tw11136212952825903720:=0
def tw12232232475709790535:=0
def tw18433274781978372914:=0
def tw5725442194486042505:=0
def tw10749803212709237740:=0
def tw14689034352689384826:=0
def tw9661888872767037143:=0
def tw10100701049937904771:=0
def tw11065270950776729339:=0
def tw9448777488368694185:=0
def tw6437219653654866491:=0
def tw13105890510681597189:=0
def tw11390466044809923476:=0
def tw14085792105145086152:=0
def tw1122323761928612412:=0
def tw1467690675895407259:=0
def tw1968622234760346333:=0
def tw3740777371045089907:=0
def tw11941112230780978677:=0
def tw9373111734021779480:=0
def tw1779166322285586378:=0
def tw1636803724774692625:=0
def tw17062653354993646321:=0
def tw1569148637758703577:=0
def tw4894519577733495323:=0
def tw11766184856372703633:=0
def tw15116705236758525593:=0
def tw15254695792990992370:=0
def tw8298405947838776001:=0
def tw11860181295288512777:=0
def tw1088813980553259028:=0
def tw13238939795066957158:=0
def tw357338481024568290:=0
def tw6954527920316869297:=0
def tw11692807856476903571:=0
def tw990274759730563435:=0
def tw3084527840257446241:=0
def tw3959223876426100074:=0
def tw1435420341348822872:=0
def tw17262466764386770815:=0
def tw3122303018690952459:=0
def tw949079719433670354:=0
def tw4860188547192462189:=0
def tw6342298375703775990:=0
def tw14319664763079988378:=0
def tw1931131671319908451:=0
def tw880072422309458416:=0
def tw12609020404604953530:=0
def tw5358786687419458446:=0
def tw16790784210497346529:=0
def tw2259730556762307224:=0
def tw3203766387829212734:=0
def tw15303846771662342465:=0
def tw6980719811541301232:=0
def tw1004237284760822639:=0
def tw14753282288746767632:=0
def tw7649920299544032293:=0
def tw17814676261411977133:=0
def tw8761797127679849483:=0
def tw6246038371604218775:=0
def tw3777433672685779553:=0
def tw4539561041846403734:=0
def tw9332610873616628847:=0
def tw17292861841100809320:=0
def tw13630210938096621129:=0
def tw11404938762107222947:=0
def tw14916855825873600226:=0
def tw17496629594347252198:=0
def tw17047673138512211643:=0
def tw11072754652466897044:=0
def tw464915819829645805:=0
def tw5242164616908487904:=0
def tw1206294178314161553:=0
def tw10583576216905955673:=0
def tw14510404914559218820:=0
def tw10323435675801069394:=0
def tw13196047810770632836:=0
def tw3025741693744426328:=0
def tw4747654553970992840:=0
def tw5871817753364546610:=0
def tw5464558907046743501:=0
def tw14989686543032326497:=0
def tw17620748228449278055:=0
def tw11130639811049044086:=0
def tw2911874972598866995:=0
def tw4825527007257746373:=0
def tw14054690547302708606:=0
def tw13494741677372777642:=0
def tw9244051132982030837:=0
def tw3958518365056386485:=0
def tw15408298259396597241:=0
def tw12264099871539525368:=0
def tw2138745771901750407:=0
def tw12018416501449462803:=0
def tw17234359122582655652:=0
def tw2676195232174773697:=0
def tw11301911795888003207:=0
def tw9664177941827983550:=0
def tw5853103256760358984:=0
def tw4076422303672446136:=0
def tw18262306052448328386:=0
def tw16223737908772994351:=0
def tw10807712940546517521:=0
def tw1234774749337085015:=0
def tw10492828298702128316:=0
def tw15277356909117576595:=0
def tw17714804698524800926:=0
def tw10600990176151239012:=0
def tw10641087094910873425:=0
def tw3755767256017698784:=0
def tw10608572145966489067:=0
def tw11839728128585997421:=0
def tw8004624410238860063:=0
def tw17113575415965469682:=0
def tw2656094222990255123:=0
def tw683448879121735718:=0
def tw9413828299740461168:=0
def tw5375778982320193003:=0
def tw8737663497821016691:=0
def tw13232756253628409164:=0
def tw3548272363681910008:=0
def tw14705507948252850503:=0
def tw10822512003117837615:=0
def tw5610095796076899366:=0
def tw18185243627157693915:=0
def tw9431829676813536064:=0
def tw6504085950754850491:=0
def tw3104967670121708743:=0
def tw17397627944777507619:=0
def tw7744085681635464281:=0
def tw17069120765600230163:=0
def tw9094483185984392723:=0
def tw12405694692124927164:=0
def tw11786978658284964793:=0
def tw558338150293185659:=0
def tw2310253594770122237:=0
def tw12978608382635008693:=0
def tw165374568057273540:=0
def tw13330257031727519829:=0
def tw14068027171757703392:=0
def tw13648709238010818456:=0
def tw13174725026290790035:=0
def tw5886547224720952990:=0
def tw16071719330868436704:=0
def tw4996308580196366032:=0
def tw8715665379768639334:=0
def tw6861482964108300935:=0
def tw17010735368024997919:=0
def tw14706548897671187541:=0
def tw2507678956564186254:=0
def tw13384392007451929996:=0
def tw11944637716344027063:=0
def tw11859012620103824512:=0
def tw4024385439037820936:=0
def tw10302792133191288547:=0
def tw7827323072647699697:=0
def tw4484106019990898250:=0
def tw14284960479875849740:=0
def tw6482667765186752144:=0
def tw9330888562786660686:=0
def tw4996758167351454590:=0
def tw11435682624407788453:=0
end PySem.W.Fast
open PySem PySem.W PyProof.Rows
set_option maxRecDepth 100000 in
set_option maxHeartbeats 0 in
theorem PySem.Challenge.cw_dykelengths_k72_rows_and_deeds_written_holds : PySem.Challenge.rw_dykelengths_k72_rows_and_deeds_written.Holds := by
 w_on;o_law;k_head;(case hw=>w_witness2)
 k_fill
 refine K72.walk (l:=PySem.Challenge.rw_dykelengths_k72_rows_and_deeds_written) rfl rfl (fun w h Y=>PySem.W.kIn_of Y) ?F
 case F=>
  intro w mg fa h KX G hmg
  refine' K72.all_mk KX G hmg ?aDykeError ?aClash ?aNoBreach ?aNoField ?aNoInch ?aNoMend ?aNoName ?aNoOrder ?aNoRoll ?aNoRow ?aNoThen ?aTooMany ?aTwice ?aNoText ?aI ?iI ?lI ?cI ?kI ?sa ?hd ?zl ?zq ?zo ?zn ?ze ?zf ?zg ?aF0 ?lF0 ?cF0 ?kF0 ?aF1 ?lF1 ?cF1 ?kF1 ?aF2 ?lF2 ?cF2 ?kF2 ?aF3 ?lF3 ?cF3 ?kF3 ?aF4 ?lF4 ?cF4 ?kF4 ?aF5 ?lF5 ?cF5 ?kF5 ?aF6 ?lF6 ?cF6 ?kF6 ?aF7 ?lF7 ?cF7 ?kF7 ?aL ?lL ?cL ?kL ?z_isinstance ?z_str ?z_len ?z_all ?z_int ?z_bool ?z_tuple ?z_set ?z_list ?z_sorted ?z_abs ?z_range ?z_min ?z_repr ?z_enumerate ?z_ValueError ?q_LONGEST ?q_LAST_DAY ?q_FEWEST_LANDS ?q_MOST_LANDS ?q_MOST_PART_ACRES ?q_MOST_INCHES ?q_MOST_PENCE ?q_MOST_SPADES ?q_MOST_FIGURES ?q_NUMBERS ?lNm ?hzN ?lN0 ?lN1 ?lN2 ?lN3 ?lN4 ?lN5 ?q_FORMS ?lFm ?hzF ?zIN ?zNB ?zIW ?zRI ?zPT ?zAP ?zAN ?zRP ?zRL ?zIC ?zIR ?zNO ?zWN ?zPO ?zJO ?zRIn ?zRR ?zRD ?zRW ?zRT ?zDT ?zP ?zT ?zN ?zSo ?zNu ?zSm ?zRo ?zlN ?zlW ?zlP ?zlR ?zlL ?zlI ?zLRT ?zNI ?zLRI ?zBW ?zBL ?zDI ?zH ?zR
  case aDykeError|aClash|aNoBreach|aNoField|aNoInch|aNoMend|aNoName|aNoOrder|aNoRoll|aNoRow|aNoThen|aTooMany|aTwice|aNoText|aI|iI|lI|cI|kI|sa|hd|zl=>k_is
  case zq|zo|zn|ze|zf|zg=>kernel_rfl
  case aF0|lF0|cF0|kF0|aF1|lF1|cF1|kF1|aF2|lF2|cF2|kF2|aF3|lF3|cF3|kF3|aF4|lF4|cF4|kF4|aF5|lF5|cF5|kF5|aF6|lF6|cF6|kF6|aF7|lF7|cF7|kF7|aL|lL|cL|kL|z_isinstance|z_str|z_len|z_all|z_int|z_bool|z_tuple|z_set|z_list|z_sorted|z_abs|z_range|z_min|z_repr|z_enumerate|z_ValueError|q_LONGEST|q_LAST_DAY|q_FEWEST_LANDS|q_MOST_LANDS|q_MOST_PART_ACRES|q_MOST_INCHES|q_MOST_PENCE|q_MOST_SPADES|q_MOST_FIGURES|q_NUMBERS|lNm=>k_is
  case hzN=>first | rfl | decide
  case lN0|lN1|lN2|lN3|lN4|lN5|q_FORMS|lFm=>k_is
  case hzF=>first | rfl | decide
  case zIN|zNB|zIW|zRI|zPT|zAP|zAN|zRP|zRL|zIC|zIR|zNO|zWN|zPO|zJO|zRIn|zRR|zRD|zRW|zRT|zDT|zP|zT|zN|zSo|zNu|zSm|zRo|zlN|zlW|zlP|zlR|zlL|zlI|zLRT|zNI|zLRI|zBW|zBL|zDI|zH|zR=>exact ⟨_,by k_is,⟨_,_,_,_,_,_,_,_,_,by k_is,by k_is⟩,by k_is⟩
