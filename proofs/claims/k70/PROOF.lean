import PyProof.Rows.All
import Wide.All
import OpenK.AllK
import Wide.FinOn
import Lean
import PyProof.EqAt
import PyProof.EqKinds
import PyProof.TupleCall
import KE.KIntText
import KE.KDictList
import PyProof.StationsW
import PyProof.ExcClass2
import OpenK.KRaise
import OpenK.KOwn
import KE.KTryMore
import PyProof.NsDelKeeps
import PyProof.Rows.Catch
import PyProof.ExcArgs
import PyProof.AttrMissHeap
import KE.KDictOf
import KE.KPairComp
import PyProof.EnumFor
import PyProof.EnumMake
import PyProof.EnumStmt
import PyProof.Rows.EnumRows
import PyProof.StrCalls
import PySem.Challenge.RW_dykelengths_k70_rolls_written_and_read
set_option linter.all false
set_option maxRecDepth 100000
set_option Elab.async false
set_option maxHeartbeats 16000000
noncomputable section
local macro_rules
|`(tactic|omega)=>`(tactic|lia)
local macro_rules
|`(tactic|decide)=>`(tactic|decide +kernel)
open PySem renaming wpAny_bind→Aa,Value→Ac,Shared→Ad,Addr→Ae,wpAny_pure→Af,PyData→Al,Program→Ay,wpAny_ite_false→AA,FuncData→AD,Around→AL,boot_len→AM,World→AQ,Expr→A6,Heap→A8,wpAny_holding→Bi,strKind→Bn,wpAny_newObj_type→Bq,wpAny_ite_true→Bv,Stmt→Bx,wpAny_truthy_bool→BA,wpAny_isInstance→BE,mem_of_lookup→BF,wpAny_call_entry→BP,wpAny_typeOf→BR,wpAny_callSpecial?_slot→BX,codeAny_builtin→BZ,wpAny_mono→B4,SetTable→Ci,wpAny_of_eq→Co,wpAny_passesOwn→Ct,wpAny_setState_of→CB,wpAny_rule→CH,wpAny_askSetting→CI,codeAny_mono→CJ,Scope→CN,wpAny_setEntries_of→CO,wpAny_Call_Name_kw→CV,wpAny_getItem_str_slice→CZ,wpAny_setField→C4,NameKind→C6,wpAny_call→Df,plainId_quiet→Di,wpAny_specialOf→Dp,Keyword→Dx,typeIs_str→DB,fits_of_scanBound→DK,wpAny_standAt→DM,wpAny_attempt→DN,call_meets→DU,IsPart→DY,wpAny_updateSeq→D1,wpAny_loadPart'→D2,wpAny_execs_nil→D3,post_val_or_str→D4,wpAny_runValue→Ec,wpAny_fieldsOf→Ed,sizeLine_eq→Ee,tupleKind_room_in1→Em,wpAny_pyIter_list→Ew,BindsTo→Ez,noFill_tuple_add→EB,Paired→ED,IsRangeIter→EJ,codeAny_of_tree→EK,isSubtype_type→EM,wpAny_newList→ET,seq_tuple_add→EU,evalPart_none→EV,concat_meets→E5,Str→E7,wpAny_field→Fb,seqIndex_of→Fc,Model→Fd,GenState→Ff,CmpOp→Fg
open List renaming length_map→Ab,getElem?_eq_getElem→Ai,length_append→An,size_toArray→Ao,mem_cons→Aq,map_append→Au,not_mem_nil→AB,length_take→AC,getElem?_eq_some_iff→AE,mem_cons_of_mem→AF,mem_cons_self→AH,getElem?_map→AI,getElem?_eq_none→AK,take_add_one→AN,mem_append_right→AR,all_eq_true→AU,range→AV,getD_eq_getElem?_getD→AW,take_length→AZ,length_cons→A0,mem_of_getElem?→A2,mem_append→A4,mem_map→A7,take_of_length_le→Be,map_cons→Bg,lookup_cons→Bl,getElem_mem→Bm,mem_singleton→Br,mem_range→BG,append_assoc→BU,map_map→B6,ext_getElem?→B7,eq_nil_of_length_eq_zero→Ce,nodup_cons→Ck,append_nil→Cm,pairwise_map→Cr,not_lt→Cu,drop_zero→Cv,filterMap_cons→CF,find?_cons→CL,nodup_append→CQ,length_range→CS,drop_eq_nil_of_le→CT,length_drop→C2,any_eq_true→C3,mem_append_left→C8,forIn_cons→Dd,getElem?_range→Dh,map_nil→Dk,pairwise_cons→Dn,length_eraseIdx_of_lt→Do,flatMap_cons→Dw,any_cons→Dz,all_cons→DA,le_antisymm→DE,getElem_inj→DF,all_map→DL,length_singleton→DQ,mem_iff_getElem→DT,take→DX,map_congr_left→D8,getElem_map→El,range'→Ep,range_succ→Et,of_mem_zip→Eu,lt_irrefl→EA,sum_cons→EI,map→ER,length→ES
open PySem.W renaming Frag→Ag,keepIn→Aj,codeIn→Ap,fnOf→Ar,kitOne→Bw,kia_one→Bz,kas_sort→Cg,findIn→Dg,methodObj→D9,instObj→Eg,lookIn→Eo,kas_tail3→EZ,kas_count→E2,kas_rev→E3,kas_descPart→E4,KasT→Fe
open PySem.Heap renaming get?_push_of_some→Ah,get?_push_size→Ax,lt_size→Az,get?_update_self→Bu,size_push→BH,get?_update_ne→BI,get?_update_other→BY,SameBut→CU
open Nat renaming le_refl→Ak,ne_of_lt→AJ,lt_of_lt_of_le→AS,le_trans→A3,zero_le→Bc,lt_succ_of_lt→Bh,lt_succ_self→BD,lt_irrefl→BO,ne_of_gt→B9,le_succ→Cz,toDigits→CC,le_of_lt→CD,lt_of_le_of_lt→CP,lt_trans→CW,le_of_eq→Eh,mod_lt→EE,sub_zero→EO,log2_lt→EY
open Sum renaming inr→Am,inl→D6
open PySem.PyData renaming keyHash→Av,str→Bk,shown→Dc,hasDictAll→Dt,depth→Eb,showable→Ek,strOk→EH
open Bool renaming false_ne_true→Aw,true_and→AY,and_eq_true→A9,eq_iff_iff→BB,false_and→Cy
open Or renaming inl→AG,inr→Dj
open PySem.Value renaming ref→AO,type→AX,str→Bp,int→Bs,none→BS,isStrOf_shape→DV,isStrOf→D5,bool→EW
open Array renaming length_toList→A1,getD_eq_getD_getElem?→Bd,getElem?_eq_getElem→BJ,toList_inj→CA,getElem?_eq_none→DJ
open PySem.Str renaming ofString→A5,join→B1,empty→D7,length_append→Ef
open PySem.NameKind renaming free→Ba,cell→CY
open PySem.SetTable renaming fresh→Bb,grown→Cp,below→CM
open PySem.Obj renaming mapSeq→Bf,data_mapFields→B2,isFreed_of_fields→C1,putSet→E8
open PySem.F renaming plainAttrs_list→Bj,type_list_append→BK,slot_list_append→BL,called_set→BQ,type_list_extend→Dq,slot_list_extend→Dr,args_tuple_add_2→Ds,entry_tuple_add→Dv,slot_tuple_add→DC,plain_list_iadd→DG,slot_dict_get→DH,args_str_split_2→Ei,entry_str_split→Er,slot_str_split→Ey
open Int renaming toNat_natCast→Bo,emod_lt_of_pos→B3,emod_nonneg→B8,toNat→Cq,le_refl→DZ,mul_nonneg→EF
open PyProof.Rows renaming slot_tuple_getitem→Bt,callWith_type1→Cb,SortKind→Dm,AllBare→Dy,Keyed→DD,IsTup→DR,listUpdate_at→Ej,assignInOrder_cons→En,SortSt→EC,Subscript_→EN,StrsAre→E6,IntsAre→E9
open Option renaming some→By,map_eq_some_iff→Cd
open PySem.Heap.SameBut renaming update→BC
open PySem.Around renaming under_plainId→BM
open PySem.PassesOwn renaming never→BN
open False renaming elim→BV
open PySem.Data renaming set→BW,seq→Da,fields→Es
open ForInStep renaming yield→B0
open PySem.Builtin.Frozenset renaming updateFrom→B5
open PySem.W.KIN renaming signs_num→Ca
open PySem.Builtin.List renaming listExtendWith→Cc,listItems→CG,listTooLong→De,listUpdate→Dl
open True renaming intro→Cf
open PyProof.Rows.F renaming plain_set_update_loop→Cj
open PySem.Builtin.Slice renaming slicePlaces→Cn,sliceAdjust→C7
open PySem.Builtin.Tuple renaming tupleExact→Cs
open PySem.Builtin.Range renaming rangeSize→Cw
open PySem.Txt renaming join→CK,slice→C5,slice_le→DO,split→EL
open Ne renaming symm→C0
open List.Pairwise renaming nil→C9
open PySem.Shared renaming TypeIs→Du
open List.Perm renaming refl→DI
open PySem.SeqAt.EqAt renaming str_str→DP
open PySem.Builtin.Str renaming glued→DS
open PySem.Paired renaming length→DW
open Decidable renaming em→D0
open PySem.Calls renaming spliced_cons→Ea
open PySem.SeqAt renaming EqAt→Ex
open PySem.Walks renaming toS→EG
open PUnit renaming unit→EX
open Prod renaming ext→Fh
open PySem.Flow renaming ret→Fi
theorem Ia{c:Prop}{h:Decidable c}(n:¬c){α:Sort u}{t e:α}:ite c t e=e:=if_neg n
theorem Ib{c:Prop}{h:Decidable c}(n:c){α:Sort u}{t e:α}:ite c t e=t:=if_pos n
theorem Ic{p:Prop}[s:Decidable p](h:p):decide p=true:=decide_eq_true h
theorem Ie{p:Prop}[s:Decidable p](h:decide p=true):p:=of_decide_eq_true h
theorem Ig{α:Sort u}{β:Sort v}{γ:Sort w}{f:α→β→γ}:∀a b,f a b=f a b:=fun _ _=>rfl
abbrev Ih:=List (PySem.Addr×PySem.Obj)
namespace L2
open PySem PySem.Spec PyProof.Rows
inductive Ex3{α β γ:Type}(p:α→β→γ→Prop):Prop
 | mk (a:α) (b:β) (c:γ) (h:p a b c):Ex3 p
inductive Aw3(a b c:Prop):Prop
 | mk (h:a) (i:b) (j:c):Aw3 a b c
inductive Aw6(a b c d e f:Prop):Prop
 | mk (h:a) (i:b) (j:c) (k:d) (l:e) (m:f):Aw6 a b c d e f
theorem e7{α:Type}{q:List α}(h:q.length=1):∃ z,q=[z]:=by
 cases q with
 | nil=>simp at h
 | cons z B=>
  cases B with
  | nil=>exact⟨z,rfl⟩
  | cons _ _=>simp at h
theorem aCs{α:Type}{q:List α}(h:q.length=2):∃ z a1,q=[z,a1]:=by
 cases q with
 | nil=>simp at h
 | cons z B=>
  cases B with
  | nil=>simp at h
  | cons a1 F=>
   cases F with
   | nil=>exact⟨z,a1,rfl⟩
   | cons _ _=>simp at h
theorem y8{α:Type}{q:List α}(h:q.length=3):∃ z a1 a2,q=[z,a1,a2]:=by
 cases q with
 | nil=>simp at h
 | cons z F=>
  cases F with
  | nil=>simp at h
  | cons a1 J=>
   cases J with
   | nil=>simp at h
   | cons a2 B=>
    cases B with
    | nil=>exact⟨z,a1,a2,rfl⟩
    | cons _ _=>simp at h
theorem aHZ{α:Type}{q:List α}(h:q.length=4):∃ z a1 a2 a3,q=[z,a1,a2,a3]:=by
 cases q with
 | nil=>simp at h
 | cons z J=>
  cases J with
  | nil=>simp at h
  | cons a1 M=>
   cases M with
   | nil=>simp at h
   | cons a2 B=>
    cases B with
    | nil=>simp at h
    | cons a3 F=>
     cases F with
     | nil=>exact⟨z,a1,a2,a3,rfl⟩
     | cons _ _=>simp at h
theorem aH0{α:Type}{q:List α}(h:q.length=5):∃ z a1 a2 a3 a4,q=[z,a1,a2,a3,a4]:=by
 cases q with
 | nil=>simp at h
 | cons z M=>
  cases M with
  | nil=>simp at h
  | cons a1 O=>
   cases O with
   | nil=>simp at h
   | cons a2 B=>
    cases B with
    | nil=>simp at h
    | cons a3 F=>
     cases F with
     | nil=>simp at h
     | cons a4 J=>
      cases J with
      | nil=>exact⟨z,a1,a2,a3,a4,rfl⟩
      | cons _ _=>simp at h
abbrev Key:=Sum Int Str
def qF:Key→Ac→Bool
 | .inl k,v=>Value.isInt k v
 | .inr x,v=>D5 x v
def aFX(w:AQ):Key→Int
 | .inl k=>hashInt k
 | .inr x=>hashStr w x
theorem dY:∀{k:Key}{v:Ac},qF k v=true→(∃ i t,k=D6 i∧v=Bs i t)∨(∃ x t,k=Am x∧v=Bp x t)
 | .inl i,v,h=>by
  obtain⟨t,e⟩:=Value.isInt_shape (k:=i) (v:=v) h;exact .inl ⟨i,t,rfl,e⟩
 | .inr x,v,h=>by
  obtain⟨t,e⟩:=DV (x:=x) (v:=v) h;exact .inr ⟨x,t,rfl,e⟩
theorem aBy(i:Int)(t:Tok):qF (.inl i) (.int i t)=true:=by simp[qF,Value.isInt]
theorem aBz(x:Str)(t:Tok):qF (.inr x) (.str x t)=true:=by simp[qF,D5]
theorem aFY(a b:Int):decide ((D6 a:Key)=D6 b)=(a == b):=by
 by_cases e:a=b
 ·subst e;simp
 ·have h:¬ (D6 a:Key)=D6 b:=fun q=>e (D6.inj q);rw[decide_eq_false h];exact(beq_eq_false_iff_ne.mpr e).symm
theorem aFZ(a b:Str):decide ((Am a:Key)=Am b)=decide (a=b):=by
 by_cases e:a=b
 ·subst e;simp
 ·have h:¬ (Am a:Key)=Am b:=fun q=>e (Am.inj q);rw[decide_eq_false h,decide_eq_false e]
theorem aF8(a:Int)(b:Str):decide ((D6 a:Key)=Am b)=false:=decide_eq_false (fun q=>nomatch q)
theorem aF9(a:Str)(b:Int):decide ((Am a:Key)=D6 b)=false:=decide_eq_false (fun q=>nomatch q)
def cJ(prog:Ay)(w:AQ):PySem.KeyKind prog w Key where
 is:=qF
 hash:=aFX w
 inj:=fun v a b ha hb=>by
  rcases dY ha with⟨i,t,rfl,rfl⟩ | ⟨x,t,rfl,rfl⟩
  ·rcases dY hb with⟨j,u,rfl,e⟩ | ⟨y,u,rfl,e⟩
   ·injection e with e1 _;rw[e1]
   ·exact nomatch e
  ·rcases dY hb with⟨j,u,rfl,e⟩ | ⟨y,u,rfl,e⟩
   ·exact nomatch e
   ·injection e with e1 _;rw[e1]
 byValue:=fun k v h=>by
  rcases dY h with⟨i,t,rfl,rfl⟩ | ⟨x,t,rfl,rfl⟩ <;> rfl
 pyHash:=fun hv h=>by
  rcases dY hv with⟨i,t,rfl,rfl⟩ | ⟨x,t,rfl,rfl⟩
  ·exact wpAny_pyHash_int h
  ·exact wpAny_pyHash_str h
 eqBool:=fun hu hv h=>by
  rcases dY hu with⟨i,t,rfl,rfl⟩ | ⟨x,t,rfl,rfl⟩
  ·rcases dY hv with⟨j,u,rfl,rfl⟩ | ⟨y,u,rfl,rfl⟩
   ·rw[aFY]at h;exact wpAny_eqBool_int h
   ·rw[aF8]at h;exact SeqAt.EqAt.int_str i t y u _ _ _ _ h
  ·rcases dY hv with⟨j,u,rfl,rfl⟩ | ⟨y,u,rfl,rfl⟩
   ·rw[aF9]at h;exact SeqAt.EqAt.str_int x t j u _ _ _ _ h
   ·rw[aFZ]at h;exact wpAny_eqBool_str h
 «strs»:=fun k x t v h=>by
  rcases dY h with⟨i,u,rfl,e⟩ | ⟨y,u,rfl,e⟩
  ·exact nomatch e
  ·injection e with e1 _;subst e1;cases v <;> rfl
theorem wH(prog:Ay)(w:AQ)(i:Int)(t:Tok):(cJ prog w).is (.inl i) (.int i t)=true:=aBy i t
theorem wI(prog:Ay)(w:AQ)(x:Str)(t:Tok):(cJ prog w).is (.inr x) (.str x t)=true:=aBz x t
inductive V where
 | non | bl (b:Bool) | int (i:Int) | str (x:Str) | byt (b:Array UInt8) | flt (b:UInt64) | ref (a:Ae) | ty (n:String)
 deriving DecidableEq
def cQ:V→Ac→Prop
 | .non,u=>u=BS
 | .bl b,u=>u=EW b
 | .int i,u=>∃ t,u=Bs i t
 | .str x,u=>∃ t,u=Bp x t
 | .byt b,u=>∃ t,u=Value.bytes b t
 | .flt b,u=>∃ t,u=Value.float b t
 | .ref a,u=>u=AO a
 | .ty n,u=>u=AX n
abbrev cE:List V→List Ac→Prop:=ED cQ
theorem cE.length{xs:List V}{q:List Ac}(r:cE xs q):xs.length=q.length:=DW r
theorem cE.get:∀{xs:List V}{q:List Ac}{i:Nat}{x:V},cE xs q→xs[i]?=some x→∃ u,q[i]?=some u∧cQ x u
 | _,_,_,_,.nil,e=>by simp at e
 | _,_,0,_,.cons r _,e=>by simp at e;subst e;exact⟨_,rfl,r⟩
 | _,_,i + 1,x,.cons _ t,e=>by
  obtain⟨u,h1,h2⟩:=cE.get (i:=i) (x:=x) t (by simpa using e);exact⟨u,by simpa using h1,h2⟩
theorem cE.set{x:V}{u:Ac}(r:cQ x u):∀{xs:List V}{z:List Ac} (i:Nat),cE xs z→cE (xs.set i x) (z.set i u)
 | _,_,_,.nil=>.nil
 | _,_,0,.cons _ t=>.cons r t
 | _,_,i + 1,.cons q t=>.cons q (cE.set r i t)
theorem cE.append:∀{xs ys:List V}{q z:List Ac},cE xs q→cE ys z→cE (xs ++ ys) (q ++ z)
 | _,_,_,_,.nil,s=>s
 | _,_,_,_,.cons r t,s=>.cons r (cE.append t s)
theorem cE.take:∀{xs:List V}{q:List Ac} (n:Nat),cE xs q→cE (xs.take n) (q.take n)
 | _,_,0,_=>.nil
 | _,_,_ + 1,.nil=>.nil
 | _,_,n + 1,.cons r t=>.cons r (cE.take n t)
theorem cE.drop:∀{xs:List V}{q:List Ac} (n:Nat),cE xs q→cE (xs.drop n) (q.drop n)
 | _,_,0,r=>r
 | _,_,_ + 1,.nil=>.nil
 | _,_,n + 1,.cons _ t=>cE.drop n t
def m7:Option V→Option Ac→Prop
 | some v,some u=>cQ v u
 | none,none=>True
 | _,_=>False
def KV{κ:Type}:List (κ×V)→List (κ×Ac)→Prop:=ED fun(p:κ×V) (q:κ×Ac)=>p.1=q.1∧cQ p.2 q.2
def kV:Key→V
 | .inl i=>.int i
 | .inr x=>.str x
inductive HO where
  | lst (xs:List V)
  | tup (xs:List V)
  | dK (de:List (Key×V)) | dT (de:List (List Key×V))
  | set (S:Int→Bool) (n:Nat)
  | ins (C dx:Ae) (fs:List (Str×V))
  | own (x:Ae)
  | xd (fs:List (Str×V))
  | met (f x:Ae)
  | rng (lo hi:Int)
  | frz (o:Obj) (u:HO)
  | tbl (ps:Array Ac)
  | ext (φ:A8→Prop)
abbrev Hp:=Ae→Option HO
def upd(H:Hp)(a:Ae)(o:HO):Hp:=fun b=>if b=a then some o else H b
theorem aJ{H:Hp}{a:Ae}{o:HO}:upd H a o a=some o:=by unfold upd;rw[Ib rfl]
theorem bU{H:Hp}{a b:Ae}{o:HO}(h:b≠a):upd H a o b=H b:=by unfold upd;rw[Ia h]
theorem aAq{H:Hp}{a:Ae}{o u:HO}:upd (upd H a o) a u=upd H a u:=by
 funext b;unfold upd;split <;> rfl
theorem aCt{H:Hp}{a b:Ae}{o u:HO}(h:H a=some o)(h':H b=some u)(d:o≠u):a≠b:=by
 intro e;subst e;rw[h]at h';exact d (By.inj h')
theorem bF{H:Hp}{a b:Ae}{o:HO}(h:H a=some o)(h':H b=none):a≠b:=by
 intro e;subst e;rw[h]at h';cases h'
section
variable(P:Ay)(w:AQ)
def kW(h:A8)(a:Ae)(items:Array Ac):Prop:=∃ o,h.get? a=some o∧(o.cls=.type "tuple"∧∃ n,o.data=.seq items n)∧o.dict=none
theorem kW.tup{h:A8}{a:Ae}{items:Array Ac}(x:kW h a items):DR h a items:=by
 obtain⟨o,e,c,_⟩:=x;exact⟨o,e,c⟩
instance kW.coe{h:A8}{a:Ae}{items:Array Ac}:Coe (kW h a items) (DR h a items):=⟨kW.tup⟩
theorem kW.lt{h:A8}{a:Ae}{items:Array Ac}(x:kW h a items):a < h.objs.size:=x.tup.lt
def dB(H:Hp)(h:A8)(a:Ae):HO→Prop
 | .lst xs=>xs.length≤sizeLine∧∃(its:List Ac) (n:Nat),cE xs its∧h.get? a=some { cls:=.type "list",data:=.seq its.toArray n }
 | .tup xs=>xs.length≤sizeLine∧∃ its:List Ac,cE xs its∧kW h a its.toArray
 | .dK de=>de.length≤sizeLine∧(a == sysModules)=false∧∃ vs,KV de vs∧h.DictOf (cJ P w) a vs
 | .dT de=>de.length≤sizeLine∧(a == sysModules)=false∧∃ xs:List (List Key×Ae×Ac),
   ED (fun(p:List Key×V) (q:List Key×Ae×Ac)=>p.1=q.1∧H q.2.1=some (.tup (p.1.map kV))∧cQ p.2 q.2.2) de xs∧
   ∃ o es ep,h.get? a=some o∧o.ExactDict∧o.data=.dict es ep∧es.toList=xs.map (entryOfKey (tupleKind (cJ P w)))∧(xs.map (·.1)).Nodup
 | .set S n=>h.SetOf (intKind P w) a S n
 | .ins C dx fs=>H dx=some (.own a)∧fs.length≤1000∧dx≠a∧h.get? a=some (Eg C dx)∧
   ∃ mA,h.Ns1 dx mA∧(∀ f,m7 (fs.lookup f) (mA f))∧PySem.Within mA (fs.map (·.1))
 | .own _=>∃ o,h.get? a=some o
 | .xd fs=>∃ mA,h.Ns1 a mA∧∀ f,m7 (fs.lookup f) (mA f)
 | .rng lo hi=>∃ t u v,h.get? a=some { cls:=.type "range",data:=.fields #[.int lo t,.int hi u,.int 1 v] }
 | .frz o u=>h.get? a=some o∧dB H h a u
 | .tbl ps=>h.get? a=some { cls:=.none,data:=.fields ps }
 | .met f x=>h.get? a=some (D9 (.ref f) (.ref x))
 | .ext φ=>φ h∧(∃ o,h.get? a=some o)∧∀ h1 h2:A8,φ h1→(∀ o,h1.get? a=some o→h2.get? a=some o)→φ h2
def HOk(H:Hp)(h:A8):Prop:=∀ a o,H a=some o→dB P w H h a o
end
section
variable{P:Ay}{w:AQ}{H H':Hp}{h h':A8}{a:Ae}{o:HO}
theorem dB.lt(x:dB P w H h a o):a < h.objs.size:=by
 cases o with
 | lst xs=>obtain⟨_,_,_,_,e⟩:=x;exact Az e
 | tup xs=>obtain⟨_,_,_,p⟩:=x;exact p.lt
 | dK de=>obtain⟨_,_,_,_,o,_,_,e,_⟩:=x;exact Az e
 | dT de=>obtain⟨_,_,_,_,o,_,_,e,_⟩:=x;exact Az e
 | set S n=>obtain⟨o,_,_,_,e,_⟩:=x;exact Az e
 | ins C dx fs=>obtain⟨_,_,_,e,_⟩:=x;exact Az e
 | own y=>obtain⟨_,e⟩:=x;exact Az e
 | xd fs=>obtain⟨_,⟨_,_,_,e,_⟩,_⟩:=x;exact Az e
 | rng lo hi=>obtain⟨_,_,_,e⟩:=x;exact Az e
 | frz ob u=>obtain⟨e,_⟩:=x;exact Az e
 | tbl ps=>exact Az (show h.get? a=some _ from x)
 | met f y=>exact Az (show h.get? a=some _ from x)
 | ext φ=>obtain⟨_,⟨_,e⟩,_⟩:=x;exact Az e
theorem Paired.mapP{α β:Type}{F G:α→β→Prop}:∀{q:List α}{z:List β},ED F q z→(∀ a b,F a b→G a b)→ED G q z
 | _,_,.nil,_=>.nil
 | _,_,.cons r t,f=>.cons (f _ _ r) (Paired.mapP t f)
theorem dB.stay(x:dB P w H h a o)(k:∀ b u,(b=a∨H b=some (.own a))→h.get? b=some u→h'.get? b=some u)
  (F:∀ b,H b=some (.own a)→H' b=some (.own a)) (ht:∀ b xs,H b=some (.tup xs)→H' b=some (.tup xs)):dB P w H' h' a o:=by
 induction o with
 | lst xs=>obtain⟨z,its,n,r,e⟩:=x;exact⟨z,its,n,r,k _ _ (.inl rfl) e⟩
 | tup xs=>obtain⟨z,its,r,ob,e,c⟩:=x;exact⟨z,its,r,ob,k _ _ (.inl rfl) e,c⟩
 | dK de=>obtain⟨z,y,vs,r,ob,es,ep,e,c⟩:=x;exact⟨z,y,vs,r,ob,es,ep,k _ _ (.inl rfl) e,c⟩
 | dT de=>
  obtain⟨z,y,xs,r,ob,es,ep,e,c⟩:=x;exact⟨z,y,xs,Paired.mapP r fun p q z=>⟨z.1,ht _ _ z.2.1,z.2.2⟩,ob,es,ep,k _ _ (.inl rfl) e,c⟩
 | set S n=>obtain⟨ob,es,ep,t,e,c⟩:=x;exact⟨ob,es,ep,t,k _ _ (.inl rfl) e,c⟩
 | ins C dx fs=>
  obtain⟨d,z,ne,e,mA,⟨od,es,ep,e2,c⟩,r⟩:=x;exact⟨F _ d,z,ne,k _ _ (.inl rfl) e,mA,⟨od,es,ep,k _ _ (.inr d) e2,c⟩,r⟩
 | own y=>obtain⟨ob,e⟩:=x;exact⟨ob,k _ _ (.inl rfl) e⟩
 | xd fs=>obtain⟨mA,⟨od,es,ep,e,c⟩,r⟩:=x;exact⟨mA,⟨od,es,ep,k _ _ (.inl rfl) e,c⟩,r⟩
 | rng lo hi=>obtain⟨t,u,v,e⟩:=x;exact⟨t,u,v,k _ _ (.inl rfl) e⟩
 | frz ob u B=>obtain⟨e,q⟩:=x;exact⟨k _ _ (.inl rfl) e,B q⟩
 | tbl ps=>
  have e:h.get? a=some { cls:=.none,data:=.fields ps }:=x;show h'.get? a=some { cls:=.none,data:=.fields ps };exact k a _ (.inl rfl) e
 | met f y=>
  have e:h.get? a=some (D9 (.ref f) (.ref y)):=x;show h'.get? a=some (D9 (.ref f) (.ref y));exact k a _ (.inl rfl) e
 | ext φ=>obtain⟨p,⟨o,e⟩,st⟩:=x;exact⟨st _ _ p fun o q=>k _ _ (.inl rfl) q,⟨o,k _ _ (.inl rfl) e⟩,st⟩
theorem HOk.lt(x:HOk P w H h)(e:H a=some o):a < h.objs.size:=(x a o e).lt
theorem HOk.fresh(x:HOk P w H h)(e:h.objs.size≤a):H a=none:=by
 cases q:H a with
 | none=>rfl
 | some u=>exact absurd (AS (x.lt q) e) (BO _)
theorem HOk.kept(x:HOk P w H h)(k:∀ b u,h.get? b=some u→h'.get? b=some u):HOk P w H h':=fun a o e=>
 (x a o e).stay (fun b u _ q=>k b u q) (fun _ q=>q) fun _ _ q=>q
theorem HOk.laid(x:HOk P w H h)(k:∀ b u,h.get? b=some u→h'.get? b=some u)(B:h.objs.size≤a)(new:dB P w (upd H a o) h' a o):HOk P w (upd H a o) h':=fun b u e=>by
 have hn:=x.fresh B;by_cases z:b=a
 ·subst z;rw[aJ]at e;cases e;exact new
 ·rw[bU z]at e;exact(x b u e).stay (fun c v _ q=>k c v q) (fun c q=>by rw[bU (bF q hn)];exact q) fun c xs q=>by rw[bU (bF q hn)];exact q
end
def Rd(H:Hp)(a:Ae)(u:HO):Prop:=H a=some u∨∃ o,H a=some (.frz o u)
theorem Rd.ok{P:Ay}{w:AQ}{H:Hp}{h:A8}{a:Ae}{u:HO}(r:Rd H a u)(x:HOk P w H h):dB P w H h a u:=by
 rcases r with r | ⟨o,r⟩
 ·exact x a u r
 ·obtain⟨_,q⟩:=x a _ r;exact q
def Mut:Option HO→Prop
 | some (.lst _)=>True
 | some (.dK _)=>True
 | some (.dT _)=>True
 | some (.set _ _)=>True
 | some (.ins _ _ _)=>True
 | some (.ext _)=>True
 | _=>False
section
variable{P:Ay}{w:AQ}{H:Hp}{h h':A8}{x e:Ae}{o':HO}
theorem HOk.write(ok:HOk P w H h)(M:Mut (H x))(W:e=x∨H e=some (.own x))(k:∀ b u,b≠e→h.get? b=some u→h'.get? b=some u)(U:∃ u,h'.get? e=some u)
  (new:dB P w (upd H x o') h' x o'):HOk P w (upd H x o') h':=fun b u q=>by
 have F:∀ c y,H c=some (.own y)→c≠x:=fun c y r z=>by subst z;rw[r]at M;exact M
 have J:∀ c xs,H c=some (.tup xs)→c≠x:=fun c xs r z=>by subst z;rw[r]at M;exact M
 by_cases O:b=x
 ·subst O;rw[aJ]at q;cases q;exact new
 ·rw[bU O]at q;by_cases B:b=e
  ·have Y:H b=some (.own x):=by
    rcases W with z | z
    ·exact absurd (B.trans z) O
    ·rw[B];exact z
   rw[q]at Y;cases Y;obtain⟨v,hv⟩:=U;exact⟨v,by rw[B];exact hv⟩
  ·refine(ok b u q).stay (fun c v hc r=>k c v ?_ r) (fun c r=>by rw[bU (F c b r)];exact r) fun c xs r=>by rw[bU (J c xs r)];exact r
   rcases hc with rfl | hc
   ·exact B
   ·rintro rfl;rcases W with z | z
    ·exact F c b hc z
    ·rw[hc]at z;cases z;exact O rfl
end
structure Un(fs ex:List Ae)(H H':Hp)(h h':A8):Prop where
 keep:∀ b o,h.get? b=some o→H b=none→b ∉ fs→b ∉ ex→h'.get? b=some o
 slot:∀ b o,h.get? b=some o→H b=none→b∈fs→b ∉ ex→∃ sl,h'.get? b=some { o with slots:=sl }
 free:∀ b o,h.get? b=some o→H b=none→b ∉ ex→H' b=none
 there:∀ b o,h.get? b=some o→b ∉ ex→∃ o',h'.get? b=some o'
 tups:∀ b xs,H b=some (.tup xs)→H' b=some (.tup xs)
 frzs:∀ b o u,H b=some (.frz o u)→H' b=some (.frz o u)
 tbls:∀ b ps,H b=some (.tbl ps)→∃ more,H' b=some (.tbl (ps ++ more))
section
variable{fs fq ex ex':List Ae}{H H1 H2:Hp}{h h1 h2 h':A8}{a x e:Ae}{o:HO}
theorem Un.any(u:Un fs ex H H1 h h1){b:Ae}{ob:Obj}(q:h.get? b=some ob)(n:H b=none)(B:b ∉ ex):∃ F,h1.get? b=some { ob with slots:=F }:=by
 by_cases z:b∈fs
 ·exact u.slot b ob q n z B
 ·exact⟨ob.slots,u.keep b ob q n z B⟩
theorem Un.kept(k:∀ b u,h.get? b=some u→h'.get? b=some u):Un fs ex H H h h':=
 ⟨fun b ob q _ _ _=>k b ob q,fun b ob q _ _ _=>⟨ob.slots,k b ob q⟩,fun _ _ _ n _=>n,fun b ob q _=>⟨ob,k b ob q⟩,fun _ _ q=>q,fun _ _ _ q=>q,fun _ ps q=>⟨#[],by rw[q];simp⟩⟩
theorem Un.refl:Un fs ex H H h h:=Un.kept fun _ _ q=>q
theorem Un.laid(k:∀ b u,h.get? b=some u→h'.get? b=some u)(z:h.objs.size≤a)(hn:H a=none):Un fs ex H (upd H a o) h h' where
 keep:=fun b u q _ _ _=>k b u q
 slot:=fun b u q _ _ _=>⟨u.slots,k b u q⟩
 free:=fun b u q n _=>by rw[bU (AJ (AS (Az q) z))];exact n
 there:=fun b u q _=>⟨u,k b u q⟩
 tups:=fun b xs q=>by rw[bU (bF q hn)];exact q
 frzs:=fun b u xs q=>by rw[bU (bF q hn)];exact q
 tbls:=fun b ps q=>⟨#[],by rw[bU (bF q hn),q];simp⟩
theorem Un.write(F:Mut (H x))(U:e=x∨H e=some (.own x))(k:∀ b u,b≠e→h.get? b=some u→h'.get? b=some u)(J:∃ u,h'.get? e=some u):Un fs ex H (upd H x o) h h':=by
 have O:∀ b,H b=none→b≠x:=fun b n z=>by subst z;rw[n]at F;exact F
 have M:∀ b,H b=none→b≠e:=fun b n z=>by
  subst z;rcases U with r | r
  ·exact O b n r
  ·rw[n]at r;cases r
 have hm:∀ b u,H b=some u→¬ Mut (some u)→b≠x:=fun b u q nm z=>by subst z;rw[q]at F;exact nm F
 refine⟨fun b u q n _ _=>k b u (M b n) q,fun b u q n _ _=>⟨u.slots,k b u (M b n) q⟩,fun b u q n _=>by rw[bU (O b n)];exact n,fun b u q _=>?_,
  fun b xs q=>by rw[bU (hm b _ q fun z=>z)];exact q,fun b u xs q=>by rw[bU (hm b _ q fun z=>z)];exact q,fun b ps q=>⟨#[],by rw[bU (hm b _ q fun z=>z),q];simp⟩⟩
 by_cases B:b=e
 ·subst B;exact J
 ·exact⟨u,k b u B q⟩
end
def trk(h:A8)(H:Hp):List Ae:=(AV h.objs.size).filter fun a=>(H a).isSome
def vK(h:A8)(H:Hp):A8:=PySem.W.hideAll h (trk h H)
theorem aBA(h:A8)(H:Hp):(vK h H).objs.size=h.objs.size:=PySem.W.hideAll_size _ _
theorem aCu{h:A8}{H:Hp}{b:Ae}{o:Obj}(e:h.get? b=some o)(n:H b=none):(vK h H).get? b=some o:=
 PySem.W.hideAll_get _ e fun hm=>by
  have q:(H b).isSome=true:=(List.mem_filter.mp hm).2;rw[n]at q;simp at q
theorem aEB{h:A8}{H:Hp}{b:Ae}{o:Obj}(e:(vK h H).get? b=some o):h.get? b=some o∧H b=none:=by
 have B:h.get? b=some o:=PySem.W.of_hideAll (trk h H) e;refine⟨B,?_⟩;cases q:H b with
 | none=>rfl
 | some x=>
  have hm:b∈trk h H:=List.mem_filter.mpr ⟨BG.mpr (Az B),by simp[q]⟩;have z:(vK h H).get? b=none:=PySem.W.hideAll_none (trk h H) hm;rw[z]at e;cases e
def aEC(g h:A8)(L:Ae):List (Ae×Obj):=(AV h.objs.size).filterMap fun a=>if a=L∨(g.get? a).isSome=true then none else(h.get? a).map fun o=>(a,o)
def cS(g h:A8)(L d:Ae):List (Ae×Obj):=(aEC g h L).filter fun p=>decide (p.1≠d)
structure Mod(K:Ag)(mg:Str→Option Ac)(base:A8):Prop where
 kin:K.In base
 glob:base.Ns mainGlobals mg
 blt:∃ mb,base.Ns builtinsNs mb∧∀ x:Str,x≠"__name__"→mb x=bootBuiltins x
 nolimit:base.NoLimit
structure Cx where
 prog:Ay
 w:AQ
 K:Ag
 mg:Str→Option Ac
 base:A8
 A:AL
 N:List Str
 s₀:Ad
 H₀:Hp
 env:Env
 outer:List Env
 stack:List Env
 ex:List Ae
 fn:Str→Bool
 calm:Bool
 pn:List (Ae×Obj)
 xe:Ac→Ad→Prop
def frs(l:List Env):List Ae:=l.filterMap (·.frame)
abbrev Cx.fs(X:Cx):List Ae:=frs X.outer
def Vis(sc:CN)(x:Str):Prop:=sc.names.lookup x=some .local∨sc.names.lookup x=some .cell∨sc.names.lookup x=some .free
def Loc(sc:CN)(x:Str):Prop:=sc.names.lookup x=some .local∨sc.names.lookup x=some .cell
def aH1(env:Env)(h:A8)(m:Str→Option Ac)(x:Str)(u:Ac):Prop:=
 (env.kindOf x=some .local∧m x=some u)∨((env.kindOf x=some .cell∨env.kindOf x=some .free)∧∃ c,env.cells.lookup x=some c∧h.IsCell c (some u))
structure Cx.Ok(X:Cx):Prop where
 mod:Mod X.K X.mg X.base
 kind:X.env.scope.kind=.function
 glob:X.env.globals=mainGlobals
 blt:X.env.builtins=builtinsNs
 above:X.s₀.heap.objs.size≤X.env.locals
 inj:∀ x y c,X.env.cells.lookup x=some c→X.env.cells.lookup y=some c→x=y
 has:∀ x,(X.env.kindOf x=some .cell∨X.env.kindOf x=some .free)→∃ c,X.env.cells.lookup x=some c
 cab:∀ x c,X.fn x=true→X.env.cells.lookup x=some c→X.s₀.heap.objs.size≤c
 hd:X.calm=true→X.A.handled=none
 frames:X.A.frames=some X.stack
 stk:X.stack=X.outer∨(X.stack=X.env :: X.outer∧X.env.frame=some X.env.locals)
 exf:∀ b∈X.ex,b≠X.env.locals∧∀ x c,X.env.cells.lookup x=some c→c≠b
 bs:∀ b o,X.base.get? b=some o→X.s₀.heap.get? b=some o∧X.H₀ b=none
 bsz:X.base.objs.size≤X.s₀.heap.objs.size
 noex:∀ b o,X.base.get? b=some o→b ∉ X.ex
 exfs:∀ b∈X.ex,b ∉ X.fs
 funs:X.s₀.heap.FunFrames X.base X.outer
 frf:∀ b∈X.fs,X.H₀ b=none
structure Inv(X:Cx)(bd:List (Ae×Obj))(σ:List (Option V))(H:Hp)(s:Ad):Prop where
 ok:X.Ok
 os:s.os=X.s₀.os
 bare:Dy s.gens
 base:Un X.fs X.ex X.H₀ H X.s₀.heap s.heap
 loc:∃ m,s.heap.Ns X.env.locals m∧∀(i:Nat) (x:Str) (v:V),X.N[i]?=some x→σ[i]?=some (some v)→Vis X.env.scope x→∃ u,cQ v u∧aH1 X.env s.heap m x u
 cell:∀ x c,X.env.cells.lookup x=some c→∃ v,s.heap.IsCell c v
 free:H X.env.locals=none
 freeC:∀ x c,X.env.cells.lookup x=some c→H c=none
 pin:∀ p∈X.pn ++ bd,s.heap.get? p.1=some p.2∧H p.1=none∧p.1≠X.env.locals∧p.1 ∉ X.fs∧∀ v,p.2.data≠.cell v
 hok:HOk X.prog X.w H s.heap
 len:σ.length=X.N.length
section
variable{X:Cx}{bd:List (Ae×Obj)}{σ:List (Option V)}{H H':Hp}{s:Ad}{h':A8}
theorem Cx.Ok.nofr(ok:X.Ok){b:Ae}{o:Obj}(e:X.base.get? b=some o):b ∉ X.fs:=fun q=>by
 have:=(ok.funs.mem q).1;rw[e]at this;cases this
theorem Inv.bs(I:Inv X bd σ H s):∀ b o,X.base.get? b=some o→s.heap.get? b=some o∧H b=none:=fun b o e=>
 ⟨I.base.keep b o (I.ok.bs b o e).1 (I.ok.bs b o e).2 (I.ok.nofr e) (I.ok.noex b o e),I.base.free b o (I.ok.bs b o e).1 (I.ok.bs b o e).2 (I.ok.noex b o e)⟩
theorem Inv.bk(I:Inv X bd σ H s):∀ b o,X.base.get? b=some o→s.heap.get? b=some o:=fun b o e=>(I.bs b o e).1
theorem Inv.mod(I:Inv X bd σ H s):Mod X.K X.mg X.base:=I.ok.mod
theorem Inv.kIn(I:Inv X bd σ H s):X.K.In s.heap:=I.ok.mod.kin.keeps I.bk
theorem Inv.lt(I:Inv X bd σ H s):X.env.locals < s.heap.objs.size:=let ⟨_,hn,_⟩:=I.loc;hn.lt
theorem Inv.sz(I:Inv X bd σ H s):X.s₀.heap.objs.size≤s.heap.objs.size:=A3 I.ok.above (CD I.lt)
theorem Inv.nofs(I:Inv X bd σ H s){a:Ae}(h:s.heap.objs.size≤a):a ∉ X.fs:=fun q=>by
 obtain⟨_,o,ho,_⟩:=I.ok.funs.mem q;exact absurd (AS (Az ho) (A3 I.sz h)) (BO _)
theorem Inv.cne(I:Inv X bd σ H s):∀ x c,X.env.cells.lookup x=some c→c≠X.env.locals:=fun x c e z=>by
 obtain⟨v,o,ho,hd⟩:=I.cell x c e;obtain⟨m,⟨o',es,ep,ho',hd',_⟩,_⟩:=I.loc;rw[z,ho']at ho;cases ho;rw[hd']at hd;cases hd
theorem Inv.funs(I:Inv X bd σ H s):s.heap.FunFrames X.base X.outer:=by
 have all:∀(l:List Env),(∀ b∈frs l,b∈X.fs)→X.s₀.heap.FunFrames X.base l→s.heap.FunFrames X.base l:=by
  intro l
  induction l with
  | nil=>intro _ _;trivial
  | cons env r J=>
   intro F M;obtain⟨hk,⟨L,o,hf,hn,ho,hd⟩,hr⟩:=M;have q:L∈X.fs:=F L (by unfold frs;rw[CF,hf];exact AH);obtain⟨sl,e⟩:=I.base.slot L o ho (I.ok.frf L q) q fun z=>I.ok.exfs L z q;exact⟨hk,⟨L,_,hf,hn,e,hd⟩,J (fun b B=>F b (by unfold frs;rw[CF,hf];exact AF _ B)) hr⟩
 exact all X.outer (fun _ B=>B) I.ok.funs
theorem Inv.stack(I:Inv X bd σ H s):s.heap.FunFrames X.base X.stack:=by
 rcases I.ok.stk with e | ⟨e,q⟩
 ·rw[e];exact I.funs
 ·rw[e];obtain⟨m,hn,_⟩:=I.loc;refine .cons (by rw[I.ok.kind];decide) q hn ?_ I.funs;exact Heap.get?_none_of_le (A3 I.ok.bsz I.ok.above)
theorem Inv.stkSub(I:Inv X bd σ H s):∀ b∈frs X.stack,b∈X.env.locals :: X.fs:=fun b q=>by
 rcases I.ok.stk with e | ⟨e,z⟩
 ·rw[e]at q;exact AF _ q
 ·rw[e]at q;unfold frs at q;rw[CF,z]at q;exact q
theorem Inv.stkFree(I:Inv X bd σ H s):∀ b∈frs X.stack,H b=none:=fun b q=>by
 rcases Aq.mp (I.stkSub b q)with e | q
 ·rw[e];exact I.free
 ·obtain⟨_,o,ho,_⟩:=I.ok.funs.mem q;exact I.base.free b o ho (I.ok.frf b q) fun z=>I.ok.exfs b z q
theorem Inv.step{g':Array Ff}{t':Nat}{d':Drawn}{ch:List Ae}(I:Inv X bd σ H s)
  (M:∀ b∈ch,(b∈X.ex∨X.s₀.heap.objs.size≤b)∧b≠X.env.locals∧(∀ x c,X.env.cells.lookup x=some c→c≠b)∧∀ p∈X.pn ++ bd,p.1≠b)
  (keep:∀ b o,b≠X.env.locals→b ∉ X.fs→b ∉ ch→s.heap.get? b=some o→H b=none→h'.get? b=some o)
  (slot:∀ b o,b≠X.env.locals→b∈X.fs→b ∉ ch→s.heap.get? b=some o→H b=none→∃ sl,h'.get? b=some { o with slots:=sl }) (free:∀ b o,b ∉ ch→s.heap.get? b=some o→H b=none→H' b=none)
  (there:∀ b o,b ∉ ch→s.heap.get? b=some o→∃ o',h'.get? b=some o')
  (tups:∀ b xs,H b=some (.tup xs)→H' b=some (.tup xs)) (frzs:∀ b o u,H b=some (.frz o u)→H' b=some (.frz o u)) (tbls:∀ b ps,H b=some (.tbl ps)→∃ Z,H' b=some (.tbl (ps ++ Z)))
  (ns:∀ m,s.heap.Ns X.env.locals m→h'.Ns X.env.locals m) (hok:HOk X.prog X.w H' h') (hg:Dy g'):
  Inv X bd σ H' { s with heap:=h',gens:=g',drawn:=d',toks:=t' }:=by
 have aa:∀ b o,X.s₀.heap.get? b=some o→b≠X.env.locals:=fun b o e=>AJ (AS (Az e) I.ok.above);have U:∀ b o,X.s₀.heap.get? b=some o→b ∉ X.ex→b ∉ ch:=fun b o e B W=>by
  rcases(M b W).1 with z | z
  ·exact B z
  ·exact absurd (AS (Az e) z) (BO _)
 have J:∀ x c,X.env.cells.lookup x=some c→∀ v,s.heap.IsCell c v→h'.IsCell c v:=fun x c e v ⟨o,Y,hd⟩=>by
  have F:c ∉ ch:=fun z=>(M c z).2.2.1 x c e rfl;by_cases hc:c∈X.fs
  ·obtain⟨sl,q⟩:=slot c o (I.cne x c e) hc F Y (I.freeC x c e);exact⟨_,q,hd⟩
  ·exact⟨o,keep c o (I.cne x c e) hc F Y (I.freeC x c e),hd⟩
 refine⟨I.ok,I.os,hg,⟨fun b o e n W B=>?_,fun b o e n W B=>?_,fun b o e n B=>?_,fun b o e B=>?_,fun b xs e=>tups b xs (I.base.tups b xs e),fun b o xs e=>frzs b o xs (I.base.frzs b o xs e),fun b ps e=>?_⟩,?_,fun x c e=>?_,?_,fun x c e=>?_,fun p hp=>?_,hok,I.len⟩
 ·exact keep b o (aa b o e) W (U b o e B) (I.base.keep b o e n W B) (I.base.free b o e n B)
 ·obtain⟨sl,O⟩:=I.base.slot b o e n W B;obtain⟨sl',e2⟩:=slot b _ (aa b o e) W (U b o e B) O (I.base.free b o e n B);exact⟨sl',e2⟩
 ·obtain⟨o',O⟩:=I.base.there b o e B;exact free b o' (U b o e B) O (I.base.free b o e n B)
 ·obtain⟨o',O⟩:=I.base.there b o e B;exact there b o' (U b o e B) O
 ·obtain⟨m1,O⟩:=I.base.tbls b ps e;obtain⟨m2,e2⟩:=tbls b _ O;exact⟨m1 ++ m2,by rw[e2,Array.append_assoc]⟩
 ·obtain⟨m,hn,hl⟩:=I.loc;refine⟨m,ns m hn,fun i x v O e2 e3=>?_⟩;obtain⟨u,r,l⟩:=hl i x v O e2 e3;refine⟨u,r,?_⟩;rcases l with l | ⟨k,c,e,z⟩
  ·exact .inl l
  ·exact .inr ⟨k,c,e,J x c e _ z⟩
 ·obtain⟨v,z⟩:=I.cell x c e;exact⟨v,J x c e v z⟩
 ·obtain⟨m,⟨o,_,_,Y,_⟩,_⟩:=I.loc;exact free _ o (fun z=>(M _ z).2.1 rfl) Y I.free
 ·obtain⟨v,o,Y,hd⟩:=I.cell x c e;exact free c o (fun z=>(M c z).2.2.1 x c e rfl) Y (I.freeC x c e)
 ·obtain⟨e,n,ne,nf,d⟩:=I.pin p hp;have F:p.1 ∉ ch:=fun z=>(M p.1 z).2.2.2 p hp rfl;exact⟨keep p.1 p.2 ne nf F e n,free p.1 p.2 F e n,ne,nf,d⟩
theorem Inv.un{t':Nat}(I:Inv X bd σ H s)(u:Un X.fs [] H H' s.heap h')(hok:HOk X.prog X.w H' h'):Inv X bd σ H' { s with heap:=h',toks:=t' }:=by
 obtain⟨m,⟨o,es,ep,ho,r⟩,_⟩:=id I.loc;obtain⟨sl,hL⟩:=u.any ho I.free (by simp);exact I.step (g':=s.gens) (d':=s.drawn) (ch:=[]) (fun _ z=>nomatch z) (fun b o _ q _ e n=>u.keep b o e n q (by simp)) (fun b o _ q _ e n=>u.slot b o e n q (by simp)) (fun b o _ e n=>u.free b o e n (by simp)) (fun b o _ e=>u.there b o e (by simp)) u.tups u.frzs u.tbls (fun B hm=>by
  obtain⟨o',es',ep',ho',r'⟩:=hm;rw[ho]at ho';cases ho';exact⟨_,es',ep',hL,r'⟩) hok I.bare
theorem Inv.call{g':Array Ff}{t':Nat}{d':Drawn}{ch:List Ae}(I:Inv X bd σ H s)(u:Un (frs X.stack) ch H H' s.heap h')(hok:HOk X.prog X.w H' h')(F:Dy g')
  (q:∀ b∈ch,(b∈X.ex∨X.s₀.heap.objs.size≤b)∧b≠X.env.locals∧(∀ x c,X.env.cells.lookup x=some c→c≠b)∧∀ p∈X.pn ++ bd,p.1≠b):
  Inv X bd σ H' { s with heap:=h',gens:=g',drawn:=d',toks:=t' }:=by
 obtain⟨m,⟨o,es,ep,ho,r⟩,_⟩:=id I.loc;obtain⟨sl,B⟩:=u.any ho I.free fun z=>(q _ z).2.1 rfl;exact I.step (ch:=ch) q (fun b o B J hc e n=>u.keep b o e n (fun z=>(Aq.mp (I.stkSub b z)).elim B J) hc) (fun b o _ _ hc e n=>u.any e n hc) (fun b o hc e n=>u.free b o e n hc) (fun b o hc e=>u.there b o e hc) u.tups u.frzs u.tbls (fun M hm=>by
  obtain⟨o',es',ep',ho',r'⟩:=hm;rw[ho]at ho';cases ho';exact⟨_,es',ep',B,r'⟩) hok F
theorem Inv.turned{t':Nat}{it:Ae}(I:Inv X bd σ H s)(k:∀ b o,b≠it→s.heap.get? b=some o→h'.get? b=some o)(hn:H it=none)(F:it≠X.env.locals)
  (h1:it∈X.ex∨X.s₀.heap.objs.size≤it) (h2:∀ x c,X.env.cells.lookup x=some c→c≠it) (M:∀ p∈X.pn ++ bd,p.1≠it):Inv X bd σ H { s with heap:=h',toks:=t' }:=by
 have B:∀ b u,H b=some u→b≠it:=fun b u e z=>by rw[z,hn]at e;cases e
 refine I.step (g':=s.gens) (d':=s.drawn) (ch:=[it]) (fun b J=>?_) (fun b o _ _ hc e _=>k b o (fun z=>hc (by simp[z])) e) (fun b o _ _ hc e _=>⟨o.slots,k b o (fun z=>hc (by simp[z])) e⟩) (fun _ _ _ _ n=>n)
  (fun b o hc e=>⟨o,k b o (fun z=>hc (by simp[z])) e⟩) (fun _ _ e=>e) (fun _ _ _ e=>e) (fun b ps e=>⟨#[],by rw[e];simp⟩) (fun m hm=>?_) (fun b u e=>?_) I.bare
 ·have e:b=it:=by simpa using J
  subst e;exact⟨h1,F,h2,M⟩
 ·obtain⟨o,es,ep,ho,r⟩:=hm;exact⟨o,es,ep,k _ o (C0 F) ho,r⟩
 ·refine(I.hok b u e).stay (fun c v hc q=>k c v ?_ q) (fun _ q=>q) fun _ _ q=>q;rcases hc with z | z
  ·rw[z];exact B b u e
  ·exact B c _ z
theorem Inv.tok(I:Inv X bd σ H s)(t:Nat):Inv X bd σ H { s with toks:=t }:=I.un (h':=s.heap) (t':=t) Un.refl I.hok
theorem Inv.kept{t':Nat}(I:Inv X bd σ H s)(k:∀ b u,s.heap.get? b=some u→h'.get? b=some u):Inv X bd σ H { s with heap:=h',toks:=t' }:=I.un (Un.kept k) (I.hok.kept k)
theorem Inv.laid{a:Ae}{o:HO}{t':Nat}(I:Inv X bd σ H s)(k:∀ b u,s.heap.get? b=some u→h'.get? b=some u)(q:s.heap.objs.size≤a)(new:dB X.prog X.w (upd H a o) h' a o):
  Inv X bd σ (upd H a o) { s with heap:=h',toks:=t' }:=I.un (Un.laid k q (I.hok.fresh q)) (I.hok.laid k q new)
theorem Inv.write{x e:Ae}{o:HO}{t':Nat}(I:Inv X bd σ H s)(z:Mut (H x))(B:e=x∨H e=some (.own x))(k:∀ b u,b≠e→s.heap.get? b=some u→h'.get? b=some u)(q:∃ u,h'.get? e=some u)
  (new:dB X.prog X.w (upd H x o) h' x o):Inv X bd σ (upd H x o) { s with heap:=h',toks:=t' }:=I.un (Un.write z B k q) (I.hok.write z B k q new)
theorem Inv.pins_of{q:List (Ae×Obj)}(I:Inv X bd σ H s)(h:∀ p∈q,s.heap.get? p.1=some p.2∧H p.1=none∧p.1≠X.env.locals∧p.1 ∉ X.fs∧∀ v,p.2.data≠.cell v):Inv X q σ H s:=
 ⟨I.ok,I.os,I.bare,I.base,I.loc,I.cell,I.free,I.freeC,fun p B=>(A4.mp B).elim (fun z=>I.pin p (C8 _ z)) (h p),I.hok,I.len⟩
theorem wJ{N:List Str}(hN:N.Nodup){i j:Nat}{x:Str}(a:N[i]?=some x)(b:N[j]?=some x):i=j:=by
 obtain⟨h1,e1⟩:=AE.mp a;obtain⟨h2,e2⟩:=AE.mp b;exact(DF hN).mp (e1.trans e2.symm)
theorem tZ{M:Fd}{A:AL}{E:Ac→Ad→Prop}{i:Nat}{x:Str}{v:V}{u:Ac}{Q:Unit→Ad→Prop}(I:Inv X bd σ H s)(hN:X.N.Nodup)(hi:X.N[i]?=some x)(O:Loc X.env.scope x)(r:cQ v u)
  (h:∀ s',Inv X bd (σ.set i (some v)) H s'→(∃ a,CU a s.heap s'.heap∧(a=X.env.locals∨X.env.cells.lookup x=some a))→Q () s') (hf:X.fn x=true∨X.env.scope.names.lookup x=some .local:=by first | exact .inl rfl | exact .inr rfl | assumption):wpAny M A (storeName X.env x u) Q E s:=by
 obtain⟨m,hn,hl⟩:=id I.loc;have ab:(X.env.scope.kind == .class || (X.env.scope.kind == .module && X.env.locals != X.env.globals))=false:=by rw[I.ok.kind];rfl
 have ac:i < σ.length:=by rw[I.len];exact(AE.mp hi).1
 have cne:=I.cne;have J:∀{a:Ae} {h':A8},(∃ o,s.heap.get? a=some o∧H a=none)→CU a s.heap h'→HOk X.prog X.w H h':=fun{a h'} ha B b ob e=>by
  obtain⟨_,_,hfree⟩:=ha;refine(I.hok b ob e).stay (fun c w' hc q=>(B.2 c ?_).trans q) (fun _ q=>q) fun _ _ q=>q;rintro rfl;rcases hc with rfl | hc
  ·rw[hfree]at e;cases e
  ·rw[hfree]at hc;cases hc
 rcases O with W | W
 ·refine wpAny_storeName_local W hn (fun h' ak B=>?_) ab;obtain⟨oL,_,_,hoL,_⟩:=id hn;refine h _ ⟨I.ok,I.os,I.bare,⟨fun b o e n Z O=>?_,fun b o e n Z O=>?_,I.base.free,fun b o e O=>?_,I.base.tups,I.base.frzs,I.base.tbls⟩,⟨_,ak,fun j y v' F U e3=>?_⟩,fun y c e=>?_,I.free,I.freeC,fun p hp=>?_,J ⟨oL,hoL,I.free⟩ B,by simpa using I.len⟩ ⟨_,B,.inl rfl⟩
  ·exact(B.2 b (AJ (AS (Az e) I.ok.above))).trans (I.base.keep b o e n Z O)
  ·obtain⟨sl,F⟩:=I.base.slot b o e n Z O;exact⟨sl,(B.2 b (AJ (AS (Az e) I.ok.above))).trans F⟩
  ·obtain⟨o',F⟩:=I.base.there b o e O;exact⟨o',(B.2 b (AJ (AS (Az e) I.ok.above))).trans F⟩
  ·by_cases Y:j=i
   ·subst Y;rw[hi]at F;cases F;rw[List.getElem?_set_self ac]at U;cases U;exact⟨u,r,.inl ⟨W,by simp⟩⟩
   ·rw[List.getElem?_set_ne (C0 Y)]at U;obtain⟨u',r',q⟩:=hl j y v' F U e3;refine⟨u',r',?_⟩;rcases q with⟨k,e⟩ | ⟨k,c,e,z⟩
    ·refine .inl ⟨k,?_⟩;have:y≠x:=fun e=>Y (wJ hN F (e ▸ hi));simp[this,e]
    ·exact .inr ⟨k,c,e,z.sameBut B (cne y c e)⟩
  ·obtain⟨w',z⟩:=I.cell y c e;exact⟨w',z.sameBut B (cne y c e)⟩
  ·obtain⟨e,n,ne,nf,d⟩:=I.pin p hp;exact⟨(B.2 p.1 ne).trans e,n,ne,nf,d⟩
 ·have aa:X.fn x=true:=by
   rcases hf with z | z
   ·exact z
   ·rw[z]at W;cases W
  obtain⟨c,hc⟩:=I.ok.has x (.inl W);obtain⟨w',z⟩:=I.cell x c hc;refine wpAny_storeName_cell I.ok.kind W hc z (fun h' ad B=>?_);obtain⟨oc,hoc,hocd⟩:=id z;refine h { s with heap:=h' } ⟨I.ok,I.os,I.bare,⟨fun b o e n Z O=>?_,fun b o e n Z O=>?_,I.base.free,fun b o e O=>?_,I.base.tups,I.base.frzs,I.base.tbls⟩,⟨m,hn.sameBut B (C0 (cne x c hc)),fun j y v' F U e3=>?_⟩,fun y c' e=>?_,I.free,I.freeC,fun p hp=>?_,J ⟨oc,hoc,I.freeC x c hc⟩ B,by simpa using I.len⟩ ⟨c,B,.inr hc⟩
  ·exact(B.2 b (AJ (AS (Az e) (I.ok.cab x c aa hc)))).trans (I.base.keep b o e n Z O)
  ·obtain⟨sl,F⟩:=I.base.slot b o e n Z O;exact⟨sl,(B.2 b (AJ (AS (Az e) (I.ok.cab x c aa hc)))).trans F⟩
  ·obtain⟨o',F⟩:=I.base.there b o e O;exact⟨o',(B.2 b (AJ (AS (Az e) (I.ok.cab x c aa hc)))).trans F⟩
  ·by_cases Y:j=i
   ·subst Y;rw[hi]at F;cases F;rw[List.getElem?_set_self ac]at U;cases U;exact⟨u,r,.inr ⟨.inl W,c,hc,ad⟩⟩
   ·rw[List.getElem?_set_ne (C0 Y)]at U;obtain⟨u',r',q⟩:=hl j y v' F U e3;refine⟨u',r',?_⟩;rcases q with q | ⟨k,c',e,z'⟩
    ·exact .inl q
    ·refine .inr ⟨k,c',e,z'.sameBut B ?_⟩;rintro rfl;exact Y (wJ hN F (I.ok.inj _ _ _ e hc ▸ hi))
  ·by_cases ae:c'=c
   ·subst ae;exact⟨_,ad⟩
   ·obtain⟨w2,z2⟩:=I.cell y c' e;exact⟨w2,z2.sameBut B ae⟩
  ·obtain⟨e,n,ne,nf,d⟩:=I.pin p hp;refine⟨(B.2 p.1 ?_).trans e,n,ne,nf,d⟩;intro q;rw[q,hoc]at e;have q':oc=p.2:=By.inj e;exact d w' (by rw[← q'];exact hocd)
theorem m8{M:Fd}{A:AL}{E:Ac→Ad→Prop}{i:Nat}{x:Str}{v:V}{u:Ac}{Q:Unit→Ad→Prop}(I:Inv X bd σ H s)(hN:X.N.Nodup)(hi:X.N[i]?=some x)(z:Loc X.env.scope x)(r:cQ v u)
  (h:∀ s',Inv X bd (σ.set i (some v)) H s'→Q () s') (q:X.fn x=true∨X.env.scope.names.lookup x=some .local:=by first | exact .inl rfl | exact .inr rfl | assumption):wpAny M A (storeName X.env x u) Q E s:=
 tZ I hN hi z r (fun s' B _=>h s' B) q
theorem Inv.call'{s':Ad}{ch:List Ae}(I:Inv X bd σ H s)(B:s'.os=s.os)(u:Un (frs X.stack) ch H H' s.heap s'.heap)(hok:HOk X.prog X.w H' s'.heap)(z:Dy s'.gens)
  (q:∀ b∈ch,(b∈X.ex∨X.s₀.heap.objs.size≤b)∧b≠X.env.locals∧(∀ x c,X.env.cells.lookup x=some c→c≠b)∧∀ p∈X.pn ++ bd,p.1≠b):Inv X bd σ H' s':=by
 obtain⟨h',g',d',t',o'⟩:=s';have e:o'=s.os:=B;subst e;exact I.call (g':=g') (t':=t') (d':=d') u hok z q
end
abbrev XK:=Ac→Option Ae→Hp→Prop
abbrev St:=List (Option V)
abbrev VK:=V→Hp→Prop
abbrev TE:=St→Hp→VK→Prop
abbrev TT:=St→Hp→(Bool→Hp→Prop)→Prop
abbrev TA:=St→Hp→(List V→Hp→Prop)→Prop
structure m9 where
 nx:St→Hp→Prop
 rt:VK
 bk:St→Hp→Prop:=fun _ _=>False
 ct:St→Hp→Prop:=fun _ _=>False
abbrev TS:=m9→St→Hp→Prop
inductive aHa(X:Cx)(bd:List (Ae×Obj))(σ:St)(Q:VK)(u:Ac)(s':Ad):Prop
 | mk (v:_) (H':_) (q0:Inv X bd σ H' s') (q1:cQ v u) (q2:Q v H'):aHa X bd σ Q u s'
def EP(X:Cx)(bd:List (Ae×Obj))(σ:St)(Q:VK)(u:Ac)(s':Ad):Prop:=aHa X bd σ Q u s'
def TP(X:Cx)(bd:List (Ae×Obj))(σ:St)(Q:Bool→Hp→Prop)(b:Bool)(s':Ad):Prop:=∃ H',Inv X bd σ H' s'∧Q b H'
inductive aHb(X:Cx)(bd:List (Ae×Obj))(σ:St)(Q:List V→Hp→Prop)(us:List Ac)(s':Ad):Prop
 | mk (vs:_) (H':_) (q0:Inv X bd σ H' s') (q1:cE vs us) (q2:Q vs H'):aHb X bd σ Q us s'
def AP(X:Cx)(bd:List (Ae×Obj))(σ:St)(Q:List V→Hp→Prop)(us:List Ac)(s':Ad):Prop:=aHb X bd σ Q us s'
def SP(X:Cx)(bd:List (Ae×Obj))(D:m9)(f:Flow)(s':Ad):Prop:=
 match f with
 | .next=>∃ σ' H',Inv X bd σ' H' s'∧D.nx σ' H'
 | .brk=>∃ σ' H',Inv X bd σ' H' s'∧D.bk σ' H'
 | .cont=>∃ σ' H',Inv X bd σ' H' s'∧D.ct σ' H'
 | .ret u=>∃ v σ' H',Inv X bd σ' H' s'∧cQ v u∧D.rt v H'
structure PE(X:Cx)(e:A6)(t:TE):Prop where
 run:
  ∀(bd:List (Ae×Obj)) (s:Ad) (σ:St) (H:Hp) (Q:VK),Inv X bd σ H s→t σ H Q→wpAny (model X.prog X.w) X.A (eval e X.env) (EP X bd σ Q) X.xe s
instance{X:Cx}{e:A6}{t:TE}:CoeFun (PE X e t) (fun _=>
 ∀(bd:List (Ae×Obj)) (s:Ad) (σ:St) (H:Hp) (Q:VK),Inv X bd σ H s→t σ H Q→wpAny (model X.prog X.w) X.A (eval e X.env) (EP X bd σ Q) X.xe s):=⟨fun h=>h.run⟩
structure PT(X:Cx)(e:A6)(t:TT):Prop where
 run:
  ∀(bd:List (Ae×Obj)) (s:Ad) (σ:St) (H:Hp) (Q:Bool→Hp→Prop),Inv X bd σ H s→t σ H Q→wpAny (model X.prog X.w) X.A (isTrue e X.env (eval e X.env)) (TP X bd σ Q) X.xe s
instance{X:Cx}{e:A6}{t:TT}:CoeFun (PT X e t) (fun _=>
 ∀(bd:List (Ae×Obj)) (s:Ad) (σ:St) (H:Hp) (Q:Bool→Hp→Prop),Inv X bd σ H s→t σ H Q→wpAny (model X.prog X.w) X.A (isTrue e X.env (eval e X.env)) (TP X bd σ Q) X.xe s):=⟨fun h=>h.run⟩
structure PW(X:Cx)(e:A6)(t:TT):Prop where
 run:
  ∀(whole:Sem Ac) (bd:List (Ae×Obj)) (s:Ad) (σ:St) (H:Hp) (Q:Bool→Hp→Prop),Inv X bd σ H s→t σ H Q→wpAny (model X.prog X.w) X.A (isTrue e X.env whole) (TP X bd σ Q) X.xe s
instance{X:Cx}{e:A6}{t:TT}:CoeFun (PW X e t) (fun _=>
 ∀(whole:Sem Ac) (bd:List (Ae×Obj)) (s:Ad) (σ:St) (H:Hp) (Q:Bool→Hp→Prop),Inv X bd σ H s→t σ H Q→wpAny (model X.prog X.w) X.A (isTrue e X.env whole) (TP X bd σ Q) X.xe s):=⟨fun h=>h.run⟩
theorem PW.pt{X:Cx}{e:A6}{t:TT}(h:PW X e t):PT X e t:=⟨h.run _⟩
structure PA(X:Cx)(es:List A6)(t:TA):Prop where
 run:
  ∀(pos:Pos) (bd:List (Ae×Obj)) (s:Ad) (σ:St) (H:Hp) (Q:List V→Hp→Prop),Inv X bd σ H s→t σ H Q→wpAny (model X.prog X.w) X.A (spliced (backTo pos (starEach es X.env))) (AP X bd σ Q) X.xe s
instance{X:Cx}{es:List A6}{t:TA}:CoeFun (PA X es t) (fun _=>
 ∀(pos:Pos) (bd:List (Ae×Obj)) (s:Ad) (σ:St) (H:Hp) (Q:List V→Hp→Prop),Inv X bd σ H s→t σ H Q→wpAny (model X.prog X.w) X.A (spliced (backTo pos (starEach es X.env))) (AP X bd σ Q) X.xe s):=⟨fun h=>h.run⟩
structure PS(X:Cx)(st:Bx)(t:TS):Prop where
 run:
  ∀(bd:List (Ae×Obj)) (s:Ad) (σ:St) (H:Hp) (D:m9),Inv X bd σ H s→t D σ H→wpAny (model X.prog X.w) X.A (exec st X.env) (SP X bd D) X.xe s
instance{X:Cx}{st:Bx}{t:TS}:CoeFun (PS X st t) (fun _=>
 ∀(bd:List (Ae×Obj)) (s:Ad) (σ:St) (H:Hp) (D:m9),Inv X bd σ H s→t D σ H→wpAny (model X.prog X.w) X.A (exec st X.env) (SP X bd D) X.xe s):=⟨fun h=>h.run⟩
structure PSs(X:Cx)(st:List Bx)(t:TS):Prop where
 run:
  ∀(bd:List (Ae×Obj)) (s:Ad) (σ:St) (H:Hp) (D:m9),Inv X bd σ H s→t D σ H→wpAny (model X.prog X.w) X.A (execs st X.env) (SP X bd D) X.xe s
instance{X:Cx}{st:List Bx}{t:TS}:CoeFun (PSs X st t) (fun _=>
 ∀(bd:List (Ae×Obj)) (s:Ad) (σ:St) (H:Hp) (D:m9),Inv X bd σ H s→t D σ H→wpAny (model X.prog X.w) X.A (execs st X.env) (SP X bd D) X.xe s):=⟨fun h=>h.run⟩
theorem thn{α:Type}{t:Sem α}{Q q:α→Ad→Prop}{M:Fd}{A:AL}{E:Ac→Ad→Prop}{s:Ad}(h:wpAny M A t Q E s)(z:∀ a s,Q a s→q a s):wpAny M A t q E s:=B4 h z fun _ _ x=>x
section
variable{X:Cx}
inductive aCv(i:Nat)(σ:St)(H:Hp)(Q:VK):Prop
 | mk (v:_) (q0:σ[i]?=some (some v)) (q1:Q v H):aCv i σ H Q
def aHc(i:Nat):TE:=fun σ H Q=>aCv i σ H Q
def tC(v:V):TE:=fun _ H Q=>Q v H
theorem aGa{i:Nat}{x:Str}{pos:Pos}(hN:X.N[i]?=some x)(F:Vis X.env.scope x)(hd:(x == ("__debug__":Str))=false:=by decide)(B:(x == ("__classdict__":Str))=false:=by decide):PE X (.Name x pos) (aHc i):=by
 constructor;intro bd s σ H Q I h;obtain⟨v,e,h⟩:=h;obtain⟨m,hn,hl⟩:=I.loc;obtain⟨u,r,l⟩:=hl i x v hN e F;have z:EP X bd σ Q u s:=⟨v,H,I,r,h⟩
 rcases l with⟨q,hm⟩ | ⟨q,c,hc,hcell⟩
 ·exact wpAny_Name (wpAny_loadName_local I.ok.kind q hn hm z) hd
 ·rcases q with q | q
  ·exact wpAny_Name (wpAny_loadName_cell I.ok.kind q hc hcell z) hd
  ·exact wpAny_Name (wpAny_loadName_free I.ok.kind q hc hcell z B) hd
theorem aI{i j pos}:PE X (.Constant (.int i) j pos) (tC (.int i)):=⟨fun _ _ _ H _ I h=>wpAny_Constant_int ⟨.int i,H,I.tok _,⟨_,rfl⟩,h⟩⟩
theorem gX{b j pos}:PE X (.Constant (.bool b) j pos) (tC (.bl b)):=⟨fun _ _ _ H _ I h=>Constant_bool ⟨.bl b,H,I,rfl,h⟩⟩
theorem i4{j pos}:PE X (.Constant .none j pos) (tC .non):=⟨fun _ _ _ H _ I h=>Constant_none ⟨.non,H,I,rfl,h⟩⟩
theorem bE{x j pos}:PE X (.Constant (.str x) j pos) (tC (.str x)):=⟨fun _ _ _ H _ I h=>Calls.Constant_str ⟨.str x,H,I.tok _,⟨_,rfl⟩,h⟩⟩
def Gl(X:Cx)(x:Str):Prop:=X.env.kindOf x=some .globalImplicit
theorem aAr{E:Ac→Ad→Prop}{bd:List (Ae×Obj)}{s:Ad}{σ:St}{H:Hp}{x:Str}{u:Ac}{pos:Pos}{Q:Ac→Ad→Prop}(I:Inv X bd σ H s)(q:Gl X x)(hm:X.mg x=some u)(h:Q u s)
  (hd:(x == ("__debug__":Str))=false:=by decide):wpAny (model X.prog X.w) X.A (eval (.Name x pos) X.env) Q E s:=
 Calls.Name_function_global I.ok.kind q (Calls.loadGlobal_global (by rw[I.ok.glob];exact I.mod.glob.keeps I.bk) hm h) hd
theorem mM{E:Ac→Ad→Prop}{bd:List (Ae×Obj)}{s:Ad}{σ:St}{H:Hp}{x:Str}{u:Ac}{pos:Pos}{Q:Ac→Ad→Prop}(I:Inv X bd σ H s)(q:Gl X x)(hm:X.mg x=none)(z:bootBuiltins x=some u)(h:Q u s)
  (hn:x≠"__name__":=by decide) (hd:(x == ("__debug__":Str))=false:=by decide):wpAny (model X.prog X.w) X.A (eval (.Name x pos) X.env) Q E s:=by
 obtain⟨mb,h1,h2⟩:=I.mod.blt;exact Calls.Name_function_global I.ok.kind q (Calls.loadGlobal_builtin (by rw[I.ok.glob];exact I.mod.glob.keeps I.bk) hm (by rw[I.ok.blt];exact h1.keeps I.bk) ((h2 x hn).trans z) h) hd
theorem dL{x:Str}{v:V}{u:Ac}{pos:Pos}(q:Gl X x)(hm:X.mg x=some u)(r:cQ v u)(hd:(x == ("__debug__":Str))=false:=by decide):PE X (.Name x pos) (tC v):=
 ⟨fun _ _ _ H _ I h=>aAr I q hm ⟨v,H,I,r,h⟩ hd⟩
theorem fV{x:Str}{v:V}{u:Ac}{pos:Pos}(q:Gl X x)(hm:X.mg x=none)(z:bootBuiltins x=some u)(r:cQ v u)(hn:x≠"__name__":=by decide)(hd:(x == ("__debug__":Str))=false:=by decide):PE X (.Name x pos) (tC v):=
 ⟨fun _ _ _ H _ I h=>mM I q hm z ⟨v,H,I,r,h⟩ hn hd⟩
variable{a b:A6}{ta tb:TE}{pos:Pos}
structure PC(X:Cx)(op:Fg)(a b:A6)(t:TE):Prop where
 run:
  ∀(bd:List (Ae×Obj)) (s:Ad) (σ:St) (H:Hp) (Q:VK),Inv X bd σ H s→t σ H Q→
   wpAny (model X.prog X.w) X.A (eval a X.env) (fun v s₁=>wpAny (model X.prog X.w) X.A (eval b X.env) (fun u s₂=>wpAny (model X.prog X.w) X.A (compareOp op v u) (EP X bd σ Q) X.xe s₂) X.xe s₁) X.xe s
instance{X:Cx}{op:Fg}{a b:A6}{t:TE}:CoeFun (PC X op a b t) (fun _=>
 ∀(bd:List (Ae×Obj)) (s:Ad) (σ:St) (H:Hp) (Q:VK),Inv X bd σ H s→t σ H Q→
  wpAny (model X.prog X.w) X.A (eval a X.env) (fun v s₁=>wpAny (model X.prog X.w) X.A (eval b X.env) (fun u s₂=>wpAny (model X.prog X.w) X.A (compareOp op v u) (EP X bd σ Q) X.xe s₂) X.xe s₁) X.xe s):=⟨fun h=>h.run⟩
inductive As{α:Type}(f:α→V)(x:V)(Q:α→Prop):Prop
 | mk (c:α) (h:x=f c) (q:Q c):As f x Q
def tB(t:TE):TT:=fun σ H Q=>t σ H fun x H1=>As V.bl x fun c=>Q c H1
theorem eQ{e:A6}{t:TE}(h:PE X e t)(B:∀ z,isTrue e X.env z=(do let v ← z;standAt e.pos;holding [v] (truthy v)):=by intro _;rfl):PT X e (tB t):=by
 constructor;intro bd s σ H Q I hw;refine isTrue_plain (thn (h bd s σ H _ I hw) fun v O ⟨x,H1,M,J,F⟩=>?_) (B _);obtain⟨d,rfl,q⟩:=F;cases J;exact BA ⟨H1,M,q⟩
variable{tA ft:TT}{cS:List A6}
def aH2(t u:TT):TT:=fun σ H Q=>t σ H fun c H1=>if c=true then u σ H1 Q else Q false H1
def tOr(t u:TT):TT:=fun σ H Q=>t σ H fun c H1=>if c=true then Q true H1 else u σ H1 Q
def aH3(t:TT):TT:=fun σ H Q=>t σ H fun c H1=>Q (!c) H1
theorem nA(ha:PT X a tA):PW X (.BoolOp .And [a] pos) tA:=by
 constructor;intro q bd s σ H Q I h;refine isTrue_and (thn (ha bd s σ H Q I h) fun c z e=>?_);cases c with
 | true=>exact isTrue_and_nil e
 | false=>exact e
theorem fJ(ha:PT X a tA):PW X (.BoolOp .Or [a] pos) tA:=by
 constructor;intro q bd s σ H Q I h;refine isTrue_or (thn (ha bd s σ H Q I h) fun c z e=>?_);cases c with
 | false=>exact isTrue_or_nil e
 | true=>exact e
theorem qG(ha:PT X a tA)(F:PW X (.BoolOp .And (b :: cS) pos) ft):PW X (.BoolOp .And (a :: b :: cS) pos) (aH2 tA ft):=by
 constructor;intro B bd s σ H Q I h;refine isTrue_and (thn (ha bd s σ H _ I h) fun c J ⟨H1,z,q⟩=>?_);cases c with
 | true=>exact F B bd J σ H1 Q z q
 | false=>exact⟨H1,z,q⟩
theorem fO(ha:PT X a tA)(F:PW X (.BoolOp .Or (b :: cS) pos) ft):PW X (.BoolOp .Or (a :: b :: cS) pos) (tOr tA ft):=by
 constructor;intro B bd s σ H Q I h;refine isTrue_or (thn (ha bd s σ H _ I h) fun c J ⟨H1,z,q⟩=>?_);cases c with
 | true=>exact⟨H1,z,q⟩
 | false=>exact F B bd J σ H1 Q z q
theorem d8(ha:PT X a tA):PT X (.UnaryOp .Not a pos) (aH3 tA):=by
 constructor;intro bd s σ H Q I h;exact isTrue_not (ha bd s σ H (fun c H1=>Q (!c) H1) I h)
def aHd(ta tb:TE):TE:=fun σ H Q=>ta σ H fun x H1=>As V.bl x fun c=>if c=true then tb σ H1 Q else Q (.bl false) H1
def aH4(ta tb:TE):TE:=fun σ H Q=>ta σ H fun x H1=>∃ c,x=.bl c∧if c=true then Q (.bl true) H1 else tb σ H1 Q
def aHe(ta:TE):TE:=fun σ H Q=>ta σ H fun x H1=>As V.bl x fun c=>Q (.bl (!c)) H1
theorem fF{op}{t:TE}(h:PE X a t):PE X (.BoolOp op [a] pos) t:=⟨fun bd s σ H Q I hw=>BoolOp_one (h bd s σ H Q I hw)⟩
theorem dP(ha:PE X a ta)(F:PE X (.BoolOp .And (b :: cS) pos) tb):PE X (.BoolOp .And (a :: b :: cS) pos) (aHd ta tb):=by
 constructor;intro bd s σ H Q I h;refine BoolOp_and (thn (ha bd s σ H _ I h) fun v J ⟨x,H1,z,B,q⟩=>?_);obtain⟨c,rfl,q⟩:=q;cases B;refine BA ?_;cases c with
 | true=>exact F bd J σ H1 Q z q
 | false=>exact⟨.bl false,H1,z,rfl,q⟩
theorem aHf(ha:PE X a ta)(F:PE X (.BoolOp .Or (b :: cS) pos) tb):PE X (.BoolOp .Or (a :: b :: cS) pos) (aH4 ta tb):=by
 constructor;intro bd s σ H Q I h;refine BoolOp_or (thn (ha bd s σ H _ I h) fun v J ⟨x,H1,z,B,q⟩=>?_);obtain⟨c,rfl,q⟩:=q;cases B;refine BA ?_;cases c with
 | false=>exact F bd J σ H1 Q z q
 | true=>exact⟨.bl true,H1,z,rfl,q⟩
theorem aGb(ha:PE X a ta):PE X (.UnaryOp .Not a pos) (aHe ta):=by
 constructor;intro bd s σ H Q I h;refine UnaryOp_ (thn (ha bd s σ H _ I h) fun v F ⟨x,H1,B,z,q⟩=>?_);obtain⟨c,rfl,q⟩:=q;cases z;exact not_of (BA ⟨.bl (!c),H1,B,rfl,q⟩)
def tIf(t:TT)(ta tb:TE):TE:=fun σ H Q=>t σ H fun c H1=>if c=true then ta σ H1 Q else tb σ H1 Q
theorem qH{c:A6}(hc:PT X c tA)(ha:PE X a ta)(F:PE X b tb):PE X (.IfExp c a b pos) (tIf tA ta tb):=by
 constructor;intro bd s σ H Q I h;refine wpAny_IfExp (thn (hc bd s σ H _ I h) fun d B ⟨H1,z,q⟩=>?_);cases d with
 | true=>exact ha bd B σ H1 Q z q
 | false=>exact F bd B σ H1 Q z q
end
def SqL(K:Ag)(H:Hp)(a:Ae)(xs:List V):Prop:=
 Rd H a (.lst xs)∨
  ∃(o:Obj) (its:Array Ac) (n:Nat),K.lookup a=some o∧o.cls=.type "list"∧o.dict=none∧o.data=.seq its n∧its.size≤sizeLine∧cE xs its.toList
def SqT(K:Ag)(H:Hp)(a:Ae)(xs:List V):Prop:=
 Rd H a (.tup xs)∨
  ∃(o:Obj) (its:Array Ac) (n:Nat),K.lookup a=some o∧o.cls=.type "tuple"∧o.data=.seq its n∧its.size≤sizeLine∧cE xs its.toList
def aH5:Ac→Option V
 | .none=>some .non
 | .bool b=>some (.bl b)
 | .int i _=>some (.int i)
 | .str x _=>some (.str x)
 | .bytes b _=>some (.byt b)
 | .float b _=>some (.flt b)
 | .ref a=>some (.ref a)
 | .type n=>some (.ty n)
 | _=>none
theorem cQ.abs{x:V}{u:Ac}(r:cQ x u):aH5 u=some x:=by
 cases x with
 | non=>cases r;rfl
 | bl _=>cases r;rfl
 | int _=>obtain⟨t,rfl⟩:=r;rfl
 | str _=>obtain⟨t,rfl⟩:=r;rfl
 | byt _=>obtain⟨t,rfl⟩:=r;rfl
 | flt _=>obtain⟨t,rfl⟩:=r;rfl
 | ref _=>cases r;rfl
 | ty _=>cases r;rfl
theorem cQ.inj{x y:V}{u:Ac}(r:cQ x u)(q:cQ y u):x=y:=By.inj (r.abs.symm.trans q.abs)
theorem cE.inj:∀{xs ys:List V}{q:List Ac},cE xs q→cE ys q→xs=ys
 | _,_,_,.nil,.nil=>rfl
 | _,_,_,.cons r t,.cons z t'=>by rw[r.inj z,cE.inj t t']
section
variable{X:Cx}{bd:List (Ae×Obj)}{σ:St}{H:Hp}{s:Ad}{a:Ae}{xs ys:List V}
theorem aV{K:Ag}(h:H a=some (.lst xs)):SqL K H a xs:=.inl (.inl h)
theorem aX{K:Ag}(h:H a=some (.tup xs)):SqT K H a xs:=.inl (.inl h)
theorem Inv.list(I:Inv X bd σ H s)(h:SqL X.K H a xs):∃ its:List Ac,cE xs its∧PlainL s.heap a its.toArray∧xs.length≤sizeLine:=by
 rcases h with h | ⟨o,its,n,q,hc,hd,B,hz,r⟩
 ·obtain⟨z,its,n,r,e⟩:=h.ok I.hok;exact⟨its,r,⟨_,n,e,rfl,rfl,rfl⟩,z⟩
 ·refine⟨its.toList,r,⟨o,n,I.kIn a o q,hc,hd,by simpa using B⟩,?_⟩;have e:=r.length;simp only[A1]at e;omega
theorem Inv.tuple(I:Inv X bd σ H s)(h:SqT X.K H a xs):∃ its:List Ac,cE xs its∧DR s.heap a its.toArray∧xs.length≤sizeLine:=by
 rcases h with h | ⟨o,its,n,q,hc,B,hz,r⟩
 ·obtain⟨z,its,r,p⟩:=h.ok I.hok;exact⟨its,r,p.tup,z⟩
 ·refine⟨its.toList,r,⟨o,I.kIn a o q,hc,n,by simpa using B⟩,?_⟩;have e:=r.length;simp only[A1]at e;omega
theorem Inv.list_inj(I:Inv X bd σ H s)(h:SqL X.K H a xs)(h':SqL X.K H a ys):xs=ys:=by
 obtain⟨its,r,⟨o,n,e,_,_,d⟩,_⟩:=I.list h;obtain⟨its',r',⟨o',n',e',_,_,d'⟩,_⟩:=I.list h';rw[e]at e';cases e';rw[d]at d';injection d' with d1 _;have:its=its':=by simpa using congrArg Array.toList d1
 subst this;exact r.inj r'
theorem Inv.tuple_inj(I:Inv X bd σ H s)(h:SqT X.K H a xs)(h':SqT X.K H a ys):xs=ys:=by
 obtain⟨its,r,⟨o,e,_,n,d⟩,_⟩:=I.tuple h;obtain⟨its',r',⟨o',e',_,n',d'⟩,_⟩:=I.tuple h';rw[e]at e';cases e';rw[d]at d';injection d' with d1 _;have:its=its':=by simpa using congrArg Array.toList d1
 subst this;exact r.inj r'
end
abbrev Cx.wish(X:Cx)(E:Ac→Ad→Prop):Cx:={ X with xe:=E }
abbrev Cx.nox(X:Cx):Cx:=X.wish fun _ _=>False
theorem Cx.Ok.wish{X:Cx}(ok:X.Ok)(E:Ac→Ad→Prop):(X.wish E).Ok:=
 ⟨ok.mod,ok.kind,ok.glob,ok.blt,ok.above,ok.inj,ok.has,ok.cab,ok.hd,ok.frames,ok.stk,ok.exf,ok.bs,ok.bsz,ok.noex,ok.exfs,ok.funs,ok.frf⟩
theorem Cx.Ok.unwish{X:Cx}{E:Ac→Ad→Prop}(ok:(X.wish E).Ok):X.Ok:=
 ⟨ok.mod,ok.kind,ok.glob,ok.blt,ok.above,ok.inj,ok.has,ok.cab,ok.hd,ok.frames,ok.stk,ok.exf,ok.bs,ok.bsz,ok.noex,ok.exfs,ok.funs,ok.frf⟩
section
variable{X:Cx}{bd:List (Ae×Obj)}{σ:St}{H:Hp}{s:Ad}{E:Ac→Ad→Prop}
theorem Inv.wish(I:Inv X bd σ H s)(E:Ac→Ad→Prop):Inv (X.wish E) bd σ H s:=⟨I.ok.wish E,I.os,I.bare,I.base,I.loc,I.cell,I.free,I.freeC,I.pin,I.hok,I.len⟩
theorem Inv.unwish(I:Inv (X.wish E) bd σ H s):Inv X bd σ H s:=⟨I.ok.unwish,I.os,I.bare,I.base,I.loc,I.cell,I.free,I.freeC,I.pin,I.hok,I.len⟩
theorem SP.unwish{D:m9}{f:Flow}{s':Ad}(h:SP (X.wish E) bd D f s'):SP X bd D f s':=by
 cases f with
 | next=>obtain⟨σ',H',I,q⟩:=h;exact⟨σ',H',I.unwish,q⟩
 | brk=>obtain⟨σ',H',I,q⟩:=h;exact⟨σ',H',I.unwish,q⟩
 | cont=>obtain⟨σ',H',I,q⟩:=h;exact⟨σ',H',I.unwish,q⟩
 | ret u=>obtain⟨v,σ',H',I,r,q⟩:=h;exact⟨v,σ',H',I.unwish,r,q⟩
theorem PSs.nox{st:List Bx}{t:TS}(h:PSs X.nox st t):PSs X st t:=⟨fun bd s σ H D I hw=>
 B4 (h bd s σ H D (I.wish _) hw) (fun _ _ q=>q.unwish) fun _ _ z=>BV z⟩
end
section
variable{X:Cx}{st:Bx}{cS:List Bx}{t u:TS}{e:A6}{te:TE}{pos:Pos}
def aHg:TS:=fun D σ H=>D.nx σ H
def aH6(t u:TS):TS:=fun D σ H=>t { D with nx:=u D } σ H
theorem b8:PSs X [] aHg:=⟨fun _ _ σ H _ I h=>D3 ⟨σ,H,I,h⟩⟩
theorem aQ(h1:PS X st t)(h2:PSs X cS u):PSs X (st :: cS) (aH6 t u):=by
 constructor;intro bd s σ H D I h;refine wpAny_execs_cons (thn (h1 bd s σ H { D with nx:=u D } I h) fun f z q=>?_);cases f with
 | next=>
  obtain⟨σ',H',I',q⟩:=q;exact h2 bd z σ' H' D I' q
 | ret v=>exact q
 | brk=>exact q
 | cont=>exact q
theorem aU(h1:PS X st t):PSs X [st] t:=by
 constructor;intro bd s σ H D I h;refine wpAny_execs_cons (thn (h1 bd s σ H D I h) fun f z q=>?_);cases f with
 | next=>exact D3 q
 | ret v=>exact q
 | brk=>exact q
 | cont=>exact q
theorem Inv.quiet{bd:List (Ae×Obj)}{σ:St}{H:Hp}{s:Ad}(I:Inv X bd σ H s):interactive X.env=false:=by simp[interactive,I.ok.kind]
def aHh(te:TE):TS:=fun D σ H=>te σ H fun _ H1=>D.nx σ H1
theorem hZ(z:PE X e te)(B:swapsWith e none pos.line X.env=pure false:=by rfl):PS X (.Expr e pos) (aHh te):=by
 constructor;intro bd s σ H D I h;exact wpAny_Expr_any (thn (z bd s σ H _ I h) fun v M ⟨x,H1,F,J,q⟩=>⟨σ,H1,F,q⟩) I.quiet B
def aH7(te:TE):TS:=fun D σ H=>te σ H D.rt
theorem aZ(B:PE X e te):PS X (.Return (some e) pos) (aH7 te):=by
 constructor;intro bd s σ H D I h;exact wpAny_Return_some (thn (B bd s σ H _ I h) fun v J ⟨x,H1,F,q,z⟩=>⟨x,σ,H1,F,q,z⟩)
def aH8(c:TT)(t u:TS):TS:=fun D σ H=>c σ H fun b H1=>if b=true then t D σ H1 else u D σ H1
theorem cX{c:A6}{a b:List Bx}{tc:TT}(hc:PT X c tc)(ha:PSs X a t)(F:PSs X b u):PS X (.If c a b pos) (aH8 tc t u):=by
 constructor;intro bd s σ H D I h;refine wpAny_If (thn (hc bd s σ H _ I h) fun d z ⟨H1,B,q⟩=>?_);cases d with
 | true=>exact ha bd z σ H1 D B q
 | false=>exact F bd z σ H1 D B q
def aGc:TS:=fun _ _ _=>False
theorem t4{q:List Bx}:PSs X q aGc:=⟨fun _ _ _ _ _ _ h=>h.elim⟩
end
abbrev TG:=V→St→Hp→(St→Hp→Prop)→Prop
abbrev TGs:=List V→St→Hp→(St→Hp→Prop)→Prop
structure PG(X:Cx)(target:A6)(t:TG):Prop where
 run:
  ∀(bd:List (Ae×Obj)) (s:Ad) (σ:St) (H:Hp) (v:V) (u:Ac) (Q:St→Hp→Prop),Inv X bd σ H s→cQ v u→t v σ H Q→
   wpAny (model X.prog X.w) X.A (assign target X.env u) (fun _ s'=>∃ σ' H',Inv X bd σ' H' s'∧Q σ' H') X.xe s
instance{X:Cx}{target:A6}{t:TG}:CoeFun (PG X target t) (fun _=>
 ∀(bd:List (Ae×Obj)) (s:Ad) (σ:St) (H:Hp) (v:V) (u:Ac) (Q:St→Hp→Prop),Inv X bd σ H s→cQ v u→t v σ H Q→
  wpAny (model X.prog X.w) X.A (assign target X.env u) (fun _ s'=>∃ σ' H',Inv X bd σ' H' s'∧Q σ' H') X.xe s):=⟨fun h=>h.run⟩
structure PGs(X:Cx)(ts:List A6)(t:TGs):Prop where
 run:
  ∀(bd:List (Ae×Obj)) (s:Ad) (σ:St) (H:Hp) (vs:List V) (us:List Ac) (Q:St→Hp→Prop),Inv X bd σ H s→cE vs us→t vs σ H Q→
   wpAny (model X.prog X.w) X.A (assignInOrder ((assignEach ts X.env).map (·.2)) us) (fun _ s'=>∃ σ' H',Inv X bd σ' H' s'∧Q σ' H') X.xe s
instance{X:Cx}{ts:List A6}{t:TGs}:CoeFun (PGs X ts t) (fun _=>
 ∀(bd:List (Ae×Obj)) (s:Ad) (σ:St) (H:Hp) (vs:List V) (us:List Ac) (Q:St→Hp→Prop),Inv X bd σ H s→cE vs us→t vs σ H Q→
  wpAny (model X.prog X.w) X.A (assignInOrder ((assignEach ts X.env).map (·.2)) us) (fun _ s'=>∃ σ' H',Inv X bd σ' H' s'∧Q σ' H') X.xe s):=⟨fun h=>h.run⟩
abbrev aGd:=V→V→V→Hp→(Hp→Prop)→Prop
def aHi(X:Cx)(t:aGd):Prop:=
 ∀(bd:List (Ae×Obj)) (s:Ad) (σ:St) (H:Hp) (o i v:V) (ov iv u:Ac) (Q:Hp→Prop),Inv X bd σ H s→cQ o ov→cQ i iv→cQ v u→t o i v H Q→
  wpAny (model X.prog X.w) X.A (setItem ov iv u) (fun _ s'=>∃ H',Inv X bd σ H' s'∧Q H') X.xe s
section
variable{X:Cx}{pos:Pos}
def cI(i:Nat):TG:=fun v σ H Q=>Q (σ.set i (some v)) H
theorem bB{i:Nat}{x:Str}(hN:X.N.Nodup)(hi:X.N[i]?=some x)(z:Loc X.env.scope x)(q:X.fn x=true∨X.env.scope.names.lookup x=some .local:=by first | exact .inl rfl | exact .inr rfl | assumption):PG X (.Name x pos) (cI i):=by
 constructor;intro bd s σ H v u Q I r h;exact wpAny_assign_Name (m8 I hN hi z r (fun s' B=>⟨_,H,B,h⟩) q)
def aED:TGs:=fun vs σ H Q=>vs=[]∧Q σ H
inductive aAs(t:TG)(u:TGs)(vs:List V)(σ:St)(H:Hp)(Q:(St→Hp→Prop)):Prop
 | mk (v:_) (r:_) (q0:vs=v :: r) (q1:t v σ H fun σ' H'=>u r σ' H' Q):aAs t u vs σ H Q
def pH(t:TG)(u:TGs):TGs:=fun vs σ H Q=>aAs t u vs σ H Q
theorem fW:PGs X [] aED:=by
 constructor;intro bd s σ H vs q Q I r h;obtain⟨e,h⟩:=h;subst e;cases r;exact assignInOrder_nil ⟨σ,H,I,h⟩
theorem bZ{e:A6}{es:List A6}{t:TG}{u:TGs}(h1:PG X e t)(h2:PGs X es u)
  (z:(assignEach (e :: es) X.env).map (·.2)=assign e X.env :: (assignEach es X.env).map (·.2):=by rfl):PGs X (e :: es) (pH t u):=by
 constructor;intro bd s σ H vs O Q I r h;obtain⟨v,vr,e1,h⟩:=h;subst e1;cases r with
 | cons r B=>
  rw[z];refine En (thn (h1 bd s σ H _ _ _ I r h) fun _ J ⟨q,H1,M,F⟩=>?_);exact h2 bd J q H1 _ _ Q M B F
inductive aCw(K:Ag)(n:Nat)(t:TGs)(v:V)(σ:St)(H:Hp)(Q:(St→Hp→Prop)):Prop
 | mk (a:_) (xs:_) (q0:v=.ref a) (q1:SqT K H a xs) (q2:xs.length=n) (q3:t xs σ H Q):aCw K n t v σ H Q
def aEE(K:Ag)(n:Nat)(t:TGs):TG:=fun v σ H Q=>aCw K n t v σ H Q
theorem iP{es:List A6}{k:Nat}{t:TGs}{n:Nat}(hc:X.calm=true)(h:PGs X es t)
  (hn:(assignEach es X.env).length=n:=by rfl) (q:(assignEach es X.env).findIdx? (·.1)=none:=by rfl):PG X (.Tuple es k pos) (aEE X.K n t):=by
 constructor;intro bd s σ H v u Q I r hw;obtain⟨a,xs,e1,hq,hl,hw⟩:=hw;subst e1;cases r;obtain⟨its,rv,ht,hz⟩:=I.tuple hq;refine assign_Tuple_tuple (I.ok.hd hc) ht (by simp[hn,← hl,rv.length]) q fun h' z=>?_;have B:Inv X bd σ H { s with heap:=h' }:=I.kept (t':=s.toks) fun b o e=>z b o (AJ (Az e)) e;exact h bd _ σ H xs _ Q B (by simpa using rv) hw
def aH9(to ti:TE)(t:aGd):TG:=fun v σ H Q=>to σ H fun o H1=>ti σ H1 fun i H2=>t o i v H2 fun H3=>Q σ H3
theorem aGe{o i:A6}{to B:TE}{t:aGd}(U:PE X o to)(hi:PE X i B)(J:aHi X t)
  (ha:∀ v,assign (.Subscript o i pos) X.env v=(do
   let q ← holding [v] (eval o X.env)
   let z ← holding [v,q] (eval i X.env)
   standAt pos
   holding [v,q,z] (setItem q z v)
   release [v,q,z] []):=by intro _;rfl):PG X (.Subscript o i pos) (aH9 to B t):=by
 constructor;intro bd s σ H v u Q I r h;rw[ha];refine Aa (Bi (thn (U bd s σ H _ I h) fun q s1 ⟨x,H1,I1,r1,O⟩=>?_));refine Aa (Bi (thn (hi bd s1 σ H1 _ I1 O) fun z s2 ⟨y,H2,M,F,Z⟩=>?_));refine Aa (DM (Aa (Bi (thn (J bd s2 σ H2 x y v q z u _ M r1 F r Z) fun _ s3 ⟨H3,W,Y⟩=>?_))));exact wpAny_release ⟨σ,H3,W,Y⟩
def aGf(te:TE)(g:TG):TS:=fun D σ H=>te σ H fun x H1=>g x σ H1 D.nx
theorem jT{tg e:A6}{te:TE}{g:TG}(z:PE X e te)(J:PG X tg g)(B:swapsWithSole [tg] e pos.line X.env=pure false:=by rfl)(hw:swappedStores [tg] e X.env=pure none:=by rfl)
  (h1:(assignEach [tg] X.env).map (·.2)=[assign tg X.env]:=by rfl):PS X (.Assign [tg] e pos) (aGf te g):=by
 constructor;intro bd s σ H D I h;refine wpAny_Assign_stores (thn (z bd s σ H _ I h) fun v M ⟨x,H1,U,O,F⟩=>?_) B hw;rw[h1];exact thn (J bd M σ H1 x v _ U O F) fun _ W q=>q
theorem bQ{i:Nat}{x:Str}{e:A6}{te:TE}{du:Pos}(hN:X.N.Nodup)(hi:X.N[i]?=some x)(O:Loc X.env.scope x)(q:PE X e te)(z:swapsWith e (some (.Name x du)) pos.line X.env=pure false:=by rfl)(M:X.fn x=true∨X.env.scope.names.lookup x=some .local:=by first | exact .inl rfl | exact .inr rfl | assumption):
  PS X (.Assign [.Name x du] e pos) (aGf te (cI i)):=by
 constructor;intro bd s σ H D I h;refine wpAny_Assign_Name (thn (q bd s σ H _ I h) fun v Y ⟨y,H1,U,J,F⟩=>?_) z;exact m8 U hN hi O J (fun W B=>⟨_,H1,B,F⟩) M
def aIa(i j:Nat)(ta:TA):TS:=fun D σ H=>ta σ H fun vs H1=>∃ v w,vs=[v,w]∧D.nx ((σ.set i (some v)).set j (some w)) H1
theorem aGg{i j:Nat}{x y:Str}{a b:A6}{ta:TA}{U W pt:Pos}{kt k2 pt2}(hc:X.calm=true)(hN:X.N.Nodup)(hi:X.N[i]?=some x)(hj:X.N[j]?=some y)(O:i≠j)
  (hx:X.env.scope.names.lookup x=some .local) (Y:X.env.scope.names.lookup y=some .local) (ha:PA X [a,b] ta)
  (hw:swappedStores [.Tuple [.Name x U,.Name y W] kt pt] (.Tuple [a,b] k2 pt2) X.env=pure (some [x,y]))
  (hs:swapsWithSole [.Tuple [.Name x U,.Name y W] kt pt] (.Tuple [a,b] k2 pt2) pos.line X.env=pure false:=by rfl):
  PS X (.Assign [.Tuple [.Name x U,.Name y W] kt pt] (.Tuple [a,b] k2 pt2) pos) (aIa i j ta):=by
 constructor;intro bd s σ H D I h;rw[exec_Assign_arm];refine Aa (DM ?_);rw[hs];refine Aa (Af ?_);rw[Ia (by decide)];refine Aa (Tuple_ (thn (ha _ bd s σ H _ I h) fun us F ⟨vs,H1,I1,r1,M⟩=>?_));obtain⟨v,w,e1,M⟩:=M;subst e1;obtain⟨B,z,rfl,rv,rw'⟩:∃ B z,us=[B,z]∧cQ v B∧cQ w z:=by
  cases r1 with
  | cons p q=>
   cases q with
   | cons p' q'=>
    cases q';exact⟨_,_,rfl,p,p'⟩
 refine Bq ?_ (by show 2≤sizeLine;decide);have I2:Inv X bd σ H1 { F with heap:=F.heap.push { cls:=.type "tuple",data:=.seq [B,z].toArray } }:=I1.kept (t':=F.toks) fun b o e=>Ah _ e;rw[hw];refine Aa (Af ?_);show wpAny (model X.prog X.w) X.A (do rule "assign.swapped-stores";let items ← unpackItems (.ref F.heap.objs.size) 2 none;assignInOrder [fun v=>bindName X.env y v,fun v=>bindName X.env x v] items.reverse;pure Flow.next) _ _ _;refine Aa (CH (Aa (unpackItems_tuple (items:=#[B,z]) (I.ok.hd hc) (IsTup.new F.heap _) fun h' J=>?_)));have I3:=I2.kept (h':=h') (t':=F.toks) fun b o e=>J b o (AJ (Az e)) e;show wpAny _ _ (assignInOrder [fun v=>bindName X.env y v,fun v=>bindName X.env x v] [z,B] >>= fun _=>pure Flow.next) _ _ _;refine Aa (En (wpAny_bindName (m8 I3 hN hj (.inl Y) rw' (fun s2 I4=>?_) (.inr Y))));refine En (wpAny_bindName (m8 I4 hN hi (.inl hx) rv (fun s3 Z=>assignInOrder_nil (Af ?_)) (.inr hx)));rw[List.set_comm _ _ (C0 O)]at Z;exact⟨_,H1,Z,M⟩
end
section
variable{X:Cx}{pos:Pos}
inductive wK(c:TT)(tb:TS)(D:m9)(σ:St)(H:Hp):Prop
 | mk (W:Nat→St→Hp→Prop) (q0:(∃ m,W m σ H)) (q1:∀ m σ H,W m σ H→
 c σ H fun b H1=>if b=true then∃ N:St→Hp→Prop,(∀ σ' H',N σ' H'→∃ m',m' < m∧W m' σ' H')∧tb { D with nx:=N,ct:=N,bk:=D.nx } σ H1 else D.nx σ H1):wK c tb D σ H
def aGh(c:TT)(tb:TS):TS:=fun D σ H=>wK c tb D σ H
theorem aCx{c:A6}{q:List Bx}{tc:TT}{tb:TS}(M:PassesOwn (model X.prog X.w) X.A X.env X.xe)(hc:PT X c tc)(U:PSs X q tb):PS X (.While c q [] pos) (aGh tc tb):=by
 constructor;intro bd s σ H D I h;obtain⟨W,⟨m0,w0⟩,turn⟩:=h;refine wpAny_While (codeAny_whileLoop (fun n s'=>∃ O H',Inv X bd O H' s'∧W n O H') ?_ m0 ⟨σ,H,I,w0⟩);rintro n s1 ⟨z,H1,Y,w1⟩;refine Ct M (thn (hc bd s1 z H1 _ Y (turn n z H1 w1)) fun b Z ⟨H2,J,F⟩=>?_);cases b with
 | true=>
  obtain⟨N,hN,F⟩:=F;rw[Ib rfl];refine Ct M (thn (U bd Z z H2 _ J F) fun f s3 B=>?_);cases f with
  | next=>
   obtain⟨σ3,H3,I3,n3⟩:=B;obtain⟨m',hm,w3⟩:=hN σ3 H3 n3;exact⟨m',hm,σ3,H3,I3,w3⟩
  | cont=>
   obtain⟨σ3,H3,I3,n3⟩:=B;obtain⟨m',hm,w3⟩:=hN σ3 H3 n3;exact⟨m',hm,σ3,H3,I3,w3⟩
  | brk=>exact B
  | ret v=>exact B
 | false=>
  rw[Ia Aw];exact D3 ⟨z,H2,J,F⟩
end
structure It where
 go:Nat→Hp→Prop
 yld:Nat→Hp→V→Hp→Prop
 stop:Nat→Hp→Prop
def kQ(X:Cx)(bd:List (Ae×Obj))(H:Hp)(b:Ae):Prop:=
 H b=none∧b≠X.env.locals∧b ∉ X.fs∧(b∈X.ex∨X.s₀.heap.objs.size≤b)∧(∀ x c,X.env.cells.lookup x=some c→c≠b)∧∀ p∈X.pn ++ bd,p.1≠b
theorem Inv.fpOk{X:Cx}{bd:List (Ae×Obj)}{σ:St}{H H':Hp}{s:Ad}{b:Ae}(I:Inv X bd σ H s)(B:s.heap.objs.size≤b)(hn:H' b=none):kQ X bd H' b:=by
 refine⟨hn,B9 (AS I.lt B),I.nofs B,.inr (A3 I.sz B),fun x c e z=>?_,fun p F z=>?_⟩
 ·obtain⟨v,q⟩:=I.cell x c e;exact absurd (AS q.lt (by rw[z];exact B)) (BO _)
 ·exact absurd (AS (Az (I.pin p F).1) (by rw[z];exact B)) (BO _)
structure wL(P:Ay)(w:AQ)(K:Ag)(tg:A6)(J:It)(fp:List Ae)(it:Ae)(tn:Nat→A8→Prop):Prop where
 mem:it∈fp
 obj:∀ i h,tn i h→∀ b∈fp,∃ o,h.get? b=some o∧∀ v,o.data≠.cell v
 keep:∀ i h h',tn i h→(∀ b∈fp,∀ o,h.get? b=some o→h'.get? b=some o)→tn i h'
 item:∀(X:Cx),X.prog=P→X.w=w→X.K=K→X.calm=true→∀(i:Nat) (bd:List (Ae×Obj)) (s:Ad) (σ:St) (H:Hp) (E:Ac→Ad→Prop),Inv X bd σ H s→(∀ b∈fp,kQ X bd H b)→tn i s.heap→J.go i H→
  wpAny (model P w) X.A (pyNext (.ref it)) (fun r s1=>∃ u,r=some u∧
   wpAny (model P w) X.A (letOwnedTupleGo tg (.ref it) u) (fun _ s2=>∃ x H',Inv X bd σ H' s2∧cQ x u∧J.yld i H x H'∧tn (i + 1) s2.heap∧∀ b∈fp,H' b=none) E s1) E s
 done:∀(X:Cx),X.prog=P→X.w=w→X.K=K→X.calm=true→∀(i:Nat) (bd:List (Ae×Obj)) (s:Ad) (σ:St) (H:Hp) (E:Ac→Ad→Prop),Inv X bd σ H s→(∀ b∈fp,kQ X bd H b)→tn i s.heap→J.stop i H→
  wpAny (model P w) X.A (pyNext (.ref it)) (fun r s1=>r=none∧Inv X bd σ H s1) E s
 self:∀(A:AL) (i:Nat) (s:Ad) (Q:Ac→Ad→Prop) (E:Ac→Ad→Prop),tn i s.heap→Q (.ref it) s→wpAny (model P w) A (pyIter (.ref it)) Q E s
abbrev TI:=St→Hp→(It→Hp→Prop)→Prop
inductive aFy(X:Cx)(bd:List (Ae×Obj))(σ:St)(tg:A6)(R:It→Hp→Prop)(itv:Ac)(s2:Ad):Prop
 | mk (it:Ae) (fp:List Ae) (tn:Nat→A8→Prop) (J:It) (H':Hp) (q0:itv=.ref it) (q1:Inv X bd σ H' s2) (q2:wL X.prog X.w X.K tg J fp it tn) (q3:tn 0 s2.heap) (q4:(∀ b∈fp,kQ X bd H' b)) (q5:R J H'):aFy X bd σ tg R itv s2
def PIE(X:Cx)(bd:List (Ae×Obj))(σ:St)(tg:A6)(R:It→Hp→Prop)(itv:Ac)(s2:Ad):Prop:=aFy X bd σ tg R itv s2
structure PI(X:Cx)(tg iter:A6)(wi:TI):Prop where
 run:
  ∀(bd:List (Ae×Obj)) (s:Ad) (σ:St) (H:Hp) (R:It→Hp→Prop),Inv X bd σ H s→wi σ H R→
   wpAny (model X.prog X.w) X.A (eval iter X.env) (fun v s1=>wpAny (model X.prog X.w) X.A (pyIter v) (PIE X bd σ tg R) X.xe s1) X.xe s
instance{X:Cx}{tg iter:A6}{wi:TI}:CoeFun (PI X tg iter wi) (fun _=>
 ∀(bd:List (Ae×Obj)) (s:Ad) (σ:St) (H:Hp) (R:It→Hp→Prop),Inv X bd σ H s→wi σ H R→
  wpAny (model X.prog X.w) X.A (eval iter X.env) (fun v s1=>wpAny (model X.prog X.w) X.A (pyIter v) (PIE X bd σ tg R) X.xe s1) X.xe s):=⟨fun h=>h.run⟩
theorem wM{M : Fd}{A : AL}{E : Ac → Ad → Prop}{s : Ad}{tg : A6}{it : Ae}{u : Ac}{o : Obj}{n : String}{vs : Array Ac}{Q : Unit → Ad → Prop}(z : s.heap.get? it = some o)(hc : o.cls = .type n)(hd : o.data = .fields vs)
    (hn : ["enumerate", "zip", "dict_itemiterator", "dict_reverseitemiterator", "odict_iterator", "itertools.zip_longest", "itertools.pairwise"].contains n = false) (q : Q () s) : wpAny M A (letOwnedTupleGo tg (.ref it) u) Q E s := by
  unfold letOwnedTupleGo;cases tg <;> first
    | exact Af q
    | (cases u <;> first
        | exact Af q
        | (refine Aa (wpAny_load z ?_)
           rw[hc, hd];show wpAny M A (if (["enumerate", "zip", "dict_itemiterator", "dict_reverseitemiterator", "odict_iterator", "itertools.zip_longest", "itertools.pairwise"].contains n && vs[0]? == some (rawInt _)) = true then _ else _) Q E s;rw[Ia (by intro h;rw[hn, Cy]at h;cases h)];exact Af q))
def Itl(K:Ag)(a:Ae):It:=
 ⟨fun i H=>∃ xs x,SqL K H a xs∧xs[i]?=some x,fun i H x H'=>H'=H∧∀ xs,SqL K H a xs→xs[i]?=some x,fun i H=>∃ xs,SqL K H a xs∧xs.length≤i⟩
def Itt(K:Ag)(a:Ae):It:=
 ⟨fun i H=>∃ xs x,SqT K H a xs∧xs[i]?=some x,fun i H x H'=>H'=H∧∀ xs,SqT K H a xs→xs[i]?=some x,fun i H=>∃ xs,SqT K H a xs∧xs.length≤i⟩
def Itr(lo:Int)(n:Nat):It:=⟨fun i _=>i < n,fun i H x H'=>H'=H∧x=.int (lo + i),fun i _=>n≤i⟩
theorem aBB{P:Ay}{w:AQ}{K:Ag}{tg:A6}(a it:Ae):wL P w K tg (Itl K a) [it] it (fun i h=>h.IsListIter it a i) where
 mem:=by simp
 obj:=fun i h st b q=>by
  have e:b=it:=by simpa using q
  subst e;obtain⟨o,e,c,d⟩:=st;exact⟨o,e,fun v z=>by rw[d]at z;cases z⟩
 keep:=fun i h h' st k=>st.at fun o e=>k it (by simp) o e
 item:=by
  intro X M hw O hc i bd s σ H E I F st J;subst M hw O;obtain⟨xs,x,hq,hx⟩:=J;obtain⟨its,rv,p,hz⟩:=I.list hq;obtain⟨u,hu,ru⟩:=rv.get hx;obtain⟨f0,f1,f2,f3,f4,f5⟩:=F it (by simp);refine wpAny_pyNext_list_item st p.isList (x:=u) (by simpa using hu) fun h' B U=>?_;have Z:Inv X bd σ H { s with heap:=h' }:=I.turned (t':=s.toks) (fun b o q e=>(U.2 b q).trans e) f0 f1 f3 f4 f5;obtain⟨o,e,c,d⟩:=id B;exact⟨u,rfl,wM (s:={ s with heap:=h' }) e c d (by decide) ⟨x,H,Z,ru,⟨rfl,fun ys W=>by rw[I.list_inj W hq];exact hx⟩,B,fun b q=>(F b q).1⟩⟩
 done:=by
  intro X M hw O hc i bd s σ H E I F st J;subst M hw O;obtain⟨xs,hq,hx⟩:=J;obtain⟨its,rv,p,hz⟩:=I.list hq;obtain⟨f0,f1,f2,f3,f4,f5⟩:=F it (by simp);have hl:=rv.length;exact wpAny_pyNext_list_end (I.ok.hd hc) st p.isList (by simp;omega) fun h' Y=>⟨rfl,I.turned (t':=s.toks) (fun b o q e=>Y b o q e) f0 f1 f3 f4 f5⟩
 self:=fun _ _ _ _ _ st h=>wpAny_pyIter_listiter st h
theorem y9{P:Ay}{w:AQ}{K:Ag}{tg:A6}(a it:Ae):wL P w K tg (Itt K a) [it] it (fun i h=>h.IsTupleIter it a i) where
 mem:=by simp
 obj:=fun i h st b q=>by
  have e:b=it:=by simpa using q
  subst e;obtain⟨o,e,c,d⟩:=st;exact⟨o,e,fun v z=>by rw[d]at z;cases z⟩
 keep:=fun i h h' st k=>st.at fun o e=>k it (by simp) o e
 item:=by
  intro X M hw O hc i bd s σ H E I F st J;subst M hw O;obtain⟨xs,x,hq,hx⟩:=J;obtain⟨its,rv,p,hz⟩:=I.tuple hq;obtain⟨u,hu,ru⟩:=rv.get hx;obtain⟨f0,f1,f2,f3,f4,f5⟩:=F it (by simp);refine wpAny_pyNext_tuple_item st (show s.heap.IsTuple a its.toArray from p) (x:=u) (by simpa using hu) fun h' B U=>?_;have Z:Inv X bd σ H { s with heap:=h' }:=I.turned (t':=s.toks) (fun b o q e=>(U.2 b q).trans e) f0 f1 f3 f4 f5;obtain⟨o,e,c,d⟩:=id B;exact⟨u,rfl,wM (s:={ s with heap:=h' }) e c d (by decide) ⟨x,H,Z,ru,⟨rfl,fun ys W=>by rw[I.tuple_inj W hq];exact hx⟩,B,fun b q=>(F b q).1⟩⟩
 done:=by
  intro X M hw O hc i bd s σ H E I F st J;subst M hw O;obtain⟨xs,hq,hx⟩:=J;obtain⟨its,rv,p,hz⟩:=I.tuple hq;obtain⟨f0,f1,f2,f3,f4,f5⟩:=F it (by simp);have hl:=rv.length;exact wpAny_pyNext_tuple_end (I.ok.hd hc) st (show s.heap.IsTuple a its.toArray from p) (by simp;omega) fun h' Y=>⟨rfl,I.turned (t':=s.toks) (fun b o q e=>Y b o q e) f0 f1 f3 f4 f5⟩
 self:=fun _ _ _ _ _ st h=>wpAny_pyIter_tupleiter st h
theorem zC{P:Ay}{w:AQ}{K:Ag}{tg:A6}(it:Ae)(lo:Int)(n:Nat):wL P w K tg (Itr lo n) [it] it (fun i h=>EJ h it (lo + (i:Nat) * 1) ((n:Int) - (i:Nat)) 1) where
 mem:=by simp
 obj:=fun i h st b q=>by
  have e:b=it:=by simpa using q
  subst e;exact⟨_,st,fun v z=>by
   have Y:Es _=Data.cell v:=z;cases Y⟩
 keep:=fun i h h' st k=>k it (by simp) _ st
 item:=by
  intro X M hw O hc i bd s σ H E I F st J;subst M hw O;obtain⟨f0,f1,f2,f3,f4,f5⟩:=F it (by simp);have W:=Walks.range (prog:=X.prog) (w:=X.w) (I.ok.hd hc) it lo 1 n;refine W.item i s _ _ J st fun v h' tk Z B U=>?_;obtain⟨t,rfl⟩:=Z;have I1:Inv X bd σ H { s with heap:=h',toks:=tk }:=I.turned (fun b o q e=>U b o (by simpa using q) e) f0 f1 f3 f4 f5;refine⟨_,rfl,wM (s:={ s with heap:=h',toks:=tk }) (n:="range_iterator") B rfl rfl (by decide) ⟨.int (lo + i),H,I1,⟨t,?_⟩,⟨rfl,rfl⟩,B,fun b q=>(F b q).1⟩⟩;rw[Int.mul_one]
 done:=by
  intro X M hw O hc i bd s σ H E I F st J;subst M hw O;obtain⟨f0,f1,f2,f3,f4,f5⟩:=F it (by simp);exact wpAny_pyNext_range_end (I.ok.hd hc) st (by have:n≤i:=J;omega) fun h' eb=>⟨rfl,I.turned (t':=s.toks) (fun b o q e=>eb b o q e) f0 f1 f3 f4 f5⟩
 self:=fun _ _ _ _ _ st h=>wpAny_pyIter_rangeiter st h
section
variable{X:Cx}{tg:A6}
def aHj(K:Ag)(tl:TE):TI:=fun σ H R=>tl σ H fun x H1=>As V.ref x fun a=>(∃ xs,SqL K H1 a xs)∧R (Itl K a) H1
def aHk(K:Ag)(tl:TE):TI:=fun σ H R=>tl σ H fun x H1=>As V.ref x fun a=>(∃ xs,SqT K H1 a xs)∧R (Itt K a) H1
theorem jU{l:A6}{tl:TE}(F:PE X l tl):PI X tg l (aHj X.K tl):=by
 constructor;intro bd s σ H R I h;refine thn (F bd s σ H _ I h) fun v z ⟨x,H1,B,O,J⟩=>?_;obtain⟨a,e,⟨xs,hq⟩,q⟩:=J;subst e;cases O;obtain⟨its,rv,p,hz⟩:=B.list hq;refine Ew p.isList ?_;refine⟨z.heap.objs.size,[z.heap.objs.size],_,_,H1,rfl,B.kept (t':=z.toks) fun b o e=>Ah _ e,aBB a _,⟨_,Ax _ rfl,rfl,rfl⟩,fun b M=>?_,q⟩;have e:b=z.heap.objs.size:=by simpa using M
 subst e;exact B.fpOk (Ak _) (B.hok.fresh (Ak _))
theorem iQ{l:A6}{tl:TE}(F:PE X l tl):PI X tg l (aHk X.K tl):=by
 constructor;intro bd s σ H R I h;refine thn (F bd s σ H _ I h) fun v z ⟨x,H1,B,O,J⟩=>?_;obtain⟨a,e,⟨xs,hq⟩,q⟩:=J;subst e;cases O;obtain⟨its,rv,p,hz⟩:=B.tuple hq;refine wpAny_pyIter_tuple (show z.heap.IsTuple a its.toArray from p) ?_;refine⟨z.heap.objs.size,[z.heap.objs.size],_,_,H1,rfl,B.kept (t':=z.toks) fun b o e=>Ah _ e,y9 a _,⟨_,Ax _ rfl,rfl,rfl⟩,fun b M=>?_,q⟩;have e:b=z.heap.objs.size:=by simpa using M
 subst e;exact B.fpOk (Ak _) (B.hok.fresh (Ak _))
theorem aCy{bd:List (Ae×Obj)}{σ:St}{H:Hp}{s:Ad}{R:It→Hp→Prop}{E:Ac→Ad→Prop}{lo hi:Int}{t u v:Tok}{tk:Nat}(I:Inv X bd σ H s)(h1:-(2 ^ 62)≤lo)(h2:lo < 2 ^ 62)(O:-(2 ^ 62)≤hi)(J:hi < 2 ^ 62)
  (q:R (Itr lo (hi - lo).toNat) H):wpAny (model X.prog X.w) X.A (pyIter (.ref s.heap.objs.size)) (PIE X bd σ tg R) E { s with heap:=s.heap.push { cls:=.type "range",data:=.fields #[.int lo t,.int hi u,.int 1 v] },toks:=tk }:=by
 refine wpAny_pyIter_range (IsRange.new ..) (small_one h1 h2 O J) ?_;have z:Inv X bd σ H { s with heap:=s.heap.push { cls:=.type "range",data:=.fields #[.int lo t,.int hi u,.int 1 v] },toks:=tk }:=I.kept fun b o e=>Ah _ e;refine⟨(s.heap.push { cls:=.type "range",data:=.fields #[.int lo t,.int hi u,.int 1 v] }).objs.size,[(s.heap.push { cls:=.type "range",data:=.fields #[.int lo t,.int hi u,.int 1 v] }).objs.size],_,_,H,rfl,
  z.kept (t':=tk) fun b o e=>Ah _ e,zC _ lo (hi - lo).toNat,?_,fun b F=>?_,q⟩
 ·have B:lo + ((0:Nat):Int) * 1=lo:=by simp
  have M:(((hi - lo).toNat:Nat):Int) - ((0:Nat):Int)=Cw lo hi 1:=by rw[rangeSize_one];split <;> omega
  show EJ _ _ (lo + ((0:Nat):Int) * 1) ((((hi - lo).toNat:Nat):Int) - ((0:Nat):Int)) 1;rw[B,M];exact Ax _ rfl
 ·have e:b=(s.heap.push { cls:=.type "range",data:=.fields #[.int lo t,.int hi u,.int 1 v] }).objs.size:=by simpa using F
  subst e;exact z.fpOk (Ak _) (z.hok.fresh (Ak _))
def aHl(ta:TA):TI:=fun σ H R=>ta σ H fun vs H1=>∃ j:Int,vs=[.int j]∧-(2 ^ 62)≤j∧j < 2 ^ 62∧R (Itr 0 j.toNat) H1
theorem fQ{a:A6}{ta:TA}{p pos:Pos}(J:Gl X "range")(hm:X.mg "range"=none)(ha:PA X [a] ta)(B:starEach [a] X.env=[(false,eval a X.env)]:=by rfl):PI X tg (.Call (.Name "range" p) [a] [] pos) (aHl ta):=by
 constructor;intro bd s σ H R I h;refine Call_ (mM I J hm boot_range (Cb (thn (ha pos bd s σ H _ I h) fun W U ⟨vs,H1,O,M,z⟩=>?_) B rfl));obtain⟨j,e,z,q2,q⟩:=z;subst e;cases M with
 | cons r F=>
  cases F;obtain⟨t,rfl⟩:=r;exact call_range_1 (aCy O (by omega) (by omega) z q2 (by simpa using q))
def aIb(wi:TI)(g:TG)(tb:TS):TS:=fun D σ H=>wi σ H fun J H1=>∃ W:Nat→Nat→St→Hp→Prop,(∃ m,W 0 m σ H1)∧∀ i m σ H,W i m σ H→
 (J.stop i H∧D.nx σ H)∨(J.go i H∧∃ N:St→Hp→Prop,(∀ σ' H',N σ' H'→∃ m',m' < m∧W (i + 1) m' σ' H')∧∀ x H',J.yld i H x H'→g x σ H' fun σ2 H2=>tb { D with nx:=N,ct:=N,bk:=D.nx } σ2 H2)
def mO(fp:List Ae)(h:A8):List (Ae×Obj):=fp.filterMap fun b=>(h.get? b).map fun o=>(b,o)
theorem jV{fp:List Ae}{h:A8}{b:Ae}{o:Obj}(q:b∈fp)(e:h.get? b=some o):(b,o)∈mO fp h:=List.mem_filterMap.mpr ⟨b,q,by rw[e];rfl⟩
theorem t5{fp:List Ae}{h:A8}{p:Ae×Obj}(B:p∈mO fp h):p.1∈fp∧h.get? p.1=some p.2:=by
 obtain⟨b,hb,e⟩:=List.mem_filterMap.mp B;cases q:h.get? b with
 | none=>rw[q]at e;cases e
 | some o=>
  rw[q]at e;have z:(b,o)=p:=By.inj e;subst z;exact⟨hb,q⟩
theorem Inv.pinned{bd:List (Ae×Obj)}{σ:St}{H:Hp}{s:Ad}{fp:List Ae}(I:Inv X bd σ H s)(q:∀ b∈fp,kQ X bd H b)(B:∀ b∈fp,∃ o,s.heap.get? b=some o∧∀ v,o.data≠.cell v):Inv X (bd ++ mO fp s.heap) σ H s:=
 I.pins_of fun p F=>(A4.mp F).elim (fun z=>I.pin p (AR _ z)) fun z=>by
  obtain⟨hb,e⟩:=t5 z;obtain⟨f0,f1,f2,_⟩:=q p.1 hb;obtain⟨o,e',d⟩:=B p.1 hb;rw[e]at e';cases e';exact⟨e,f0,f1,f2,d⟩
theorem Inv.unpinned{bd pl:List (Ae×Obj)}{σ:St}{H:Hp}{s:Ad}(I:Inv X (bd ++ pl) σ H s):Inv X bd σ H s:=I.pins_of fun p q=>I.pin p (AR _ (C8 _ q))
theorem kX{M:A6}{Y:List Bx}{wi:TI}{g:TG}{tb:TS}{pos:Pos}(hp:PassesOwn (model X.prog X.w) X.A X.env X.xe)(hc:X.calm=true)(hi:PI X tg M wi)(hg:PG X tg g)(B:PSs X Y tb)
  (hs:∀ x,foldedSetIterable M X.env x=pure x:=by intro _;rfl):PS X (.For tg M Y [] pos) (aIb wi g tb):=by
 constructor;intro bd s σ H D I h;refine wpAny_For (thn (hi bd s σ H _ I h) fun v s1 h1=>thn h1 fun aA s2 h2=>?_) hs;obtain⟨it,fp,tn,J,H2,e,I2,T,st2,f2,W,⟨m0,w0⟩,turn⟩:=h2;subst e;have F:∀{H':Hp},(∀ b∈fp,H' b=none)→∀ b∈fp,kQ X bd H' b:=fun hn b B=>⟨hn b B,(f2 b B).2⟩
 refine codeAny_forLoop_any (fun n s'=>∃ i σ' H',Inv X bd σ' H' s'∧tn i s'.heap∧(∀ b∈fp,H' b=none)∧W i n σ' H') ?_ m0 ⟨0,σ,H2,I2,st2,fun b B=>(f2 b B).1,w0⟩;rintro n s3 ⟨i,σ3,H3,I3,ab,ad,w3⟩;rcases turn i n σ3 H3 w3 with⟨stop,qn⟩ | ⟨go,N,hN,step⟩
 ·refine Ct hp (thn (T.done X rfl rfl rfl hc i bd s3 σ3 H3 X.xe I3 (F ad) ab stop) fun r s4 ⟨hr,I4⟩=>?_);subst hr;exact D3 ⟨σ3,H3,I4,qn⟩
 ·refine Ct hp (thn (T.item X rfl rfl rfl hc i bd s3 σ3 H3 X.xe I3 (F ad) ab go) fun r s4 ⟨u,hr,h4⟩=>?_);subst hr;refine Ct hp (thn h4 fun _ s5 ⟨x,H5,I5,r5,y5,Z,aj⟩=>?_);have ag:=I5.pinned (F aj) (T.obj _ _ Z);refine Ct hp (thn (hg _ s5 σ3 H5 x u _ ag r5 (step x H5 y5)) fun _ s6 ⟨σ6,H6,I6,q6⟩=>?_);refine Ct hp (thn (B _ s6 σ6 H6 _ I6 q6) fun f s7 U=>?_);have q:∀{z:St} {O:Hp},Inv X (bd ++ mO fp s5.heap) z O s7→N z O→∃ m,m < n∧∃ i σ' H',Inv X bd σ' H' s7∧tn i s7.heap∧(∀ b∈fp,H' b=none)∧W i m σ' H':=fun{z O} I7 n7=>by
   obtain⟨m',hm,w7⟩:=hN z O n7;refine⟨m',hm,i + 1,z,O,I7.unpinned,T.keep _ _ _ Z fun b B o e=>(I7.pin (b,o) (AR _ (AR _ (jV B e)))).1,fun b B=>?_,w7⟩;obtain⟨o,e,d⟩:=T.obj _ _ Z b B;exact(I7.pin (b,o) (AR _ (AR _ (jV B e)))).2.1
  cases f with
  | next=>obtain⟨z,O,I7,n7⟩:=U;exact q I7 n7
  | cont=>obtain⟨z,O,I7,n7⟩:=U;exact q I7 n7
  | brk=>obtain⟨z,O,I7,U⟩:=U;exact⟨z,O,I7.unpinned,U⟩
  | ret v=>obtain⟨x7,z,O,I7,r7,U⟩:=U;exact⟨x7,z,O,I7.unpinned,r7,U⟩
end
theorem wN{K:Ag}{a:Ae}{xs:List V}{g:TG}{tb:TS}{D:m9}{σ:St}{H:Hp}(z:Nat→St→Hp→Prop)(Y:z 0 σ H)(O:∀ i σ H,i≤xs.length→z i σ H→SqL K H a xs)
  (U:∀ i x σ H,xs[i]?=some x→z i σ H→g x σ H fun F H2=>tb { D with nx:=z (i + 1),ct:=z (i + 1),bk:=D.nx } F H2) (hd:∀ σ H,z xs.length σ H→D.nx σ H):
  ∃ W:Nat→Nat→St→Hp→Prop,(∃ m,W 0 m σ H)∧∀ i m σ H,W i m σ H→
   ((Itl K a).stop i H∧D.nx σ H)∨((Itl K a).go i H∧∃ N:St→Hp→Prop,(∀ J H',N J H'→∃ M,M < m∧W (i + 1) M J H')∧∀ x H',(Itl K a).yld i H x H'→g x σ H' fun F H2=>tb { D with nx:=N,ct:=N,bk:=D.nx } F H2):=by
 refine⟨fun i m σ H=>m=xs.length - i∧i≤xs.length∧z i σ H,⟨xs.length,by simp,Bc _,Y⟩,?_⟩;rintro i m σ H ⟨rfl,hi,p⟩;have q:=O i σ H hi p;by_cases B:i < xs.length
 ·refine .inr ⟨⟨xs,xs[i],q,by simp[B]⟩,z (i + 1),fun J H' Z=>⟨xs.length - (i + 1),by omega,rfl,B,Z⟩,fun x H' y=>?_⟩;obtain⟨e,y⟩:=y;subst e;exact U i x σ _ (y xs q) p
 ·have e:i=xs.length:=by omega
  subst e;exact .inl ⟨⟨xs,q,Ak _⟩,hd σ H p⟩
theorem aAt{K:Ag}{a:Ae}{xs:List V}{g:TG}{tb:TS}{D:m9}{σ:St}{H:Hp}(z:Nat→St→Hp→Prop)(Y:z 0 σ H)(O:∀ i σ H,i≤xs.length→z i σ H→SqT K H a xs)
  (U:∀ i x σ H,xs[i]?=some x→z i σ H→g x σ H fun F H2=>tb { D with nx:=z (i + 1),ct:=z (i + 1),bk:=D.nx } F H2) (hd:∀ σ H,z xs.length σ H→D.nx σ H):
  ∃ W:Nat→Nat→St→Hp→Prop,(∃ m,W 0 m σ H)∧∀ i m σ H,W i m σ H→
   ((Itt K a).stop i H∧D.nx σ H)∨((Itt K a).go i H∧∃ N:St→Hp→Prop,(∀ J H',N J H'→∃ M,M < m∧W (i + 1) M J H')∧∀ x H',(Itt K a).yld i H x H'→g x σ H' fun F H2=>tb { D with nx:=N,ct:=N,bk:=D.nx } F H2):=by
 refine⟨fun i m σ H=>m=xs.length - i∧i≤xs.length∧z i σ H,⟨xs.length,by simp,Bc _,Y⟩,?_⟩;rintro i m σ H ⟨rfl,hi,p⟩;have q:=O i σ H hi p;by_cases B:i < xs.length
 ·refine .inr ⟨⟨xs,xs[i],q,by simp[B]⟩,z (i + 1),fun J H' Z=>⟨xs.length - (i + 1),by omega,rfl,B,Z⟩,fun x H' y=>?_⟩;obtain⟨e,y⟩:=y;subst e;exact U i x σ _ (y xs q) p
 ·have e:i=xs.length:=by omega
  subst e;exact .inl ⟨⟨xs,q,Ak _⟩,hd σ H p⟩
theorem oI{lo:Int}{n:Nat}{g:TG}{tb:TS}{D:m9}{σ:St}{H:Hp}(q:Nat→St→Hp→Prop)(O:q 0 σ H)
  (M:∀ i σ H,i < n→q i σ H→g (.int (lo + i)) σ H fun B H2=>tb { D with nx:=q (i + 1),ct:=q (i + 1),bk:=D.nx } B H2) (hd:∀ σ H,q n σ H→D.nx σ H):
  ∃ W:Nat→Nat→St→Hp→Prop,(∃ m,W 0 m σ H)∧∀ i m σ H,W i m σ H→
   ((Itr lo n).stop i H∧D.nx σ H)∨((Itr lo n).go i H∧∃ N:St→Hp→Prop,(∀ F H',N F H'→∃ J,J < m∧W (i + 1) J F H')∧∀ x H',(Itr lo n).yld i H x H'→g x σ H' fun B H2=>tb { D with nx:=N,ct:=N,bk:=D.nx } B H2):=by
 refine⟨fun i m σ H=>m=n - i∧i≤n∧q i σ H,⟨n,by simp,Bc _,O⟩,?_⟩;rintro i m σ H ⟨rfl,hi,p⟩;by_cases z:i < n
 ·refine .inr ⟨z,q (i + 1),fun F H' U=>⟨n - (i + 1),by omega,rfl,z,U⟩,fun x H' y=>?_⟩;obtain⟨e,y⟩:=y;subst e y;exact M i σ _ z p
 ·have e:i=n:=by omega
  subst e;exact .inl ⟨Ak _,hd σ H p⟩
abbrev R2:=V→V→Hp→VK→Prop
def OpR(X:Cx)(f:Ac→Ac→Sem Ac)(r:R2):Prop:=
 ∀(bd:List (Ae×Obj)) (s:Ad) (σ:St) (H:Hp) (x y:V) (v u:Ac) (Q:VK),Inv X bd σ H s→cQ x v→cQ y u→r x y H Q→
  wpAny (model X.prog X.w) X.A (f v u) (EP X bd σ Q) X.xe s
def UnR(X:Cx)(f:Ac→Sem Ac)(r:V→Hp→VK→Prop):Prop:=
 ∀(bd:List (Ae×Obj)) (s:Ad) (σ:St) (H:Hp) (x:V) (v:Ac) (Q:VK),Inv X bd σ H s→cQ x v→r x H Q→
  wpAny (model X.prog X.w) X.A (f v) (EP X bd σ Q) X.xe s
def gE(X:Cx)(f:Ac)(r:List V→Hp→VK→Prop):Prop:=
 ∀(bd:List (Ae×Obj)) (s:Ad) (σ:St) (H:Hp) (xs:List V) (us:List Ac) (Q:VK),Inv X bd σ H s→cE xs us→r xs H Q→
  wpAny (model X.prog X.w) X.A (call f us) (EP X bd σ Q) X.xe s
def aIc(X:Cx)(r:V→Hp→(Bool→Hp→Prop)→Prop):Prop:=
 ∀(bd:List (Ae×Obj)) (s:Ad) (σ:St) (H:Hp) (x:V) (v:Ac) (Q:Bool→Hp→Prop),Inv X bd σ H s→cQ x v→r x H Q→
  wpAny (model X.prog X.w) X.A (truthy v) (TP X bd σ Q) X.xe s
def tOp(r:R2)(ta tb:TE):TE:=fun σ H Q=>ta σ H fun x H1=>tb σ H1 fun y H2=>r x y H2 Q
def tUn(r:V→Hp→VK→Prop)(ta:TE):TE:=fun σ H Q=>ta σ H fun x H1=>r x H1 Q
inductive aHm(C:Int→Int→Prop)(g:Int→Int→V)(x:V)(y:V)(H:Hp)(Q:VK):Prop
 | mk (i:_) (j:_) (q0:x=.int i) (q1:y=.int j) (q2:C i j) (q3:Q (g i j) H):aHm C g x y H Q
def rI(C:Int→Int→Prop)(g:Int→Int→V):R2:=fun x y H Q=>aHm C g x y H Q
inductive aFz(g:Int→Int→V)(x:V)(y:V)(H:Hp)(Q:VK):Prop
 | mk (i:_) (j:_) (q0:x=.int i) (q1:y=.int j) (q2:Q (g i j) H):aFz g x y H Q
def rI0(g:Int→Int→V):R2:=fun x y H Q=>aFz g x y H Q
inductive aHn(g:Int→V)(x:V)(H:Hp)(Q:VK):Prop
 | mk (i:_) (q0:x=.int i) (q1:Q (g i) H):aHn g x H Q
def rU(g:Int→V):V→Hp→VK→Prop:=fun x H Q=>aHn g x H Q
section
variable{X:Cx}{a b c:A6}{ta tb tc:TE}{pos:Pos}
theorem aGi(ha:PE X a ta)(O:PE X b tb){bd:List (Ae×Obj)}{s:Ad}{σ:St}{H:Hp}{R:V→V→Hp→Prop}(I:Inv X bd σ H s)
  (h:ta σ H fun x H1=>tb σ H1 fun y H2=>R x y H2) {Q:Ac→Ad→Prop} {f:Ac→Ac→Sem Ac}
  (Z:∀ v u q x y H2,Inv X bd σ H2 q→cQ x v→cQ y u→R x y H2→wpAny (model X.prog X.w) X.A (f v u) Q X.xe q):
  wpAny (model X.prog X.w) X.A (eval a X.env) (fun v F=>wpAny (model X.prog X.w) X.A (eval b X.env) (fun u M=>wpAny (model X.prog X.w) X.A (f v u) Q X.xe M) X.xe F) X.xe s:=by
 refine thn (ha bd s σ H _ I h) fun v W ⟨x,H1,U,Y,J⟩=>?_;refine thn (O bd W σ H1 _ U J) fun u q ⟨y,H2,B,z,q2⟩=>?_;exact Z v u q x y H2 B Y z q2
theorem bO{op:Operator}{r:R2}(F:OpR X (binaryOp op) r)(ha:PE X a ta)(M:PE X b tb):PE X (.BinOp a op b pos) (tOp r ta tb):=by
 constructor;intro bd s σ H Q I h;exact wpAny_BinOp (aGi ha M I h fun v u O x y H2 B z J q=>F bd O σ H2 x y v u Q B z J q)
theorem wO{op:UnaryOp}{r:V→Hp→VK→Prop}(B:UnR X (unaryOp op) r)(ha:PE X a ta):PE X (.UnaryOp op a pos) (tUn r ta):=by
 constructor;intro bd s σ H Q I h;exact UnaryOp_ (thn (ha bd s σ H _ I h) fun v J ⟨x,H1,F,q,z⟩=>B bd J σ H1 x v Q F q z)
theorem opI{f:Ac→Ac→Sem Ac}{C:Int→Int→Prop}{g:Int→Int→Int}
  (z:∀(i j:Int) (t u:Tok) (s:Ad) (Q:Ac→Ad→Prop) (E:Ac→Ad→Prop),C i j→Q (.int (g i j) s.toks) { s with toks:=s.toks + 1 }→wpAny (model X.prog X.w) X.A (f (.int i t) (.int j u)) Q E s):
  OpR X f (rI C fun i j=>.int (g i j)):=by
 intro bd s σ H x y v u Q I B F h;obtain⟨i,j,rfl,rfl,hc,q⟩:=h;obtain⟨t,rfl⟩:=B;obtain⟨t',rfl⟩:=F;exact z i j t t' s _ _ hc ⟨.int (g i j),H,I.tok _,⟨_,rfl⟩,q⟩
theorem aHo{f:Ac→Ac→Sem Ac}{g:Int→Int→Int}
  (z:∀(i j:Int) (t u:Tok) (s:Ad) (Q:Ac→Ad→Prop) (E:Ac→Ad→Prop),Q (.int (g i j) s.toks) { s with toks:=s.toks + 1 }→wpAny (model X.prog X.w) X.A (f (.int i t) (.int j u)) Q E s):
  OpR X f (rI0 fun i j=>.int (g i j)):=by
 intro bd s σ H x y v u Q I B F h;obtain⟨i,j,rfl,rfl,q⟩:=h;obtain⟨t,rfl⟩:=B;obtain⟨t',rfl⟩:=F;exact z i j t t' s _ _ ⟨.int (g i j),H,I.tok _,⟨_,rfl⟩,q⟩
theorem aEF{f:Ac→Ac→Sem Ac}{g:Int→Int→Bool}
  (z:∀(i j:Int) (t u:Tok) (s:Ad) (Q:Ac→Ad→Prop) (E:Ac→Ad→Prop),Q (.bool (g i j)) s→wpAny (model X.prog X.w) X.A (f (.int i t) (.int j u)) Q E s):
  OpR X f (rI0 fun i j=>.bl (g i j)):=by
 intro bd s σ H x y v u Q I B F h;obtain⟨i,j,rfl,rfl,q⟩:=h;obtain⟨t,rfl⟩:=B;obtain⟨t',rfl⟩:=F;exact z i j t t' s _ _ ⟨.bl (g i j),H,I,rfl,q⟩
def aId(i j:Int):Prop:=0 < j∧j < 1073741824
def aGj(i j:Int):Prop:=0≤j∧j≤1000000∧i.natAbs < 2 ^ 64
def aGk(i j:Int):Prop:=(-(2 ^ 64) < i∧i < 2 ^ 64)∨(-(2 ^ 64) < j∧j < 2 ^ 64)
theorem aGk.ok{i j:Int}(h:aGk i j):IntMulOk i j:=by
 rcases h with⟨h1,h2⟩ | ⟨h1,h2⟩
 ·exact .of_left (intBits_le_64 h1 h2)
 ·exact .of_right (intBits_le_64 h1 h2)
theorem dQ:OpR X (binaryOp .Add) (rI0 fun i j=>.int (i + j)):=aHo fun _ _ _ _ _ _ _ q=>add_int q
theorem oJ:OpR X (binaryOp .Sub) (rI0 fun i j=>.int (i - j)):=aHo fun _ _ _ _ _ _ _ q=>sub_int q
theorem jW:OpR X (binaryOp .Mult) (rI aGk fun i j=>.int (i * j)):=opI fun _ _ _ _ _ _ _ hc q=>mul_int q hc.ok
theorem aAu:OpR X (binaryOp .FloorDiv) (rI aId fun i j=>.int (i / j)):=opI fun i j _ _ _ _ _ hc q=>by
 have h1:(0:Int) < j:=hc.1;have h2:j < 1073741824:=hc.2;exact floordiv_int (by omega) (by rw[Int.fdiv_eq_ediv_of_nonneg i (by omega)];exact q) (.inl (PyProof.noPylong_small (by omega)))
theorem fX:OpR X (binaryOp .Mod) (rI (fun _ j=>0 < j) fun i j=>.int (i % j)):=opI fun i j _ _ _ _ _ hc q=>by
 have h1:(0:Int) < j:=hc;exact mod_int' (by omega) (by rw[Int.fmod_eq_emod_of_nonneg i (by omega)];exact q)
theorem i5:OpR X (binaryOp .Pow) (rI aGj fun i j=>.int (i ^ j.toNat)):=opI fun _ _ _ _ _ _ _ hc q=>pow_int_small hc.1 hc.2.1 hc.2.2 q
theorem unI{f:Ac→Sem Ac}{g:Int→Int}
  (z:∀(i:Int) (t:Tok) (s:Ad) (Q:Ac→Ad→Prop) (E:Ac→Ad→Prop),Q (.int (g i) s.toks) { s with toks:=s.toks + 1 }→wpAny (model X.prog X.w) X.A (f (.int i t)) Q E s):
  UnR X f (rU fun i=>.int (g i)):=by
 intro bd s σ H x v Q I B h;obtain⟨i,rfl,q⟩:=h;obtain⟨t,rfl⟩:=B;exact z i t s _ _ ⟨.int (g i),H,I.tok _,⟨_,rfl⟩,q⟩
theorem qI:UnR X (unaryOp .USub) (rU fun i=>.int (-i)):=unI fun _ _ _ _ _ q=>neg_int q
end
def aHp:V→V→Bool
 | .non,.non=>true | .non,.int _=>true | .int _,.non=>true | .non,.bl _=>true | .bl _,.non=>true | .non,.str _=>true | .str _,.non=>true
 | .int _,.int _=>true | .bl _,.bl _=>true | .str _,.str _=>true | .byt _,.byt _=>true
 | .int _,.str _=>true | .str _,.int _=>true | .bl _,.str _=>true | .str _,.bl _=>true
 | _,_=>false
def rEq:R2:=fun x y H Q=>aHp x y=true∧Q (.bl (decide (x=y))) H
def rNe:R2:=fun x y H Q=>aHp x y=true∧Q (.bl (!decide (x=y))) H
theorem aAv{i j:Int}:decide (V.int i=V.int j)=(i == j):=by
 rw[BB];simp
theorem aCz{i j:Bool}:decide (V.bl i=V.bl j)=(i == j):=by
 rw[BB];simp
theorem aAw{i j:Str}:decide (V.str i=V.str j)=(i == j):=by
 rw[BB];simp
theorem aAx{i j:Array UInt8}:decide (V.byt i=V.byt j)=(i.toList == j.toList):=by
 rw[BB];cases i;cases j;simp
section
variable{X:Cx}{a b c:A6}{ta tb tc:TE}{pos:Pos}
theorem cY{bd:List (Ae×Obj)}{σ:St}{H:Hp}{s:Ad}{Q:VK}{k z:Bool}(I:Inv X bd σ H s)(q:Q (.bl k) H)(e:k=z):EP X bd σ Q (.bool z) s:=by
 subst e;exact⟨.bl k,H,I,rfl,q⟩
theorem eU:OpR X (compareOp .Eq) rEq:=by
 intro bd s σ H x y v u Q I B z h;obtain⟨hs,q⟩:=h;cases x with
 | non=>
  cases B;cases y with
  | non=>cases z;exact PySem.EqNone.eq_none_none (cY I q (by simp))
  | bl j=>cases z;exact PySem.EqNone.eq_none_bool (cY I q (by simp))
  | int j=>obtain⟨t',rfl⟩:=z;exact PySem.EqNone.eq_none_int (cY I q (by simp))
  | str j=>obtain⟨t',rfl⟩:=z;exact PySem.EqNone.eq_none_str (cY I q (by simp))
  | _=>exact absurd (show false=true from hs) Aw
 | bl i=>
  cases B;cases y with
  | non=>cases z;exact PySem.EqNone.eq_bool_none (cY I q (by simp))
  | bl j=>cases z;exact eq_bool (cY I q aCz)
  | str j=>obtain⟨t',rfl⟩:=z;exact PySem.EqMixed.eq_bool_str (cY I q (by simp))
  | _=>exact absurd (show false=true from hs) Aw
 | int i=>
  obtain⟨t,rfl⟩:=B;cases y with
  | non=>cases z;exact PySem.EqNone.eq_int_none (cY I q (by simp))
  | int j=>obtain⟨t',rfl⟩:=z;exact eq_int (cY I q aAv)
  | str j=>obtain⟨t',rfl⟩:=z;exact PySem.EqMixed.eq_int_str (cY I q (by simp))
  | _=>exact absurd (show false=true from hs) Aw
 | str i=>
  obtain⟨t,rfl⟩:=B;cases y with
  | non=>cases z;exact PySem.EqNone.eq_str_none (cY I q (by simp))
  | bl j=>cases z;exact PySem.EqMixed.eq_str_bool (cY I q (by simp))
  | int j=>obtain⟨t',rfl⟩:=z;exact PySem.EqMixed.eq_str_int (cY I q (by simp))
  | str j=>obtain⟨t',rfl⟩:=z;exact eq_str (cY I q aAw)
  | _=>exact absurd (show false=true from hs) Aw
 | byt i=>
  obtain⟨t,rfl⟩:=B;cases y with
  | byt j=>obtain⟨t',rfl⟩:=z;exact PySem.W.eq_bytes (cY I q aAx)
  | _=>exact absurd (show false=true from hs) Aw
 | _=>cases y <;> exact absurd (show false=true from hs) Aw
theorem pI:OpR X (compareOp .NotEq) rNe:=by
 intro bd s σ H x y v u Q I B z h;obtain⟨hs,q⟩:=h;cases x with
 | non=>
  cases B;cases y with
  | non=>cases z;exact PySem.EqNone.ne_none_none (cY I q (by simp))
  | bl j=>cases z;exact PySem.EqNone.ne_none_bool (cY I q (by simp))
  | int j=>obtain⟨t',rfl⟩:=z;exact PySem.EqNone.ne_none_int (cY I q (by simp))
  | str j=>obtain⟨t',rfl⟩:=z;exact PySem.EqNone.ne_none_str (cY I q (by simp))
  | _=>exact absurd (show false=true from hs) Aw
 | bl i=>
  cases B;cases y with
  | non=>cases z;exact PySem.EqNone.ne_bool_none (cY I q (by simp))
  | bl j=>cases z;exact ne_bool (cY I q (congrArg not aCz))
  | str j=>obtain⟨t',rfl⟩:=z;exact PySem.EqMixed.ne_bool_str (cY I q (by simp))
  | _=>exact absurd (show false=true from hs) Aw
 | int i=>
  obtain⟨t,rfl⟩:=B;cases y with
  | non=>cases z;exact PySem.EqNone.ne_int_none (cY I q (by simp))
  | int j=>obtain⟨t',rfl⟩:=z;exact ne_int (cY I q (congrArg not aAv))
  | str j=>obtain⟨t',rfl⟩:=z;exact PySem.EqMixed.ne_int_str (cY I q (by simp))
  | _=>exact absurd (show false=true from hs) Aw
 | str i=>
  obtain⟨t,rfl⟩:=B;cases y with
  | non=>cases z;exact PySem.EqNone.ne_str_none (cY I q (by simp))
  | bl j=>cases z;exact PySem.EqMixed.ne_str_bool (cY I q (by simp))
  | int j=>obtain⟨t',rfl⟩:=z;exact PySem.EqMixed.ne_str_int (cY I q (by simp))
  | str j=>obtain⟨t',rfl⟩:=z;exact ne_str (cY I q (congrArg not aAw))
  | _=>exact absurd (show false=true from hs) Aw
 | byt i=>
  obtain⟨t,rfl⟩:=B;cases y with
  | byt j=>obtain⟨t',rfl⟩:=z;exact PySem.W.ne_bytes (cY I q (congrArg not aAx))
  | _=>exact absurd (show false=true from hs) Aw
 | _=>cases y <;> exact absurd (show false=true from hs) Aw
theorem aCA:OpR X (compareOp .Lt) (rI0 fun i j=>.bl (decide (i < j))):=aEF fun _ _ _ _ _ _ _ q=>lt_int q
theorem l7:OpR X (compareOp .LtE) (rI0 fun i j=>.bl (decide (i≤j))):=aEF fun _ _ _ _ _ _ _ q=>le_int q
theorem aFA:OpR X (compareOp .Gt) (rI0 fun i j=>.bl (decide (j < i))):=aEF fun _ _ _ _ _ _ _ q=>gt_int q
theorem aCB:OpR X (compareOp .GtE) (rI0 fun i j=>.bl (decide (j≤i))):=aEF fun _ _ _ _ _ _ _ q=>ge_int q
theorem aCC:OpR X (compareOp .Is) (fun x y H Q=>y=.non∧Q (.bl (decide (x=.non))) H):=by
 intro bd s σ H x y v u Q I z B h;obtain⟨rfl,q⟩:=h;cases B;refine is_none_gen (cY I q ?_);cases x <;> first
  | (cases z;rfl)
  | (obtain⟨t,rfl⟩:=z;rfl)
theorem aEG:OpR X (compareOp .IsNot) (fun x y H Q=>y=.non∧Q (.bl (!decide (x=.non))) H):=by
 intro bd s σ H x y v u Q I z B h;obtain⟨rfl,q⟩:=h;cases B;refine isnot_none_gen (cY I q ?_);cases x <;> first
  | (cases z;rfl)
  | (obtain⟨t,rfl⟩:=z;rfl)
theorem cA(b:A6){op:Fg}(h:op≠.In:=by decide)(h2:op≠.NotIn:=by decide):behindInMarks op b=false:=by
 have z:(op == CmpOp.In)=false:=by cases op <;> first | rfl | exact absurd rfl h
 have q:(op == CmpOp.NotIn)=false:=by cases op <;> first | rfl | exact absurd rfl h2
 cases b <;> simp[behindInMarks,z,q]
theorem fY{op:Fg}{r:R2}(F:OpR X (compareOp op) r)(ha:PE X a ta)(M:PE X b tb)(hm:behindInMarks op b=false):PE X (.Compare a [op] [b] pos) (tOp r ta tb):=by
 constructor;intro bd s σ H Q I h;exact wpAny_Compare1 (aGi ha M I h fun v u O x y H2 B z J q=>F bd O σ H2 x y v u Q B z J q) hm
def aFB(t:TE):TT:=fun σ H Q=>t σ H fun x H'=>As V.bl x fun k=>Q k H'
theorem bS{op:Fg}{r:R2}(J:OpR X (compareOp op) r)(ha:PE X a ta)(Y:PE X b tb)(hm:behindInMarks op b=false):PT X (.Compare a [op] [b] pos) (aFB (tOp r ta tb)):=by
 constructor;intro bd s σ H Q I h;refine wpAny_isTrue_Compare1 (thn (ha bd s σ H _ I h) fun v s1 ⟨x,H1,I1,r1,F⟩=>thn (Y bd s1 σ H1 _ I1 F) fun u Z ⟨y,H2,B,q,W⟩=>
  thn (J bd Z σ H2 x y v u _ B r1 q W) fun c s3 ⟨z,H3,M,U,k,e,O⟩=>?_) hm
 subst e;cases U;exact BA ⟨H3,M,O⟩
def aCD(r r':R2)(ta tb tc:TE):TE:=fun σ H Q=>ta σ H fun x H1=>tb σ H1 fun y H2=>r x y H2 fun z H3=>As V.bl z fun k=>
 (if k=true then tc σ H3 fun w' H4=>r' y w' H4 Q else Q (.bl false) H3)
theorem nB{op q:Fg}{r J:R2}(ho:OpR X (compareOp op) r)(B:OpR X (compareOp q) J)(ha:PE X a ta)(hb:PE X b tb)(hc:PE X c tc)
  (hm:lastMarks [op,q] [b,c]=false:=by with_unfolding_all rfl):PE X (.Compare a [op,q] [b,c] pos) (aCD r J ta tb tc):=by
 constructor;intro bd s σ H Q I h;refine Compare_chain (thn (ha bd s σ H _ I h) fun v s1 ⟨x,H1,I1,r1,q1⟩=>chain_link (thn (hb bd s1 σ H1 _ I1 q1) fun u s2 ⟨y,H2,Z,F,q2⟩=>
  thn (ho bd s2 σ H2 x y v u _ Z r1 F q2) fun d W ⟨z,U,M,r3,k,e,O⟩=>?_)) hm
 subst e;cases r3;refine BA ?_;cases k with
 | false=>exact ite_ff ⟨.bl false,U,M,rfl,O⟩
 | true=>exact ite_tt (chain_last (thn (hc bd W σ U _ M O) fun w' s4 ⟨Y,H4,I4,r4,q4⟩=>B bd s4 σ H4 y Y u w' Q I4 F r4 q4))
theorem qJ{op q:Fg}{r J:R2}(ho:OpR X (compareOp op) r)(B:OpR X (compareOp q) J)(ha:PE X a ta)(hb:PE X b tb)(hc:PE X c tc)
  (hm:lastMarks [op,q] [b,c]=false:=by with_unfolding_all rfl):PT X (.Compare a [op,q] [b,c] pos) (aFB (aCD r J ta tb tc)):=by
 constructor;intro bd s σ H Q I h;refine isTrue_chain (thn (ha bd s σ H _ I h) fun v s1 ⟨x,H1,I1,r1,q1⟩=>test_link (thn (hb bd s1 σ H1 _ I1 q1) fun u s2 ⟨y,H2,Z,F,q2⟩=>
  thn (ho bd s2 σ H2 x y v u _ Z r1 F q2) fun d W ⟨z,U,M,r3,k,e,O⟩=>?_)) hm
 subst e;cases r3;refine BA ?_;cases k with
 | false=>
  obtain⟨k',e',q'⟩:=O;cases e';exact ite_ff ⟨U,M,q'⟩
 | true=>
  refine ite_tt (test_last (thn (hc bd W σ U _ M O) fun w' s4 ⟨Y,H4,I4,r4,q4⟩=>thn (B bd s4 σ H4 y Y u w' _ I4 F r4 q4) fun d' s5 ⟨z2,H5,I5,r5,k2,e2,q5⟩=>?_));subst e2;cases r5;exact BA ⟨H5,I5,q5⟩
def aGl(K:Ag)(x:V)(H:Hp)(k:Bool):Prop:=
 match x with
 | .non=>k=false
 | .bl b=>k=b
 | .int i=>k=(i != 0)
 | .str y=>y.length≤sizeLine∧k=((y.length:Int) != 0)
 | .byt y=>y.size≤sizeLine∧k=((y.size:Int) != 0)
 | .ref p=>(∃ xs,SqL K H p xs∧k=!xs.isEmpty)∨(∃ xs,SqT K H p xs∧k=!xs.isEmpty)∨∃ de,H p=some (.dK de)∧k=!de.isEmpty
 | _=>False
theorem zD{κ:Type}{de:List (κ×V)}{vs:List (κ×Ac)}(r:KV de vs):(!vs.isEmpty)=!de.isEmpty:=by
 cases r <;> rfl
theorem qK{xs:List V}{its:List Ac}(r:cE xs its):(!its.toArray.isEmpty)=!xs.isEmpty:=by
 cases r <;> simp
theorem mQ:(sizeLine:Nat) < 2 ^ 63:=by rw[Ee];decide
theorem aCE:aIc X (fun x H Q=>∃ k,aGl X.K x H k∧Q k H):=by
 intro bd s σ H x v Q I F h;obtain⟨k,e,q⟩:=h;have J:=mQ;have M:sizeLine=16777216:=Ee;cases x with
 | non=>
  cases F;have z:k=false:=e;subst z;exact truthy_none ⟨H,I,q⟩
 | bl b=>
  cases F;have z:k=b:=e;subst z;exact BA ⟨H,I,q⟩
 | int i=>
  obtain⟨t,rfl⟩:=F;have z:k=(i != 0):=e;subst z;exact PySem.P.truthy_int ⟨H,I,q⟩
 | str y=>
  obtain⟨t,rfl⟩:=F;obtain⟨hy,z⟩:y.length≤sizeLine∧k=((y.length:Int) != 0):=e;subst z;exact PySem.P.truthy_str (by omega) ⟨H,I.tok _,q⟩
 | byt y=>
  obtain⟨t,rfl⟩:=F;obtain⟨hy,z⟩:y.size≤sizeLine∧k=((y.size:Int) != 0):=e;subst z;exact PySem.W.truthy_bytes (by omega) ⟨H,I.tok _,q⟩
 | ref p=>
  cases F;have z:(∃ xs,SqL X.K H p xs∧k=!xs.isEmpty)∨(∃ xs,SqT X.K H p xs∧k=!xs.isEmpty)∨∃ de,H p=some (.dK de)∧k=!de.isEmpty:=e;rcases z with⟨xs,hx,z⟩ | ⟨xs,hx,z⟩ | ⟨de,hx,z⟩
  ·subst z;obtain⟨its,r,pl,hz⟩:=I.list hx;have B:=r.length;exact wpAny_truthy_list pl.isList (by simp only[Ao];omega) ⟨H,I.tok _,by rw[qK r];exact q⟩
  ·subst z;obtain⟨its,r,pl,hz⟩:=I.tuple hx;have B:=r.length;exact truthy_tuple pl (by simp only[Ao];omega) ⟨H,I.tok _,by rw[qK r];exact q⟩
  ·subst z;obtain⟨hz,hS,vs,r,m⟩:de.length≤sizeLine∧(p == sysModules)=false∧∃ vs,KV de vs∧s.heap.DictOf (cJ X.prog X.w) p vs:=I.hok p _ hx;have B:de.length=vs.length:=DW r;exact wpAny_truthy_dict hS m (by omega) ⟨H,I.tok _,by rw[zD r];exact q⟩
 | _=>exact(show False from e).elim
theorem wP(ha:PE X a ta)(z:∀ q,isTrue a X.env q=(do let v ← q;standAt a.pos;holding [v] (truthy v))):
  PT X a (fun σ H Q=>ta σ H fun x H'=>∃ k,aGl X.K x H' k∧Q k H'):=by
 constructor;intro bd s σ H Q I h;exact isTrue_plain (thn (ha bd s σ H _ I h) fun v F ⟨x,H1,M,J,B⟩=>aCE bd F σ H1 x v Q M J B) (z _)
inductive kY(x:V)(y:V)(H:Hp)(Q:VK):Prop
 | mk (i:_) (j:_) (q0:x=.str i) (q1:y=.str j) (q2:i.length + j.length≤sizeLine) (q3:Q (.str (i ++ j)) H):kY x y H Q
def vL:V→V→Hp→VK→Prop:=fun x y H Q=>kY x y H Q
theorem jX:OpR X (binaryOp .Add) vL:=by
 intro bd s σ H x y v u Q I z F h;obtain⟨i,j,rfl,rfl,hz,q⟩:=h;obtain⟨t,rfl⟩:=z;obtain⟨B,rfl⟩:=F;exact add_str (fun B tk=>⟨.str (i ++ j),H,I.tok _,⟨_,rfl⟩,q⟩) hz
theorem fH{x:V}{q:List Ac}(r:cE [x] q):∃ u,q=[u]∧cQ x u:=by
 cases r with
 | cons B z=>cases z;exact⟨_,rfl,B⟩
theorem aFC{x y:V}{q:List Ac}(r:cE [x,y] q):∃ u z,q=[u,z]∧cQ x u∧cQ y z:=by
 cases r with
 | cons M B=>
  cases B with
  | cons F J=>cases J;exact⟨_,_,rfl,M,F⟩
inductive nC(xs:List V)(H:Hp)(Q:VK):Prop
 | mk (i:_) (q0:xs=[.int i]) (q1:Q (.int (if i < 0 then -i else i)) H):nC xs H Q
def zE:List V→Hp→VK→Prop:=fun xs H Q=>nC xs H Q
theorem qL:gE X (.builtin "abs") zE:=by
 intro bd s σ H xs z Q I r h;obtain⟨i,rfl,q⟩:=h;obtain⟨u,rfl,t,rfl⟩:=fH r;exact call_abs_int fun u tk=>⟨.int (if i < 0 then -i else i),H,I.tok _,⟨_,rfl⟩,q⟩
inductive l9(xs:List V)(H:Hp)(Q:VK):Prop
 | mk (i:_) (j:_) (q0:xs=[.int i,.int j]) (q1:Q (.int (if j < i then j else i)) H):l9 xs H Q
def wQ:List V→Hp→VK→Prop:=fun xs H Q=>l9 xs H Q
theorem t6(hc:X.calm=true):gE X (.builtin "min") wQ:=by
 intro bd s σ H xs B Q I r h;obtain⟨i,j,rfl,q⟩:=h;obtain⟨u,w',rfl,⟨t,rfl⟩,⟨t',rfl⟩⟩:=aFC r;refine min_two_ints (I.ok.hd hc) fun h' tk k=>⟨_,H,I.kept k,?_,q⟩
 by_cases z:j < i
 ·rw[Ib z,Ib z];exact⟨_,rfl⟩
 ·rw[Ia z,Ia z];exact⟨_,rfl⟩
theorem aBC:gE X (.type "int") (fun xs H Q=>(∃ i,xs=[.int i]∧Q (.int i) H)∨∃ k,xs=[.bl k]∧Q (.int (if k then 1 else 0)) H):=by
 intro bd s σ H xs z Q I r h;rcases h with⟨i,rfl,q⟩ | ⟨k,rfl,q⟩
 ·obtain⟨u,rfl,t,rfl⟩:=fH r;exact call_int_int ⟨.int i,H,I,⟨_,rfl⟩,q⟩
 ·obtain⟨u,rfl,r1⟩:=fH r;cases r1;exact call_int_bool ⟨.int (if k then 1 else 0),H,I.tok _,⟨_,rfl⟩,q⟩
end
structure aGm(h:A8)(x dx C:Ae)(mA:Str→Option Ac):Prop where
 obj:h.get? x=some (Eg C dx)
 ns:h.Ns1 dx mA
 ne:dx≠x
theorem aBD{h:A8}{dx:Ae}{mA:Str→Option Ac}(n:h.Ns1 dx mA):∃ od,h.get? dx=some od∧∀ name,Eo name od=some (mA name):=by
 obtain⟨o,es,ep,ho,hd,hk,_,hm⟩:=n;refine⟨o,ho,fun name=>?_⟩;have e:=hm name;unfold nsFind findBy at e;rw[← Array.find?_toList]at e;unfold Eo;rw[hd];dsimp only;split
 ·rename_i y q;rw[q]at e;exact congrArg some e
 ·rename_i q;rw[q]at e;have a:es.toList.any (·.refKey)=false:=by
   rw[List.any_eq_false];intro y F;obtain⟨z,t,hkey⟩:=hk y (Array.mem_toList_iff.mp F);simp[DictEntry.refKey,hkey]
  have B:¬ es.toList.any (·.refKey)=true:=by rw[a];exact Aw
  rw[Ia B];exact congrArg some e
theorem aGm.look{h:A8}{x dx C:Ae}{mA:Str→Option Ac}(I:aGm h x dx C mA):∃ od,PySem.W.InstAt h x (Eg C dx) C (some od)∧∀ name,Eo name od=some (mA name):=
 let ⟨od,ho,hl⟩:=aBD I.ns
 ⟨od,⟨I.obj,rfl,rfl,ho⟩,hl⟩
section
variable{prog:Ay}{w:AQ}{A:AL}{E:Ac→Ad→Prop}{s:Ad}{K:Ag}{x dx C f:Ae}{mA:Str→Option Ac}{name:Str}{v:Ac}
end
theorem m7.some_of{v:V}{o:Option Ac}(r:m7 (some v) o):∃ u,o=some u∧cQ v u:=by
 cases o with
 | none=>exact(show False from r).elim
 | some u=>exact⟨u,rfl,r⟩
section
variable{P:Ay}{w:AQ}{H H':Hp}{h h':A8}{a C dx:Ae}{fs fq:List (Str×V)}
theorem aEH(hok:HOk P w H h)(e:H a=some (.ins C dx fs)):∃ mA,aGm h a dx C mA∧(∀ f,m7 (fs.lookup f) (mA f))∧PySem.Within mA (fs.map (·.1))∧fs.length≤1000∧H dx=some (.own a):=by
 obtain⟨d,z,ne,ob,mA,n,r,q⟩:=(show dB P w H h a (.ins C dx fs) from hok a _ e)
 exact⟨mA,⟨ob,n,ne⟩,r,q,z,d⟩
end
structure Cls(K:Ag)(C:Ae):Prop where
 pg:PySem.W.plainGet K C D7=true
 hd:PySem.W.hasDictIn K C=true
 po:PySem.W.plainOver K C=true
 sa:Dg K (.ref C) "__setattr__"=some (some (.builtin "object.__setattr__"))
theorem Cls.get{K:Ag}{C:Ae}(c:Cls K C)(f:Str):PySem.W.plainGet K C f=true:=c.pg
structure Con(K:Ag)(C:Ae)(f:Str)(v:V)(u:Ac):Prop where
 at_:Dg K (.ref C) f=some (some u)
 rel:cQ v u
 get:PySem.W.specialIn K u "__get__"=some none
 cp:PySem.W.copiedNames.contains f=false
structure aIT(K:Ag)(C:Ae)(m:Str)(f:Ae):Prop where
 at_:Dg K (.ref C) m=some (some (.ref f))
 fn:PySem.W.isFn K (.ref f)=true
 kp:Aj K (.ref f)=true
section
variable{X:Cx}{bd:List (Ae×Obj)}{σ:St}{H:Hp}{s:Ad}{a C dx:Ae}{fs:List (Str×V)}{f:Str}{v:V}{A:AL}{E:Ac→Ad→Prop}
end
section
variable{X:Cx}{o e value:A6}{f:Str}{pos du tpos:Pos}{ta tv:TE}
end
section
variable{X:Cx}{bd:List (Ae×Obj)}{σ:St}{H:Hp}{s:Ad}{A:AL}{E:Ac→Ad→Prop}{Q:Ac→Ad→Prop}{c:Ac}{b:Bool}
inductive kU(K:Ag)(H:Hp):V→Ac→Prop where
 | non:kU K H .non (.type "NoneType")
 | bl (x:Bool):kU K H (.bl x) (.type "bool")
 | int (i:Int):kU K H (.int i) (.type "int")
 | str (x:Str):kU K H (.str x) (.type "str")
 | flt (x:UInt64):kU K H (.flt x) (.type "float")
 | lst {a:Ae} {xs:List V} (e:H a=some (.lst xs)):kU K H (.ref a) (.type "list")
 | frz {a:Ae} {o:Obj} {xs:List V} (e:H a=some (.frz o (.lst xs))):kU K H (.ref a) (.type "list")
 | tup {a:Ae} {xs:List V} (e:H a=some (.tup xs)):kU K H (.ref a) (.type "tuple")
 | dK {a:Ae} {de:List (Key×V)} (e:H a=some (.dK de)):kU K H (.ref a) (.type "dict")
 | dT {a:Ae} {de:List (List Key×V)} (e:H a=some (.dT de)):kU K H (.ref a) (.type "dict")
 | ins {a C dx:Ae} {fs:List (Str×V)} (e:H a=some (.ins C dx fs)) (cl:Cls K C) (ha:Dg K (.ref C) "__class__"=some (some (.builtin "object.__class__")))
   (hn:PySem.W.specialIn K (.builtin "object.__class__") "__get__"=some (some (.builtin "getset_descriptor.__get__"))) (htk:PySem.W.takesIn K (.builtin "object.__class__")=some true)
   (hm:PySem.W.mroIn K C (.type "object")=some true):kU K H (.ref a) (.ref C)
theorem aBF{x:V}{u t:Ac}(I:Inv X bd σ H s)(B:cQ x u)(ty:kU X.K H x t)(e:Bw X.K t c=some b)(h:∀ tk,Q (.bool b) { s with toks:=tk }):
  wpAny (model X.prog X.w) A (call (.builtin "isinstance") [u,c]) Q E s:=by
 cases ty with
 | non=>cases(show u=BS from B);exact Bz PySem.W.kitx_none I.kIn Cf e (fun z=>nomatch z) h
 | bl y=>cases(show u=EW y from B);exact Bz PySem.W.kitx_bool I.kIn Cf e (fun z=>nomatch z) h
 | int i=>obtain⟨t,q⟩:=(show∃ t,u=Bs i t from B);cases q;exact Bz PySem.W.kitx_int I.kIn Cf e (fun z=>nomatch z) h
 | str y=>obtain⟨t,q⟩:=(show∃ t,u=Bp y t from B);cases q;exact Bz PySem.W.kitx_str I.kIn Cf e (fun z=>nomatch z) h
 | flt y=>obtain⟨t,q⟩:=(show∃ t,u=Value.float y t from B);cases q;exact Bz PySem.W.kitx_float I.kIn Cf e (fun z=>nomatch z) h
 | @lst a xs F=>
  cases(show u=AO a from B);obtain⟨_,_,n,_,h1⟩:=(show dB X.prog X.w H s.heap a (.lst xs) from I.hok a _ F)
  exact Bz PySem.W.kitx_list I.kIn ⟨_,h1,rfl⟩ e (fun z=>nomatch z) h
 | @frz a ob xs F=>
  cases(show u=AO a from B);obtain⟨_,_,_,n,_,h1⟩:=(show dB X.prog X.w H s.heap a (.frz ob (.lst xs)) from I.hok a _ F)
  exact Bz PySem.W.kitx_list I.kIn ⟨_,h1,rfl⟩ e (fun z=>nomatch z) h
 | @tup a xs F=>
  cases(show u=AO a from B);obtain⟨_,_,_,p⟩:=(show dB X.prog X.w H s.heap a (.tup xs) from I.hok a _ F)
  obtain⟨o,h1,h2,_⟩:=p;exact Bz PySem.W.kitx_tuple I.kIn ⟨o,h1,h2.1⟩ e (fun z=>nomatch z) h
 | @dK a de F=>
  cases(show u=AO a from B);obtain⟨_,_,vs,_,p⟩:=(show dB X.prog X.w H s.heap a (.dK de) from I.hok a _ F)
  obtain⟨o,es,ep,h1,h2,_⟩:=p;exact Bz PySem.W.kitx_dict I.kIn ⟨o,h1,h2.1⟩ e (fun z=>nomatch z) h
 | @dT a de F=>
  cases(show u=AO a from B);obtain⟨_,_,xs,_,o,es,ep,h1,h2,_⟩:=(show dB X.prog X.w H s.heap a (.dT de) from I.hok a _ F)
  exact Bz PySem.W.kitx_dict I.kIn ⟨o,h1,h2.1⟩ e (fun z=>nomatch z) h
 | @ins a C dx fs F U ha hn M hm=>
  cases(show u=AO a from B);obtain⟨mA,O,_⟩:=aEH I.hok F;obtain⟨od,J,_⟩:=O.look;exact Bz (PySem.W.kitx_own (U.get _) U.hd ha hn M hm) I.kIn J e (fun z=>nomatch z) h
end
structure cF(k:Nat)(A:AL):Prop where
 hd:A.handled=none
 dp:A.depth + 3 * k + 5 < recursionLimit
 un:A.units + 16 * k + 200 < cLine
 gd:A.guards=some []
theorem cF.mono{j k:Nat}{A:AL}(r:cF k A)(h:j≤k):cF j A:=⟨r.hd,by have:=r.dp;omega,by have:=r.un;omega,r.gd⟩
theorem cF.deeper{k:Nat}{A:AL}(r:cF (k + 1) A)(env:Env):cF k (A.deeper env):=
 ⟨r.hd,by have:=r.dp;show A.depth + 1 + 3 * k + 5 < _;omega,by have:=r.un;show A.units + 3 + 16 * k + 200 < _;omega,r.gd⟩
theorem cF.in1{k:Nat}{A:AL}(r:cF (k + 1) A):cF k A.in1:=
 ⟨r.hd,by have:=r.dp;show A.depth + 3 * k + 5 < _;omega,by have:=r.un;show A.units + 1 + 16 * k + 200 < _;omega,r.gd⟩
theorem cF.depth{k:Nat}{A:AL}(r:cF k A):A.depth < recursionLimit:=by have:=r.dp;omega
theorem cF.units{k:Nat}{A:AL}(r:cF k A):A.units + 64 < cLine:=by have:=r.un;omega
def aGn:TA:=fun _ H Q=>Q [] H
def aAy(ta:TE)(tr:TA):TA:=fun σ H Q=>ta σ H fun x H1=>tr σ H1 fun xs H2=>Q (x :: xs) H2
section
variable{X:Cx}{e:A6}{es:List A6}{te:TE}{t:TA}{pos:Pos}
theorem aG:PA X [] aGn:=⟨fun _ _ _ _ H Q I h=>Calls.spliced_nil ⟨[],H,I,.nil,h⟩⟩
theorem fZ(ha:PE X e te)(J:PA X es t)(z:starEach (e :: es) X.env=(false,eval e X.env) :: starEach es X.env:=by rfl):PA X (e :: es) (aAy te t):=by
 constructor;intro pos bd s σ H Q I h;rw[z];show wpAny _ _ (spliced ((false,eval e X.env) :: backTo pos (starEach es X.env))) _ _ s;refine Ea (thn (ha bd s σ H _ I h) fun u O ⟨x,H1,W,U,F⟩=>?_);exact thn (J pos bd O σ H1 _ W F) fun Z Y ⟨xs,H2,B,q,M⟩=>⟨x :: xs,H2,B,.cons U q,M⟩
def aIe(t:TA):TE:=fun σ H Q=>t σ H fun xs H1=>xs.length≤sizeLine∧∀ p,H1 p=none→Q (.ref p) (upd H1 p (.tup xs))
def aIf(t:TA):TE:=fun σ H Q=>t σ H fun xs H1=>xs.length≤sizeLine∧∀ p,H1 p=none→Q (.ref p) (upd H1 p (.lst xs))
theorem dF{x1}(h:PA X es t):PE X (.Tuple es x1 pos) (aIe t):=by
 constructor;intro bd s σ H Q I J;refine wpAny_Tuple_spliced (thn (h pos bd s σ H _ I J) fun M B ⟨xs,H1,F,r,z,q⟩=>⟨by rw[← r.length];exact z,?_⟩);have O:H1 B.heap.objs.size=none:=F.hok.fresh (Ak _);refine⟨.ref B.heap.objs.size,upd H1 B.heap.objs.size (.tup xs),F.laid (t':=B.toks) (fun b u e=>Ah _ e) (Ak _) ?_,rfl,q _ O⟩;exact⟨z,M,r,⟨_,Ax _ rfl,⟨rfl,_,rfl⟩,rfl⟩⟩
theorem d9(h:PA X es t):PE X (.List es pos) (aIf t):=by
 constructor;intro bd s σ H Q I J;refine wpAny_List_spliced (thn (h pos bd s σ H _ I J) fun M B ⟨xs,H1,F,r,z,q⟩=>⟨by rw[← r.length];exact z,?_⟩);have O:H1 B.heap.objs.size=none:=F.hok.fresh (Ak _);refine⟨.ref B.heap.objs.size,upd H1 B.heap.objs.size (.lst xs),F.laid (t':=B.toks) (fun b u e=>Ah _ e) (Ak _) ?_,rfl,q _ O⟩;exact⟨z,M,0,r,Ax _ rfl⟩
end
abbrev Sp:=List V→Hp→VK→XK→Prop
abbrev CXT:=List Env→Hp→Ad→XK→Ac→Ad→Prop
structure aCF(P:Ay)(w:AQ)(K:Ag)(mg:Str→Option Ac)(base:A8)(A:AL)(outer:List Env)(s:Ad)(H:Hp):Prop where
 frames:A.frames=some outer
 mod:Mod K mg base
 bs:∀ b o,base.get? b=some o→s.heap.get? b=some o∧H b=none
 bsz:base.objs.size≤s.heap.objs.size
 funs:s.heap.FunFrames base outer
 frf:∀ b∈frs outer,H b=none
 hok:HOk P w H s.heap
 bare:Dy s.gens
inductive aHq(outer:List Env)(P:Ay)(w:AQ)(H:Hp)(s:Ad)(Q:VK)(u:Ac)(s':Ad):Prop
 | mk (v:_) (H':_) (q0:s'.os=s.os) (q1:Dy s'.gens) (q2:Un (frs outer) [] H H' s.heap s'.heap) (q3:HOk P w H' s'.heap) (q4:cQ v u) (q5:Q v H'):aHq outer P w H s Q u s'
def CE(outer:List Env)(P:Ay)(w:AQ)(H:Hp)(s:Ad)(Q:VK)(u:Ac)(s':Ad):Prop:=aHq outer P w H s Q u s'
def CR(CX:CXT)(outer:List Env)(P:Ay)(w:AQ)(H:Hp)(s:Ad)(Q:VK)(E:XK)(r:Result)(s':Ad):Prop:=
 match r with
 | .ok (.ret u)=>CE outer P w H s Q u s'
 | .ok _=>False
 | .error e=>CX outer H s E e s'
structure cH(P:Ay)(w:AQ)(K:Ag)(mg:Str→Option Ac)(base:A8)(CX:CXT)(k:Nat)(f:Ae)(fd:AD)(ps:List Str)(sp:Sp):Prop where
 len:∀ vs H Q E,sp vs H Q E→vs.length=ps.length
 run:∀(A:AL) (outer:List Env) (s:Ad) (H:Hp) (args:Args) (us:List Ac) (vs:List V) (Q:VK) (E:XK),cF k A→aCF P w K mg base A outer s H→Ez s fd args (ps.zip us)→cE vs us→sp vs H Q E→
  codeAny (model P w) A (.call (.ref f) args) (CR CX outer P w H s Q E) s
section
variable{X:Cx}{bd:List (Ae×Obj)}{σ:St}{H:Hp}{s s':Ad}
theorem Inv.env0(I:Inv X bd σ H s):aCF X.prog X.w X.K X.mg X.base X.A X.stack s H:=
 ⟨I.ok.frames,I.ok.mod,I.bs,A3 I.ok.bsz I.sz,I.stack,I.stkFree,I.hok,I.bare⟩
theorem Inv.after{Q:VK}{u:Ac}(I:Inv X bd σ H s)(h:CE X.stack X.prog X.w H s Q u s'):EP X bd σ Q u s':=by
 obtain⟨v,H',os,bare,un,hok,r,q⟩:=h;obtain⟨hh,g,d,t,os'⟩:=s';obtain rfl:os'=s.os:=os;exact⟨v,H',I.call (h':=hh) (g':=g) (d':=d) (t':=t) (ch:=[]) un hok bare (fun b z=>absurd z (by simp)),r,q⟩
end
def aFE(sp:Sp)(ff:List V)(E:XK)(t:TA):TE:=fun σ H Q=>t σ H fun vs H1=>sp (vs ++ ff) H1 Q E
def eV(K:Ag)(fd:AD)(ps:List Str)(ds:List Ac):Prop:=
 ∀(s:Ad) (us:List Ac),K.In s.heap→(us ++ ds).length=ps.length→Ez s fd ⟨us,[]⟩ (ps.zip (us ++ ds))
theorem eV.all{K:Ag}{fd:AD}{ps:List Str}(h:∀ q:List Ac,q.length=ps.length→bindArgs fd ⟨q,[]⟩=pure (ps.zip q)):eV K fd ps []:=fun s q _ z=>by
 rw[Cm]at z ⊢;exact .of_eq (h q z)
def zF(CX:CXT)(X:Cx)(E:XK):Prop:=∀(bd:List (Ae×Obj)) (σ:St) (H:Hp) (s:Ad) (e:Ac) (s':Ad),Inv X bd σ H s→CX X.stack H s E e s'→X.xe e s'
section
variable{X:Cx}{CX:CXT}{k:Nat}{f C:Ae}{fd:AD}{ps:List Str}{sp:Sp}{ff:List V}{ds:List Ac}{E:XK}{x m:Str}{p pos dt:Pos}{e o:A6}{es:List A6}{ta:TE}{t:TA}
theorem aCG{bd:List (Ae×Obj)}{σ:St}{H:Hp}{s:Ad}{Q:VK}{q:List Ac}{vs:List V}(F:cH X.prog X.w X.K X.mg X.base CX k f fd ps sp)(O:cF k X.A)(U:eV X.K fd ps ds)(hd:cE ff ds)(W:zF CX X E)
  (I:Inv X bd σ H s) (r:cE vs q) (h:sp (vs ++ ff) H Q E):wpAny (model X.prog X.w) X.A (call (.ref f) q) (EP X bd σ Q) X.xe s:=by
 have B:cE (vs ++ ff) (q ++ ds):=r.append hd;have J:(q ++ ds).length=ps.length:=by rw[← B.length];exact F.len _ _ _ _ h
 refine Df (CJ (F.run X.A X.stack s H ⟨q,[]⟩ (q ++ ds) (vs ++ ff) Q E O I.env0 (U s q I.kIn J) B h) fun r s' z=>?_);cases r with
 | error e=>exact W bd σ H s e s' I z
 | ok M=>
  cases M with
  | ret u=>exact I.after z
  | next=>exact BV z
  | brk=>exact BV z
  | cont=>exact BV z
theorem f6(F:cH X.prog X.w X.K X.mg X.base CX k f fd ps sp)(U:cF k X.A)(Y:Gl X x)(hm:X.mg x=some (.ref f))(M:Aj X.K (.ref f)=true)(Z:eV X.K fd ps ds)(hd:cE ff ds)(hx:zF CX X E)
  (ha:PA X (e :: es) t) (B:(x == ("__debug__":Str))=false:=by decide) (O:starEach (e :: es) X.env=(false,eval e X.env) :: starEach es X.env:=by rfl) (z:(backTo pos (starEach es X.env)).any (·.1)=false:=by rfl):
  PE X (.Call (.Name x p) (e :: es) [] pos) (aFE sp ff E t):=by
 constructor;intro bd s σ H Q I h;refine CV (aAr I Y hm ?_ B);refine PySem.W.callWith_K (h₀:=X.base) I.ok.mod.kin M (thn (ha pos bd s σ H _ I h) fun us s1 ⟨vs,H1,J,r,q⟩=>⟨J.kIn,?_⟩) O z;exact aCG F U Z hd hx J r q
structure Mk(K:Ag)(C f:Ae):Prop where
 makes:PySem.W.makesIn K C=true
 init:Dg K (.ref C) "__init__"=some (some (.ref f))
 fn:PySem.W.isFn K (.ref f)=true
 kp:Aj K (.ref C)=true
end
structure PK(X:Cx)(fe:List Dx)(t:TA):Prop where
 run:
  ∀(pos:Pos) (bd:List (Ae×Obj)) (s:Ad) (σ:St) (H:Hp) (Q:List V→Hp→Prop),Inv X bd σ H s→t σ H Q→wpAny (model X.prog X.w) X.A (evalAll ((backToKw pos (keywordEach fe X.env)).map (·.2))) (AP X bd σ Q) X.xe s
instance{X:Cx}{fe:List Dx}{t:TA}:CoeFun (PK X fe t) (fun _=>
 ∀(pos:Pos) (bd:List (Ae×Obj)) (s:Ad) (σ:St) (H:Hp) (Q:List V→Hp→Prop),Inv X bd σ H s→t σ H Q→wpAny (model X.prog X.w) X.A (evalAll ((backToKw pos (keywordEach fe X.env)).map (·.2))) (AP X bd σ Q) X.xe s):=⟨fun h=>h.run⟩
section
variable{X:Cx}{CX:CXT}{k:Nat}{f C:Ae}{fd:AD}{ps ks:List Str}{sp:Sp}{E:XK}{x m:Str}{p pos dt kpos:Pos}{e o:A6}{es:List A6}{fe:List Dx}{te ta:TE}{t tk:TA}{nm:Option Str}
theorem aGo:PK X [] aGn:=⟨fun _ _ _ _ H Q I h=>wpAny_evalAll_nil ⟨[],H,I,.nil,h⟩⟩
theorem aEI(ha:PE X e te)(F:PK X fe t):PK X (⟨nm,e,kpos⟩ :: fe) (aAy te t):=by
 constructor;intro pos bd s σ H Q I h;show wpAny _ _ (evalAll ((do let v ← eval e X.env;standAt pos;pure v) :: (backToKw pos (keywordEach fe X.env)).map (·.2))) _ _ s
 refine wpAny_evalAll_cons (Aa (thn (ha bd s σ H _ I h) fun u M ⟨x,H1,U,O,B⟩=>Aa (DM (Af ?_))));exact thn (F pos bd M σ H1 _ U B) fun Y W ⟨xs,H2,z,q,J⟩=>⟨x :: xs,H2,z,.cons O q,J⟩
structure aIg(K:Ag)(fd:AD)(ps ks:List Str)(g:List Ac→List Ac→List Ac)(gV:List V→List V→List V):Prop where
 to:∀(s:Ad) (us ws:List Ac),K.In s.heap→(g us ws).length=ps.length→Ez s fd ⟨us,ks.zip ws⟩ (ps.zip (g us ws))
 rel:∀{vs:List V} {us:List Ac} {zs:List V} {ws:List Ac},cE vs us→cE zs ws→cE (gV vs zs) (g us ws)
variable{g:List Ac→List Ac→List Ac}{gV:List V→List V→List V}
end
structure bJ(N P:List Str)(sc:CN):Prop where
 kind:sc.kind=.function
 co:sc.isCoroutine=false
 gen:sc.isGenerator=false
 nd:N.Nodup
 pre:N.take P.length=P
 par:∀ x∈P,sc.names.lookup x=some .local∨sc.names.lookup x=some .cell
 nofree:∀ y∈sc.names,y.2≠.free
theorem t7{q:Str→Option C6}{x:Str}:∀{binds:List (Str×Ac)}{m:Str→Option Ac},(∀ v,(x,v) ∉ binds)→bindL q binds m x=m x
 | [],_,_=>rfl
 | (n,v) :: r,m,h=>by
  unfold bindL;rw[t7 fun w hw=>h w (AF _ hw)];split
  ·have:x≠n:=by rintro rfl;exact h v AH
   simp[this]
  ·rfl
theorem t8{q:Str→Option C6}{x:Str}:∀{binds:List (Str×Ac)}{m:Str→Option Ac},(∀ v,(x,v) ∉ binds)→bindC q binds m x=m x
 | [],_,_=>rfl
 | (n,v) :: r,m,h=>by
  unfold bindC;rw[t8 fun w hw=>h w (AF _ hw)];split
  ·rfl
  ·have:x≠n:=by rintro rfl;exact h v AH
   simp[this]
theorem t9{q:Str→Option C6}{x:Str}{v:Ac}:∀{P:List Str}{vs:List Ac}{i:Nat}{m:Str→Option Ac},P.Nodup→P[i]?=some x→vs[i]?=some v→q x=some .local→
  bindL q (P.zip vs) m x=some v
 | [],_,_,_,_,h,_,_=>by simp at h
 | _ :: _,[],_,_,_,_,h,_=>by simp at h
 | p :: P,w :: vs,0,m,nd,h1,h2,z=>by
  simp at h1 h2;subst h1;subst h2;show bindL q ((p,w) :: P.zip vs) m p=_;unfold bindL;rw[t7 fun v B=>(Ck.mp nd).1 (Eu B).1,Ib z];simp
 | p :: P,w :: vs,i + 1,m,nd,h1,h2,z=>by
  show bindL q ((p,w) :: P.zip vs) m x=_;unfold bindL;exact t9 (i:=i) (Ck.mp nd).2 (by simpa using h1) (by simpa using h2) z
theorem uA{q:Str→Option C6}{x:Str}{v:Ac}:∀{P:List Str}{vs:List Ac}{i:Nat}{m:Str→Option Ac},P.Nodup→P[i]?=some x→vs[i]?=some v→q x≠some .local→
  bindC q (P.zip vs) m x=some v
 | [],_,_,_,_,h,_,_=>by simp at h
 | _ :: _,[],_,_,_,_,h,_=>by simp at h
 | p :: P,w :: vs,0,m,nd,h1,h2,z=>by
  simp at h1 h2;subst h1;subst h2;show bindC q ((p,w) :: P.zip vs) m p=_;unfold bindC;rw[t8 fun v B=>(Ck.mp nd).1 (Eu B).1,Ia z];simp
 | p :: P,w :: vs,i + 1,m,nd,h1,h2,z=>by
  show bindC q ((p,w) :: P.zip vs) m x=_;unfold bindC;exact uA (i:=i) (Ck.mp nd).2 (by simpa using h1) (by simpa using h2) z
def pJ(N:List Str)(vs:List V):St:=vs.map some ++ List.replicate (N.length - vs.length) none
def aBG(CX:CXT)(P:Ay)(w:AQ)(K:Ag)(mg:Str→Option Ac)(base:A8)(N:List Str)(qual:Str)(scope:CN)(f:Ae)(cd:Ac)(A:AL)(outer:List Env)(s:Ad)(H:Hp)(E:XK):Cx where
 prog:=P
 w:=w
 K:=K
 mg:=mg
 base:=base
 A:=A.deeper (envOfC qual scope s.heap.objs.size f cd)
 N:=N
 s₀:=s
 H₀:=H
 env:=envOfC qual scope s.heap.objs.size f cd
 outer:=outer
 stack:=envOfC qual scope s.heap.objs.size f cd :: outer
 ex:=[]
 calm:=true
 fn:=fun _=>true
 pn:=[]
 xe:=fun e s'=>wpAny (model P w) (A.deeper (envOfC qual scope s.heap.objs.size f cd)) (leaving (envOfC qual scope s.heap.objs.size f cd) e) (fun _ s''=>CX outer H s E e s'') (fun e' s''=>CX outer H s E e' s'') s'
theorem wR{z:CN}{n:Nat}{x:Str}(h:z.names.lookup x=some .cell):∃ c,(cellsFrom n z.names []).lookup x=some c:=by
 have q:=PySem.W.cellsFrom_some z.names n [] (.inl h);exact Option.isSome_iff_exists.mp q
theorem aBH{CX:CXT}{P:Ay}{w:AQ}{K:Ag}{mg:Str→Option Ac}{base:A8}{N ps:List Str}{qual:Str}{scope:CN}{f:Ae}{cd:Ac}{A:AL}{outer:List Env}{s W:Ad}{H:Hp}{E:XK}{U:List Ac}{vs:List V}
  (S:bJ N ps scope) (hd:A.handled=none) (B:aCF P w K mg base A outer s H) (Z:vs.length=ps.length) (r:cE vs U)
  (x:InCallC s s.heap.objs.size (bindL (envOfC qual scope s.heap.objs.size f cd).kindOf (ps.zip U) fun _=>none) (cellsFrom (s.heap.objs.size + 1) scope.names []) (bindC (envOfC qual scope s.heap.objs.size f cd).kindOf (ps.zip U) fun _=>none) W):
  Inv (aBG CX P w K mg base N qual scope f cd A outer s H E) [] (pJ N vs) H W:=by
 have Y:ps.length≤N.length:=by have:=congrArg ES S.pre;rw[AC]at this;omega
 obtain⟨h1,tk,rfl,hk⟩:=x.done;have J:∀ b:Ae,b ∉ (aBG CX P w K mg base N qual scope f cd A outer s H E).ex:=fun b z=>absurd (show b∈([]:List Ae) from z) (by simp);refine⟨⟨B.mod,S.kind,rfl,rfl,Ak _,fun y z c h1 h2=>?_,fun y F=>?_,fun y c _ h=>?_,fun _=>hd,Around.frames_deeper B.frames,.inr ⟨rfl,rfl⟩,fun b z=>absurd z (J b),B.bs,B.bsz,fun b _ _=>J b,fun b z=>absurd z (J b),B.funs,B.frf⟩,
  rfl,B.bare,Un.kept hk,⟨_,x.toInCall.ns,fun i y v h1 h2 h3=>?_⟩,fun y c h=>⟨_,x.cell y c h⟩,B.hok.fresh (Ak _),fun y c h=>?_,fun p O=>absurd (show p∈([]:List (Ae×Obj)) from O) (by simp),B.hok.kept hk,?_⟩
 ·exact name_of_addr x.apart (BF h1) (BF h2)
 ·have F:scope.names.lookup y=some .cell∨scope.names.lookup y=some .free:=F;rcases F with F | F
  ·exact wR F
  ·exact absurd rfl (S.nofree _ (BF F))
 ·exact CD (x.above y c (BF h))
 ·have hi:i < vs.length:=by
   unfold pJ at h2;by_cases hi:i < vs.length
   ·exact hi
   ·rw[List.getElem?_append_right (by simpa using hi)]at h2;rw[List.getElem?_replicate]at h2;split at h2 <;> cases h2
  have ha:vs[i]?=some v:=by
   unfold pJ at h2;rw[List.getElem?_append_left (by simpa using hi),AI]at h2;cases e:vs[i]? with
   | none=>rw[e]at h2;cases h2
   | some a=>rw[e]at h2;cases h2;rfl
  obtain⟨u,hu,rv⟩:=r.get ha;have O:ps[i]?=some y:=by
   rw[← S.pre,List.getElem?_take_of_lt (by omega)];exact h1
  have M:ps.Nodup:=by rw[← S.pre];exact S.nd.sublist (List.take_sublist _ _)
  refine⟨u,rv,?_⟩;rcases S.par y (A2 O)with k | k
  ·exact .inl ⟨k,t9 M O hu k⟩
  ·obtain⟨c,e⟩:=wR (n:=s.heap.objs.size + 1) k;refine .inr ⟨.inl k,c,e,?_⟩;have q:=x.cell y c e;rw[uA M O hu (by show scope.names.lookup y≠_;rw[k];decide)]at q;exact q
 ·exact B.hok.fresh (CD (x.above y c (BF h)))
 ·unfold pJ;show _=N.length;rw[An,Ab,List.length_replicate];omega
theorem aHr{CX:CXT}{P:Ay}{w:AQ}{K:Ag}{mg:Str→Option Ac}{base:A8}{k:Nat}{f:Ae}{name qual:Str}{B:Arguments}{F:List Bx}{scope:CN}{dV kV Y pm z ct oc:Ac}{an od:Option Ae}
  {ag:Array (Option Ac)} {N ps:List Str} {sp:Sp} (lk:K.lookup f=some ⟨oc,od,.func (Ar name qual B F scope dV kV Y pm an z ct),ag⟩) (ae:Ap K z qual=true) (S:bJ N ps scope)
  (len:∀ vs H Q E,sp vs H Q E→vs.length=ps.length)
  (O:∀(A:AL) (outer:List Env) (s:Ad) (H:Hp) (vs:List V) (Q:VK) (E:XK),cF k (A.deeper (envOfC qual scope s.heap.objs.size f z))→sp vs H Q E→
   ∃ t,PSs (aBG CX P w K mg base N qual scope f z A outer s H E) F t∧t { nx:=fun _ H'=>Q .non H',rt:=Q } (pJ N vs) H):
  cH P w K mg base CX (k + 1) f (Ar name qual B F scope dV kV Y pm an z ct) ps sp:=by
 refine⟨len,fun A outer s H ai us vs Q E hr Z hb r aa=>?_⟩;have hl:=len _ _ _ _ aa;have KX:K.In s.heap:=Z.mod.kin.keeps fun b o e=>(Z.bs b o e).1;have ad:s.heap.NoLimit:=Z.mod.nolimit.keeps fun b o e=>(Z.bs b o e).1;have M:∀ y∈ps.zip us,scope.names.lookup y.1=some .local∨(scope.names.lookup y.1=some .cell∧((cellsFrom (s.heap.objs.size + 1) scope.names []).lookup y.1).isSome=true):=fun⟨n,v⟩ hy=>by
  rcases S.par n (Eu hy).1 with q | q
  ·exact .inl q
  ·exact .inr ⟨q,PySem.W.cellsFrom_some _ _ _ (.inl q)⟩
 refine codeAny_call_function hr.depth (KX _ _ lk) rfl S.co S.gen rfl (PySem.W.codeRec_of KX ae) (hb _ _ _ _ ?_);refine wpAny_newFunctionEnv_cells S.kind M fun env he s1 x=>?_;subst he;refine⟨ad.keeps x.toInCall.keep,codeAny_func ?_⟩;obtain⟨t,ht,hq⟩:=O A outer s H vs Q E (hr.deeper _) aa;have I:Inv (aBG CX P w K mg base N qual scope f z A outer s H E) [] (pJ N vs) H s1:=aBH S hr.hd Z hl r x;refine B4 (ht [] s1 (pJ N vs) H _ I hq) (fun fl s' U=>?_) fun e s' U=>U;have ab:∀{σ':St} {H':Hp} {v:V} {u:Ac},Inv (aBG CX P w K mg base N qual scope f z A outer s H E) [] σ' H' s'→cQ v u→Q v H'→CE outer P w H s Q u s':=
  fun{σ' H' v u} J rv q=>⟨v,H',J.os,J.bare,J.base,J.hok,rv,q⟩
 cases fl with
 | ret u=>
  obtain⟨v,σ',H',J,rv,q⟩:=U;exact ab J rv q
 | next=>
  obtain⟨σ',H',J,q⟩:=U;exact ab (v:=V.non) (u:=BS) J rfl q
 | brk=>
  obtain⟨_,_,_,q⟩:=U;exact BV q
 | cont=>
  obtain⟨_,_,_,q⟩:=U;exact BV q
section
variable{X:Cx}{x:Str}{p pos:Pos}{e:A6}{es:List A6}{t:TA}{id T:String}{r:List V→Hp→VK→Prop}
def tCB(r:List V→Hp→VK→Prop)(t:TA):TE:=fun σ H Q=>t σ H fun vs H1=>r vs H1 Q
theorem aW(hc:gE X (.builtin id) r)(M:Gl X x)(hm:X.mg x=none)(J:bootBuiltins x=some (.builtin id))(ha:PA X (e :: es) t)(hn:x≠"__name__":=by decide)(z:(x == ("__debug__":Str))=false:=by decide)
  (B:starEach (e :: es) X.env=(false,eval e X.env) :: starEach es X.env:=by rfl) (q:(backTo pos (starEach es X.env)).any (·.1)=false:=by rfl):PE X (.Call (.Name x p) (e :: es) [] pos) (tCB r t):=by
 constructor;intro bd s σ H Q I h;refine CV (mM I M hm J ?_ hn z);exact PyProof.Rows.callWith_builtin1 (thn (ha pos bd s σ H _ I h) fun W O ⟨vs,H1,Y,U,F⟩=>hc bd O σ H1 vs W Q Y U F) B q
theorem cC(hc:gE X (.type T) r)(M:Gl X x)(hm:X.mg x=none)(J:bootBuiltins x=some (.type T))(ha:PA X (e :: es) t)(hn:x≠"__name__":=by decide)(z:(x == ("__debug__":Str))=false:=by decide)
  (B:starEach (e :: es) X.env=(false,eval e X.env) :: starEach es X.env:=by rfl) (q:(backTo pos (starEach es X.env)).any (·.1)=false:=by rfl):PE X (.Call (.Name x p) (e :: es) [] pos) (tCB r t):=by
 constructor;intro bd s σ H Q I h;refine CV (mM I M hm J ?_ hn z);exact Cb (thn (ha pos bd s σ H _ I h) fun W O ⟨vs,H1,Y,U,F⟩=>hc bd O σ H1 vs W Q Y U F) B q
end
end L2
namespace HT
open PySem PyProof.Rows
theorem eqAt_int(A:AL)(s:Ad)(a:Int)(t:Tok)(c:Int)(u:Tok):∃ e,Ex A s (.int a t) (.int c u) e∧(e=true↔a=c):=
 ⟨(a == c),SeqAt.EqAt.int_int a t c u,by simp⟩
section
open PySem.SeqAt
open PySem.AutoSeq1 (wpAny_loadPart')
open PySem.MeetsSeq PySem.MeetsSeq2 PySem.MeetsSeq3
end
section
variable{prog:Ay}{w:AQ}{A:AL}{E:Ac→Ad→Prop}{s:Ad}
theorem cat_tup{t b:Ae}{vs q:List Ac}{Q:Ac→Ad→Prop}(ht:DR s.heap t vs.toArray)(B:DR s.heap b q.toArray)(z:vs≠[])
  (h1:q=[]→Q (.ref t) s) (h2:q≠[]→Q (.ref s.heap.objs.size) { s with heap:=s.heap.push { cls:=.type "tuple",data:=.seq (vs ++ q).toArray } })
  (hsz:vs.length + q.length≤sizeLine):wpAny (model prog w) A (binaryOp .Add (.ref t) (.ref b)) Q E s:=by
 obtain⟨⟨cls,dd,data,sl⟩,ho,hc,n,hd⟩:=id ht;obtain⟨⟨cls2,dd2,data2,sl2⟩,ho2,hc2,n2,hd2⟩:=id B;simp only at hc hd hc2 hd2;subst hc hd hc2 hd2;have e:vs.toArray ++ q.toArray=(vs ++ q).toArray:=by simp
 by_cases hw:q=[]
 ·exact E5 ⟨_,ho,rfl⟩ ⟨_,ho2,rfl⟩ EB EU DC Dv (Ds _ _)
   (tuple_addW1 t b vs.toArray q.toArray n n2 dd dd2 sl sl2 (by simpa using z) (by simp[hw])) ⟨ho,ho2,h1 hw⟩
 ·refine E5 ⟨_,ho,rfl⟩ ⟨_,ho2,rfl⟩ EB EU DC Dv (Ds _ _)
   (tuple_addW2 t b vs.toArray q.toArray n n2 dd dd2 sl sl2 (by simpa using z) (by simpa using hw) (by rw[Ao,Ao];exact hsz)) ⟨ho,ho2,?_⟩
  rw[e];exact h2 hw
def sIx(n d:Nat):Option Int→Nat
 | none=>d
 | some v=>if v < 0 then(v + (n:Int)).toNat else min v.toNat n
theorem sIx_none(n d:Nat):sIx n d none=d:=rfl
theorem sIx_nat(n d k:Nat):sIx n d (some (k:Int))=min k n:=by
 show(if (k:Int) < 0 then((k:Int) + (n:Int)).toNat else min (k:Int).toNat n)=min k n;rw[Ia (by omega),Bo]
theorem aGp(n d:Nat)(hd:d≤n)(o:Option Int):sIx n d o≤n:=by
 cases o with
 | none=>exact hd
 | some v=>
  show(if v < 0 then(v + (n:Int)).toNat else min v.toNat n)≤n;by_cases q:v < 0
  ·rw[Ib q];omega
  ·rw[Ia q];exact Nat.min_le_right _ _
theorem aAz(v:Int)(n d:Nat):(if v < 0 then max (v + (n:Int)) 0 else min v (n:Int))=((sIx n d (some v):Nat):Int):=by
 show(if v < 0 then max (v + (n:Int)) 0 else min v (n:Int))=(((if v < 0 then(v + (n:Int)).toNat else min v.toNat n):Nat):Int)
 by_cases q:v < 0
 ·simp only[Ib q];omega
 ·simp only[Ia q];omega
theorem zG(lo hi:Option Int)(n:Nat):C7 lo hi 1 (n:Int)=(((sIx n 0 lo:Nat):Int),((sIx n n hi:Nat):Int)):=by
 have h1:¬ ((1:Int) < 0):=by omega
 unfold C7;simp only[h1,if_false];refine Fh ?_ ?_
 ·cases lo with
  | none=>rfl
  | some v=>exact aAz v n 0
 ·cases hi with
  | none=>rfl
  | some v=>exact aAz v n n
theorem zH(i j:Nat):Cn (i:Int) (j:Int) 1=j - i:=by
 unfold Cn;have h1:(1:Int) > 0:=by omega
 simp only[h1,if_true,Int.ediv_one];split <;> omega
theorem qM{v:Ac}{o:Option Int}{Q:Option Int→Ad→Prop}(p:DY v o)(h:Q o s):wpAny (model prog w) A (Builtin.Slice.slicePartIndex v) Q E s:=by
 cases p with
 | none=>exact slicePart_none h
 | int i t=>exact slicePart_int h
theorem sliceApplied_gen{B:Ae}{q z:Ac}{lo hi:Option Int}{n:Nat}{Q:Int×Int×Nat→Ad→Prop}(J:s.heap.IsSliceOf B q z .none)(pl:DY q lo)(F:DY z hi)
  (h:Q (((sIx n 0 lo:Nat):Int),1,sIx n n hi - sIx n 0 lo) s):wpAny (model prog w) A (Builtin.Slice.sliceApplied (.ref B) (pure (n:Int))) Q E s:=by
 obtain⟨os,hos,hcs,hds⟩:=id J;unfold Builtin.Slice.sliceApplied Builtin.Slice.sliceFields;refine Aa (Aa (Fb hos hds (x:=q) rfl (Aa (Fb hos hds (x:=z) rfl (Aa (Fb hos hds (x:=.none) rfl (Af ?_)))))));refine Aa (slicePart_none ?_);show wpAny _ _ (if ((1:Int) == 0)=true then _ else _) _ _ s;rw[Ia (by decide)];refine Aa (qM pl (Aa (qM F (Aa (Af ?_)))));show wpAny _ _ (match C7 lo hi 1 (n:Int)with | (lo,hi)=>pure (lo,(1:Int),Cn lo hi 1)) _ _ s;rw[zG lo hi n];show wpAny _ _ (pure (((sIx n 0 lo:Nat):Int),(1:Int),Cn ((sIx n 0 lo:Nat):Int) ((sIx n n hi:Nat):Int) 1)) _ _ s;rw[zH];exact Af h
theorem aCH(xs:Array Ac)(i k:Nat):((AV k).filterMap fun(m:Nat)=>xs[((i:Int) + (m:Int) * 1).toNat]?).toArray=((xs.toList.drop i).take k).toArray:=by
 have e:(fun(m:Nat)=>xs[((i:Int) + (m:Int) * 1).toNat]?)=fun m=>xs[i + m]?:=by
  funext m;have:((i:Int) + (m:Int) * 1).toNat=i + m:=by omega
  rw[this]
 rw[e];have:=pick_run xs i k;rw[List.filterMap_map]at this;have q:((fun x=>xs[x]?) ∘ fun x=>i + x)=fun m=>xs[i + m]?:=rfl;rw[q]at this;rw[this]
theorem getItem_tuple_cut{t J:Ae}{items:Array Ac}{U O:Ac}{lo hi:Option Int}{Q:Ac→Ad→Prop}(ht:DR s.heap t items)(M:s.heap.IsSliceOf J U O .none)(pl:DY U lo)(W:DY O hi)
  (hw:¬ (sIx items.size 0 lo=0∧sIx items.size items.size hi=items.size))
  (h:Q (.ref s.heap.objs.size) { s with heap:=s.heap.push { cls:=.type "tuple",data:=.seq ((items.toList.drop (sIx items.size 0 lo)).take (sIx items.size items.size hi - sIx items.size 0 lo)).toArray } })
  (hsz:items.size≤sizeLine):wpAny (model prog w) A (getItem (.ref t) (.ref J)) Q E s:=by
 have z:sizeOk (.seq ((items.toList.drop (sIx items.size 0 lo)).take (sIx items.size items.size hi - sIx items.size 0 lo)).toArray):=by
  show((items.toList.drop (sIx items.size 0 lo)).take (sIx items.size items.size hi - sIx items.size 0 lo)).toArray.size≤sizeLine;rw[Ao,AC,C2,A1];omega
 have Z:sIx items.size items.size hi≤items.size:=aGp _ _ (Ak _) hi;obtain⟨os,hos,hcs,hds⟩:=id M;have F:s.TypeIs (.ref J) "slice":=⟨os,hos,hcs⟩
 unfold getItem
 try with_reducible refine Bi ?_
 first | refine Aa (Af ?_) | skip
 refine Aa (wpAny_sequenceKey ht.typeIs (by decide) ?_);refine Aa (BX (name:=A5 "__getitem__") ht.typeIs Bt
  (BP Bt ht.typeIs entry_tuple_getitem ?_ (args_tuple_getitem _ _)))
 show wpAny _ _ (Builtin.Tuple.tupleItemsOf (.ref t) >>= _) _ _ s;refine Aa (tupleItemsOf_ ht ?_);refine Aa (BR F ?_);rw[Ib (by decide)];refine Aa (sliceApplied_gen M pl W ?_);have B:¬ ((((sIx items.size 0 lo:Nat):Int) == 0 && (1:Int) == 1 && (sIx items.size items.size hi - sIx items.size 0 lo) == items.size)=true):=by
  intro q;rw[A9,A9]at q;have Y:((sIx items.size 0 lo:Nat):Int)=0:=eq_of_beq q.1.1;have q2:sIx items.size items.size hi - sIx items.size 0 lo=items.size:=eq_of_beq q.2;exact hw ⟨by omega,by omega⟩
 show wpAny _ _ (if (((sIx items.size 0 lo:Nat):Int) == 0 && (1:Int) == 1 && (sIx items.size items.size hi - sIx items.size 0 lo) == items.size)=true then _ else _) _ _ s;rw[Ia B,aCH]
 first
  | exact Aa (m:=Cs _) (Bq (Af ⟨_,rfl,Af h⟩) z)
  | exact Aa (m:=Cs _) (Bq (Aa (Af (Af ⟨_,rfl,Af h⟩))) z)
  | exact Aa (Aa (m:=Cs _) (Bq (Af (Af ⟨_,rfl,Af h⟩)) z))
  | exact Aa (Aa (m:=Cs _) (Bq (Af ⟨_,rfl,Af h⟩) z))
end
end HT
namespace L2
open PySem PySem.Spec PyProof.Rows
abbrev TO:=St→Hp→(Option Int→Hp→Prop)→Prop
structure PO(X:Cx)(e:Option A6)(t:TO):Prop where
 run:
  ∀(bd:List (Ae×Obj)) (s:Ad) (σ:St) (H:Hp) (Q:Option Int→Hp→Prop),Inv X bd σ H s→t σ H Q→
   wpAny (model X.prog X.w) X.A (evalPart e X.env) (fun u s'=>∃ o H',Inv X bd σ H' s'∧DY u o∧Q o H') X.xe s
instance{X:Cx}{e:Option A6}{t:TO}:CoeFun (PO X e t) (fun _=>
 ∀(bd:List (Ae×Obj)) (s:Ad) (σ:St) (H:Hp) (Q:Option Int→Hp→Prop),Inv X bd σ H s→t σ H Q→
  wpAny (model X.prog X.w) X.A (evalPart e X.env) (fun u s'=>∃ o H',Inv X bd σ H' s'∧DY u o∧Q o H') X.xe s):=⟨fun h=>h.run⟩
def aEJ:TO:=fun _ H Q=>Q none H
def aHs(t:TE):TO:=fun σ H Q=>t σ H fun x H1=>As V.int x fun i=>Q (some i) H1
section
variable{X:Cx}{e:A6}{te:TE}{lo hi:Option A6}{tl th:TO}{pos p2:Pos}
theorem dZ:PO X none aEJ:=by
 constructor;intro bd s σ H Q I h;rw[EV];exact Af ⟨none,H,I,.none,h⟩
theorem dD(h:PE X e te):PO X (some e) (aHs te):=by
 constructor;intro bd s σ H Q I hw;rw[evalPart_some];refine thn (h bd s σ H _ I hw) fun u J ⟨x,H1,F,z,B⟩=>?_;obtain⟨i,rfl,q⟩:=B;obtain⟨t,rfl⟩:=z;exact⟨some i,H1,F,.int i t,q⟩
def SlR(X:Cx)(r:V→Option Int→Option Int→Hp→VK→Prop):Prop:=
 ∀(bd:List (Ae×Obj)) (s:Ad) (σ:St) (H:Hp) (x:V) (v vl vu:Ac) (lo hi:Option Int) (sl:Ae) (Q:VK),Inv X bd σ H s→cQ x v→s.heap.IsSliceOf sl vl vu .none→DY vl lo→DY vu hi→r x lo hi H Q→
  ∃ T id,typeLookup (.type T) "__getitem__"=pure (some (.builtin id))∧s.TypeIs v T∧wpAny (model X.prog X.w) X.A (getItem v (.ref sl)) (EP X bd σ Q) X.xe s
def tSl(r:V→Option Int→Option Int→Hp→VK→Prop)(te:TE)(tl th:TO):TE:=fun σ H Q=>te σ H fun x H1=>tl σ H1 fun l H2=>th σ H2 fun u H3=>r x l u H3 Q
theorem c7{r:V→Option Int→Option Int→Hp→VK→Prop}(hr:SlR X r)(M:PE X e te)(O:PO X lo tl)(hu:PO X hi th):PE X (.Subscript e (.Slice lo hi none p2) pos) (tSl r te tl th):=by
 constructor;intro bd s σ H Q I h;refine EN (thn (M bd s σ H _ I h) fun v s1 ⟨x,H1,I1,r1,W⟩=>?_);refine wpAny_Slice (thn (O bd s1 σ H1 _ I1 W) fun F s2 ⟨l,H2,U,pl,q2⟩=>thn (hu bd s2 σ H2 _ U q2) fun B z ⟨u,J,Y,pu,Z⟩=>?_);rw[EV];refine Af ?_;have I4:Inv X bd σ J { z with heap:=z.heap.push { cls:=.type "slice",data:=.fields #[F,B,.none] } }:=Y.kept (t':=z.toks) fun b ob q=>Ah _ q;obtain⟨T,id,hT,ht,hg⟩:=hr bd { z with heap:=z.heap.push { cls:=.type "slice",data:=.fields #[F,B,.none] } } σ J x v F B l u z.heap.objs.size Q I4 r1 (Heap.IsSliceOf.new ..) pl pu Z;show wpAny (model X.prog X.w) X.A (subscriptTail e (.Slice lo hi none p2) v (.ref z.heap.objs.size)) (EP X bd σ Q) X.xe { z with heap:=z.heap.push { cls:=.type "slice",data:=.fields #[F,B,.none] } };exact tail_any (ops:=[.ref z.heap.objs.size,v]) ht hT hg (by with_unfolding_all rfl)
def fG(xs:List V)(lo hi:Option Int):List V:=(xs.drop (HT.sIx xs.length 0 lo)).take (HT.sIx xs.length xs.length hi - HT.sIx xs.length 0 lo)
theorem pK(xs:List V)(lo hi:Option Int):(fG xs lo hi).length≤xs.length:=by
 unfold fG;rw[AC,C2];omega
inductive aCI(K:Ag)(x:V)(lo:Option Int)(hi:Option Int)(H:Hp)(Q:VK):Prop
 | mk (a:_) (xs:_) (q0:x=.ref a) (q1:SqT K H a xs) (q2:¬ (HT.sIx xs.length 0 lo=0∧HT.sIx xs.length xs.length hi=xs.length)) (q3:∀ p,H p=none→Q (.ref p) (upd H p (.tup (fG xs lo hi)))):aCI K x lo hi H Q
def aIh(K:Ag):V→Option Int→Option Int→Hp→VK→Prop:=fun x lo hi H Q=>aCI K x lo hi H Q
theorem aGq:SlR X (aIh X.K):=by
 intro bd s σ H x v O M lo hi U Q I B F pl J h;obtain⟨a,xs,rfl,hx,hw,q⟩:=h;cases B;obtain⟨its,r,ht,hz⟩:=I.tuple hx;have z:its.toArray.size=xs.length:=by rw[Ao];exact r.length.symm
 refine⟨"tuple",_,Bt.lookup,ht.typeIs,HT.getItem_tuple_cut ht F pl J (by rw[z];exact hw) ?_ (by rw[z];exact hz)⟩;rw[z];refine⟨.ref s.heap.objs.size,_,I.laid (t':=s.toks) (o:=.tup (fG xs lo hi)) (fun b ob q=>Ah _ q) (Ak _) ?_,rfl,q _ (I.hok.fresh (Ak _))⟩;exact⟨A3 (pK xs lo hi) hz,_,(r.drop (HT.sIx xs.length 0 lo)).take (HT.sIx xs.length xs.length hi - HT.sIx xs.length 0 lo),⟨_,Ax _ rfl,⟨rfl,_,rfl⟩,rfl⟩⟩
inductive aAA(K:Ag)(x:V)(y:V)(H:Hp)(Q:VK):Prop
 | mk (a:_) (b:_) (xs:_) (ys:_) (q0:x=.ref a) (q1:y=.ref b) (q2:SqT K H a xs) (q3:SqT K H b ys) (q4:xs≠[]) (q5:xs.length + ys.length≤sizeLine) (q6:(ys=[]→Q (.ref a) H)) (q7:(ys≠[]→∀ p,H p=none→Q (.ref p) (upd H p (.tup (xs ++ ys))))):aAA K x y H Q
def aHt(K:Ag):R2:=fun x y H Q=>aAA K x y H Q
theorem cE.nil_iff{xs:List V}{q:List Ac}(r:cE xs q):q=[]↔xs=[]:=by
 cases r with
 | nil=>simp
 | cons _ _=>simp
theorem aAB:OpR X (binaryOp .Add) (aHt X.K):=by
 intro bd s σ H x y v u Q I B F h;obtain⟨a,b,xs,ys,rfl,rfl,ha,hb,hx,hz,q1,q2⟩:=h;cases B;cases F;obtain⟨its,r1,p1,_⟩:=I.tuple ha;obtain⟨its2,r2,p2,_⟩:=I.tuple hb;refine HT.cat_tup p1 p2 (fun z=>hx (r1.nil_iff.mp z)) (fun z=>⟨.ref a,H,I,rfl,q1 (r2.nil_iff.mp z)⟩) (fun z=>?_) (by rw[← r1.length,← r2.length];exact hz);refine⟨.ref s.heap.objs.size,_,I.laid (t':=s.toks) (o:=.tup (xs ++ ys)) (fun b ob q=>Ah _ q) (Ak _) ?_,rfl,q2 (fun w=>z (r2.nil_iff.mpr w)) _ (I.hok.fresh (Ak _))⟩;exact⟨by rw[An];exact hz,_,r1.append r2,⟨_,Ax _ rfl,⟨rfl,_,rfl⟩,rfl⟩⟩
end
def ixN(n:Nat)(i:Int):Option Nat:=if 0≤i then(if i < n then some i.toNat else none) else if -(n:Int)≤i then some (i + n).toNat else none
def atI{α:Type}(xs:List α)(i:Int):Option α:=(ixN xs.length i).bind fun j=>xs[j]?
theorem aAC{n:Nat}{i:Int}{j:Nat}(h:ixN n i=some j):seqIndex? i n=some j∧j < n∧-(n:Int)≤i∧i < n:=by
 unfold ixN at h;by_cases q:0≤i
 ·rw[Ib q]at h;by_cases h1:i < n
  ·rw[Ib h1]at h;have e:i.toNat=j:=By.inj h;exact⟨by rw[Fc q h1,e],by omega,by omega,h1⟩
  ·rw[Ia h1]at h;cases h
 ·rw[Ia q]at h;by_cases h1:-(n:Int)≤i
  ·rw[Ib h1]at h;have e:(i + n).toNat=j:=By.inj h;exact⟨by rw[seqIndex_neg (by omega) h1,e],by omega,h1,by omega⟩
  ·rw[Ia h1]at h;cases h
theorem vM{α:Type}{xs:List α}{i:Int}{v:α}(h:atI xs i=some v):∃ j,seqIndex? i xs.length=some j∧xs[j]?=some v∧j < xs.length∧-(xs.length:Int)≤i∧i < xs.length:=by
 unfold atI at h;cases e:ixN xs.length i with
 | none=>rw[e]at h;cases h
 | some j=>
  rw[e]at h;obtain⟨h1,h2,h3,h4⟩:=aAC e;exact⟨j,h1,h,h2,h3,h4⟩
theorem c3{α:Type}{xs:List α}{j:Nat}{v:α}(h:xs[j]?=some v):atI xs (j:Int)=some v:=by
 have q:j < xs.length:=(AE.mp h).1;have e:ixN xs.length (j:Int)=some j:=by
  unfold ixN;rw[Ib (by omega),Ib (by omega)];simp
 unfold atI;rw[e];exact h
theorem aCJ{α:Type}(xs:List α)(v:α):atI (xs ++ [v]) (-1)=some v:=by
 have q:(xs ++ [v]).length=xs.length + 1:=by simp
 have e:ixN (xs ++ [v]).length (-1)=some xs.length:=by
  unfold ixN;rw[q,Ia (by decide),Ib (by omega)];congr 1;omega
 unfold atI;rw[e];show(xs ++ [v])[xs.length]?=some v;simp
def aEK(b:A6):Prop:=∀ o i,subscripted b false o i=operate [o,i] (getItem o i)
def IxR(X:Cx)(r:R2):Prop:=
 ∀(value slice:A6) (bd:List (Ae×Obj)) (s:Ad) (σ:St) (H:Hp) (x y:V) (v u:Ac) (Q:VK),Inv X bd σ H s→cQ x v→cQ y u→r x y H Q→
  subscripted slice false v u=operate [v,u] (getItem v u)→wpAny (model X.prog X.w) X.A (subscriptTail value slice v u) (EP X bd σ Q) X.xe s
def MtR(X:Cx)(id:String)(r:V→List V→Hp→VK→Prop):Prop:=
 ∀(bd:List (Ae×Obj)) (s:Ad) (σ:St) (H:Hp) (x:V) (xs:List V) (v:Ac) (us:List Ac) (Q:VK),Inv X bd σ H s→cQ x v→cE xs us→r x xs H Q→
  wpAny (model X.prog X.w) X.A (call (.builtin id) (v :: us)) (EP X bd σ Q) X.xe s
section
variable{X:Cx}{a b:A6}{ta tb:TE}{pos:Pos}
theorem bV{r:R2}(M:IxR X r)(ha:PE X a ta)(O:PE X b tb)(B:aEK b):PE X (.Subscript a b pos) (tOp r ta tb):=by
 constructor;intro bd s σ H Q I h;exact EN (aGi ha O I h fun v u U x y H2 F z J q=>M a b bd U σ H2 x y v u Q F z J q (B _ _))
inductive aCK(K:Ag)(x:V)(y:V)(H:Hp)(Q:VK):Prop
 | mk (p:_) (xs:_) (i:_) (v:_) (q0:x=.ref p) (q1:y=.int i) (q2:SqL K H p xs) (q3:atI xs i=some v) (q4:Q v H):aCK K x y H Q
def aCL(K:Ag):R2:=fun x y H Q=>aCK K x y H Q
inductive aCM(K:Ag)(x:V)(y:V)(H:Hp)(Q:VK):Prop
 | mk (p:_) (xs:_) (i:_) (v:_) (q0:x=.ref p) (q1:y=.int i) (q2:SqT K H p xs) (q3:atI xs i=some v) (q4:Q v H):aCM K x y H Q
def aCN(K:Ag):R2:=fun x y H Q=>aCM K x y H Q
inductive aCO(x:V)(y:V)(H:Hp)(Q:VK):Prop
 | mk (z:_) (i:_) (c:_) (q0:x=.str z) (q1:y=.int i) (q2:z.length≤sizeLine) (q3:atI z.cps.toList i=some c) (q4:Q (.str ⟨#[c]⟩) H):aCO x y H Q
def aIi:R2:=fun x y H Q=>aCO x y H Q
theorem cV:IxR X (aCL X.K):=by
 intro value F bd s σ H x y v u Q I U Y h M;obtain⟨p,xs,i,z,rfl,rfl,hq,he,q⟩:=h;cases U;obtain⟨t,rfl⟩:=Y;obtain⟨its,r,pl,hz⟩:=I.list hq;obtain⟨j,h1,h2,h3,h4,h5⟩:=vM he;obtain⟨w,ew,rw'⟩:=r.get h2;have W:=r.length;have hn:=mQ;have B:EP X bd σ Q w s:=⟨z,H,I,rw',q⟩
 by_cases O:0≤i
 ·have J:i.toNat=j:=by
   rw[Fc O h5]at h1;exact By.inj h1
  exact item_listR pl.isList O (by omega) (by rw[J];simpa using ew) B M
 ·have J:(i + (its.toArray.size:Int)).toNat=j:=by
   rw[seqIndex_neg (by omega) h4]at h1;rw[Ao,← W];exact By.inj h1
  exact subscriptTail_builtinR (x:=w) pl.isList.typeIs slot_list_getitem.lookup
   (wpAny_getItem_list_neg (Q:=fun r s'=>r=w∧EP X bd σ Q r s') pl.isList (by omega) (by rw[Ao] <;> omega) (by omega) (by rw[J];simpa using ew) ⟨rfl,B⟩) M
theorem cG:IxR X (aCN X.K):=by
 intro value B bd s σ H x y v u Q I J U h O;obtain⟨p,xs,i,z,rfl,rfl,hq,he,q⟩:=h;cases J;obtain⟨t,rfl⟩:=U;obtain⟨its,r,pl,hz⟩:=I.tuple hq;obtain⟨j,h1,h2,h3,h4,h5⟩:=vM he;obtain⟨w,ew,rw'⟩:=r.get h2;have M:=r.length;have hn:=mQ;have F:EP X bd σ Q w s:=⟨z,H,I,rw',q⟩
 exact subscriptTail_builtinR (x:=w) pl.typeIs slot_tuple_getitem.lookup
  (getItem_tuple (j:=j) (Q:=fun r s'=>r=w∧EP X bd σ Q r s') pl (by omega) (by omega) (by rw[Ao,← M];exact h1) (by simpa using ew) ⟨rfl,F⟩) O
theorem qN:IxR X aIi:=by
 intro value B bd s σ H x y v u Q I F O h M;obtain⟨z,i,c,rfl,rfl,hz,he,q⟩:=h;obtain⟨t,rfl⟩:=F;obtain⟨t',rfl⟩:=O;obtain⟨j,h1,h2,h3,h4,h5⟩:=vM he;have J:z.cps.toList.length=z.length:=by simp[Str.length]
 rw[J]at h1 h4 h5;have hn:=mQ;exact tail_any (DB s z t) slot_str_getitem.lookup (getItem_str (c:=c) (by
  have U:decide (i < -(2 ^ 63:Int))=false:=decide_eq_false (by omega);have W:decide (i ≥ 2 ^ 63)=false:=decide_eq_false (by omega);rw[U,W,Bool.or_false]) (by rw[h1];simpa using h2) ⟨.str ⟨#[c]⟩,H,I.tok _,⟨_,rfl⟩,q⟩) M
theorem zI(its:List Ac)(n j:Nat)(u:Ac):Bf (·.setIfInBounds j u) { cls:=.type "list",data:=.seq its.toArray n }={ cls:=.type "list",data:=.seq (its.set j u).toArray n }:=by
 simp[Bf]
theorem Inv.lst{bd:List (Ae×Obj)}{σ:St}{H:Hp}{s:Ad}{p:Ae}{xs:List V}(I:Inv X bd σ H s)(h:H p=some (.lst xs)):
  ∃(its:List Ac) (n:Nat),cE xs its∧s.heap.get? p=some { cls:=.type "list",data:=.seq its.toArray n }∧xs.length≤sizeLine:=by
 obtain⟨z,its,n,r,e⟩:=I.hok p _ h;exact⟨its,n,r,e,z⟩
theorem Inv.lstUpd{bd:List (Ae×Obj)}{σ:St}{H:Hp}{s:Ad}{p:Ae}{xs ys:List V}{its its':List Ac}{n z:Nat}{f:Obj→Obj}(I:Inv X bd σ H s)(h:H p=some (.lst xs))
  (F:s.heap.get? p=some { cls:=.type "list",data:=.seq its.toArray n }) (B:f { cls:=.type "list",data:=.seq its.toArray n }={ cls:=.type "list",data:=.seq its'.toArray z }) (r:cE ys its') (hz:ys.length≤sizeLine) (t:Nat):
  Inv X bd σ (upd H p (.lst ys)) { s with heap:=s.heap.update p f,toks:=t }:=by
 have e:(s.heap.update p f).get? p=some { cls:=.type "list",data:=.seq its'.toArray z }:=by
  rw[Bu f F (by rw[B] <;> rfl),B]
 refine I.write (x:=p) (e:=p) (by rw[h];trivial) (.inl rfl) (fun b u J q=>(BY _ _ (C0 J)).trans q) ⟨_,e⟩ ?_;exact⟨hz,its',z,r,e⟩
inductive aAD(o:V)(i:V)(v:V)(H:Hp)(Q:(Hp→Prop)):Prop
 | mk (p:_) (xs:_) (k:_) (j:_) (q0:o=.ref p) (q1:i=.int k) (q2:H p=some (.lst xs)) (q3:ixN xs.length k=some j) (q4:Q (upd H p (.lst (xs.set j v)))):aAD o i v H Q
def aHu:V→V→V→Hp→(Hp→Prop)→Prop:=fun o i v H Q=>aAD o i v H Q
theorem aCP:aHi X aHu:=by
 intro bd s σ H o i v Y U u Q I O ri M h;obtain⟨p,xs,k,j,rfl,rfl,hp,hj,q⟩:=h;cases O;obtain⟨t,rfl⟩:=ri;obtain⟨its,n,r,ho,hz⟩:=I.lst hp;obtain⟨h1,h2,h3,h4⟩:=aAC hj;have z:=r.length;have hn:=mQ;have J:Inv X bd σ (upd H p (.lst (xs.set j v))) { s with heap:=s.heap.update p (Bf (·.setIfInBounds j u)) }:=
  I.lstUpd hp ho (zI its n j u) (r.set M j) (by rw[List.length_set];exact hz) s.toks
 by_cases F:0≤k
 ·have B:k.toNat=j:=by
   rw[Fc F h4]at h1;exact By.inj h1
  exact PySem.W.ki_setAt ho F (by omega) (by rw[Ao,← z];exact h4) (by rw[B];exact⟨_,J,q⟩)
 ·have B:(k + (its.toArray.size:Int)).toNat=j:=by
   rw[seqIndex_neg (by omega) h3]at h1;rw[Ao,← z];exact By.inj h1
  exact PySem.W.ki_setBack ho (by omega) (by rw[Ao,← z];exact h3) (by omega) (by rw[B];exact⟨_,J,q⟩)
theorem vN(lo hi:Option Int)(n:Nat):(sliceBounds lo hi none n).1=((HT.sIx n 0 lo:Nat):Int)∧(sliceBounds lo hi none n).2.1=((HT.sIx n n hi:Nat):Int)∧(sliceBounds lo hi none n).2.2=1:=by
 refine⟨?_,?_,rfl⟩
 ·cases lo with
  | none=>simp[sliceBounds,HT.sIx]
  | some i=>
   simp only[sliceBounds,HT.sIx,Option.getD_none,show(1:Int) > 0 by decide,if_true];by_cases h:i < 0
   ·simp only[h,if_true] <;> omega
   ·simp only[h,if_false] <;> omega
 ·cases hi with
  | none=>simp[sliceBounds,HT.sIx]
  | some i=>
   simp only[sliceBounds,HT.sIx,Option.getD_none,show(1:Int) > 0 by decide,if_true];by_cases h:i < 0
   ·simp only[h,if_true] <;> omega
   ·simp only[h,if_false] <;> omega
theorem tQ(its:List Ac)(lo hi:Option Int):slicePick its.toArray lo hi none=((its.drop (HT.sIx its.length 0 lo)).take (HT.sIx its.length its.length hi - HT.sIx its.length 0 lo)).toArray:=by
 obtain⟨h1,h2,h3⟩:=vN lo hi its.toArray.size;unfold slicePick;rw[h1,h2,h3];simp only[sliceRange_one,pick_run,Ao] <;> rfl
inductive aCQ(K:Ag)(x:V)(lo:Option Int)(hi:Option Int)(H:Hp)(Q:VK):Prop
 | mk (a:_) (xs:_) (q0:x=.ref a) (q1:SqL K H a xs) (q2:∀ p,H p=none→Q (.ref p) (upd H p (.lst (fG xs lo hi)))):aCQ K x lo hi H Q
def aHv(K:Ag):V→Option Int→Option Int→Hp→VK→Prop:=fun x lo hi H Q=>aCQ K x lo hi H Q
theorem f7:SlR X (aHv X.K):=by
 intro bd s σ H x v O M lo hi U Q I B F pl J h;obtain⟨a,xs,rfl,hx,q⟩:=h;cases B;obtain⟨its,r,ht,hz⟩:=I.list hx;have z:=r.length;refine⟨"list",_,slot_list_getitem.lookup,ht.isList.typeIs,wpAny_getItem_list_slice ht.isList F pl J .none (by simp) ?_ (by rw[Ao] <;> omega)⟩;rw[tQ,← z];refine⟨.ref s.heap.objs.size,_,I.laid (t':=s.toks) (o:=.lst (fG xs lo hi)) (fun b ob q=>Ah _ q) (Ak _) ?_,rfl,q _ (I.hok.fresh (Ak _))⟩;exact⟨A3 (pK xs lo hi) hz,_,0,(r.drop (HT.sIx xs.length 0 lo)).take (HT.sIx xs.length xs.length hi - HT.sIx xs.length 0 lo),Ax _ rfl⟩
def gF:V→Bool
 | .non=>true
 | .bl _=>true
 | .int _=>true
 | .str _=>true
 | _=>false
def eqV:V→V→Bool
 | .non,.non=>true
 | .bl a,.bl b=>a == b
 | .bl a,.int b=>(if a then 1 else 0) == b
 | .int a,.bl b=>a == (if b then 1 else 0)
 | .int a,.int b=>a == b
 | .str a,.str b=>a == b
 | _,_=>false
theorem zJ{A:AL}{s:Ad}{y x:V}{u v:Ac}(B:cQ y u)(q:cQ x v)(F:gF y=true)(z:gF x=true):Ex A s u v (eqV y x):=by
 cases y with
 | non=>
  cases B;cases x with
  | non=>cases q;exact SeqAt.EqAt.same _
  | bl b=>cases q;exact SeqAt.EqAt.none_bool b
  | int b=>obtain⟨t,rfl⟩:=q;exact SeqAt.EqAt.none_int b t
  | str b=>obtain⟨t,rfl⟩:=q;exact SeqAt.EqAt.none_str b t
  | _=>exact absurd (show false=true from z) Aw
 | bl a=>
  cases B;cases x with
  | non=>cases q;exact SeqAt.EqAt.bool_none a
  | bl b=>cases q;exact SeqAt.EqAt.bool_bool a b
  | int b=>obtain⟨t,rfl⟩:=q;exact SeqAt.EqAt.bool_int a b t
  | str b=>obtain⟨t,rfl⟩:=q;exact SeqAt.EqAt.bool_str a b t
  | _=>exact absurd (show false=true from z) Aw
 | int a=>
  obtain⟨t',rfl⟩:=B;cases x with
  | non=>cases q;exact SeqAt.EqAt.int_none a t'
  | bl b=>cases q;exact SeqAt.EqAt.int_bool a t' b
  | int b=>obtain⟨t,rfl⟩:=q;exact SeqAt.EqAt.int_int a t' b t
  | str b=>obtain⟨t,rfl⟩:=q;exact SeqAt.EqAt.int_str a t' b t
  | _=>exact absurd (show false=true from z) Aw
 | str a=>
  obtain⟨t',rfl⟩:=B;cases x with
  | non=>cases q;exact SeqAt.EqAt.str_none a t'
  | bl b=>cases q;exact SeqAt.EqAt.str_bool a t' b
  | int b=>obtain⟨t,rfl⟩:=q;exact SeqAt.EqAt.str_int a t' b t
  | str b=>obtain⟨t,rfl⟩:=q;exact DP a t' b t
  | _=>exact absurd (show false=true from z) Aw
 | _=>exact absurd (show false=true from F) Aw
def eqU(x:V)(u:Ac):Bool:=match u with
 | .none=>eqV .non x
 | .bool b=>eqV (.bl b) x
 | .int i _=>eqV (.int i) x
 | .str z _=>eqV (.str z) x
 | _=>false
theorem aCR{x y:V}{u:Ac}(r:cQ y u)(f:gF y=true):eqU x u=eqV y x:=by
 cases y with
 | non=>cases r;rfl
 | bl b=>cases r;rfl
 | int i=>obtain⟨t,rfl⟩:=r;rfl
 | str z=>obtain⟨t,rfl⟩:=r;rfl
 | _=>exact absurd (show false=true from f) Aw
theorem nE{x:V}:∀{xs:List V}{q:List Ac},cE xs q→xs.all gF=true→q.any (eqU x)=xs.any fun y=>eqV y x
 | _,_,.nil,_=>rfl
 | y :: xs,u :: q,.cons r t,f=>by
  rw[DA,A9]at f;rw[Dz,Dz,aCR r f.1,nE t f.2]
theorem kZ{A:AL}{s:Ad}{x:V}{v:Ac}(B:cQ x v)(F:gF x=true):∀{xs:List V}{z:List Ac},cE xs z→xs.all gF=true→∀ u∈z,Ex A s u v (eqU x u)
 | _,_,.nil,_=>fun u q=>by cases q
 | y :: xs,u :: z,.cons r t,f=>fun J q=>by
  rw[DA,A9]at f;rcases Aq.mp q with rfl | q
  ·rw[aCR r f.1];exact zJ r B f.1 F
  ·exact kZ B F t f.2 J q
def inV(x:V)(xs:List V):Bool:=xs.any fun y=>eqV y x
inductive aFF(K:Ag)(neg:Bool)(x:V)(y:V)(H:Hp)(Q:VK):Prop
 | mk (p:_) (xs:_) (q0:y=.ref p) (q1:(SqL K H p xs∨SqT K H p xs)) (q2:gF x=true) (q3:xs.all gF=true) (q4:Q (.bl (if neg then !inV x xs else inV x xs)) H):aFF K neg x y H Q
def rIn(K:Ag)(neg:Bool):R2:=fun x y H Q=>aFF K neg x y H Q
theorem i8:OpR X (compareOp .In) (rIn X.K false):=by
 intro bd s σ H x y v u Q I B F h;obtain⟨p,xs,rfl,z,fx,fs,q⟩:=h;cases F;rcases z with z | z
 ·obtain⟨its,r,pl,hz⟩:=I.list z;refine SeqAt.in_listAt (eqU x) pl.isList (fun w hw=>kZ B fx r fs w (by simpa using hw)) ⟨.bl _,H,I,rfl,?_⟩;rw[show its.toArray.any (eqU x)=its.any (eqU x) by simp,nE r fs];exact q
 ·obtain⟨its,r,pl,hz⟩:=I.tuple z;refine SeqAt.in_tupleAt (eqU x) pl (fun w hw=>kZ B fx r fs w (by simpa using hw)) ⟨.bl _,H,I,rfl,?_⟩;rw[show its.toArray.any (eqU x)=its.any (eqU x) by simp,nE r fs];exact q
theorem jY:OpR X (compareOp .NotIn) (rIn X.K true):=by
 intro bd s σ H x y v u Q I B F h;obtain⟨p,xs,rfl,z,fx,fs,q⟩:=h;cases F;rcases z with z | z
 ·obtain⟨its,r,pl,hz⟩:=I.list z;refine SeqAt.notIn_listAt (eqU x) pl.isList (fun w hw=>kZ B fx r fs w (by simpa using hw)) ⟨.bl _,H,I,rfl,?_⟩;rw[show its.toArray.any (eqU x)=its.any (eqU x) by simp,nE r fs];exact q
 ·obtain⟨its,r,pl,hz⟩:=I.tuple z;refine SeqAt.notIn_tupleAt (eqU x) pl (fun w hw=>kZ B fx r fs w (by simpa using hw)) ⟨.bl _,H,I,rfl,?_⟩;rw[show its.toArray.any (eqU x)=its.any (eqU x) by simp,nE r fs];exact q
inductive i9(K:Ag)(xs:List V)(H:Hp)(Q:VK):Prop
 | mk (p:_) (ys:_) (q0:xs=[.ref p]) (q1:(SqL K H p ys∨SqT K H p ys)) (q2:Q (.int ys.length) H):i9 K xs H Q
def iR(K:Ag):List V→Hp→VK→Prop:=fun xs H Q=>i9 K xs H Q
theorem bG:gE X (.builtin "len") (iR X.K):=by
 intro bd s σ H xs F Q I r h;obtain⟨p,ys,rfl,B,q⟩:=h;obtain⟨u,rfl,rx⟩:=fH r;cases rx;have hn:=mQ;rcases B with B | B
 ·obtain⟨its,r',pl,hz⟩:=I.list B;have z:=r'.length;exact Calls.call_len_list pl.isList (by simp only[Ao] <;> omega) ⟨.int ys.length,H,I.tok _,⟨s.toks + 1,by rw[Ao,z]⟩,q⟩
 ·obtain⟨its,r',pl,hz⟩:=I.tuple B;have z:=r'.length;exact len_tuple pl (by simp only[Ao] <;> omega) ⟨.int ys.length,H,I.tok _,⟨s.toks + 1,by rw[Ao,z]⟩,q⟩
inductive jA(xs:List V)(H:Hp)(Q:VK):Prop
 | mk (z:_) (q0:xs=[.str z]) (q1:z.length≤sizeLine) (q2:Q (.int z.length) H):jA xs H Q
def qO:List V→Hp→VK→Prop:=fun xs H Q=>jA xs H Q
theorem jZ:gE X (.builtin "len") qO:=by
 intro bd s σ H xs B Q I r h;obtain⟨z,rfl,hz,q⟩:=h;obtain⟨u,rfl,t,rfl⟩:=fH r;have hn:=mQ;exact len_str (by omega) ⟨.int z.length,H,I.tok _,⟨_,rfl⟩,q⟩
inductive jB(K:Ag)(xs:List V)(H:Hp)(Q:VK):Prop
 | mk (p:_) (ys:_) (q0:xs=[.ref p]) (q1:(SqL K H p ys∨SqT K H p ys)) (q2:∀ l,H l=none→Q (.ref l) (upd H l (.lst ys))):jB K xs H Q
def qP(K:Ag):List V→Hp→VK→Prop:=fun xs H Q=>jB K xs H Q
theorem dO:gE X (.type "list") (qP X.K):=by
 intro bd s σ H xs U Q I r h;obtain⟨p,ys,rfl,J,q⟩:=h;obtain⟨u,rfl,rx⟩:=fH r;cases rx;have O:∀(z:List Ac),cE ys z→ys.length≤sizeLine→∀(h':A8) (F:Nat),(∀ b o',s.heap.get? b=some o'→h'.get? b=some o')→
   h'.get? s.heap.objs.size=some { cls:=.type "list",dict:=none,data:=.seq z.toArray F,slots:=#[] }→EP X bd σ Q (.ref s.heap.objs.size) { s with heap:=h' }:=fun z B hz h' F kp e=>
  ⟨.ref s.heap.objs.size,_,I.laid (t':=s.toks) kp (Ak _) (show dB X.prog X.w _ h' _ (.lst ys) from⟨hz,z,F,B,e⟩),rfl,q _ (I.hok.fresh (Ak _))⟩
 rcases J with J | J
 ·obtain⟨z,B,pl,hz⟩:=I.list J;have M:=B.length;obtain⟨o,ho,hc,n,hd⟩:=pl.isList;exact call_list_seq p (.inl rfl) ho hc hd (fun h' F kp e=>O z B hz h' F kp e) (by simp only[Ao] <;> omega)
 ·obtain⟨z,B,pl,hz⟩:=I.tuple J;have M:=B.length;obtain⟨o,ho,hc,n,hd⟩:=pl;exact call_list_seq p (.inr rfl) ho hc hd (fun h' F kp e=>O z B hz h' F kp e) (by simp only[Ao] <;> omega)
inductive iV(K:Ag)(xs:List V)(H:Hp)(Q:VK):Prop
 | mk (p:_) (ys:_) (q0:xs=[.ref p]) (q1:((SqL K H p ys∧∀ l,H l=none→Q (.ref l) (upd H l (.tup ys)))∨(SqT K H p ys∧Q (.ref p) H))):iV K xs H Q
def pV(K:Ag):List V→Hp→VK→Prop:=fun xs H Q=>iV K xs H Q
theorem dE:gE X (.type "tuple") (pV X.K):=by
 intro bd s σ H xs J Q I r h;obtain⟨p,ys,rfl,h⟩:=h;obtain⟨u,rfl,rx⟩:=fH r;cases rx;rcases h with⟨hq,q⟩ | ⟨hq,q⟩
 ·obtain⟨its,r',pl,hz⟩:=I.list hq;have z:=r'.length;refine call_tuple_list pl.isList (fun h' kp=>?_) (by simp only[Ao] <;> omega);have B:Inv X bd σ H { s with heap:=h' }:=I.kept (t':=s.toks) kp;have F:Inv X bd σ (upd H h'.objs.size (.tup ys)) { s with heap:=h'.push { cls:=.type "tuple",data:=.seq its.toArray } }:=
   B.laid (t':=s.toks) (fun b o e=>Ah _ e) (Ak _) (show dB X.prog X.w _ _ _ (.tup ys) from⟨hz,its,r',⟨_,Ax _ rfl,⟨rfl,_,rfl⟩,rfl⟩⟩)
  exact⟨.ref h'.objs.size,_,F,rfl,q _ (B.hok.fresh (Ak _))⟩
 ·obtain⟨its,r',pl,hz⟩:=I.tuple hq;exact call_tuple_same pl ⟨.ref p,H,I,rfl,q⟩
def tyV(K:Ag)(T:String)(x:V)(H:Hp):Prop:=match x with
 | .str _=>T="str"
 | .int _=>T="int"
 | .ref p=>(T="list"∧∃ xs,SqL K H p xs)∨(T="tuple"∧∃ o,K.lookup p=some o∧o.cls=.type "tuple"∧o.dict=none)∨
   (T="dict"∧((∃ de,H p=some (.dK de))∨∃ de,H p=some (.dT de)))∨(T="set"∧∃ S n,H p=some (.set S n))∨(T="tuple"∧∃ xs,H p=some (.tup xs))
 | _=>False
theorem aGr{bd:List (Ae×Obj)}{σ:St}{H:Hp}{s:Ad}{T:String}{x:V}{v:Ac}(I:Inv X bd σ H s)(r:cQ x v)(ty:tyV X.K T x H):
  s.TypeIs v T∧∀ a,v=.ref a→∃ ob,s.heap.get? a=some ob∧ob.dict=none:=by
 cases x with
 | str z=>
  obtain⟨t,rfl⟩:=r;cases(show T="str" from ty);exact⟨DB s z t,fun _ e=>nomatch e⟩
 | int i=>
  obtain⟨t,rfl⟩:=r;cases(show T="int" from ty);exact⟨typeIs_int s i t,fun _ e=>nomatch e⟩
 | ref p=>
  cases r;rcases ty with⟨rfl,xs,hq⟩ | ⟨rfl,o,hk,hc,hd⟩ | ⟨rfl,hk⟩ | ⟨rfl,S,n,hk⟩ | ⟨rfl,xs,hq⟩
  ·obtain⟨its,_,pl,_⟩:=I.list hq;refine⟨pl.isList.typeIs,fun a e=>?_⟩;cases e;obtain⟨o,n,e,c,hd,_⟩:=pl;exact⟨o,e,hd⟩
  ·refine⟨⟨o,I.kIn p o hk,hc⟩,fun a e=>?_⟩;cases e;exact⟨o,I.kIn _ o hk,hd⟩
  ·have z:∃ o,s.heap.get? p=some o∧o.ExactDict:=by
    rcases hk with⟨de,hk⟩ | ⟨de,hk⟩
    ·obtain⟨_,_,_,_,o,_,_,e,ex,_⟩:=I.hok p _ hk;exact⟨o,e,ex⟩
    ·obtain⟨_,_,_,_,o,_,_,e,ex,_⟩:=I.hok p _ hk;exact⟨o,e,ex⟩
   obtain⟨o,e,ex⟩:=z;refine⟨⟨o,e,ex.1⟩,fun a q=>?_⟩;cases q;exact⟨o,e,ex.2.1⟩
  ·obtain⟨o,_,_,_,e,ex,_⟩:=I.hok p _ hk;refine⟨⟨o,e,ex.1⟩,fun a q=>?_⟩;cases q;exact⟨o,e,ex.2.1⟩
  ·obtain⟨_,_,_,o,e,⟨c,_⟩,hd⟩:=(show dB X.prog X.w H s.heap p (.tup xs) from I.hok p _ hq)
   refine⟨⟨o,e,c⟩,fun a q=>?_⟩;cases q;exact⟨o,e,hd⟩
 | _=>exact BV ty
def tBM(K:Ag)(T:String)(r:V→List V→Hp→VK→Prop)(to:TE)(t:TA):TE:=fun σ H Q=>to σ H fun x H1=>tyV K T x H1∧t σ H1 fun xs H2=>r x xs H2 Q
variable{o e:A6}{es:List A6}{to:TE}{t:TA}{name:Str}{dt dj:Pos}{T id:String}{r:V→List V→Hp→VK→Prop}
theorem f8(pa:PlainAttrs T)(slot:Slot T name id)(J:typeOf (.builtin id)=pure (.type "method_descriptor"))(hm:MtR X id r)(ho:PE X o to)(ha:PA X (e :: es) t)
  (z:attributeBase o name X.env (eval o X.env)=eval o X.env:=by rfl)
  (F:((backTo dj (starEach (e :: es) X.env)).all (fun x=>!x.1) && (backToKw dj (keywordEach [] X.env)).all (fun x=>x.1.isSome)
   && decide ((e :: es).length + ([]:List Dx).length + (if ([]:List Dx).isEmpty then 0 else 1) < 30))=true:=by rfl)
  (B:(dt.endLine == dj.line)=true:=by rfl) (Y:starEach (e :: es) X.env=(false,eval e X.env) :: starEach es X.env:=by rfl) (q:(backTo dj (starEach es X.env)).any (·.1)=false:=by rfl):
  PE X (.Call (.Attribute o name dt) (e :: es) [] dj) (tBM X.K T r to t):=by
 constructor;intro bd s σ H Q I h;refine wpAny_Call_method_late z F B rfl (thn (ho bd s σ H _ I h) fun v s1 ⟨x,H1,U,O,ty,q1⟩=>?_);obtain⟨h1,h2⟩:=aGr U O ty;refine⟨T,id,pa,slot,J,h1,h2,?_⟩;have M:=ha dj bd s1 σ H1 _ U q1;rw[Y]at M ⊢;refine Calls.callWith_builtin (by show(false || (backTo dj (starEach es X.env)).any (·.1))=false;rw[q] <;> rfl) (Calls.evalArgs_plain ?_)
 exact thn M fun us s2 ⟨vs,H2,Z,W,q2⟩=>hm bd s2 σ H2 x vs v us Q Z O W q2
end
def MtM(X:Cx)(id:String)(r:V→List V→Hp→VK→Prop):Prop:=
 ∀(bd:List (Ae×Obj)) (s:Ad) (σ:St) (H:Hp) (x:V) (xs:List V) (v:Ac) (us:List Ac) (Q:VK),Inv X bd σ H s→cQ x v→cE xs us→r x xs H Q→
  wpAny (model X.prog X.w) X.A (call (.builtin id) (v :: us)) (EP X bd σ Q) X.xe s
theorem cE.one:∀{x:V}{q:List Ac},cE [x] q→∃ u,q=[u]∧cQ x u
 | _,_,.cons r .nil=>⟨_,rfl,r⟩
theorem cE.eraseIdx:∀{xs:List V}{q:List Ac} (i:Nat),cE xs q→cE (xs.eraseIdx i) (q.eraseIdx i)
 | _,_,_,.nil=>.nil
 | _,_,0,.cons _ t=>t
 | _,_,i + 1,.cons r t=>.cons r (cE.eraseIdx i t)
theorem cE.reverse{xs:List V}{q:List Ac}(h:cE xs q):cE xs.reverse q.reverse:=by
 induction h with
 | nil=>exact .nil
 | cons r t z=>rw[List.reverse_cons,List.reverse_cons];exact cE.append z (.cons r .nil)
theorem uB{α:Type}:∀(l:List α) (i:Nat),(l.eraseIdx i).length≤l.length
 | [],_=>Ak _
 | _ :: _,0=>Cz _
 | _ :: r,i + 1=>Nat.succ_le_succ (uB r i)
section
variable{X:Cx}{bd:List (Ae×Obj)}{σ:St}{H:Hp}{s:Ad}{l b:Ae}{xs ys zs:List V}
theorem Inv.lset{its its':List Ac}{n:Nat}{f:Array Ac→Array Ac}{t':Nat}(I:Inv X bd σ H s)(J:H l=some (.lst xs))
  (e:s.heap.get? l=some { cls:=.type "list",data:=.seq its.toArray n }) (z:f its.toArray=its'.toArray) (M:cE ys its') (hz:ys.length≤sizeLine):
  Inv X bd σ (upd H l (.lst ys)) { s with heap:=s.heap.update l (Bf f),toks:=t' }:=by
 have q:=PySem.IsL.update e f;rw[z]at q;refine I.write (x:=l) (e:=l) (by rw[J];exact trivial) (.inl rfl) (fun O u B F=>(BY s.heap (Bf f) (C0 B)).trans F) ⟨_,q⟩ ?_;exact⟨hz,its',_,M,q⟩
theorem Inv.lnew{its:List Ac}{t':Nat}(I:Inv X bd σ H s)(z:cE ys its)(hz:ys.length≤sizeLine):
  Inv X bd σ (upd H s.heap.objs.size (.lst ys)) { s with heap:=s.heap.push { cls:=.type "list",data:=.seq its.toArray },toks:=t' }:=
 I.laid (fun _ _ q=>Ah _ q) (Ak _) ⟨hz,its,0,z,Ax _ rfl⟩
theorem Inv.fresh(I:Inv X bd σ H s):H s.heap.objs.size=none:=I.hok.fresh (Ak _)
theorem Inv.lstM(I:Inv X bd σ H s)(q:H l=some (.lst xs)):xs.length≤sizeLine∧∃(its:List Ac) (n:Nat),cE xs its∧xs.length=its.length∧s.heap.get? l=some { cls:=.type "list",data:=.seq its.toArray n }:=by
 obtain⟨z,its,n,r,e⟩:=I.hok l _ q;exact⟨z,its,n,r,r.length,e⟩
theorem aCS{n:Nat}(h:n≤sizeLine):De n=false:=by
 unfold De;exact decide_eq_false (by omega)
end
section
variable{X:Cx}
inductive uC(x:V)(vs:List V)(H:Hp)(Q:VK):Prop
 | mk (l:_) (xs:_) (y:_) (q0:x=.ref l) (q1:vs=[y]) (q2:H l=some (.lst xs)) (q3:xs.length < sizeLine) (q4:Q .non (upd H l (.lst (xs ++ [y])))):uC x vs H Q
def aEL:V→List V→Hp→VK→Prop:=fun x vs H Q=>uC x vs H Q
theorem iH:MtM X "list.append" aEL:=by
 intro bd s σ H x vs v M Q I B J h;obtain⟨l,xs,y,rfl,rfl,hH,hz,q⟩:=h;cases B;obtain⟨u,rfl,ru⟩:=J.one;obtain⟨z,its,n,r,hl,e⟩:=I.lstM hH;refine DU F.slot_list_append ⟨_,e,rfl⟩ F.entry_list_append (F.args_list_append_2 _ _) (PySem.list_append l its.toArray n u (by rw[Ao];omega)) ⟨e,?_⟩;refine⟨.non,_,I.lset (its':=its ++ [u]) hH e (by simp) (r.append (.cons ru .nil)) ?_,rfl,q⟩;rw[An,DQ];omega
inductive uD(x:V)(vs:List V)(H:Hp)(Q:VK):Prop
 | mk (l:_) (b:_) (xs:_) (zs:_) (q0:x=.ref l) (q1:vs=[.ref b]) (q2:H l=some (.lst xs)) (q3:H b=some (.lst zs)) (q4:xs.length + zs.length≤sizeLine) (q5:Q .non (upd H l (.lst (xs ++ zs)))):uD x vs H Q
def aEM:V→List V→Hp→VK→Prop:=fun x vs H Q=>uD x vs H Q
theorem oK:MtM X "list.extend" aEM:=by
 intro bd s σ H x vs v U Q I M O h;obtain⟨l,b,xs,zs,rfl,rfl,hH,hB,hz,q⟩:=h;cases M;obtain⟨u,rfl,ru⟩:=O.one;cases ru;obtain⟨z,its,n,r,hl,e⟩:=I.lstM hH;obtain⟨z2,its2,n2,r2,hl2,e2⟩:=I.lstM hB;have J:its.toArray.size + its2.toArray.size≤sizeLine:=by rw[Ao,Ao];omega
 have B:¬ (!its.toArray.isEmpty && De (its.toArray.size + its2.toArray.size))=true:=by
  rw[aCS J,Bool.and_false];exact Aw
 refine DU F.slot_list_extend ⟨_,e,rfl⟩ F.entry_list_extend (F.args_list_extend_2 _ _)
  (AutoSeq1.list_extend_list_list_0 l its.toArray n b its2.toArray n2 B (by rw[Ao];omega) (by omega)) ⟨e,e2,?_⟩
 refine⟨.non,_,I.lset (its':=its ++ its2) hH e (by simp) (r.append r2) ?_,rfl,q⟩;rw[An];omega
inductive wS(x:V)(vs:List V)(H:Hp)(Q:VK):Prop
 | mk (l:_) (xs:_) (i:_) (k:_) (y:_) (q0:x=.ref l) (q1:vs=[.int i]) (q2:H l=some (.lst xs)) (q3:-(2 ^ 63)≤i) (q4:i < 2 ^ 63) (q5:seqIndex? i xs.length=some k) (q6:xs[k]?=some y) (q7:Q y (upd H l (.lst (xs.eraseIdx k)))):wS x vs H Q
def aGs:V→List V→Hp→VK→Prop:=fun x vs H Q=>wS x vs H Q
theorem aCT:MtM X "list.pop" aGs:=by
 intro bd s σ H x vs v M Q I B J h;obtain⟨l,xs,i,k,y,rfl,rfl,hH,h1,h2,hk,hy,q⟩:=h;cases B;obtain⟨u,rfl,ru⟩:=J.one;obtain⟨t,rfl⟩:=ru;obtain⟨z,its,n,r,hl,e⟩:=I.lstM hH;obtain⟨w,hw,rw'⟩:=r.get hy;refine DU F.slot_list_pop ⟨_,e,rfl⟩ F.entry_list_pop (F.args_list_pop_2 _ _)
  (MeetsSeq.list_pop_at l its.toArray n i t k w (fitsIndex_both h1 h2) (by rw[Ao,← hl];exact hk) (by rw[← Array.getElem?_toList];exact hw) (by rw[Ao];omega)) ⟨e,?_⟩
 refine⟨y,_,I.lset (its':=its.eraseIdx k) hH e ?_ (r.eraseIdx k) ?_,rw',q⟩
 ·show its.toArray.eraseIdxIfInBounds k=(its.eraseIdx k).toArray;rw[List.eraseIdxIfInBounds_toArray]
 ·have:=uB xs k;omega
inductive aCU(x:V)(y:V)(H:Hp)(Q:VK):Prop
 | mk (l:_) (b:_) (xs:_) (zs:_) (q0:x=.ref l) (q1:y=.ref b) (q2:H l=some (.lst xs)) (q3:H b=some (.lst zs)) (q4:xs.length + zs.length≤sizeLine) (q5:∀ p,H p=none→Q (.ref p) (upd H p (.lst (xs ++ zs)))):aCU x y H Q
def aIj:R2:=fun x y H Q=>aCU x y H Q
theorem j0:OpR X (binaryOp .Add) aIj:=by
 intro bd s σ H x y v u Q I B J h;obtain⟨l,b,xs,zs,rfl,rfl,hH,hB,hz,q⟩:=h;cases B;cases J;obtain⟨z,its,n,r,hl,e⟩:=I.lstM hH;obtain⟨z2,its2,n2,r2,hl2,e2⟩:=I.lstM hB;refine PySem.P.add_list e e2 ?_ (by rw[Ao,Ao];omega);have F:its.toArray ++ its2.toArray=(its ++ its2).toArray:=by simp
 rw[F];exact⟨.ref _,_,I.lnew (t':=s.toks) (r.append r2) (by rw[An];omega),rfl,q _ I.fresh⟩
end
section
variable{prog:Ay}{w:AQ}{A:AL}{E:Ac→Ad→Prop}{s:Ad}
end
section
variable{X:Cx}
end
section
variable{κ:Type}[DecidableEq κ]
def f9(de:List (κ×V))(k:κ):Option V:=(de.find? fun kv=>decide (kv.1=k)).map (·.2)
def gG(de:List (κ×V))(k:κ)(v:V):List (κ×V):=
 if (de.any fun kv=>decide (kv.1=k))=true then de.map (fun kv=>if kv.1=k then(kv.1,v) else kv) else de ++ [(k,v)]
def aIB(de:List (κ×V))(k:κ):List (κ×V):=de.filter fun kv=>decide (kv.1≠k)
theorem qQ{k:κ}:f9 ([]:List (κ×V)) k=none:=rfl
theorem jC{p:κ×V}{r:List (κ×V)}{k:κ}(e:p.1=k):f9 (p :: r) k=some p.2:=by simp[f9,CL,e]
theorem dG{p:κ×V}{r:List (κ×V)}{k:κ}(e:¬ p.1=k):f9 (p :: r) k=f9 r k:=by simp[f9,CL,e]
theorem qR(k:κ):∀ de:List (κ×V),(de.any fun q=>decide (q.1=k))=(f9 de k).isSome
 | []=>rfl
 | p :: r=>by
  rw[Dz];by_cases e:p.1=k
  ·simp only[jC e,Ic e,Bool.true_or,Option.isSome_some]
  ·rw[dG e,decide_eq_false e,Bool.false_or];exact qR k r
theorem k9(de:List (κ×V))(k:κ)(v:V):(gG de k v).length≤de.length + 1:=by
 unfold gG;split
 ·rw[Ab];omega
 ·rw[An,A0,List.length_nil];omega
theorem qS{de:List (κ×V)}{k:κ}(v:V)(h:f9 de k=none):gG de k v=de ++ [(k,v)]:=by
 unfold gG;rw[qR,h];exact Ia (by decide)
theorem m7.isSome_eq{o:Option V}{u:Option Ac}(r:m7 o u):o.isSome=u.isSome:=by
 cases o with
 | none=>cases u with
  | none=>rfl
  | some _=>exact(show False from r).elim
 | some _=>cases u with
  | none=>exact(show False from r).elim
  | some _=>rfl
theorem m7.getD{o:Option V}{u:Option Ac}{d:V}{d':Ac}(r:m7 o u)(rd:cQ d d'):cQ (o.getD d) (u.getD d'):=by
 cases o with
 | none=>cases u with
  | none=>exact rd
  | some _=>exact(show False from r).elim
 | some _=>cases u with
  | none=>exact(show False from r).elim
  | some _=>exact r
theorem KV.val{de:List (κ×V)}{vs:List (κ×Ac)}(r:KV de vs)(k:κ):m7 (f9 de k) (valueAt vs k):=by
 unfold KV at r
 induction r with
 | nil=>exact Cf
 | @cons p q ps F h t J=>
  obtain⟨h1,h2⟩:=h;by_cases e:p.1=k
  ·have B:q.1=k:=h1.symm.trans e;have b:valueAt (q :: F) k=some q.2:=by simp[valueAt,CL,B]
   rw[jC e,b];exact h2
  ·have B:¬ q.1=k:=fun z=>e (h1.trans z);have b:valueAt (q :: F) k=valueAt F k:=by simp[valueAt,CL,B]
   rw[dG e,b];exact J
theorem KV.any{de:List (κ×V)}{vs:List (κ×Ac)}(r:KV de vs)(k:κ):(de.any fun q=>decide (q.1=k))=vs.any fun q=>decide (q.1=k):=by
 unfold KV at r
 induction r with
 | nil=>rfl
 | cons h t z=>rw[Dz,Dz,z,h.1]
theorem KV.repl{de:List (κ×V)}{vs:List (κ×Ac)}(r:KV de vs)(k:κ){y:V}{u:Ac}(J:cQ y u):
  KV (de.map fun B=>if B.1=k then(B.1,y) else B) (vs.map fun B=>if B.1=k then(B.1,u) else B):=by
 unfold KV at r ⊢
 induction r with
 | nil=>exact .nil
 | @cons p q ps M h t F=>
  rw[Bg,Bg];refine .cons ?_ F;obtain⟨h1,h2⟩:=h;by_cases e:p.1=k
  ·rw[Ib e,Ib (h1.symm.trans e)];exact⟨h1,J⟩
  ·rw[Ia e,Ia (fun z=>e (h1.trans z))];exact⟨h1,h2⟩
theorem KV.put{de:List (κ×V)}{vs:List (κ×Ac)}(r:KV de vs)(k:κ){y:V}{u:Ac}(q:cQ y u):KV (gG de k y) (stored vs k u):=by
 unfold gG stored;rw[r.any k];by_cases e:(vs.any fun z=>decide (z.1=k))=true
 ·rw[Ib e,Ib e];exact r.repl k q
 ·rw[Ia e,Ia e];exact Paired.snoc r ⟨rfl,q⟩
theorem KV.length{de:List (κ×V)}{vs:List (κ×Ac)}(r:KV de vs):de.length=vs.length:=DW r
end
theorem pL{P:Ay}{w:AQ}{k:Key}{u:Ac}(r:cQ (kV k) u):(cJ P w).is k u=true:=by
 cases k with
 | inl i=>obtain⟨t,e⟩:=(show∃ t,u=Bs i t from r);subst e;exact wH P w i t
 | inr x=>obtain⟨t,e⟩:=(show∃ t,u=Bp x t from r);subst e;exact wI P w x t
theorem uE{P:Ay}{w:AQ}:∀{ks:List Key}{q:List Ac},cE (ks.map kV) q→ItemsAre (cJ P w) ks q
 | [],_,r=>by rw[Dk]at r;cases r;exact .nil
 | k :: ks,_,r=>by
  rw[Bg]at r;cases r with
  | cons h t=>exact .cons (pL h) (uE t)
abbrev KT(H:Hp):List (List Key×V)→List (List Key×Ae×Ac)→Prop:=ED fun p q=>p.1=q.1∧H q.2.1=some (.tup (p.1.map kV))∧cQ p.2 q.2.2
theorem KT.val{H:Hp}{de:List (List Key×V)}{xs:List (List Key×Ae×Ac)}(r:KT H de xs)(k:List Key):m7 (f9 de k) ((atKey xs k).map (·.2)):=by
 induction r with
 | nil=>exact Cf
 | @cons p q ps F h t J=>
  obtain⟨h1,_,h2⟩:=h;by_cases e:p.1=k
  ·have B:q.1=k:=h1.symm.trans e;have b:atKey (q :: F) k=some q.2:=by simp[atKey,CL,B]
   rw[jC e,b];exact h2
  ·have B:¬ q.1=k:=fun z=>e (h1.trans z);have b:atKey (q :: F) k=atKey F k:=by simp[atKey,CL,B]
   rw[dG e,b];exact J
theorem KT.repl{H:Hp}{de:List (List Key×V)}{xs:List (List Key×Ae×Ac)}(r:KT H de xs)(k:List Key){y:V}{u:Ac}(J:cQ y u):
  KT H (de.map fun B=>if B.1=k then(B.1,y) else B) (xs.map (putAt k u)):=by
 induction r with
 | nil=>exact .nil
 | @cons p q ps M h t F=>
  rw[Bg,Bg];refine .cons ?_ F;obtain⟨h1,h2,h3⟩:=h;unfold putAt;by_cases e:p.1=k
  ·rw[Ib e,Ib (h1.symm.trans e)];exact⟨h1,h2,J⟩
  ·rw[Ia e,Ia (fun z=>e (h1.trans z))];exact⟨h1,h2,h3⟩
theorem KT.put{H:Hp}{de:List (List Key×V)}{xs:List (List Key×Ae×Ac)}(r:KT H de xs)(k:List Key){b:Ae}{y:V}{u:Ac}(B:H b=some (.tup (k.map kV)))(z:cQ y u):
  KT H (gG de k y) (storedH xs k b u):=by
 have e:(de.any fun F=>decide (F.1=k))=(atKey xs k).isSome:=by
  rw[qR,(r.val k).isSome_eq,Option.isSome_map]
 unfold gG storedH;rw[e];by_cases q:(atKey xs k).isSome=true
 ·rw[Ib q,Ib q];exact r.repl k z
 ·rw[Ia q,Ia q];exact Paired.snoc r ⟨rfl,B,z⟩
theorem KT.keeps{H H':Hp}{de:List (List Key×V)}{xs:List (List Key×Ae×Ac)}(r:KT H de xs)(ht:∀ b ys,H b=some (.tup ys)→H' b=some (.tup ys)):KT H' de xs:=
 Paired.mapP r fun _ _ z=>⟨z.1,ht _ _ z.2.1,z.2.2⟩
section
variable{P:Ay}{w:AQ}{H:Hp}{h:A8}{a:Ae}
theorem aFG{u:HO}(ok:HOk P w H h)(e:Rd H a u):dB P w H h a u:=e.ok ok
theorem wT{de:List (Key×V)}(ok:HOk P w H h)(e:Rd H a (.dK de)):de.length≤sizeLine∧(a == sysModules)=false∧∃ vs,KV de vs∧h.DictOf (cJ P w) a vs:=
 show dB P w H h a (.dK de) from aFG ok e
theorem aCV{de:List (Key×V)}(ok:HOk P w H h)(e:H a=some (.dK de)):de.length≤sizeLine∧(a == sysModules)=false∧∃ vs,KV de vs∧h.DictOf (cJ P w) a vs:=wT ok (.inl e)
theorem vO{ks:List Key}(ok:HOk P w H h)(e:H a=some (.tup (ks.map kV))):(tupleKind (cJ P w)).is h ks a:=by
 obtain⟨_,its,r,o,h1,⟨h2,n,h3⟩,_⟩:=(show dB P w H h a (.tup (ks.map kV)) from ok a _ e)
 exact⟨o,its.toArray,n,h1,h2,h3,by simpa using uE r⟩
theorem wU{de:List (List Key×V)}(ok:HOk P w H h)(e:Rd H a (.dT de)):de.length≤sizeLine∧(a == sysModules)=false∧
  ∃ xs,KT H de xs∧h.DictOfH (tupleKind (cJ P w)) a xs:=by
 obtain⟨z,y,xs,r,o,es,ep,h1,h2,h3,h4,h5⟩:=(show dB P w H h a (.dT de) from aFG ok e)
 refine⟨z,y,xs,r,o,es,ep,h1,h2,h3,h4,fun x B=>?_,h5⟩;have all:∀{l:List (List Key×V)} {m:List (List Key×Ae×Ac)},KT H l m→∀ x∈m,(tupleKind (cJ P w)).is h x.1 x.2.1:=by
  intro l m q
  induction q with
  | nil=>intro x B;exact nomatch B
  | @cons p q ps M F t J=>
   intro x B;rcases Aq.mp B with e | B
   ·subst e;exact vO ok (by rw[← F.1];exact F.2.1)
   ·exact J x B
 exact all r x B
theorem aHw{de:List (List Key×V)}(ok:HOk P w H h)(e:H a=some (.dT de)):de.length≤sizeLine∧(a == sysModules)=false∧
  ∃ xs,KT H de xs∧h.DictOfH (tupleKind (cJ P w)) a xs:=wU ok (.inl e)
end
def oM(H:Hp)(a:Ae)(y:V)(r:Option V):Prop:=
 (∃ de k,Rd H a (.dK de)∧y=kV k∧r=f9 de k)∨∃ de k b,Rd H a (.dT de)∧y=.ref b∧H b=some (.tup (k.map kV))∧r=f9 de k
def wV(H:Hp)(a:Ae)(y v:V)(H':Hp):Prop:=
 (∃ de k,H a=some (.dK de)∧y=kV k∧de.length < sizeLine∧H'=upd H a (.dK (gG de k v)))∨
 ∃ de k b,H a=some (.dT de)∧y=.ref b∧H b=some (.tup (k.map kV))∧de.length < sizeLine∧H'=upd H a (.dT (gG de k v))
theorem oM.k{H:Hp}{a:Ae}{de:List (Key×V)}{k:Key}(e:H a=some (.dK de)):oM H a (kV k) (f9 de k):=.inl ⟨de,k,.inl e,rfl,rfl⟩
theorem wV.k{H:Hp}{a:Ae}{de:List (Key×V)}{k:Key}{v:V}(e:H a=some (.dK de))(q:de.length < sizeLine):wV H a (kV k) v (upd H a (.dK (gG de k v))):=.inl ⟨de,k,e,rfl,q,rfl⟩
section
variable{X:Cx}{bd:List (Ae×Obj)}{σ:St}{H:Hp}{s:Ad}{a:Ae}{y v:V}{u r:Ac}{o:Option V}{A:AL}{E:Ac→Ad→Prop}
theorem Inv.big(I:Inv X bd σ H s):sysModules < s.heap.objs.size:=by
 have h:mainGlobals < s.heap.objs.size:=(I.mod.glob.keeps I.bk).lt;exact CW (by decide) h
theorem aBI{Q:Ac→Ad→Prop}(F:A.units + 1 < cLine)(I:Inv X bd σ H s)(g:oM H a y (some v))(B:cQ y u)(h:∀ q s',Inv X bd σ H s'→cQ v q→Q q s'):
  wpAny (model X.prog X.w) A (getItem (.ref a) u) Q E s:=by
 rcases g with⟨de,k,e,ey,l⟩ | ⟨de,k,b,e,ey,eb,l⟩
 ·subst ey;obtain⟨z,hd,vs,rel,dd⟩:=wT I.hok e;obtain⟨q,hw,rw'⟩:=m7.some_of (v:=v) (o:=valueAt vs k) (by rw[l];exact rel.val k);exact wpAny_getItem_of (pL B) dd.mapOf hw (h q _ (I.tok _) rw')
 ·subst ey;cases(show u=AO b from B);obtain⟨z,hd,xs,rel,dd⟩:=wU I.hok e;obtain⟨q,hw,rw'⟩:=m7.some_of (v:=v) (o:=(atKey xs k).map (·.2)) (by rw[l];exact rel.val k)
  obtain⟨p,hp,hp2⟩:=Cd.mp hw;refine wpAny_getItem_heap (Em F) (vO I.hok eb) dd hp ?_;rw[hp2];exact h q _ (I.tok _) rw'
theorem vP{h':A8}{t':Nat}{ob:HO}(I:Inv X bd σ H s)(B:Mut (H a))(J:CU a s.heap h')(M:∃ q,h'.get? a=some q)(new:dB X.prog X.w (upd H a ob) h' a ob):
  Inv X bd σ (upd H a ob) { s with heap:=h',toks:=t' }:=
 I.write (x:=a) (e:=a) B (.inl rfl) (fun b q F z=>(J.2 b F).trans z) M new
theorem aCW{P:Ay}{w:AQ}{H':Hp}{h':A8}{de:List (Key×V)}{vs:List (Key×Ac)}(z:de.length≤sizeLine)(hd:(a == sysModules)=false)(rel:KV de vs)(q:h'.DictOf (cJ P w) a vs):
  dB P w H' h' a (.dK de):=⟨z,hd,vs,rel,q⟩
theorem aBJ{H':Hp}{Q:Unit→Ad→Prop}(Y:A.units + 1 < cLine)(I:Inv X bd σ H s)(g:wV H a y v H')(O:cQ y u)(M:cQ v r)(h:∀ s',Inv X bd σ H' s'→Q () s'):
  wpAny (model X.prog X.w) A (setItem (.ref a) u r) Q E s:=by
 rcases g with⟨de,k,e,ey,l,eH⟩ | ⟨de,k,b,e,ey,eb,l,eH⟩
 ·subst ey eH;obtain⟨z,hd,vs,rel,dd⟩:=aCV I.hok e;have hz:vs.length≤sizeLine:=by rw[← rel.length];exact z
  have F:(gG de k v).length≤sizeLine:=by have:=k9 de k v;omega
  refine wpAny_setItem_pairs (hsz:=hz) (pL O) dd fun h' B J=>h _ ?_;have W:∃ q,h'.get? a=some q:=let ⟨q,_,_,hq,_⟩:=B;⟨q,hq⟩
  exact vP I (by rw[e];exact Cf) J W (aCW F hd (rel.put k M) B)
 ·subst ey eH;cases(show u=AO b from O);obtain⟨z,hd,xs,rel,dd⟩:=aHw I.hok e;have hz:xs.length≤sizeLine:=by rw[← DW rel];exact z
  have F:(gG de k v).length≤sizeLine:=by have:=k9 de k v;omega
  refine wpAny_setItem_heap (hsz:=hz) (Em Y) (vO I.hok eb) dd fun h' B J=>h _ ?_;obtain⟨q,es,ep,hq,h2,h3,h4,_,h5⟩:=B;refine vP I (by rw[e];exact Cf) J ⟨q,hq⟩ ⟨F,hd,_,(rel.put k eb M).keeps fun c ys U=>?_,q,es,ep,hq,h2,h3,h4,h5⟩;rw[bU (aCt U e (fun z=>nomatch z))];exact U
end
section
variable{X:Cx}{bd:List (Ae×Obj)}{σ:St}{H:Hp}{s:Ad}{a:Ae}{de:List (Key×V)}{k:Key}{u:Ac}{A:AL}{E:Ac→Ad→Prop}
end
def aGt(i:A6):Prop:=∀ ov iv,subscripted i false ov iv=operate [ov,iv] (getItem ov iv)
theorem aAE{prog:Ay}{w:AQ}{A:AL}{E:Ac→Ad→Prop}{s:Ad}{env:Env}{value q:A6}{pos:Pos}{T id:String}{Q:Ac→Ad→Prop}
  (O:typeLookup (.type T) "__getitem__"=pure (some (.builtin id))) (U:aGt q)
  (h:wpAny (model prog w) A (eval value env) (fun o J=>wpAny (model prog w) A (eval q env) (fun i B=>B.TypeIs o T∧wpAny (model prog w) A (getItem o i) Q E B) E J) E s):
  wpAny (model prog w) A (eval (.Subscript value q pos) env) Q E s:=by
 refine EN (B4 h (fun o J W=>B4 W (fun i B F=>?_) fun _ _ x=>x) fun _ _ x=>x);obtain⟨hT,F⟩:=F;unfold subscriptTail;refine Aa ?_;rw[getitemInPython_of_ne hT.not_modules];refine Aa (Dp hT O ?_);have z:wpAny (model prog w) A (subscripted q false o i) (fun r M=>wpAny (model prog w) A (letTemporaryGo value o r >>= fun _=>pure r) Q E M) E B:=by
  rw[U o i];exact wpAny_operating (B4 F (fun r M Y=>Aa (wpAny_letTemporaryGo (Af Y))) fun _ _ x=>x)
 first
  | exact Af (Aa z)
  | exact Aa (Af (Aa z))
  | exact Aa z
theorem wW{X:Cx}{bd:List (Ae×Obj)}{σ:St}{H:Hp}{s:Ad}{a:Ae}{y:V}{o:Option V}(I:Inv X bd σ H s)(g:oM H a y o):s.TypeIs (.ref a) "dict":=by
 rcases g with⟨de,k,e,_,_⟩ | ⟨de,k,b,e,_,_,_⟩
 ·obtain⟨_,_,vs,_,dd⟩:=wT I.hok e;exact dd.typeIs
 ·obtain⟨_,_,xs,_,dd⟩:=wU I.hok e;exact dd.typeIs
def aHx(td ty:TE):TE:=fun σ H Q=>td σ H fun x H1=>ty σ H1 fun y H2=>∃ a v,x=.ref a∧oM H2 a y (some v)∧Q v H2
def aHy(td ty tv:TE):TS:=fun D σ H=>tv σ H fun v H1=>td σ H1 fun x H2=>ty σ H2 fun y H3=>∃ a H4,x=.ref a∧wV H3 a y v H4∧D.nx σ H4
section
variable{X:Cx}{o i e value:A6}{pos du tpos:Pos}{td ty tv:TE}
theorem nF(hu:X.A.units + 1 < cLine)(O:PE X o td)(hi:PE X i ty)(J:aGt i):PE X (.Subscript o i pos) (aHx td ty):=by
 constructor;intro bd s σ H Q I h;refine aAE PySem.F.slot_dict_getitem.lookup J (thn (O bd s σ H _ I h) fun u Z ⟨x,H1,I1,B,M⟩=>thn (hi bd Z σ H1 _ I1 M) fun iv s2 ⟨y,H2,z,U,a,v,ex,g,Y⟩=>?_);subst ex;obtain rfl:u=AO a:=B;exact⟨wW z g,aBI hu z g U fun w' s3 W q=>⟨v,H2,W,q,Y⟩⟩
theorem vQ(hu:X.A.units + 1 < cLine)(O:PE X o td)(hi:PE X i ty)(Z:PE X value tv)(B:swapsWith value (some (.Subscript o i du)) pos.line X.env=pure false):
  PS X (.Assign [.Subscript o i du] value pos) (aHy td ty tv):=by
 constructor;intro bd s σ H D I h;refine wpAny_Assign_Subscript (thn (Z bd s σ H _ I h) fun r s1 ⟨v,H1,I1,z,J⟩=>thn (O bd s1 σ H1 _ I1 J) fun u s2 ⟨x,H2,F,q,q2⟩=>thn (hi bd s2 σ H2 _ F q2) fun iv s3 ⟨y,H3,U,W,a,M,ex,g,Y⟩=>?_) B;subst ex;obtain rfl:u=AO a:=q;exact aBJ hu U g W z fun s4 I4=>⟨σ,M,I4,Y⟩
end
theorem aCX{P:Ay}{w:AQ}{H:Hp}(h:A8)(q:sysModules < h.objs.size):dB P w H (h.push { cls:=.type "dict",data:=.dict #[] }) h.objs.size (.dK []):=
 ⟨Bc _,beq_eq_false_iff_ne.mpr (C0 (AJ q)),[],.nil,Heap.DictOf.new h⟩
section
variable{X:Cx}{pos:Pos}
end
def zK:List (TE×TE)→St→Hp→(List (V×V)→Hp→Prop)→Prop
 | [],_,H,Q=>Q [] H
 | (tk,tv) :: r,σ,H,Q=>tk σ H fun x H1=>tv σ H1 fun y H2=>zK r σ H2 fun ps H3=>Q ((x,y) :: ps) H3
abbrev VV:List (V×V)→List (Ac×Ac)→Prop:=ED fun p q=>cQ p.1 q.1∧cQ p.2 q.2
def PPs(X:Cx)(pos:Pos)(keys:List (Option A6))(values:List A6)(trs:List (TE×TE)):Prop:=
 ∀(bd:List (Ae×Obj)) (s:Ad) (σ:St) (H:Hp) (Q:List (V×V)→Hp→Prop),Inv X bd σ H s→zK trs σ H Q→
  wpAny (model X.prog X.w) X.A (evalPairs (pairTrees keys values X.env pos)) (fun vs s'=>∃ ps H',Inv X bd σ H' s'∧VV ps vs∧Q ps H') X.xe s
theorem aAF{X:Cx}{pos:Pos}:PPs X pos [] [] []:=fun bd s σ H Q I h=>pairTrees_nil_walk ⟨[],H,I,.nil,h⟩
theorem gY{X:Cx}{pos:Pos}{k v:A6}{ks:List (Option A6)}{vs:List A6}{tk tv:TE}{q:List (TE×TE)}(B:PE X k tk)(W:PE X v tv)(Y:PPs X pos ks vs q):
  PPs X pos (some k :: ks) (v :: vs) ((tk,tv) :: q):=fun bd s σ H Q I h=>
 pairTrees_cons_walk (thn (B bd s σ H _ I h) fun u s1 ⟨x,H1,I1,z,J⟩=>thn (W bd s1 σ H1 _ I1 J) fun w2 s2 ⟨y,H2,F,O,Z⟩=>
  thn (Y bd s2 σ H2 _ F Z) fun ws s3 ⟨ps,H3,M,rel,U⟩=>⟨(x,y) :: ps,H3,M,.cons ⟨z,O⟩ rel,U⟩)
def mS(de more:List (Key×V)):List (Key×V):=more.foldl (fun acc kv=>gG acc kv.1 kv.2) de
theorem KV.merge:∀{z:List (Key×V)}{rs:List (Key×Ac)}{de:List (Key×V)}{vs:List (Key×Ac)},KV z rs→KV de vs→KV (mS de z) (merged vs rs):=by
 intro z rs de vs r;unfold KV at r
 induction r generalizing de vs with
 | nil=>intro q;exact q
 | @cons p q ps J h t B=>
  intro F;have e:KV (gG de p.1 p.2) (stored vs q.1 q.2):=by
   have:=F.put p.1 h.2;rw[← h.1];exact this
  exact B e
theorem mB:∀(q de:List (Key×V)),(mS de q).length≤de.length + q.length
 | [],de=>by show de.length≤de.length + 0;omega
 | p :: r,de=>by
  have h1:=mB r (gG de p.1 p.2);have h2:=k9 de p.1 p.2;show(mS (gG de p.1 p.2) r).length≤_;rw[A0];omega
theorem qT{P:Ay}{w:AQ}:∀{de:List (Key×V)}{z:List (Ac×Ac)},VV (de.map fun B=>(kV B.1,B.2)) z→∃ rs,Carries (cJ P w) z rs∧KV de rs
 | [],_,r=>by rw[Dk]at r;cases r;exact⟨[],Cf,.nil⟩
 | p :: de,_,r=>by
  rw[Bg]at r;cases r with
  | @cons a b as bs h t=>
   obtain⟨rs,c,q⟩:=qT (P:=P) (w:=w) t;obtain⟨b1,b2⟩:=b;exact⟨(p.1,b2) :: rs,⟨pL h.1,rfl,c⟩,.cons ⟨rfl,h.2⟩ q⟩
def aHz(trs:List (TE×TE)):TE:=fun σ H Q=>∀ p,H p=none→zK trs σ (upd H p (.dK [])) fun ps H2=>H2 p=some (.dK [])∧∃ de:List (Key×V),ps=de.map (fun kv=>(kV kv.1,kv.2))∧de.length≤15∧Q (.ref p) (upd H2 p (.dK (mS [] de)))
theorem aAG{X:Cx}{pos:Pos}{B:List (Option A6)}{F:List A6}{J:List (TE×TE)}(h:PPs X pos B F J)(O:B.all (·.isSome)=true)(Y:B.length=F.length)(h0:B≠[])
  (U:B.length≤15):PE X (.Dict B F pos) (aHz J):=by
 constructor;intro bd s σ H Q I q;have hn:=I.hok.fresh (Ak s.heap.objs.size);have I1:=I.laid (a:=s.heap.objs.size) (o:=.dK []) (h':=s.heap.push { cls:=.type "dict",data:=.dict #[] }) (t':=s.toks) (fun _ _ q=>Ah _ q) (Ak _) (aCX s.heap I.big);refine wpAny_Dict_walk (knd:=cJ X.prog X.w) O Y h0 U (thn (h bd _ σ _ _ I1 (q _ hn)) fun ws s2 ⟨ps,H2,W,rel,e,de,ep,lk,q2⟩=>?_);subst ep;obtain⟨rs,c,rk⟩:=qT (P:=X.prog) (w:=X.w) rel;obtain⟨z,hd,vs0,r0,dd⟩:=aCV W.hok e;cases r0;refine⟨rs,c,dd,fun h' M hs=>⟨.ref s.heap.objs.size,_,?_,rfl,q2⟩⟩;have hz:(mS [] de).length≤sizeLine:=by
  have h1:=mB de [];rw[List.length_nil]at h1;rw[Ee];omega
 have Z:∃ q,h'.get? s.heap.objs.size=some q:=let ⟨q,_,_,hq,_⟩:=M;⟨q,hq⟩
 exact vP W (by rw[e];exact Cf) hs Z (aCW hz hd (rk.merge .nil) M)
structure M1(X:Cx)(o:A6)(m:Str)(dt:Pos)(e:A6)(dj:Pos):Prop where
 base:attributeBase o m X.env (eval o X.env)=eval o X.env
 few:((backTo dj (starEach [e] X.env)).all (fun x=>!x.1) && (backToKw dj (keywordEach [] X.env)).all (fun x=>x.1.isSome)
  && decide (([e]:List A6).length + ([]:List Dx).length + (if ([]:List Dx).isEmpty then 0 else 1) < 30))=true
 line:(dt.endLine == dj.line)=true
 trees:backTo dj (starEach [e] X.env)=[(false,eval e X.env)]
structure M2(X:Cx)(o:A6)(m:Str)(dt:Pos)(e f:A6)(dj:Pos):Prop where
 base:attributeBase o m X.env (eval o X.env)=eval o X.env
 few:((backTo dj (starEach [e,f] X.env)).all (fun x=>!x.1) && (backToKw dj (keywordEach [] X.env)).all (fun x=>x.1.isSome)
  && decide (([e,f]:List A6).length + ([]:List Dx).length + (if ([]:List Dx).isEmpty then 0 else 1) < 30))=true
 line:(dt.endLine == dj.line)=true
 trees:backTo dj (starEach [e,f] X.env)=[(false,eval e X.env),(false,eval f X.env)]
def IsD(H:Hp)(a:Ae):Prop:=(∃ de,Rd H a (.dK de))∨∃ de,Rd H a (.dT de)
theorem aGu{X:Cx}{bd:List (Ae×Obj)}{σ:St}{H:Hp}{s:Ad}{a:Ae}(I:Inv X bd σ H s)(d:IsD H a):
  s.TypeIs (.ref a) "dict"∧(∀ b,AO a=.ref b→∃ ob,s.heap.get? b=some ob∧ob.dict=none)∧(a == sysModules)=false:=by
 rcases d with⟨de,e⟩ | ⟨de,e⟩
 ·obtain⟨_,hd,vs,_,dd⟩:=wT I.hok e;refine⟨dd.typeIs,fun b q=>?_,hd⟩;cases q;obtain⟨ob,_,_,h1,h2,_⟩:=dd;exact⟨ob,h1,h2.2.1⟩
 ·obtain⟨_,hd,xs,_,dd⟩:=wU I.hok e;refine⟨dd.typeIs,fun b q=>?_,hd⟩;cases q;obtain⟨ob,_,_,h1,h2,_⟩:=dd;exact⟨ob,h1,h2.2.1⟩
section
variable{X:Cx}{bd:List (Ae×Obj)}{σ:St}{H:Hp}{s:Ad}{a:Ae}{y d:V}{u r:Ac}{o:Option V}{A:AL}{E:Ac→Ad→Prop}
theorem aGv{Q:Ac→Ad→Prop}(J:A.units + 1 < cLine)(I:Inv X bd σ H s)(g:oM H a y o)(q:cQ y u)(rd:cQ d r)(h:∀ B s',Inv X bd σ H s'→cQ (o.getD d) B→Q B s'):
  wpAny (model X.prog X.w) A (call (.builtin "dict.get") [.ref a,u,r]) Q E s:=by
 rcases g with⟨de,k,e,ey,l⟩ | ⟨de,k,b,e,ey,eb,l⟩
 ·subst ey;obtain⟨z,hd,vs,rel,dd⟩:=wT I.hok e;refine call_meetsIn DH dd.typeIs PySem.F.entry_dict_get (PySem.F.args_dict_get_3 _ _ _) (meets_dict_get_default (cJ X.prog X.w) a (pL q) hd r) ⟨_,dd.mapOf,h _ _ (I.tok _) ?_⟩;rw[l];exact(rel.val k).getD rd
 ·subst ey;cases(show u=AO b from q);obtain⟨z,hd,xs,rel,dd⟩:=wU I.hok e;refine call_meetsIn DH dd.typeIs PySem.F.entry_dict_get (PySem.F.args_dict_get_3 _ _ _) (meetsH_dict_get_default (tupleKind (cJ X.prog X.w)) a b hd r) ⟨Em J,k,xs,vO I.hok eb,dd,h _ _ (I.tok _) ?_⟩;rw[l];exact(rel.val k).getD rd
end
def aGw(td ty tx:TE):TE:=fun σ H Q=>td σ H fun x H1=>∃ a,x=.ref a∧IsD H1 a∧ty σ H1 fun y H2=>tx σ H2 fun z H3=>∃ o,oM H3 a y o∧Q (o.getD z) H3
section
variable{X:Cx}{o e f:A6}{dt dj:Pos}{td ty tx:TE}
theorem aCY(hu:X.A.units + 1 < cLine)(W:PE X o td)(M:PE X e ty)(hf:PE X f tx)(m:M2 X o "get" dt e f dj):PE X (.Call (.Attribute o "get" dt) [e,f] [] dj) (aGw td ty tx):=by
 constructor;intro bd s σ H Q I h;refine wpAny_Call_method m.base m.few m.line PySem.F.plainAttrs_dict DH PySem.F.type_dict_get (thn (W bd s σ H _ I h) fun u s1 ⟨x,H1,B,J,a,ex,d,U⟩=>?_);subst ex;obtain rfl:u=AO a:=J;obtain⟨t1,t2,_⟩:=aGu B d;refine⟨t1,t2,?_⟩;rw[m.trees];refine Calls.callWith_builtin rfl (Calls.evalArgs_plain (Ea (thn (M bd s1 σ H1 _ B U) fun iv s2 ⟨y,H2,O,Z,q2⟩=>
  Ea (thn (hf bd s2 σ H2 _ O q2) fun fv s3 ⟨z,H3,Y,rz,ov,g,q3⟩=>Calls.spliced_nil ?_))))
 exact aGv hu Y g Z rz fun w' s4 I4 q=>⟨_,H3,I4,q,q3⟩
end
section
variable{X:Cx}{bd:List (Ae×Obj)}{σ:St}{H:Hp}{s:Ad}{a:Ae}{de:List (Key×V)}{A:AL}{E:Ac→Ad→Prop}
end
section
variable{X:Cx}{bd:List (Ae×Obj)}{σ:St}{H:Hp}{s:Ad}{a:Ae}{y:V}{u:Ac}{A:AL}{E:Ac→Ad→Prop}
end
end L2
namespace Att
open PySem PySem.W PySem.Calls PyProof.Rows
theorem pW{P:Params}{h:A8}:∀(ns:List Int) (vs:List Ac),WellAll P h vs (ns.map WData.int)→E9 vs ns:=by
 intro ns
 induction ns with
 | nil=>
  intro vs w;rw[Dk]at w;cases w;exact .nil
 | cons n ns q=>
  intro vs w;rw[Bg]at w;cases w with
  | cons a b=>
   cases a;exact .cons _ _ (q _ b)
theorem aBK{l:OpenLaw}{n:Nat}(hn:l.most=some n){P:Params}{h:A8}{args:List WData}{z:List Ac}
  (B:l.row.toRowW.claim.pre args=true) (W:WellAll P h z args):
  ∃ a vs ns,z=[AO a]∧args=[WData.list (ns.map WData.int)]∧h.get? a=some { cls:=.type "list",data:=.seq vs.toArray }∧E9 vs ns∧ns.length≤n:=by
 have U:WShape.hasAll [] args [.list .int]=true:=(pre_splitW B).1;have hc:l.pre.holds [] { args:=args }=true:=(pre_splitW B).2;obtain⟨d,r,rfl,h1,h2⟩:=hasAllW_cons U;obtain rfl:=hasAllW_nil h2;obtain⟨xs,rfl,h3⟩:=hasW_list h1;obtain⟨ns,rfl⟩:=items_int h3;have F:ns.length≤n:=by
  unfold OpenLaw.pre at hc;have O:(WTm.not (.lt (.lit (.int (n:Int))) (.len (.arg 0)))).holds [] { args:=[.list (ns.map .int)] }=true:=by
   have O:=(holds_andW hc).1;rw[hn]at O;exact O
  have M:=condW_of O (w_not (w_lt w_lit (w_len_list (w_arg rfl))));rw[Ab]at M;refine Nat.le_of_not_lt fun q=>?_;have Z:(n:Int) < ((ns.length:Nat):Int):=by omega
  first
   | (rw[Ic Z]at M;exact absurd M (by decide))
   | (simp at M;omega)
 cases W with
 | cons w1 Y=>
  cases Y;cases w1 with
  | list ho J=>exact⟨_,_,ns,rfl,rfl,ho,pW ns _ J,F⟩
theorem aBL(l:OpenLaw)(args:List WData):l.row.toRowW.claim.post args (.bool true) args=true:=
 postW_of (r:=l.row.toRowW) (X:=(true == true))
  (show WShape.has [] (.bool true) .bool=true by first | rfl | decide | simp[WShape.has,WShape.arms,WShape.armsAll])
  (show(WTm.eq .res (.lit (.bool true))).value [] { args:=args,res:=some (.bool true),after:=args }=some (.bool (true == true)) from w_eq_bool (w_res rfl) w_lit) rfl
theorem attach_call{l:OpenLaw}{n:Nat}{q:Ay}{B:List Str}{XP:(Str→Option Ac)→A8→Prop}{YP:AQ→A8→Prop}{d:DefRec}
  (hn:l.most=some n) (O:d.params.defaults=[])
  (call:∀(w:AQ) (s₀ z:Ad) (mg mb:Str→Option Ac) (J:Ae) (o:Obj) (pm cd F:Ac) (a:Ae) (vs:List Ac) (ns:List Int),
   Ground q B [] XP w s₀ mg mb z.heap→YP w z.heap→
   z.heap.get? J=some o→o.data=.func (docDef d.name d.params d.body d.scope pm cd F)→z.heap.CodeRec cd d.name→mg d.name=some (.ref J)→
   z.heap.get? a=some { cls:=.type "list",data:=.seq vs.toArray }→E9 vs ns→ns.length≤n→z.gens=#[]→
   codeAny (model l.prog w) callerA (.call (.ref J) ⟨[.ref a],[]⟩) (fun r s'=>r=.ok (.ret (.bool true))∧OldK z.heap s'.heap∧s'.os=z.os∧Dy s'.gens) z):
  WalkO q B XP YP l.row.toRowW d [] (fun f vs=>PySem.call f vs):=by
 intro w s₀ z mg mb G Y J o pm cd F dV kV ho hd U hD Z hg ac af as M ad aj W ah;obtain rfl:dV=.none:=Dflts.none hD O;obtain rfl:kV=.none:=Dflts.noKw hD;obtain⟨a,vs,ns,rfl,rfl,hobj,hints,hlen⟩:=aBK hn M W;refine enter_call (CJ (call w s₀ z mg mb J o pm cd F a vs ns G Y ho (fd_plain hd) U Z hobj hints hlen hg) fun r s' hq=>?_);obtain⟨rfl,h2,h3,h4⟩:=hq;exact⟨.inl ⟨.bool true,.bool true,[],rfl,fun _=>rfl,.bool true,aBL l _,fun _=>⟨C9,fun _ hm=>(nomatch hm)⟩⟩,h2,h3,h4⟩
section
variable{prog:Ay}{w:AQ}{A:AL}{E:Ac→Ad→Prop}{s:Ad}{K:Frag}
end
end Att
namespace L2
open PySem PySem.Spec PyProof.Rows
theorem uF:∀{vs:List Ac}{ns:List Int},E9 vs ns→cE (ns.map V.int) vs
 | _,_,.nil=>.nil
 | _,_,.cons n t h=>.cons ⟨t,rfl⟩ (uF h)
def aGx(H:Hp):Prop:=∀ b,H b=none∨∃ o xs,H b=some (.frz o (.lst xs))
theorem aCZ{P:Ay}{w:AQ}{K:Ag}{mg mb:Str→Option Ac}{CX:CXT}{k:Nat}{fa a:Ae}{fd:AD}{x:Str}{sp:Sp}{B:Ad}{vs:List Ac}{ns:List Int}
  (KX:K.In B.heap) (ac:B.heap.Ns mainGlobals mg) (M:B.heap.Ns builtinsNs mb) (aj:∀ x:Str,x≠"__name__"→mb x=bootBuiltins x) (Y:B.heap.NoLimit) (hg:B.gens=#[])
  (ha:B.heap.get? a=some { cls:=.type "list",data:=.seq vs.toArray }) (hi:E9 vs ns) (hl:ns.length≤sizeLine) (hr:cF k callerA)
  (F:∀ base:A8,K.In base→base.Ns mainGlobals mg→cH P w K mg base CX k fa fd [x] sp) (W:∀(s:Ad) (u:Ac),Ez s fd ⟨[u],[]⟩ [(x,u)])
  (ag:∀ H:Hp,aGx H→SqL K H a (ns.map V.int)→sp [.ref a] H (fun v _=>v=.bl true) fun _ _ _=>False)
  (ae:∀ H e s',CX [] H B (fun _ _ _=>False) e s'→False):
  codeAny (model P w) callerA (.call (.ref fa) ⟨[.ref a],[]⟩) (fun r s'=>r=.ok (.ret (.bool true))∧OldK B.heap s'.heap∧s'.os=B.os∧Dy s'.gens) B:=by
 have rv:=uF hi;have ab:=hi.length;have U:∀ H:Hp,aGx H→SqL K H a (ns.map V.int)→HOk P w H B.heap→(∀ b,H b≠none→b=a)→(H a≠none→K.lookup a=none)→
   codeAny (model P w) callerA (.call (.ref fa) ⟨[.ref a],[]⟩) (fun r s'=>r=.ok (.ret (.bool true))∧OldK B.heap s'.heap∧s'.os=B.os∧Dy s'.gens) B:=by
  intro H hO hS hok hA hK;have J:∀{b:Ae} {o:Obj},B.heap.get? b=some o→H b=none→(vK B.heap H).get? b=some o:=fun e n=>aCu e n;have af:∀{b:Ae} {o:Obj} {es:Array DictEntry} {ep:Nat},B.heap.get? b=some o→o.data=.dict es ep→H b=none:=fun{b o es ep} e d=>by
   cases q:H b with
   | none=>rfl
   | some u=>
    have e':b=a:=hA b (by rw[q];simp);subst e';rw[ha]at e;cases e;have d':Da vs.toArray _=Data.dict es ep:=d;cases d'
  have O:∀{b:Ae} {m:Str→Option Ac},B.heap.Ns b m→(vK B.heap H).Ns b m:=fun{b m} ⟨o,es,ep,e,d,r⟩=>⟨o,es,ep,J e (af e d),d,r⟩
  have aa:K.In (vK B.heap H):=fun b o e=>J (KX b o e) (by
   cases q:H b with
   | none=>rfl
   | some u=>
    have e':b=a:=hA b (by rw[q];simp);subst e';rw[hK (by rw[q];simp)]at e;cases e)
  have hM:Mod K mg (vK B.heap H):=⟨aa,O ac,⟨mb,O M,aj⟩,let ⟨mc,h1,h2⟩:=Y;⟨mc,O h1,h2⟩⟩
  have e0:aCF P w K mg (vK B.heap H) callerA [] B H:=⟨rfl,hM,fun b o e=>aEB e,Eh (aBA _ _),trivial,fun b M=>absurd (show b∈([]:List Ae) from M) (by simp),hok,.of_eq hg⟩
  refine CJ ((F _ aa (O ac)).run callerA [] B H ⟨[.ref a],[]⟩ [.ref a] [.ref a] _ _ hr e0 (W B (.ref a)) (.cons rfl .nil) (ag H hO hS)) fun r s' h=>?_;cases r with
  | error e=>exact(ae H e s' h).elim
  | ok fl=>
   cases fl with
   | next=>exact BV h
   | brk=>exact BV h
   | cont=>exact BV h
   | ret u=>
    obtain⟨v,H',os,bare,un,hok',r',q⟩:=h;have q':v=.bl true:=q;subst q';obtain rfl:u=EW true:=r';refine⟨rfl,OldK.of_keep fun b o e=>?_,os,bare⟩;cases q:H b with
    | none=>exact un.keep b o e q (by intro z;exact absurd (show b∈([]:List Ae) from z) (by simp)) (by simp)
    | some u=>
     rcases hO b with z | ⟨ob,xs,z⟩
     ·rw[q]at z;cases z
     ·have z2:=un.frzs b ob _ z;obtain⟨e1,_⟩:=hok b _ z;obtain⟨e2,_⟩:=hok' b _ z2;rw[e]at e1;cases e1;exact e2
 cases hk:K.lookup a with
 | some o=>
  have e:=KX a o hk;rw[ha]at e;cases e;refine U (fun _=>none) (fun _=>.inl rfl) (.inr ⟨_,vs.toArray,_,hk,rfl,rfl,rfl,by rw[Ao,ab];exact hl,by simpa using rv⟩) (fun b u z=>by have Z:(none:Option HO)=some u:=z;cases Z) (fun b z=>absurd rfl z) fun z=>absurd rfl z
 | none=>
  refine U (fun b=>if b=a then some (.frz { cls:=.type "list",data:=.seq vs.toArray } (.lst (ns.map V.int))) else none) (fun b=>?_) (.inl (.inr ⟨{ cls:=.type "list",data:=.seq vs.toArray },Ib rfl⟩)) (fun b u z=>?_) (fun b z=>?_) fun _=>hk
  ·by_cases M:b=a
   ·exact .inr ⟨_,_,Ib M⟩
   ·exact .inl (Ia M)
  ·by_cases M:b=a
   ·have Z:=(Ib M).symm.trans z;cases Z;subst M;exact⟨ha,by rw[Ab];exact hl,vs,_,rv,ha⟩
   ·have Z:=(Ia M).symm.trans z;cases Z
  ·by_cases M:b=a
   ·exact M
   ·exact absurd (Ia M) z
abbrev KOf{K:Ag}{h:A8}(_:K.In h):Ag:=K
theorem walk_of{l:PySem.W.OpenLaw}{n k:Nat}{q:Ay}{B:List Str}{XP:(Str→Option Ac)→A8→Prop}{YP:AQ→A8→Prop}{d:DefRec}{K:Params→Ag}{CX:AQ→CXT}{sp:AQ→Sp}{x:Str}
  (hn:l.most=some n) (ab:n≤sizeLine) (U:d.params.defaults=[]) (hr:cF k callerA)
  (hY:∀(w:AQ) (h:A8),YP w h→(K w.params).In h)
  (F:∀(w:AQ) (mg:Str→Option Ac) (O:Ae) (h:A8),(K w.params).In h→h.Ns mainGlobals mg→mg d.name=some (.ref O)→
   ∃ fd:AD,(∀(s:Ad) (u:Ac),Ez s fd ⟨[u],[]⟩ [(x,u)])∧
    ∀ base:A8,(K w.params).In base→base.Ns mainGlobals mg→cH l.prog w (K w.params) mg base (CX w) k O fd [x] (sp w))
  (aa:∀(w:AQ) (H:Hp) (a:Ae) (ns:List Int),ns.length≤n→aGx H→SqL (K w.params) H a (ns.map V.int)→sp w [.ref a] H (fun v _=>v=.bl true) fun _ _ _=>False)
  (Z:∀(w:AQ) (H:Hp) (s:Ad) (e:Ac) (s':Ad),CX w [] H s (fun _ _ _=>False) e s'→False):
  PySem.W.WalkO q B XP YP l.row.toRowW d [] (fun f vs=>PySem.call f vs):=by
 refine Att.attach_call hn U fun w s₀ s₁ mg mb O o pm cd ah a vs ns G Y ho hd ai ac M J z hg=>?_;have KX:=hY w _ Y;obtain⟨fd,hb,hF⟩:=F w mg O _ KX G.T.g ac;exact aCZ KX G.T.g G.T.b G.T.builtins G.T.nolimit hg M J (A3 z ab) hr hF hb (fun H hO hS=>aa w H a ns z hO hS) fun H e s'=>Z w H s₁ e s'
def bI(s:Bx):Arguments:=match s with
 | .FunctionDef _ a _ _ _ _ _ _ _ _=>a
 | _=>{ posonlyargs:=[],args:=[],vararg:=none,kwonlyargs:=[],kw_defaults:=[],kwarg:=none,defaults:=[] }
def bH(s:Bx):List Bx:=match s with
 | .FunctionDef _ _ b _ _ _ _ _ _ _=>b
 | _=>[]
def aO(s:Bx):CN:=match s with
 | .FunctionDef _ _ _ _ _ _ sc _ _ _=>sc
 | _=>{ kind:=.function,names:=[],isGenerator:=false,isCoroutine:=false }
abbrev CX0:CXT:=fun _ _ _ _ _ _=>False
abbrev E0:XK:=fun _ _ _=>False
theorem kJ{X:Cx}:zF CX0 X E0:=fun _ _ _ _ _ _ _ h=>h.elim
structure Fun(K:Ag)(x qual:Str)(st:Bx)(f:Ae)(fd:AD):Prop where
 ex:∃(oc:Ac) (od:Option Ae) (kV doc pm:Ac) (an:Option Ae) (cdv ct:Ac) (osl:Array (Option Ac)),
  fd=Ar x qual (bI st) (bH st) (aO st) .none kV doc pm an cdv ct∧K.lookup f=some ⟨oc,od,.func fd,osl⟩∧Ap K cdv qual=true
 kp:Aj K (.ref f)=true
section
variable{P:Ay}{w:AQ}{K:Ag}{mg:Str→Option Ac}{base:A8}
theorem Fun.ok{x qual:Str}{st:Bx}{f:Ae}{fd:AD}{N ps:List Str}{k:Nat}{sp:Sp}(F:Fun K x qual st f fd)(S:bJ N ps (aO st))(len:∀ vs H Q E,sp vs H Q E→vs.length=ps.length)
  (B:∀(z:Ac) (A:AL) (outer:List Env) (s:Ad) (H:Hp) (vs:List V) (Q:VK) (E:XK),cF k (A.deeper (envOfC qual (aO st) s.heap.objs.size f z))→sp vs H Q E→
   ∃ t,PSs (aBG CX0 P w K mg base N qual (aO st) f z A outer s H E).nox (bH st) t∧t { nx:=fun _ H'=>Q .non H',rt:=Q } (pJ N vs) H):cH P w K mg base CX0 (k + 1) f fd ps sp:=by
 obtain⟨oc,od,kV,doc,pm,an,z,ct,osl,rfl,lk,hcd⟩:=F.ex;refine aHr lk hcd S len fun A outer s H vs Q E M J=>?_;obtain⟨t,h,q⟩:=B z A outer s H vs Q E M J;exact⟨t,h.nox,q⟩
theorem Fun.binds{x qual:Str}{st:Bx}{f:Ae}{fd:AD}{ps:List Str}(F:Fun K x qual st f fd)
  (h:∀(kV q M:Ac) (J:Option Ae) (z ct:Ac) (B:List Ac),B.length=ps.length→bindArgs (Ar x qual (bI st) (bH st) (aO st) .none kV q M J z ct) ⟨B,[]⟩=pure (ps.zip B)):eV K fd ps []:=by
 obtain⟨oc,od,kV,q,M,J,z,ct,osl,rfl,lk,hcd⟩:=F.ex;exact .all (h kV q M J z ct)
theorem bX{x qual:Str}{st:Bx}{f:Ae}{M:Ac}{od F:Option Ae}{B:Array (Option Ac)}{kV z J q ct:Ac}(l:K.lookup f=some ⟨M,od,.func (Ar x qual (bI st) (bH st) (aO st) .none kV z J F q ct),B⟩)
  (c:Ap K q qual=true) (k:Aj K (.ref f)=true):Fun K x qual st f (Ar x qual (bI st) (bH st) (aO st) .none kV z J F q ct):=⟨⟨M,od,kV,z,J,F,q,ct,B,rfl,l,c⟩,k⟩
end
theorem aAI{A:AL}{k:Nat}(q:cF k A):A.units + 1 < cLine:=CP (Nat.add_le_add_left (by decide:1≤64) _) q.units
theorem jD{n:Nat}(h:n≤1000):n < sizeLine:=CP h (by decide)
section
variable{X:Cx}
theorem pv(i:Nat){x:Str}{pos:Pos}(hN:X.N[i]?=some x:=by rfl)(z:Vis X.env.scope x:=by first | exact AG rfl | exact Dj (AG rfl) | exact Dj (Dj rfl))(hd:(x == ("__debug__":Str))=false:=by decide)
  (q:(x == ("__classdict__":Str))=false:=by decide):PE X (.Name x pos) (aHc i):=aGa hN z hd q
end
theorem dC{A B:Prop}(h:B):if false=true then A else B:=by
 rw[Ia Aw];exact h
theorem c4{A B:Prop}(h:A):if true=true then A else B:=by
 rw[Ib rfl];exact h
theorem dR{c A B:Prop}[Decidable c](h1:c→A)(h2:¬ c→B):if c then A else B:=by
 by_cases h:c
 ·rw[Ib h];exact h1 h
 ·rw[Ia h];exact h2 h
def bA(H H':Hp):Prop:=∀ b o,H b=some o→H' b=some o
theorem bA.refl(H:Hp):bA H H:=fun _ _ h=>h
theorem bA.trans{H H1 H2:Hp}(a:bA H H1)(b:bA H1 H2):bA H H2:=fun c o h=>b c o (a c o h)
theorem bA.seq{K:Ag}{H H':Hp}{a:Ae}{xs:List V}(e:bA H H')(h:SqL K H a xs):SqL K H' a xs:=by
 rcases h with(h | ⟨o,h⟩) | h
 ·exact .inl (.inl (e _ _ h))
 ·exact .inl (.inr ⟨o,e _ _ h⟩)
 ·exact .inr h
section
variable{X:Cx}
end
section
variable{κ:Type}[DecidableEq κ]
end
section
variable{X:Cx}{bd:List (Ae×Obj)}{σ:St}{H:Hp}{s:Ad}
theorem Inv.track{D:Ae}{ob:HO}(I:Inv X bd σ H s)(J:kQ X bd H D)(new:dB X.prog X.w (upd H D ob) s.heap D ob):Inv X bd σ (upd H D ob) s:=by
 obtain⟨hn,hL,hfs,hex,hce,hpi⟩:=J;have B:∀ b u,H b=some u→b≠D:=fun b u e=>bF e hn;refine I.step (g':=s.gens) (t':=s.toks) (d':=s.drawn) (h':=s.heap) (H':=upd H D ob) (ch:=[D]) (fun b F=>?_) (fun b o _ _ _ e _=>e) (fun b o _ _ _ e _=>⟨o.slots,e⟩) (fun b o hc e n=>?_)
  (fun b o _ e=>⟨o,e⟩) (fun b xs e=>by rw[bU (B b _ e)];exact e) (fun b o u e=>by rw[bU (B b _ e)];exact e) (fun b ps e=>⟨#[],by rw[bU (B b _ e),e];simp⟩) (fun m hm=>hm) (fun b u e=>?_) I.bare
 ·have e:b=D:=by simpa using F
  subst e;exact⟨hex,hL,hce,hpi⟩
 ·rw[bU (fun z=>hc (by simp[z]))];exact n
 ·by_cases F:b=D
  ·subst F;rw[aJ]at e;cases e;exact new
  ·rw[bU F]at e;exact(I.hok b u e).stay (fun c v _ q=>q) (fun c q=>by rw[bU (B c _ q)];exact q) fun c xs q=>by rw[bU (B c _ q)];exact q
end
def hX(env:Env):List (Str×C6)→List (Str×Ae)→List (Str×Ae)
 | [],cs=>cs
 | (n,k) :: r,cs=>hX env r (if k=.free then(match env.cells.lookup n with | some c=>(n,c) :: cs | none=>cs) else cs)
theorem qU{α β:Type}(f:α→β→Sem (ForInStep β))(g:α→β→β):∀(l:List α) (b:β),(∀ y∈l,∀ b,f y b=pure (.yield (g y b)))→(forIn l b f:Sem β)=pure (l.foldl (fun b y=>g y b) b)
 | [],b,_=>rfl
 | a :: r,b,h=>by
  rw[Dd,h a AH b];exact qU f g r (g a b) fun y q=>h y (AF _ q)
def uG(env:Env)(y:Str×C6)(cs:List (Str×Ae)):List (Str×Ae):=if y.2=.free then(match env.cells.lookup y.1 with | some c=>(y.1,c) :: cs | none=>cs) else cs
theorem qV(env:Env):∀(l:List (Str×C6)) (q:List (Str×Ae)),l.foldl (fun b y=>uG env y b) q=hX env l q
 | [],q=>rfl
 | (n,k) :: r,q=>by
  rw[List.foldl_cons,qV env r];rfl
theorem nG{scope:CN}{env:Env}(h:∀ y∈scope.names,y.2=.free→∃ c,env.cells.lookup y.1=some c):closureFor scope env=pure (hX env scope.names []):=by
 simp only[closureFor];rw[qU _ (uG env) scope.names [] (fun y B b=>?_)]
 ·rw[qV];rfl
 ·obtain⟨n,k⟩:=y;by_cases q:k=.free
  ·obtain⟨c,hc⟩:=h (n,k) B q;subst q;have e:cellOf env n=pure c:=by unfold cellOf;rw[hc]
   have z:uG env (n,Ba) b=(n,c) :: b:=by unfold uG;rw[Ib rfl,hc]
   simp only[e,z];rfl
  ·have e:(k == Ba)=false:=by simpa using q
   have z:uG env (n,k) b=b:=by unfold uG;rw[Ia q]
   simp only[e,z,Bool.false_eq_true,if_false]
theorem oO{env:Env}:∀(l:List (Str×C6)) (q:List (Str×Ae)),(∀ x c,q.lookup x=some c→env.cells.lookup x=some c)→∀ x c,(hX env l q).lookup x=some c→env.cells.lookup x=some c
 | [],q,h,x,c,e=>h x c e
 | (n,k) :: r,q,h,x,c,e=>by
  unfold hX at e;refine oO r _ (fun x c e=>?_) x c e;by_cases z:k=.free
  ·rw[Ib z]at e;cases hc:env.cells.lookup n with
   | none=>rw[hc]at e;exact h x c e
   | some d=>
    rw[hc]at e;by_cases B:x=n
    ·subst B;simp at e;rw[← e];exact hc
    ·have:(x == n)=false:=by simpa using B
     rw[Bl,this]at e;exact h x c e
  ·rw[Ia z]at e;exact h x c e
theorem oP{env:Env}:∀(l:List (Str×C6)) (q:List (Str×Ae)) (x:Str),(∀ y∈l,y.2=.free→∃ c,env.cells.lookup y.1=some c)→((∃ c,q.lookup x=some c)∨(x,Ba)∈l)→∃ c,(hX env l q).lookup x=some c
 | [],q,x,_,h=>by
  rcases h with h | h
  ·exact h
  ·simp at h
 | (n,k) :: r,q,x,hc,h=>by
  unfold hX;refine oP r _ x (fun y F=>hc y (AF _ F)) ?_;rcases h with⟨c,h⟩ | h
  ·refine .inl ?_;split
   ·split
    ·rename_i d _;by_cases B:x=n
     ·subst B;exact⟨d,by simp⟩
     ·have:(x == n)=false:=by simpa using B
      exact⟨c,by rw[Bl,this];exact h⟩
    ·exact⟨c,h⟩
   ·exact⟨c,h⟩
  ·rcases Aq.mp h with h | h
   ·cases h;obtain⟨d,hd⟩:=hc (n,Ba) AH rfl;refine .inl ⟨d,?_⟩;rw[Ib rfl];have z:env.cells.lookup n=some d:=hd;rw[z];simp
   ·exact .inr h
theorem qW{env : Env} : ∀{names : List (Str × C6)}{x : Str}, (∀ y ∈ names, y.2 ≠ .cell) →
    ((names.map fun(n, k) => if (k == Ba && env.scope.kind == .function && env.kindOf n == some .cell) then(n, CY) else(n, k)).lookup x = some .cell ∨
     (names.map fun(n, k) => if (k == Ba && env.scope.kind == .function && env.kindOf n == some .cell) then(n, CY) else(n, k)).lookup x = some .free) → names.lookup x = some .free
  | [], x, _, h => by simp at h
  | (n, k) :: r, x, hc, h => by
    have B := @qW env r x fun y J => hc y (AF _ J);have F := hc (n, k) AH;rw[Bg]at h;by_cases z : x = n
    · subst z
      rw[Bl, beq_self_eq_true];simp only;by_cases q : (k == Ba && env.scope.kind == .function && env.kindOf x == some .cell) = true
      · have : (k == Ba) = true := by
          rw[A9, A9]at q;exact q.1.1
        simpa using this
      · simp only[Ia q, Bl, beq_self_eq_true]at h
        rcases h with h | h
        · exact absurd (By.inj h) F
        · exact h
    · have e : (x == n) = false := by simpa using z
      rw[Bl, e];refine B ?_;by_cases q : (k == Ba && env.scope.kind == .function && env.kindOf n == some .cell) = true
      · simp only[Ib q, Bl, e]at h
        exact h
      · simp only[Ia q, Bl, e]at h
        exact h
theorem nH{env : Env} : ∀{names : List (Str × C6)}{x : Str}, names.lookup x = some .free →
    ((names.map fun(n, k) => if (k == Ba && env.scope.kind == .function && env.kindOf n == some .cell) then(n, CY) else(n, k)).lookup x = some .cell ∨
     (names.map fun(n, k) => if (k == Ba && env.scope.kind == .function && env.kindOf n == some .cell) then(n, CY) else(n, k)).lookup x = some .free)
  | [], x, h => by simp at h
  | (n, k) :: r, x, h => by
    have B := @nH env r x;rw[Bg];by_cases z : x = n
    · subst z
      rw[Bl, beq_self_eq_true]at h;simp only at h;cases h;by_cases q : (Ba == Ba && env.scope.kind == .function && env.kindOf x == some .cell) = true
      · refine .inl ?_
        show List.lookup x ((if (Ba == Ba && env.scope.kind == .function && env.kindOf x == some .cell) = true then(x, CY) else(x, Ba)) :: _) = _;rw[Ib q, Bl, beq_self_eq_true]
      · refine .inr ?_
        show List.lookup x ((if (Ba == Ba && env.scope.kind == .function && env.kindOf x == some .cell) = true then(x, CY) else(x, Ba)) :: _) = _;rw[Ia q, Bl, beq_self_eq_true]
    · have e : (x == n) = false := by simpa using z
      rw[Bl, e]at h;have := B h;by_cases q : (k == Ba && env.scope.kind == .function && env.kindOf n == some .cell) = true
      · simp only[Ib q, Bl, e]
        exact this
      · simp only[Ia q, Bl, e]
        exact this
def blk(X:Cx)(N:List Str)(scope:CN)(cl:List (Str×Ae))(s:Ad)(H:Hp)(fp:List Ae)(bd:List (Ae×Obj))(C:Ae):Cx where
 prog:=X.prog
 w:=X.w
 K:=X.K
 mg:=X.mg
 base:=X.base
 A:=X.A
 N:=N
 s₀:=s
 H₀:=H
 env:=compEnvC scope cl C X.env
 outer:=X.stack
 stack:=X.stack
 ex:=fp
 fn:=fun _=>false
 calm:=X.calm
 pn:=X.pn ++ bd
 xe:=fun _ _=>False
def aC0(N:List Str)(src:List (Option Nat))(scope:CN)(oN:List Str):Bool:=
 (N.zip src).all fun p=>match p.2 with | none=>true | some j=>(oN[j]? == some p.1) && (scope.names.lookup p.1 == some .free)
structure BlkOk(N:List Str)(src:List (Option Nat))(scope osc:CN)(oN:List Str):Prop where
 kind:scope.kind=.function
 nocell:∀ y∈scope.names,y.2≠.cell
 names:∀ y∈scope.names,y.2=.local→scope.names.lookup y.1=some .local
 fr:∀ y∈scope.names,y.2=.free→osc.names.lookup y.1=some .cell∨osc.names.lookup y.1=some .free
 len:src.length=N.length
 srcs:aC0 N src scope oN=true
def sub(src:List (Option Nat))(σ:St):St:=src.map fun o=>match o with | none=>none | some j=>(σ[j]?).getD none
theorem aC1{N:List Str}{src:List (Option Nat)}{scope:CN}{oN:List Str}(h:aC0 N src scope oN=true){i j:Nat}{x:Str}(h1:N[i]?=some x)(h2:src[i]?=some (some j)):oN[j]?=some x∧scope.names.lookup x=some .free:=by
 have hm:(x,some j)∈N.zip src:=by
  refine A2 (i:=i) ?_;rw[List.getElem?_zip_eq_some];exact⟨h1,h2⟩
 have:=AU.mp h _ hm;simp only[A9,beq_iff_eq]at this;exact this
theorem aGy{src:List (Option Nat)}{σ:St}{i:Nat}{v:V}(h:(sub src σ)[i]?=some (some v)):∃ j,src[i]?=some (some j)∧σ[j]?=some (some v):=by
 unfold sub at h;rw[AI]at h;cases e:src[i]? with
 | none=>rw[e]at h;simp at h
 | some o=>
  rw[e]at h;cases o with
  | none=>simp at h
  | some j=>
   refine⟨j,rfl,?_⟩;cases q:σ[j]? with
   | none=>simp[q]at h
   | some z=>
    simp[q]at h;rw[h]
structure PTs(X:Cx)(ifs:List A6)(t:TT):Prop where
 run:
  ∀(bd:List (Ae×Obj)) (s:Ad) (σ:St) (H:Hp) (Q:Bool→Hp→Prop),Inv X bd σ H s→t σ H Q→
   wpAny (model X.prog X.w) X.A (forIn ifs true fun c r=>if r=true then do let ok ← isTrue c X.env (eval c X.env);pure (B0 ok) else pure (B0 r)) (TP X bd σ Q) X.xe s
instance{X:Cx}{ifs:List A6}{t:TT}:CoeFun (PTs X ifs t) (fun _=>
 ∀(bd:List (Ae×Obj)) (s:Ad) (σ:St) (H:Hp) (Q:Bool→Hp→Prop),Inv X bd σ H s→t σ H Q→
  wpAny (model X.prog X.w) X.A (forIn ifs true fun c r=>if r=true then do let ok ← isTrue c X.env (eval c X.env);pure (B0 ok) else pure (B0 r)) (TP X bd σ Q) X.xe s):=⟨fun h=>h.run⟩
theorem c8{X:Cx}:PTs X [] (fun _ H Q=>Q true H):=⟨fun _ _ _ H _ I h=>wpAny_tests_nil ⟨H,I,h⟩⟩
section
variable{X:Cx}{bd:List (Ae×Obj)}{σ:St}{H:Hp}{s:Ad}
theorem Inv.clos{N:List Str}{src:List (Option Nat)}{scope:CN}(B:BlkOk N src scope X.env.scope X.N)(I:Inv X bd σ H s):∀ y∈scope.names,y.2=.free→∃ c,X.env.cells.lookup y.1=some c:=
 fun y z q=>I.ok.has y.1 (B.fr y z q)
theorem Inv.block{N:List Str}{src:List (Option Nat)}{scope:CN}{fp:List Ae}{W:Ad}{C:Ae}{m:Str→Option Ac}(B:BlkOk N src scope X.env.scope X.N)(I:Inv X bd σ H s)
  (Z:∀ b∈fp,kQ X bd H b) (aa:∀ b∈fp,b < s.heap.objs.size) (Y:s.heap.objs.size≤C) (O:W.os=s.os) (J:Dy W.gens) (U:∀ b o,s.heap.get? b=some o→W.heap.get? b=some o) (hn:W.heap.Ns C m):
  Inv (blk X N scope (hX X.env scope.names []) s H fp bd C) [] (sub src σ) H W:=by
 have F:=I.clos B;have q:∀ x c,(hX X.env scope.names []).lookup x=some c→X.env.cells.lookup x=some c:=oO _ _ (fun x c e=>by simp at e);have ag:∀ b∈frs X.stack,b < s.heap.objs.size:=fun b J=>by
  obtain⟨_,o,O,_⟩:=I.stack.mem J;exact Az O
 refine⟨⟨I.ok.mod,B.kind,I.ok.glob,I.ok.blt,Y,fun x y c e1 e2=>I.ok.inj x y c (q x c e1) (q y c e2),fun x hx=>?_,fun x c hx=>absurd hx Aw,I.ok.hd,I.ok.frames,.inl rfl,fun b J=>⟨?_,fun x c e=>?_⟩,fun b o e=>?_,A3 I.ok.bsz I.sz,fun b o e J=>?_,fun b J hz=>?_,I.stack,I.stkFree⟩,
  O,J,Un.kept U,⟨m,hn,fun i x v e1 e2 e3=>?_⟩,fun x c e=>?_,?_,fun x c e=>I.freeC x c (q x c e),fun p hp=>?_,I.hok.kept U,?_⟩
 ·have ab:=qW (env:=X.env) B.nocell hx;exact oP _ _ x F (.inr (BF ab))
 ·exact AJ (AS (aa b J) Y)
 ·exact(Z b J).2.2.2.2.1 x c (q x c e)
 ·exact I.bs b o e
 ·rcases(Z b J).2.2.2.1 with z | z
  ·exact I.ok.noex b o e z
  ·exact absurd (AS (Az e) (A3 I.ok.bsz z)) (BO _)
 ·rcases Aq.mp (I.stkSub b hz)with e | z
  ·exact(Z b J).2.1 e
  ·exact(Z b J).2.2.1 z
 ·obtain⟨j,ej,ev⟩:=aGy e2;obtain⟨oj,fj⟩:=aC1 B.srcs e1 ej;have M:=B.fr _ (BF fj) rfl;obtain⟨m0,hn0,hl0⟩:=id I.loc;obtain⟨u,ru,lk⟩:=hl0 j x v oj ev (.inr M);refine⟨u,ru,.inr ⟨nH fj,?_⟩⟩;rcases lk with⟨k,_⟩ | ⟨k,c,hc,hcell⟩
  ·have k':X.env.scope.names.lookup x=some .local:=k;rcases M with z | z <;> (rw[k']at z;cases z)
  ·obtain⟨c',hc'⟩:=oP (env:=X.env) scope.names [] x F (.inr (BF fj));have e:=q x c' hc';rw[hc]at e;cases e;obtain⟨o,O,hd⟩:=hcell;exact⟨c,hc',o,U _ _ O,hd⟩
 ·obtain⟨v,o,O,hd⟩:=I.cell x c (q x c e);exact⟨v,o,U _ _ O,hd⟩
 ·exact I.hok.fresh Y
 ·have ae:p∈X.pn ++ bd:=by
   rcases A4.mp hp with z | z
   ·exact z
   ·simp at z
  obtain⟨q1,q2,q3,q4,q5⟩:=I.pin p ae;refine⟨U _ _ q1,q2,AJ (AS (Az q1) Y),fun z=>?_,q5⟩;rcases Aq.mp (I.stkSub _ z)with e | z
  ·exact q3 e
  ·exact q4 z
 ·show(sub src σ).length=N.length;unfold sub;rw[Ab];exact B.len
end
section
variable{prog:Ay}{w:AQ}{A:AL}{R:Result→Ad→Prop}{s:Ad}
theorem wX{B q z:A6}{F:List A6}{scope:CN}{pos:Pos}{it J:Ac}{env:Env}(I:Nat→Ad→Prop)
  (O:∀ n s,I n s→wpAny (model prog w) A (pyNext it) (fun r U=>match r with
   | none=>R (.ok .next) U
   | some v=>wpAny (model prog w) A (letOwnedTupleGo q it v) (fun _ M=>wpAny (model prog w) A (assign q env v) (fun _ s₂=>
     wpAny (model prog w) A (forIn F true fun c r=>if r=true then do let ok ← isTrue c env (eval c env);pure (B0 ok) else pure (B0 r)) (fun ok Y=>
      if ok=true then wpAny (model prog w) A (eval B env) (fun x s₄=>
       wpAny (model prog w) A (call (.builtin "list.append") [J,x]) (fun _ Z=>∃ m,m < n∧I m Z) (fun _ _=>False) s₄) (fun _ _=>False) Y
      else∃ m,m < n∧I m Y) (fun _ _=>False) s₂) (fun _ _=>False) M) (fun _ _=>False) U) (fun _ _=>False) s)
  (n:Nat) (h:I n s):
  codeAny (model prog w) A (.compLoop (.ListComp B [⟨q,z,F,0⟩] scope pos) 0 it J env) R s:=by
 have nv:∀{α:Type} {t:Sem α} {Q:α→Ad→Prop} {E:Ac→Ad→Prop} {s:Ad},wpAny (model prog w) A t Q (fun _ _=>False) s→wpAny (model prog w) A t Q E s:=fun h=>B4 h (fun _ _ x=>x) fun _ _ x=>x.elim;refine codeAny_loop rfl I (fun n s hI=>?_) n h;show wpAny _ A ((compTurn (.ListComp B [⟨q,z,F,0⟩] scope pos) 0 it J env).onRaise (fun x=>do noteFrame x env;theTreesLotGoes x)) _ _ s;refine wpAny_noted ?_;rw[compTurn_list];refine Aa (DM (Aa (nv (thn (O n s hI) (fun r U h₁=>?_)))));cases r with
 | none=>exact Af h₁
 | some v=>
  refine Aa (B4 h₁ (fun _ M W=>?_) fun _ _ x=>x.elim);refine Aa (B4 W (fun _ s₂ h₂=>Aa (B4 h₂ (fun ok Y h₃=>?_) fun _ _ h'=>h'.elim)) fun _ _ h'=>h'.elim);cases ok with
  | false=>exact Af ⟨rfl,h₃⟩
  | true=>
   exact Aa (Aa (B4 h₃ (fun x s₄ h₄=>Aa (B4 h₄ (fun _ Z h₅=>Af (Af ⟨rfl,h₅⟩)) fun _ _ h'=>h'.elim)) fun _ _ h'=>h'.elim))
end
inductive aAJ(J : It)(g : TG)(tt : TT)(te : TE)(σ₀ : St)(H₀ : Hp)(Q : VK) : Prop
  | mk (W : Nat → Nat → List V → St → Hp → Prop) (q0 : (∃ m, W 0 m [] σ₀ H₀)) (q1 : ∀ i m ys σ H, W i m ys σ H → ys.length ≤ sizeLine ∧
    ((J.stop i H ∧ ∀ D, H D = none → Q (.ref D) (upd H D (.lst ys))) ∨
     (J.go i H ∧ ∃ N : List V → St → Hp → Prop, (∀ zs σ' H', N zs σ' H' → ∃ m', m' < m ∧ W (i + 1) m' zs σ' H') ∧
       ∀ x H', J.yld i H x H' → g x σ H' fun σ2 H2 => tt σ2 H2 fun b H3 => if b = true then te σ2 H3 fun v H4 => N (ys ++ [v]) σ2 H4 else N ys σ2 H3))) : aAJ J g tt te σ₀ H₀ Q
def nJ(J:It)(g:TG)(tt:TT)(te:TE)(σ₀:St)(H₀:Hp)(Q:VK):Prop:=aAJ J g tt te σ₀ H₀ Q
section
variable{X:Cx}{bd:List (Ae×Obj)}{σ:St}
theorem uH{tg aq ay:A6}{aE:List A6}{scope:CN}{pos:Pos}{N:List Str}{src:List (Option Nat)}{g:TG}{tt:TT}{te:TE}{J:It}{fp:List Ae}{it:Ae}{tn:Nat→A8→Prop}{H2:Hp}{O:Ad}{Q:VK}{E:Ac→Ad→Prop}
  {RR:Ac→Ae→Result→Ad→Prop} (B:BlkOk N src scope X.env.scope X.N) (hc:X.calm=true)
  (F:∀ cl s H fp bd C,PG (blk X N scope cl s H fp bd C) tg g∧PTs (blk X N scope cl s H fp bd C) aE tt∧PE (blk X N scope cl s H fp bd C) ay te)
  (I2:Inv X bd σ H2 O) (T:wL X.prog X.w X.K tg J fp it tn) (a0:tn 0 O.heap) (f2:∀ b∈fp,kQ X bd H2 b) (cw:nJ J g tt te (sub src σ) H2 Q)
  (bN:∀ D C H' m s',Inv X bd σ H' s'→s'.heap.Ns C m→kQ X bd H' C→D≠C→Q (.ref D) H'→RR (.ref D) C (.ok .next) s'):
  wpAny (model X.prog X.w) X.A (newList []) (fun bf s₃=>wpAny (model X.prog X.w) X.A (newFunctionEnv scope X.env.globals (hX X.env scope.names []) [] X.env.qual none .none (some X.env)) (fun au s₄=>
   codeAny (model X.prog X.w) X.A (.compStart (.ListComp ay [⟨tg,aq,aE,0⟩] scope pos) 0 (.ref it) bf { au with scope:=relabel scope X.env }) (RR bf au.locals) s₄) E s₃) E O:=by
 refine Bq (wpAny_newFunctionEnv B.nocell (by intro y hy;simp at hy) (fun h₁ aj aa=>?_) B.kind);dsimp only at aj aa ⊢;generalize aD:O.heap.push { cls:=.type "list",dict:=none,data:=.seq ([]:List Ac).toArray }=HH at aj aa ⊢;have aC:HH.objs.size=O.heap.objs.size + 1:=by rw[← aD,BH]
 have ae:O.heap.objs.size≠HH.objs.size:=by rw[aC];exact AJ (BD _)
 have ag:O.heap.objs.size≤HH.objs.size:=by rw[aC];exact Cz _
 have an:∀ b∈fp,b < O.heap.objs.size:=fun b F=>by
  obtain⟨o,e,_⟩:=T.obj _ _ a0 b F;exact Az e
 have bg:∀ b o,O.heap.get? b=some o→h₁.get? b=some o:=fun b o e=>
  aa.extBut b o (by rw[aC];exact AJ (Bh (Az e))) (Ah _ (aD ▸ Ah _ e))
 have aP:h₁.PlainList O.heap.objs.size #[]:=⟨_,aa.extBut _ _ ae (Ah _ (aD ▸ Ax _ rfl))⟩
 have bc:tn 0 h₁:=T.keep _ _ _ a0 fun b _ o e=>bg b o e;obtain⟨W,⟨m0,w0⟩,turn⟩:=cw;have be:∀ b∈frs X.stack,b < O.heap.objs.size:=fun b F=>by
  obtain⟨_,o,ho,_⟩:=I2.stack.mem F;exact Az ho
 generalize q:blk X N scope (hX X.env scope.names []) O H2 fp bd HH.objs.size=M;have ba:=F (hX X.env scope.names []) O H2 fp bd HH.objs.size;rw[q]at ba;have eP:M.prog=X.prog:=by rw[← q];rfl
 have eW:M.w=X.w:=by rw[← q];rfl
 have eK:M.K=X.K:=by rw[← q];rfl
 have eA:M.A=X.A:=by rw[← q];rfl
 have eE:M.env=compEnvC scope (hX X.env scope.names []) HH.objs.size X.env:=by rw[← q];rfl
 have eL:M.env.locals=HH.objs.size:=by rw[eE];rfl
 have eF:M.fs=frs X.stack:=by rw[← q];rfl
 have eX:M.ex=fp:=by rw[← q];rfl
 have eS:M.s₀=O:=by rw[← q];rfl
 have eH:M.H₀=H2:=by rw[← q];rfl
 have eC:M.calm=true:=by rw[← q];exact hc
 have bj:M.pn=X.pn ++ bd:=by rw[← q];rfl
 have aB:M.xe=fun _ _=>False:=by rw[← q];rfl
 have Z:∀ x c,M.env.cells.lookup x=some c→X.env.cells.lookup x=some c:=fun x c e=>by
  rw[eE]at e;exact oO scope.names [] (fun x c e=>by simp at e) x c e
 have ac:∀ x c,M.env.cells.lookup x=some c→c < O.heap.objs.size:=fun x c e=>by
  obtain⟨v,o,ho,_⟩:=I2.cell x c (Z x c e);exact Az ho
 have ai:∀ p∈X.pn ++ bd,p.1 < O.heap.objs.size:=fun p Y=>Az (I2.pin p Y).1;generalize hD:O.heap.objs.size=D at *;generalize cP:HH.objs.size=C at *;have ap:∀ s₃:Ad,s₃={ O with heap:=h₁,toks:=O.toks + ([]:List (Str×Ac)).length }→
   codeAny (model X.prog X.w) X.A (.compLoop (.ListComp ay [⟨tg,aq,aE,0⟩] scope pos) 0 (.ref it) (.ref D) (compEnvC scope (hX X.env scope.names []) C X.env)) (RR (.ref D) C) s₃:=by
  rintro s₃ rfl;have I3:Inv M [] (sub src σ) H2 { O with heap:=h₁,toks:=O.toks + ([]:List (Str×Ac)).length }:=by
   rw[← q];exact I2.block B f2 (by rw[hD];exact an) (by rw[hD];exact ag) rfl I2.bare bg aj
  have bx:H2 D=none:=I2.hok.fresh (Eh hD);have bD:D ∉ M.fs:=fun z=>by rw[eF]at z;exact absurd (be D z) (BO _)
  have av:∀{U:St} {H':Hp} {s':Ad} {pl:List (Ae×Obj)} {its:List Ac} {n:Nat},Inv M pl U H' s'→H' D=none→s'.heap.get? D=some { cls:=.type "list",data:=.seq its.toArray n }→
    Inv M ((D,{ cls:=.type "list",data:=.seq its.toArray n }) :: pl) U H' s':=fun{U H' s' pl its n} I' hn hg=>
   I'.pins_of fun p Y=>by
    rcases Aq.mp Y with e | Y
    ·subst e;exact⟨hg,hn,by rw[eL];exact ae,bD,fun v z=>by cases z⟩
    ·exact I'.pin p (AR _ Y)
  obtain⟨n0,hg0⟩:=aP;have bR:=av (its:=[]) I3 bx hg0;have az:∀{H':Hp} {pl:List (Ae×Obj)},(∀ p∈pl,p.1=D)→(∀ b∈fp,H' b=none)→∀ b∈fp,kQ M pl H' b:=fun{H' pl} hpl hn b F=>by
   refine⟨hn b F,by rw[eL];exact AJ (AS (an b F) ag),fun z=>?_,.inl (by rw[eX];exact F),fun x c e=>(f2 b F).2.2.2.2.1 x c (Z x c e),fun p Y=>?_⟩
   ·rw[eF]at z;rcases Aq.mp (I2.stkSub b z)with e | z
    ·exact(f2 b F).2.1 e
    ·exact(f2 b F).2.2.1 z
   ·rw[bj]at Y;rcases A4.mp Y with z | z
    ·exact(f2 b F).2.2.2.2.2 p z
    ·rw[hpl p z];exact B9 (an b F)
  refine wX (fun n s'=>∃ i ys its nn U H',Inv M [(D,{ cls:=.type "list",data:=.seq its.toArray nn })] U H' s'∧tn i s'.heap∧(∀ b∈fp,H' b=none)∧cE ys its∧W i n ys U H') ?_ m0
   ⟨0,[],[],n0,sub src σ,H2,bR,bc,fun b F=>(f2 b F).1,.nil,w0⟩
  rintro n s4 ⟨i,ys,its,nn,σ4,H4,I4,bp,aR,ao,w4⟩;obtain⟨hsz,hcase⟩:=turn i n ys σ4 H4 w4;have one:∀{o:Obj},∀ p∈[(D,o)],p.1=D:=fun{o} p Y=>by
   have:=Br.mp Y;rw[this]
  rcases hcase with⟨stop,qn⟩ | ⟨go,Nx,hN,step⟩
  ·have ah:=T.done M eP eW eK eC i _ s4 σ4 H4 (fun _ _=>False) I4 (az one aR) bp stop;rw[eA]at ah;refine thn ah fun r s5 ⟨hr,I5⟩=>?_;subst hr;have pd:=I5.pin _ (AR _ AH);have b3:Un (frs X.stack) fp H2 H4 O.heap s5.heap:=by
    have:=I5.base;rw[eF,eX,eS,eH]at this;exact this
   have bi:HOk X.prog X.w H4 s5.heap:=by
    have:=I5.hok;rw[eP,eW]at this;exact this
   have b6:s5.os=O.os:=by
    have:=I5.os;rw[eS]at this;exact this
   have J5:Inv X bd σ H4 s5:=I2.call' b6 b3 bi I5.bare fun b F=>⟨(f2 b F).2.2.2.1,(f2 b F).2.1,(f2 b F).2.2.2.2.1,(f2 b F).2.2.2.2.2⟩
   have fD:kQ X bd H4 D:=I2.fpOk (Eh hD) pd.2.1;have J6:Inv X bd σ (upd H4 D (.lst ys)) s5:=J5.track fD ⟨hsz,its,nn,ao,pd.1⟩;obtain⟨mm,nsC,_⟩:=I5.loc;rw[eL]at nsC;have b4:H4 C=none:=by
    have:=I5.free;rw[eL]at this;exact this
   have fC:kQ X bd (upd H4 D (.lst ys)) C:=I2.fpOk (by rw[hD];exact ag) (by rw[bU (C0 ae)];exact b4);exact bN D C _ mm s5 J6 nsC fC ae (qn D pd.2.1)
  ·have af:=T.item M eP eW eK eC i _ s4 σ4 H4 (fun _ _=>False) I4 (az one aR) bp go;rw[eA]at af;refine thn af fun r s5 ⟨u,hr,h5⟩=>?_;subst hr;refine thn h5 fun _ s6 ⟨x,H6,I6,r6,y6,ax,bK⟩=>?_;have b7:=I6.pinned (az one bK) (T.obj _ _ ax);obtain⟨hg,ht,he⟩:=ba;have e1:=hg _ s6 σ4 H6 x u _ b7 r6 (step x H6 y6);rw[eP,eW,eA,eE,aB]at e1;refine thn e1 fun _ s7 ⟨σ7,H7,I7,q7⟩=>?_;have e2:=ht _ s7 σ7 H7 _ I7 q7;rw[eP,eW,eA,eE,aB]at e2;refine thn e2 fun ok s8 ⟨H8,I8,q8⟩=>?_;have br:∀{U:St} {H':Hp} {s':Ad} {ab:List Ac} {ad:Nat} {zs:List V},Inv M ([(D,{ cls:=.type "list",data:=.seq ab.toArray ad })] ++ mO fp s6.heap) U H' s'→cE zs ab→Nx zs U H'→
     ∃ m,m < n∧∃ i ys its nn U H',Inv M [(D,{ cls:=.type "list",data:=.seq its.toArray nn })] U H' s'∧tn i s'.heap∧(∀ b∈fp,H' b=none)∧cE ys its∧W i m ys U H':=fun{U H' s' ab ad zs} I' vs' n'=>by
    obtain⟨m',hm,w'⟩:=hN zs U H' n';refine⟨m',hm,i + 1,zs,ab,ad,U,H',I'.unpinned,T.keep _ _ _ ax fun b F o e=>(I'.pin (b,o) (AR _ (AR _ (jV F e)))).1,fun b F=>?_,vs',w'⟩;obtain⟨o,e,d⟩:=T.obj _ _ ax b F;exact(I'.pin (b,o) (AR _ (AR _ (jV F e)))).2.1
   cases ok with
   | false=>
    simp only[Bool.false_eq_true,if_false]at q8 ⊢;exact br I8 ao q8
   | true=>
    simp only[if_true]at q8 ⊢;have e3:=he _ s8 σ7 H8 _ I8 q8;rw[eP,eW,eA,eE,aB]at e3;refine thn e3 fun v s9 ⟨y,H9,I9,r9,q9⟩=>?_;have pd:=I9.pin _ (AR _ (C8 _ AH));have cq:=ao.length;refine wpAny_list_append_plain (hsz:=by simp only[Ao];omega) (⟨nn,pd.1⟩:s9.heap.PlainList D its.toArray) fun h' ⟨ad,bL⟩ b5=>?_;have bz:Inv M (mO fp s6.heap) σ7 H9 s9:=I9.pins_of fun p Y=>I9.pin p (AR _ (AR _ Y));have bT:Inv M (mO fp s6.heap) σ7 H9 { s9 with heap:=h' }:=bz.turned (t':=s9.toks) (it:=D) (fun b o F e=>(b5.2 b F).trans e) pd.2.1 (by rw[eL];exact ae) (.inr (by rw[eS];exact Eh hD))
     (fun x c e=>AJ (ac x c e)) fun p Y=>by
      rw[bj]at Y;rcases A4.mp Y with z | z
      ·exact AJ (ai p z)
      ·exact AJ (an _ (t5 z).1)
    have aT:h'.get? D=some { cls:=.type "list",data:=.seq (its ++ [v]).toArray ad }:=by
     rw[bL];simp
    exact br (av (s':={ s9 with heap:=h' }) bT pd.2.1 aT) (ao.append (.cons r9 .nil)) q9
 exact codeAny_compStart_list (ap _ rfl) (T.self X.A 0 _ _ _ bc (ap _ rfl))
end
def aFH(src:List (Option Nat))(wi:TI)(g:TG)(tt:TT)(te:TE):TE:=fun σ H Q=>wi σ H fun J H1=>nJ J g tt te (sub src σ) H1 Q
section
variable{X:Cx}
theorem eG{tg z F:A6}{M:List A6}{scope osc:CN}{pos:Pos}{N oN:List Str}{src:List (Option Nat)}{Y:TI}{g:TG}{W:TT}{te:TE}(B:BlkOk N src scope osc oN)(hi:PI X tg z Y)
  (U:∀ cl s H fp bd C,PG (blk X N scope cl s H fp bd C) tg g∧PTs (blk X N scope cl s H fp bd C) M W∧PE (blk X N scope cl s H fp bd C) F te)
  (hc:X.calm=true:=by rfl) (eo:X.env.scope=osc:=by rfl) (Z:X.N=oN:=by rfl)
  (hs:∀ x,foldedSetIterable z X.env x=pure x:=by intro _;rfl):PE X (.ListComp F [⟨tg,z,M,0⟩] scope pos) (aFH src Y g W te):=by
 subst eo Z;constructor;intro bd s σ H Q I h;rw[eval_ListComp];refine wpAny_comprehension_free (use:=none) (cl:=hX X.env scope.names []) rfl hs (nG (I.clos B)) B.kind B.names (thn (hi bd s σ H _ I h) fun xv s1 h1=>thn h1 fun ae s2 h2=>?_);obtain⟨it,fp,tn,J,H2,e,I2,T,st2,f2,cw⟩:=h2;subst e;refine uH B hc U I2 T st2 f2 cw fun D C H' m s' J' O fC af q=>?_;refine⟨m,O,fun h' sb=>⟨.ref D,H',?_,rfl,q⟩⟩;obtain⟨f0,f1,_,f3,f4,f5⟩:=fC;exact J'.turned (t':=s'.toks) (fun b o U e=>(sb.2 b U).trans e) f0 f1 f3 f4 f5
theorem fM{tg F O:A6}{M:List A6}{scope osc:CN}{pos ps W:Pos}{y:Str}{i:Nat}{N oN:List Str}{src:List (Option Nat)}{wi:TI}{g:TG}{tt:TT}{te:TE}(B:BlkOk N src scope osc oN)(hN:X.N.Nodup)(hy:X.N[i]?=some y)(hi:PI X tg F wi)
  (hb:∀ cl s H fp bd C,PG (blk X N scope cl s H fp bd C) tg g∧PTs (blk X N scope cl s H fp bd C) M tt∧PE (blk X N scope cl s H fp bd C) O te)
  (U:X.env.scope.names.lookup y=some .local:=by rfl)
  (ab:swapsWith (.ListComp O [⟨tg,F,M,0⟩] scope pos) (some (.Name y W)) ps.line X.env=pure true:=by rfl)
  (hc:X.calm=true:=by rfl) (eo:X.env.scope=osc:=by rfl) (eN:X.N=oN:=by rfl)
  (hs:∀ x,foldedSetIterable F X.env x=pure x:=by intro _;rfl):PS X (.Assign [.Name y W] (.ListComp O [⟨tg,F,M,0⟩] scope pos) ps) (aGf (aFH src wi g tt te) (cI i)):=by
 subst eo eN;constructor;intro bd s σ H D I h;rw[exec_Assign_Name_used _ _ _ _ ab];refine Aa (DM (Aa ?_));show wpAny _ _ (evalThenUse (.ListComp O [⟨tg,F,M,0⟩] scope pos) X.env (assign (.Name y W) X.env)) _ _ s;have e:evalThenUse (.ListComp O [⟨tg,F,M,0⟩] scope pos) X.env (assign (.Name y W) X.env)=(do
   let _ ← comprehension (.ListComp O [⟨tg,F,M,0⟩] scope pos) scope X.env (firstIterPos [⟨tg,F,M,0⟩] pos) (newList []) (firstAsync [⟨tg,F,M,0⟩]) (firstIter [⟨tg,F,M,0⟩] X.env) (some (assign (.Name y W) X.env))):=rfl
 rw[e];refine Aa ?_;refine wpAny_comprehension_free (use:=some (assign (.Name y W) X.env)) (cl:=hX X.env scope.names []) rfl hs (nG (I.clos B)) B.kind B.names (thn (hi bd s σ H _ I h) fun xv s1 h1=>thn h1 fun ap s2 h2=>?_);obtain⟨it,fp,tn,J,H2,e,I2,T,st2,f2,cw⟩:=h2;subst e;refine uH B hc hb I2 T st2 f2 cw fun D' C H' m s' J' Y fC aq q=>?_;obtain⟨f0,f1,_,f3,f4,f5⟩:=fC;refine wpAny_assign_Name (tZ J' hN hy (.inl U) (v:=.ref D') rfl (fun Z ad ⟨a,sb,ha⟩=>?_) (.inr U));have aa:C≠a:=by
  rcases ha with rfl | ha
  ·exact f1
  ·exact fun z=>f4 y a ha z.symm
 refine⟨m,Y.sameBut sb aa,fun h' ae=>Af (Af ⟨_,H',ad.turned (t':=Z.toks) (fun b o hb e=>(ae.2 b hb).trans e) f0 f1 f3 f4 f5,q⟩)⟩
end
section
variable{X:Cx}
inductive kM(K:Ag)(xs:List V)(H:Hp)(Q:VK):Prop
 | mk (x:_) (n:_) (t:_) (b:_) (q0:xs=[x,.ty n]) (q1:kU K H x t) (q2:Bw K t (.type n)=some b) (q3:Q (.bl b) H):kM K xs H Q
def tR(K:Ag):List V→Hp→VK→Prop:=fun xs H Q=>kM K xs H Q
theorem dH:gE X (.builtin "isinstance") (tR X.K):=by
 intro bd s σ H xs z Q I r h;obtain⟨x,n,t,b,rfl,ty,e,q⟩:=h;obtain⟨u,w',rfl,r1,r2⟩:=aFC r;cases r2;exact aBF I r1 ty e fun tk=>⟨.bl b,H,I.tok _,rfl,q⟩
inductive mC(x:V)(y:V)(H:Hp)(Q:VK):Prop
 | mk (i:_) (j:_) (q0:x=.str i) (q1:y=.str j) (q2:Q (.bl (!decide (j.cps.toList < i.cps.toList))) H):mC x y H Q
def wY:V→V→Hp→VK→Prop:=fun x y H Q=>mC x y H Q
theorem lF:OpR X (compareOp .LtE) wY:=by
 intro bd s σ H x y v u Q I z B h;obtain⟨i,j,rfl,rfl,q⟩:=h;obtain⟨t,rfl⟩:=z;obtain⟨t',rfl⟩:=B;exact PySem.P.le_str ⟨.bl _,H,I,rfl,q⟩
def uI(i j:Int):Prop:=0 < j∧j.natAbs.log2 < 9000
theorem uI.of{i j:Int}(h:0 < j)(h2:j < 2 ^ 512):uI i j:=by
 refine⟨h,?_⟩;have q:j.natAbs≠0:=by omega
 have:j.natAbs.log2 < 512:=(EY q).mpr (by
  have e:((2:Int) ^ 512)=((2 ^ 512:Nat):Int):=by decide
  rw[e]at h2;omega)
 omega
theorem qX:OpR X (binaryOp .FloorDiv) (rI uI fun i j=>.int (i / j)):=opI fun i j _ _ _ _ _ hc q=>by
 have h1:(0:Int) < j:=hc.1;refine floordiv_int (by omega) ?_ (AG (PyProof.noPylong_of_log2 hc.2));rw[Int.fdiv_eq_ediv_of_nonneg i (by omega)];exact q
def Its(x:Str):It:=⟨fun i _=>i < x.cps.size,fun i H v H'=>H'=H∧∃ c,x.cps[i]?=some c∧v=.str ⟨#[c]⟩,fun i _=>x.cps.size≤i⟩
theorem aC2{P:Ay}{w:AQ}{K:Ag}{tg:A6}(it:Ae)(x:Str)(t:Tok)(nm:String)(U:nm="str_ascii_iterator"∨nm="str_iterator")
  (W:∀ A':AL,A'.handled=none→Walks P w A' it [it] [it] x.cps.size (SignAt x) (fun i h=>h.IsStrIter it nm x t i))
  (q:∀(A:AL) (i:Nat) (s:Ad) (Q:Ac→Ad→Prop) (E:Ac→Ad→Prop),s.heap.IsStrIter it nm x t i→Q (.ref it) s→wpAny (model P w) A (pyIter (.ref it)) Q E s):
  wL P w K tg (Its x) [it] it (fun i h=>i≤x.cps.size∧h.IsStrIter it nm x t i) where
 mem:=by simp
 obj:=fun i h st b B=>by
  have e:b=it:=by simpa using B
  subst e;obtain⟨_,o,e,c,d⟩:=st;exact⟨o,e,fun v z=>by rw[d]at z;cases z⟩
 keep:=fun i h h' st k=>⟨st.1,by obtain⟨_,o,e,c,d⟩:=st;exact⟨o,k it (by simp) o e,c,d⟩⟩
 item:=by
  intro X Y hw Z hc i bd s σ H E I M st J;subst Y hw Z;obtain⟨f0,f1,f2,f3,f4,f5⟩:=M it (by simp);refine(W X.A (I.ok.hd hc)).item i s _ _ J st.2 fun v h' tk hv F O=>?_;obtain⟨c,u,ec,rfl⟩:=hv;have I1:Inv X bd σ H { s with heap:=h',toks:=tk }:=I.turned (fun b o B e=>O b o (by simpa using B) e) f0 f1 f3 f4 f5;obtain⟨o,e,c',d⟩:=id F;refine⟨_,rfl,wM (s:={ s with heap:=h',toks:=tk }) e c' d (by rcases U with rfl | rfl <;> decide) ⟨.str ⟨#[c]⟩,H,I1,⟨u,rfl⟩,⟨rfl,c,ec,rfl⟩,⟨J,F⟩,fun b B=>(M b B).1⟩⟩
 done:=by
  intro X Y hw Z hc i bd s σ H E I M st J;subst Y hw Z;obtain⟨f0,f1,f2,f3,f4,f5⟩:=M it (by simp);have e:i=x.cps.size:=Nat.le_antisymm st.1 J;subst e;exact(W X.A (I.ok.hd hc)).done s _ _ st.2 fun h' tk O=>⟨rfl,I.turned (fun b o B e=>O b o (by simpa using B) e) f0 f1 f3 f4 f5⟩
 self:=fun A i s Q E st h=>q A i s Q E st.2 h
def aIk(tl:TE):TI:=fun σ H R=>tl σ H fun x H1=>As V.str x fun z=>R (Its z) H1
theorem aC3{tg l:A6}{tl:TE}(Z:PE X l tl):PI X tg l (aIk tl):=by
 constructor;intro bd s σ H R I h;refine thn (Z bd s σ H _ I h) fun v B ⟨x,H1,Y,r1,q1⟩=>?_;obtain⟨z,rfl,q⟩:=q1;obtain⟨t,rfl⟩:=r1;have M:∀(nm:String) (J:nm="str_ascii_iterator"∨nm="str_iterator")
   (W:∀ O:AL,O.handled=none→Walks X.prog X.w O B.heap.objs.size [B.heap.objs.size] [B.heap.objs.size] z.cps.size (SignAt z) (fun i h=>h.IsStrIter B.heap.objs.size nm z t i))
   (F:∀(A:AL) (i:Nat) (s:Ad) (Q:Ac→Ad→Prop) (E:Ac→Ad→Prop),s.heap.IsStrIter B.heap.objs.size nm z t i→Q (.ref B.heap.objs.size) s→wpAny (model X.prog X.w) A (pyIter (.ref B.heap.objs.size)) Q E s),
   PIE X bd σ tg R (.ref B.heap.objs.size) { B with heap:=B.heap.push { cls:=.type nm,data:=.fields #[.str z t,.int 0 0] } }:=fun nm J W F=>by
  refine⟨B.heap.objs.size,[B.heap.objs.size],_,_,H1,rfl,Y.kept (t':=B.toks) fun b o e=>Ah _ e,aC2 B.heap.objs.size z t nm J W F,⟨Bc _,_,Ax _ rfl,rfl,rfl⟩,fun b hb=>?_,q⟩;have e:b=B.heap.objs.size:=by simpa using hb
  subst e;exact Y.fpOk (Ak _) (Y.hok.fresh (Ak _))
 cases ha:z.cps.all (· < 128)
 ·exact wpAny_pyIter_wide ha (M "str_iterator" (.inr rfl) (fun O U=>Walks.strWide U _ z t) fun A i s Q E st h=>wpAny_pyIter_striter_wide st h)
 ·exact wpAny_pyIter_ascii ha (M "str_ascii_iterator" (.inl rfl) (fun O U=>Walks.strAscii U _ z t) fun A i s Q E st h=>wpAny_pyIter_striter_ascii st h)
inductive qY(x:V)(lo:Option Int)(hi:Option Int)(H:Hp)(Q:VK):Prop
 | mk (z:_) (q0:x=.str z) (q1:z.length≤sizeLine) (q2:Q (.str (C5 z lo hi)) H):qY x lo hi H Q
def aC4:V→Option Int→Option Int→Hp→VK→Prop:=fun x lo hi H Q=>qY x lo hi H Q
theorem aC5:SlR X aC4:=by
 intro bd s σ H x v vl Z lo hi sl Q I W Y pl U h;obtain⟨z,rfl,hz,q⟩:=h;obtain⟨t,rfl⟩:=W;refine⟨"str",_,F.slot_str_getitem.lookup,DB _ _ _,?_⟩;have B:∀ O k,EP X bd σ Q (.str (C5 z lo hi) O) { s with toks:=k }:=fun O k=>⟨.str _,H,I.tok _,⟨_,rfl⟩,q⟩
 obtain⟨o,ho,hc,hd⟩:=Y;cases pl with
 | none=>
  cases U with
  | none=>exact CZ (l:=none) (u:=none) (st:=none) ⟨o,ho,hc,hd⟩ rfl (D4 ⟨A3 (DO z _ _) hz,B⟩)
  | int j J=>exact CZ (l:=none) (u:=some (j,J)) (st:=none) ⟨o,ho,hc,hd⟩ rfl (D4 ⟨A3 (DO z _ _) hz,B⟩)
 | int i M=>
  cases U with
  | none=>exact CZ (l:=some (i,M)) (u:=none) (st:=none) ⟨o,ho,hc,hd⟩ rfl (D4 ⟨A3 (DO z _ _) hz,B⟩)
  | int j J=>exact CZ (l:=some (i,M)) (u:=some (j,J)) (st:=none) ⟨o,ho,hc,hd⟩ rfl (D4 ⟨A3 (DO z _ _) hz,B⟩)
theorem aAK:∀{ys:List Str}{q:List Ac},cE (ys.map V.str) q→E6 q ys
 | [],_,.nil=>.nil
 | y :: ys,_,.cons ⟨t,rfl⟩ r=>.cons y t (aAK r)
inductive aHA(K:Ag)(x:V)(xs:List V)(H:Hp)(Q:VK):Prop
 | mk (z:_) (p:_) (ys:_) (q0:x=.str z) (q1:xs=[.ref p]) (q2:SqL K H p (ys.map V.str)) (q3:(ys.map (·.length)).sum + ys.length * z.length≤16777216) (q4:Q (.str (Txt.join z ys)) H):aHA K x xs H Q
def rJ(K:Ag):V→List V→Hp→VK→Prop:=fun x xs H Q=>aHA K x xs H Q
theorem lG:MtR X "str.join" (rJ X.K):=by
 intro bd s σ H x xs v F Q I B r h;obtain⟨z,p,ys,rfl,rfl,hx,hz,q⟩:=h;obtain⟨t,rfl⟩:=B;obtain⟨u,rfl,ru⟩:=fH r;cases ru;obtain⟨its,rv,pl,_⟩:=I.list hx;exact join_list pl.isList (by simpa using aAK rv) hz fun J k=>⟨.str _,H,I.tok _,⟨_,rfl⟩,q⟩
theorem wZ:∀{bs:List Bool}{q:List Ac},cE (bs.map V.bl) q→∀(i:Nat) v,q[i]?=some v→∃ b,bs[i]?=some b∧v=.bool b
 | [],_,.nil,i,v,e=>by simp at e
 | b :: bs,_,.cons rfl r,0,v,e=>by simp at e;exact⟨b,rfl,e.symm⟩
 | b :: bs,_,.cons rfl r,i + 1,v,e=>by
  obtain⟨c,h1,h2⟩:=wZ r i v (by simpa using e);exact⟨c,by simpa using h1,h2⟩
theorem zL(bs:List Bool):((AV bs.length).all fun i=>(bs[i]?).getD true)=bs.all id:=by
 rw[BB,AU,AU];constructor
 ·intro h b z;obtain⟨i,hi,e⟩:=DT.mp z;have:=h i (BG.mpr hi);rw[Ai hi]at this;simpa[e]using this
 ·intro h i hi;have q:=BG.mp hi;rw[Ai q];exact h _ (Bm q)
inductive nM(K:Ag)(xs:List V)(H:Hp)(Q:VK):Prop
 | mk (p:Ae) (bs:List Bool) (q0:xs=[.ref p]) (q1:SqL K H p (bs.map V.bl)) (q2:Q (.bl (bs.all id)) H):nM K xs H Q
def zM(K:Ag):List V→Hp→VK→Prop:=fun xs H Q=>nM K xs H Q
theorem nN(hc:X.calm=true):gE X (.builtin "all") (zM X.K):=by
 intro bd s σ H xs Y Q I r h;obtain⟨p,bs,rfl,hx,q⟩:=h;obtain⟨u,rfl,ru⟩:=fH r;cases ru;obtain⟨its,rv,pl,_⟩:=I.list hx;have B:=pl.isList;have z:its.length=bs.length:=by have:=rv.length;simpa using this.symm
 have F:p < s.heap.objs.size:=by obtain⟨_,e,_⟩:=B;exact Az e
 refine call_all_walk (Ew B ?_);refine⟨s.heap.objs.size,[s.heap.objs.size,p],[s.heap.objs.size],its.toArray.size,_,_,fun i=>(bs[i]?).getD true,rfl,Walks.list (A:=X.A.in1) (I.ok.hd hc) _ p (AJ F) its.toArray,
  ⟨⟨_,Ax _ rfl,rfl,rfl⟩,B.push _⟩,fun i v s' U W O J=>?_,fun h' tk M=>?_⟩
 ·obtain⟨b,e,rfl⟩:=wZ rv i v (by simpa using O);simp only[e,Option.getD_some]at J;exact BA J
 ·rw[Ao,z,zL];exact⟨.bl _,H,I.kept fun b x e=>M b x (fun hm=>by rw[Br.mp hm]at e;exact BO _ (Az e)) (Ah _ e),rfl,q⟩
def tT:List V→List V→Bool
 | [],[]=>true
 | x :: xs,y :: ys=>eqV x y && tT xs ys
 | _,_=>false
theorem qZ:∀{xs ys:List V},xs.length≠ys.length→tT xs ys=false
 | [],[],h=>absurd rfl h
 | [],_ :: _,_=>rfl
 | _ :: _,[],_=>rfl
 | x :: xs,y :: ys,h=>by
  show(eqV x y && tT xs ys)=false;rw[qZ (fun e=>h (by simp[e])),Bool.and_false]
theorem rA:∀{xs ys:List V},xs.length=ys.length→((AV xs.length).all fun i=>eqV (xs[i]?.getD .non) (ys[i]?.getD .non))=tT xs ys
 | [],[],_=>rfl
 | x :: xs,y :: ys,h=>by
  have q:=rA (xs:=xs) (ys:=ys) (by simpa using h);rw[A0,List.range_succ_eq_map,DA,DL];show(eqV x y && _)=(eqV x y && tT xs ys)
  rw[← q];rfl
theorem w5{A:AL}{s:Ad}{xs ys:List V}{F B:List Ac}(M:cE xs F)(J:cE ys B)(f1:xs.all gF=true)(f2:ys.all gF=true)(j:Nat)(h1:j < F.toArray.size)(h2:j < B.toArray.size):
  Ex A s F.toArray[j] B.toArray[j] (eqV (xs[j]?.getD .non) (ys[j]?.getD .non)):=by
 have O:=M.length;have U:=J.length;have q:j < xs.length:=by simpa[O]using h1
 have z:j < ys.length:=by simpa[U]using h2
 obtain⟨u,eu,ru⟩:=M.get (Ai q);obtain⟨w',ew,rw'⟩:=J.get (Ai z);have W:F.toArray[j]=u:=by
  rw[Ai (by simpa using h1)]at eu;simpa using eu
 have Y:B.toArray[j]=w':=by
  rw[Ai (by simpa using h2)]at ew;simpa using ew
 rw[W,Y,Ai q,Ai z];exact zJ ru rw' (AU.mp f1 _ (Bm q)) (AU.mp f2 _ (Bm z))
inductive rB(K:Ag)(x:V)(y:V)(H:Hp)(Q:VK):Prop
 | mk (p:_) (q:_) (xs:_) (ys:_) (q0:x=.ref p) (q1:y=.ref q) (q2:SqL K H p xs) (q3:SqL K H q ys) (q4:xs.all gF=true) (q5:ys.all gF=true) (q6:Q (.bl (tT xs ys)) H):rB K x y H Q
def aC6(K:Ag):V→V→Hp→VK→Prop:=fun x y H Q=>rB K x y H Q
theorem aGz(z:X.A.units < cLine):OpR X (compareOp .Eq) (aC6 X.K):=by
 intro bd s σ H x y v u Q I B J h;obtain⟨p,q,xs,ys,rfl,rfl,h1,h2,f1,f2,hq⟩:=h;cases B;cases J;obtain⟨us,r1,p1,_⟩:=I.list h1;obtain⟨ws,r2,p2,_⟩:=I.list h2;have F:=r1.length;have M:=r2.length;by_cases e:xs.length=ys.length
 ·refine SeqAt.eq_listAt p1.isList p2.isList (by simp;omega) z (w5 r1 r2 f1 f2) ?_;rw[Ao,← F,rA e];exact⟨.bl _,H,I,rfl,hq⟩
 ·refine SeqAt.eq_list_lengthsAt p1.isList p2.isList (by simp;omega) z ?_;rw[qZ e]at hq;exact⟨.bl _,H,I,rfl,hq⟩
inductive rC(K:Ag)(x:V)(y:V)(H:Hp)(Q:VK):Prop
 | mk (p:_) (q:_) (xs:_) (ys:_) (q0:x=.ref p) (q1:y=.ref q) (q2:SqL K H p xs) (q3:SqL K H q ys) (q4:xs.all gF=true) (q5:ys.all gF=true) (q6:Q (.bl (!tT xs ys)) H):rC K x y H Q
def aC7(K:Ag):V→V→Hp→VK→Prop:=fun x y H Q=>rC K x y H Q
theorem aGA(z:X.A.units < cLine):OpR X (compareOp .NotEq) (aC7 X.K):=by
 intro bd s σ H x y v u Q I B J h;obtain⟨p,q,xs,ys,rfl,rfl,h1,h2,f1,f2,hq⟩:=h;cases B;cases J;obtain⟨us,r1,p1,_⟩:=I.list h1;obtain⟨ws,r2,p2,_⟩:=I.list h2;have F:=r1.length;have M:=r2.length;by_cases e:xs.length=ys.length
 ·refine SeqAt.RcNeAt.lists p1.isList p2.isList (by simp;omega) z (w5 r1 r2 f1 f2) X.prog X.w _ _ ?_;rw[Ao,← F,rA e];exact⟨.bl _,H,I,rfl,hq⟩
 ·refine SeqAt.RcNeAt.lists_lengths p1.isList p2.isList (by simp;omega) z X.prog X.w _ _ ?_;rw[qZ e]at hq;exact⟨.bl _,H,I,rfl,hq⟩
end
theorem aM{n:Nat}(h:n≤1000000):n≤sizeLine:=by
 have:sizeLine=16777216:=Ee;omega
theorem lH{J:It}{g:TG}{U:TT}{te:TE}{W:St}{H₀:Hp}{Q:VK}(n:Nat)(q:Nat→List V→St→Hp→Prop)(h0:q 0 [] W H₀)(hn:n≤sizeLine)(F:∀ i ys σ H,q i ys σ H→ys.length≤i)
  (O:∀ i ys σ H,i < n→q i ys σ H→J.go i H) (z:∀ ys σ H,q n ys σ H→J.stop n H)
  (Z:∀ i ys σ H x H',i < n→q i ys σ H→J.yld i H x H'→g x σ H' fun M H2=>U M H2 fun b Y=>if b=true then te M Y fun v H4=>q (i + 1) (ys ++ [v]) M H4 else q (i + 1) ys M Y)
  (hd:∀ ys σ H,q n ys σ H→∀ D,H D=none→Q (.ref D) (upd H D (.lst ys))):nJ J g U te W H₀ Q:=by
 refine⟨fun i m ys σ H=>m=n - i∧i≤n∧q i ys σ H,⟨n,by simp,Bc _,h0⟩,?_⟩;rintro i m ys σ H ⟨rfl,hi,p⟩;refine⟨A3 (F i ys σ H p) (A3 hi hn),?_⟩;by_cases B:i < n
 ·exact .inr ⟨O i ys σ H B p,q (i + 1),fun zs σ' H' p'=>⟨n - (i + 1),by omega,rfl,B,p'⟩,fun x H' y=>Z i ys σ H x H' B p y⟩
 ·have e:i=n:=by omega
  subst e;exact .inl ⟨z ys σ H p,hd ys σ H p⟩
theorem w6{x:Str}{g:TG}{F:TT}{te:TE}{J:St}{H₀:Hp}{Q:VK}(q:Nat→List V→St→Hp→Prop)(U:q 0 [] J H₀)(hn:x.cps.size≤sizeLine)(z:∀ i ys σ H,q i ys σ H→ys.length≤i)
  (O:∀ i c ys σ H,x.cps[i]?=some c→q i ys σ H→g (.str ⟨#[c]⟩) σ H fun B H2=>F B H2 fun b M=>if b=true then te B M fun v W=>q (i + 1) (ys ++ [v]) B W else q (i + 1) ys B M)
  (hd:∀ ys σ H,q x.cps.size ys σ H→∀ D,H D=none→Q (.ref D) (upd H D (.lst ys))):nJ (Its x) g F te J H₀ Q:=
 lH x.cps.size q U hn z (fun i _ _ _ h _=>h) (fun _ _ _ _=>Ak _) (fun i ys σ H v H' hi p y=>by
  obtain⟨e,c,ec,rfl⟩:=y;subst e;exact O i c ys σ _ ec p) hd
theorem iS{lo:Int}{n:Nat}{g:TG}{F:TT}{te:TE}{J:St}{H₀:Hp}{Q:VK}(q:Nat→List V→St→Hp→Prop)(U:q 0 [] J H₀)(hn:n≤sizeLine)(z:∀ i ys σ H,q i ys σ H→ys.length≤i)
  (O:∀ i ys σ H,i < n→q i ys σ H→g (.int (lo + i)) σ H fun B H2=>F B H2 fun b M=>if b=true then te B M fun v W=>q (i + 1) (ys ++ [v]) B W else q (i + 1) ys B M)
  (hd:∀ ys σ H,q n ys σ H→∀ D,H D=none→Q (.ref D) (upd H D (.lst ys))):nJ (Itr lo n) g F te J H₀ Q:=
 lH n q U hn z (fun i _ _ _ h _=>h) (fun _ _ _ _=>Ak _) (fun i ys σ H v H' hi p y=>by
  obtain⟨e,rfl⟩:=y;subst e;exact O i ys σ _ hi p) hd
theorem jE{K:Ag}{a:Ae}{xs:List V}{g:TG}{J:TT}{te:TE}{M:St}{H₀:Hp}{Q:VK}(q:Nat→List V→St→Hp→Prop)(W:q 0 [] M H₀)(hn:xs.length≤sizeLine)(z:∀ i ys σ H,q i ys σ H→ys.length≤i)
  (F:∀ i ys σ H,q i ys σ H→SqL K H a xs)
  (U:∀ i x ys σ H,xs[i]?=some x→q i ys σ H→g x σ H fun B H2=>J B H2 fun b O=>if b=true then te B O fun v Y=>q (i + 1) (ys ++ [v]) B Y else q (i + 1) ys B O)
  (hd:∀ ys σ H,q xs.length ys σ H→∀ D,H D=none→Q (.ref D) (upd H D (.lst ys))):nJ (Itl K a) g J te M H₀ Q:=
 lH xs.length q W hn z (fun i ys σ H h p=>⟨xs,xs[i],F i ys σ H p,by simp[h]⟩) (fun ys σ H p=>⟨xs,F _ ys σ H p,Ak _⟩) (fun i ys σ H v H' hi p y=>by
  obtain⟨e,y⟩:=y;subst e;exact U i v ys σ _ (y xs (F i ys σ _ p)) p) hd
theorem gA{K:Ag}{a:Ae}{xs:List V}{g:TG}{J:TT}{te:TE}{M:St}{H₀:Hp}{Q:VK}(q:Nat→List V→St→Hp→Prop)(W:q 0 [] M H₀)(hn:xs.length≤sizeLine)(z:∀ i ys σ H,q i ys σ H→ys.length≤i)
  (F:∀ i ys σ H,q i ys σ H→SqT K H a xs)
  (U:∀ i x ys σ H,xs[i]?=some x→q i ys σ H→g x σ H fun B H2=>J B H2 fun b O=>if b=true then te B O fun v Y=>q (i + 1) (ys ++ [v]) B Y else q (i + 1) ys B O)
  (hd:∀ ys σ H,q xs.length ys σ H→∀ D,H D=none→Q (.ref D) (upd H D (.lst ys))):nJ (Itt K a) g J te M H₀ Q:=
 lH xs.length q W hn z (fun i ys σ H h p=>⟨xs,xs[i],F i ys σ H p,by simp[h]⟩) (fun ys σ H p=>⟨xs,F _ ys σ H p,Ak _⟩) (fun i ys σ H v H' hi p y=>by
  obtain⟨e,y⟩:=y;subst e;exact U i v ys σ _ (y xs (F i ys σ _ p)) p) hd
def aY(p:Ae)(H H':Hp):Prop:=∀ b o,H b=some o→b≠p→H' b=some o
theorem aY.refl(p:Ae)(H:Hp):aY p H H:=fun _ _ e _=>e
theorem aY.trans{p:Ae}{H H1 H2:Hp}(a:aY p H H1)(b:aY p H1 H2):aY p H H2:=fun c o e h=>b c o (a c o e h) h
theorem aY.same{p:Ae}{H H1 H2:Hp}(a:aY p H H1)(b:bA H1 H2):aY p H H2:=fun c o e h=>b c o (a c o e h)
theorem bA.but{p:Ae}{H H1:Hp}(a:bA H H1):aY p H H1:=fun c o e _=>a c o e
theorem aY.upd{p:Ae}{o:HO}{H H1:Hp}(a:aY p H H1):aY p H (upd H1 p o):=fun c u e h=>by rw[bU h];exact a c u e h
theorem aS{p:Ae}{o:HO}{H:Hp}(h:H p=none):bA H (upd H p o):=fun c u e=>by rw[bU (bF e h)];exact e
section
variable{X:Cx}
end
section
variable{X:Cx}
inductive aC8(t:TS)(D:m9)(σ:St)(H:Hp):Prop
 | mk (R:St→Hp→Prop) (q0:t { D with nx:=R } σ H) (q1:∀ σ' H',R σ' H'→D.nx σ' H'):aC8 t D σ H
def aIl(t:TS):TS:=fun D σ H=>aC8 t D σ H
theorem g9{st:Bx}{t:TS}(h:PS X st t):PS X st (aIl t):=by
 constructor;intro bd s σ H D I q;obtain⟨R,q1,q2⟩:=q;refine thn (h bd s σ H _ I q1) fun f s' z=>?_;cases f with
 | next=>obtain⟨σ',H',I',r⟩:=z;exact⟨σ',H',I',q2 _ _ r⟩
 | brk=>exact z
 | cont=>exact z
 | ret u=>exact z
end
theorem lI:∀ ns:List Int,(ns.map V.int).all gF=true
 | []=>rfl
 | _ :: r=>lI r
theorem vR{K:Ag}{T U:String}{b:Bool}(hn:(AX T == AX U)=false)(hm:PySem.W.kitMeta U=true)(q:(PySem.fastBuiltinMro T).map (·.contains (AX U))=some b):Bw K (.type T) (.type U)=some b:=by
 unfold Bw;rw[Ia (by rw[hn];exact Aw)];show(if PySem.W.kitMeta U=true then PySem.W.subIn K (AX T) (AX U) else none)=_;rw[Ib hm];exact q
theorem nO{K:Ag}{T:String}:Bw K (.type T) (.type T)=some true:=by
 unfold Bw;rw[Ib (by rw[beq_self_eq_true])]
theorem gH{xs:List V}{i:Int}(z:0≤i)(h1:i < xs.length):∃ v,v∈xs∧atI xs i=some v:=by
 have q:i.toNat < xs.length:=by omega
 refine⟨xs[i.toNat],Bm q,?_⟩;have e:=c3 (xs:=xs) (j:=i.toNat) (v:=xs[i.toNat]) (Ai q);rw[Int.toNat_of_nonneg z]at e;exact e
def aC9:A6→Bool
 | .Starred ..=>false
 | _=>true
theorem aBM{e:A6}{es:List A6}{env:Env}(h:aC9 e=true):starEach (e :: es) env=(false,eval e env) :: starEach es env:=by
 cases e <;> first | rfl | cases h
theorem aH{X:Cx}{e:A6}{es:List A6}{te:TE}{t:TA}(ha:PE X e te)(z:PA X es t)(q:aC9 e=true:=by rfl):PA X (e :: es) (aAy te t):=fZ ha z (aBM q)
section
variable{X:Cx}
theorem Inv.turnedL{bd:List (Ae×Obj)}{σ:St}{H:Hp}{s:Ad}{h':A8}{t':Nat}{fp:List Ae}(I:Inv X bd σ H s)(k:∀ b o,b ∉ fp→s.heap.get? b=some o→h'.get? b=some o)(F:∀ b∈fp,kQ X bd H b):
  Inv X bd σ H { s with heap:=h',toks:=t' }:=by
 have B:∀ b u,H b=some u→b ∉ fp:=fun b u e z=>by rw[(F b z).1]at e;cases e
 refine I.step (g':=s.gens) (d':=s.drawn) (ch:=fp) (fun b J=>?_) (fun b o _ _ hc e _=>k b o hc e) (fun b o _ _ hc e _=>⟨o.slots,k b o hc e⟩) (fun _ _ _ _ n=>n)
  (fun b o hc e=>⟨o,k b o hc e⟩) (fun _ _ e=>e) (fun _ _ _ e=>e) (fun b ps e=>⟨#[],by rw[e];simp⟩) (fun m hm=>?_) (fun b u e=>?_) I.bare
 ·obtain⟨_,h1,_,h3,h4,h5⟩:=F b J;exact⟨h3,h1,h4,h5⟩
 ·obtain⟨o,es,ep,ho,r⟩:=hm;exact⟨o,es,ep,k _ o (fun z=>(F _ z).2.1 rfl) ho,r⟩
 ·refine(I.hok b u e).stay (fun c v hc q=>k c v ?_ q) (fun _ q=>q) fun _ _ q=>q;rcases hc with z | z
  ·rw[z];exact B b u e
  ·exact B c _ z
structure ZA(z TI TO i1 i2:Ae):Prop where
 a1:TI≠z
 a2:TO≠z
 a3:i1≠z
 a4:i2≠z
 a5:TI≠TO
 a6:TI≠i1
 a7:TI≠i2
 a8:TO≠i1
 a9:TO≠i2
 a10:i1≠i2
end
def jF(σ:List Str)(v:Str):List Str:=if v∈σ then σ else σ ++ [v]
def gJ(val:Nat→Str):Nat→List Str
 | 0=>[]
 | i + 1=>jF (gJ val i) (val i)
theorem nP(σ:List Str)(k:Str):(σ.any fun x=>x == k)=decide (k∈σ):=by
 rw[BB,C3,decide_eq_true_iff];constructor
 ·rintro⟨x,hx,e⟩;rw[beq_iff_eq]at e;exact e ▸ hx
 ·intro h;exact⟨k,h,beq_self_eq_true k⟩
theorem aBN(σ:List Str)(v k:Str):((jF σ v).any fun x=>x == k)=((σ.any fun x=>x == k) || decide (k=v)):=by
 rw[nP,nP];unfold jF;split
 ·next h=>
  rw[BB];simp only[decide_eq_true_eq,Bool.or_eq_true];constructor
  ·intro z;exact .inl z
  ·rintro(z | z)
   ·exact z
   ·exact z ▸ h
 ·rw[BB];simp
theorem j3(σ:List Str)(v:Str):(jF σ v).length=if (σ.any fun x=>x == v)=true then σ.length else σ.length + 1:=by
 rw[nP];unfold jF;by_cases h:v∈σ
 ·rw[Ib h,Ib (Ic h)]
 ·rw[Ia h,Ia (by simpa using h),An];rfl
theorem p0(val:Nat→Str):∀ i,(gJ val i).length≤i
 | 0=>Ak _
 | i + 1=>by
  have q:=p0 val i;show(jF _ _).length≤_;rw[j3];split <;> omega
section
variable{X:Cx}
theorem rD(val:Nat→Str):∀ i k,k∈gJ val i↔∃ j,j < i∧val j=k
 | 0,k=>by
  show k∈[]↔_;simp
 | i + 1,k=>by
  show k∈jF (gJ val i) (val i)↔_;have q:=rD val i;unfold jF;by_cases h:val i∈gJ val i
  ·rw[Ib h,q k];constructor
   ·rintro⟨j,hj,e⟩;exact⟨j,by omega,e⟩
   ·rintro⟨j,hj,e⟩;by_cases z:j=i
    ·subst z;obtain⟨j',hj',e'⟩:=(q _).mp h;exact⟨j',hj',e'.trans e⟩
    ·exact⟨j,by omega,e⟩
  ·rw[Ia h,A4,q k,Br];constructor
   ·rintro(⟨j,hj,e⟩ | e)
    ·exact⟨j,by omega,e⟩
    ·exact⟨i,by omega,e.symm⟩
   ·rintro⟨j,hj,e⟩;by_cases z:j=i
    ·subst z;exact .inr e.symm
    ·exact .inl ⟨j,by omega,e⟩
theorem uJ(val:Nat→Str):∀ i,(gJ val i).length=i↔((AV i).map val).Nodup
 | 0=>by simp[gJ]
 | i + 1=>by
  have B:=uJ val i;have J:=p0 val i;show(jF (gJ val i) (val i)).length=_↔_;rw[j3,nP,Et,Au,CQ];have hm:val i∈gJ val i↔val i∈(AV i).map val:=by
   rw[rD,A7];constructor
   ·rintro⟨j,hj,e⟩;exact⟨j,BG.mpr hj,e⟩
   ·rintro⟨j,hj,e⟩;exact⟨j,BG.mp hj,e⟩
  by_cases h:val i∈gJ val i
  ·rw[Ib (Ic h)];constructor
   ·intro z;omega
   ·rintro⟨_,_,z⟩;exact absurd rfl (z _ (hm.mp h) _ (by simp))
  ·rw[Ia (by simpa using h)];constructor
   ·intro z;refine⟨B.mp (by omega),by simp,fun a ha b F e=>?_⟩;have q:b=val i:=by simpa using F
    subst q;exact h (hm.mpr (e ▸ ha))
   ·rintro⟨z,_,_⟩;rw[B.mpr z]
theorem aBO(q:List Str):decide (((gJ (fun i=>q.getD i "") q.length).length:Int)=(q.length:Int))=decide q.Nodup:=by
 have e:(AV q.length).map (fun i=>q.getD i "")=q:=by
  apply B7;intro j;rw[AI];by_cases h:j < q.length
  ·rw[Dh h,Ai h];simp[h]
  ·rw[AK (by rw[CS];omega),AK (by omega)];rfl
 have:=uJ (fun i=>q.getD i "") q.length;rw[e]at this;rw[decide_eq_decide,← this];omega
inductive w8(K:Ag)(x:V)(y:V)(H:Hp)(Q:VK):Prop
 | mk (a:_) (b:_) (ys:_) (q0:x=.ref a) (q1:y=.ref b) (q2:SqT K H a []) (q3:SqT K H b ys) (q4:Q (.ref b) H):w8 K x y H Q
def aGB(K:Ag):R2:=fun x y H Q=>w8 K x y H Q
theorem aDa:OpR X (binaryOp .Add) (aGB X.K):=by
 intro bd s σ H x y v u Q I z B h;obtain⟨a,b,ys,rfl,rfl,ha,hb,q⟩:=h;cases z;cases B;obtain⟨its,r1,p1,_⟩:=I.tuple ha;obtain⟨its2,r2,p2,_⟩:=I.tuple hb;cases r1;obtain⟨⟨cls,dd,data,sl⟩,ho,hc,n,hd⟩:=id p1;obtain⟨⟨cls2,dd2,data2,sl2⟩,ho2,hc2,n2,hd2⟩:=id p2;simp only at hc hd hc2 hd2;subst hc hd hc2 hd2;exact E5 ⟨_,ho,rfl⟩ ⟨_,ho2,rfl⟩ EB EU DC Dv (Ds _ _)
   (tuple_addW0 a b _ _ n n2 dd dd2 sl sl2 (by simp)) ⟨ho,ho2,⟨.ref b,H,I,rfl,q⟩⟩
end
section
variable{prog:Ay}{w:AQ}{A:AL}{E:Ac→Ad→Prop}{s:Ad}
theorem aDb(l:List Ac):((AV l.length).filterMap fun(m:Nat)=>l.toArray[((l.length:Int) - 1 + (m:Int) * (-1)).toNat]?).toArray=l.reverse.toArray:=by
 congr 1;have e:∀ k,k≤l.length→((AV k).filterMap fun(m:Nat)=>l.toArray[((l.length:Int) - 1 + (m:Int) * (-1)).toNat]?)=l.reverse.take k:=by
  intro k
  induction k with
  | zero=>intro _;simp
  | succ k B=>
   intro J;rw[Et,List.filterMap_append,B (by omega),AN];congr 1;have F:((l.length:Int) - 1 + (k:Int) * (-1)).toNat=l.length - 1 - k:=by omega
   have h1:l.length - 1 - k < l.length:=by omega
   rw[CF,F];have z:l.toArray[l.length - 1 - k]?=some (l[l.length - 1 - k]):=by simp[h1]
   have q:l.reverse[k]?=some (l[l.length - 1 - k]):=by
    rw[List.getElem?_reverse (by omega),Ai h1]
   rw[z,q];rfl
 rw[e l.length (Ak _)];rw[← List.length_reverse,AZ]
end
section
variable{X:Cx}{e st:A6}{te ts:TE}{pos p2:Pos}
end
section
variable{X:Cx}
end
mutual
inductive RdV(m:Bool)(H:Hp):V→Al→Prop
 | non:RdV m H .non .none
 | bl (b:Bool):RdV m H (.bl b) (.bool b)
 | int (i:Int):RdV m H (.int i) (.int i)
 | str (z:Str) (h:z.length≤1000):RdV m H (.str z) (.str z)
 | lst {a:Ae} {xs:List V} {ds:List Al} (hm:m=true) (e:H a=some (.lst xs)) (hl:xs.length≤1000) (r:cM m H xs ds):RdV m H (.ref a) (.list ds)
 | tup {a:Ae} {xs:List V} {ds:List Al} (e:H a=some (.tup xs)) (hl:xs.length≤1000) (r:cM m H xs ds):RdV m H (.ref a) (.tuple ds)
 | dct {a:Ae} (hm:m=false) (e:H a=some (.dK [])):RdV m H (.ref a) (.dict [])
inductive cM(m:Bool)(H:Hp):List V→List Al→Prop
 | nil:cM m H [] []
 | cons {x:V} {d:Al} {xs:List V} {ds:List Al} (a:RdV m H x d) (r:cM m H xs ds):cM m H (x :: xs) (d :: ds)
end
mutual
theorem RdV.keep{m:Bool}{H H':Hp}(k:∀ a o,H a=some o→(∀ B r,o≠.dK (B :: r))→H' a=some o):∀{x:V}{d:Al},RdV m H x d→RdV m H' x d
 | _,_,.non=>.non
 | _,_,.bl b=>.bl b
 | _,_,.int i=>.int i
 | _,_,.str z h=>.str z h
 | _,_,.lst hm e q r=>.lst hm (k _ _ e (fun _ _ z=>nomatch z)) q (cM.keep k r)
 | _,_,.tup e q r=>.tup (k _ _ e (fun _ _ z=>nomatch z)) q (cM.keep k r)
 | _,_,.dct hm e=>.dct hm (k _ _ e (fun _ _ z=>nomatch z))
theorem cM.keep{m:Bool}{H H':Hp}(k:∀ a o,H a=some o→(∀ q r,o≠.dK (q :: r))→H' a=some o):∀{xs:List V}{ds:List Al},cM m H xs ds→cM m H' xs ds
 | _,_,.nil=>.nil
 | _,_,.cons a r=>.cons (RdV.keep k a) (cM.keep k r)
end
theorem RdV.same{m:Bool}{H H':Hp}{x:V}{d:Al}(h:RdV m H x d)(s:bA H H'):RdV m H' x d:=h.keep fun a o e _=>s a o e
theorem cM.same{m:Bool}{H H':Hp}{x:List V}{d:List Al}(h:cM m H x d)(s:bA H H'):cM m H' x d:=h.keep fun a o e _=>s a o e
theorem cM.len{m:Bool}{H:Hp}:∀{xs:List V}{ds:List Al},cM m H xs ds→xs.length=ds.length
 | _,_,.nil=>rfl
 | _,_,.cons _ r=>by rw[A0,A0,cM.len r]
theorem cM.app{m:Bool}{H:Hp}:∀{xs:List V}{ds:List Al}{ys:List V}{es:List Al},cM m H xs ds→cM m H ys es→cM m H (xs ++ ys) (ds ++ es)
 | _,_,_,_,.nil,h=>h
 | _,_,_,_,.cons a r,h=>.cons a (cM.app r h)
theorem cM.at{m:Bool}{H:Hp}:∀{xs:List V}{ds:List Al}{i:Nat}{x:V},cM m H xs ds→xs[i]?=some x→∃ d,ds[i]?=some d∧RdV m H x d
 | _,_,0,_,.cons a r,e=>by simp at e;subst e;exact⟨_,rfl,a⟩
 | _,_,i + 1,_,.cons a r,e=>by simp at e;simpa using cM.at r e
section
variable{X:Cx}
mutual
theorem RdV.reads{bd:List (Ae×Obj)}{σ:St}{m:Bool}{H:Hp}{s:Ad}(I:Inv X bd σ H s):∀{x:V}{d:Al}{v:Ac},RdV m H x d→cQ x v→∃ as,Reads s.heap v d as∧(m=true→d.hasDict=false)∧(m=false→¬ sysModules∈as)
 | _,_,_,.non,r=>by cases r;exact⟨[],.none,fun _=>rfl,fun _=>by simp⟩
 | _,_,_,.bl b,r=>by cases r;exact⟨[],.bool b,fun _=>rfl,fun _=>by simp⟩
 | _,_,_,.int i,r=>by obtain⟨t,rfl⟩:=r;exact⟨[],.int i t,fun _=>rfl,fun _=>by simp⟩
 | _,_,_,.str z _,r=>by obtain⟨t,rfl⟩:=r;exact⟨[],.str z t,fun _=>rfl,fun _=>by simp⟩
 | _,_,_,.lst hm e _ rs,r=>by
  cases r;obtain⟨_,its,n,rv,eo⟩:dB X.prog X.w H s.heap _ (.lst _):=I.hok _ _ e;obtain⟨as,ra,h1,h2⟩:=cM.reads I rs rv;exact⟨_,.list eo rfl rfl (by simpa using ra),fun _=>h1 hm,fun z=>by rw[hm]at z;cases z⟩
 | _,_,_,.tup e _ rs,r=>by
  cases r;obtain⟨_,its,rv,pt⟩:dB X.prog X.w H s.heap _ (.tup _):=I.hok _ _ e;obtain⟨as,ra,h1,h2⟩:=cM.reads I rs rv;obtain⟨o,eo,⟨hc,n,hd⟩,_⟩:=pt;exact⟨as,.tuple eo hc hd (by simpa using ra),h1,h2⟩
 | _,_,_,.dct hm e,r=>by
  cases r;obtain⟨_,hs,vs,kv,o,es,ep,eo,hx,hd,hk,hp,_⟩:dB X.prog X.w H s.heap _ (.dK []):=I.hok _ _ e;cases kv;have q:es.toList=[]:=by
   cases h:es.toList with
   | nil=>rfl
   | cons y r=>rw[h]at hp;cases hp
  refine⟨_,Reads.dict (kvs:=[]) (as:=[]) (bs:=[]) eo hx.1 hd (by rw[q];exact .nil) (by rw[q];exact .nil),(fun z=>by rw[hm]at z;cases z),fun _=>?_⟩;intro z;simp at z;rw[z]at hs;simp at hs
theorem cM.reads{bd:List (Ae×Obj)}{σ:St}{m:Bool}{H:Hp}{s:Ad}(I:Inv X bd σ H s):∀{xs:List V}{ds:List Al}{vs:List Ac},cM m H xs ds→cE xs vs→∃ as,ReadsAll s.heap vs ds as∧(m=true→Dt ds=false)∧(m=false→¬ sysModules∈as)
 | _,_,_,.nil,.nil=>⟨[],.nil,fun _=>rfl,fun _=>by simp⟩
 | _,_,_,.cons a r,.cons B q=>by
  obtain⟨as,h1,h2,h3⟩:=RdV.reads I a B;obtain⟨bs,g1,g2,g3⟩:=cM.reads I r q;refine⟨as ++ bs,.cons h1 g1,fun z=>?_,fun z w=>?_⟩
  ·unfold Dt;rw[h2 z,g2 z];rfl
  ·rcases A4.mp w with w | w
   ·exact h3 z w
   ·exact g3 z w
end
inductive mE(xs:List V)(H:Hp)(Q:VK):Prop
 | mk (a:Ae) (m:Bool) (d:Al) (q0:xs=[.ref a]) (q1:RdV m H (.ref a) d) (q2:d.showable=true) (q3:d.depth≤20) (q4:d.shown.length≤sizeLine) (q5:Q (.str d.shown) H):mE xs H Q
def w9:List V→Hp→VK→Prop:=fun xs H Q=>mE xs H Q
theorem aBP{k:Nat}(B:cF k X.A):gE X (.builtin "repr") w9:=by
 intro bd s σ H xs J Q I r h;obtain⟨a,m,d,rfl,hx,hs,hd,hz,q⟩:=h;obtain⟨u,rfl,ru⟩:=fH r;cases ru;obtain⟨as,hrd,h1,h2⟩:=RdV.reads I hx rfl;refine repr_of_reads' hrd hs (fun z=>?_) B.gd (by have:=B.un;omega) (fun b o e=>e) (fun h' u tk F=>⟨.str d.shown,H,I.kept (t':=tk) F,⟨u,rfl⟩,q⟩) hz;cases m with
 | true=>rw[h1 rfl]at z;cases z
 | false=>exact h2 rfl
end
section
variable{prog:Ay}{w:AQ}{A:AL}{E:Ac→Ad→Prop}{s:Ad}
theorem nQ{t B:Ae}{items:Array Ac}{F M:Ac}{lo hi:Option Int}{Q:Ac→Ad→Prop}(ht:DR s.heap t items)(J:s.heap.IsSliceOf B F M .none)(pl:DY F lo)(O:DY M hi)
  (hw:HT.sIx items.size 0 lo=0∧HT.sIx items.size items.size hi=items.size) (h:Q (.ref t) s):wpAny (model prog w) A (getItem (.ref t) (.ref B)) Q E s:=by
 obtain⟨os,hos,hcs,hds⟩:=id J;have z:s.TypeIs (.ref B) "slice":=⟨os,hos,hcs⟩
 unfold getItem
 try with_reducible refine Bi ?_
 first | refine Aa (Af ?_) | skip
 refine Aa (wpAny_sequenceKey ht.typeIs (by decide) ?_);refine Aa (BX (name:=A5 "__getitem__") ht.typeIs Bt
  (BP Bt ht.typeIs entry_tuple_getitem ?_ (args_tuple_getitem _ _)))
 show wpAny _ _ (Builtin.Tuple.tupleItemsOf (.ref t) >>= _) _ _ s;refine Aa (tupleItemsOf_ ht ?_);refine Aa (BR z ?_);rw[Ib (by decide)];refine Aa (HT.sliceApplied_gen J pl O ?_);have q:(((HT.sIx items.size 0 lo:Nat):Int) == 0 && (1:Int) == 1 && (HT.sIx items.size items.size hi - HT.sIx items.size 0 lo) == items.size)=true:=by
  rw[hw.1,hw.2];simp
 show wpAny _ _ (if (((HT.sIx items.size 0 lo:Nat):Int) == 0 && (1:Int) == 1 && (HT.sIx items.size items.size hi - HT.sIx items.size 0 lo) == items.size)=true then _ else _) _ _ s;rw[Ib q];obtain⟨⟨cls,dd,data,sl'⟩,ho,hc,n,hd⟩:=id ht;simp only at hc hd;subst hc hd
 wp_walk
 exact⟨_,rfl,Af h⟩
end
section
variable{X:Cx}
inductive aDc(K:Ag)(x:V)(lo:Option Int)(hi:Option Int)(H:Hp)(Q:VK):Prop
 | mk (a:_) (xs:_) (q0:x=.ref a) (q1:H a=some (.tup xs)) (q2:∀ r H',bA H H'→H' r=some (.tup (fG xs lo hi))→Q (.ref r) H'):aDc K x lo hi H Q
def aIm(K:Ag):V→Option Int→Option Int→Hp→VK→Prop:=fun x lo hi H Q=>aDc K x lo hi H Q
theorem lJ:SlR X (aIm X.K):=by
 intro bd s σ H x v U O lo hi W Q I B F pl J h;obtain⟨a,xs,rfl,hx,q⟩:=h;by_cases hw:HT.sIx xs.length 0 lo=0∧HT.sIx xs.length xs.length hi=xs.length
 ·cases B;obtain⟨its,r,ht,hz⟩:=I.tuple (aX hx);have z:its.toArray.size=xs.length:=by rw[Ao];exact r.length.symm
  refine⟨"tuple",_,Bt.lookup,ht.typeIs,nQ ht F pl J (by rw[z];exact hw) ⟨.ref a,H,I,rfl,q a H (bA.refl H) ?_⟩⟩;have e:fG xs lo hi=xs:=by
   unfold fG;rw[hw.1,hw.2,Cv,EO,AZ]
  rw[e];exact hx
 ·exact aGq bd s σ H _ v U O lo hi W Q I B F pl J ⟨a,xs,rfl,aX hx,hw,fun p M=>q p _ (aS M) aJ⟩
inductive aAL(x:V)(y:V)(H:Hp)(Q:VK):Prop
 | mk (a:_) (b:_) (xs:_) (ys:_) (q0:x=.ref a) (q1:y=.ref b) (q2:H a=some (.tup xs)) (q3:H b=some (.tup ys)) (q4:xs.length + ys.length≤1000000) (q5:∀ r H',bA H H'→H' r=some (.tup (xs ++ ys))→Q (.ref r) H'):aAL x y H Q
def aHB:R2:=fun x y H Q=>aAL x y H Q
theorem aAM:OpR X (binaryOp .Add) aHB:=by
 intro bd s σ H x y v u Q I z F h;obtain⟨a,b,xs,ys,rfl,rfl,ha,hb,hz,q⟩:=h;by_cases B:xs=[]
 ·subst B;exact aDa bd s σ H _ _ v u Q I z F ⟨a,b,ys,rfl,rfl,aX ha,aX hb,q b H (bA.refl H) hb⟩
 ·refine aAB bd s σ H _ _ v u Q I z F ⟨a,b,xs,ys,rfl,rfl,aX ha,aX hb,B,aM hz,fun h1=>?_,fun h1 p J=>q p _ (aS J) aJ⟩;subst h1;exact q a H (bA.refl H) (by rw[Cm];exact ha)
theorem lA{α:Type}(xs:List V)(n:Nat):fG xs none (some (n:Int))=xs.take n:=by
 unfold fG;rw[HT.sIx_none,HT.sIx_nat,Cv,EO];by_cases h:n≤xs.length
 ·rw[Nat.min_eq_left h]
 ·rw[Nat.min_eq_right (by omega),AZ,Be (by omega)]
theorem rE{α:Type}(xs:List V)(n:Nat):fG xs (some (n:Int)) none=xs.drop n:=by
 unfold fG;rw[HT.sIx_none,HT.sIx_nat];by_cases h:n≤xs.length
 ·rw[Nat.min_eq_left h];exact Be (by rw[C2];exact Ak _)
 ·rw[Nat.min_eq_right (by omega),CT (Ak _),CT (by omega),List.take_nil]
mutual
theorem RdV.flip{H:Hp}:∀{x:V}{d:Al},RdV false H x d→d.hasDict=false→∀ m,RdV m H x d
 | _,_,.non,_,_=>.non
 | _,_,.bl b,_,_=>.bl b
 | _,_,.int i,_,_=>.int i
 | _,_,.str z h,_,_=>.str z h
 | _,_,.lst hm _ _ _,_,_=>nomatch hm
 | _,_,.tup e q r,h,m=>.tup e q (cM.flip r (by unfold PyData.hasDict at h;exact h) m)
 | _,_,.dct _ _,h,_=>by unfold PyData.hasDict at h;cases h
theorem cM.flip{H:Hp}:∀{xs:List V}{ds:List Al},cM false H xs ds→Dt ds=false→∀ m,cM m H xs ds
 | _,_,.nil,_,_=>.nil
 | _,_,.cons a r,h,m=>by
  unfold Dt at h;rw[Bool.or_eq_false_iff]at h;exact .cons (RdV.flip a h.1 m) (cM.flip r h.2 m)
end
mutual
theorem RdV.keepF{H H':Hp}(k:∀ a o,H a=some o→(∀ q r,o≠.dK (q :: r))→(∀ xs,o≠.lst xs)→H' a=some o):∀{x:V}{d:Al},RdV false H x d→RdV false H' x d
 | _,_,.non=>.non
 | _,_,.bl b=>.bl b
 | _,_,.int i=>.int i
 | _,_,.str z h=>.str z h
 | _,_,.lst hm _ _ _=>nomatch hm
 | _,_,.tup e B r=>.tup (k _ _ e (fun _ _ z=>nomatch z) (fun _ z=>nomatch z)) B (cM.keepF k r)
 | _,_,.dct hm e=>.dct hm (k _ _ e (fun _ _ z=>nomatch z) (fun _ z=>nomatch z))
theorem cM.keepF{H H':Hp}(k:∀ a o,H a=some o→(∀ q r,o≠.dK (q :: r))→(∀ xs,o≠.lst xs)→H' a=some o):∀{xs:List V}{ds:List Al},cM false H xs ds→cM false H' xs ds
 | _,_,.nil=>.nil
 | _,_,.cons a r=>.cons (RdV.keepF k a) (cM.keepF k r)
end
end
open PySem PySem.Spec PyProof.Rows PySem.W
def h9{α:Type}(n:Nat)(P:α→Prop):Fe α→Prop
 | .ret a=>P a
 | .ask i j k=>i < n∧j < n∧∀ b,h9 n P (k b)
theorem h9.bind{α β:Type}{n:Nat}{P:α→Prop}{Q:β→Prop}{f:α→Fe β}:∀{t:Fe α},h9 n P t→(∀ a,P a→h9 n Q (f a))→h9 n Q (t.bind f)
 | .ret a,h,g=>by rw[KasT.bind.eq_1];exact g a h
 | .ask i j k,h,g=>by
  rw[KasT.bind.eq_2];exact⟨h.1,h.2.1,fun b=>h9.bind (h.2.2 b) g⟩
def Pm(n:Nat)(p:Array Nat):Prop:=p.Perm (AV n).toArray
theorem Pm.lt{n:Nat}{p:Array Nat}(h:Pm n p)(hn:0 < n)(i:Nat):p.getD i 0 < n:=by
 by_cases hi:i < p.size
 ·have hm:p[i]∈(AV n).toArray:=h.mem_iff.mp (Array.getElem_mem hi);have:p[i] < n:=by simpa using hm
  rw[Bd,BJ hi];exact this
 ·rw[Bd,DJ (by omega)];exact hn
theorem Pm.rev{n:Nat}{p:Array Nat}(h:Pm n p)(i j:Nat):Pm n (E3 p i j):=(mirror_perm p i j _).trans h
theorem Pm.bub{n:Nat}{p:Array Nat}(h:Pm n p)(i j:Nat):Pm n (bubble p i j):=(bubble_perm p i j).trans h
section
variable{n:Nat}(hn:0 < n)
include hn
theorem rF{p:Array Nat}(h:Pm n p):∀(f x:Nat),h9 n (fun _=>True) (kas_asc p f x)
 | 0,x=>by rw[kas_asc.eq_1];trivial
 | f + 1,x=>by
  rw[kas_asc.eq_2];refine⟨h.lt hn _,h.lt hn _,fun b=>?_⟩;cases b
  ·exact rF h f (x + 1)
  ·exact trivial
theorem lM:∀(f:Nat) {p:Array Nat} (x y:Nat),Pm n p→h9 n (fun r=>Pm n r.1) (kas_desc f p x y)
 | 0,p,x,y,h=>by rw[kas_desc.eq_1];exact h
 | f + 1,p,x,y,h=>by
  rw[kas_desc.eq_2];refine⟨h.lt hn _,h.lt hn _,fun b=>?_⟩;cases b
  ·refine⟨h.lt hn _,h.lt hn _,fun b=>?_⟩;cases b
   ·exact lM f _ _ h
   ·exact h
  ·show h9 n _ (if y > 0 then _ else _);split
   ·exact lM f _ _ (h.rev _ _)
   ·exact lM f _ _ h
theorem mU{p:Array Nat}(h:Pm n p)(k:Nat):∀(f x y:Nat),h9 n (fun _=>True) (kas_place p k f x y)
 | 0,x,y=>by rw[kas_place.eq_1];trivial
 | f + 1,x,y=>by
  rw[kas_place.eq_2];split
  ·trivial
  ·refine⟨h.lt hn _,h.lt hn _,fun b=>?_⟩;cases b
   ·exact mU h k f _ _
   ·exact mU h k f _ _
theorem xA:∀(f:Nat) {p:Array Nat} (x:Nat),Pm n p→h9 n (Pm n) (kas_bin f p x)
 | 0,p,x,h=>by rw[kas_bin.eq_1];exact h
 | f + 1,p,x,h=>by
  rw[kas_bin.eq_2];exact(mU hn h x _ _ _).bind fun l _=>xA f _ (h.bub _ _)
theorem rG{p:Array Nat}(h:Pm n p)(a b:Nat):h9 n (fun r=>Pm n r.2) (EZ a b p):=by
 unfold EZ;exact(rF hn (h.rev _ _) _ _).bind fun m _=>h.rev _ _
theorem mG{p:Array Nat}(h:Pm n p)(a b:Nat):h9 n (fun r=>Pm n r.2) (E4 a b p):=by
 unfold E4;refine(lM hn _ _ _ h).bind fun r q=>?_;split
 ·exact rG hn (q.rev _ _) _ _
 ·exact rG hn q _ _
theorem zN{p:Array Nat}(h:Pm n p)(a:Nat):h9 n (fun r=>Pm n r.2) (E2 a p):=by
 unfold E2;refine(rF hn h _ _).bind fun m _=>?_;split
 ·exact h
 ·split
  ·refine⟨h.lt hn _,h.lt hn _,fun b=>?_⟩;cases b
   ·exact mG hn (h.rev _ _) _ _
   ·exact h
  ·exact mG hn h _ _
theorem oQ:h9 n (Pm n) (Cg n):=by
 unfold Cg;refine(zN hn (Array.Perm.refl _) n).bind fun r q=>?_;split
 ·exact xA hn _ _ q
 ·exact q
end
section
variable{prog:Ay}{w:AQ}{A:AL}{E:Ac→Ad→Prop}{s:Ad}
theorem oR{x:Ae}{its:Array Ac}{Q:Array Ac→Ad→Prop}(q:DR s.heap x its)(h:Q its s):wpAny (model prog w) A (CG (AO x)) Q E s:=by
 obtain⟨⟨cls,dd,data,sl⟩,ho,hc,n,hd⟩:=id q;simp only at hc hd;subst hc hd;unfold CG
 wp_walk
 exact h
end
section
variable{prog:Ay}{w:AQ}{A:AL}{E:Ac→Ad→Prop}{s:Ad}
inductive aDd(h:A8)(v:Ac):Prop
 | mk (t:_) (a:_) (b:_) (c:_) (u1:_) (u2:_) (u3:_) (q0:v=.ref t) (q1:DR h t #[.int a u1,.int b u2,.str c u3]):aDd h v
def aHC(h:A8)(v:Ac):Prop:=aDd h v
theorem rH{α β:Type}{f:α→Sem β}{R:α→β→Prop}:∀(l:List α) {Q:List β→Ad→Prop},(∀ v∈l,∃ r,R v r∧∀ M:β→Ad→Prop,M r s→wpAny (model prog w) A (f v) M E s)→(∀ rs:List β,rs.length=l.length→(∀ r∈rs,∃ v∈l,R v r)→Q rs s)→wpAny (model prog w) A (List.mapM f l) Q E s
 | [],Q,_,q=>by
  rw[List.mapM_nil];exact Af (q [] rfl fun r F=>by simp at F)
 | a :: l,Q,h,q=>by
  rw[List.mapM_cons];obtain⟨r,F,hw⟩:=h a AH;refine Aa (hw _ (Aa (rH l (fun v B=>h v (AF _ B)) fun rs O J=>Af (q (r :: rs) (by rw[A0,A0,O]) fun z hz=>?_))));rcases Aq.mp hz with rfl | hz
  ·exact⟨a,AH,F⟩
  ·obtain⟨v,B,hR⟩:=J z hz;exact⟨v,AF _ B,hR⟩
theorem aHD{ks:List Ac}{Q:Dm→Ad→Prop}(U:∀ v∈ks,aHC s.heap v)(h:∀ b,Q (tuples' b) s):wpAny (model prog w) A (keyKind' ks.toArray) Q E s:=by
 rw[keyKind'_eq,Array.mapM_eq_mapM_toList];refine Aa ?_;rw[← bind_pure_comp];refine Aa (rH (R:=fun _ r=>∃ a u,r=some (Bs a u)) ks (fun v J=>?_) fun rs hl z=>Af ?_)
 ·obtain⟨t,a,b,c,u1,u2,u3,rfl,ht⟩:=U v J;refine⟨some (.int a u1),⟨a,u1,rfl⟩,fun W q=>?_⟩;rw[kas_first_eq];refine Aa (BR ht.typeIs ?_);refine AA (by decide) ?_;refine Aa (oR ht ?_);exact Af q
 ·have B:(rs.toArray.all fun x=>x.isSome)=true:=by
   rw[List.all_toArray,AU];intro r Z;obtain⟨v,_,a,u,rfl⟩:=z r Z;rfl
  refine Bv (by rw[B];rfl) ?_;refine Aa (CH ?_);rw[oneTypeOnly'_eq,Array.mapM_eq_mapM_toList]
  iterate 2 refine Aa ?_
  rw[← bind_pure_comp];refine Aa (rH (R:=fun _ r=>r=AX "int") _ (fun v J=>?_) fun ts O Y=>Af ?_)
  ·have F:some v∈rs:=by simpa using J
   obtain⟨_,_,a,u,e⟩:=z _ F;cases e;exact⟨_,rfl,fun W q=>BR (typeIs_int s a u) q⟩
  ·cases M:ts.toArray[0]? with
   | none=>exact Af (Af (h _))
   | some t=>exact Af (Af (h _))
end
section
variable{prog:Ay}{w:AQ}{A:AL}{E:Ac→Ad→Prop}{s:Ad}
theorem aHE{a kS:Ae}{st:EC}{q:Array Ac}{e e1:Nat}{P:PySem.Fin→Ad→Prop}(ha:s.heap.get? a=some (seqObj "list" #[] e1))(M:s.heap.get? kS=some (seqObj "list" q e))(B:a≠kS)(F:q.size≤sizeLine)(hz:(arrOf st).size≤sizeLine)(J:failedOf st=none)
  (h:P (Fin.done (Fi BS)) { s with heap:=(s.heap.update kS (Bf fun _=>#[])).update a (Bf fun _=>(arrOf st).map (·.2)) }):wpAny (model prog w) A (ksk_tail a false e1 (.ref kS) st) P E s:=by
 unfold ksk_tail;refine Aa (Ej M rfl ?_ F (Bc _));refine Aa (wpAny_letGo ?_);have z:(s.heap.update kS (Bf fun _=>#[])).get? a=some (seqObj "list" #[] e1):=by
  rw[BI _ _ _ _ B];exact ha
 refine Aa (seqEpoch_at z rfl ?_);refine Aa (Ej z rfl ?_ (Bc _) (by show((arrOf st).map (·.2)).size≤_;rw[Array.size_map];omega))
 rw[J];refine AA (by simp) ?_;exact Af h
end
section
variable{X:Cx}{bd:List (Ae×Obj)}{σ:St}
inductive aDe(H:Hp)(v:Ac):Prop
 | mk (t:_) (a:_) (b:_) (c:_) (q0:v=.ref t) (q1:H t=some (.tup [.int a,.int b,.str c])):aDe H v
def aIU(H:Hp)(v:Ac):Prop:=aDe H v
end
section
variable{X:Cx}{bd:List (Ae×Obj)}{σ:St}{H:Hp}{s:Ad}
end
section
variable{X:Cx}{e:A6}{ta:TA}
end
open PySem.SeqAt
open PySem.AutoSeq1 (wpAny_loadPart')
open PySem.MeetsSeq PySem.MeetsSeq2 PySem.MeetsSeq3
def ltK(a1 b1:Int)(c1:Str)(a2 b2:Int)(c2:Str):Bool:=if a1=a2 then(if b1=b2 then(if c1=c2 then false else decide (c1.cps.toList < c2.cps.toList)) else decide (b1 < b2)) else decide (a1 < a2)
theorem aBQ(l b:Ae)(n n2:Nat)(dd ab:Option Ae)(sl aa:Array (Option Ac))(a1 F:Int)(q:Str)(a2 J:Int)(B:Str)(Y W M U O Z:Tok):
  Meets (Builtin.«tuple.__lt__» ⟨[.ref l,.ref b],[]⟩)
   (fun _ R s=>s.heap.get? l=some { cls:=.type "tuple",dict:=dd,data:=.seq #[.int a1 Y,.int F W,.str q M] n,slots:=sl }∧s.heap.get? b=some { cls:=.type "tuple",dict:=ab,data:=.seq #[.int a2 U,.int J O,.str B Z] n2,slots:=aa }∧
    R (.ok (.ret (.bool (ltK a1 F q a2 J B)))) s):=
 .of_wp fun prog w A R s h=>by
  obtain⟨hp,g,d,tk,os⟩:=s;obtain⟨hl,hb,h⟩:=h;have f2:=AutoSeq1.sub_tuple_tuple
  wp_walk using D2 hl,D2 hb
  show wpAny (model prog w) A.in1 (eqBool (Bs a1 Y) (Bs a2 U)) _ _ _;obtain⟨e,he,hiff⟩:=HT.eqAt_int A.in1 ⟨hp,g,d,tk,os⟩ a1 Y a2 U;refine he prog w _ _ ?_;unfold ltK at h;cases e with
  | false=>
   rw[Ia (fun z=>Aw (hiff.mpr z))]at h;refine Bv (by decide) ?_;refine Aa (CH ?_);refine Aa ?_;show wpAny _ _ (compareOp .Lt (Bs a1 Y) (Bs a2 U)) _ _ _;refine lt_int ?_
   wp_walk
   exact⟨_,rfl,h⟩
  | true=>
   rw[Ib (hiff.mp rfl)]at h;refine AA (by decide) (Af ?_)
   wp_walk
   show wpAny (model prog w) A.in1 (eqBool (Bs F W) (Bs J O)) _ _ _;obtain⟨e,he,hiff⟩:=HT.eqAt_int A.in1 ⟨hp,g,d,tk,os⟩ F W J O;refine he prog w _ _ ?_;cases e with
   | false=>
    rw[Ia (fun z=>Aw (hiff.mpr z))]at h;refine Bv (by decide) ?_;refine Aa (CH ?_);refine Aa ?_;show wpAny _ _ (compareOp .Lt (Bs F W) (Bs J O)) _ _ _;refine lt_int ?_
    wp_walk
    exact⟨_,rfl,h⟩
   | true=>
    rw[Ib (hiff.mp rfl)]at h;refine AA (by decide) (Af ?_)
    wp_walk
    show wpAny (model prog w) A.in1 (eqBool (Bp q M) (Bp B Z)) _ _ _;refine DP q M B Z prog w _ _ ?_;cases hc:(q == B)with
    | false=>
     rw[Ia (fun z=>by rw[z,beq_self_eq_true]at hc;cases hc)]at h;refine Bv (by decide) ?_;refine Aa (CH ?_);refine Aa ?_;show wpAny _ _ (compareOp .Lt (Bp q M) (Bp B Z)) _ _ _;refine lt_str ?_
     wp_walk
     exact⟨_,rfl,h⟩
    | true=>
     rw[Ib (eq_of_beq hc)]at h;refine AA (by decide) (Af ?_)
     wp_walk
     exact⟨_,rfl,h⟩
theorem xB{X:Cx}{bd:List (Ae×Obj)}{σ:St}{H:Hp}{s:Ad}{t:Ae}{a b:Int}{c:Str}(I:Inv X bd σ H s)(ht:H t=some (.tup [.int a,.int b,.str c])):∃ B F z,DR s.heap t #[.int a B,.int b F,.str c z]:=by
 obtain⟨_,its,q,hT⟩:dB X.prog X.w H s.heap t (.tup [.int a,.int b,.str c]):=I.hok _ _ ht;cases q with
 | cons O q=>
  cases q with
  | cons J q=>
   cases q with
   | cons M q=>
    cases q;obtain⟨B,e1⟩:=O;obtain⟨F,e2⟩:=J;obtain⟨z,e3⟩:=M;subst e1 e2 e3;exact⟨B,F,z,hT⟩
inductive rK(x:V)(y:V)(H:Hp)(Q:VK):Prop
 | mk (p:_) (q:_) (a1:_) (b1:_) (c1:_) (a2:_) (b2:_) (c2:_) (q0:x=.ref p) (q1:y=.ref q) (q2:H p=some (.tup [.int a1,.int b1,.str c1])) (q3:H q=some (.tup [.int a2,.int b2,.str c2])) (q4:Q (.bl (ltK a1 b1 c1 a2 b2 c2)) H):rK x y H Q
def aDf:V→V→Hp→VK→Prop:=fun x y H Q=>rK x y H Q
theorem aGC{X:Cx}(B:X.A.units < cLine):OpR X (compareOp .Lt) aDf:=by
 intro bd s σ H x y v u Q I z J h;obtain⟨p,q,a1,b1,c1,a2,b2,c2,rfl,rfl,hp,hq,k⟩:=h;cases z;cases J;obtain⟨t1,t2,t3,hl⟩:=xB I hp;obtain⟨u1,u2,u3,hb⟩:=xB I hq;obtain⟨⟨cls,dd,data,sl⟩,ho,hc,n,hd⟩:=id hl;obtain⟨⟨cls2,dd2,data2,sl2⟩,ho2,hc2,n2,hd2⟩:=id hb;simp only at hc hd hc2 hd2;subst hc hd hc2 hd2;exact richCompare_meets_room (op:=.Lt) ⟨_,ho,rfl⟩ ⟨_,ho2,rfl⟩ PySem.F.slot_tuple_lt PySem.F.entry_tuple_lt (PySem.F.args_tuple_lt_2 _ _) (aBQ p q n n2 dd dd2 sl sl2 a1 b1 c1 a2 b2 c2 t1 t2 t3 u1 u2 u3)
  ⟨ho,ho2,⟨(fun x=>nomatch x),⟨.bl _,H,I,rfl,k⟩⟩⟩ B
inductive aFI(X:Cx)(k:Nat)(ps:List Str)(f:Ae)(sp:Sp):Prop
 | mk (fd:AD) (q0:cH X.prog X.w X.K X.mg X.base CX0 k f fd ps sp) (q1:Aj X.K (.ref f)=true) (q2:eV X.K fd ps []):aFI X k ps f sp
def FnV(X:Cx)(k:Nat)(ps:List Str)(f:Ae)(sp:Sp):Prop:=aFI X k ps f sp
def aGD(X:Cx)(k:Nat)(ps:List Str)(tv:TE)(t:TA):TE:=fun σ H Q=>tv σ H fun v H1=>∃(f:Ae) (sp:Sp),v=.ref f∧FnV X k ps f sp∧t σ H1 fun vs H2=>sp vs H2 Q E0
theorem aDg{X:Cx}{k:Nat}{ps:List Str}{x:Str}{p pos:Pos}{e:A6}{es:List A6}{tv:TE}{t:TA}(Z:PE X (.Name x p) tv)(hr:cF k X.A)(ha:PA X (e :: es) t)
  (O:starEach (e :: es) X.env=(false,eval e X.env) :: starEach es X.env:=by rfl) (z:(backTo pos (starEach es X.env)).any (·.1)=false:=by rfl):
  PE X (.Call (.Name x p) (e :: es) [] pos) (aGD X k ps tv t):=by
 constructor;intro bd s σ H Q I h;refine CV (thn (Z bd s σ H _ I h) fun u s1 ⟨y,H1,J,Y,f,sp,U,⟨fd,F,M,hb⟩,h2⟩=>?_);subst U;cases Y;refine PySem.W.callWith_K (h₀:=X.base) J.ok.mod.kin M (thn (ha pos bd s1 σ H1 _ J h2) fun us s2 ⟨vs,H2,B,r,q⟩=>⟨B.kIn,?_⟩) O z;exact aCG F hr hb .nil kJ B r (by rw[Cm];exact q)
def aHF(de:List (Key×V))(ty:TE):TE:=fun σ H Q=>ty σ H fun y H2=>∃ k v,y=kV k∧f9 de k=some v∧Q v H2
theorem vS{X:Cx}{i:A6}{x:Str}{ty:TE}{a:Ae}{vs:List (Key×Ac)}{de:List (Key×V)}{p pos:Pos}(hd:∀ h:A8,X.K.In h→h.DictOf (cJ X.prog X.w) a vs)(rel:KV de vs)(Z:Gl X x)(hm:X.mg x=some (.ref a))(hi:PE X i ty)(M:aGt i)(q:(x == ("__debug__":Str))=false:=by decide):
  PE X (.Subscript (.Name x p) i pos) (aHF de ty):=by
 constructor;intro bd s σ H Q I h;have U:PE X (.Name x p) (tC (.ref a)):=dL Z hm rfl q;refine aAE PySem.F.slot_dict_getitem.lookup M (thn (U bd s σ H (fun v H1=>v=.ref a∧ty σ H1 fun y H2=>∃ k v,y=kV k∧f9 de k=some v∧Q v H2) I ⟨rfl,h⟩) fun u s1 ⟨x,H1,I1,J,ex,O⟩=>thn (hi bd s1 σ H1 _ I1 O) fun iv s2 ⟨y,H2,B,W,k,v,Y,l,q2⟩=>?_);subst ex Y;obtain rfl:u=AO a:=J;have z:=hd s2.heap B.kIn;refine⟨?_,?_⟩
 ·obtain⟨o,es,ep,e,hx,_⟩:=z;exact⟨o,e,hx.1⟩
 ·obtain⟨w',hw,rw'⟩:=m7.some_of (v:=v) (o:=valueAt vs k) (by rw[← l];exact rel.val k);exact wpAny_getItem_of (pL W) z.mapOf hw ⟨v,H2,B.tok _,rw',q2⟩
theorem aBR{X:Cx}{a:Ae}{vs:List (Key×Ac)}{de:List (Key×V)}(hd:∀ h:A8,X.K.In h→h.DictOf (cJ X.prog X.w) a vs)(rel:KV de vs)(hz:(a == sysModules)=false):OpR X (compareOp .NotIn) (fun x y H Q=>∃ k,x=kV k∧y=.ref a∧Q (.bl (!(f9 de k).isSome)) H):=by
 intro bd s σ H x y v u Q I z B h;obtain⟨k,rfl,rfl,q⟩:=h;cases B;refine wpAny_notIn_of (pL z) hz (hd _ I.kIn).mapOf ?_;rw[← (rel.val k).isSome_eq];exact⟨.bl _,H,I.tok _,rfl,q⟩
section
variable{X:Cx}{bd:List (Ae×Obj)}{σ:St}{H:Hp}{s:Ad}{A:AL}{E:Ac→Ad→Prop}{Q:Ac→Ad→Prop}{b:Bool}
end
theorem aDh{X:Cx}{K:Ag}{o e:A6}{es:List A6}{to:TE}{t:TA}{name:Str}{dt dj:Pos}{T id:String}{r:V→List V→Hp→VK→Prop}(U:PlainAttrs T)(slot:Slot T name id)(J:typeOf (.builtin id)=pure (.type "method_descriptor"))(hm:MtR X id r)(O:PE X o to)(ha:PA X (e :: es) t)(W:X.K=K:=by rfl)
  (z:attributeBase o name X.env (eval o X.env)=eval o X.env:=by rfl)
  (F:((backTo dj (starEach (e :: es) X.env)).all (fun x=>!x.1) && (backToKw dj (keywordEach [] X.env)).all (fun x=>x.1.isSome)
   && decide ((e :: es).length + ([]:List Dx).length + (if ([]:List Dx).isEmpty then 0 else 1) < 30))=true:=by rfl)
  (B:(dt.endLine == dj.line)=true:=by rfl) (M:starEach (e :: es) X.env=(false,eval e X.env) :: starEach es X.env:=by rfl) (q:(backTo dj (starEach es X.env)).any (·.1)=false:=by rfl):
  PE X (.Call (.Attribute o name dt) (e :: es) [] dj) (tBM K T r to t):=by
 subst W;exact f8 U slot J hm O ha z F B M q
theorem rL:∀{q:List Str}{z:List Ac},cE (q.map V.str) z→E6 z q
 | [],_,r=>by rw[Dk]at r;cases r;exact .nil
 | s :: q,_,r=>by
  rw[Bg]at r;cases r with
  | cons F B=>
   obtain⟨t,e⟩:=F;subst e;exact .cons s t (rL B)
theorem j5:∀{q:List Ac}{ns:List Str},E6 q ns→cE (ns.map V.str) q
 | _,_,.nil=>.nil
 | _,_,.cons i t r=>.cons ⟨t,rfl⟩ (j5 r)
inductive jG(K:Ag)(xs:List V)(H:Hp)(Q:VK):Prop
 | mk (p:Ae) (ns:List Str) (q0:xs=[.ref p]) (q1:SqL K H p (ns.map V.str)) (q2:ns.length < 64) (q3:∀(l:Ae) (ms:List Str),H l=none→ms.Perm ns→sortedS ms=true→Q (.ref l) (upd H l (.lst (ms.map V.str)))):jG K xs H Q
def rM(K:Ag):List V→Hp→VK→Prop:=fun xs H Q=>jG K xs H Q
theorem vT{X:Cx}:gE X (.builtin "sorted") (rM X.K):=by
 intro bd s σ H xs Y Q I r h;obtain⟨p,ns,rfl,hx,h64,q⟩:=h;obtain⟨u,rfl,ru⟩:=fH r;cases ru;obtain⟨its,rv,pl,_⟩:=I.list hx;have hi:E6 its ns:=rL rv;have z:=rv.length;rw[Ab]at z;refine sorted_strs pl.isList hi (by omega) fun out B W F M=>?_;have J:∀ b o,s.heap.get? b=some o→(sortedAll s.heap its out).get? b=some o:=fun b o e=>sortedAll_old e;obtain⟨e,he⟩:=sortedAll_at s.heap its out;have hn:H (s.heap.objs.size + 1)=none:=I.hok.fresh (Cz _);have O:=F.length_eq;have U:cE (B.map V.str) out.toList:=j5 W;refine⟨.ref (s.heap.objs.size + 1),_,I.laid (t':=s.toks) (o:=.lst (B.map V.str)) J (Cz _) ⟨aM (by rw[Ab];omega),out.toList,e,U,by rw[he] <;> rfl⟩,rfl,q _ B hn F M⟩
def rN(w:AQ)(es:Array (Int×Ac))(t:Ci):Prop:=t.led=!w.params.followText "set-order"∧(es.size=0∨t.plain=false)
def i6(prog:Ay)(w:AQ)(h:A8)(a:Ae)(S:Str→Bool)(n:Nat):Prop:=
 ∃ o es ep t,h.get? a=some o∧o.ExactSet∧o.data=.set es ep t∧ElemsOf (Bn prog w) es.toList∧(∀ k,S k=true↔∃ e∈es.toList,(Bn prog w).is k e.2=true)
  ∧es.size < scanBound∧t.fits es.size=true∧es.size=n∧rN w es t
theorem i6.at{prog:Ay}{w:AQ}{h h':A8}{a:Ae}{S:Str→Bool}{n:Nat}(x:i6 prog w h a S n)(e:∀ o,h.get? a=some o→h'.get? a=some o):i6 prog w h' a S n:=by
 obtain⟨o,es,ep,t,h1,r⟩:=x;exact⟨o,es,ep,t,e o h1,r⟩
theorem i6.congr{prog:Ay}{w:AQ}{h:A8}{a:Ae}{S S':Str→Bool}{n q:Nat}(x:i6 prog w h a S n)(e:∀ k,S k=S' k)(B:n=q):i6 prog w h a S' q:=by
 have z:S=S':=funext e;subst z B;exact x
theorem tU(t:Ci)(n:Nat):(t.orStandIn n).led=t.led:=by
 unfold SetTable.orStandIn;split <;> rfl
theorem zO(t:Ci)(es:Array (Int×Ac))(h:Int)(x:Ac):(layNew t es h x).2.1.led=t.led:=by
 unfold layNew;split
 ·exact tU _ _
 ·rfl
theorem tV(t:Ci)(es:Array (Int×Ac))(n:Nat)(z:t.plain=false):(relayAll t es n).2.1.led=t.led∧(relayAll t es n).2.1.plain=false:=by
 unfold relayAll;split
 ·next t' ord e=>
  dsimp only;split
  ·dsimp only;unfold SetTable.relaid SetTable.laid at e;cases q:SetTable.layClean (SetTable.sizeAbove n - 1) (es.map (·.1))with
   | none=>rw[q]at e;cases e
   | some B=>
    rw[q]at e;cases e;exact⟨rfl,z⟩
  ·exact⟨rfl,rfl⟩
 ·exact⟨rfl,rfl⟩
theorem i6.stored{prog:Ay}{w:AQ}{h:A8}{a:Ae}{o:Obj}{es:Array (Int×Ac)}{ep:Nat}{t:Ci}(O:h.get? a=some o)(F:o.ExactSet)(hd:o.data=.set es ep t)
  {q:Array (Int×Ac)} {t':Ci} {S':Str→Bool} (B:ElemsOf (Bn prog w) q.toList) (z:∀ k,S' k=true↔∃ e∈q.toList,(Bn prog w).is k e.2=true) (J:q.size < scanBound) (M:t'.fits q.size=true) (U:rN w q t'):
  (h.update a (E8 q t')).get? a=some { o with data:=.set q (ep + 1) t' }∧i6 prog w (h.update a (E8 q t')) a S' q.size:=by
 obtain⟨hg,_⟩:=SetOf_store (knd:=Bn prog w) (S':=S') O F hd B z J M;exact⟨hg,_,q,ep + 1,t',hg,F,rfl,B,z,J,M,rfl,U⟩
theorem aHG{prog:Ay}{w:AQ}{A:AL}{E:Ac→Ad→Prop}{s:Ad}{a:Ae}{S:Str→Bool}{n:Nat}{k:Str}{tk:Tok}{Q:Bool→Ad→Prop}(hS:i6 prog w s.heap a S n)(Y:n + 1 < scanBound)
  (h:∀ h',CU a s.heap h'→i6 prog w h' a (fun k'=>S k' || decide (k'=k)) (if S k then n else n + 1)→Q (!S k) { s with heap:=h' }):
  wpAny (model prog w) A (setAddHashed a (.str k tk) ((Bn prog w).hash k)) Q E s:=by
 have W:=strKind_is prog w k tk;obtain⟨o,es,ep,t,ho,hex,hd,hel,hmem,hb,hf,hn,hTab⟩:=hS;have ax:es.size + 1 < scanBound:=by rw[hn];exact Y
 unfold setAddHashed setAddHashedIn;refine Bi (Aa (CB ho hd hf ?_));dsimp only;rw[byScan_of (x:=Bp k tk) rfl hb hel,Ib rfl];unfold setAddByScan;refine Aa (Aa (CH (Aa (wpAny_setScan_of W ho hd hf hel ?_))));cases hr:List.findIdx? (fun e=>(Bn prog w).is k e.2) es.toList with
 | some j=>
  dsimp only;obtain⟨hj,hpj,_⟩:=List.findIdx?_eq_some_iff_getElem.mp hr;have U:S k=true:=(hmem k).mpr ⟨es.toList[j],Bm hj,hpj⟩;refine Af (Af ?_);have q:=h s.heap (Heap.SameBut.refl a s.heap) ⟨o,es,ep,t,ho,hex,hd,hel,fun z=>by
   rw[Bool.or_eq_true,decide_eq_true_eq,← hmem z];exact⟨fun hz=>hz.elim id (fun e=>e ▸ U),.inl⟩,hb,hf,by rw[U];exact hn,hTab⟩
  rw[U]at q;exact q
 | none=>
  dsimp only;have U:S k=false:=by
   cases hz:S k with
   | false=>rfl
   | true=>
    obtain⟨e,he,hp⟩:=(hmem k).mp hz;have z:=List.findIdx?_eq_none_iff.mp hr e he;rw[hp]at z;exact Bool.noConfusion z
  have B:=layNew_perm t es ((Bn prog w).hash k) (Bp k tk);have F:=layNew_fits t es ((Bn prog w).hash k) (Bp k tk);have M:=zO t es ((Bn prog w).hash k) (Bp k tk);generalize hL:layNew t es ((Bn prog w).hash k) (Bp k tk)=L at B F M ⊢;obtain⟨es1,t1,wasD,gave⟩:=L;dsimp only at B F M ⊢;rw[Array.toList_push]at B;have ab:ElemsOf (Bn prog w) es1.toList:=(hel.push W rfl).perm B;have O:=mem_push_iff W hmem B;have ac:es1.size=n + 1:=by rw[← A1,B.length_eq,An,A1,hn];rfl
  have ah:es1.size < scanBound:=by rw[ac];exact Y
  have gw:∀(b:Bool) {s₁:Ad} {Q':Unit→Ad→Prop},Q' () s₁→wpAny (model prog w) A (match b with | true=>rule "set.scan.the-table-gave-way" | false=>pure ()) Q' E s₁:=fun b s₁ Q' hq=>by cases b <;> first | exact Af hq | exact CH hq
  have Z:∀ h',CU a s.heap h'→i6 prog w h' a (fun k'=>S k' || decide (k'=k)) es1.size→Q true { s with heap:=h' }:=fun h' x1 x2=>by
   have q:=h h' x1;rw[U]at q;rw[ac]at x2;exact q x2
  have ae:∀ J:Ci,J.led=t.led→J.plain=false→J.fits es1.size=true→
    wpAny (model prog w) A (do
     storeSet a es1 J
     if (!wasD && J.tooFull)=true then do
       (match (relayAll J es1 (Cp es1.size)).2.2 with | true=>rule "set.scan.the-table-gave-way" | false=>pure ())
       storeSet a (relayAll J es1 (Cp es1.size)).1 (relayAll J es1 (Cp es1.size)).2.1
       pure (some true)
      else pure (some true)) (fun r s'=>wpAny (model prog w) A (match r with | some added=>pure added | none=>setAddHashedIn a (.str k tk) ((Bn prog w).hash k) 99999) Q E s') E s:=by
   intro J l2 p2 f2;refine Aa (wpAny_storeSet_of ho hd ?_ (DK ah));obtain⟨ho1,hS1⟩:=i6.stored (prog:=prog) (w:=w) ho hex hd ab O ah f2 ⟨by rw[l2];exact hTab.1,.inr p2⟩;have ak:=BC s.heap a (E8 es1 J);split
   ·have hp:=relayAll_perm J es1 (Cp es1.size);have ag:=relayAll_fits J es1 (Cp es1.size);obtain⟨rl,rp⟩:=tV J es1 (Cp es1.size) p2;generalize relayAll J es1 (Cp es1.size)=R at hp ag rl rp ⊢;obtain⟨es2,t3,g2⟩:=R;dsimp only at hp ag rl rp ⊢;have ai:ElemsOf (Bn prog w) es2.toList:=ab.perm hp;have af:∀ z,(S z || decide (z=k))=true↔∃ e∈es2.toList,(Bn prog w).is z e.2=true:=fun z=>(O z).trans ⟨fun⟨e,he,q⟩=>⟨e,hp.mem_iff.mpr he,q⟩,fun⟨e,he,q⟩=>⟨e,hp.mem_iff.mp he,q⟩⟩;have ad:es2.size=es1.size:=by rw[← A1,hp.length_eq,A1]
    have am:es2.size < scanBound:=by rw[ad];exact ah
    refine Aa (gw _ (Aa (wpAny_storeSet_of ho1 rfl ?_ (DK am))));obtain⟨_,hS2⟩:=i6.stored (prog:=prog) (w:=w) ho1 hex rfl ai af am ag ⟨by rw[rl,l2];exact hTab.1,.inr rp⟩;rw[ad]at hS2;exact Af (Af (Z _ (ak.trans (BC _ a _)) hS2))
   ·exact Af (Af (Z _ ak hS1))
  refine Aa (gw _ ?_);split
  ·next hpl=>
   rw[hashByValue_scannable 8 (x:=Bp k tk) rfl];refine Aa (Af ?_);exact ae { t1 with plain:=false } M rfl (SetTable.fits_plain_off F)
  ·next hpl=>
   refine Aa (Af ?_);exact ae t1 M (by simpa using hpl) F
theorem zP{h:A8}{a:Ae}{items:Array Ac}(x:h.IsTuple a items)(o:Obj):(h.push o).IsTuple a items:=by
 obtain⟨u,hu,r⟩:=x;exact⟨u,Ah o hu,r⟩
theorem aDi{prog:Ay}{w:AQ}{A:AL}{R:Result→Ad→Prop}{I:Ae}{fp U:List Ae}{G:Array Ff→Array Ff→Prop}{n:Nat}{P:Nat→Ac→Prop}{St:Nat→Ad→Prop}
  (W:WalksS prog w A.in1 I fp U G n P St) (S:Ae) (Y:¬ S∈fp) (val:Nat→Str) (ad:∀(i:Nat) (v:Ac),P i v→∃ t,v=Bp (val i) t) (J:n + 1 < scanBound):
  ∀(k i:Nat) (s:Ad),n - i=k→i≤n→St i s→i6 prog w s.heap S (fun M=>(gJ val i).any fun x=>x == M) (gJ val i).length→
   (∀ s':Ad,Moved (S :: U) G s s'→i6 prog w s'.heap S (fun M=>(gJ val n).any fun x=>x == M) (gJ val n).length→R (Except.ok (Fi BS)) s')→
   codeAny (model prog w) A (Code.builtin "set.update.loop" { pos:=[AO S,AO I] }) R s:=by
 have Z:¬ S∈U:=fun h=>Y (W.sub S h);have q:∀ b,b∈U→b∈S :: U:=fun b J=>AF S J;intro k
 induction k with
 | zero=>
  intro i s hk hi B hS hR;have aj:i=n:=by omega
  subst aj;refine BZ PyProof.Rows.F.entry_set_update_loop ?_;rw[BM Cj];refine Aa (W.done s _ _ B fun s' hm=>?_);refine Af (hR s' (Moved.mono hm q) ?_);exact hS.at fun o ho=>hm.heap S o Z ho
 | succ k ih=>
  intro i s hk hi B hS hR;have ab:i < n:=by omega
  refine BZ PyProof.Rows.F.entry_set_update_loop ?_;rw[BM Cj];refine Aa (W.item i s _ _ ab B fun v s' hP ac hm=>?_);obtain⟨t,rfl⟩:=ad i v hP;have ak:i6 prog w s'.heap S (fun M=>(gJ val i).any fun x=>x == M) (gJ val i).length:=by
   exact hS.at fun o ho=>hm.heap S o Z ho
  have z:(gJ val i).length + 1 < scanBound:=by
   have:=p0 val i;omega
  refine Aa (Bi (Bi (Aa ((Bn prog w).pyHash (strKind_is prog w (val i) t) ?_))));refine aHG ak z fun h' aa ai=>?_;refine Af ⟨Di Cj _,?_⟩;refine ih (i + 1) _ (by omega) ab (W.frame (i + 1) s' h' _ ac (Cz s'.toks) fun b J o e=>?_) ?_ fun ag ae O=>?_
  ·rw[aa.right b fun h=>Y (h ▸ J)];exact e
  ·refine ai.congr (fun M=>?_) ?_
   ·show _=((jF _ _).any _)
    rw[aBN]
   ·show _=(jF _ _).length;rw[j3]
  ·refine hR ag (Moved.trans W.gtrans (Moved.then_heap (Moved.mono hm q) (Cz s'.toks) fun b o J e=>?_) ae) O;rw[aa.right b fun h=>J (h ▸ AH)];exact e
theorem aFJ{prog:Ay}{w:AQ}{A:AL}{E:Ac→Ad→Prop}{s:Ad}(a:Ac){Q₁:Ac→Ad→Prop}
  (h:Q₁ (.ref s.heap.objs.size) { s with heap:=s.heap.push { cls:=.type "set",dict:=none,data:=.set #[] 0 (.fresh 0 0 (!w.params.followText "set-order")) } }):
  codeAny (model prog w) A (.call (.builtin "set.__new__") ⟨[.type "set",a],[]⟩) (wants Q₁ E) s:=by
 apply EK;show wpAny (model prog w) A.in1 (checkBuiltinCall "set.__new__" ⟨[.type "set",a],[]⟩ >>= fun _=>again (.builtin "set.__new__" ⟨[.type "set",a],[]⟩)) _ _ s;apply Aa;refine Co (F.newCall_set_1 a) (Af ⟨Di F.plain_set_new _,?_⟩);apply BZ F.entry_set_new;rw[BM F.plain_set_new];unfold Builtin.«set.__new__» Builtin.Frozenset.newClass;have q:=sub_set_self;obtain⟨hp,gs,dr,tk,os⟩:=s;dsimp only
 wp_walk
 apply CI;apply Af;dsimp only;simp only[newObj];apply Aa;apply wpAny_alloc;exact Af (Af h)
theorem xC{prog:Ay}{w:AQ}{A:AL}{E:Ac→Ad→Prop}{s:Ad}{l:Ae}{items:Array Ac}{val:Nat→Str}{Q:Ac→Ad→Prop}(hh:A.handled=none)(hl:s.heap.IsList l items)
  (hi:∀(i:Nat) (v:Ac),items[i]?=some v→∃ t,v=Bp (val i) t) (hb:items.size + 1 < scanBound)
  (h:∀(h':A8) (tk:Nat),i6 prog w h' s.heap.objs.size (fun k'=>(gJ val items.size).any fun x=>x == k') (gJ val items.size).length→
   (∀(b:Nat) (o:Obj),b < s.heap.objs.size→s.heap.get? b=some o→h'.get? b=some o)→Q (AO s.heap.objs.size) { s with heap:=h',toks:=tk }):
  wpAny (model prog w) A (call (AX "set") [AO l]) Q E s:=by
 obtain⟨c,tl,hmro⟩:=BQ.mro;have M:=BQ.made;have W:=BQ.sub;have ad:=F.typeCall_set_1 (AO l);refine Df (EK (Af ⟨Code.quiet_builtin _ (by decide),BZ F.entry_type_call ?_⟩));rw[Around.under_plain (weight_type_call_type "set" [AO l] []) rfl];unfold Builtin.«type.__call__»;dsimp only
 iterate 2 refine AA (by first | rfl | decide) ?_
 refine Aa (Co ad ?_);refine Aa (Co hmro ?_);refine AA (by first | rfl | decide) ?_;refine Aa (Co M ?_);refine Aa (Af ?_);refine Aa (Bi (Df (CJ (aFJ (Q₁:=fun obj s₁=>∃ led,led=(!w.params.followText "set-order")∧obj=AO s.heap.objs.size∧s₁={ s with heap:=s.heap.push { cls:=AX "set",data:=BW #[] 0 (Bb 0 0 led) } }) (E:=E) (AO l) ⟨_,rfl,rfl,rfl⟩) fun r s₁ z=>?_)));cases r with
 | error e=>exact z
 | ok fl=>
  cases fl with
  | next=>exact z.elim
  | brk=>exact z.elim
  | cont=>exact z.elim
  | ret v=>
   obtain⟨led,hled,rfl,rfl⟩:=z;have hS:=Ax s.heap (o:={ cls:=AX "set",data:=BW #[] 0 (Bb 0 0 led) }) rfl;have hT:Du { s with heap:=s.heap.push { cls:=AX "set",data:=BW #[] 0 (Bb 0 0 led) } } (AO s.heap.objs.size) "set":=⟨_,hS,rfl⟩
   have ag:=BQ.init.lookup;have aj:=BQ.init.bind (AO s.heap.objs.size);obtain⟨ol,hol,hcl,nl,hdl⟩:=hl;have B:=Ah { cls:=AX "set",data:=BW #[] 0 (Bb 0 0 led) } hol;have Y:Heap.IsList (s.heap.push { cls:=AX "set",data:=BW #[] 0 (Bb 0 0 led) }) l items:=⟨ol,B,hcl,nl,hdl⟩
   refine Aa (BE hT W ?_);refine AA (by first | rfl | decide) ?_;refine Aa (Bi ?_);unfold callSpecial?;refine Aa (Dp hT ag ?_);dsimp only;refine Bi ?_;refine Aa (Co aj ?_);refine Aa (Df (CJ (codeAny_call_builtin BQ.init.plain F.entry_set_init (R:=fun r s'=>match r with | .ok (.ret v)=>v=.none∧Q (.ref s.heap.objs.size) s' | _=>False) (check_set_init_1 hT ?_)) fun r s₁ z=>?_))
   ·unfold Builtin.«set.__init__»;refine Aa (Bv (by first | rfl | decide) (Af ?_));refine Aa (Aa (Aa (BR hT (AA (by first | rfl | decide) (Af ?_)))));refine Af ?_;refine Aa ?_;unfold checkCount
    iterate 2 refine AA (by first | rfl | decide) ?_
    refine AA (by first | rfl | decide) (Af ?_);refine Aa (Af ?_);refine Aa ?_;unfold setUsed setState;refine Aa (Aa (wpAny_load' hS ?_));dsimp only;refine AA (by first | rfl | decide) (Af ?_);refine Af ?_;refine AA (by first | rfl | decide) ?_;show wpAny _ _ (do let av ← B5 "set.__init__" s.heap.objs.size (AO l);ret BS) _ _ _;refine Aa ?_;unfold B5;refine Aa ?_;have O:Du { s with heap:=s.heap.push { cls:=AX "set",data:=BW #[] 0 (Bb 0 0 led) } } (AO l) "list":=⟨ol,B,hcl⟩
    unfold Builtin.Frozenset.isAnySet;refine Aa (BE O F.sub_list_set ?_);refine BE O F.sub_list_frozenset ?_;refine AA (by first | rfl | decide) ?_;refine Aa (BR O ?_);refine AA (by first | rfl | decide) ?_;refine Aa (Ew Y ?_);refine Aa (Ec ?_);have aa:l < s.heap.objs.size:=Az hol;have J:(s.heap.push { cls:=AX "set",data:=BW #[] 0 (Bb 0 0 led) }).objs.size=s.heap.objs.size + 1:=BH _ _;have Z:l≠(s.heap.push { cls:=AX "set",data:=BW #[] 0 (Bb 0 0 led) }).objs.size:=by rw[J];exact AJ (Bh aa)
    have ai:¬ s.heap.objs.size∈[(s.heap.push { cls:=AX "set",data:=BW #[] 0 (Bb 0 0 led) }).objs.size,l]:=by
     rw[J];simp only[Aq,AB,or_false,not_or];exact⟨AJ (BD _),B9 aa⟩
    have af:A.in1.in1.in1.handled=none:=hh;refine aDi (EG (Walks.list af _ l Z items)) s.heap.objs.size ai val hi hb (items.size - 0) 0 _ rfl (Bc _) ⟨⟨_,Ax _ rfl,rfl,rfl⟩,Heap.IsList.push Y _⟩ ?_ ?_
    ·have U:=Ah { cls:=AX "list_iterator",data:=Es #[AO l,Bs 0 0] } hS;exact⟨_,#[],0,_,U,⟨rfl,rfl,rfl⟩,rfl,(fun e he=>by simp at he),(fun k=>by show(false=true)↔_;simp),(by decide),rfl,rfl,hled,.inl rfl⟩
    ·rintro⟨h',g',d',tk',os'⟩ hm hS';refine Af (Af ⟨rfl,?_⟩);have e1:=hm.gens;have e2:=hm.drawn;have e3:=hm.os;dsimp only at e1 e2 e3;subst e1 e2 e3;refine h h' tk' hS' fun b o hb e=>hm.heap b o ?_ ?_
     ·simp only[Aq,AB,or_false,not_or];rw[J];exact⟨AJ hb,AJ (Bh hb)⟩
     ·exact Ah _ (Ah _ e)
   ·cases r with
    | error e=>exact z.elim
    | ok fl=>
     cases fl with
     | next=>exact z.elim
     | brk=>exact z.elim
     | cont=>exact z.elim
     | ret v=>
      obtain⟨rfl,q⟩:=z;refine Af ?_;refine AA (by first | rfl | decide) ?_;exact Af q
theorem xD{prog:Ay}{w:AQ}{A:AL}{E:Ac→Ad→Prop}{s:Ad}{l:Ae}{items:Array Ac}{val:Nat→Str}{Q:Ac→Ad→Prop}(hh:A.handled=none)(hl:s.heap.IsTuple l items)
  (hi:∀(i:Nat) (v:Ac),items[i]?=some v→∃ t,v=Bp (val i) t) (hb:items.size + 1 < scanBound)
  (h:∀(h':A8) (tk:Nat),i6 prog w h' s.heap.objs.size (fun k'=>(gJ val items.size).any fun x=>x == k') (gJ val items.size).length→
   (∀(b:Nat) (o:Obj),b < s.heap.objs.size→s.heap.get? b=some o→h'.get? b=some o)→Q (AO s.heap.objs.size) { s with heap:=h',toks:=tk }):
  wpAny (model prog w) A (call (AX "set") [AO l]) Q E s:=by
 obtain⟨c,tl,hmro⟩:=BQ.mro;have M:=BQ.made;have W:=BQ.sub;have ad:=F.typeCall_set_1 (AO l);refine Df (EK (Af ⟨Code.quiet_builtin _ (by decide),BZ F.entry_type_call ?_⟩));rw[Around.under_plain (weight_type_call_type "set" [AO l] []) rfl];unfold Builtin.«type.__call__»;dsimp only
 iterate 2 refine AA (by first | rfl | decide) ?_
 refine Aa (Co ad ?_);refine Aa (Co hmro ?_);refine AA (by first | rfl | decide) ?_;refine Aa (Co M ?_);refine Aa (Af ?_);refine Aa (Bi (Df (CJ (aFJ (Q₁:=fun obj s₁=>∃ led,led=(!w.params.followText "set-order")∧obj=AO s.heap.objs.size∧s₁={ s with heap:=s.heap.push { cls:=AX "set",data:=BW #[] 0 (Bb 0 0 led) } }) (E:=E) (AO l) ⟨_,rfl,rfl,rfl⟩) fun r s₁ z=>?_)));cases r with
 | error e=>exact z
 | ok fl=>
  cases fl with
  | next=>exact z.elim
  | brk=>exact z.elim
  | cont=>exact z.elim
  | ret v=>
   obtain⟨led,hled,rfl,rfl⟩:=z;have hS:=Ax s.heap (o:={ cls:=AX "set",data:=BW #[] 0 (Bb 0 0 led) }) rfl;have hT:Du { s with heap:=s.heap.push { cls:=AX "set",data:=BW #[] 0 (Bb 0 0 led) } } (AO s.heap.objs.size) "set":=⟨_,hS,rfl⟩
   have ag:=BQ.init.lookup;have aj:=BQ.init.bind (AO s.heap.objs.size);obtain⟨ol,hol,hcl,nl,hdl⟩:=hl;have B:=Ah { cls:=AX "set",data:=BW #[] 0 (Bb 0 0 led) } hol;have Y:Heap.IsTuple (s.heap.push { cls:=AX "set",data:=BW #[] 0 (Bb 0 0 led) }) l items:=⟨ol,B,hcl,nl,hdl⟩
   refine Aa (BE hT W ?_);refine AA (by first | rfl | decide) ?_;refine Aa (Bi ?_);unfold callSpecial?;refine Aa (Dp hT ag ?_);dsimp only;refine Bi ?_;refine Aa (Co aj ?_);refine Aa (Df (CJ (codeAny_call_builtin BQ.init.plain F.entry_set_init (R:=fun r s'=>match r with | .ok (.ret v)=>v=.none∧Q (.ref s.heap.objs.size) s' | _=>False) (check_set_init_1 hT ?_)) fun r s₁ z=>?_))
   ·unfold Builtin.«set.__init__»;refine Aa (Bv (by first | rfl | decide) (Af ?_));refine Aa (Aa (Aa (BR hT (AA (by first | rfl | decide) (Af ?_)))));refine Af ?_;refine Aa ?_;unfold checkCount
    iterate 2 refine AA (by first | rfl | decide) ?_
    refine AA (by first | rfl | decide) (Af ?_);refine Aa (Af ?_);refine Aa ?_;unfold setUsed setState;refine Aa (Aa (wpAny_load' hS ?_));dsimp only;refine AA (by first | rfl | decide) (Af ?_);refine Af ?_;refine AA (by first | rfl | decide) ?_;show wpAny _ _ (do let av ← B5 "set.__init__" s.heap.objs.size (AO l);ret BS) _ _ _;refine Aa ?_;unfold B5;refine Aa ?_;have O:Du { s with heap:=s.heap.push { cls:=AX "set",data:=BW #[] 0 (Bb 0 0 led) } } (AO l) "tuple":=⟨ol,B,hcl⟩
    unfold Builtin.Frozenset.isAnySet;refine Aa (BE O F.sub_tuple_set ?_);refine BE O F.sub_tuple_frozenset ?_;refine AA (by first | rfl | decide) ?_;refine Aa (BR O ?_);refine AA (by first | rfl | decide) ?_;refine Aa (wpAny_pyIter_tuple Y ?_);refine Aa (Ec ?_);have aa:l < s.heap.objs.size:=Az hol;have J:(s.heap.push { cls:=AX "set",data:=BW #[] 0 (Bb 0 0 led) }).objs.size=s.heap.objs.size + 1:=BH _ _;have Z:l≠(s.heap.push { cls:=AX "set",data:=BW #[] 0 (Bb 0 0 led) }).objs.size:=by rw[J];exact AJ (Bh aa)
    have ai:¬ s.heap.objs.size∈[(s.heap.push { cls:=AX "set",data:=BW #[] 0 (Bb 0 0 led) }).objs.size,l]:=by
     rw[J];simp only[Aq,AB,or_false,not_or];exact⟨AJ (BD _),B9 aa⟩
    have af:A.in1.in1.in1.handled=none:=hh;refine aDi (EG (Walks.tuple af _ l Z items)) s.heap.objs.size ai val hi hb (items.size - 0) 0 _ rfl (Bc _) ⟨⟨_,Ax _ rfl,rfl,rfl⟩,zP Y _⟩ ?_ ?_
    ·have U:=Ah { cls:=AX "tuple_iterator",data:=Es #[AO l,Bs 0 0] } hS;exact⟨_,#[],0,_,U,⟨rfl,rfl,rfl⟩,rfl,(fun e he=>by simp at he),(fun k=>by show(false=true)↔_;simp),(by decide),rfl,rfl,hled,.inl rfl⟩
    ·rintro⟨h',g',d',tk',os'⟩ hm hS';refine Af (Af ⟨rfl,?_⟩);have e1:=hm.gens;have e2:=hm.drawn;have e3:=hm.os;dsimp only at e1 e2 e3;subst e1 e2 e3;refine h h' tk' hS' fun b o hb e=>hm.heap b o ?_ ?_
     ·simp only[Aq,AB,or_false,not_or];rw[J];exact⟨AJ hb,AJ (Bh hb)⟩
     ·exact Ah _ (Ah _ e)
   ·cases r with
    | error e=>exact z.elim
    | ok fl=>
     cases fl with
     | next=>exact z.elim
     | brk=>exact z.elim
     | cont=>exact z.elim
     | ret v=>
      obtain⟨rfl,q⟩:=z;refine Af ?_;refine AA (by first | rfl | decide) ?_;exact Af q
theorem lB{α:Type}:∀(l:List α) (j:Nat) (y:α),l[j]?=some y→(y :: l.eraseIdx j).Perm l
 | [],j,y,h=>by simp at h
 | x :: r,0,y,h=>by
  simp at h;subst h;simp
 | x :: r,j + 1,y,h=>by
  simp at h;rw[List.eraseIdx_cons_succ];exact(List.Perm.swap x y _).trans ((lB r j y h).cons x)
theorem aEN{M:Fd}{A:AL}{Q:Nat→Ad→Prop}{E:Ac→Ad→Prop}{s:Ad}{src:Source}{n:Nat}(hn:n≠0)(h:∀ i d,i < n→Q i { s with drawn:=d }):wpAny M A (choose src n) Q E s:=
 fun _ _ _=>⟨hn,h _ _ (EE _ (Nat.pos_of_ne_zero hn))⟩
theorem zQ{α:Type}{M:Fd}{A:AL}{E:Ac→Ad→Prop}:∀(n:Nat) (xs:List α) (s:Ad) (Q:List α→Ad→Prop),xs.length=n→(∀ ys d,ys.Perm xs→Q ys { s with drawn:=d })→wpAny M A (drawOrder n xs) Q E s:=by
 intro n
 induction n with
 | zero=>
  intro xs s Q q h;obtain rfl:xs=[]:=Ce q;exact Af (h [] s.drawn (DI _))
 | succ n z=>
  intro xs s Q q h;cases xs with
  | nil=>simp at q
  | cons x r=>
   unfold drawOrder;refine Aa (aEN (by simp) fun i d hi=>?_);obtain⟨y,hy⟩:∃ y,(x :: r)[i]?=some y:=⟨_,Ai hi⟩
   rw[hy];dsimp only;refine Aa (z _ _ _ (by rw[Do hi];simp at q ⊢;exact q) fun ys F B=>Af (h _ _ ((B.cons y).trans (lB _ i y hy))))
theorem c9:Slot "set_iterator" "__next__" "set_iterator.__next__":=
 .of (owner:="set_iterator") (n:="__next__") (by rw[typeLookup_type,builtinLookup_eq_fast];kernel_rfl) (by decide) (by decide) (by decide) (by first | exact .inl (by decide) | exact .inr (by decide)) (by rw[EM];kernel_rfl)
theorem nR:Slot "set_iterator" "__iter__" "set_iterator.__iter__":=
 .of (owner:="set_iterator") (n:="__iter__") (by rw[typeLookup_type,builtinLookup_eq_fast];kernel_rfl) (by decide) (by decide) (by decide) (by first | exact .inl (by decide) | exact .inr (by decide)) (by rw[EM];kernel_rfl)
theorem gU:entryFor table "set_iterator.__next__"=some Builtin.«set_iterator.__next__»:=entryFor_of_tree (by kernel_rfl)
theorem tW:entryFor table "set_iterator.__iter__"=some Builtin.«dict_keyiterator.__iter__»:=entryFor_alias (id':="dict_keyiterator.__iter__") (by kernel_rfl) rfl (by decide) (by kernel_rfl)
theorem pX:entryFor table "set.__iter__"=some Builtin.«frozenset.__iter__»:=entryFor_alias (id':="frozenset.__iter__") (by kernel_rfl) rfl (by decide) (by kernel_rfl)
theorem xE:Manifest.owners.lookup (String.ofList ("set_iterator".toList.reverse).reverse)=some Manifest.sig_set_iterator:=by kernel_rfl
theorem iA(a:Ac):argsOk "set_iterator.__next__" ⟨[a],[]⟩:=by
 unfold argsOk;rw[signature?_of (id:="set_iterator.__next__") (n:="__next__".toList.reverse) (o:="set_iterator".toList.reverse) (by kernel_rfl) xE]
 kernel_rfl
theorem vU(a:Ac):argsOk "set_iterator.__iter__" ⟨[a],[]⟩:=by
 unfold argsOk;rw[signature?_of (id:="set_iterator.__iter__") (n:="__iter__".toList.reverse) (o:="set_iterator".toList.reverse) (by kernel_rfl) xE]
 kernel_rfl
def iT(first:Ac)(i:Nat)(S:Ae)(n ep:Nat):Obj:={ cls:=.type "set_iterator",dict:=none,data:=.fields #[first,.int i 0,.ref S,.int n 0,.int ep 0],slots:=#[] }
section
variable{prog:Ay}{w:AQ}{A:AL}{E:Ac→Ad→Prop}{s:Ad}{I S T:Ae}{i m ep:Nat}{o ot:Obj}{es:Array (Int×Ac)}{t:Ci}{dJ:Array Ac}{x:Ac}
theorem rO{M:Fd}{B:AL}{q:Ac→Ad→Prop}{Q:Fin→Ad→Prop}{s:Ad}(z:B.handled=none)(h:∀(e:Ac) (h':A8),(∀ b u,s.heap.get? b=some u→h'.get? b=some u)→Du { s with heap:=h' } e "StopIteration"→q e { s with heap:=h' }):
  wpAny M B (newExc (.type "StopIteration") [] >>= fun e=>raiseNew e) Q q s:=by
 refine Aa ?_;simp only[newExc,newTuple];apply Aa;refine Bq ?_ (by size_fits);apply Aa (m:=firstArgMember _ _);refine Co (a:=BS) (by first | rfl | (simp only[firstArgMember];rfl)) ?_;refine Bq (h:=?_) (by size_fits);simp only[raiseNew];refine Aa (wpAny_handled ?_);rw[z];refine Aa (Af (wpAny_throw (h (.ref _) _ (fun b u e=>Ah _ (Ah _ e)) ⟨_,Ax _ rfl,rfl⟩)))
theorem aBS(z:s.heap.get? I=some (iT (.ref T) i S es.size ep))(J:s.heap.get? S=some o)(hd:o.data=.set es ep t)(F:t.fits es.size=true)(M:s.heap.get? T=some ot)(B:ot.data=.seq dJ m){p:Nat}{tk:Tok}{O:Int}(Y:dJ[i]?=some (.int p tk))(U:es[p]?=some (O,x)){Q:Option Ac→Ad→Prop}
  (W:∀ h',h'.get? I=some (iT (.ref T) (i + 1) S es.size ep)→CU I s.heap h'→Q (some x) { s with heap:=h' }):wpAny (model prog w) A (pyNext (.ref I)) Q E s:=by
 have q:s.TypeIs (.ref I) "set_iterator":=⟨_,z,rfl⟩
 unfold pyNext;apply Aa;apply DN;refine BX (name:=A5 "__next__") q c9 (BP c9 q gU ?_ (iA _));unfold Builtin.«set_iterator.__next__»;refine Aa (Af ?_);refine Aa (Ed z rfl ?_);dsimp only;refine Aa (CO J hd F ?_);rw[Ia (show¬ ((((es.size:Nat):Int) != ((es.size:Nat):Int))=true) by simp)];refine Aa (wpAny_seqItems M B ?_);dsimp only;rw[show((i:Nat):Int).toNat=i from Bo i,Y];dsimp only;unfold setNextDrawn;refine Aa (Aa (CB J hd F ?_));dsimp only;rw[Ia (show¬ ((ep != ((ep:Nat):Int).toNat)=true) by simp)];rw[show((p:Nat):Int).toNat=p from Bo p,U];refine Af ?_;refine Aa (C4 z rfl (by simp[iT]) (Af ⟨x,rfl,Af (W _ ?_ (BC ..))⟩));rw[Bu _ z (C1 (B2 rfl _))];rfl
theorem aDj(W:A.handled=none)(z:s.heap.get? I=some (iT (.ref T) i S es.size ep))(hS:s.heap.get? S=some o)(hd:o.data=.set es ep t)(Z:t.fits es.size=true)(Y:s.heap.get? T=some ot)(B:ot.data=.seq dJ m)(J:dJ[i]?=none){Q:Option Ac→Ad→Prop}
  (M:∀ h',(∀ b u,b≠I→s.heap.get? b=some u→h'.get? b=some u)→Q none { s with heap:=h' }):wpAny (model prog w) A (pyNext (.ref I)) Q E s:=by
 have q:s.TypeIs (.ref I) "set_iterator":=⟨_,z,rfl⟩
 unfold pyNext;apply Aa;apply DN;refine BX (name:=A5 "__next__") q c9 (BP c9 q gU ?_ (iA _));unfold Builtin.«set_iterator.__next__»;refine Aa (Af ?_);refine Aa (Ed z rfl ?_);dsimp only;refine Aa (CO hS hd Z ?_);rw[Ia (show¬ ((((es.size:Nat):Int) != ((es.size:Nat):Int))=true) by simp)];refine Aa (wpAny_seqItems Y B ?_);dsimp only;rw[show((i:Nat):Int).toNat=i from Bo i,J];dsimp only;refine Aa (C4 z rfl (by simp[iT]) ?_);have F:=Bu (Obj.mapFields (·.setIfInBounds 0 (rawInt 0))) z (C1 (B2 rfl _))
 refine Aa (C4 F (B2 rfl _) (by simp[iT]) ?_);refine rO (show A.in1.handled=none from W) fun e h' k U=>?_;refine Aa (BE (T:="StopIteration") (b:=true) U isSubtype_stop ?_);refine Af (M h' fun b u nb O=>k b u ?_);exact(BC _ I _).extBut b u nb ((BC _ I _).extBut b u nb O)
theorem aBT{z nx:Nat}(J:s.heap.get? I=some (iT (rawInt z) i S es.size ep))(W:s.heap.get? S=some o)(hd:o.data=.set es ep t)(O:t.fits es.size=true)
  (hN:∀(B:AL) (U:Ac→Ad→Prop) (M:Option (Ac×Nat)→Ad→Prop),M (some (x,nx)) s→wpAny (model prog w) B (setNext S z i ep) M U s) {Q:Option Ac→Ad→Prop}
  (Y:∀ h',h'.get? I=some (iT (rawInt nx) (i + 1) S es.size ep)→CU I s.heap h'→Q (some x) { s with heap:=h' }):wpAny (model prog w) A (pyNext (.ref I)) Q E s:=by
 have q:s.TypeIs (.ref I) "set_iterator":=⟨_,J,rfl⟩
 unfold pyNext;apply Aa;apply DN;refine BX (name:=A5 "__next__") q c9 (BP c9 q gU ?_ (iA _));unfold Builtin.«set_iterator.__next__»;refine Aa (Af ?_);refine Aa (Ed J rfl ?_);dsimp only;refine Aa (CO W hd O ?_);rw[Ia (show¬ ((((es.size:Nat):Int) != ((es.size:Nat):Int))=true) by simp)];dsimp only[rawInt];refine Aa ?_;rw[show((i:Nat):Int).toNat=i from Bo i,show((z:Nat):Int).toNat=z from Bo z,show((ep:Nat):Int).toNat=ep from Bo ep];refine hN _ _ _ ?_;dsimp only;refine Aa (C4 J rfl (by simp[iT]) ?_);have F:=Bu (Obj.mapFields (·.setIfInBounds 0 (rawInt nx))) J (C1 (B2 rfl _))
 refine Aa (C4 F (B2 rfl _) (by simp[iT]) (Af ⟨x,rfl,Af (Y _ ?_ ((BC ..).trans (BC ..)))⟩));exact(Bu _ F (C1 (B2 (B2 rfl _) _))).trans rfl
theorem aDk{z:Nat}(Y:A.handled=none)(F:s.heap.get? I=some (iT (rawInt z) i S es.size ep))(hS:s.heap.get? S=some o)(hd:o.data=.set es ep t)(Z:t.fits es.size=true)
  (hN:∀(B:AL) (M:Ac→Ad→Prop) (J:Option (Ac×Nat)→Ad→Prop),J none s→wpAny (model prog w) B (setNext S z i ep) J M s) {Q:Option Ac→Ad→Prop}
  (O:∀ h',(∀ b u,b≠I→s.heap.get? b=some u→h'.get? b=some u)→Q none { s with heap:=h' }):wpAny (model prog w) A (pyNext (.ref I)) Q E s:=by
 have q:s.TypeIs (.ref I) "set_iterator":=⟨_,F,rfl⟩
 unfold pyNext;apply Aa;apply DN;refine BX (name:=A5 "__next__") q c9 (BP c9 q gU ?_ (iA _));unfold Builtin.«set_iterator.__next__»;refine Aa (Af ?_);refine Aa (Ed F rfl ?_);dsimp only;refine Aa (CO hS hd Z ?_);rw[Ia (show¬ ((((es.size:Nat):Int) != ((es.size:Nat):Int))=true) by simp)];dsimp only[rawInt];refine Aa ?_;rw[show((i:Nat):Int).toNat=i from Bo i,show((z:Nat):Int).toNat=z from Bo z,show((ep:Nat):Int).toNat=ep from Bo ep];refine hN _ _ _ ?_;dsimp only;refine Aa (C4 F rfl (by simp[iT]) ?_);refine rO (show A.in1.handled=none from Y) fun e h' k W=>?_;refine Aa (BE (T:="StopIteration") (b:=true) W isSubtype_stop ?_);refine Af (O h' fun b u nb U=>k b u ?_);exact(BC _ I _).extBut b u nb U
theorem aAO{first:Ac}(z:s.heap.get? I=some (iT first i S es.size ep)){Q:Ac→Ad→Prop}(h:Q (.ref I) s):wpAny (model prog w) A (pyIter (.ref I)) Q E s:=by
 have q:s.TypeIs (.ref I) "set_iterator":=⟨_,z,rfl⟩
 refine wpAny_pyIter_slot q nR (BP nR q tW ?_ (vU _));exact Af ⟨_,rfl,"set_iterator",_,q,c9.lookup,h⟩
end
theorem uK{α:Type}(next:Nat→Nat):∀(q k:Nat) (left:List α) (out:Array α),left.length=q→(pickOrder.go next q k left out).toList.Perm (out.toList ++ left)
 | 0,k,[],out,_=>by
  unfold pickOrder.go;rw[Cm]
 | q + 1,k,x :: r,out,z=>by
  unfold pickOrder.go;have hi:next k % (x :: r).length < (x :: r).length:=EE _ (by simp)
  obtain⟨y,hy⟩:∃ y,(x :: r)[next k % (x :: r).length]?=some y:=⟨_,Ai hi⟩
  rw[hy];dsimp only;refine(uK next q (k + 1) _ _ (by rw[Do hi];simp at z ⊢;exact z)).trans ?_;rw[Array.toList_push,BU];exact List.Perm.append_left _ (lB _ _ y hy)
theorem rP{α:Type}(next:Nat→Nat)(xs:Array α):(pickOrder next xs).toList.Perm xs.toList:=by
 unfold pickOrder;have h:=uK next xs.size 0 xs.toList #[] (by simp)
 simpa using h
section
variable{prog:Ay}{w:AQ}{A:AL}{I S T:Ae}{m ep:Nat}{o ot:Obj}{es:Array (Int×Ac)}{t:Ci}{dJ:Array Ac}
theorem aGE(W:A.handled=none)(Z:S≠I)(Y:T≠I)(hd:o.data=.set es ep t)(O:t.fits es.size=true)(q:ot.data=.seq dJ m)(U:∀ i,i < dJ.size→∃(p:Nat) (tk:Tok) (z:Int×Ac),dJ[i]?=some (.int p tk)∧es[p]?=some z):
  Walks prog w A I [I,S,T] [I] dJ.size (fun i v=>∃(p:Nat) (tk:Tok) (z:Int),dJ[i]?=some (.int p tk)∧es[p]?=some (z,v)) (fun i h=>h.get? I=some (iT (.ref T) i S es.size ep)∧h.get? S=some o∧h.get? T=some ot) where
 sub:=fun b M=>by simp at M;simp[M]
 frame:=fun _ _ _ st F=>⟨F I (by simp) _ st.1,F S (by simp) _ st.2.1,F T (by simp) _ st.2.2⟩
 item:=fun i s Q E hi st B=>by
  obtain⟨p,tk,⟨z,v⟩,h1,h2⟩:=U i hi;refine aBS st.1 st.2.1 hd O st.2.2 q h1 h2 fun h' hI J=>?_;exact B v h' s.toks ⟨p,tk,z,h1,h2⟩ ⟨hI,J.extBut S _ Z st.2.1,J.extBut T _ Y st.2.2⟩ fun b u nb e=>J.extBut b u (by simpa using nb) e
 done:=fun s Q E st B=>aDj W st.1 st.2.1 hd O st.2.2 q (by simp) fun h' k=>B h' s.toks fun b u nb e=>k b u (by simpa using nb) e
 self:=fun i s Q E st B=>aAO st.1 B
theorem aGF(Z:A.handled=none)(hS:S≠I)(hd:o.data=.set es ep t)(Y:t.fits es.size=true)(M:Nat→Nat)(ord:List Ac)
  (hN:∀(i:Nat) (s:Ad),s.heap.get? S=some o→i≤ord.length→∀(B:AL) (F:Ac→Ad→Prop) (z:Option (Ac×Nat)→Ad→Prop),z ((ord[i]?).map fun v=>(v,M (i + 1))) s→wpAny (model prog w) B (setNext S (M i) i ep) z F s):
  Walks prog w A I [I,S] [I] ord.length (fun i v=>ord[i]?=some v) (fun i h=>h.get? I=some (iT (rawInt (M i)) i S es.size ep)∧h.get? S=some o) where
 sub:=fun b W=>by simp at W;simp[W]
 frame:=fun _ _ _ st O=>⟨O I (by simp) _ st.1,O S (by simp) _ st.2⟩
 item:=fun i s Q E hi st J=>by
  obtain⟨v,hv⟩:∃ v,ord[i]?=some v:=⟨_,Ai hi⟩
  refine aBT (x:=v) (nx:=M (i + 1)) st.1 st.2 hd Y (fun B F z q=>hN i s st.2 (CD hi) B F z (by rw[hv];exact q)) fun h' hI U=>?_;exact J v h' s.toks hv ⟨hI,U.extBut S _ hS st.2⟩ fun b u nb e=>U.extBut b u (by simpa using nb) e
 done:=fun s Q E st J=>aDk Z st.1 st.2 hd Y (fun B F z q=>hN _ s st.2 (Ak _) B F z (by rw[AK (Ak _)];exact q)) fun h' k=>J h' s.toks fun b u nb e=>k b u (by simpa using nb) e
 self:=fun i s Q E st J=>aAO st.1 J
structure aIn(prog:Ay)(w:AQ)(A:AL)(S:Ae)(el:List Ac)(s s2:Ad)(I:Ae):Prop where
 w:∃(fp:List Ae) (P:Nat→Ac→Prop) (St:Nat→A8→Prop),Walks prog w A I fp [I] el.length P St∧St 0 s2.heap∧I∈fp∧(∀ b∈fp,b < s2.heap.objs.size∧(b=S∨s.heap.objs.size≤b))∧∀ acc,ItemsOf P acc el.length→acc.toList.Perm el
 keep:∀ b u,s.heap.get? b=some u→s2.heap.get? b=some u
 new:s.heap.objs.size≤I
 gens:s2.gens=s.gens
 os:s2.os=s.os
 toks:s2.toks=s.toks
theorem aDl{ord:List Ac}{q:Array Ac}(h:ItemsOf (fun i v=>ord[i]?=some v) q ord.length):q.toList=ord:=by
 obtain⟨hl,h⟩:=h;apply B7;intro j;by_cases z:j < q.size
 ·have:=h j q[j] (by simp[z]);rw[this];simp[z]
 ·rw[AK (by simpa using z),AK (by omega)]
end
section
variable{prog:Ay}{w:AQ}{A:AL}{S:Ae}{ep:Nat}{o:Obj}{es:Array (Int×Ac)}{t:Ci}
theorem xF{ys:List Nat}{n:Nat}(F:ys.Perm (AV n))(hn:n=es.size):∀ i,i < (ys.map fun(i:Nat)=>rawInt i).toArray.size→∃(p:Nat) (tk:Tok) (z:Int×Ac),(ys.map fun(i:Nat)=>rawInt i).toArray[i]?=some (.int p tk)∧es[p]?=some z:=by
 intro i hi;have q:i < ys.length:=by simpa using hi
 have hm:ys[i]∈AV n:=F.mem_iff.mp (Bm q);have B:ys[i] < es.size:=by rw[← hn];exact BG.mp hm
 exact⟨ys[i],0,es[ys[i]],by simp[q,rawInt],by simp[B]⟩
theorem vV{ys:List Nat}{n:Nat}(O:ys.Perm (AV n))(hn:n=es.size){q:Array Ac}(h:ItemsOf (fun i v=>∃(p:Nat) (tk:Tok) (z:Int),(ys.map fun(i:Nat)=>rawInt i).toArray[i]?=some (.int p tk)∧es[p]?=some (z,v)) q ys.length):q.toList.Perm (es.toList.map (·.2)):=by
 have e:q.toList=ys.map fun p=>(es.toList.getD p (0,.none)).2:=by
  apply B7;intro j;by_cases F:j < ys.length
  ·have B:j < q.size:=by rw[h.1];exact F
   obtain⟨p,tk,z,h1,h2⟩:=h.2 j q[j] (by simp[B]);simp[F,rawInt]at h1;obtain⟨h1,_⟩:=h1;have M:ys[j]=p:=by exact_mod_cast h1
   rw[AI,Ai F,M];have J:es.toList[p]?=some (z,q[j]):=by simpa using h2
   simp[List.getD,h2,J,B]
  ·rw[AK (by have:=h.1;simp;omega),AK (by simpa using F)]
 rw[e];refine(O.map _).trans (List.Perm.of_eq ?_);apply B7;intro j;rw[AI,AI];by_cases F:j < n
 ·rw[Dh F];have B:j < es.size:=by omega
  simp[List.getD,B]
 ·rw[AK (by simpa using F),AK (by simp;omega)];rfl
theorem aDm(hh:A.handled=none)(ag:o.cls=.type "set")(hd:o.data=.set es ep t)(O:t.fits es.size=true)(hb:es.size < scanBound)(ab:rN w es t){E:Ac→Ad→Prop}{s:Ad}{R:Ac→Ad→Prop}(hS:s.heap.get? S=some o)
  (h:∀(I:Ae) (s2:Ad),aIn prog w A S (es.toList.map (·.2)) s s2 I→R (.ref I) s2):wpAny (model prog w) A (pyIter (.ref S)) R E s:=by
 have ai:s.TypeIs (.ref S) "set":=⟨_,hS,ag⟩
 have Z:=Az hS;refine wpAny_pyIter_slot ai F.slot_set_iter (BP F.slot_set_iter ai pX ?_ (F.args_set_iter_1 _));unfold Builtin.«frozenset.__iter__» Builtin.Frozenset.slot0 Builtin.Frozenset.sizeOf;refine Aa (Aa (Af (Af ?_)));refine Aa (Aa (CO hS hd O (Af ?_)));refine Aa ?_;unfold setDrawn setsByText;refine Aa (CB hS hd O (Aa (Aa (CI (Af (Af ?_))))));have ay:(es.toList.map (·.2)).length=es.size:=by simp
 have aa:(∀(i:Nat) (s:Ad),s.heap.get? S=some o→i≤es.size→True)→∀(sl:Nat→Nat) (ord:List Ac),sl 0=0→ord.Perm (es.toList.map (·.2))→
   (∀(i:Nat) (s:Ad),s.heap.get? S=some o→i≤ord.length→∀(B:AL) (E':Ac→Ad→Prop) (Q':Option (Ac×Nat)→Ad→Prop),Q' ((ord[i]?).map fun v=>(v,sl (i + 1))) s→wpAny (model prog w) B (setNext S (sl i) i ep) Q' E' s)→
   wpAny (model prog w) A.in1 (do ret (← newFields "set_iterator" [rawInt 0,rawInt 0,.ref S,rawInt es.size,rawInt (← setEpoch S)])) (fun aa s'=>∃ v,aa=.done (.ret v)∧∃ T' r,s'.TypeIs v T'∧typeLookup (.type T') "__next__"=pure (some r)∧R v s') E s:=by
  intro _ sl ord h0 J hN;refine Aa (wpAny_setEpoch_of hS hd O ?_);refine Aa (Bq (Af ⟨_,rfl,"set_iterator",_,⟨_,Ax _ rfl,rfl⟩,c9.lookup,h _ _ ?_⟩));have aj:ord.length=(es.toList.map (·.2)).length:=J.length_eq
  refine⟨⟨[s.heap.objs.size,S],_,_,aj ▸ aGF hh (AJ Z) hd O sl ord hN,⟨by rw[h0];exact Ax _ rfl,Ah _ hS⟩,by simp,?_,fun au ha=>?_⟩,fun b u e=>Ah _ e,Ak _,rfl,rfl,rfl⟩
  ·intro b hb;rw[BH];simp at hb;rcases hb with rfl | rfl
   ·exact⟨BD _,.inr (Ak _)⟩
   ·exact⟨Bh Z,.inl rfl⟩
  ·rw[← aj]at ha;rw[aDl ha];exact J
 dsimp only;cases Y:(model prog w).w.params.followText "set-order" with
 | true=>
  rw[Ia (by simp)];refine Aa (Af ?_);refine aa (fun _ _ _ _=>trivial) (fun _=>0) ((pickOrder ((model prog w).w.params.setOrder S ep) es).toList.map (·.2)) rfl ((rP _ es).map _) fun i s1 M hi B E' Q' q=>?_
  unfold setNext setsByText setWalk setsByText;refine Aa (CB M hd O ?_);refine Aa (Aa (CI (Af ?_)));dsimp only;rw[Y,Ib rfl];rw[Ia (show¬ ((ep != ep)=true) by simp)];refine Aa (Aa (CB M hd O ?_));refine Aa (Aa (CI (Af ?_)));dsimp only;rw[Y,Ib rfl];refine Aa (CI (Af (Af ?_)));simpa[Function.comp_def]using q
 | false=>
  by_cases h1:es.size > 1
  ·have U:t.plain=false:=ab.2.resolve_left (by omega);refine Bv (Ic (show((!false) && (!t.plain && decide (es.size > 1)))=true by rw[U];simp[h1])) ?_;refine Aa (zQ es.size (AV es.size) s _ (by simp) fun ys d J=>?_);have ak:ys.length=es.size:=by rw[J.length_eq];simp
   refine Aa (wpAny_newTuple ?_ (by rw[Ab,ak];exact DK hb));have M:(s.heap.push { cls:=.type "tuple",data:=.seq (ys.map fun(i:Nat)=>rawInt i).toArray }).get? S=some o:=Ah _ hS;refine Aa (wpAny_setEpoch_of M hd O ?_);refine Aa (Bq (Af ⟨_,rfl,"set_iterator",_,⟨_,Ax _ rfl,rfl⟩,c9.lookup,h _ _ ?_⟩));have W:(s.heap.push { cls:=.type "tuple",data:=.seq (ys.map fun(i:Nat)=>rawInt i).toArray }).objs.size=s.heap.objs.size + 1:=BH _ _;have ah:(ys.map fun(i:Nat)=>rawInt i).toArray.size=(es.toList.map (·.2)).length:=by simp[ak]
   have hw:=aGE (prog:=prog) (w:=w) (A:=A) (I:=(s.heap.push { cls:=.type "tuple",data:=.seq (ys.map fun(i:Nat)=>rawInt i).toArray }).objs.size) (S:=S) (T:=s.heap.objs.size) (o:=o) (ot:={ cls:=.type "tuple",data:=.seq (ys.map fun(i:Nat)=>rawInt i).toArray }) hh (by rw[W];exact AJ (Bh Z)) (by rw[W];exact AJ (BD _)) hd O rfl (xF J rfl);rw[ah]at hw;refine⟨⟨_,_,_,hw,⟨Ax _ rfl,Ah _ M,Ah _ (Ax _ rfl)⟩,by simp,?_,fun au ha=>?_⟩,fun b u e=>Ah _ (Ah _ e),by dsimp only;rw[W];exact Cz _,rfl,rfl,rfl⟩
   ·intro b hb;have h3:b=s.heap.objs.size + 1∨b=S∨b=s.heap.objs.size:=by
     rw[W]at hb;simpa using hb
    dsimp only;rw[BH,W];rcases h3 with rfl | rfl | rfl
    ·exact⟨BD _,.inr (Cz _)⟩
    ·exact⟨Bh (Bh Z),.inl rfl⟩
    ·exact⟨Bh (BD _),.inr (Ak _)⟩
   ·rw[← ah,Ao,Ab]at ha;exact vV J rfl ha
  ·refine AA (decide_eq_false (show¬ (((!false) && (!t.plain && decide (es.size > 1)))=true) by simp[h1])) ?_;refine Aa (Af ?_);have aw:(!t.plain && decide (es.size > 1))=false:=by simp[h1]
   have am:t.led=true:=by
    have z:=ab.1;rw[show w.params.followText "set-order"=false from Y]at z;exact z
   have aq:t.place.size=es.size:=by
    unfold SetTable.fits at O;simp at O;exact O.1
   refine aa (fun _ _ _ _=>trivial) (fun i=>if i=0 then 0 else t.place.getD 0 0 + 1) (es.toList.map (·.2)) rfl (DI _) fun i s1 M hi B E' Q' q=>?_
   unfold setNext setsByText;refine Aa (CB M hd O ?_);refine Aa (Aa (CI (Af ?_)));dsimp only;rw[Y,Ia (by simp)];refine AA (decide_eq_false (show¬ ((!t.plain && decide (es.size > 1))=true) by rw[aw];simp)) ?_;refine Aa (AA (decide_eq_false (show¬ ((!t.led && !es.isEmpty)=true) by rw[am];simp)) (Af (Af ?_)));have ae:es.size=0∨es.size=1:=by omega
   rcases ae with hz | hz
   ·have ac:es=#[]:=Array.eq_empty_of_size_eq_zero hz;have U:t.place=#[]:=Array.eq_empty_of_size_eq_zero (by omega);subst ac;have ar:i=0:=by simpa using hi
    subst ar;rw[U];simpa[CM,CM.go]using q
   ·obtain⟨e,ac⟩:=Array.size_eq_one_iff.mp hz;obtain⟨j,U⟩:=Array.size_eq_one_iff.mp (aq.trans hz);subst ac;have av:i=0∨i=1:=by
     have:i≤1:=by simpa using hi
     omega
    rw[U]at q ⊢;rcases av with rfl | rfl
    ·simpa[CM,CM.go]using q
    ·simpa[CM,CM.go]using q
end
section
variable{prog:Ay}{w:AQ}{A:AL}{S:Ae}{ep:Nat}{o:Obj}{es:Array (Int×Ac)}{t:Ci}
theorem xG(hh:A.handled=none)(q:o.cls=.type "set")(hd:o.data=.set es ep t)(hf:t.fits es.size=true)(hb:es.size < scanBound)(U:rN w es t){E:Ac→Ad→Prop}{s:Ad}{Q:List Ac→Ad→Prop}(hS:s.heap.get? S=some o)
  (h:∀(ae:List Ac) (h':A8) (d:Drawn) (tk:Nat),ae.Perm (es.toList.map (·.2))→(∀ b u,s.heap.get? b=some u→h'.get? b=some u)→s.heap.objs.size < h'.objs.size→Q ae { s with heap:=h',drawn:=d,toks:=tk }):wpAny (model prog w) A (collect (.ref S)) Q E s:=by
 have ac:=Az hS;unfold collect;apply Aa;apply Ec;apply BZ F.entry_proto_collect;rw[BM F.plain_proto_collect];show wpAny _ A.in1 (newList [] >>= fun l=>again (.builtin "list.__iadd__" ⟨[l,.ref S],[]⟩)) _ _ s;apply Aa;refine Bq (Af ⟨Di DG _,BZ F.entry_list_iadd ?_⟩);rw[BM DG];have J:(s.heap.push { cls:=.type "list",data:=.seq ([]:List Ac).toArray }).get? S=some o:=Ah _ hS;have aq:(s.heap.push { cls:=.type "list",data:=.seq ([]:List Ac).toArray }).get? s.heap.objs.size=some { cls:=.type "list",data:=.seq ([]:List Ac).toArray }:=Ax _ rfl;have e1:Builtin.List.listSameRef (.ref s.heap.objs.size) (.ref S)=false:=by
  show(s.heap.objs.size == S)=false;simpa using B9 ac
 show wpAny _ A.in1 (Cc (.ref s.heap.objs.size) (.ref S) (.ref s.heap.objs.size)) _ _ _;unfold Cc;refine Aa (BR (T:="set") ⟨o,J,q⟩ ?_);rw[Ia (by rw[e1];decide)];refine Aa (aDm (A:=A.in1) hh q hd hf hb U J fun I s2 it=>?_);have M:=it.keep S o J;have af:=it.keep _ _ aq;refine Aa (Bi ?_);unfold Builtin.List.listLengthHint;refine Aa (Dp (T:="set") ⟨o,M,q⟩ F.slot_set_len.lookup ?_);generalize Z:("set.__len__":String)=an
 wp_delta
 rw[show splitId an=some ("set","__len__") from by subst Z;decide];subst Z;refine Aa (BE (b:=true) (T:="set") ⟨o,M,q⟩ sub_set_self ?_);refine AA (by rfl) ?_;refine Bv (by decide) ?_;refine Aa (BR (T:="set") ⟨o,M,q⟩ ?_);refine Af ?_;refine Bv (by decide) ?_;refine Aa (CH ?_);obtain⟨fp,P,St,W,st0,hI,hfp,hit⟩:=it.w;have ab:(s.heap.push { cls:=.type "list",data:=.seq ([]:List Ac).toArray }).objs.size=s.heap.objs.size + 1:=BH _ _;have ag:s.heap.objs.size ∉ fp:=fun hm=>by
  rcases(hfp _ hm).2 with z | z
  ·exact absurd z (B9 ac)
  ·dsimp only at z;rw[ab]at z;exact absurd z (Nat.not_succ_le_self _)
 apply Aa;show wpAny _ A.in1 (updateSeq s.heap.objs.size (·.push .none) >>= fun _=>updateSeq s.heap.objs.size (·.pop)) _ _ _
 apply Aa;refine D1 af rfl ?_;have aa:=Bu (Bf (·.push BS)) af rfl
 refine D1 aa rfl ?_;have ap:=Bu (Bf (·.pop)) aa rfl
 have O:∀ b u,b≠s.heap.objs.size→s2.heap.get? b=some u→((s2.heap.update s.heap.objs.size (Bf (·.push BS))).update s.heap.objs.size (Bf (·.pop))).get? b=some u:=
  fun b u nb e=>(BY _ _ (C0 nb)).trans ((BY _ _ (C0 nb)).trans e)
 have ao:(es.toList.map (·.2)).length≤sizeLine:=by
  rw[Ab,A1];exact DK hb
 refine Af ⟨Di F.plain_extend_loop _,codeAny_extend_loopS (EG W) ao s.heap.objs.size ag _ _ 0 _ _ _ rfl (Bc _) (W.frame 0 _ _ st0 fun b hb u e=>O b u (fun z=>ag (z ▸ hb)) e) ap (ItemsOf.nil P) fun s' B c' hm ad Y=>?_⟩;show wpAny _ A (load s.heap.objs.size >>= _) _ _ s';apply Aa;refine wpAny_load ad (Af ?_);obtain⟨h',g',d',tk',os'⟩:=s';have g1:=hm.gens;have g2:=hm.os;dsimp only at g1 g2;have g3:=it.gens;have g4:=it.os;rw[g3]at g1;rw[g4]at g2;dsimp only at g1 g2;subst g1 g2;refine h B.toList h' d' tk' (hit B Y) (fun b u e=>?_) (Az ad);have ah:=Az e;have nb:b≠s.heap.objs.size:=AJ ah;have nI:b≠I:=fun z=>by
  have z2:=it.new;dsimp only at z2;rw[ab,← z]at z2;exact absurd (CW ah z2) (BO _)
 refine hm.heap b u (by simp[nb,nI]) (O b u nb (it.keep b u (Ah _ e)))
end
theorem iB{α:Type}[DecidableEq α]:∀(L M:List α),L.Nodup→(∀ x∈L,x∈M)→M.length=L.length→M.Perm L
 | [],M,_,_,B=>by
  have:M=[]:=Ce B;rw[this]
 | x :: r,M,hn,hm,B=>by
  obtain⟨hx,hr⟩:=Ck.mp hn;have q:=hm x (by simp);have J:=iB r (M.erase x) hr (fun y F=>(List.mem_erase_of_ne (show y≠x from fun z=>hx (by rw[← z];exact F))).mpr (hm y (by simp[F]))) (by rw[List.length_erase_of_mem q,B];simp);exact(List.perm_cons_erase q).trans (J.cons x)
section
variable{prog:Ay}{w:AQ}{A:AL}{S:Ae}{E:Ac→Ad→Prop}{s:Ad}
theorem xH(hh:A.handled=none){f:Str→Bool}{n:Nat}(hS:i6 prog w s.heap S f n){F:List Str}(ad:F.Nodup)(M:∀ k,f k=true↔k∈F)(hn:n=F.length)(aj:n < 64){Q:Ac→Ad→Prop}
  (h:∀(l:Ae) (h':A8) (d:Drawn) (tk e:Nat) (out:Array Ac) (J:List Str),s.heap.objs.size≤l→(∀ b u,s.heap.get? b=some u→h'.get? b=some u)→h'.get? l=some (seqObj "list" out e)→E6 out.toList J→J.Perm F→sortedS J=true→Q (.ref l) { s with heap:=h',drawn:=d,toks:=tk }):
  wpAny (model prog w) A (call (.builtin "sorted") [.ref S]) Q E s:=by
 obtain⟨o,es,ep,t,ho,hex,hd,hel,hm,hb,hf,hsz,hTab⟩:=hS;refine Calls.call_function_entry kind_sorted plain_sorted entry_sorted (args_sorted1 _) ?_;unfold Builtin.«sorted»;apply Aa (m:=checkCount "sorted" 1 1 _);apply Af;refine Aa (xG (A:=A.in1) hh hex.1 hd hf hb hTab ho fun q h1 d tk Y B ac=>?_);have U:∀ v,v∈q→∃ x t,v=.str x t:=fun v hv=>by
  obtain⟨e,he,rfl⟩:=A7.mp (Y.mem_iff.mp hv);obtain⟨⟨k,B,_⟩,_⟩:=hel e he;obtain⟨t,ht⟩:=DV B;exact⟨k,t,ht⟩
 have Z:=strsAre_map q U;have af:q.length=n:=by rw[Y.length_eq,Ab,A1];exact hsz
 have hM:(q.map strOf).Perm F:=by
  refine((Y.map strOf)).trans (iB F _ ad (fun x hx=>?_) (by rw[Ab,Ab,A1,hsz,hn]));obtain⟨e,he,B⟩:=(hm x).mp ((M x).mpr hx);obtain⟨t,ht⟩:=DV B;exact A7.mpr ⟨e.2,A7.mpr ⟨e,he,rfl⟩,by rw[ht];rfl⟩
 have aa:q.length≤sizeLine:=by rw[Ee];omega
 apply Aa;refine ET ?_ aa;have z:(h1.push (seqObj "list" q.toArray 0)).get? h1.objs.size=some (seqObj "list" q.toArray 0):=Ax _ rfl;refine Aa (Bi (BP slot_list_sort ⟨_,z,rfl⟩ entry_list_sort (list_sort_treeK strKind_oneLt z Z.keysOf (fun v₁ v₂ cS e=>keyKind_strs (by rw[← e];exact Z)) (by omega) fun ab a1 a2=>⟨_,rfl,?_⟩) (args_list_sort _)));obtain⟨J,b1,b2,b3⟩:=sorted_out_str Z a1 a2;refine Af ⟨_,rfl,?_⟩;obtain⟨e,he⟩:=sortedHeap_at (vs:=q) (out:=(arrOf ab).map (·.2)) z
 have O:s.heap.objs.size≤h1.objs.size:=CD ac;refine h _ _ d tk e _ J O (fun b u eb=>?_) he b1 (b2.trans hM) b3;have W:=Az (B b u eb);rw[sortedHeap_old (AJ W) (by rw[BH];exact Bh W)];exact Ah _ (B b u eb)
end
section
variable{X:Cx}{bd:List (Ae×Obj)}{σ:St}{H H':Hp}{s:Ad}{h':A8}
theorem Inv.laidD{a:Ae}{o:HO}{t':Nat}{d':Drawn}(I:Inv X bd σ H s)(k:∀ b u,s.heap.get? b=some u→h'.get? b=some u)(q:s.heap.objs.size≤a)(new:dB X.prog X.w (upd H a o) h' a o):
  Inv X bd σ (upd H a o) { s with heap:=h',drawn:=d',toks:=t' }:=by
 have u:Un (frs X.stack) [] H (upd H a o) s.heap h':=Un.laid k q (I.hok.fresh q);exact I.call (g':=s.gens) (d':=d') u (I.hok.laid k q new) I.bare (fun _ z=>nomatch z)
theorem rQ(val:Nat→Str):∀ i,(gJ val i).Nodup
 | 0=>List.nodup_nil
 | i + 1=>by
  show(jF (gJ val i) (val i)).Nodup;have q:=rQ val i;unfold jF;split
  ·exact q
  ·next hne=>
   rw[CQ];exact⟨q,by simp,fun x z y B e=>hne (by rw[← (show y=val i from by simpa using B),← e];exact z)⟩
def pY(ss:List Str):List Str:=gJ (fun i=>ss.getD i "") ss.length
theorem xI(q:List Str)(k:Str):k∈pY q↔k∈q:=by
 unfold pY;rw[rD];constructor
 ·rintro⟨j,hj,e⟩;rw[← e,AW,Ai hj];exact Bm hj
 ·intro z;obtain⟨j,hj,e⟩:=DT.mp z;exact⟨j,hj,by rw[AW,Ai hj];exact e⟩
theorem mV(q:List Str):(pY q).Nodup:=rQ _ _
def aDn(P:Ay)(w:AQ)(a:Ae)(ss:List Str):HO:=.ext fun h=>i6 P w h a (fun k=>(pY ss).any fun x=>x == k) (pY ss).length
theorem xJ{B:List Str}{its:List Ac}(F:cE (B.map V.str) its){i:Nat}{v:Ac}(J:its.toArray[i]?=some v):∃ t,v=Bp (B.getD i "") t:=by
 have q:=F.length;rw[Ab]at q;have z:its[i]?=some v:=by simpa using J
 have hi:i < B.length:=by
  rw[q];exact(AE.mp z).1
 have e:(B.map V.str)[i]?=some (V.str (B.getD i "")):=by
  rw[AI,Ai hi];simp[hi]
 obtain⟨u,hu,ru⟩:=F.get e;rw[z]at hu;cases hu;exact ru
theorem aBU(hc:X.calm=true):gE X (.type "set") (fun xs H Q=>∃(p:Ae) (F:List Str),xs=[.ref p]∧(H p=some (.lst (F.map V.str))∨H p=some (.tup (F.map V.str)))∧F.length≤1000∧∀ a,H a=none→Q (.ref a) (upd H a (aDn X.prog X.w a F))):=by
 intro bd s σ H xs us Q I r h;obtain⟨p,F,rfl,J,h1000,q⟩:=h;obtain⟨u,rfl,ru⟩:=fH r;cases ru;have M:∀(B:List Ac),B.length=F.length→∀(h':A8) (tk:Nat),i6 X.prog X.w h' s.heap.objs.size (fun k'=>(gJ (fun i=>F.getD i "") B.toArray.size).any fun x=>x == k') (gJ (fun i=>F.getD i "") B.toArray.size).length→
   (∀(b:Nat) (o:Obj),b < s.heap.objs.size→s.heap.get? b=some o→h'.get? b=some o)→EP X bd σ Q (AO s.heap.objs.size) { s with heap:=h',toks:=tk }:=by
  intro B Z h' tk Y hk;have W:B.toArray.size=F.length:=by rw[Ao,Z]
  rw[W]at Y;have O:∀ b u,s.heap.get? b=some u→h'.get? b=some u:=fun b u e=>hk b u (Az e) e;have hn:H s.heap.objs.size=none:=I.hok.fresh (Ak _);refine⟨.ref s.heap.objs.size,_,I.laid (t':=tk) (o:=aDn X.prog X.w s.heap.objs.size F) O (Ak _) ⟨Y,?_,fun h1 h2 f g=>?_⟩,rfl,q _ hn⟩
  ·obtain⟨o,_,_,_,e,_⟩:=Y;exact⟨o,e⟩
  ·exact f.at g
 rcases J with J | J
 ·obtain⟨B,rv,pl,_⟩:=I.list (aV J);have z:=rv.length;rw[Ab]at z;exact xC (val:=fun i=>F.getD i "") (I.ok.hd hc) pl.isList (fun i v U=>xJ rv U) (by rw[Ao,← z];show _ < 4096;omega) (M B z.symm)
 ·obtain⟨B,rv,pl,_⟩:=I.tuple (aX J);have z:=rv.length;rw[Ab]at z;exact xD (val:=fun i=>F.getD i "") (I.ok.hd hc) pl (fun i v U=>xJ rv U) (by rw[Ao,← z];show _ < 4096;omega) (M B z.symm)
theorem vW(hc:X.calm=true):gE X (.builtin "sorted") (fun xs H Q=>∃(p:Ae) (z:List Str),xs=[.ref p]∧H p=some (aDn X.prog X.w p z)∧z.length < 64∧∀(l:Ae) (B:List Str),H l=none→B.Perm (pY z)→sortedS B=true→Q (.ref l) (upd H l (.lst (B.map V.str)))):=by
 intro bd s σ H xs us Q I r h;obtain⟨p,z,rfl,hx,h64,q⟩:=h;obtain⟨u,rfl,ru⟩:=fH r;cases ru;obtain⟨hS,_,_⟩:dB X.prog X.w H s.heap p (aDn X.prog X.w p z):=I.hok p _ hx;have Y:(pY z).length≤z.length:=p0 (fun i=>z.getD i "") z.length;refine xH (I.ok.hd hc) hS (mV z) (fun k=>by rw[nP];simp) rfl (by omega) fun l h' d tk e out B F M W ha J O=>?_;have Z:cE (B.map V.str) out.toList:=j5 ha;have U:=J.length_eq;exact⟨.ref l,_,I.laidD (t':=tk) (d':=d) (o:=.lst (B.map V.str)) M F ⟨aM (by rw[Ab];omega),out.toList,e,Z,by rw[W] <;> rfl⟩,rfl,q l B (I.hok.fresh F) J O⟩
theorem nS:∀(p:Str) (l:List Str),risingS p l=true→(∀ x∈l,¬ x.cps.toList < p.cps.toList)∧l.Pairwise fun a b=>¬ b.cps.toList < a.cps.toList
 | p,[],_=>⟨fun x q=>by simp at q,C9⟩
 | p,x :: r,h=>by
  have h':(!ltCps x.cps.toList p.cps.toList && risingS x r)=true:=h;rw[A9,ltCps_eq]at h';have q:¬ x.cps.toList < p.cps.toList:=by simpa using h'.1
  obtain⟨i1,i2⟩:=nS x r h'.2;refine⟨fun y B=>?_,Dn.mpr ⟨i1,i2⟩⟩;rcases Aq.mp B with rfl | B
  ·exact q
  ·intro z;have h1:=i1 y B;exact q (List.lt_of_le_of_lt (Cu.mp h1) z)
theorem nU:∀(l:List Str),sortedS l=true→l.Pairwise fun a b=>¬ b.cps.toList < a.cps.toList
 | [],_=>C9
 | x :: r,h=>Dn.mpr (nS x r h)
theorem p5{a b:Str}(h:a.cps.toList=b.cps.toList):a=b:=by
 cases a;cases b;congr;exact CA.mp h
theorem pM:∀{l m:List Str},l.Perm m→(l.Pairwise fun a b=>¬ b.cps.toList < a.cps.toList)→(m.Pairwise fun a b=>¬ b.cps.toList < a.cps.toList)→l=m
 | [],m,h,_,_=>(List.Perm.eq_nil h.symm).symm
 | x :: r,[],h,_,_=>by simpa using h.length_eq
 | x :: r,y :: q,h,h1,h2=>by
  obtain⟨a1,a2⟩:=Dn.mp h1;obtain⟨b1,b2⟩:=Dn.mp h2;have e:x=y:=by
   rcases Aq.mp (h.mem_iff.mp (AH (a:=x) (l:=r)))with e | hx
   ·exact e
   ·rcases Aq.mp (h.mem_iff.mpr (AH (a:=y) (l:=q)))with e | hy
    ·exact e.symm
    ·exact p5 (DE (Cu.mp (a1 y hy)) (Cu.mp (b1 x hx)))
  subst e;rw[pM ((List.perm_cons x).mp h) a2 b2]
end
def dS{α:Type}(o:Nat→Nat→Bool):Fe α→α
 | .ret a=>a
 | .ask i j k=>dS o (k (o i j))
theorem rS{α:Type}{n:Nat}{P:α→Prop}{o o':Nat→Nat→Bool}(h:∀ i j,i < n→j < n→o i j=o' i j):∀{t:Fe α},h9 n P t→dS o t=dS o' t
 | .ret a,_=>rfl
 | .ask i j k,z=>by
  show dS o (k (o i j))=dS o' (k (o' i j));rw[h i j z.1 z.2.1];exact rS h (z.2.2 _)
theorem h9.run{α:Type}{n:Nat}{P:α→Prop}(o:Nat→Nat→Bool):∀{t:Fe α},h9 n P t→P (dS o t)
 | .ret a,h=>h
 | .ask i j k,h=>by
  show P (dS o (k (o i j)));exact h9.run o (h.2.2 (o i j))
theorem h9.wpO{α:Type}{n:Nat}{P:α→Prop}{z:Nat→Nat→(Bool→Ad→Prop)→Ad→Prop}{Q:α→Ad→Prop}{s:Ad}{o:Nat→Nat→Bool}(hc:∀ i j C,i < n→j < n→C (o i j) s→z i j C s):∀{t:Fe α},h9 n P t→Q (dS o t) s→t.kasWp z Q s
 | .ret a,_,q=>by rw[KasT.kasWp.eq_1];exact q
 | .ask i j k,h,q=>by
  rw[KasT.kasWp.eq_2];exact hc i j _ h.1 h.2.1 (h9.wpO hc (h.2.2 _) q)
abbrev P3:=Str×Str×Int
inductive aAQ(h:A8)(v:Ac)(x:P3):Prop
 | mk (t:_) (u1:_) (u2:_) (u3:_) (q0:v=.ref t) (q1:DR h t #[.str x.1 u1,.str x.2.1 u2,.int x.2.2 u3]):aAQ h v x
def aID(h:A8)(v:Ac)(x:P3):Prop:=aAQ h v x
section
variable{prog:Ay}{w:AQ}{A:AL}{E:Ac→Ad→Prop}{s:Ad}
theorem aAR{a b:Int}{t u:Tok}{Q:Bool→Ad→Prop}(h:Q (decide (a < b)) s):wpAny (model prog w) A (oneLt' false (Bs a t) (Bs b u)) Q E s:=by
 rw[oneLt'_eq];show wpAny _ _ (compareOp .Lt (Bs a t) (Bs b u) >>= _) _ _ _;apply Aa;refine lt_int ?_
 wp_walk
 exact h
theorem aEO{a b:Str}{t u:Tok}{Q:Bool→Ad→Prop}(h:Q (decide (a.cps.toList < b.cps.toList)) s):wpAny (model prog w) A (oneLt' false (Bp a t) (Bp b u)) Q E s:=by
 rw[oneLt'_eq];show wpAny _ _ (compareOp .Lt (Bp a t) (Bp b u) >>= _) _ _ _;apply Aa;refine lt_str ?_
 wp_walk
 exact h
end
section
variable{prog:Ay}{w:AQ}{A:AL}{E:Ac→Ad→Prop}{s:Ad}
end
section
variable{prog:Ay}{w:AQ}{A:AL}{E:Ac→Ad→Prop}{s:Ad}
end
section
variable{X:Cx}
inductive aAS(H:Hp)(v:V)(x:P3):Prop
 | mk (t:_) (q0:v=.ref t) (q1:H t=some (.tup [.str x.1,.str x.2.1,.int x.2.2])):aAS H v x
def aIE(H:Hp)(v:V)(x:P3):Prop:=aAS H v x
theorem uL{vs:List V}{its:List Ac}(r:cE vs its):∀(q:List Nat),(∀ i∈q,i < vs.length)→cE (q.map fun i=>vs.getD i .non) (q.map fun i=>its.getD i .none)
 | [],_=>.nil
 | i :: q,h=>by
  have hi:=h i (by simp);obtain⟨u,hu,ru⟩:=r.get (Ai hi);refine .cons ?_ (uL r q fun j z=>h j (by simp[z]));show cQ (vs.getD i .non) (its.getD i .none);rw[AW,AW,Ai hi,hu];exact ru
end
def aDo(R:List P3):Prop:=R.Pairwise fun a b=>a.1.cps.toList < b.1.cps.toList
section
variable{n:Nat}{π:Nat→Nat}
abbrev Kp(π:Nat→Nat)(p:Array Nat)(j:Nat):Nat:=π (p.getD j 0)
abbrev ord(π:Nat→Nat):Nat→Nat→Bool:=fun i j=>decide (π i < π j)
def KS(π:Nat→Nat)(p:Array Nat)(k:Nat):Prop:=∀ i j,i < j→j < k→Kp π p i < Kp π p j
theorem iI{α β:Type}(o:Nat→Nat→Bool)(f:α→Fe β):∀ t:Fe α,dS o (t.bind f)=dS o (f (dS o t))
 | .ret a=>by rw[KasT.bind.eq_1];rfl
 | .ask i j k=>by
  rw[KasT.bind.eq_2];show dS o ((k (o i j)).bind f)=_;rw[iI o f (k (o i j))];rfl
theorem jH{α:Type}(o:Nat→Nat→Bool)(i j:Nat)(k:Bool→Fe α):dS o (.ask i j k)=dS o (k (o i j)):=rfl
theorem nV{p:Array Nat}{j v:Nat}(h:p[j]?=some v):p.getD j 0=v:=by rw[Bd,h];rfl
theorem Pm.size{p:Array Nat}(h:Pm n p):p.size=n:=by rw[h.size_eq];simp
theorem Pm.ne{p:Array Nat}(h:Pm n p){i j:Nat}(hi:i < n)(F:j < n)(z:i≠j):p.getD i 0≠p.getD j 0:=by
 have hz:=h.size;have q:p.toList.Nodup:=(Array.perm_iff_toList_perm.mp h).nodup_iff.mpr (by simpa using List.nodup_range);rw[nV (BJ (by omega)),nV (BJ (by omega))];intro e;have B:p.toList[i]'(by simpa using(by omega:i < p.size))=p.toList[j]'(by simpa using(by omega:j < p.size)):=by simpa using e
 exact z ((DF q).mp B)
variable(hn:0 < n)(hπ:∀ i j,i < n→j < n→π i=π j→i=j)
include hn hπ
theorem aDp{p:Array Nat}(h:Pm n p){i j:Nat}(hi:i < n)(z:j < n)(q:i≠j):Kp π p i≠Kp π p j:=fun e=>h.ne hi z q (hπ _ _ (h.lt hn i) (h.lt hn j) e)
theorem aAT{p:Array Nat}(h:Pm n p){k:Nat}(M:1≤k)(q:k < n)(B:KS π p k)(O:¬ Kp π p k < Kp π p (k - 1)):KS π p (k + 1):=by
 intro i j z J;by_cases e:j=k
 ·subst e;have h1:Kp π p (j - 1) < Kp π p j:=by
   have:=aDp hn hπ h (i:=j - 1) (j:=j) (by omega) q (by omega);omega
  by_cases F:i=j - 1
  ·rw[F];exact h1
  ·exact CW (B i (j - 1) (by omega) (by omega)) h1
 ·exact B i j z (by omega)
theorem p8{p:Array Nat}(h:Pm n p):∀(f x:Nat),1≤x→x + f≤n→KS π p x→x≤dS (ord π) (kas_asc p f x)∧dS (ord π) (kas_asc p f x)≤x + f∧KS π p (dS (ord π) (kas_asc p f x))
 | 0,x,h1,h2,q=>by
  rw[kas_asc.eq_1];exact⟨Ak _,by show x≤x + 0;omega,q⟩
 | f + 1,x,h1,h2,q=>by
  rw[kas_asc.eq_2,jH];by_cases z:Kp π p x < Kp π p (x - 1)
  ·rw[show ord π (p.getD x 0) (p.getD (x - 1) 0)=true from Ic z];show x≤dS (ord π) (.ret x)∧_;exact⟨Ak _,by show x≤x + (f + 1);omega,q⟩
  ·rw[show ord π (p.getD x 0) (p.getD (x - 1) 0)=false from decide_eq_false z];have B:=p8 h f (x + 1) (by omega) (by omega) (aAT hn hπ h h1 (by omega) q z);show x≤dS (ord π) (kas_asc p f (x + 1))∧dS (ord π) (kas_asc p f (x + 1))≤x + (f + 1)∧KS π p (dS (ord π) (kas_asc p f (x + 1)));exact⟨by omega,by omega,B.2.2⟩
def KF(π:Nat→Nat)(p:Array Nat)(k:Nat):Prop:=∀ j,1≤j→j < k→Kp π p j < Kp π p (j - 1)
omit hn hπ in
theorem aDq{p:Array Nat}{k:Nat}(h:KF π p k):∀(d i:Nat),i + d + 1 < k→Kp π p (i + d + 1) < Kp π p i
 | 0,i,q=>h (i + 0 + 1) (by omega) q
 | d + 1,i,q=>by
  have h1:=aDq h d i (by omega);have h2:=h (i + (d + 1) + 1) (by omega) q;have e:i + (d + 1) + 1 - 1=i + d + 1:=by omega
  rw[e]at h2;exact CW h2 h1
theorem xK{p:Array Nat}(h:Pm n p):∀(f x:Nat),1≤x→x + f≤n→KF π p x→∃ m,dS (ord π) (kas_desc f p x 0)=(p,m,0)∧x≤m∧m≤x + f∧KF π p m
 | 0,x,h1,h2,q=>by
  rw[kas_desc.eq_1];exact⟨x,rfl,Ak _,by omega,q⟩
 | f + 1,x,h1,h2,q=>by
  rw[kas_desc.eq_2,jH];by_cases z:Kp π p x < Kp π p (x - 1)
  ·rw[show ord π (p.getD x 0) (p.getD (x - 1) 0)=true from Ic z];have B:KF π p (x + 1):=fun j a b=>by
    by_cases e:j=x
    ·rw[e];exact z
    ·exact q j a (by omega)
   obtain⟨m,e,a,b,c⟩:=xK h f (x + 1) (by omega) (by omega) B;refine⟨m,?_,by omega,by omega,c⟩;exact e
  ·rw[show ord π (p.getD x 0) (p.getD (x - 1) 0)=false from decide_eq_false z];refine⟨x,?_,Ak _,by omega,q⟩;show dS (ord π) (.ask (p.getD (x - 1) 0) (p.getD x 0) _)=_;rw[jH];have F:Kp π p (x - 1) < Kp π p x:=by
    have:=aDp hn hπ h (i:=x - 1) (j:=x) (by omega) (by omega) (by omega);omega
   rw[show ord π (p.getD (x - 1) 0) (p.getD x 0)=true from Ic F];rfl
omit hn hπ in
theorem aDr{p:Array Nat}{m k:Nat}(hm:m≤p.size)(q:k < m):(E3 p 0 m).getD k 0=p.getD (m - 1 - k) 0:=by
 unfold E3;rw[Bd,getElem?_mirror_all hm,Ib ⟨Bc _,q⟩,Bd];congr 2;omega
theorem aBV{p:Array Nat}(h:Pm n p){m:Nat}(h1:1≤m)(hm:m≤n)(z:KF π p m):∃ r,dS (ord π) (EZ m n p)=r∧1≤r.1∧r.1≤n∧Pm n r.2∧KS π r.2 r.1:=by
 have hz:=h.size;have q:Pm n (E3 p 0 m):=h.rev 0 m;have F:KS π (E3 p 0 m) m:=fun i j J B=>by
  show π _ < π _;rw[aDr (by omega) (by omega),aDr (by omega) B];have:=aDq z (j - i - 1) (m - 1 - j) (by omega);have e:m - 1 - j + (j - i - 1) + 1=m - 1 - i:=by omega
  rw[e]at this;exact this
 have ha:=p8 hn hπ q (n - m) m h1 (by omega) F;refine⟨_,rfl,?_⟩;unfold EZ;rw[iI];exact⟨by show 1≤dS (ord π) _;omega,by show dS (ord π) _≤n;omega,q,ha.2.2⟩
theorem aBW{p:Array Nat}(h:Pm n p):∃ r,dS (ord π) (E2 n p)=r∧1≤r.1∧r.1≤n∧Pm n r.2∧KS π r.2 r.1:=by
 unfold E2;rw[iI];have F:KS π p 1:=fun i j O W=>by omega
 have ha:=p8 hn hπ h (n - 1) 1 (Ak _) (by omega) F;generalize hm:dS (ord π) (kas_asc p (n - 1) 1)=m at ha ⊢;by_cases e:m=n
 ·rw[Ib (by rw[e];simp)];exact⟨(m,p),rfl,by show 1≤m;omega,by show m≤n;omega,h,ha.2.2⟩
 ·rw[Ia (by simpa using e)];by_cases q:m > 1
  ·rw[Ib q,jH];have J:Kp π p 0 < Kp π p (m - 1):=ha.2.2 0 (m - 1) (by omega) (by omega);rw[show ord π (p.getD 0 0) (p.getD (m - 1) 0)=true from Ic J];exact⟨(m,p),rfl,by show 1≤m;omega,by show m≤n;omega,h,ha.2.2⟩
  ·rw[Ia q];have U:m=1:=by omega
   subst U;unfold E4;rw[iI];have z:Kp π p 1 < Kp π p 0:=by
    by_cases hc:Kp π p 1 < Kp π p 0
    ·exact hc
    ·exfalso;obtain⟨g,hg⟩:∃ g,n - 1=g + 1:=⟨n - 2,by omega⟩
     rw[hg,kas_asc.eq_2,jH,show ord π (p.getD 1 0) (p.getD (1 - 1) 0)=false from decide_eq_false hc]at hm;have:=(p8 hn hπ h g 2 (by omega) (by omega) (aAT hn hπ h (Ak _) (by omega) F hc)).1;have M:dS (ord π) (kas_asc p g 2)=1:=hm;omega
   have B:KF π p 2:=fun j a b=>by
    have:j=1:=by omega
    subst this;exact z
   obtain⟨m2,e2,a2,b2,c2⟩:=xK hn hπ h (n - 2) 2 (by omega) (by omega) B;rw[show n - (1 + 1)=n - 2 from rfl,e2];dsimp only;rw[Ia (by omega)];exact aBV hn hπ h (by omega) (by omega) c2
theorem oS{p:Array Nat}(h:Pm n p){k:Nat}(J:k < n)(z:KS π p k):∀(f l r:Nat),l≤r→r≤k→r - l≤f→(∀ j,j < l→Kp π p j < Kp π p k)→(∀ j,r≤j→j < k→Kp π p k < Kp π p j)→
  ∃ m,dS (ord π) (kas_place p k f l r)=m∧m≤k∧(∀ j,j < m→Kp π p j < Kp π p k)∧∀ j,m≤j→j < k→Kp π p k < Kp π p j
 | 0,l,r,h1,h2,U,F,B=>by
  rw[kas_place.eq_1];have:l=r:=by omega
  subst this;exact⟨l,rfl,h2,F,B⟩
 | f + 1,l,r,h1,h2,U,F,B=>by
  rw[kas_place.eq_2];by_cases q:l ≥ r
  ·rw[Ib q];have:l=r:=by omega
   subst this;exact⟨l,rfl,h2,F,B⟩
  ·rw[Ia q,jH];have M:(l + r) / 2 < r∧l≤(l + r) / 2:=by omega
   by_cases hc:Kp π p k < Kp π p ((l + r) / 2)
   ·rw[show ord π (p.getD k 0) (p.getD ((l + r) / 2) 0)=true from Ic hc];show∃ m,dS (ord π) (kas_place p k f l ((l + r) / 2))=m∧_;refine oS h J z f l ((l + r) / 2) (by omega) (by omega) (by omega) F fun j a b=>?_;by_cases e:j=(l + r) / 2
    ·rw[e];exact hc
    ·exact CW hc (z _ _ (by omega) b)
   ·rw[show ord π (p.getD k 0) (p.getD ((l + r) / 2) 0)=false from decide_eq_false hc];show∃ m,dS (ord π) (kas_place p k f ((l + r) / 2 + 1) r)=m∧_;have O:Kp π p ((l + r) / 2) < Kp π p k:=by
     have:=aDp hn hπ h (i:=(l + r) / 2) (j:=k) (by omega) J (by omega);omega
    refine oS h J z f ((l + r) / 2 + 1) r (by omega) h2 (by omega) (fun j a=>?_) B;by_cases e:j=(l + r) / 2
    ·rw[e];exact O
    ·exact CW (z _ _ (by omega) (by omega)) O
theorem aAU:∀(f:Nat) {p:Array Nat} (k:Nat),Pm n p→k + f=n→KS π p k→Pm n (dS (ord π) (kas_bin f p k))∧KS π (dS (ord π) (kas_bin f p k)) n
 | 0,p,k,h,U,q=>by
  rw[kas_bin.eq_1];have:k=n:=by omega
  subst this;exact⟨h,q⟩
 | f + 1,p,k,h,U,q=>by
  rw[kas_bin.eq_2,iI];obtain⟨m,e,a,b,c⟩:=oS hn hπ h (by omega) q k 0 k (by omega) (Ak _) (by omega) (fun j z=>by omega) (fun j z y=>by omega);rw[e];refine aAU f (k + 1) (h.bub _ _) (by omega) fun i j B Z=>?_;have hz:=h.size;have at':∀ x,Kp π (bubble p k (k - m)) x=if x=m then Kp π p k else if m < x∧x≤k then Kp π p (x - 1) else Kp π p x:=fun x=>by
   show π _=_;rw[Bd,getElem?_bubble (by omega) (k - m) (by omega)];have W:k - (k - m)=m:=by omega
   rw[W]
   repeat' split
   all_goals (rw[← Bd])
  rw[at' i,at' j];have Y:∀ x y,x≤y→y < k→Kp π p x≤Kp π p y:=fun x y h1 h2=>by
   rcases Nat.lt_or_ge x y with z | z
   ·exact CD (q x y z h2)
   ·have:x=y:=by omega
    rw[this];exact Ak _
  by_cases M:i=m
  ·rw[Ib M,Ia (by omega),Ib (by omega)];exact c _ (by omega) (by omega)
  ·rw[Ia M];by_cases F:m < i∧i≤k
   ·rw[Ib F,Ia (by omega),Ib (by omega)];exact q _ _ (by omega) (by omega)
   ·rw[Ia F];by_cases J:j=m
    ·rw[Ib J];exact b _ (by omega)
    ·rw[Ia J];by_cases O:m < j∧j≤k
     ·rw[Ib O];have hi:i < m:=by omega
      rcases Nat.lt_or_ge i (j - 1)with z | z
      ·exact q _ _ z (by omega)
      ·omega
     ·rw[Ia O];exact q _ _ B (by omega)
theorem aDs:Pm n (dS (ord π) (Cg n))∧KS π (dS (ord π) (Cg n)) n:=by
 unfold Cg;rw[iI];obtain⟨r,e,a,b,c,d⟩:=aBW hn hπ (p:=(AV n).toArray) (Array.Perm.refl _);rw[e];by_cases q:r.1 < n
 ·rw[Ib q];have z:max r.1 1=r.1:=by omega
  rw[z];exact aAU hn hπ _ _ c (by omega) d
 ·rw[Ia q];have:r.1=n:=by omega
  rw[this]at d;exact⟨c,d⟩
end
theorem uM{α:Type}{p q:α→Bool}:∀{l:List α},(∀ x∈l,p x=true→q x=true)→(∃ x∈l,q x=true∧p x=false)→l.countP p < l.countP q
 | [],_,h=>by obtain⟨x,z,_⟩:=h;simp at z
 | a :: l,h1,h2=>by
  have le:l.countP p≤l.countP q:=List.countP_mono_left fun x z=>h1 x (AF _ z);rw[List.countP_cons,List.countP_cons];obtain⟨x,z,hq,hp⟩:=h2;rcases Aq.mp z with rfl | z
  ·rw[Ib hq,Ia (by rw[hp];simp)];omega
  ·have B:=uM (fun x z=>h1 x (AF _ z)) ⟨x,z,hq,hp⟩;by_cases ha:p a=true
   ·rw[Ib ha,Ib (h1 a AH ha)];omega
   ·rw[Ia ha];omega
theorem aEP{n:Nat}{o:Nat→Nat→Bool}(M:∀ i,o i i=false)(O:∀ i j k,o i j=true→o j k=true→o i k=true)(to:∀ i j,i < n→j < n→i≠j→o i j=true∨o j i=true):
  ∃ π:Nat→Nat,(∀ i j,i < n→j < n→o i j=ord π i j)∧∀ i j,i < n→j < n→π i=π j→i=j:=by
 let π:Nat→Nat:=fun i=>(AV n).countP fun k=>o k i
 have F:∀ i j,i < n→j < n→o i j=true→π i < π j:=fun i j hi q h=>uM (fun x _ U=>O x i j U h) ⟨i,BG.mpr hi,h,M i⟩;refine⟨π,fun i j hi q=>?_,fun i j hi q e=>?_⟩
 ·cases J:o i j with
  | true=>exact(Ic (F i j hi q J)).symm
  | false=>
   refine(decide_eq_false fun z=>?_).symm;by_cases e:i=j
   ·rw[e]at z;exact BO _ z
   ·rcases to i j hi q e with y | y
    ·rw[J]at y;cases y
    ·exact BO _ (CW z (F j i q hi y))
 ·by_cases B:i=j
  ·exact B
  ·rcases to i j hi q B with y | y
   ·have:=F i j hi q y;omega
   ·have:=F j i q hi y;omega
abbrev K3:=Int×Int×Str
def iC(x y:K3):Bool:=if x.1 == y.1 then(if x.2.1 == y.2.1 then(if x.2.2 == y.2.2 then false else decide (x.2.2.cps.toList < y.2.2.cps.toList)) else decide (x.2.1 < y.2.1)) else decide (x.1 < y.1)
theorem aDt(x:K3):iC x x=false:=by unfold iC;simp
theorem rT(x y:K3):iC x y=true↔x.1 < y.1∨x.1=y.1∧(x.2.1 < y.2.1∨x.2.1=y.2.1∧x.2.2.cps.toList < y.2.2.cps.toList):=by
 unfold iC;by_cases h1:x.1=y.1
 ·rw[Ib (by simpa using h1)];by_cases h2:x.2.1=y.2.1
  ·rw[Ib (by simpa using h2)];by_cases q:x.2.2=y.2.2
   ·rw[Ib (by simpa using q),q];constructor
    ·intro z;cases z
    ·rintro(z | ⟨_,z | ⟨_,z⟩⟩)
     ·omega
     ·omega
     ·exact absurd z (EA _)
   ·rw[Ia (by simpa using q),decide_eq_true_iff];constructor
    ·intro z;exact .inr ⟨h1,.inr ⟨h2,z⟩⟩
    ·rintro(z | ⟨_,z | ⟨_,z⟩⟩)
     ·omega
     ·omega
     ·exact z
  ·rw[Ia (by simpa using h2),decide_eq_true_iff];constructor
   ·intro z;exact .inr ⟨h1,.inl z⟩
   ·rintro(z | ⟨_,z | ⟨z,_⟩⟩)
    ·omega
    ·exact z
    ·exact absurd z h2
 ·rw[Ia (by simpa using h1),decide_eq_true_iff];constructor
  ·intro z;exact .inl z
  ·rintro(z | ⟨z,_⟩)
   ·exact z
   ·exact absurd z h1
theorem zR{x y z:K3}(h1:iC x y=true)(h2:iC y z=true):iC x z=true:=by
 rw[rT]at h1 h2 ⊢;rcases h1 with a | ⟨a,b | ⟨b,c⟩⟩ <;> rcases h2 with q | ⟨q,B | ⟨B,F⟩⟩
 ·exact .inl (by omega)
 ·exact .inl (by omega)
 ·exact .inl (by omega)
 ·exact .inl (by omega)
 ·exact .inr ⟨by omega,.inl (by omega)⟩
 ·exact .inr ⟨by omega,.inl (by omega)⟩
 ·exact .inl (by omega)
 ·exact .inr ⟨by omega,.inl (by omega)⟩
 ·exact .inr ⟨by omega,.inr ⟨by omega,List.lt_trans c F⟩⟩
theorem zS{x y:K3}(h:x≠y):iC x y=true∨iC y x=true:=by
 rw[rT,rT];by_cases h1:x.1=y.1
 ·by_cases h2:x.2.1=y.2.1
  ·have q:x.2.2≠y.2.2:=fun z=>h (Fh h1 (Fh h2 z));rcases D0 (x.2.2.cps.toList < y.2.2.cps.toList)with z | z
   ·exact .inl (.inr ⟨h1,.inr ⟨h2,z⟩⟩)
   ·rcases D0 (y.2.2.cps.toList < x.2.2.cps.toList)with z' | z'
    ·exact .inr (.inr ⟨h1.symm,.inr ⟨h2.symm,z'⟩⟩)
    ·exact absurd (p5 (DE (Cu.mp z') (Cu.mp z))) q
  ·rcases Int.lt_or_gt_of_ne h2 with z | z
   ·exact .inl (.inr ⟨h1,.inl z⟩)
   ·exact .inr (.inr ⟨h1.symm,.inl z⟩)
 ·rcases Int.lt_or_gt_of_ne h1 with z | z
  ·exact .inl (.inl z)
  ·exact .inr (.inl z)
abbrev k0:K3:=(0,0,"")
def xL(kk:List K3)(p:List Nat):Prop:=p.Perm (AV kk.length)∧(kk.Nodup→(p.map fun i=>kk.getD i k0).Pairwise fun a b=>iC a b=true)
theorem aDu{kk:List K3}(h:0 < kk.length):xL kk (dS (fun i j=>iC (kk.getD i k0) (kk.getD j k0)) (Cg kk.length)).toList:=by
 refine⟨Array.perm_iff_toList_perm.mp (h9.run _ (oQ h)),fun hn=>?_⟩;have ne:∀ i j,i < kk.length→j < kk.length→i≠j→kk.getD i k0≠kk.getD j k0:=fun i j hi z q e=>by
  rw[AW,AW,Ai hi,Ai z]at e;exact q ((DF hn).mp e)
 obtain⟨π,h1,h2⟩:=aEP (n:=kk.length) (o:=fun i j=>iC (kk.getD i k0) (kk.getD j k0)) (fun i=>aDt _) (fun i j k=>zR) (fun i j hi z q=>zS (ne i j hi z q));have e:dS (fun i j=>iC (kk.getD i k0) (kk.getD j k0)) (Cg kk.length)=dS (ord π) (Cg kk.length):=rS (n:=kk.length) (P:=Pm kk.length) h1 (oQ h);rw[e];obtain⟨hP,hS⟩:=aDs h h2;have hz:=hP.size;rw[List.pairwise_iff_getElem];intro i j hi z q;have M:i < kk.length:=by simpa[hz]using hi
 have B:j < kk.length:=by simpa[hz]using z
 have:=hS i j q B;have J:(dS (ord π) (Cg kk.length)).getD i 0=(dS (ord π) (Cg kk.length)).toList[i]'(by simpa using(by omega:i < (dS (ord π) (Cg kk.length)).size)):=by rw[nV (BJ (by omega))];simp
 have F:(dS (ord π) (Cg kk.length)).getD j 0=(dS (ord π) (Cg kk.length)).toList[j]'(by simpa using(by omega:j < (dS (ord π) (Cg kk.length)).size)):=by rw[nV (BJ (by omega))];simp
 rw[El,El,← J,← F];rw[h1 _ _ (hP.lt h i) (hP.lt h j)];exact Ic this
inductive aDv(h:A8)(v:Ac)(k:K3):Prop
 | mk (t:_) (u1:_) (u2:_) (u3:_) (q0:v=.ref t) (q1:DR h t #[.int k.1 u1,.int k.2.1 u2,.str k.2.2 u3]):aDv h v k
def zT(h:A8)(v:Ac)(k:K3):Prop:=aDv h v k
theorem zT.weak{h:A8}{v:Ac}{k:K3}(x:zT h v k):aHC h v:=by
 obtain⟨t,u1,u2,u3,e,ht⟩:=x;exact⟨t,k.1,k.2.1,k.2.2,u1,u2,u3,e,ht⟩
section
variable{prog:Ay}{w:AQ}{A:AL}{E:Ac→Ad→Prop}{s:Ad}
theorem aIo{z:Bool}{Y W:Ac}{x y:K3}{C:Bool→Ad→Prop}(M:zT s.heap Y x)(J:zT s.heap W y)(h:C (iC x y) s):wpAny (model prog w) A (keyLt' (tuples' z) Y W) C E s:=by
 obtain⟨a1,b1,c1⟩:=x;obtain⟨a2,b2,c2⟩:=y;obtain⟨p1,t1,t2,t3,rfl,M⟩:=M;obtain⟨p2,u1,u2,u3,rfl,J⟩:=J;dsimp only at M J;unfold iC at h;dsimp only at h;show wpAny _ _ (CG (.ref p1) >>= _) _ _ _;refine Aa (oR M ?_);refine Aa (oR J ?_);dsimp only[List.zip_cons_cons,List.zipIdx_cons,List.zip_nil_left];rw[List.zipIdx_nil];have U:∀{Q:Bool→Ad→Prop} {a b:Int} {t u:Tok},Q (a == b) s→wpAny (model prog w) A (eqBool (.int a t) (.int b u)) Q E s:=fun{Q a b t u} q=>zJ (y:=.int a) (x:=.int b) ⟨t,rfl⟩ ⟨u,rfl⟩ rfl rfl prog w _ _ q;have Z:∀{Q:Bool→Ad→Prop} {a b:Str} {t u:Tok},Q (a == b) s→wpAny (model prog w) A (eqBool (.str a t) (.str b u)) Q E s:=fun{Q a b t u} q=>DP a t b u prog w _ _ q;refine Aa ?_;rw[Dd];refine Aa (Aa (U ?_));cases hz:(a1 == a2)with
 | false=>
  rw[hz]at h;refine Bv (by decide) ?_;refine Aa ?_;show wpAny _ _ (oneLt' (z && 0 == 0) (Bs a1 t1) (Bs a2 u1)) _ _ _;cases z
  ·exact aAR (Af (Af (Af h)))
  ·exact oneLt_int (Af (Af (Af h)))
 | true=>
  rw[hz,Ib rfl]at h;refine AA (by decide) (Af ?_);dsimp only;rw[Dd];refine Aa (Aa (U ?_));cases F:(b1 == b2)with
  | false=>
   rw[F]at h;refine Bv (by decide) ?_;refine Aa ?_;have O:(z && ((0 + 1:Nat) == 0))=false:=by cases z <;> rfl
   show wpAny _ _ (oneLt' (z && (0 + 1 == 0)) (Bs b1 t2) (Bs b2 u2)) _ _ _;rw[O];exact aAR (Af (Af (Af h)))
  | true=>
   rw[F,Ib rfl]at h;refine AA (by decide) (Af ?_);dsimp only;rw[Dd];refine Aa (Aa (Z ?_));cases B:(c1 == c2)with
   | false=>
    rw[B]at h;refine Bv (by decide) ?_;refine Aa ?_;have O:(z && ((0 + 1 + 1:Nat) == 0))=false:=by cases z <;> rfl
    show wpAny _ _ (oneLt' (z && (0 + 1 + 1 == 0)) (Bp c1 t3) (Bp c2 u3)) _ _ _;rw[O];exact aEO (Af (Af (Af h)))
   | true=>
    rw[B,Ib rfl]at h;refine AA (by decide) (Af ?_);dsimp only;rw[List.forIn_nil];exact Af (Af h)
theorem rV{ks its:List Ac}(q:ks.length=its.length)(i:Nat):kas_item (ks.toArray.zip its.toArray) i=(ks.getD i .none,its.getD i .none):=by
 unfold kas_item;by_cases h:i < ks.length
 ·have hz:i < (ks.toArray.zip its.toArray).size:=by simp[q];omega
  rw[Bd,BJ hz,AW,AW,Ai h,Ai (by omega)];simp
 ·have hz:¬ i < (ks.toArray.zip its.toArray).size:=by simp[q];omega
  rw[Bd,DJ (by omega),AW,AW,AK (by omega),AK (by omega)];rfl
theorem aHH{b:Bool}{ks its:List Ac}{kk:List K3}{Q:Unit×EC→Ad→Prop}(F:ks.length=its.length)(J:kk.length=its.length)(h2:2≤its.length)(O:its.length < 64)(U:∀ i,i < its.length→zT s.heap (ks.getD i .none) (kk.getD i k0))
  (h:∀(st:EC) (p:List Nat),xL kk p→(arrOf st).map (·.2)=(p.map fun i=>its.getD i .none).toArray→failedOf st=none→Q ((),st) s):wpAny (model prog w) A (sortRuns'.run (SortSt.mk' (tuples' b) (ks.toArray.zip its.toArray) #[] 7 none)) Q E s:=by
 have hz:(ks.toArray.zip its.toArray).size=its.length:=by simp[F]
 have B:=kas_runs (prog:=prog) (w:=w) (A:=A) (E:=E) (κ:=tuples' b) (it:=ks.toArray.zip its.toArray) (n:=its.length) (s:=s) (Q:=fun u st s'=>s'=s∧Q (u,st) s) (G:=fun p s'=>p=dS (fun i j=>iC (kk.getD i k0) (kk.getD j k0)) (Cg its.length)∧s'=s) h2 O (fun p' M s' Y ha hf hG=>?_)
  (h9.wpO (n:=its.length) (P:=Pm its.length) (o:=fun i j=>iC (kk.getD i k0) (kk.getD j k0)) (fun i j C hi hj Z=>?_) (oQ (by omega)) ⟨rfl,rfl⟩)
 ·have e1:kas_st (tuples' b) (ks.toArray.zip its.toArray) (AV its.length).toArray=SortSt.mk' (tuples' b) (ks.toArray.zip its.toArray) #[] 7 none:=by
   unfold kas_st;have:=kas_range (ks.toArray.zip its.toArray);rw[hz]at this;rw[this]
  rw[e1]at B;exact B4 B (fun r s' z=>by
   obtain⟨rfl,q⟩:=z;exact q) fun e s' z=>z
 ·obtain⟨rfl,rfl⟩:=hG;have W:=aDu (kk:=kk) (by omega);rw[J]at W;refine⟨rfl,h M _ W ?_ hf⟩;rw[ha];apply CA.mp;rw[Array.map_map,Array.toList_map];show _=ER _ _;refine D8 fun i _=>?_;show(kas_item (ks.toArray.zip its.toArray) i).2=_;rw[rV F]
 ·unfold kas_cmp;rw[rV F,rV F];exact aIo (U i hi) (U j hj) Z
end
section
variable{prog:Ay}{w:AQ}{A:AL}{E:Ac→Ad→Prop}{s:Ad}
theorem aIp{a kS:Ae}{ks its:List Ac}{kk:List K3}{e e1:Nat}{P:PySem.Fin→Ad→Prop}(ha:s.heap.get? a=some (seqObj "list" #[] e1))(hk:s.heap.get? kS=some (seqObj "list" ks.toArray e))(aa:a≠kS)(hl:ks.length=its.length)(M:its.length < 64)(U:kk.length=its.length)(hK:∀ i,i < its.length→zT s.heap (ks.getD i .none) (kk.getD i k0))
  (h:∀ p:List Nat,xL kk p→P (Fin.done (Fi BS)) { s with heap:=(s.heap.update kS (Bf fun _=>#[])).update a (Bf fun _=>(p.map fun i=>its.getD i .none).toArray) }):wpAny (model prog w) A (ksk_end a false its.toArray e1 (.ref kS) ks.toArray) P E s:=by
 have z:∀ n:Nat,n < 64→n≤sizeLine:=fun n hn=>aM (by omega);have J:(ks.toArray.zip its.toArray).size=its.length:=by simp[hl]
 have O:∀(st:EC) (p:List Nat),xL kk p→(arrOf st).map (·.2)=(p.map fun i=>its.getD i .none).toArray→failedOf st=none→wpAny (model prog w) A (ksk_tail a false e1 (.ref kS) st) P E s:=fun st p W B hf=>by
  have Y:=W.1.length_eq;rw[CS]at Y;have Z:(arrOf st).size=its.length:=by
   have h1:((arrOf st).map (·.2)).size=(arrOf st).size:=Array.size_map ..
   have h2:(p.map fun i=>its.getD i BS).toArray.size=p.length:=by simp
   rw[B]at h1;omega
  refine aHE ha hk aa (by rw[Ao];exact z _ (by omega)) (by rw[Z];exact z _ M) hf ?_;rw[B];exact h p W
 unfold ksk_end;dsimp only;by_cases h2:its.length < 2
 ·have q:its.toArray.size < 2:=by simpa using h2
  rw[Ia Aw,Ib q];refine Aa (Af ?_);rw[Ib q,Ia Aw];refine Aa (Af ?_);refine O _ (AV its.length) ⟨by rw[U],fun _=>?_⟩ ?_ rfl
  ·rw[List.pairwise_iff_getElem];intro i j hi F ag;simp at hi F;omega
  ·show(ks.toArray.zip its.toArray).map (·.2)=_
   apply CA.mp;rw[Array.toList_map,Array.toList_zip];show ER Prod.snd (ks.zip its)=_;rw[List.map_snd_zip (by omega)];apply B7;intro j;rw[AI];by_cases F:j < its.length
   ·rw[Dh F,Ai F];simp[F]
   ·rw[AK (by omega),AK (by simpa using F)];rfl
 ·have q:¬ its.toArray.size < 2:=by simpa using h2
  rw[Ia Aw,Ia q];refine Aa (aHD (fun v hv=>?_) fun b=>?_)
  ·obtain⟨i,hi,rfl⟩:=DT.mp hv;have:=(hK i (by omega)).weak;rw[AW,Ai hi]at this;exact this
  rw[Ia q,Ia Aw];exact Aa (aHH hl U (by omega) M hK fun st p W B hf=>O st p W B hf)
end
section
variable{X:Cx}{bd:List (Ae×Obj)}{σ:St}
inductive aAV(H:Hp)(v:Ac)(k:K3):Prop
 | mk (t:_) (q0:v=.ref t) (q1:H t=some (.tup [.int k.1,.int k.2.1,.str k.2.2])):aAV H v k
def aDw(H:Hp)(v:Ac)(k:K3):Prop:=aAV H v k
theorem aDw.real{H:Hp}{s:Ad}{v:Ac}{k:K3}(I:Inv X bd σ H s)(h:aDw H v k):zT s.heap v k:=by
 obtain⟨t,rfl,ht⟩:=h;obtain⟨_,its,q,hT⟩:dB X.prog X.w H s.heap t (.tup [.int k.1,.int k.2.1,.str k.2.2]):=I.hok _ _ ht;cases q with
 | cons F q=>
  cases q with
  | cons z q=>
   cases q with
   | cons B q=>
    cases q;obtain⟨u1,e1⟩:=F;obtain⟨u2,e2⟩:=z;obtain⟨u3,e3⟩:=B;subst e1 e2 e3;exact⟨t,u1,u2,u3,rfl,hT⟩
structure KsX(KR:V→K3→Prop)(H:Hp)(xd:List V)(ks:List Ac)(kk:List K3):Prop where
 len:ks.length=xd.length∧kk.length=xd.length
 key:∀ i,i < xd.length→aDw H (ks.getD i .none) (kk.getD i k0)
 kr:∀ i,i < xd.length→KR (xd.getD i .non) (kk.getD i k0)
theorem KsX.nil{KR:V→K3→Prop}{H:Hp}:KsX KR H [] [] []:=⟨⟨rfl,rfl⟩,fun i hi=>by simp at hi,fun i hi=>by simp at hi⟩
theorem KsX.same{KR:V→K3→Prop}{H H':Hp}{xd:List V}{ks:List Ac}{kk:List K3}(h:KsX KR H xd ks kk)(s:bA H H'):KsX KR H' xd ks kk:=
 ⟨h.len,fun i hi=>by obtain⟨t,e,ht⟩:=h.key i hi;exact⟨t,e,s _ _ ht⟩,h.kr⟩
theorem lO{α:Type}(l:List α)(x d:α)(i:Nat):(l ++ [x]).getD i d=if i < l.length then l.getD i d else if i=l.length then x else d:=by
 rw[AW,AW];by_cases h:i < l.length
 ·rw[Ib h,List.getElem?_append_left h]
 ·rw[Ia h,List.getElem?_append_right (by omega)];by_cases h2:i=l.length
  ·rw[Ib h2,h2];simp
  ·rw[Ia h2,AK (by simp;omega)];rfl
theorem KsX.snoc{KR:V→K3→Prop}{H:Hp}{xd:List V}{ks:List Ac}{kk:List K3}{y:V}{a b:Int}{c:Str}{t:Ae}(h:KsX KR H xd ks kk)(q:KR y (a,b,c))(ht:H t=some (.tup [.int a,.int b,.str c])):KsX KR H (xd ++ [y]) (ks ++ [AO t]) (kk ++ [(a,b,c)]):=by
 obtain⟨l1,l2⟩:=h.len;refine⟨⟨by simp[l1],by simp[l2]⟩,fun i hi=>?_,fun i hi=>?_⟩
 ·rw[lO,lO,l1,l2];by_cases h1:i < xd.length
  ·rw[Ib h1,Ib h1];exact h.key i h1
  ·have:i=xd.length:=by simp at hi;omega
   rw[Ia h1,Ia h1,Ib this,Ib this];exact⟨t,rfl,ht⟩
 ·rw[lO,lO,l2];by_cases h1:i < xd.length
  ·rw[Ib h1,Ib h1];exact h.kr i h1
  ·have:i=xd.length:=by simp at hi;omega
   rw[Ia h1,Ia h1,Ib this,Ib this];exact q
theorem aBX{k:Nat}{f:Ae}{fd:AD}{x:Str}{sp:Sp}{A':AL}{E:Ac→Ad→Prop}(F:cH X.prog X.w X.K X.mg X.base CX0 k f fd [x] sp)(hr:cF k A')(hA:A'.frames=some X.stack)(Z:eV X.K fd [x] [])
  {D kS:Ae} {H0:Hp} {e1:Nat} {xs:List V} {KR:V→K3→Prop} (fD:∀ H',H' D=none→kQ X bd H' D) (fK:∀ H',H' kS=none→kQ X bd H' kS) (an:D≠kS)
  (aa:∀ y∈xs,∀(H':Hp) (Q:VK),bA H0 H'→(∀ t a b c B,bA H' B→B t=some (.tup [.int a,.int b,.str c])→KR y (a,b,c)→Q (.ref t) B)→sp [y] H' Q E0) {er:Ac→Ac→Sem (ForInStep PUnit)} {Q:Ad→Prop}
  {M:Ac→PUnit→Sem (ForInStep PUnit)} (W:∀ v u,M v u=(do
   let r ← (call (.ref f) [v]).attempt
   match r with
   | Except.ok k=>do
    Dl (.ref kS) fun x=>x.push k
    pure (B0 EX)
   | Except.error e=>er v e)):
  ∀(cS:List Ac) (xr:List V) (s:Ad) (H:Hp) (ks:List Ac) (kk:List K3) (xd:List V) (e:Nat),cE xr cS→(∀ y∈xr,y∈xs)→Inv X bd σ H s→bA H0 H→H D=none→H kS=none→s.heap.get? D=some (seqObj "list" #[] e1)→s.heap.get? kS=some (seqObj "list" ks.toArray e)→KsX KR H xd ks kk→ks.length + cS.length < 64→
   (∀(s':Ad) (H':Hp) (O:List Ac) (ao:List K3) (e':Nat),Inv X bd σ H' s'→bA H0 H'→H' D=none→H' kS=none→s'.heap.get? D=some (seqObj "list" #[] e1)→s'.heap.get? kS=some (seqObj "list" O.toArray e')→KsX KR H' (xd ++ xr) O ao→O.length=ks.length + cS.length→Q s')→
   wpAny (model X.prog X.w) A' (forIn cS EX M) (fun _ s'=>Q s') E s:=by
 intro cS
 induction cS with
 | nil=>
  intro xr s H ks kk xd e r J I S hD hK gD gK hk ac q;rw[List.forIn_nil];cases r;exact Af (q s H ks kk e I S hD hK gD gK (by rw[Cm];exact hk) rfl)
 | cons v cS ih=>
  intro xr s H ks kk xd e r J I S hD hK gD gK hk ac q;rw[A0]at ac;cases r with
  | @cons y _ am _ r1 r2=>
  rw[Dd,W];refine Aa (Aa (DN ?_));have I3:Inv X ((D,seqObj "list" #[] e1) :: (kS,seqObj "list" ks.toArray e) :: bd) σ H s:=I.pins_of fun p Y=>by
   rcases Aq.mp Y with z | Y
   ·subst z;exact⟨gD,hD,(fD H hD).2.1,(fD H hD).2.2.1,fun v z=>by cases z⟩
   ·rcases Aq.mp Y with z | Y
    ·subst z;exact⟨gK,hK,(fK H hK).2.1,(fK H hK).2.2.1,fun v z=>by cases z⟩
    ·exact I.pin p (AR _ Y)
  have e0:aCF X.prog X.w X.K X.mg X.base A' X.stack s H:=⟨hA,I.env0.mod,I.env0.bs,I.env0.bsz,I.env0.funs,I.env0.frf,I.env0.hok,I.env0.bare⟩
  refine Df (CJ (F.run A' X.stack s H ⟨[v],[]⟩ [v] [y] (fun u B=>∃ t a b c,u=.ref t∧B t=some (.tup [.int a,.int b,.str c])∧bA H B∧KR y (a,b,c)) E0 hr e0 (Z s [v] I.kIn rfl) (.cons r1 .nil)
   (aa y (J y AH) H _ S fun t a b c B s2 h2 U=>⟨t,a,b,c,rfl,h2,s2,U⟩)) fun r s' hq=>?_)
  cases r with
  | error e=>exact BV hq
  | ok fl=>
   cases fl with
   | next=>exact BV hq
   | brk=>exact BV hq
   | cont=>exact BV hq
   | ret u=>
    obtain⟨vv,H',I',r',t,a,b,c,rfl,ht,S',U⟩:=I3.after hq;cases r';obtain⟨gD',hD',_⟩:=I'.pin (D,seqObj "list" #[] e1) (AR _ AH);obtain⟨gK',hK',_⟩:=I'.pin (kS,seqObj "list" ks.toArray e) (AR _ (AF _ AH));have I4:Inv X bd σ H' s':=I'.pins_of fun p Y=>I'.pin p (AR _ (AF _ (AF _ Y)));refine Aa (Ej gK' rfl ?_ (aM (by rw[Ao];omega)) (by rw[Array.size_push,Ao];exact Nat.le_succ_of_le (aM (by omega))));refine Af ?_;have ah:=get?_update_seq gK' (fun x=>x.push (.ref t));have ep:(ks.toArray.push (.ref t))=(ks ++ [AO t]).toArray:=by simp
    rw[ep]at ah;have I5:Inv X bd σ H' { s' with heap:=s'.heap.update kS (Bf fun x=>x.push (.ref t)) }:=I4.turnedL (t':=s'.toks) (fp:=[kS]) (fun b o Z e=>by
     rw[BI _ _ _ _ (fun z=>Z (by simp[z]))];exact e) fun b Z=>by
      rw[Br.mp Z];exact fK H' hK'
    refine ih am _ H' (ks ++ [AO t]) (kk ++ [(a,b,c)]) (xd ++ [y]) _ r2 (fun y hy=>J y (AF _ hy)) I5 (S.trans S') hD' hK' ?_ ah ((hk.same S').snoc U ht) (by rw[An,DQ];omega) fun ap B af ag ak a1 a2 a3 a4 a5 a6 a7 a8=>?_
    ·show(s'.heap.update kS _).get? D=_;rw[BI _ _ _ _ an];exact gD'
    ·refine q ap B af ag ak a1 a2 a3 a4 a5 a6 ?_ (by rw[a8,An,DQ,A0];omega);rw[BU]at a7;exact a7
end
section
variable{X:Cx}{bd:List (Ae×Obj)}{σ:St}{H:Hp}{s:Ad}
theorem xM{k:Nat}{f l:Ae}{fd:AD}{x:Str}{sp:Sp}{xs:List V}{its:List Ac}{KR:V→K3→Prop}{Q:VK}{E:Ac→Ad→Prop}(F:cH X.prog X.w X.K X.mg X.base CX0 k f fd [x] sp)(hr:cF (k + 2) X.A)(hb:eV X.K fd [x] [])
  (I:Inv X bd σ H s) (rv:cE xs its) (an:∀(B:AL) (Q':List Ac→Ad→Prop) (E':Ac→Ad→Prop),B.handled=none→(∀(h1:A8) (tk:Nat),(∀ b u,s.heap.get? b=some u→h1.get? b=some u)→s.heap.objs.size≤h1.objs.size→Q' its { s with heap:=h1,toks:=tk })→wpAny (model X.prog X.w) B (collect (.ref l)) Q' E' s) (a0:xs.length < 64)
  (ak:∀ y∈xs,∀(H':Hp) (Q:VK),bA H H'→(∀ t a b c af,bA H' af→af t=some (.tup [.int a,.int b,.str c])→KR y (a,b,c)→Q (.ref t) af)→sp [y] H' Q E0)
  (q:∀ D (kk:List K3) (p:List Nat) H',bA H H'→H D=none→kk.length=xs.length→(∀ i,i < xs.length→KR (xs.getD i .non) (kk.getD i k0))→xL kk p→H' D=some (.lst (p.map fun i=>xs.getD i .non))→Q (.ref D) H'):
  wpAny (model X.prog X.w) X.A (call (.builtin "sorted") [.ref l] [(A5 "key",.ref f)]) (EP X bd σ Q) E s:=by
 have aP:=rv.length;have zz:its.length≤sizeLine:=aM (by omega);refine call_function_entry_kw kind_sorted plain_sorted entry_sorted (ksk_s1 _ _) ?_;refine Aa (Af ?_);refine Aa (an _ _ _ hr.hd fun h1 tk aq ah=>?_);refine Aa (ET ?_ zz);dsimp only;obtain⟨D,hD⟩:∃ D,D=h1.objs.size:=⟨_,rfl⟩
 have J:(h1.push (seqObj "list" its.toArray 0)).get? D=some (seqObj "list" its.toArray 0):=by
  rw[hD];exact Ax _ rfl
 have Y:∀ b o,s.heap.get? b=some o→(h1.push (seqObj "list" its.toArray 0)).get? b=some o:=fun b o e=>Ah _ (aq b o e);have aa:(h1.push (seqObj "list" its.toArray 0)).objs.size=D + 1:=by rw[size_push',hD]
 change wpAny _ _ (do let _ ← holding [AO h1.objs.size] (call (.builtin "list.sort") [AO h1.objs.size] [(A5 "key",.ref f)]);ret (AO h1.objs.size)) _ _ { s with heap:=h1.push (seqObj "list" its.toArray 0),toks:=tk };rw[← hD];generalize h1.push (seqObj "list" its.toArray 0)=h2 at J Y aa ⊢;have ac:s.heap.objs.size≤D:=by rw[hD];exact ah
 refine Aa (Bi (wpAny_call_entry_kw slot_list_sort ⟨_,J,rfl⟩ entry_list_sort ?_ (ksk_l1 _ _)));rw[ksk_t1];unfold ksk_tree;refine Aa (listItems_at J rfl ?_);refine Aa (Ej J rfl ?_ (by rw[Ao];exact zz) (Bc _));have M:=get?_update_seq J (fun _=>#[]);generalize (if ((#[]:Array Ac).size == its.toArray.size)=true then 0 else 0 + 1)=e1 at M;have ab:∀ b o,s.heap.get? b=some o→(h2.update D (Bf fun _=>#[])).get? b=some o:=fun b o e=>by
  rw[BI _ _ _ _ (AJ (AS (Az e) ac))];exact Y b o e
 have W:(h2.update D (Bf fun _=>#[])).objs.size=D + 1:=by rw[Heap.size_update,aa]
 dsimp only;generalize h2.update D (Bf fun _=>#[])=h3 at M ab W ⊢;refine Aa (seqEpoch_at M rfl ?_);refine Aa (wpAny_newTuple ?_ (by simpa using zz));refine Aa (ET ?_ (Bc _));dsimp only;refine Bi ?_;obtain⟨kS,hkS⟩:∃ kS,kS=(h3.push { cls:=AX "tuple",data:=Da its.toArray.toList.toArray }).objs.size:=⟨_,rfl⟩
 have aj:((h3.push { cls:=AX "tuple",data:=Da its.toArray.toList.toArray }).push { cls:=AX "list",data:=Da ([]:List Ac).toArray }).get? kS=some (seqObj "list" ([]:List Ac).toArray 0):=by
  rw[hkS];exact Ax _ rfl
 have ai:((h3.push { cls:=AX "tuple",data:=Da its.toArray.toList.toArray }).push { cls:=AX "list",data:=Da ([]:List Ac).toArray }).get? D=some (seqObj "list" #[] e1):=Ah _ (Ah _ M);have U:∀ b o,s.heap.get? b=some o→((h3.push { cls:=AX "tuple",data:=Da its.toArray.toList.toArray }).push { cls:=AX "list",data:=Da ([]:List Ac).toArray }).get? b=some o:=fun b o e=>Ah _ (Ah _ (ab b o e));have Z:kS=D + 2:=by rw[hkS,BH,W]
 rw[← hkS];generalize (h3.push { cls:=AX "tuple",data:=Da its.toArray.toList.toArray }).push { cls:=AX "list",data:=Da ([]:List Ac).toArray }=h4 at aj ai U ⊢;have ae:D≠kS:=AJ (by rw[Z];exact Bh (BD _));have I4:Inv X bd σ H { s with heap:=h4,toks:=tk }:=I.kept (t':=tk) U;have lD:s.heap.objs.size≤D:=ac;have lK:s.heap.objs.size≤kS:=by rw[Z];exact A3 ac (Nat.le_add_right _ _)
 have nD:H D=none:=I.hok.fresh lD;have nK:H kS=none:=I.hok.fresh lK;have fD:∀ H',H' D=none→kQ X bd H' D:=fun H' hn=>I.fpOk lD hn;have fK:∀ H',H' kS=none→kQ X bd H' kS:=fun H' hn=>I.fpOk lK hn;unfold ksk_rest;refine Aa (CH ?_);refine Aa ?_;rw[← Array.forIn_toList];have aB:cF k X.A.in1.in1:=(hr.in1).in1;refine aBX (KR:=KR) (X:=X) (bd:=bd) (σ:=σ) (A':=X.A.in1.in1) F aB I.ok.frames hb (D:=D) (kS:=kS) (H0:=H) (e1:=e1) (xs:=xs) fD fK ae ak (er:=fun v e=>do
     rule "list.sort.key-raised"
     let am ← CG (.ref kS)
     Dl (.ref kS) fun x=>#[]
     letGo am.toList.reverse [e]
     Dl (AO D) fun x=>its.toArray
     throw e
     pure (B0 EX)) (fun v u=>by congr 1) its xs _ H [] [] [] 0 rv (fun y hy=>hy) I4 (bA.refl H) nD nK ai aj KsX.nil (by simp;omega) ?_
 intro s' H' ks kk e' I' S ag ay ap ao O ba;rw[List.nil_append]at O;obtain⟨z1,z2⟩:=O.len;refine Aa (listItems_at ao rfl ?_);refine aIp (kk:=kk) ap ao ae (by omega) (by omega) (by omega) (fun i hi=>(O.key i (by omega)).real I') fun p ho=>?_;refine⟨_,rfl,Af ⟨_,rfl,?_⟩⟩;have az:∀ i∈p,i < xs.length:=fun i hi=>by
  have:=ho.1.mem_iff.mp hi;rw[BG]at this;omega
 have aw:=uL rv p az;have I6:Inv X bd σ H' { s' with heap:=(s'.heap.update kS (Bf fun _=>#[])).update D (Bf fun _=>(p.map fun i=>its.getD i .none).toArray) }:=I'.turnedL (t':=s'.toks) (fp:=[kS,D]) (fun b o hb e=>by
  rw[BI _ _ _ _ (fun z=>hb (by simp[z])),BI _ _ _ _ (fun z=>hb (by simp[z]))];exact e) fun b hb=>by
   simp only[Aq,AB,or_false]at hb;rcases hb with rfl | rfl
   ·exact fK H' ay
   ·exact fD H' ag
 have aE:((s'.heap.update kS (Bf fun _=>#[])).update D (Bf fun _=>(p.map fun i=>its.getD i .none).toArray)).get? D=_:=get?_update_seq (c:="list") (xs:=#[]) (n:=e1) (by
  rw[BI _ _ _ _ ae];exact ap) fun _=>(p.map fun i=>its.getD i .none).toArray
 have au:=ho.1.length_eq;rw[CS]at au;have av:(p.map fun i=>xs.getD i V.non).length≤sizeLine:=aM (by rw[Ab];omega);exact⟨.ref D,_,I6.track (ob:=.lst (p.map fun i=>xs.getD i .non)) (fD H' ag) ⟨av,_,_,aw,aE⟩,rfl,q D kk p _ (S.trans (aS ag)) nD (by omega) (fun i hi=>O.kr i hi) ho aJ⟩
end
section
variable{X:Cx}{bd:List (Ae×Obj)}{σ:St}{H:Hp}{s:Ad}{a:Ae}{de:List (Key×V)}{k:Key}{u r:Ac}{A:AL}{E:Ac→Ad→Prop}
end
section
variable{X:Cx}{o e f:A6}{dt dj:Pos}{td ty tx:TE}
end
def aFK(v d:Ae):HO:=.ext fun h=>h.IsValuesView v d
section
variable{X:Cx}{o:A6}{dt dj:Pos}{td:TE}
end
section
variable{prog:Ay}{w:AQ}{A:AL}{v d:Ae}{vs:List (Key×Ac)}
theorem rW(hh:A.handled=none){E:Ac→Ad→Prop}{s:Ad}{Q:List Ac→Ad→Prop}(hv:s.heap.IsValuesView v d)(hm:s.heap.DictOf (cJ prog w) d vs)(hz:vs.length≤1000)
  (h:∀(h':A8) (tk:Nat),(∀ b u,s.heap.get? b=some u→h'.get? b=some u)→s.heap.objs.size≤h'.objs.size→Q (vs.map (·.2)) { s with heap:=h',toks:=tk }):wpAny (model prog w) A (collect (.ref v)) Q E s:=by
 obtain⟨ov,hov,hcv,hdv⟩:=id hv;obtain⟨od,es,ep,hod,hrest⟩:=id hm;have aj:=Az hov;have U:=Az hod;unfold collect;apply Aa;apply Ec;apply BZ F.entry_proto_collect;rw[BM F.plain_proto_collect];show wpAny _ A.in1 (newList [] >>= fun l=>again (.builtin "list.__iadd__" ⟨[l,.ref v],[]⟩)) _ _ s;apply Aa;refine Bq (Af ⟨Di DG _,BZ F.entry_list_iadd ?_⟩);rw[BM DG];have Y:(s.heap.push { cls:=.type "list",data:=.seq ([]:List Ac).toArray }).get? v=some ov:=Ah _ hov;have aa:(s.heap.push { cls:=.type "list",data:=.seq ([]:List Ac).toArray }).get? d=some od:=Ah _ hod;have ar:(s.heap.push { cls:=.type "list",data:=.seq ([]:List Ac).toArray }).get? s.heap.objs.size=some { cls:=.type "list",data:=.seq ([]:List Ac).toArray }:=Ax _ rfl;have e1:Builtin.List.listSameRef (.ref s.heap.objs.size) (.ref v)=false:=by
  show(s.heap.objs.size == v)=false;simpa using B9 aj
 show wpAny _ A.in1 (Cc (.ref s.heap.objs.size) (.ref v) (.ref s.heap.objs.size)) _ _ _;unfold Cc;refine Aa (BR (T:="dict_values") ⟨ov,Y,hcv⟩ ?_);rw[Ia (by rw[e1];decide)];refine Aa (wpAny_pyIter_values (kvs:=vs) (ep:=ep) (knd:=cJ prog w) ⟨ov,Y,hcv,hdv⟩ ⟨od,es,aa,hrest⟩ ?_);have ao:(s.heap.push { cls:=.type "list",data:=.seq ([]:List Ac).toArray }).objs.size=s.heap.objs.size + 1:=BH _ _;obtain⟨I,hI⟩:∃ I,I=(s.heap.push { cls:=.type "list",data:=.seq ([]:List Ac).toArray }).objs.size:=⟨_,rfl⟩
 dsimp only;have gI:((s.heap.push { cls:=.type "list",data:=.seq ([]:List Ac).toArray }).push { cls:=.type "dict_valueiterator",data:=.fields #[.ref d,.int 0 0,.int vs.length 0,.int ep 0] }).get? I=some { cls:=.type "dict_valueiterator",data:=.fields #[.ref d,.int 0 0,.int vs.length 0,.int ep 0] }:=by
  rw[hI];exact Ax _ rfl
 have z:∀ b u,(s.heap.push { cls:=.type "list",data:=.seq ([]:List Ac).toArray }).get? b=some u→((s.heap.push { cls:=.type "list",data:=.seq ([]:List Ac).toArray }).push { cls:=.type "dict_valueiterator",data:=.fields #[.ref d,.int 0 0,.int vs.length 0,.int ep 0] }).get? b=some u:=fun b u e=>Ah _ e;rw[← hI];generalize (s.heap.push { cls:=.type "list",data:=.seq ([]:List Ac).toArray }).push { cls:=.type "dict_valueiterator",data:=.fields #[.ref d,.int 0 0,.int vs.length 0,.int ep 0] }=h2 at gI z ⊢;have Z:=z _ _ Y;have ah:=z _ _ aa;have af:=z _ _ ar;have J:I=s.heap.objs.size + 1:=by rw[hI,ao]
 refine Aa (Bi ?_);unfold Builtin.List.listLengthHint;refine Aa (Dp (T:="dict_values") ⟨ov,Z,hcv⟩ F.slot_dict_values_len.lookup ?_);generalize ab:("dict_values.__len__":String)=am
 wp_delta
 rw[show splitId am=some ("dict_values","__len__") from by subst ab;decide];subst ab;refine Aa (BE (b:=true) (T:="dict_values") ⟨ov,Z,hcv⟩ (by rw[EM];kernel_rfl) ?_);refine AA (by rfl) ?_;refine Bv (by decide) ?_;refine Aa (BR (T:="dict_values") ⟨ov,Z,hcv⟩ ?_);refine Af ?_;refine Bv (by decide) ?_;refine Aa (CH ?_);have ak:d≠I:=by rw[J];exact AJ (Bh U)
 have ap:s.heap.objs.size ∉ [I,d]:=by
  rw[J];simp only[Aq,AB,or_false,not_or];exact⟨AJ (BD _),B9 U⟩
 apply Aa;show wpAny _ A.in1 (updateSeq s.heap.objs.size (·.push .none) >>= fun _=>updateSeq s.heap.objs.size (·.pop)) _ _ _
 apply Aa;refine D1 af rfl ?_;have ac:=Bu (Bf (·.push BS)) af rfl
 refine D1 ac rfl ?_;have aq:=Bu (Bf (·.pop)) ac rfl
 have O:∀ b u,b≠s.heap.objs.size→h2.get? b=some u→((h2.update s.heap.objs.size (Bf (·.push BS))).update s.heap.objs.size (Bf (·.pop))).get? b=some u:=
  fun b u nb e=>(BY _ _ (C0 nb)).trans ((BY _ _ (C0 nb)).trans e)
 have W:=Walks.dictValues (prog:=prog) (w:=w) (knd:=cJ prog w) (A:=A.in1) hh I d ak vs ep;have ai:I≠s.heap.objs.size:=by rw[J];exact B9 (BD _)
 refine Af ⟨Di F.plain_extend_loop _,codeAny_extend_loopS (EG W) (aM (by omega)) s.heap.objs.size ap _ _ 0 _ _ _ rfl (Bc _) ⟨⟨_,O _ _ ai gI,rfl,rfl⟩,⟨od,es,O _ _ (AJ U) ah,hrest⟩⟩ aq (ItemsOf.nil _) fun s' q c' B ad M=>?_⟩;show wpAny _ A (load s.heap.objs.size >>= _) _ _ s';apply Aa;refine wpAny_load ad (Af ?_);obtain⟨h',g',d',tk',os'⟩:=s';have g1:=B.gens;have g2:=B.os;have g3:=B.drawn;dsimp only at g1 g2 g3;subst g1 g2 g3;have ae:q.toList=vs.map (·.2):=by
  apply B7;intro j;by_cases hj:j < q.size
  ·obtain⟨k,hk⟩:=M.2 j q[j] (by simp[hj]);rw[AI,hk];simp[hj]
  ·have:=M.1;rw[AK (by simpa using hj),AK (by rw[Ab];omega)]
 rw[ae];refine h h' tk' (fun b u e=>?_) (CD (Az ad));have ag:=Az e;have nb:b≠s.heap.objs.size:=AJ ag;have nI:b≠I:=by rw[J];exact AJ (Bh ag)
 exact B.heap b u (by simp[nb,nI]) (O b u nb (z b u (Ah _ e)))
end
def aIq(K:Ag)(sp:Sp)(ta:TA):TE:=fun σ H Q=>ta σ H fun vs H1=>∃(l:Ae) (xs:List V) (KR:V→K3→Prop),vs=[V.ref l]∧(SqL K H1 l xs∨∃ d de,H1 l=some (aFK l d)∧H1 d=some (.dK de)∧xs=de.map (·.2))∧xs.length < 64∧
 (∀ y∈xs,∀(H':Hp) (Q:VK),bA H1 H'→(∀ t a b c H'',bA H' H''→H'' t=some (.tup [.int a,.int b,.str c])→KR y (a,b,c)→Q (.ref t) H'')→sp [y] H' Q E0)∧
 ∀ D (kk:List K3) (p:List Nat) H',bA H1 H'→H1 D=none→kk.length=xs.length→(∀ i,i < xs.length→KR (xs.getD i .non) (kk.getD i k0))→xL kk p→H' D=some (.lst (p.map fun i=>xs.getD i .non))→Q (.ref D) H'
theorem aEQ{de:List (Key×V)}{vs:List (Key×Ac)}(r:KV de vs):cE (de.map (·.2)) (vs.map (·.2)):=by
 induction r with
 | nil=>exact .nil
 | cons h _ q=>exact .cons h.2 q
section
variable{X:Cx}{e:A6}{ta:TA}
theorem zU{k:Nat}{f:Ae}{fd:AD}{x g:Str}{sp:Sp}{p pk kp pos:Pos}(F:cH X.prog X.w X.K X.mg X.base CX0 k f fd [x] sp)(hr:cF (k + 2) X.A)(hb:eV X.K fd [x] [])(hg:Gl X "sorted")(hm:X.mg "sorted"=none)(aa:Gl X g)(Y:X.mg g=some (.ref f))(ha:PA X [e] ta)
  (hd:(g == ("__debug__":Str))=false:=by decide) (he:starEach [e] X.env=[(false,eval e X.env)]:=by rfl):
  PE X (.Call (.Name "sorted" p) [e] [⟨some "key",.Name g pk,kp⟩] pos) (aIq X.K sp ta):=by
 constructor;intro bd s σ H Q I h;refine CV (mM I hg hm boot_sorted ?_ (by decide) (by decide));refine callWith_builtin_kwB (by rw[he];rfl) (by rfl) ?_;have z:=ha pos bd s σ H _ I h
 ·rw[he]at z ⊢;refine evalArgs_kwB (by rfl) (thn z fun us s1 ⟨vs,H1,I1,r,q1⟩=>?_);obtain⟨l,xs,KR,rfl,J,h64,hkey,q⟩:=q1;have Z:PK X [⟨some "key",.Name g pk,kp⟩] (aAy (tC (.ref f)) aGn):=aEI (dL aa Y rfl hd) aGo;refine thn (Z pos bd s1 σ H1 (fun zs H2=>zs=[V.ref f]∧H2=H1) I1 ⟨rfl,rfl⟩) fun ws s2 ⟨zs,H2,M,rz,ez,eH⟩=>?_;subst ez eH;cases rz with
  | cons r1 r2=>
   cases r1;cases r2;cases r with
   | cons r3 r4=>
    cases r3;cases r4;rcases J with J | ⟨d,de,J,W,rfl⟩
    ·obtain⟨its,rv,pl,_⟩:=M.list J;have O:=rv.length;refine xM (KR:=KR) F hr hb M rv (fun B Q' E' hB U=>?_) h64 hkey q;refine collect_list pl.isList (U _ s2.toks (fun b u e=>?_) ?_) (aM (by omega))
     ·rw[BI _ _ _ _ (AJ (Az e))];exact Ah _ e
     ·rw[Heap.size_update,BH];exact Cz _
    ·obtain⟨hv,_,_⟩:dB X.prog X.w H2 s2.heap l (aFK l d):=M.hok l _ J;obtain⟨_,_,vs,rel,dd⟩:=aCV M.hok W;have O:=rel.length;rw[Ab]at h64;refine xM (KR:=KR) F hr hb M (aEQ rel) (fun B Q' E' hB U=>?_) (by rw[Ab];exact h64) hkey q;exact rW hB hv dd (by omega) fun h' tk k1 k2=>U h' tk k1 k2
end
inductive Fm:V→Str→Prop
 | str (z:Str) (h:z.length≤sizeLine):Fm (.str z) z
 | int (i:Int) (h:i.natAbs.log2 < 1920):Fm (.int i) (toString i)
abbrev TJ:=Str→St→Hp→VK→Prop
structure PJ(X:Cx)(es:List A6)(t:TJ):Prop where
 run:∀(bd:List (Ae×Obj)) (s:Ad) (σ:St) (H:Hp) (Q:VK) (acc:Str),Inv X bd σ H s→t acc σ H Q→wpAny (model X.prog X.w) X.A (joinParts acc (evalEach es X.env)) (EP X bd σ Q) X.xe s
inductive J0(acc:Str)(σ:St)(H:Hp)(Q:VK):Prop
 | mk (h:acc.length≤sizeLine) (q:Q (.str acc) H):J0 acc σ H Q
def tJ0:TJ:=fun acc σ H Q=>J0 acc σ H Q
inductive JC(z:Str)(t:TJ)(acc:Str)(σ:St)(H:Hp)(Q:VK):Prop
 | mk (h:(acc ++ z).length≤sizeLine) (q:t (acc ++ z) σ H Q):JC z t acc σ H Q
def tJC(z:Str)(t:TJ):TJ:=fun acc σ H Q=>JC z t acc σ H Q
inductive JF(t:TJ)(acc:Str)(σ:St)(x:V)(H:Hp)(Q:VK):Prop
 | mk (z:Str) (f:Fm x z) (h:(acc ++ z).length≤sizeLine) (q:t (acc ++ z) σ H Q):JF t acc σ x H Q
def tJF(te:TE)(t:TJ):TJ:=fun acc σ H Q=>te σ H fun x H1=>JF t acc σ x H1 Q
def tFs(t:TJ):TE:=fun σ H Q=>t D7 σ H Q
section
variable{X:Cx}{es:List A6}{t:TJ}{te:TE}
theorem aGG:PJ X [] tJ0:=by
 constructor;intro bd s σ H Q z I h;obtain⟨h,q⟩:=h;exact joinParts_nil ⟨.str z,H,I.tok _,⟨_,rfl⟩,q⟩ h
theorem vX{z:Str}{k pos}(h:PJ X es t):PJ X (.Constant (.str z) k pos :: es) (tJC z t):=by
 constructor;intro bd s σ H Q B I F;obtain⟨hl,q⟩:=F;exact joinParts_cons (Calls.Constant_str ⟨hl,h.run bd _ σ H Q _ (I.tok _) q⟩)
theorem vY{e:A6}{pos:Pos}(J:PE X e te)(h:PJ X es t):PJ X (.FormattedValue e (-1) none pos :: es) (tJF te t):=by
 constructor;intro bd s σ H Q U I M;refine joinParts_cons (FormattedValue_plain (thn (J bd s σ H _ I M) fun v Y ⟨x,H1,F,B,O⟩=>?_));obtain⟨z,f,hl,q⟩:=O;cases f with
 | str z hz=>
  obtain⟨u,rfl⟩:=B;exact formatField_str (fun W tk=>⟨hl,h.run bd _ σ H1 Q _ (F.tok _) q⟩) hz
 | int i hi=>
  obtain⟨u,rfl⟩:=B;exact formatField_int_small hi ⟨hl,h.run bd _ σ H1 Q _ (F.tok _) q⟩
theorem aER{a b:A6}{pos:Pos}(h:PJ X (a :: b :: es) t):PE X (.JoinedStr (a :: b :: es) pos) (tFs t):=
 ⟨fun bd s σ H Q I q=>JoinedStr_many (h.run bd s σ H Q _ I q)⟩
end
open PySem PySem.Spec PyProof.Rows PySem.Builtin PySem.Builtin.Str
theorem aBY(l:List (E7×Tok)):cE ((l.map (·.1)).map V.str) (strValues l):=by
 induction l with
 | nil=>exact .nil
 | cons p l q=>exact .cons ⟨p.2,rfl⟩ q
inductive aAW(x:V)(xs:List V)(H:Hp)(Q:VK):Prop
 | mk (z y:E7) (h0:x=.str z) (h1:xs=[.str y]) (hy:(y.length == 0)=false) (hz:z.length + 2≤sizeLine) (q:∀ L,H L=none→Q (.ref L) (upd H L (.lst ((EL z y).map V.str)))):aAW x xs H Q
def aGH:V→List V→Hp→VK→Prop:=fun x xs H Q=>aAW x xs H Q
theorem rX{X:Cx}:MtR X "str.split" aGH:=by
 intro bd s σ H x xs v Y Q I O r h;obtain⟨z,y,rfl,rfl,hy,hz,q⟩:=h;obtain⟨t,rfl⟩:=O;obtain⟨u,rfl,ru⟩:=fH r;obtain⟨u',rfl⟩:=ru;have B:∀(l:List (E7×Tok)) (M:Nat),l.map (·.1)=EL z y→l.length≤sizeLine→EP X bd σ Q (.ref s.heap.objs.size) { s with heap:=s.heap.push { cls:=.type "list",data:=.seq (strValues l).toArray },toks:=M }:=fun l M e U=>
  ⟨.ref _,_,I.lnew (ys:=(EL z y).map V.str) (by rw[← e];exact aBY l) (by rw[← e,Ab,Ab];exact U),rfl,q _ I.fresh⟩
 have hn:(partsBetween z (occurrences z y 0 z.length (z.length + 1)) y.length).length≤sizeLine:=by
  have W:=StrLaws.occ_length_le z y 0 z.length (z.length + 1);rw[length_partsBetween];omega
 have F:(1:Nat)≤sizeLine:=by decide
 cases h1:(decide (z.length < y.length) || decide (strKind z < strKind y))
 ·cases J:(occurrences z y 0 z.length (z.length + 1)).isEmpty
  ·refine DU Ey (DB _ _ _) Er (Ei _ _) (meets_str_split_sep z y t u' h1 hy J (by omega) hn) ?_;show wants (EP X bd σ Q) X.xe _ { s with toks:=_,heap:=s.heap.push { cls:=.type "list",data:=.seq (strsFrom s.toks (partsBetween z (occurrences z y 0 z.length (z.length + 1)) y.length)).toArray } };rw[strsFrom_eq];refine B (numbered s.toks _) _ ((numbered_texts _ _).trans ((Ia (ne_true_of_eq_false h1)).trans (Ia (ne_true_of_eq_false J))).symm) ?_;have:=congrArg ES (numbered_texts s.toks (partsBetween z (occurrences z y 0 z.length (z.length + 1)) y.length));rw[Ab]at this;rw[this];exact hn
  ·exact DU Ey (DB _ _ _) Er (Ei _ _) (meets_str_split_not_found z y t u' h1 hy J)
    (B [(z,t)] s.toks ((Ia (ne_true_of_eq_false h1)).trans (Ib J)).symm F)
 ·exact DU Ey (DB _ _ _) Er (Ei _ _) (meets_str_split_cannot_occur z y t u' h1)
   (B [(z,t)] s.toks (Ib h1).symm F)
theorem aDx{c:Nat}{u v X Y:List Nat}(q:c ∉ u)(z:c ∉ v)(h:u ++ c :: X=v ++ c :: Y):u=v∧X=Y:=by
 induction u generalizing v with
 | nil=>
  cases v with
  | nil=>simp at h;exact⟨rfl,h⟩
  | cons b v=>simp at h;exact absurd (by simp[h.1]) z
 | cons a u B=>
  cases v with
  | nil=>simp at h;exact absurd (by simp[h.1]) q
  | cons b v=>
   simp at h q z;obtain⟨rfl,h⟩:=h;obtain⟨e,f⟩:=B q.2 z.2 h;exact⟨by rw[e],f⟩
theorem iD(a b:Str):(a ++ b).cps.toList=a.cps.toList ++ b.cps.toList:=by
 show(a.cps ++ b.cps).toList=_;simp
theorem aDy{c:Nat}:∀(as bs:List Str),as≠[]→bs≠[]→(∀ a∈as,c ∉ a.cps.toList)→(∀ b∈bs,c ∉ b.cps.toList)→(B1 ⟨#[c]⟩ as).cps.toList=(B1 ⟨#[c]⟩ bs).cps.toList→as=bs:=by
 have one:∀(a b:Str) (q:Str) (r:List Str),(B1 ⟨#[c]⟩ (b :: q :: r)).cps.toList=b.cps.toList ++ c :: (B1 ⟨#[c]⟩ (q :: r)).cps.toList:=fun a b q r=>by
  show(b ++ (⟨#[c]⟩:Str) ++ B1 ⟨#[c]⟩ (q :: r)).cps.toList=_;rw[iD,iD];simp
 intro as
 induction as with
 | nil=>intro bs h;exact absurd rfl h
 | cons a as M=>
  intro bs _ O J F e;cases bs with
  | nil=>exact absurd rfl O
  | cons b bs=>
   cases as with
   | nil=>
    cases bs with
    | nil=>
     have B:a.cps.toList=b.cps.toList:=e;have:a=b:=Str.ext' (CA.mp B);rw[this]
    | cons q r=>
     rw[one a]at e;have B:a.cps.toList=b.cps.toList ++ c :: (B1 ⟨#[c]⟩ (q :: r)).cps.toList:=e;exact absurd (by rw[B];simp) (J a (by simp))
   | cons p as=>
    cases bs with
    | nil=>
     rw[one a]at e;have B:a.cps.toList ++ c :: (B1 ⟨#[c]⟩ (p :: as)).cps.toList=b.cps.toList:=e;exact absurd (by rw[← B];simp) (F b (by simp))
    | cons q r=>
     rw[one a,one a]at e;obtain⟨e1,e2⟩:=aDx (J a (by simp)) (F b (by simp)) e;have:a=b:=Str.ext' (CA.mp e1);rw[this,M (q :: r) (by simp) (by simp) (fun z hz=>J z (by simp at hz ⊢;exact .inr hz)) (fun z hz=>F z (by simp at hz ⊢;exact .inr hz)) e2]
theorem rY{c:Nat}{q:List Str}(hn:q≠[])(hw:∀ z∈q,c ∉ z.cps.toList):EL (B1 ⟨#[c]⟩ q) ⟨#[c]⟩=q:=by
 refine aDy (c:=c) _ _ ?_ hn (StrLaws.split_free _ c) hw ?_
 ·intro z;have:=split_pos (B1 ⟨#[c]⟩ q) ⟨#[c]⟩;rw[z]at this;simp at this
 ·rw[StrLaws.join_split]
open PySem PySem.Spec PyProof.Rows PySem.NumText
inductive aFL(xs:List V)(H:Hp)(Q:VK):Prop
 | mk (x:V) (z:Str) (h0:xs=[x]) (f:Fm x z) (q:Q (.str z) H):aFL xs H Q
def aES:List V→Hp→VK→Prop:=fun xs H Q=>aFL xs H Q
theorem jI{X:Cx}:gE X (.type "str") aES:=by
 intro bd s σ H xs B Q I r h;obtain⟨x,z,rfl,f,q⟩:=h;obtain⟨u,rfl,ru⟩:=fH r;cases f with
 | str z hz=>
  obtain⟨t,rfl⟩:=ru;exact P.str_of_str ⟨.str z,H,I,⟨_,rfl⟩,q⟩
 | int i hi=>
  obtain⟨t,rfl⟩:=ru;exact P.str_of_int hi ⟨.str _,H,I.tok _,⟨_,rfl⟩,q⟩
inductive aFM(xs:List V)(H:Hp)(Q:VK):Prop
 | mk (z:Str) (n:Int) (h0:xs=[.str z]) (hn:PySem.intText? z=some n) (hl:z.length≤640) (q:Q (.int n) H):aFM xs H Q
def aIr:List V→Hp→VK→Prop:=fun xs H Q=>aFM xs H Q
theorem aBZ{X:Cx}:gE X (.type "int") aIr:=by
 intro bd s σ H xs B Q I r h;obtain⟨z,n,rfl,hn,hl,q⟩:=h;obtain⟨u,rfl,ru⟩:=fH r;obtain⟨t,rfl⟩:=ru;exact PySem.W.KIN.call_text hn hl ⟨.int n,H,I.tok _,⟨_,rfl⟩,q⟩
theorem zV{m k:Nat}(h:m < 10 ^ k)(F:0 < k):(CC 10 m).length≤k:=by
 induction k generalizing m with
 | zero=>cases F
 | succ k B=>
  by_cases hm:m < 10
  ·rw[Nat.toDigits_of_lt_base hm];simp
  ·have q:m % 10 < 10:=EE m (by decide);have t:CC 10 (m / 10) ++ CC 10 (m % 10)=CC 10 (10 * (m / 10) + m % 10):=Nat.toDigits_append_toDigits (by decide) (by omega) q;rw[Nat.div_add_mod]at t;rw[← t,An,Nat.toDigits_of_lt_base q];have z:0 < k:=by
    cases k with
    | zero=>simp at h;omega
    | succ k=>omega
   have:=B (m:=m / 10) (by rw[Nat.pow_succ]at h;omega) z;simp;exact this
theorem mW(m:Nat):∀ c∈(A5 (toString ((m:Nat):Int))).cps.toList,48≤c∧c≤57:=by
 intro c hc;rw[Ca]at hc;obtain⟨ch,hch,e⟩:=A7.mp hc;have r:=digit_range (Nat.isDigit_of_mem_toDigits (by decide) (by decide) hch);rw[← e];exact r
theorem vZ{m k:Nat}(h:m < 10 ^ k)(q:0 < k):(A5 (toString ((m:Nat):Int))).length≤k:=by
 show(A5 (toString ((m:Nat):Int))).cps.size≤k;rw[← A1,Ca,Ab];exact zV h q
theorem aDz(m:Nat):(A5 (toString ((m:Nat):Int))).cps.toList≠[]:=by
 rw[Ca];intro e;have h:=toDigits_len_ge 10 m;rw[List.map_eq_nil_iff.mp e]at h;exact absurd h (by decide)
theorem rZ{m k:Nat}(h:m < 10 ^ k)(z:0 < k)(q:k≤640):PySem.intText? (A5 (toString ((m:Nat):Int)))=some (m:Int):=by
 have e:=intText_digits (mW m) (aDz m) (A3 (vZ h z) (A3 q (by decide)));rw[Ca,PySem.W.KIN.val_back]at e;exact e
section
variable{prog:Ay}{w:AQ}{K:Type}[DecidableEq K]{knd:HeapKind prog w K}{A:AL}{E:Ac→Ad→Prop}{s:Ad}
end
open PySem PySem.SetTable
inductive aDA(t:Ci):Probe→Nat→Prop
 | here {p:Probe} {n:Nat}:t.slot p.j=.empty→aDA t p n
 | step {p:Probe} {n:Nat}:aDA t (t.advance p) n→aDA t p (n + 1)
def aIF(t:Ci)(i perturb:Nat):Probe:={ j:=i,more:=runEnd t.mask i - i,i:=i,perturb:=perturb,dummy:=none }
def orb(m:Nat):Nat→Nat→Nat
 | 0,i=>i
 | k + 1,i=>orb m k ((i * 5 + 1) % m)
structure aHI(t:Ci)(n:Nat):Prop where
 size:t.place.size=n
 nod:t.dummies=#[]
 mask:(t.mask=7∧n≤4)∨(t.mask=31∧n≤18)
inductive aDB(owner:Array (Option Nat)):Nat→Nat→Nat→Prop
 | here {i p n:Nat}:(owner.getD i (some 0)).isNone=true→aDB owner i p (n + 1)
 | step {i p n:Nat}:aDB owner (SetTable.leap 31 i p).1 (SetTable.leap 31 i p).2 n→aDB owner i p (n + 1)
structure aIV(owner:Array (Option Nat))(k:Nat):Prop where
 size:owner.size=32
 perm:((AV 32).filterMap fun j=>owner.getD j none).Perm (AV k)
section
variable{prog:Ay}{w:AQ}{A:AL}{E:Ac→Ad→Prop}{s:Ad}
inductive aFN(prog:Ay)(w:AQ)(h:A8)(ks:List (List Str))(v:Ac):Prop
 | mk (b:_) (k:_) (q0:v=.ref b) (q1:IsTupleKey (strKind prog w) h k b) (q2:k∈ks):aFN prog w h ks v
def ElT(prog:Ay)(w:AQ)(h:A8)(ks:List (List Str))(v:Ac):Prop:=aFN prog w h ks v
end
section
variable{prog:Ay}{w:AQ}{A:AL}{E:Ac→Ad→Prop}{s:Ad}
structure aIX(prog:Ay)(w:AQ)(h:A8)(a:Ae)(rs:List Ae)(ks:List (List Str))(o:Obj)(es:Array (Int×Ac))(ep:Nat)(t:Ci):Prop where
 at_:h.get? a=some o
 ex:o.ExactSet
 data:o.data=.set es ep t
 perm:(es.toList.map (·.2)).Perm (rs.map AO)
 els:∀ e∈es.toList,ElT prog w h ks e.2
 tab:aHI t es.size
 led:rN w es t
end
abbrev P2:=Str×Str
inductive aAX(h:A8)(v:Ac)(x:P2):Prop
 | mk (t:_) (u1:_) (u2:_) (q0:v=.ref t) (q1:DR h t #[.str x.1 u1,.str x.2 u2]):aAX h v x
def aIG(h:A8)(v:Ac)(x:P2):Prop:=aAX h v x
section
variable{prog:Ay}{w:AQ}{A:AL}{E:Ac→Ad→Prop}{s:Ad}
end
section
variable{prog:Ay}{w:AQ}{A:AL}{E:Ac→Ad→Prop}{s:Ad}
end
def aDC(H:Hp)(r:Ae):P2:=match H r with
 | some (.tup [.str x,.str y])=>(x,y)
 | _=>("","")
def aIH(H:Hp)(rs:List Ae):Prop:=∀ r∈rs,H r=some (.tup [.str (aDC H r).1,.str (aDC H r).2])
section
variable{P:Ay}{w:AQ}{H:Hp}{h:A8}{a:Ae}
end
section
variable{X:Cx}{bd:List (Ae×Obj)}{σ:St}{H:Hp}{s:Ad}
end
section
variable{prog:Ay}{w:AQ}{A:AL}{E:Ac→Ad→Prop}{s:Ad}{d I:Ae}{od:Obj}{es:Array DictEntry}{ep i:Nat}
end
section
variable{X:Cx}
end
theorem aB0(l:List Ac):slicePick l.toArray none none (some (-1))=l.reverse.toArray:=by
 rw[← aDb l];unfold slicePick;have e:sliceRange (sliceBounds none none (some (-1)) l.toArray.size).1 (sliceBounds none none (some (-1)) l.toArray.size).2.1 (sliceBounds none none (some (-1)) l.toArray.size).2.2=(AV l.length).map fun(m:Nat)=>((l.length:Int) - 1 + (m:Int) * (-1)).toNat:=by
  have z:sliceBounds none none (some (-1)) l.toArray.size=((l.length:Int) - 1,-1,-1):=by
   unfold sliceBounds;simp
  rw[z];unfold sliceRange;have h1:¬ ((-1:Int) > 0):=by omega
  simp only[h1,if_false];have q:(if (l.length:Int) - 1 > -1 then((l.length:Int) - 1 - -1 - -1 - 1) / (- -1) else 0).toNat=l.length:=by
   rw[Int.neg_neg,Int.ediv_one];split <;> omega
  rw[q];exact D8 fun m _=>by congr 1;omega
 rw[e,List.filterMap_map];rfl
section
variable{X:Cx}{e st:A6}{te ts:TE}{pos p2:Pos}
def aHJ(K:Ag)(te ts:TE):TE:=fun σ H Q=>te σ H fun x H1=>ts σ H1 fun y H2=>∃ a xs,y=.int (-1)∧x=.ref a∧SqL K H2 a xs∧∀ p,H2 p=none→Q (.ref p) (upd H2 p (.lst xs.reverse))
theorem aET(J:PE X e te)(M:PE X st ts):PE X (.Subscript e (.Slice none none (some st) p2) pos) (aHJ X.K te ts):=by
 constructor;intro bd s σ H Q I h;refine EN (thn (J bd s σ H _ I h) fun v Z ⟨x,H1,I1,Y,U⟩=>?_);refine wpAny_Slice ?_;rw[EV];refine Af (Af ?_);rw[evalPart_some];refine thn (M bd Z σ H1 _ I1 U) fun u z ⟨y,H2,O,F,W⟩=>?_;obtain⟨a,xs,rfl,rfl,hx,q⟩:=W;obtain⟨t,rfl⟩:=F;cases Y;have B:Inv X bd σ H2 { z with heap:=z.heap.push { cls:=.type "slice",data:=.fields #[.none,.none,.int (-1) t] } }:=O.kept (t':=z.toks) fun b ob q=>Ah _ q;obtain⟨its,r,ht,hz⟩:=B.list hx;have hl:=r.length;refine tail_any (ops:=[.ref a,.ref z.heap.objs.size]) ht.isList.typeIs slot_list_getitem.lookup ?_ (by with_unfolding_all rfl);refine wpAny_getItem_list_slice ht.isList (Heap.IsSliceOf.new ..) .none .none (.int (-1) t) (by decide) ?_ (by rw[Ao];omega);rw[aB0];refine⟨.ref _,_,B.laid (t':=z.toks) (o:=.lst xs.reverse) (fun b ob q=>Ah _ q) (Ak _) ?_,rfl,q _ (B.hok.fresh (Ak _))⟩;exact⟨by rw[List.length_reverse];exact hz,_,0,r.reverse,Ax _ rfl⟩
end
structure Fly(P:Ay)(w:AQ)(outer:List Env)(H H':Hp)(s:Ad)(x:Ae)(C:Ac)(s':Ad):Prop where
 os:s'.os=s.os
 bare:Dy s'.gens
 ex:∃(B:A8) (a0:Ac),Heap.FlyingW B outer x C a0 s'.heap∧HOk P w H' B∧(∀ b o,s.heap.get? b=some o→H b=none→b ∉ frs outer→B.get? b=some o)∧∀ b o,s.heap.get? b=some o→b ∉ frs outer→∃ o',B.get? b=some o'
 frf:∀ b∈frs outer,H b=none
 slot:∀ b o,s.heap.get? b=some o→H b=none→b∈frs outer→∃ sl,s'.heap.get? b=some { o with slots:=sl }
 free:∀ b o,s.heap.get? b=some o→H b=none→H' b=none
 tups:∀ b xs,H b=some (.tup xs)→H' b=some (.tup xs)
 frzs:∀ b o u,H b=some (.frz o u)→H' b=some (.frz o u)
 tbls:∀ b ps,H b=some (.tbl ps)→∃ more,H' b=some (.tbl (ps ++ more))
def CXr(P:Ay)(w:AQ):CXT:=fun outer H s E e s'=>∃(x:Ae) (C:Ac) (H':Hp),e=.ref x∧Fly P w outer H H' s x C s'∧E C none H'
section
variable{P:Ay}{w:AQ}{K:Ag}{mg:Str→Option Ac}{base:A8}{N:List Str}{qual:Str}{scope:CN}{f:Ae}{cd:Ac}{A:AL}{outer:List Env}{s:Ad}{H:Hp}{E:XK}
end
structure aII(h:A8)(C:Ae)(bmB:List Ac)(newId:String)(tl:List Ac)(N':Ae)(nm q:Str)(bs:List Ac)(hdct:Bool)(sn:List Str)(sub:List Ac)(ab:Bool)(col:Option Bool)(dd:Option Ae)(k0 k1 k2 k3 k5:Option Ac)(mN:Str→Option Ac):Prop where
 ob:h.get? C=some (excClassObj nm q C N' bs tl hdct sn sub ab col dd k0 k1 k2 k3 k5 newId)
 ns:h.Ns N' mN
 ni:mN "__init__"=none
 tl:OwnTail h bmB tl
section
variable{P:Ay}{w:AQ}{K:Ag}{mg:Str→Option Ac}{base:A8}{N:List Str}{qual:Str}{scope:CN}{f:Ae}{cd:Ac}{A:AL}{outer:List Env}{s:Ad}{H:Hp}{E:XK}
end
section
variable{prog:Ay}{w:AQ}{A:AL}{E:Ac→Ad→Prop}{s:Ad}{κ:Dm}{it:Array DD}
def oT(prog:Ay)(w:AQ)(A:AL)(s:Ad)(κ:Dm)(it:Array DD):Prop:=
 ∀ x y,x∈it.toList→y∈it.toList→∀ C:Bool→Ad→Prop,(∀ b,C b s)→wpAny (model prog w) A (keyLt' κ x.1 y.1) C (fun _ _=>False) s
variable(hc:oT prog w A s κ it)
include hc
end
def Pl(a b out:Array DD)(ia ib:Nat):Prop:=(out.toList ++ (a.toList.drop ia ++ b.toList.drop ib)).Perm (a.toList ++ b.toList)
section
variable{a b out:Array DD}{ia ib k:Nat}
end
structure Sg(st st':EC):Prop where
 kind:kindOf st'=kindOf st
 arr:arrOf st'=arrOf st
 pend:pendingOf st'=pendingOf st
 fail:failedOf st'=failedOf st
structure GL(a b:Array DD)(x:Nat)(out:Array DD)(ia ib:Nat):Prop where
 pl:Pl a b out ia ib
 la:ia + 1 < a.size
 lb:ib < b.size
 on:x≤ia + ib
section
variable{prog:Ay}{w:AQ}{A:AL}{E:Ac→Ad→Prop}{s:Ad}{κ:Dm}{it:Array DD}(hc:oT prog w A s κ it)
include hc
end
def Ph(a b out:Array DD)(na nb:Nat):Prop:=(out.toList ++ (a.toList.take na ++ b.toList.take nb)).Perm (a.toList ++ b.toList)
section
variable{a b out:Array DD}{na nb k:Nat}
end
structure GH(a b:Array DD)(x:Nat)(out:Array DD)(na nb:Nat):Prop where
 pl:Ph a b out na nb
 la:1≤na
 lb:2≤nb
 ua:na≤a.size
 ub:nb≤b.size
 on:x + na + nb≤a.size + b.size
section
variable{prog:Ay}{w:AQ}{A:AL}{E:Ac→Ad→Prop}{s:Ad}{κ:Dm}{it:Array DD}(hc:oT prog w A s κ it)
include hc
end
structure Sm(st st':EC):Prop where
 kind:kindOf st'=kindOf st
 arr:(arrOf st').Perm (arrOf st)
 pend:pendingOf st'=pendingOf st
 fail:failedOf st'=failedOf st
structure GS(κ:Dm)(it:Array DD)(st:EC):Prop where
 kind:kindOf st=κ
 perm:(arrOf st).Perm it
 fail:failedOf st=none
section
variable{prog:Ay}{w:AQ}{A:AL}{E:Ac→Ad→Prop}{s:Ad}{κ:Dm}{it:Array DD}
variable(hc:oT prog w A s κ it)
include hc
end
def aHK:List (Nat×Nat×Nat)→Nat→Nat→Prop
 | [],a,b=>a=b
 | r :: l,a,b=>r.1=a∧1≤r.2.1∧aHK l (a + r.2.1) b
section
variable{prog:Ay}{w:AQ}{A:AL}{E:Ac→Ad→Prop}{s:Ad}{κ:Dm}{it:Array DD}
variable(hc:oT prog w A s κ it)
include hc
end
section
variable{prog:Ay}{w:AQ}{A:AL}{E:Ac→Ad→Prop}{s:Ad}{κ:Dm}{it:Array DD}
structure SR(κ:Dm)(it:Array DD)(lo:Nat)(st:EC):Prop where
 gs:GS κ it st
 le:lo≤it.size
 sg:aHK (pendingOf st).toList 0 lo
variable(hc:oT prog w A s κ it)
include hc
end
def aGI(c:Ae)(qual:Str):HO:=.ext fun h=>h.CodeRec (.ref c) qual
structure aIJ(T:Ae)(pos:Pos)(qual:Str)(H:Hp):Prop where
 ex:∃ ps,H T=some (.tbl ps)∧TriplesOk ps.toList∧(codeAmong pos ps.toList=none∨∃ c,codeAmong pos ps.toList=some (.ref c)∧H c=some (aGI c qual))
def aIK(T:Ae)(H H':Hp):Prop:=∀ b o,b≠T→H b=some o→H' b=some o
section
variable{X:Cx}{bd:List (Ae×Obj)}{σ:St}{H:Hp}{s:Ad}
end
structure aHL(ps fs:List Str)(sc:CN):Prop where
 kind:sc.kind=.function
 co:sc.isCoroutine=false
 gen:sc.isGenerator=false
 nd:ps.Nodup
 par:∀ x∈ps,sc.names.lookup x=some .local
 fr:∀ x∈fs,sc.names.lookup x=some .free
 nocell:∀ y∈sc.names,y.2≠.cell
section
variable{X:Cx}{bd:List (Ae×Obj)}{σ:St}{H:Hp}{s:Ad}
end
section
variable{prog:Ay}{w:AQ}{A:AL}{E:Ac→Ad→Prop}{s:Ad}
inductive aAY(h:A8)(v:Ac):Prop
 | mk (t:_) (a:_) (b:_) (u1:_) (u2:_) (q0:v=.ref t) (q1:DR h t #[.int a u1,.int b u2]):aAY h v
def aIL(h:A8)(v:Ac):Prop:=aAY h v
end
section
variable{X:Cx}{bd:List (Ae×Obj)}{σ:St}
inductive aAZ(H:Hp)(v:Ac):Prop
 | mk (t:_) (a:_) (b:_) (q0:v=.ref t) (q1:H t=some (.tup [.int a,.int b])):aAZ H v
def aIM(H:Hp)(v:Ac):Prop:=aAZ H v
end
section
variable{X:Cx}{bd:List (Ae×Obj)}{σ:St}{H:Hp}{s:Ad}
end
section
variable{X:Cx}{e:A6}{ta:TA}
end
section
variable{X:Cx}
end
def aGJ(lo st:Int)(n:Nat):It:=⟨fun i _=>i < n,fun i H x H'=>H'=H∧x=.int (lo + i * st),fun i _=>n≤i⟩
theorem xN{P:Ay}{w:AQ}{K:Ag}{tg:A6}(it:Ae)(lo st:Int)(n:Nat):wL P w K tg (aGJ lo st n) [it] it (fun i h=>EJ h it (lo + (i:Nat) * st) ((n:Int) - (i:Nat)) st) where
 mem:=by simp
 obj:=fun i h st b B=>by
  have e:b=it:=by simpa using B
  subst e;exact⟨_,st,fun v z=>by
   have Y:Es _=Data.cell v:=z;cases Y⟩
 keep:=fun i h h' st k=>k it (by simp) _ st
 item:=by
  intro X M hw O hc i bd s σ H E I F q J;subst M hw O;obtain⟨f0,f1,f2,f3,f4,f5⟩:=F it (by simp);have W:=Walks.range (prog:=X.prog) (w:=X.w) (I.ok.hd hc) it lo st n;refine W.item i s _ _ J q fun v h' tk Z q U=>?_;obtain⟨t,rfl⟩:=Z;have I1:Inv X bd σ H { s with heap:=h',toks:=tk }:=I.turned (fun b o B e=>U b o (by simpa using B) e) f0 f1 f3 f4 f5;exact⟨_,rfl,wM (s:={ s with heap:=h',toks:=tk }) (n:="range_iterator") q rfl rfl (by decide) ⟨.int (lo + i * st),H,I1,⟨t,rfl⟩,⟨rfl,rfl⟩,q,fun b B=>(F b B).1⟩⟩
 done:=by
  intro X M hw O hc i bd s σ H E I F q J;subst M hw O;obtain⟨f0,f1,f2,f3,f4,f5⟩:=F it (by simp);exact wpAny_pyNext_range_end (I.ok.hd hc) q (by have:n≤i:=J;omega) fun h' eb=>⟨rfl,I.turned (t':=s.toks) (fun b o B e=>eb b o B e) f0 f1 f3 f4 f5⟩
 self:=fun _ _ _ _ _ st h=>wpAny_pyIter_rangeiter st h
section
variable{X:Cx}{tg:A6}
def aHM(lo hi st:Int)(n:Nat)(ta:TA):TI:=fun σ H R=>ta σ H fun vs H1=>vs=[.int lo,.int hi,.int st]∧R (aGJ lo st n) H1
theorem aB1{a b c:A6}{ta:TA}{p pos:Pos}{lo hi st:Int}{n:Nat}(W:st≠0)(O:Builtin.Range.small lo hi st=true)(hn:(n:Int)=Cw lo hi st)(J:Builtin.divisionGoesByPylong (hi - lo) st=false)(hg:Gl X "range")(hm:X.mg "range"=none)(ha:PA X [a,b,c] ta)(Y:starEach [a,b,c] X.env=[(false,eval a X.env),(false,eval b X.env),(false,eval c X.env)]:=by rfl)(F:starEach [b,c] X.env=[(false,eval b X.env),(false,eval c X.env)]:=by rfl):
  PI X tg (.Call (.Name "range" p) [a,b,c] [] pos) (aHM lo hi st n ta):=by
 constructor;intro bd s σ H R I h;refine Call_ (mM I hg hm boot_range (Cb (thn (ha pos bd s σ H _ I h) fun us z ⟨vs,H1,I1,r1,q1⟩=>?_) (by rw[Y,F]) (by rw[F];rfl)));obtain⟨e,q⟩:=q1;subst e;cases r1 with
 | cons r B=>
  cases B with
  | cons Z B=>
   cases B with
   | cons U B=>
    cases B;obtain⟨t,rfl⟩:=r;obtain⟨t',rfl⟩:=Z;obtain⟨t'',rfl⟩:=U;refine call_range_3 W ?_ (.inl J);refine wpAny_pyIter_range (IsRange.new ..) O ?_;have M:Inv X bd σ H1 { z with heap:=z.heap.push { cls:=.type "range",data:=.fields #[.int lo t,.int hi t',.int st t''] },toks:=z.toks }:=I1.kept fun b o e=>Ah _ e;refine⟨(z.heap.push { cls:=.type "range",data:=.fields #[.int lo t,.int hi t',.int st t''] }).objs.size,[(z.heap.push { cls:=.type "range",data:=.fields #[.int lo t,.int hi t',.int st t''] }).objs.size],_,_,H1,rfl,
     M.kept (t':=z.toks) fun b o e=>Ah _ e,xN _ lo st n,?_,fun b hb=>?_,q⟩
    ·have e1:lo + ((0:Nat):Int) * st=lo:=by simp
     have e2:((n:Nat):Int) - ((0:Nat):Int)=Cw lo hi st:=by rw[← hn];simp
     show EJ _ _ (lo + ((0:Nat):Int) * st) (((n:Nat):Int) - ((0:Nat):Int)) st;rw[e1,e2];exact Ax _ rfl
    ·have e:b=(z.heap.push { cls:=.type "range",data:=.fields #[.int lo t,.int hi t',.int st t''] }).objs.size:=by simpa using hb
     subst e;exact M.fpOk (Ak _) (M.hok.fresh (Ak _))
theorem xO{lo st:Int}{n:Nat}{g:TG}{F:TT}{te:TE}{J:St}{H₀:Hp}{Q:VK}(q:Nat→List V→St→Hp→Prop)(U:q 0 [] J H₀)(hn:n≤sizeLine)(z:∀ i ys σ H,q i ys σ H→ys.length≤i)
  (O:∀ i ys σ H,i < n→q i ys σ H→g (.int (lo + i * st)) σ H fun B H2=>F B H2 fun b M=>if b=true then te B M fun v W=>q (i + 1) (ys ++ [v]) B W else q (i + 1) ys B M)
  (hd:∀ ys σ H,q n ys σ H→∀ D,H D=none→Q (.ref D) (upd H D (.lst ys))):nJ (aGJ lo st n) g F te J H₀ Q:=
 lH n q U hn z (fun i _ _ _ h _=>h) (fun _ _ _ _=>Ak _) (fun i ys σ H v H' hi p y=>by
  obtain⟨e,rfl⟩:=y;subst e;exact O i ys σ _ hi p) hd
end
section
variable{X:Cx}
inductive zW(H:Hp):V→Prop
 | str (z:Str):zW H (.str z)
 | non:zW H .non
 | int (i:Int):zW H (.int i)
 | bl (b:Bool):zW H (.bl b)
 | lst {a:Ae} {xs:List V} (e:H a=some (.lst xs)):zW H (.ref a)
 | tup {a:Ae} {xs:List V} (e:H a=some (.tup xs)):zW H (.ref a)
inductive Thg(H:Hp):V→Option (List V)→Prop
 | lst {a:Ae} {xs:List V} (e:H a=some (.lst xs)) (h:∀ v∈xs,zW H v):Thg H (.ref a) (some xs)
 | tup {a:Ae} {xs:List V} (e:H a=some (.tup xs)):Thg H (.ref a) none
 | dct {a:Ae} {de:List (Key×V)} (e:H a=some (.dK de)):Thg H (.ref a) none
 | non:Thg H .non none
 | str (z:Str):Thg H (.str z) none
 | bl (b:Bool):Thg H (.bl b) none
end
section
variable{X:Cx}
inductive RpV(H:Hp):V→Str→Prop
 | non:RpV H .non "None"
 | bl (b:Bool):RpV H (.bl b) (if b then "True" else "False")
 | str (z:Str) (h:(reprText z).length≤sizeLine):RpV H (.str z) (reprText z)
 | ref {a:Ae} {m:Bool} {d:Al} (r:RdV m H (.ref a) d) (h1:d.showable=true) (h2:d.depth≤20) (h3:d.shown.length≤sizeLine):RpV H (.ref a) d.shown
inductive lC(xs:List V)(H:Hp)(Q:VK):Prop
 | mk (x:V) (z:Str) (q0:xs=[x]) (q1:RpV H x z) (q2:Q (.str z) H):lC xs H Q
def v0:List V→Hp→VK→Prop:=fun xs H Q=>lC xs H Q
theorem sH{k:Nat}(B:cF k X.A):gE X (.builtin "repr") v0:=by
 intro bd s σ H xs F Q I r h;obtain⟨x,z,rfl,hx,q⟩:=h;cases hx with
 | non=>
  obtain⟨u,rfl,ru⟩:=fH r;cases ru;exact P.repr_of_none ⟨.str _,H,I.tok _,⟨_,rfl⟩,q⟩
 | bl b=>
  obtain⟨u,rfl,ru⟩:=fH r;cases ru;exact P.repr_of_bool ⟨.str _,H,I.tok _,⟨_,by cases b <;> rfl⟩,q⟩
 | str z h=>
  obtain⟨u,rfl,ru⟩:=fH r;obtain⟨t,rfl⟩:=ru;exact P.repr_of_str ⟨.str _,H,I.tok _,⟨_,rfl⟩,q⟩ h
 | @ref a m d rd h1 h2 J=>exact aBP B bd s σ H _ F Q I r ⟨a,m,d,rfl,rd,h1,h2,J,q⟩
end
mutual
theorem RdV.uniq{H:Hp}:∀{x:V}{d d':Al},RdV false H x d→RdV false H x d'→d=d'
 | _,_,_,.non,h=>by cases h;rfl
 | _,_,_,.bl b,h=>by cases h;rfl
 | _,_,_,.int i,h=>by cases h;rfl
 | _,_,_,.str z _,h=>by cases h;rfl
 | _,_,_,.lst hm _ _ _,_=>nomatch hm
 | _,_,_,.tup e J r,h=>by
  cases h with
  | lst hm=>cases hm
  | tup q B F=>
   rw[e]at q;cases q;rw[cM.uniq r F]
  | dct _ q=>rw[e]at q;cases q
 | _,_,_,.dct _ e,h=>by
  cases h with
  | lst hm=>cases hm
  | tup q _ _=>rw[e]at q;cases q
  | dct _ q=>rfl
theorem cM.uniq{H:Hp}:∀{xs:List V}{ds q:List Al},cM false H xs ds→cM false H xs q→ds=q
 | _,_,_,.nil,h=>by cases h;rfl
 | _,_,_,.cons a r,h=>by
  cases h with
  | cons z B=>rw[RdV.uniq a z,cM.uniq r B]
end
def OkS:Nat→Al→Prop
 | 0,d=>(∃ z,d=.str z)∨∃ i,d=.int i
 | n + 1,d=>(∃ z,d=.str z)∨(∃ i,d=.int i)∨∃ ds,d=.tuple ds∧∀ e∈ds,OkS n e
open Classical in
section
variable{X:Cx}{bd:List (Ae×Obj)}{σ:St}{H:Hp}{s:Ad}
open Classical in
end
section
variable{X:Cx}
open Classical in
end
section
variable{X:Cx}
end
inductive aHN(X:Cx)(bd:List (Ae×Obj))(σ:St)(E':XK)(x:Ac)(s':Ad):Prop
 | mk (H1:_) (s1:_) (q0:Inv X bd σ H1 s1) (q1:CXr X.prog X.w X.stack H1 s1 E' x s'):aHN X bd σ E' x s'
def XP(X:Cx)(bd:List (Ae×Obj))(σ:St)(E':XK)(x:Ac)(s':Ad):Prop:=aHN X bd σ E' x s'
structure PX(X:Cx)(e:A6)(te:XK→TE):Prop where
 run:∀(E':XK) (bd:List (Ae×Obj)) (s:Ad) (σ:St) (H:Hp) (Q:VK),Inv X bd σ H s→te E' σ H Q→wpAny (model X.prog X.w) X.A (eval e X.env) (EP X bd σ Q) (XP X bd σ E') s
structure PXs(X:Cx)(b:List Bx)(tb:XK→TS):Prop where
 run:∀(E':XK) (bd:List (Ae×Obj)) (s:Ad) (σ:St) (H:Hp) (D:m9),Inv X bd σ H s→tb E' D σ H→wpAny (model X.prog X.w) X.A (execs b X.env) (SP X bd D) (XP X bd σ E') s
section
variable{X:Cx}{k:Nat}{f:Ae}{fd:AD}{ps:List Str}{sp:Sp}{x:Str}{p pos:Pos}{e:A6}{es:List A6}{t:TA}{te:XK→TE}
end
section
variable{X:Cx}{bd:List (Ae×Obj)}{σ:St}{H:Hp}{s:Ad}{v:Ac}
end
def aIO(y:Ae)(C:Ac):HO:=.ext fun h=>∃ ob vs,h.get? y=some ob∧ob.cls=C∧ob.data=.fields vs
open PySem PySem.Spec PyProof.Rows PySem.W Builtin Builtin.ObjectAttr PySem.Calls Builtin.Getset_descriptor
structure aIY(K:Ag)(D:Ae):Prop where
 ga:findIn K (.ref D) "__getattribute__"=some (some (.builtin "BaseException.__getattribute__"))
 gn:findIn K (.ref D) "__getattr__"=some none
 mb:mroIn K D (.type "BaseException")=some true
 hd:hasDictIn K D=true
 ha:findIn K (.ref D) "__class__"=some (some (.builtin "object.__class__"))
 hm:mroIn K D (.type "object")=some true
 hn:specialIn K (.builtin "object.__class__") "__get__"=some (some (.builtin "getset_descriptor.__get__"))
 ht:takesIn K (.builtin "object.__class__")=some true
def aIP(y:Ae)(C:Ac)(h:A8):Prop:=∃ ob vs,h.get? y=some ob∧ob.cls=C∧ob.data=.fields vs
section
variable{X:Cx}
end
section
variable{H H':Hp}{L:List (Ae×Obj)}{b:Ae}{o:Obj}
variable{P:Ay}{w:AQ}{h h':A8}{fs:List Ae}
end
section
variable{P:Ay}{w:AQ}{K:Ag}{mg:Str→Option Ac}{base:A8}{N:List Str}{qual:Str}{scope:CN}{f:Ae}{cd:Ac}{A:AL}{outer:List Env}{s:Ad}{H:Hp}{E:XK}
structure aIQ(cl:List (Str×Ae))(L:List (Ae×Obj))(fs:List Str)(zs:List V):Prop where
 pr:ED (fun(x:Str) (v:V)=>∃ b o u,cl.lookup x=some b∧L.lookup b=some o∧o.data=.cell (some u)∧cQ v u) fs zs
 all:∀ x b,cl.lookup x=some b→∃ o u,L.lookup b=some o∧o.data=.cell u
 inj:∀ x y b,cl.lookup x=some b→cl.lookup y=some b→x=y
end
section
variable{X:Cx}{k:Nat}{x:Str}{p pos:Pos}
end
inductive Thn(H:Hp):V→Prop
 | non:Thn H .non
 | bl (b:Bool):Thn H (.bl b)
 | int (i:Int):Thn H (.int i)
 | str (z:Str):Thn H (.str z)
 | lst {a:Ae} {xs:List V} (e:H a=some (.lst xs)):Thn H (.ref a)
 | tup {a:Ae} {xs:List V} (e:H a=some (.tup xs)):Thn H (.ref a)
 | dct {a:Ae} {de:List (Key×V)} (e:H a=some (.dK de)):Thn H (.ref a)
section
variable{X:Cx}
end
section
variable{prog:Ay}{w:AQ}{A:AL}{E:Ac→Ad→Prop}{s:Ad}
end
section
variable{X:Cx}
end
section
variable{prog:Ay}{w:AQ}{A:AL}{E:Ac→Ad→Prop}{s:Ad}{T:String}{r d:Ae}{n:Nat}{P:Nat→Ac→Prop}{OK:A8→Prop}
end
section
variable{X:Cx}
end
section
variable{prog:Ay}{w:AQ}{A:AL}{E:Ac→Ad→Prop}{s:Ad}
def aIs(P:Ay)(w:AQ)(h:A8)(q:Ae)(kv:Key×Ac):Prop:=∃ o key n,h.get? q=some o∧o.cls=.type "tuple"∧o.data=.seq #[key,kv.2] n∧(cJ P w).is kv.1 key=true
end
section
variable{X:Cx}
end
open PySem.W in
section
variable{X:Cx}
end
section
variable{X:Cx}{bd:List (Ae×Obj)}{σ:St}{H:Hp}{s:Ad}{d:Ae}{de:List (Key×V)}
end
section
variable{X:Cx}{tg:A6}
end
inductive aFP(h:A8)(v:Ac)(z:Str):Prop
 | mk (t:_) (u:_) (a:_) (b:_) (q0:v=.ref t) (q1:DR h t #[.str z u,a,b]):aFP h v z
def NmT(h:A8)(v:Ac)(z:Str):Prop:=aFP h v z
section
variable{prog:Ay}{w:AQ}{A:AL}{E:Ac→Ad→Prop}{s:Ad}
end
section
variable{X:Cx}
end
section
variable{X:Cx}
end
section
variable{X:Cx}
def Ite(a : Ae) : It :=
  ⟨fun i H => ∃ xs x, H a = some (.lst xs) ∧ xs[i]? = some x,
   fun i H v H' => ∃ t x, v = .ref t ∧ H t = none ∧ H' = upd H t (.tup [.int i, x]) ∧ ∀ xs, H a = some (.lst xs) → xs[i]? = some x,
   fun i H => ∃ xs, H a = some (.lst xs) ∧ xs.length ≤ i⟩
theorem aB2{P:Ay}{w:AQ}{K:Ag}{es:List A6}{kk:Nat}{tp:Pos}(a e it:Ae)(ne:e≠it):
  wL P w K (.Tuple es kk tp) (Ite a) [e,it] e (fun i h=>(∃ B,IsEnum h e it (i:Int) B)∧h.IsListIter it a i) where
 mem:=by simp
 obj:=fun i h st c hc=>by
  obtain⟨⟨B,he⟩,⟨o1,e1,_,d1⟩⟩:=st;simp only[Aq,AB,or_false]at hc;rcases hc with rfl | rfl
  ·exact⟨_,he,fun v q=>by cases q⟩
  ·exact⟨_,e1,fun v q=>by rw[d1]at q;cases q⟩
 keep:=fun i h h' st k=>by
  obtain⟨⟨B,he⟩,h1⟩:=st;exact⟨⟨B,k e (by simp) _ he⟩,h1.at fun o z=>k it (by simp) o z⟩
 item:=by
  intro X hP hw hK hc i bd s σ H E I M st hg;subst hP hw hK;obtain⟨xs,x,hxa,hx⟩:=hg;obtain⟨us,r1,p1,z1⟩:=I.list (aV hxa);obtain⟨u,hu,ru⟩:=r1.get hx;obtain⟨⟨B,he⟩,h1⟩:=st;refine wpAny_pyNext_enum_item he h1 p1.isList (x:=u) (by simpa using hu) ne fun h' q1 q2 q3 q4 q5=>⟨_,rfl,?_⟩
  refine wpAny_letOwnedTupleGo_enum q1 fun F Z U=>?_;have lt:∀{c o},s.heap.get? c=some o→s.heap.objs.size≠c:=fun z=>B9 (Az z);have kk:∀ c o,c ∉ [e,it]→s.heap.get? c=some o→F.get? c=some o:=fun c o hc z=>by
   simp only[Aq,AB,or_false,not_or]at hc;exact U.extBut _ _ hc.1 (q5 c o hc.1 hc.2 z)
  have I1:Inv X bd σ H { s with heap:=F,toks:=s.toks + 1 }:=I.turnedL kk M;have nT:H s.heap.objs.size=none:=I.hok.fresh (Ak _);have O:F.get? s.heap.objs.size=some { cls:=.type "tuple",data:=.seq #[.int i s.toks,u] }:=U.extBut _ _ (lt he) q3;have I2:Inv X bd σ (upd H s.heap.objs.size (.tup [.int i,x])) { s with heap:=F,toks:=s.toks + 1 }:=by
   refine I1.track (I.fpOk (Ak _) nT) ⟨aM (show 2≤1000000 by decide),[.int i s.toks,u],.cons ⟨_,rfl⟩ (.cons ru .nil),_,O,⟨rfl,_,rfl⟩,rfl⟩
  have J:((i + 1:Nat):Int)=(i:Int) + 1:=by push_cast;rfl
  have W:IsEnum F e it ((i + 1:Nat):Int) u:=by rw[J];exact Z
  refine⟨.ref s.heap.objs.size,_,I2,rfl,⟨_,x,rfl,nT,rfl,fun am z=>?_⟩,?_,fun c hc=>?_⟩
  ·rw[hxa]at z;cases z;exact hx
  ·exact⟨⟨u,W⟩,q2.at fun o z=>U.extBut _ _ ne.symm z⟩
  ·have Y:c≠s.heap.objs.size:=by
    simp only[Aq,AB,or_false]at hc;rcases hc with rfl | rfl
    ·exact(lt he).symm
    ·obtain⟨_,z,_⟩:=h1;exact(lt z).symm
   rw[bU Y];exact(M c hc).1
 done:=by
  intro X hP hw hK hc i bd s σ H E I M st hg;subst hP hw hK;obtain⟨xs,hxa,hend⟩:=hg;obtain⟨us,r1,p1,z1⟩:=I.list (aV hxa);have l1:=r1.length;obtain⟨⟨B,he⟩,h1⟩:=st;refine wpAny_pyNext_enum_end (I.ok.hd hc) he h1 p1.isList (DJ (by simp;omega)) fun h' q7=>⟨rfl,I.turnedL (t':=s.toks) (fun c o hc z=>?_) M⟩
  simp only[Aq,AB,or_false,not_or]at hc;exact q7 c o hc.2 z
 self:=fun _ _ _ _ _ st h=>by
  obtain⟨⟨B,he⟩,_⟩:=st;exact wpAny_pyIter_enum he h
def aHO(ta:TA):TI:=fun σ H R=>ta σ H fun vs H1=>∃ a xs,vs=[.ref a]∧H1 a=some (.lst xs)∧R (Ite a) H1
theorem aA0{x:A6}{ta:TA}{p pos:Pos}{es:List A6}{kk:Nat}{U:Pos}(W:Gl X "enumerate")(hm:X.mg "enumerate"=none)(ha:PA X [x] ta)(O:starEach [x] X.env=[(false,eval x X.env)]:=by rfl):
  PI X (.Tuple es kk U) (.Call (.Name "enumerate" p) [x] [] pos) (aHO ta):=by
 constructor;intro bd s σ H R I h;refine Call_ (mM I W hm boot_enumerate (Cb (thn (ha pos bd s σ H _ I h) fun Y z ⟨vs,H1,J,M,F⟩=>?_) (by rw[O];rfl) (by rfl)));obtain⟨a,xs,e,hxa,q⟩:=F;subst e;obtain⟨u,rfl,ru⟩:=fH M;cases ru;obtain⟨Y,M,p1,z1⟩:=J.list (aV hxa);refine call_enumerate_list p1.isList fun h' F q2 q3 Z=>?_;refine wpAny_pyIter_enum F ?_;refine⟨_,[z.heap.objs.size + 1,z.heap.objs.size],_,_,H1,rfl,J.kept (t':=z.toks) Z,aB2 a (z.heap.objs.size + 1) z.heap.objs.size (Nat.succ_ne_self _),⟨⟨_,F⟩,q2⟩,fun c hc=>?_,q⟩;have B:z.heap.objs.size≤c:=by
  simp only[Aq,AB,or_false]at hc;rcases hc with rfl | rfl
  ·exact Nat.le_add_right _ 1
  ·exact Ak _
 exact J.fpOk B (J.hok.fresh B)
theorem aDD{a:Ae}{xs:List V}{g:TG}{tb:TS}{D:m9}{σ:St}{H:Hp}(q:Nat→St→Hp→Prop)(Y:q 0 σ H)(O:∀ i σ H,q i σ H→H a=some (.lst xs))
  (U:∀ i x t σ H,xs[i]?=some x→H t=none→q i σ H→g (.ref t) σ (upd H t (.tup [.int i,x])) fun B H2=>tb { D with nx:=q (i + 1),ct:=q (i + 1),bk:=D.nx } B H2) (hd:∀ σ H,q xs.length σ H→D.nx σ H):
  ∃ W:Nat→Nat→St→Hp→Prop,(∃ m,W 0 m σ H)∧∀ i m σ H,W i m σ H→
   ((Ite a).stop i H∧D.nx σ H)∨((Ite a).go i H∧∃ N:St→Hp→Prop,(∀ F H',N F H'→∃ M,M < m∧W (i + 1) M F H')∧∀ x H',(Ite a).yld i H x H'→g x σ H' fun B H2=>tb { D with nx:=N,ct:=N,bk:=D.nx } B H2):=by
 refine⟨fun i m σ H=>m=xs.length - i∧i≤xs.length∧q i σ H,⟨xs.length,by simp,Bc _,Y⟩,?_⟩;rintro i m σ H ⟨rfl,hi,p⟩;have J:=O i σ H p;by_cases z:i < xs.length
 ·refine .inr ⟨⟨xs,xs[i],J,by simp[z]⟩,q (i + 1),fun F H' Z=>⟨xs.length - (i + 1),by omega,rfl,z,Z⟩,fun v H' y=>?_⟩;obtain⟨t,x',rfl,ht,rfl,ex⟩:=y;exact U i x' t σ H (ex xs J) ht p
 ·have e:i=xs.length:=by omega
  subst e;exact .inl ⟨⟨xs,J,Ak _⟩,hd σ H p⟩
theorem aB3{a:Ae}{xs:List V}{g:TG}{J:TT}{te:TE}{M:St}{H₀:Hp}{Q:VK}(q:Nat→List V→St→Hp→Prop)(W:q 0 [] M H₀)(hn:xs.length≤sizeLine)(z:∀ i ys σ H,q i ys σ H→ys.length≤i)
  (F:∀ i ys σ H,q i ys σ H→H a=some (.lst xs))
  (U:∀ i x t ys σ H,xs[i]?=some x→H t=none→q i ys σ H→g (.ref t) σ (upd H t (.tup [.int i,x])) fun B H2=>J B H2 fun b O=>if b=true then te B O fun v Y=>q (i + 1) (ys ++ [v]) B Y else q (i + 1) ys B O)
  (hd:∀ ys σ H,q xs.length ys σ H→∀ D,H D=none→Q (.ref D) (upd H D (.lst ys))):nJ (Ite a) g J te M H₀ Q:=
 lH xs.length q W hn z (fun i ys σ H h p=>⟨xs,xs[i],F i ys σ H p,by simp[h]⟩) (fun ys σ H p=>⟨xs,F _ ys σ H p,Ak _⟩) (fun i ys σ H v H' hi p y=>by
  obtain⟨t,x,e,ht,e2,hx⟩:=y;subst e e2;exact U i x t ys σ _ (hx xs (F i ys σ _ p)) ht p) hd
end
inductive iW(x:V)(xs:List V)(H:Hp)(Q:VK):Prop
 | mk (z:_) (y:_) (q0:x=.str z) (q1:xs=[.str y]) (q2:Q (.bl (Txt.startswith z y)) H):iW x xs H Q
def pZ:V→List V→Hp→VK→Prop:=fun x xs H Q=>iW x xs H Q
theorem tX{X:Cx}:MtR X "str.startswith" pZ:=by
 intro bd s σ H x xs v J Q I B r h;obtain⟨z,y,rfl,rfl,q⟩:=h;obtain⟨t,rfl⟩:=B;obtain⟨u,rfl,ru⟩:=fH r;obtain⟨u',rfl⟩:=ru;exact call_gives F.slot_str_startswith (DB _ _ _) F.entry_str_startswith (F.args_str_startswith_2 _ _) (gives_str_startswith z y t u') ⟨.bl _,H,I,rfl,q⟩
theorem aGK{X:Cx}{a:Ae}{vs:List (Key×Ac)}{de:List (Key×V)}(hd:∀ h:A8,X.K.In h→h.DictOf (cJ X.prog X.w) a vs)(rel:KV de vs)(hz:(a == sysModules)=false):OpR X (compareOp .In) (fun x y H Q=>∃ k,x=kV k∧y=.ref a∧Q (.bl ((f9 de k).isSome)) H):=by
 intro bd s σ H x y v u Q I z B h;obtain⟨k,rfl,rfl,q⟩:=h;cases B;refine wpAny_in_of (pL z) hz (hd _ I.kIn).mapOf ?_;rw[← (rel.val k).isSome_eq];exact⟨.bl _,H,I.tok _,rfl,q⟩
section
variable{X:Cx}
theorem aEU{a:A6}{pos:Pos}{ta:TE}(ha:PE X a ta):PE X (.UnaryOp .Not a pos) (fun σ H Q=>ta σ H fun x H1=>∃ k,aGl X.K x H1 k∧Q (.bl (!k)) H1):=by
 constructor;intro bd s σ H Q I h;refine UnaryOp_ (thn (ha bd s σ H _ I h) fun v J ⟨x,H1,U,M,B⟩=>?_);obtain⟨k,hk,q⟩:=B;exact not_of (thn (aCE bd J σ H1 x v (fun c H2=>c=k∧H2=H1) U M ⟨k,hk,rfl,rfl⟩) fun c W ⟨H2,z,F,O⟩=>by
  subst F O;exact⟨.bl (!c),H2,z,rfl,q⟩)
end
end L2
namespace K70
open PySem L2
theorem nW{a b:Str}{X Y:Prop}(n:a≠b)(h:Y):if decide (V.str a=V.str b)=true then X else Y:=dR (fun g=>absurd (V.str.inj (Ie g)) n) fun _=>h
theorem yW{a:Str}{X Y:Prop}(h:X):if decide (V.str a=V.str a)=true then X else Y:=dR (fun _=>h) fun g=>absurd (Ic rfl) g
theorem zZ1{q:V}:[q].length≤sizeLine:=aM (show 1≤1000000 by decide)
theorem zZ2{q a1:V}:[q,a1].length≤sizeLine:=aM (show 2≤1000000 by decide)
theorem zZ3{q a1 a2:V}:[q,a1,a2].length≤sizeLine:=aM (show 3≤1000000 by decide)
theorem zZ4{q a1 a2 a3:V}:[q,a1,a2,a3].length≤sizeLine:=aM (show 4≤1000000 by decide)
theorem zZ6{q a1 a2 a3 a4 a5:V}:[q,a1,a2,a3,a4,a5].length≤sizeLine:=aM (show 6≤1000000 by decide)
theorem zZ9{q a1 a2 a3 a4 a5 a6 a7 a8:V}:[q,a1,a2,a3,a4,a5,a6,a7,a8].length≤sizeLine:=aM (show 9≤1000000 by decide)
theorem aIt{q a1 a2 a3 a4 a5 a6 a7 a8 a9:V}:[q,a1,a2,a3,a4,a5,a6,a7,a8,a9].length≤sizeLine:=aM (show 10≤1000000 by decide)
def Cl(P:Ay)(w:AQ)(K:Ag)(mg:Str→Option Ac)(base:A8)(k:Nat)(n:Str)(ps:List Str)(sp:Sp):Prop:=∃ f fd,cH P w K mg base CX0 k f fd ps sp∧mg n=some (.ref f)∧Aj K (.ref f)=true∧eV K fd ps []
theorem bC{X:Cx}{k:Nat}{ps:List Str}{sp:Sp}{x:Str}{p pos:Pos}{e:A6}{es:List A6}{t:TA}(c:Cl X.prog X.w X.K X.mg X.base k x ps sp)(M:cF k X.A)(ha:PA X (e::es) t)(B:Gl X x:=by rfl)(z:(x==("__debug__":Str))=false:=by decide)(J:starEach (e::es) X.env=(false,eval e X.env)::starEach es X.env:=by rfl)(q:(backTo pos (starEach es X.env)).any (·.1)=false:=by rfl):PE X (.Call (.Name x p) (e::es) [] pos) (aFE sp [] E0 t):=by
 obtain⟨f,fd,F,hm,hk,hb⟩:=c;exact f6 F M B hm hk hb .nil kJ ha z J q
def top(i:Nat):Bx:=PySem.Challenge.pw_dykelengths_k70_rolls_written_and_read.main.body.getD i (.Pass ⟨0,0,0,0⟩)
abbrev gL:Bx:=top 1
abbrev jJ:Bx:=top 2
abbrev gM:Bx:=top 3
abbrev fS:Bx:=top 4
abbrev j6:Bx:=top 10
abbrev iJ:Bx:=top 22
abbrev jK:Bx:=top 23
abbrev j7:Bx:=top 24
abbrev jL:Bx:=top 25
abbrev lQ:Bx:=top 26
abbrev gN:Bx:=top 27
abbrev gO:Bx:=top 28
abbrev gP:Bx:=top 29
abbrev iK:Bx:=top 30
abbrev lS:Bx:=top 31
abbrev oU:Bx:=top 32
abbrev oV:Bx:=top 33
abbrev iL:Bx:=top 34
abbrev iM:Bx:=top 35
abbrev oW:Bx:=top 36
abbrev lU:Bx:=top 37
abbrev jM:Bx:=top 38
abbrev oX:Bx:=top 39
abbrev oY:Bx:=top 41
abbrev jN:Bx:=top 42
abbrev oZ:Bx:=top 43
abbrev o0:Bx:=top 44
abbrev gQ:Bx:=top 49
abbrev mX:Bx:=top 50
abbrev j8:Bx:=top 51
abbrev lV:Bx:=top 52
abbrev o8:Bx:=top 53
abbrev jO:Bx:=top 54
abbrev iX:Bx:=top 55
abbrev gR:Bx:=top 56
abbrev uN:Bx:=top 57
abbrev aB4:Bx:=top 59
abbrev sJ:Bx:=top 60
abbrev mY:Bx:=top 61
abbrev pA:Bx:=top 62
abbrev sK:Bx:=top 63
abbrev lW:Bx:=top 64
abbrev pB:Bx:=top 65
abbrev sP:Bx:=top 66
abbrev mZ:Bx:=top 67
abbrev aB5:Bx:=top 68
abbrev pC:Bx:=top 69
abbrev gS:Bx:=top 70
abbrev fA:Bx:=top 71
abbrev m3:Bx:=top 72
abbrev tY:Bx:=top 73
def bM(z:Str):Bool:=decide (1≤z.length∧z.length≤8) && z.cps.toList.all fun c=>decide (97≤c∧c≤122)
def isL(c:Nat):Bool:=decide (97≤c∧c≤122)
def hJ(i:Nat):Nat:=97 + i % 26
theorem v3(i:Nat):isL (hJ i)=true:=by
 unfold isL hJ;exact Ic (by omega)
abbrev abc:Str:=A5 "abcdefghijklmnopqrstuvwxyz"
theorem aDE:abc.cps.toList=Ep 97 26:=by decide
theorem aDF{i:Int}(q:0≤i)(h1:i < 26):atI abc.cps.toList i=some (hJ i.toNat):=by
 obtain⟨j,rfl⟩:∃ j:Nat,i=j:=⟨i.toNat,by omega⟩
 unfold atI ixN;rw[aDE,Ib q,Ib (by simpa using h1)];simp only[Bo,Option.bind_some];rw[List.getElem?_range' (by omega)];unfold hJ;congr 1;omega
theorem aEV:abc.length=26:=by decide
def mk(l:List Nat):Str:=⟨l.toArray⟩
theorem aGL{a b:List Nat}(h:mk a=mk b):a=b:=by
 have:=congrArg (fun z:Str=>z.cps.toList) h;simpa[mk]using this
theorem j9(l:List Nat):(mk l).length=l.length:=by
 show l.toArray.size=_;simp
theorem zX(a b:List Nat):mk a ++ mk b=mk (a ++ b):=by
 show(⟨a.toArray ++ b.toArray⟩:Str)=_;simp[mk]
def xP(t k:Nat):List Nat:=[hJ (t + 7 * k),hJ (t + k / 26)]
def bij:Nat→Nat→List Nat
 | 0,_=>[]
 | f + 1,n=>if n=0 then[] else bij f ((n - 1) / 2) ++ [n % 2]
def bin(t n:Nat):List Nat:=(bij 6 n).map fun d=>hJ (t + 9 * d)
theorem aEW:∀ t < 26,((AV 44).map (xP t)).Nodup:=by decide
theorem aGM:∀ t < 26,((AV 44).map fun k=>bin t (k + 1)).Nodup:=by decide
theorem aEX:∀ k < 44,1≤(bij 6 (k + 1)).length∧(bij 6 (k + 1)).length≤8:=by decide
def word(one:Bool)(b:List Nat)(sp t k:Nat):List Nat:=if one then bin t (k + 1) else b.take sp ++ xP t k ++ b.drop sp
theorem aGN{α:Type}{f:Nat→α}{n m:Nat}(h:((AV n).map f).Nodup)(hm:m≤n):((AV m).map f).Nodup:=by
 obtain⟨d,rfl⟩:∃ d,n=m + d:=⟨n - m,by omega⟩
 rw[List.range_add,Au]at h;exact(CQ.mp h).1
theorem aDG{α β:Type}{f:α→β}(z:∀ a b,f a=f b→a=b){l:List α}(h:l.Nodup):(l.map f).Nodup:=by
 rw[List.nodup_iff_pairwise_ne]at h ⊢;exact Cr.mpr (h.imp fun q e=>q (z _ _ e))
theorem aEY{one:Bool}{b:List Nat}{sp t m:Nat}(ht:t < 26)(hm:m≤44):((AV m).map fun k=>mk (word one b sp t k)).Nodup:=by
 refine aGN (n:=44) ?_ hm;have e:((AV 44).map fun k=>mk (word one b sp t k))=((AV 44).map (word one b sp t)).map mk:=by rw[B6];rfl
 rw[e];refine aDG (fun _ _ h=>aGL h) ?_;cases one with
 | true=>exact aGM t ht
 | false=>
  have z:(AV 44).map (word false b sp t)=((AV 44).map (xP t)).map fun q=>b.take sp ++ q ++ b.drop sp:=by rw[B6];rfl
  rw[z];refine aDG (fun x y h=>?_) (aEW t ht);exact List.append_cancel_left (List.append_cancel_right h)
theorem xQ{l:List Nat}(h1:1≤l.length)(q:l.length≤8)(ha:∀ c∈l,isL c=true):bM (mk l)=true:=by
 unfold bM;rw[j9,Ic ⟨h1,q⟩,AY];have e:(mk l).cps.toList=l:=by simp[mk]
 rw[e,AU];exact ha
theorem dA{z:Str}(h:bM z=true):1≤z.length∧z.length≤8:=by
 unfold bM at h;rw[A9]at h;exact Ie h.1
theorem aB6{one:Bool}{b:List Nat}{sp t k:Nat}(z:k < 44)(F:b.length≤6)(ha:∀ c∈b,isL c=true):bM (mk (word one b sp t k))=true:=by
 cases one with
 | true=>
  have h:=aEX k z;refine xQ (by show 1≤(bin t (k + 1)).length;unfold bin;rw[Ab];omega) (by show(bin t (k + 1)).length≤8;unfold bin;rw[Ab];omega) (fun c hc=>?_);have q:c∈bin t (k + 1):=hc;unfold bin at q;obtain⟨d,_,rfl⟩:=A7.mp q;exact v3 _
 | false=>
  have B:(word false b sp t k).length=b.length + 2:=by
   show(b.take sp ++ xP t k ++ b.drop sp).length=_;rw[An,An,AC,C2];show min sp b.length + 2 + (b.length - sp)=_;omega
  refine xQ (by omega) (by omega) (fun c hc=>?_);have q:c∈b.take sp ++ xP t k ++ b.drop sp:=hc;rcases A4.mp q with h | h
  ·rcases A4.mp h with h | h
   ·exact ha c (List.mem_of_mem_take h)
   ·unfold xP at h;simp only[Aq,AB,or_false]at h;rcases h with rfl | rfl
    ·exact v3 _
    ·exact v3 _
  ·exact ha c (List.mem_of_mem_drop h)
theorem aDH{α:Type}{x:α}:∀{l:List α}{j:Nat},l.Nodup→x ∉ l→(l.set j x).Nodup
 | [],_,_,_=>by simp
 | y :: r,0,h,q=>by
  rw[List.set_cons_zero,Ck]at *;exact⟨fun z=>q (AF _ z),h.2⟩
 | y :: r,j + 1,h,q=>by
  rw[List.set_cons_succ];rw[Ck]at *;refine⟨fun z=>?_,aDH h.2 fun z=>q (AF _ z)⟩;rcases List.mem_or_eq_of_mem_set z with z | z
  ·exact h.1 z
  ·exact q (z ▸ AH)
def mH:List Str:=["as","with","part","field","none","done","write","back","join"]
theorem zY:∀ z∈mH,bM z=true:=by decide
theorem fU:∀ ns:List Str,(ns.map V.str).all gF=true
 | []=>rfl
 | _ :: r=>by simpa[gF]using fU r
theorem nX(z:Str):∀ ns:List Str,inV (.str z) (ns.map V.str)=decide (z∈ns):=by
 intro ns;unfold inV;rw[List.any_map];rw[BB,C3,decide_eq_true_iff];constructor
 ·rintro⟨y,hy,e⟩;have:y=z:=by simpa[eqV]using e
  exact this ▸ hy
 ·intro h;exact⟨z,h,by simp[eqV]⟩
abbrev gB:Key:=Am ("cells":Str)
abbrev kAt:Key:=Am ("at":Str)
abbrev iY:Key:=Am ("left":Str)
def hU(c:Ae)(a l:Int):List (Key×V):=[(gB,.ref c),(kAt,.int a),(iY,.int l)]
theorem aGO:¬ (gB=kAt):=by decide
theorem aGP:¬ (gB=iY):=by decide
theorem aEZ:¬ (kAt=iY):=by decide
theorem aIu:¬ (iY=kAt):=fun e=>aEZ e.symm
theorem aB7(c:Ae)(a l:Int):f9 (hU c a l) gB=some (.ref c):=by
 unfold hU;rw[jC rfl]
theorem aGQ(c:Ae)(a l:Int):f9 (hU c a l) kAt=some (.int a):=by
 unfold hU;rw[dG aGO,jC rfl]
theorem aDI(c:Ae)(a l:Int):f9 (hU c a l) iY=some (.int l):=by
 unfold hU;rw[dG aGP,dG aEZ,jC rfl]
theorem aGR(c:Ae)(a l q:Int):gG (hU c a l) kAt (.int q)=hU c q l:=by
 unfold gG hU;rw[Ib (by rw[C3];exact⟨(kAt,.int a),by simp,Ic rfl⟩)];simp only[Bg,Dk,Ia aGO,Ia aIu,Ib]
theorem aDJ(c:Ae)(a l q:Int):gG (hU c a l) iY (.int q)=hU c a q:=by
 unfold gG hU;rw[Ib (by rw[C3];exact⟨(iY,.int l),by simp,Ic rfl⟩)];simp only[Bg,Dk,Ia aGP,Ia aEZ,Ib]
theorem aGS{H:Hp}{p c:Ae}{a l:Int}(h:H p=some (.dK (hU c a l))):oM H p (.str "left") (some (.int l)):=by
 have:=oM.k (k:=iY) h;rw[aDI]at this;exact this
theorem aIv{H:Hp}{p c:Ae}{a l:Int}(h:H p=some (.dK (hU c a l))):oM H p (.str "at") (some (.int a)):=by
 have:=oM.k (k:=kAt) h;rw[aGQ]at this;exact this
theorem aIw{H:Hp}{p c:Ae}{a l:Int}(h:H p=some (.dK (hU c a l))):oM H p (.str "cells") (some (.ref c)):=by
 have:=oM.k (k:=gB) h;rw[aB7]at this;exact this
theorem aHP{H:Hp}{p c:Ae}{a l:Int}(q:Int)(h:H p=some (.dK (hU c a l))):wV H p (.str "left") (.int q) (upd H p (.dK (hU c a q))):=by
 have:=wV.k (k:=iY) (v:=.int q) h (jD (by show 3≤1000;decide));rw[aDJ]at this;exact this
theorem aIx{H:Hp}{p c:Ae}{a l:Int}(q:Int)(h:H p=some (.dK (hU c a l))):wV H p (.str "at") (.int q) (upd H p (.dK (hU c q l))):=by
 have:=wV.k (k:=kAt) (v:=.int q) h (jD (by show 3≤1000;decide));rw[aGR]at this;exact this
structure cU(H:Hp)(p c:Ae)(ns:List Int)(a:Int):Prop where
 ob:∃ l,0≤l∧H p=some (.dK (hU c a l))
 ce:H c=some (.lst (ns.map V.int))
 ge:0≤a
 sm:ns.length≤63
theorem cU.same{H H':Hp}{p c:Ae}{ns:List Int}{a:Int}(x:cU H p c ns a)(h:bA H H'):cU H' p c ns a:=by
 obtain⟨⟨l,hl,e⟩,ce,ge,sm⟩:=x;exact⟨⟨l,hl,h _ _ e⟩,h _ _ ce,ge,sm⟩
theorem cU.ne{H:Hp}{p c:Ae}{ns:List Int}{a:Int}(x:cU H p c ns a):c≠p:=by
 obtain⟨⟨l,hl,e⟩,ce,_,_⟩:=x;exact aCt ce e (by intro z;cases z)
inductive aA1(K:Ag)(vs:List V)(H:Hp)(Q:VK)(u3_:XK):Prop
 | mk (a:Ae) (ns:List Int) (q0:vs=[.ref a]) (q1:SqL K H a (ns.map V.int)) (q2:ns.length≤63) (q3:∀ p c H',cU H' p c ns 0→bA H H'→H p=none→Q (.ref p) H'):aA1 K vs H Q u3_
def aFQ(K:Ag):Sp:=fun vs H Q u3_=>aA1 K vs H Q u3_
inductive xR(vs:List V)(H:Hp)(Q:VK)(u3_:XK):Prop
 | mk (p c:Ae) (ns:List Int) (a m:Int) (q0:vs=[.ref p,.int m]) (q1:cU H p c ns a) (q2:a≤1000000) (q3:0 < m) (q4:m < 2 ^ 512) (q5:∀ r a' H',0≤r→r < m→a≤a'→a'≤a + 1→cU H' p c ns a'→aY p H H'→Q (.int r) H'):xR vs H Q u3_
def i7:Sp:=fun vs H Q u3_=>xR vs H Q u3_
variable{P:Ay}{w:AQ}{K:Ag}{mg:Str→Option Ac}{base:A8}
theorem aHQ:bJ ["_law_script"] ["_law_script"] (aO aB4):=⟨rfl,rfl,rfl,by decide,rfl,by decide,by decide⟩
theorem aHR(ns:List Int)(h:ns.length≤63):fG (ns.map V.int) none (some 63)=ns.map V.int:=by
 have e:HT.sIx (ns.map V.int).length (ns.map V.int).length (some 63)=(ns.map V.int).length:=by
  have:=HT.sIx_nat (ns.map V.int).length (ns.map V.int).length 63;rw[Ab]at this ⊢;refine Eq.trans this ?_;omega
 unfold fG;rw[e,HT.sIx_none,Cv,EO,AZ]
theorem aGT{f:Ae}{fd:AD}(F:Fun K "_law_pen" "_law_pen" aB4 f fd)(B:mg "list"=none):cH P w K mg base CX0 1 f fd ["_law_script"] (aFQ K):=by
 refine F.ok aHQ (fun vs H Q E h=>?_) (fun Z A outer s H vs Q E hr h=>?_)
 ·obtain⟨a,ns,rfl,_⟩:=h;rfl
 ·obtain⟨a,ns,rfl,hS,hn,k⟩:=h;refine⟨_,aU (aZ (aAG (gY bE (cC dO (by rfl) B (by kernel_rfl) (fZ (c7 f7 (pv 0) dZ (dD aI)) aG)) (gY bE aI (gY bE aI aAF))) rfl rfl (by simp) (by decide))),?_⟩;intro p W;refine⟨_,rfl,_,rfl,_,_,rfl,(aS W).seq hS,fun q Y=>?_⟩;rw[aHR ns hn];refine⟨q,_,rfl,.inl (aV aJ),fun c hc=>?_⟩;have J:q≠p:=(bF aJ Y).symm;have M:c≠p:=(bF (show upd (upd H p (HO.dK [])) q (.lst (ns.map V.int)) p=some (HO.dK []) by rw[bU J.symm,aJ]) hc).symm;refine⟨by rw[bU M.symm,bU J.symm,aJ],[(gB,.ref c),(kAt,.int 0),(iY,.int 0)],rfl,by show 3≤15;decide,?_⟩;have em:mS [] [(gB,V.ref c),(kAt,.int 0),(iY,.int 0)]=hU c 0 0:=by
   have e1:gG ([]:List (Key×V)) gB (.ref c)=[(gB,.ref c)]:=by rw[qS _ qQ];rfl
   have e2:gG [(gB,V.ref c)] kAt (.int 0)=[(gB,.ref c),(kAt,.int 0)]:=by rw[qS _ (by rw[dG aGO,qQ])];rfl
   have e3:gG [(gB,V.ref c),(kAt,.int 0)] iY (.int 0)=[(gB,.ref c),(kAt,.int 0),(iY,.int 0)]:=by rw[qS _ (by rw[dG aGP,dG aEZ,qQ])];rfl
   show gG (gG (gG [] gB (.ref c)) kAt (.int 0)) iY (.int 0)=_;rw[e1,e2,e3];rfl
  rw[em];refine k p c _ ⟨⟨0,DZ _,aJ⟩,by rw[bU M,aJ],DZ _,hn⟩ (fun b o e=>?_) W;have z:b≠p:=bF e W;have O:b≠q:=bF (show upd H p (HO.dK []) b=some o by rw[bU z];exact e) Y;have U:b≠c:=bF (show upd (upd H p (HO.dK [])) q (.lst (ns.map V.int)) b=some o by rw[bU O,bU z];exact e) hc;rw[bU z,bU U,bU O,bU z];exact e
theorem lE:bJ ["_law_pen_here","_law_many","_law_found","_law_at","_law_cells","_law_cell","_law_one","_law_two"] ["_law_pen_here","_law_many"] (aO sJ):=⟨rfl,rfl,rfl,by decide,rfl,by decide,by decide⟩
theorem aHS{c a b:Int}(hc:0≤c)(h:0≤a)(h2:a≤b):0≤c * a * a∧c * a * a≤c * b * b:=by
 have h1:0≤c * a:=EF hc h;have q:c * a≤c * b:=Int.mul_le_mul_of_nonneg_left h2 hc;exact⟨EF h1 h,Int.mul_le_mul q h2 h (EF hc (Int.le_trans h h2))⟩
theorem aIy(x:Int){a:Int}(h:0≤a)(h2:a≤1000000):Int.natAbs (x % (2147483629:Int) + (1213:Int) * a * a + (3:Int)) < 2 ^ 64:=by
 obtain⟨b1,b2⟩:=aHS (c:=(1213:Int)) (a:=a) (b:=1000000) (by decide) h h2;have z:=B8 x (show(2147483629:Int)≠0 by decide);have q:=B3 x (show 0 < (2147483629:Int) by decide);omega
theorem aIz{x:Int}:-(2 ^ 64) < x % (2147483543:Int)∧x % (2147483543:Int) < 2 ^ 64:=by
 have q:=B8 x (show(2147483543:Int)≠0 by decide);have z:=B3 x (show 0 < (2147483543:Int) by decide);omega
theorem aE0{f:Ae}{fd:AD}(F:Fun K "_law_take" "_law_take" sJ f fd)(Y:mg "len"=none)(O:mg "abs"=none):cH P w K mg base CX0 1 f fd ["_law_pen_here","_law_many"] i7:=by
 refine F.ok lE (fun vs H Q E h=>?_) (fun ag A outer s H vs Q E hr h=>?_)
 ·obtain⟨p,c,ns,a,m,rfl,_⟩:=h;rfl
 ·obtain⟨p,c,ns,a,m,rfl,hp,ha,hm,hm2,k⟩:=h;have Z:=aAI hr;have af:(A.deeper (PyProof.Rows.envOfC "_law_take" (aO sJ) s.heap.objs.size f ag)).units < cLine:=by omega
  refine⟨_,aQ (cX (bS aFA (nF Z (pv 0) bE Ig) aI (cA _))
    (aQ (bQ (i:=2) lE.nd rfl (AG rfl) (bO fX (nF Z (pv 0) bE Ig) (pv 1)))
    (aQ (vQ Z (pv 0) bE (bO qX (nF Z (pv 0) bE Ig) (pv 1)) rfl)
    (aU (aZ (pv 2))))) b8)
   (aQ (bQ (i:=3) lE.nd rfl (AG rfl) (nF Z (pv 0) bE Ig))
   (aQ (vQ Z (pv 0) bE (bO dQ (pv 3) aI) rfl)
   (aQ (bQ (i:=4) lE.nd rfl (AG rfl) (nF Z (pv 0) bE Ig))
   (aQ (bQ (i:=5) lE.nd rfl (AG rfl) (bO dQ (bO dQ (bO jW (bO jW aI (pv 3)) (pv 3)) (bO jW aI (pv 3))) aI))
   (aQ (g9 <| cX (bS (aGA af) (pv 4) (d9 aG) (cA _))
    (aU (bQ (i:=5) lE.nd rfl (AG rfl) (bV cV (pv 4) (bO fX (pv 3) (aW bG (by rfl) Y AM (fZ (pv 4) aG))) Ig))) b8)
   (aQ (g9 <| cX (qG (bS aCA (pv 3) (aW bG (by rfl) Y AM (fZ (pv 4) aG)) (cA _))
     (nA (bS aCB (aW qL (by rfl) O (by kernel_rfl) (fZ (pv 5) aG)) (bO i5 aI aI) (cA _)))).pt
    (aQ (vQ Z (pv 0) bE (bO qX (aW qL (by rfl) O (by kernel_rfl) (fZ (pv 5) aG)) (pv 1)) rfl)
    (aU (aZ (bO fX (aW qL (by rfl) O (by kernel_rfl) (fZ (pv 5) aG)) (pv 1))))) b8)
   (aQ (bQ (i:=6) lE.nd rfl (AG rfl) (bO fX (bO i5 (bO dQ (bO dQ (bO fX (pv 5) aI) (bO jW aI (pv 3))) aI) aI) aI))
   (aQ (bQ (i:=7) lE.nd rfl (AG rfl) (bO fX (bO i5 (bO dQ (bO dQ (pv 6) (bO jW (bO jW aI (pv 3)) (pv 3))) aI) aI) aI))
   (aU (aZ (bO fX (bO qX (bO fX (bO jW (pv 7) (bO dQ (bO fX (pv 6) aI) aI)) aI) aI) (pv 1)))))))))))),?_⟩
  obtain⟨⟨l,hl0,hob⟩,hce,hge,hsm⟩:=id hp;have ab:=hp.ne;refine⟨_,rfl,p,_,rfl,aGS hob,_,_,rfl,rfl,_,rfl,dR (fun h0=>?_) (fun h0=>?_)⟩
  ·exact⟨_,rfl,p,_,rfl,aGS hob,_,rfl,_,_,rfl,rfl,hm,_,rfl,p,_,rfl,aGS hob,_,rfl,_,_,rfl,rfl,uI.of hm hm2,_,rfl,p,_,rfl,aHP _ hob,_,rfl,k (l % m) a _ (B8 _ (by omega)) (B3 _ hm) (DZ _) (by omega) ⟨⟨l / m,Int.ediv_nonneg hl0 (by omega),aJ⟩,by rw[bU ab];exact hce,hge,hsm⟩ (aY.refl p H).upd⟩
  ·refine⟨_,rfl,p,_,rfl,aIv hob,_,rfl,_,_,rfl,rfl,_,rfl,p,_,rfl,aIx _ hob,_,rfl,p,_,rfl,aIw aJ,_,rfl,_,_,rfl,rfl,.inl (by decide),_,rfl,_,_,rfl,rfl,.inr (by omega),_,rfl,_,_,rfl,rfl,.inl (by decide),_,_,rfl,rfl,_,_,rfl,rfl,?_⟩;have J:aY p H (upd H p (.dK (hU c (a + 1) l))):=(aY.refl p H).upd;have M:(upd H p (.dK (hU c (a + 1) l))) c=some (.lst (ns.map V.int)):=by rw[bU ab];exact hce
   refine⟨fun σ' H'=>∃ z:Int,σ'=[some (.ref p),some (.int m),none,some (.int a),some (.ref c),some (.int z),none,none]∧aY p H H'∧H' p=some (.dK (hU c (a + 1) l))∧H' c=some (.lst (ns.map V.int)),?_,?_⟩
   ·refine⟨_,rfl,Bc _,fun q hq=>?_⟩;have W:=aS (o:=.lst []) hq;refine⟨c,q,ns.map V.int,[],rfl,rfl,aV (W _ _ M),aV aJ,lI ns,rfl,_,rfl,dR (fun ac=>?_) (fun ac=>?_)⟩
    ·have aj:0 < ns.length:=by
      cases ns with
      | nil=>exact absurd ac (by simp[tT])
      | cons x r=>simp
     have ah:(a % (ns.length:Int)).toNat < ns.length:=by
      have h1:=B3 a (show(0:Int) < ns.length by omega);have h2:=B8 a (show(ns.length:Int)≠0 by omega);omega
     have ai:atI (ns.map V.int) (a % (ns.length:Int))=some (.int (ns[(a % (ns.length:Int)).toNat])):=by
      have h2:=B8 a (show(ns.length:Int)≠0 by omega);have e:=c3 (xs:=ns.map V.int) (j:=(a % (ns.length:Int)).toNat) (v:=.int (ns[(a % (ns.length:Int)).toNat])) (by rw[AI,Ai ah];rfl);rw[Int.toNat_of_nonneg h2]at e;exact e
     have ad:atI (ns.map V.int) (a % ((ns.map V.int).length:Int))=some (.int (ns[(a % (ns.length:Int)).toNat])):=by
      rw[Ab];exact ai
     exact⟨_,rfl,_,rfl,_,rfl,c,_,rfl,.inl (aV (W _ _ M)),_,_,rfl,rfl,(by rw[Ab];omega),c,_,_,_,rfl,rfl,aV (W _ _ M),ad,_,rfl,J.same W,W _ _ aJ,W _ _ M⟩
    ·exact⟨_,rfl,J.same W,W _ _ aJ,W _ _ M⟩
   ·rintro σ' H' ⟨z,rfl,kp,U,B⟩;refine⟨fun σ' H'=>∃ z:Int,σ'=[some (.ref p),some (.int m),none,some (.int a),some (.ref c),some (.int z),none,none]∧aY p H H'∧H' p=some (.dK (hU c (a + 1) l))∧H' c=some (.lst (ns.map V.int)),?_,?_⟩
    ·refine⟨_,rfl,_,rfl,c,_,rfl,.inl (aV B),_,_,rfl,rfl,_,rfl,dR (fun h1=>?_) (fun h1=>?_)⟩
     ·refine⟨_,rfl,_,rfl,_,_,rfl,rfl,⟨by decide,by decide,by decide⟩,_,_,rfl,rfl,_,rfl,dR (fun h2=>?_) (fun h2=>?_)⟩
      ·refine⟨_,rfl,_,rfl,_,rfl,_,_,rfl,rfl,uI.of hm hm2,_,rfl,p,_,rfl,aHP _ U,_,rfl,_,rfl,_,rfl,_,_,rfl,rfl,hm,?_⟩;have aa:0≤(if z < 0 then -z else z):=by split <;> omega
       exact k _ (a + 1) _ (B8 _ (by omega)) (B3 _ hm) (by omega) (DZ _) ⟨⟨_,Int.ediv_nonneg aa (by omega),aJ⟩,by rw[bU ab];exact B,by omega,hsm⟩ kp.upd
      ·exact⟨z,rfl,kp,U,B⟩
     ·exact dC ⟨z,rfl,kp,U,B⟩
    ·rintro σ' H' ⟨z,rfl,kp,U,B⟩;refine⟨_,rfl,_,_,rfl,rfl,(by show(0:Int) < _;decide),_,rfl,_,_,rfl,rfl,.inl (by decide),_,_,rfl,rfl,_,_,rfl,rfl,_,_,rfl,rfl,⟨by decide,by decide,?_⟩,_,_,rfl,rfl,(by show(0:Int) < _;decide),?_⟩
     ·have e1:=B8 z (show(2147483587:Int)≠0 by decide);have e2:=B3 z (show 0 < (2147483587:Int) by decide);show Int.natAbs (z % (2147483587:Int) + (45007:Int) * a + (11:Int)) < 2 ^ 64;omega
     ·exact⟨_,rfl,_,rfl,_,_,rfl,rfl,.inl (by decide),_,rfl,_,_,rfl,rfl,.inr (by omega),_,_,rfl,rfl,_,_,rfl,rfl,_,_,rfl,rfl,⟨by decide,by decide,aIy _ hge ha⟩,_,_,rfl,rfl,(by show(0:Int) < _;decide),_,rfl,_,rfl,_,_,rfl,rfl,(by show(0:Int) < _;decide),_,_,rfl,rfl,_,_,rfl,rfl,.inl aIz,_,_,rfl,rfl,(by show(0:Int) < _;decide),_,_,rfl,rfl,uI.of (by decide) (by decide),_,rfl,_,_,rfl,rfl,hm,k _ (a + 1) _ (B8 _ (by omega)) (B3 _ hm) (by omega) (DZ _) ⟨⟨l,hl0,U⟩,B,by omega,hsm⟩ kp⟩
structure Nms(ws:List Str):Prop where
 nd:ws.Nodup
 ok:∀ w∈ws,bM w=true
theorem Nms.take{q:List Str}(h:Nms q)(n:Nat):Nms (q.take n):=⟨h.nd.sublist (List.take_sublist n q),fun w hw=>h.ok w (List.mem_of_mem_take hw)⟩
inductive uO(vs:List V)(H:Hp)(Q:VK)(u3_:XK):Prop
 | mk (p c:Ae) (ns:List Int) (a:Int) (m:Nat) (q0:vs=[.ref p,.int m]) (q1:cU H p c ns a) (q2:a≤900000) (q3:m≤44) (q4:∀ l ws a' H',H l=none→H' l=some (.lst (ws.map V.str))→ws.length=m→Nms ws→a≤a'→a'≤a + 30→cU H' p c ns a'→aY p H H'→Q (.ref l) H'):uO vs H Q u3_
def aA2:Sp:=fun vs H Q u3_=>uO vs H Q u3_
theorem m4(l:List Nat):∀(m s:Nat),(Ep s m).filterMap (fun j=>l.toArray[j]?)=(l.drop s).take m
 | 0,s=>by simp
 | m + 1,s=>by
  rw[List.range'_succ,CF];have q:=m4 l m (s + 1);by_cases h:s < l.length
  ·have e:l.toArray[s]?=some l[s]:=by simp[h]
   rw[e];dsimp only;rw[q,List.drop_eq_getElem_cons h,List.take_succ_cons]
  ·have e:l.toArray[s]?=none:=by simp;omega
   rw[e];dsimp only;rw[q,CT (by omega),CT (by omega)];simp
theorem aE1:∀ n:Nat,n < 7→∀ s:Nat,s < 7→s≤n→Builtin.Str.strSliceIndices none (some (s:Int)) 1 n=Ep 0 s:=by decide
theorem aB8:∀ n:Nat,n < 7→∀ s:Nat,s < 7→s≤n→Builtin.Str.strSliceIndices (some (s:Int)) none 1 n=Ep s (n - s):=by decide
theorem aHT{b:List Nat}{s:Nat}(z:b.length≤6)(q:s≤b.length):C5 (mk b) none (some (s:Int))=mk (b.take s):=by
 unfold C5;rw[j9,aE1 _ (by omega) _ (by omega) q];split
 ·next h=>
  simp at h;rw[h,AZ]
 ·have e:=m4 b s 0;rw[Cv]at e;exact congrArg mk e
theorem aE2{b:List Nat}{s:Nat}(B:b.length≤6)(z:s≤b.length):C5 (mk b) (some (s:Int)) none=mk (b.drop s):=by
 unfold C5;rw[j9,aB8 _ (by omega) _ (by omega) z];split
 ·next h=>
  simp at h;have:s=0∨b.length=0:=by omega
  rcases this with rfl | q
  ·rfl
  ·rw[List.length_eq_zero_iff.mp q];simp
 ·have e:=m4 b (b.length - s) s;rw[show(b.drop s).take (b.length - s)=b.drop s from Be (by rw[C2];exact Ak _)]at e;exact congrArg mk e
theorem aB9(bs:List Nat):∀ q:Array Nat,(bs.map fun c=>mk [c]).foldl (fun(q:Array Nat) (p:Str)=>q ++ (A5 "").cps ++ p.cps) q=q ++ bs.toArray:=by
 have B:(A5 "").cps=#[]:=by decide
 induction bs with
 | nil=>intro q;simp
 | cons x r z=>
  intro q;rw[Bg,List.foldl_cons,z,B];simp[mk]
theorem aE3(bs:List Nat):Txt.join "" (bs.map fun c=>mk [c])=mk bs:=by
 show DS _ _=_;unfold DS;cases bs with
 | nil=>rfl
 | cons x r=>
  have:=aB9 r #[x];simp only[Bg,List.headD_cons,List.drop_succ_cons,Cv];show(⟨List.foldl _ _ _⟩:Str)=_;rw[show(mk [x]).cps=#[x] from rfl];rw[this];simp[mk]
theorem v4(x:Nat){j:Int}(z:j=(x:Int) % 26):atI abc.cps.toList j=some (hJ x):=by
 have q:0≤j:=by omega
 have h1:j < 26:=by omega
 rw[aDF q h1];unfold hJ;congr 1;omega
theorem aDK(f n:Nat)(h:n≠0):bij (f + 1) n=bij f ((n - 1) / 2) ++ [n % 2]:=by
 show(if n=0 then[] else _)=_;rw[Ia h]
theorem eJ:bJ ["_law_pen_here","_law_many","_law_letters","_law_way","_law_turn","_law_k","_law_base","_law_spot","_law_found","_law_word","_law_rest","_law_terms"] ["_law_pen_here","_law_many"] (aO mY):=⟨rfl,rfl,rfl,by decide,rfl,by decide,by decide⟩
theorem aE4{q:List Str}(h:∀ w∈q,w.length=1):(q.map (·.length)).sum=q.length:=by
 induction q with
 | nil=>rfl
 | cons x r z=>
  rw[Bg,EI,z fun w hw=>h w (AF _ hw),h x AH,A0];omega
theorem aDL{f:Ae}{fd:AD}(F:Fun K "_law_names" "_law_names" mY f fd)(bn:mg "len"=none)(ah:mg "range"=none)(aT:mg "min"=none)
  (GT:Cl P w K mg base 1 "_law_take" ["_law_pen_here","_law_many"] i7):
  cH P w K mg base CX0 2 f fd ["_law_pen_here","_law_many"] aA2:=by
 refine F.ok eJ (fun vs H Q E h=>?_) (fun c0 A outer s H vs Q E hr h=>?_)
 ·obtain⟨p,c,ns,a,m,rfl,_⟩:=h;rfl
 ·obtain⟨p,c,ns,a,m,rfl,hp,ha,hm,k⟩:=h;refine⟨_,aQ (bQ (i:=2) eJ.nd rfl (Dj rfl) bE)
   (aQ (bQ (i:=3) eJ.nd rfl (AG rfl) (bC GT hr (aH (pv 0) (aH aI aG))))
   (aQ (bQ (i:=4) eJ.nd rfl (AG rfl) (bC GT hr (aH (pv 0) (aH aI aG))))
   (aQ (bQ (i:=6) eJ.nd rfl (AG rfl) (f8 PySem.F.plainAttrs_str PySem.F.slot_str_join PySem.F.type_str_join lG bE (aH (eG (N:=["_law_k","_law_letters","_law_pen_here"]) (src:=[none,some 2,some 0]) (osc:=aO mY) (oN:=["_law_pen_here","_law_many","_law_letters","_law_way","_law_turn","_law_k","_law_base","_law_spot","_law_found","_law_word","_law_rest","_law_terms"]) ⟨by rfl,by decide,by decide,by decide,rfl,by rfl⟩
      (fQ rfl ah (aH (bV cV (d9 (aH (bC GT hr (aH (pv 0) (aH aI aG))) (aH aI (aH aI aG)))) (pv 3) Ig) aG))
      fun cl s H fp bd C=>⟨bB (i:=0) (show(["_law_k","_law_letters","_law_pen_here"]:List Str).Nodup by decide) rfl (AG rfl),c8,bV qN (pv 1) (bC GT hr (aH (pv 2) (aH aI aG))) Ig⟩) aG)))
   (aQ (bQ (i:=7) eJ.nd rfl (AG rfl) (bC GT hr (aH (pv 0) (aH (bO dQ (aW jZ (by rfl) bn AM (aH (pv 6) aG)) aI) aG))))
   (aQ (bQ (i:=8) eJ.nd rfl (AG rfl) (d9 aG))
   (aQ (kX BN rfl (fQ rfl ah (aH (pv 1) aG)) (bB (i:=5) eJ.nd rfl (AG rfl))
    (aQ (bQ (i:=9) eJ.nd rfl (AG rfl) (bO jX (bV qN (pv 2) (bO fX (bO dQ (pv 4) (bO jW aI (pv 5))) aI) Ig) (bV qN (pv 2) (bO fX (bO dQ (pv 4) (bO aAu (pv 5) aI)) aI) Ig)))
    (aQ (bQ (i:=9) eJ.nd rfl (AG rfl) (bO jX (bO jX (c7 aC5 (pv 6) dZ (dD (pv 7))) (pv 9)) (c7 aC5 (pv 6) (dD (pv 7)) dZ)))
    (aQ (g9 <| cX (bS eU (pv 3) aI (cA _))
     (aQ (bQ (i:=9) eJ.nd rfl (AG rfl) bE)
     (aQ (bQ (i:=10) eJ.nd rfl (AG rfl) (bO dQ (pv 5) aI))
     (aU (aCx BN (bS aFA (pv 10) aI (cA _))
      (aQ (bQ (i:=9) eJ.nd rfl (AG rfl) (bO jX (bV qN (pv 2) (bO fX (bO dQ (pv 4) (bO jW aI (bO fX (pv 10) aI))) aI) Ig) (pv 9)))
      (aU (bQ (i:=10) eJ.nd rfl (AG rfl) (bO aAu (bO oJ (pv 10) aI) aI)))))))) b8)
    (aU (hZ (f8 Bj BL BK iH (pv 8) (aH (pv 9) aG))))))))
   (aQ (bQ (i:=11) eJ.nd rfl (AG rfl) (d9 (aH bE (aH bE (aH bE (aH bE (aH bE (aH bE (aH bE (aH bE (aH bE aG)))))))))))
   (aQ (g9 <| cX (bS eU (bC GT hr (aH (pv 0) (aH aI aG))) aI (cA _))
    (aU (kX BN rfl (fQ rfl ah (aH (aW (t6 rfl) (by rfl) aT (by kernel_rfl) (aH (pv 1) (aH aI aG))) aG)) (bB (i:=5) eJ.nd rfl (AG rfl))
     (aU (cX (PW.pt (qG (bS eU (bC GT hr (aH (pv 0) (aH aI aG))) aI (cA _)) (nA (bS jY (bV cV (pv 11) (pv 5) Ig) (pv 8) (by with_unfolding_all rfl)))))
      (aU (jT (bV cV (pv 11) (pv 5) Ig) (aGe (pv 8) (pv 5) aCP))) b8)))) b8)
   (aU (aZ (pv 8))))))))))),?_⟩
  have e0:(A5 "").length=0:=by decide
  have zA:abc.length≤sizeLine:=aM (by rw[aEV];decide);refine⟨_,rfl,p,c,ns,a,_,rfl,hp,by omega,by decide,by decide,fun B a1 H1 w0 w1 l1 u1 b2 bR=>?_⟩;refine⟨_,rfl,p,c,ns,a1,_,rfl,b2,by omega,by decide,by decide,fun tt a2 H2 t0 t1 l2 u2 bL cf=>?_⟩;obtain⟨t,rfl⟩:∃ t:Nat,tt=t:=⟨tt.toNat,by omega⟩
  refine⟨rfl,_,rfl,p,c,ns,a2,_,rfl,bL,by omega,by decide,by decide,fun r3 a3 H3 cT cP l3 u3 b3 cj=>?_⟩;refine⟨zZ3,fun q hq=>?_⟩;have sq:=aS (o:=.lst [V.int r3,.int 0,.int 6]) hq;obtain⟨v,hv,ak⟩:=gH (xs:=[V.int r3,.int 0,.int 6]) (i:=B) w0 (by show B < 3;omega);obtain⟨n,rfl,hn0,hn6⟩:∃ n:Int,v=.int n∧0≤n∧n≤6:=by
   simp only[Aq,AB,or_false]at hv;rcases hv with rfl | rfl | rfl
   ·exact⟨_,rfl,by omega,by omega⟩
   ·exact⟨_,rfl,by omega,by omega⟩
   ·exact⟨_,rfl,by omega,by omega⟩
  refine⟨_,rfl,q,_,B,_,rfl,rfl,aV aJ,ak,n,rfl,by omega,by omega,?_⟩;have kq:aY p H (upd H3 q (.lst [V.int r3,.int 0,.int 6])):=((bR.trans cf).trans cj).same sq;have bj:=b3.same sq;generalize upd H3 q (.lst [V.int r3,.int 0,.int 6])=H4 at kq bj ⊢;refine iS (fun i ys σ' H'=>∃(a':Int) (bs:List Nat) (o:Option V),σ'=[o,some (.str abc),some (.ref p)]∧cU H' p c ns a'∧aY p H H'∧a3≤a'∧a'≤a3 + i∧ys=(bs.map fun c=>mk [c]).map V.str∧bs.length=i∧(∀ c∈bs,isL c=true))
   ⟨a3,[],none,rfl,bj,kq,by omega,by omega,rfl,rfl,fun w hw=>by simp at hw⟩ (aM (by omega)) (fun i ys σ H p=>by obtain⟨_,bs,_,_,_,_,_,_,rfl,e,_⟩:=p;rw[Ab,Ab,e];exact Ak _) ?_ ?_
  ·rintro i' ys σ' H5 dc ⟨a',bs,o,rfl,ay,aD,dl,db,rfl,hl,hb⟩;dsimp only[cI];refine c4 ?_;refine⟨_,rfl,_,rfl,p,c,ns,a',_,rfl,ay,by omega,by decide,by decide,fun r6 a6 H6 bi bc l6 u6 ao an=>?_⟩;refine⟨_,r6,hJ r6.toNat,rfl,rfl,zA,aDF bi bc,a6,bs ++ [hJ r6.toNat],_,rfl,ao,aD.trans an,by omega,by omega,by rw[Au,Au];rfl,by rw[An,hl];rfl,fun c hc=>?_⟩;rcases A4.mp hc with z | z
   ·exact hb c z
   ·rw[Br.mp z];exact v3 _
  ·rintro ys σ' H5 ⟨a4,b,o,rfl,ay,aD,l4,u4,rfl,cN,hb⟩ D hD;have aw:b.length≤6:=by omega
   refine⟨_,D,b.map (fun c=>mk [c]),rfl,rfl,aV aJ,by
    rw[aE4 (fun w hw=>by obtain⟨x,_,rfl⟩:=A7.mp hw;rfl),Ab,e0];omega,?_⟩
   rw[aE3];have ao:=ay.same (aS (o:=.lst ((b.map fun c=>mk [c]).map V.str)) hD);have an:aY p H _:=aD.same (aS (o:=.lst ((b.map fun c=>mk [c]).map V.str)) hD);generalize upd H5 D (.lst ((b.map fun c=>mk [c]).map V.str))=H6 at ao an ⊢;refine⟨_,rfl,_,rfl,mk b,rfl,aM (by rw[j9];omega),_,_,rfl,rfl,p,c,ns,a4,_,rfl,ao,by omega,by omega,by rw[j9];omega,fun ss a5 H7 s0 s1 l5 u5 az cc=>?_⟩;rw[j9]at s1;obtain⟨sp,rfl⟩:∃ sp:Nat,ss=sp:=⟨ss.toNat,by omega⟩
   refine⟨Bc _,fun L hL=>?_⟩;have aN:=an.trans cc;have ai:L≠p:=by
    obtain⟨l,_,z⟩:=az.ob;exact(bF z hL).symm
   have b0:L≠c:=(bF az.ce hL).symm;have aL:H L=none:=by
    cases e:H L with
    | none=>rfl
    | some x=>exact absurd (aN L x e ai) (by rw[hL];simp)
   refine⟨_,rfl,m,rfl,by omega,by omega,oI (n:=(m:Int).toNat) (fun i σ H'=>Ex3 fun o5 o9 U=>σ=[some (.ref p),some (.int m),some (.str abc),some (.int B),some (.int t),o5,some (.str (mk b)),some (.int sp),some (.ref L),o9,U,none]∧H'=upd H7 L (.lst (((AV i).map fun k=>mk (word (decide (B=1)) b sp t k)).map V.str))) ⟨_,_,_,rfl,rfl⟩ ?_ ?_⟩
   ·rintro i σ H' hi ⟨o5,o9,U,rfl,rfl⟩;dsimp only[cI];have cs:i < 44:=by omega
    refine⟨_,rfl,_,rfl,_,rfl,_,_,rfl,rfl,.inl ⟨by decide,by decide⟩,_,_,rfl,rfl,_,_,rfl,rfl,(by show(0:Int) < 26;decide),_,_,hJ (t + 7 * i),rfl,rfl,zA,v4 _ (by omega),_,rfl,_,rfl,_,rfl,_,_,rfl,rfl,⟨by decide,by decide⟩,_,_,rfl,rfl,_,_,rfl,rfl,(by show(0:Int) < 26;decide),_,_,hJ (t + i / 26),rfl,rfl,zA,v4 _ (by omega),_,_,rfl,rfl,aM (by show 1 + 1≤1000000;decide),?_⟩;have zB:(mk b).length≤sizeLine:=aM (by rw[j9];omega);have ax:∀{x y},(C5 (mk b) x y).length≤6:=fun{x y}=>A3 (DO _ x y) (by rw[j9];omega);have h2:((⟨#[hJ (t + 7 * i)]⟩:Str) ++ ⟨#[hJ (t + i / 26)]⟩).length=2:=rfl;refine⟨_,rfl,_,rfl,_,rfl,mk b,rfl,zB,_,rfl,_,_,rfl,rfl,aM (by have:=ax (x:=none) (y:=some (sp:Int));omega),_,rfl,_,rfl,_,rfl,mk b,rfl,zB,_,_,rfl,rfl,aM (by have:=ax (x:=none) (y:=some (sp:Int));have:=ax (x:=some (sp:Int)) (y:=none);rw[Ef];omega),?_⟩;have ew:(C5 (mk b) none (some (sp:Int)) ++ ((⟨#[hJ (t + 7 * i)]⟩:Str) ++ ⟨#[hJ (t + i / 26)]⟩)) ++ C5 (mk b) (some (sp:Int)) none=mk (b.take sp ++ xP t i ++ b.drop sp):=by
     rw[aHT aw (by omega),aE2 aw (by omega)];rw[show((⟨#[hJ (t + 7 * i)]⟩:Str) ++ ⟨#[hJ (t + i / 26)]⟩)=mk (xP t i) from rfl,zX,zX]
    rw[ew];refine⟨fun σ' H'=>∃ U,σ'=[some (.ref p),some (.int m),some (.str abc),some (.int B),some (.int t),some (.int (0 + i)),some (.str (mk b)),some (.int sp),some (.ref L),some (.str (mk (word (decide (B=1)) b sp t i))),U,none]∧H'=upd H7 L (.lst (((AV i).map fun k=>mk (word (decide (B=1)) b sp t k)).map V.str)),?_,?_⟩
    ·refine⟨_,rfl,rfl,_,rfl,dR (fun g=>?_) (fun g=>?_)⟩
     ·have g':B=1:=V.int.inj (Ie g);subst g';refine⟨_,rfl,_,_,rfl,rfl,fun Z σ' H'=>∃(r f:Nat) (J:List Nat) (rv:Int) (wv:Str),Z=r∧rv=(r:Int)∧wv=mk (J.map fun d=>hJ (t + 9 * d))∧σ'=[some (.ref p),some (.int m),some (.str abc),some (.int 1),some (.int t),some (.int (0 + i)),some (.str (mk b)),some (.int sp),some (.ref L),some (.str wv),some (.int rv),none]∧H'=upd H7 L (.lst (((AV i).map fun k=>mk (word (decide ((1:Int)=1)) b sp t k)).map V.str))∧bij f r ++ J=bij 6 (i + 1)∧r < 2 ^ f∧J.length + f≤6,⟨i + 1,i + 1,6,[],_,_,rfl,(by show 0 + (i:Int) + 1=((i + 1:Nat):Int);omega),(by show A5 ""=mk [];decide),rfl,rfl,by simp,by omega,by simp⟩,?_⟩;rintro Z σ' H' ⟨r,f,J,rv,wv,rfl,rfl,rfl,rfl,rfl,ad,bp,c6⟩;refine⟨_,rfl,_,_,rfl,rfl,_,rfl,dR (fun g2=>?_) (fun g2=>?_)⟩
      ·have ci:(0:Int) < Z:=Ie g2;refine⟨_,fun da dm h=>h,?_⟩;obtain⟨f',rfl⟩:∃ f',f=f' + 1:=by
        cases f with
        | zero=>exact absurd bp (by omega)
        | succ x=>exact⟨x,rfl⟩
       have e2:mk [hJ (t + 9 * (Z % 2))] ++ mk (J.map fun d=>hJ (t + 9 * d))=mk (((Z % 2) :: J).map fun d=>hJ (t + 9 * d)):=by rw[zX];rfl
       refine⟨_,rfl,_,rfl,_,rfl,_,_,rfl,rfl,(by show(0:Int) < 2;decide),_,_,rfl,rfl,.inl ⟨by decide,by decide⟩,_,_,rfl,rfl,_,_,rfl,rfl,(by show(0:Int) < 26;decide),_,_,hJ (t + 9 * (Z % 2)),rfl,rfl,zA,v4 _ (by omega),_,rfl,_,_,rfl,rfl,aM (by rw[j9,Ab];show 1 + _≤_;omega),_,rfl,_,_,rfl,rfl,_,_,rfl,rfl,⟨by decide,by decide⟩,(Z - 1) / 2,by omega,(Z - 1) / 2,f',(Z % 2) :: J,_,_,rfl,?_,e2,rfl,rfl,?_,?_,?_⟩
       ·show((Z:Int) - 1) / 2=_;omega
       ·rw[← ad,aDK f' Z (by omega)];simp
       ·rw[Nat.pow_succ]at bp;omega
       ·rw[A0];omega
      ·have ci:¬ (0:Int) < Z:=fun z=>g2 (Ic z);have hz:Z=0:=by omega
       subst hz;have e3:bij f 0=[]:=by cases f <;> rfl
       rw[e3,List.nil_append]at ad;have e4:word (decide ((1:Int)=1)) b sp t i=J.map fun d=>hJ (t + 9 * d):=by
        rw[ad];rfl
       exact⟨some (V.int ((0:Nat):Int)),by rw[e4],rfl⟩
     ·have g':¬ B=1:=fun z=>g (Ic (by rw[z]));rw[decide_eq_false g'];exact⟨_,rfl,rfl⟩
    ·rintro σ' H' ⟨U,rfl,rfl⟩;refine⟨_,rfl,.inl ⟨rfl,_,aV aJ⟩,_,rfl,L,_,_,rfl,rfl,aJ,by rw[Ab,Ab,CS];exact jD (by omega),_,_,_,rfl,?_⟩;rw[aAq,Et,Au,Au];rfl
   ·rintro σ H' ⟨o5,o9,U,rfl,rfl⟩;have S8:=aS (o:=.lst (((AV (m:Int).toNat).map fun k=>mk (word (decide (B=1)) b sp t k)).map V.str)) hL;have aj:=az.same S8;have aA:=aN.same S8;have am:upd H7 L (.lst (((AV (m:Int).toNat).map fun k=>mk (word (decide (B=1)) b sp t k)).map V.str)) L=_:=aJ;have hN:Nms ((AV (m:Int).toNat).map fun k=>mk (word (decide (B=1)) b sp t k)):=by
     refine⟨aEY (by omega) (by omega),fun w hw=>?_⟩;obtain⟨k',hk',rfl⟩:=A7.mp hw;have:=BG.mp hk';exact aB6 (by omega) aw hb
    have aF:((AV (m:Int).toNat).map fun k=>mk (word (decide (B=1)) b sp t k)).length=m:=by rw[Ab,CS];omega
    generalize ((AV (m:Int).toNat).map fun k=>mk (word (decide (B=1)) b sp t k))=ws at aj aA am hN aF ⊢;generalize upd H7 L (.lst (ws.map V.str))=H8 at aj aA am ⊢;refine⟨zZ9,fun T hT=>?_⟩;have S9:=aS (o:=.lst (mH.map V.str)) hT;have be:upd H8 T (.lst (mH.map V.str)) T=some (.lst (mH.map V.str)):=aJ;have ba:=aj.same S9;have au:=aA.same S9;have bh:=S9 _ _ am;have bD:T≠L:=(bF am hT).symm;have bg:T≠p:=by
     obtain⟨l,_,z⟩:=aj.ob;exact(bF z hT).symm
    have eT:upd H8 T (.lst [V.str "as",.str "with",.str "part",.str "field",.str "none",.str "done",.str "write",.str "back",.str "join"])=upd H8 T (.lst (mH.map V.str)):=rfl;rw[eT];generalize upd H8 T (.lst (mH.map V.str))=H9 at ba au bh be ⊢;refine⟨fun σ' H'=>∃(o5:Option V) (vs:List Str) (a6:Int),σ'=[some (.ref p),some (.int m),some (.str abc),some (.int B),some (.int t),o5,some (.str (mk b)),some (.int sp),some (.ref L),o9,U,some (.ref T)]∧H' L=some (.lst (vs.map V.str))∧vs.length=m∧Nms vs∧cU H' p c ns a6∧a≤a6∧a6≤a + 30∧aY p H H',?_,?_⟩
    ·refine⟨_,rfl,p,c,ns,a5,_,rfl,ba,by omega,by decide,by decide,fun r6 a6 dh bi bc l6 u6 aq ab=>?_⟩;have ap:=ab _ _ bh ai;have bq:=ab _ _ be bg;have ar:=au.trans ab;refine⟨rfl,_,rfl,dR (fun g=>?_) (fun g=>?_)⟩
     ·refine⟨_,rfl,_,_,rfl,?_⟩;obtain⟨n9,hn9,n90,n91,n92⟩:∃ n9:Int,(if (9:Int) < m then(9:Int) else m)=n9∧0≤n9∧n9≤9∧n9≤m:=by
       refine⟨_,rfl,?_⟩;split <;> omega
      rw[hn9];refine⟨n9,rfl,by omega,by omega,oI (n:=n9.toNat) (fun i σ H'=>Ex3 fun(o5:Option V) (vs:List Str) (a7:Int)=>Aw6 (σ=[some (.ref p),some (.int m),some (.str abc),some (.int B),some (.int t),o5,some (.str (mk b)),some (.int sp),some (.ref L),o9,U,some (.ref T)]) (H' L=some (.lst (vs.map V.str))) (H' T=some (.lst (mH.map V.str))) (vs.length=m) (Nms vs) (Aw3 (cU H' p c ns a7) (a6≤a7) (a7≤a6 + i∧aY p H H'))) ⟨_,ws,a6,rfl,ap,bq,aF,hN,aq,by omega,by simp,ar⟩ ?_ ?_⟩
      ·rintro i σ H' hi ⟨aR,vs,a7,rfl,ag,a0,W,M,af,b7,bT,kv⟩;dsimp only[cI];refine⟨_,rfl,p,c,ns,a7,_,rfl,af,by omega,by decide,by decide,fun r8 a8 di dk dd l8 u8 ac ae=>?_⟩;have Y:=ae _ _ ag ai;have O:=ae _ _ a0 bg;have aK:=kv.trans ae;refine⟨rfl,_,rfl,dR (fun g2=>?_) (fun g2=>?_)⟩
       ·obtain⟨term,hterm⟩:∃ x,mH[i]?=some x:=⟨_,Ai (show i < 9 by omega)⟩
        have b9:ixN (mH.map V.str).length (0 + (i:Int))=some i:=by
         unfold ixN;rw[Ab,Ib (by omega),Ib (by show 0 + (i:Int) < 9;omega)];congr 1;omega
        have ak:atI (mH.map V.str) (0 + (i:Int))=some (V.str term):=by
         unfold atI;rw[b9];simp[hterm]
        have bo:ixN (vs.map V.str).length (0 + (i:Int))=some i:=by
         unfold ixN;rw[Ab,Ib (by omega),Ib (by omega)];congr 1;omega
        refine⟨_,rfl,_,rfl,T,_,_,_,rfl,rfl,aV O,ak,_,rfl,L,_,rfl,.inl (aV Y),rfl,fU vs,_,rfl,?_⟩;rw[Ib rfl,nX];refine dR (fun g3=>?_) (fun g3=>?_)
        ·have bK:term ∉ vs:=by simpa using g3
         refine⟨_,rfl,_,rfl,T,_,_,_,rfl,rfl,aV O,ak,_,rfl,_,rfl,L,_,_,i,rfl,rfl,Y,bo,_,vs.set i term,a8,rfl,by rw[aJ,← List.map_set],by rw[bU bD];exact O,by rw[List.length_set,W],⟨aDH M.nd bK,fun w hw=>?_⟩,?_,by omega,by omega,?_⟩
         ·rcases List.mem_or_eq_of_mem_set hw with z | z
          ·exact M.ok w z
          ·rw[z];exact zY term (A2 hterm)
         ·obtain⟨⟨l,hl,e⟩,ce,ge,sm⟩:=ac;exact⟨⟨l,hl,by rw[bU ai.symm];exact e⟩,by rw[bU b0.symm];exact ce,ge,sm⟩
         ·intro x o e ne;have nx:x≠L:=bF e aL;rw[bU nx];exact aK x o e ne
        ·exact⟨_,vs,a8,rfl,Y,O,W,M,ac,by omega,by omega,aK⟩
       ·exact⟨_,vs,a8,rfl,Y,O,W,M,ac,by omega,by omega,aK⟩
      ·rintro σ H' ⟨aR,vs,a7,rfl,ag,a0,W,M,af,b7,bT,kv⟩;exact⟨_,vs,a7,rfl,ag,W,M,af,by omega,by omega,kv⟩
     ·exact⟨_,ws,a6,rfl,ap,aF,hN,aq,by omega,by omega,ar⟩
    ·rintro σ' H' ⟨aR,vs,a6,rfl,ag,W,M,af,cb,b6,kv⟩;exact⟨_,rfl,k L vs a6 H' aL ag W M cb b6 af kv⟩
structure OkD(b k:Nat)(d:Al):Prop where
 sh:d.showable=true
 dp:d.depth≤k
 len:d.shown.length≤b
theorem OkD.mono{b q k z:Nat}{d:Al}(h:OkD b k d)(F:b≤q)(B:k≤z):OkD q z d:=⟨h.sh,A3 h.dp B,A3 h.len F⟩
theorem aFR{b k:Nat}:∀{ds:List Al},(∀ d∈ds,OkD b k d)→PyData.showableAll ds=true∧PyData.depthAll ds≤k∧((ds.map Dc).map (·.length)).sum≤ds.length * b
 | [],_=>⟨rfl,Bc _,by simp⟩
 | d :: r,h=>by
  obtain⟨h1,h2,h3⟩:=aFR (ds:=r) fun x q=>h x (AF _ q);obtain⟨g1,g2,g3⟩:=h d AH;refine⟨?_,?_,?_⟩
  ·unfold PyData.showableAll;rw[g1,h1];rfl
  ·unfold PyData.depthAll;exact Nat.max_le.mpr ⟨g2,h2⟩
  ·rw[Bg,Bg,EI,A0,Nat.succ_mul];omega
theorem OkD.tuple{b k n:Nat}{ds:List Al}(h:∀ d∈ds,OkD b k d)(hn:ds.length≤n):OkD (n * (b + 2) + 3) (k + 1) (.tuple ds):=by
 obtain⟨h1,h2,h3⟩:=aFR h;refine⟨?_,?_,?_⟩
 ·unfold Ek;exact h1
 ·unfold Eb;omega
 ·unfold Dc;rw[PyProof.Rows.shownAll_eq_map];unfold tupleText;have z:=StrLaws.join_length_le (A5 ", ") (ds.map Dc);have F:(A5 ", ").length=2:=by decide
  have B:(A5 "(").length=1:=by decide
  have q:∀ c:Bool,(A5 (if c=true then ",)" else ")")).length≤2:=by decide
  have J:=q ((ds.map Dc).length == 1);rw[F,Ab]at z;rw[Ef,Ef,B];have:ds.length * b + ds.length * 2≤n * (b + 2):=by
   rw[← Nat.mul_add];exact Nat.mul_le_mul_right _ hn
  omega
theorem OkD.str{z:Str}(h:EH z=true)(B:z.length≤10):OkD 102 0 (.str z):=by
 refine⟨by unfold Ek;rfl,by unfold Eb;exact Ak _,?_⟩;have hz:z.cps.size≤10:=B;have q:(Bk z).layable0=true:=by
  unfold PyData.layable0 PyData.canLay0 Eb PyData.weight;rw[h,Ic (show(0:Nat)≤64 by decide),Ic (show z.cps.size≤2 ^ 20 by omega)];rfl
 have:=PyProof.Rows.len_repr_of_layable q;unfold Dc;omega
theorem aE5{i:Int}(q:0≤i)(h1:i < 10 ^ 60):(A5 (toString i)).length≤60:=by
 obtain⟨n,rfl⟩:∃ n:Nat,i=n:=⟨i.toNat,by omega⟩
 rw[PySem.ofString_length];show(Int.repr (n:Int)).length≤60;have e:Int.repr (n:Int)=Nat.repr n:=rfl;rw[e];exact(Nat.length_repr_le_iff (by decide)).mpr (by omega)
theorem OkD.int{i:Int}(q:0≤i)(h1:i < 10 ^ 60):OkD 102 0 (.int i):=by
 refine⟨?_,by unfold Eb;exact Ak _,?_⟩
 ·unfold Ek;refine Ic ?_;have h2:i.natAbs < 2 ^ 200:=by
   have:(10:Int) ^ 60 < ((2 ^ 200:Nat):Int):=by decide
   omega
  by_cases hz:i.natAbs=0
  ·rw[hz];decide
  ·have:=(EY hz).mpr h2;omega
 ·unfold Dc;have:=aE5 q h1;omega
theorem aDM{z:Str}(h:bM z=true):EH z=true:=by
 unfold bM at h;rw[A9,AU]at h;unfold EH;rw[Array.all_eq_true_iff_forall_mem];intro c hc;have:=Ie (h.2 c (by simpa using hc));exact Ic (by omega)
theorem OkD.name{z:Str}(h:bM z=true):OkD 102 0 (.str z):=OkD.str (aDM h) (by have:=dA h;omega)
def tyN:Al→String
 | .none=>"NoneType"
 | .bool _=>"bool"
 | .int _=>"int"
 | .str _=>"str"
 | .list _=>"list"
 | .tuple _=>"tuple"
 | .dict _=>"dict"
def uP:Al→Bool | .str _=>true | _=>false
def gZ:Al→Bool | .tuple _=>true | _=>false
def isInt:Al→Bool | .int _=>true | .bool _=>true | _=>false
def aCa:Al→Bool | .bool _=>true | _=>false
def bW:Al→Bool | .str z=>bM z | _=>false
def c5(lo hi:Int):Al→Bool | .int i=>decide (lo≤i∧i≤hi) | _=>false
def fB:Al→Bool
 | .tuple [l,h,a]=>bW l && bW h && c5 1 10000000 a
 | _=>false
theorem aA3{K:Ag}(d:Al):Bw K (.type (tyN d)) (.type "str")=some (uP d):=by
 cases d <;> dsimp only[tyN,uP] <;> first | exact nO | exact vR (by decide) (by decide) (by decide)
theorem nY{K:Ag}(d:Al):Bw K (.type (tyN d)) (.type "tuple")=some (gZ d):=by
 cases d <;> dsimp only[tyN,gZ] <;> first | exact nO | exact vR (by decide) (by decide) (by decide)
theorem aE6{K:Ag}(d:Al):Bw K (.type (tyN d)) (.type "int")=some (isInt d):=by
 cases d <;> dsimp only[tyN,isInt] <;> first | exact nO | exact vR (by decide) (by decide) (by decide)
theorem aGU{K:Ag}(d:Al):Bw K (.type (tyN d)) (.type "bool")=some (aCa d):=by
 cases d <;> dsimp only[tyN,aCa] <;> first | exact nO | exact vR (by decide) (by decide) (by decide)
theorem nZ{K:Ag}{m:Bool}{H:Hp}{x:V}{d:Al}(h:RdV m H x d):kU K H x (.type (tyN d)):=by
 cases h with
 | non=>exact .non
 | bl b=>exact .bl b
 | int i=>exact .int i
 | str z _=>exact .str z
 | lst _ e _ _=>exact .lst e
 | tup e _ _=>exact .tup e
 | dct _ e=>exact .dK e
inductive sQ(K:Ag)(vs:List V)(H:Hp)(Q:VK)(u3_:XK):Prop
 | mk (x:_) (q0:vs=[x]) (q1:((∃ z,x=V.str z∧z.length≤1000000∧∀ H',bA H H'→Q (.bl (bM z)) H')∨(∃ t,kU K H x t∧Bw K t (.type "str")=some false∧Q (.bl false) H))):sQ K vs H Q u3_
def xS(K:Ag):Sp:=fun vs H Q u3_=>sQ K vs H Q u3_
inductive xT(vs:List V)(H:Hp)(Q:VK)(u3_:XK):Prop
 | mk (m:Bool) (x:V) (d:Al) (q0:vs=[x]) (q1:RdV m H x d) (q2:∀ H',bA H H'→Q (.bl (bW d)) H'):xT vs H Q u3_
def iU:Sp:=fun vs H Q u3_=>xT vs H Q u3_
inductive xU(vs:List V)(H:Hp)(Q:VK)(u3_:XK):Prop
 | mk (m:Bool) (x:V) (d:Al) (q0:vs=[x]) (q1:RdV m H x d) (q2:Q (.bl (isInt d && !aCa d)) H):xU vs H Q u3_
def aDN:Sp:=fun vs H Q u3_=>xU vs H Q u3_
inductive uQ(vs:List V)(H:Hp)(Q:VK)(u3_:XK):Prop
 | mk (m:Bool) (x:V) (d:Al) (lo hi:Int) (q0:vs=[x,.int lo,.int hi]) (q1:RdV m H x d) (q2:Q (.bl (c5 lo hi d)) H):uQ vs H Q u3_
def kA:Sp:=fun vs H Q u3_=>uQ vs H Q u3_
inductive xV(vs:List V)(H:Hp)(Q:VK)(u3_:XK):Prop
 | mk (m:Bool) (x:V) (d:Al) (q0:vs=[x]) (q1:RdV m H x d) (q2:∀ H',bA H H'→Q (.bl (fB d)) H'):xV vs H Q u3_
def aDO:Sp:=fun vs H Q u3_=>xV vs H Q u3_
structure Txt(K:Ag)(mg:Str→Option Ac):Prop where
 isi:mg "isinstance"=none
 str:mg "str"=none
 len:mg "len"=none
 al:mg "all"=none
 int:mg "int"=none
 bool:mg "bool"=none
 tuple:mg "tuple"=none
 set:mg "set"=none
 mostFields:∃ t,mg "MOST_FIELDS"=some (.int 8 t)
 fieldAcres:∃ t,mg "MOST_FIELD_ACRES"=some (.int 1000000 t)
 longest:∃ t,mg "LONGEST"=some (.int 8 t)
 lastDay:∃ t,mg "LAST_DAY"=some (.int 9999 t)
 fewest:∃ t,mg "FEWEST_LANDS"=some (.int 2 t)
 most:∃ t,mg "MOST_LANDS"=some (.int 6 t)
 acres:∃ t,mg "MOST_PART_ACRES"=some (.int 10000000 t)
 inches:∃ t,mg "MOST_INCHES"=some (.int 10000000 t)
 pence:∃ t,mg "MOST_PENCE"=some (.int 1000000000 t)
 spades:∃ t,mg "MOST_SPADES"=some (.int 1000000 t)
theorem zZ(K:Ag):Bw K (.type "str") (.type "str")=some true:=by
 unfold Bw;rw[Ib (by rfl)]
theorem scN:bJ ["thing"] ["thing"] (aO j6):=⟨rfl,rfl,rfl,by decide,rfl,by decide,by decide⟩
theorem v5(a b:Nat):(!decide (([b]:List Nat) < [a]))=decide (a≤b):=by
 have:([b]:List Nat) < [a]↔b < a:=by
  constructor
  ·intro h;cases h with
   | rel h=>exact h
   | cons h=>cases h
  ·intro h;exact List.Lex.rel h
 by_cases h:b < a
 ·rw[Ic (this.mpr h),decide_eq_false (by omega)];rfl
 ·rw[decide_eq_false (fun z=>h (this.mp z)),Ic (by omega)];rfl
theorem aCb{f:Ae}{fd:AD}(F:Fun K "is_name" "is_name" j6 f fd)(T:Txt K mg):cH P w K mg base CX0 1 f fd ["thing"] (xS K):=by
 refine F.ok scN (fun vs H Q E h=>?_) (fun Z A outer s H vs Q E hr h=>?_)
 ·obtain⟨x,rfl,_⟩:=h;rfl
 ·obtain⟨x,rfl,hx⟩:=h;obtain⟨tl,hlong⟩:=T.longest;refine⟨_,aQ (cX (fO (d8 (eQ (aW dH (by rfl) T.isi (by kernel_rfl) (fZ (pv 0) (fZ (fV (v:=.ty "str") (by rfl) T.str (by kernel_rfl) rfl) aG)))))
    (fJ (d8 (qJ l7 l7 aI (aW jZ (by rfl) T.len AM (fZ (pv 0) aG)) (dL (v:=.int 8) (by rfl) hlong ⟨_,rfl⟩))))).pt (aU (aZ gX)) b8)
   (aU (aZ (aW (nN rfl) (by rfl) T.al (by kernel_rfl) (fZ (eG (N:=["sign"]) (src:=[none]) (osc:=aO j6) (oN:=["thing"]) ⟨by rfl,by decide,by decide,by decide,rfl,by rfl⟩ (aC3 (pv 0))
    fun cl s H fp bd C=>⟨bB (i:=0) (show(["sign"]:List Str).Nodup by decide) rfl (AG rfl),c8,nB lF lF bE (pv 0) bE⟩) aG)))),?_⟩
  rcases hx with⟨z,rfl,hz,k⟩ | ⟨t,ty,e,k⟩
  ·refine⟨_,rfl,_,"str",_,true,rfl,kU.str z,zZ K,true,rfl,dC ?_⟩;refine⟨_,rfl,z,rfl,aM hz,_,_,rfl,rfl,_,rfl,?_⟩;have B:¬ (1≤z.length∧z.length≤8)→Q (.bl false) H:=fun h=>by
    have:=k H (bA.refl H);unfold bM at this;rw[decide_eq_false h]at this;exact this
   refine dR (fun h1=>?_) (fun h1=>?_)
   ·have J:=Ie h1;refine⟨_,_,rfl,rfl,_,rfl,?_⟩;by_cases Y:(z.length:Int)≤8
    ·rw[Ic Y];refine dC ?_;refine⟨_,rfl,z,rfl,?_⟩;refine w6 (fun i ys σ H'=>H'=H∧ys=((z.cps.toList.take i).map fun c=>V.bl (decide (97≤c∧c≤122)))∧σ.length=1) ⟨rfl,rfl,rfl⟩ (aM hz) (fun i ys σ H' p=>by rw[p.2.1,Ab,AC];omega) ?_ ?_
     ·rintro i c ys σ H' hc ⟨rfl,rfl,W⟩;obtain⟨o,rfl⟩:∃ o,σ=[o]:=by
       match σ,W with
       | [o],_=>exact⟨o,rfl⟩
      dsimp only[cI];refine c4 ?_;refine⟨_,rfl,_,_,rfl,rfl,_,rfl,?_⟩;have q:∀ b:Bool,b=decide (97≤c∧c≤122)→(H'=H'∧(ER (fun c=>V.bl (decide (97≤c∧c≤122))) (DX i z.cps.toList)) ++ [V.bl b]=(z.cps.toList.take (i + 1)).map (fun c=>V.bl (decide (97≤c∧c≤122)))∧([o].set 0 (some (V.str ⟨#[c]⟩))).length=1):=fun b hb=>by
       refine⟨rfl,?_,rfl⟩;rw[AN,Au,hb];have:z.cps.toList[i]?=some c:=by simpa using hc
       rw[this];rfl
      have e1:(!decide ((⟨#[c]⟩:Str).cps.toList < ("a":Str).cps.toList))=decide (97≤c):=v5 97 c;have e2:(!decide (("z":Str).cps.toList < (⟨#[c]⟩:Str).cps.toList))=decide (c≤122):=v5 c 122;rw[e1];refine dR (fun O=>?_) (fun O=>?_)
      ·have U:=Ie O;refine⟨_,_,rfl,rfl,?_⟩;rw[e2];refine q _ ?_;rw[decide_eq_decide];omega
      ·have U:¬ 97≤c:=fun z=>O (Ic z);refine q false ?_;rw[decide_eq_false (by omega)]
     ·rintro ys σ H' ⟨rfl,rfl,W⟩ D hD;have M:DX z.cps.size z.cps.toList=z.cps.toList:=by rw[← A1];exact AZ
      rw[M];refine⟨D,z.cps.toList.map fun c=>decide (97≤c∧c≤122),rfl,aV (by rw[aJ,B6];rfl),?_⟩;have:=k _ (aS (o:=.lst (ER (fun c=>V.bl (decide (97≤c∧c≤122))) z.cps.toList)) hD);unfold bM at this;rw[Ic (by omega),AY]at this;rw[DL];exact this
    ·rw[decide_eq_false Y];exact c4 (B (by omega))
   ·have J:¬ (1:Int)≤z.length:=fun z=>h1 (Ic z);exact⟨false,rfl,c4 (B (by omega))⟩
  ·refine⟨_,rfl,_,"str",t,false,rfl,ty,e,false,rfl,c4 ?_⟩;refine c4 ?_;exact k
theorem aE7{f:Ae}{fd:AD}{k:Nat}{ps:List Str}{sp B:Sp}(G:cH P w K mg base CX0 k f fd ps sp)(h:∀ vs H Q E,B vs H Q E→sp vs H Q E):cH P w K mg base CX0 k f fd ps B:=
 ⟨fun vs H Q E z=>G.len vs H Q E (h vs H Q E z),fun A outer s H q O vs Q E J F M r z=>G.run A outer s H q O vs Q E J F M r (h vs H Q E z)⟩
theorem aCc(vs:List V)(H:Hp)(Q:VK)(E:XK)(h:iU vs H Q E):xS K vs H Q E:=by
 obtain⟨m,x,d,rfl,hx,k⟩:=h;refine⟨x,rfl,?_⟩;have ty:=nZ (K:=K) hx;have q:=aA3 (K:=K) d;cases hx with
 | str z hz=>exact .inl ⟨z,rfl,by omega,k⟩
 | non=>exact .inr ⟨_,ty,q,k H (bA.refl H)⟩
 | bl b=>exact .inr ⟨_,ty,q,k H (bA.refl H)⟩
 | int i=>exact .inr ⟨_,ty,q,k H (bA.refl H)⟩
 | lst _ _ _ _=>exact .inr ⟨_,ty,q,k H (bA.refl H)⟩
 | tup _ _ _=>exact .inr ⟨_,ty,q,k H (bA.refl H)⟩
 | dct _ _=>exact .inr ⟨_,ty,q,k H (bA.refl H)⟩
theorem aGV:bJ ["thing"] ["thing"] (aO iJ):=⟨rfl,rfl,rfl,by decide,rfl,by decide,by decide⟩
theorem aE8{f:Ae}{fd:AD}(F:Fun K "is_number" "is_number" iJ f fd)(T:Txt K mg):cH P w K mg base CX0 1 f fd ["thing"] aDN:=by
 refine F.ok aGV (fun vs H Q E h=>?_) (fun q A outer s H vs Q E B h=>?_)
 ·obtain⟨m,x,d,rfl,_⟩:=h;rfl
 ·obtain⟨m,x,d,rfl,hx,k⟩:=h;refine⟨_,aU (aZ (dP (aW dH (by rfl) T.isi (by kernel_rfl) (aH (pv 0) (aH (fV (v:=.ty "int") (by rfl) T.int (by kernel_rfl) rfl) aG)))
   (fF (aGb (aW dH (by rfl) T.isi (by kernel_rfl) (aH (pv 0) (aH (fV (v:=.ty "bool") (by rfl) T.bool (by kernel_rfl) rfl) aG))))))),?_⟩
  refine⟨_,rfl,_,"int",_,_,rfl,nZ hx,aE6 d,_,rfl,dR (fun g=>?_) (fun g=>?_)⟩
  ·rw[g,AY]at k;exact⟨_,rfl,_,"bool",_,_,rfl,nZ hx,aGU d,_,rfl,k⟩
  ·have z:isInt d=false:=by simpa using g
   rw[z]at k;exact k
theorem aCd:bJ ["thing","least","most"] ["thing","least","most"] (aO jK):=⟨rfl,rfl,rfl,by decide,rfl,by decide,by decide⟩
theorem z8{f:Ae}{fd:AD}(F:Fun K "is_whole" "is_whole" jK f fd)(W:Cl P w K mg base 1 "is_number" ["thing"] aDN):cH P w K mg base CX0 2 f fd ["thing","least","most"] kA:=by
 refine F.ok aCd (fun vs H Q E h=>?_) (fun M A outer s H vs Q E O h=>?_)
 ·obtain⟨m,x,d,lo,hi,rfl,_⟩:=h;rfl
 ·obtain⟨m,x,d,lo,hi,rfl,hx,k⟩:=h;refine⟨_,aU (aZ (dP (bC W O (aH (pv 0) aG)) (fF (nB l7 l7 (pv 1) (pv 0) (pv 2))))),_,rfl,m,x,d,rfl,hx,_,rfl,dR (fun g=>?_) (fun g=>?_)⟩
  ·obtain⟨i,rfl⟩:∃ i,d=.int i:=by
    cases d with
    | int i=>exact⟨i,rfl⟩
    | _=>simp[isInt,aCa]at g
   cases hx;refine⟨_,rfl,_,rfl,_,_,rfl,rfl,?_⟩;have J:Q (.bl (decide (lo≤i∧i≤hi))) H:=k;refine⟨_,rfl,dR (fun B=>?_) (fun B=>?_)⟩
   ·have q:lo≤i:=Ie B;refine⟨_,rfl,_,_,rfl,rfl,?_⟩;show Q (.bl (decide (i≤hi))) H;rw[decide_eq_decide.mpr (show i≤hi↔lo≤i∧i≤hi from⟨fun z=>⟨q,z⟩,fun z=>z.2⟩)];exact J
   ·have q:¬ lo≤i:=fun z=>B (Ic z);rw[decide_eq_false (fun z=>q z.1)]at J;exact J
  ·have U:(isInt d && !aCa d)=false:=by simpa using g
   have e:c5 lo hi d=false:=by
    cases d with
    | int i=>simp[isInt,aCa]at U
    | _=>rfl
   rw[e]at k;exact k
inductive xW(vs:List V)(H:Hp)(Q:VK)(u3_:XK):Prop
 | mk (m:Bool) (x:V) (d:Al) (q0:vs=[x]) (q1:RdV m H x d) (q2:Q (.bl (c5 0 9999999 d)) H):xW vs H Q u3_
def z9:Sp:=fun vs H Q u3_=>xW vs H Q u3_
theorem v6:bJ ["thing","land","house","acres"] ["thing"] (aO lQ):=⟨rfl,rfl,rfl,by decide,rfl,by decide,by decide⟩
theorem aE9{f:Ae}{fd:AD}(F:Fun K "is_part" "is_part" lQ f fd)(T:Txt K mg)
  (GN:Cl P w K mg base 1 "is_name" ["thing"] iU)
  (GW:Cl P w K mg base 2 "is_whole" ["thing","least","most"] kA):
  cH P w K mg base CX0 3 f fd ["thing"] aDO:=by
 refine F.ok v6 (fun vs H Q E h=>?_) (fun ad A outer s H vs Q E U h=>?_)
 ·obtain⟨m,x,d,rfl,_⟩:=h;rfl
 ·obtain⟨m,x,d,rfl,hx,k⟩:=h;have q:cF 1 _:=U.mono (by decide);obtain⟨ta,hacres⟩:=T.acres;refine⟨_,aQ (cX (PW.pt (fO (d8 (eQ (aW dH (by rfl) T.isi (by kernel_rfl) (aH (pv 0) (aH (fV (v:=.ty "tuple") (by rfl) T.tuple (by kernel_rfl) rfl) aG)))))
    (fJ (bS pI (aW bG (by rfl) T.len AM (aH (pv 0) aG)) aI (cA _))))) (aU (aZ gX)) b8)
   (aQ (jT (pv 0) (iP rfl (bZ (bB (i:=1) v6.nd rfl (AG rfl)) (bZ (bB (i:=2) v6.nd rfl (AG rfl)) (bZ (bB (i:=3) v6.nd rfl (AG rfl)) fW)))))
   (aU (aZ (dP (bC GN q (aH (pv 1) aG)) (dP (bC GN q (aH (pv 2) aG)) (fF (bC GW U (aH (pv 3) (aH aI (aH (dL (v:=.int 10000000) (by rfl) hacres ⟨_,rfl⟩) aG)))))))))),?_⟩
  refine⟨_,rfl,_,"tuple",_,_,rfl,nZ hx,nY d,_,rfl,?_⟩;cases hd:gZ d with
  | false=>
   have e:fB d=false:=by
    cases d with
    | tuple ds=>simp[gZ]at hd
    | _=>rfl
   rw[e]at k;exact k H (bA.refl H)
  | true=>
   obtain⟨ds,rfl⟩:∃ ds,d=.tuple ds:=by
    cases d with
    | tuple z=>exact⟨z,rfl⟩
    | _=>simp[gZ]at hd
   cases hx with
   | @tup a xs _ e hl r=>
    have W:=r.len;refine dC ?_;refine⟨_,rfl,a,xs,rfl,.inr (aX e),rfl,_,rfl,?_⟩;by_cases O:xs.length=3
    ·rw[Ic (show V.int (xs.length:Int)=V.int 3 by rw[O];rfl)];refine dC ?_
     match xs,ds,O,r with
     | [x1,x2,x3],[d1,d2,d3],_,.cons r1 (.cons r2 (.cons r3 .nil))=>
      refine⟨_,rfl,a,_,rfl,aX e,rfl,_,_,rfl,_,_,rfl,_,_,rfl,rfl,?_⟩;have Z:∀ H',bA H H'→Q (.bl (bW d1 && bW d2 && c5 1 10000000 d3)) H':=k;refine⟨_,rfl,m,x1,d1,rfl,r1,fun H1 J=>⟨_,rfl,?_⟩⟩;have k1:=Z H1 J;refine dR (fun g=>?_) (fun g=>?_)
      ·refine⟨_,rfl,m,x2,d2,rfl,r2.same J,fun H2 Y=>⟨_,rfl,?_⟩⟩;have B:=Z H2 (J.trans Y);rw[g,AY]at B;refine dR (fun M=>?_) (fun M=>?_)
       ·rw[M,AY]at B;exact⟨_,rfl,m,x3,d3,1,10000000,rfl,(r3.same J).same Y,B⟩
       ·rw[(by simpa using M:bW d2=false)]at B;exact B
      ·rw[(by simpa using g:bW d1=false)]at k1;exact k1
    ·rw[decide_eq_false (show¬ V.int (xs.length:Int)=V.int 3 from fun z=>O (by injection z with z;omega))];refine c4 ?_;have e2:fB (.tuple ds)=false:=by
      match ds,(show ds.length≠3 by omega)with
      | [],_=>rfl
      | [_],_=>rfl
      | [_,_],_=>rfl
      | [_,_,_],z=>exact absurd rfl z
      | _ :: _ :: _ :: _ :: _,_=>rfl
     rw[e2]at k;exact k H (bA.refl H)
theorem aGW:bJ ["thing"] ["thing"] (aO lS):=⟨rfl,rfl,rfl,by decide,rfl,by decide,by decide⟩
theorem aFa{f:Ae}{fd:AD}(F:Fun K "is_inch" "is_inch" lS f fd)(T:Txt K mg)
  (q:Cl P w K mg base 2 "is_whole" ["thing","least","most"] kA):
  cH P w K mg base CX0 3 f fd ["thing"] z9:=by
 refine F.ok aGW (fun vs H Q E h=>?_) (fun z A outer s H vs Q E B h=>?_)
 ·obtain⟨m,x,d,rfl,_⟩:=h;rfl
 ·obtain⟨m,x,d,rfl,hx,k⟩:=h;obtain⟨ti,hin⟩:=T.inches;exact⟨_,aU (aZ (bC q B (aH (pv 0) (aH aI (aH (bO oJ (dL (v:=.int 10000000) (by rfl) hin ⟨_,rfl⟩) aI) aG))))),_,rfl,_,_,rfl,rfl,m,x,d,0,9999999,rfl,hx,k⟩
def v7:Al→Bool
 | .tuple ds=>ds.all bW
 | _=>false
def v8:Al→Bool
 | .tuple ds=>ds.all fB
 | _=>false
inductive xX(vs:List V)(H:Hp)(Q:VK)(u3_:XK):Prop
 | mk (m:Bool) (x:V) (d:Al) (q0:vs=[x]) (q1:RdV m H x d) (q2:∀ H',bA H H'→Q (.bl (v7 d)) H'):xX vs H Q u3_
def v9:Sp:=fun vs H Q u3_=>xX vs H Q u3_
inductive xY(vs:List V)(H:Hp)(Q:VK)(u3_:XK):Prop
 | mk (m:Bool) (x:V) (d:Al) (q0:vs=[x]) (q1:RdV m H x d) (q2:∀ H',bA H H'→Q (.bl (v8 d)) H'):xY vs H Q u3_
def aDP:Sp:=fun vs H Q u3_=>xY vs H Q u3_
theorem aGX:bJ ["thing"] ["thing"] (aO gO):=⟨rfl,rfl,rfl,by decide,rfl,by decide,by decide⟩
theorem aFb{f:Ae}{fd:AD}(F:Fun K "all_names" "all_names" gO f fd)(T:Txt K mg)
  (GN:Cl P w K mg base 1 "is_name" ["thing"] iU):
  cH P w K mg base CX0 2 f fd ["thing"] v9:=by
 refine F.ok aGX (fun vs H Q E h=>?_) (fun O A outer s H vs Q E U h=>?_)
 ·obtain⟨m,x,d,rfl,_⟩:=h;rfl
 ·obtain⟨m,x,d,rfl,hx,k⟩:=h;refine⟨_,aU (aZ (dP (aW dH (by rfl) T.isi (by kernel_rfl) (aH (pv 0) (aH (fV (v:=.ty "tuple") (by rfl) T.tuple (by kernel_rfl) rfl) aG)))
   (fF (aW (nN rfl) (by rfl) T.al (by kernel_rfl) (aH (eG (N:=["name"]) (src:=[none]) (osc:=aO gO) (oN:=["thing"]) ⟨by rfl,by decide,by decide,by decide,rfl,by rfl⟩ (iQ (pv 0))
     fun cl s H fp bd C=>⟨bB (i:=0) (show(["name"]:List Str).Nodup by decide) rfl (AG rfl),c8,bC GN U (aH (pv 0) aG)⟩) aG))))),?_⟩
  refine⟨_,rfl,_,"tuple",_,_,rfl,nZ hx,nY d,_,rfl,?_⟩;cases hd:gZ d with
  | false=>
   have e:v7 d=false:=by
    cases d with
    | tuple ds=>simp[gZ]at hd
    | _=>rfl
   rw[e]at k;exact k H (bA.refl H)
  | true=>
   obtain⟨ds,rfl⟩:∃ ds,d=.tuple ds:=by
    cases d with
    | tuple z=>exact⟨z,rfl⟩
    | _=>simp[gZ]at hd
   cases hx with
   | @tup a xs _ e hl r=>
    have B:=r.len;have Z:∀ H',bA H H'→Q (.bl (ds.all bW)) H':=k;refine c4 ?_;refine⟨_,rfl,a,rfl,⟨xs,aX e⟩,?_⟩;refine gA (xs:=xs) (fun i ys σ H'=>bA H H'∧ys=((ds.take i).map fun d=>V.bl (bW d))∧∃ o,σ=[o]) ⟨bA.refl H,rfl,none,rfl⟩ (aM (by omega)) (fun i ys σ H' p=>by rw[p.2.1,Ab,AC];omega) (fun i ys σ H' p=>aX (p.1 _ _ e)) ?_ ?_
    ·rintro i y ys σ H' M ⟨S,rfl,o,rfl⟩;dsimp only[cI];obtain⟨d',hd',r'⟩:=r.at M;refine c4 ?_;refine⟨_,rfl,m,y,d',rfl,r'.same S,fun H2 Y=>⟨S.trans Y,?_,_,rfl⟩⟩;rw[AN,hd',Au];rfl
    ·rintro ys σ H1 ⟨S,rfl,o,rfl⟩ D W;have q:DX xs.length ds=ds:=Be (by omega);rw[q];have J:=S.trans (aS (o:=.lst (ds.map fun d=>V.bl (bW d))) W);refine⟨D,ds.map bW,rfl,aV (by rw[aJ,B6];rfl),?_⟩;rw[DL];exact Z _ J
theorem aGY:bJ ["thing"] ["thing"] (aO gN):=⟨rfl,rfl,rfl,by decide,rfl,by decide,by decide⟩
theorem aFc{f:Ae}{fd:AD}(F:Fun K "all_parts" "all_parts" gN f fd)(T:Txt K mg)
  (GN:Cl P w K mg base 3 "is_part" ["thing"] aDO):
  cH P w K mg base CX0 4 f fd ["thing"] aDP:=by
 refine F.ok aGY (fun vs H Q E h=>?_) (fun O A outer s H vs Q E U h=>?_)
 ·obtain⟨m,x,d,rfl,_⟩:=h;rfl
 ·obtain⟨m,x,d,rfl,hx,k⟩:=h;refine⟨_,aU (aZ (dP (aW dH (by rfl) T.isi (by kernel_rfl) (aH (pv 0) (aH (fV (v:=.ty "tuple") (by rfl) T.tuple (by kernel_rfl) rfl) aG)))
   (fF (aW (nN rfl) (by rfl) T.al (by kernel_rfl) (aH (eG (N:=["part"]) (src:=[none]) (osc:=aO gN) (oN:=["thing"]) ⟨by rfl,by decide,by decide,by decide,rfl,by rfl⟩ (iQ (pv 0))
     fun cl s H fp bd C=>⟨bB (i:=0) (show(["part"]:List Str).Nodup by decide) rfl (AG rfl),c8,bC GN U (aH (pv 0) aG)⟩) aG))))),?_⟩
  refine⟨_,rfl,_,"tuple",_,_,rfl,nZ hx,nY d,_,rfl,?_⟩;cases hd:gZ d with
  | false=>
   have e:v8 d=false:=by
    cases d with
    | tuple ds=>simp[gZ]at hd
    | _=>rfl
   rw[e]at k;exact k H (bA.refl H)
  | true=>
   obtain⟨ds,rfl⟩:∃ ds,d=.tuple ds:=by
    cases d with
    | tuple z=>exact⟨z,rfl⟩
    | _=>simp[gZ]at hd
   cases hx with
   | @tup a xs _ e hl r=>
    have B:=r.len;have Z:∀ H',bA H H'→Q (.bl (ds.all fB)) H':=k;refine c4 ?_;refine⟨_,rfl,a,rfl,⟨xs,aX e⟩,?_⟩;refine gA (xs:=xs) (fun i ys σ H'=>bA H H'∧ys=((ds.take i).map fun d=>V.bl (fB d))∧∃ o,σ=[o]) ⟨bA.refl H,rfl,none,rfl⟩ (aM (by omega)) (fun i ys σ H' p=>by rw[p.2.1,Ab,AC];omega) (fun i ys σ H' p=>aX (p.1 _ _ e)) ?_ ?_
    ·rintro i y ys σ H' M ⟨S,rfl,o,rfl⟩;dsimp only[cI];obtain⟨d',hd',r'⟩:=r.at M;refine c4 ?_;refine⟨_,rfl,m,y,d',rfl,r'.same S,fun H2 Y=>⟨S.trans Y,?_,_,rfl⟩⟩;rw[AN,hd',Au];rfl
    ·rintro ys σ H1 ⟨S,rfl,o,rfl⟩ D W;have q:DX xs.length ds=ds:=Be (by omega);rw[q];have J:=S.trans (aS (o:=.lst (ds.map fun d=>V.bl (fB d))) W);refine⟨D,ds.map fB,rfl,aV (by rw[aJ,B6];rfl),?_⟩;rw[DL];exact Z _ J
inductive xZ(D:List Al→Bool)(vs:List V)(H:Hp)(Q:VK)(u3_:XK):Prop
 | mk (m:Bool) (x:V) (ds:List Al) (q0:vs=[x]) (q1:RdV m H x (.tuple ds)) (q2:∀ H',bA H H'→Q (.bl (D ds)) H'):xZ D vs H Q u3_
def eY(D:List Al→Bool):Sp:=fun vs H Q u3_=>xZ D vs H Q u3_
def jP:List Al→Bool
 | [d1,d2]=>bW d1 && c5 0 10000000 d2
 | _=>false
theorem x8{ds:List Al}(h:ds.length≠2):jP ds=false:=by
 match ds,h with
 | [],_=>rfl
 | [_],_=>rfl
 | [_,_],z=>exact absurd rfl z
 | _ :: _ :: _ :: _,_=>rfl
def uR:List Al→Bool
 | [d1,d2,d3]=>bW d1 && c5 0 9999999 d2 && bW d3
 | _=>false
theorem aDQ{ds:List Al}(h:ds.length≠3):uR ds=false:=by
 match ds,h with
 | [],_=>rfl
 | [_],_=>rfl
 | [_,_],_=>rfl
 | [_,_,_],z=>exact absurd rfl z
 | _ :: _ :: _ :: _ :: _,_=>rfl
def pE:List Al→Bool
 | [d1]=>bW d1
 | _=>false
theorem aCe{ds:List Al}(h:ds.length≠1):pE ds=false:=by
 match ds,h with
 | [],_=>rfl
 | [_],z=>exact absurd rfl z
 | _ :: _ :: _,_=>rfl
def lX:List Al→Bool
 | [d1,d2,d3,d4]=>bW d1 && c5 0 9999999 d2 && c5 0 1000000000 d3 && c5 0 1000000 d4
 | _=>false
theorem aAa{ds:List Al}(h:ds.length≠4):lX ds=false:=by
 match ds,h with
 | [],_=>rfl
 | [_],_=>rfl
 | [_,_],_=>rfl
 | [_,_,_],_=>rfl
 | [_,_,_,_],z=>exact absurd rfl z
 | _ :: _ :: _ :: _ :: _ :: _,_=>rfl
theorem aAb:bJ ["rest"] ["rest"] (aO iM):=⟨rfl,rfl,rfl,by decide,rfl,by decide,by decide⟩
theorem x9{f:Ae}{fd:AD}(F:Fun K "fits_measure" "fits_measure" iM f fd)(T:Txt K mg)
  (GN:Cl P w K mg base 1 "is_name" ["thing"] iU)
  (GW:Cl P w K mg base 2 "is_whole" ["thing","least","most"] kA):
  cH P w K mg base CX0 6 f fd ["rest"] (eY jP):=by
 refine F.ok aAb (fun vs H Q E h=>?_) (fun ac A outer s H vs Q E M h=>?_)
 ·obtain⟨m,x,d,rfl,_⟩:=h;rfl
 ·obtain⟨m,x,ds,rfl,hx,k⟩:=h;have O:cF 1 _:=M.mono (by decide);have J:cF 2 _:=M.mono (by decide);have aa:cF 3 _:=M.mono (by decide);obtain⟨tinches,hinches⟩:=T.inches;refine⟨_,aU (aZ (dP (fY eU (aW bG (by rfl) T.len AM (aH (pv 0) aG)) aI (cA _)) (dP (bC GN O (aH (bV cG (pv 0) aI Ig) aG)) (fF (bC GW J (aH (bV cG (pv 0) aI Ig) (aH aI (aH (dL (v:=.int 10000000) (by rfl) hinches ⟨_,rfl⟩) aG)))))))),?_⟩;cases hx with
  | @tup a xs _ e hl r=>
   have W:=r.len;refine⟨_,rfl,a,xs,rfl,.inr (aX e),rfl,_,rfl,?_⟩;by_cases hn:xs.length=2
   ·rw[Ic (show V.int (xs.length:Int)=V.int 2 by rw[hn];rfl)];refine c4 ?_
    match xs,ds,hn,r with
    | [x1,x2],[d1,d2],_,.cons r1 (.cons r2 (.nil))=>
     have Y:∀ H',bA H H'→Q (.bl (bW d1 && c5 0 10000000 d2)) H':=k;have U:=bA.refl H;refine⟨_,rfl,a,_,0,_,rfl,rfl,aX (U _ _ e),rfl,m,x1,d1,rfl,(r1.same U),fun H1 z1=>⟨_,rfl,?_⟩⟩;have B:=U.trans z1;cases Z:(bW d1)with
     | false=>
      have q:=Y H1 B;rw[Z]at q;simp only[Cy]at q;refine dC ?_;exact q
     | true=>
      refine c4 ?_;have q:=Y H1 B;rw[Z,AY]at q;exact⟨_,rfl,a,_,1,_,rfl,rfl,aX (B _ _ e),rfl,m,x2,d2,0,10000000,rfl,(r2.same B),q⟩
   ·rw[decide_eq_false (show¬ V.int (xs.length:Int)=V.int 2 from fun z=>hn (by injection z with z;omega))];refine dC ?_;rw[x8 (by omega)]at k;exact k H (bA.refl H)
theorem aFd:bJ ["rest"] ["rest"] (aO oX):=⟨rfl,rfl,rfl,by decide,rfl,by decide,by decide⟩
theorem aDR{f:Ae}{fd:AD}(F:Fun K "fits_view" "fits_view" oX f fd)(T:Txt K mg)
  (GN:Cl P w K mg base 1 "is_name" ["thing"] iU)
  (GI:Cl P w K mg base 3 "is_inch" ["thing"] z9):
  cH P w K mg base CX0 6 f fd ["rest"] (eY uR):=by
 refine F.ok aFd (fun vs H Q E h=>?_) (fun ad A outer s H vs Q E O h=>?_)
 ·obtain⟨m,x,d,rfl,_⟩:=h;rfl
 ·obtain⟨m,x,ds,rfl,hx,k⟩:=h;have J:cF 1 _:=O.mono (by decide);have ac:cF 2 _:=O.mono (by decide);have M:cF 3 _:=O.mono (by decide);refine⟨_,aU (aZ (dP (fY eU (aW bG (by rfl) T.len AM (aH (pv 0) aG)) aI (cA _)) (dP (bC GN J (aH (bV cG (pv 0) aI Ig) aG)) (dP (bC GI M (aH (bV cG (pv 0) aI Ig) aG)) (fF (bC GN J (aH (bV cG (pv 0) aI Ig) aG))))))),?_⟩;cases hx with
  | @tup a xs _ e hl r=>
   have aa:=r.len;refine⟨_,rfl,a,xs,rfl,.inr (aX e),rfl,_,rfl,?_⟩;by_cases hn:xs.length=3
   ·rw[Ic (show V.int (xs.length:Int)=V.int 3 by rw[hn];rfl)];refine c4 ?_
    match xs,ds,hn,r with
    | [x1,x2,x3],[d1,d2,d3],_,.cons r1 (.cons r2 (.cons r3 (.nil)))=>
     have W:∀ H',bA H H'→Q (.bl (bW d1 && c5 0 9999999 d2 && bW d3)) H':=k;have U:=bA.refl H;refine⟨_,rfl,a,_,0,_,rfl,rfl,aX (U _ _ e),rfl,m,x1,d1,rfl,(r1.same U),fun H1 z1=>⟨_,rfl,?_⟩⟩;have B:=U.trans z1;cases Y:(bW d1)with
     | false=>
      have q:=W H1 B;rw[Y]at q;simp only[Cy]at q;refine dC ?_;exact q
     | true=>
      refine c4 ?_;refine⟨_,rfl,a,_,1,_,rfl,rfl,aX (B _ _ e),rfl,m,x2,d2,rfl,(r2.same B),_,rfl,?_⟩;cases Z:(c5 0 9999999 d2)with
      | false=>
       have q:=W H1 B;rw[Y,AY,Z]at q;simp only[Cy]at q;refine dC ?_;exact q
      | true=>
       refine c4 ?_;refine⟨_,rfl,a,_,2,_,rfl,rfl,aX (B _ _ e),rfl,m,x3,d3,rfl,(r3.same B),fun H3 z3=>?_⟩;have q:=W H3 (B.trans z3);rw[Y,AY,Z,AY]at q;exact q
   ·rw[decide_eq_false (show¬ V.int (xs.length:Int)=V.int 3 from fun z=>hn (by injection z with z;omega))];refine dC ?_;rw[aDQ (by omega)]at k;exact k H (bA.refl H)
theorem aDS:bJ ["rest"] ["rest"] (aO lU):=⟨rfl,rfl,rfl,by decide,rfl,by decide,by decide⟩
theorem aCf{f:Ae}{fd:AD}(F:Fun K "fits_alone" "fits_alone" lU f fd)(T:Txt K mg)
  (GN:Cl P w K mg base 1 "is_name" ["thing"] iU):
  cH P w K mg base CX0 6 f fd ["rest"] (eY pE):=by
 refine F.ok aDS (fun vs H Q E h=>?_) (fun Y A outer s H vs Q E B h=>?_)
 ·obtain⟨m,x,d,rfl,_⟩:=h;rfl
 ·obtain⟨m,x,ds,rfl,hx,k⟩:=h;have J:cF 1 _:=B.mono (by decide);have U:cF 2 _:=B.mono (by decide);have W:cF 3 _:=B.mono (by decide);refine⟨_,aU (aZ (dP (fY eU (aW bG (by rfl) T.len AM (aH (pv 0) aG)) aI (cA _)) (fF (bC GN J (aH (bV cG (pv 0) aI Ig) aG))))),?_⟩;cases hx with
  | @tup a xs _ e hl r=>
   have O:=r.len;refine⟨_,rfl,a,xs,rfl,.inr (aX e),rfl,_,rfl,?_⟩;by_cases hn:xs.length=1
   ·rw[Ic (show V.int (xs.length:Int)=V.int 1 by rw[hn];rfl)];refine c4 ?_
    match xs,ds,hn,r with
    | [x1],[d1],_,.cons r1 (.nil)=>
     have Z:∀ H',bA H H'→Q (.bl (bW d1)) H':=k;have M:=bA.refl H;refine⟨_,rfl,a,_,0,_,rfl,rfl,aX (M _ _ e),rfl,m,x1,d1,rfl,(r1.same M),fun H1 z1=>?_⟩;have q:=Z H1 (M.trans z1);exact q
   ·rw[decide_eq_false (show¬ V.int (xs.length:Int)=V.int 1 from fun z=>hn (by injection z with z;omega))];refine dC ?_;rw[aCe (by omega)]at k;exact k H (bA.refl H)
theorem aCg:bJ ["rest"] ["rest"] (aO jM):=⟨rfl,rfl,rfl,by decide,rfl,by decide,by decide⟩
theorem aAc{f:Ae}{fd:AD}(F:Fun K "fits_breach" "fits_breach" jM f fd)(T:Txt K mg)
  (GN:Cl P w K mg base 1 "is_name" ["thing"] iU)
  (GW:Cl P w K mg base 2 "is_whole" ["thing","least","most"] kA)
  (GI:Cl P w K mg base 3 "is_inch" ["thing"] z9):
  cH P w K mg base CX0 6 f fd ["rest"] (eY lX):=by
 refine F.ok aCg (fun vs H Q E h=>?_) (fun ae A outer s H vs Q E W h=>?_)
 ·obtain⟨m,x,d,rfl,_⟩:=h;rfl
 ·obtain⟨m,x,ds,rfl,hx,k⟩:=h;have Z:cF 1 _:=W.mono (by decide);have J:cF 2 _:=W.mono (by decide);have U:cF 3 _:=W.mono (by decide);obtain⟨tpence,hpence⟩:=T.pence;obtain⟨tspades,hspades⟩:=T.spades;refine⟨_,aQ (cX (PW.pt (fO (bS pI (aW bG (by rfl) T.len AM (aH (pv 0) aG)) aI (cA _)) (fO (d8 (eQ (bC GN Z (aH (bV cG (pv 0) aI Ig) aG)))) (fJ (d8 (eQ (bC GI U (aH (bV cG (pv 0) aI Ig) aG)))))))) (aU (aZ gX)) b8) (aU (aZ (dP (bC GW J (aH (bV cG (pv 0) aI Ig) (aH aI (aH (dL (v:=.int 1000000000) (by rfl) hpence ⟨_,rfl⟩) aG)))) (fF (bC GW J (aH (bV cG (pv 0) aI Ig) (aH aI (aH (dL (v:=.int 1000000) (by rfl) hspades ⟨_,rfl⟩) aG)))))))),?_⟩;cases hx with
  | @tup a xs _ e hl r=>
   have ac:=r.len;refine⟨_,rfl,a,xs,rfl,.inr (aX e),rfl,_,rfl,?_⟩;by_cases hn:xs.length=4
   ·rw[Ic (show V.int (xs.length:Int)=V.int 4 by rw[hn];rfl)];refine dC ?_
    match xs,ds,hn,r with
    | [x1,x2,x3,x4],[d1,d2,d3,d4],_,.cons r1 (.cons r2 (.cons r3 (.cons r4 (.nil))))=>
     have M:∀ H',bA H H'→Q (.bl (bW d1 && c5 0 9999999 d2 && c5 0 1000000000 d3 && c5 0 1000000 d4)) H':=k;have s0:=bA.refl H;refine⟨_,rfl,a,_,0,_,rfl,rfl,aX (s0 _ _ e),rfl,m,x1,d1,rfl,(r1.same s0),fun H1 z1=>⟨_,rfl,?_⟩⟩;have B:=s0.trans z1;cases O:(bW d1)with
     | false=>
      have q:=M H1 B;rw[O]at q;simp only[Cy]at q;refine c4 ?_;exact q
     | true=>
      refine dC ?_;refine⟨_,rfl,a,_,1,_,rfl,rfl,aX (B _ _ e),rfl,m,x2,d2,rfl,(r2.same B),_,rfl,?_⟩;cases Y:(c5 0 9999999 d2)with
      | false=>
       have q:=M H1 B;rw[O,AY,Y]at q;simp only[Cy]at q;refine c4 ?_;exact q
      | true=>
       refine dC ?_;refine⟨_,rfl,a,_,2,_,rfl,rfl,aX (B _ _ e),rfl,m,x3,d3,0,1000000000,rfl,(r3.same B),_,rfl,?_⟩;cases g2:(c5 0 1000000000 d3)with
       | false=>
        have q:=M H1 B;rw[O,AY,Y,AY,g2]at q;simp only[Cy]at q;refine dC ?_;exact q
       | true=>
        refine c4 ?_;have q:=M H1 B;rw[O,AY,Y,AY,g2,AY]at q;exact⟨_,rfl,a,_,3,_,rfl,rfl,aX (B _ _ e),rfl,m,x4,d4,0,1000000,rfl,(r4.same B),q⟩
   ·rw[decide_eq_false (show¬ V.int (xs.length:Int)=V.int 4 from fun z=>hn (by injection z with z;omega))];refine c4 ?_;rw[aAa (by omega)]at k;exact k H (bA.refl H)
def jQ(ds:List Al):Bool:=decide (ds.length=2) && ds.all bW
def pN:List Al→Bool
 | [.str a,.str b]=>bM a && bM b && !decide (a=b)
 | _=>false
theorem yA{ds:List Al}(h:¬ (ds.length=2∧ds.all bW=true)):pN ds=false:=by
 unfold pN;split
 ·rename_i a b;have:¬ (bM a=true∧bM b=true):=fun z=>h ⟨rfl,by simp[bW,z.1,z.2]⟩;cases ha:bM a <;> cases q:bM b <;> simp_all
 ·rfl
theorem aGZ{ds:List Al}(h:ds.length=2)(g:ds.all bW=true):∃ a b,ds=[.str a,.str b]∧bM a=true∧bM b=true:=by
 match ds,h with
 | [d1,d2],_=>
  simp only[DA,List.all_nil,Bool.and_true,A9]at g;obtain⟨g1,g2⟩:=g;obtain⟨a,rfl,ha⟩:∃ a,d1=.str a∧bM a=true:=by
   cases d1 with
   | str a=>exact⟨a,rfl,g1⟩
   | _=>simp[bW]at g1
  obtain⟨b,rfl,hb⟩:∃ b,d2=.str b∧bM b=true:=by
   cases d2 with
   | str a=>exact⟨a,rfl,g2⟩
   | _=>simp[bW]at g2
  exact⟨a,b,rfl,ha,hb⟩
theorem aAd:bJ ["rest"] ["rest"] (aO iL):=⟨rfl,rfl,rfl,by decide,rfl,by decide,by decide⟩
theorem yB{f:Ae}{fd:AD}(F:Fun K "fits_forfeit" "fits_forfeit" iL f fd)(T:Txt K mg)
  (O:Cl P w K mg base 2 "all_names" ["thing"] v9):
  cH P w K mg base CX0 6 f fd ["rest"] (eY jQ):=by
 refine F.ok aAd (fun vs H Q E h=>?_) (fun M A outer s H vs Q E U h=>?_)
 ·obtain⟨m,x,d,rfl,_⟩:=h;rfl
 ·obtain⟨m,x,ds,rfl,hx,k⟩:=h;have q:cF 2 _:=U.mono (by decide);refine⟨_,aU (aZ (dP (fY eU (aW bG (by rfl) T.len AM (aH (pv 0) aG)) aI (cA _)) (fF (bC O q (aH (pv 0) aG))))),?_⟩;have B:=hx;cases hx with
  | @tup a xs _ e W r=>
   have J:=r.len;refine⟨_,rfl,a,xs,rfl,.inr (aX e),rfl,_,rfl,?_⟩;unfold jQ at k;by_cases hn:xs.length=2
   ·rw[Ic (show V.int (xs.length:Int)=V.int 2 by rw[hn];rfl)];refine c4 ?_;rw[Ic (show ds.length=2 by omega),AY]at k;exact⟨_,rfl,m,_,_,rfl,B,k⟩
   ·rw[decide_eq_false (show¬ V.int (xs.length:Int)=V.int 2 from fun z=>hn (by injection z with z;omega))];refine dC ?_;rw[decide_eq_false (show¬ ds.length=2 by omega)]at k;exact k H (bA.refl H)
theorem aFe:bJ ["rest"] ["rest"] (aO oW):=⟨rfl,rfl,rfl,by decide,rfl,by decide,by decide⟩
theorem aDT{f:Ae}{fd:AD}(F:Fun K "fits_mend" "fits_mend" oW f fd)(T:Txt K mg)
  (Z:Cl P w K mg base 2 "all_names" ["thing"] v9):
  cH P w K mg base CX0 6 f fd ["rest"] (eY pN):=by
 refine F.ok aFe (fun vs H Q E h=>?_) (fun Y A outer s H vs Q E hr h=>?_)
 ·obtain⟨m,x,d,rfl,_⟩:=h;rfl
 ·obtain⟨m,x,ds,rfl,hx,k⟩:=h;have J:cF 2 _:=hr.mono (by decide);refine⟨_,aU (aZ (dP (fY eU (aW bG (by rfl) T.len AM (aH (pv 0) aG)) aI (cA _)) (dP (bC Z J (aH (pv 0) aG)) (fF (fY pI (bV cG (pv 0) aI Ig) (bV cG (pv 0) aI Ig) (cA _)))))),?_⟩;have M:=hx;cases hx with
  | @tup a xs _ e hl r=>
   have O:=r.len;refine⟨_,rfl,a,xs,rfl,.inr (aX e),rfl,_,rfl,?_⟩;by_cases hn:xs.length=2
   ·rw[Ic (show V.int (xs.length:Int)=V.int 2 by rw[hn];rfl)];refine c4 ?_;refine⟨_,rfl,m,_,_,rfl,M,fun H1 B=>⟨_,rfl,?_⟩⟩;show if ds.all bW=true then _ else _
    refine dR (fun g=>?_) (fun g=>?_)
    ·obtain⟨z1,z2,rfl,h1,h2⟩:=aGZ (by omega) g;cases r with
     | cons r1 r=>
      cases r with
      | cons U r=>
       cases r;cases r1;cases U;refine⟨_,rfl,a,_,0,_,rfl,rfl,aX (B _ _ e),rfl,_,rfl,a,_,1,_,rfl,rfl,aX (B _ _ e),rfl,rfl,?_⟩;have q:=k H1 B;have W:pN [.str z1,.str z2]=!decide (V.str z1=V.str z2):=by
        show(bM z1 && bM z2 && !decide (z1=z2))=_;rw[h1,h2];by_cases hz:z1=z2
        ·subst hz;simp
        ·rw[decide_eq_false hz,decide_eq_false (fun e=>hz (by injection e))];rfl
       rw[W]at q;exact q
    ·rw[yA fun z=>g z.2]at k;exact k H1 B
   ·rw[decide_eq_false (show¬ V.int (xs.length:Int)=V.int 2 from fun z=>hn (by injection z with z;omega))];refine dC ?_;rw[yA fun z=>hn (by omega)]at k;exact k H (bA.refl H)
def eO(ss:List Str):Bool:=decide (ss.Pairwise fun a b=>a.cps.toList < b.cps.toList)
def yC:Al→Str | .str z=>z | _=>A5 ""
def dW:Al→Str
 | .tuple (.str z :: _)=>z
 | _=>A5 ""
def aA4:Al→Bool
 | .tuple ds=>ds.all fB && decide (2≤ds.length∧ds.length≤6) && eO (ds.map dW)
 | _=>false
def yD:Al→Bool
 | .tuple ds=>ds.all bW && decide (2≤ds.length∧ds.length≤6) && eO (ds.map yC)
 | _=>false
inductive sU(vs:List V)(H:Hp)(Q:VK)(u3_:XK):Prop
 | mk (a:Ae) (ss:List Str) (q0:vs=[.ref a]) (q1:(H a=some (.lst (ss.map V.str))∨H a=some (.tup (ss.map V.str)))) (q2:ss.length≤6) (q3:∀ H',bA H H'→Q (.bl (eO ss)) H'):sU vs H Q u3_
def sV:Sp:=fun vs H Q u3_=>sU vs H Q u3_
inductive yE(vs:List V)(H:Hp)(Q:VK)(u3_:XK):Prop
 | mk (m:Bool) (x:V) (d:Al) (q0:vs=[x]) (q1:RdV m H x d) (q2:∀ H',bA H H'→Q (.bl (aA4 d)) H'):yE vs H Q u3_
def aDU:Sp:=fun vs H Q u3_=>yE vs H Q u3_
inductive yF(vs:List V)(H:Hp)(Q:VK)(u3_:XK):Prop
 | mk (m:Bool) (x:V) (d:Al) (q0:vs=[x]) (q1:RdV m H x d) (q2:∀ H',bA H H'→Q (.bl (yD d)) H'):yF vs H Q u3_
def aDV:Sp:=fun vs H Q u3_=>yF vs H Q u3_
theorem sW{m:Bool}{H:Hp}:∀{xs:List V}{ds:List Al},cM m H xs ds→ds.all bW=true→xs=(ds.map yC).map V.str
 | _,_,.nil,_=>rfl
 | _,_,.cons (d:=d) r rs,h=>by
  rw[DA,A9]at h;have q:=sW rs h.2;cases d with
  | str z=>
   cases r;rw[q];rfl
  | _=>simp[bW]at h
theorem aG0:bJ ["thing"] ["thing"] (aO iK):=⟨rfl,rfl,rfl,by decide,rfl,by decide,by decide⟩
theorem aFf{f:Ae}{fd:AD}(F:Fun K "are_lands" "are_lands" iK f fd)(T:Txt K mg)
  (GA:Cl P w K mg base 2 "all_names" ["thing"] v9)
  (GR:Cl P w K mg base 1 "is_rising" ["things"] sV):
  cH P w K mg base CX0 5 f fd ["thing"] aDV:=by
 refine F.ok aG0 (fun vs H Q E h=>?_) (fun af A outer s H vs Q E hr h=>?_)
 ·obtain⟨m,x,d,rfl,_⟩:=h;rfl
 ·obtain⟨m,x,d,rfl,hx,k⟩:=h;have W:cF 1 _:=hr.mono (by decide);have O:cF 2 _:=hr.mono (by decide);obtain⟨tf,hfew⟩:=T.fewest;obtain⟨tm,hmost⟩:=T.most;refine⟨_,aU (aZ (dP (bC GA O (aH (pv 0) aG)) (dP (nB l7 l7 (dL (v:=.int 2) (by rfl) hfew ⟨_,rfl⟩) (aW bG (by rfl) T.len AM (aH (pv 0) aG)) (dL (v:=.int 6) (by rfl) hmost ⟨_,rfl⟩)) (fF (bC GR W (aH (pv 0) aG)))))),_,rfl,m,x,d,rfl,hx,fun H1 J=>⟨_,rfl,?_⟩⟩;refine dR (fun g=>?_) (fun g=>?_)
  ·obtain⟨ds,rfl⟩:∃ ds,d=.tuple ds:=by
    cases d with
    | tuple z=>exact⟨z,rfl⟩
    | _=>simp[v7]at g
   have M:ds.all bW=true:=g;cases hx with
   | @tup a xs _ e hl r=>
    have ac:=r.len;have k':∀ H',bA H H'→Q (.bl (decide (2≤ds.length∧ds.length≤6) && eO (ds.map yC))) H':=fun H' s'=>by
     have q:Q (.bl (ds.all bW && decide (2≤ds.length∧ds.length≤6) && eO (ds.map yC))) H':=k H' s';rw[M,AY]at q;exact q
    have B:¬ (2≤ds.length∧ds.length≤6)→Q (.bl false) H1:=fun h=>by
     have q:=k' H1 J;rw[decide_eq_false h]at q;exact q
    refine⟨_,rfl,a,xs,rfl,.inr (aX (J _ _ e)),_,_,rfl,rfl,_,rfl,dR (fun U=>?_) (fun U=>?_)⟩
    ·have aa:(2:Int)≤xs.length:=Ie U;refine⟨_,_,rfl,rfl,_,rfl,dR (fun Y=>?_) (fun Y=>?_)⟩
     ·have Z:(xs.length:Int)≤6:=Ie Y;refine⟨_,rfl,a,ds.map yC,rfl,.inr ?_,by rw[Ab];omega,fun H2 s2=>?_⟩
      ·rw[← sW r M];exact J _ _ e
      ·have q:=k' H2 (J.trans s2);rw[Ic (by omega),AY]at q;exact q
     ·have Z:¬ (xs.length:Int)≤6:=fun z=>Y (Ic z);exact B (by omega)
    ·have aa:¬ (2:Int)≤xs.length:=fun z=>U (Ic z);refine⟨_,rfl,dC ?_⟩;exact B (by omega)
  ·have M:v7 d=false:=by simpa using g
   have e:yD d=false:=by
    cases d with
    | tuple ds=>
     have z:ds.all bW=false:=M;show(ds.all bW && decide (2≤ds.length∧ds.length≤6) && eO (ds.map yC))=false;rw[z];rfl
    | _=>rfl
   rw[e]at k;exact k H1 J
theorem aG1:bJ ["thing"] ["thing"] (aO gP):=⟨rfl,rfl,rfl,by decide,rfl,by decide,by decide⟩
theorem aCh{m:Bool}{H:Hp}{x:V}{d:Al}(r:RdV m H x d)(h:fB d=true):∃ a xs,x=.ref a∧H a=some (.tup xs)∧atI xs 0=some (V.str (dW d)):=by
 cases d with
 | tuple ds=>
  cases r with
  | @tup a xs _ e _ r=>
   cases r with
   | nil=>simp[fB]at h
   | @cons F d1 _ _ B rs=>
    have hn:bW d1=true:=by
     unfold fB at h;split at h
     ·rename_i q;cases q;simp only[A9]at h;exact h.1.1
     ·cases h
    cases d1 with
    | str z=>
     cases B;refine⟨a,_,rfl,e,?_⟩;unfold atI ixN;rw[Ib (by decide),Ib (by rw[A0];omega)];rfl
    | _=>simp[bW]at hn
 | _=>simp[fB]at h
theorem aFg{f:Ae}{fd:AD}(F:Fun K "are_parts" "are_parts" gP f fd)(T:Txt K mg)
  (GA:Cl P w K mg base 4 "all_parts" ["thing"] aDP)
  (GR:Cl P w K mg base 1 "is_rising" ["things"] sV):
  cH P w K mg base CX0 5 f fd ["thing"] aDU:=by
 refine F.ok aG1 (fun vs H Q E h=>?_) (fun ah A outer s H vs Q E Y h=>?_)
 ·obtain⟨m,x,d,rfl,_⟩:=h;rfl
 ·obtain⟨m,x,d,rfl,hx,k⟩:=h;have U:cF 1 _:=Y.mono (by decide);obtain⟨tf,hfew⟩:=T.fewest;obtain⟨tm,hmost⟩:=T.most;refine⟨_,aQ (cX (PW.pt (fO (d8 (eQ (bC GA Y (aH (pv 0) aG)))) (fJ (d8 (qJ l7 l7 (dL (v:=.int 2) (by rfl) hfew ⟨_,rfl⟩) (aW bG (by rfl) T.len AM (aH (pv 0) aG)) (dL (v:=.int 6) (by rfl) hmost ⟨_,rfl⟩)))))) (aU (aZ gX)) b8)
   (aU (aZ (bC GR U (aH (eG (N:=["part"]) (src:=[none]) (osc:=aO gP) (oN:=["thing"]) ⟨by rfl,by decide,by decide,by decide,rfl,by rfl⟩ (iQ (pv 0))
     fun cl s H fp bd C=>⟨bB (i:=0) (show(["part"]:List Str).Nodup by decide) rfl (AG rfl),c8,bV (r:=aCN K) cG (pv 0) aI Ig⟩) aG)))),?_⟩
  refine⟨_,rfl,m,x,d,rfl,hx,fun H1 B=>⟨_,rfl,?_⟩⟩;cases g:v8 d with
  | false=>
   refine c4 ?_;have e:aA4 d=false:=by
    cases d with
    | tuple ds=>
     have z:ds.all fB=false:=g;show(ds.all fB && decide (2≤ds.length∧ds.length≤6) && eO (ds.map dW))=false;rw[z];rfl
    | _=>rfl
   rw[e]at k;exact k H1 B
  | true=>
   refine dC ?_;obtain⟨ds,rfl⟩:∃ ds,d=.tuple ds:=by
    cases d with
    | tuple z=>exact⟨z,rfl⟩
    | _=>simp[v8]at g
   have g':ds.all fB=true:=g;cases hx with
   | @tup a xs _ e hl r=>
    have Z:=r.len;have k':∀ H',bA H H'→Q (.bl (decide (2≤ds.length∧ds.length≤6) && eO (ds.map dW))) H':=fun H' s'=>by
     have q:Q (.bl (ds.all fB && decide (2≤ds.length∧ds.length≤6) && eO (ds.map dW))) H':=k H' s';rw[g',AY]at q;exact q
    have J:¬ (2≤ds.length∧ds.length≤6)→Q (.bl false) H1:=fun h=>by
     have q:=k' H1 B;rw[decide_eq_false h]at q;exact q
    refine⟨_,rfl,a,xs,rfl,.inr (aX (B _ _ e)),_,_,rfl,rfl,_,rfl,dR (fun O=>?_) (fun O=>?_)⟩
    ·have W:(2:Int)≤xs.length:=Ie O;refine⟨_,_,rfl,rfl,_,rfl,?_⟩;by_cases g2:(xs.length:Int)≤6
     ·rw[Ic g2];refine dC ?_;refine⟨_,rfl,a,rfl,⟨xs,aX (B _ _ e)⟩,?_⟩;refine gA (xs:=xs) (fun i ys σ H'=>bA H1 H'∧ys=((ds.take i).map fun d=>V.str (dW d))∧∃ o,σ=[o]) ⟨bA.refl H1,rfl,none,rfl⟩ (aM (by omega)) (fun i ys σ H' p=>by rw[p.2.1,Ab,AC];omega) (fun i ys σ H' p=>aX (p.1 _ _ (B _ _ e))) ?_ ?_
      ·rintro i y ys σ H' hy ⟨S,rfl,o,rfl⟩;dsimp only[cI];obtain⟨d',hd',r'⟩:=r.at hy;obtain⟨b,zs,rfl,hb,hat⟩:=aCh ((r'.same B).same S) (AU.mp g' d' (A2 hd'));refine c4 ?_;refine⟨_,rfl,b,zs,0,_,rfl,rfl,aX hb,hat,S,?_,_,rfl⟩;rw[AN,hd',Au];rfl
      ·rintro ys σ H2 ⟨S,rfl,o,rfl⟩ D hD;have M:DX xs.length ds=ds:=Be (by omega);rw[M];have S1:=S.trans (aS (o:=.lst (ds.map fun d=>V.str (dW d))) hD);refine⟨D,ds.map dW,rfl,.inl (by rw[aJ,B6];rfl),by rw[Ab];omega,fun H3 s3=>?_⟩;have q:=k' H3 ((B.trans S1).trans s3);rw[Ic (by omega),AY]at q;exact q
     ·rw[decide_eq_false g2];refine c4 ?_;exact J (by omega)
    ·have W:¬ (2:Int)≤xs.length:=fun z=>O (Ic z);refine⟨_,rfl,c4 ?_⟩;exact J (by omega)
def yG:List Al→Bool
 | [d1,d2]=>bW d1 && aA4 d2
 | _=>false
def uS:List Al→Bool
 | [d1,d2]=>yD d1 && bW d2
 | _=>false
theorem aDW{ds:List Al}(h:ds.length≠2):yG ds=false:=by
 match ds,h with
 | [],_=>rfl
 | [_],_=>rfl
 | [_,_],z=>exact absurd rfl z
 | _ :: _ :: _ :: _,_=>rfl
theorem aDX{ds:List Al}(h:ds.length≠2):uS ds=false:=by
 match ds,h with
 | [],_=>rfl
 | [_],_=>rfl
 | [_,_],z=>exact absurd rfl z
 | _ :: _ :: _ :: _,_=>rfl
theorem aFh:bJ ["rest"] ["rest"] (aO oU):=⟨rfl,rfl,rfl,by decide,rfl,by decide,by decide⟩
theorem aDY{f:Ae}{fd:AD}(F:Fun K "fits_part" "fits_part" oU f fd)(T:Txt K mg)
  (GN:Cl P w K mg base 1 "is_name" ["thing"] iU)
  (Y:Cl P w K mg base 5 "are_parts" ["thing"] aDU):
  cH P w K mg base CX0 6 f fd ["rest"] (eY yG):=by
 refine F.ok aFh (fun vs H Q E h=>?_) (fun W A outer s H vs Q E M h=>?_)
 ·obtain⟨m,x,d,rfl,_⟩:=h;rfl
 ·obtain⟨m,x,ds,rfl,hx,k⟩:=h;have J:cF 1 _:=M.mono (by decide);refine⟨_,aU (aZ (dP (fY eU (aW bG (by rfl) T.len AM (aH (pv 0) aG)) aI (cA _)) (dP (bC GN J (aH (bV cG (pv 0) aI Ig) aG)) (fF (bC Y M (aH (bV cG (pv 0) aI Ig) aG)))))),?_⟩;cases hx with
  | @tup a xs _ e hl r=>
   have O:=r.len;refine⟨_,rfl,a,xs,rfl,.inr (aX e),rfl,_,rfl,?_⟩;by_cases hn:xs.length=2
   ·rw[Ic (show V.int (xs.length:Int)=V.int 2 by rw[hn];rfl)];refine c4 ?_
    match xs,ds,hn,r with
    | [x1,x2],[d1,d2],_,.cons r1 (.cons r2 .nil)=>
     have U:∀ H',bA H H'→Q (.bl (bW d1 && aA4 d2)) H':=k;refine⟨_,rfl,a,_,0,_,rfl,rfl,aX e,rfl,m,x1,d1,rfl,r1,fun H1 B=>⟨_,rfl,?_⟩⟩;refine dR (fun g=>?_) (fun g=>?_)
     ·refine⟨_,rfl,a,_,1,_,rfl,rfl,aX (B _ _ e),rfl,m,x2,d2,rfl,r2.same B,fun H2 Z=>?_⟩;have q:=U H2 (B.trans Z);rw[g,AY]at q;exact q
     ·have q:=U H1 B;rw[(by simpa using g:bW d1=false)]at q;exact q
   ·rw[decide_eq_false (show¬ V.int (xs.length:Int)=V.int 2 from fun z=>hn (by injection z with z;omega))];refine dC ?_;rw[aDW (by omega)]at k;exact k H (bA.refl H)
theorem aFi:bJ ["rest"] ["rest"] (aO oV):=⟨rfl,rfl,rfl,by decide,rfl,by decide,by decide⟩
theorem aDZ{f:Ae}{fd:AD}(F:Fun K "fits_join" "fits_join" oV f fd)(T:Txt K mg)
  (GN:Cl P w K mg base 1 "is_name" ["thing"] iU)
  (Y:Cl P w K mg base 5 "are_lands" ["thing"] aDV):
  cH P w K mg base CX0 6 f fd ["rest"] (eY uS):=by
 refine F.ok aFi (fun vs H Q E h=>?_) (fun W A outer s H vs Q E M h=>?_)
 ·obtain⟨m,x,d,rfl,_⟩:=h;rfl
 ·obtain⟨m,x,ds,rfl,hx,k⟩:=h;have J:cF 1 _:=M.mono (by decide);refine⟨_,aU (aZ (dP (fY eU (aW bG (by rfl) T.len AM (aH (pv 0) aG)) aI (cA _)) (dP (bC Y M (aH (bV cG (pv 0) aI Ig) aG)) (fF (bC GN J (aH (bV cG (pv 0) aI Ig) aG)))))),?_⟩;cases hx with
  | @tup a xs _ e hl r=>
   have O:=r.len;refine⟨_,rfl,a,xs,rfl,.inr (aX e),rfl,_,rfl,?_⟩;by_cases hn:xs.length=2
   ·rw[Ic (show V.int (xs.length:Int)=V.int 2 by rw[hn];rfl)];refine c4 ?_
    match xs,ds,hn,r with
    | [x1,x2],[d1,d2],_,.cons r1 (.cons r2 .nil)=>
     have U:∀ H',bA H H'→Q (.bl (yD d1 && bW d2)) H':=k;refine⟨_,rfl,a,_,0,_,rfl,rfl,aX e,rfl,m,x1,d1,rfl,r1,fun H1 B=>⟨_,rfl,?_⟩⟩;refine dR (fun g=>?_) (fun g=>?_)
     ·refine⟨_,rfl,a,_,1,_,rfl,rfl,aX (B _ _ e),rfl,m,x2,d2,rfl,r2.same B,fun H2 Z=>?_⟩;have q:=U H2 (B.trans Z);rw[g,AY]at q;exact q
     ·have q:=U H1 B;rw[(by simpa using g:yD d1=false)]at q;exact q
   ·rw[decide_eq_false (show¬ V.int (xs.length:Int)=V.int 2 from fun z=>hn (by injection z with z;omega))];refine dC ?_;rw[aDX (by omega)]at k;exact k H (bA.refl H)
def dM:List Str:=["part","join","forfeit","measure","mend","alone","breach","view"]
def e8(kind:Str)(ds:List Al):Bool:=
 if kind="part" then yG ds else if kind="join" then uS ds else if kind="forfeit" then jQ ds else if kind="measure" then jP ds else if kind="mend" then pN ds else if kind="alone" then pE ds else if kind="breach" then lX ds else uR ds
def aAe:Al→Bool
 | .tuple (.str kind :: name :: day :: cS)=>decide (kind∈dM) && (bW name && (c5 0 9999 day && e8 kind cS))
 | _=>false
inductive uT(vs:List V)(H:Hp)(Q:VK)(u3_:XK):Prop
 | mk (m:Bool) (x:V) (d:Al) (q0:vs=[x]) (q1:RdV m H x d) (q2:∀ H',bA H H'→Q (.bl (aAe d)) H'):uT vs H Q u3_
def aA5:Sp:=fun vs H Q u3_=>uT vs H Q u3_
theorem aAf{ds:List Al}(h:ds.length < 3):aAe (.tuple ds)=false:=by
 match ds,h with
 | [],_=>rfl
 | [d],_=>cases d <;> rfl
 | [d,_],_=>cases d <;> rfl
theorem aCi{d1 B q:Al}{ds:List Al}(h:uP d1=false):aAe (.tuple (d1 :: B :: q :: ds))=false:=by
 cases d1 with
 | str z=>simp[uP]at h
 | _=>rfl
theorem n6:bJ ["thing","kind","name","day","fits"] ["thing"] (aO oY):=⟨rfl,rfl,rfl,by decide,rfl,by decide,by decide⟩
theorem aD0{f ra:Ae}{fd:AD}{Y:List (Key×Ac)}{de:List (Key×V)}(F:Fun K "is_row" "is_row" oY f fd)(T:Txt K mg)
  (W:∀ h:A8,K.In h→h.DictOf (cJ P w) ra Y) (rel:KV de Y) (hz:(ra == sysModules)=false) (mF:mg "FORMS"=some (.ref ra))
  (Z:∀ kind:Str,(f9 de (Am kind)).isSome=decide (kind∈dM))
  (ai:∀(kind:Str) (v:V),f9 de (Am kind)=some v→∃(a:Ae) (fd:AD),v=.ref a∧cH P w K mg base CX0 6 a fd ["rest"] (eY (e8 kind))∧Aj K (.ref a)=true∧eV K fd ["rest"] [])
  (GN:Cl P w K mg base 1 "is_name" ["thing"] iU)
  (GW:Cl P w K mg base 2 "is_whole" ["thing","least","most"] kA):
  cH P w K mg base CX0 7 f fd ["thing"] aA5:=by
 refine F.ok n6 (fun vs H Q E h=>?_) (fun aA A outer s H vs Q E hr h=>?_)
 ·obtain⟨m,x,d,rfl,_⟩:=h;rfl
 ·obtain⟨m,x,d,rfl,hx,k⟩:=h;have ah:cF 1 _:=hr.mono (by decide);have ae:cF 2 _:=hr.mono (by decide);obtain⟨tl,hlast⟩:=T.lastDay;refine⟨_,aQ (cX (PW.pt (fO (d8 (eQ (aW dH (by rfl) T.isi (by kernel_rfl) (aH (pv 0) (aH (fV (v:=.ty "tuple") (by rfl) T.tuple (by kernel_rfl) rfl) aG)))))
    (fJ (bS aCA (aW bG (by rfl) T.len AM (aH (pv 0) aG)) aI (cA _))))) (aU (aZ gX)) b8)
   (aQ (jT (c7 lJ (pv 0) dZ (dD aI)) (iP rfl (bZ (bB (i:=1) n6.nd rfl (AG rfl)) (bZ (bB (i:=2) n6.nd rfl (AG rfl)) (bZ (bB (i:=3) n6.nd rfl (AG rfl)) fW)))))
   (aQ (cX (PW.pt (fO (d8 (eQ (aW dH (by rfl) T.isi (by kernel_rfl) (aH (pv 1) (aH (fV (v:=.ty "str") (by rfl) T.str (by kernel_rfl) rfl) aG)))))
    (fJ (bS (aBR W rel hz) (pv 1) (dL (v:=.ref ra) (by rfl) mF rfl) (by with_unfolding_all rfl))))) (aU (aZ gX)) b8)
   (aQ (cX (PW.pt (fO (d8 (eQ (bC GN ah (aH (pv 2) aG)))) (fJ (d8 (eQ (bC GW ae (aH (pv 3) (aH aI (aH (dL (v:=.int 9999) (by rfl) hlast ⟨_,rfl⟩) aG))))))))) (aU (aZ gX)) b8)
   (aQ (bQ (i:=4) n6.nd rfl (AG rfl) (vS W rel (by rfl) mF (pv 1) Ig))
   (aU (aZ (aDg (k:=6) (ps:=["rest"]) (pv 4) hr (aH (c7 lJ (pv 0) (dD aI) dZ) aG)))))))),?_⟩
  refine⟨_,rfl,_,"tuple",_,_,rfl,nZ hx,nY d,_,rfl,?_⟩;cases hd:gZ d with
  | false=>
   have e:aAe d=false:=by
    cases d with
    | tuple ds=>simp[gZ]at hd
    | _=>rfl
   rw[e]at k;exact k H (bA.refl H)
  | true=>
   obtain⟨ds,rfl⟩:∃ ds,d=.tuple ds:=by
    cases d with
    | tuple z=>exact⟨z,rfl⟩
    | _=>simp[gZ]at hd
   cases hx with
   | @tup a xs _ e hl r=>
    have ap:=r.len;refine dC ?_;refine⟨_,rfl,a,xs,rfl,.inr (aX e),_,_,rfl,rfl,_,rfl,?_⟩;by_cases hn:(xs.length:Int) < 3
    ·rw[Ic hn];refine c4 ?_;rw[aAf (by omega)]at k;exact k H (bA.refl H)
    ·rw[decide_eq_false hn];refine dC ?_;obtain⟨x1,M,O,B,rfl⟩:∃ x1 M O B,xs=x1 :: M :: O :: B:=by
      match xs,hn with
      | [],z=>exact absurd (by decide) z
      | [_],z=>exact absurd (show(1:Int) < 3 by decide) z
      | [_,_],z=>exact absurd (show(2:Int) < 3 by decide) z
      | a :: b :: c :: r,_=>exact⟨a,b,c,r,rfl⟩
     cases r with
     | @cons _ d1 _ _ r1 r=>
     cases r with
     | @cons _ d2 _ _ r2 r=>
     cases r with
     | @cons _ d3 _ ds aj rr=>
     refine⟨_,rfl,_,rfl,a,_,rfl,e,fun t H1 s1 ht=>?_⟩;have ec:fG (x1 :: M :: O :: B) none (some 3)=[x1,M,O]:=lA (α:=Nat) (x1 :: M :: O :: B) 3;rw[ec]at ht;refine⟨t,_,rfl,aX ht,rfl,_,_,rfl,_,_,rfl,_,_,rfl,rfl,_,rfl,_,"str",_,_,rfl,nZ (r1.same s1),aA3 d1,_,rfl,?_⟩;cases hk:uP d1 with
     | false=>
      rw[aCi hk]at k;exact k H1 s1
     | true=>
      obtain⟨kind,rfl⟩:∃ z,d1=.str z:=by
       cases d1 with
       | str z=>exact⟨z,rfl⟩
       | _=>simp[uP]at hk
      cases r1;refine dC ?_;refine⟨_,rfl,Am kind,rfl,rfl,_,rfl,?_⟩;rw[Z kind];have k':∀ H',bA H H'→Q (.bl (decide (kind∈dM) && (bW d2 && (c5 0 9999 d3 && e8 kind ds)))) H':=k;by_cases hw:kind∈dM
      ·rw[Ic hw];refine dC ?_;rw[Ic hw,AY]at k';refine⟨_,rfl,m,M,d2,rfl,r2.same s1,fun H2 s2=>⟨_,rfl,?_⟩⟩;have J:=s1.trans s2;cases g:bW d2 with
       | false=>
        refine c4 ?_;have q:=k' H2 J;rw[g]at q;exact q
       | true=>
        refine dC ?_;refine⟨_,rfl,m,O,d3,0,9999,rfl,aj.same J,_,rfl,?_⟩;cases g2:c5 0 9999 d3 with
        | false=>
         refine c4 ?_;have q:=k' H2 J;rw[g,g2]at q;exact q
        | true=>
         refine dC ?_;have hs:=Z kind;rw[Ic hw]at hs;obtain⟨v,hv⟩:=Option.isSome_iff_exists.mp hs;obtain⟨fa,fda,rfl,FG,fk,fb⟩:=ai kind v hv;refine⟨_,rfl,Am kind,_,rfl,hv,_,rfl,fa,eY (e8 kind),rfl,⟨fda,FG,fk,fb⟩,_,rfl,_,rfl,a,_,rfl,J _ _ e,fun t2 H3 s3 U=>?_⟩;have ed:fG (V.str kind :: M :: O :: B) (some 3) none=B:=rE (α:=Nat) (V.str kind :: M :: O :: B) 3;rw[ed]at U;refine⟨m,_,ds,rfl,.tup U (by simp only[A0]at hl;omega) ((rr.same J).same s3),fun H4 s4=>?_⟩;have q:=k' H4 ((J.trans s3).trans s4);rw[g,g2,AY,AY]at q;exact q
      ·rw[decide_eq_false hw];refine c4 ?_;have q:=k' H1 s1;rw[decide_eq_false hw]at q;exact q
inductive pO(vs:List V)(H:Hp)(Q:VK)(u3_:XK):Prop
 | mk (t:Ae) (word:Str) (x1 x2 x3:V) (cS:List V) (q0:vs=[.ref t]) (q1:H t=some (.tup (.str word :: x1 :: x2 :: x3 :: cS))) (q2:∀ H',bA H H'→Q (if inV (.str word) [V.str "measure",.str "breach",.str "view"]=true then x3 else .non) H'):pO vs H Q u3_
def uU:Sp:=fun vs H Q u3_=>pO vs H Q u3_
theorem aCj:bJ ["row"] ["row"] (aO jN):=⟨rfl,rfl,rfl,by decide,rfl,by decide,by decide⟩
theorem aAg{f:Ae}{fd:AD}(F:Fun K "field_of" "field_of" jN f fd):cH P w K mg base CX0 1 f fd ["row"] uU:=by
 refine F.ok aCj (fun vs H Q E h=>?_) (fun O A outer s H vs Q E W h=>?_)
 ·obtain⟨t,word,x1,x2,x3,cS,rfl,_⟩:=h;rfl
 ·obtain⟨t,word,x1,x2,x3,cS,rfl,ht,k⟩:=h;refine⟨_,aQ (cX (bS i8 (bV cG (pv 0) aI Ig) (dF (aH bE (aH bE (aH bE aG)))) (by with_unfolding_all rfl)) (aU (aZ (bV cG (pv 0) aI Ig))) b8)
   (aU (aZ i4)),?_⟩
  have U:(V.str word :: x1 :: x2 :: x3 :: cS).length=cS.length + 4:=rfl;have M:atI (V.str word :: x1 :: x2 :: x3 :: cS) 0=some (.str word):=c3 (j:=0) rfl;have a3:atI (V.str word :: x1 :: x2 :: x3 :: cS) 3=some x3:=c3 (j:=3) rfl;refine⟨_,rfl,t,_,0,_,rfl,rfl,aX ht,M,zZ3,fun q J=>?_⟩;have B:=aS (o:=.tup [V.str "measure",.str "breach",.str "view"]) J;refine⟨q,_,rfl,.inr (aX aJ),rfl,rfl,_,rfl,?_⟩;have z:=k _ B;rw[Ia Aw];refine dR (fun g=>?_) (fun g=>?_)
  ·rw[Ib g]at z;exact⟨_,rfl,t,_,3,_,rfl,rfl,aX (B _ _ ht),a3,z⟩
  ·rw[Ia g]at z;exact z
theorem wA{H:Hp}{p c a:Ae}{ns:List Int}{t:Int}{o:HO}(z:cU H p c ns t)(e:H a=some o)(h:∀ q r,o≠.dK (q :: r)):a≠p:=by
 obtain⟨l,_,e2⟩:=z.ob;exact aCt e e2 (h _ _)
theorem aD1{m:Bool}{H H':Hp}{p c:Ae}{ns:List Int}{t:Int}{x:V}{d:Al}(r:RdV m H x d)(q:cU H p c ns t)(k:aY p H H'):RdV m H' x d:=r.keep fun a o e h=>k a o e (wA q e h)
theorem wB{m:Bool}{H H':Hp}{p c:Ae}{ns:List Int}{t:Int}{x:List V}{d:List Al}(r:cM m H x d)(q:cU H p c ns t)(k:aY p H H'):cM m H' x d:=r.keep fun a o e h=>k a o e (wA q e h)
theorem bY{H H':Hp}{p c a:Ae}{ns:List Int}{t:Int}{xs:List V}(e:H a=some (.lst xs))(q:cU H p c ns t)(k:aY p H H'):H' a=some (.lst xs):=k a _ e (wA q e (fun _ _ z=>nomatch z))
theorem wC{H H':Hp}{p c a:Ae}{ns:List Int}{t:Int}{xs:List V}(e:H a=some (.tup xs))(q:cU H p c ns t)(k:aY p H H'):H' a=some (.tup xs):=k a _ e (wA q e (fun _ _ z=>nomatch z))
inductive aA6(vs:List V)(H:Hp)(Q:VK)(u3_:XK):Prop
 | mk (p c:Ae) (ns:List Int) (a lo hi:Int) (q0:vs=[.ref p,.int lo,.int hi]) (q1:cU H p c ns a) (q2:a≤900000) (q3:0≤lo) (q4:lo≤hi) (q5:hi≤10 ^ 9) (q6:∀ n a' H',lo≤n→n≤hi→a≤a'→a'≤a + 3→cU H' p c ns a'→aY p H H'→Q (.int n) H'):aA6 vs H Q u3_
def aD2:Sp:=fun vs H Q u3_=>aA6 vs H Q u3_
theorem aD3:bJ ["_law_pen_here","_law_bottom","_law_most","_law_way","_law_near"] ["_law_pen_here","_law_bottom","_law_most"] (aO lW):=⟨rfl,rfl,rfl,by decide,rfl,by decide,by decide⟩
theorem aG2{f:Ae}{fd:AD}(F:Fun K "_law_number" "_law_number" lW f fd)(z:mg "min"=none)(Z:Cl P w K mg base 1 "_law_take" ["_law_pen_here","_law_many"] i7):
  cH P w K mg base CX0 2 f fd ["_law_pen_here","_law_bottom","_law_most"] aD2:=by
 refine F.ok aD3 (fun vs H Q E h=>?_) (fun ak A outer s H vs Q E Y h=>?_)
 ·obtain⟨p,c,ns,a,lo,hi,rfl,_⟩:=h;rfl
 ·obtain⟨p,c,ns,a,lo,hi,rfl,hp,ha,h0,h1,h2,k⟩:=h;refine⟨_,aQ (bQ (i:=3) aD3.nd rfl (AG rfl) (bC Z Y (aH (pv 0) (aH aI aG))))
   (aQ (bQ (i:=4) aD3.nd rfl (AG rfl) (bO dQ (pv 1) (bC Z Y (aH (pv 0) (aH (aW (t6 rfl) (by rfl) z (by kernel_rfl) (aH aI (aH (bO dQ (bO oJ (pv 2) (pv 1)) aI) aG))) aG)))))
   (aU (aZ (bV cV (d9 (aH (pv 1) (aH (pv 2) (aH (pv 4) (aH (bO dQ (pv 1) (bC Z Y (aH (pv 0) (aH (bO dQ (bO oJ (pv 2) (pv 1)) aI) aG)))) aG))))) (pv 3) Ig)))),?_⟩
  have b9:(10:Int) ^ 9 + 1 < 2 ^ 512:=by decide
  have e9:(10:Int) ^ 9=1000000000:=by decide
  refine⟨_,rfl,p,c,ns,a,_,rfl,hp,by omega,by decide,by decide,fun r1 a1 H1 U am l1 u1 M J=>?_⟩;refine⟨_,rfl,_,rfl,_,rfl,_,rfl,_,_,rfl,rfl,_,_,rfl,rfl,_,_,rfl,?_⟩;obtain⟨B,hmm,m0,m1⟩:∃ B:Int,(if hi - lo + 1 < 12 then hi - lo + 1 else 12)=B∧0 < B∧B≤hi - lo + 1:=by
   refine⟨_,rfl,?_⟩;split <;> omega
  rw[hmm];refine⟨p,c,ns,a1,_,rfl,M,by omega,m0,by omega,fun r2 a2 H2 ai an l2 u2 W aa=>?_⟩;refine⟨_,_,rfl,rfl,_,rfl,_,rfl,_,rfl,_,rfl,_,rfl,_,rfl,_,rfl,_,_,rfl,rfl,_,_,rfl,rfl,p,c,ns,a2,_,rfl,W,by omega,by omega,by omega,fun r3 a3 H3 aj ag l3 u3 O ac=>?_⟩;refine⟨_,_,rfl,rfl,zZ4,fun q hq=>?_⟩;have sq:=aS (o:=.lst [V.int lo,.int hi,.int (lo + r2),.int (lo + r3)]) hq;obtain⟨v,hv,hat⟩:=gH (xs:=[V.int lo,.int hi,.int (lo + r2),.int (lo + r3)]) (i:=r1) U (by show r1 < 4;omega);obtain⟨n,rfl,hn0,hn1⟩:∃ n:Int,v=.int n∧lo≤n∧n≤hi:=by
   simp only[Aq,AB,or_false]at hv;rcases hv with rfl | rfl | rfl | rfl
   ·exact⟨_,rfl,by omega,by omega⟩
   ·exact⟨_,rfl,by omega,by omega⟩
   ·exact⟨_,rfl,by omega,by omega⟩
   ·exact⟨_,rfl,by omega,by omega⟩
  exact⟨_,rfl,q,_,r1,_,rfl,rfl,aV aJ,hat,k n a3 _ hn0 hn1 (by omega) (by omega) (O.same sq) (((J.trans aa).trans ac).same sq)⟩
open PySem L2 PyProof.Rows
theorem sX{α:Type}:∀(l:List α) (j:Nat) (y:α),l[j]?=some y→(y :: l.eraseIdx j).Perm l
 | [],j,y,h=>by simp at h
 | x :: r,0,y,h=>by
  simp at h;subst h;simp
 | x :: r,j + 1,y,h=>by
  simp at h;have q:=sX r j y h;rw[List.eraseIdx_cons_succ];exact(List.Perm.swap x y _).trans (q.cons x)
theorem uV{α β:Type}(f:α→β):∀(l:List α) (j:Nat),(l.map f).eraseIdx j=(l.eraseIdx j).map f
 | [],j=>by simp
 | x :: r,0=>by simp
 | x :: r,j + 1=>by simp[uV f r j]
inductive uW(vs:List V)(H:Hp)(Q:VK)(u3_:XK):Prop
 | mk (p c:Ae) (ns:List Int) (a:Int) (nf nr:Nat) (q0:vs=[.ref p,.int nf,.int nr]) (q1:cU H p c ns a) (q2:a≤800000) (q3:nf≤44) (q4:nr≤44) (q5:∀(t l1 l2 l3 l4:Ae) (ws ps hs rs:List Str) (a':Int) (H':Hp),H' t=some (.tup [.ref l1,.ref l2,.ref l3,.ref l4])→H' l1=some (.lst (ws.map V.str))→ws.length=nf→Nms ws→H' l2=some (.lst (ps.map V.str))→ps.length=10→Nms ps→H' l3=some (.lst (hs.map V.str))→hs.length=5→Nms hs→H' l4=some (.lst (rs.map V.str))→rs.length=nr→Nms rs→a≤a'→a'≤a + 200→cU H' p c ns a'→aY p H H'→Q (.ref t) H'):uW vs H Q u3_
def aA7:Sp:=fun vs H Q u3_=>uW vs H Q u3_
inductive yH(vs:List V)(H:Hp)(Q:VK)(u3_:XK):Prop
 | mk (p c:Ae) (ns:List Int) (a:Int) (m:Nat) (q0:vs=[.ref p,.int m]) (q1:cU H p c ns a) (q2:a≤800000) (q3:m≤44) (q4:∀(l:Ae) (ds:List Int) (a':Int) (H':Hp),H' l=some (.lst (ds.map V.int))→ds.length=m→(∀ d∈ds,0≤d∧d≤9999)→a≤a'→a'≤a + 200→cU H' p c ns a'→aY p H H'→Q (.ref l) H'):yH vs H Q u3_
def aD4:Sp:=fun vs H Q u3_=>yH vs H Q u3_
inductive yI(vs:List V)(H:Hp)(Q:VK)(u3_:XK):Prop
 | mk (p c:Ae) (ns:List Int) (a:Int) (l:Ae) (ws:List Str) (m:Nat) (q0:vs=[.ref p,.ref l,.int m]) (q1:cU H p c ns a) (q2:a≤800000) (q3:H l=some (.lst (ws.map V.str))) (q4:ws.length=10) (q5:m≤6) (q6:∀(q:Ae) (ms:List Str) (a':Int) (H':Hp),H' q=some (.lst (ms.map V.str))→ms.length=m→sortedS ms=true→(∃ us vs:List Str,ms.Perm us∧(us ++ vs).Perm ws)→a≤a'→a'≤a + 10→cU H' p c ns a'→aY p H H'→Q (.ref q) H'):yI vs H Q u3_
def aD5:Sp:=fun vs H Q u3_=>yI vs H Q u3_
theorem qA:bJ ["_law_pen_here","_law_fields","_law_rows","_law_some_here","_law_plots","_law_houses"] ["_law_pen_here","_law_fields","_law_rows"] (aO pA):=⟨rfl,rfl,rfl,by decide,rfl,by decide,by decide⟩
theorem aD6{f:Ae}{fd:AD}(F:Fun K "_law_sorts" "_law_sorts" pA f fd)
  (GT:Cl P w K mg base 1 "_law_take" ["_law_pen_here","_law_many"] i7)
  (GN:Cl P w K mg base 2 "_law_names" ["_law_pen_here","_law_many"] aA2):
  cH P w K mg base CX0 3 f fd ["_law_pen_here","_law_fields","_law_rows"] aA7:=by
 refine F.ok qA (fun vs H Q E h=>?_) (fun bp A outer s H vs Q E hr h=>?_)
 ·obtain⟨p,c,ns,a,nf,nr,rfl,_⟩:=h;rfl
 ·obtain⟨p,c,ns,a,nf,nr,rfl,hp,ha,hf,hrr,k⟩:=h;have aE:cF 1 _:=hr.mono (by decide);refine⟨_,aQ (cX (bS eU (bC GT aE (aH (pv 0) (aH aI aG))) aI (cA _))
    (aQ (bQ (i:=3) qA.nd rfl (AG rfl) (bC GN hr (aH (pv 0) (aH aI aG))))
    (aU (aZ (dF (aH (c7 f7 (pv 3) dZ (dD (pv 1))) (aH (c7 f7 (pv 3) dZ (dD aI)) (aH (c7 f7 (pv 3) dZ (dD aI)) (aH (c7 f7 (pv 3) dZ (dD (pv 2))) aG)))))))) b8)
   (aQ (bQ (i:=4) qA.nd rfl (AG rfl) (bC GN hr (aH (pv 0) (aH aI aG))))
   (aQ (bQ (i:=5) qA.nd rfl (AG rfl) (bC GN hr (aH (pv 0) (aH aI aG))))
   (aU (aZ (dF (aH (bC GN hr (aH (pv 0) (aH (pv 1) aG))) (aH (pv 4) (aH (pv 5) (aH (bC GN hr (aH (pv 0) (aH (pv 2) aG))) aG))))))))),?_⟩
  refine⟨_,rfl,p,c,ns,a,_,rfl,hp,by omega,by decide,by decide,fun r1 a1 H1 bm bo l1 u1 ai ab=>?_⟩;refine⟨rfl,_,rfl,?_⟩;have z4:(4:Nat)≤sizeLine:=aM (by decide);refine dR (fun g=>?_) (fun g=>?_)
  ·refine⟨_,rfl,p,c,ns,a1,44,rfl,ai,by omega,by omega,fun L z a2 H2 nL hL bu hN l2 u2 B Y=>?_⟩;have ec:∀ n:Nat,fG (z.map V.str) none (some (n:Int))=(z.take n).map V.str:=fun n=>by rw[lA (α:=Nat),List.map_take]
   have aj:fG (z.map V.str) none (some 10)=(z.take 10).map V.str:=ec 10;have ax:fG (z.map V.str) none (some 5)=(z.take 5).map V.str:=ec 5;refine⟨_,rfl,_,rfl,_,rfl,L,_,rfl,aV hL,fun q1 aN=>?_⟩;rw[ec nf];have s1:=aS (o:=.lst ((z.take nf).map V.str)) aN;refine⟨_,rfl,_,rfl,L,_,rfl,aV (s1 _ _ hL),fun q2 ar=>?_⟩;rw[aj];have ah:=aS (o:=.lst ((z.take 10).map V.str)) ar;have s2:=s1.trans ah;refine⟨_,rfl,_,rfl,L,_,rfl,aV (s2 _ _ hL),fun q3 aq=>?_⟩;rw[ax];have U:=aS (o:=.lst ((z.take 5).map V.str)) aq;have s3:=s2.trans U;refine⟨_,rfl,_,rfl,_,rfl,L,_,rfl,aV (s3 _ _ hL),fun q4 ao=>?_⟩;rw[ec nr];have O:=aS (o:=.lst ((z.take nr).map V.str)) ao;have s4:=s3.trans O;refine⟨z4,fun t ht=>?_⟩;have q:=aS (o:=.tup [V.ref q1,.ref q2,.ref q3,.ref q4]) ht;have s5:=s4.trans q;refine k t q1 q2 q3 q4 (z.take nf) (z.take 10) (z.take 5) (z.take nr) a2 _ aJ (q _ _ (O _ _ (U _ _ (ah _ _ aJ)))) (by rw[AC];omega) (hN.take nf) (q _ _ (O _ _ (U _ _ aJ))) (by rw[AC];omega) (hN.take 10) (q _ _ (O _ _ aJ)) (by rw[AC];omega) (hN.take 5) (q _ _ aJ) (by rw[AC];omega) (hN.take nr) (by omega) (by omega) (B.same s5) ((ab.trans Y).same s5)
  ·refine⟨_,rfl,p,c,ns,a1,10,rfl,ai,by omega,by omega,fun L1 aw a2 H2 br aK ac az l2 u2 B Y=>?_⟩;refine⟨_,rfl,p,c,ns,a2,5,rfl,B,by omega,by omega,fun L2 aL a3 H3 bq au ae aA l3 u3 W ak=>?_⟩;refine⟨_,rfl,_,rfl,p,c,ns,a3,nf,rfl,W,by omega,by omega,fun L3 aC a4 H4 bj aF af aD l4 u4 J Z=>?_⟩;refine⟨_,rfl,_,rfl,_,rfl,_,rfl,p,c,ns,a4,nr,rfl,J,by omega,by omega,fun L4 ay a5 H5 bv av ag ap l5 u5 aB M=>?_⟩;refine⟨z4,fun t ht=>?_⟩;have q:=aS (o:=.tup [V.ref L3,.ref L1,.ref L2,.ref L4]) ht;exact k t L3 L1 L2 L4 aC aw aL ay a5 _ aJ (q _ _ (bY aF J M)) af aD (q _ _ (bY (bY (bY aK B ak) W Z) J M)) ac az (q _ _ (bY (bY au W Z) J M)) ae aA (q _ _ av) ag ap (by omega) (by omega) (aB.same q) (((((ab.trans Y).trans ak).trans Z).trans M).same q)
theorem aAh:bJ ["_law_pen_here","_law_names_here","_law_many","_law_left","_law_found"] ["_law_pen_here","_law_names_here","_law_many"] (aO sP):=⟨rfl,rfl,rfl,by decide,rfl,by decide,by decide⟩
theorem aFj{f:Ae}{fd:AD}(F:Fun K "_law_some" "_law_some" sP f fd)(Y:mg "list"=none)(ac:mg "range"=none)(ad:mg "sorted"=none)(ab:mg "len"=none)
  (GT:Cl P w K mg base 1 "_law_take" ["_law_pen_here","_law_many"] i7):
  cH P w K mg base CX0 2 f fd ["_law_pen_here","_law_names_here","_law_many"] aD5:=by
 refine F.ok aAh (fun vs H Q E h=>?_) (fun aD A outer s H vs Q E hr h=>?_)
 ·obtain⟨p,c,ns,a,l,ws,m,rfl,_⟩:=h;rfl
 ·obtain⟨p,c,ns,a,l,ws,m,rfl,hp,ha,hl,hwl,hm,k⟩:=h;refine⟨_,aQ (bQ (i:=3) aAh.nd rfl (Dj rfl) (cC dO (by rfl) Y (by kernel_rfl) (aH (pv 1) aG)))
   (aQ (fM (i:=4) (N:=["_law_k","_law_left","_law_pen_here"]) (src:=[none,some 3,some 0]) (osc:=aO sP) (oN:=["_law_pen_here","_law_names_here","_law_many","_law_left","_law_found"]) ⟨by rfl,by decide,by decide,by decide,rfl,by rfl⟩ aAh.nd rfl
     (fQ rfl ac (aH (pv 2) aG))
     fun cl s H fp bd C=>⟨bB (i:=0) (show(["_law_k","_law_left","_law_pen_here"]:List Str).Nodup by decide) rfl (AG rfl),c8,aDh (K:=K) Bj PySem.F.slot_list_pop PySem.F.type_list_pop aCT (pv 1) (aH (bC GT hr (aH (pv 2) (aH (aW (r:=iR K) bG (by rfl) ab AM (aH (pv 1) aG)) aG))) aG)⟩)
   (aU (aZ (aW vT (by rfl) ad (by kernel_rfl) (aH (pv 4) aG))))),?_⟩
  refine⟨_,rfl,l,_,rfl,.inl (aV hl),fun L hL=>?_⟩;have s0:=aS (o:=.lst (ws.map V.str)) hL;have ah:L≠p:=by
   obtain⟨z,_,e⟩:=hp.ob;exact(bF e hL).symm
  have ap:L≠c:=(bF hp.ce hL).symm;refine⟨_,rfl,m,rfl,by omega,by omega,?_⟩;refine iS (fun i ys σ' H'=>Ex3 fun(a':Int) (B vs:List Str)=>∃(o:Option V),Aw6 (σ'=[o,some (.ref L),some (.ref p)]) (cU H' p c ns a') (aY p H H') (a≤a') (a'≤a + i) (Aw3 (ys=B.map V.str) (B.length=i) (Aw3 (H' L=some (.lst (vs.map V.str))) (vs.length + i=10) ((B ++ vs).Perm ws))))
   ⟨a,[],ws,none,rfl,hp.same s0,bA.but s0,by omega,by omega,rfl,rfl,aJ,by omega,DI _⟩ (aM (by omega)) (fun i ys σ H p=>by obtain⟨_,B,_,_,_,_,_,_,_,rfl,e,_⟩:=p;rw[Ab,e];exact Ak _) ?_ ?_
  ·rintro i ys σ' H1 hi ⟨a1,B,vs,o,rfl,J,O,ai,an,rfl,U,M,af,W⟩;dsimp only[cI];refine c4 ?_;refine⟨_,rfl,.inl ⟨rfl,_,aV M⟩,_,rfl,_,rfl,L,_,rfl,.inl (aV M),p,c,ns,a1,_,rfl,J,by omega,by rw[Ab];omega,by rw[Ab];omega,fun r1 a2 H2 aC aq aB az aj aa=>?_⟩;rw[Ab]at aq;obtain⟨j,rfl⟩:∃ j:Nat,r1=j:=⟨r1.toNat,by omega⟩
   have ar:=bY M J aa;obtain⟨y,hy⟩:∃ y,vs[j]?=some y:=⟨_,Ai (by omega)⟩
   have ak:seqIndex? (j:Int) (vs.map V.str).length=some j:=by
    rw[Ab];unfold seqIndex?;simp;omega
   refine⟨L,_,_,j,V.str y,rfl,rfl,ar,by omega,by omega,ak,by rw[AI,hy];rfl,?_⟩;refine⟨a2,B ++ [y],vs.eraseIdx j,_,rfl,?_,?_,by omega,by omega,by rw[Au];rfl,by rw[An,U];rfl,?_,?_,?_⟩
   ·obtain⟨⟨z,hz,e⟩,ce,ge,sm⟩:=aj;exact⟨⟨z,hz,by rw[bU ah.symm];exact e⟩,by rw[bU ap.symm];exact ce,ge,sm⟩
   ·intro b o e ne;rw[bU (bF e hL)];exact(O.trans aa) b o e ne
   ·rw[aJ];congr 2;exact uV V.str vs j
   ·rw[Do (by omega)];omega
   ·rw[BU];exact(List.Perm.append_left B (sX vs j y hy)).trans W
  ·rintro ys σ' H1 ⟨a1,B,vs,o,rfl,J,O,ai,an,rfl,U,M,af,W⟩ D hD;have sD:=aS (o:=.lst (B.map V.str)) hD;refine⟨_,rfl,D,B,rfl,aV aJ,by omega,fun q ms hq Z ag=>?_⟩;have s2:=aS (o:=.lst (ms.map V.str)) hq;exact k q ms a1 _ aJ (by rw[Z.length_eq,U];omega) ag ⟨B,vs,Z,W⟩ (by omega) (by omega) ((J.same sD).same s2) ((O.same sD).same s2)
theorem pF:bJ ["_law_pen_here","_law_many","_law_way","_law_some_here","_law_k","_law_few","_law_found"] ["_law_pen_here","_law_many"] (aO sK):=⟨rfl,rfl,rfl,by decide,rfl,by decide,by decide⟩
theorem aFk{f:Ae}{fd:AD}(F:Fun K "_law_days" "_law_days" sK f fd)(W:mg "range"=none)(az:mg "len"=none)(ax:mg "int"=none)
  (GT:Cl P w K mg base 1 "_law_take" ["_law_pen_here","_law_many"] i7):
  cH P w K mg base CX0 2 f fd ["_law_pen_here","_law_many"] aD4:=by
 refine F.ok pF (fun vs H Q E h=>?_) (fun cf A outer s H vs Q E hr h=>?_)
 ·obtain⟨p,c,ns,a,m,rfl,_⟩:=h;rfl
 ·obtain⟨p,c,ns,a,m,rfl,hp,ha,hm,k⟩:=h;refine⟨_,aQ (bQ (i:=2) pF.nd rfl (AG rfl) (bC GT hr (aH (pv 0) (aH aI aG))))
   (aQ (bQ (i:=3) pF.nd rfl (Dj rfl) (d9 (aH aI (aH aI (aH aI (aH aI (aH (bC GT hr (aH (pv 0) (aH aI aG))) (aH (bC GT hr (aH (pv 0) (aH aI aG))) aG))))))))
   (aQ (fM (i:=5) (N:=["_law_k","_law_some_here","_law_pen_here"]) (src:=[none,some 3,some 0]) (osc:=aO sK) (oN:=["_law_pen_here","_law_many","_law_way","_law_some_here","_law_k","_law_few","_law_found"]) ⟨by rfl,by decide,by decide,by decide,rfl,by rfl⟩ pF.nd rfl
     (fQ rfl W (aH (bO dQ aI (bC GT hr (aH (pv 0) (aH aI aG)))) aG))
     fun cl s H fp bd C=>⟨bB (i:=0) (show(["_law_k","_law_some_here","_law_pen_here"]:List Str).Nodup by decide) rfl (AG rfl),c8,bV (r:=aCL K) cV (pv 1) (bC GT hr (aH (pv 2) (aH aI aG))) Ig⟩)
   (aQ (bQ (i:=6) pF.nd rfl (AG rfl) (d9 aG))
   (aQ (kX BN rfl (fQ rfl W (aH (pv 1) aG)) (bB (i:=4) pF.nd rfl (AG rfl))
    (aU (hZ (f8 Bj BL BK iH (pv 6) (aH (bV cV (d9 (aH (bV cV (pv 5) (bC GT hr (aH (pv 0) (aH (aW bG (by rfl) az AM (aH (pv 5) aG)) aG))) Ig) (aH (bC GT hr (aH (pv 0) (aH aI aG))) aG)))
      (cC aBC (by rfl) ax (by kernel_rfl) (aH (fY eU (pv 2) aI (cA _)) aG)) Ig) aG)))))
   (aU (aZ (pv 6))))))),?_⟩
  refine⟨_,rfl,p,c,ns,a,_,rfl,hp,by omega,by decide,by decide,fun wy a1 H1 w0 w1 cz b4 bh a0=>?_⟩;refine⟨_,rfl,p,c,ns,a1,_,rfl,bh,by omega,by decide,by decide,fun x1 a2 H2 cu cq cs ca aF bt=>?_⟩;refine⟨_,rfl,p,c,ns,a2,_,rfl,aF,by omega,by decide,by decide,fun x2 a3 H3 b6 cw cK cx bi bx=>?_⟩;refine⟨zZ6,fun L hL=>?_⟩;have sL:=aS (o:=.lst [V.int 0,.int 1,.int 9,.int 9999,.int x1,.int x2]) hL;have aN:∀ v∈[V.int 0,.int 1,.int 9,.int 9999,.int x1,.int x2],∃ d:Int,v=.int d∧0≤d∧d≤9999:=by
   intro v M;simp only[Aq,AB,or_false]at M;rcases M with rfl | rfl | rfl | rfl | rfl | rfl
   ·exact⟨_,rfl,by omega,by omega⟩
   ·exact⟨_,rfl,by omega,by omega⟩
   ·exact⟨_,rfl,by omega,by omega⟩
   ·exact⟨_,rfl,by omega,by omega⟩
   ·exact⟨_,rfl,by omega,by omega⟩
   ·exact⟨_,rfl,by omega,by omega⟩
  have ag:=bi.same sL;have k4:aY p H _:=((a0.trans bt).trans bx).same sL;have an:upd H3 L (.lst [V.int 0,.int 1,.int 9,.int 9999,.int x1,.int x2]) L=_:=aJ;generalize upd H3 L (.lst [V.int 0,.int 1,.int 9,.int 9999,.int x1,.int x2])=H4 at ag k4 an ⊢;refine⟨_,rfl,p,c,ns,a3,_,rfl,ag,by omega,by decide,by decide,fun r1 a5 H5 b3 b7 cy b9 bf au=>?_⟩;refine⟨_,_,rfl,rfl,_,rfl,by omega,by omega,?_⟩;have aT:=bY an ag au;refine iS (fun i ys σ' H'=>Ex3 fun(a':Int) (ds:List Int) (o:Option V)=>Aw6 (σ'=[o,some (.ref L),some (.ref p)]) (cU H' p c ns a') (aY p H H') (a5≤a') (a'≤a5 + i) (Aw3 (ys=ds.map V.int) (ds.length=i) ((∀ d∈ds,0≤d∧d≤9999)∧H' L=some (.lst [V.int 0,.int 1,.int 9,.int 9999,.int x1,.int x2]))))
   ⟨a5,[],none,rfl,bf,k4.trans au,by omega,by omega,rfl,rfl,(fun d hd=>by simp at hd),aT⟩ (aM (by omega)) (fun i ys σ H p=>by obtain⟨_,ds,_,_,_,_,_,_,rfl,e,_⟩:=p;rw[Ab,e];exact Ak _) ?_ ?_
  ·rintro i ys σ' H6 hi ⟨a6,ds,o,rfl,O,k6,br,bm,rfl,aq,ai,av⟩;dsimp only[cI];refine c4 ?_;refine⟨_,rfl,_,rfl,p,c,ns,a6,_,rfl,O,by omega,by decide,by decide,fun r2 a7 H7 bp cL cv ci B ay=>?_⟩;have aA:=bY av O ay;obtain⟨v,M,hat⟩:=gH (xs:=[V.int 0,.int 1,.int 9,.int 9999,.int x1,.int x2]) (i:=r2) bp (by show r2 < 6;omega);obtain⟨d,rfl,hd0,hd1⟩:=aN v M;refine⟨L,_,r2,_,rfl,rfl,aV aA,hat,a7,ds ++ [d],_,rfl,B,k6.trans ay,by omega,by omega,by rw[Au];rfl,by rw[An,aq];rfl,fun z hz=>?_,aA⟩;rcases A4.mp hz with y | y
   ·exact ai z y
   ·rw[Br.mp y];exact⟨hd0,hd1⟩
  ·rintro ys σ' H6 ⟨a6,ds,o,rfl,O,k6,br,bm,rfl,aq,ai,av⟩ D hD;have sD:=aS (o:=.lst (ds.map V.int)) hD;have B:=O.same sD;have k7:=k6.same sD;have Z:upd H6 D (.lst (ds.map V.int)) D=_:=aJ;generalize upd H6 D (.lst (ds.map V.int))=H7 at B k7 Z ⊢;refine⟨Bc _,fun R hR=>?_⟩;have sR:=aS (o:=.lst []) hR;have ap:R≠p:=by
    obtain⟨z,_,e⟩:=B.ob;exact(bF e hR).symm
   have aR:R≠c:=(bF B.ce hR).symm;have aP:D≠R:=bF Z hR;have aD:H R=none:=by
    cases e:H R with
    | none=>rfl
    | some x=>exact absurd (k7 R x e ap) (by rw[hR];simp)
   refine⟨_,rfl,m,rfl,by omega,by omega,oI (n:=(m:Int).toNat) (fun i σ H'=>Ex3 fun(o4:Option V) (a':Int) (es:List Int)=>Aw6 (σ=[some (.ref p),some (.int m),some (.int wy),some (.ref L),o4,some (.ref D),some (.ref R)]) (cU H' p c ns a') (a6≤a') (a'≤a6 + 2 * i) (aY p H H') (Aw3 (H' D=some (.lst (ds.map V.int))) (H' R=some (.lst (es.map V.int))) (es.length=i∧∀ d∈es,0≤d∧d≤9999)))
    ⟨_,a6,[],rfl,B.same sR,by omega,by simp,k7.same sR,sR _ _ Z,aJ,rfl,fun d hd=>by simp at hd⟩ ?_ ?_⟩
   ·rintro i σ H8 hi ⟨o4,a8,es,rfl,J,bv,aE,k8,ab,U,am,ah⟩;dsimp only[cI];refine⟨_,rfl,.inl ⟨rfl,_,aV U⟩,_,rfl,_,rfl,_,rfl,D,_,rfl,.inl (aV ab),p,c,ns,a8,_,rfl,J,by omega,by rw[Ab];omega,by rw[Ab];omega,fun r3 a9 H9 bb ba b2 b5 ac ad=>?_⟩;have ar:=bY ab J ad;have bq:=bY U J ad;obtain⟨v,M,hat⟩:=gH (xs:=ds.map V.int) (i:=r3) bb ba;obtain⟨d,hd,rfl⟩:=A7.mp M;refine⟨D,_,r3,_,rfl,rfl,aV ar,hat,_,rfl,p,c,ns,a9,_,rfl,ac,by omega,by decide,by decide,fun r4 b1 G1 cj cg cm cr bg Y=>?_⟩;refine⟨zZ2,fun q hq=>?_⟩;have sq:=aS (o:=.lst [V.int d,.int r4]) hq;refine⟨_,rfl,rfl,.inr ⟨_,rfl,?_⟩⟩;obtain⟨z,hz,z0,z1⟩:∃ z:Int,(if decide (V.int wy=V.int 0)=true then(1:Int) else 0)=z∧0≤z∧z≤1:=by
     refine⟨_,rfl,?_⟩;split <;> omega
    rw[hz];obtain⟨v,M,hat⟩:=gH (xs:=[V.int d,.int r4]) (i:=z) z0 (by show z < 2;omega);obtain⟨dd,rfl,hdd⟩:∃ dd:Int,v=.int dd∧0≤dd∧dd≤9999:=by
     simp only[Aq,AB,or_false]at M;rcases M with rfl | rfl
     ·exact⟨_,rfl,ai d hd⟩
     ·exact⟨_,rfl,by omega,by omega⟩
    refine⟨q,_,z,_,rfl,rfl,aV aJ,hat,?_⟩;have bn:=sq _ _ (bY bq ac Y);have bu:=sq _ _ (bY ar ac Y);have bo:=bg.same sq;have kq:=((k8.trans ad).trans Y).same sq;refine⟨R,_,_,rfl,rfl,bn,by rw[Ab];exact jD (by omega),_,b1,es ++ [dd],rfl,?_,by omega,by omega,?_,by rw[bU aP];exact bu,by rw[aJ,Au];rfl,by rw[An,am];rfl,fun z hz=>?_⟩
    ·obtain⟨⟨z,hz,e⟩,ce,ge,sm⟩:=bo;exact⟨⟨z,hz,by rw[bU ap.symm];exact e⟩,by rw[bU aR.symm];exact ce,ge,sm⟩
    ·intro b o e ne;rw[bU (bF e aD)];exact kq b o e ne
    ·rcases A4.mp hz with y | y
     ·exact ah z y
     ·rw[Br.mp y];exact hdd
   ·rintro σ H8 ⟨o4,a8,es,rfl,J,bv,aE,k8,ab,U,am,ah⟩;exact⟨_,rfl,k R es a8 H8 U (by omega) ah (by omega) (by omega) J k8⟩
theorem aAi{q F:List Str}(O:F.Perm (pY q))(U:sortedS F=true):decide (q=F)=eO q:=by
 unfold eO;rw[decide_eq_decide];have B:=nU F U;constructor
 ·rintro rfl;have hn:q.Nodup:=O.nodup_iff.mpr (mV q);have h2:=B.and hn;refine h2.imp fun{a b} h=>?_;rcases D0 (a.cps.toList < b.cps.toList)with z | z
  ·exact z
  ·exact absurd (p5 (DE (Cu.mp h.1) (Cu.mp z))) h.2
 ·intro h;have hn:q.Nodup:=h.imp fun{a b} z e=>by
   subst e;exact EA _ z
  have h2:q.Pairwise fun a b=>¬ b.cps.toList < a.cps.toList:=h.imp fun{a b} z y=>EA _ (List.lt_trans z y);have J:(pY q).Perm q:=by
   refine iB q (pY q) hn (fun x M=>(xI q x).mpr M) ?_;have:=iB (pY q) q (mV q) (fun x M=>(xI q x).mp M);have h1:=(aBO q)
   rw[Ic hn]at h1;have W:=Ie h1;unfold pY;omega
  exact pM (J.symm.trans O.symm) h2 B
theorem uX:∀(B z:List Str),tT (B.map V.str) (z.map V.str)=decide (B=z)
 | [],[]=>rfl
 | [],_ :: _=>rfl
 | _ :: _,[]=>rfl
 | a :: r,b :: q=>by
  show(eqV (.str a) (.str b) && tT (r.map V.str) (q.map V.str))=_;rw[uX r q];show((a == b) && decide (r=q))=_;rw[BB];simp
theorem aD7:bJ ["things"] ["things"] (aO j7):=⟨rfl,rfl,rfl,by decide,rfl,by decide,by decide⟩
theorem aCk{f:Ae}{fd:AD}(F:Fun K "is_rising" "is_rising" j7 f fd)(T:Txt K mg)(q:mg "list"=none)(z:mg "sorted"=none):cH P w K mg base CX0 1 f fd ["things"] sV:=by
 refine F.ok aD7 (fun vs H Q E h=>?_) (fun O A outer s H vs Q E hr h=>?_)
 ·obtain⟨a,ss,rfl,_⟩:=h;rfl
 ·obtain⟨a,ss,rfl,ha,hl,k⟩:=h;have hu:=aAI hr;have M:(A.deeper (PyProof.Rows.envOfC "is_rising" (aO j7) s.heap.objs.size f O)).units < cLine:=by omega
  refine⟨_,aU (aZ (fY (aGz M) (cC dO (by rfl) q (by kernel_rfl) (aH (pv 0) aG)) (aW (vW rfl) (by rfl) z (by kernel_rfl) (aH (cC (aBU rfl) (by rfl) T.set (by kernel_rfl) (aH (pv 0) aG)) aG)) (cA _))),_,rfl,a,ss.map V.str,rfl,ha.imp aV aX,fun L Z=>?_⟩;have B:=aS (o:=.lst (ss.map V.str)) Z;refine⟨_,rfl,a,ss,rfl,ha.imp (B _ _) (B _ _),by omega,fun S hS=>?_⟩;have Y:=aS (o:=aDn P w S ss) hS;refine⟨S,ss,rfl,aJ,by omega,fun l U J hp hs=>?_⟩;have W:=aS (o:=.lst (U.map V.str)) J;refine⟨L,l,_,_,rfl,rfl,aV (W _ _ (Y _ _ aJ)),aV aJ,fU ss,fU U,?_⟩;rw[uX,aAi hp hs];exact k _ ((B.trans Y).trans W)
def pD(x:P3):Al:=.tuple [.str x.1,.str x.2.1,.int x.2.2]
inductive aA8:Al→Al→Prop
 | short {ds:List Al} (h:ds.length≠5):aA8 (.tuple ds) (.tuple ds)
 | other {kind:Str} {n dy f l:Al} (h1:kind≠"part") (h2:kind≠"join"):aA8 (.tuple [.str kind,n,dy,f,l]) (.tuple [.str kind,n,dy,f,l])
 | part {n dy f:Al} {T R:List P3} (hp:T.Perm R) (hr:aDo R) (h2:2≤T.length) (h6:T.length≤6) (ha:(T.map pD).all fB=true):aA8 (.tuple [.str "part",n,dy,f,.tuple (T.map pD)]) (.tuple [.str "part",n,dy,f,.tuple (R.map pD)])
 | join {n dy l:Al} {T R:List Str} (hp:T.Perm R) (hr:eO R=true) (h6:T.length≤6) (ha:(T.map Bk).all bW=true):aA8 (.tuple [.str "join",n,dy,.tuple (T.map Bk),l]) (.tuple [.str "join",n,dy,.tuple (R.map Bk),l])
theorem pG{m:Bool}{H:Hp}:∀{T:List Str},(∀ z∈T,z.length≤1000)→cM m H (T.map V.str) (T.map Bk)
 | [],_=>.nil
 | t :: T,h=>.cons (.str t (h t (by simp))) (pG fun z hz=>h z (by simp[hz]))
structure S3(H:Hp)(lf lp lh:Ae)(fs ps hs:List Str):Prop where
 f:H lf=some (.lst (fs.map V.str))
 p:H lp=some (.lst (ps.map V.str))
 h:H lh=some (.lst (hs.map V.str))
 f1:1≤fs.length
 f2:fs.length≤44
 p1:ps.length=10
 h1:hs.length=5
 nf:Nms fs
 np:Nms ps
 nh:Nms hs
theorem S3.but{H H':Hp}{F J B:Ae}{fs ps z:List Str}{p c:Ae}{ns:List Int}{t:Int}(x:S3 H F J B fs ps z)(q:cU H p c ns t)(k:aY p H H'):S3 H' F J B fs ps z:=⟨bY x.f q k,bY x.p q k,bY x.h q k,x.f1,x.f2,x.p1,x.h1,x.nf,x.np,x.nh⟩
theorem S3.same{H H':Hp}{B F z:Ae}{fs ps q:List Str}(x:S3 H B F z fs ps q)(k:bA H H'):S3 H' B F z fs ps q:=⟨k _ _ x.f,k _ _ x.p,k _ _ x.h,x.f1,x.f2,x.p1,x.h1,x.nf,x.np,x.nh⟩
inductive iE:Str→List Al→Prop
 | part {land:Str} {R:List P3} (hl:bM land=true) (hr:aDo R) (h2:2≤R.length) (h6:R.length≤6) (ha:(R.map pD).all fB=true):iE "part" [.str land,.tuple (R.map pD)]
 | join {land:Str} {R:List Str} (hl:bM land=true) (hr:eO R=true) (h2:2≤R.length) (h6:R.length≤6) (ha:(R.map Bk).all bW=true):iE "join" [.tuple (R.map Bk),.str land]
 | forfeit {land house:Str} (hl:bM land=true) (hh:bM house=true):iE "forfeit" [.str land,.str house]
 | measure {field:Str} {n:Int} (hf:bM field=true) (h0:0≤n) (h1:n≤10000000):iE "measure" [.str field,.int n]
 | mend {house other:Str} (hh:bM house=true) (ho:bM other=true) (hne:house≠other):iE "mend" [.str house,.str other]
 | alone {house:Str} (hh:bM house=true):iE "alone" [.str house]
 | breach {field:Str} {n1 n2 n3:Int} (hf:bM field=true) (h10:0≤n1) (h11:n1≤9999999) (h20:0≤n2) (h21:n2≤1000000000) (h30:0≤n3) (h31:n3≤1000000):iE "breach" [.str field,.int n1,.int n2,.int n3]
 | view {field house:Str} {n1:Int} (hf:bM field=true) (h10:0≤n1) (h11:n1≤9999999) (hh:bM house=true):iE "view" [.str field,.int n1,.str house]
def wD(word name:Str)(day:Int)(ds:List Al):Al:=.tuple (.str word :: .str name :: .int day :: ds)
theorem aD8{word name:Str}{day:Int}{ds:List Al}(h:iE word ds)(hn:bM name=true)(h0:0≤day)(h1:day≤9999):aAe (wD word name day ds)=true:=by
 have go:decide (word∈dM)=true→e8 word ds=true→aAe (wD word name day ds)=true:=fun a b=>by
  show(decide (word∈dM) && (bM name && (decide (0≤day∧day≤9999) && e8 word ds)))=true;rw[a,hn,b,Ic (show 0≤day∧day≤9999 from⟨h0,h1⟩)];rfl
 cases h with
 | @part B R Y hr h2 h6 ha=>
  refine go (by decide) ?_;show(bM B && ((R.map pD).all fB && decide (2≤(R.map pD).length∧(R.map pD).length≤6) && eO ((R.map pD).map dW)))=true;have e:(R.map pD).map dW=R.map (·.1):=by rw[B6];rfl
  rw[Y,ha,e,Ab,Ic (show 2≤R.length∧R.length≤6 from⟨h2,h6⟩)];exact Ic (Cr.mpr hr)
 | @join B R Y hr h2 h6 ha=>
  refine go (by decide) ?_;rw[show e8 "join" [.tuple (R.map Bk),.str B]=uS [.tuple (R.map Bk),.str B] from by unfold e8;rw[Ia (by decide),Ib rfl]];show(((R.map Bk).all bW && decide (2≤(R.map Bk).length∧(R.map Bk).length≤6) && eO ((R.map Bk).map yC)) && bM B)=true;have e:(R.map Bk).map yC=R:=by rw[B6];exact List.map_id R
  rw[Y,ha,e,Ab,Ic (show 2≤R.length∧R.length≤6 from⟨h2,h6⟩),hr];rfl
 | @forfeit B q Y O=>
  refine go (by decide) ?_;rw[show e8 "forfeit" [.str B,.str q]=jQ [.str B,.str q] from by unfold e8;rw[Ia (by decide),Ia (by decide),Ib rfl]];show(true && (bM B && (bM q && true)))=true;rw[Y,O];rfl
 | @measure z n Z h0 h1=>
  refine go (by decide) ?_;rw[show e8 "measure" [.str z,.int n]=jP [.str z,.int n] from by unfold e8;rw[Ia (by decide),Ia (by decide),Ia (by decide),Ib rfl]];show(bM z && decide (0≤n∧n≤10000000))=true;rw[Z,Ic (show 0≤n∧n≤10000000 from⟨h0,h1⟩)];rfl
 | @mend q other O ho ab=>
  refine go (by decide) ?_;rw[show e8 "mend" [.str q,.str other]=pN [.str q,.str other] from by unfold e8;rw[Ia (by decide),Ia (by decide),Ia (by decide),Ia (by decide),Ib rfl]];show(bM q && bM other && !decide (q=other))=true;rw[O,ho,decide_eq_false ab];rfl
 | @alone q O=>
  refine go (by decide) ?_;rw[show e8 "alone" [.str q]=pE [.str q] from by unfold e8;rw[Ia (by decide),Ia (by decide),Ia (by decide),Ia (by decide),Ia (by decide),Ib rfl]];exact O
 | @breach z F U W Z M J af ac ah ag=>
  refine go (by decide) ?_;rw[show e8 "breach" [.str z,.int F,.int U,.int W]=lX [.str z,.int F,.int U,.int W] from by unfold e8;rw[Ia (by decide),Ia (by decide),Ia (by decide),Ia (by decide),Ia (by decide),Ia (by decide),Ib rfl]];show(bM z && decide (0≤F∧F≤9999999) && decide (0≤U∧U≤1000000000) && decide (0≤W∧W≤1000000))=true;rw[Z,Ic (show 0≤F∧F≤9999999 from⟨M,J⟩),Ic (show 0≤U∧U≤1000000000 from⟨af,ac⟩),Ic (show 0≤W∧W≤1000000 from⟨ah,ag⟩)];rfl
 | @view z q F Z M J O=>
  refine go (by decide) ?_;rw[show e8 "view" [.str z,.int F,.str q]=uR [.str z,.int F,.str q] from by unfold e8;rw[Ia (by decide),Ia (by decide),Ia (by decide),Ia (by decide),Ia (by decide),Ia (by decide),Ia (by decide)]];show(bM z && decide (0≤F∧F≤9999999) && bM q)=true;rw[Z,Ic (show 0≤F∧F≤9999999 from⟨M,J⟩),O];rfl
theorem iZ{m:Bool}{H:Hp}{z:Str}(h:bM z=true):RdV m H (.str z) (.str z):=.str z (by have:=(dA h).2;omega)
theorem aD9{w:Str}(h:w∈dM):w.length≤1000:=by
 have:∀ w∈dM,w.length≤1000:=by decide
 exact this w h
theorem aAj{q J vs M:List Str}(W:PyProof.Rows.sortedS q=true)(U:q.Perm J)(O:(J ++ vs).Perm M)(hn:Nms M):eO q=true∧∀ z∈q,bM z=true:=by
 have F:J.Nodup:=(CQ.mp (O.nodup_iff.mpr hn.nd)).1;have B:q.Nodup:=U.nodup_iff.mpr F;refine⟨Ic (((nU q W).and B).imp fun{a b} h=>?_),fun z hz=>hn.ok z (O.mem_iff.mp (C8 _ (U.mem_iff.mp hz)))⟩;rcases D0 (a.cps.toList < b.cps.toList)with z | z
 ·exact z
 ·exact absurd (p5 (DE (Cu.mp h.1) (Cu.mp z))) h.2
def FIn(word:Str)(ds:List Al)(fs:List Str):Prop:=inV (.str word) [V.str "measure",.str "breach",.str "view"]=true→∀ z cS,ds=.str z :: cS→z∈fs
inductive uY(vs:List V)(H:Hp)(Q:VK)(u3_:XK):Prop
 | mk (p c:Ae) (ns:List Int) (a:Int) (word name:Str) (day:Int) (tS lf lp lh:Ae) (fs ps hs:List Str) (q0:vs=[.ref p,.str word,.str name,.int day,.ref tS]) (q1:cU H p c ns a) (q2:a≤700000) (q3:H tS=some (.tup [.ref lf,.ref lp,.ref lh])) (q4:S3 H lf lp lh fs ps hs) (q5:word∈dM) (q6:bM name=true) (q7:∀(t:Ae) (ds:List Al) (cS:List V) (a':Int) (H':Hp),H' t=some (.tup (.str word :: .str name :: .int day :: cS))→cM false H' cS ds→iE word ds→FIn word ds fs→a≤a'→a'≤a + 80→cU H' p c ns a'→aY p H H'→Q (.ref t) H'):uY vs H Q u3_
def aA9:Sp:=fun vs H Q u3_=>uY vs H Q u3_
theorem gC:bJ ["_law_pen_here","_law_word","_law_name","_law_day","_law_sorts_here","_law_fields","_law_plots","_law_houses","_law_land","_law_at","_law_house","_law_field","_law_some_here","_law_parts","_law_inch"] ["_law_pen_here","_law_word","_law_name","_law_day","_law_sorts_here"] (aO mZ):=⟨rfl,rfl,rfl,by decide,rfl,by decide,by decide⟩
theorem aEa{f:Ae}{fd:AD}(F:Fun K "_law_row_of" "_law_row_of" mZ f fd)(W:mg "len"=none)(ao:mg "tuple"=none)
  (GT:Cl P w K mg base 1 "_law_take" ["_law_pen_here","_law_many"] i7)
  (GN:Cl P w K mg base 2 "_law_number" ["_law_pen_here","_law_bottom","_law_most"] aD2)
  (GS:Cl P w K mg base 2 "_law_some" ["_law_pen_here","_law_names_here","_law_many"] aD5):
  cH P w K mg base CX0 3 f fd ["_law_pen_here","_law_word","_law_name","_law_day","_law_sorts_here"] aA9:=by
 refine F.ok gC (fun vs H Q E h=>?_) (fun ee A outer s H vs Q E hr h=>?_)
 ·obtain⟨p,c,ns,a,word,name,day,tS,lf,lp,lh,fs,ps,hs,rfl,_⟩:=h;rfl
 ·obtain⟨p,c,ns,a,word,name,day,tS,lf,lp,lh,fs,ps,hs,rfl,hp,ha,htS,h3,hwd,hnm,k⟩:=h;have ac:cF 1 _:=hr.mono (by decide);refine⟨_,aQ (jT (pv 4) (iP rfl (bZ (bB (i:=5) gC.nd rfl (AG rfl)) (bZ (bB (i:=6) gC.nd rfl (AG rfl)) (bZ (bB (i:=7) gC.nd rfl (Dj rfl)) fW)))))
   (aQ (bQ (i:=8) gC.nd rfl (AG rfl) (bV cV (pv 6) (bC GT ac (aH (pv 0) (aH (aW bG (by rfl) W AM (aH (pv 6) aG)) aG))) Ig))
   (aQ (bQ (i:=9) gC.nd rfl (AG rfl) (bC GT ac (aH (pv 0) (aH (aW bG (by rfl) W AM (aH (pv 7) aG)) aG))))
   (aQ (bQ (i:=10) gC.nd rfl (AG rfl) (bV cV (pv 7) (pv 9) Ig))
   (aQ (bQ (i:=11) gC.nd rfl (AG rfl) (bV cV (pv 5) (bC GT ac (aH (pv 0) (aH (aW bG (by rfl) W AM (aH (pv 5) aG)) aG))) Ig))
   (aQ (cX (bS i8 (pv 1) (dF (aH bE (aH bE aG))) (by with_unfolding_all rfl))
    (aQ (bQ (i:=12) gC.nd rfl (AG rfl) (bC GS hr (aH (pv 0) (aH (pv 6) (aH (bV cV (d9 (aH aI (aH aI (aH (bO dQ aI (bC GT ac (aH (pv 0) (aH aI aG)))) aG)))) (bC GT ac (aH (pv 0) (aH aI aG))) Ig) aG)))))
    (aQ (cX (bS eU (pv 1) bE (cA _)) (aU (aZ (dF (aH (pv 1) (aH (pv 2) (aH (pv 3) (aH (cC dE (by rfl) ao (by kernel_rfl) (aH (pv 12) aG)) (aH (pv 8) aG)))))))) b8)
    (aQ (fM (i:=13) (N:=["_law_one","_law_houses","_law_pen_here"]) (src:=[none,some 7,some 0]) (osc:=aO mZ) (oN:=["_law_pen_here","_law_word","_law_name","_law_day","_law_sorts_here","_law_fields","_law_plots","_law_houses","_law_land","_law_at","_law_house","_law_field","_law_some_here","_law_parts","_law_inch"]) ⟨by rfl,by decide,by decide,by decide,rfl,by rfl⟩ gC.nd rfl
      (jU (pv 12))
      fun cl s H fp bd C=>⟨bB (i:=0) (show(["_law_one","_law_houses","_law_pen_here"]:List Str).Nodup by decide) rfl (AG rfl),c8,dF (aH (pv 0) (aH (bV (r:=aCL K) cV (pv 1) (bC GT ac (aH (pv 2) (aH (aW (r:=iR K) bG (by rfl) W AM (aH (pv 1) aG)) aG))) Ig) (aH (bC GN hr (aH (pv 2) (aH aI (aH (bO i5 aI aI) aG)))) aG)))⟩)
    (aU (aZ (dF (aH (pv 1) (aH (pv 2) (aH (pv 3) (aH (pv 8) (aH (cC dE (by rfl) ao (by kernel_rfl) (aH (pv 13) aG)) aG)))))))))))
    b8)
   (aQ (cX (bS eU (pv 1) bE (cA _)) (aU (aZ (dF (aH (pv 1) (aH (pv 2) (aH (pv 3) (aH (pv 8) (aH (pv 10) aG)))))))) b8)
   (aQ (cX (bS eU (pv 1) bE (cA _)) (aU (aZ (dF (aH (pv 1) (aH (pv 2) (aH (pv 3) (aH (pv 11) (aH (bC GN hr (aH (pv 0) (aH aI (aH (bO i5 aI aI) aG)))) aG)))))))) b8)
   (aQ (cX (bS eU (pv 1) bE (cA _)) (aU (aZ (dF (aH (pv 1) (aH (pv 2) (aH (pv 3) (aH (pv 10) (aH (bV cV (pv 7) (bO fX (bO dQ (bO dQ (pv 9) aI) (bC GT ac (aH (pv 0) (aH (bO oJ (aW bG (by rfl) W AM (aH (pv 7) aG)) aI) aG)))) (aW bG (by rfl) W AM (aH (pv 7) aG))) Ig) aG)))))))) b8)
   (aQ (cX (bS eU (pv 1) bE (cA _)) (aU (aZ (dF (aH (pv 1) (aH (pv 2) (aH (pv 3) (aH (pv 10) aG))))))) b8)
   (aQ (bQ (i:=14) gC.nd rfl (AG rfl) (bC GN hr (aH (pv 0) (aH aI (aH (bO oJ (bO i5 aI aI) aI) aG)))))
   (aQ (cX (bS eU (pv 1) bE (cA _)) (aU (aZ (dF (aH (pv 1) (aH (pv 2) (aH (pv 3) (aH (pv 11) (aH (pv 14) (aH (pv 10) aG))))))))) b8)
   (aU (aZ (dF (aH (pv 1) (aH (pv 2) (aH (pv 3) (aH (pv 11) (aH (pv 14) (aH (bC GN hr (aH (pv 0) (aH aI (aH (bO i5 aI aI) aG)))) (aH (bC GN hr (aH (pv 0) (aH aI (aH (bO i5 aI aI) aG)))) aG))))))))))))))))))))),?_⟩
  have ab:∀(cS:List V) (ds:List Al) (H':Hp) (a':Int),cM false H' cS ds→iE word ds→FIn word ds fs→cU H' p c ns a'→aY p H H'→a≤a'→a'≤a + 80→∀ t,H' t=none→Q (.ref t) (upd H' t (.tup (.str word :: .str name :: .int day :: cS))):=fun cS ds H' a' hR hS cT h1 h2 h4 h5 t ht=>k t ds cS a' _ aJ (hR.same (aS ht)) hS cT h4 h5 (h1.same (aS ht)) (h2.same (aS ht));have cp:∀ j:Int,0≤j→j≤1000000→aGj 10 j:=fun j h1 h2=>⟨h1,h2,by decide⟩
  have p6:((10:Int) ^ Cq 6)=1000000:=by decide
  have p7:((10:Int) ^ Cq 7)=10000000:=by decide
  have p9:((10:Int) ^ Cq 9)=1000000000:=by decide
  have e9:(10:Int) ^ 9=1000000000:=by decide
  have z2:(2:Nat)≤sizeLine:=aM (by decide);have z3:(3:Nat)≤sizeLine:=aM (by decide);have z4:(4:Nat)≤sizeLine:=aM (by decide);have z5:(5:Nat)≤sizeLine:=aM (by decide);have z6:(6:Nat)≤sizeLine:=aM (by decide);have z7:(7:Nat)≤sizeLine:=aM (by decide);have c1:=h3.p1;have b5:=h3.h1;have et:=h3.f1;have eh:=h3.f2;refine⟨_,rfl,tS,_,rfl,aX htS,rfl,_,_,rfl,_,_,rfl,_,_,rfl,rfl,_,rfl,_,rfl,_,rfl,lp,_,rfl,.inl (aV h3.p),p,c,ns,a,_,rfl,hp,by omega,by rw[Ab];omega,by rw[Ab];omega,fun r1 a1 H1 b9 cg eF dy bq be=>?_⟩;have aF:=h3.but hp be;obtain⟨v,hv,Y⟩:=gH (xs:=ps.map V.str) (i:=r1) b9 cg;obtain⟨land,hland,rfl⟩:=A7.mp hv;have M:=h3.np.ok land hland;refine⟨lp,_,r1,_,rfl,rfl,aV aF.p,Y,_,rfl,_,rfl,lh,_,rfl,.inl (aV aF.h),p,c,ns,a1,_,rfl,bq,by omega,by rw[Ab];omega,by rw[Ab];omega,fun r2 a2 H2 eE dc em d7 a0 bD=>?_⟩;have aK:=aF.but bq bD;rw[Ab]at dc;obtain⟨j2,rfl⟩:∃ j2:Nat,r2=j2:=⟨r2.toNat,by omega⟩
  obtain⟨house,hj2⟩:∃ y,hs[j2]?=some y:=⟨_,Ai (by omega)⟩
  have B:=h3.nh.ok house (A2 hj2);have Y:atI (hs.map V.str) ((j2:Nat):Int)=some (V.str house):=c3 (by rw[AI,hj2];rfl);refine⟨_,rfl,_,rfl,lh,_,(j2:Int),_,rfl,rfl,aV aK.h,Y,_,rfl,_,rfl,_,rfl,lf,_,rfl,.inl (aV aK.f),p,c,ns,a2,_,rfl,a0,by omega,by rw[Ab];omega,by rw[Ab];omega,fun r3 a3 H3 cr cn eN eC cx bN=>?_⟩;have bx:=aK.but a0 bN;obtain⟨v,hv,Y⟩:=gH (xs:=fs.map V.str) (i:=r3) cr cn;obtain⟨field,hfield,rfl⟩:=A7.mp hv;have J:=h3.nf.ok field hfield;refine⟨lf,_,r3,_,rfl,rfl,aV bx.f,Y,?_⟩;have k3:=(be.trans bD).trans bN;refine⟨_,rfl,z2,fun q hq=>?_⟩;have sq:=aS (o:=.tup [V.str "part",.str "join"]) hq;have Z:=cx.same sq;have an:=bx.same sq;have k4:=k3.same sq;have aP:upd H3 q (.tup [V.str "part",.str "join"]) q=_:=aJ;refine⟨q,_,rfl,.inr (aX aP),rfl,rfl,_,rfl,?_⟩;generalize upd H3 q (.tup [V.str "part",.str "join"])=H4 at Z an k4 aP ⊢;refine dR (fun g1=>?_) (fun g1=>?_)
  ·refine⟨_,rfl,_,rfl,_,rfl,p,c,ns,a3,_,rfl,Z,by omega,by decide,by decide,fun x1 a5 H5 eu el eD d6 bm cL=>?_⟩;refine⟨_,_,rfl,rfl,z3,fun u hu=>?_⟩;have su:=aS (o:=.lst [V.int 2,.int 6,.int (2 + x1)]) hu;refine⟨_,rfl,p,c,ns,a5,_,rfl,bm.same su,by omega,by decide,by decide,fun x2 a6 H6 cf ez eH eq bu br=>?_⟩;obtain⟨v,hv,Y⟩:=gH (xs:=[V.int 2,.int 6,.int (2 + x1)]) (i:=x2) cf (by show x2 < 3;omega);obtain⟨n,rfl,hn,hn2⟩:∃ n:Nat,v=.int n∧n≤6∧2≤n:=by
    simp only[Aq,AB,or_false]at hv;rcases hv with rfl | rfl | rfl
    ·exact⟨2,rfl,by omega,by omega⟩
    ·exact⟨6,rfl,by omega,by omega⟩
    ·exact⟨(2 + x1).toNat,by congr 1;omega,by omega,by omega⟩
   have bb:aY p H4 H6:=(cL.same su).trans br;refine⟨u,_,x2,_,rfl,rfl,aV (bY aJ (bm.same su) br),Y,?_⟩;have bp:=an.but Z bb;refine⟨p,c,ns,a6,lp,ps,n,rfl,bu,by omega,bp.p,c1,hn,fun L ms a7 H7 hL eB cv bg ev eg aj bz=>?_⟩;obtain⟨us,vv,hpu,hpw⟩:=bg;obtain⟨hris,hnms⟩:=aAj cv hpu hpw h3.np;have cs:=bp.but bu bz;have k7:=(k4.trans bb).trans bz;refine⟨_,rfl,rfl,_,rfl,dR (fun g2=>?_) (fun g2=>?_)⟩
   ·refine⟨_,rfl,_,rfl,_,rfl,_,rfl,L,_,rfl,.inl ⟨aV hL,fun tt aL=>?_⟩⟩;have st:=aS (o:=.tup (ms.map V.str)) aL;have U:word="join":=by
     have:=Ie g2;injection this
    have aN:(ms.map Bk).all bW=true:=by
     rw[DL,AU];exact fun z hz=>hnms z hz
    exact⟨_,rfl,z5,fun t ht=>ab _ [.tuple (ms.map Bk),.str land] _ a7 (.cons (.tup aJ (by rw[Ab];omega) (pG fun z hz=>by have:=(dA (hnms z hz)).2;omega)) (.cons (iZ M) .nil)) (by rw[U];exact .join M hris (by omega) (by omega) aN) (by rw[U];exact fun z=>absurd z (by decide)) (aj.same st) (k7.same st) (by omega) (by omega) t ht⟩
   ·refine⟨_,rfl,L,rfl,⟨_,aV hL⟩,?_⟩;refine jE (K:=K) (xs:=ms.map V.str) (fun i ys σ' H'=>∃(a':Int) (o:Option V),σ'=[o,some (.ref lh),some (.ref p)]∧cU H' p c ns a'∧aY p H7 H'∧a7≤a'∧a'≤a7 + 4 * i∧ys.length=i∧∃ R:List P3,cM false H' ys (R.map pD)∧R.map (·.1)=ms.take i∧(R.map pD).all fB=true)
     ⟨a7,none,rfl,aj,aY.refl p H7,by omega,by omega,rfl,[],.nil,by simp,rfl⟩ (aM (by rw[Ab];omega)) (fun i ys σ H p=>by obtain⟨_,_,_,_,_,_,_,e,_⟩:=p;omega) (fun i ys σ H p=>by obtain⟨_,_,_,_,kk,_⟩:=p;exact aV (bY hL aj kk)) ?_ ?_
    ·rintro i x ys σ' H8 hx ⟨a8,o,rfl,ah,k8,db,aT,aw,R,rR,eR,aR⟩;have hi:i < ms.length:=by
      have:=(AE.mp hx).1;simpa using this
     have ex:x=V.str ms[i]:=by
      rw[AI,Ai hi]at hx;cases hx;rfl
     subst ex;have bt:=hnms _ (Bm hi);dsimp only[cI];have bv:=bY cs.h aj k8;refine c4 ?_;refine⟨_,rfl,_,rfl,_,rfl,_,rfl,lh,_,rfl,.inl (aV bv),p,c,ns,a8,_,rfl,ah,by omega,by rw[Ab];omega,by rw[Ab];omega,fun r4 a9 H9 bj ax dv d2 bi aA=>?_⟩;obtain⟨v,hv,Y⟩:=gH (xs:=hs.map V.str) (i:=r4) bj ax;obtain⟨hse,hhse,rfl⟩:=A7.mp hv;have ap:=h3.nh.ok hse hhse;refine⟨lh,_,r4,_,rfl,rfl,aV (bY bv ah aA),Y,_,rfl,_,_,rfl,rfl,cp _ (by decide) (by decide),p,c,ns,a9,1,10000000,(by show[V.ref p,V.int 1,V.int ((10:Int) ^ Cq 7)] ++ []=_;rw[p7];rfl),bi,by omega,by decide,by decide,by omega,fun n1 b1 G1 ag af az aB aa O=>?_⟩;refine⟨z3,fun q1 cP=>?_⟩;have ay:=aS (o:=.tup [V.str ms[i],.str hse,.int n1]) cP;refine⟨b1,_,rfl,aa.same ay,((k8.trans aA).trans O).same ay,by omega,by omega,by rw[An,aw];rfl,R ++ [(ms[i],hse,n1)],?_,?_,?_⟩
     ·rw[Au];exact cM.app ((wB (wB rR ah aA) bi O).same ay) (.cons (.tup aJ (by show 3≤1000;decide) (.cons (iZ bt) (.cons (iZ ap) (.cons (.int n1) .nil)))) .nil)
     ·rw[Au,eR,AN,Ai hi];rfl
     ·rw[Au,List.all_append,aR];show(true && ((bM ms[i] && bM hse && decide (1≤n1∧n1≤10000000)) && true))=true;rw[bt,ap,Ic (show 1≤n1∧n1≤10000000 from⟨ag,af⟩)];rfl
    ·rintro ys σ' H8 ⟨a8,o,rfl,ah,k8,db,aT,aw,R,rR,eR,aR⟩ D hD;rw[Ab]at aT;have sD:=aS (o:=.lst ys) hD;refine⟨_,rfl,_,rfl,_,rfl,_,rfl,_,rfl,D,_,rfl,.inl ⟨aV aJ,fun tt aL=>?_⟩⟩;have st:=aS (o:=.tup ys) aL;have U:word="part":=by
      have h0:"part"=word∨"join"=word:=by simpa[inV,eqV]using g1
      have h1:word="part"∨word="join":=h0.imp Eq.symm Eq.symm;rcases h1 with h1 | h1
      ·exact h1
      ·exact absurd (Ic (by rw[h1])) g2
     rw[Ab,AZ]at eR;have ei:R.length=ms.length:=by rw[← eR,Ab]
     have c0:aDo R:=by
      have:=Ie hris;rw[← eR]at this;exact(Cr (f:=fun x:P3=>x.1) (R:=fun a b:Str=>a.cps.toList < b.cps.toList)).mp this
     exact⟨z5,fun t ht=>ab _ [.str land,.tuple (R.map pD)] _ a8 (.cons (iZ M) (.cons (.tup aJ (by rw[aw,Ab];omega) ((rR.same sD).same st)) .nil)) (by rw[U];exact .part M c0 (by omega) (by omega) aR) (by rw[U];exact fun z=>absurd z (by decide)) ((ah.same sD).same st) (((k7.trans k8).same sD).same st) (by omega) (by omega) t ht⟩
  ·refine⟨_,rfl,rfl,_,rfl,dR (fun g2=>?_) (fun g2=>?_)⟩
   ·have U:word="forfeit":=by
     have:=Ie g2;injection this
    exact⟨_,rfl,_,rfl,_,rfl,_,rfl,_,rfl,z5,fun t ht=>ab _ [.str land,.str house] _ a3 (.cons (iZ M) (.cons (iZ B) .nil)) (by rw[U];exact .forfeit M B) (by rw[U];exact fun z=>absurd z (by decide)) Z k4 (by omega) (by omega) t ht⟩
   ·refine⟨_,rfl,rfl,_,rfl,dR (fun g3=>?_) (fun g3=>?_)⟩
    ·refine⟨_,rfl,_,rfl,_,rfl,_,rfl,_,rfl,_,_,rfl,rfl,cp _ (by decide) (by decide),p,c,ns,a3,0,10000000,(by show[V.ref p,V.int 0,V.int ((10:Int) ^ Cq 7)] ++ []=_;rw[p7];rfl),Z,by omega,by decide,by decide,by omega,fun n1 b1 G1 ag af az aB aa O=>?_⟩;have U:word="measure":=by
      have:=Ie g3;injection this
     exact⟨z5,fun t ht=>ab _ [.str field,.int n1] _ b1 (.cons (iZ J) (.cons (.int n1) .nil)) (by rw[U];exact .measure J ag af) (fun _ z cS e=>by cases e;exact hfield) aa (k4.trans O) (by omega) (by omega) t ht⟩
    ·refine⟨_,rfl,rfl,_,rfl,dR (fun g4=>?_) (fun g4=>?_)⟩
     ·refine⟨_,rfl,_,rfl,_,rfl,_,rfl,_,rfl,_,rfl,_,_,rfl,rfl,_,rfl,_,rfl,lh,_,rfl,.inl (aV an.h),_,_,rfl,rfl,p,c,ns,a3,_,rfl,Z,by omega,by rw[Ab];omega,by rw[Ab];omega,fun r4 b1 G1 bj ax az aB aa O=>?_⟩;have hh:=bY an.h Z O;refine⟨_,_,rfl,rfl,_,rfl,lh,_,rfl,.inl (aV hh),_,_,rfl,rfl,by rw[Ab];omega,?_⟩;have e5:((hs.map V.str).length:Int)=5:=by rw[Ab,b5];rfl
      rw[e5]at ax;obtain⟨j4,ej4⟩:∃ j4:Nat,((j2:Int) + 1 + r4) % ((hs.map V.str).length:Int)=j4:=⟨(((j2:Int) + 1 + r4) % ((hs.map V.str).length:Int)).toNat,by rw[e5];omega⟩
      have b4:j4 < 5∧j4≠j2:=by
       rw[e5]at ej4;omega
      obtain⟨other,hot⟩:∃ y,hs[j4]?=some y:=⟨_,Ai (by omega)⟩
      have ae:=h3.nh.ok other (A2 hot);have cq:house≠other:=fun z=>by
       have b6:j2 < hs.length:=by omega
       have c6:j4 < hs.length:=by omega
       rw[Ai b6]at hj2;rw[Ai c6]at hot;injection hj2 with hj2;injection hot with hot;rw[← hj2,← hot]at z;exact b4.2 ((DF h3.nh.nd).mp z).symm
      have au:atI (hs.map V.str) ((j4:Nat):Int)=some (V.str other):=c3 (by rw[AI,hot];rfl);rw[← ej4]at au;have U:word="mend":=by
       have:=Ie g4;injection this
      exact⟨lh,_,_,_,rfl,rfl,aV hh,au,z5,fun t ht=>ab _ [.str house,.str other] _ b1 (.cons (iZ B) (.cons (iZ ae) .nil)) (by rw[U];exact .mend B ae cq) (by rw[U];exact fun z=>absurd z (by decide)) aa (k4.trans O) (by omega) (by omega) t ht⟩
     ·refine⟨_,rfl,rfl,_,rfl,dR (fun g5=>?_) (fun g5=>?_)⟩
      ·have U:word="alone":=by
        have:=Ie g5;injection this
       exact⟨_,rfl,_,rfl,_,rfl,_,rfl,z4,fun t ht=>ab _ [.str house] _ a3 (.cons (iZ B) .nil) (by rw[U];exact .alone B) (by rw[U];exact fun z=>absurd z (by decide)) Z k4 (by omega) (by omega) t ht⟩
      ·refine⟨_,rfl,_,_,rfl,rfl,cp _ (by decide) (by decide),_,_,rfl,rfl,p,c,ns,a3,0,9999999,(by show[V.ref p,V.int 0,V.int ((10:Int) ^ Cq 7 - 1)] ++ []=_;rw[p7];rfl),Z,by omega,by decide,by decide,by omega,fun n1 b1 G1 ag af az aB aa O=>?_⟩;refine⟨_,rfl,rfl,_,rfl,dR (fun g6=>?_) (fun g6=>?_)⟩
       ·have U:word="view":=by
         have:=Ie g6;injection this
        exact⟨_,rfl,_,rfl,_,rfl,_,rfl,_,rfl,_,rfl,z6,fun t ht=>ab _ [.str field,.int n1,.str house] _ b1 (.cons (iZ J) (.cons (.int n1) (.cons (iZ B) .nil))) (by rw[U];exact .view J ag af B) (fun _ z cS e=>by cases e;exact hfield) aa (k4.trans O) (by omega) (by omega) t ht⟩
       ·refine⟨_,rfl,_,rfl,_,rfl,_,rfl,_,rfl,_,rfl,_,_,rfl,rfl,cp _ (by decide) (by decide),p,c,ns,b1,0,1000000000,(by show[V.ref p,V.int 0,V.int ((10:Int) ^ Cq 9)] ++ []=_;rw[p9];rfl),aa,by omega,by decide,by decide,by omega,fun n2 b2 G2 b7 cR ej dz bL bw=>?_⟩;refine⟨_,rfl,_,_,rfl,rfl,cp _ (by decide) (by decide),p,c,ns,b2,0,1000000,(by show[V.ref p,V.int 0,V.int ((10:Int) ^ Cq 6)] ++ []=_;rw[p6];rfl),bL,by omega,by decide,by decide,by omega,fun n3 b3 G3 cm cu dq d4 bc bo=>?_⟩;have U:word="breach":=by
         have ng:∀ z:Str,¬ decide (V.str word=V.str z)=true→word≠z:=fun z hz e=>hz (Ic (by rw[e]));have bK:word≠"part"∧word≠"join":=by
          constructor
          ·intro z;exact g1 (by rw[z];rfl)
          ·intro z;exact g1 (by rw[z];rfl)
         have hm:=hwd;simp only[dM,Aq,AB,or_false]at hm;rcases hm with z | z | z | z | z | z | z | z
         ·exact absurd z bK.1
         ·exact absurd z bK.2
         ·exact absurd z (ng _ g2)
         ·exact absurd z (ng _ g3)
         ·exact absurd z (ng _ g4)
         ·exact absurd z (ng _ g5)
         ·exact z
         ·exact absurd z (ng _ g6)
        exact⟨z7,fun t ht=>ab _ [.str field,.int n1,.int n2,.int n3] _ b3 (.cons (iZ J) (.cons (.int n1) (.cons (.int n2) (.cons (.int n3) .nil)))) (by rw[U];exact .breach J ag af b7 cR cm cu) (fun _ z cS e=>by cases e;exact hfield) bc (((k4.trans O).trans bw).trans bo) (by omega) (by omega) t ht⟩
def dI:Al→Bool
 | .tuple [f,h,a,i]=>bW f && bW h && c5 1 1000000 a && c5 0 10000000 i
 | _=>false
inductive uZ(vs:List V)(H:Hp)(Q:VK)(u3_:XK):Prop
 | mk (m:Bool) (x:V) (d:Al) (q0:vs=[x]) (q1:RdV m H x d) (q2:∀ H',bA H H'→Q (.bl (dI d)) H'):uZ vs H Q u3_
def aBa:Sp:=fun vs H Q u3_=>uZ vs H Q u3_
theorem n8:bJ ["thing","field","house","acres","inches"] ["thing"] (aO jL):=⟨rfl,rfl,rfl,by decide,rfl,by decide,by decide⟩
theorem aEb{f:Ae}{fd:AD}(F:Fun K "is_field" "is_field" jL f fd)(T:Txt K mg)
  (GN:Cl P w K mg base 1 "is_name" ["thing"] iU)
  (GW:Cl P w K mg base 2 "is_whole" ["thing","least","most"] kA):
  cH P w K mg base CX0 3 f fd ["thing"] aBa:=by
 refine F.ok n8 (fun vs H Q E h=>?_) (fun af A outer s H vs Q E Z h=>?_)
 ·obtain⟨m,x,d,rfl,_⟩:=h;rfl
 ·obtain⟨m,x,d,rfl,hx,k⟩:=h;have J:cF 1 _:=Z.mono (by decide);obtain⟨ta,hacres⟩:=T.fieldAcres;obtain⟨ti,hinches⟩:=T.inches;refine⟨_,aQ (cX (PW.pt (fO (d8 (eQ (aW dH (by rfl) T.isi (by kernel_rfl) (aH (pv 0) (aH (fV (v:=.ty "tuple") (by rfl) T.tuple (by kernel_rfl) rfl) aG)))))
    (fJ (bS pI (aW bG (by rfl) T.len AM (aH (pv 0) aG)) aI (cA _))))) (aU (aZ gX)) b8)
   (aQ (jT (pv 0) (iP rfl (bZ (bB (i:=1) n8.nd rfl (AG rfl)) (bZ (bB (i:=2) n8.nd rfl (AG rfl)) (bZ (bB (i:=3) n8.nd rfl (AG rfl)) (bZ (bB (i:=4) n8.nd rfl (AG rfl)) fW))))))
   (aQ (cX (PW.pt (fO (d8 (eQ (bC GN J (aH (pv 1) aG)))) (fJ (d8 (eQ (bC GN J (aH (pv 2) aG))))))) (aU (aZ gX)) b8)
   (aU (aZ (dP (bC GW Z (aH (pv 3) (aH aI (aH (dL (v:=.int 1000000) (by rfl) hacres ⟨_,rfl⟩) aG)))) (fF (bC GW Z (aH (pv 4) (aH aI (aH (dL (v:=.int 10000000) (by rfl) hinches ⟨_,rfl⟩) aG)))))))))),?_⟩
  refine⟨_,rfl,_,"tuple",_,_,rfl,nZ hx,nY d,_,rfl,?_⟩;cases hd:gZ d with
  | false=>
   have e:dI d=false:=by
    cases d with
    | tuple ds=>simp[gZ]at hd
    | _=>rfl
   rw[e]at k;exact k H (bA.refl H)
  | true=>
   obtain⟨ds,rfl⟩:∃ ds,d=.tuple ds:=by
    cases d with
    | tuple z=>exact⟨z,rfl⟩
    | _=>simp[gZ]at hd
   cases hx with
   | @tup a xs _ e hl r=>
    have M:=r.len;refine dC ?_;refine⟨_,rfl,a,xs,rfl,.inr (aX e),rfl,_,rfl,?_⟩;by_cases O:xs.length=4
    ·rw[Ic (show V.int (xs.length:Int)=V.int 4 by rw[O];rfl)];refine dC ?_
     match xs,ds,O,r with
     | [x1,x2,x3,x4],[d1,d2,d3,d4],_,.cons r1 (.cons r2 (.cons r3 (.cons r4 .nil)))=>
      refine⟨_,rfl,a,_,rfl,aX e,rfl,_,_,rfl,_,_,rfl,_,_,rfl,_,_,rfl,rfl,?_⟩;have k':∀ H',bA H H'→Q (.bl (bW d1 && bW d2 && c5 1 1000000 d3 && c5 0 10000000 d4)) H':=k;refine⟨_,rfl,m,x1,d1,rfl,r1,fun H1 B=>⟨_,rfl,?_⟩⟩;refine dR (fun g=>?_) (fun g=>?_)
      ·have W:bW d1=false:=by simpa using g
       have:=k' H1 B;rw[W]at this;exact this
      ·have W:bW d1=true:=by simpa using g
       refine⟨_,rfl,m,x2,d2,rfl,r2.same B,fun H2 U=>⟨_,rfl,?_⟩⟩;refine dR (fun g2=>?_) (fun g2=>?_)
       ·have q:bW d2=false:=by simpa using g2
        have:=k' H2 (B.trans U);rw[W,q]at this;exact this
       ·have q:bW d2=true:=by simpa using g2
        have:=k' H2 (B.trans U);rw[W,q,AY,AY]at this;refine⟨_,rfl,m,x3,d3,1,1000000,rfl,(r3.same B).same U,_,rfl,dR (fun g3=>?_) (fun g3=>?_)⟩
        ·rw[g3,AY]at this;exact⟨_,rfl,m,x4,d4,0,10000000,rfl,(r4.same B).same U,this⟩
        ·have Y:c5 1 1000000 d3=false:=by simpa using g3
         rw[Y]at this;exact this
    ·rw[decide_eq_false (show¬ V.int (xs.length:Int)=V.int 4 from fun z=>O (by have:=V.int.inj z;omega))];refine c4 ?_;have e2:dI (.tuple ds)=false:=by
      match ds,M with
      | [],_=>rfl
      | [_],_=>rfl
      | [_,_],_=>rfl
      | [_,_,_],_=>rfl
      | [_,_,_,_],h=>exact absurd (by simpa using h) O
      | _ :: _ :: _ :: _ :: _ :: _,_=>rfl
     have:=k H (bA.refl H);rw[e2]at this;exact this
theorem sY{d:Al}(h:dI d=true):∃(f:Str) (g a i:Al),d=.tuple [.str f,g,a,i]∧bM f=true∧bW g=true∧c5 1 1000000 a=true∧c5 0 10000000 i=true:=by
 match d,h with
 | .tuple [.str f,g,a,i],h=>
  simp only[dI,bW,A9]at h;exact⟨f,g,a,i,rfl,h.1.1.1,h.1.1.2,h.1.2,h.2⟩
 | .tuple [.none,g,a,i],h=>simp[dI,bW]at h
 | .tuple [.bool _,g,a,i],h=>simp[dI,bW]at h
 | .tuple [.int _,g,a,i],h=>simp[dI,bW]at h
 | .tuple [.list _,g,a,i],h=>simp[dI,bW]at h
 | .tuple [.tuple _,g,a,i],h=>simp[dI,bW]at h
 | .tuple [.dict _,g,a,i],h=>simp[dI,bW]at h
mutual
inductive m5:Al→Prop
 | non:m5 .none
 | bl (b:Bool):m5 (.bool b)
 | int (i:Int):m5 (.int i)
 | str (z:Str):m5 (.str z)
 | tup {ds:List Al} (h:oA ds):m5 (.tuple ds)
inductive oA:List Al→Prop
 | nil:oA []
 | cons {d:Al} {ds:List Al} (a:m5 d) (r:oA ds):oA (d :: ds)
end
mutual
theorem RdV.unl{H:Hp}:∀{x:V}{d:Al},RdV true H x d→m5 d→RdV false H x d
 | _,_,.non,_=>.non
 | _,_,.bl b,_=>.bl b
 | _,_,.int i,_=>.int i
 | _,_,.str z h,_=>.str z h
 | _,_,.tup e q r,.tup h=>.tup e q (cM.unl r h)
theorem cM.unl{H:Hp}:∀{xs:List V}{ds:List Al},cM true H xs ds→oA ds→cM false H xs ds
 | _,_,.nil,_=>.nil
 | _,_,.cons a r,.cons b s=>.cons (RdV.unl a b) (cM.unl r s)
end
def fmV(g0 g1 g2 g3 g4 g5 g6 g7:Ae):List (Key×V):=[(Am "part",.ref g0),(Am "join",.ref g1),(Am "forfeit",.ref g2),(Am "measure",.ref g3),(Am "mend",.ref g4),(Am "alone",.ref g5),(Am "breach",.ref g6),(Am "view",.ref g7)]
def fmR(g0 g1 g2 g3 g4 g5 g6 g7:Ae):List (Key×Ac):=[(Am "part",.ref g0),(Am "join",.ref g1),(Am "forfeit",.ref g2),(Am "measure",.ref g3),(Am "mend",.ref g4),(Am "alone",.ref g5),(Am "breach",.ref g6),(Am "view",.ref g7)]
theorem aG3(U q M B z O F J:Ae):KV (fmV U q M B z O F J) (fmR U q M B z O F J):=.cons ⟨rfl,rfl⟩ (.cons ⟨rfl,rfl⟩ (.cons ⟨rfl,rfl⟩ (.cons ⟨rfl,rfl⟩ (.cons ⟨rfl,rfl⟩ (.cons ⟨rfl,rfl⟩ (.cons ⟨rfl,rfl⟩ (.cons ⟨rfl,rfl⟩ (.nil))))))))
theorem cW(w:AQ)(s:Str):Av w.params s=aFX w (Am s):=by
 first | rfl | (unfold aFX hashStr Av;rfl)
theorem isS(s:Str)(t:Tok):qF (Am s) (.str s t)=true:=by
 show D5 s (.str s t)=true;simp[D5]
theorem aFl{P:Ay}{w:AQ}{K:Ag}{a:Ae}{e:Nat}{B O z q J M U F:Tok}{g0 Z g2 g3 g4 g5 g6 Y:Ae}(l:K.lookup a=some { cls:=.type "dict",data:=.dict #[⟨Av w.params "part",.str "part" B,.ref g0⟩,⟨Av w.params "join",.str "join" O,.ref Z⟩,⟨Av w.params "forfeit",.str "forfeit" z,.ref g2⟩,⟨Av w.params "measure",.str "measure" q,.ref g3⟩,⟨Av w.params "mend",.str "mend" J,.ref g4⟩,⟨Av w.params "alone",.str "alone" M,.ref g5⟩,⟨Av w.params "breach",.str "breach" U,.ref g6⟩,⟨Av w.params "view",.str "view" F,.ref Y⟩] e }):∀ h:A8,K.In h→h.DictOf (cJ P w) a (fmR g0 Z g2 g3 g4 g5 g6 Y):=by
 intro h hK;refine⟨_,_,_,hK _ _ l,⟨rfl,rfl,rfl⟩,rfl,?_,?_,?_⟩
 ·intro en W;simp only[List.mem_toArray,Aq,AB,or_false]at W;rcases W with rfl | rfl | rfl | rfl | rfl | rfl | rfl | rfl
  ·exact⟨Am "part",isS "part" B,cW w "part"⟩
  ·exact⟨Am "join",isS "join" O,cW w "join"⟩
  ·exact⟨Am "forfeit",isS "forfeit" z,cW w "forfeit"⟩
  ·exact⟨Am "measure",isS "measure" q,cW w "measure"⟩
  ·exact⟨Am "mend",isS "mend" J,cW w "mend"⟩
  ·exact⟨Am "alone",isS "alone" M,cW w "alone"⟩
  ·exact⟨Am "breach",isS "breach" U,cW w "breach"⟩
  ·exact⟨Am "view",isS "view" F,cW w "view"⟩
 ·exact .cons (isS "part" B) rfl (.cons (isS "join" O) rfl (.cons (isS "forfeit" z) rfl (.cons (isS "measure" q) rfl (.cons (isS "mend" J) rfl (.cons (isS "alone" M) rfl (.cons (isS "breach" U) rfl (.cons (isS "view" F) rfl (.nil))))))))
 ·show([Am "part",Am "join",Am "forfeit",Am "measure",Am "mend",Am "alone",Am "breach",Am "view"]:List Key).Nodup;decide
theorem aFS(Z U g2 W Y g5 g6 g7:Ae)(kind:Str):f9 (fmV Z U g2 W Y g5 g6 g7) (Am kind)=if kind="part" then some (.ref Z) else if kind="join" then some (.ref U) else if kind="forfeit" then some (.ref g2) else if kind="measure" then some (.ref W) else if kind="mend" then some (.ref Y) else if kind="alone" then some (.ref g5) else if kind="breach" then some (.ref g6) else if kind="view" then some (.ref g7) else none:=by
 unfold fmV;by_cases B:kind="part"
 ·rw[Ib B];subst B;rfl
 rw[dG (show¬ (Am "part":Key)=Am kind from fun z=>B (by injection z with z;exact z.symm)),Ia B];by_cases h1:kind="join"
 ·rw[Ib h1];subst h1;rfl
 rw[dG (show¬ (Am "join":Key)=Am kind from fun z=>h1 (by injection z with z;exact z.symm)),Ia h1];by_cases h2:kind="forfeit"
 ·rw[Ib h2];subst h2;rfl
 rw[dG (show¬ (Am "forfeit":Key)=Am kind from fun z=>h2 (by injection z with z;exact z.symm)),Ia h2];by_cases J:kind="measure"
 ·rw[Ib J];subst J;rfl
 rw[dG (show¬ (Am "measure":Key)=Am kind from fun z=>J (by injection z with z;exact z.symm)),Ia J];by_cases F:kind="mend"
 ·rw[Ib F];subst F;rfl
 rw[dG (show¬ (Am "mend":Key)=Am kind from fun z=>F (by injection z with z;exact z.symm)),Ia F];by_cases M:kind="alone"
 ·rw[Ib M];subst M;rfl
 rw[dG (show¬ (Am "alone":Key)=Am kind from fun z=>M (by injection z with z;exact z.symm)),Ia M];by_cases q:kind="breach"
 ·rw[Ib q];subst q;rfl
 rw[dG (show¬ (Am "breach":Key)=Am kind from fun z=>q (by injection z with z;exact z.symm)),Ia q];by_cases O:kind="view"
 ·rw[Ib O];subst O;rfl
 rw[dG (show¬ (Am "view":Key)=Am kind from fun z=>O (by injection z with z;exact z.symm)),Ia O];rfl
theorem aHU(Y O g2 U W g5 Z g7:Ae)(kind:Str):(f9 (fmV Y O g2 U W g5 Z g7) (Am kind)).isSome=decide (kind∈dM):=by
 rw[aFS];simp only[dM,Aq,AB,or_false];by_cases z:kind="part"
 ·rw[Ib z,Ic (by simp[z])];rfl
 rw[Ia z];by_cases h1:kind="join"
 ·rw[Ib h1,Ic (by simp[h1])];rfl
 rw[Ia h1];by_cases h2:kind="forfeit"
 ·rw[Ib h2,Ic (by simp[h2])];rfl
 rw[Ia h2];by_cases F:kind="measure"
 ·rw[Ib F,Ic (by simp[F])];rfl
 rw[Ia F];by_cases B:kind="mend"
 ·rw[Ib B,Ic (by simp[B])];rfl
 rw[Ia B];by_cases J:kind="alone"
 ·rw[Ib J,Ic (by simp[J])];rfl
 rw[Ia J];by_cases q:kind="breach"
 ·rw[Ib q,Ic (by simp[q])];rfl
 rw[Ia q];by_cases M:kind="view"
 ·rw[Ib M,Ic (by simp[M])];rfl
 rw[Ia M];rw[decide_eq_false (by simp[z,h1,h2,F,B,J,q,M])];rfl
theorem aHV{P:Ay}{w:AQ}{K:Ag}{mg:Str→Option Ac}{base:A8}{O z J B F U M q:Ae}{d0:AD}(G0:cH P w K mg base CX0 6 O d0 ["rest"] (eY yG))(k0:Aj K (.ref O)=true)(b0:eV K d0 ["rest"] []){d1:AD}(G1:cH P w K mg base CX0 6 z d1 ["rest"] (eY uS))(k1:Aj K (.ref z)=true)(b1:eV K d1 ["rest"] []){d2:AD}(G2:cH P w K mg base CX0 6 J d2 ["rest"] (eY jQ))(k2:Aj K (.ref J)=true)(b2:eV K d2 ["rest"] []){d3:AD}(G3:cH P w K mg base CX0 6 B d3 ["rest"] (eY jP))(k3:Aj K (.ref B)=true)(b3:eV K d3 ["rest"] []){d4:AD}(G4:cH P w K mg base CX0 6 F d4 ["rest"] (eY pN))(k4:Aj K (.ref F)=true)(b4:eV K d4 ["rest"] []){Y:AD}(G5:cH P w K mg base CX0 6 U Y ["rest"] (eY pE))(k5:Aj K (.ref U)=true)(b5:eV K Y ["rest"] []){W:AD}(G6:cH P w K mg base CX0 6 M W ["rest"] (eY lX))(k6:Aj K (.ref M)=true)(b6:eV K W ["rest"] []){d7:AD}(G7:cH P w K mg base CX0 6 q d7 ["rest"] (eY uR))(k7:Aj K (.ref q)=true)(b7:eV K d7 ["rest"] []):
  ∀(kind:Str) (v:V),f9 (fmV O z J B F U M q) (Am kind)=some v→∃(a:Ae) (fd:AD),v=.ref a∧cH P w K mg base CX0 6 a fd ["rest"] (eY (e8 kind))∧Aj K (.ref a)=true∧eV K fd ["rest"] []:=by
 intro kind v h;rw[aFS]at h;by_cases h0:kind="part"
 ·rw[Ib h0]at h;cases h;subst h0;have e:e8 "part"=yG:=by funext ds;unfold e8;rw[Ib rfl]
  exact⟨O,d0,rfl,by rw[e];exact G0,k0,b0⟩
 rw[Ia h0]at h;by_cases h1:kind="join"
 ·rw[Ib h1]at h;cases h;subst h1;have e:e8 "join"=uS:=by funext ds;unfold e8;rw[Ia (by decide),Ib rfl]
  exact⟨z,d1,rfl,by rw[e];exact G1,k1,b1⟩
 rw[Ia h1]at h;by_cases h2:kind="forfeit"
 ·rw[Ib h2]at h;cases h;subst h2;have e:e8 "forfeit"=jQ:=by funext ds;unfold e8;rw[Ia (by decide),Ia (by decide),Ib rfl]
  exact⟨J,d2,rfl,by rw[e];exact G2,k2,b2⟩
 rw[Ia h2]at h;by_cases h3:kind="measure"
 ·rw[Ib h3]at h;cases h;subst h3;have e:e8 "measure"=jP:=by funext ds;unfold e8;rw[Ia (by decide),Ia (by decide),Ia (by decide),Ib rfl]
  exact⟨B,d3,rfl,by rw[e];exact G3,k3,b3⟩
 rw[Ia h3]at h;by_cases h4:kind="mend"
 ·rw[Ib h4]at h;cases h;subst h4;have e:e8 "mend"=pN:=by funext ds;unfold e8;rw[Ia (by decide),Ia (by decide),Ia (by decide),Ia (by decide),Ib rfl]
  exact⟨F,d4,rfl,by rw[e];exact G4,k4,b4⟩
 rw[Ia h4]at h;by_cases h5:kind="alone"
 ·rw[Ib h5]at h;cases h;subst h5;have e:e8 "alone"=pE:=by funext ds;unfold e8;rw[Ia (by decide),Ia (by decide),Ia (by decide),Ia (by decide),Ia (by decide),Ib rfl]
  exact⟨U,Y,rfl,by rw[e];exact G5,k5,b5⟩
 rw[Ia h5]at h;by_cases Z:kind="breach"
 ·rw[Ib Z]at h;cases h;subst Z;have e:e8 "breach"=lX:=by funext ds;unfold e8;rw[Ia (by decide),Ia (by decide),Ia (by decide),Ia (by decide),Ia (by decide),Ia (by decide),Ib rfl]
  exact⟨M,W,rfl,by rw[e];exact G6,k6,b6⟩
 rw[Ia Z]at h;by_cases h7:kind="view"
 ·rw[Ib h7]at h;cases h;subst h7;have e:e8 "view"=uR:=by funext ds;unfold e8;rw[Ia (by decide),Ia (by decide),Ia (by decide),Ia (by decide),Ia (by decide),Ia (by decide),Ia (by decide)]
  exact⟨q,d7,rfl,by rw[e];exact G7,k7,b7⟩
 rw[Ia h7]at h;cases h
def rkD:List (Key×V):=[(Am "measure",.int 0),(Am "mend",.int 2),(Am "alone",.int 2),(Am "breach",.int 3),(Am "view",.int 3)]
def rk(w:Str):Int:=if w="measure" then 0 else if w="mend"∨w="alone" then 2 else if w="breach"∨w="view" then 3 else 1
theorem aG4:∀ w∈dM,(f9 rkD (Am w)).getD (.int 1)=.int (rk w):=by decide
inductive aBb(H:Hp)(x:V)(word name:Str)(day:Int):Prop
 | mk (t:_) (cS:_) (q0:x=.ref t) (q1:H t=some (.tup (.str word :: .str name :: .int day :: cS))) (q2:word∈dM):aBb H x word name day
def yJ(H:Hp)(x:V)(word name:Str)(day:Int):Prop:=aBb H x word name day
theorem yJ.same{H H':Hp}{x:V}{word name:Str}{day:Int}(h:yJ H x word name day)(s:bA H H'):yJ H' x word name day:=by
 obtain⟨t,cS,e,ht,hw⟩:=h;exact⟨t,cS,e,s _ _ ht,hw⟩
theorem aEc{word name:Str}{day:Int}{cS:List V}:atI (V.str word :: .str name :: .int day :: cS) 0=some (.str word)∧atI (V.str word :: .str name :: .int day :: cS) 1=some (.str name)∧atI (V.str word :: .str name :: .int day :: cS) 2=some (.int day):=by
 have q:(V.str word :: V.str name :: V.int day :: cS).length=cS.length + 3:=rfl;unfold atI ixN;rw[q,Ib (by decide),Ib (by omega),Ib (by decide),Ib (by omega),Ib (by decide),Ib (by omega)];exact⟨rfl,rfl,rfl⟩
inductive u7(vs:List V)(H:Hp)(Q:VK)(u3_:XK):Prop
 | mk (x:V) (word name:Str) (day:Int) (q0:vs=[x]) (q1:yJ H x word name day) (q2:∀(q:Ae) (H':Hp),bA H H'→H' q=some (.tup [.int day,.int (rk word),.str name])→Q (.ref q) H'):u7 vs H Q u3_
def oB:Sp:=fun vs H Q u3_=>u7 vs H Q u3_
theorem aBc:bJ ["_law_row_here","_law_ranks"] ["_law_row_here"] (aO pC):=⟨rfl,rfl,rfl,by decide,rfl,by decide,by decide⟩
theorem aEd{f:Ae}{fd:AD}(F:Fun K "_law_place" "_law_place" pC f fd):cH P w K mg base CX0 1 f fd ["_law_row_here"] oB:=by
 refine F.ok aBc (fun vs H Q E h=>?_) (fun O A outer s H vs Q E U h=>?_)
 ·obtain⟨x,word,name,day,rfl,_⟩:=h;rfl
 ·obtain⟨x,word,name,day,rfl,⟨t,cS,rfl,ht,hw⟩,k⟩:=h;have W:=aAI U;refine⟨_,aQ (bQ (i:=1) aBc.nd rfl (AG rfl) (aAG (gY bE aI (gY bE aI (gY bE aI (gY bE aI (gY bE aI aAF))))) rfl rfl (by simp) (by decide)))
   (aU (aZ (dF (aH (bV cG (pv 0) aI Ig) (aH (aCY W (pv 1) (bV cG (pv 0) aI Ig) aI ⟨rfl,rfl,rfl,rfl⟩) (aH (bV cG (pv 0) aI Ig) aG)))))),?_⟩
  obtain⟨r0,r1,r2⟩:=aEc (word:=word) (name:=name) (day:=day) (cS:=cS);refine fun d hd=>?_;refine⟨aJ,rkD,rfl,(by show 5≤15;decide),?_⟩;rw[show mS [] rkD=rkD by first | rfl | decide];have J:bA H (upd (upd H d (.dK [])) d (.dK rkD)):=fun b o e=>by rw[aAq,bU (bF e hd)];exact e
  have z:upd (upd H d (.dK [])) d (.dK rkD) d=some (.dK rkD):=aJ;generalize upd (upd H d (.dK [])) d (.dK rkD)=H2 at J z ⊢;have B:=J _ _ ht;refine⟨_,rfl,t,_,2,_,rfl,rfl,aX B,r2,⟨_,rfl,d,rfl,.inl ⟨rkD,.inl z⟩,_,rfl,t,_,0,_,rfl,rfl,aX B,r0,_,.inl ⟨rkD,Am word,.inl z,rfl,rfl⟩,?_⟩⟩;rw[aG4 word hw];refine⟨_,rfl,t,_,1,_,rfl,rfl,aX B,r1,zZ3,fun q M=>?_⟩;exact k q _ (J.trans (aS M)) aJ
def rkP:List (Key×V):=[(Am "measure",.int 0),(Am "part",.int 1),(Am "join",.int 1),(Am "forfeit",.int 1),(Am "mend",.int 2),(Am "alone",.int 2),(Am "breach",.int 3),(Am "view",.int 3)]
theorem aFm:∀ w∈dM,f9 rkP (Am w)=some (.int (rk w)):=by decide
structure qB(w:AQ)(K:Ag)(a:Ae):Prop where
 ex:∃(e:Nat) (x0 x1 x2 x3 x4 x5 x6 x7 y0 y1 y2 y3 y4 y5 y6 y7:Tok),K.lookup a=some { cls:=.type "dict",data:=.dict #[⟨Av w.params "measure",.str "measure" x0,.int 0 y0⟩,⟨Av w.params "part",.str "part" x1,.int 1 y1⟩,⟨Av w.params "join",.str "join" x2,.int 1 y2⟩,⟨Av w.params "forfeit",.str "forfeit" x3,.int 1 y3⟩,⟨Av w.params "mend",.str "mend" x4,.int 2 y4⟩,⟨Av w.params "alone",.str "alone" x5,.int 2 y5⟩,⟨Av w.params "breach",.str "breach" x6,.int 3 y6⟩,⟨Av w.params "view",.str "view" x7,.int 3 y7⟩] e }
theorem qB.dict{P:Ay}{w:AQ}{K:Ag}{a:Ae}(r:qB w K a):∃ vs,KV rkP vs∧∀ h:A8,K.In h→h.DictOf (cJ P w) a vs:=by
 obtain⟨e,x0,x1,x2,x3,x4,x5,x6,x7,y0,y1,y2,y3,y4,y5,y6,y7,l⟩:=r.ex;refine⟨[(Am "measure",.int 0 y0),(Am "part",.int 1 y1),(Am "join",.int 1 y2),(Am "forfeit",.int 1 y3),(Am "mend",.int 2 y4),(Am "alone",.int 2 y5),(Am "breach",.int 3 y6),(Am "view",.int 3 y7)],?_,fun h z=>⟨_,_,_,z _ _ l,⟨rfl,rfl,rfl⟩,rfl,?_,?_,?_⟩⟩
 ·exact .cons ⟨rfl,_,rfl⟩ (.cons ⟨rfl,_,rfl⟩ (.cons ⟨rfl,_,rfl⟩ (.cons ⟨rfl,_,rfl⟩ (.cons ⟨rfl,_,rfl⟩ (.cons ⟨rfl,_,rfl⟩ (.cons ⟨rfl,_,rfl⟩ (.cons ⟨rfl,_,rfl⟩ (.nil))))))))
 ·intro B q;simp only[List.mem_toArray,Aq,AB,or_false]at q;rcases q with rfl | rfl | rfl | rfl | rfl | rfl | rfl | rfl
  ·exact⟨Am "measure",isS "measure" x0,cW w "measure"⟩
  ·exact⟨Am "part",isS "part" x1,cW w "part"⟩
  ·exact⟨Am "join",isS "join" x2,cW w "join"⟩
  ·exact⟨Am "forfeit",isS "forfeit" x3,cW w "forfeit"⟩
  ·exact⟨Am "mend",isS "mend" x4,cW w "mend"⟩
  ·exact⟨Am "alone",isS "alone" x5,cW w "alone"⟩
  ·exact⟨Am "breach",isS "breach" x6,cW w "breach"⟩
  ·exact⟨Am "view",isS "view" x7,cW w "view"⟩
 ·exact .cons (isS "measure" x0) rfl (.cons (isS "part" x1) rfl (.cons (isS "join" x2) rfl (.cons (isS "forfeit" x3) rfl (.cons (isS "mend" x4) rfl (.cons (isS "alone" x5) rfl (.cons (isS "breach" x6) rfl (.cons (isS "view" x7) rfl (.nil))))))))
 ·show([Am "measure",Am "part",Am "join",Am "forfeit",Am "mend",Am "alone",Am "breach",Am "view"]:List Key).Nodup;decide
theorem aFn:bJ ["row"] ["row"] (aO oZ):=⟨rfl,rfl,rfl,by decide,rfl,by decide,by decide⟩
theorem aEe{f:Ae}{fd:AD}(F:Fun K "order" "order" oZ f fd){z:Ae}(R:qB w K z)(M:mg "RANKS"=some (.ref z)):cH P w K mg base CX0 1 f fd ["row"] oB:=by
 refine F.ok aFn (fun vs H Q E h=>?_) (fun J A outer s H vs Q E O h=>?_)
 ·obtain⟨x,word,name,day,rfl,_⟩:=h;rfl
 ·obtain⟨x,word,name,day,rfl,⟨t,cS,rfl,ht,hw⟩,k⟩:=h;obtain⟨rvs,rel,hd⟩:=R.dict (P:=P);refine⟨_,aU (aZ (dF (aH (bV cG (pv 0) aI Ig) (aH (vS hd rel (by rfl) M (bV cG (pv 0) aI Ig) Ig) (aH (bV cG (pv 0) aI Ig) aG))))),?_⟩;obtain⟨r0,r1,r2⟩:=aEc (word:=word) (name:=name) (day:=day) (cS:=cS);refine⟨_,rfl,t,_,2,_,rfl,rfl,aX ht,r2,_,rfl,t,_,0,_,rfl,rfl,aX ht,r0,Am word,_,rfl,aFm word hw,_,rfl,t,_,1,_,rfl,rfl,aX ht,r1,zZ3,fun q B=>?_⟩;exact k q _ (aS B) aJ
def aEf(ds:List Al):Prop:=∀ d∈ds,dI d=true∧OkD 5000 1 d∧d.hasDict=false
def qC(f h:Str)(a i:Int):Al:=.tuple [.str f,.str h,.int a,.int i]
theorem aAk{f h:Str}{a i:Int}(z:bM f=true)(q:bM h=true)(a1:1≤a)(a2:a≤1000000)(B:0≤i)(F:i≤10000000):dI (qC f h a i)=true∧OkD 5000 1 (qC f h a i)∧(qC f h a i).hasDict=false:=by
 refine⟨?_,?_,rfl⟩
 ·show(bM f && bM h && decide (1≤a∧a≤1000000) && decide (0≤i∧i≤10000000))=true;rw[z,q,Ic ⟨a1,a2⟩,Ic ⟨B,F⟩];rfl
 ·have b:(10000000:Int) < 10 ^ 60:=by decide
  refine(OkD.tuple (n:=4) (b:=102) (k:=0) (fun d hd=>?_) (by show 4≤4;decide)).mono (by decide) (by decide);simp only[Aq,AB,or_false]at hd;rcases hd with rfl | rfl | rfl | rfl
  ·exact OkD.name z
  ·exact OkD.name q
  ·exact OkD.int (by omega) (by omega)
  ·exact OkD.int (by omega) (by omega)
inductive u9(vs:List V)(H:Hp)(Q:VK)(u3_:XK):Prop
 | mk (p c:Ae) (ns:List Int) (a:Int) (lf lh:Ae) (ws hs:List Str) (q0:vs=[.ref p,.ref lf,.ref lh]) (q1:cU H p c ns a) (q2:a≤800000) (q3:H lf=some (.lst (ws.map V.str))) (q4:(∀ w∈ws,bM w=true)) (q5:ws.length≤44) (q6:H lh=some (.lst (hs.map V.str))) (q7:(∀ w∈hs,bM w=true)) (q8:1≤hs.length) (q9:hs.length≤44) (q10:∀ t xs ds a' H',H' t=some (.tup xs)→cM false H' xs ds→aEf ds→ds.map dW=ws→a≤a'→a'≤a + 400→cU H' p c ns a'→aY p H H'→Q (.ref t) H'):u9 vs H Q u3_
def aBd:Sp:=fun vs H Q u3_=>u9 vs H Q u3_
theorem qD:bJ ["_law_pen_here","_law_fields","_law_houses","_law_found","_law_field","_law_house"] ["_law_pen_here","_law_fields","_law_houses"] (aO pB):=⟨rfl,rfl,rfl,by decide,rfl,by decide,by decide⟩
theorem aEg{f:Ae}{fd:AD}(F:Fun K "_law_laying" "_law_laying" pB f fd)(am:mg "len"=none)(af:mg "tuple"=none)
  (GT:Cl P w K mg base 1 "_law_take" ["_law_pen_here","_law_many"] i7)
  (GN:Cl P w K mg base 2 "_law_number" ["_law_pen_here","_law_bottom","_law_most"] aD2):
  cH P w K mg base CX0 3 f fd ["_law_pen_here","_law_fields","_law_houses"] aBd:=by
 refine F.ok qD (fun vs H Q E h=>?_) (fun bn A outer s H vs Q E hr h=>?_)
 ·obtain⟨p,c,ns,a,lf,lh,ws,hs,rfl,_⟩:=h;rfl
 ·obtain⟨p,c,ns,a,lf,lh,ws,hs,rfl,hp,ha,hlf,hw,hwl,hlh,hh,hl1,hl2,k⟩:=h;have aR:cF 1 _:=hr.mono (by decide);refine⟨_,aQ (bQ (i:=3) qD.nd rfl (AG rfl) (d9 aG))
   (aQ (kX BN rfl (jU (pv 1)) (bB (i:=4) qD.nd rfl (AG rfl))
    (aQ (bQ (i:=5) qD.nd rfl (AG rfl) (bV cV (pv 2) (bC GT aR (aH (pv 0) (aH (aW bG (by rfl) am AM (aH (pv 2) aG)) aG))) Ig))
    (aU (hZ (f8 Bj BL BK iH (pv 3) (aH (dF (aH (pv 4) (aH (pv 5) (aH (bC GN hr (aH (pv 0) (aH aI (aH (bO i5 aI aI) aG)))) (aH (bC GN hr (aH (pv 0) (aH aI (aH (bO i5 aI aI) aG)))) aG))))) aG))))))
   (aU (aZ (cC dE (by rfl) af (by kernel_rfl) (aH (pv 3) aG))))),?_⟩
  have cp:∀ j:Int,0≤j→j≤1000000→aGj 10 j:=fun j h1 h2=>⟨h1,h2,by decide⟩
  have p6:((10:Int) ^ Cq 6)=1000000:=by decide
  have p7:((10:Int) ^ Cq 7)=10000000:=by decide
  have e9:(10:Int) ^ 9=1000000000:=by decide
  refine⟨Bc _,fun L hL=>?_⟩;have S0:=aS (o:=.lst []) hL;have aA:L≠p:=by
   obtain⟨l,_,z⟩:=hp.ob;exact(bF z hL).symm
  have aB:L≠c:=(bF hp.ce hL).symm;have aD:lf≠L:=bF hlf hL;have ba:lh≠L:=bF hlh hL;refine⟨_,rfl,lf,rfl,⟨_,aV (S0 _ _ hlf)⟩,wN (K:=K) (xs:=ws.map V.str) (fun i σ H'=>Ex3 fun(o4 o5:Option V) (a':Int)=>∃(xs:List V) (ds:List Al),Aw6 (σ=[some (.ref p),some (.ref lf),some (.ref lh),some (.ref L),o4,o5]) (H' L=some (.lst xs)) (cM false H' xs ds) (aEf ds) (ds.map dW=ws.take i) (Aw6 (cU H' p c ns a') (a≤a') (a'≤a + 8 * i) (aY p H H') (H' lf=some (.lst (ws.map V.str))) (H' lh=some (.lst (hs.map V.str)))))
   ⟨none,none,a,[],[],rfl,aJ,.nil,(fun d hd=>by simp at hd),by simp,hp.same S0,by omega,by simp,bA.but S0,S0 _ _ hlf,S0 _ _ hlh⟩ (fun i σ H' _ h=>?_) ?_ ?_⟩
  ·obtain⟨_,_,_,_,_,_,_,_,_,_,_,_,_,_,h,_⟩:=h;exact aV h
  ·rintro i x σ H1 hx ⟨o4,o5,a1,xs,ds,rfl,U,W,ab,O,B,ak,ae,aa,Z,M⟩;have hi:i < ws.length:=by
    have:=(AE.mp hx).1;simpa using this
   obtain⟨fn,hfn,rfl⟩:∃ fn,ws[i]?=some fn∧x=V.str fn:=by
    rw[AI]at hx;cases e:ws[i]? with
    | none=>rw[e]at hx;cases hx
    | some z=>rw[e]at hx;exact⟨z,rfl,(By.inj hx).symm⟩
   dsimp only[cI];refine⟨_,rfl,_,rfl,_,rfl,lh,_,rfl,.inl (aV M),p,c,ns,a1,_,rfl,B,by omega,by rw[Ab];omega,by rw[Ab];omega,fun r1 a2 H2 au ay l2 u2 av Y=>?_⟩;have ai:=bY M B Y;obtain⟨v,hv,hat⟩:=gH (xs:=hs.map V.str) (i:=r1) au ay;obtain⟨hn,hhn,rfl⟩:=A7.mp hv;refine⟨lh,_,r1,_,rfl,rfl,aV ai,hat,?_⟩;have az:=bY U B Y;refine⟨_,rfl,.inl ⟨rfl,_,aV az⟩,_,rfl,_,rfl,_,rfl,_,_,rfl,rfl,cp _ (by decide) (by decide),p,c,ns,a2,1,1000000,(by show[V.ref p,V.int 1,V.int ((10:Int) ^ Cq 6)] ++ []=_;rw[p6];rfl),av,by omega,by decide,by decide,by omega,fun n1 a3 H3 aN aC l3 u3 aK ao=>?_⟩;refine⟨_,rfl,_,_,rfl,rfl,cp _ (by decide) (by decide),p,c,ns,a3,0,10000000,(by show[V.ref p,V.int 0,V.int ((10:Int) ^ Cq 7)] ++ []=_;rw[p7];rfl),aK,by omega,by decide,by decide,by omega,fun n2 a4 H4 ar bb l4 u4 a0 an=>?_⟩;refine⟨zZ4,fun q hq=>?_⟩;have sq:=aS (o:=.tup [V.str fn,.str hn,.int n1,.int n2]) hq;have J:=((Y.trans ao).trans an).same sq;have ah:=bY U B J;have aT:q≠L:=(bF (bY U B ((Y.trans ao).trans an)) hq).symm;have bc:=aAk (hw fn (A2 hfn)) (hh hn hhn) aN aC ar bb;have bi:xs.length≤44:=by
    have e1:=W.len;have e2:=congrArg ES O;rw[Ab,AC]at e2;omega
   refine⟨L,xs,_,rfl,rfl,ah,jD (by omega),?_⟩;have ag:=wB W B J;have kL:∀(b:Ae) (o:HO),upd H4 q (.tup [V.str fn,.str hn,.int n1,.int n2]) b=some o→b≠L→upd (upd H4 q (.tup [V.str fn,.str hn,.int n1,.int n2])) L (.lst (xs ++ [V.ref q])) b=some o:=fun b o e ne=>by rw[bU ne];exact e
   refine⟨_,_,a4,xs ++ [V.ref q],ds ++ [qC fn hn n1 n2],rfl,aJ,?_,?_,?_,?_,by omega,by omega,?_,?_,?_⟩
   ·refine cM.app (ag.keepF fun b o e _ ax=>kL b o e fun z=>?_) (.cons (.tup (kL _ _ aJ aT) (by show 4≤1000;decide) (.cons (.str _ (by have:=dA (hw fn (A2 hfn));omega)) (.cons (.str _ (by have:=dA (hh hn hhn);omega)) (.cons (.int _) (.cons (.int _) .nil))))) .nil);rw[z,ah]at e;exact ax _ (By.inj e).symm
   ·intro d hd;rcases A4.mp hd with z | z
    ·exact ab d z
    ·rw[Br.mp z];exact bc
   ·rw[Au,O,AN,hfn];rfl
   ·obtain⟨⟨l,hl,e⟩,ce,ge,sm⟩:=a0.same sq;exact⟨⟨l,hl,kL _ _ e aA.symm⟩,kL _ _ ce aB.symm,ge,sm⟩
   ·intro b o e ne;exact kL b o ((aa.trans J) b o e ne) (bF e hL)
   ·exact kL _ _ (bY Z B J) aD
   ·exact kL _ _ (bY M B J) ba
  ·rintro σ H1 ⟨o4,o5,a1,xs,ds,rfl,U,W,ab,O,B,ak,ae,aa,Z,M⟩;rw[Ab]at ae O;rw[AZ]at O;refine⟨_,rfl,L,xs,rfl,.inl ⟨aV U,fun t ht=>?_⟩⟩;have S1:=aS (o:=.tup xs) ht;exact k t xs ds a1 _ aJ (W.same S1) ab O ak (by omega) (B.same S1) (aa.same S1)
theorem iE.word{word:Str}{ds:List Al}(h:iE word ds):word∈dM:=by
 cases h <;> decide
theorem iE.len{word:Str}{ds:List Al}(h:iE word ds):ds.length≤4:=by
 cases h <;> simp
theorem iE.fourth{word:Str}{ds:List Al}(h:iE word ds):∃ d q,ds=d :: q∧(inV (.str word) [V.str "measure",.str "breach",.str "view"]=true→∃ z,d=.str z):=by
 cases h with
 | part _ _ _ _ _=>exact⟨_,_,rfl,fun z=>absurd z (by decide)⟩
 | join _ _ _ _ _=>exact⟨_,_,rfl,fun z=>absurd z (by decide)⟩
 | forfeit _ _=>exact⟨_,_,rfl,fun z=>absurd z (by decide)⟩
 | measure _ _ _=>exact⟨_,_,rfl,fun z=>⟨_,rfl⟩⟩
 | mend _ _ _=>exact⟨_,_,rfl,fun z=>absurd z (by decide)⟩
 | alone _=>exact⟨_,_,rfl,fun z=>absurd z (by decide)⟩
 | breach _ _ _ _ _ _ _=>exact⟨_,_,rfl,fun z=>⟨_,rfl⟩⟩
 | view _ _ _ _=>exact⟨_,_,rfl,fun z=>⟨_,rfl⟩⟩
structure cO where
 word:Str
 name:Str
 day:Int
 ds:List Al
def cO.d(r:cO):Al:=wD r.word r.name r.day r.ds
def cO.key(r:cO):L2.K3:=(r.day,rk r.word,r.name)
structure cO.Ok(r:cO)(fs:List Str):Prop where
 rs:iE r.word r.ds
 nm:bM r.name=true
 d0:0≤r.day
 d1:r.day≤9999
 fi:FIn r.word r.ds fs
theorem cO.Ok.row{r:cO}{fs:List Str}(h:r.Ok fs):aAe r.d=true:=aD8 h.rs h.nm h.d0 h.d1
theorem cO.Ok.at{r:cO}{fs:List Str}(h:r.Ok fs){m:Bool}{H:Hp}{x:V}(rd:RdV m H x r.d):yJ H x r.word r.name r.day:=by
 unfold cO.d wD at rd;cases rd with
 | @tup a xs _ e J q=>
  cases q with
  | cons z q=>
   cases q with
   | cons F q=>
    cases q with
    | cons B q=>
     cases z;cases F;cases B;exact⟨a,_,rfl,e,h.rs.word⟩
inductive aBe(H:Hp)(t:Ae)(ws:List Str):Prop
 | mk (ps:_) (q0:H t=some (.tup ps)) (q1:ps.length=ws.length) (q2:∀(i:Nat) (x:V),ps[i]?=some x→∃(b:Ae) (z:Str) (cS:List V),x=.ref b∧H b=some (.tup (.str z :: cS))∧ws[i]?=some z):aBe H t ws
def aIS(H:Hp)(t:Ae)(ws:List Str):Prop:=aBe H t ws
def aBf(os:List cO):Prop:=os.Pairwise fun a b=>iC a.key b.key=true
theorem aCl{q:List cO}{kk:List L2.K3}{p:List Nat}(M:kk=q.map cO.key)(hn:(q.map (·.name)).Nodup)(O:xL kk p){d:cO}:(p.map fun i=>q.getD i d).Perm q∧aBf (p.map fun i=>q.getD i d):=by
 subst M;obtain⟨hp,hs⟩:=O;rw[Ab]at hp;have J:∀ i∈p,i < q.length:=fun i hi=>BG.mp (hp.mem_iff.mp hi);have F:(q.map cO.key).Nodup:=by
  refine Cr.mpr ((Cr.mp hn).imp fun{a b} h e=>h ?_);exact congrArg (fun z:L2.K3=>z.2.2) e
 refine⟨?_,?_⟩
 ·refine(hp.map _).trans (List.Perm.of_eq ?_);apply B7;intro j;rw[AI];by_cases B:j < q.length
  ·rw[Dh B,Ai B];simp[B]
  ·rw[AK (by simpa using B),AK (by omega)];rfl
 ·have h:=hs F;have e:(p.map fun i=>(q.map cO.key).getD i k0)=(p.map fun i=>q.getD i d).map cO.key:=by
   rw[B6];refine D8 fun i hi=>?_;have:=J i hi;simp[this]
  rw[e]at h;exact Cr.mp h
structure dN(H:Hp)(xs:List V)(us:List cO)(fs:List Str):Prop where
 len:xs.length=us.length
 at':∀(i:Nat) (x:V),xs[i]?=some x→∃ u,us[i]?=some u∧RdV false H x u.d∧u.Ok fs
theorem dN.same{H H':Hp}{xs:List V}{q:List cO}{fs:List Str}(h:dN H xs q fs)(s:bA H H'):dN H' xs q fs:=
 ⟨h.len,fun i x z=>by obtain⟨u,a,b,c⟩:=h.at' i x z;exact⟨u,a,b.same s,c⟩⟩
theorem dN.rdvs{H:Hp}:∀{xs:List V}{q:List cO}{fs:List Str},dN H xs q fs→cM false H xs (q.map cO.d)
 | [],[],_,_=>.nil
 | [],_ :: _,_,h=>by have:=h.len;simp at this
 | _ :: _,[],_,h=>by have:=h.len;simp at this
 | x :: xs,u :: q,fs,h=>by
  obtain⟨u',e,r,_⟩:=h.at' 0 x rfl;have z:u=u':=by simpa using e
  subst z;exact .cons r (dN.rdvs ⟨by simpa using h.len,fun i y B=>h.at' (i + 1) y B⟩)
inductive aBg(H:Hp)(y:V)(k:L2.K3):Prop
 | mk (t:_) (cS:_) (w:_) (n:_) (d:_) (q0:y=.ref t) (q1:H t=some (.tup (.str w :: .str n :: .int d :: cS))) (q2:k=(d,rk w,n)):aBg H y k
def aBh(H:Hp)(y:V)(k:L2.K3):Prop:=aBg H y k
theorem aEh{H:Hp}{y:V}{k:L2.K3}{u:cO}{fs:List Str}(h:aBh H y k)(r:RdV false H y u.d)(ok:u.Ok fs):k=u.key:=by
 obtain⟨t,cS,w,n,d,rfl,e,rfl⟩:=h;obtain⟨t',rest',e1,e2,_⟩:=ok.at r;cases e1;rw[e]at e2;cases e2;rfl
theorem aAl{H1 H':Hp}{xs:List V}{q:List cO}{fs:List Str}{kk:List L2.K3}{p:List Nat}(O:dN H1 xs q fs)(hn:(q.map (·.name)).Nodup)(M:kk.length=xs.length)(hk:∀ i,i < xs.length→aBh H1 (xs.getD i .non) (kk.getD i k0))(U:xL kk p)(s:bA H1 H'):
  ∃ os:List cO,os.Perm q∧aBf os∧dN H' (p.map fun i=>xs.getD i .non) os fs:=by
 have aa:=O.len;have ek:kk=q.map cO.key:=by
  apply List.ext_getElem (by rw[Ab];omega);intro i h1 h2;have hi:i < xs.length:=by omega
  have ab:i < q.length:=by omega
  obtain⟨u,e,r,ok⟩:=O.at' i xs[i] (Ai hi);have eu:q[i]=u:=by rw[Ai ab]at e;simpa using e
  have h3:=hk i hi;have Y:xs.getD i .non=xs[i]:=by simp[hi]
  have e2:kk.getD i k0=kk[i]:=by simp[h1]
  rw[Y,e2]at h3;rw[El,eu];exact aEh h3 r ok
 cases q with
 | nil=>
  have B:xs=[]:=Ce (by simpa using aa);have J:p=[]:=by
   have h:=U.1.length_eq;rw[M,B]at h;simpa using h
  subst B J;exact⟨[],DI _,C9,⟨rfl,fun i x F=>by simp at F⟩⟩
 | cons Z W=>
  obtain⟨h1,h2⟩:=aCl (d:=Z) ek hn U;refine⟨_,h1,h2,⟨by rw[Ab,Ab],fun i x F=>?_⟩⟩;rw[AI]at F;obtain⟨j,hj,rfl⟩:=Cd.mp F;have z:j < xs.length:=by
   have:=BG.mp (U.1.mem_iff.mp (A2 hj));omega
  obtain⟨u,e,r,ok⟩:=O.at' j xs[j] (Ai z);refine⟨u,?_,?_,ok⟩
  ·rw[AI,hj];show some ((Z :: W).getD j Z)=some u;rw[AW,e];rfl
  ·have Y:xs.getD j .non=xs[j]:=by simp[z]
   rw[Y];exact r.same s
theorem aFo{H1:Hp}{xs:List V}{O:List cO}{fs:List Str}(M:dN H1 xs O fs):∀ y∈xs,∀(H':Hp) (Q:VK),bA H1 H'→(∀ t a b c z,bA H' z→z t=some (.tup [.int a,.int b,.str c])→aBh H1 y (a,b,c)→Q (.ref t) z)→oB [y] H' Q E0:=fun y J H' Q S h=>by
 obtain⟨i,hi⟩:=List.getElem?_of_mem J;obtain⟨u,_,r,ok⟩:=M.at' i y hi;have B:=ok.at r;obtain⟨t,cS,rfl,e,hw⟩:=B;exact⟨_,u.word,u.name,u.day,rfl,⟨t,cS,rfl,S _ _ e,hw⟩,fun q H2 F U=>h q _ _ _ H2 F U ⟨t,cS,_,_,_,rfl,e,rfl⟩⟩
inductive aBi(vs:List V)(H:Hp)(Q:VK)(u3_:XK):Prop
 | mk (p c:Ae) (ns:List Int) (a:Int) (name:Str) (day:Int) (tS lf lp lh:Ae) (fs ps hs:List Str) (q0:vs=[.ref p,.str name,.int day,.ref tS]) (q1:cU H p c ns a) (q2:a≤600000) (q3:H tS=some (.tup [.ref lf,.ref lp,.ref lh])) (q4:S3 H lf lp lh fs ps hs) (q5:bM name=true) (q6:0≤day) (q7:day≤9999) (q8:∀(x:V) (r:cO) (a':Int) (H':Hp),RdV false H' x r.d→r.name=name→r.Ok fs→a≤a'→a'≤a + 90→cU H' p c ns a'→aY p H H'→Q x H'):aBi vs H Q u3_
def aFT:Sp:=fun vs H Q u3_=>aBi vs H Q u3_
theorem aFU:bJ ["_law_pen_here","_law_name","_law_day","_law_sorts_here","_law_terms"] ["_law_pen_here","_law_name","_law_day","_law_sorts_here"] (aO aB5):=⟨rfl,rfl,rfl,by decide,rfl,by decide,by decide⟩
theorem aG5{f:Ae}{fd:AD}(F:Fun K "_law_row" "_law_row" aB5 f fd)
  (GT:Cl P w K mg base 1 "_law_take" ["_law_pen_here","_law_many"] i7)
  (GR:Cl P w K mg base 3 "_law_row_of" ["_law_pen_here","_law_word","_law_name","_law_day","_law_sorts_here"] aA9):
  cH P w K mg base CX0 4 f fd ["_law_pen_here","_law_name","_law_day","_law_sorts_here"] aFT:=by
 refine F.ok aFU (fun vs H Q E h=>?_) (fun ai A outer s H vs Q E hr h=>?_)
 ·obtain⟨p,c,ns,a,name,day,tS,lf,lp,lh,fs,ps,hs,rfl,_⟩:=h;rfl
 ·obtain⟨p,c,ns,a,name,day,tS,lf,lp,lh,fs,ps,hs,rfl,hp,ha,htS,h3,hnm,d0,d1,k⟩:=h;have Z:cF 1 _:=hr.mono (by decide);refine⟨_,aQ (bQ (i:=4) aFU.nd rfl (AG rfl) (d9 (aH bE (aH bE (aH bE (aH bE (aH bE (aH bE (aH bE (aH bE (aH bE (aH bE aG))))))))))))
   (aU (aZ (bC GR hr (aH (pv 0) (aH (bV cV (pv 4) (bC GT Z (aH (pv 0) (aH aI aG))) Ig) (aH (pv 1) (aH (pv 2) (aH (pv 3) aG)))))))),?_⟩
  refine⟨aIt,fun L hL=>?_⟩;have J:=aS (o:=.lst [V.str "part",.str "join",.str "forfeit",.str "measure",.str "mend",.str "alone",.str "breach",.str "view",.str "part",.str "join"]) hL;refine⟨_,rfl,_,rfl,_,rfl,p,c,ns,a,_,rfl,hp.same J,by omega,by decide,by decide,fun r1 a1 H1 U ao af aj M z=>?_⟩;obtain⟨v,hv,hat⟩:=gH (xs:=[V.str "part",.str "join",.str "forfeit",.str "measure",.str "mend",.str "alone",.str "breach",.str "view",.str "part",.str "join"]) (i:=r1) U (by show r1 < 10;omega);obtain⟨word,rfl,hw⟩:∃ word:Str,v=.str word∧word∈dM:=by
   simp only[Aq,AB,or_false]at hv;rcases hv with rfl | rfl | rfl | rfl | rfl | rfl | rfl | rfl | rfl | rfl <;> exact⟨_,rfl,by decide⟩
  have k1:aY p H H1:=(bA.but J).trans z;refine⟨L,_,r1,_,rfl,rfl,aV (bY aJ (hp.same J) z),hat,_,rfl,_,rfl,_,rfl,p,c,ns,a1,word,name,day,tS,lf,lp,lh,fs,ps,hs,rfl,M,by omega,wC htS hp k1,h3.but hp k1,hw,hnm,fun t ds cS a2 H2 ht q B O ag ae W Y=>?_⟩;have an:=q.len;have am:=B.len;exact k (.ref t) ⟨word,name,day,ds⟩ a2 H2 (.tup ht (by simp only[A0];omega) (.cons (.str word (aD9 hw)) (.cons (iZ hnm) (.cons (.int day) q)))) rfl ⟨B,hnm,d0,d1,O⟩ (by omega) (by omega) W (k1.trans Y)
def cB(i:Int):Str:=A5 (toString i)
def tS:Al→Str | .str z=>z | .int i=>cB i | _=>D7
def aEi:Al→List Str
 | .tuple es=>es.flatMap fun e=>match e with | .tuple fs=>fs.map tS | e=>[tS e]
 | e=>[tS e]
def mI(word:Str)(ds:List Al):List Str:=if word="join" then(ds.take 1).flatMap aEi ++ (("as":Str) :: (ds.drop 1).map tS) else ds.flatMap aEi
def dU(r:cO):List Str:=r.word :: r.name :: cB r.day :: mI r.word r.ds
def eZ(x:P3):List Str:=[x.1,x.2.1,cB x.2.2]
theorem kC(q:Str)(R:List P3):mI "part" [.str q,.tuple (R.map pD)]=q :: R.flatMap eZ:=by
 unfold mI;rw[Ia (by decide)];show[q] ++ ((R.map pD).flatMap _ ++ [])=_;rw[Cm,List.flatMap_map];rfl
theorem kE(q:Str)(R:List Str):mI "join" [.tuple (R.map Bk),.str q]=R ++ [("as":Str),q]:=by
 unfold mI;rw[Ib rfl];show((R.map Bk).flatMap _ ++ []) ++ _=_;rw[Cm,List.flatMap_map];congr 1
 induction R with
 | nil=>rfl
 | cons z R B=>rw[Dw,B];rfl
theorem iN{i:Int}(q:0≤i)(h1:i≤1000000000):i.natAbs.log2 < 1920:=by
 have h:i.natAbs≤1000000000:=by omega
 rcases Nat.eq_zero_or_pos i.natAbs with z | z
 ·rw[z];decide
 ·refine(EY (by omega)).mpr (CP h (by decide))
theorem cO.Ok.open{r:cO}{fs:List Str}(h:r.Ok fs){H:Hp}{x:V}(rd:RdV false H x r.d):∃ t ys,x=.ref t∧H t=some (.tup (.str r.word :: .str r.name :: .int r.day :: ys))∧cM false H ys r.ds:=by
 have z:RdV false H x (.tuple (.str r.word :: .str r.name :: .int r.day :: r.ds)):=rd;cases z with
 | tup e B q=>
  cases q with
  | cons a q=>
   cases a;cases q with
   | cons a q=>
    cases a;cases q with
    | cons a q=>
     cases a;exact⟨_,_,rfl,e,q⟩
theorem rd1{H:Hp}{ys:List V}{d:Al}(h:cM false H ys [d]):∃ y,ys=[y]∧RdV false H y d:=by
 cases h with
 | cons a r=>cases r;exact⟨_,rfl,a⟩
theorem rd2{H:Hp}{ys:List V}{d e:Al}(h:cM false H ys [d,e]):∃ y z,ys=[y,z]∧RdV false H y d∧RdV false H z e:=by
 cases h with
 | cons a r=>
  obtain⟨z,rfl,b⟩:=rd1 r;exact⟨_,z,rfl,a,b⟩
theorem rdS{m:Bool}{H:Hp}{y:V}{z:Str}(h:RdV m H y (.str z)):y=.str z:=by
 cases h;rfl
theorem rdI{m:Bool}{H:Hp}{y:V}{i:Int}(h:RdV m H y (.int i)):y=.int i:=by
 cases h;rfl
def g8(d:Al):Prop:=(∃ z,d=.str z∧bM z=true)∨∃ i,d=.int i∧0≤i∧i≤1000000000
theorem g8.fm{d:Al}(h:g8 d){m:Bool}{H:Hp}{y:V}(r:RdV m H y d):Fm y (tS d):=by
 rcases h with⟨z,rfl,hz⟩ | ⟨i,rfl,h0,h1⟩
 ·rw[rdS r];exact .str z (aM (by have:=(dA hz).2;omega))
 ·rw[rdI r];exact .int i (iN h0 h1)
theorem g8.item{d:Al}(h:g8 d):aEi d=[tS d]:=by
 rcases h with⟨z,rfl,hz⟩ | ⟨i,rfl,h0,h1⟩ <;> rfl
theorem iE.flat{word:Str}{ds:List Al}(h:iE word ds)(h1:word≠"part")(h2:word≠"join"):(∀ d∈ds,g8 d)∧mI word ds=ds.map tS∧ds.length≤4:=by
 have M:∀{ds:List Al},(∀ d∈ds,g8 d)→ds.length≤4→(∀ d∈ds,g8 d)∧mI word ds=ds.map tS∧ds.length≤4:=fun{ds} h Z=>by
  refine⟨h,?_,Z⟩;unfold mI;rw[Ia h2];clear Z
  induction ds with
  | nil=>rfl
  | cons d r ih=>rw[Dw,(h d AH).item,ih fun e O=>h e (AF _ O)];rfl
 have J:∀ e∈([]:List Al),g8 e:=fun e O=>by simp at O
 have q:∀{d:Al} {ds:List Al},g8 d→(∀ e∈ds,g8 e)→∀ e∈d :: ds,g8 e:=fun{d ds} hd hs e O=>by
  rcases Aq.mp O with z | z
  ·rw[z];exact hd
  ·exact hs e z
 have B:∀{z:Str},bM z=true→g8 (.str z):=fun h=>.inl ⟨_,rfl,h⟩;have Y:∀{i:Int},0≤i→i≤1000000000→g8 (.int i):=fun h0 h1=>.inr ⟨_,rfl,h0,by omega⟩;cases h with
 | part=>exact absurd rfl h1
 | join=>exact absurd rfl h2
 | forfeit Z U=>exact M (q (B Z) (q (B U) J)) (by simp)
 | measure W h0 h1=>exact M (q (B W) (q (Y h0 (by omega)) J)) (by simp)
 | mend U ho _=>exact M (q (B U) (q (B ho) J)) (by simp)
 | alone U=>exact M (q (B U) J) (by simp)
 | breach W F ac ad aa ae ai=>exact M (q (B W) (q (Y F (by omega)) (q (Y ad aa) (q (Y ae (by omega)) J)))) (by simp)
 | view W F ac hv=>exact M (q (B W) (q (Y F (by omega)) (q (B hv) J))) (by simp)
theorem iE.isPart{word:Str}{ds:List Al}(h:iE word ds)(e:word="part"):∃(q:Str) (R:List P3),ds=[.str q,.tuple (R.map pD)]∧bM q=true∧(R.map pD).all fB=true∧R.length≤6:=by
 cases h with
 | part B F h2 z ha=>exact⟨_,_,rfl,B,ha,z⟩
 | _=>exact absurd e (by decide)
theorem iE.isJoin{word:Str}{ds:List Al}(h:iE word ds)(e:word="join"):∃(q:Str) (R:List Str),ds=[.tuple (R.map Bk),.str q]∧bM q=true∧(∀ z∈R,bM z=true)∧R.length≤6:=by
 cases h with
 | join F J h2 B ha=>exact⟨_,_,rfl,F,fun z hz=>AU.mp ha (.str z) (List.mem_map_of_mem hz),B⟩
 | _=>exact absurd e (by decide)
theorem rdT{m:Bool}{H:Hp}{y:V}{ds:List Al}(h:RdV m H y (.tuple ds)):∃ b zs,y=.ref b∧H b=some (.tup zs)∧cM m H zs ds:=by
 cases h with
 | tup e q r=>exact⟨_,_,rfl,e,r⟩
theorem sZ{m:Bool}{H:Hp}:∀{zs:List V}{R:List Str},cM m H zs (R.map Bk)→zs=R.map V.str
 | _,[],h=>by cases h;rfl
 | _,z :: R,h=>by
  cases h with
  | cons a r=>rw[rdS a,sZ r];rfl
theorem oC{H X:Hp}{L:Ae}{o:HO}(s:bA H X)(n:H L=none):bA H (upd X L o):=fun b u e=>by
 rw[bU (bF e n)];exact s b u e
theorem vA{H H':Hp}{a:Ae}(s:bA H H')(h:H' a=none):H a=none:=by
 cases q:H a with
 | none=>rfl
 | some o=>rw[s _ _ q]at h;cases h
theorem qE{H:Hp}{a b:Ae}{o:HO}{xs:List V}(ha:H a=some o)(q:H b=some (.lst xs))(h:∀ ys,o≠.lst ys):a≠b:=fun e=>by
 rw[e,q]at ha;cases ha;exact h xs rfl
theorem oD{H H':Hp}{L q:Ae}{xs ys:List V}(k:aY L H H')(B:H L=some (.lst xs))(e:H q=some (.tup ys)):H' q=some (.tup ys):=k q _ e (qE e B fun _ z=>nomatch z)
theorem aBj{H:Hp}{zs:List V}{R:List P3}(h:cM false H zs (R.map pD)){i:Nat}{v:V}(z:zs[i]?=some v):∃ x q,R[i]?=some x∧v=.ref q∧H q=some (.tup [.str x.1,.str x.2.1,.int x.2.2]):=by
 obtain⟨d,hd,rv⟩:=h.at z;rw[AI]at hd;obtain⟨x,hx,rfl⟩:=Cd.mp hd;obtain⟨b,ws,rfl,e,r⟩:=rdT rv;cases r with
 | cons a r=>
  cases a;cases r with
  | cons a r=>
   cases a;obtain⟨y,rfl,c⟩:=rd1 r;cases c;exact⟨x,b,hx,rfl,e⟩
theorem oE{R:List P3}(h:(R.map pD).all fB=true){x:P3}(q:x∈R):bM x.1=true∧bM x.2.1=true∧1≤x.2.2∧x.2.2≤10000000:=by
 have:=AU.mp h (pD x) (List.mem_map_of_mem q);have h2:(bM x.1 && bM x.2.1 && decide (1≤x.2.2∧x.2.2≤10000000))=true:=this;rw[A9,A9]at h2;exact⟨h2.1.1,h2.1.2,(Ie h2.2).1,(Ie h2.2).2⟩
theorem i0(R:List P3):(R.flatMap eZ).length=3 * R.length:=by
 induction R with
 | nil=>rfl
 | cons x R q=>rw[Dw,An,q,A0];show 3 + _=_;omega
structure kF(z:Str):Prop where
 len:z.length≤11
 free:∀ c,c < 48→c ∉ z.cps.toList
theorem kO{z:Str}(h:bM z=true):kF z:=by
 refine⟨by have:=(dA h).2;omega,fun c hc hm=>?_⟩;unfold bM at h;rw[A9,AU]at h;have:=Ie (h.2 c hm);omega
theorem tD{i:Int}(z:0≤i)(h1:i≤1000000000):kF (cB i):=by
 obtain⟨m,rfl⟩:∃ m:Nat,i=m:=⟨i.toNat,by omega⟩
 have hm:m≤1000000000:=by omega
 exact⟨A3 (vZ (k:=10) (CP hm (by decide)) (by decide)) (by decide),fun c hc q=>by have:=(mW m c q).1;omega⟩
theorem aHW:kF "as":=kO (by decide)
theorem cO.Ok.words{r:cO}{fs:List Str}(h:r.Ok fs):(∀ z∈dU r,kF z)∧(dU r).length≤24:=by
 have F:∀{l:List Str},((∀ z∈l,kF z)∧l.length≤21)→(∀ z∈r.word :: r.name :: cB r.day :: l,kF z)∧(r.word :: r.name :: cB r.day :: l).length≤24:=fun{l} hl=>by
  refine⟨fun z hz=>?_,by simp only[A0];omega⟩;have d1:=h.d1;simp only[Aq]at hz;rcases hz with rfl | rfl | rfl | hz
  ·have:∀ w∈dM,bM w=true:=by decide
   exact kO (this _ h.rs.word)
  ·exact kO h.nm
  ·exact tD h.d0 (by omega)
  ·exact hl.1 z hz
 refine F ?_;by_cases B:r.word="part"
 ·obtain⟨land,R,eds,hl,ha,h6⟩:=h.rs.isPart B;rw[eds,B,kC];refine⟨fun z hz=>?_,by rw[A0,i0];omega⟩;rcases Aq.mp hz with rfl | hz
  ·exact kO hl
  ·obtain⟨x,hx,hz⟩:=List.mem_flatMap.mp hz;obtain⟨p1,p2,p3,p4⟩:=oE ha hx;unfold eZ at hz;simp only[Aq,AB,or_false]at hz;rcases hz with rfl | rfl | rfl
   ·exact kO p1
   ·exact kO p2
   ·exact tD (by omega) (by omega)
 by_cases q:r.word="join"
 ·obtain⟨land,R,eds,hl,ha,h6⟩:=h.rs.isJoin q;rw[eds,q,kE];refine⟨fun z hz=>?_,by rw[An];show _ + 2≤_;omega⟩;rcases A4.mp hz with hz | hz
  ·exact kO (ha z hz)
  ·simp only[Aq,AB,or_false]at hz;rcases hz with rfl | rfl
   ·exact aHW
   ·exact kO hl
 ·obtain⟨hfl,erw,h4⟩:=h.rs.flat B q;rw[erw];refine⟨fun z hz=>?_,by rw[Ab];omega⟩;obtain⟨d,hd,rfl⟩:=A7.mp hz;rcases hfl d hd with⟨z,rfl,hn⟩ | ⟨i,rfl,h0,h1⟩
  ·exact kO hn
  ·exact tD h0 h1
theorem kG{n:Nat}:∀{q:List Str},(∀ z∈q,z.length≤n)→(q.map (·.length)).sum≤n * q.length
 | [],_=>by simp
 | z :: q,h=>by
  have h1:=h z AH;have h2:=kG fun y B=>h y (AF _ B);rw[Bg,EI,A0,Nat.mul_succ];omega
inductive oF(vs:List V)(H:Hp)(Q:VK)(u3_:XK):Prop
 | mk (x:V) (r:cO) (fs:List Str) (q0:vs=[x]) (q1:RdV false H x r.d) (q2:r.Ok fs) (q3:∀(L:Ae) (H':Hp),bA H H'→H' L=some (.lst ((dU r).map V.str))→Q (.ref L) H'):oF vs H Q u3_
def tE:Sp:=fun vs H Q u3_=>oF vs H Q u3_
def fE(r:cO):Str:=CK " " (dU r)
inductive pP(vs:List V)(H:Hp)(Q:VK)(u3_:XK):Prop
 | mk (x:V) (r:cO) (fs:List Str) (q0:vs=[x]) (q1:RdV false H x r.d) (q2:r.Ok fs) (q3:∀(H':Hp),bA H H'→Q (.str (fE r)) H'):pP vs H Q u3_
def lY:Sp:=fun vs H Q u3_=>pP vs H Q u3_
theorem tF:bJ ["row","kind","name","day","words","land","house","acres"] ["row"] (aO gL):=⟨rfl,rfl,rfl,by decide,rfl,by decide,by decide⟩
theorem yK{f:Ae}{fd:AD}(F:Fun K "row_words" "row_words" gL f fd)(J:mg "str"=none)(aa:mg "list"=none)
  :cH P w K mg base CX0 1 f fd ["row"] tE:=by
 refine F.ok tF (fun vs H Q E h=>?_) (fun bh A outer s H vs Q E hr h=>?_)
 ·obtain⟨x,r,fs,rfl,_⟩:=h;rfl
 ·obtain⟨x,r,fs,rfl,rd,ok,k⟩:=h;have nd:=tF.nd;refine⟨_,(aQ (jT (c7 lJ (pv 0) dZ (dD aI)) (iP rfl (bZ (bB (i:=1) nd rfl (AG rfl)) (bZ (bB (i:=2) nd rfl (AG rfl)) (bZ (bB (i:=3) nd rfl (AG rfl)) fW)))))
   (aQ (bQ (i:=4) nd rfl (AG rfl) (d9 (aH (pv 1) (aH (pv 2) (aH (cC jI (by rfl) J (by kernel_rfl) (aH (pv 3) aG)) aG)))))
   (aQ (g9 (cX (bS eU (pv 1) bE (cA _)) (aQ (hZ (f8 Bj BL BK iH (pv 4) (aH (bV cG (pv 0) aI Ig) aG)))
    (aU (kX BN rfl (iQ (bV cG (pv 0) aI Ig)) (g:=aEE K 3 (pH (cI 5) (pH (cI 6) (pH (cI 7) aED)))) (iP rfl (bZ (bB (i:=5) nd rfl (AG rfl)) (bZ (bB (i:=6) nd rfl (AG rfl)) (bZ (bB (i:=7) nd rfl (AG rfl)) fW))))
    (aU (hZ (f8 Bj Dr Dq oK (pv 4) (aH (d9 (aH (pv 5) (aH (pv 6) (aH (cC jI (by rfl) J (by kernel_rfl) (aH (pv 7) aG)) aG)))) aG))))))) (aU (cX (bS eU (pv 1) bE (cA _)) (aU (hZ (f8 Bj Dr Dq oK (pv 4) (aH (bO j0 (cC dO (by rfl) aa (by kernel_rfl) (aH (bV cG (pv 0) aI Ig) aG)) (d9 (aH bE (aH (bV cG (pv 0) aI Ig) aG)))) aG)))) (aU (hZ (f8 Bj Dr Dq oK (pv 4) (aH (eG (N:=["thing"]) (src:=[none]) (osc:=aO gL) (oN:=["row","kind","name","day","words","land","house","acres"]) ⟨by rfl,by decide,by decide,by decide,rfl,by rfl⟩ (iQ (c7 lJ (pv 0) (dD aI) dZ)) (fun cl s H fp bd C=>⟨bB (i:=0) (show(["thing"]:List Str).Nodup by decide) rfl (AG rfl),c8,cC (r:=aES) jI (by rfl) J (by kernel_rfl) (aH (pv 0) aG)⟩)) aG))))))))
   (aU (aZ (pv 4)))))),?_⟩
  obtain⟨t,ys,rfl,et,ry⟩:=ok.open rd;refine⟨_,rfl,3,rfl,t,_,rfl,et,fun q H1 s1 e1=>?_⟩;have ec:fG (V.str r.word :: .str r.name :: .int r.day :: ys) none (some 3)=[.str r.word,.str r.name,.int r.day]:=lA (α:=Nat) (V.str r.word :: .str r.name :: .int r.day :: ys) 3;rw[ec]at e1;refine⟨q,_,rfl,aX e1,rfl,_,_,rfl,_,_,rfl,_,_,rfl,rfl,?_⟩;have d0:=ok.d0;have d1:=ok.d1;refine⟨_,rfl,_,rfl,_,rfl,⟨_,_,rfl,.int r.day (iN d0 (by omega)),zZ3,fun L hL=>?_⟩⟩;have sL:=aS (o:=.lst [V.str r.word,.str r.name,.str (toString r.day)]) hL;have U:upd H1 L (.lst [V.str r.word,.str r.name,.str (toString r.day)]) L=some (.lst (([r.word,r.name,cB r.day]:List Str).map V.str)):=aJ;generalize upd H1 L _=H2 at sL U ⊢;have s2:=s1.trans sL;have O:=s2 _ _ et;have B:=ry.same s2;dsimp only[cI];refine⟨fun σ' H'=>∃(o5 o6 Y:Option V),σ'=[some (.ref t),some (.str r.word),some (.str r.name),some (.int r.day),some (.ref L),o5,o6,Y]∧bA H H'∧H' L=some (.lst ((dU r).map V.str)),?_,?_⟩
  ·have W:H L=none:=vA s1 hL;refine⟨_,rfl,rfl,_,rfl,dR (fun g=>?_) fun g=>?_⟩
   ·have hw:r.word="part":=V.str.inj (Ie g);obtain⟨land,R,eds,hl,ha,h6⟩:=ok.rs.isPart hw;rw[eds]at B;obtain⟨y,z,rfl,ra,rb⟩:=rd2 B;have ey:=rdS ra;subst ey;obtain⟨b,zs,rfl,eb,rz⟩:=rdT rb;have ax:zs.length=R.length:=by rw[rz.len,Ab]
    refine⟨_,rfl,.inl ⟨rfl,_,aV U⟩,_,rfl,t,_,3,_,rfl,rfl,aX O,c3 (j:=3) rfl,L,_,.str land,rfl,rfl,U,AS (show 3 < 1000000 by decide) (aM (Ak _)),?_⟩;have eW:dU r=[r.word,r.name,cB r.day,land] ++ R.flatMap eZ:=by
     unfold dU;rw[eds,hw,kC];rfl
    have kb:aY L H2 (upd H2 L (.lst (([r.word,r.name,cB r.day]:List Str).map V.str ++ [V.str land]))):=(aY.refl _ _).upd;refine⟨_,rfl,t,_,4,_,rfl,rfl,aX (oD kb U O),c3 (j:=4) rfl,b,rfl,⟨_,aX (oD kb U eb)⟩,aAt (K:=K) (xs:=zs) (fun i σ H'=>Ex3 fun(o5 o6 Y:Option V)=>Aw3 (σ=[some (.ref t),some (.str r.word),some (.str r.name),some (.int r.day),some (.ref L),o5,o6,Y]) (bA H H') (aY L H2 H'∧H' L=some (.lst (([r.word,r.name,cB r.day,land] ++ (R.take i).flatMap eZ).map V.str)))) ⟨none,none,none,rfl,oC s2 W,kb,by rw[aJ];rfl⟩ (fun i σ H' _ z=>by obtain⟨_,_,_,_,_,z,_⟩:=z;exact aX (oD z U eb)) ?_ ?_⟩
    ·rintro i v σ HI hv ⟨o5,o6,Y,rfl,sI,kI,eI⟩;obtain⟨x,q,hx,rfl,eq⟩:=aBj rz hv;obtain⟨_,_,a0,a1⟩:=oE ha (A2 hx);have bf:=(AE.mp hv).1;refine⟨q,_,rfl,aX (oD kI U eq),rfl,_,_,rfl,_,_,rfl,_,_,rfl,rfl,⟨_,rfl,.inl ⟨rfl,_,aV eI⟩,_,rfl,_,rfl,_,rfl,⟨_,_,rfl,.int x.2.2 (iN (by omega) (by omega)),zZ3,fun M hM=>?_⟩⟩⟩;have sM:=aS (o:=.lst [V.str x.1,.str x.2.1,.str (toString x.2.2)]) hM;have ab:=i0 (R.take i);refine⟨L,M,_,_,rfl,rfl,sM _ _ eI,aJ,aM (by rw[Ab,An,ab,AC];show 4 + _ + 3≤_;omega),_,_,_,rfl,oC (sI.trans sM) W,fun c o e hc=>?_,?_⟩
     ·rw[bU hc];exact sM _ _ (kI c o e hc)
     ·have em:([r.word,r.name,cB r.day,land] ++ (R.take (i + 1)).flatMap eZ).map V.str=([r.word,r.name,cB r.day,land] ++ (R.take i).flatMap eZ).map V.str ++ [V.str x.1,.str x.2.1,.str (toString x.2.2)]:=by
       rw[AN,hx,List.flatMap_append,← BU,Au];rfl
      rw[aJ,em]
    ·rintro σ HI ⟨o5,o6,Y,rfl,sI,kI,eI⟩;refine⟨o5,o6,Y,rfl,sI,?_⟩;rw[eI,ax,AZ,← eW]
   ·have aD:r.word≠"part":=fun e=>g (by rw[e];rfl);refine⟨_,rfl,rfl,_,rfl,dR (fun g2=>?_) fun g2=>?_⟩
    ·have hw:r.word="join":=V.str.inj (Ie g2);obtain⟨land,R,eds,hl,ha,h6⟩:=ok.rs.isJoin hw;rw[eds]at B;obtain⟨y,z,rfl,ra,rb⟩:=rd2 B;have ez:=rdS rb;subst ez;obtain⟨b,zs,rfl,eb,rz⟩:=rdT ra;have aL:=sZ rz;subst aL;have eW:dU r=[r.word,r.name,cB r.day] ++ (R ++ [("as":Str),land]):=by
      unfold dU;rw[eds,hw,kE];rfl
     refine⟨_,rfl,.inl ⟨rfl,_,aV U⟩,_,rfl,t,_,3,_,rfl,rfl,aX O,c3 (j:=3) rfl,b,_,rfl,.inr (aX eb),fun l1 aE=>?_⟩;have Z:=aS (o:=.lst (R.map V.str)) aE;have ag:upd H2 l1 (.lst (R.map V.str)) l1=some (.lst (R.map V.str)):=aJ;generalize upd H2 l1 _=H3 at Z ag ⊢;refine⟨_,rfl,t,_,4,_,rfl,rfl,aX (Z _ _ O),c3 (j:=4) rfl,zZ2,fun l2 aw=>?_⟩;have ad:=aS (o:=.lst [V.str "as",.str land]) aw;have aj:upd H3 l2 (.lst [V.str "as",.str land]) l2=some (.lst [V.str "as",.str land]):=aJ;generalize upd H3 l2 _=H4 at ad aj ⊢;refine⟨l1,l2,_,_,rfl,rfl,ad _ _ ag,aj,aM (by rw[Ab];show _ + 2≤_;omega),fun l3 aC=>?_⟩;have aB:=aS (o:=.lst (R.map V.str ++ [V.str "as",.str land])) aC;have ai:=Z.trans (ad.trans aB);refine⟨L,l3,_,_,rfl,rfl,ai _ _ U,aJ,aM (by rw[An,Ab,Ab];show 3 + (_ + 2)≤_;omega),_,_,_,rfl,oC (s2.trans ai) W,?_⟩;rw[aJ,eW,Au,Au];rfl
    ·have aK:r.word≠"join":=fun e=>g2 (by rw[e];rfl);obtain⟨ab,erw,h4⟩:=ok.rs.flat aD aK;have az:=B.len;have eW:dU r=[r.word,r.name,cB r.day] ++ r.ds.map tS:=by
      unfold dU;rw[erw];rfl
     refine⟨_,rfl,.inl ⟨rfl,_,aV U⟩,_,rfl,3,rfl,t,_,rfl,O,fun q H3 s3 e3=>?_⟩;have ec:fG (V.str r.word :: .str r.name :: .int r.day :: ys) (some 3) none=ys:=rE (α:=Nat) (V.str r.word :: .str r.name :: .int r.day :: ys) 3;rw[ec]at e3;refine⟨q,rfl,⟨_,aX e3⟩,?_⟩;refine gA (K:=K) (xs:=ys) (fun i zs σ' H'=>∃(o:Option V),σ'=[o]∧H'=H3∧zs=((r.ds.take i).map tS).map V.str) ⟨none,rfl,rfl,rfl⟩ (aM (by omega)) (fun i zs σ H' p=>by obtain⟨_,_,_,rfl⟩:=p;rw[Ab,Ab,AC];omega) (fun i zs σ H' p=>by obtain⟨_,_,rfl,_⟩:=p;exact aX e3) ?_ ?_
     ·rintro i v zs σ' H' hv ⟨o,rfl,rfl,rfl⟩;obtain⟨d,hd,rv⟩:=(B.same s3).at hv;dsimp only[cI];refine c4 ?_;refine⟨_,rfl,⟨_,_,rfl,(ab d (A2 hd)).fm rv,_,rfl,rfl,?_⟩⟩;rw[AN,hd,Au,Au];rfl
     rintro zs σ' H' ⟨o,rfl,rfl,rfl⟩ N hN;rw[az,AZ];have sN:=aS (o:=.lst ((r.ds.map tS).map V.str)) hN;refine⟨L,N,_,_,rfl,rfl,(s3.trans sN) _ _ U,aJ,aM (by rw[Ab,Ab,Ab];show 3 + _≤_;omega),_,_,_,rfl,oC (s2.trans (s3.trans sN)) W,?_⟩;rw[aJ,eW,Au]
  ·rintro σ' H' ⟨o5,o6,Y,rfl,s3,e3⟩;exact⟨_,rfl,k L H' s3 e3⟩
theorem vB:bJ ["row"] ["row"] (aO jJ):=⟨rfl,rfl,rfl,by decide,rfl,by decide,by decide⟩
theorem aAm{f:Ae}{fd:AD}(F:Fun K "row_text" "row_text" jJ f fd)
  (M:Cl P w K mg base 1 "row_words" ["row"] tE)
  :cH P w K mg base CX0 2 f fd ["row"] lY:=by
 refine F.ok vB (fun vs H Q E h=>?_) (fun O A outer s H vs Q E U h=>?_)
 ·obtain⟨x,r,fs,rfl,_⟩:=h;rfl
 ·obtain⟨x,r,fs,rfl,rd,ok,k⟩:=h;have nd:=vB.nd;have B:cF 1 _:=U;refine⟨_,(aU (aZ (f8 PySem.F.plainAttrs_str PySem.F.slot_str_join PySem.F.type_str_join lG bE (aH (bC M B (aH (pv 0) aG)) aG)))),rfl,_,rfl,x,r,fs,rfl,rd,ok,fun L H1 Y q=>?_⟩;obtain⟨hw,hl⟩:=ok.words;have J:=kG fun z hz=>(hw z hz).len;have W:(" ":Str).length=1:=by decide
  exact⟨" ",L,dU r,rfl,rfl,aV q,by rw[W];omega,k _ Y⟩
theorem gW(q:Str)(z:List Str):CK q z=B1 q z:=by
 show DS q z=_;rw[StrLaws.glued_eq_join]
def hV:Al→List Str | .tuple ds=>("field":Str) :: ds.map tS | _=>[]
def cZ(d:Al):Str:=CK " " (hV d)
def tG(lds:List Al)(us:List cO):Str:=CK "\n" (lds.map cZ ++ us.map fE)
theorem gT{d:Al}(h:dI d=true):∃(f g:Str) (a i:Int),d=.tuple [.str f,.str g,.int a,.int i]∧bM f=true∧bM g=true∧1≤a∧a≤1000000∧0≤i∧i≤10000000:=by
 obtain⟨f,g,a,i,rfl,h1,h2,z,q⟩:=sY h;cases g with
 | str g=>
  cases a with
  | int a=>
   cases i with
   | int i=>
    have z:=Ie (show decide (1≤a∧a≤1000000)=true from z);have q:=Ie (show decide (0≤i∧i≤10000000)=true from q);exact⟨f,g,a,i,rfl,h1,h2,z.1,z.2,q.1,q.2⟩
   | _=>simp[c5]at q
  | _=>simp[c5]at z
 | _=>simp[bW]at h2
theorem aAn(f g a i:Str):D7 ++ ("field ":Str) ++ f ++ (" ":Str) ++ g ++ (" ":Str) ++ a ++ (" ":Str) ++ i=CK " " [("field":Str),f,g,a,i]:=by
 rw[gW];apply Str.ext';apply CA.mp;show _=(("field":Str) ++ (" ":Str) ++ (f ++ (" ":Str) ++ (g ++ (" ":Str) ++ (a ++ (" ":Str) ++ i)))).cps.toList;simp only[iD];have z:D7.cps.toList=[]:=by decide
 have q:("field ":Str).cps.toList=("field":Str).cps.toList ++ (" ":Str).cps.toList:=by decide
 rw[z,q];simp only[List.nil_append,BU]
inductive mJ(vs:List V)(H:Hp)(Q:VK)(u3_:XK):Prop
 | mk (x:V) (d:Al) (q0:vs=[x]) (q1:RdV false H x d) (q2:dI d=true) (q3:∀(H':Hp),bA H H'→Q (.str (cZ d)) H'):mJ vs H Q u3_
def pQ:Sp:=fun vs H Q u3_=>mJ vs H Q u3_
theorem iF(a b:Str):(a ++ b).length=a.length + b.length:=strLen_append a b
inductive oG(vs:List V)(H:Hp)(Q:VK)(u3_:XK):Prop
 | mk (t a b:Ae) (lds:List Al) (xs:List V) (us:List cO) (fs:List Str) (q0:vs=[.ref t]) (q1:H t=some (.tup [.ref a,.ref b])) (q2:RdV false H (.ref a) (.tuple lds)) (q3:lds.all dI=true) (q4:lds.length≤8) (q5:H b=some (.tup xs)) (q6:dN H xs us fs) (q7:us.length≤40) (q8:∀(H':Hp),bA H H'→Q (.str (tG lds us)) H'):oG vs H Q u3_
def kH:Sp:=fun vs H Q u3_=>oG vs H Q u3_
theorem jR{d:Al}(h:dI d=true):(∀ z∈hV d,kF z)∧(hV d).length=5∧(cZ d).length≤70:=by
 obtain⟨f,g,a,i,rfl,h1,h2,h3,h4,h5,h6⟩:=gT h;have hw:∀ z∈hV (.tuple [.str f,.str g,.int a,.int i]),kF z:=fun z hz=>by
  have q:z∈[("field":Str),f,g,cB a,cB i]:=hz;simp only[Aq,AB,or_false]at q;rcases q with rfl | rfl | rfl | rfl | rfl
  ·exact kO (by decide)
  ·exact kO h1
  ·exact kO h2
  ·exact tD (by omega) (by omega)
  ·exact tD (by omega) (by omega)
 refine⟨hw,rfl,?_⟩;unfold cZ;rw[gW];have F:=StrLaws.join_length_le (" ":Str) (hV (.tuple [.str f,.str g,.int a,.int i]));have J:=kG fun z hz=>(hw z hz).len;have B:(hV (.tuple [.str f,.str g,.int a,.int i])).length=5:=rfl;have M:(" ":Str).length=1:=by decide
 rw[B]at J;rw[B,M]at F;omega
theorem tH{r:cO}{fs:List Str}(h:r.Ok fs):(fE r).length≤300:=by
 obtain⟨hw,hl⟩:=h.words;unfold fE;rw[gW];have q:=StrLaws.join_length_le (" ":Str) (dU r);have F:=kG fun z hz=>(hw z hz).len;have B:(" ":Str).length=1:=by decide
 rw[B]at q;omega
theorem yL{q:List Al}{H:Hp}{xs:List V}{B:List cO}{fs:List Str}(J:q.all dI=true)(F:dN H xs B fs):∀ z∈q.map cZ ++ B.map fE,z.length≤300:=fun z hz=>by
 rcases A4.mp hz with h | h
 ·obtain⟨d,hd,rfl⟩:=A7.mp h;exact A3 (jR (AU.mp J d hd)).2.2 (by decide)
 ·obtain⟨u,hu,rfl⟩:=A7.mp h;obtain⟨j,hj⟩:=List.getElem?_of_mem hu;obtain⟨u2,h2,_,h4⟩:=F.at' j _ (Ai (by rw[F.len];exact(AE.mp hj).1));rw[hj]at h2;cases h2;exact tH h4
theorem pR:bJ ["place","field","house","acres","inches"] ["place"] (aO gM):=⟨rfl,rfl,rfl,by decide,rfl,by decide,by decide⟩
theorem wE{f:Ae}{fd:AD}(F:Fun K "field_text" "field_text" gM f fd)
  :cH P w K mg base CX0 1 f fd ["place"] pQ:=by
 refine F.ok pR (fun vs H Q E h=>?_) (fun U A outer s H vs Q E hr h=>?_)
 ·obtain⟨x,d,rfl,_⟩:=h;rfl
 ·obtain⟨x,d,rfl,rd,hf,k⟩:=h;have nd:=pR.nd;refine⟨_,(aQ (jT (pv 0) (iP rfl (bZ (bB (i:=1) nd rfl (AG rfl)) (bZ (bB (i:=2) nd rfl (AG rfl)) (bZ (bB (i:=3) nd rfl (AG rfl)) (bZ (bB (i:=4) nd rfl (AG rfl)) fW))))))
   (aU (aZ (aER (vX (vY (pv 1) (vX (vY (pv 2) (vX (vY (pv 3) (vX (vY (pv 4) aGG)))))))))))),?_⟩
  obtain⟨f',g,a,i,rfl,h1,h2,h3,h4,h5,h6⟩:=gT hf;obtain⟨q,ys,rfl,eq,rq⟩:=rdT rd;obtain⟨J,O,B,M,rfl,r1,r2,r3,r4⟩:∃ J O B M,ys=[J,O,B,M]∧RdV false H J (.str f')∧RdV false H O (.str g)∧RdV false H B (.int a)∧RdV false H M (.int i):=by
   cases rq with
   | cons a r=>
    cases r with
    | cons b r=>
     obtain⟨y,z,rfl,c,d⟩:=rd2 r;exact⟨_,_,y,z,rfl,a,b,c,d⟩
  rw[rdS r1,rdS r2,rdI r3,rdI r4]at eq;have W:=(dA h1).2;have Y:=(dA h2).2;have l3:=(tD (i:=a) (by omega) (by omega)).len;have l4:=(tD (i:=i) (by omega) (by omega)).len;have c0:D7.length=0:=by decide
  have c1:(" ":Str).length=1:=by decide
  have Z:("field ":Str).length=6:=by decide
  have big:∀ z:Str,z.length≤100→z.length≤sizeLine:=fun z h=>aM (A3 h (by decide));refine⟨_,rfl,q,_,rfl,aX eq,rfl,_,_,rfl,_,_,rfl,_,_,rfl,_,_,rfl,rfl,big _ (by simp only[iF];omega),_,rfl,_,.str _ (big _ (by omega)),big _ (by simp only[iF];omega),big _ (by simp only[iF];omega),_,rfl,_,.str _ (big _ (by omega)),big _ (by simp only[iF];omega),big _ (by simp only[iF];omega),_,rfl,cB a,.int _ (iN (by omega) (by omega)),big _ (by simp only[iF];omega),big _ (by simp only[iF];omega),_,rfl,cB i,.int _ (iN (by omega) (by omega)),big _ (by simp only[iF];omega),big _ (by simp only[iF];omega),?_⟩;have:=k H (bA.refl H);unfold cZ at this;rw[show hV (.tuple [.str f',.str g,.int a,.int i])=[("field":Str),f',g,cB a,cB i] from rfl,← aAn]at this;exact this
theorem tI:bJ ["roll","laying","rows"] ["roll"] (aO fS):=⟨rfl,rfl,rfl,by decide,rfl,by decide,by decide⟩
theorem yM{f:Ae}{fd:AD}(F:Fun K "roll_text" "roll_text" fS f fd)
  (GF:Cl P w K mg base 1 "field_text" ["place"] pQ)
  (GR:Cl P w K mg base 2 "row_text" ["row"] lY)
  :cH P w K mg base CX0 3 f fd ["roll"] kH:=by
 refine F.ok tI (fun vs H Q E h=>?_) (fun am A outer s H vs Q E hr h=>?_)
 ·obtain⟨t,a,b,lds,xs,us,fs,rfl,_⟩:=h;rfl
 ·obtain⟨t,a,b,lds,xs,us,fs,rfl,et,rl,hf,h8,eb,hR,h40,k⟩:=h;have nd:=tI.nd;have O:cF 2 _:=hr;have Y:cF 1 _:=hr.mono (by decide);refine⟨_,(aQ (jT (pv 0) (iP rfl (bZ (bB (i:=1) nd rfl (AG rfl)) (bZ (bB (i:=2) nd rfl (AG rfl)) fW))))
   (aU (aZ (f8 PySem.F.plainAttrs_str PySem.F.slot_str_join PySem.F.type_str_join lG bE (aH (bO j0 (eG (N:=["place"]) (src:=[none]) (osc:=aO fS) (oN:=["roll","laying","rows"]) ⟨by rfl,by decide,by decide,by decide,rfl,by rfl⟩ (iQ (pv 1)) (fun cl s H fp bd C=>⟨bB (i:=0) (show(["place"]:List Str).Nodup by decide) rfl (AG rfl),c8,bC GF Y (aH (pv 0) aG)⟩)) (eG (N:=["row"]) (src:=[none]) (osc:=aO fS) (oN:=["roll","laying","rows"]) ⟨by rfl,by decide,by decide,by decide,rfl,by rfl⟩ (iQ (pv 2)) (fun cl s H fp bd C=>⟨bB (i:=0) (show(["row"]:List Str).Nodup by decide) rfl (AG rfl),c8,bC GR O (aH (pv 0) aG)⟩))) aG))))),?_⟩
  obtain⟨a',lxs,ea,el,rlx⟩:=rdT rl;cases ea;have W:=rlx.len;have aa:=hR.len;refine⟨_,rfl,t,_,rfl,aX et,rfl,_,_,rfl,_,_,rfl,rfl,rfl,_,rfl,a,rfl,⟨_,aX el⟩,?_⟩;refine gA (K:=K) (xs:=lxs) (fun i zs q H'=>∃(o:Option V),q=[o]∧bA H H'∧zs=((lds.take i).map cZ).map V.str) ⟨none,rfl,bA.refl H,rfl⟩ (aM (by omega)) (fun i zs σ H' p=>by obtain⟨_,_,_,rfl⟩:=p;rw[Ab,Ab,AC];omega) (fun i zs σ H' p=>by obtain⟨_,_,s,_⟩:=p;exact aX (s _ _ el)) ?_ ?_
  ·rintro i v zs q H1 U ⟨o,rfl,M,rfl⟩;obtain⟨d,hd,rv⟩:=rlx.at U;dsimp only[cI];refine c4 ?_;refine⟨_,rfl,v,d,rfl,rv.same M,AU.mp hf d (A2 hd),fun H2 z=>⟨_,rfl,M.trans z,?_⟩⟩;rw[AN,hd,Au,Au];rfl
  rintro zs q H1 ⟨o,rfl,M,rfl⟩ A hA;rw[W,AZ];have sA:=aS (o:=.lst ((lds.map cZ).map V.str)) hA;have eA:upd H1 A (.lst ((lds.map cZ).map V.str)) A=some (.lst ((lds.map cZ).map V.str)):=aJ;generalize upd H1 A _=H2 at sA eA ⊢;have z:=M.trans sA;refine⟨_,rfl,b,rfl,⟨_,aX (z _ _ eb)⟩,?_⟩;refine gA (K:=K) (xs:=xs) (fun i zs q H'=>∃(o:Option V),q=[o]∧bA H2 H'∧zs=((us.take i).map fE).map V.str) ⟨none,rfl,bA.refl _,rfl⟩ (aM (by omega)) (fun i zs σ H' p=>by obtain⟨_,_,_,rfl⟩:=p;rw[Ab,Ab,AC];omega) (fun i zs σ H' p=>by obtain⟨_,_,s,_⟩:=p;exact aX (s _ _ (z _ _ eb))) ?_ ?_
  ·rintro i v zs q H3 U ⟨o,rfl,J,rfl⟩;obtain⟨u,hu,rv,oku⟩:=hR.at' i v U;dsimp only[cI];refine c4 ?_;refine⟨_,rfl,v,u,fs,rfl,rv.same (z.trans J),oku,fun H4 s4=>⟨_,rfl,J.trans s4,?_⟩⟩;rw[AN,hu,Au,Au];rfl
  rintro zs q H3 ⟨o,rfl,J,rfl⟩ B hB;rw[aa,AZ];have Z:=aS (o:=.lst ((us.map fE).map V.str)) hB;have eB:upd H3 B (.lst ((us.map fE).map V.str)) B=some (.lst ((us.map fE).map V.str)):=aJ;generalize upd H3 B _=H4 at Z eB ⊢;refine⟨A,B,_,_,rfl,rfl,(J.trans Z) _ _ eA,eB,aM (by rw[Ab,Ab,Ab,Ab];omega),fun C hC=>?_⟩;have sC:=aS (o:=.lst ((lds.map cZ).map V.str ++ (us.map fE).map V.str)) hC;have hs:=kG (yL hf hR);have av:(lds.map cZ ++ us.map fE).length≤48:=by rw[An,Ab,Ab];omega
  have e1:("\n":Str).length=1:=by decide
  exact⟨"\n",C,lds.map cZ ++ us.map fE,rfl,rfl,aV (by rw[aJ,Au]),by rw[e1];omega,k _ (z.trans ((J.trans Z).trans sC))⟩
theorem _root_.L2.pi_tupK{X:Cx}{K:Ag}{tg l:A6}{tl:TE}(z:PE X l tl)(q:X.K=K:=by rfl):PI X tg l (aHk K tl):=by
 subst q;exact iQ z
theorem _root_.L2.BlkOk.own{N:List Str}{src:List (Option Nat)}{scope osc:CN}{oN:List Str}(h1:scope.kind=.function)(h2:∀ y∈scope.names,y.2≠.cell)(J:∀ y∈scope.names,y.2=.local→scope.names.lookup y.1=some .local)(F:∀ y∈scope.names,y.2≠.free)(M:src.length=N.length)(z:aC0 N src scope oN=true):BlkOk N src scope osc oN:=
 ⟨h1,h2,J,fun y B q=>absurd q (F y B),M,z⟩
inductive FmL:List V→List Str→Prop
 | nil:FmL [] []
 | cons {v:V} {z:Str} {vs:List V} {zs:List Str} (h:Fm v z) (r:FmL vs zs):FmL (v :: vs) (z :: zs)
theorem FmL.len{vs:List V}{zs:List Str}(h:FmL vs zs):vs.length=zs.length:=by
 induction h with
 | nil=>rfl
 | cons _ _ q=>rw[A0,A0,q]
theorem FmL.at{vs:List V}{zs:List Str}(h:FmL vs zs):∀{i:Nat}{v:V},vs[i]?=some v→∃ z,zs[i]?=some z∧Fm v z:=by
 induction h with
 | nil=>intro i v q;simp at q
 | cons h _ B=>
  intro i v q;cases i with
  | zero=>cases q;exact⟨_,rfl,h⟩
  | succ i=>exact B q
theorem FmL.app{vs q:List V}{zs ys:List Str}(h:FmL vs zs)(g:FmL q ys):FmL (vs ++ q) (zs ++ ys):=by
 induction h with
 | nil=>exact g
 | cons h _ z=>exact .cons h z
theorem i3{z:Str}(h:bM z=true):Fm (.str z) z:=.str z (aM (by have:=(dA h).2;omega))
theorem aEj{i:Int}(q:0≤i)(h1:i≤1000000000):Fm (.int i) (cB i):=.int i (iN q h1)
theorem FmL.strs:∀{R:List Str},(∀ z∈R,bM z=true)→FmL (R.map V.str) R
 | [],_=>.nil
 | z :: R,h=>.cons (i3 (h z AH)) (FmL.strs fun y q=>h y (AF _ q))
theorem FmL.flat{H:Hp}:∀{ys:List V}{ds:List Al},cM false H ys ds→(∀ d∈ds,g8 d)→FmL ys (ds.map tS)
 | _,_,.nil,_=>.nil
 | _,_,.cons a r,h=>.cons ((h _ AH).fm a) (FmL.flat r fun d hd=>h d (AF _ hd))
theorem cO.Ok.three{r:cO}{fs:List Str}(h:r.Ok fs):FmL [.str r.word,.str r.name,.int r.day] [r.word,r.name,cB r.day]:=by
 have hw:bM r.word=true:=by
  have:∀ w∈dM,bM w=true:=by decide
  exact this _ h.rs.word
 have d1:=h.d1;exact .cons (i3 hw) (.cons (i3 h.nm) (.cons (aEj h.d0 (by omega)) .nil))
theorem tJ:bJ ["_law_row_here","_law_found","_law_part"] ["_law_row_here"] (aO gS):=⟨rfl,rfl,rfl,by decide,rfl,by decide,by decide⟩
theorem yN{f:Ae}{fd:AD}(F:Fun K "_law_row_text" "_law_row_text" gS f fd)(ag:mg "str"=none)(B:mg "list"=none)
  :cH P w K mg base CX0 1 f fd ["_law_row_here"] lY:=by
 refine F.ok tJ (fun vs H Q E h=>?_) (fun bt A outer s H vs Q E hr h=>?_)
 ·obtain⟨x,r,fs,rfl,_⟩:=h;rfl
 ·obtain⟨x,r,fs,rfl,rd,ok,k⟩:=h;have nd:=tJ.nd;refine⟨_,(aQ (bQ (i:=1) nd rfl (AG rfl) (cC dO (by rfl) B (by kernel_rfl) (aH (pv 0) aG)))
   (aQ (g9 (cX (bS eU (bV cG (pv 0) aI Ig) bE (cA _)) (aQ (bQ (i:=1) nd rfl (AG rfl) (cC dO (by rfl) B (by kernel_rfl) (aH (c7 lJ (pv 0) dZ (dD aI)) aG)))
    (aU (kX BN rfl (iQ (bV cG (pv 0) aI Ig)) (g:=cI 2) (bB (i:=2) nd rfl (AG rfl))
    (aU (bQ (i:=1) nd rfl (AG rfl) (bO j0 (pv 1) (cC dO (by rfl) B (by kernel_rfl) (aH (pv 2) aG)))))))) b8))
   (aQ (g9 (cX (bS eU (bV cG (pv 0) aI Ig) bE (cA _)) (aU (bQ (i:=1) nd rfl (AG rfl) (bO j0 (bO j0 (cC dO (by rfl) B (by kernel_rfl) (aH (c7 lJ (pv 0) dZ (dD aI)) aG)) (cC dO (by rfl) B (by kernel_rfl) (aH (bV cG (pv 0) aI Ig) aG))) (d9 (aH bE (aH (bV cG (pv 0) aI Ig) aG)))))) b8))
   (aU (aZ (f8 PySem.F.plainAttrs_str PySem.F.slot_str_join PySem.F.type_str_join lG bE (aH (eG (N:=["_law_word"]) (src:=[none]) (osc:=aO gS) (oN:=["_law_row_here","_law_found","_law_part"]) ⟨by rfl,by decide,by decide,by decide,rfl,by rfl⟩ (jU (pv 1)) (fun cl s H fp bd C=>⟨bB (i:=0) (show(["_law_word"]:List Str).Nodup by decide) rfl (AG rfl),c8,cC (r:=aES) jI (by rfl) ag (by kernel_rfl) (aH (pv 0) aG)⟩)) aG))))))),?_⟩
  obtain⟨t,ys,rfl,et,ry⟩:=ok.open rd;refine⟨_,rfl,t,_,rfl,.inr (aX et),fun L0 aT=>?_⟩;have s0:=aS (o:=.lst (V.str r.word :: .str r.name :: .int r.day :: ys)) aT;have e0:upd H L0 (.lst (V.str r.word :: .str r.name :: .int r.day :: ys)) L0=some (.lst (V.str r.word :: .str r.name :: .int r.day :: ys)):=aJ;generalize upd H L0 _=H0 at s0 e0 ⊢;have Y:=s0 _ _ et;have aa:=ry.same s0;have h3:=ok.three;refine⟨fun O H'=>∃(L:Ae) (vs:List V) (o:Option V),O=[some (.ref t),some (.ref L),o]∧bA H H'∧H' L=some (.lst vs)∧(r.word≠"join"→FmL vs (dU r)),?_,?_⟩
  ·refine⟨_,rfl,t,_,0,_,rfl,rfl,aX Y,c3 (j:=0) rfl,rfl,_,rfl,dR (fun g=>?_) fun g=>?_⟩
   ·have hw:r.word="part":=V.str.inj (Ie g);obtain⟨land,R,eds,hl,ha,h6⟩:=ok.rs.isPart hw;rw[eds]at aa;obtain⟨y,z,rfl,ra,rb⟩:=rd2 aa;have ey:=rdS ra;subst ey;obtain⟨b,zs,rfl,eb,rz⟩:=rdT rb;have az:zs.length=R.length:=by rw[rz.len,Ab]
    refine⟨_,rfl,4,rfl,t,_,rfl,Y,fun q H1 s1 e1=>?_⟩;have ec:fG [V.str r.word,.str r.name,.int r.day,.str land,.ref b] none (some 4)=[.str r.word,.str r.name,.int r.day,.str land]:=lA (α:=Nat) [V.str r.word,.str r.name,.int r.day,.str land,.ref b] 4;rw[ec]at e1;refine⟨q,_,rfl,.inr (aX e1),fun L hL=>?_⟩;have sL:=aS (o:=.lst [V.str r.word,.str r.name,.int r.day,.str land]) hL;have eL:upd H1 L (.lst [V.str r.word,.str r.name,.int r.day,.str land]) L=some (.lst [V.str r.word,.str r.name,.int r.day,.str land]):=aJ;generalize upd H1 L _=H2 at sL eL ⊢;have W:=s1.trans sL;have eW:dU r=[r.word,r.name,cB r.day,land] ++ R.flatMap eZ:=by
     unfold dU;rw[eds,hw,kC];rfl
    have f4:FmL [V.str r.word,.str r.name,.int r.day,.str land] [r.word,r.name,cB r.day,land]:=h3.app (.cons (i3 hl) .nil);dsimp only[cI];refine⟨_,rfl,t,_,4,_,rfl,rfl,aX (W _ _ Y),c3 (j:=4) rfl,b,rfl,⟨_,aX (W _ _ eb)⟩,aAt (K:=K) (xs:=zs) (fun i σ H'=>Ex3 fun(L:Ae) (vs:List V) (o:Option V)=>Aw3 (σ=[some (.ref t),some (.ref L),o]) (bA H2 H') (H' L=some (.lst vs)∧FmL vs ([r.word,r.name,cB r.day,land] ++ (R.take i).flatMap eZ))) ⟨L,_,_,rfl,bA.refl _,eL,by rw[List.take_zero];exact f4⟩ (fun i σ H' _ z=>by obtain⟨_,_,_,_,z,_⟩:=z;exact aX (z _ _ (W _ _ eb))) ?_ ?_⟩
    ·rintro i v σ HI hv ⟨L',vs,o,rfl,sI,eI,fI⟩;obtain⟨x,q',hx,rfl,eq⟩:=aBj rz hv;obtain⟨p1,p2,a0,a1⟩:=oE ha (A2 hx);have bq:=(AE.mp hv).1;have J:=fI.len;rw[An,i0,AC]at J;have bh:vs.length=4 + 3 * min i R.length:=J;dsimp only[cI];refine⟨_,rfl,_,rfl,q',_,rfl,.inr (aX (sI _ _ (W _ _ eq))),fun M hM=>?_⟩;have sM:=aS (o:=.lst [V.str x.1,.str x.2.1,.int x.2.2]) hM;refine⟨L',M,_,_,rfl,rfl,sM _ _ eI,aJ,aM (by show vs.length + 3≤_;omega),fun N hN=>?_⟩;have sN:=aS (o:=.lst (vs ++ [V.str x.1,.str x.2.1,.int x.2.2])) hN;refine⟨N,_,_,rfl,sI.trans (sM.trans sN),aJ,?_⟩;rw[AN,hx,List.flatMap_append,← BU];exact fI.app (.cons (i3 p1) (.cons (i3 p2) (.cons (aEj (by omega) (by omega)) .nil)))
    ·rintro σ HI ⟨L',vs,o,rfl,sI,eI,fI⟩;rw[az,AZ,← eW]at fI;exact⟨L',vs,o,rfl,s0.trans (W.trans sI),eI,fun _=>fI⟩
   ·have aE:r.word≠"part":=fun e=>g (by rw[e];rfl);refine⟨L0,_,_,rfl,s0,e0,fun aP=>?_⟩;obtain⟨hfl,erw,h4⟩:=ok.rs.flat aE aP;have eW:dU r=[r.word,r.name,cB r.day] ++ r.ds.map tS:=by
     unfold dU;rw[erw];rfl
    rw[eW];exact h3.app (FmL.flat aa hfl)
  rintro O H1 ⟨L1,ay,o1,rfl,s1,e1,f1⟩;have U:=s1 _ _ et;have ah:=ry.same s1;refine⟨fun O H'=>∃(L:Ae) (vs:List V) (o:Option V),O=[some (.ref t),some (.ref L),o]∧bA H H'∧H' L=some (.lst vs)∧FmL vs (dU r),?_,?_⟩
  ·refine⟨_,rfl,t,_,0,_,rfl,rfl,aX U,c3 (j:=0) rfl,rfl,_,rfl,dR (fun g=>?_) fun g=>?_⟩
   ·have hw:r.word="join":=V.str.inj (Ie g);obtain⟨land,R,eds,hl,ha,h6⟩:=ok.rs.isJoin hw;rw[eds]at ah;obtain⟨y,z,rfl,ra,rb⟩:=rd2 ah;have ez:=rdS rb;subst ez;obtain⟨b,zs,rfl,eb,rz⟩:=rdT ra;have ba:=sZ rz;subst ba;have eW:dU r=[r.word,r.name,cB r.day] ++ R ++ [("as":Str),land]:=by
     unfold dU;rw[eds,hw,kE,BU];rfl
    refine⟨_,rfl,3,rfl,t,_,rfl,U,fun q H2 W e2=>?_⟩;have ec:fG [V.str r.word,.str r.name,.int r.day,.ref b,.str land] none (some 3)=[.str r.word,.str r.name,.int r.day]:=lA (α:=Nat) [V.str r.word,.str r.name,.int r.day,.ref b,.str land] 3;rw[ec]at e2;refine⟨q,_,rfl,.inr (aX e2),fun L2 aA=>?_⟩;have ao:=aS (o:=.lst [V.str r.word,.str r.name,.int r.day]) aA;have aj:upd H2 L2 (.lst [V.str r.word,.str r.name,.int r.day]) L2=some (.lst [V.str r.word,.str r.name,.int r.day]):=aJ;generalize upd H2 L2 _=H3 at ao aj ⊢;have s3:=W.trans ao;refine⟨_,rfl,t,_,3,_,rfl,rfl,aX (s3 _ _ U),c3 (j:=3) rfl,b,_,rfl,.inr (aX (s3 _ _ eb)),fun L3 aL=>?_⟩;have Z:=aS (o:=.lst (R.map V.str)) aL;have am:upd H3 L3 (.lst (R.map V.str)) L3=some (.lst (R.map V.str)):=aJ;generalize upd H3 L3 _=H4 at Z am ⊢;refine⟨L2,L3,_,_,rfl,rfl,Z _ _ aj,am,aM (by rw[Ab];show 3 + _≤_;omega),fun L4 aC=>?_⟩;have ai:=aS (o:=.lst ([V.str r.word,.str r.name,.int r.day] ++ R.map V.str)) aC;have ak:upd H4 L4 (.lst ([V.str r.word,.str r.name,.int r.day] ++ R.map V.str)) L4=some (.lst ([V.str r.word,.str r.name,.int r.day] ++ R.map V.str)):=aJ;generalize upd H4 L4 _=H5 at ai ak ⊢;have s5:=s3.trans (Z.trans ai);refine⟨_,rfl,t,_,4,_,rfl,rfl,aX (s5 _ _ U),c3 (j:=4) rfl,zZ2,fun L5 aB=>?_⟩;have an:=aS (o:=.lst [V.str "as",.str land]) aB;refine⟨L4,L5,_,_,rfl,rfl,an _ _ ak,aJ,aM (by rw[An,Ab];show 3 + _ + 2≤_;omega),fun L6 aR=>?_⟩;have ax:=aS (o:=.lst ([V.str r.word,.str r.name,.int r.day] ++ R.map V.str ++ [V.str "as",.str land])) aR;refine⟨L6,_,_,rfl,s1.trans (s5.trans (an.trans ax)),aJ,?_⟩
    rw[eW];exact(h3.app (FmL.strs ha)).app (.cons (i3 (by decide)) (.cons (i3 hl) .nil))
   ·exact⟨L1,ay,o1,rfl,s1,e1,f1 fun e=>g (by rw[e];rfl)⟩
  rintro O H2 ⟨L2,aK,o2,rfl,W,e2,f2⟩;obtain⟨hw,hwl⟩:=ok.words;have J:=f2.len;refine⟨rfl,_,rfl,L2,rfl,⟨_,aV e2⟩,?_⟩;refine jE (K:=K) (xs:=aK) (fun i zs O H'=>∃(o:Option V),O=[o]∧H'=H2∧zs=((dU r).take i).map V.str) ⟨none,rfl,rfl,rfl⟩ (aM (by omega)) (fun i zs σ H' p=>by obtain⟨_,_,_,rfl⟩:=p;rw[Ab,AC];omega) (fun i zs σ H' p=>by obtain⟨_,_,rfl,_⟩:=p;exact aV e2) ?_ ?_
  ·rintro i v zs O H' hv ⟨o,rfl,rfl,rfl⟩;obtain⟨z,hz,fz⟩:=f2.at hv;dsimp only[cI];refine c4 ?_;refine⟨_,rfl,⟨_,_,rfl,fz,_,rfl,rfl,?_⟩⟩;rw[AN,hz,Au];rfl
  rintro zs O H' ⟨o,rfl,rfl,rfl⟩ N hN;rw[J,AZ];have sN:=aS (o:=.lst ((dU r).map V.str)) hN;have bf:=kG fun z hz=>(hw z hz).len;have e1:(" ":Str).length=1:=by decide
  exact⟨" ",N,dU r,rfl,rfl,aV aJ,by rw[e1];omega,k _ (W.trans sN)⟩
theorem pS:bJ ["_law_roll_here","_law_found"] ["_law_roll_here"] (aO fA):=⟨rfl,rfl,rfl,by decide,rfl,by decide,by decide⟩
theorem wF{f:Ae}{fd:AD}(F:Fun K "_law_roll_text" "_law_roll_text" fA f fd)(Z:mg "str"=none)
  (GR:Cl P w K mg base 1 "_law_row_text" ["_law_row_here"] lY)
  :cH P w K mg base CX0 2 f fd ["_law_roll_here"] kH:=by
 refine F.ok pS (fun vs H Q E h=>?_) (fun aD A outer s H vs Q E hr h=>?_)
 ·obtain⟨t,a,b,lds,xs,us,fs,rfl,_⟩:=h;rfl
 ·obtain⟨t,a,b,lds,xs,us,fs,rfl,et,rl,hf,h8,eb,hR,h40,k⟩:=h;have nd:=pS.nd;have am:cF 1 _:=hr;refine⟨_,(aQ (fM (i:=1) (N:=["_law_part"]) (src:=[none]) (osc:=aO fA) (oN:=["_law_roll_here","_law_found"]) ⟨by rfl,by decide,by decide,by decide,rfl,by rfl⟩ nd rfl (iQ (bV cG (pv 0) aI Ig)) (fun cl s H fp bd C=>⟨bB (i:=0) (show(["_law_part"]:List Str).Nodup by decide) rfl (AG rfl),c8,aDh (r:=rJ K) (K:=K) PySem.F.plainAttrs_str PySem.F.slot_str_join PySem.F.type_str_join lG bE (aH (bO j0 (d9 (aH bE aG)) (eG (N:=["_law_word"]) (src:=[none]) (osc:=_) (oN:=["_law_part"]) (eo:=rfl) (BlkOk.own (by rfl) (by decide) (by decide) (by decide) rfl (by rfl)) (pi_tupK (K:=K) (pv 0)) (fun cl s H fp bd C=>⟨bB (i:=0) (show(["_law_word"]:List Str).Nodup by decide) rfl (AG rfl),c8,cC (r:=aES) jI (by rfl) Z (by kernel_rfl) (aH (pv 0) aG)⟩))) aG)⟩))
   (aU (aZ (f8 PySem.F.plainAttrs_str PySem.F.slot_str_join PySem.F.type_str_join lG bE (aH (bO j0 (pv 1) (eG (N:=["_law_row_here"]) (src:=[none]) (osc:=aO fA) (oN:=["_law_roll_here","_law_found"]) ⟨by rfl,by decide,by decide,by decide,rfl,by rfl⟩ (iQ (bV cG (pv 0) aI Ig)) (fun cl s H fp bd C=>⟨bB (i:=0) (show(["_law_row_here"]:List Str).Nodup by decide) rfl (AG rfl),c8,bC GR am (aH (pv 0) aG)⟩))) aG))))),?_⟩
  obtain⟨a',lxs,ea,el,rlx⟩:=rdT rl;cases ea;have ak:=rlx.len;have ao:=hR.len;refine⟨_,rfl,t,_,0,_,rfl,rfl,aX et,rfl,a,rfl,⟨_,aX el⟩,?_⟩;refine gA (K:=K) (xs:=lxs) (fun i zs J H'=>∃(o:Option V),J=[o]∧bA H H'∧zs=((lds.take i).map cZ).map V.str) ⟨none,rfl,bA.refl H,rfl⟩ (aM (by omega)) (fun i zs σ H' p=>by obtain⟨_,_,_,rfl⟩:=p;rw[Ab,Ab,AC];omega) (fun i zs σ H' p=>by obtain⟨_,_,s,_⟩:=p;exact aX (s _ _ el)) ?_ ?_
  ·rintro i v zs J H1 hv ⟨o,rfl,s1,rfl⟩;obtain⟨d,hd,rv⟩:=rlx.at hv;have ac:=AU.mp hf d (A2 hd);obtain⟨hwd,hl5,_⟩:=jR ac;obtain⟨f',g,a',i',ed,h1,h2,h3,h4,h5,h6⟩:=gT ac;rw[ed]at rv;obtain⟨q,ys,rfl,eq,rq⟩:=rdT rv;have f4:FmL ys ([Bk f',.str g,.int a',.int i'].map tS):=FmL.flat rq fun e he=>by
    simp only[Aq,AB,or_false]at he;rcases he with rfl | rfl | rfl | rfl
    ·exact .inl ⟨_,rfl,h1⟩
    ·exact .inl ⟨_,rfl,h2⟩
    ·exact .inr ⟨_,rfl,by omega,by omega⟩
    ·exact .inr ⟨_,rfl,by omega,by omega⟩
   have Y:=f4.len;obtain⟨M,hws⟩:∃ M:List Str,M=[Bk f',.str g,.int a',.int i'].map tS:=⟨_,rfl⟩
   rw[← hws]at f4 Y;have aK:M.length=4:=by rw[hws];rfl
   have eW:hV d=("field":Str) :: M:=by rw[ed,hws];rfl
   dsimp only[cI];refine c4 ?_;refine⟨rfl,zZ1,fun A hA=>?_⟩;have O:=aS (o:=.lst [V.str "field"]) hA;have eA:upd H1 A (.lst [V.str "field"]) A=some (.lst [V.str "field"]):=aJ;generalize upd H1 A _=H2 at O eA ⊢;have W:=(s1.trans O) _ _ eq;refine⟨_,rfl,q,rfl,⟨_,aX W⟩,?_⟩;refine gA (K:=K) (xs:=ys) (fun j zs J H'=>∃(o:Option V),J=[o]∧H'=H2∧zs=(M.take j).map V.str) ⟨none,rfl,rfl,rfl⟩ (aM (by omega)) (fun j zs σ H' p=>by obtain⟨_,_,_,rfl⟩:=p;rw[Ab,AC];omega) (fun j zs σ H' p=>by obtain⟨_,_,rfl,_⟩:=p;exact aX W) ?_ ?_
   ·rintro j y zs J H' hy ⟨o,rfl,rfl,rfl⟩;obtain⟨z,hz,fz⟩:=f4.at hy;dsimp only[cI];refine c4 ?_;refine⟨_,rfl,⟨_,_,rfl,fz,_,rfl,rfl,?_⟩⟩;rw[AN,hz,Au];rfl
   rintro zs J H' ⟨o,rfl,rfl,rfl⟩ N hN;rw[Y,AZ];have sN:=aS (o:=.lst (M.map V.str)) hN;have eN:upd H' N (.lst (M.map V.str)) N=some (.lst (M.map V.str)):=aJ;generalize upd H' N _=H3 at sN eN ⊢;refine⟨A,N,_,_,rfl,rfl,sN _ _ eA,eN,aM (by rw[Ab];show 1 + _≤_;omega),fun C hC=>?_⟩;have sC:=aS (o:=.lst ([V.str "field"] ++ M.map V.str)) hC;have av:=kG fun z hz=>(hwd z hz).len;have e1:(" ":Str).length=1:=by decide
   refine⟨" ",C,hV d,rfl,rfl,aV (by rw[aJ,eW];rfl),by rw[e1];omega,_,rfl,s1.trans (O.trans (sN.trans sC)),?_⟩;rw[AN,hd,Au,Au];rfl
  rintro zs J H1 ⟨o,rfl,s1,rfl⟩ A hA;rw[ak,AZ];have O:=aS (o:=.lst ((lds.map cZ).map V.str)) hA;have eA:upd H1 A (.lst ((lds.map cZ).map V.str)) A=some (.lst ((lds.map cZ).map V.str)):=aJ;generalize upd H1 A _=H2 at O eA ⊢;have s2:=s1.trans O;refine⟨rfl,_,rfl,_,rfl,t,_,1,_,rfl,rfl,aX (s2 _ _ et),rfl,b,rfl,⟨_,aX (s2 _ _ eb)⟩,?_⟩;refine gA (K:=K) (xs:=xs) (fun i zs J H'=>∃(o:Option V),J=[o]∧bA H2 H'∧zs=((us.take i).map fE).map V.str) ⟨none,rfl,bA.refl _,rfl⟩ (aM (by omega)) (fun i zs σ H' p=>by obtain⟨_,_,_,rfl⟩:=p;rw[Ab,Ab,AC];omega) (fun i zs σ H' p=>by obtain⟨_,_,s,_⟩:=p;exact aX (s _ _ (s2 _ _ eb))) ?_ ?_
  ·rintro i v zs J H3 hv ⟨o,rfl,U,rfl⟩;obtain⟨u,hu,rv,oku⟩:=hR.at' i v hv;dsimp only[cI];refine c4 ?_;refine⟨_,rfl,v,u,fs,rfl,rv.same (s2.trans U),oku,fun H4 s4=>⟨_,rfl,U.trans s4,?_⟩⟩;rw[AN,hu,Au,Au];rfl
  rintro zs J H3 ⟨o,rfl,U,rfl⟩ B hB;rw[ao,AZ];have sB:=aS (o:=.lst ((us.map fE).map V.str)) hB;have eB:upd H3 B (.lst ((us.map fE).map V.str)) B=some (.lst ((us.map fE).map V.str)):=aJ;generalize upd H3 B _=H4 at sB eB ⊢;refine⟨A,B,_,_,rfl,rfl,(U.trans sB) _ _ eA,eB,aM (by rw[Ab,Ab,Ab,Ab];omega),fun C hC=>?_⟩;have sC:=aS (o:=.lst ((lds.map cZ).map V.str ++ (us.map fE).map V.str)) hC;have hs:=kG (yL hf hR);have aN:(lds.map cZ ++ us.map fE).length≤48:=by rw[An,Ab,Ab];omega
  have e1:("\n":Str).length=1:=by decide
  exact⟨"\n",C,lds.map cZ ++ us.map fE,rfl,rfl,aV (by rw[aJ,Au]),by rw[e1];omega,k _ (s2.trans ((U.trans sB).trans sC))⟩
theorem aEk{K:Ag}{H H':Hp}{a:Ae}{xs:List V}(h:SqT K H a xs)(s:bA H H'):SqT K H' a xs:=by
 rcases h with(h | ⟨o,h⟩) | h
 ·exact .inl (.inl (s _ _ h))
 ·exact .inl (.inr ⟨o,s _ _ h⟩)
 ·exact .inr h
theorem yO{m:Nat}(h:0 < m):∃ c r,CC 10 m=c :: r∧c.toNat≠48:=by
 induction m using Nat.strongRecOn with
 | _ m z=>
  by_cases hm:m < 10
  ·rw[Nat.toDigits_of_lt_base hm];refine⟨_,_,rfl,?_⟩;have:∀ d:Nat,d < 10→0 < d→(Nat.digitChar d).toNat≠48:=by decide
   exact this m hm h
  ·have q:m % 10 < 10:=EE m (by decide);have t:CC 10 (m / 10) ++ CC 10 (m % 10)=CC 10 (10 * (m / 10) + m % 10):=Nat.toDigits_append_toDigits (by decide) (by omega) q;rw[Nat.div_add_mod]at t;obtain⟨c,r,e,hc⟩:=z (m / 10) (by omega) (by omega);rw[← t,e];exact⟨c,_,rfl,hc⟩
theorem aEl(m:Nat):∃ c r,(cB (m:Int)).cps.toList=c :: r∧(c=48→cB (m:Int)="0"):=by
 rcases Nat.eq_zero_or_pos m with rfl | h
 ·exact⟨48,[],by decide,fun _=>by decide⟩
 ·obtain⟨c,r,e,hc⟩:=yO h;refine⟨c.toNat,r.map Char.toNat,?_,fun z=>absurd z hc⟩;show(A5 (toString ((m:Nat):Int))).cps.toList=_;rw[Ca,e];rfl
inductive vC(vs:List V)(H:Hp)(Q:VK)(u3_:XK):Prop
 | mk (i:Int) (q0:vs=[.str (cB i)]) (q1:0≤i) (q2:i≤1000000000) (q3:∀ H',bA H H'→Q (.int i) H'):vC vs H Q u3_
def aBk:Sp:=fun vs H Q u3_=>vC vs H Q u3_
def dV:Al→V | .str z=>.str z | .int i=>.int i | _=>.non
def WN(ps:List Int)(ws:List Str)(ds:List Al):Prop:=ws.length=ds.length∧∀(i:Nat) (z:Str),ws[i]?=some z→∃ d,ds[i]?=some d∧((∃ n,(i:Int)∈ps∧d=.int n∧z=cB n∧0≤n∧n≤1000000000)∨((i:Int) ∉ ps∧d=.str z∧z.length≤1000))
inductive vD(K:Ag)(vs:List V)(H:Hp)(Q:VK)(u3_:XK):Prop
 | mk (L p:Ae) (ws:List Str) (ps:List Int) (ds:List Al) (q0:vs=[.ref L,.ref p]) (q1:H L=some (.lst (ws.map V.str))) (q2:SqT K H p (ps.map V.int)) (q3:WN ps ws ds) (q4:ws.length≤30) (q5:∀(t:Ae) (H':Hp),bA H H'→H' t=some (.tup (ds.map dV))→Q (.ref t) H'):vD K vs H Q u3_
def lZ(K:Ag):Sp:=fun vs H Q u3_=>vD K vs H Q u3_
theorem aEm(i:Int):∀ ns:List Int,inV (.int i) (ns.map V.int)=decide (i∈ns):=by
 intro ns;unfold inV;rw[List.any_map];rw[BB,C3,decide_eq_true_iff];constructor
 ·rintro⟨y,hy,e⟩;have:y=i:=by simpa[eqV]using e
  exact this ▸ hy
 ·intro h;exact⟨i,h,by simp[eqV]⟩
theorem lI(ns:List Int):(ns.map V.int).all gF=true:=by
 rw[AU];intro v q;obtain⟨n,_,rfl⟩:=A7.mp q;rfl
theorem aFp:bJ ["word"] ["word"] (aO gQ):=⟨rfl,rfl,rfl,by decide,rfl,by decide,by decide⟩
theorem aEn{f:Ae}{fd:AD}(F:Fun K "number_of" "number_of" gQ f fd)(T:Txt K mg)(q:∃ t,mg "MOST_FIGURES"=some (.int 60 t)):cH P w K mg base CX0 1 f fd ["word"] aBk:=by
 refine F.ok aFp (fun vs H Q E h=>?_) (fun ae A outer s H vs Q E U h=>?_)
 ·obtain⟨i,rfl,_⟩:=h;rfl
 ·obtain⟨i,rfl,h0,h1,k⟩:=h;obtain⟨m,rfl⟩:∃ m:Nat,i=m:=⟨i.toNat,by omega⟩
  have J:m < 10 ^ 10:=CP (show m≤1000000000 by omega) (by decide);obtain⟨tl,hfig⟩:=q;refine⟨_,aQ (cX (PW.pt (fO (d8 (qJ l7 l7 aI (aW jZ (by rfl) T.len AM (aH (pv 0) aG)) (dL (v:=.int 60) (by rfl) hfig ⟨_,rfl⟩)))
    (fJ (d8 (eQ (aW (nN rfl) (by rfl) T.al (by kernel_rfl) (aH (eG (N:=["sign"]) (src:=[none]) (osc:=aO gQ) (oN:=["word"]) ⟨by rfl,by decide,by decide,by decide,rfl,by rfl⟩ (aC3 (pv 0))
     fun cl s H fp bd C=>⟨bB (i:=0) (show(["sign"]:List Str).Nodup by decide) rfl (AG rfl),c8,nB lF lF bE (pv 0) bE⟩) aG))))))) (aU (aZ i4)) b8)
   (aQ (cX (PW.pt (qG (bS eU (bV qN (pv 0) aI Ig) bE (cA _)) (nA (bS pI (pv 0) bE (cA _))))) (aU (aZ i4)) b8)
   (aU (aZ (cC aBZ (by rfl) T.int (by kernel_rfl) (aH (pv 0) aG))))),?_⟩
  have hz:(cB (m:Int)).length≤10:=vZ J (by decide);have ab:=aDz m;have hd:=mW m;obtain⟨c0,r0,ec,hc0⟩:=aEl m;have h1:1≤(cB (m:Int)).length:=by
   show 1≤(cB (m:Int)).cps.size;rw[← A1,ec];simp
  refine⟨_,rfl,_,rfl,aM (by omega),_,_,rfl,rfl,_,rfl,dR (fun Z=>?_) (fun Z=>absurd (Ic (by omega)) Z)⟩;refine⟨_,_,rfl,rfl,_,rfl,?_⟩;rw[Ic (show((cB (m:Int)).length:Int)≤60 by omega)];refine dC ?_;refine⟨_,rfl,cB (m:Int),rfl,?_⟩;refine w6 (fun i ys σ H'=>H'=H∧ys=((cB (m:Int)).cps.toList.take i).map (fun _=>V.bl true)∧σ.length=1) ⟨rfl,rfl,rfl⟩ (aM (show(cB (m:Int)).length≤1000000 by omega)) (fun i ys σ H' p=>by rw[p.2.1,Ab,AC];omega) ?_ ?_
  ·rintro i c ys σ H' hc ⟨rfl,rfl,Y⟩;obtain⟨o,rfl⟩:∃ o,σ=[o]:=by
    match σ,Y with
    | [o],_=>exact⟨o,rfl⟩
   dsimp only[cI];refine c4 ?_;have B:(cB (m:Int)).cps.toList[i]?=some c:=by simpa using hc
   have U:=hd c (A2 B);refine⟨_,rfl,_,_,rfl,rfl,_,rfl,?_⟩;have e1:(!decide ((⟨#[c]⟩:Str).cps.toList < ("0":Str).cps.toList))=decide (48≤c):=v5 48 c;have e2:(!decide (("9":Str).cps.toList < (⟨#[c]⟩:Str).cps.toList))=decide (c≤57):=v5 c 57;rw[e1,Ic U.1];refine c4 ?_;refine⟨_,_,rfl,rfl,?_⟩;rw[e2,Ic U.2];refine⟨rfl,?_,rfl⟩;rw[AN,Au,B];rfl
  ·rintro ys σ H' ⟨rfl,rfl,Y⟩ D hD;have O:DX (cB (m:Int)).cps.size (cB (m:Int)).cps.toList=(cB (m:Int)).cps.toList:=by rw[← A1];exact AZ
   rw[O];refine⟨D,(cB (m:Int)).cps.toList.map fun _=>true,rfl,aV (by rw[aJ,B6];rfl),_,rfl,?_⟩;have ea:((cB (m:Int)).cps.toList.map fun _=>true).all id=true:=by simp
   rw[ea];refine dC ?_;have eh:atI (cB (m:Int)).cps.toList 0=some c0:=c3 (j:=0) (by rw[ec];rfl);refine⟨_,rfl,cB (m:Int),0,c0,rfl,rfl,aM (by omega),eh,rfl,_,rfl,dR (fun g=>?_) fun g=>?_⟩
   ·have:c0=48:=by
     have z:=V.str.inj (Ie g);have:(⟨#[c0]⟩:Str).cps.toList=("0":Str).cps.toList:=by rw[z]
     have M:("0":Str).cps.toList=[48]:=by decide
     rw[M]at this;injection this with this
    have W:=hc0 this;refine⟨_,rfl,rfl,_,rfl,?_⟩;rw[W,Ic rfl];refine dC ?_;rw[← W];exact⟨_,rfl,cB (m:Int),m,rfl,rZ J (by decide) (by decide),by omega,k _ (aS hD)⟩
   ·exact⟨_,rfl,cB (m:Int),m,rfl,rZ J (by decide) (by decide),by omega,k _ (aS hD)⟩
theorem aBl:bJ ["words","places"] ["words","places"] (aO mX):=⟨rfl,rfl,rfl,by decide,rfl,by decide,by decide⟩
theorem aEo{f:Ae}{fd:AD}(F:Fun K "with_numbers" "with_numbers" mX f fd)(J:mg "tuple"=none)(B:mg "enumerate"=none)
  (GN:Cl P w K mg base 1 "number_of" ["word"] aBk)
  :cH P w K mg base CX0 2 f fd ["words","places"] (lZ K):=by
 refine F.ok aBl (fun vs H Q E h=>?_) (fun af A outer s H vs Q E hr h=>?_)
 ·obtain⟨L,p,ws,ps,ds,rfl,_⟩:=h;rfl
 ·obtain⟨L,p,ws,ps,ds,rfl,eL,eP,hW,h30,k⟩:=h;have nd:=aBl.nd;have U:cF 1 _:=hr;refine⟨_,(aU (aZ (cC dE (by rfl) J (by kernel_rfl) (aH (eG (N:=["at","word","places"]) (src:=[none,none,some 1]) (osc:=aO mX) (oN:=["words","places"]) (g:=aEE K 2 (pH (cI 0) (pH (cI 1) aED))) ⟨by rfl,by decide,by decide,by decide,rfl,by rfl⟩ (aA0 rfl B (aH (pv 0) aG)) (fun cl s H fp bd C=>⟨iP rfl (bZ (bB (i:=0) (show(["at","word","places"]:List Str).Nodup by decide) rfl (AG rfl)) (bZ (bB (i:=1) (show(["at","word","places"]:List Str).Nodup by decide) rfl (AG rfl)) fW)),c8,qH (bS (r:=rIn K false) i8 (pv 0) (pv 2) (by with_unfolding_all rfl)) (bC GN U (aH (pv 1) aG)) (pv 1)⟩)) aG)))),?_⟩;obtain⟨hlen,hat⟩:=hW;refine⟨_,rfl,L,_,rfl,eL,?_⟩;refine aB3 (xs:=ws.map V.str) (fun i ys W H'=>∃(O M:Option V),W=[O,M,some (.ref p)]∧bA H H'∧ys=(ds.take i).map dV) ⟨none,none,rfl,bA.refl _,rfl⟩ (aM (by rw[Ab];omega)) (fun i ys σ H' q=>by obtain⟨_,_,_,_,rfl⟩:=q;rw[Ab,AC];omega) (fun i ys σ H' q=>by obtain⟨_,_,_,s,_⟩:=q;exact s _ _ eL) ?_ ?_
  ·rintro i v t ys W H1 hv ht ⟨O,M,rfl,Z,rfl⟩;rw[AI]at hv;obtain⟨z,hz,rfl⟩:=Cd.mp hv;obtain⟨d,hd,hc⟩:=hat i z hz;have sT:=aS (o:=.tup [.int i,.str z]) ht;have eT:upd H1 t (.tup [.int i,.str z]) t=some (.tup [.int i,.str z]):=aJ;generalize upd H1 t _=H2 at sT eT ⊢;have Y:=Z.trans sT;have tk:(ds.take (i + 1)).map dV=(ds.take i).map dV ++ [dV d]:=by
    rw[AN,hd,Au];rfl
   refine⟨t,_,rfl,aX eT,rfl,_,_,rfl,_,_,rfl,rfl,c4 ?_⟩;refine⟨_,rfl,_,rfl,p,_,rfl,.inr (aEk eP Y),rfl,lI _,_,rfl,?_⟩;show if (if false=true then !inV (V.int i) (ps.map V.int) else inV (V.int i) (ps.map V.int))=true then _ else _
   rw[Ia Aw,aEm];rcases hc with⟨n,hin,rfl,rfl,h0,h1⟩ | ⟨hni,rfl,hl⟩
   ·rw[Ic hin];refine c4 ⟨_,rfl,n,rfl,h0,h1,fun H3 s3=>⟨_,_,rfl,Y.trans s3,?_⟩⟩;rw[tk];rfl
   ·rw[decide_eq_false hni];refine dC ⟨_,rfl,_,_,rfl,Y,?_⟩;rw[tk];rfl
  rintro ys W H1 ⟨O,M,rfl,Z,rfl⟩ D hD;rw[Ab,hlen,AZ];have sD:=aS (o:=.lst (ds.map dV)) hD;refine⟨D,_,rfl,.inl ⟨aV aJ,fun t ht=>?_⟩⟩;have st:=aS (o:=.tup (ds.map dV)) ht;exact k t _ (Z.trans (sD.trans st)) aJ
theorem aFq(xs:List V)(a b:Nat)(h:b≤xs.length)(q:a≤b):fG xs (some (a:Int)) (some (b:Int))=(xs.drop a).take (b - a):=by
 unfold fG;rw[HT.sIx_nat,HT.sIx_nat,Nat.min_eq_left h,Nat.min_eq_left (A3 q h)]
theorem aEp{x:P3}:∀{R:List P3}{i:Nat} (pre:List Str),pre.length=4→R[i]?=some x→((pre ++ R.flatMap eZ).drop (4 + 3 * i)).take 3=eZ x:=by
 intro R i pre B q;rw[← List.drop_drop,show(pre ++ R.flatMap eZ).drop 4=R.flatMap eZ by rw[← B];simp]
 induction R generalizing i with
 | nil=>simp at q
 | cons y R z=>
  cases i with
  | zero=>cases q;rfl
  | succ i=>
   rw[Dw,show 3 * (i + 1)=3 + 3 * i by omega,← List.drop_drop];exact z q
theorem aBm{xs:List V}{v w:V}:atI (xs ++ [v,w]) (-2)=some v∧atI (xs ++ [v,w]) (-1)=some w:=by
 constructor
 ·unfold atI ixN;rw[Ia (by omega),Ib (by simp;omega)];simp;rw[show(-2 + ((xs.length:Int) + 2)).toNat=xs.length by omega];simp
 ·unfold atI ixN;rw[Ia (by omega),Ib (by simp;omega)];simp;rw[show(-1 + ((xs.length:Int) + 2)).toNat=xs.length + 1 by omega];simp
theorem aFr(a b c:V)(ys:List V)(v w:V):fG ([a,b,c] ++ ys ++ [v,w]) (some 3) (some (-2))=ys:=by
 unfold fG HT.sIx;simp;rw[show(-2 + ((ys.length:Int) + 2 + 1 + 1 + 1)).toNat - 3=ys.length by omega];simp
inductive tK(word:Str)(vs:List V)(H:Hp)(Q:VK)(u3_:XK):Prop
 | mk (L:Ae) (r:cO) (fs:List Str) (q0:vs=[.ref L]) (q1:H L=some (.lst ((dU r).map V.str))) (q2:r.Ok fs) (q3:r.word=word) (q4:∀(t:Ae) (H':Hp),bA H H'→RdV false H' (.ref t) r.d→Q (.ref t) H'):tK word vs H Q u3_
def oH(word:Str):Sp:=fun vs H Q u3_=>tK word vs H Q u3_
theorem aBn{r:cO}{fs:List Str}(h:r.Ok fs):WN [2] [r.word,r.name,cB r.day] [.str r.word,.str r.name,.int r.day]:=by
 obtain⟨hw,_⟩:=h.words;have B:=(hw r.word (by unfold dU;simp)).len;have q:=(hw r.name (by unfold dU;simp)).len;have d1:=h.d1;refine⟨rfl,fun i z hz=>?_⟩
 match i,hz with
 | 0,hz=>cases hz;exact⟨_,rfl,.inr ⟨by decide,rfl,by omega⟩⟩
 | 1,hz=>cases hz;exact⟨_,rfl,.inr ⟨by decide,rfl,by omega⟩⟩
 | 2,hz=>cases hz;exact⟨_,rfl,.inl ⟨_,by decide,rfl,rfl,h.d0,by omega⟩⟩
 | i + 3,hz=>simp at hz
theorem aBo{B:List Str}{ds:List Al}{ps:List Int}{z:Str}(h:WN ps B ds)(hn:((B.length:Nat):Int) ∉ ps)(hz:z.length≤1000):WN ps (B ++ [z]) (ds ++ [.str z]):=by
 obtain⟨hl,ha⟩:=h;refine⟨by rw[An,An,hl];rfl,fun i y q=>?_⟩;rcases Nat.lt_trichotomy i B.length with c | c | c
 ·rw[List.getElem?_append_left c]at q;obtain⟨d,h1,h2⟩:=ha i y q;exact⟨d,by rw[List.getElem?_append_left (by omega)];exact h1,h2⟩
 ·subst c;rw[List.getElem?_append_right (Ak _),Nat.sub_self]at q;cases q;exact⟨.str z,by rw[hl,List.getElem?_append_right (Ak _),Nat.sub_self];rfl,.inr ⟨hn,rfl,hz⟩⟩
 ·rw[AK (by rw[An];show B.length + 1≤i;omega)]at q;cases q
theorem aFs{x:P3}(h1:bM x.1=true)(h2:bM x.2.1=true)(J:1≤x.2.2)(F:x.2.2≤10000000):WN [2] (eZ x) [.str x.1,.str x.2.1,.int x.2.2]:=by
 have q:=(dA h1).2;have B:=(dA h2).2;refine⟨rfl,fun i z hz=>?_⟩
 match i,hz with
 | 0,hz=>cases hz;exact⟨_,rfl,.inr ⟨by decide,rfl,by omega⟩⟩
 | 1,hz=>cases hz;exact⟨_,rfl,.inr ⟨by decide,rfl,by omega⟩⟩
 | 2,hz=>cases hz;exact⟨_,rfl,.inl ⟨_,by decide,rfl,rfl,by omega,by omega⟩⟩
 | i + 3,hz=>exact absurd hz (by unfold eZ;simp)
theorem iG{H:Hp}{z:Str}(h:bM z=true):RdV false H (.str z) (.str z):=.str z (by have:=(dA h).2;omega)
theorem yP:bJ ["words","parts"] ["words"] (aO j8):=⟨rfl,rfl,rfl,by decide,rfl,by decide,by decide⟩
theorem aCm{f:Ae}{fd:AD}(F:Fun K "part_of" "part_of" j8 f fd)(U:mg "tuple"=none)(af:mg "len"=none)(ah:mg "range"=none)
  (GW:Cl P w K mg base 2 "with_numbers" ["words","places"] (lZ K))
  :cH P w K mg base CX0 3 f fd ["words"] (oH "part"):=by
 refine F.ok yP (fun vs H Q E h=>?_) (fun aN A outer s H vs Q E hr h=>?_)
 ·obtain⟨L,r,fs,rfl,_⟩:=h;rfl
 ·obtain⟨L,r,fs,rfl,eL,ok,hw,k⟩:=h;have nd:=yP.nd;have ab:cF 2 _:=hr;obtain⟨land,R,eds,hl,ha,h6⟩:=ok.rs.isPart hw;have hm:∀ n:Nat,n≤6→Builtin.Range.small 4 ((4 + 3 * n:Nat):Int) 3=true∧((n:Nat):Int)=Cw 4 ((4 + 3 * n:Nat):Int) 3∧Builtin.divisionGoesByPylong (((4 + 3 * n:Nat):Int) - 4) 3=false:=by decide
  obtain⟨hsm,hsz,hpl⟩:=hm R.length h6;refine⟨_,(aQ (fM (i:=1) (N:=["at","words"]) (src:=[none,some 0]) (osc:=aO j8) (oN:=["words","parts"]) ⟨by rfl,by decide,by decide,by decide,rfl,by rfl⟩ nd rfl (aB1 (lo:=4) (hi:=((4 + 3 * R.length:Nat):Int)) (st:=3) (n:=R.length) (by decide) hsm hsz hpl rfl ah (aH aI (aH (aW bG (by rfl) af AM (aH (pv 0) aG)) (aH aI aG)))) (fun cl s H fp bd C=>⟨bB (i:=0) (show(["at","words"]:List Str).Nodup by decide) rfl (AG rfl),c8,bC GW ab (aH (c7 (r:=aHv K) f7 (pv 1) (dD (pv 0)) (dD (bO dQ (pv 0) aI))) (aH (dF (aH aI aG)) aG))⟩))
   (aU (aZ (bO aAM (bC GW ab (aH (c7 f7 (pv 0) dZ (dD aI)) (aH (dF (aH aI aG)) aG))) (dF (aH (cC dE (by rfl) U (by kernel_rfl) (aH (pv 1) aG)) aG)))))),?_⟩
  have eW:dU r=[r.word,r.name,cB r.day,land] ++ R.flatMap eZ:=by
   unfold dU;rw[eds,hw,kC];rfl
  rw[eW]at eL;have ae:([r.word,r.name,cB r.day,land] ++ R.flatMap eZ).length=4 + 3 * R.length:=by rw[An,i0];rfl
  refine⟨_,rfl,L,_,rfl,.inl (aV eL),by rw[Ab,ae],?_⟩;refine xO (n:=R.length) (fun i ys σ' H'=>∃(o:Option V),Aw3 (σ'=[o,some (.ref L)]) (bA H H') (ys.length=i∧cM false H' ys ((R.take i).map pD))) ⟨none,rfl,bA.refl _,rfl,.nil⟩ (aM (by omega)) (fun i ys σ H' q=>by obtain⟨_,_,_,e,_⟩:=q;omega) ?_ ?_
  ·rintro i ys σ' H1 hi ⟨o,rfl,s1,W,ry⟩;have hx:R[i]?=some R[i]:=Ai hi;obtain⟨p1,p2,p3,p4⟩:=oE ha (Bm hi);dsimp only[cI];refine c4 ?_;refine⟨_,rfl,_,rfl,_,rfl,_,rfl,_,_,rfl,rfl,_,rfl,L,_,rfl,aV (s1 _ _ eL),fun C hC=>?_⟩;have ec:fG (([r.word,r.name,cB r.day,land] ++ R.flatMap eZ).map V.str) (some (4 + (i:Int) * 3)) (some (4 + (i:Int) * 3 + 3))=(eZ R[i]).map V.str:=by
    rw[show(4 + (i:Int) * 3)=((4 + 3 * i:Nat):Int) by omega,show(((4 + 3 * i:Nat):Int) + 3)=((4 + 3 * i + 3:Nat):Int) by omega,aFq _ _ _ (by rw[Ab,ae];omega) (by omega),← List.map_drop,← List.map_take,show 4 + 3 * i + 3 - (4 + 3 * i)=3 by omega,aEp [r.word,r.name,cB r.day,land] rfl hx]
   rw[ec]at *;have Y:=aS (o:=.lst ((eZ R[i]).map V.str)) hC;have eC:upd H1 C (.lst ((eZ R[i]).map V.str)) C=some (.lst ((eZ R[i]).map V.str)):=aJ;generalize upd H1 C _=H2 at Y eC ⊢;refine⟨zZ1,fun q hq=>?_⟩;have M:=aS (o:=.tup [V.int 2]) hq;refine⟨C,q,eZ R[i],[2],_,rfl,M _ _ eC,aX aJ,aFs p1 p2 p3 p4,by show 3≤30;decide,fun t H3 s3 e3=>?_⟩;have Z:=Y.trans (M.trans s3);refine⟨_,rfl,s1.trans Z,by rw[An,W];rfl,?_⟩;rw[AN,hx,Au];exact(ry.same Z).app (.cons (.tup e3 (by show 3≤1000;decide) (.cons (iG p1) (.cons (iG p2) (.cons (.int _) .nil)))) .nil)
  rintro ys σ' H1 ⟨o,rfl,s1,W,ry⟩ D hD;rw[AZ]at ry;have sD:=aS (o:=.lst ys) hD;have eD:upd H1 D (.lst ys) D=some (.lst ys):=aJ;generalize upd H1 D _=H2 at sD eD ⊢;have s2:=s1.trans sD;dsimp only[cI];refine⟨_,rfl,4,rfl,L,_,rfl,aV (s2 _ _ eL),fun C hC=>?_⟩;have ec:fG (([r.word,r.name,cB r.day,land] ++ R.flatMap eZ).map V.str) none (some 4)=([r.word,r.name,cB r.day,land]:List Str).map V.str:=lA (α:=Nat) (([r.word,r.name,cB r.day,land] ++ R.flatMap eZ).map V.str) 4;rw[ec];have Y:=aS (o:=.lst (([r.word,r.name,cB r.day,land]:List Str).map V.str)) hC;have eC:upd H2 C (.lst (([r.word,r.name,cB r.day,land]:List Str).map V.str)) C=some (.lst (([r.word,r.name,cB r.day,land]:List Str).map V.str)):=aJ;generalize upd H2 C _=H3 at Y eC ⊢;refine⟨zZ1,fun q hq=>?_⟩;have M:=aS (o:=.tup [V.int 2]) hq;have ll:=(dA hl).2;refine⟨C,q,[r.word,r.name,cB r.day,land],[2],_,rfl,M _ _ eC,aX aJ,aBo (aBn ok) (by show((3:Nat):Int) ∉ ([2]:List Int);decide) (by omega),by show 4≤30;decide,fun t1 H4 s4 e4=>?_⟩;generalize upd H3 q _=aK at M s4;have z:=Y.trans (M.trans s4);refine⟨_,rfl,D,ys,rfl,.inl ⟨aV (z _ _ eD),fun tp ap=>⟨zZ1,fun t2 O=>?_⟩⟩⟩;have J:=aS (o:=.tup ys) ap;have ag:upd H4 tp (.tup ys) tp=some (.tup ys):=aJ;generalize upd H4 tp _=H5 at J ag O ⊢;have B:=aS (o:=.tup [V.ref tp]) O;refine⟨t1,t2,_,_,rfl,rfl,(J.trans B) _ _ e4,aJ,by show 4 + 1≤1000000;decide,fun t H6 s6 e6=>?_⟩;generalize upd H5 t2 _=aR at B s6;have ac:=B.trans s6;have aa:=J.trans ac;have aL:=(ok.words.1 r.word (by unfold dU;simp)).len;refine k t _ (s2.trans (z.trans aa)) ?_
  show RdV false H6 (.ref t) (.tuple (.str r.word :: .str r.name :: .int r.day :: r.ds));rw[eds];exact .tup e6 (by show 5≤1000;decide) (.cons (.str _ (by omega)) (.cons (iG ok.nm) (.cons (.int _) (.cons (iG hl) (.cons (.tup (ac _ _ ag) (by omega) (ry.same ((sD.trans z).trans aa))) .nil)))))
theorem yQ:bJ ["words"] ["words"] (aO lV):=⟨rfl,rfl,rfl,by decide,rfl,by decide,by decide⟩
theorem aCn{f:Ae}{fd:AD}(F:Fun K "join_of" "join_of" lV f fd)(U:mg "tuple"=none)(W:mg "len"=none)
  (GW:Cl P w K mg base 2 "with_numbers" ["words","places"] (lZ K))
  :cH P w K mg base CX0 3 f fd ["words"] (oH "join"):=by
 refine F.ok yQ (fun vs H Q E h=>?_) (fun ax A outer s H vs Q E hr h=>?_)
 ·obtain⟨L,r,fs,rfl,_⟩:=h;rfl
 ·obtain⟨L,r,fs,rfl,eL,ok,hw,k⟩:=h;have nd:=yQ.nd;have ac:cF 2 _:=hr;refine⟨_,(aQ (cX (PW.pt (fO (bS aCA (aW bG (by rfl) W AM (aH (pv 0) aG)) aI (cA _)) (fJ (bS pI (bV cV (pv 0) (wO qI aI) Ig) bE (cA _))))) (aU (aZ i4)) b8)
   (aU (aZ (bO aAM (bC GW ac (aH (c7 f7 (pv 0) dZ (dD aI)) (aH (dF (aH aI aG)) aG))) (dF (aH (cC dE (by rfl) U (by kernel_rfl) (aH (c7 f7 (pv 0) (dD aI) (dD (wO qI aI))) aG)) (aH (bV cV (pv 0) (wO qI aI) Ig) aG))))))),?_⟩
  obtain⟨land,R,eds,hl,ha,h6⟩:=ok.rs.isJoin hw;have eW:(dU r).map V.str=[V.str r.word,.str r.name,.str (cB r.day)] ++ R.map V.str ++ [.str "as",.str land]:=by
   unfold dU;rw[eds,hw,kE];show V.str _ :: V.str _ :: V.str _ :: (R ++ [("as":Str),land]).map V.str=_;rw[Au];rfl
  rw[eW]at eL;refine⟨_,rfl,L,_,rfl,.inl (aV eL),_,_,rfl,rfl,_,rfl,dR (fun g=>absurd (Ie g) (by simp;omega)) fun _=>?_⟩;refine⟨_,rfl,2,rfl,L,_,-2,_,rfl,rfl,aV eL,aBm.1,rfl,_,rfl,?_⟩;rw[Ic rfl];refine dC ?_;refine⟨_,rfl,3,rfl,L,_,rfl,aV eL,fun C hC=>?_⟩;have ec:fG ([V.str r.word,.str r.name,.str (cB r.day)] ++ R.map V.str ++ [.str "as",.str land]) none (some 3)=([r.word,r.name,cB r.day]:List Str).map V.str:=lA (α:=Nat) ([V.str r.word,.str r.name,.str (cB r.day)] ++ R.map V.str ++ [.str "as",.str land]) 3;rw[ec];have sC:=aS (o:=.lst (([r.word,r.name,cB r.day]:List Str).map V.str)) hC;have eC:upd H C (.lst (([r.word,r.name,cB r.day]:List Str).map V.str)) C=some (.lst (([r.word,r.name,cB r.day]:List Str).map V.str)):=aJ;generalize upd H C _=H3 at sC eC ⊢;refine⟨zZ1,fun q hq=>?_⟩;have sq:=aS (o:=.tup [V.int 2]) hq;refine⟨C,q,[r.word,r.name,cB r.day],[2],_,rfl,sq _ _ eC,aX aJ,aBn ok,by show 3≤30;decide,fun t1 H4 s4 e4=>?_⟩;generalize upd H3 q _=ap at sq s4;have B:=sC.trans (sq.trans s4);refine⟨_,rfl,3,rfl,2,rfl,-2,rfl,L,_,rfl,aV (B _ _ eL),fun M hM=>?_⟩;rw[aFr];have sM:=aS (o:=.lst (R.map V.str)) hM;refine⟨M,_,rfl,.inl ⟨aV aJ,fun Z ae=>?_⟩⟩;have ad:=aS (o:=.tup (R.map V.str)) ae;have s5:=sM.trans ad;have Y:upd (upd H4 M (.lst (R.map V.str))) Z (.tup (R.map V.str)) Z=some (.tup (R.map V.str)):=aJ;generalize upd (upd H4 M (.lst (R.map V.str))) Z _=H5 at s5 Y ⊢;refine⟨_,rfl,1,rfl,L,_,-1,_,rfl,rfl,aV ((B.trans s5) _ _ eL),aBm.2,zZ2,fun t2 ab=>?_⟩;have J:=aS (o:=.tup [V.ref Z,.str land]) ab
  refine⟨t1,t2,_,_,rfl,rfl,(s5.trans J) _ _ e4,aJ,by show 3 + 2≤1000000;decide,fun t H6 s6 e6=>?_⟩;generalize upd H5 t2 _=aF at J s6;have O:=J.trans s6;have aE:=(ok.words.1 r.word (by unfold dU;simp)).len;refine k t _ (B.trans (s5.trans O)) ?_;show RdV false H6 (.ref t) (.tuple (.str r.word :: .str r.name :: .int r.day :: r.ds));rw[eds];exact .tup e6 (by show 5≤1000;decide) (.cons (.str _ (by omega)) (.cons (iG ok.nm) (.cons (.int _) (.cons (.tup (O _ _ Y) (by rw[Ab];omega) (pG fun z hz=>by have:=(dA (ha z hz)).2;omega)) (.cons (iG hl) .nil)))))
theorem aHX:(" ":Str)=⟨#[32]⟩:=by decide
theorem pT{q:List Str}(hn:q≠[])(hw:∀ z∈q,kF z):PySem.Txt.split (CK " " q) " "=q:=by
 rw[gW,aHX];exact rY hn fun z hz=>(hw z hz).free 32 (by decide)
def dJ(w:Str):List Int:=if w="measure"∨w="view" then[4] else if w="breach" then[4,5,6] else[]
theorem aEq{r:cO}{fs:List Str}(h:r.Ok fs){ps:List Int}(q:(0:Int) ∉ ps)(h1:(1:Int) ∉ ps)(h2:(2:Int)∈ps):WN ps [r.word,r.name,cB r.day] [.str r.word,.str r.name,.int r.day]:=by
 obtain⟨hw,_⟩:=h.words;have F:=(hw r.word (by unfold dU;simp)).len;have B:=(hw r.name (by unfold dU;simp)).len;have d1:=h.d1;refine⟨rfl,fun i z hz=>?_⟩
 match i,hz with
 | 0,hz=>cases hz;exact⟨_,rfl,.inr ⟨q,rfl,by omega⟩⟩
 | 1,hz=>cases hz;exact⟨_,rfl,.inr ⟨h1,rfl,by omega⟩⟩
 | 2,hz=>cases hz;exact⟨_,rfl,.inl ⟨_,h2,rfl,rfl,h.d0,by omega⟩⟩
 | i + 3,hz=>simp at hz
theorem aEr{z:List Str}{ds:List Al}{ps:List Int}{n:Int}(h:WN ps z ds)(hn:((z.length:Nat):Int)∈ps)(B:0≤n)(h1:n≤1000000000):WN ps (z ++ [cB n]) (ds ++ [.int n]):=by
 obtain⟨hl,ha⟩:=h;refine⟨by rw[An,An,hl];rfl,fun i y q=>?_⟩;rcases Nat.lt_trichotomy i z.length with c | c | c
 ·rw[List.getElem?_append_left c]at q;obtain⟨d,h1,h2⟩:=ha i y q;exact⟨d,by rw[List.getElem?_append_left (by omega)];exact h1,h2⟩
 ·subst c;rw[List.getElem?_append_right (Ak _),Nat.sub_self]at q;cases q;exact⟨.int n,by rw[hl,List.getElem?_append_right (Ak _),Nat.sub_self];rfl,.inl ⟨n,hn,rfl,rfl,B,h1⟩⟩
 ·rw[AK (by rw[An];show z.length + 1≤i;omega)]at q;cases q
theorem tM{q:List Str}{ds:List Al}{ps:List Int}{z:Str}(k:Nat)(h:WN ps q ds)(B:q.length=k)(hn:(k:Int) ∉ ps)(hz:z.length≤1000):WN ps (q ++ [z]) (ds ++ [.str z]):=aBo h (by rw[B];exact hn) hz
theorem aAo{q:List Str}{ds:List Al}{ps:List Int}{n:Int}(k:Nat)(h:WN ps q ds)(z:q.length=k)(hn:(k:Int)∈ps)(B:0≤n)(h1:n≤1000000000):WN ps (q ++ [cB n]) (ds ++ [.int n]):=aEr h (by rw[z];exact hn) B h1
theorem dX{z:Str}(h:bM z=true):z.length≤1000:=by have:=(dA h).2;omega
theorem aFt{r:cO}{fs:List Str}(h:r.Ok fs)(h1:r.word≠"part")(h2:r.word≠"join"):WN (2 :: dJ r.word) (dU r) (.str r.word :: .str r.name :: .int r.day :: r.ds):=by
 obtain⟨hfl,erw,_⟩:=h.rs.flat h1 h2;unfold dU;rw[erw];have z:WN (2 :: dJ r.word) [r.word,r.name,cB r.day] [.str r.word,.str r.name,.int r.day]:=by
  refine aEq h ?_ ?_ AH
  ·unfold dJ;split
   ·decide
   ·split <;> decide
  ·unfold dJ;split
   ·decide
   ·split <;> decide
 have B:=h.rs;obtain⟨word,name,day,ds⟩:=r;dsimp only at z B h1 h2 ⊢;cases B with
 | part=>exact absurd rfl h1
 | join=>exact absurd rfl h2
 | forfeit Y M=>exact tM 4 (tM 3 z rfl (by decide) (dX Y)) rfl (by decide) (dX M)
 | measure F h0 Z=>exact aAo 4 (tM 3 z rfl (by decide) (dX F)) rfl (by decide) h0 (by omega)
 | mend ha hb _=>exact tM 4 (tM 3 z rfl (by decide) (dX ha)) rfl (by decide) (dX hb)
 | alone ha=>exact tM 3 z rfl (by decide) (dX ha)
 | breach F q O U J W ad=>exact aAo 6 (aAo 5 (aAo 4 (tM 3 z rfl (by decide) (dX F)) rfl (by decide) q (by omega)) rfl (by decide) U J) rfl (by decide) W (by omega)
 | view F q O hv=>exact tM 5 (aAo 4 (tM 3 z rfl (by decide) (dX F)) rfl (by decide) q (by omega)) rfl (by decide) (dX hv)
theorem yR{H:Hp}:∀{ds:List Al},(∀ d∈ds,g8 d)→cM false H (ds.map dV) ds
 | [],_=>.nil
 | d :: ds,h=>by
  refine .cons ?_ (yR fun e q=>h e (AF _ q));rcases h d AH with⟨z,rfl,hz⟩ | ⟨i,rfl,_⟩
  ·exact .str z (dX hz)
  ·exact .int i
inductive vE(vs:List V)(H:Hp)(Q:VK)(u3_:XK):Prop
 | mk (r:cO) (fs:List Str) (q0:vs=[.str (fE r)]) (q1:r.Ok fs) (q2:∀(t:Ae) (H':Hp),bA H H'→RdV false H' (.ref t) r.d→Q (.ref t) H'):vE vs H Q u3_
def aBp:Sp:=fun vs H Q u3_=>vE vs H Q u3_
inductive pU(vs:List V)(H:Hp)(Q:VK)(u3_:XK):Prop
 | mk (d:Al) (q0:vs=[.str (cZ d)]) (q1:dI d=true) (q2:∀(t:Ae) (H':Hp),bA H H'→RdV false H' (.ref t) d→Q (.ref t) H'):pU vs H Q u3_
def vF:Sp:=fun vs H Q u3_=>pU vs H Q u3_
theorem aBq:bJ ["line","words","row"] ["line"] (aO o8):=⟨rfl,rfl,rfl,by decide,rfl,by decide,by decide⟩
theorem aEs{f:Ae}{fd:AD}(F:Fun K "row_in" "row_in" o8 f fd){na:Ae}{af:List (Key×Ac)}{B:List (Key×V)}(ad:∀ h:A8,K.In h→h.DictOf (cJ P w) na af)(J:KV B af)(hzN:(na == sysModules)=false)(ag:mg "NUMBERS"=some (.ref na))(an:∀ kind∈dM,kind≠"part"→kind≠"join"→∃ a:Ae,f9 B (Am kind)=some (.ref a)∧∀ H:Hp,SqT K H a ((dJ kind).map V.int))
  (ak:Cl P w K mg base 3 "part_of" ["words"] (oH "part"))
  (GI:Cl P w K mg base 7 "is_row" ["thing"] aA5)
  (ap:Cl P w K mg base 3 "join_of" ["words"] (oH "join"))
  (GW:Cl P w K mg base 2 "with_numbers" ["words","places"] (lZ K))
  :cH P w K mg base CX0 8 f fd ["line"] aBp:=by
 refine F.ok aBq (fun vs H Q E h=>?_) (fun az A outer s H vs Q E hr h=>?_)
 ·obtain⟨r,fs,rfl,_⟩:=h;rfl
 ·obtain⟨r,fs,rfl,ok,k⟩:=h;have nd:=aBq.nd;have aq:cF 7 _:=hr;have ac:cF 3 _:=hr.mono (by decide);have am:cF 2 _:=hr.mono (by decide);refine⟨_,(aQ (bQ (i:=1) nd rfl (AG rfl) (f8 PySem.F.plainAttrs_str PySem.F.slot_str_split PySem.F.type_str_split rX (pv 0) (aH bE aG)))
   (aQ (bQ (i:=2) nd rfl (AG rfl) i4)
   (aQ (g9 (cX (bS eU (bV cV (pv 1) aI Ig) bE (cA _)) (aU (bQ (i:=2) nd rfl (AG rfl) (bC ak ac (aH (pv 1) aG)))) (aU (g9 (cX (bS eU (bV cV (pv 1) aI Ig) bE (cA _)) (aU (bQ (i:=2) nd rfl (AG rfl) (bC ap ac (aH (pv 1) aG)))) (aU (g9 (cX (bS (aGK ad J hzN) (bV cV (pv 1) aI Ig) (dL (v:=.ref na) (by rfl) ag rfl) (by with_unfolding_all rfl)) (aU (bQ (i:=2) nd rfl (AG rfl) (bC GW am (aH (pv 1) (aH (bO aAB (dF (aH aI aG)) (vS ad J (by rfl) ag (bV cV (pv 1) aI Ig) Ig)) aG))))) b8))))))))
   (aU (aZ (qH (eQ (bC GI aq (aH (pv 2) aG))) (pv 2) i4)))))),?_⟩
  obtain⟨hw,hwl⟩:=ok.words;have Z:PySem.Txt.split (fE r) " "=dU r:=pT (by unfold dU;simp) hw;have ar:=tH ok;refine⟨_,rfl,rfl,⟨_,_,rfl,rfl,by decide,aM (by omega),fun L hL=>?_⟩⟩;rw[Z];have sL:=aS (o:=.lst ((dU r).map V.str)) hL;have z:upd H L (.lst ((dU r).map V.str)) L=some (.lst ((dU r).map V.str)):=aJ;generalize upd H L _=H1 at sL z ⊢;have e0:atI ((dU r).map V.str) 0=some (.str r.word):=c3 (j:=0) rfl;dsimp only[cI];refine⟨fun σ' H'=>∃(t:Ae),σ'=[some (.str (fE r)),some (.ref L),some (.ref t)]∧bA H H'∧RdV false H' (.ref t) r.d,?_,?_⟩
  ·refine⟨_,rfl,L,_,0,_,rfl,rfl,aV z,e0,rfl,_,rfl,dR (fun g=>?_) fun g=>?_⟩
   ·have M:r.word="part":=V.str.inj (Ie g);exact⟨_,rfl,L,r,fs,rfl,z,ok,M,fun t H2 s2 rd=>⟨t,rfl,sL.trans s2,rd⟩⟩
   have U:r.word≠"part":=fun e=>g (by rw[e];rfl);refine⟨_,?_,fun _ _ h=>h⟩;refine⟨_,rfl,L,_,0,_,rfl,rfl,aV z,e0,rfl,_,rfl,dR (fun g=>?_) fun g=>?_⟩
   ·have M:r.word="join":=V.str.inj (Ie g);exact⟨_,rfl,L,r,fs,rfl,z,ok,M,fun t H2 s2 rd=>⟨t,rfl,sL.trans s2,rd⟩⟩
   have W:r.word≠"join":=fun e=>g (by rw[e];rfl);obtain⟨a,hva,hsq⟩:=an r.word ok.rs.word U W;obtain⟨hfl,_,h4⟩:=ok.rs.flat U W;refine⟨_,?_,fun _ _ h=>h⟩;refine⟨_,rfl,L,_,0,_,rfl,rfl,aV z,e0,Am r.word,rfl,rfl,_,rfl,?_⟩;rw[hva];refine c4 ?_;refine⟨_,rfl,zZ1,fun q hq=>?_⟩;have sq:=aS (o:=.tup [V.int 2]) hq;have O:upd H1 q (.tup [V.int 2]) q=some (.tup [V.int 2]):=aJ;generalize upd H1 q _=H2 at sq O ⊢;have ab:∀(p:Ae) (Y:Hp),bA H2 Y→SqT K Y p ((2 :: dJ r.word).map V.int)→(lZ K) [.ref L,.ref p] Y (fun v H'=>∃(t:Ae),[some (V.str (fE r)),some (.ref L),some v]=[some (.str (fE r)),some (.ref L),some (.ref t)]∧bA H H'∧RdV false H' (.ref t) r.d) E0:=fun p Y s3 M=>by
    refine⟨L,p,dU r,_,_,rfl,(sq.trans s3) _ _ z,M,aFt ok U W,by omega,fun t H4 s4 e4=>⟨t,rfl,sL.trans ((sq.trans s3).trans s4),?_⟩⟩;have aC:=(hw r.word (by unfold dU;simp)).len;exact .tup e4 (by rw[Ab];show _ + 1 + 1 + 1≤1000;omega) (.cons (.str _ (by omega)) (.cons (iG ok.nm) (.cons (.int _) (yR hfl))))
   refine⟨_,rfl,L,_,0,_,rfl,rfl,aV (sq _ _ z),e0,Am r.word,.ref a,rfl,hva,q,a,_,_,rfl,rfl,aX O,hsq _,by simp,aM (by rw[Ab];unfold dJ;split;decide;split <;> decide),fun e=>?_,fun _ p M=>?_⟩
   ·refine ab q H2 (bA.refl _) ?_;have:(2 :: dJ r.word).map V.int=[V.int 2]:=by rw[Bg,e]
    rw[this];exact aX O
   ·exact ab p _ (aS M) (aX aJ)
  rintro σ' H2 ⟨t,rfl,s2,rd⟩;refine⟨_,rfl,false,.ref t,r.d,rfl,rd,fun Y s3=>⟨_,rfl,?_⟩⟩;rw[ok.row];exact c4 ⟨_,rfl,k t Y (s2.trans s3) (rd.same s3)⟩
theorem vG:bJ ["line","field"] ["line"] (aO jO):=⟨rfl,rfl,rfl,by decide,rfl,by decide,by decide⟩
theorem aAp{f:Ae}{fd:AD}(F:Fun K "field_in" "field_in" jO f fd)
  (GW:Cl P w K mg base 2 "with_numbers" ["words","places"] (lZ K))
  (GF:Cl P w K mg base 3 "is_field" ["thing"] aBa)
  :cH P w K mg base CX0 4 f fd ["line"] vF:=by
 refine F.ok vG (fun vs H Q E h=>?_) (fun am A outer s H vs Q E hr h=>?_)
 ·obtain⟨d,rfl,_⟩:=h;rfl
 ·obtain⟨d,rfl,hf,k⟩:=h;have nd:=vG.nd;have J:cF 3 _:=hr;have M:cF 2 _:=hr.mono (by decide);refine⟨_,(aQ (bQ (i:=1) nd rfl (AG rfl) (bC GW M (aH (c7 f7 (f8 PySem.F.plainAttrs_str PySem.F.slot_str_split PySem.F.type_str_split rX (pv 0) (aH bE aG)) (dD aI) dZ) (aH (dF (aH aI (aH aI aG))) aG))))
   (aU (aZ (qH (eQ (bC GF J (aH (pv 1) aG))) (pv 1) i4)))),?_⟩
  obtain⟨hw,h5,hlen⟩:=jR hf;have B:PySem.Txt.split (cZ d) " "=hV d:=pT (by intro z;rw[z]at h5;simp at h5) hw;obtain⟨f',g,a,i,rfl,h1,h2,h3,h4,h5',h6⟩:=gT hf;refine⟨_,rfl,rfl,⟨_,_,rfl,rfl,by decide,aM (by omega),fun L hL=>?_⟩⟩;rw[B];have Y:=aS (o:=.lst ((hV (.tuple [.str f',.str g,.int a,.int i])).map V.str)) hL;have W:upd H L (.lst ((hV (.tuple [.str f',.str g,.int a,.int i])).map V.str)) L=some (.lst ([V.str "field",.str f',.str g,.str (cB a),.str (cB i)])):=aJ;generalize upd H L _=H1 at Y W ⊢;refine⟨1,rfl,L,_,rfl,aV W,fun C hC=>?_⟩;have ec:fG [V.str "field",.str f',.str g,.str (cB a),.str (cB i)] (some 1) none=([f',g,cB a,cB i]:List Str).map V.str:=rE (α:=Nat) [V.str "field",.str f',.str g,.str (cB a),.str (cB i)] 1;rw[ec];have sC:=aS (o:=.lst (([f',g,cB a,cB i]:List Str).map V.str)) hC;have Z:upd H1 C (.lst (([f',g,cB a,cB i]:List Str).map V.str)) C=some (.lst (([f',g,cB a,cB i]:List Str).map V.str)):=aJ;generalize upd H1 C _=H2 at sC Z ⊢;refine⟨zZ2,fun q hq=>?_⟩;have O:=aS (o:=.tup [V.int 2,.int 3]) hq;have w0:WN [2,3] [] []:=⟨rfl,fun i z hz=>by simp at hz⟩
  have w4:WN [2,3] [f',g,cB a,cB i] [.str f',.str g,.int a,.int i]:=aAo 3 (aAo 2 (tM 1 (tM 0 w0 rfl (by decide) (dX h1)) rfl (by decide) (dX h2)) rfl (by decide) (by omega) (by omega)) rfl (by decide) (by omega) (by omega);refine⟨C,q,_,[2,3],_,rfl,O _ _ Z,aX aJ,w4,by show 4≤30;decide,fun t H3 s3 e3=>?_⟩;generalize upd H2 q _=aq at O s3;have U:=Y.trans (sC.trans (O.trans s3));have rd:RdV false H3 (.ref t) (.tuple [.str f',.str g,.int a,.int i]):=.tup e3 (by show 4≤1000;decide) (.cons (iG h1) (.cons (iG h2) (.cons (.int _) (.cons (.int _) .nil))));dsimp only[cI];refine⟨_,rfl,false,.ref t,_,rfl,rd,fun H4 s4=>⟨_,rfl,?_⟩⟩;rw[hf];exact c4 ⟨_,rfl,k t H4 (U.trans s4) (rd.same s4)⟩
theorem aG6(a b:Int)(c:Str)(q z:Int)(B:Str):ltK a b c q z B=iC (a,b,c) (q,z,B):=by
 unfold ltK iC;simp only[beq_iff_eq]
inductive vH(vs:List V)(H:Hp)(Q:VK)(u3_:XK):Prop
 | mk (x y:V) (u v:cO) (fs:List Str) (q0:vs=[x,y]) (q1:RdV false H x u.d) (q2:u.Ok fs) (q3:RdV false H y v.d) (q4:v.Ok fs) (q5:∀ H',bA H H'→Q (.bl (iC u.key v.key)) H'):vH vs H Q u3_
def aBr:Sp:=fun vs H Q u3_=>vH vs H Q u3_
structure wG(H:Hp)(la:Ae)(lys:List V)(lds:List Al):Prop where
 e:H la=some (.lst lys)
 rd:cM false H lys lds
 ok:lds.all dI=true
 few:lds.length≤8
theorem wG.same{H H':Hp}{la:Ae}{q:List V}{z:List Al}(h:wG H la q z)(s:bA H H'):wG H' la q z:=⟨s _ _ h.e,h.rd.same s,h.ok,h.few⟩
theorem wG.head{H:Hp}{la:Ae}{B:List V}{F:List Al}(h:wG H la B F){i:Nat}{v:V}(M:B[i]?=some v):∃ q cS z,v=.ref q∧H q=some (.tup (.str z :: cS))∧(F.map dW)[i]?=some z:=by
 obtain⟨d,hd,rv⟩:=h.rd.at M;have J:=AU.mp h.ok d (A2 hd);obtain⟨f,g,a,j,rfl,_⟩:=sY J;obtain⟨b,zs,rfl,eb,rz⟩:=rdT rv;cases rz with
 | cons a r=>
  cases a;exact⟨b,_,f,rfl,eb,by rw[AI,hd];rfl⟩
inductive tN(vs:List V)(H:Hp)(Q:VK)(u3_:XK):Prop
 | mk (x:V) (la lr:Ae) (r:cO) (lys:List V) (lds:List Al) (xs:List V) (us:List cO) (q0:vs=[x,.ref la,.ref lr]) (q1:RdV false H x r.d) (q2:r.Ok (lds.map dW)) (q3:wG H la lys lds) (q4:H lr=some (.lst xs)) (q5:dN H xs us (lds.map dW)) (q6:us.length < 40) (q7:r.name ∉ us.map (·.name)) (q8:(∀ u,us.getLast?=some u→iC u.key r.key=true)) (q9:∀ H',bA H H'→Q (.bl true) H'):tN vs H Q u3_
def yS:Sp:=fun vs H Q u3_=>tN vs H Q u3_
theorem aBs:bJ ["row","other"] ["row","other"] (aO o0):=⟨rfl,rfl,rfl,by decide,rfl,by decide,by decide⟩
theorem aEt{f:Ae}{fd:AD}(F:Fun K "goes_ahead" "goes_ahead" o0 f fd)
  (M:Cl P w K mg base 1 "order" ["row"] oB)
  :cH P w K mg base CX0 2 f fd ["row","other"] aBr:=by
 refine F.ok aBs (fun vs H Q E h=>?_) (fun U A outer s H vs Q E z h=>?_)
 ·obtain⟨x,y,u,v,fs,rfl,_⟩:=h;rfl
 ·obtain⟨x,y,u,v,fs,rfl,rx,okx,ry,oky,k⟩:=h;have nd:=aBs.nd;have Y:=Nat.lt_of_succ_lt (aAI z);have q:cF 1 _:=z;refine⟨_,(aU (aZ (fY (aGC Y) (bC M q (aH (pv 0) aG)) (bC M q (aH (pv 1) aG)) (cA _)))),_,rfl,x,u.word,u.name,u.day,rfl,okx.at rx,fun O H1 J W=>?_⟩;refine⟨_,rfl,y,v.word,v.name,v.day,rfl,(oky.at ry).same J,fun q2 H2 B Z=>?_⟩;refine⟨O,q2,_,_,_,_,_,_,rfl,rfl,B _ _ W,Z,?_⟩;rw[aG6];exact k H2 (J.trans B)
theorem yT:bJ ["row","laying","rows","field"] ["row","laying","rows"] (aO iX):=⟨rfl,rfl,rfl,by decide,rfl,by decide,by decide⟩
theorem aCo{f:Ae}{fd:AD}(F:Fun K "goes_behind" "goes_behind" iX f fd)(Y:mg "len"=none)(Z:∃ t,mg "MOST_ROWS"=some (.int 40 t))
  (GF:Cl P w K mg base 1 "field_of" ["row"] uU)
  (GA:Cl P w K mg base 2 "goes_ahead" ["row","other"] aBr)
  :cH P w K mg base CX0 3 f fd ["row","laying","rows"] yS:=by
 refine F.ok yT (fun vs H Q E h=>?_) (fun aw A outer s H vs Q E hr h=>?_)
 ·obtain⟨x,la,lr,r,lys,lds,xs,us,rfl,_⟩:=h;rfl
 ·obtain⟨x,la,lr,r,lys,lds,xs,us,rfl,rx,ok,hL,er,hR,h40,hnin,hlast,k⟩:=h;have nd:=yT.nd;obtain⟨tm,hmr⟩:=Z;have ag:cF 2 _:=hr;have ai:cF 1 _:=hr.mono (by decide);refine⟨_,(aQ (bQ (i:=3) nd rfl (AG rfl) (bC GF ai (aH (pv 0) aG)))
   (aQ (g9 (cX (PW.pt (qG (bS aEG (pv 3) i4 (cA _)) (nA (bS jY (pv 3) (eG (N:=["place"]) (src:=[none]) (osc:=aO iX) (oN:=["row","laying","rows","field"]) ⟨by rfl,by decide,by decide,by decide,rfl,by rfl⟩ (jU (pv 1)) (fun cl s H fp bd C=>⟨bB (i:=0) (show(["place"]:List Str).Nodup by decide) rfl (AG rfl),c8,bV (r:=aCN K) cG (pv 0) aI Ig⟩)) (by with_unfolding_all rfl))))) (aU (aZ gX)) b8))
   (aQ (cX (PW.pt (fO (bS aCB (aW bG (by rfl) Y AM (aH (pv 2) aG)) (dL (v:=.int 40) (by rfl) hmr ⟨_,rfl⟩) (cA _)) (fJ (bS i8 (bV cG (pv 0) aI Ig) (eG (N:=["known"]) (src:=[none]) (osc:=aO iX) (oN:=["row","laying","rows","field"]) ⟨by rfl,by decide,by decide,by decide,rfl,by rfl⟩ (jU (pv 2)) (fun cl s H fp bd C=>⟨bB (i:=0) (show(["known"]:List Str).Nodup by decide) rfl (AG rfl),c8,bV (r:=aCN K) cG (pv 0) aI Ig⟩)) (by with_unfolding_all rfl))))) (aU (aZ gX)) b8)
   (aU (aZ (aHf (aEU (pv 2)) (fF (bC GA ag (aH (bV cV (pv 2) (wO qI aI) Ig) (aH (pv 0) aG)))))))))),?_⟩
  obtain⟨d4,rd',erd,hf4⟩:=ok.rs.fourth;obtain⟨tr,ys,rfl,etr,ry⟩:=ok.open rx;rw[erd]at ry;obtain⟨x4,B,rfl,r4⟩:∃ x4 B,ys=x4 :: B∧RdV false H x4 d4:=by
   cases ry with
   | cons a r=>exact⟨_,_,rfl,a⟩
  have J:=hR.len;have aA:=hL.rd.len;have h8:=hL.few;refine⟨_,rfl,tr,r.word,_,_,x4,B,rfl,etr,fun H1 s1=>?_⟩;obtain⟨fv,hfv⟩:∃ fv:V,fv=if inV (.str r.word) [V.str "measure",.str "breach",.str "view"]=true then x4 else .non:=⟨_,rfl⟩
  rw[← hfv];refine⟨fun σ' H'=>σ'=[some (.ref tr),some (.ref la),some (.ref lr),some fv]∧bA H H',?_,?_⟩
  ·by_cases g:inV (.str r.word) [V.str "measure",.str "breach",.str "view"]=true
   ·obtain⟨z,rfl⟩:=hf4 g;have hz:z∈lds.map dW:=ok.fi g z rd' erd;have e4:=rdS r4;subst e4;rw[Ib g]at hfv;subst hfv;refine⟨_,rfl,rfl,_,rfl,?_⟩;rw[decide_eq_false (show¬ V.str z=V.non from fun y=>nomatch y)];refine c4 ?_;have O:=hL.same s1;refine⟨_,rfl,_,rfl,la,rfl,⟨_,aV O.e⟩,?_⟩;refine jE (K:=K) (xs:=lys) (fun i zs σ H'=>bA H1 H'∧zs=((lds.map dW).take i).map V.str∧∃ o,σ=[o]) ⟨bA.refl H1,rfl,none,rfl⟩ (aM (by omega)) (fun i zs σ H' p=>by rw[p.2.1,Ab,AC];omega) (fun i zs σ H' p=>aV (p.1 _ _ O.e)) ?_ ?_
    ·rintro i px zs σ H' ae ⟨S,rfl,o,rfl⟩;dsimp only[cI];obtain⟨b,rr,zz,rfl,eb,hw⟩:=O.head ae;refine c4 ?_;refine⟨_,rfl,b,_,0,_,rfl,rfl,aX (S _ _ eb),c3 (j:=0) rfl,S,?_,_,rfl⟩;rw[AN,hw,Au];rfl
    ·rintro zs σ H' ⟨S,rfl,o,rfl⟩ D hD;rw[Be (by rw[Ab];omega)];have sD:=aS (o:=.lst ((lds.map dW).map V.str)) hD;refine⟨D,_,rfl,.inl (aV aJ),rfl,fU _,_,rfl,?_⟩;rw[Ib rfl,nX,Ic hz];exact dC ⟨rfl,s1.trans (S.trans sD)⟩
   ·rw[Ia g]at hfv;subst hfv;refine⟨_,rfl,rfl,_,rfl,?_⟩;rw[Ic rfl];exact dC ⟨rfl,s1⟩
  rintro σ' H2 ⟨rfl,s2⟩;have M:=s2 _ _ er;have af:=hR.same s2;refine⟨_,rfl,lr,_,rfl,.inl (aV M),_,_,rfl,rfl,_,rfl,?_⟩;rw[decide_eq_false (show¬ ((40:Int)≤((xs.length:Nat):Int)) by omega)];refine dC ?_;refine⟨_,rfl,tr,_,1,_,rfl,rfl,aX (s2 _ _ etr),c3 (j:=1) rfl,_,rfl,lr,rfl,⟨_,aV M⟩,?_⟩;refine jE (K:=K) (xs:=xs) (fun i zs σ H'=>H'=H2∧zs=((us.take i).map (·.name)).map V.str∧∃ o,σ=[o]) ⟨rfl,rfl,none,rfl⟩ (aM (by omega)) (fun i zs σ H' p=>by rw[p.2.1,Ab,Ab,AC];omega) (fun i zs σ H' p=>by rw[p.1];exact aV M) ?_ ?_
  ·rintro i v zs σ H' hv ⟨rfl,rfl,o,rfl⟩;obtain⟨u,hu,rv,oku⟩:=af.at' i v hv;obtain⟨q,zs',rfl,eq,_⟩:=oku.open rv;dsimp only[cI];refine c4 ?_;refine⟨_,rfl,q,_,1,_,rfl,rfl,aX eq,c3 (j:=1) rfl,rfl,?_,_,rfl⟩;rw[AN,hu,Au,Au];rfl
  rintro zs σ H' ⟨rfl,rfl,o,rfl⟩ D hD;rw[J,AZ];have sD:=aS (o:=.lst ((us.map (·.name)).map V.str)) hD
  refine⟨D,_,rfl,.inl (aV aJ),rfl,fU _,_,rfl,?_⟩;rw[Ia Aw,nX,decide_eq_false hnin];refine dC ?_;generalize upd H' D _=H3 at sD;have U:=s2.trans sD;refine⟨_,rfl,_,.inl ⟨xs,aV (U _ _ er),rfl⟩,_,rfl,?_⟩;cases hx:xs with
  | nil=>exact c4 (k _ U)
  | cons x0 xr=>
   refine dC ?_;obtain⟨W,hul⟩:∃ W,us.getLast?=some W:=by
    cases us with
    | nil=>rw[hx]at J;simp at J
    | cons u0 ur=>exact⟨_,rfl⟩
   have an:us[us.length - 1]?=some W:=by rw[← List.getLast?_eq_getElem?];exact hul
   obtain⟨xl,hxl'⟩:∃ xl,xs[xs.length - 1]?=some xl:=⟨_,Ai (by rw[hx];simp)⟩
   obtain⟨u2,hu2,ru,oku⟩:=(hR.same U).at' _ _ hxl';rw[J]at hu2;rw[an]at hu2;cases hu2;have am:atI xs (-1)=some xl:=by
    rw[← List.getLast?_eq_getElem?]at hxl';obtain⟨ys,rfl⟩:=List.getLast?_eq_some_iff.mp hxl';exact aCJ ys xl
   refine⟨_,rfl,1,rfl,lr,_,-1,_,rfl,rfl,aV (U _ _ er),am,_,rfl,xl,.ref tr,W,r,_,rfl,ru,oku,rx.same U,ok,fun H4 s4=>?_⟩;rw[hlast W hul];exact k H4 (U.trans s4)
theorem aFu{x y:Str}{r:List Nat}(h:x.cps.toList=y.cps.toList ++ r):PySem.Txt.startswith x y=true:=by
 have z:x.length=y.length + r.length:=by
  show x.cps.size=y.cps.size + _;rw[← A1,h,An,A1]
 have q:y.length=y.cps.toList.length:=by rw[A1];rfl
 show(decide (0 + y.length≤x.length) && Builtin.Str.subAt x y 0)=true;rw[Ic (by omega),StrLaws.subAt_eq,Cv,h,q,List.take_left];simp
theorem yU{x y:Str}{i a b:Nat}(B:x.cps.toList[i]?=some a)(z:y.cps.toList[i]?=some b)(q:a≠b):PySem.Txt.startswith x y=false:=by
 have F:y.length=y.cps.toList.length:=by rw[A1];rfl
 have hi:=(AE.mp z).1;show(decide (0 + y.length≤x.length) && Builtin.Str.subAt x y 0)=false;rw[StrLaws.subAt_eq,Cv,Bool.and_eq_false_iff];refine .inr ?_;rw[beq_eq_false_iff_ne];intro e;have:((x.cps.toList.take y.length)[i]?)=some b:=by rw[e];exact z
 rw[List.getElem?_take_of_lt (by omega),B]at this;exact q (By.inj this)
theorem aEu{d:Al}(h:dI d=true):PySem.Txt.startswith (cZ d) "field "=true:=by
 obtain⟨f,g,a,i,rfl,_⟩:=gT h;have q:("field ":Str).cps.toList=("field":Str).cps.toList ++ (" ":Str).cps.toList:=by decide
 refine aFu (r:=(B1 " " [f,g,cB a,cB i]).cps.toList) ?_;rw[q];unfold cZ;rw[gW];show(("field":Str) ++ (" ":Str) ++ B1 " " [f,g,cB a,cB i]).cps.toList=_;rw[iD,iD]
theorem aG7{r:cO}{fs:List Str}(h:r.Ok fs):PySem.Txt.startswith (fE r) "field "=false:=by
 have e:∃ q,(fE r).cps.toList=r.word.cps.toList ++ q:=by
  unfold fE dU;rw[gW];refine⟨(" ":Str).cps.toList ++ (B1 " " (r.name :: cB r.day :: mI r.word r.ds)).cps.toList,?_⟩;show(r.word ++ (" ":Str) ++ B1 " " (r.name :: cB r.day :: mI r.word r.ds)).cps.toList=_;rw[iD,iD,BU]
 obtain⟨q,eq⟩:=e;have hw:∀ w∈dM,(∃ a,w.cps.toList[0]?=some a∧a≠102)∨∃ a,w.cps.toList[1]?=some a∧a≠105:=by
  have:∀ w∈dM,(((w.cps.toList[0]?).getD 102 != 102) || ((w.cps.toList[1]?).getD 105 != 105))=true:=by decide
  intro w hw;have h1:=this w hw;rw[Bool.or_eq_true]at h1;rcases h1 with z | z
  ·cases e:w.cps.toList[0]? with
   | none=>rw[e]at z;simp at z
   | some a=>rw[e]at z;exact .inl ⟨a,rfl,by simpa using z⟩
  ·cases e:w.cps.toList[1]? with
   | none=>rw[e]at z;simp at z
   | some a=>rw[e]at z;exact .inr ⟨a,rfl,by simpa using z⟩
 have B:("field ":Str).cps.toList[0]?=some 102:=by decide
 have h1:("field ":Str).cps.toList[1]?=some 105:=by decide
 rcases hw r.word h.rs.word with⟨a,ha,hn⟩ | ⟨a,ha,hn⟩
 ·exact yU (i:=0) (by rw[eq,List.getElem?_append_left (AE.mp ha).1];exact ha) B hn
 ·exact yU (i:=1) (by rw[eq,List.getElem?_append_left (AE.mp ha).1];exact ha) h1 hn
def tO:Sp:=fun vs H Q _=>
 (∃(d:Al) (la lr:Ae) (lys:List V) (lds:List Al),vs=[.str (cZ d),.ref la,.ref lr]∧dI d=true∧wG H la lys lds∧lds.length < 8∧dW d ∉ lds.map dW∧H lr=some (.lst [])∧∀(v:V) (H':Hp),aY la H H'→H' la=some (.lst (lys ++ [v]))→RdV false H' v d→Q (.bl true) H')∨
 (∃(r:cO) (la lr:Ae) (lys:List V) (lds:List Al) (xs:List V) (us:List cO),vs=[.str (fE r),.ref la,.ref lr]∧r.Ok (lds.map dW)∧wG H la lys lds∧lds≠[]∧H lr=some (.lst xs)∧dN H xs us (lds.map dW)∧us.length < 40∧r.name ∉ us.map (·.name)∧(∀ u,us.getLast?=some u→iC u.key r.key=true)∧∀(v:V) (H':Hp),aY lr H H'→H' lr=some (.lst (xs ++ [v]))→RdV false H' v r.d→Q (.bl true) H')
theorem aEv{H:Hp}{l:Ae}{xs ys:List V}{x:V}{d:Al}(r:RdV false H x d)(e:H l=some (.lst xs)):RdV false (upd H l (.lst ys)) x d:=
 r.keepF fun a o q _ h=>by rw[bU (qE q e h)];exact q
theorem tP:bJ ["line","laying","rows","field","row"] ["line","laying","rows"] (aO gR):=⟨rfl,rfl,rfl,by decide,rfl,by decide,by decide⟩
theorem yV{f:Ae}{fd:AD}(F:Fun K "take_line" "take_line" gR f fd)(Y:mg "len"=none)(U:∃ t,mg "MOST_FIELDS"=some (.int 8 t))
  (ad:Cl P w K mg base 8 "row_in" ["line"] aBp)
  (ae:Cl P w K mg base 4 "field_in" ["line"] vF)
  (GB:Cl P w K mg base 3 "goes_behind" ["row","laying","rows"] yS)
  :cH P w K mg base CX0 9 f fd ["line","laying","rows"] tO:=by
 refine F.ok tP (fun vs H Q E h=>?_) (fun an A outer s H vs Q E hr h=>?_)
 ·rcases h with⟨d,la,lr,lys,lds,rfl,_⟩ | ⟨r,la,lr,lys,lds,xs,us,rfl,_⟩
  ·rfl
  ·rfl
 ·have h0:=h;have nd:=tP.nd;obtain⟨tm,hmf⟩:=U;have ah:cF 8 _:=hr;have ai:cF 4 _:=hr.mono (by decide);have ac:cF 3 _:=hr.mono (by decide);refine⟨_,(aQ (cX (eQ (f8 PySem.F.plainAttrs_str PySem.F.slot_str_startswith PySem.F.type_str_startswith tX (pv 0) (aH bE aG))) (aQ (bQ (i:=3) nd rfl (AG rfl) (bC ae ai (aH (pv 0) aG)))
    (aQ (cX (PW.pt (fO (bS aCC (pv 3) i4 (cA _)) (fO (wP (pv 2) (fun _=>rfl)) (fO (bS aCB (aW bG (by rfl) Y AM (aH (pv 1) aG)) (dL (v:=.int 8) (by rfl) hmf ⟨_,rfl⟩) (cA _)) (fJ (bS i8 (bV cG (pv 3) aI Ig) (eG (N:=["place"]) (src:=[none]) (osc:=aO gR) (oN:=["line","laying","rows","field","row"]) ⟨by rfl,by decide,by decide,by decide,rfl,by rfl⟩ (jU (pv 1)) (fun cl s H fp bd C=>⟨bB (i:=0) (show(["place"]:List Str).Nodup by decide) rfl (AG rfl),c8,bV (r:=aCN K) cG (pv 0) aI Ig⟩)) (by with_unfolding_all rfl))))))) (aU (aZ gX)) b8)
    (aQ (hZ (f8 Bj BL BK iH (pv 1) (aH (pv 3) aG)))
    (aU (aZ gX))))) b8)
   (aQ (bQ (i:=4) nd rfl (AG rfl) (bC ad ah (aH (pv 0) aG)))
   (aQ (cX (PW.pt (fO (bS aCC (pv 4) i4 (cA _)) (fO (d8 (wP (pv 1) (fun _=>rfl))) (fJ (d8 (eQ (bC GB ac (aH (pv 4) (aH (pv 1) (aH (pv 2) aG)))))))))) (aU (aZ gX)) b8)
   (aQ (hZ (f8 Bj BL BK iH (pv 2) (aH (pv 4) aG)))
   (aU (aZ gX)))))),?_⟩
  rcases h0 with⟨d,la,lr,lys,lds,rfl,hf,hL,h8,hnin,er,k⟩ | ⟨r,la,lr,lys,lds,xs,us,rfl,ok,hL,hne,er,hR,h40,hnin,hlast,k⟩
  ·refine⟨_,rfl,rfl,_,_,rfl,rfl,_,rfl,?_⟩;rw[aEu hf];refine c4 ?_;refine⟨_,rfl,d,rfl,hf,fun t H1 z rd=>?_⟩;have q:=hL.same z;have Z:=hL.rd.len;dsimp only[cI];refine⟨_,rfl,rfl,_,rfl,?_⟩;rw[decide_eq_false (show¬ V.ref t=V.non from fun y=>nomatch y)];refine dC ?_;refine⟨_,rfl,_,.inl ⟨[],aV (z _ _ er),rfl⟩,dC ?_⟩;refine⟨_,rfl,la,_,rfl,.inl (aV q.e),_,_,rfl,rfl,_,rfl,?_⟩;rw[decide_eq_false (show¬ ((8:Int)≤((lys.length:Nat):Int)) by omega)];refine dC ?_;obtain⟨f',g',a',i',ed,_⟩:=gT hf;obtain⟨tq,zs,et,eq,rz⟩:=rdT (ed ▸ rd:RdV false H1 (.ref t) (.tuple [.str f',.str g',.int a',.int i']));cases et;obtain⟨zr,rfl⟩:∃ zr,zs=.str f' :: zr:=by
    cases rz with
    | cons a r=>cases a;exact⟨_,rfl⟩
   have hh:dW d=f':=by rw[ed];rfl
   rw[hh]at hnin;refine⟨_,rfl,t,_,0,_,rfl,rfl,aX eq,c3 (j:=0) rfl,_,rfl,la,rfl,⟨_,aV q.e⟩,?_⟩;refine jE (K:=K) (xs:=lys) (fun i zs σ H'=>bA H1 H'∧zs=((lds.map dW).take i).map V.str∧∃ o,σ=[o]) ⟨bA.refl H1,rfl,none,rfl⟩ (aM (by omega)) (fun i zs σ H' p=>by rw[p.2.1,Ab,AC];omega) (fun i zs σ H' p=>aV (p.1 _ _ q.e)) ?_ ?_
   ·rintro i px zs σ H' aa ⟨S,rfl,o,rfl⟩;dsimp only[cI];obtain⟨b,rr,zz,rfl,eb,hw⟩:=q.head aa;refine c4 ?_;refine⟨_,rfl,b,_,0,_,rfl,rfl,aX (S _ _ eb),c3 (j:=0) rfl,S,?_,_,rfl⟩;rw[AN,hw,Au];rfl
   rintro zs σ H' ⟨S,rfl,o,rfl⟩ D hD;rw[Be (by rw[Ab];omega)];have sD:=aS (o:=.lst ((lds.map dW).map V.str)) hD;refine⟨D,_,rfl,.inl (aV aJ),rfl,fU _,_,rfl,?_⟩;rw[Ia Aw,nX,decide_eq_false hnin];refine dC ?_;generalize upd H' D _=H3 at sD;have M:=z.trans (S.trans sD);have B:=M _ _ hL.e;have ag:=rd.same (S.trans sD);exact⟨_,rfl,.inl ⟨rfl,_,aV B⟩,_,rfl,la,lys,.ref t,rfl,rfl,B,AS (show lys.length < 1000000 by omega) (aM (Ak _)),k (.ref t) _ ((bA.but M).upd) aJ (aEv ag B)⟩
  ·refine⟨_,rfl,rfl,_,_,rfl,rfl,_,rfl,?_⟩;rw[aG7 ok];refine dC ?_;refine⟨_,rfl,r,_,rfl,ok,fun t H1 z rd=>?_⟩;have q:=hL.same z;have Z:=hL.rd.len;have aq:=hR.len;dsimp only[cI];refine⟨_,rfl,rfl,_,rfl,?_⟩;rw[decide_eq_false (show¬ V.ref t=V.non from fun y=>nomatch y)];refine dC ?_;refine⟨_,rfl,_,.inl ⟨lys,aV q.e,rfl⟩,?_⟩;have O:lys.isEmpty=false:=by
    cases lys with
    | nil=>cases lds with
     | nil=>exact absurd rfl hne
     | cons _ _=>simp at Z
    | cons _ _=>rfl
   rw[O];refine dC ?_;refine⟨_,rfl,_,rfl,_,rfl,.ref t,la,lr,r,lys,lds,xs,us,rfl,rd,ok,q,z _ _ er,hR.same z,h40,hnin,hlast,fun H3 M=>⟨_,rfl,?_⟩⟩;refine dC ?_;have W:=z.trans M;have J:=W _ _ er;exact⟨_,rfl,.inl ⟨rfl,_,aV J⟩,_,rfl,lr,xs,.ref t,rfl,rfl,J,AS (show xs.length < 1000000 by omega) (aM (Ak _)),k (.ref t) _ ((bA.but W).upd) aJ (aEv (rd.same M) J)⟩
def aEw(lds:List Al)(os:List cO):Al:=.tuple [.tuple lds,.tuple (os.map cO.d)]
theorem aIA:("\n":Str)=⟨#[10]⟩:=by decide
theorem vI{c:Nat}{q:Str}(J:c ∉ q.cps.toList):∀{B:List Str},(∀ z∈B,c ∉ z.cps.toList)→c ∉ (B1 q B).cps.toList:=by
 intro B
 induction B with
 | nil=>
  intro _ h;have e:(B1 q []).cps.toList=[]:=by rfl
  rw[e]at h;simp at h
 | cons a B F=>
  intro hw;cases B with
  | nil=>exact hw a AH
  | cons b B=>
   show c ∉ (a ++ q ++ B1 q (b :: B)).cps.toList;rw[iD,iD,A4,A4];have:=F fun z hz=>hw z (AF _ hz);have h1:=hw a AH;rintro((z | z) | z)
   ·exact h1 z
   ·exact J z
   ·exact this z
theorem aCp{q:List Al}{B:List cO}{fs:List Str}(J:q.all dI=true)(M:∀ u∈B,u.Ok fs):∀ z∈q.map cZ ++ B.map fE,10 ∉ z.cps.toList:=fun z hz=>by
 have F:10 ∉ (" ":Str).cps.toList:=by decide
 rcases A4.mp hz with h | h
 ·obtain⟨d,hd,rfl⟩:=A7.mp h;unfold cZ;rw[gW];exact vI F fun z hz=>((jR (AU.mp J d hd)).1 z hz).free 10 (by decide)
 ·obtain⟨u,hu',rfl⟩:=A7.mp h;unfold fE;rw[gW];exact vI F fun z hz=>((M u hu').words.1 z hz).free 10 (by decide)
theorem yX{q:List Al}{B:List cO}{fs:List Str}(F:q.all dI=true)(J:∀ u∈B,u.Ok fs)(hn:q≠[]):PySem.Txt.split (tG q B) "\n"=q.map cZ ++ B.map fE:=by
 unfold tG;rw[gW,aIA];refine rY (fun z=>hn ?_) (aCp F J);cases q with
 | nil=>rfl
 | cons _ _=>simp at z
theorem yY{H H':Hp}{l:Ae}{ys:List V}(k:aY l H H')(e:H l=some (.lst ys)){xs:List V}{ds:List Al}(r:cM false H xs ds):cM false H' xs ds:=r.keepF fun a o q _ h=>k a o q (qE q e h)
theorem aCq{H H':Hp}{l:Ae}{ys:List V}(k:aY l H H')(e:H l=some (.lst ys)){xs:List V}{q:List cO}{fs:List Str}(r:dN H xs q fs):dN H' xs q fs:=⟨r.len,fun i x B=>by
 obtain⟨u,h1,h2,h3⟩:=r.at' i x B;exact⟨u,h1,h2.keepF fun a o z _ h=>k a o z (qE z e h),h3⟩⟩
theorem dN.snoc{H:Hp}{xs:List V}{B:List cO}{fs:List Str}{x:V}{u:cO}(h:dN H xs B fs)(rd:RdV false H x u.d)(ok:u.Ok fs):dN H (xs ++ [x]) (B ++ [u]) fs:=by
 refine⟨by rw[An,An,h.len];rfl,fun i y q=>?_⟩;have F:=h.len;rcases Nat.lt_trichotomy i xs.length with z | z | z
 ·rw[List.getElem?_append_left z]at q;obtain⟨v,h1,h2⟩:=h.at' i y q;exact⟨v,by rw[List.getElem?_append_left (by omega)];exact h1,h2⟩
 ·rw[z,List.getElem?_append_right (Ak _),Nat.sub_self]at q;cases q;exact⟨u,by rw[z,F,List.getElem?_append_right (Ak _),Nat.sub_self];rfl,rd,ok⟩
 ·rw[AK (by rw[An];show xs.length + 1≤i;omega)]at q;cases q
structure aEx(lds:List Al)(us:List cO):Prop where
 f:lds.all dI=true
 n:lds≠[]
 l8:lds.length≤8
 h:(lds.map dW).Nodup
 ok:∀ u∈us,u.Ok (lds.map dW)
 u40:us.length≤40
 nn:(us.map (·.name)).Nodup
 ri:aBf us
inductive yZ(vs:List V)(H:Hp)(Q:VK)(u3_:XK):Prop
 | mk (lds:List Al) (us:List cO) (q0:vs=[.str (tG lds us)]) (q1:aEx lds us) (q2:∀(t:Ae) (H':Hp),bA H H'→RdV false H' (.ref t) (aEw lds us)→Q (.ref t) H'):yZ vs H Q u3_
def aEy:Sp:=fun vs H Q u3_=>yZ vs H Q u3_
theorem aBt{α:Type}{l:List α}(h:l.Nodup){i:Nat}{x:α}(z:l[i]?=some x):x ∉ l.take i:=fun hm=>by
 obtain⟨j,hj⟩:=List.getElem?_of_mem hm;have q:=(AE.mp hj).1;rw[AC]at q;rw[List.getElem?_take_of_lt (by omega)]at hj;obtain⟨hi,ei⟩:=AE.mp z;obtain⟨hj',ej⟩:=AE.mp hj;exact List.pairwise_iff_getElem.mp h j i hj' hi (by omega) (by rw[ei,ej])
theorem aCr{z:List cO}(h:aBf z){i:Nat}{r u:cO}(F:z[i]?=some r)(q:(z.take i).getLast?=some u):iC u.key r.key=true:=by
 rw[List.getLast?_eq_getElem?,AC]at q;obtain⟨hi,ei⟩:=AE.mp F;have B:=(AE.mp q).1;rw[AC]at B;rw[List.getElem?_take_of_lt (by omega)]at q;obtain⟨hj',ej⟩:=AE.mp q;have:=List.pairwise_iff_getElem.mp h _ i hj' hi (by omega);rw[ei,ej]at this;exact this
theorem aEz:bJ ["text","laying","rows","at","line"] ["text"] (aO uN):=⟨rfl,rfl,rfl,by decide,rfl,by decide,by decide⟩
theorem aFv{f:Ae}{fd:AD}(F:Fun K "read_roll" "read_roll" uN f fd)(T:Txt K mg)(ac:mg "enumerate"=none)
  (GT:Cl P w K mg base 9 "take_line" ["line","laying","rows"] tO)
  :cH P w K mg base CX0 10 f fd ["text"] aEy:=by
 refine F.ok aEz (fun vs H Q E h=>?_) (fun bK A outer s H vs Q E hr h=>?_)
 ·obtain⟨lds,us,rfl,_⟩:=h;rfl
 ·obtain⟨lds,us,rfl,G,k⟩:=h;have nd:=aEz.nd;have aT:cF 9 _:=hr;refine⟨_,(aQ (cX (d8 (eQ (aW dH (by rfl) T.isi (by kernel_rfl) (aH (pv 0) (aH (fV (v:=.ty "str") (by rfl) T.str (by kernel_rfl) rfl) aG))))) t4 b8)
   (aQ (aGg (i:=1) (j:=2) rfl nd rfl rfl (by decide) rfl rfl (aH (d9 aG) (aH (d9 aG) aG)) rfl)
   (aQ (kX BN rfl (aA0 rfl ac (aH (f8 PySem.F.plainAttrs_str PySem.F.slot_str_split PySem.F.type_str_split rX (pv 0) (aH bE aG)) aG)) (g:=aEE K 2 (pH (cI 3) (pH (cI 4) aED))) (iP rfl (bZ (bB (i:=3) nd rfl (AG rfl)) (bZ (bB (i:=4) nd rfl (AG rfl)) fW)))
   (aU (cX (d8 (eQ (bC GT aT (aH (pv 4) (aH (pv 1) (aH (pv 2) aG)))))) t4 b8)))
   (aU (aZ (dF (aH (cC dE (by rfl) T.tuple (by kernel_rfl) (aH (pv 1) aG)) (aH (cC dE (by rfl) T.tuple (by kernel_rfl) (aH (pv 2) aG)) aG)))))))),?_⟩
  have am:=yX G.f G.ok G.n;have h8:=G.l8;have bT:=G.u40;obtain⟨J,hlns⟩:∃ J:List Str,J=lds.map cZ ++ us.map fE:=⟨_,rfl⟩
  have ad:J.length=lds.length + us.length:=by rw[hlns,An,Ab,Ab]
  have br:(tG lds us).length≤20000:=by
   have hz:∀ z∈lds.map cZ ++ us.map fE,z.length≤300:=fun z hz=>by
    rcases A4.mp hz with h | h
    ·obtain⟨d,hd,rfl⟩:=A7.mp h;exact A3 (jR (AU.mp G.f d hd)).2.2 (by decide)
    ·obtain⟨u,hu,rfl⟩:=A7.mp h;exact tH (G.ok u hu)
   have hs:=kG hz;have hj:=StrLaws.join_length_le ("\n":Str) (lds.map cZ ++ us.map fE);have e1:("\n":Str).length=1:=by decide
   rw[← hlns,ad]at hs;rw[e1,← hlns,ad]at hj;unfold tG;rw[gW,← hlns];omega
  refine⟨_,rfl,_,"str",_,true,rfl,kU.str _,zZ K,true,rfl,dC ?_⟩;refine⟨Bc _,fun la av=>⟨Bc _,fun M Z=>⟨_,_,rfl,?_⟩⟩⟩;have sa:=aS (o:=.lst []) av;have ea:upd H la (.lst []) la=some (.lst []):=aJ;generalize upd H la _=H1 at sa ea Z ⊢;have sr:=aS (o:=.lst []) Z;have er:upd H1 M (.lst []) M=some (.lst []):=aJ;have au:la≠M:=bF ea Z;have aw:H M=none:=vA sa Z;have ag:=sr _ _ ea;generalize upd H1 M _=H2 at sr er ag ⊢;dsimp only[cI];refine⟨_,rfl,rfl,⟨_,_,rfl,rfl,by decide,aM (by omega),fun LL ah=>?_⟩⟩;rw[am,← hlns];have sL:=aS (o:=.lst (J.map V.str)) ah;have eL:upd H2 LL (.lst (J.map V.str)) LL=some (.lst (J.map V.str)):=aJ;have aE:LL≠la:=(bF ag ah).symm;have bj:LL≠M:=(bF er ah).symm;generalize upd H2 LL _=H3 at sL eL ⊢;have s3:bA H H3:=sa.trans (sr.trans sL);refine⟨LL,_,rfl,eL,aDD (xs:=J.map V.str) (fun i σ H'=>Ex3 fun(o3 o4:Option V) (q:List V)=>∃(xs:List V),Aw6 (σ=[some (.str (tG lds us)),some (.ref la),some (.ref M),o3,o4]) (bA H H') (H' LL=some (.lst (J.map V.str))) (wG H' la q (lds.take i)) (H' M=some (.lst xs)) (dN H' xs (us.take (i - lds.length)) (lds.map dW))) ⟨none,none,[],[],rfl,s3,eL,⟨sL _ _ ag,by rw[List.take_zero];exact .nil,by rw[List.take_zero];rfl,by rw[List.take_zero];exact Bc _⟩,sL _ _ er,by rw[Nat.zero_sub,List.take_zero];exact⟨rfl,fun i x hx=>by simp at hx⟩⟩ (fun i σ H' z=>by obtain⟨_,_,_,_,_,_,z,_⟩:=z;exact z) ?_ ?_⟩
  ·rintro i v t σ HI hv ht ⟨o3,o4,q,xs,rfl,sI,eI,hL,eR,hR⟩;rw[AI]at hv;obtain⟨z,hz,rfl⟩:=Cd.mp hv;have sT:=aS (o:=.tup [.int i,.str z]) ht;have eT:upd HI t (.tup [.int i,.str z]) t=some (.tup [.int i,.str z]):=aJ;generalize upd HI t _=HT at sT eT ⊢;have B:=hL.same sT;have ai:=hR.same sT;have W:=sT _ _ eR;have ax:=sT _ _ eI;have an:=sI.trans sT;refine⟨t,_,rfl,aX eT,rfl,_,_,rfl,_,_,rfl,rfl,_,rfl,_,rfl,_,rfl,?_⟩;have bD:=(AE.mp hz).1;by_cases hi:i < lds.length
   ·have hd:lds[i]?=some lds[i]:=Ai hi;have ez:z=cZ lds[i]:=by
     rw[hlns,List.getElem?_append_left (by rw[Ab];exact hi),AI,hd]at hz;exact(By.inj hz).symm
    subst ez;have aR:xs=[]:=by
     have:=hR.len;rw[Nat.sub_eq_zero_of_le (CD hi),List.take_zero]at this;exact Ce this
    subst aR;refine .inl ⟨lds[i],la,M,q,lds.take i,rfl,AU.mp G.f _ (Bm hi),B,by rw[AC];omega,?_,W,fun v H' Y aL rv=>⟨_,rfl,dC ?_⟩⟩
    ·rw[List.map_take];exact aBt G.h (by rw[AI,hd];rfl)
    ·have e1:i + 1 - lds.length=0:=by omega
     refine⟨_,_,q ++ [v],[],rfl,fun b o e=>Y b o (an b o e) (bF e av),Y _ _ ax aE,⟨aL,?_,?_,by rw[AC];omega⟩,Y _ _ W au.symm,by rw[e1,List.take_zero];exact⟨rfl,fun i x hx=>by simp at hx⟩⟩
     ·rw[AN,hd];exact(yY Y B.e B.rd).app (.cons rv .nil)
     ·rw[AU];exact fun d bh=>AU.mp G.f d (List.mem_of_mem_take bh)
   ·have aC:lds.take i=lds:=Be (by omega);have ao:lds.take (i + 1)=lds:=Be (by omega);obtain⟨j,rfl⟩:∃ j,i=lds.length + j:=⟨i - lds.length,by omega⟩
    rw[Nat.add_sub_cancel_left]at ai;rw[aC]at B;have ay:j < us.length:=by omega
    have hu:us[j]?=some us[j]:=Ai ay;have ez:z=fE us[j]:=by
     rw[hlns,List.getElem?_append_right (by rw[Ab];omega),Ab,Nat.add_sub_cancel_left,AI,hu]at hz;exact(By.inj hz).symm
    subst ez;have ok:=G.ok _ (Bm ay);refine .inr ⟨us[j],la,M,q,lds,xs,us.take j,rfl,ok,B,G.n,W,ai,by rw[AC];omega,?_,fun u bg=>aCr G.ri hu bg,fun v H' Y aB rv=>⟨_,rfl,dC ?_⟩⟩
    ·rw[List.map_take];exact aBt G.nn (by rw[AI,hu];rfl)
    ·refine⟨_,_,q,xs ++ [v],rfl,fun b o e=>Y b o (an b o e) (bF e aw),Y _ _ ax bj,?_,aB,?_⟩
     ·rw[ao];exact⟨Y _ _ B.e au,yY Y W B.rd,B.ok,B.few⟩
     ·rw[show lds.length + j + 1 - lds.length=j + 1 by omega,AN,hu];exact(aCq Y W ai).snoc rv ok
  ·rintro σ HI ⟨o3,o4,q,xs,rfl,sI,eI,hL,eR,hR⟩;rw[Ab,ad]at hL hR;rw[Be (by omega)]at hL;rw[Nat.add_sub_cancel_left,AZ]at hR;have bx:=hL.rd.len;have bz:=hR.len;refine⟨_,rfl,la,_,rfl,.inl ⟨aV hL.e,fun ta ba=>?_⟩⟩;have U:=aS (o:=.tup q) ba;have az:upd HI ta (.tup q) ta=some (.tup q):=aJ;generalize upd HI ta _=HA at U az ⊢;refine⟨_,rfl,M,_,rfl,.inl ⟨aV (U _ _ eR),fun tb aF=>⟨zZ2,fun O hO=>?_⟩⟩⟩;have ap:=aS (o:=.tup xs) aF;have aq:upd HA tb (.tup xs) tb=some (.tup xs):=aJ;generalize upd HA tb _=HB at ap aq hO ⊢;have sO:=aS (o:=.tup [V.ref ta,.ref tb]) hO;have aa:=ap.trans sO;exact k O _ (sI.trans (U.trans aa)) (.tup aJ (by show 2≤1000;decide) (.cons (.tup (aa _ _ az) (by omega) (hL.rd.same (U.trans aa))) (.cons (.tup (sO _ _ aq) (by omega) (hR.rdvs.same (U.trans aa))) .nil)))
theorem dN.but{H H':Hp}{p c:Ae}{ns:List Int}{a:Int}{xs:List V}{q:List cO}{fs:List Str}(h:dN H xs q fs)(B:cU H p c ns a)(k:aY p H H'):dN H' xs q fs:=
 ⟨h.len,fun i x z=>by obtain⟨u,a,b,c⟩:=h.at' i x z;exact⟨u,a,aD1 b B k,c⟩⟩
inductive vJ(vs:List V)(H:Hp)(Q:VK)(u3_:XK):Prop
 | mk (p c:Ae) (ns:List Int) (a:Int) (q0:vs=[.ref p]) (q1:cU H p c ns a) (q2:a≤100000) (q3:∀(t tL tb:Ae) (lds:List Al) (xs:List V) (us:List cO) (a':Int) (H':Hp),H' t=some (.tup [.ref tL,.ref tb])→RdV false H' (.ref tL) (.tuple lds)→H' tb=some (.tup xs)→dN H' xs us (lds.map dW)→aEx lds us→aEf lds→a≤a'→a'≤a + 10000→cU H' p c ns a'→aY p H H'→Q (.ref t) H'):vJ vs H Q u3_
def aBu:Sp:=fun vs H Q u3_=>vJ vs H Q u3_
theorem aBv:bJ ["_law_pen_here","_law_many","_law_fields","_law_plots","_law_houses","_law_names_here","_law_days_here","_law_rows"] ["_law_pen_here"] (aO m3):=⟨rfl,rfl,rfl,by decide,rfl,by decide,by decide⟩
theorem aEA{f aw fD fT fR fL  fK:Ae}{fd aj b9 bo bN b0 bq:AD}(F:Fun K "_law_roll" "_law_roll" m3 f fd)(cj:mg "range"=none)(bm:mg "tuple"=none)(Z:mg "sorted"=none)
  (dn:cH P w K mg base CX0 3 aw aj ["_law_pen_here","_law_fields","_law_rows"] aA7) (cR:mg "_law_sorts"=some (.ref aw)) (kSo:Aj K (.ref aw)=true) (ee:eV K aj ["_law_pen_here","_law_fields","_law_rows"] [])
  (GD:cH P w K mg base CX0 2 fD b9 ["_law_pen_here","_law_many"] aD4) (mD:mg "_law_days"=some (.ref fD)) (kD:Aj K (.ref fD)=true) (bD:eV K b9 ["_law_pen_here","_law_many"] [])
  (GT:cH P w K mg base CX0 1 fT bo ["_law_pen_here","_law_many"] i7) (mT:mg "_law_take"=some (.ref fT)) (kT:Aj K (.ref fT)=true) (bT:eV K bo ["_law_pen_here","_law_many"] [])
  (GR:cH P w K mg base CX0 4 fR bN ["_law_pen_here","_law_name","_law_day","_law_sorts_here"] aFT) (mR:mg "_law_row"=some (.ref fR)) (kR:Aj K (.ref fR)=true) (bR:eV K bN ["_law_pen_here","_law_name","_law_day","_law_sorts_here"] [])
  (GL:cH P w K mg base CX0 3 fL b0 ["_law_pen_here","_law_fields","_law_houses"] aBd) (mL:mg "_law_laying"=some (.ref fL)) (kL:Aj K (.ref fL)=true) (bL:eV K b0 ["_law_pen_here","_law_fields","_law_houses"] [])
  (GK:cH P w K mg base CX0 1 fK bq ["_law_row_here"] oB) (mK:mg "_law_place"=some (.ref fK)) (kK:Aj K (.ref fK)=true) (bK:eV K bq ["_law_row_here"] [])
  :cH P w K mg base CX0 5 f fd ["_law_pen_here"] aBu:=by
 refine F.ok aBv (fun vs H Q E h=>?_) (fun fg A outer s H vs Q E hr h=>?_)
 ·obtain⟨p,c,ns,a,rfl,_⟩:=h;rfl
 ·obtain⟨p,c,ns,a,rfl,hp,ha,k⟩:=h;have nd:=aBv.nd;have ej:cF 4 _:=hr;have aR:cF 3 _:=hr.mono (by decide);have dv:cF 2 _:=hr.mono (by decide);have W:cF 1 _:=hr.mono (by decide);refine⟨_,(aQ (bQ (i:=1) nd rfl (AG rfl) (bV cV (d9 (aH aI (aH aI (aH (f6 GT W rfl mT kT bT .nil kJ (aH (pv 0) (aH aI aG))) (aH (f6 GT W rfl mT kT bT .nil kJ (aH (pv 0) (aH aI aG))) aG))))) (f6 GT W rfl mT kT bT .nil kJ (aH (pv 0) (aH aI aG))) Ig))
   (aQ (jT (f6 dn aR rfl cR kSo ee .nil kJ (aH (pv 0) (aH (bV cV (d9 (aH aI (aH (bO dQ aI (f6 GT W rfl mT kT bT .nil kJ (aH (pv 0) (aH aI aG)))) aG))) (f6 GT W rfl mT kT bT .nil kJ (aH (pv 0) (aH aI aG))) Ig) (aH (pv 1) aG)))) (iP rfl (bZ (bB (i:=2) nd rfl (Dj rfl)) (bZ (bB (i:=3) nd rfl (Dj rfl)) (bZ (bB (i:=4) nd rfl (Dj rfl)) (bZ (bB (i:=5) nd rfl (Dj rfl)) fW))))))
   (aQ (g9 (cX (PW.pt (qG (bS jY bE (pv 3) (by with_unfolding_all rfl)) (nA (bS eU (f6 GT W rfl mT kT bT .nil kJ (aH (pv 0) (aH aI aG))) aI (cA _))))) (aU (bQ (i:=3) nd rfl (Dj rfl) (bO j0 (c7 f7 (pv 3) dZ (dD aI)) (d9 (aH bE aG))))) b8))
   (aQ (bQ (i:=6) nd rfl (Dj rfl) (f6 GD dv rfl mD kD bD .nil kJ (aH (pv 0) (aH (pv 1) aG))))
   (aQ (fM (i:=7) (N:=["_law_k","_law_pen_here","_law_fields","_law_plots","_law_houses","_law_names_here","_law_days_here"]) (src:=[none,some 0,some 2,some 3,some 4,some 5,some 6]) (osc:=aO m3) (oN:=["_law_pen_here","_law_many","_law_fields","_law_plots","_law_houses","_law_names_here","_law_days_here","_law_rows"]) ⟨by rfl,by decide,by decide,by decide,rfl,by rfl⟩ nd rfl (fQ rfl cj (aH (pv 1) aG)) (fun cl s H fp bd C=>⟨bB (i:=0) (show(["_law_k","_law_pen_here","_law_fields","_law_plots","_law_houses","_law_names_here","_law_days_here"]:List Str).Nodup by decide) rfl (AG rfl),c8,f6 GR ej rfl mR kR bR .nil kJ (aH (pv 1) (aH (bV (r:=aCL K) cV (pv 5) (pv 0) Ig) (aH (bV (r:=aCL K) cV (pv 6) (pv 0) Ig) (aH (dF (aH (pv 2) (aH (pv 3) (aH (pv 4) aG)))) aG))))⟩))
   (aU (aZ (dF (aH (f6 GL aR rfl mL kL bL .nil kJ (aH (pv 0) (aH (pv 2) (aH (pv 4) aG)))) (aH (cC dE (by rfl) bm (by kernel_rfl) (aH (zU GK aR bK (by rfl) Z (by rfl) mK (aH (pv 7) aG)) aG)) aG)))))))))),?_⟩
  refine⟨_,rfl,p,c,ns,a,_,rfl,hp,by omega,by decide,by decide,fun r1 a3 H3 cN e5 gu gc b1 ck=>?_⟩;refine⟨_,rfl,p,c,ns,a3,_,rfl,b1,by omega,by decide,by decide,fun r2 a4 H4 d6 gw fy f5 b3 ci=>?_⟩;refine⟨zZ4,fun q hq=>?_⟩;have sq:=aS (o:=.lst [V.int 40,.int 0,.int r1,.int r2]) hq;have a0:upd H4 q (.lst [V.int 40,.int 0,.int r1,.int r2]) q=some (.lst [V.int 40,.int 0,.int r1,.int r2]):=aJ;generalize upd H4 q (.lst [V.int 40,.int 0,.int r1,.int r2])=H5 at sq a0 ⊢;have ax:=b3.same sq;refine⟨_,rfl,p,c,ns,a4,_,rfl,ax,by omega,by decide,by decide,fun r3 a6 H6 dd e9 gj fI b5 aL=>?_⟩;obtain⟨v,hv,hat⟩:=gH (xs:=[V.int 40,.int 0,.int r1,.int r2]) (i:=r3) dd (by show r3 < 4;omega);obtain⟨m,rfl,hm⟩:∃ m:Nat,v=.int m∧m≤40:=by
   simp only[Aq,AB,or_false]at hv;rcases hv with rfl | rfl | rfl | rfl
   ·exact⟨40,rfl,by omega⟩
   ·exact⟨0,rfl,by omega⟩
   ·exact⟨r1.toNat,by rw[Int.toNat_of_nonneg cN],by omega⟩
   ·exact⟨r2.toNat,by rw[Int.toNat_of_nonneg d6],by omega⟩
  refine⟨q,_,r3,_,rfl,rfl,aV (bY a0 ax aL),hat,_,rfl,_,rfl,p,c,ns,a6,_,rfl,b5,by omega,by decide,by decide,fun r4 a7 H7 fo fj f3 fk bP cg=>?_⟩;refine⟨_,_,rfl,rfl,zZ2,fun q2 bj=>?_⟩;have ai:=aS (o:=.lst [V.int 8,.int (1 + r4)]) bj;have aP:upd H7 q2 (.lst [V.int 8,.int (1 + r4)]) q2=some (.lst [V.int 8,.int (1 + r4)]):=aJ;generalize upd H7 q2 (.lst [V.int 8,.int (1 + r4)])=H8 at ai aP ⊢;have av:=bP.same ai;refine⟨_,rfl,p,c,ns,a7,_,rfl,av,by omega,by decide,by decide,fun r5 a9 H9 c0 eS eW e4 dl ay=>?_⟩;obtain⟨v2,hv2,hat2⟩:=gH (xs:=[V.int 8,.int (1 + r4)]) (i:=r5) c0 (by show r5 < 2;omega);obtain⟨nf,rfl,hf1,hf8⟩:∃ m:Nat,v2=.int m∧1≤m∧m≤8:=by
   simp only[Aq,AB,or_false]at hv2;rcases hv2 with rfl | rfl
   ·exact⟨8,rfl,by omega,by omega⟩
   ·exact⟨(1 + r4).toNat,by rw[Int.toNat_of_nonneg (by omega)],by omega,by omega⟩
  refine⟨q2,_,r5,_,rfl,rfl,aV (bY aP av ay),hat2,?_⟩;have dc:aY p H H9:=((ck.trans ci).same sq).trans (aL.trans ((cg.same ai).trans ay));refine⟨_,rfl,p,c,ns,a9,nf,m,rfl,dl,by omega,by omega,by omega,fun t l1 U l3 l4 ws ps hs rs aA HA ht b2 eh an M aa J bu cz bt ef gh b6 gm f4 B dq=>?_⟩;refine⟨t,_,rfl,aX ht,rfl,_,_,rfl,_,_,rfl,_,_,rfl,_,_,rfl,rfl,?_⟩;have di:=dc.trans dq;clear hat hat2 hv hv2 a0 aP sq ai hq bj ck ci aL cg ay b1 b3 ax b5 bP av;refine⟨fun σ' H'=>∃(U:Ae) (ps:List Str) (a':Int),σ'=[some (.ref p),some (.int m),some (.ref l1),some (.ref U),some (.ref l3),some (.ref l4),none,none]∧cU H' p c ns a'∧aY p HA H'∧aA≤a'∧a'≤aA + 1∧H' U=some (.lst (ps.map V.str))∧ps.length=10∧Nms ps,?_,?_⟩
  ·refine⟨_,rfl,U,_,rfl,.inl (aV M),rfl,fU _,_,rfl,?_⟩;rw[Ib rfl,nX];by_cases has:("as":Str)∈ps
   ·rw[Ic has];exact dC (dC ⟨U,ps,aA,rfl,B,aY.refl _ _,by omega,by omega,M,aa,J⟩)
   ·rw[decide_eq_false has];refine c4 ?_;refine⟨_,rfl,p,c,ns,aA,_,rfl,B,by omega,by decide,by decide,fun r aB HB r0 r1 c6 cK ab ap=>?_⟩;have ak:=bY M B ap;refine⟨rfl,_,rfl,dR (fun g=>?_) fun g=>?_⟩
    ·refine⟨_,rfl,9,rfl,U,_,rfl,aV ak,fun C hC=>?_⟩;have ec:fG (ps.map V.str) none (some 9)=(ps.take 9).map V.str:=by
      rw[List.map_take];exact lA (α:=Nat) (ps.map V.str) 9
     rw[ec];have sC:=aS (o:=.lst ((ps.take 9).map V.str)) hC;have eC:upd HB C (.lst ((ps.take 9).map V.str)) C=some (.lst ((ps.take 9).map V.str)):=aJ;generalize upd HB C _=HC at sC eC ⊢;refine⟨zZ1,fun E0 c1=>?_⟩;have sE:=aS (o:=.lst [V.str "as"]) c1;refine⟨C,E0,_,_,rfl,rfl,sE _ _ eC,aJ,aM (by rw[Ab,AC];show _ + 1≤_;omega),fun F hF=>?_⟩;have sF:=aS (o:=.lst ((ps.take 9).map V.str ++ [V.str "as"])) hF;have sA:=sC.trans (sE.trans sF);refine⟨F,ps.take 9 ++ [("as":Str)],aB,rfl,ab.same sA,ap.same sA,by omega,by omega,by rw[aJ,Au];rfl,by rw[An,AC];show min 9 ps.length + 1=10;omega,⟨?_,fun z hz=>?_⟩⟩
     ·refine CQ.mpr ⟨(J.take 9).nd,by simp,fun a ha b hb e=>has ?_⟩;rw[Br.mp hb]at e;rw[← e];exact List.mem_of_mem_take ha
     ·rcases A4.mp hz with h | h
      ·exact J.ok z (List.mem_of_mem_take h)
      ·rw[Br.mp h];decide
    ·exact⟨U,ps,aB,rfl,ab,ap,by omega,by omega,ak,aa,J⟩
  clear ht M aa J;clear U ps;rintro σ' HB ⟨U,ps,aB,rfl,ab,kB,c6,cK,M,aa,J⟩;refine⟨_,rfl,_,rfl,p,c,ns,aB,m,rfl,ab,by omega,by omega,fun lD ds aC HC dw fh eg eT gr ag bn=>?_⟩;have ad:=kB.trans bn;have ea:S3 HC l1 U l3 ws ps hs:=⟨bY b2 B ad,bY M ab bn,bY bu B ad,by omega,by omega,aa,cz,an,J,bt⟩
  have j4:=bY ef B ad;have en:((m:Nat):Int).toNat=m:=Bo _;dsimp only[cI];refine⟨_,rfl,m,rfl,by omega,by omega,?_⟩;refine iS (n:=((m:Nat):Int).toNat) (fun i ys σ' H'=>Ex3 fun(a':Int) (o:Option V) (us:List cO)=>Aw6 (σ'=[o,some (.ref p),some (.ref l1),some (.ref U),some (.ref l3),some (.ref l4),some (.ref lD)]) (cU H' p c ns a') (aY p HC H') (aC≤a') (a'≤aC + 90 * i) (Aw3 (ys.length=i) (dN H' ys us ws) (us.map (·.name)=rs.take i)))
   ⟨aC,none,[],rfl,ag,aY.refl _ _,by omega,by omega,rfl,⟨rfl,fun i x hx=>by simp at hx⟩,rfl⟩ (aM (by omega)) (fun i ys σ H p=>by obtain⟨_,_,_,_,_,_,_,_,e,_⟩:=p;omega) ?_ ?_
  ·rintro i ys σ' HD hi ⟨aD,o,us,rfl,ae,kD,dk,b7,aq,Y,af⟩;rw[en]at hi;dsimp only[cI];refine c4 ?_;have bx:i < rs.length:=by omega
   have bv:i < ds.length:=by omega
   have hn:rs[i]?=some rs[i]:=Ai bx;have hd:ds[i]?=some ds[i]:=Ai bv;have bp:atI (rs.map V.str) (0 + (i:Int))=some (.str rs[i]):=by
    rw[Int.zero_add];exact c3 (by rw[AI,hn];rfl)
   have cb:atI (ds.map V.int) (0 + (i:Int))=some (.int ds[i]):=by
    rw[Int.zero_add];exact c3 (by rw[AI,hd];rfl)
   refine⟨_,rfl,_,rfl,_,rfl,l4,_,_,_,rfl,rfl,aV (bY j4 ag kD),bp,_,rfl,_,rfl,lD,_,_,_,rfl,rfl,aV (bY dw ag kD),cb,_,rfl,_,rfl,_,rfl,zZ3,fun q3 cL=>?_⟩;have az:=aS (o:=.tup [V.ref l1,.ref U,.ref l3]) cL;have aT:=b6.ok _ (Bm bx);obtain⟨dd0,dd1⟩:=eg _ (Bm bv);refine⟨p,c,ns,aD,rs[i],ds[i],q3,l1,U,l3,ws,ps,hs,rfl,ae.same az,by omega,aJ,(ea.but ag kD).same az,aT,dd0,dd1,fun x r aE HE b4 da ca e3 fa ac dz=>?_⟩;have cc:aY p HD HE:=fun b o e hb=>dz b o (az _ _ e) hb;refine⟨aE,_,us ++ [r],rfl,ac,kD.trans cc,by omega,by omega,by rw[An,aq];rfl,(Y.but ae cc).snoc b4 ca,?_⟩;rw[Au,af,AN,hn];show _ ++ [r.name]=_ ++ [rs[i]]
   rw[da]
  rintro vs σ' HD ⟨aD,o,us,rfl,ae,kD,dk,b7,aq,Y,af⟩ lR dh;rw[en]at aq b7 af;have bw:(us.map (·.name)).Nodup:=by rw[af];exact(b6.take m).nd
  have sR:=aS (o:=.lst vs) dh;have eR:upd HD lR (.lst vs) lR=some (.lst vs):=aJ;generalize upd HD lR (.lst vs)=HE at sR eR ⊢;have ac:=ae.same sR;have df:aY p HC HE:=kD.same sR;have am:=ad.trans df;have fv:us.length≤40:=by rw[← Y.len];omega
  dsimp only[cI];refine⟨_,rfl,_,rfl,_,rfl,p,c,ns,aD,l1,l3,ws,hs,rfl,ac,by omega,bY b2 B am,an.ok,by omega,bY bu B am,bt.ok,by omega,by omega,fun tL fc ah aF HF cD bz cf dg fC gl d2 aN=>?_⟩;subst dg;have ek:=bY eR ac aN;have bi:=(Y.same sR).but ac aN;refine⟨_,rfl,lR,vs,aBh HF,rfl,.inl (aV ek),by omega,aFo bi,fun E1 kk pp HG sG hE dr hk ho eE=>?_⟩;obtain⟨os,ho1,ho2,ho3⟩:=aAl bi bw dr hk ho sG;have fz:=ho1.length_eq;refine⟨E1,_,rfl,.inl ⟨aV eE,fun l hl=>⟨zZ2,fun O hO=>?_⟩⟩⟩;have sl:=aS (o:=.tup (pp.map fun i=>vs.getD i .non)) hl;have el:upd HG l (.tup (pp.map fun i=>vs.getD i .non)) l=some (.tup (pp.map fun i=>vs.getD i .non)):=aJ;generalize upd HG l _=HH at sl el hO ⊢;have sO:=aS (o:=.tup [V.ref tL,.ref l]) hO;have ao:=sG.trans (sl.trans sO);have d3:ah.all dI=true:=AU.mpr fun d hd=>(cf d hd).1;have br:ah.length=nf:=by rw[← eh,Ab]
  have cm:aEx ah os:=⟨d3,fun e=>by rw[e]at br;simp at br;omega,by omega,an.nd,fun u hu=>by
    obtain⟨j,hj⟩:=List.getElem?_of_mem (ho1.mem_iff.mp hu);have em:j < vs.length:=by rw[Y.len];exact(AE.mp hj).1
    obtain⟨u2,h2,_,h4⟩:=Y.at' j _ (Ai em);rw[hj]at h2;cases h2;exact h4,by omega,(ho1.map (·.name)).nodup_iff.mpr bw,ho2⟩
  exact k O tL l ah _ os aF _ aJ ((RdV.tup cD (by have:=bz.len;omega) bz).same ao) (sO _ _ el) (ho3.same (sl.trans sO)) cm cf (by omega) (by omega) (d2.same ao) ((di.trans (am.trans aN)).same ao)
theorem jS{d:Al}(h:g8 d):OkD 1905 2 d:=by
 rcases h with⟨z,rfl,hz⟩ | ⟨i,rfl,h0,h1⟩
 ·exact(OkD.name hz).mono (by decide) (by decide)
 ·exact(OkD.int h0 (Int.lt_of_le_of_lt h1 (by decide))).mono (by decide) (by decide)
theorem cO.Ok.okd{r:cO}{fs:List Str}(h:r.Ok fs):OkD 13352 3 r.d:=by
 have d1:=h.d1;have hw:bM r.word=true:=by
  have:∀ w∈dM,bM w=true:=by decide
  exact this _ h.rs.word
 have fq:∀{z:Str},bM z=true→g8 (.str z):=fun h=>.inl ⟨_,rfl,h⟩;have go:(∀ d∈r.ds,OkD 1905 2 d)→r.ds.length≤4→OkD 13352 3 r.d:=fun hd B=>by
  refine(OkD.tuple (n:=7) (b:=1905) (k:=2) (fun d q=>?_) (by simp only[A0];omega):OkD 13352 3 (.tuple (.str r.word :: .str r.name :: .int r.day :: r.ds)));simp only[Aq]at q;rcases q with rfl | rfl | rfl | q
  ·exact jS (fq hw)
  ·exact jS (fq h.nm)
  ·exact jS (.inr ⟨_,rfl,h.d0,by omega⟩)
  ·exact hd d q
 by_cases J:r.word="part"
 ·obtain⟨land,R,eds,B,ha,h6⟩:=h.rs.isPart J;refine go (fun d hd=>?_) (by rw[eds];simp);rw[eds]at hd;simp only[Aq,AB,or_false]at hd;rcases hd with rfl | rfl
  ·exact jS (fq B)
  ·refine(OkD.tuple (n:=6) (b:=315) (k:=1) (fun d hd=>?_) (by rw[Ab];exact h6)).mono (by decide) (by decide);obtain⟨x,hx,rfl⟩:=A7.mp hd;obtain⟨p1,p2,p3,p4⟩:=oE ha hx;refine(OkD.tuple (n:=3) (b:=102) (k:=0) (fun d hd=>?_) (by show 3≤3;decide));simp only[Aq,AB,or_false]at hd;rcases hd with rfl | rfl | rfl
   ·exact OkD.name p1
   ·exact OkD.name p2
   ·exact OkD.int (by omega) (Int.lt_of_le_of_lt p4 (by decide))
 by_cases F:r.word="join"
 ·obtain⟨land,R,eds,B,ha,h6⟩:=h.rs.isJoin F;refine go (fun d hd=>?_) (by rw[eds];simp);rw[eds]at hd;simp only[Aq,AB,or_false]at hd;rcases hd with rfl | rfl
  ·refine(OkD.tuple (n:=6) (b:=102) (k:=0) (fun d hd=>?_) (by rw[Ab];exact h6)).mono (by decide) (by decide);obtain⟨z,hz,rfl⟩:=A7.mp hd;exact OkD.name (ha z hz)
  ·exact jS (fq B)
 ·obtain⟨hfl,_,h4⟩:=h.rs.flat J F;exact go (fun d hd=>jS (hfl d hd)) h4
theorem aFw{q:List Al}{z:List cO}(B:aEf q)(g:aEx q z):OkD 3000000 10 (aEw q z):=by
 have J:OkD 900000 4 (.tuple q):=(OkD.tuple (fun d hd=>(B d hd).2.1) g.l8).mono (by decide) (by decide);have F:OkD 900000 4 (.tuple (z.map cO.d)):=(OkD.tuple (n:=40) (b:=13352) (k:=3) (fun d hd=>by
  obtain⟨r,hr,rfl⟩:=A7.mp hd;exact(g.ok r hr).okd) (by rw[Ab];exact g.u40)).mono (by decide) (by decide)
 refine(OkD.tuple (n:=2) (b:=900000) (k:=4) (fun d hd=>?_) (by show 2≤2;decide)).mono (by decide) (by decide);simp only[Aq,AB,or_false]at hd;rcases hd with rfl | rfl
 ·exact J
 ·exact F
theorem aFV{H:Hp}{m:Bool}{a:Ae}{d:Al}(r:RdV m H (.ref a) d)(o:OkD 3000000 10 d):RpV H (.ref a) d.shown:=.ref r o.sh (A3 o.dp (by decide)) (A3 o.len (by rw[PySem.sizeLine_eq];omega))
structure m6(H:Hp)(v:V)(lds:List Al)(us:List cO):Prop where
 ex:∃(t tL tb:Ae) (xs:List V),v=.ref t∧H t=some (.tup [.ref tL,.ref tb])∧RdV false H (.ref tL) (.tuple lds)∧H tb=some (.tup xs)∧dN H xs us (lds.map dW)
 g:aEx lds us
 f:aEf lds
theorem m6.same{H H':Hp}{v:V}{q:List Al}{z:List cO}(h:m6 H v q z)(s:bA H H'):m6 H' v q z:=by
 obtain⟨t,tL,tb,xs,e,h1,h2,h3,h4⟩:=h.ex;exact⟨⟨t,tL,tb,xs,e,s _ _ h1,h2.same s,s _ _ h3,h4.same s⟩,h.g,h.f⟩
theorem m6.but{H H':Hp}{p c:Ae}{ns:List Int}{a:Int}{v:V}{q:List Al}{B:List cO}(h:m6 H v q B)(z:cU H p c ns a)(k:aY p H H'):m6 H' v q B:=by
 obtain⟨t,tL,tb,xs,e,h1,h2,h3,h4⟩:=h.ex;exact⟨⟨t,tL,tb,xs,e,wC h1 z k,aD1 h2 z k,wC h3 z k,h4.but z k⟩,h.g,h.f⟩
inductive aBw(K:Ag)(vs:List V)(H:Hp)(Q:VK)(u3_:XK):Prop
 | mk (a:Ae) (ns:List Int) (q0:vs=[.ref a]) (q1:SqL K H a (ns.map V.int)) (q2:ns.length≤63) (q3:∀ H',Q (.bl true) H'):aBw K vs H Q u3_
def aBx(K:Ag):Sp:=fun vs H Q u3_=>aBw K vs H Q u3_
theorem aFW:bJ ["_law_script","_law_pen_here","_law_rolls","_law_roll_here","_law_text","_law_found"] ["_law_script"] (aO tY):=⟨rfl,rfl,rfl,by decide,rfl,by decide,by decide⟩
theorem aG8{f:Ae}{fd:AD}(F:Fun K "law" "law" tY f fd)(T:Txt K mg)(ag:mg "range"=none)(J:mg "repr"=none)
  (GP:Cl P w K mg base 1 "_law_pen" ["_law_script"] (aFQ K))
  (GR:Cl P w K mg base 5 "_law_roll" ["_law_pen_here"] aBu)
  (GX:Cl P w K mg base 2 "_law_roll_text" ["_law_roll_here"] kH)
  (GY:Cl P w K mg base 3 "roll_text" ["roll"] kH)
  (GZ:Cl P w K mg base 10 "read_roll" ["text"] aEy)
  :cH P w K mg base CX0 11 f fd ["_law_script"] (aBx K):=by
 refine F.ok aFW (fun vs H Q E h=>?_) (fun bh A outer s H vs Q E Y h=>?_)
 ·obtain⟨a,ns,rfl,_⟩:=h;rfl
 ·obtain⟨sc,ns,rfl,hS,hln,k⟩:=h;have nd:=aFW.nd;have ad:cF 10 _:=Y;have am:cF 5 _:=Y.mono (by decide);have aA:cF 3 _:=Y.mono (by decide);have au:cF 2 _:=Y.mono (by decide);have B:cF 1 _:=Y.mono (by decide);refine⟨_,(aQ (bQ (i:=1) nd rfl (Dj rfl) (bC GP B (aH (pv 0) aG)))
   (aQ (fM (i:=2) (N:=["_law_k","_law_pen_here"]) (src:=[none,some 1]) (osc:=aO tY) (oN:=["_law_script","_law_pen_here","_law_rolls","_law_roll_here","_law_text","_law_found"]) ⟨by rfl,by decide,by decide,by decide,rfl,by rfl⟩ nd rfl (fQ rfl ag (aH aI aG)) (fun cl s H fp bd C=>⟨bB (i:=0) (show(["_law_k","_law_pen_here"]:List Str).Nodup by decide) rfl (AG rfl),c8,bC GR am (aH (pv 1) aG)⟩))
   (aQ (kX BN rfl (jU (bO j0 (pv 2) (aET (pv 2) (wO qI aI)))) (g:=cI 3) (bB (i:=3) nd rfl (AG rfl))
   (aQ (bQ (i:=4) nd rfl (AG rfl) (bC GX au (aH (pv 3) aG)))
    (aQ (bQ (i:=5) nd rfl (AG rfl) (bC GY aA (aH (pv 3) aG)))
    (aU (cX (PW.pt (fO (d8 (eQ (aW dH (by rfl) T.isi (by kernel_rfl) (aH (pv 5) (aH (fV (v:=.ty "str") (by rfl) T.str (by kernel_rfl) rfl) aG))))) (fO (bS pI (pv 5) (pv 4) (cA _)) (fJ (bS pI (aW (sH B) (by rfl) J (by kernel_rfl) (aH (bC GZ ad (aH (pv 4) aG)) aG)) (aW (sH B) (by rfl) J (by kernel_rfl) (aH (pv 3) aG)) (cA _)))))) (aU (aZ gX)) b8)))))
   (aU (aZ gX))))),?_⟩
  refine⟨_,rfl,sc,ns,rfl,hS,hln,fun p c H1 av s1 np=>?_⟩;dsimp only[cI];refine⟨3,rfl,by decide,by decide,?_⟩;refine iS (n:=3) (fun i ys σ' H'=>∃(a':Int) (o:Option V),Aw3 (σ'=[o,some (.ref p)]) (cU H' p c ns a') (Aw3 (a'≤10000 * i) (ys.length=i) (∀ v∈ys,∃ q O,m6 H' v q O))) ⟨0,none,rfl,av,by omega,rfl,fun v hv=>by simp at hv⟩ (aM (by decide)) (fun i ys σ H p=>by obtain⟨_,_,_,_,_,e,_⟩:=p;omega) ?_ ?_
  ·rintro i ys σ' H2 hi ⟨a2,o,rfl,U,an,ac,W⟩;dsimp only[cI];refine c4 ?_;refine⟨_,rfl,p,c,ns,a2,rfl,U,by omega,fun t tL tb q xs O a3 H3 h1 h2 h3 Z G hF bq bn aw k3=>?_⟩;refine⟨a3,_,rfl,aw,by omega,by rw[An,ac];rfl,fun v hv=>?_⟩;rcases A4.mp hv with h | h
   ·obtain⟨l,u,Y⟩:=W v h;exact⟨l,u,Y.but U k3⟩
   ·rw[Br.mp h];exact⟨q,O,⟨t,tL,tb,xs,rfl,h1,h2,h3,Z⟩,G,hF⟩
  rintro ys σ' H2 ⟨a2,o,rfl,U,an,ac,W⟩ L hL;have sL:=aS (o:=.lst ys) hL;have eL:upd H2 L (.lst ys) L=some (.lst ys):=aJ;generalize upd H2 L _=H3 at sL eL ⊢;dsimp only[cI];refine⟨_,rfl,_,rfl,1,rfl,L,ys,rfl,rfl,aV eL,fun M hM=>?_⟩;have sM:=aS (o:=.lst ys.reverse) hM;have eM:upd H3 M (.lst ys.reverse) M=some (.lst ys.reverse):=aJ;generalize upd H3 M _=H4 at sM eM ⊢;refine⟨L,M,ys,ys.reverse,rfl,rfl,sM _ _ eL,eM,aM (by rw[List.length_reverse];omega),fun N hN=>?_⟩;have sN:=aS (o:=.lst (ys ++ ys.reverse)) hN;have eN:upd H4 N (.lst (ys ++ ys.reverse)) N=some (.lst (ys ++ ys.reverse)):=aJ;generalize upd H4 N _=H5 at sN eN ⊢;have ak:=sL.trans (sM.trans sN);refine⟨N,rfl,⟨_,aV eN⟩,wN (K:=K) (xs:=ys ++ ys.reverse) (fun i σ H'=>Ex3 fun(o3 o4 o5:Option V)=>σ=[some (.ref sc),some (.ref p),some (.ref L),o3,o4,o5]∧bA H5 H') ⟨none,none,none,rfl,bA.refl _⟩ (fun i σ H' _ z=>by obtain⟨_,_,_,_,s⟩:=z;exact aV (s _ _ eN)) ?_ ?_⟩
  ·rintro i v σ HI hv ⟨o3,o4,o5,rfl,sI⟩;have aq:v∈ys:=by
    rcases A4.mp (A2 hv)with h | h
    ·exact h
    ·exact List.mem_reverse.mp h
   obtain⟨q,O,hr0⟩:=W v aq;have B:=hr0.same (ak.trans sI);obtain⟨t,tL,tb,xs,rfl,h1,h2,h3,Z⟩:=B.ex;have G:=B.g;have aa:=aFw B.f G;have bi:=Z.len;have aB:=G.u40;have ap:RdV false HI (.ref t) (aEw q O):=.tup h1 (by show 2≤1000;decide) (.cons h2 (.cons (.tup h3 (by omega) Z.rdvs) .nil));dsimp only[cI];refine⟨_,rfl,t,tL,tb,q,xs,O,_,rfl,h1,h2,G.f,G.l8,h3,Z,G.u40,fun H6 s6=>?_⟩;refine⟨_,rfl,t,tL,tb,q,xs,O,_,rfl,s6 _ _ h1,h2.same s6,G.f,G.l8,s6 _ _ h3,Z.same s6,G.u40,fun H7 s7=>?_⟩;have ab:=s6.trans s7;refine⟨_,rfl,_,"str",_,true,rfl,kU.str _,zZ K,true,rfl,dC ?_⟩;refine⟨_,rfl,_,rfl,rfl,_,rfl,?_⟩;rw[Ic rfl];refine dC ?_;refine⟨_,rfl,q,O,rfl,G,fun t' H8 s8 rd=>?_⟩;refine⟨.ref t',_,rfl,aFV rd aa,_,rfl,.ref t,_,rfl,aFV (ap.same (ab.trans s8)) aa,rfl,_,rfl,?_⟩;rw[Ic rfl];exact dC ⟨_,_,_,rfl,sI.trans (ab.trans s8)⟩
  ·rintro σ HI _;exact k HI
def nmV(n0 n1 n2 n3 n4 n5:Ae):List (Key×V):=[(Am "forfeit",.ref n0),(Am "measure",.ref n1),(Am "mend",.ref n2),(Am "alone",.ref n3),(Am "breach",.ref n4),(Am "view",.ref n5)]
def nmR(n0 n1 n2 n3 n4 n5:Ae):List (Key×Ac):=[(Am "forfeit",.ref n0),(Am "measure",.ref n1),(Am "mend",.ref n2),(Am "alone",.ref n3),(Am "breach",.ref n4),(Am "view",.ref n5)]
theorem aG9(q J M z F B:Ae):KV (nmV q J M z F B) (nmR q J M z F B):=.cons ⟨rfl,rfl⟩ (.cons ⟨rfl,rfl⟩ (.cons ⟨rfl,rfl⟩ (.cons ⟨rfl,rfl⟩ (.cons ⟨rfl,rfl⟩ (.cons ⟨rfl,rfl⟩ (.nil))))))
theorem aFx{P:Ay}{w:AQ}{K:Ag}{a:Ae}{e:Nat}{B M z q F J:Tok}{O Z W Y n4 n5:Ae}(l:K.lookup a=some { cls:=.type "dict",data:=.dict #[⟨Av w.params "forfeit",.str "forfeit" B,.ref O⟩,⟨Av w.params "measure",.str "measure" M,.ref Z⟩,⟨Av w.params "mend",.str "mend" z,.ref W⟩,⟨Av w.params "alone",.str "alone" q,.ref Y⟩,⟨Av w.params "breach",.str "breach" F,.ref n4⟩,⟨Av w.params "view",.str "view" J,.ref n5⟩] e }):∀ h:A8,K.In h→h.DictOf (cJ P w) a (nmR O Z W Y n4 n5):=by
 intro h hK;refine⟨_,_,_,hK _ _ l,⟨rfl,rfl,rfl⟩,rfl,?_,?_,?_⟩
 ·intro en U;simp only[List.mem_toArray,Aq,AB,or_false]at U;rcases U with rfl | rfl | rfl | rfl | rfl | rfl
  ·exact⟨Am "forfeit",isS "forfeit" B,cW w "forfeit"⟩
  ·exact⟨Am "measure",isS "measure" M,cW w "measure"⟩
  ·exact⟨Am "mend",isS "mend" z,cW w "mend"⟩
  ·exact⟨Am "alone",isS "alone" q,cW w "alone"⟩
  ·exact⟨Am "breach",isS "breach" F,cW w "breach"⟩
  ·exact⟨Am "view",isS "view" J,cW w "view"⟩
 ·exact .cons (isS "forfeit" B) rfl (.cons (isS "measure" M) rfl (.cons (isS "mend" z) rfl (.cons (isS "alone" q) rfl (.cons (isS "breach" F) rfl (.cons (isS "view" J) rfl (.nil))))))
 ·show([Am "forfeit",Am "measure",Am "mend",Am "alone",Am "breach",Am "view"]:List Key).Nodup;decide
theorem iO{K:Ag}{a:Ae}{its:Array Ac}{n:Nat}{xs:List V}(l:K.lookup a=some { cls:=.type "tuple",data:=.seq its n })(hz:its.size≤3)(r:cE xs its.toList):∀ H:Hp,SqT K H a xs:=fun _=>.inr ⟨_,its,n,l,rfl,rfl,aM (by omega),r⟩
theorem aHY{K:Ag}{q M F J Z Y:Ae}{e0:Nat}{e1:Nat}{e2:Nat}{e3:Nat}{e4:Nat}{e5:Nat}{aa B U O W:Tok}(l0:K.lookup q=some { cls:=.type "tuple",data:=.seq #[] e0 })(l1:K.lookup M=some { cls:=.type "tuple",data:=.seq #[.int 4 aa] e1 })(l2:K.lookup F=some { cls:=.type "tuple",data:=.seq #[] e2 })(l3:K.lookup J=some { cls:=.type "tuple",data:=.seq #[] e3 })(l4:K.lookup Z=some { cls:=.type "tuple",data:=.seq #[.int 4 B,.int 5 U,.int 6 O] e4 })(l5:K.lookup Y=some { cls:=.type "tuple",data:=.seq #[.int 4 W] e5 }):∀ kind∈dM,kind≠"part"→kind≠"join"→∃ a:Ae,f9 (nmV q M F J Z Y) (Am kind)=some (.ref a)∧∀ H:Hp,SqT K H a ((dJ kind).map V.int):=by
 intro kind z h1 h2;unfold dM at z;simp only[Aq,AB,or_false]at z;rcases z with rfl | rfl | rfl | rfl | rfl | rfl | rfl | rfl
 ·exact absurd rfl h1
 ·exact absurd rfl h2
 ·exact⟨q,by rfl,by rw[show dJ "forfeit"=[] by decide];exact iO l0 (by simp) (.nil)⟩
 ·exact⟨M,by rfl,by rw[show dJ "measure"=[4] by decide];exact iO l1 (by simp) (.cons ⟨_,rfl⟩ (.nil))⟩
 ·exact⟨F,by rfl,by rw[show dJ "mend"=[] by decide];exact iO l2 (by simp) (.nil)⟩
 ·exact⟨J,by rfl,by rw[show dJ "alone"=[] by decide];exact iO l3 (by simp) (.nil)⟩
 ·exact⟨Z,by rfl,by rw[show dJ "breach"=[4,5,6] by decide];exact iO l4 (by simp) (.cons ⟨_,rfl⟩ (.cons ⟨_,rfl⟩ (.cons ⟨_,rfl⟩ (.nil))))⟩
 ·exact⟨Y,by rfl,by rw[show dJ "view"=[4] by decide];exact iO l5 (by simp) (.cons ⟨_,rfl⟩ (.nil))⟩
theorem all_mk{l:PySem.W.OpenLaw}{w:AQ}{K:Ag}{h:A8}{mg:Str→Option Ac}{fa:Ae}(X:K.In h)(G:h.Ns mainGlobals mg)(hfa:mg "law"=some (.ref fa))
  {fIN:Ae} {odIN anIN:Option Ae} {slIN:Array (Option Ac)} {ocIN kVIN dcIN pmIN cdIN ctIN:Ac} {fNB:Ae} {odNB anNB:Option Ae} {slNB:Array (Option Ac)} {ocNB kVNB dcNB pmNB cdNB ctNB:Ac} {fIW:Ae} {odIW anIW:Option Ae} {slIW:Array (Option Ac)} {ocIW kVIW dcIW pmIW cdIW ctIW:Ac} {fRI:Ae} {odRI anRI:Option Ae} {slRI:Array (Option Ac)} {ocRI kVRI dcRI pmRI cdRI ctRI:Ac} {fFD:Ae} {odFD anFD:Option Ae} {slFD:Array (Option Ac)} {ocFD kVFD dcFD pmFD cdFD ctFD:Ac} {fPT:Ae} {odPT anPT:Option Ae} {slPT:Array (Option Ac)} {ocPT kVPT dcPT pmPT cdPT ctPT:Ac} {fAP:Ae} {odAP anAP:Option Ae} {slAP:Array (Option Ac)} {ocAP kVAP dcAP pmAP cdAP ctAP:Ac} {fAN:Ae} {odAN anAN:Option Ae} {slAN:Array (Option Ac)} {ocAN kVAN dcAN pmAN cdAN ctAN:Ac} {fRP:Ae} {odRP anRP:Option Ae} {slRP:Array (Option Ac)} {ocRP kVRP dcRP pmRP cdRP ctRP:Ac} {fRL:Ae} {odRL anRL:Option Ae} {slRL:Array (Option Ac)} {ocRL kVRL dcRL pmRL cdRL ctRL:Ac} {fIC:Ae} {odIC anIC:Option Ae} {slIC:Array (Option Ac)} {ocIC kVIC dcIC pmIC cdIC ctIC:Ac} {fF0:Ae} {odF0 anF0:Option Ae} {slF0:Array (Option Ac)} {ocF0 kVF0 dcF0 pmF0 cdF0 ctF0:Ac} {fF1:Ae} {odF1 anF1:Option Ae} {slF1:Array (Option Ac)} {ocF1 kVF1 dcF1 pmF1 cdF1 ctF1:Ac} {fF2:Ae} {odF2 anF2:Option Ae} {slF2:Array (Option Ac)} {ocF2 kVF2 dcF2 pmF2 cdF2 ctF2:Ac} {fF3:Ae} {odF3 anF3:Option Ae} {slF3:Array (Option Ac)} {ocF3 kVF3 dcF3 pmF3 cdF3 ctF3:Ac} {fF4:Ae} {odF4 anF4:Option Ae} {slF4:Array (Option Ac)} {ocF4 kVF4 dcF4 pmF4 cdF4 ctF4:Ac} {fF5:Ae} {odF5 anF5:Option Ae} {slF5:Array (Option Ac)} {ocF5 kVF5 dcF5 pmF5 cdF5 ctF5:Ac} {fF6:Ae} {odF6 anF6:Option Ae} {slF6:Array (Option Ac)} {ocF6 kVF6 dcF6 pmF6 cdF6 ctF6:Ac} {fF7:Ae} {odF7 anF7:Option Ae} {slF7:Array (Option Ac)} {ocF7 kVF7 dcF7 pmF7 cdF7 ctF7:Ac} {fIR:Ae} {odIR anIR:Option Ae} {slIR:Array (Option Ac)} {ocIR kVIR dcIR pmIR cdIR ctIR:Ac} {fFO:Ae} {odFO anFO:Option Ae} {slFO:Array (Option Ac)} {ocFO kVFO dcFO pmFO cdFO ctFO:Ac} {fOr:Ae} {odOr anOr:Option Ae} {slOr:Array (Option Ac)} {ocOr kVOr dcOr pmOr cdOr ctOr:Ac} {fAH:Ae} {odAH anAH:Option Ae} {slAH:Array (Option Ac)} {ocAH kVAH dcAH pmAH cdAH ctAH:Ac} {fNO:Ae} {odNO anNO:Option Ae} {slNO:Array (Option Ac)} {ocNO kVNO dcNO pmNO cdNO ctNO:Ac} {fWN:Ae} {odWN anWN:Option Ae} {slWN:Array (Option Ac)} {ocWN kVWN dcWN pmWN cdWN ctWN:Ac} {fPO:Ae} {odPO anPO:Option Ae} {slPO:Array (Option Ac)} {ocPO kVPO dcPO pmPO cdPO ctPO:Ac} {fJO:Ae} {odJO anJO:Option Ae} {slJO:Array (Option Ac)} {ocJO kVJO dcJO pmJO cdJO ctJO:Ac} {fRIn:Ae} {odRIn anRIn:Option Ae} {slRIn:Array (Option Ac)} {ocRIn kVRIn dcRIn pmRIn cdRIn ctRIn:Ac} {fFIn:Ae} {odFIn anFIn:Option Ae} {slFIn:Array (Option Ac)} {ocFIn kVFIn dcFIn pmFIn cdFIn ctFIn:Ac} {fBE:Ae} {odBE anBE:Option Ae} {slBE:Array (Option Ac)} {ocBE kVBE dcBE pmBE cdBE ctBE:Ac} {fTL:Ae} {odTL anTL:Option Ae} {slTL:Array (Option Ac)} {ocTL kVTL dcTL pmTL cdTL ctTL:Ac} {fRD:Ae} {odRD anRD:Option Ae} {slRD:Array (Option Ac)} {ocRD kVRD dcRD pmRD cdRD ctRD:Ac} {fRW:Ae} {odRW anRW:Option Ae} {slRW:Array (Option Ac)} {ocRW kVRW dcRW pmRW cdRW ctRW:Ac} {fRT:Ae} {odRT anRT:Option Ae} {slRT:Array (Option Ac)} {ocRT kVRT dcRT pmRT cdRT ctRT:Ac} {fFTx:Ae} {odFTx anFTx:Option Ae} {slFTx:Array (Option Ac)} {ocFTx kVFTx dcFTx pmFTx cdFTx ctFTx:Ac} {fRoT:Ae} {odRoT anRoT:Option Ae} {slRoT:Array (Option Ac)} {ocRoT kVRoT dcRoT pmRoT cdRoT ctRoT:Ac} {fP:Ae} {odP anP:Option Ae} {slP:Array (Option Ac)} {ocP kVP dcP pmP cdP ctP:Ac} {fT:Ae} {odT anT:Option Ae} {slT:Array (Option Ac)} {ocT kVT dcT pmT cdT ctT:Ac} {fN:Ae} {odN anN:Option Ae} {slN:Array (Option Ac)} {ocN kVN dcN pmN cdN ctN:Ac} {fSo:Ae} {odSo anSo:Option Ae} {slSo:Array (Option Ac)} {ocSo kVSo dcSo pmSo cdSo ctSo:Ac} {fD:Ae} {odD anD:Option Ae} {slD:Array (Option Ac)} {ocD kVD dcD pmD cdD ctD:Ac} {fNu:Ae} {odNu anNu:Option Ae} {slNu:Array (Option Ac)} {ocNu kVNu dcNu pmNu cdNu ctNu:Ac} {fLO:Ae} {odLO anLO:Option Ae} {slLO:Array (Option Ac)} {ocLO kVLO dcLO pmLO cdLO ctLO:Ac} {fSm:Ae} {odSm anSm:Option Ae} {slSm:Array (Option Ac)} {ocSm kVSm dcSm pmSm cdSm ctSm:Ac} {fRo:Ae} {odRo anRo:Option Ae} {slRo:Array (Option Ac)} {ocRo kVRo dcRo pmRo cdRo ctRo:Ac} {fR:Ae} {odR anR:Option Ae} {slR:Array (Option Ac)} {ocR kVR dcR pmR cdR ctR:Ac} {fK:Ae} {odK anK:Option Ae} {slK:Array (Option Ac)} {ocK kVK dcK pmK cdK ctK:Ac} {fLRT:Ae} {odLRT anLRT:Option Ae} {slLRT:Array (Option Ac)} {ocLRT kVLRT dcLRT pmLRT cdLRT ctLRT:Ac} {fLRoT:Ae} {odLRoT anLRoT:Option Ae} {slLRoT:Array (Option Ac)} {ocLRoT kVLRoT dcLRoT pmLRoT cdLRoT ctLRoT:Ac} {fLR:Ae} {odLR anLR:Option Ae} {slLR:Array (Option Ac)} {ocLR kVLR dcLR pmLR cdLR ctLR:Ac} {fL:Ae} {odL anL:Option Ae} {slL:Array (Option Ac)} {ocL kVL dcL pmL cdL ctL:Ac}
  {t_MOST_FIELDS:Tok}
  {t_MOST_FIELD_ACRES:Tok}
  {t_LONGEST:Tok}
  {t_LAST_DAY:Tok}
  {t_FEWEST_LANDS:Tok}
  {t_MOST_LANDS:Tok}
  {t_MOST_PART_ACRES:Tok}
  {t_MOST_INCHES:Tok}
  {t_MOST_PENCE:Tok}
  {t_MOST_SPADES:Tok}
  {t_MOST_ROWS:Tok}
  {t_MOST_FIGURES:Tok}
  {t_NUMBERS:Ae} {eN:Nat} {xn0 xn1 xn2 xn3 xn4 xn5:Tok} {n0 n1 n2 n3 n4 n5:Ae} {en0 en1 en2 en3 en4 en5:Nat} {y10 y40 y41 y42 y50:Tok}
  {t_FORMS:Ae} {eF:Nat} {xk0 xk1 xk2 xk3 xk4 xk5 xk6 xk7:Tok}
  {t_RANKS:Ae} {eR:Nat} {xr0 xr1 xr2 xr3 xr4 xr5 xr6 xr7 yr0 yr1 yr2 yr3 yr4 yr5 yr6 yr7:Tok}
  (aIN:PySem.W.nsIn K mainGlobals "is_name"=some (some (.ref fIN))) (lIN:K.lookup fIN=some ⟨ocIN,odIN,.func (Ar "is_name" "is_name" (bI j6) (bH j6) (aO j6) .none kVIN dcIN pmIN anIN cdIN ctIN),slIN⟩) (cIN:Ap K cdIN "is_name"=true) (kIN:Aj K (.ref fIN)=true)
  (aNB:PySem.W.nsIn K mainGlobals "is_number"=some (some (.ref fNB))) (lNB:K.lookup fNB=some ⟨ocNB,odNB,.func (Ar "is_number" "is_number" (bI iJ) (bH iJ) (aO iJ) .none kVNB dcNB pmNB anNB cdNB ctNB),slNB⟩) (cNB:Ap K cdNB "is_number"=true) (kNB:Aj K (.ref fNB)=true)
  (aIW:PySem.W.nsIn K mainGlobals "is_whole"=some (some (.ref fIW))) (lIW:K.lookup fIW=some ⟨ocIW,odIW,.func (Ar "is_whole" "is_whole" (bI jK) (bH jK) (aO jK) .none kVIW dcIW pmIW anIW cdIW ctIW),slIW⟩) (cIW:Ap K cdIW "is_whole"=true) (kIW:Aj K (.ref fIW)=true)
  (aRI:PySem.W.nsIn K mainGlobals "is_rising"=some (some (.ref fRI))) (lRI:K.lookup fRI=some ⟨ocRI,odRI,.func (Ar "is_rising" "is_rising" (bI j7) (bH j7) (aO j7) .none kVRI dcRI pmRI anRI cdRI ctRI),slRI⟩) (cRI:Ap K cdRI "is_rising"=true) (kRI:Aj K (.ref fRI)=true)
  (aFD:PySem.W.nsIn K mainGlobals "is_field"=some (some (.ref fFD))) (lFD:K.lookup fFD=some ⟨ocFD,odFD,.func (Ar "is_field" "is_field" (bI jL) (bH jL) (aO jL) .none kVFD dcFD pmFD anFD cdFD ctFD),slFD⟩) (cFD:Ap K cdFD "is_field"=true) (kFD:Aj K (.ref fFD)=true)
  (aPT:PySem.W.nsIn K mainGlobals "is_part"=some (some (.ref fPT))) (lPT:K.lookup fPT=some ⟨ocPT,odPT,.func (Ar "is_part" "is_part" (bI lQ) (bH lQ) (aO lQ) .none kVPT dcPT pmPT anPT cdPT ctPT),slPT⟩) (cPT:Ap K cdPT "is_part"=true) (kPT:Aj K (.ref fPT)=true)
  (aAP:PySem.W.nsIn K mainGlobals "all_parts"=some (some (.ref fAP))) (lAP:K.lookup fAP=some ⟨ocAP,odAP,.func (Ar "all_parts" "all_parts" (bI gN) (bH gN) (aO gN) .none kVAP dcAP pmAP anAP cdAP ctAP),slAP⟩) (cAP:Ap K cdAP "all_parts"=true) (kAP:Aj K (.ref fAP)=true)
  (aAN:PySem.W.nsIn K mainGlobals "all_names"=some (some (.ref fAN))) (lAN:K.lookup fAN=some ⟨ocAN,odAN,.func (Ar "all_names" "all_names" (bI gO) (bH gO) (aO gO) .none kVAN dcAN pmAN anAN cdAN ctAN),slAN⟩) (cAN:Ap K cdAN "all_names"=true) (kAN:Aj K (.ref fAN)=true)
  (aRP:PySem.W.nsIn K mainGlobals "are_parts"=some (some (.ref fRP))) (lRP:K.lookup fRP=some ⟨ocRP,odRP,.func (Ar "are_parts" "are_parts" (bI gP) (bH gP) (aO gP) .none kVRP dcRP pmRP anRP cdRP ctRP),slRP⟩) (cRP:Ap K cdRP "are_parts"=true) (kRP:Aj K (.ref fRP)=true)
  (aRL:PySem.W.nsIn K mainGlobals "are_lands"=some (some (.ref fRL))) (lRL:K.lookup fRL=some ⟨ocRL,odRL,.func (Ar "are_lands" "are_lands" (bI iK) (bH iK) (aO iK) .none kVRL dcRL pmRL anRL cdRL ctRL),slRL⟩) (cRL:Ap K cdRL "are_lands"=true) (kRL:Aj K (.ref fRL)=true)
  (aIC:PySem.W.nsIn K mainGlobals "is_inch"=some (some (.ref fIC))) (lIC:K.lookup fIC=some ⟨ocIC,odIC,.func (Ar "is_inch" "is_inch" (bI lS) (bH lS) (aO lS) .none kVIC dcIC pmIC anIC cdIC ctIC),slIC⟩) (cIC:Ap K cdIC "is_inch"=true) (kIC:Aj K (.ref fIC)=true)
  (aF0:PySem.W.nsIn K mainGlobals "fits_part"=some (some (.ref fF0))) (lF0:K.lookup fF0=some ⟨ocF0,odF0,.func (Ar "fits_part" "fits_part" (bI oU) (bH oU) (aO oU) .none kVF0 dcF0 pmF0 anF0 cdF0 ctF0),slF0⟩) (cF0:Ap K cdF0 "fits_part"=true) (kF0:Aj K (.ref fF0)=true)
  (aF1:PySem.W.nsIn K mainGlobals "fits_join"=some (some (.ref fF1))) (lF1:K.lookup fF1=some ⟨ocF1,odF1,.func (Ar "fits_join" "fits_join" (bI oV) (bH oV) (aO oV) .none kVF1 dcF1 pmF1 anF1 cdF1 ctF1),slF1⟩) (cF1:Ap K cdF1 "fits_join"=true) (kF1:Aj K (.ref fF1)=true)
  (aF2:PySem.W.nsIn K mainGlobals "fits_forfeit"=some (some (.ref fF2))) (lF2:K.lookup fF2=some ⟨ocF2,odF2,.func (Ar "fits_forfeit" "fits_forfeit" (bI iL) (bH iL) (aO iL) .none kVF2 dcF2 pmF2 anF2 cdF2 ctF2),slF2⟩) (cF2:Ap K cdF2 "fits_forfeit"=true) (kF2:Aj K (.ref fF2)=true)
  (aF3:PySem.W.nsIn K mainGlobals "fits_measure"=some (some (.ref fF3))) (lF3:K.lookup fF3=some ⟨ocF3,odF3,.func (Ar "fits_measure" "fits_measure" (bI iM) (bH iM) (aO iM) .none kVF3 dcF3 pmF3 anF3 cdF3 ctF3),slF3⟩) (cF3:Ap K cdF3 "fits_measure"=true) (kF3:Aj K (.ref fF3)=true)
  (aF4:PySem.W.nsIn K mainGlobals "fits_mend"=some (some (.ref fF4))) (lF4:K.lookup fF4=some ⟨ocF4,odF4,.func (Ar "fits_mend" "fits_mend" (bI oW) (bH oW) (aO oW) .none kVF4 dcF4 pmF4 anF4 cdF4 ctF4),slF4⟩) (cF4:Ap K cdF4 "fits_mend"=true) (kF4:Aj K (.ref fF4)=true)
  (aF5:PySem.W.nsIn K mainGlobals "fits_alone"=some (some (.ref fF5))) (lF5:K.lookup fF5=some ⟨ocF5,odF5,.func (Ar "fits_alone" "fits_alone" (bI lU) (bH lU) (aO lU) .none kVF5 dcF5 pmF5 anF5 cdF5 ctF5),slF5⟩) (cF5:Ap K cdF5 "fits_alone"=true) (kF5:Aj K (.ref fF5)=true)
  (aF6:PySem.W.nsIn K mainGlobals "fits_breach"=some (some (.ref fF6))) (lF6:K.lookup fF6=some ⟨ocF6,odF6,.func (Ar "fits_breach" "fits_breach" (bI jM) (bH jM) (aO jM) .none kVF6 dcF6 pmF6 anF6 cdF6 ctF6),slF6⟩) (cF6:Ap K cdF6 "fits_breach"=true) (kF6:Aj K (.ref fF6)=true)
  (aF7:PySem.W.nsIn K mainGlobals "fits_view"=some (some (.ref fF7))) (lF7:K.lookup fF7=some ⟨ocF7,odF7,.func (Ar "fits_view" "fits_view" (bI oX) (bH oX) (aO oX) .none kVF7 dcF7 pmF7 anF7 cdF7 ctF7),slF7⟩) (cF7:Ap K cdF7 "fits_view"=true) (kF7:Aj K (.ref fF7)=true)
  (aIR:PySem.W.nsIn K mainGlobals "is_row"=some (some (.ref fIR))) (lIR:K.lookup fIR=some ⟨ocIR,odIR,.func (Ar "is_row" "is_row" (bI oY) (bH oY) (aO oY) .none kVIR dcIR pmIR anIR cdIR ctIR),slIR⟩) (cIR:Ap K cdIR "is_row"=true) (kIR:Aj K (.ref fIR)=true)
  (aFO:PySem.W.nsIn K mainGlobals "field_of"=some (some (.ref fFO))) (lFO:K.lookup fFO=some ⟨ocFO,odFO,.func (Ar "field_of" "field_of" (bI jN) (bH jN) (aO jN) .none kVFO dcFO pmFO anFO cdFO ctFO),slFO⟩) (cFO:Ap K cdFO "field_of"=true) (kFO:Aj K (.ref fFO)=true)
  (aOr:PySem.W.nsIn K mainGlobals "order"=some (some (.ref fOr))) (lOr:K.lookup fOr=some ⟨ocOr,odOr,.func (Ar "order" "order" (bI oZ) (bH oZ) (aO oZ) .none kVOr dcOr pmOr anOr cdOr ctOr),slOr⟩) (cOr:Ap K cdOr "order"=true) (kOr:Aj K (.ref fOr)=true)
  (aAH:PySem.W.nsIn K mainGlobals "goes_ahead"=some (some (.ref fAH))) (lAH:K.lookup fAH=some ⟨ocAH,odAH,.func (Ar "goes_ahead" "goes_ahead" (bI o0) (bH o0) (aO o0) .none kVAH dcAH pmAH anAH cdAH ctAH),slAH⟩) (cAH:Ap K cdAH "goes_ahead"=true) (kAH:Aj K (.ref fAH)=true)
  (aNO:PySem.W.nsIn K mainGlobals "number_of"=some (some (.ref fNO))) (lNO:K.lookup fNO=some ⟨ocNO,odNO,.func (Ar "number_of" "number_of" (bI gQ) (bH gQ) (aO gQ) .none kVNO dcNO pmNO anNO cdNO ctNO),slNO⟩) (cNO:Ap K cdNO "number_of"=true) (kNO:Aj K (.ref fNO)=true)
  (aWN:PySem.W.nsIn K mainGlobals "with_numbers"=some (some (.ref fWN))) (lWN:K.lookup fWN=some ⟨ocWN,odWN,.func (Ar "with_numbers" "with_numbers" (bI mX) (bH mX) (aO mX) .none kVWN dcWN pmWN anWN cdWN ctWN),slWN⟩) (cWN:Ap K cdWN "with_numbers"=true) (kWN:Aj K (.ref fWN)=true)
  (aPO:PySem.W.nsIn K mainGlobals "part_of"=some (some (.ref fPO))) (lPO:K.lookup fPO=some ⟨ocPO,odPO,.func (Ar "part_of" "part_of" (bI j8) (bH j8) (aO j8) .none kVPO dcPO pmPO anPO cdPO ctPO),slPO⟩) (cPO:Ap K cdPO "part_of"=true) (kPO:Aj K (.ref fPO)=true)
  (aJO:PySem.W.nsIn K mainGlobals "join_of"=some (some (.ref fJO))) (lJO:K.lookup fJO=some ⟨ocJO,odJO,.func (Ar "join_of" "join_of" (bI lV) (bH lV) (aO lV) .none kVJO dcJO pmJO anJO cdJO ctJO),slJO⟩) (cJO:Ap K cdJO "join_of"=true) (kJO:Aj K (.ref fJO)=true)
  (aRIn:PySem.W.nsIn K mainGlobals "row_in"=some (some (.ref fRIn))) (lRIn:K.lookup fRIn=some ⟨ocRIn,odRIn,.func (Ar "row_in" "row_in" (bI o8) (bH o8) (aO o8) .none kVRIn dcRIn pmRIn anRIn cdRIn ctRIn),slRIn⟩) (cRIn:Ap K cdRIn "row_in"=true) (kRIn:Aj K (.ref fRIn)=true)
  (aFIn:PySem.W.nsIn K mainGlobals "field_in"=some (some (.ref fFIn))) (lFIn:K.lookup fFIn=some ⟨ocFIn,odFIn,.func (Ar "field_in" "field_in" (bI jO) (bH jO) (aO jO) .none kVFIn dcFIn pmFIn anFIn cdFIn ctFIn),slFIn⟩) (cFIn:Ap K cdFIn "field_in"=true) (kFIn:Aj K (.ref fFIn)=true)
  (aBE:PySem.W.nsIn K mainGlobals "goes_behind"=some (some (.ref fBE))) (lBE:K.lookup fBE=some ⟨ocBE,odBE,.func (Ar "goes_behind" "goes_behind" (bI iX) (bH iX) (aO iX) .none kVBE dcBE pmBE anBE cdBE ctBE),slBE⟩) (cBE:Ap K cdBE "goes_behind"=true) (kBE:Aj K (.ref fBE)=true)
  (aTL:PySem.W.nsIn K mainGlobals "take_line"=some (some (.ref fTL))) (lTL:K.lookup fTL=some ⟨ocTL,odTL,.func (Ar "take_line" "take_line" (bI gR) (bH gR) (aO gR) .none kVTL dcTL pmTL anTL cdTL ctTL),slTL⟩) (cTL:Ap K cdTL "take_line"=true) (kTL:Aj K (.ref fTL)=true)
  (aRD:PySem.W.nsIn K mainGlobals "read_roll"=some (some (.ref fRD))) (lRD:K.lookup fRD=some ⟨ocRD,odRD,.func (Ar "read_roll" "read_roll" (bI uN) (bH uN) (aO uN) .none kVRD dcRD pmRD anRD cdRD ctRD),slRD⟩) (cRD:Ap K cdRD "read_roll"=true) (kRD:Aj K (.ref fRD)=true)
  (aRW:PySem.W.nsIn K mainGlobals "row_words"=some (some (.ref fRW))) (lRW:K.lookup fRW=some ⟨ocRW,odRW,.func (Ar "row_words" "row_words" (bI gL) (bH gL) (aO gL) .none kVRW dcRW pmRW anRW cdRW ctRW),slRW⟩) (cRW:Ap K cdRW "row_words"=true) (kRW:Aj K (.ref fRW)=true)
  (aRT:PySem.W.nsIn K mainGlobals "row_text"=some (some (.ref fRT))) (lRT:K.lookup fRT=some ⟨ocRT,odRT,.func (Ar "row_text" "row_text" (bI jJ) (bH jJ) (aO jJ) .none kVRT dcRT pmRT anRT cdRT ctRT),slRT⟩) (cRT:Ap K cdRT "row_text"=true) (kRT:Aj K (.ref fRT)=true)
  (aFTx:PySem.W.nsIn K mainGlobals "field_text"=some (some (.ref fFTx))) (lFTx:K.lookup fFTx=some ⟨ocFTx,odFTx,.func (Ar "field_text" "field_text" (bI gM) (bH gM) (aO gM) .none kVFTx dcFTx pmFTx anFTx cdFTx ctFTx),slFTx⟩) (cFTx:Ap K cdFTx "field_text"=true) (kFTx:Aj K (.ref fFTx)=true)
  (aRoT:PySem.W.nsIn K mainGlobals "roll_text"=some (some (.ref fRoT))) (lRoT:K.lookup fRoT=some ⟨ocRoT,odRoT,.func (Ar "roll_text" "roll_text" (bI fS) (bH fS) (aO fS) .none kVRoT dcRoT pmRoT anRoT cdRoT ctRoT),slRoT⟩) (cRoT:Ap K cdRoT "roll_text"=true) (kRoT:Aj K (.ref fRoT)=true)
  (aP:PySem.W.nsIn K mainGlobals "_law_pen"=some (some (.ref fP))) (lP:K.lookup fP=some ⟨ocP,odP,.func (Ar "_law_pen" "_law_pen" (bI aB4) (bH aB4) (aO aB4) .none kVP dcP pmP anP cdP ctP),slP⟩) (cP:Ap K cdP "_law_pen"=true) (kP:Aj K (.ref fP)=true)
  (aT:PySem.W.nsIn K mainGlobals "_law_take"=some (some (.ref fT))) (lT:K.lookup fT=some ⟨ocT,odT,.func (Ar "_law_take" "_law_take" (bI sJ) (bH sJ) (aO sJ) .none kVT dcT pmT anT cdT ctT),slT⟩) (cT:Ap K cdT "_law_take"=true) (kT:Aj K (.ref fT)=true)
  (aN:PySem.W.nsIn K mainGlobals "_law_names"=some (some (.ref fN))) (lN:K.lookup fN=some ⟨ocN,odN,.func (Ar "_law_names" "_law_names" (bI mY) (bH mY) (aO mY) .none kVN dcN pmN anN cdN ctN),slN⟩) (cN:Ap K cdN "_law_names"=true) (kN:Aj K (.ref fN)=true)
  (aSo:PySem.W.nsIn K mainGlobals "_law_sorts"=some (some (.ref fSo))) (lSo:K.lookup fSo=some ⟨ocSo,odSo,.func (Ar "_law_sorts" "_law_sorts" (bI pA) (bH pA) (aO pA) .none kVSo dcSo pmSo anSo cdSo ctSo),slSo⟩) (cSo:Ap K cdSo "_law_sorts"=true) (kSo:Aj K (.ref fSo)=true)
  (aD:PySem.W.nsIn K mainGlobals "_law_days"=some (some (.ref fD))) (lD:K.lookup fD=some ⟨ocD,odD,.func (Ar "_law_days" "_law_days" (bI sK) (bH sK) (aO sK) .none kVD dcD pmD anD cdD ctD),slD⟩) (cD:Ap K cdD "_law_days"=true) (kD:Aj K (.ref fD)=true)
  (aNu:PySem.W.nsIn K mainGlobals "_law_number"=some (some (.ref fNu))) (lNu:K.lookup fNu=some ⟨ocNu,odNu,.func (Ar "_law_number" "_law_number" (bI lW) (bH lW) (aO lW) .none kVNu dcNu pmNu anNu cdNu ctNu),slNu⟩) (cNu:Ap K cdNu "_law_number"=true) (kNu:Aj K (.ref fNu)=true)
  (aLO:PySem.W.nsIn K mainGlobals "_law_laying"=some (some (.ref fLO))) (lLO:K.lookup fLO=some ⟨ocLO,odLO,.func (Ar "_law_laying" "_law_laying" (bI pB) (bH pB) (aO pB) .none kVLO dcLO pmLO anLO cdLO ctLO),slLO⟩) (cLO:Ap K cdLO "_law_laying"=true) (kLO:Aj K (.ref fLO)=true)
  (aSm:PySem.W.nsIn K mainGlobals "_law_some"=some (some (.ref fSm))) (lSm:K.lookup fSm=some ⟨ocSm,odSm,.func (Ar "_law_some" "_law_some" (bI sP) (bH sP) (aO sP) .none kVSm dcSm pmSm anSm cdSm ctSm),slSm⟩) (cSm:Ap K cdSm "_law_some"=true) (kSm:Aj K (.ref fSm)=true)
  (aRo:PySem.W.nsIn K mainGlobals "_law_row_of"=some (some (.ref fRo))) (lRo:K.lookup fRo=some ⟨ocRo,odRo,.func (Ar "_law_row_of" "_law_row_of" (bI mZ) (bH mZ) (aO mZ) .none kVRo dcRo pmRo anRo cdRo ctRo),slRo⟩) (cRo:Ap K cdRo "_law_row_of"=true) (kRo:Aj K (.ref fRo)=true)
  (aR:PySem.W.nsIn K mainGlobals "_law_row"=some (some (.ref fR))) (lR:K.lookup fR=some ⟨ocR,odR,.func (Ar "_law_row" "_law_row" (bI aB5) (bH aB5) (aO aB5) .none kVR dcR pmR anR cdR ctR),slR⟩) (cR:Ap K cdR "_law_row"=true) (kR:Aj K (.ref fR)=true)
  (aK:PySem.W.nsIn K mainGlobals "_law_place"=some (some (.ref fK))) (lK:K.lookup fK=some ⟨ocK,odK,.func (Ar "_law_place" "_law_place" (bI pC) (bH pC) (aO pC) .none kVK dcK pmK anK cdK ctK),slK⟩) (cK:Ap K cdK "_law_place"=true) (kK:Aj K (.ref fK)=true)
  (aLRT:PySem.W.nsIn K mainGlobals "_law_row_text"=some (some (.ref fLRT))) (lLRT:K.lookup fLRT=some ⟨ocLRT,odLRT,.func (Ar "_law_row_text" "_law_row_text" (bI gS) (bH gS) (aO gS) .none kVLRT dcLRT pmLRT anLRT cdLRT ctLRT),slLRT⟩) (cLRT:Ap K cdLRT "_law_row_text"=true) (kLRT:Aj K (.ref fLRT)=true)
  (aLRoT:PySem.W.nsIn K mainGlobals "_law_roll_text"=some (some (.ref fLRoT))) (lLRoT:K.lookup fLRoT=some ⟨ocLRoT,odLRoT,.func (Ar "_law_roll_text" "_law_roll_text" (bI fA) (bH fA) (aO fA) .none kVLRoT dcLRoT pmLRoT anLRoT cdLRoT ctLRoT),slLRoT⟩) (cLRoT:Ap K cdLRoT "_law_roll_text"=true) (kLRoT:Aj K (.ref fLRoT)=true)
  (aLR:PySem.W.nsIn K mainGlobals "_law_roll"=some (some (.ref fLR))) (lLR:K.lookup fLR=some ⟨ocLR,odLR,.func (Ar "_law_roll" "_law_roll" (bI m3) (bH m3) (aO m3) .none kVLR dcLR pmLR anLR cdLR ctLR),slLR⟩) (cLR:Ap K cdLR "_law_roll"=true) (kLR:Aj K (.ref fLR)=true)
  (aL:PySem.W.nsIn K mainGlobals "law"=some (some (.ref fL))) (lL:K.lookup fL=some ⟨ocL,odL,.func (Ar "law" "law" (bI tY) (bH tY) (aO tY) .none kVL dcL pmL anL cdL ctL),slL⟩) (cL:Ap K cdL "law"=true) (kL:Aj K (.ref fL)=true)
  (z_isinstance:PySem.W.nsIn K mainGlobals "isinstance"=some none)
  (z_str:PySem.W.nsIn K mainGlobals "str"=some none)
  (z_len:PySem.W.nsIn K mainGlobals "len"=some none)
  (z_all:PySem.W.nsIn K mainGlobals "all"=some none)
  (z_int:PySem.W.nsIn K mainGlobals "int"=some none)
  (z_bool:PySem.W.nsIn K mainGlobals "bool"=some none)
  (z_tuple:PySem.W.nsIn K mainGlobals "tuple"=some none)
  (z_set:PySem.W.nsIn K mainGlobals "set"=some none)
  (z_list:PySem.W.nsIn K mainGlobals "list"=some none)
  (z_sorted:PySem.W.nsIn K mainGlobals "sorted"=some none)
  (z_abs:PySem.W.nsIn K mainGlobals "abs"=some none)
  (z_range:PySem.W.nsIn K mainGlobals "range"=some none)
  (z_min:PySem.W.nsIn K mainGlobals "min"=some none)
  (z_repr:PySem.W.nsIn K mainGlobals "repr"=some none)
  (z_enumerate:PySem.W.nsIn K mainGlobals "enumerate"=some none)
  (q_MOST_FIELDS:PySem.W.nsIn K mainGlobals "MOST_FIELDS"=some (some (.int 8 t_MOST_FIELDS)))
  (q_MOST_FIELD_ACRES:PySem.W.nsIn K mainGlobals "MOST_FIELD_ACRES"=some (some (.int 1000000 t_MOST_FIELD_ACRES)))
  (q_LONGEST:PySem.W.nsIn K mainGlobals "LONGEST"=some (some (.int 8 t_LONGEST)))
  (q_LAST_DAY:PySem.W.nsIn K mainGlobals "LAST_DAY"=some (some (.int 9999 t_LAST_DAY)))
  (q_FEWEST_LANDS:PySem.W.nsIn K mainGlobals "FEWEST_LANDS"=some (some (.int 2 t_FEWEST_LANDS)))
  (q_MOST_LANDS:PySem.W.nsIn K mainGlobals "MOST_LANDS"=some (some (.int 6 t_MOST_LANDS)))
  (q_MOST_PART_ACRES:PySem.W.nsIn K mainGlobals "MOST_PART_ACRES"=some (some (.int 10000000 t_MOST_PART_ACRES)))
  (q_MOST_INCHES:PySem.W.nsIn K mainGlobals "MOST_INCHES"=some (some (.int 10000000 t_MOST_INCHES)))
  (q_MOST_PENCE:PySem.W.nsIn K mainGlobals "MOST_PENCE"=some (some (.int 1000000000 t_MOST_PENCE)))
  (q_MOST_SPADES:PySem.W.nsIn K mainGlobals "MOST_SPADES"=some (some (.int 1000000 t_MOST_SPADES)))
  (q_MOST_ROWS:PySem.W.nsIn K mainGlobals "MOST_ROWS"=some (some (.int 40 t_MOST_ROWS)))
  (q_MOST_FIGURES:PySem.W.nsIn K mainGlobals "MOST_FIGURES"=some (some (.int 60 t_MOST_FIGURES)))
  (q_NUMBERS:PySem.W.nsIn K mainGlobals "NUMBERS"=some (some (.ref t_NUMBERS)))
  (lNm:K.lookup t_NUMBERS=some { cls:=.type "dict",data:=.dict #[⟨Av w.params "forfeit",.str "forfeit" xn0,.ref n0⟩,⟨Av w.params "measure",.str "measure" xn1,.ref n1⟩,⟨Av w.params "mend",.str "mend" xn2,.ref n2⟩,⟨Av w.params "alone",.str "alone" xn3,.ref n3⟩,⟨Av w.params "breach",.str "breach" xn4,.ref n4⟩,⟨Av w.params "view",.str "view" xn5,.ref n5⟩] eN }) (hzN:(t_NUMBERS == sysModules)=false) (lN0:K.lookup n0=some { cls:=.type "tuple",data:=.seq #[] en0 }) (lN1:K.lookup n1=some { cls:=.type "tuple",data:=.seq #[.int 4 y10] en1 }) (lN2:K.lookup n2=some { cls:=.type "tuple",data:=.seq #[] en2 }) (lN3:K.lookup n3=some { cls:=.type "tuple",data:=.seq #[] en3 }) (lN4:K.lookup n4=some { cls:=.type "tuple",data:=.seq #[.int 4 y40,.int 5 y41,.int 6 y42] en4 }) (lN5:K.lookup n5=some { cls:=.type "tuple",data:=.seq #[.int 4 y50] en5 })
  (q_FORMS:PySem.W.nsIn K mainGlobals "FORMS"=some (some (.ref t_FORMS)))
  (lFm:K.lookup t_FORMS=some { cls:=.type "dict",data:=.dict #[⟨Av w.params "part",.str "part" xk0,.ref fF0⟩,⟨Av w.params "join",.str "join" xk1,.ref fF1⟩,⟨Av w.params "forfeit",.str "forfeit" xk2,.ref fF2⟩,⟨Av w.params "measure",.str "measure" xk3,.ref fF3⟩,⟨Av w.params "mend",.str "mend" xk4,.ref fF4⟩,⟨Av w.params "alone",.str "alone" xk5,.ref fF5⟩,⟨Av w.params "breach",.str "breach" xk6,.ref fF6⟩,⟨Av w.params "view",.str "view" xk7,.ref fF7⟩] eF }) (hzF:(t_FORMS == sysModules)=false)
  (q_RANKS:PySem.W.nsIn K mainGlobals "RANKS"=some (some (.ref t_RANKS)))
  (lRk:K.lookup t_RANKS=some { cls:=.type "dict",data:=.dict #[⟨Av w.params "measure",.str "measure" xr0,.int 0 yr0⟩,⟨Av w.params "part",.str "part" xr1,.int 1 yr1⟩,⟨Av w.params "join",.str "join" xr2,.int 1 yr2⟩,⟨Av w.params "forfeit",.str "forfeit" xr3,.int 1 yr3⟩,⟨Av w.params "mend",.str "mend" xr4,.int 2 yr4⟩,⟨Av w.params "alone",.str "alone" xr5,.int 2 yr5⟩,⟨Av w.params "breach",.str "breach" xr6,.int 3 yr6⟩,⟨Av w.params "view",.str "view" xr7,.int 3 yr7⟩] eR })
  :∃ fd:AD,(∀(s:Ad) (v:Ac),Ez s fd ⟨[v],[]⟩ [("_law_script",v)])∧∀ base:A8,K.In base→base.Ns mainGlobals mg→cH l.prog w K mg base CX0 11 fa fd ["_law_script"] (aBx K):=by
 have e:=hfa.symm.trans (PySem.W.mg_of X G aL);cases e;have FIN:=bX (st:=j6) lIN cIN kIN;have mIN:=PySem.W.mg_of X G aIN;have bIN:=FIN.binds (ps:=["thing"]) fun _ _ _ _ _ _ us hl=>by obtain⟨_,rfl⟩:=e7 hl;rfl
 have FNB:=bX (st:=iJ) lNB cNB kNB;have mNB:=PySem.W.mg_of X G aNB;have bNB:=FNB.binds (ps:=["thing"]) fun _ _ _ _ _ _ us hl=>by obtain⟨_,rfl⟩:=e7 hl;rfl
 have FIW:=bX (st:=jK) lIW cIW kIW;have mIW:=PySem.W.mg_of X G aIW;have bIW:=FIW.binds (ps:=["thing","least","most"]) fun _ _ _ _ _ _ us hl=>by obtain⟨_,_,_,rfl⟩:=y8 hl;rfl
 have FRI:=bX (st:=j7) lRI cRI kRI;have mRI:=PySem.W.mg_of X G aRI;have bRI:=FRI.binds (ps:=["things"]) fun _ _ _ _ _ _ us hl=>by obtain⟨_,rfl⟩:=e7 hl;rfl
 have FFD:=bX (st:=jL) lFD cFD kFD;have mFD:=PySem.W.mg_of X G aFD;have bFD:=FFD.binds (ps:=["thing"]) fun _ _ _ _ _ _ us hl=>by obtain⟨_,rfl⟩:=e7 hl;rfl
 have FPT:=bX (st:=lQ) lPT cPT kPT;have mPT:=PySem.W.mg_of X G aPT;have bPT:=FPT.binds (ps:=["thing"]) fun _ _ _ _ _ _ us hl=>by obtain⟨_,rfl⟩:=e7 hl;rfl
 have FAP:=bX (st:=gN) lAP cAP kAP;have mAP:=PySem.W.mg_of X G aAP;have bAP:=FAP.binds (ps:=["thing"]) fun _ _ _ _ _ _ us hl=>by obtain⟨_,rfl⟩:=e7 hl;rfl
 have FAN:=bX (st:=gO) lAN cAN kAN;have mAN:=PySem.W.mg_of X G aAN;have bAN:=FAN.binds (ps:=["thing"]) fun _ _ _ _ _ _ us hl=>by obtain⟨_,rfl⟩:=e7 hl;rfl
 have FRP:=bX (st:=gP) lRP cRP kRP;have mRP:=PySem.W.mg_of X G aRP;have bRP:=FRP.binds (ps:=["thing"]) fun _ _ _ _ _ _ us hl=>by obtain⟨_,rfl⟩:=e7 hl;rfl
 have FRL:=bX (st:=iK) lRL cRL kRL;have mRL:=PySem.W.mg_of X G aRL;have bRL:=FRL.binds (ps:=["thing"]) fun _ _ _ _ _ _ us hl=>by obtain⟨_,rfl⟩:=e7 hl;rfl
 have FIC:=bX (st:=lS) lIC cIC kIC;have mIC:=PySem.W.mg_of X G aIC;have bIC:=FIC.binds (ps:=["thing"]) fun _ _ _ _ _ _ us hl=>by obtain⟨_,rfl⟩:=e7 hl;rfl
 have FF0:=bX (st:=oU) lF0 cF0 kF0;have mF0:=PySem.W.mg_of X G aF0;have bF0:=FF0.binds (ps:=["rest"]) fun _ _ _ _ _ _ us hl=>by obtain⟨_,rfl⟩:=e7 hl;rfl
 have FF1:=bX (st:=oV) lF1 cF1 kF1;have mF1:=PySem.W.mg_of X G aF1;have bF1:=FF1.binds (ps:=["rest"]) fun _ _ _ _ _ _ us hl=>by obtain⟨_,rfl⟩:=e7 hl;rfl
 have FF2:=bX (st:=iL) lF2 cF2 kF2;have mF2:=PySem.W.mg_of X G aF2;have bF2:=FF2.binds (ps:=["rest"]) fun _ _ _ _ _ _ us hl=>by obtain⟨_,rfl⟩:=e7 hl;rfl
 have FF3:=bX (st:=iM) lF3 cF3 kF3;have mF3:=PySem.W.mg_of X G aF3;have bF3:=FF3.binds (ps:=["rest"]) fun _ _ _ _ _ _ us hl=>by obtain⟨_,rfl⟩:=e7 hl;rfl
 have FF4:=bX (st:=oW) lF4 cF4 kF4;have mF4:=PySem.W.mg_of X G aF4;have bF4:=FF4.binds (ps:=["rest"]) fun _ _ _ _ _ _ us hl=>by obtain⟨_,rfl⟩:=e7 hl;rfl
 have FF5:=bX (st:=lU) lF5 cF5 kF5;have mF5:=PySem.W.mg_of X G aF5;have bF5:=FF5.binds (ps:=["rest"]) fun _ _ _ _ _ _ us hl=>by obtain⟨_,rfl⟩:=e7 hl;rfl
 have FF6:=bX (st:=jM) lF6 cF6 kF6;have mF6:=PySem.W.mg_of X G aF6;have bF6:=FF6.binds (ps:=["rest"]) fun _ _ _ _ _ _ us hl=>by obtain⟨_,rfl⟩:=e7 hl;rfl
 have FF7:=bX (st:=oX) lF7 cF7 kF7;have mF7:=PySem.W.mg_of X G aF7;have bF7:=FF7.binds (ps:=["rest"]) fun _ _ _ _ _ _ us hl=>by obtain⟨_,rfl⟩:=e7 hl;rfl
 have FIR:=bX (st:=oY) lIR cIR kIR;have mIR:=PySem.W.mg_of X G aIR;have bIR:=FIR.binds (ps:=["thing"]) fun _ _ _ _ _ _ us hl=>by obtain⟨_,rfl⟩:=e7 hl;rfl
 have FFO:=bX (st:=jN) lFO cFO kFO;have mFO:=PySem.W.mg_of X G aFO;have bFO:=FFO.binds (ps:=["row"]) fun _ _ _ _ _ _ us hl=>by obtain⟨_,rfl⟩:=e7 hl;rfl
 have FOr:=bX (st:=oZ) lOr cOr kOr;have mOr:=PySem.W.mg_of X G aOr;have bOr:=FOr.binds (ps:=["row"]) fun _ _ _ _ _ _ us hl=>by obtain⟨_,rfl⟩:=e7 hl;rfl
 have FAH:=bX (st:=o0) lAH cAH kAH;have mAH:=PySem.W.mg_of X G aAH;have bAH:=FAH.binds (ps:=["row","other"]) fun _ _ _ _ _ _ us hl=>by obtain⟨_,_,rfl⟩:=aCs hl;rfl
 have FNO:=bX (st:=gQ) lNO cNO kNO;have mNO:=PySem.W.mg_of X G aNO;have bNO:=FNO.binds (ps:=["word"]) fun _ _ _ _ _ _ us hl=>by obtain⟨_,rfl⟩:=e7 hl;rfl
 have FWN:=bX (st:=mX) lWN cWN kWN;have mWN:=PySem.W.mg_of X G aWN;have bWN:=FWN.binds (ps:=["words","places"]) fun _ _ _ _ _ _ us hl=>by obtain⟨_,_,rfl⟩:=aCs hl;rfl
 have FPO:=bX (st:=j8) lPO cPO kPO;have mPO:=PySem.W.mg_of X G aPO;have bPO:=FPO.binds (ps:=["words"]) fun _ _ _ _ _ _ us hl=>by obtain⟨_,rfl⟩:=e7 hl;rfl
 have FJO:=bX (st:=lV) lJO cJO kJO;have mJO:=PySem.W.mg_of X G aJO;have bJO:=FJO.binds (ps:=["words"]) fun _ _ _ _ _ _ us hl=>by obtain⟨_,rfl⟩:=e7 hl;rfl
 have FRIn:=bX (st:=o8) lRIn cRIn kRIn;have mRIn:=PySem.W.mg_of X G aRIn;have bRIn:=FRIn.binds (ps:=["line"]) fun _ _ _ _ _ _ us hl=>by obtain⟨_,rfl⟩:=e7 hl;rfl
 have FFIn:=bX (st:=jO) lFIn cFIn kFIn;have mFIn:=PySem.W.mg_of X G aFIn;have bFIn:=FFIn.binds (ps:=["line"]) fun _ _ _ _ _ _ us hl=>by obtain⟨_,rfl⟩:=e7 hl;rfl
 have FBE:=bX (st:=iX) lBE cBE kBE;have mBE:=PySem.W.mg_of X G aBE;have bBE:=FBE.binds (ps:=["row","laying","rows"]) fun _ _ _ _ _ _ us hl=>by obtain⟨_,_,_,rfl⟩:=y8 hl;rfl
 have FTL:=bX (st:=gR) lTL cTL kTL;have mTL:=PySem.W.mg_of X G aTL;have bTL:=FTL.binds (ps:=["line","laying","rows"]) fun _ _ _ _ _ _ us hl=>by obtain⟨_,_,_,rfl⟩:=y8 hl;rfl
 have FRD:=bX (st:=uN) lRD cRD kRD;have mRD:=PySem.W.mg_of X G aRD;have bRD:=FRD.binds (ps:=["text"]) fun _ _ _ _ _ _ us hl=>by obtain⟨_,rfl⟩:=e7 hl;rfl
 have FRW:=bX (st:=gL) lRW cRW kRW;have mRW:=PySem.W.mg_of X G aRW;have bRW:=FRW.binds (ps:=["row"]) fun _ _ _ _ _ _ us hl=>by obtain⟨_,rfl⟩:=e7 hl;rfl
 have FRT:=bX (st:=jJ) lRT cRT kRT;have mRT:=PySem.W.mg_of X G aRT;have bRT:=FRT.binds (ps:=["row"]) fun _ _ _ _ _ _ us hl=>by obtain⟨_,rfl⟩:=e7 hl;rfl
 have FFTx:=bX (st:=gM) lFTx cFTx kFTx;have mFTx:=PySem.W.mg_of X G aFTx;have bFTx:=FFTx.binds (ps:=["place"]) fun _ _ _ _ _ _ us hl=>by obtain⟨_,rfl⟩:=e7 hl;rfl
 have FRoT:=bX (st:=fS) lRoT cRoT kRoT;have mRoT:=PySem.W.mg_of X G aRoT;have bRoT:=FRoT.binds (ps:=["roll"]) fun _ _ _ _ _ _ us hl=>by obtain⟨_,rfl⟩:=e7 hl;rfl
 have FP:=bX (st:=aB4) lP cP kP;have mP:=PySem.W.mg_of X G aP;have bP:=FP.binds (ps:=["_law_script"]) fun _ _ _ _ _ _ us hl=>by obtain⟨_,rfl⟩:=e7 hl;rfl
 have FT:=bX (st:=sJ) lT cT kT;have mT:=PySem.W.mg_of X G aT;have bT:=FT.binds (ps:=["_law_pen_here","_law_many"]) fun _ _ _ _ _ _ us hl=>by obtain⟨_,_,rfl⟩:=aCs hl;rfl
 have FN:=bX (st:=mY) lN cN kN;have mN:=PySem.W.mg_of X G aN;have bN:=FN.binds (ps:=["_law_pen_here","_law_many"]) fun _ _ _ _ _ _ us hl=>by obtain⟨_,_,rfl⟩:=aCs hl;rfl
 have FSo:=bX (st:=pA) lSo cSo kSo;have mSo:=PySem.W.mg_of X G aSo;have bSo:=FSo.binds (ps:=["_law_pen_here","_law_fields","_law_rows"]) fun _ _ _ _ _ _ us hl=>by obtain⟨_,_,_,rfl⟩:=y8 hl;rfl
 have FD:=bX (st:=sK) lD cD kD;have mD:=PySem.W.mg_of X G aD;have bD:=FD.binds (ps:=["_law_pen_here","_law_many"]) fun _ _ _ _ _ _ us hl=>by obtain⟨_,_,rfl⟩:=aCs hl;rfl
 have FNu:=bX (st:=lW) lNu cNu kNu;have mNu:=PySem.W.mg_of X G aNu;have bNu:=FNu.binds (ps:=["_law_pen_here","_law_bottom","_law_most"]) fun _ _ _ _ _ _ us hl=>by obtain⟨_,_,_,rfl⟩:=y8 hl;rfl
 have FLO:=bX (st:=pB) lLO cLO kLO;have mLO:=PySem.W.mg_of X G aLO;have bLO:=FLO.binds (ps:=["_law_pen_here","_law_fields","_law_houses"]) fun _ _ _ _ _ _ us hl=>by obtain⟨_,_,_,rfl⟩:=y8 hl;rfl
 have FSm:=bX (st:=sP) lSm cSm kSm;have mSm:=PySem.W.mg_of X G aSm;have bSm:=FSm.binds (ps:=["_law_pen_here","_law_names_here","_law_many"]) fun _ _ _ _ _ _ us hl=>by obtain⟨_,_,_,rfl⟩:=y8 hl;rfl
 have FRo:=bX (st:=mZ) lRo cRo kRo;have mRo:=PySem.W.mg_of X G aRo;have bRo:=FRo.binds (ps:=["_law_pen_here","_law_word","_law_name","_law_day","_law_sorts_here"]) fun _ _ _ _ _ _ us hl=>by obtain⟨_,_,_,_,_,rfl⟩:=aH0 hl;rfl
 have FR:=bX (st:=aB5) lR cR kR;have mR:=PySem.W.mg_of X G aR;have bR:=FR.binds (ps:=["_law_pen_here","_law_name","_law_day","_law_sorts_here"]) fun _ _ _ _ _ _ us hl=>by obtain⟨_,_,_,_,rfl⟩:=aHZ hl;rfl
 have FK:=bX (st:=pC) lK cK kK;have mK:=PySem.W.mg_of X G aK;have bK:=FK.binds (ps:=["_law_row_here"]) fun _ _ _ _ _ _ us hl=>by obtain⟨_,rfl⟩:=e7 hl;rfl
 have FLRT:=bX (st:=gS) lLRT cLRT kLRT;have mLRT:=PySem.W.mg_of X G aLRT;have bLRT:=FLRT.binds (ps:=["_law_row_here"]) fun _ _ _ _ _ _ us hl=>by obtain⟨_,rfl⟩:=e7 hl;rfl
 have FLRoT:=bX (st:=fA) lLRoT cLRoT kLRoT;have mLRoT:=PySem.W.mg_of X G aLRoT;have bLRoT:=FLRoT.binds (ps:=["_law_roll_here"]) fun _ _ _ _ _ _ us hl=>by obtain⟨_,rfl⟩:=e7 hl;rfl
 have FLR:=bX (st:=m3) lLR cLR kLR;have mLR:=PySem.W.mg_of X G aLR;have bLR:=FLR.binds (ps:=["_law_pen_here"]) fun _ _ _ _ _ _ us hl=>by obtain⟨_,rfl⟩:=e7 hl;rfl
 have FL:=bX (st:=tY) lL cL kL;have mL:=PySem.W.mg_of X G aL;have bL:=FL.binds (ps:=["_law_script"]) fun _ _ _ _ _ _ us hl=>by obtain⟨_,rfl⟩:=e7 hl;rfl
 have n_isinstance:=PySem.W.mg_none_of X G z_isinstance;have n_str:=PySem.W.mg_none_of X G z_str;have n_len:=PySem.W.mg_none_of X G z_len;have n_all:=PySem.W.mg_none_of X G z_all;have n_int:=PySem.W.mg_none_of X G z_int;have n_bool:=PySem.W.mg_none_of X G z_bool;have n_tuple:=PySem.W.mg_none_of X G z_tuple;have n_set:=PySem.W.mg_none_of X G z_set;have n_list:=PySem.W.mg_none_of X G z_list;have n_sorted:=PySem.W.mg_none_of X G z_sorted;have n_abs:=PySem.W.mg_none_of X G z_abs;have n_range:=PySem.W.mg_none_of X G z_range;have n_min:=PySem.W.mg_none_of X G z_min;have n_repr:=PySem.W.mg_none_of X G z_repr;have n_enumerate:=PySem.W.mg_none_of X G z_enumerate;have g_MOST_FIELDS:=PySem.W.mg_of X G q_MOST_FIELDS;have g_MOST_FIELD_ACRES:=PySem.W.mg_of X G q_MOST_FIELD_ACRES;have g_LONGEST:=PySem.W.mg_of X G q_LONGEST;have g_LAST_DAY:=PySem.W.mg_of X G q_LAST_DAY;have g_FEWEST_LANDS:=PySem.W.mg_of X G q_FEWEST_LANDS;have g_MOST_LANDS:=PySem.W.mg_of X G q_MOST_LANDS;have g_MOST_PART_ACRES:=PySem.W.mg_of X G q_MOST_PART_ACRES;have g_MOST_INCHES:=PySem.W.mg_of X G q_MOST_INCHES;have g_MOST_PENCE:=PySem.W.mg_of X G q_MOST_PENCE;have g_MOST_SPADES:=PySem.W.mg_of X G q_MOST_SPADES;have g_MOST_ROWS:=PySem.W.mg_of X G q_MOST_ROWS;have g_MOST_FIGURES:=PySem.W.mg_of X G q_MOST_FIGURES;have g_NUMBERS:=PySem.W.mg_of X G q_NUMBERS;have g_FORMS:=PySem.W.mg_of X G q_FORMS;have g_RANKS:=PySem.W.mg_of X G q_RANKS;refine⟨Ar "law" "law" (bI tY) (bH tY) (aO tY) .none kVL dcL pmL anL cdL ctL,fun s v=>.of_eq rfl,fun base _ _=>?_⟩
 have T:Txt K mg:=⟨n_isinstance,n_str,n_len,n_all,n_int,n_bool,n_tuple,n_set,⟨_,g_MOST_FIELDS⟩,⟨_,g_MOST_FIELD_ACRES⟩,⟨_,g_LONGEST⟩,⟨_,g_LAST_DAY⟩,⟨_,g_FEWEST_LANDS⟩,⟨_,g_MOST_LANDS⟩,⟨_,g_MOST_PART_ACRES⟩,⟨_,g_MOST_INCHES⟩,⟨_,g_MOST_PENCE⟩,⟨_,g_MOST_SPADES⟩⟩
 have RK:qB w K t_RANKS:=⟨_,_,_,_,_,_,_,_,_,_,_,_,_,_,_,_,_,lRk⟩
 have GT:=aE0 (P:=l.prog) (w:=w) (base:=base) FT n_len n_abs;have GIN:=aE7 (aCb (P:=l.prog) (w:=w) (base:=base) FIN T) aCc;have GNB:=aE8 (P:=l.prog) (w:=w) (base:=base) FNB T;have GIW:=z8 FIW ⟨_,_,GNB,mNB,kNB,bNB⟩;have GRI:=aCk (P:=l.prog) (w:=w) (base:=base) FRI T n_list n_sorted;have GFD:=aEb FFD T ⟨_,_,GIN,mIN,kIN,bIN⟩ ⟨_,_,GIW,mIW,kIW,bIW⟩;have GPT:=aE9 FPT T ⟨_,_,GIN,mIN,kIN,bIN⟩ ⟨_,_,GIW,mIW,kIW,bIW⟩;have GIC:=aFa FIC T ⟨_,_,GIW,mIW,kIW,bIW⟩;have GAP:=aFc FAP T ⟨_,_,GPT,mPT,kPT,bPT⟩;have GAN:=aFb FAN T ⟨_,_,GIN,mIN,kIN,bIN⟩;have GRP:=aFg FRP T ⟨_,_,GAP,mAP,kAP,bAP⟩ ⟨_,_,GRI,mRI,kRI,bRI⟩;have GRL:=aFf FRL T ⟨_,_,GAN,mAN,kAN,bAN⟩ ⟨_,_,GRI,mRI,kRI,bRI⟩;have GF0:=aDY FF0 T ⟨_,_,GIN,mIN,kIN,bIN⟩ ⟨_,_,GRP,mRP,kRP,bRP⟩;have GF1:=aDZ FF1 T ⟨_,_,GIN,mIN,kIN,bIN⟩ ⟨_,_,GRL,mRL,kRL,bRL⟩;have GF2:=yB FF2 T ⟨_,_,GAN,mAN,kAN,bAN⟩;have GF3:=x9 FF3 T ⟨_,_,GIN,mIN,kIN,bIN⟩ ⟨_,_,GIW,mIW,kIW,bIW⟩;have GF4:=aDT FF4 T ⟨_,_,GAN,mAN,kAN,bAN⟩;have GF5:=aCf FF5 T ⟨_,_,GIN,mIN,kIN,bIN⟩;have GF6:=aAc FF6 T ⟨_,_,GIN,mIN,kIN,bIN⟩ ⟨_,_,GIW,mIW,kIW,bIW⟩ ⟨_,_,GIC,mIC,kIC,bIC⟩;have GF7:=aDR FF7 T ⟨_,_,GIN,mIN,kIN,bIN⟩ ⟨_,_,GIC,mIC,kIC,bIC⟩;have GIR:=aD0 FIR T (aFl lFm) (aG3 fF0 fF1 fF2 fF3 fF4 fF5 fF6 fF7) hzF g_FORMS (aHU fF0 fF1 fF2 fF3 fF4 fF5 fF6 fF7) (aHV GF0 kF0 bF0 GF1 kF1 bF1 GF2 kF2 bF2 GF3 kF3 bF3 GF4 kF4 bF4 GF5 kF5 bF5 GF6 kF6 bF6 GF7 kF7 bF7) ⟨_,_,GIN,mIN,kIN,bIN⟩ ⟨_,_,GIW,mIW,kIW,bIW⟩;have GFO:=aAg (P:=l.prog) (w:=w) (mg:=mg) (base:=base) FFO;have GOr:=aEe (P:=l.prog) (base:=base) FOr RK g_RANKS
 have GAH:=aEt FAH ⟨_,_,GOr,mOr,kOr,bOr⟩;have GNO:=aEn (P:=l.prog) (w:=w) (base:=base) FNO T ⟨_,g_MOST_FIGURES⟩;have GWN:=aEo FWN n_tuple n_enumerate ⟨_,_,GNO,mNO,kNO,bNO⟩;have GPO:=aCm FPO n_tuple n_len n_range ⟨_,_,GWN,mWN,kWN,bWN⟩;have GJO:=aCn FJO n_tuple n_len ⟨_,_,GWN,mWN,kWN,bWN⟩;have GRIn:=aEs FRIn (aFx lNm) (aG9 n0 n1 n2 n3 n4 n5) hzN g_NUMBERS (aHY lN0 lN1 lN2 lN3 lN4 lN5) ⟨_,_,GPO,mPO,kPO,bPO⟩ ⟨_,_,GIR,mIR,kIR,bIR⟩ ⟨_,_,GJO,mJO,kJO,bJO⟩ ⟨_,_,GWN,mWN,kWN,bWN⟩;have GFIn:=aAp FFIn ⟨_,_,GWN,mWN,kWN,bWN⟩ ⟨_,_,GFD,mFD,kFD,bFD⟩;have GBE:=aCo FBE n_len ⟨_,g_MOST_ROWS⟩ ⟨_,_,GFO,mFO,kFO,bFO⟩ ⟨_,_,GAH,mAH,kAH,bAH⟩;have GTL:=yV FTL n_len ⟨_,g_MOST_FIELDS⟩ ⟨_,_,GRIn,mRIn,kRIn,bRIn⟩ ⟨_,_,GFIn,mFIn,kFIn,bFIn⟩ ⟨_,_,GBE,mBE,kBE,bBE⟩;have GRD:=aFv FRD T n_enumerate ⟨_,_,GTL,mTL,kTL,bTL⟩;have GRW:=yK (P:=l.prog) (w:=w) (base:=base) FRW n_str n_list;have GRT:=aAm FRT ⟨_,_,GRW,mRW,kRW,bRW⟩;have GFTx:=wE (P:=l.prog) (w:=w) (mg:=mg) (base:=base) FFTx;have GRoT:=yM FRoT ⟨_,_,GFTx,mFTx,kFTx,bFTx⟩ ⟨_,_,GRT,mRT,kRT,bRT⟩;have GN:=aDL FN n_len n_range n_min ⟨_,_,GT,mT,kT,bT⟩;have GSo:=aD6 FSo ⟨_,_,GT,mT,kT,bT⟩ ⟨_,_,GN,mN,kN,bN⟩;have GNu:=aG2 FNu n_min ⟨_,_,GT,mT,kT,bT⟩;have GD:=aFk FD n_range n_len n_int ⟨_,_,GT,mT,kT,bT⟩;have GLO:=aEg FLO n_len n_tuple ⟨_,_,GT,mT,kT,bT⟩ ⟨_,_,GNu,mNu,kNu,bNu⟩;have GSm:=aFj FSm n_list n_range n_sorted n_len ⟨_,_,GT,mT,kT,bT⟩;have GRo:=aEa FRo n_len n_tuple ⟨_,_,GT,mT,kT,bT⟩ ⟨_,_,GNu,mNu,kNu,bNu⟩ ⟨_,_,GSm,mSm,kSm,bSm⟩;have GR:=aG5 FR ⟨_,_,GT,mT,kT,bT⟩ ⟨_,_,GRo,mRo,kRo,bRo⟩
 have GK:=aEd (P:=l.prog) (w:=w) (mg:=mg) (base:=base) FK;have GLRT:=yN (P:=l.prog) (w:=w) (base:=base) FLRT n_str n_list;have GLRoT:=wF FLRoT n_str ⟨_,_,GLRT,mLRT,kLRT,bLRT⟩;have GLR:=aEA FLR n_range n_tuple n_sorted GSo mSo kSo bSo GD mD kD bD GT mT kT bT GR mR kR bR GLO mLO kLO bLO GK mK kK bK;exact aG8 FL T n_range n_repr ⟨_,_,(aGT FP n_list),mP,kP,bP⟩ ⟨_,_,GLR,mLR,kLR,bLR⟩ ⟨_,_,GLRoT,mLRoT,kLRoT,bLRoT⟩ ⟨_,_,GRoT,mRoT,kRoT,bRoT⟩ ⟨_,_,GRD,mRD,kRD,bRD⟩
theorem walk{l:PySem.W.OpenLaw}{q:Ay}{loose:List Str}{XP:(Str→Option Ac)→A8→Prop}{YP:AQ→A8→Prop}{d:DefRec}{K:Params→Ag}(hn:l.most=some 63)(hdf:d.params.defaults=[])
  (hY:∀(w:AQ) (h:A8),YP w h→(K w.params).In h)
  (F:∀(w:AQ) (mg:Str→Option Ac) (fa:Ae) (h:A8),(K w.params).In h→h.Ns mainGlobals mg→mg d.name=some (.ref fa)→
   ∃ fd:AD,(∀(s:Ad) (u:Ac),Ez s fd ⟨[u],[]⟩ [("_law_script",u)])∧∀ base:A8,(K w.params).In base→base.Ns mainGlobals mg→cH l.prog w (K w.params) mg base CX0 11 fa fd ["_law_script"] (aBx (K w.params))):
  PySem.W.WalkO q loose XP YP l.row.toRowW d [] (fun f vs=>PySem.call f vs):=
 L2.walk_of (n:=63) (k:=11) (x:="_law_script") (CX:=fun _=>CX0) (sp:=fun w=>aBx (K w.params)) hn (by decide) hdf ⟨rfl,by decide,by decide,rfl⟩ hY F (fun _ _ a ns hl _ hS=>⟨a,ns,rfl,hS,hl,fun _=>rfl⟩) fun _ _ _ _ _ z=>z
end K70
end
namespace PySem.W.Fast
def tw7422654556044992058:=0
def tw831197196377075640:=0
def tw1595797664158455585:=0
def tw6813736189452484163:=0
def tw15625141107200492430:=0
def tw12398339553260032488:=0
def tw4265259741360666956:=0
def tw7648720934644213944:=0
def tw9791363810472442125:=0
def tw9736380163553416866:=0
def tw12200167107330558098:=0
def tw2069160666714752080:=0
def tw15024870473201884512:=0
def tw359775973459722445:=0
def tw570622670874352279:=0
def tw13154873524797232702:=0
def tw6329169233464167977:=0
def tw3775469668866525267:=0
def tw9864060358229462745:=0
def tw11013214485390171120:=0
def tw8827545824776466007:=0
def tw7090297398834987082:=0
def tw13959428212076835248:=0
def tw8181754652223463:=0
def tw5909854165918042543:=0
def tw11261997879512561184:=0
def tw14460357180646354624:=0
def tw7453062783672949950:=0
def tw18261896832378988979:=0
def tw5946749890067586547:=0
def tw4351418007614737233:=0
def tw8919597880082866043:=0
def tw10684697301174402714:=0
def tw4343765839911949762:=0
def tw402251086905183354:=0
def tw6508493799906590798:=0
def tw15396869291731516623:=0
def tw7759937996985218103:=0
def tw13095853347069793998:=0
def tw3016567065522579044:=0
def tw7785856285473555784:=0
def tw16021745568531302436:=0
def tw6741317116347873749:=0
def tw13859470924804542542:=0
def tw4599733828629329251:=0
def tw10351762808524748417:=0
def tw5122059383270290440:=0
def tw9977794679356230499:=0
def tw13523800227679269666:=0
def tw9375457957171966411:=0
def tw9229691578778625704:=0
def tw9330199264398506893:=0
def tw4139107280033897523:=0
def tw5084740334341480280:=0
def tw18251347289666900218:=0
def tw5980508789471969131:=0
def tw13500661480267120649:=0
def tw12454559168174891700:=0
def tw3638169895949126562:=0
def tw7842908248805655590:=0
def tw7913023746270448192:=0
def tw2833277068461473888:=0
def tw13517248740400330062:=0
def tw16450937694403640173:=0
def tw15859832192118220737:=0
def tw16237395767906472641:=0
def tw7095439382608139262:=0
def tw3247058213932170950:=0
def tw121290809621699519:=0
def tw16153329645434285801:=0
def tw17426600743913109816:=0
def tw6441305211963253689:=0
def tw17466865808572269058:=0
def tw11795226380058525826:=0
def tw11374915914911288441:=0
def tw1538067840591344045:=0
def tw13025289048285016846:=0
def tw5765500513520695160:=0
def tw12777665933242481689:=0
def tw8220952523162713479:=0
def tw8168415776573882036:=0
def tw15437814813197735503:=0
def tw13607091656352419269:=0
def tw9509893173394980372:=0
def tw3275743553113913371:=0
def tw17209333616865081021:=0
def tw488252190113312884:=0
def tw15224728165577414387:=0
def tw15906319393334460123:=0
def tw5543412483997658383:=0
def tw9149000189961766646:=0
def tw15684090735957073903:=0
def tw10516218169391539667:=0
def tw12039823904731582990:=0
def tw4006288199906162318:=0
def tw6580220353427958784:=0
def tw4262089124445174139:=0
def tw3437694818630743831:=0
def tw6557885701693307768:=0
def tw5542562767665878865:=0
def tw18326344872159664358:=0
def tw6666313126262092360:=0
def tw14617023529162003542:=0
def tw5530813615850590890:=0
def tw3361043342685897291:=0
def tw15114533621974352983:=0
def tw2490591680580037801:=0
def tw8666026906243135169:=0
def tw6047181228247250600:=0
def tw1604666269216856820:=0
def tw18341175348493918817:=0
def tw14627724104420478564:=0
def tw14041346664442954642:=0
def tw15893935992200333889:=0
def tw18196185642760575587:=0
def tw7906925194770231328:=0
def tw1418678206572725454:=0
def tw7848470598159362443:=0
def tw9162720782341467219:=0
def tw17840117446340189533:=0
def tw18170728842345544916:=0
def tw12355911366490531112:=0
def tw16611747370581121109:=0
def tw10676007681573093312:=0
def tw3792659242798522628:=0
def tw14925194311573377557:=0
def tw15569224126792969992:=0
def tw6569065282051947498:=0
def tw12985885517847538119:=0
def tw16396844283444363538:=0
def tw11398381544488135456:=0
def tw12282719215105715009:=0
def tw8960599943527218579:=0
def tw7932151379311109772:=0
def tw11877936962583092873:=0
def tw6075855629870033650:=0
def tw1376354761055423920:=0
def tw12655412280845871935:=0
def tw9150338537531515041:=0
def tw14724568713364143010:=0
def tw4911175810560085904:=0
def tw3618198449927882453:=0
def tw13612911371623300340:=0
def tw18212881550265174175:=0
def tw15469320775204571855:=0
def tw2955602193888626843:=0
def tw4335934796488253749:=0
def tw683541476243689172:=0
def tw11602404111362839558:=0
def tw16238031234511147744:=0
def tw9336774951628060018:=0
def tw1540916431560055930:=0
def tw9505384282001762456:=0
def tw16846310128975249144:=0
def tw9195884666606443724:=0
def tw9086649763833394686:=0
def tw3423360156072193370:=0
def tw14379689120135476822:=0
def tw12280228562035467165:=0
def tw14912199444925990402:=0
def tw8149862616091757462:=0
def tw3621270197870537648:=0
def tw14205932184401689177:=0
def tw18223632616396830720:=0
def tw3845483479715428729:=0
def tw15185939322706847035:=0
def tw14815860580938257413:=0
def tw12243158172350794853:=0
def tw9936581972811559533:=0
def tw12785512669963696841:=0
def tw50428219502320724:=0
def tw12676033958784640110:=0
def tw4356758661439931022:=0
def tw3366859175741833621:=0
def tw10879230529328786488:=0
def tw9629895628965261820:=0
def tw15005156987253841591:=0
def tw11744260370106769977:=0
def tw811619147179099395:=0
def tw1111659996329419297:=0
def tw434739505983470030:=0
def tw7628480958937247036:=0
def tw1475037216749629378:=0
def tw9236419677320318926:=0
def tw15889745133289530737:=0
def tw17464086576206001159:=0
def tw9009185118910285040:=0
def tw46965188800704700:=0
def tw13758054711827938264:=0
def tw5503115449257234321:=0
def tw4088136118696917237:=0
def tw13643372683555663531:=0
def tw3736372762369257057:=0
def tw6727250206188345851:=0
def tw16232623268621265048:=0
def tw6442142998251462102:=0
def tw4486171642715892693:=0
def tw17471840941377279551:=0
def tw17126892979884501420:=0
def tw12544585439936362432:=0
def tw11112729801009432386:=0
def tw2336081910542741603:=0
def tw9701281285621975410:=0
def tw6509543760511191887:=0
def tw5021845672006060939:=0
def tw14623848879204461324:=0
def tw13999992536606184714:=0
def tw13855343862506393353:=0
def tw2183349830698326510:=0
def tw4885681626105256492:=0
def tw5649588465228655326:=0
def tw8212107010739448017:=0
def tw6864462784665746042:=0
def tw16035368713788307647:=0
def tw6737404490215387990:=0
def tw7243599503014501949:=0
def tw13000607254782173632:=0
def tw13601596785982999941:=0
def tw16746204332073103677:=0
def tw10595076131273716617:=0
def tw12080388423650254976:=0
def tw13827055757562485981:=0
def tw16630869952564245641:=0
def tw4262564068932540947:=0
def tw6827596442221373504:=0
def tw9967920385448710302:=0
def tw2196020947784970025:=0
def tw16520517232656752683:=0
def tw14223124582473666597:=0
def tw6758070832100909487:=0
def tw16649846117902430163:=0
def tw8964057112589940318:=0
def tw3479967128373178842:=0
def tw12857523831285978053:=0
def tw17073910905282686523:=0
def tw13851406486881466825:=0
def tw5182266327725148225:=0
def tw3842163253493169075:=0
def tw2307796209810781671:=0
def tw9271539577239989675:=0
def tw1426347344078103065:=0
def tw1733819388290289054:=0
def tw15292141797839494980:=0
def tw2358761968500132316:=0
def tw8941838809265039380:=0
def tw3790017849104670377:=0
def tw1910362442547742073:=0
def tw14539684102674974607:=0
def tw15492078276748988041:=0
def tw1743218397422648034:=0
def tw13734655910035714641:=0
def tw8673824392474669140:=0
def tw10734052653858951272:=0
def tw11856446357556744175:=0
def tw10515961101498014457:=0
def tw17857714155311692342:=0
def tw8206173444962603957:=0
def tw2891337756419871251:=0
def tw10375775498567624272:=0
def tw15585438010219135853:=0
def tw406750359814624502:=0
def tw1568070652580842570:=0
def tw14678274914412987246:=0
def tw1709289098848757021:=0
def tw3129753236024182969:=0
def tw3674492124143458484:=0
def tw13620870245126199367:=0
def tw8061629746389237076:=0
def tw10792656458492209608:=0
def tw8898696070068538032:=0
def tw9240240215120235093:=0
def tw13125349072312234177:=0
def tw9076744239381354150:=0
def tw5444415179269228256:=0
def tw4688438539466641298:=0
def tw1210845946569540137:=0
def tw13173362812408564069:=0
def tw16004164445162251742:=0
def tw8349051468621662692:=0
def tw4681277840090000730:=0
def tw3905610195142671379:=0
def tw12297935982030666847:=0
def tw5614680200644479255:=0
def tw13775188875361967893:=0
def tw1683493548745359923:=0
def tw9037297505406216693:=0
def tw10226779775713844369:=0
def tw11931882083093593659:=0
def tw10112859255700371778:=0
def tw12562787021674813366:=0
def tw4991734231182351032:=0
def tw8952228999179753699:=0
def tw12172018119569434233:=0
def tw2808579191503941255:=0
def tw4171743679772925842:=0
def tw18305534328191149987:=0
def tw6764301878744086721:=0
def tw2786235170140814688:=0
def tw1935424117887791029:=0
def tw9608756289948228763:=0
def tw5093949382422981237:=0
def tw9652125028606326931:=0
def tw2151457230925617836:=0
def tw1479804427443111962:=0
def tw14853460049948905828:=0
def tw8979350480030171533:=0
def tw6337670422694478749:=0
def tw13921646118577213921:=0
def tw15302205235283788219:=0
def tw3951408852720737619:=0
def tw6906424101944264855:=0
def tw5508431245829583904:=0
def tw6272787985553520782:=0
def tw14128689034721926176:=0
def tw5783203540978900680:=0
def tw12734980701053391049:=0
def tw8289123246096824824:=0
def tw15932552303894086679:=0
def tw1614506618654583351:=0
def tw16448598285336484501:=0
def tw3276114174340497497:=0
def tw8932201602576645937:=0
def tw11564474035989144803:=0
def tw2523822159970391229:=0
def tw9546050536126852180:=0
def tw4429569921871259735:=0
def tw9503313275194816020:=0
def tw10873228958294871798:=0
def tw9019586346906275476:=0
def tw216924696729581329:=0
def tw15545256112931775730:=0
def tw13103082836474247096:=0
def tw11400873571954600142:=0
def tw3335057738448381628:=0
def tw3031901017912865112:=0
def tw757188262127797641:=0
def tw6457512110120082538:=0
def tw6679510792696661920:=0
def tw12927679895054295798:=0
def tw7194477981536948492:=0
def tw2512282497753940058:=0
def tw10218954082342944992:=0
def tw8941828873643260569:=0
def tw2704632088011264888:=0
def tw3121009999798787185:=0
def tw13134273115674930494:=0
def tw16240410392862943173:=0
def tw7735119898362668578:=0
def tw1930667719591117638:=0
def tw2601850057444689178:=0
def tw11066387202393656320:=0
def tw7090578561792927528:=0
def tw14816611735649055798:=0
def tw4979622809887757773:=0
def tw9035741721402782487:=0
def tw29930342989771077:=0
def tw9112997583320332167:=0
def tw9578878339967912351:=0
def tw5074990691992887921:=0
def tw5375803555127859924:=0
def tw4838328543400624172:=0
def tw5513247016165013414:=0
def tw2231488519377069326:=0
def tw8129753469968539112:=0
def tw14112362278951040792:=0
def tw14124142275847803838:=0
def tw16522593888161752567:=0
def tw16118894750184008158:=0
def tw13991676683135850897:=0
def tw5021913660058113989:=0
def tw8061722907304990299:=0
def tw8903009601220034033:=0
def tw3995013211233882100:=0
def tw7408493922475222454:=0
def tw235146789133368046:=0
def tw18066259479400339971:=0
def tw1669801680735789713:=0
def tw3219027838286997359:=0
def tw12179362130300908184:=0
def tw15734241719554550781:=0
def tw17424897971262868029:=0
def tw5479948400491945536:=0
def tw11185948287466221524:=0
def tw1634307133782401728:=0
def tw17675375015770045299:=0
def tw9723057178257728078:=0
def tw7882831174955618963:=0
def tw15396751250129994806:=0
def tw12326982585885706768:=0
def tw17281172100328672016:=0
def tw12115684250321090439:=0
def tw14560008192193863845:=0
def tw15377679975960392404:=0
def tw11351631019775267148:=0
def tw15363120017181368369:=0
def tw15226891991937227826:=0
def tw934336871835104194:=0
def tw2243095247414415535:=0
def tw2977112189117935005:=0
def tw11994987882343618746:=0
def tw14443296213267513812:=0
end PySem.W.Fast
open PySem PySem.W PyProof.Rows
set_option maxRecDepth 100000 in
set_option maxHeartbeats 0 in
theorem PySem.Challenge.cw_dykelengths_k70_rolls_written_and_read_holds : PySem.Challenge.rw_dykelengths_k70_rolls_written_and_read.Holds := by
 w_on;o_law;k_head;(case hw=>w_witness2)
 k_fill
 refine K70.walk (l:=PySem.Challenge.rw_dykelengths_k70_rolls_written_and_read) rfl rfl (fun w h Y=>PySem.W.kIn_of Y) ?F
 case F=>
  intro w mg fa h KX G hmg
  refine' K70.all_mk KX G hmg ?aIN ?lIN ?cIN ?kIN ?aNB ?lNB ?cNB ?kNB ?aIW ?lIW ?cIW ?kIW ?aRI ?lRI ?cRI ?kRI ?aFD ?lFD ?cFD ?kFD ?aPT ?lPT ?cPT ?kPT ?aAP ?lAP ?cAP ?kAP ?aAN ?lAN ?cAN ?kAN ?aRP ?lRP ?cRP ?kRP ?aRL ?lRL ?cRL ?kRL ?aIC ?lIC ?cIC ?kIC ?aF0 ?lF0 ?cF0 ?kF0 ?aF1 ?lF1 ?cF1 ?kF1 ?aF2 ?lF2 ?cF2 ?kF2 ?aF3 ?lF3 ?cF3 ?kF3 ?aF4 ?lF4 ?cF4 ?kF4 ?aF5 ?lF5 ?cF5 ?kF5 ?aF6 ?lF6 ?cF6 ?kF6 ?aF7 ?lF7 ?cF7 ?kF7 ?aIR ?lIR ?cIR ?kIR ?aFO ?lFO ?cFO ?kFO ?aOr ?lOr ?cOr ?kOr ?aAH ?lAH ?cAH ?kAH ?aNO ?lNO ?cNO ?kNO ?aWN ?lWN ?cWN ?kWN ?aPO ?lPO ?cPO ?kPO ?aJO ?lJO ?cJO ?kJO ?aRIn ?lRIn ?cRIn ?kRIn ?aFIn ?lFIn ?cFIn ?kFIn ?aBE ?lBE ?cBE ?kBE ?aTL ?lTL ?cTL ?kTL ?aRD ?lRD ?cRD ?kRD ?aRW ?lRW ?cRW ?kRW ?aRT ?lRT ?cRT ?kRT ?aFTx ?lFTx ?cFTx ?kFTx ?aRoT ?lRoT ?cRoT ?kRoT ?aP ?lP ?cP ?kP ?aT ?lT ?cT ?kT ?aN ?lN ?cN ?kN ?aSo ?lSo ?cSo ?kSo ?aD ?lD ?cD ?kD ?aNu ?lNu ?cNu ?kNu ?aLO ?lLO ?cLO ?kLO ?aSm ?lSm ?cSm ?kSm ?aRo ?lRo ?cRo ?kRo ?aR ?lR ?cR ?kR ?aK ?lK ?cK ?kK ?aLRT ?lLRT ?cLRT ?kLRT ?aLRoT ?lLRoT ?cLRoT ?kLRoT ?aLR ?lLR ?cLR ?kLR ?aL ?lL ?cL ?kL ?z_isinstance ?z_str ?z_len ?z_all ?z_int ?z_bool ?z_tuple ?z_set ?z_list ?z_sorted ?z_abs ?z_range ?z_min ?z_repr ?z_enumerate ?q_MOST_FIELDS ?q_MOST_FIELD_ACRES ?q_LONGEST ?q_LAST_DAY ?q_FEWEST_LANDS ?q_MOST_LANDS ?q_MOST_PART_ACRES ?q_MOST_INCHES ?q_MOST_PENCE ?q_MOST_SPADES ?q_MOST_ROWS ?q_MOST_FIGURES ?q_NUMBERS ?lNm ?hzN ?lN0 ?lN1 ?lN2 ?lN3 ?lN4 ?lN5 ?q_FORMS ?lFm ?hzF ?q_RANKS ?lRk
  case aIN|lIN|cIN|kIN|aNB|lNB|cNB|kNB|aIW|lIW|cIW|kIW|aRI|lRI|cRI|kRI|aFD|lFD|cFD|kFD|aPT|lPT|cPT|kPT|aAP|lAP|cAP|kAP|aAN|lAN|cAN|kAN|aRP|lRP|cRP|kRP|aRL|lRL|cRL|kRL|aIC|lIC|cIC|kIC|aF0|lF0|cF0|kF0|aF1|lF1|cF1|kF1|aF2|lF2|cF2|kF2|aF3|lF3|cF3|kF3|aF4|lF4|cF4|kF4|aF5|lF5|cF5|kF5|aF6|lF6|cF6|kF6|aF7|lF7|cF7|kF7|aIR|lIR|cIR|kIR|aFO|lFO|cFO|kFO|aOr|lOr|cOr|kOr|aAH|lAH|cAH|kAH|aNO|lNO|cNO|kNO|aWN|lWN|cWN|kWN|aPO|lPO|cPO|kPO|aJO|lJO|cJO|kJO|aRIn|lRIn|cRIn|kRIn|aFIn|lFIn|cFIn|kFIn|aBE|lBE|cBE|kBE|aTL|lTL|cTL|kTL|aRD|lRD|cRD|kRD|aRW|lRW|cRW|kRW|aRT|lRT|cRT|kRT|aFTx|lFTx|cFTx|kFTx|aRoT|lRoT|cRoT|kRoT|aP|lP|cP|kP|aT|lT|cT|kT|aN|lN|cN|kN|aSo|lSo|cSo|kSo|aD|lD|cD|kD|aNu|lNu|cNu|kNu|aLO|lLO|cLO|kLO|aSm|lSm|cSm|kSm|aRo|lRo|cRo|kRo|aR|lR|cR|kR|aK|lK|cK|kK|aLRT|lLRT|cLRT|kLRT|aLRoT|lLRoT|cLRoT|kLRoT|aLR|lLR|cLR|kLR|aL|lL|cL|kL|z_isinstance|z_str|z_len|z_all|z_int|z_bool|z_tuple|z_set|z_list|z_sorted|z_abs|z_range|z_min|z_repr|z_enumerate|q_MOST_FIELDS|q_MOST_FIELD_ACRES|q_LONGEST|q_LAST_DAY|q_FEWEST_LANDS|q_MOST_LANDS|q_MOST_PART_ACRES|q_MOST_INCHES|q_MOST_PENCE|q_MOST_SPADES|q_MOST_ROWS|q_MOST_FIGURES|q_NUMBERS|lNm=>k_is
  case hzN=>first | rfl | decide
  case lN0|lN1|lN2|lN3|lN4|lN5|q_FORMS|lFm=>k_is
  case hzF=>first | rfl | decide
  case q_RANKS|lRk=>k_is
